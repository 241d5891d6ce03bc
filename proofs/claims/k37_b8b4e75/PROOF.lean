import PyProof.Rows.All
import KE.KLam
import Wide.All
import OpenK.AllK
import Wide.FinOn
import Lean
import PyProof.EqAt
import PyProof.EqKinds
import PyProof.TupleCall
import PyProof.FactsAll.set
import PyProof.FactsAll.subtypes
import KE.KTupSum
import KE.KMinBuiltin
import PyProof.Draws
import PyProof.DictWalks
import PyProof.DictCompW
import PyProof.IsiH_tuple
import PyProof.FactsAll.zip
import KE.KDictOf
import PyProof.DictValues
import KE.KSortKey
import PyProof.WalkInts
import PyProof.TupleKey
import PyProof.SetRoads
import PyProof.IsRules
import PySem.Challenge.RW_needledeck_k37_whole_just_so_often
set_option Elab.async false
set_option linter.all false
set_option maxRecDepth 100000
set_option maxHeartbeats 4000000
set_option genSizeOf false
local macro_rules|`(tactic|omega)=>`(tactic|first|lia|omega +splitDisjunctions)
theorem e0a2{A B:Prop}{G:Prop}(k:A→B→G)(h:A∧B):G:=k h.1 h.2
theorem e0a3{A B C:Prop}{G:Prop}(k:A→B→C→G)(h:A∧B∧C):G:=k h.1 h.2.1 h.2.2
theorem e0a4{A B C D:Prop}{G:Prop}(k:A→B→C→D→G)(h:A∧B∧C∧D):G:=k h.1 h.2.1 h.2.2.1 h.2.2.2
theorem e0a5{A B C D E:Prop}{G:Prop}(k:A→B→C→D→E→G)(h:A∧B∧C∧D∧E):G:=k h.1 h.2.1 h.2.2.1 h.2.2.2.1 h.2.2.2.2
theorem e0a6{A B C D E F:Prop}{G:Prop}(k:A→B→C→D→E→F→G)(h:A∧B∧C∧D∧E∧F):G:=k h.1 h.2.1 h.2.2.1 h.2.2.2.1 h.2.2.2.2.1 h.2.2.2.2.2
theorem e1a1{t0:Type}{A:t0→Prop}{G:Prop}(k:∀x,A x→G)(h:∃x,A x):G:=h.elim λx h=>k x h
theorem e1a2{t0:Type}{A B:t0→Prop}{G:Prop}(k:∀x,A x→B x→G)(h:∃x,A x∧B x):G:=h.elim λx h=>k x h.1 h.2
theorem e1a3{t0:Type}{A B C:t0→Prop}{G:Prop}(k:∀x,A x→B x→C x→G)(h:∃x,A x∧B x∧C x):G:=h.elim λx h=>k x h.1 h.2.1 h.2.2
theorem e1a4{t0:Type}{A B C D:t0→Prop}{G:Prop}(k:∀x,A x→B x→C x→D x→G)(h:∃x,A x∧B x∧C x∧D x):G:=h.elim λx h=>k x h.1 h.2.1 h.2.2.1 h.2.2.2
theorem e2a1{t0 t1:Type}{A:t0→t1→Prop}{G:Prop}(k:∀x y,A x y→G)(h:∃x y,A x y):G:=h.elim λx h=>h.elim λy h=>k x y h
theorem e2a2{t0 t1:Type}{A B:t0→t1→Prop}{G:Prop}(k:∀x y,A x y→B x y→G)(h:∃x y,A x y∧B x y):G:=h.elim λx h=>h.elim λy h=>k x y h.1 h.2
theorem e2a3{t0 t1:Type}{A B C:t0→t1→Prop}{G:Prop}(k:∀x y,A x y→B x y→C x y→G)(h:∃x y,A x y∧B x y∧C x y):G:=h.elim λx h=>h.elim λy h=>k x y h.1 h.2.1 h.2.2
theorem e2a4{t0 t1:Type}{A B C D:t0→t1→Prop}{G:Prop}(k:∀x y,A x y→B x y→C x y→D x y→G)(h:∃x y,A x y∧B x y∧C x y∧D x y):G:=h.elim λx h=>h.elim λy h=>k x y h.1 h.2.1 h.2.2.1 h.2.2.2
theorem e3a1{t0 t1 t2:Type}{A:t0→t1→t2→Prop}{G:Prop}(k:∀x y z,A x y z→G)(h:∃x y z,A x y z):G:=h.elim λx h=>h.elim λy h=>h.elim λz h=>k x y z h
theorem e3a3{t0 t1 t2:Type}{A B C:t0→t1→t2→Prop}{G:Prop}(k:∀x y z,A x y z→B x y z→C x y z→G)(h:∃x y z,A x y z∧B x y z∧C x y z):G:=h.elim λx h=>h.elim λy h=>h.elim λz h=>k x y z h.1 h.2.1 h.2.2
theorem e3a4{t0 t1 t2:Type}{A B C D:t0→t1→t2→Prop}{G:Prop}(k:∀x y z,A x y z→B x y z→C x y z→D x y z→G)(h:∃x y z,A x y z∧B x y z∧C x y z∧D x y z):G:=h.elim λx h=>h.elim λy h=>h.elim λz h=>k x y z h.1 h.2.1 h.2.2.1 h.2.2.2
theorem e3a5{t0 t1 t2:Type}{A B C D E:t0→t1→t2→Prop}{G:Prop}(k:∀x y z,A x y z→B x y z→C x y z→D x y z→E x y z→G)(h:∃x y z,A x y z∧B x y z∧C x y z∧D x y z∧E x y z):G:=h.elim λx h=>h.elim λy h=>h.elim λz h=>k x y z h.1 h.2.1 h.2.2.1 h.2.2.2.1 h.2.2.2.2
theorem e4a1{t0 t1 t2 t3:Type}{A:t0→t1→t2→t3→Prop}{G:Prop}(k:∀x y z w,A x y z w→G)(h:∃x y z w,A x y z w):G:=h.elim λx h=>h.elim λy h=>h.elim λz h=>h.elim λw h=>k x y z w h
theorem e4a2{t0 t1 t2 t3:Type}{A B:t0→t1→t2→t3→Prop}{G:Prop}(k:∀x y z w,A x y z w→B x y z w→G)(h:∃x y z w,A x y z w∧B x y z w):G:=h.elim λx h=>h.elim λy h=>h.elim λz h=>h.elim λw h=>k x y z w h.1 h.2
theorem e5a2{t0 t1 t2 t3 t4:Type}{A B:t0→t1→t2→t3→t4→Prop}{G:Prop}(k:∀x y z w u,A x y z w u→B x y z w u→G)(h:∃x y z w u,A x y z w u∧B x y z w u):G:=h.elim λx h=>h.elim λy h=>h.elim λz h=>h.elim λw h=>h.elim λu h=>k x y z w u h.1 h.2
theorem e4a5{t0 t1 t2 t3:Type}{A B C D E:t0→t1→t2→t3→Prop}{G:Prop}(k:∀x y z w,A x y z w→B x y z w→C x y z w→D x y z w→E x y z w→G)(h:∃x y z w,A x y z w∧B x y z w∧C x y z w∧D x y z w∧E x y z w):G:=h.elim λx h=>h.elim λy h=>h.elim λz h=>h.elim λw h=>k x y z w h.1 h.2.1 h.2.2.1 h.2.2.2.1 h.2.2.2.2
theorem e5a5{t0 t1 t2 t3 t4:Type}{A B C D E:t0→t1→t2→t3→t4→Prop}{G:Prop}(k:∀x y z w u,A x y z w u→B x y z w u→C x y z w u→D x y z w u→E x y z w u→G)(h:∃x y z w u,A x y z w u∧B x y z w u∧C x y z w u∧D x y z w u∧E x y z w u):G:=h.elim λx h=>h.elim λy h=>h.elim λz h=>h.elim λw h=>h.elim λu h=>k x y z w u h.1 h.2.1 h.2.2.1 h.2.2.2.1 h.2.2.2.2
theorem e6a5{t0 t1 t2 t3 t4 t5:Type}{A B C D E:t0→t1→t2→t3→t4→t5→Prop}{G:Prop}(k:∀x y z w u v,A x y z w u v→B x y z w u v→C x y z w u v→D x y z w u v→E x y z w u v→G)(h:∃x y z w u v,A x y z w u v∧B x y z w u v∧C x y z w u v∧D x y z w u v∧E x y z w u v):G:=h.elim λx h=>h.elim λy h=>h.elim λz h=>h.elim λw h=>h.elim λu h=>h.elim λv h=>k x y z w u v h.1 h.2.1 h.2.2.1 h.2.2.2.1 h.2.2.2.2
theorem e4a7{t0 t1 t2 t3:Type}{A B C D E F H:t0→t1→t2→t3→Prop}{G:Prop}(k:∀x y z w,A x y z w→B x y z w→C x y z w→D x y z w→E x y z w→F x y z w→H x y z w→G)(h:∃x y z w,A x y z w∧B x y z w∧C x y z w∧D x y z w∧E x y z w∧F x y z w∧H x y z w):G:=h.elim λx h=>h.elim λy h=>h.elim λz h=>h.elim λw h=>k x y z w h.1 h.2.1 h.2.2.1 h.2.2.2.1 h.2.2.2.2.1 h.2.2.2.2.2.1 h.2.2.2.2.2.2
theorem e5a7{t0 t1 t2 t3 t4:Type}{A B C D E F H:t0→t1→t2→t3→t4→Prop}{G:Prop}(k:∀x y z w u,A x y z w u→B x y z w u→C x y z w u→D x y z w u→E x y z w u→F x y z w u→H x y z w u→G)(h:∃x y z w u,A x y z w u∧B x y z w u∧C x y z w u∧D x y z w u∧E x y z w u∧F x y z w u∧H x y z w u):G:=h.elim λx h=>h.elim λy h=>h.elim λz h=>h.elim λw h=>h.elim λu h=>k x y z w u h.1 h.2.1 h.2.2.1 h.2.2.2.1 h.2.2.2.2.1 h.2.2.2.2.2.1 h.2.2.2.2.2.2
theorem e6a7{t0 t1 t2 t3 t4 t5:Type}{A B C D E F H:t0→t1→t2→t3→t4→t5→Prop}{G:Prop}(k:∀x y z w u v,A x y z w u v→B x y z w u v→C x y z w u v→D x y z w u v→E x y z w u v→F x y z w u v→H x y z w u v→G)(h:∃x y z w u v,A x y z w u v∧B x y z w u v∧C x y z w u v∧D x y z w u v∧E x y z w u v∧F x y z w u v∧H x y z w u v):G:=h.elim λx h=>h.elim λy h=>h.elim λz h=>h.elim λw h=>h.elim λu h=>h.elim λv h=>k x y z w u v h.1 h.2.1 h.2.2.1 h.2.2.2.1 h.2.2.2.2.1 h.2.2.2.2.2.1 h.2.2.2.2.2.2
local macro_rules|`(tactic|obtain $p:rcasesPatMed:=$v:term)=>do
 let c s:=((p.raw.reprint.getD "").splitOn s).length
 if c ","<3||c "|">1||c ":">1 then Lean.Macro.throwUnsupported
 let T (a:Lean.Syntax):Lean.TSyntax `Lean.Parser.Tactic.rcasesPatMed:=⟨a⟩
 let q:=p.raw
 let x:=q[0][0]
 let l:=x[1].getSepArgs
 let mut a:Array (Lean.TSyntax ``Lean.Parser.Tactic.tacticSeq):=#[]
 let mut y:Array Lean.Term:=#[]
 let mut z:Array (Array (Lean.TSyntax `tactic)):=#[]
 for o in l do
  let u:=o[0][0][0]
  let f:=Lean.mkIdent (←Lean.Macro.addMacroScope (.mkSimple s!"f{y.size}"))
  if u[0].getId==`rfl then
   y:=y.push f
   z:=z.push #[←`(tactic|subst $f:term)]
  else if u[0].isIdent then
   y:=y.push ⟨u[0]⟩
   z:=z.push #[]
  else if u[1].isMissing then
   y:=y.push (←`(_))
   z:=z.push #[]
  else
   y:=y.push f
   z:=z.push #[←`(tactic|obtain $(T o[0]):rcasesPatMed:=$f)]
 for j in [0:l.size] do
  if j==1 then continue
  let n:=l.size-j
  let mut i:=y.extract 0 n
  let mut w:=(z.extract 0 n).flatten
  if j>0 then
   i:=i.push (←`(r_))
   w:=w.push (←`(tactic|obtain $(T (q.setArg 0 (q[0].setArg 0 (x.setArg 1 (Lean.mkNullNode (Lean.mkSepArray (l.extract n l.size) (Lean.mkAtom ","))))))):rcasesPatMed:=r_))
  for k in [0:i.size] do
   let m:=Lean.mkIdent (.mkSimple s!"e{k}a{i.size-k}")
   let g←if v.raw.isIdent then `(tactic|(revert $(⟨v⟩):ident;refine $m fun $i*=>?_)) else `(tactic|refine $m (fun $i*=>?_) $v)
   a:=a.push (←`(Lean.Parser.Tactic.tacticSeq| $g:tactic;$[$w];*))
  if j==0&& !v.raw.isIdent then
   a:=a.push (←`(Lean.Parser.Tactic.tacticSeq| have h_ := $v; obtain $p := h_))
   break
 a:=a.push (←`(Lean.Parser.Tactic.tacticSeq| rcases $v:term with $p))
 `(tactic|first $[| $a]*)
open Array renaming length_toList → Aw, toList_append → Cv, getD_eq_getD_getElem? → Do, getElem?_eq_some_iff → Iz, toList_push → Km, toList_extract → Lw, perm_iff_toList_perm → Nn, getElem?_toList → Sd, toList_reverse → Sr, size_setIfInBounds → eH
open Bool renaming false_ne_true → Ce, and_eq_true → Cg, false_eq_true → Ck, not_eq_true' → Ip, eq_iff_iff → Sb, not_eq_false' → Vw
open Classical renaming byContradiction → Fg, propDecidable → Js
open False renaming elim → Iy
open ForInStep renaming done → Cp, yield → Fb
open Function renaming comp_def → Ux
open Int renaming toNat_natCast → Ed, le_refl → Gx, emod_nonneg → Mw, emod_lt_of_pos → Od
open LawfulBEq renaming eq_of_beq → Dn
open List renaming length_map → Aa, mem_cons_self → Ab, getElem?_eq_some_iff → Ah, getElem?_eq_getElem → Ai, mem_cons_of_mem → Ak, mem_singleton → Am, mem_of_getElem? → An, getElem?_map → Ao, size_toArray → Aq, mem_append_left → Au, mem_append_right → Av, mem_cons → Az, map_cons → Ba, mem_append → Bi, mem_filter → Bj, length_cons → Bk, mem_map → Bl, pairwise_cons → Bt, lookup_cons → Bu, getD_eq_getElem?_getD → Bv, map_append → Bw, mem_iff_getElem? → By, map_map → Bz, append_assoc → Ca, range → Cb, length_append → Cc, replicate → Ci, pairwise_append → Cn, length_range → Ct, not_mem_nil → Cz, pairwise_iff_getElem → Da, sublist_append_right → Dh, nodup_cons → Di, length_take → Dj, append_nil → Dk, sublist_cons_self → Dl, getElem?_take_of_lt → Ea, nodup_nil → Ep, all_eq_true → Ex, take_of_length_le → Fd, mem_range → Fe, replicate_succ → Fh, perm_append_comm → Fm, filter_eq_nil_iff → Fz, length → Ga, mem_replicate → Gd, getElem?_append_right → Ge, length_nil → Gm, nodup_append → Gp, mem_iff_getElem → Gq, flatten_cons → Gr, pairwise_singleton → He, length_eq_zero_iff → Hf, cons_append → Hg, zip_cons_cons → Hl, filter_append → Hm, mem_zipIdx_iff_getElem? → Ht, dropLast_concat_getLast → Hu, take_append_drop → Ia, length_singleton → Ib, getElem?_toArray → Ic, reverse_perm → Ij, ext_getElem? → Ik, drop_sublist → Il, take_length → Jh, getElem?_append_left → Jk, extract_eq_take_drop → Jl, map_congr_left → Jr, lookup → Kh, take_sublist → Ku, map_set → Kv, all_map → Kw, getElem?_eq_none → Li, mem_reverse → Lk, mem_flatMap → Ll, length_zipIdx → Nz, mem_of_find?_eq_some → Ot, getElem?_set → Ou, perm_middle → Qb, length_drop → Qd, eraseIdx_cons_succ → Qe, length_pos_of_mem → Rh, pairwise_reverse → Si, getElem?_reverse → Sj, mem_map_of_mem → Uu, getElem?_range → Uv, filterMap_cons → Uw, getElem?_drop → Vv, map_nil → Ww, mapM_toArray → Wx, mk_mem_zipIdx_iff_getElem? → Xq, take_subset → Zw, drop_eq_getElem_cons → eE, length_erase_of_mem → gR, getElem?_set_self → jV, drop_of_length_le → jW, append_eq_nil_iff → jX, map_eq_nil_iff → oP, filter_eq_self → oQ, find?_eq_none → tX
open List.Pairwise renaming sublist → Fw, nil → Jm
open List.Perm renaming swap → Ka, append_left → Ki
open List.Sublist renaming refl → Dg
open List.cons renaming inj → Fv
open MonadExcept renaming tryCatch → Wj
open Nat renaming le_refl → Ap, lt_of_lt_of_le → Cj, le_trans → Cm, ne_of_lt → Cq, zero_le → Ei, lt_irrefl → Er, le_of_lt → Lb, not_lt_zero → Mv, zero_add → Nj, lt_succ_of_lt → Xp
open Ne renaming symm → Ny
open Option renaming isSome_iff_exists → Os, map_eq_some_iff → gQ
open Option.some renaming inj → Bo
open Or renaming inl → Cu, inr → Lz
open PyProof.Rows renaming wpS_bind → Ax, pendingOf → Bb, wpS_pure → Bc, SortSt → Bm, seqObj → Dm, IntsAre → Dw, wpS_forRange → Dz, slot_tuple_getitem → Eb, wpS_mono → Gb, wpS_modify → Ie, get?_update_seq → Iw, failedOf → Jz, listUpdate_at → Kk, SortKind → Kl, callWith_type1 → Lf, wpS_get → Lq, callWith_kw → Mr, envOfC → Mu, AllBare → Rj, reverseSlice' → Ry, callWith_builtin1 → Tj, size_push' → Tp, seqEpoch_at → Wk, firstOfTuple' → Zv, listItems_at → bU, subscriptTail_builtinR → uC
open PyProof.Rows.SortSt renaming mk' → Ut
open PySem renaming PyData → Ac, wpAny_bind → Ag, Shared → Al, wpAny_pure → Ay, sizeLine → Be, Program → Bp, starEach → Bs, FuncData → Bx, mainGlobals → Co, Around → Cr, wpAny_holding → Em, foldedSetIterable → Et, cellsFrom → Eu, wpAny_mono → Ez, wpAny_truthy_bool → Fl, compareOp → Fo, wpAny_Call_Name_kw → Gk, wpAny_newObj_type → Hb, plainId_quiet → Hh, binaryOp → Hr, bootBuiltins → Ig, backTo → Ih, assignEach → Ii, wpAny_loadPart' → Iv, behindInMarks → Jd, wpAny_tryCatch → Jx, wpAny_letGo → Jy, wpAny_updateSeq → Ks, codeAny_builtin → Kt, closureFor → La, sizeLine_eq → Le, Arguments → Lg, recursionLimit → Lr, intItems → Ls, holding → Lu, sliceBounds → Ni, NameKind → Nk, wpAny_passesOwn → Oc, codeAmong → Pt, wpAny_Name → Px, Keyword → Ri, wpAny_newList → Rx, attributeBase → Rz, swapsWith → Sq, wpAny_typeOf → To, codeAny → Tq, builtinsNs → Tr, letOwnedTupleGo → Us, wpAny_seqItems → Wh, wpAny_loadName_local → Wi, keywordEach → Wl, assign → Wm, IsPart → Wn, callerA → Wv, wpAny_loadName_free → Xo, call_meets → Zy, wpAny_pyIter_list → bT, codeAny_mono → bV, wpAny_call_entry → eB, noFill_tuple_add → eD, wpAny_callSpecial?_slot → tW, richCompare_meets_room → uD, slot_list_getitem → Q9
open PySem.Around renaming under_plainId → Gj
open PySem.AutoSeq1 renaming sub_tuple_tuple → aP
open PySem.Builtin.Builtins renaming bindParams → Ha
open PySem.Builtin.List renaming listTooLong → Ms
open PySem.Builtin.Range renaming rangeSize → Wz
open PySem.Builtin.Slice renaming slicePlaces → Hv, sliceAdjust → Lv, sliceApplied → Vc
open PySem.Builtin.Tuple renaming tupleExact → Io, tupleCompareSizes → Sm, tupleItemsOf → Va, tupleIsExact → Vb
open PySem.Calls renaming spliced_cons → Nl, Name_function_global → Nm, spliced_nil → Wo, loadGlobal_builtin → eG
open PySem.Heap renaming get?_push_of_some → Aj, lt_size → Bf, get?_push_size → Bn, get?_update_other → Ff, size_update → Ji, get?_none_of_le → Ma, get?_update_self → Sk, SameBut → Wy
open PySem.Heap.SameBut renaming update → Eh
open PySem.NameKind renaming cell → Ds, free → Dy
open PySem.Obj renaming mapSeq → Cy
open PySem.PassesOwn renaming never → Du
open PySem.PyData renaming int → Ad, depthAll → Bh, depth → Dd
open PySem.SeqAt renaming EqAt → Lh
open PySem.Str renaming ofString → Hs
open PySem.Value renaming ref → Bg, type → Gv, int → Mz, none → Uy, bool → Uz
open Sum renaming inl → Sa
open ToString renaming toString → So
open True renaming intro → Vu
namespace L2
open PySem PySem.Spec PyProof.Rows
abbrev Xn:=Sum Int Str
def zA:Xn->Value->Bool
 | .inl k,v=>Value.isInt k v
 | .inr x,v=>Value.isStrOf x v
def W1(w:World):Xn->Int
 | .inl k=>hashInt k
 | .inr x=>hashStr w x
theorem Gg:∀{k:Xn} {v:Value},zA k v=true->(∃i t,k=Sa i/\v=Mz i t)\/(∃x t,k=Sum.inr x/\v=Value.str x t)
 | .inl i,v,h=>by
  obtain ⟨t,e⟩:=Value.isInt_shape (k:=i) (v:=v) h
  exact .inl ⟨i,t,rfl,e⟩
 | .inr x,v,h=>by
  obtain ⟨t,e⟩:=Value.isStrOf_shape (x:=x) (v:=v) h
  exact .inr ⟨x,t,rfl,e⟩
theorem x6(a b:Int):decide ((Sa a:Xn)=Sa b)=(a == b):=by
 by_cases e:a=b
 ·subst e; simp
 ·have h:¬ (Sa a:Xn)=Sa b:=λq=>e (Sum.inl.inj q)
  rw[decide_eq_false h]
  exact (beq_eq_false_iff_ne.mpr e).symm
theorem A9(a b:Str):decide ((Sum.inr a:Xn)=Sum.inr b)=decide (a=b):=by
 by_cases e:a=b
 ·subst e; simp
 ·have h:¬ (Sum.inr a:Xn)=Sum.inr b:=λq=>e (Sum.inr.inj q)
  rw[decide_eq_false h,decide_eq_false e]
theorem C5(a:Int)(b:Str):decide ((Sa a:Xn)=Sum.inr b)=false:=decide_eq_false (λq=>nomatch q)
theorem zX(a:Str)(b:Int):decide ((Sum.inr a:Xn)=Sa b)=false:=decide_eq_false (λq=>nomatch q)
def cG(prog:Bp)(w:World):PySem.KeyKind prog w Xn where
 is:=zA
 hash:=W1 w
 inj:=λv a b ha hb=>by
  rcases Gg ha with ⟨i,t,rfl,rfl⟩ | ⟨x,t,rfl,rfl⟩
  ·rcases Gg hb with ⟨j,u,rfl,e⟩ | ⟨y,u,rfl,e⟩
   ·injection e with e1 _; rw[e1]
   ·exact nomatch e
  ·rcases Gg hb with ⟨j,u,rfl,e⟩ | ⟨y,u,rfl,e⟩
   ·exact nomatch e
   ·injection e with e1 _; rw[e1]
 byValue:=λk v h=>by
  rcases Gg h with ⟨i,t,rfl,rfl⟩ | ⟨x,t,rfl,rfl⟩ <;> rfl
 pyHash:=λhv h=>by
  rcases Gg hv with ⟨i,t,rfl,rfl⟩ | ⟨x,t,rfl,rfl⟩
  ·exact wpAny_pyHash_int h
  ·exact wpAny_pyHash_str h
 eqBool:=λhu hv h=>by
  rcases Gg hu with ⟨i,t,rfl,rfl⟩ | ⟨x,t,rfl,rfl⟩
  ·rcases Gg hv with ⟨j,u,rfl,rfl⟩ | ⟨y,u,rfl,rfl⟩
   ·rw[x6] at h; exact wpAny_eqBool_int h
   ·rw[C5] at h; exact SeqAt.EqAt.int_str i t y u _ _ _ _ h
  ·rcases Gg hv with ⟨j,u,rfl,rfl⟩ | ⟨y,u,rfl,rfl⟩
   ·rw[zX] at h; exact SeqAt.EqAt.str_int x t j u _ _ _ _ h
   ·rw[A9] at h; exact wpAny_eqBool_str h
 «strs»:=λk x t v h=>by
  rcases Gg h with ⟨i,u,rfl,e⟩ | ⟨y,u,rfl,e⟩
  ·exact nomatch e
  ·injection e with e1 _
   subst e1
   cases v <;> rfl
inductive V where
 | non | bl (b:Bool) | int (i:Int) | str (x:Str) | byt (b:Array UInt8) | flt (b:UInt64) | ref (a:Addr) | ty (n:String)
 deriving DecidableEq
def RelV:V->Value->Prop
 | .non,u=>u=Uy
 | .bl b,u=>u=Uz b
 | .int i,u=>∃t,u=Mz i t
 | .str x,u=>∃t,u=Value.str x t
 | .byt b,u=>∃t,u=Value.bytes b t
 | .flt b,u=>∃t,u=Value.float b t
 | .ref a,u=>u=Bg a
 | .ty n,u=>u=Gv n
abbrev Fi:List V->List Value->Prop:=Paired RelV
theorem Fi.length{xs:List V}{us:List Value}(r:Fi xs us):xs.length=us.length:=Paired.length r
theorem Fi.get:∀{xs:List V} {us:List Value} {i:Nat} {x:V},Fi xs us->xs[i]? = some x->∃u,us[i]? = some u/\RelV x u
 | _,_,_,_,.nil,e=>by simp at e
 | _,_,0,_,.cons r _,e=>by simp at e; subst e; exact ⟨_,rfl,r⟩
 | _,_,i+1,x,.cons _ t,e=>by
  obtain ⟨u,h1,h2⟩:=Fi.get (i:=i) (x:=x) t (by simpa using e)
  exact ⟨u,by simpa using h1,h2⟩
theorem Fi.set{x:V}{u:Value}(r:RelV x u):∀{xs:List V} {us:List Value} (i:Nat),Fi xs us->Fi (xs.set i x) (us.set i u)
 | _,_,_,.nil=>.nil
 | _,_,0,.cons _ t=>.cons r t
 | _,_,i+1,.cons q t=>.cons q (Fi.set r i t)
theorem Fi.append:∀{xs ys:List V} {us ws:List Value},Fi xs us->Fi ys ws->Fi (xs++ys) (us++ws)
 | _,_,_,_,.nil,s=>s
 | _,_,_,_,.cons r t,s=>.cons r (Fi.append t s)
theorem Fi.take:∀{xs:List V} {us:List Value} (n:Nat),Fi xs us->Fi (xs.take n) (us.take n)
 | _,_,0,_=>.nil
 | _,_,_+1,.nil=>.nil
 | _,_,n+1,.cons r t=>.cons r (Fi.take n t)
theorem Fi.drop:∀{xs:List V} {us:List Value} (n:Nat),Fi xs us->Fi (xs.drop n) (us.drop n)
 | _,_,0,r=>r
 | _,_,_+1,.nil=>.nil
 | _,_,n+1,.cons _ t=>Fi.drop n t
def A2:Option V->Option Value->Prop
 | some v,some u=>RelV v u
 | none,none=>True
 | _,_=>False
def KV{κ:Type}:List (κ×V)->List (κ×Value)->Prop:=Paired λ(p:κ×V) (q:κ×Value)=>p.1=q.1/\RelV p.2 q.2
def kV:Xn->V
 | .inl i=>.int i
 | .inr x=>.str x
inductive HO where
 /-- a list -/
 | lst (xs:List V)
 /-- a tuple (never changes) -/
 | tup (xs:List V)
 /-- a dict whose Yj are ints and texts; one whose Yj are tuples of ints and texts (the empty one is both) -/
 | dK (kvs:List (Xn×V)) | dT (kvs:List (List Xn×V))
 /-- a set of ints: its members,its size -/
 | set (S:Int->Bool) (n:Nat)
 /-- an instance of the class at C,its dict at dx,its attributes -/
 | ins (C dx:Addr) (fs:List (Str×V))
 /-- the dict of the instance at x -/
 | own (x:Addr)
 /-- the dict of an exception -/
 | xd (fs:List (Str×V))
 /-- a bound method,f of x -/
 | met (f x:Addr)
 /-- a range object lo,lo+1,.. below hi -/
 | rng (lo hi:Int)
 /-- a thing that is known to the object (the script; a dict while a loop walks it): read,never written while it is so -/
 | frz (o:Obj) (u:HO)
 /-- a code object's table -/
 | tbl (ps:Array Value)
 /-- any other thing,by what is true of its one object (a def of one's own: U4 a S n:=HO.ext λh=>..) -/
 | ext (φ:Heap->Prop)
abbrev Hp:=Addr->Option HO
def upd(H:Hp)(a:Addr)(o:HO):Hp:=λb=>if b=a then some o else H b
theorem Ej{H:Hp}{a:Addr}{o:HO}:upd H a o a=some o:=by unfold upd; rw[if_pos rfl]
theorem Ee{H:Hp}{a b:Addr}{o:HO}(h:b≠a):upd H a o b=H b:=by unfold upd; rw[if_neg h]
theorem Ek{H:Hp}{a b:Addr}{o:HO}(h:H a=some o)(h':H b=none):a≠b:=by
 intro e; subst e; rw[h] at h'; cases h'
section
variable(P:Bp)(w:World)
def Kc(H:Hp)(h:Heap)(a:Addr):HO->Prop
 | .lst xs=>xs.length<=Be/\∃(its:List Value) (n:Nat),Fi xs its/\h.get? a=some { cls:=.type "list",data:=.seq its.toArray n }
 | .tup xs=>xs.length<=Be/\∃its:List Value,Fi xs its/\IsTup h a its.toArray
 | .dK kvs=>kvs.length<=Be/\(a == sysModules)=false/\∃vs,KV kvs vs/\h.DictOf (cG P w) a vs
 | .dT kvs=>kvs.length<=Be/\(a == sysModules)=false/\∃xs:List (List Xn×Addr×Value),
   Paired (λ(p:List Xn×V) (q:List Xn×Addr×Value)=>p.1=q.1/\H q.2.1=some (.tup (p.1.map kV))/\RelV p.2 q.2.2) kvs xs /\
   ∃o es ep,h.get? a=some o/\o.ExactDict/\o.data=.dict es ep/\es.toList=xs.map (entryOfKey (tupleKind (cG P w)))/\(xs.map (·.1)).Nodup/\ep=es.size
 | .set S n=>h.SetOf (intKind P w) a S n
 | .ins C dx fs=>H dx=some (.own a)/\fs.length<=1000/\dx≠a/\h.get? a=some (PySem.W.instObj C dx) /\
   ∃mA,h.Ns1 dx mA/\(∀f,A2 (fs.lookup f) (mA f))/\PySem.Within mA (fs.map (·.1))
 | .own _=>∃o,h.get? a=some o
 | .xd fs=>∃mA,h.Ns1 a mA/\∀f,A2 (fs.lookup f) (mA f)
 | .rng lo hi=>∃t u v,h.get? a=some { cls:=.type "range",data:=.fields #[.int lo t,.int hi u,.int 1 v] }
 | .frz o u=>h.get? a=some o/\Kc H h a u
 | .tbl ps=>∃qs:Array Value,h.get? a=some { cls:=.none,data:=.fields qs }/\TriplesOk qs.toList/\∀(pos:Pos) (v:Value),Pt pos qs.toList=some v->∃(c:Addr) (oc:Obj) (us:Array Value) (q:Str) (t t0:Tok),v=.ref c/\H c=some (.own a)/\h.get? c=some oc/\oc.data=.fields us/\us[1]? = some (.str q t)/\ps[0]? = some (.str q t0)
 | .met f x=>h.get? a=some (PySem.W.methodObj (.ref f) (.ref x))
 | .ext φ=>φ h/\(∃o,h.get? a=some o)/\∀h1 h2:Heap,φ h1->(∀o,h1.get? a=some o->h2.get? a=some o)->φ h2
def Zx(H:Hp)(h:Heap):Prop:=∀a o,H a=some o->Kc P w H h a o
end
section
variable{P:Bp}{w:World}{H H':Hp}{h h':Heap}{a:Addr}{o:HO}
theorem Kc.lt(x:Kc P w H h a o):a<h.objs.size:=by
 cases o with
 | lst xs=>obtain ⟨_,_,_,_,e⟩:=x; exact Bf e
 | tup xs=>obtain ⟨_,_,_,p⟩:=x; exact p.lt
 | dK kvs=>obtain ⟨_,_,_,_,o,_,_,e,_⟩:=x; exact Bf e
 | dT kvs=>obtain ⟨_,_,_,_,o,_,_,e,_⟩:=x; exact Bf e
 | set S n=>obtain ⟨o,_,_,_,e,_⟩:=x; exact Bf e
 | ins C dx fs=>obtain ⟨_,_,_,e,_⟩:=x; exact Bf e
 | own y=>obtain ⟨_,e⟩:=x; exact Bf e
 | xd fs=>obtain ⟨_,⟨_,_,_,e,_⟩,_⟩:=x; exact Bf e
 | rng lo hi=>obtain ⟨_,_,_,e⟩:=x; exact Bf e
 | frz ob u=>obtain ⟨e,_⟩:=x; exact Bf e
 | tbl ps=>obtain ⟨_,e,_⟩:=x; exact Bf e
 | met f y=>exact Bf (show h.get? a=some _ from x)
 | ext φ=>obtain ⟨_,⟨_,e⟩,_⟩:=x; exact Bf e
theorem Paired.mapP{α β:Type}{F G:α->β->Prop}:∀{l₁:List α} {l₂:List β},Paired F l₁ l₂->(∀a b,F a b->G a b)->Paired G l₁ l₂
 | _,_,.nil,_=>.nil
 | _,_,.cons r t,f=>.cons (f _ _ r) (Paired.mapP t f)
theorem Kc.stay(x:Kc P w H h a o)(k:∀b u,(b=a\/H b=some (.own a))->h.get? b=some u->h'.get? b=some u)(ho:∀b,H b=some (.own a)->H' b=some (.own a))(ht:∀b xs,H b=some (.tup xs)->H' b=some (.tup xs)):Kc P w H' h' a o:=by
 induction o with
 | lst xs=>obtain ⟨z,its,n,r,e⟩:=x; exact ⟨z,its,n,r,k _ _ (.inl rfl) e⟩
 | tup xs=>obtain ⟨z,its,r,ob,e,c⟩:=x; exact ⟨z,its,r,ob,k _ _ (.inl rfl) e,c⟩
 | dK kvs=>obtain ⟨z,y,vs,r,ob,es,ep,e,c⟩:=x; exact ⟨z,y,vs,r,ob,es,ep,k _ _ (.inl rfl) e,c⟩
 | dT kvs =>
  obtain ⟨z,y,xs,r,ob,es,ep,e,c⟩:=x
  exact ⟨z,y,xs,Paired.mapP r λp q z=>⟨z.1,ht _ _ z.2.1,z.2.2⟩,ob,es,ep,k _ _ (.inl rfl) e,c⟩
 | set S n=>obtain ⟨ob,es,ep,t,e,c⟩:=x; exact ⟨ob,es,ep,t,k _ _ (.inl rfl) e,c⟩
 | ins C dx fs =>
  obtain ⟨d,z,ne,e,mA,⟨od,es,ep,e2,c⟩,r⟩:=x
  exact ⟨ho _ d,z,ne,k _ _ (.inl rfl) e,mA,⟨od,es,ep,k _ _ (.inr d) e2,c⟩,r⟩
 | own y=>obtain ⟨ob,e⟩:=x; exact ⟨ob,k _ _ (.inl rfl) e⟩
 | xd fs=>obtain ⟨mA,⟨od,es,ep,e,c⟩,r⟩:=x; exact ⟨mA,⟨od,es,ep,k _ _ (.inl rfl) e,c⟩,r⟩
 | rng lo hi=>obtain ⟨t,u,v,e⟩:=x; exact ⟨t,u,v,k _ _ (.inl rfl) e⟩
 | frz ob u ih=>obtain ⟨e,q⟩:=x; exact ⟨k _ _ (.inl rfl) e,ih q⟩
 | tbl ps =>
  obtain ⟨qs,e,t,z⟩:=x
  exact ⟨qs,k _ _ (.inl rfl) e,t,λpos v y=>by
   obtain ⟨c,oc,us,q,t,t0,h1,h2,h3,h4⟩:=z pos v y
   exact ⟨c,oc,us,q,t,t0,h1,ho _ h2,k _ _ (.inr h2) h3,h4⟩⟩
 | met f y =>
  have e:h.get? a=some (PySem.W.methodObj (.ref f) (.ref y)):=x
  show h'.get? a=some (PySem.W.methodObj (.ref f) (.ref y))
  exact k a _ (.inl rfl) e
 | ext φ=>obtain ⟨p,⟨o,e⟩,st⟩:=x; exact ⟨st _ _ p λo q=>k _ _ (.inl rfl) q,⟨o,k _ _ (.inl rfl) e⟩,st⟩
theorem Zx.lt(x:Zx P w H h)(e:H a=some o):a<h.objs.size:=(x a o e).lt
theorem Zx.fresh(x:Zx P w H h)(e:h.objs.size<=a):H a=none:=by
 cases q:H a with
 | none=>rfl
 | some u=>exact absurd (Cj (x.lt q) e) (Er _)
theorem Zx.kept(x:Zx P w H h)(k:∀b u,h.get? b=some u->h'.get? b=some u):Zx P w H h':=λa o e =>
 (x a o e).stay (λb u _ q=>k b u q) (λ_ q=>q) λ_ _ q=>q
theorem Zx.laid(x:Zx P w H h)(k:∀b u,h.get? b=some u->h'.get? b=some u)(hp:h.objs.size<=a)(new:Kc P w (upd H a o) h' a o):Zx P w (upd H a o) h':=λb u e=>by
 have hn:=x.fresh hp
 by_cases hb:b=a
 ·subst hb; rw[Ej] at e; cases e; exact new
 ·rw[Ee hb] at e
  exact (x b u e).stay (λc v _ q=>k c v q) (λc q=>by rw[Ee (Ek q hn)]; exact q) λc xs q=>by rw[Ee (Ek q hn)]; exact q
end
def Rd(H:Hp)(a:Addr)(u:HO):Prop:=H a=some u\/∃o,H a=some (.frz o u)
theorem Rd.ok{P:Bp}{w:World}{H:Hp}{h:Heap}{a:Addr}{u:HO}(r:Rd H a u)(x:Zx P w H h):Kc P w H h a u:=by
 rcases r with r | ⟨o,r⟩
 ·exact x a u r
 ·obtain ⟨_,q⟩:=x a _ r
  exact q
def R5:Option HO->Prop
 | some (.lst _)=>True
 | some (.dK _)=>True
 | some (.dT _)=>True
 | some (.set _ _)=>True
 | some (.ins _ _ _)=>True
 | some (.ext _)=>True
 | _=>False
section
variable{P:Bp}{w:World}{H:Hp}{h h':Heap}{x e:Addr}{o':HO}
theorem Zx.write(ok:Zx P w H h)(mu:R5 (H x))(he:e=x\/H e=some (.own x))(k:∀b u,b≠e->h.get? b=some u->h'.get? b=some u)(heo:∃u,h'.get? e=some u)(new:Kc P w (upd H x o') h' x o'):Zx P w (upd H x o') h':=λb u q=>by
 have nown:∀c y,H c=some (.own y)->c≠x:=λc y r z=>by subst z; rw[r] at mu; exact mu
 have pP:∀c xs,H c=some (.tup xs)->c≠x:=λc xs r z=>by subst z; rw[r] at mu; exact mu
 by_cases hb:b=x
 ·subst hb; rw[Ej] at q; cases q; exact new
 ·rw[Ee hb] at q
  by_cases hbe:b=e
  ·have q':H b=some (.own x):=by
    rcases he with z | z
    ·exact absurd (hbe.trans z) hb
    ·rw[hbe]; exact z
   rw[q] at q'; cases q'
   obtain ⟨v,hv⟩:=heo
   exact ⟨v,by rw[hbe]; exact hv⟩
  ·refine (ok b u q).stay (λc v hc r=>k c v ?_ r) (λc r=>by rw[Ee (nown c b r)]; exact r) λc xs r=>by rw[Ee (pP c xs r)]; exact r
   rcases hc with rfl | hc
   ·exact hbe
   ·rintro rfl
    rcases he with z | z
    ·exact nown c b hc z
    ·rw[hc] at z; cases z; exact hb rfl
end
structure Un(fs ex:List Addr)(H H':Hp)(h h':Heap):Prop where
 keep:∀b o,h.get? b=some o->H b=none->b∉fs->b∉ex->h'.get? b=some o
 slot:∀b o,h.get? b=some o->H b=none->b∈fs->b∉ex->∃sl,h'.get? b=some { o with slots:=sl }
 free:∀b o,h.get? b=some o->H b=none->b∉ex->H' b=none
 there:∀b o,h.get? b=some o->b∉ex->∃o',h'.get? b=some o'
 tups:∀b xs,H b=some (.tup xs)->H' b=some (.tup xs)
 frzs:∀b o u,H b=some (.frz o u)->H' b=some (.frz o u)
 tbls:∀b ps,H b=some (.tbl ps)->∃more,H' b=some (.tbl (ps++more))
section
variable{fs fs' ex ex':List Addr}{H H1 H2:Hp}{h h1 h2 h':Heap}{a x e:Addr}{o:HO}
theorem Un.any(u:Un fs ex H H1 h h1){b:Addr}{ob:Obj}(q:h.get? b=some ob)(n:H b=none)(hx:b∉ex):∃sl,h1.get? b=some { ob with slots:=sl }:=by
 by_cases hb:b∈fs
 ·exact u.slot b ob q n hb hx
 ·exact ⟨ob.slots,u.keep b ob q n hb hx⟩
theorem Un.kept(k:∀b u,h.get? b=some u->h'.get? b=some u):Un fs ex H H h h' :=
 ⟨λb ob q _ _ _=>k b ob q,λb ob q _ _ _=>⟨ob.slots,k b ob q⟩,λ_ _ _ n _=>n,λb ob q _=>⟨ob,k b ob q⟩,λ_ _ q=>q,λ_ _ _ q=>q,λ_ ps q=>⟨#[],by rw[q]; simp⟩⟩
theorem Un.refl:Un fs ex H H h h:=Un.kept λ_ _ q=>q
theorem Un.laid(k:∀b u,h.get? b=some u->h'.get? b=some u)(hp:h.objs.size<=a)(hn:H a=none):Un fs ex H (upd H a o) h h' where
 keep:=λb u q _ _ _=>k b u q
 slot:=λb u q _ _ _=>⟨u.slots,k b u q⟩
 free:=λb u q n _=>by rw[Ee (Cq (Cj (Bf q) hp))]; exact n
 there:=λb u q _=>⟨u,k b u q⟩
 tups:=λb xs q=>by rw[Ee (Ek q hn)]; exact q
 frzs:=λb u xs q=>by rw[Ee (Ek q hn)]; exact q
 tbls:=λb ps q=>⟨#[],by rw[Ee (Ek q hn),q]; simp⟩
theorem Un.write(mu:R5 (H x))(he:e=x\/H e=some (.own x))(k:∀b u,b≠e->h.get? b=some u->h'.get? b=some u)(heo:∃u,h'.get? e=some u):Un fs ex H (upd H x o) h h':=by
 have hx:∀b,H b=none->b≠x:=λb n z=>by subst z; rw[n] at mu; exact mu
 have hb:∀b,H b=none->b≠e:=λb n z=>by
  subst z
  rcases he with r | r
  ·exact hx b n r
  ·rw[n] at r; cases r
 have hm:∀b u,H b=some u->¬ R5 (some u)->b≠x:=λb u q nm z=>by subst z; rw[q] at mu; exact nm mu
 refine ⟨λb u q n _ _=>k b u (hb b n) q,λb u q n _ _=>⟨u.slots,k b u (hb b n) q⟩,λb u q n _=>by rw[Ee (hx b n)]; exact n,λb u q _=>?_,
  λb xs q=>by rw[Ee (hm b _ q λz=>z)]; exact q,λb u xs q=>by rw[Ee (hm b _ q λz=>z)]; exact q,λb ps q=>⟨#[],by rw[Ee (hm b _ q λz=>z),q]; simp⟩⟩
 by_cases hbe:b=e
 ·subst hbe; exact heo
 ·exact ⟨u,k b u hbe q⟩
end
def S5(h:Heap)(H:Hp):List Addr:=(Cb h.objs.size).filter λa=>(H a).isSome
def Zz(h:Heap)(H:Hp):Heap:=PySem.W.hideAll h (S5 h H)
theorem nK(h:Heap)(H:Hp):(Zz h H).objs.size=h.objs.size:=PySem.W.hideAll_size _ _
theorem pH{h:Heap}{H:Hp}{b:Addr}{o:Obj}(e:h.get? b=some o)(n:H b=none):(Zz h H).get? b=some o :=
 PySem.W.hideAll_get _ e λhm=>by
  have q:(H b).isSome=true:=(Bj.mp hm).2
  rw[n] at q; simp at q
theorem xD{h:Heap}{H:Hp}{b:Addr}{o:Obj}(e:(Zz h H).get? b=some o):h.get? b=some o/\H b=none:=by
 have e':h.get? b=some o:=PySem.W.of_hideAll (S5 h H) e
 refine ⟨e',?_⟩
 cases q:H b with
 | none=>rfl
 | some x =>
  have hm:b∈S5 h H:=Bj.mpr ⟨Fe.mpr (Bf e'),by simp [q]⟩
  have z:(Zz h H).get? b=none:=PySem.W.hideAll_none (S5 h H) hm
  rw[z] at e; cases e
def xH(g h:Heap)(L:Addr):List (Addr×Obj):=(Cb h.objs.size).filterMap λa=>if a=L\/(g.get? a).isSome=true then none else (h.get? a).map λo=>(a,o)
def Ft(g h:Heap)(L d:Addr):List (Addr×Obj):=(xH g h L).filter λp=>decide (p.1≠d)
structure Mod(K:PySem.W.Frag)(mg:Str->Option Value)(base:Heap):Prop where
 kin:K.In base
 glob:base.Ns Co mg
 blt:∃mb,base.Ns Tr mb/\∀x:Str,x ≠ "__name__" -> mb x=Ig x
 nolimit:base.NoLimit
def Oi:List Str:=["often", "cut_by"]
def Zh(x:Str):Str:=x ++ ".<locals>." ++ "<lambda>"
def zD(H:Hp)(P:Addr)(q:Str):Prop:=∃(ps:Array Value) (t0:Tok),H P=some (.tbl ps)/\ps[0]? = some (.str q t0)
def rE(K:PySem.W.Frag)(mg:Str->Option Value)(base:Heap)(H:Hp):Prop:=∀x∈Oi,∀c P,PySem.W.tabIn K x=some (c,P)->PySem.W.CodeHd base c P/\base.BuiltinsAt mg P/\zD H P (Zh x)
theorem rE.un{K:PySem.W.Frag}{mg:Str->Option Value}{base:Heap}{fs ex:List Addr}{H H':Hp}{h h':Heap}(t:rE K mg base H)(u:Un fs ex H H' h h'):rE K mg base H':=λx hx c P e=>by
 obtain ⟨h1,h2,ps,t0,h3,h4⟩:=t x hx c P e
 obtain ⟨more,h5⟩:=u.tbls P ps h3
 refine ⟨h1,h2,ps++more,t0,h5,?_⟩
 have hl:0<ps.size:=by
  rcases Nat.eq_zero_or_pos ps.size with z | z
  ·rw[Array.getElem?_eq_none (by omega)] at h4; cases h4
  ·exact z
 rw[Array.getElem?_append_left hl]
 exact h4
structure Cx where
 prog:Bp
 w:World
 K:PySem.W.Frag
 mg:Str->Option Value
 base:Heap
 A:Cr
 N:List Str
 s₀:Al
 H₀:Hp
 env:Env
 outer:List Env
 stack:List Env
 ex:List Addr
 fn:Str->Bool
 calm:Bool
 pn:List (Addr×Obj)
 xe:Value->Al->Prop
def mF(l:List Env):List Addr:=l.filterMap (·.frame)
abbrev Cx.fs(X:Cx):List Addr:=mF X.outer
def R9(sc:Scope)(x:Str):Prop:=sc.names.lookup x=some .local\/sc.names.lookup x=some .cell\/sc.names.lookup x=some .free
def Loc(sc:Scope)(x:Str):Prop:=sc.names.lookup x=some .local\/sc.names.lookup x=some .cell
def U1(env:Env)(h:Heap)(m:Str->Option Value)(x:Str)(u:Value):Prop :=
 (env.kindOf x=some .local/\m x=some u)\/((env.kindOf x=some .cell\/env.kindOf x=some .free)/\∃c,env.cells.lookup x=some c/\h.IsCell c (some u))
structure Cx.Ok(X:Cx):Prop where
 mod:Mod X.K X.mg X.base
 kind:X.env.scope.kind=.function
 glob:X.env.globals=Co
 blt:X.env.builtins=Tr
 above:X.s₀.heap.objs.size<=X.env.locals
 inj:∀x y c,X.env.cells.lookup x=some c->X.env.cells.lookup y=some c->x=y
 has:∀x,(X.env.kindOf x=some .cell\/X.env.kindOf x=some .free)->∃c,X.env.cells.lookup x=some c
 cab:∀x c,X.fn x=true->X.env.cells.lookup x=some c->X.s₀.heap.objs.size<=c
 hd:X.calm=true->X.A.handled=none
 frames:X.A.frames=some X.stack
 stk:X.stack=X.outer\/(X.stack=X.env::X.outer/\X.env.frame=some X.env.locals)
 exf:∀b∈X.ex,b≠X.env.locals/\∀x c,X.env.cells.lookup x=some c->c≠b
 bs:∀b o,X.base.get? b=some o->X.s₀.heap.get? b=some o/\X.H₀ b=none
 bsz:X.base.objs.size<=X.s₀.heap.objs.size
 noex:∀b o,X.base.get? b=some o->b∉X.ex
 exfs:∀b∈X.ex,b∉X.fs
 funs:X.s₀.heap.FunFrames X.base X.outer
 frf:∀b∈X.fs,X.H₀ b=none
 tab:rE X.K X.mg X.base X.H₀
structure Inv(X:Cx)(pins:List (Addr×Obj))(σ:List (Option V))(H:Hp)(s:Al):Prop where
 ok:X.Ok
 os:s.os=X.s₀.os
 bare:Rj s.gens
 base:Un X.fs X.ex X.H₀ H X.s₀.heap s.heap
 loc:∃m,s.heap.Ns X.env.locals m/\∀(i:Nat) (x:Str) (v:V),X.N[i]? = some x->σ[i]? = some (some v)->R9 X.env.scope x->∃u,RelV v u/\U1 X.env s.heap m x u
 cell:∀x c,X.env.cells.lookup x=some c->∃v,s.heap.IsCell c v
 free:H X.env.locals=none
 freeC:∀x c,X.env.cells.lookup x=some c->H c=none
 pin:∀p∈X.pn++pins,s.heap.get? p.1=some p.2/\H p.1=none/\p.1≠X.env.locals/\p.1∉X.fs/\∀v,p.2.data≠.cell v
 hok:Zx X.prog X.w H s.heap
 len:σ.length=X.N.length
section
variable{X:Cx}{pins:List (Addr×Obj)}{σ:List (Option V)}{H H':Hp}{s:Al}{h':Heap}
theorem Cx.Ok.nofr(ok:X.Ok){b:Addr}{o:Obj}(e:X.base.get? b=some o):b∉X.fs:=λhb=>by
 have:=(ok.funs.mem hb).1
 rw[e] at this; cases this
theorem Inv.bs(I:Inv X pins σ H s):∀b o,X.base.get? b=some o->s.heap.get? b=some o/\H b=none:=λb o e =>
 ⟨I.base.keep b o (I.ok.bs b o e).1 (I.ok.bs b o e).2 (I.ok.nofr e) (I.ok.noex b o e),I.base.free b o (I.ok.bs b o e).1 (I.ok.bs b o e).2 (I.ok.noex b o e)⟩
theorem Inv.bk(I:Inv X pins σ H s):∀b o,X.base.get? b=some o->s.heap.get? b=some o:=λb o e=>(I.bs b o e).1
theorem Inv.mod(I:Inv X pins σ H s):Mod X.K X.mg X.base:=I.ok.mod
theorem Inv.kIn(I:Inv X pins σ H s):X.K.In s.heap:=I.ok.mod.kin.keeps I.bk
theorem Inv.nolimit(I:Inv X pins σ H s):s.heap.NoLimit:=I.ok.mod.nolimit.keeps I.bk
theorem Inv.lt(I:Inv X pins σ H s):X.env.locals<s.heap.objs.size:=let ⟨_,hn,_⟩:=I.loc; hn.lt
theorem Inv.sz(I:Inv X pins σ H s):X.s₀.heap.objs.size<=s.heap.objs.size:=Cm I.ok.above (Lb I.lt)
theorem Inv.nofs(I:Inv X pins σ H s){a:Addr}(h:s.heap.objs.size<=a):a∉X.fs:=λhb=>by
 obtain ⟨_,o,ho,_⟩:=I.ok.funs.mem hb
 exact absurd (Cj (Bf ho) (Cm I.sz h)) (Er _)
theorem Inv.cne(I:Inv X pins σ H s):∀x c,X.env.cells.lookup x=some c->c≠X.env.locals:=λx c e z=>by
 obtain ⟨v,o,ho,hd⟩:=I.cell x c e
 obtain ⟨m,⟨o',es,ep,ho',hd',_⟩,_⟩:=I.loc
 rw[z,ho'] at ho; cases ho; rw[hd'] at hd; cases hd
theorem Inv.funs(I:Inv X pins σ H s):s.heap.FunFrames X.base X.outer:=by
 have all:∀(l:List Env),(∀b∈mF l,b∈X.fs)->X.s₀.heap.FunFrames X.base l->s.heap.FunFrames X.base l:=by
  intro l
  induction l with
  | nil=>intro _ _; trivial
  | cons env r ih =>
   intro hs hl
   obtain ⟨hk,⟨L,o,hf,hn,ho,hd⟩,hr⟩:=hl
   have hL:L∈X.fs:=hs L (by unfold mF; rw[Uw,hf]; exact Ab)
   obtain ⟨sl,e⟩:=I.base.slot L o ho (I.ok.frf L hL) hL λz=>I.ok.exfs L z hL
   exact ⟨hk,⟨L,_,hf,hn,e,hd⟩,ih (λb hb=>hs b (by unfold mF; rw[Uw,hf]; exact Ak _ hb)) hr⟩
 exact all X.outer (λ_ hb=>hb) I.ok.funs
theorem Inv.stack(I:Inv X pins σ H s):s.heap.FunFrames X.base X.stack:=by
 rcases I.ok.stk with e | ⟨e,hf⟩
 ·rw[e]; exact I.funs
 ·rw[e]
  obtain ⟨m,hn,_⟩:=I.loc
  refine .cons (by rw[I.ok.kind]; decide) hf hn ?_ I.funs
  exact Ma (Cm I.ok.bsz I.ok.above)
theorem Inv.stkSub(I:Inv X pins σ H s):∀b∈mF X.stack,b∈X.env.locals::X.fs:=λb hb=>by
 rcases I.ok.stk with e | ⟨e,hf⟩
 ·rw[e] at hb; exact Ak _ hb
 ·rw[e] at hb
  unfold mF at hb
  rw[Uw,hf] at hb
  exact hb
theorem Inv.stkFree(I:Inv X pins σ H s):∀b∈mF X.stack,H b=none:=λb hb=>by
 rcases Az.mp (I.stkSub b hb) with e | hb
 ·rw[e]; exact I.free
 ·obtain ⟨_,o,ho,_⟩:=I.ok.funs.mem hb
  exact I.base.free b o ho (I.ok.frf b hb) λz=>I.ok.exfs b z hb
theorem Inv.step{g':Array GenState}{t':Nat}{d':Drawn}{ch:List Addr}(I:Inv X pins σ H s)(hch:∀b∈ch,(b∈X.ex\/X.s₀.heap.objs.size<=b)/\b≠X.env.locals/\(∀x c,X.env.cells.lookup x=some c->c≠b)/\∀p∈X.pn++pins,p.1≠b)(keep:∀b o,b≠X.env.locals->b∉X.fs->b∉ch->s.heap.get? b=some o->H b=none->h'.get? b=some o)(slot:∀b o,b≠X.env.locals->b∈X.fs->b∉ch->s.heap.get? b=some o->H b=none->∃sl,h'.get? b=some { o with slots:=sl })(free:∀b o,b∉ch->s.heap.get? b=some o->H b=none->H' b=none)(there:∀b o,b∉ch->s.heap.get? b=some o->∃o',h'.get? b=some o')(tups:∀b xs,H b=some (.tup xs)->H' b=some (.tup xs))(frzs:∀b o u,H b=some (.frz o u)->H' b=some (.frz o u))(tbls:∀b ps,H b=some (.tbl ps)->∃more,H' b=some (.tbl (ps++more)))(ns:∀m,s.heap.Ns X.env.locals m->h'.Ns X.env.locals m)(hok:Zx X.prog X.w H' h')(hg:Rj g'):Inv X pins σ H' { s with heap:=h',gens:=g',drawn:=d',toks:=t' }:=by
 have neL:∀b o,X.s₀.heap.get? b=some o->b≠X.env.locals:=λb o e=>Cq (Cj (Bf e) I.ok.above)
 have neC:∀b o,X.s₀.heap.get? b=some o->b∉X.ex->b∉ch:=λb o e hx hb=>by
  rcases (hch b hb).1 with z | z
  ·exact hx z
  ·exact absurd (Cj (Bf e) z) (Er _)
 have cellK:∀x c,X.env.cells.lookup x=some c->∀v,s.heap.IsCell c v->h'.IsCell c v:=λx c e v ⟨o,ho,hd⟩=>by
  have nch:c∉ch:=λz=>(hch c z).2.2.1 x c e rfl
  by_cases hc:c∈X.fs
  ·obtain ⟨sl,q⟩:=slot c o (I.cne x c e) hc nch ho (I.freeC x c e)
   exact ⟨_,q,hd⟩
  ·exact ⟨o,keep c o (I.cne x c e) hc nch ho (I.freeC x c e),hd⟩
 refine ⟨I.ok,I.os,hg,⟨λb o e n hb hx=>?_,λb o e n hb hx=>?_,λb o e n hx=>?_,λb o e hx=>?_,λb xs e=>tups b xs (I.base.tups b xs e),λb o xs e=>frzs b o xs (I.base.frzs b o xs e),λb ps e=>?_⟩,?_,λx c e=>?_,?_,λx c e=>?_,λp hp=>?_,hok,I.len⟩
 ·exact keep b o (neL b o e) hb (neC b o e hx) (I.base.keep b o e n hb hx) (I.base.free b o e n hx)
 ·obtain ⟨sl,e1⟩:=I.base.slot b o e n hb hx
  obtain ⟨sl',e2⟩:=slot b _ (neL b o e) hb (neC b o e hx) e1 (I.base.free b o e n hx)
  exact ⟨sl',e2⟩
 ·obtain ⟨o',e1⟩:=I.base.there b o e hx
  exact free b o' (neC b o e hx) e1 (I.base.free b o e n hx)
 ·obtain ⟨o',e1⟩:=I.base.there b o e hx
  exact there b o' (neC b o e hx) e1
 ·obtain ⟨m1,e1⟩:=I.base.tbls b ps e
  obtain ⟨m2,e2⟩:=tbls b _ e1
  exact ⟨m1++m2,by rw[e2,Array.append_assoc]⟩
 ·obtain ⟨m,hn,hl⟩:=I.loc
  refine ⟨m,ns m hn,λi x v e1 e2 e3=>?_⟩
  obtain ⟨u,r,l⟩:=hl i x v e1 e2 e3
  refine ⟨u,r,?_⟩
  rcases l with l | ⟨k,c,e,z⟩
  ·exact .inl l
  ·exact .inr ⟨k,c,e,cellK x c e _ z⟩
 ·obtain ⟨v,z⟩:=I.cell x c e
  exact ⟨v,cellK x c e v z⟩
 ·obtain ⟨m,⟨o,_,_,ho,_⟩,_⟩:=I.loc
  exact free _ o (λz=>(hch _ z).2.1 rfl) ho I.free
 ·obtain ⟨v,o,ho,hd⟩:=I.cell x c e
  exact free c o (λz=>(hch c z).2.2.1 x c e rfl) ho (I.freeC x c e)
 ·obtain ⟨e,n,ne,nf,d⟩:=I.pin p hp
  have nch:p.1∉ch:=λz=>(hch p.1 z).2.2.2 p hp rfl
  exact ⟨keep p.1 p.2 ne nf nch e n,free p.1 p.2 nch e n,ne,nf,d⟩
theorem Inv.un{t':Nat}(I:Inv X pins σ H s)(u:Un X.fs [] H H' s.heap h')(hok:Zx X.prog X.w H' h'):Inv X pins σ H' { s with heap:=h',toks:=t' }:=by
 obtain ⟨m,⟨o,es,ep,ho,r⟩,_⟩:=id I.loc
 obtain ⟨sl,hL⟩:=u.any ho I.free (by simp)
 exact I.step (g':=s.gens) (d':=s.drawn) (ch:=[]) (λ_ z=>nomatch z) (λb o _ hb _ e n=>u.keep b o e n hb (by simp)) (λb o _ hb _ e n=>u.slot b o e n hb (by simp)) (λb o _ e n=>u.free b o e n (by simp)) (λb o _ e=>u.there b o e (by simp)) u.tups u.frzs u.tbls (λm' hm=>by
  obtain ⟨o',es',ep',ho',r'⟩:=hm
  rw[ho] at ho'; cases ho'
  exact ⟨_,es',ep',hL,r'⟩) hok I.bare
theorem Inv.call{g':Array GenState}{t':Nat}{d':Drawn}{ch:List Addr}(I:Inv X pins σ H s)(u:Un (mF X.stack) ch H H' s.heap h')(hok:Zx X.prog X.w H' h')(hg:Rj g')(hch:∀b∈ch,(b∈X.ex\/X.s₀.heap.objs.size<=b)/\b≠X.env.locals/\(∀x c,X.env.cells.lookup x=some c->c≠b)/\∀p∈X.pn++pins,p.1≠b):Inv X pins σ H' { s with heap:=h',gens:=g',drawn:=d',toks:=t' }:=by
 obtain ⟨m,⟨o,es,ep,ho,r⟩,_⟩:=id I.loc
 obtain ⟨sl,hL⟩:=u.any ho I.free λz=>(hch _ z).2.1 rfl
 exact I.step (ch:=ch) hch (λb o hL hb hc e n=>u.keep b o e n (λz=>(Az.mp (I.stkSub b z)).elim hL hb) hc) (λb o _ _ hc e n=>u.any e n hc) (λb o hc e n=>u.free b o e n hc) (λb o hc e=>u.there b o e hc) u.tups u.frzs u.tbls (λm' hm=>by
  obtain ⟨o',es',ep',ho',r'⟩:=hm
  rw[ho] at ho'; cases ho'
  exact ⟨_,es',ep',hL,r'⟩) hok hg
theorem Inv.turned{t':Nat}{it:Addr}(I:Inv X pins σ H s)(k:∀b o,b≠it->s.heap.get? b=some o->h'.get? b=some o)(hn:H it=none)(hL:it≠X.env.locals)(h1:it∈X.ex\/X.s₀.heap.objs.size<=it)(h2:∀x c,X.env.cells.lookup x=some c->c≠it)(h3:∀p∈X.pn++pins,p.1≠it):Inv X pins σ H { s with heap:=h',toks:=t' }:=by
 have nit:∀b u,H b=some u->b≠it:=λb u e z=>by rw[z,hn] at e; cases e
 refine I.step (g':=s.gens) (d':=s.drawn) (ch:=[it]) (λb hb=>?_) (λb o _ _ hc e _=>k b o (λz=>hc (by simp [z])) e) (λb o _ _ hc e _=>⟨o.slots,k b o (λz=>hc (by simp [z])) e⟩) (λ_ _ _ _ n=>n)
  (λb o hc e=>⟨o,k b o (λz=>hc (by simp [z])) e⟩) (λ_ _ e=>e) (λ_ _ _ e=>e) (λb ps e=>⟨#[],by rw[e]; simp⟩) (λm hm=>?_) (λb u e=>?_) I.bare
 ·have e:b=it:=by simpa using hb
  subst e
  exact ⟨h1,hL,h2,h3⟩
 ·obtain ⟨o,es,ep,ho,r⟩:=hm
  exact ⟨o,es,ep,k _ o (Ny hL) ho,r⟩
 ·refine (I.hok b u e).stay (λc v hc q=>k c v ?_ q) (λ_ q=>q) λ_ _ q=>q
  rcases hc with z | z
  ·rw[z]; exact nit b u e
  ·exact nit c _ z
theorem Inv.tok(I:Inv X pins σ H s)(t:Nat):Inv X pins σ H { s with toks:=t }:=I.un (h':=s.heap) (t':=t) Un.refl I.hok
theorem Inv.kept{t':Nat}(I:Inv X pins σ H s)(k:∀b u,s.heap.get? b=some u->h'.get? b=some u):Inv X pins σ H { s with heap:=h',toks:=t' }:=I.un (Un.kept k) (I.hok.kept k)
theorem Inv.laid{a:Addr}{o:HO}{t':Nat}(I:Inv X pins σ H s)(k:∀b u,s.heap.get? b=some u->h'.get? b=some u)(hp:s.heap.objs.size<=a)(new:Kc X.prog X.w (upd H a o) h' a o):Inv X pins σ (upd H a o) { s with heap:=h',toks:=t' }:=I.un (Un.laid k hp (I.hok.fresh hp)) (I.hok.laid k hp new)
theorem Inv.write{x e:Addr}{o:HO}{t':Nat}(I:Inv X pins σ H s)(mu:R5 (H x))(he:e=x\/H e=some (.own x))(k:∀b u,b≠e->s.heap.get? b=some u->h'.get? b=some u)(heo:∃u,h'.get? e=some u)(new:Kc X.prog X.w (upd H x o) h' x o):Inv X pins σ (upd H x o) { s with heap:=h',toks:=t' }:=I.un (Un.write mu he k heo) (I.hok.write mu he k heo new)
theorem Inv.pins_of{pins':List (Addr×Obj)}(I:Inv X pins σ H s)(h:∀p∈pins',s.heap.get? p.1=some p.2/\H p.1=none/\p.1≠X.env.locals/\p.1∉X.fs/\∀v,p.2.data≠.cell v):Inv X pins' σ H s :=
 ⟨I.ok,I.os,I.bare,I.base,I.loc,I.cell,I.free,I.freeC,λp hp=>(Bi.mp hp).elim (λz=>I.pin p (Au _ z)) (h p),I.hok,I.len⟩
theorem eM{N:List Str}(hN:N.Nodup){i j:Nat}{x:Str}(a:N[i]? = some x)(b:N[j]? = some x):i=j:=by
 obtain ⟨h1,e1⟩:=Ah.mp a
 obtain ⟨h2,e2⟩:=Ah.mp b
 exact (List.getElem_inj hN).mp (e1.trans e2.symm)
theorem nA{M:Model}{A:Cr}{E:Value->Al->Prop}{i:Nat}{x:Str}{v:V}{u:Value}{Q:Unit->Al->Prop}(I:Inv X pins σ H s)(hN:X.N.Nodup)(hi:X.N[i]? = some x)(hx:Loc X.env.scope x)(r:RelV v u)(h:∀s',Inv X pins (σ.set i (some v)) H s'->(∃a,Wy a s.heap s'.heap/\(a=X.env.locals\/X.env.cells.lookup x=some a))->Q () s')(hf:X.fn x=true\/X.env.scope.names.lookup x=some .local:=by first | exact .inl rfl | exact .inr rfl | assumption):wpAny M A (storeName X.env x u) Q E s:=by
 obtain ⟨m,hn,hl⟩:=id I.loc
 have hcls:(X.env.scope.kind == .class || (X.env.scope.kind == .module && X.env.locals != X.env.globals))=false:=by rw[I.ok.kind]; rfl
 have hiσ:i<σ.length:=by rw[I.len]; exact (Ah.mp hi).1
 have cne:=I.cne
 have tracked:∀{a:Addr} {h':Heap},(∃o,s.heap.get? a=some o/\H a=none)->Wy a s.heap h'->Zx X.prog X.w H h':=λ{a h'} ha hs b ob e=>by
  obtain ⟨_,_,hfree⟩:=ha
  refine (I.hok b ob e).stay (λc w' hc q=>(hs.2 c ?_).trans q) (λ_ q=>q) λ_ _ q=>q
  rintro rfl
  rcases hc with rfl | hc
  ·rw[hfree] at e; cases e
  ·rw[hfree] at hc; cases hc
 rcases hx with hk | hk
 ·refine wpAny_storeName_local hk hn (λh' hn' hs=>?_) hcls
  obtain ⟨oL,_,_,hoL,_⟩:=id hn
  refine h _ ⟨I.ok,I.os,I.bare,⟨λb o e n hb hx=>?_,λb o e n hb hx=>?_,I.base.free,λb o e hx=>?_,I.base.tups,I.base.frzs,I.base.tbls⟩,⟨_,hn',λj y v' e1 e2 e3=>?_⟩,λy c e=>?_,I.free,I.freeC,λp hp=>?_,tracked ⟨oL,hoL,I.free⟩ hs,by simpa using I.len⟩ ⟨_,hs,.inl rfl⟩
  ·exact (hs.2 b (Cq (Cj (Bf e) I.ok.above))).trans (I.base.keep b o e n hb hx)
  ·obtain ⟨sl,e1⟩:=I.base.slot b o e n hb hx
   exact ⟨sl,(hs.2 b (Cq (Cj (Bf e) I.ok.above))).trans e1⟩
  ·obtain ⟨o',e1⟩:=I.base.there b o e hx
   exact ⟨o',(hs.2 b (Cq (Cj (Bf e) I.ok.above))).trans e1⟩
  ·by_cases hj:j=i
   ·subst hj
    rw[hi] at e1; cases e1
    rw[jV hiσ] at e2
    cases e2
    exact ⟨u,r,.inl ⟨hk,by simp⟩⟩
   ·rw[List.getElem?_set_ne (Ny hj)] at e2
    obtain ⟨u',r',q⟩:=hl j y v' e1 e2 e3
    refine ⟨u',r',?_⟩
    rcases q with ⟨k,e⟩ | ⟨k,c,e,z⟩
    ·refine .inl ⟨k,?_⟩
     have : y≠x:=λe=>hj (eM hN e1 (e▸hi))
     simp [this,e]
    ·exact .inr ⟨k,c,e,z.sameBut hs (cne y c e)⟩
  ·obtain ⟨w',z⟩:=I.cell y c e
   exact ⟨w',z.sameBut hs (cne y c e)⟩
  ·obtain ⟨e,n,ne,nf,d⟩:=I.pin p hp
   exact ⟨(hs.2 p.1 ne).trans e,n,ne,nf,d⟩
 ·have hfn:X.fn x=true:=by
   rcases hf with z | z
   ·exact z
   ·rw[z] at hk; cases hk
  obtain ⟨c,hc⟩:=I.ok.has x (.inl hk)
  obtain ⟨w',z⟩:=I.cell x c hc
  refine wpAny_storeName_cell I.ok.kind hk hc z (λh' hc' hs=>?_)
  obtain ⟨oc,hoc,hocd⟩:=id z
  refine h { s with heap:=h' } ⟨I.ok,I.os,I.bare,⟨λb o e n hb hx=>?_,λb o e n hb hx=>?_,I.base.free,λb o e hx=>?_,I.base.tups,I.base.frzs,I.base.tbls⟩,⟨m,hn.sameBut hs (Ny (cne x c hc)),λj y v' e1 e2 e3=>?_⟩,λy c' e=>?_,I.free,I.freeC,λp hp=>?_,tracked ⟨oc,hoc,I.freeC x c hc⟩ hs,by simpa using I.len⟩ ⟨c,hs,.inr hc⟩
  ·exact (hs.2 b (Cq (Cj (Bf e) (I.ok.cab x c hfn hc)))).trans (I.base.keep b o e n hb hx)
  ·obtain ⟨sl,e1⟩:=I.base.slot b o e n hb hx
   exact ⟨sl,(hs.2 b (Cq (Cj (Bf e) (I.ok.cab x c hfn hc)))).trans e1⟩
  ·obtain ⟨o',e1⟩:=I.base.there b o e hx
   exact ⟨o',(hs.2 b (Cq (Cj (Bf e) (I.ok.cab x c hfn hc)))).trans e1⟩
  ·by_cases hj:j=i
   ·subst hj
    rw[hi] at e1; cases e1
    rw[jV hiσ] at e2
    cases e2
    exact ⟨u,r,.inr ⟨.inl hk,c,hc,hc'⟩⟩
   ·rw[List.getElem?_set_ne (Ny hj)] at e2
    obtain ⟨u',r',q⟩:=hl j y v' e1 e2 e3
    refine ⟨u',r',?_⟩
    rcases q with q | ⟨k,c',e,z'⟩
    ·exact .inl q
    ·refine .inr ⟨k,c',e,z'.sameBut hs ?_⟩
     rintro rfl
     exact hj (eM hN e1 (I.ok.inj _ _ _ e hc▸hi))
  ·by_cases hcc:c'=c
   ·subst hcc; exact ⟨_,hc'⟩
   ·obtain ⟨w2,z2⟩:=I.cell y c' e
    exact ⟨w2,z2.sameBut hs hcc⟩
  ·obtain ⟨e,n,ne,nf,d⟩:=I.pin p hp
   refine ⟨(hs.2 p.1 ?_).trans e,n,ne,nf,d⟩
   intro q
   rw[q,hoc] at e
   have q':oc=p.2:=Bo e
   exact d w' (by rw[<- q']; exact hocd)
theorem eQ{M:Model}{A:Cr}{E:Value->Al->Prop}{i:Nat}{x:Str}{v:V}{u:Value}{Q:Unit->Al->Prop}(I:Inv X pins σ H s)(hN:X.N.Nodup)(hi:X.N[i]? = some x)(hx:Loc X.env.scope x)(r:RelV v u)(h:∀s',Inv X pins (σ.set i (some v)) H s'->Q () s')(hf:X.fn x=true\/X.env.scope.names.lookup x=some .local:=by first | exact .inl rfl | exact .inr rfl | assumption):wpAny M A (storeName X.env x u) Q E s :=
 nA I hN hi hx r (λs' I' _=>h s' I') hf
theorem Inv.call'{s':Al}{ch:List Addr}(I:Inv X pins σ H s)(ho:s'.os=s.os)(u:Un (mF X.stack) ch H H' s.heap s'.heap)(hok:Zx X.prog X.w H' s'.heap)(hg:Rj s'.gens)(hch:∀b∈ch,(b∈X.ex\/X.s₀.heap.objs.size<=b)/\b≠X.env.locals/\(∀x c,X.env.cells.lookup x=some c->c≠b)/\∀p∈X.pn++pins,p.1≠b):Inv X pins σ H' s':=by
 obtain ⟨h',g',d',t',o'⟩:=s'
 have e:o'=s.os:=ho
 subst e
 exact I.call (g':=g') (t':=t') (d':=d') u hok hg hch
end
abbrev XK:=Value->Option Addr->Hp->Prop
abbrev St:=List (Option V)
abbrev VK:=V->Hp->Prop
abbrev TE:=St->Hp->VK->Prop
abbrev TT:=St->Hp->(Bool->Hp->Prop)->Prop
abbrev TA:=St->Hp->(List V->Hp->Prop)->Prop
structure Ends where
 nx:St->Hp->Prop
 rt:VK
 bk:St->Hp->Prop:=λ_ _=>False
 ct:St->Hp->Prop:=λ_ _=>False
abbrev TS:=Ends->St->Hp->Prop
def EP(X:Cx)(pins:List (Addr×Obj))(σ:St)(Q:VK)(u:Value)(s':Al):Prop:=∃v H',Inv X pins σ H' s'/\RelV v u/\Q v H'
def TP(X:Cx)(pins:List (Addr×Obj))(σ:St)(Q:Bool->Hp->Prop)(b:Bool)(s':Al):Prop:=∃H',Inv X pins σ H' s'/\Q b H'
def AP(X:Cx)(pins:List (Addr×Obj))(σ:St)(Q:List V->Hp->Prop)(us:List Value)(s':Al):Prop:=∃vs H',Inv X pins σ H' s'/\Fi vs us/\Q vs H'
def SP(X:Cx)(pins:List (Addr×Obj))(D:Ends)(f:Flow)(s':Al):Prop :=
 match f with
 | .next=>∃σ' H',Inv X pins σ' H' s'/\D.nx σ' H'
 | .brk=>∃σ' H',Inv X pins σ' H' s'/\D.bk σ' H'
 | .cont=>∃σ' H',Inv X pins σ' H' s'/\D.ct σ' H'
 | .ret u=>∃v σ' H',Inv X pins σ' H' s'/\RelV v u/\D.rt v H'
def PE(X:Cx)(e:Expr)(t:TE):Prop :=
 ∀(pins:List (Addr×Obj)) (s:Al) (σ:St) (H:Hp) (Q:VK),Inv X pins σ H s->t σ H Q->wpAny (model X.prog X.w) X.A (eval e X.env) (EP X pins σ Q) X.xe s
def PT(X:Cx)(e:Expr)(t:TT):Prop :=
 ∀(pins:List (Addr×Obj)) (s:Al) (σ:St) (H:Hp) (Q:Bool->Hp->Prop),Inv X pins σ H s->t σ H Q->wpAny (model X.prog X.w) X.A (isTrue e X.env (eval e X.env)) (TP X pins σ Q) X.xe s
def PW(X:Cx)(e:Expr)(t:TT):Prop :=
 ∀(whole:Sem Value) (pins:List (Addr×Obj)) (s:Al) (σ:St) (H:Hp) (Q:Bool->Hp->Prop),Inv X pins σ H s->t σ H Q->wpAny (model X.prog X.w) X.A (isTrue e X.env whole) (TP X pins σ Q) X.xe s
theorem PW.pt{X:Cx}{e:Expr}{t:TT}(h:PW X e t):PT X e t:=h _
def PA(X:Cx)(es:List Expr)(t:TA):Prop :=
 ∀(pos:Pos) (pins:List (Addr×Obj)) (s:Al) (σ:St) (H:Hp) (Q:List V->Hp->Prop),Inv X pins σ H s->t σ H Q->wpAny (model X.prog X.w) X.A (spliced (Ih pos (Bs es X.env))) (AP X pins σ Q) X.xe s
def PS(X:Cx)(st:Stmt)(t:TS):Prop :=
 ∀(pins:List (Addr×Obj)) (s:Al) (σ:St) (H:Hp) (D:Ends),Inv X pins σ H s->t D σ H->wpAny (model X.prog X.w) X.A (exec st X.env) (SP X pins D) X.xe s
def gU(X:Cx)(st:List Stmt)(t:TS):Prop :=
 ∀(pins:List (Addr×Obj)) (s:Al) (σ:St) (H:Hp) (D:Ends),Inv X pins σ H s->t D σ H->wpAny (model X.prog X.w) X.A (execs st X.env) (SP X pins D) X.xe s
theorem Jo{α:Type}{t:Sem α}{Q Q':α->Al->Prop}{M:Model}{A:Cr}{E:Value->Al->Prop}{s:Al}(h:wpAny M A t Q E s)(hQ:∀a s,Q a s->Q' a s):wpAny M A t Q' E s:=Ez h hQ λ_ _ x=>x
section
variable{X:Cx}
def gI(i:Nat):TE:=λσ H Q=>∃v,σ[i]? = some (some v)/\Q v H
def tC(v:V):TE:=λ_ H Q=>Q v H
theorem n4{i:Nat}{x:Str}{pos:Pos}(hN:X.N[i]? = some x)(hv:R9 X.env.scope x)(hd:(x == ("__debug__" : Str))=false:=by decide)(hcd:(x == ("__classdict__" : Str))=false:=by decide):PE X (.Name x pos) (gI i):=by
 intro pins s σ H Q I h
 obtain ⟨v,e,h⟩:=h
 obtain ⟨m,hn,hl⟩:=I.loc
 obtain ⟨u,r,l⟩:=hl i x v hN e hv
 have fin:EP X pins σ Q u s:=⟨v,H,I,r,h⟩
 rcases l with ⟨hk,hm⟩ | ⟨hk,c,hc,hcell⟩
 ·exact Px (Wi I.ok.kind hk hn hm fin) hd
 ·rcases hk with hk | hk
  ·exact Px (wpAny_loadName_cell I.ok.kind hk hc hcell fin) hd
  ·exact Px (Xo I.ok.kind hk hc hcell fin hcd) hd
theorem Dc{i j pos}:PE X (.Constant (.int i) j pos) (tC (.int i)):=λ_ _ _ H _ I h=>wpAny_Constant_int ⟨.int i,H,I.tok _,⟨_,rfl⟩,h⟩
theorem sN{b j pos}:PE X (.Constant (.bool b) j pos) (tC (.bl b)):=λ_ _ _ H _ I h=>Constant_bool ⟨.bl b,H,I,rfl,h⟩
theorem zS{j pos}:PE X (.Constant .none j pos) (tC .non):=λ_ _ _ H _ I h=>Constant_none ⟨.non,H,I,rfl,h⟩
theorem zY{x j pos}:PE X (.Constant (.str x) j pos) (tC (.str x)):=λ_ _ _ H _ I h=>Calls.Constant_str ⟨.str x,H,I.tok _,⟨_,rfl⟩,h⟩
def Gl(X:Cx)(x:Str):Prop:=X.env.kindOf x=some .globalImplicit
theorem vI{E:Value->Al->Prop}{pins:List (Addr×Obj)}{s:Al}{σ:St}{H:Hp}{x:Str}{u:Value}{pos:Pos}{Q:Value->Al->Prop}(I:Inv X pins σ H s)(hg:Gl X x)(hm:X.mg x=some u)(h:Q u s)(hd:(x == ("__debug__" : Str))=false:=by decide):wpAny (model X.prog X.w) X.A (eval (.Name x pos) X.env) Q E s :=
 Nm I.ok.kind hg (Calls.loadGlobal_global (by rw[I.ok.glob]; exact I.mod.glob.keeps I.bk) hm h) hd
theorem Qq{E:Value->Al->Prop}{pins:List (Addr×Obj)}{s:Al}{σ:St}{H:Hp}{x:Str}{u:Value}{pos:Pos}{Q:Value->Al->Prop}(I:Inv X pins σ H s)(hg:Gl X x)(hm:X.mg x=none)(hv:Ig x=some u)(h:Q u s)(hn:x ≠ "__name__" := by decide)(hd:(x == ("__debug__" : Str))=false:=by decide):wpAny (model X.prog X.w) X.A (eval (.Name x pos) X.env) Q E s:=by
 obtain ⟨mb,h1,h2⟩:=I.mod.blt
 exact Nm I.ok.kind hg (eG (by rw[I.ok.glob]; exact I.mod.glob.keeps I.bk) hm (by rw[I.ok.blt]; exact h1.keeps I.bk) ((h2 x hn).trans hv) h) hd
theorem vK{x:Str}{v:V}{u:Value}{pos:Pos}(hg:Gl X x)(hm:X.mg x=none)(hv:Ig x=some u)(r:RelV v u)(hn:x ≠ "__name__" := by decide)(hd:(x == ("__debug__" : Str))=false:=by decide):PE X (.Name x pos) (tC v) :=
 λ_ _ _ H _ I h=>Qq I hg hm hv ⟨v,H,I,r,h⟩ hn hd
variable{a b:Expr}{ta tb:TE}{pos:Pos}
def tB(t:TE):TT:=λσ H Q=>t σ H λx H1=>∃c,x=.bl c/\Q c H1
theorem iF{e:Expr}{t:TE}(h:PE X e t)(he:∀whole,isTrue e X.env whole=(do let v <- whole; standAt e.pos; Lu [v] (truthy v)):=by intro _; rfl):PT X e (tB t):=by
 intro pins s σ H Q I hw
 refine isTrue_plain (Jo (h pins s σ H _ I hw) λv s1 ⟨x,H1,I1,r1,q1⟩=>?_) (he _)
 obtain ⟨d,rfl,q⟩:=q1
 cases r1
 exact Fl ⟨H1,I1,q⟩
variable{tA tB':TT}{Ft:List Expr}
def T8(t u:TT):TT:=λσ H Q=>t σ H λc H1=>if c=true then u σ H1 Q else Q false H1
def Z1(t u:TT):TT:=λσ H Q=>t σ H λc H1=>if c=true then Q true H1 else u σ H1 Q
def S8(t:TT):TT:=λσ H Q=>t σ H λc H1=>Q (!c) H1
theorem uG(ha:PT X a tA):PW X (.BoolOp .And [a] pos) tA:=by
 intro wh pins s σ H Q I h
 refine isTrue_and (Jo (ha pins s σ H Q I h) λc s1 e=>?_)
 cases c with
 | true=>exact isTrue_and_nil e
 | false=>exact e
theorem zZ(ha:PT X a tA):PW X (.BoolOp .Or [a] pos) tA:=by
 intro wh pins s σ H Q I h
 refine isTrue_or (Jo (ha pins s σ H Q I h) λc s1 e=>?_)
 cases c with
 | false=>exact isTrue_or_nil e
 | true=>exact e
theorem A8(ha:PT X a tA)(hb:PW X (.BoolOp .And (b::Ft) pos) tB'):PW X (.BoolOp .And (a::b::Ft) pos) (T8 tA tB'):=by
 intro wh pins s σ H Q I h
 refine isTrue_and (Jo (ha pins s σ H _ I h) λc s1 q0_ => ?_)
 obtain ⟨H1,I1,q1⟩ := q0_
 cases c with
 | true=>exact hb wh pins s1 σ H1 Q I1 q1
 | false=>exact ⟨H1,I1,q1⟩
theorem P4(ha:PT X a tA)(hb:PW X (.BoolOp .Or (b::Ft) pos) tB'):PW X (.BoolOp .Or (a::b::Ft) pos) (Z1 tA tB'):=by
 intro wh pins s σ H Q I h
 refine isTrue_or (Jo (ha pins s σ H _ I h) λc s1 q0_ => ?_)
 obtain ⟨H1,I1,q1⟩ := q0_
 cases c with
 | true=>exact ⟨H1,I1,q1⟩
 | false=>exact hb wh pins s1 σ H1 Q I1 q1
theorem zF(ha:PT X a tA):PT X (.UnaryOp .Not a pos) (S8 tA):=by
 intro pins s σ H Q I h
 exact isTrue_not (ha pins s σ H (λc H1=>Q (!c) H1) I h)
def K9(ta tb:TE):TE:=λσ H Q=>ta σ H λx H1=>∃c,x=.bl c/\if c=true then tb σ H1 Q else Q (.bl false) H1
def J6(ta:TE):TE:=λσ H Q=>ta σ H λx H1=>∃c,x=.bl c/\Q (.bl (!c)) H1
theorem i4{op}{t:TE}(h:PE X a t):PE X (.BoolOp op [a] pos) t:=λpins s σ H Q I hw=>BoolOp_one (h pins s σ H Q I hw)
theorem A4(ha:PE X a ta)(hb:PE X (.BoolOp .And (b::Ft) pos) tb):PE X (.BoolOp .And (a::b::Ft) pos) (K9 ta tb):=by
 intro pins s σ H Q I h
 refine BoolOp_and (Jo (ha pins s σ H _ I h) λv s1 q0_ => ?_)
 obtain ⟨x,H1,I1,r1,q1⟩ := q0_
 obtain ⟨c,rfl,q1⟩:=q1
 cases r1
 refine Fl ?_
 cases c with
 | true=>exact hb pins s1 σ H1 Q I1 q1
 | false=>exact ⟨.bl false,H1,I1,rfl,q1⟩
theorem i9(ha:PE X a ta):PE X (.UnaryOp .Not a pos) (J6 ta):=by
 intro pins s σ H Q I h
 refine UnaryOp_ (Jo (ha pins s σ H _ I h) λv s1 q0_ => ?_)
 obtain ⟨x,H1,I1,r1,q1⟩ := q0_
 obtain ⟨c,rfl,q1⟩:=q1
 cases r1
 exact not_of (Fl ⟨.bl (!c),H1,I1,rfl,q1⟩)
def Z6(t:TT)(ta tb:TE):TE:=λσ H Q=>t σ H λc H1=>if c=true then ta σ H1 Q else tb σ H1 Q
theorem tH{c:Expr}(hc:PT X c tA)(ha:PE X a ta)(hb:PE X b tb):PE X (.IfExp c a b pos) (Z6 tA ta tb):=by
 intro pins s σ H Q I h
 refine wpAny_IfExp (Jo (hc pins s σ H _ I h) λd s1 q0_ => ?_)
 obtain ⟨H1,I1,q1⟩ := q0_
 cases d with
 | true=>exact ha pins s1 σ H1 Q I1 q1
 | false=>exact hb pins s1 σ H1 Q I1 q1
end
def Pu(K:PySem.W.Frag)(H:Hp)(a:Addr)(xs:List V):Prop :=
 Rd H a (.lst xs) \/
  ∃(o:Obj) (its:Array Value) (n:Nat),K.lookup a=some o/\o.cls=.type "list" /\ o.dict=none/\o.data=.seq its n/\its.size<=Be/\Fi xs its.toList
def Se(K:PySem.W.Frag)(H:Hp)(a:Addr)(xs:List V):Prop :=
 Rd H a (.tup xs) \/
  ∃(o:Obj) (its:Array Value) (n:Nat),K.lookup a=some o/\o.cls=.type "tuple" /\ o.data=.seq its n/\its.size<=Be/\Fi xs its.toList
def V7:Value->Option V
 | .none=>some .non
 | .bool b=>some (.bl b)
 | .int i _=>some (.int i)
 | .str x _=>some (.str x)
 | .bytes b _=>some (.byt b)
 | .float b _=>some (.flt b)
 | .ref a=>some (.ref a)
 | .type n=>some (.ty n)
 | _=>none
theorem RelV.abs{x:V}{u:Value}(r:RelV x u):V7 u=some x:=by
 cases x with
 | non=>cases r; rfl
 | bl _=>cases r; rfl
 | int _=>obtain ⟨t,rfl⟩:=r; rfl
 | str _=>obtain ⟨t,rfl⟩:=r; rfl
 | byt _=>obtain ⟨t,rfl⟩:=r; rfl
 | flt _=>obtain ⟨t,rfl⟩:=r; rfl
 | ref _=>cases r; rfl
 | ty _=>cases r; rfl
theorem RelV.inj{x y:V}{u:Value}(r:RelV x u)(q:RelV y u):x=y:=Bo (r.abs.symm.trans q.abs)
theorem Fi.inj:∀{xs ys:List V} {us:List Value},Fi xs us->Fi ys us->xs=ys
 | _,_,_,.nil,.nil=>rfl
 | _,_,_,.cons r t,.cons r' t'=>by rw[r.inj r',Fi.inj t t']
section
variable{X:Cx}{pins:List (Addr×Obj)}{σ:St}{H:Hp}{s:Al}{a:Addr}{xs ys:List V}
theorem Pu.of{K:PySem.W.Frag}(h:H a=some (.lst xs)):Pu K H a xs:=.inl (.inl h)
theorem Se.of{K:PySem.W.Frag}(h:H a=some (.tup xs)):Se K H a xs:=.inl (.inl h)
theorem Inv.list(I:Inv X pins σ H s)(h:Pu X.K H a xs):∃its:List Value,Fi xs its/\PlainL s.heap a its.toArray/\xs.length<=Be:=by
 rcases h with h | ⟨o,its,n,hk,hc,hd,hs,hz,r⟩
 ·obtain ⟨z,its,n,r,e⟩:=h.ok I.hok
  exact ⟨its,r,⟨_,n,e,rfl,rfl,rfl⟩,z⟩
 ·refine ⟨its.toList,r,⟨o,n,I.kIn a o hk,hc,hd,by simpa using hs⟩,?_⟩
  have e:=r.length
  simp only[Aw] at e
  omega
theorem Inv.tuple(I:Inv X pins σ H s)(h:Se X.K H a xs):∃its:List Value,Fi xs its/\IsTup s.heap a its.toArray/\xs.length<=Be:=by
 rcases h with h | ⟨o,its,n,hk,hc,hs,hz,r⟩
 ·obtain ⟨z,its,r,p⟩:=h.ok I.hok
  exact ⟨its,r,p,z⟩
 ·refine ⟨its.toList,r,⟨o,I.kIn a o hk,hc,n,by simpa using hs⟩,?_⟩
  have e:=r.length
  simp only[Aw] at e
  omega
theorem Inv.list_inj(I:Inv X pins σ H s)(h:Pu X.K H a xs)(h':Pu X.K H a ys):xs=ys:=by
 obtain ⟨its,r,⟨o,n,e,_,_,d⟩,_⟩:=I.list h
 obtain ⟨its',r',⟨o',n',e',_,_,d'⟩,_⟩:=I.list h'
 rw[e] at e'; cases e'
 rw[d] at d'
 injection d' with d1 _
 have : its=its':=by simpa using congrArg Array.toList d1
 subst this
 exact r.inj r'
theorem Inv.tuple_inj(I:Inv X pins σ H s)(h:Se X.K H a xs)(h':Se X.K H a ys):xs=ys:=by
 obtain ⟨its,r,⟨o,e,_,n,d⟩,_⟩:=I.tuple h
 obtain ⟨its',r',⟨o',e',_,n',d'⟩,_⟩:=I.tuple h'
 rw[e] at e'; cases e'
 rw[d] at d'
 injection d' with d1 _
 have : its=its':=by simpa using congrArg Array.toList d1
 subst this
 exact r.inj r'
end
abbrev Cx.wish(X:Cx)(E:Value->Al->Prop):Cx:={ X with xe:=E }
abbrev Cx.nox(X:Cx):Cx:=X.wish λ_ _=>False
theorem Cx.Ok.wish{X:Cx}(ok:X.Ok)(E:Value->Al->Prop):(X.wish E).Ok :=
 ⟨ok.mod,ok.kind,ok.glob,ok.blt,ok.above,ok.inj,ok.has,ok.cab,ok.hd,ok.frames,ok.stk,ok.exf,ok.bs,ok.bsz,ok.noex,ok.exfs,ok.funs,ok.frf,ok.tab⟩
theorem Cx.Ok.unwish{X:Cx}{E:Value->Al->Prop}(ok:(X.wish E).Ok):X.Ok :=
 ⟨ok.mod,ok.kind,ok.glob,ok.blt,ok.above,ok.inj,ok.has,ok.cab,ok.hd,ok.frames,ok.stk,ok.exf,ok.bs,ok.bsz,ok.noex,ok.exfs,ok.funs,ok.frf,ok.tab⟩
section
variable{X:Cx}{pins:List (Addr×Obj)}{σ:St}{H:Hp}{s:Al}{E:Value->Al->Prop}
theorem Inv.wish(I:Inv X pins σ H s)(E:Value->Al->Prop):Inv (X.wish E) pins σ H s:=⟨I.ok.wish E,I.os,I.bare,I.base,I.loc,I.cell,I.free,I.freeC,I.pin,I.hok,I.len⟩
theorem Inv.unwish(I:Inv (X.wish E) pins σ H s):Inv X pins σ H s:=⟨I.ok.unwish,I.os,I.bare,I.base,I.loc,I.cell,I.free,I.freeC,I.pin,I.hok,I.len⟩
theorem SP.unwish{D:Ends}{f:Flow}{s':Al}(h:SP (X.wish E) pins D f s'):SP X pins D f s':=by
 cases f with
 | next=>obtain ⟨σ',H',I,q⟩:=h; exact ⟨σ',H',I.unwish,q⟩
 | brk=>obtain ⟨σ',H',I,q⟩:=h; exact ⟨σ',H',I.unwish,q⟩
 | cont=>obtain ⟨σ',H',I,q⟩:=h; exact ⟨σ',H',I.unwish,q⟩
 | ret u=>obtain ⟨v,σ',H',I,r,q⟩:=h; exact ⟨v,σ',H',I.unwish,r,q⟩
theorem gU.nox{st:List Stmt}{t:TS}(h:gU X.nox st t):gU X st t:=λpins s σ H D I hw =>
 Ez (h pins s σ H D (I.wish _) hw) (λ_ _ q=>q.unwish) λ_ _ z=>Iy z
end
section
variable{X:Cx}{st:Stmt}{Ft:List Stmt}{t u:TS}{e:Expr}{te:TE}{pos:Pos}
def F3:TS:=λD σ H=>D.nx σ H
def W5(t u:TS):TS:=λD σ H=>t { D with nx:=u D } σ H
theorem Xb:gU X [] F3:=λ_ _ σ H _ I h=>wpAny_execs_nil ⟨σ,H,I,h⟩
theorem Fq(h1:PS X st t)(h2:gU X Ft u):gU X (st::Ft) (W5 t u):=by
 intro pins s σ H D I h
 refine wpAny_execs_cons (Jo (h1 pins s σ H { D with nx:=u D } I h) λf s1 q=>?_)
 cases f with
 | next =>
  obtain ⟨σ',H',I',q⟩:=q
  exact h2 pins s1 σ' H' D I' q
 | ret v=>exact q
 | brk=>exact q
 | cont=>exact q
theorem Pi(h1:PS X st t):gU X [st] t:=by
 intro pins s σ H D I h
 refine wpAny_execs_cons (Jo (h1 pins s σ H D I h) λf s1 q=>?_)
 cases f with
 | next=>exact wpAny_execs_nil q
 | ret v=>exact q
 | brk=>exact q
 | cont=>exact q
theorem Inv.quiet{pins:List (Addr×Obj)}{σ:St}{H:Hp}{s:Al}(I:Inv X pins σ H s):interactive X.env=false:=by simp [interactive,I.ok.kind]
def G4(te:TE):TS:=λD σ H=>te σ H λ_ H1=>D.nx σ H1
theorem vX(he:PE X e te)(hs:Sq e none pos.line X.env=pure false:=by rfl):PS X (.Expr e pos) (G4 te):=by
 intro pins s σ H D I h
 exact wpAny_Expr_any (Jo (he pins s σ H _ I h) λv s1 ⟨x,H1,I1,r1,q1⟩=>⟨σ,H1,I1,q1⟩) I.quiet hs
def V2(te:TE):TS:=λD σ H=>te σ H D.rt
theorem Ta(he:PE X e te):PS X (.Return (some e) pos) (V2 te):=by
 intro pins s σ H D I h
 exact wpAny_Return_some (Jo (he pins s σ H _ I h) λv s1 ⟨x,H1,I1,r1,q1⟩=>⟨x,σ,H1,I1,r1,q1⟩)
def T1(c:TT)(t u:TS):TS:=λD σ H=>c σ H λb H1=>if b=true then t D σ H1 else u D σ H1
theorem lH{c:Expr}{a b:List Stmt}{tc:TT}(hc:PT X c tc)(ha:gU X a t)(hb:gU X b u):PS X (.If c a b pos) (T1 tc t u):=by
 intro pins s σ H D I h
 refine wpAny_If (Jo (hc pins s σ H _ I h) λd s1 q0_ => ?_)
 obtain ⟨H1,I1,q1⟩ := q0_
 cases d with
 | true=>exact ha pins s1 σ H1 D I1 q1
 | false=>exact hb pins s1 σ H1 D I1 q1
end
abbrev TG:=V->St->Hp->(St->Hp->Prop)->Prop
abbrev xE:=List V->St->Hp->(St->Hp->Prop)->Prop
def PG(X:Cx)(target:Expr)(t:TG):Prop :=
 ∀(pins:List (Addr×Obj)) (s:Al) (σ:St) (H:Hp) (v:V) (u:Value) (Q:St->Hp->Prop),Inv X pins σ H s->RelV v u->t v σ H Q ->
  wpAny (model X.prog X.w) X.A (Wm target X.env u) (λ_ s'=>∃σ' H',Inv X pins σ' H' s'/\Q σ' H') X.xe s
def x9(X:Cx)(ts:List Expr)(t:xE):Prop :=
 ∀(pins:List (Addr×Obj)) (s:Al) (σ:St) (H:Hp) (vs:List V) (us:List Value) (Q:St->Hp->Prop),Inv X pins σ H s->Fi vs us->t vs σ H Q ->
  wpAny (model X.prog X.w) X.A (assignInOrder ((Ii ts X.env).map (·.2)) us) (λ_ s'=>∃σ' H',Inv X pins σ' H' s'/\Q σ' H') X.xe s
abbrev B7:=V->V->V->Hp->(Hp->Prop)->Prop
def G6(X:Cx)(t:B7):Prop :=
 ∀(pins:List (Addr×Obj)) (s:Al) (σ:St) (H:Hp) (o i v:V) (ov iv u:Value) (Q:Hp->Prop),Inv X pins σ H s->RelV o ov->RelV i iv->RelV v u->t o i v H Q ->
  wpAny (model X.prog X.w) X.A (setItem ov iv u) (λ_ s'=>∃H',Inv X pins σ H' s'/\Q H') X.xe s
section
variable{X:Cx}{pos:Pos}
def Qv(i:Nat):TG:=λv σ H Q=>Q (σ.set i (some v)) H
theorem Rw{i:Nat}{x:Str}(hN:X.N.Nodup)(hi:X.N[i]? = some x)(hx:Loc X.env.scope x)(hf:X.fn x=true\/X.env.scope.names.lookup x=some .local:=by first | exact .inl rfl | exact .inr rfl | assumption):PG X (.Name x pos) (Qv i):=by
 intro pins s σ H v u Q I r h
 exact wpAny_assign_Name (eQ I hN hi hx r (λs' I'=>⟨_,H,I',h⟩) hf)
def z0:xE:=λvs σ H Q=>vs=[]/\Q σ H
def fH(t:TG)(u:xE):xE:=λvs σ H Q=>∃v r,vs=v::r/\t v σ H λσ' H'=>u r σ' H' Q
theorem kR:x9 X [] z0:=by
 intro pins s σ H vs us Q I r h
 obtain ⟨e,h⟩:=h
 subst e
 cases r
 exact assignInOrder_nil ⟨σ,H,I,h⟩
theorem Ze{e:Expr}{es:List Expr}{t:TG}{u:xE}(h1:PG X e t)(h2:x9 X es u)(hs:(Ii (e::es) X.env).map (·.2)=Wm e X.env::(Ii es X.env).map (·.2):=by rfl):x9 X (e::es) (fH t u):=by
 intro pins s σ H vs us Q I r h
 obtain ⟨v,vr,e1,h⟩:=h
 subst e1
 cases r with
 | cons r rr =>
  rw[hs]
  refine assignInOrder_cons (Jo (h1 pins s σ H _ _ _ I r h) λ_ s1 q0_ => ?_)
  obtain ⟨σ1,H1,I1,q1⟩ := q0_
  exact h2 pins s1 σ1 H1 _ _ Q I1 rr q1
def C2(K:PySem.W.Frag)(n:Nat)(t:xE):TG:=λv σ H Q=>∃a xs,v=.ref a/\Se K H a xs/\xs.length=n/\t xs σ H Q
theorem rG{es:List Expr}{k:Nat}{t:xE}{n:Nat}(hc:X.calm=true)(h:x9 X es t)(hn:(Ii es X.env).length=n:=by rfl)(hst:(Ii es X.env).findIdx? (·.1)=none:=by rfl):PG X (.Tuple es k pos) (C2 X.K n t):=by
 intro pins s σ H v u Q I r hw
 obtain ⟨a,xs,e1,hq,hl,hw⟩:=hw
 subst e1
 cases r
 obtain ⟨its,rv,ht,hz⟩:=I.tuple hq
 refine assign_Tuple_tuple (I.ok.hd hc) ht (by simp [hn,<- hl,rv.length]) hst λh' hx=>?_
 have I1:Inv X pins σ H { s with heap:=h' }:=I.kept (t':=s.toks) λb o e=>hx b o (Cq (Bf e)) e
 exact h pins _ σ H xs _ Q I1 (by simpa using rv) hw
def U9(to ti:TE)(t:B7):TG:=λv σ H Q=>to σ H λo H1=>ti σ H1 λi H2=>t o i v H2 λH3=>Q σ H3
theorem Zi{o i:Expr}{to ti:TE}{t:B7}(ho:PE X o to)(hi:PE X i ti)(hs:G6 X t)
  (ha:∀v,Wm (.Subscript o i pos) X.env v=(do
   let ov <- Lu [v] (eval o X.env)
   let iv <- Lu [v,ov] (eval i X.env)
   standAt pos
   Lu [v,ov,iv] (setItem ov iv v)
   release [v,ov,iv] []):=by intro _; rfl):PG X (.Subscript o i pos) (U9 to ti t):=by
 intro pins s σ H v u Q I r h
 rw[ha]
 refine Ag (Em (Jo (ho pins s σ H _ I h) λov s1 q0_ => ?_))
 obtain ⟨x,H1,I1,r1,q1⟩ := q0_
 refine Ag (Em (Jo (hi pins s1 σ H1 _ I1 q1) λiv s2 q0_ => ?_))
 obtain ⟨y,H2,I2,r2,q2⟩ := q0_
 refine Ag (wpAny_standAt (Ag (Em (Jo (hs pins s2 σ H2 x y v ov iv u _ I2 r1 r2 r q2) λ_ s3 q0_ => ?_))))
 obtain ⟨H3,I3,q3⟩ := q0_
 exact wpAny_release ⟨σ,H3,I3,q3⟩
def uS(te:TE)(g:TG):TS:=λD σ H=>te σ H λx H1=>g x σ H1 D.nx
theorem Zd{tg e:Expr}{te:TE}{g:TG}(he:PE X e te)(hg:PG X tg g)(hs:swapsWithSole [tg] e pos.line X.env=pure false:=by rfl)(hw:swappedStores [tg] e X.env=pure none:=by rfl)(h1:(Ii [tg] X.env).map (·.2)=[Wm tg X.env]:=by rfl):PS X (.Assign [tg] e pos) (uS te g):=by
 intro pins s σ H D I h
 refine wpAny_Assign_stores (Jo (he pins s σ H _ I h) λv s1 ⟨x,H1,I1,r1,q1⟩=>?_) hs hw
 rw[h1]
 exact Jo (hg pins s1 σ H1 x v _ I1 r1 q1) λ_ s2 q=>q
theorem Nq{i:Nat}{x:Str}{e:Expr}{te:TE}{pos':Pos}(hN:X.N.Nodup)(hi:X.N[i]? = some x)(hx:Loc X.env.scope x)(he:PE X e te)(hs:Sq e (some (.Name x pos')) pos.line X.env=pure false:=by rfl)(hf:X.fn x=true\/X.env.scope.names.lookup x=some .local:=by first | exact .inl rfl | exact .inr rfl | assumption):PS X (.Assign [.Name x pos'] e pos) (uS te (Qv i)):=by
 intro pins s σ H D I h
 refine wpAny_Assign_Name (Jo (he pins s σ H _ I h) λv s1 ⟨y,H1,I1,r1,q1⟩=>?_) hs
 exact eQ I1 hN hi hx r1 (λs2 I2=>⟨_,H1,I2,q1⟩) hf
end
structure It where
 go:Nat->Hp->Prop
 yld:Nat->Hp->V->Hp->Prop
 stop:Nat->Hp->Prop
def On(X:Cx)(pins:List (Addr×Obj))(H:Hp)(b:Addr):Prop :=
 H b=none/\b≠X.env.locals/\b∉X.fs/\(b∈X.ex\/X.s₀.heap.objs.size<=b)/\(∀x c,X.env.cells.lookup x=some c->c≠b)/\∀p∈X.pn++pins,p.1≠b
theorem Inv.fpOk{X:Cx}{pins:List (Addr×Obj)}{σ:St}{H H':Hp}{s:Al}{b:Addr}(I:Inv X pins σ H s)(hb:s.heap.objs.size<=b)(hn:H' b=none):On X pins H' b:=by
 refine ⟨hn,Nat.ne_of_gt (Cj I.lt hb),I.nofs hb,.inr (Cm I.sz hb),λx c e z=>?_,λp hp z=>?_⟩
 ·obtain ⟨v,q⟩:=I.cell x c e
  exact absurd (Cj q.lt (by rw[z]; exact hb)) (Er _)
 ·exact absurd (Cj (Bf (I.pin p hp).1) (by rw[z]; exact hb)) (Er _)
structure Turn(P:Bp)(w:World)(K:PySem.W.Frag)(tg:Expr)(J:It)(fp:List Addr)(it:Addr)(tn:Nat->Heap->Prop):Prop where
 mem:it∈fp
 obj:∀i h,tn i h->∀b∈fp,∃o,h.get? b=some o/\∀v,o.data≠.cell v
 keep:∀i h h',tn i h->(∀b∈fp,∀o,h.get? b=some o->h'.get? b=some o)->tn i h'
 item:∀(X:Cx),X.prog=P->X.w=w->X.K=K->X.calm=true->∀(i:Nat) (pins:List (Addr×Obj)) (s:Al) (σ:St) (H:Hp) (E:Value->Al->Prop),Inv X pins σ H s->(∀b∈fp,On X pins H b)->tn i s.heap->J.go i H ->
  wpAny (model P w) X.A (pyNext (.ref it)) (λr s1=>∃u,r=some u /\
   wpAny (model P w) X.A (Us tg (.ref it) u) (λ_ s2=>∃x H',Inv X pins σ H' s2/\RelV x u/\J.yld i H x H'/\tn (i+1) s2.heap/\∀b∈fp,H' b=none) E s1) E s
 done:∀(X:Cx),X.prog=P->X.w=w->X.K=K->X.calm=true->∀(i:Nat) (pins:List (Addr×Obj)) (s:Al) (σ:St) (H:Hp) (E:Value->Al->Prop),Inv X pins σ H s->(∀b∈fp,On X pins H b)->tn i s.heap->J.stop i H ->
  wpAny (model P w) X.A (pyNext (.ref it)) (λr s1=>r=none/\Inv X pins σ H s1) E s
 self:∀(A:Cr) (i:Nat) (s:Al) (Q:Value->Al->Prop) (E:Value->Al->Prop),tn i s.heap->Q (.ref it) s->wpAny (model P w) A (pyIter (.ref it)) Q E s
abbrev TI:=St->Hp->(It->Hp->Prop)->Prop
def V3(X:Cx)(pins:List (Addr×Obj))(σ:St)(tg:Expr)(R:It->Hp->Prop)(itv:Value)(s2:Al):Prop :=
 ∃(it:Addr) (fp:List Addr) (tn:Nat->Heap->Prop) (J:It) (H':Hp),itv=.ref it/\Inv X pins σ H' s2/\Turn X.prog X.w X.K tg J fp it tn/\tn 0 s2.heap/\(∀b∈fp,On X pins H' b)/\R J H'
def PI(X:Cx)(tg iter:Expr)(wi:TI):Prop :=
 ∀(pins:List (Addr×Obj)) (s:Al) (σ:St) (H:Hp) (R:It->Hp->Prop),Inv X pins σ H s->wi σ H R ->
  wpAny (model X.prog X.w) X.A (eval iter X.env) (λv s1=>wpAny (model X.prog X.w) X.A (pyIter v) (V3 X pins σ tg R) X.xe s1) X.xe s
theorem rW{M:Model}{A:Cr}{E:Value->Al->Prop}{s:Al}{tg:Expr}{it:Addr}{u:Value}{o:Obj}{n:String}{vs:Array Value}{Q:Unit->Al->Prop}(ho:s.heap.get? it=some o)(hc:o.cls=.type n)(hd:o.data=.fields vs)(hn:["enumerate", "zip", "dict_itemiterator", "dict_reverseitemiterator", "odict_iterator", "itertools.zip_longest", "itertools.pairwise"].contains n=false)(hQ:Q () s):wpAny M A (Us tg (.ref it) u) Q E s:=by
  unfold Us
  cases tg <;> first
    | exact Ay hQ
    | (cases u <;> first
        | exact Ay hQ
        | (refine Ag (wpAny_load ho ?_)
           rw[hc,hd]
           show wpAny M A (if (["enumerate", "zip", "dict_itemiterator", "dict_reverseitemiterator", "odict_iterator", "itertools.zip_longest", "itertools.pairwise"].contains n && vs[0]? == some (rawInt _))=true then _ else _) Q E s
           rw[if_neg (by intro h; rw[hn,Bool.false_and] at h; cases h)]
           exact Ay hQ))
def W6(K:PySem.W.Frag)(a:Addr):It :=
 ⟨λi H=>∃xs x,Pu K H a xs/\xs[i]? = some x,λi H x H'=>H'=H/\∀xs,Pu K H a xs->xs[i]? = some x,λi H=>∃xs,Pu K H a xs/\xs.length<=i⟩
def U7(K:PySem.W.Frag)(a:Addr):It :=
 ⟨λi H=>∃xs x,Se K H a xs/\xs[i]? = some x,λi H x H'=>H'=H/\∀xs,Se K H a xs->xs[i]? = some x,λi H=>∃xs,Se K H a xs/\xs.length<=i⟩
def G3(lo:Int)(n:Nat):It:=⟨λi _=>i<n,λi H x H'=>H'=H/\x=.int (lo+i),λi _=>n<=i⟩
theorem mG{P:Bp}{w:World}{K:PySem.W.Frag}{tg:Expr}(a it:Addr):Turn P w K tg (W6 K a) [it] it (λi h=>h.IsListIter it a i) where
 mem:=by simp
 obj:=λi h st b hb=>by
  have e:b=it:=by simpa using hb
  subst e
  obtain ⟨o,e,c,d⟩:=st
  exact ⟨o,e,λv z=>by rw[d] at z; cases z⟩
 keep:=λi h h' st k=>st.at λo e=>k it (by simp) o e
 item:=by
  intro X hP hw hK hc i pins s σ H E I hf st hg
  subst hP hw hK
  obtain ⟨xs,x,hq,hx⟩:=hg
  obtain ⟨its,rv,p,hz⟩:=I.list hq
  obtain ⟨u,hu,ru⟩:=rv.get hx
  obtain ⟨f0,f1,f2,f3,f4,f5⟩:=hf it (by simp)
  refine wpAny_pyNext_list_item st p.isList (x:=u) (by simpa using hu) λh' st' sb=>?_
  have I1:Inv X pins σ H { s with heap:=h' }:=I.turned (t':=s.toks) (λb o hb e=>(sb.2 b hb).trans e) f0 f1 f3 f4 f5
  obtain ⟨o,e,c,d⟩:=id st'
  exact ⟨u,rfl,rW (s:={ s with heap:=h' }) e c d (by decide) ⟨x,H,I1,ru,⟨rfl,λys hy=>by rw[I.list_inj hy hq]; exact hx⟩,st',λb hb=>(hf b hb).1⟩⟩
 done:=by
  intro X hP hw hK hc i pins s σ H E I hf st hg
  subst hP hw hK
  obtain ⟨xs,hq,hx⟩:=hg
  obtain ⟨its,rv,p,hz⟩:=I.list hq
  obtain ⟨f0,f1,f2,f3,f4,f5⟩:=hf it (by simp)
  have hl:=rv.length
  exact wpAny_pyNext_list_end (I.ok.hd hc) st p.isList (by simp; omega) λh' eb=>⟨rfl,I.turned (t':=s.toks) (λb o hb e=>eb b o hb e) f0 f1 f3 f4 f5⟩
 self:=λ_ _ _ _ _ st h=>wpAny_pyIter_listiter st h
theorem jP{P:Bp}{w:World}{K:PySem.W.Frag}{tg:Expr}(a it:Addr):Turn P w K tg (U7 K a) [it] it (λi h=>h.IsTupleIter it a i) where
 mem:=by simp
 obj:=λi h st b hb=>by
  have e:b=it:=by simpa using hb
  subst e
  obtain ⟨o,e,c,d⟩:=st
  exact ⟨o,e,λv z=>by rw[d] at z; cases z⟩
 keep:=λi h h' st k=>st.at λo e=>k it (by simp) o e
 item:=by
  intro X hP hw hK hc i pins s σ H E I hf st hg
  subst hP hw hK
  obtain ⟨xs,x,hq,hx⟩:=hg
  obtain ⟨its,rv,p,hz⟩:=I.tuple hq
  obtain ⟨u,hu,ru⟩:=rv.get hx
  obtain ⟨f0,f1,f2,f3,f4,f5⟩:=hf it (by simp)
  refine wpAny_pyNext_tuple_item st (show s.heap.IsTuple a its.toArray from p) (x:=u) (by simpa using hu) λh' st' sb=>?_
  have I1:Inv X pins σ H { s with heap:=h' }:=I.turned (t':=s.toks) (λb o hb e=>(sb.2 b hb).trans e) f0 f1 f3 f4 f5
  obtain ⟨o,e,c,d⟩:=id st'
  exact ⟨u,rfl,rW (s:={ s with heap:=h' }) e c d (by decide) ⟨x,H,I1,ru,⟨rfl,λys hy=>by rw[I.tuple_inj hy hq]; exact hx⟩,st',λb hb=>(hf b hb).1⟩⟩
 done:=by
  intro X hP hw hK hc i pins s σ H E I hf st hg
  subst hP hw hK
  obtain ⟨xs,hq,hx⟩:=hg
  obtain ⟨its,rv,p,hz⟩:=I.tuple hq
  obtain ⟨f0,f1,f2,f3,f4,f5⟩:=hf it (by simp)
  have hl:=rv.length
  exact wpAny_pyNext_tuple_end (I.ok.hd hc) st (show s.heap.IsTuple a its.toArray from p) (by simp; omega) λh' eb=>⟨rfl,I.turned (t':=s.toks) (λb o hb e=>eb b o hb e) f0 f1 f3 f4 f5⟩
 self:=λ_ _ _ _ _ st h=>wpAny_pyIter_tupleiter st h
theorem jI{P:Bp}{w:World}{K:PySem.W.Frag}{tg:Expr}(it:Addr)(lo:Int)(n:Nat):Turn P w K tg (G3 lo n) [it] it (λi h=>IsRangeIter h it (lo+(i:Nat) * 1) ((n:Int) - (i:Nat)) 1) where
 mem:=by simp
 obj:=λi h st b hb=>by
  have e:b=it:=by simpa using hb
  subst e
  exact ⟨_,st,λv z=>by
   have z':Data.fields _=Data.cell v:=z
   cases z'⟩
 keep:=λi h h' st k=>k it (by simp) _ st
 item:=by
  intro X hP hw hK hc i pins s σ H E I hf st hg
  subst hP hw hK
  obtain ⟨f0,f1,f2,f3,f4,f5⟩:=hf it (by simp)
  have W:=Walks.range (prog:=X.prog) (w:=X.w) (I.ok.hd hc) it lo 1 n
  refine W.item i s _ _ hg st λv h' tk hv st' kk=>?_
  obtain ⟨t,rfl⟩:=hv
  have I1:Inv X pins σ H { s with heap:=h',toks:=tk }:=I.turned (λb o hb e=>kk b o (by simpa using hb) e) f0 f1 f3 f4 f5
  refine ⟨_,rfl,rW (s:={ s with heap:=h',toks:=tk }) (n := "range_iterator") st' rfl rfl (by decide) ⟨.int (lo+i),H,I1,⟨t,?_⟩,⟨rfl,rfl⟩,st',λb hb=>(hf b hb).1⟩⟩
  rw[Int.mul_one]
 done:=by
  intro X hP hw hK hc i pins s σ H E I hf st hg
  subst hP hw hK
  obtain ⟨f0,f1,f2,f3,f4,f5⟩:=hf it (by simp)
  exact wpAny_pyNext_range_end (I.ok.hd hc) st (by have : n<=i:=hg; omega) λh' eb=>⟨rfl,I.turned (t':=s.toks) (λb o hb e=>eb b o hb e) f0 f1 f3 f4 f5⟩
 self:=λ_ _ _ _ _ st h=>wpAny_pyIter_rangeiter st h
section
variable{X:Cx}{tg:Expr}
def N8(K:PySem.W.Frag)(tl:TE):TI:=λσ H R=>tl σ H λx H1=>∃a,x=.ref a/\(∃xs,Pu K H1 a xs)/\R (W6 K a) H1
def U8(K:PySem.W.Frag)(tl:TE):TI:=λσ H R=>tl σ H λx H1=>∃a,x=.ref a/\(∃xs,Se K H1 a xs)/\R (U7 K a) H1
theorem xQ{l:Expr}{tl:TE}(hl:PE X l tl):PI X tg l (N8 X.K tl):=by
 intro pins s σ H R I h
 refine Jo (hl pins s σ H _ I h) λv s1 q0_ => ?_
 obtain ⟨x,H1,I1,r1,q1⟩ := q0_
 obtain ⟨a,e,⟨xs,hq⟩,q⟩:=q1
 subst e
 cases r1
 obtain ⟨its,rv,p,hz⟩:=I1.list hq
 refine bT p.isList ?_
 refine ⟨s1.heap.objs.size,[s1.heap.objs.size],_,_,H1,rfl,I1.kept (t':=s1.toks) λb o e=>Aj _ e,mG a _,⟨_,Bn _ rfl,rfl,rfl⟩,λb hb=>?_,q⟩
 have e:b=s1.heap.objs.size:=by simpa using hb
 subst e
 exact I1.fpOk (Ap _) (I1.hok.fresh (Ap _))
theorem zM{l:Expr}{tl:TE}(hl:PE X l tl):PI X tg l (U8 X.K tl):=by
 intro pins s σ H R I h
 refine Jo (hl pins s σ H _ I h) λv s1 q0_ => ?_
 obtain ⟨x,H1,I1,r1,q1⟩ := q0_
 obtain ⟨a,e,⟨xs,hq⟩,q⟩:=q1
 subst e
 cases r1
 obtain ⟨its,rv,p,hz⟩:=I1.tuple hq
 refine wpAny_pyIter_tuple (show s1.heap.IsTuple a its.toArray from p) ?_
 refine ⟨s1.heap.objs.size,[s1.heap.objs.size],_,_,H1,rfl,I1.kept (t':=s1.toks) λb o e=>Aj _ e,jP a _,⟨_,Bn _ rfl,rfl,rfl⟩,λb hb=>?_,q⟩
 have e:b=s1.heap.objs.size:=by simpa using hb
 subst e
 exact I1.fpOk (Ap _) (I1.hok.fresh (Ap _))
theorem qG{pins:List (Addr×Obj)}{σ:St}{H:Hp}{s:Al}{R:It->Hp->Prop}{E:Value->Al->Prop}{lo hi:Int}{t u v:Tok}{tk:Nat}(I:Inv X pins σ H s)(h1:-(2 ^ 62)<=lo)(h2:lo<2 ^ 62)(h3:-(2 ^ 62)<=hi)(h4:hi<2 ^ 62)(q:R (G3 lo (hi - lo).toNat) H):wpAny (model X.prog X.w) X.A (pyIter (.ref s.heap.objs.size)) (V3 X pins σ tg R) E { s with heap:=s.heap.push { cls:=.type "range",data:=.fields #[.int lo t,.int hi u,.int 1 v] },toks:=tk }:=by
 refine wpAny_pyIter_range (IsRange.new ..) (small_one h1 h2 h3 h4) ?_
 have I1:Inv X pins σ H { s with heap:=s.heap.push { cls:=.type "range",data:=.fields #[.int lo t,.int hi u,.int 1 v] },toks:=tk }:=I.kept λb o e=>Aj _ e
 refine ⟨(s.heap.push { cls:=.type "range",data:=.fields #[.int lo t,.int hi u,.int 1 v] }).objs.size,[(s.heap.push { cls:=.type "range",data:=.fields #[.int lo t,.int hi u,.int 1 v] }).objs.size],_,_,H,rfl,
  I1.kept (t':=tk) λb o e=>Aj _ e,jI _ lo (hi - lo).toNat,?_,λb hb=>?_,q⟩
 ·have e1:lo+((0:Nat):Int) * 1=lo:=by simp
  have e2:(((hi - lo).toNat:Nat):Int) - ((0:Nat):Int)=Wz lo hi 1:=by rw[rangeSize_one]; split <;> omega
  show IsRangeIter _ _ (lo+((0:Nat):Int) * 1) ((((hi - lo).toNat:Nat):Int) - ((0:Nat):Int)) 1
  rw[e1,e2]
  exact Bn _ rfl
 ·have e:b=(s.heap.push { cls:=.type "range",data:=.fields #[.int lo t,.int hi u,.int 1 v] }).objs.size:=by simpa using hb
  subst e
  exact I1.fpOk (Ap _) (I1.hok.fresh (Ap _))
def P1(ta:TA):TI:=λσ H R=>ta σ H λvs H1=>∃j:Int,vs=[.int j] /\ -(2 ^ 62)<=j/\j<2 ^ 62/\R (G3 0 j.toNat) H1
theorem mR{a:Expr}{ta:TA}{p pos:Pos}(hg:Gl X "range")(hm:X.mg "range" = none)(ha:PA X [a] ta)(hs:Bs [a] X.env=[(false,eval a X.env)]:=by rfl):PI X tg (.Call (.Name "range" p) [a] [] pos) (P1 ta):=by
 intro pins s σ H R I h
 refine Call_ (Qq I hg hm boot_range (Lf (Jo (ha pos pins s σ H _ I h) λus s1 ⟨vs,H1,I1,r1,q1⟩=>?_) hs rfl))
 obtain ⟨j,e,q1,q2,q⟩:=q1
 subst e
 cases r1 with
 | cons r rr =>
  cases rr
  obtain ⟨t,rfl⟩:=r
  exact call_range_1 (qG I1 (by omega) (by omega) q1 q2 (by simpa using q))
def T4(wi:TI)(g:TG)(tb:TS):TS:=λD σ H=>wi σ H λJ H1=>∃W:Nat->Nat->St->Hp->Prop,(∃m,W 0 m σ H1)/\∀i m σ H,W i m σ H ->
 (J.stop i H/\D.nx σ H)\/(J.go i H/\∃N:St->Hp->Prop,(∀σ' H',N σ' H'->∃m',m'<m/\W (i+1) m' σ' H')/\∀x H',J.yld i H x H'->g x σ H' λσ2 H2=>tb { D with nx:=N,ct:=N,bk:=D.nx } σ2 H2)
def Xw(fp:List Addr)(h:Heap):List (Addr×Obj):=fp.filterMap λb=>(h.get? b).map λo=>(b,o)
theorem Ph{fp:List Addr}{h:Heap}{b:Addr}{o:Obj}(hb:b∈fp)(e:h.get? b=some o):(b,o)∈Xw fp h:=List.mem_filterMap.mpr ⟨b,hb,by rw[e]; rfl⟩
theorem mN{fp:List Addr}{h:Heap}{p:Addr×Obj}(hp:p∈Xw fp h):p.1∈fp/\h.get? p.1=some p.2:=by
 obtain ⟨b,hb,e⟩:=List.mem_filterMap.mp hp
 cases q:h.get? b with
 | none=>rw[q] at e; cases e
 | some o =>
  rw[q] at e
  have e':(b,o)=p:=Bo e
  subst e'
  exact ⟨hb,q⟩
theorem Inv.pinned{pins:List (Addr×Obj)}{σ:St}{H:Hp}{s:Al}{fp:List Addr}(I:Inv X pins σ H s)(hf:∀b∈fp,On X pins H b)(ho:∀b∈fp,∃o,s.heap.get? b=some o/\∀v,o.data≠.cell v):Inv X (pins++Xw fp s.heap) σ H s :=
 I.pins_of λp hp=>(Bi.mp hp).elim (λz=>I.pin p (Av _ z)) λz=>by
  obtain ⟨hb,e⟩:=mN z
  obtain ⟨f0,f1,f2,_⟩:=hf p.1 hb
  obtain ⟨o,e',d⟩:=ho p.1 hb
  rw[e] at e'; cases e'
  exact ⟨e,f0,f1,f2,d⟩
theorem Inv.unpinned{pins pl:List (Addr×Obj)}{σ:St}{H:Hp}{s:Al}(I:Inv X (pins++pl) σ H s):Inv X pins σ H s:=I.pins_of λp hp=>I.pin p (Av _ (Au _ hp))
theorem B3{iter:Expr}{body:List Stmt}{wi:TI}{g:TG}{tb:TS}{pos:Pos}(hp:PassesOwn (model X.prog X.w) X.A X.env X.xe)(hc:X.calm=true)(hi:PI X tg iter wi)(hg:PG X tg g)(hb:gU X body tb)(hs:∀x,Et iter X.env x=pure x:=by intro _; rfl):PS X (.For tg iter body [] pos) (T4 wi g tb):=by
 intro pins s σ H D I h
 refine wpAny_For (Jo (hi pins s σ H _ I h) λv s1 h1=>Jo h1 λitv s2 h2=>?_) hs
 obtain ⟨it,fp,tn,J,H2,e,I2,T,st2,f2,W,⟨m0,w0⟩,turn⟩:=h2
 subst e
 -- what stays true of the iterator's objects through the loop
 have stat:∀{H':Hp},(∀b∈fp,H' b=none)->∀b∈fp,On X pins H' b:=λhn b hb=>⟨hn b hb,(f2 b hb).2⟩
 refine codeAny_forLoop_any (λn s'=>∃i σ' H',Inv X pins σ' H' s'/\tn i s'.heap/\(∀b∈fp,H' b=none)/\W i n σ' H') ?_ m0 ⟨0,σ,H2,I2,st2,λb hb=>(f2 b hb).1,w0⟩
 (intro n s3 q_; obtain ⟨i,σ3,H3,I3,Tc,fr3,w3⟩ := q_)
 rcases turn i n σ3 H3 w3 with ⟨stop,qn⟩ | ⟨go,N,hN,step⟩
 ·refine Oc hp (Jo (T.done X rfl rfl rfl hc i pins s3 σ3 H3 X.xe I3 (stat fr3) Tc stop) λr s4 q0_ => ?_)
  obtain ⟨hr,I4⟩ := q0_
  subst hr
  exact wpAny_execs_nil ⟨σ3,H3,I4,qn⟩
 ·refine Oc hp (Jo (T.item X rfl rfl rfl hc i pins s3 σ3 H3 X.xe I3 (stat fr3) Tc go) λr s4 q0_ => ?_)
  obtain ⟨u,hr,h4⟩ := q0_
  subst hr
  refine Oc hp (Jo h4 λ_ s5 q0_ => ?_)
  obtain ⟨x,H5,I5,r5,y5,st5,fr5⟩ := q0_
  have I5':=I5.pinned (stat fr5) (T.obj _ _ st5)
  refine Oc hp (Jo (hg _ s5 σ3 H5 x u _ I5' r5 (step x H5 y5)) λ_ s6 q0_ => ?_)
  obtain ⟨σ6,H6,I6,q6⟩ := q0_
  refine Oc hp (Jo (hb _ s6 σ6 H6 _ I6 q6) λf s7 q7=>?_)
  have again:∀{σ7:St} {H7:Hp},Inv X (pins++Xw fp s5.heap) σ7 H7 s7->N σ7 H7->∃m,m<n/\∃i σ' H',Inv X pins σ' H' s7/\tn i s7.heap/\(∀b∈fp,H' b=none)/\W i m σ' H':=λ{σ7 H7} I7 n7=>by
   obtain ⟨m',hm,w7⟩:=hN σ7 H7 n7
   refine ⟨m',hm,i+1,σ7,H7,I7.unpinned,T.keep _ _ _ st5 λb hb o e=>(I7.pin (b,o) (Av _ (Av _ (Ph hb e)))).1,λb hb=>?_,w7⟩
   obtain ⟨o,e,d⟩:=T.obj _ _ st5 b hb
   exact (I7.pin (b,o) (Av _ (Av _ (Ph hb e)))).2.1
  cases f with
  | next=>obtain ⟨σ7,H7,I7,n7⟩:=q7; exact again I7 n7
  | cont=>obtain ⟨σ7,H7,I7,n7⟩:=q7; exact again I7 n7
  | brk=>obtain ⟨σ7,H7,I7,q7⟩:=q7; exact ⟨σ7,H7,I7.unpinned,q7⟩
  | ret v=>obtain ⟨x7,σ7,H7,I7,r7,q7⟩:=q7; exact ⟨x7,σ7,H7,I7.unpinned,r7,q7⟩
end
abbrev R2:=V->V->Hp->VK->Prop
def Tn(X:Cx)(f:Value->Value->Sem Value)(r:R2):Prop :=
 ∀(pins:List (Addr×Obj)) (s:Al) (σ:St) (H:Hp) (x y:V) (v u:Value) (Q:VK),Inv X pins σ H s->RelV x v->RelV y u->r x y H Q ->
  wpAny (model X.prog X.w) X.A (f v u) (EP X pins σ Q) X.xe s
def Ld(X:Cx)(f:Value)(r:List V->Hp->VK->Prop):Prop :=
 ∀(pins:List (Addr×Obj)) (s:Al) (σ:St) (H:Hp) (xs:List V) (us:List Value) (Q:VK),Inv X pins σ H s->Fi xs us->r xs H Q ->
  wpAny (model X.prog X.w) X.A (call f us) (EP X pins σ Q) X.xe s
def V4(X:Cx)(r:V->Hp->(Bool->Hp->Prop)->Prop):Prop :=
 ∀(pins:List (Addr×Obj)) (s:Al) (σ:St) (H:Hp) (x:V) (v:Value) (Q:Bool->Hp->Prop),Inv X pins σ H s->RelV x v->r x H Q ->
  wpAny (model X.prog X.w) X.A (truthy v) (TP X pins σ Q) X.xe s
def O1(r:R2)(ta tb:TE):TE:=λσ H Q=>ta σ H λx H1=>tb σ H1 λy H2=>r x y H2 Q
def rI(C:Int->Int->Prop)(g:Int->Int->V):R2:=λx y H Q=>∃i j,x=.int i/\y=.int j/\C i j/\Q (g i j) H
def uB(g:Int->Int->V):R2:=λx y H Q=>∃i j,x=.int i/\y=.int j/\Q (g i j) H
section
variable{X:Cx}{a b c:Expr}{ta tb tc:TE}{pos:Pos}
theorem n6(ha:PE X a ta)(hb:PE X b tb){pins:List (Addr×Obj)}{s:Al}{σ:St}{H:Hp}{R:V->V->Hp->Prop}(I:Inv X pins σ H s)(h:ta σ H λx H1=>tb σ H1 λy H2=>R x y H2){Q:Value->Al->Prop}{f:Value->Value->Sem Value}(hf:∀v u s2 x y H2,Inv X pins σ H2 s2->RelV x v->RelV y u->R x y H2->wpAny (model X.prog X.w) X.A (f v u) Q X.xe s2):wpAny (model X.prog X.w) X.A (eval a X.env) (λv s₁=>wpAny (model X.prog X.w) X.A (eval b X.env) (λu s₂=>wpAny (model X.prog X.w) X.A (f v u) Q X.xe s₂) X.xe s₁) X.xe s:=by
 refine Jo (ha pins s σ H _ I h) λv s1 q0_ => ?_
 obtain ⟨x,H1,I1,r1,q1⟩ := q0_
 refine Jo (hb pins s1 σ H1 _ I1 q1) λu s2 q0_ => ?_
 obtain ⟨y,H2,I2,r2,q2⟩ := q0_
 exact hf v u s2 x y H2 I2 r1 r2 q2
theorem Ew{op:Operator}{r:R2}(ho:Tn X (Hr op) r)(ha:PE X a ta)(hb:PE X b tb):PE X (.BinOp a op b pos) (O1 r ta tb):=by
 intro pins s σ H Q I h
 exact wpAny_BinOp (n6 ha hb I h λv u s2 x y H2 I2 rx ry q=>ho pins s2 σ H2 x y v u Q I2 rx ry q)
theorem G7{f:Value->Value->Sem Value}{C:Int->Int->Prop}{g:Int->Int->Int}(rule:∀(i j:Int) (t u:Tok) (s:Al) (Q:Value->Al->Prop) (E:Value->Al->Prop),C i j->Q (.int (g i j) s.toks) { s with toks:=s.toks+1 }->wpAny (model X.prog X.w) X.A (f (.int i t) (.int j u)) Q E s):Tn X f (rI C λi j=>.int (g i j)):=by
 intro pins s σ H x y v u Q I rx ry h
 obtain ⟨i,j,rfl,rfl,hc,q⟩:=h
 obtain ⟨t,rfl⟩:=rx
 obtain ⟨t',rfl⟩:=ry
 exact rule i j t t' s _ _ hc ⟨.int (g i j),H,I.tok _,⟨_,rfl⟩,q⟩
theorem C8{f:Value->Value->Sem Value}{g:Int->Int->Int}(rule:∀(i j:Int) (t u:Tok) (s:Al) (Q:Value->Al->Prop) (E:Value->Al->Prop),Q (.int (g i j) s.toks) { s with toks:=s.toks+1 }->wpAny (model X.prog X.w) X.A (f (.int i t) (.int j u)) Q E s):Tn X f (uB λi j=>.int (g i j)):=by
 intro pins s σ H x y v u Q I rx ry h
 obtain ⟨i,j,rfl,rfl,q⟩:=h
 obtain ⟨t,rfl⟩:=rx
 obtain ⟨t',rfl⟩:=ry
 exact rule i j t t' s _ _ ⟨.int (g i j),H,I.tok _,⟨_,rfl⟩,q⟩
theorem uZ{f:Value->Value->Sem Value}{g:Int->Int->Bool}(rule:∀(i j:Int) (t u:Tok) (s:Al) (Q:Value->Al->Prop) (E:Value->Al->Prop),Q (.bool (g i j)) s->wpAny (model X.prog X.w) X.A (f (.int i t) (.int j u)) Q E s):Tn X f (uB λi j=>.bl (g i j)):=by
 intro pins s σ H x y v u Q I rx ry h
 obtain ⟨i,j,rfl,rfl,q⟩:=h
 obtain ⟨t,rfl⟩:=rx
 obtain ⟨t',rfl⟩:=ry
 exact rule i j t t' s _ _ ⟨.bl (g i j),H,I,rfl,q⟩
def C1(i j:Int):Prop:=0<j/\j<1073741824
def zN(i j:Int):Prop:=0<=j/\j<=1000000/\i.natAbs<2 ^ 64
def o4(i j:Int):Prop:=(-(2 ^ 64)<i/\i<2 ^ 64)\/(-(2 ^ 64)<j/\j<2 ^ 64)
theorem o4.ok{i j:Int}(h:o4 i j):IntMulOk i j:=by
 rcases h with ⟨h1,h2⟩ | ⟨h1,h2⟩
 ·exact .of_left (intBits_le_64 h1 h2)
 ·exact .of_right (intBits_le_64 h1 h2)
theorem Oy:Tn X (Hr .Add) (uB λi j=>.int (i+j)):=C8 λ_ _ _ _ _ _ _ q=>add_int q
theorem b0:Tn X (Hr .Sub) (uB λi j=>.int (i - j)):=C8 λ_ _ _ _ _ _ _ q=>sub_int q
theorem Mq:Tn X (Hr .Mult) (rI o4 λi j=>.int (i * j)):=G7 λ_ _ _ _ _ _ _ hc q=>mul_int q hc.ok
theorem Ub:Tn X (Hr .FloorDiv) (rI C1 λi j=>.int (i / j)):=G7 λi j _ _ _ _ _ hc q=>by
 have h1:(0:Int)<j:=hc.1
 have h2:j<1073741824:=hc.2
 exact floordiv_int (by omega) (by rw[Int.fdiv_eq_ediv_of_nonneg i (by omega)]; exact q) (.inl (PyProof.noPylong_small (by omega)))
theorem Mn:Tn X (Hr .Mod) (rI (λ_ j=>0<j) λi j=>.int (i % j)):=G7 λi j _ _ _ _ _ hc q=>by
 have h1:(0:Int)<j:=hc
 exact mod_int' (by omega) (by rw[Int.fmod_eq_emod_of_nonneg i (by omega)]; exact q)
theorem Te:Tn X (Hr .Pow) (rI zN λi j=>.int (i ^ j.toNat)):=G7 λ_ _ _ _ _ _ _ hc q=>pow_int_small hc.1 hc.2.1 hc.2.2 q
theorem w5:Tn X (Hr .BitXor) (uB λi j=>.int (Builtin.bitXor i j)):=C8 λ_ _ _ _ _ _ _ q=>xor_int q
end
section
variable{X:Cx}{a b c:Expr}{ta tb tc:TE}{pos:Pos}
theorem zV{pins:List (Addr×Obj)}{σ:St}{H:Hp}{s:Al}{Q:VK}{k k':Bool}(I:Inv X pins σ H s)(q:Q (.bl k) H)(e:k=k'):EP X pins σ Q (.bool k') s:=by
 subst e
 exact ⟨.bl k,H,I,rfl,q⟩
theorem O8:Tn X (Fo .Lt) (uB λi j=>.bl (decide (i<j))):=uZ λ_ _ _ _ _ _ _ q=>lt_int q
theorem op_le:Tn X (Fo .LtE) (uB λi j=>.bl (decide (i<=j))):=uZ λ_ _ _ _ _ _ _ q=>le_int q
theorem L5:Tn X (Fo .Gt) (uB λi j=>.bl (decide (j<i))):=uZ λ_ _ _ _ _ _ _ q=>gt_int q
theorem sH:Tn X (Fo .GtE) (uB λi j=>.bl (decide (j<=i))):=uZ λ_ _ _ _ _ _ _ q=>ge_int q
theorem zW:Tn X (Fo .Is) (λx y H Q=>y=.non/\Q (.bl (decide (x=.non))) H):=by
 intro pins s σ H x y v u Q I rx ry h
 obtain ⟨rfl,q⟩:=h
 cases ry
 refine is_none_gen (zV I q ?_)
 cases x <;> first
  | (cases rx; rfl)
  | (obtain ⟨t,rfl⟩:=rx; rfl)
theorem Nr(b:Expr){op:CmpOp}(h:op≠.In:=by decide)(h2:op≠.NotIn:=by decide):Jd op b=false:=by
 have e1:(op == CmpOp.In)=false:=by cases op <;> first | rfl | exact absurd rfl h
 have e2:(op == CmpOp.NotIn)=false:=by cases op <;> first | rfl | exact absurd rfl h2
 cases b <;> simp [Jd,e1,e2]
theorem xB{op:CmpOp}{r:R2}(ho:Tn X (Fo op) r)(ha:PE X a ta)(hb:PE X b tb)(hm:Jd op b=false):PE X (.Compare a [op] [b] pos) (O1 r ta tb):=by
 intro pins s σ H Q I h
 exact wpAny_Compare1 (n6 ha hb I h λv u s2 x y H2 I2 rx ry q=>ho pins s2 σ H2 x y v u Q I2 rx ry q) hm
def J9(t:TE):TT:=λσ H Q=>t σ H λx H'=>∃k,x=.bl k/\Q k H'
theorem kH{op:CmpOp}{r:R2}(ho:Tn X (Fo op) r)(ha:PE X a ta)(hb:PE X b tb)(hm:Jd op b=false):PT X (.Compare a [op] [b] pos) (J9 (O1 r ta tb)):=by
 intro pins s σ H Q I h
 refine wpAny_isTrue_Compare1 (Jo (ha pins s σ H _ I h) λv s1 ⟨x,H1,I1,r1,q1⟩=>Jo (hb pins s1 σ H1 _ I1 q1) λu s2 ⟨y,H2,I2,r2,q2⟩ =>
  Jo (ho pins s2 σ H2 x y v u _ I2 r1 r2 q2) λc s3 ⟨z,H3,I3,r3,k,e,q3⟩=>?_) hm
 subst e
 cases r3
 exact Fl ⟨H3,I3,q3⟩
def xA(K:PySem.W.Frag)(x:V)(H:Hp)(k:Bool):Prop :=
 match x with
 | .non=>k=false
 | .bl b=>k=b
 | .int i=>k=(i != 0)
 | .str y=>y.length<=Be/\k=((y.length:Int) != 0)
 | .byt y=>y.size<=Be/\k=((y.size:Int) != 0)
 | .ref p=>(∃xs,Pu K H p xs/\k = !xs.isEmpty)\/(∃xs,Se K H p xs/\k = !xs.isEmpty)\/∃kvs,H p=some (.dK kvs)/\k = !kvs.isEmpty
 | _=>False
theorem iK{κ:Type}{kvs:List (κ×V)}{vs:List (κ×Value)}(r:KV kvs vs):(!vs.isEmpty) = !kvs.isEmpty:=by
 cases r <;> rfl
theorem Za{xs:List V}{its:List Value}(r:Fi xs its):(!its.toArray.isEmpty) = !xs.isEmpty:=by
 cases r <;> simp
theorem Sx:(Be:Nat)<2 ^ 63:=by rw[Le]; decide
theorem zP:V4 X (λx H Q=>∃k,xA X.K x H k/\Q k H):=by
 intro pins s σ H x v Q I rx h
 obtain ⟨k,e,q⟩:=h
 have hl:=Sx
 have hs:Be=16777216:=Le
 cases x with
 | non =>
  cases rx
  have e':k=false:=e
  subst e'
  exact truthy_none ⟨H,I,q⟩
 | bl b =>
  cases rx
  have e':k=b:=e
  subst e'
  exact Fl ⟨H,I,q⟩
 | int i =>
  obtain ⟨t,rfl⟩:=rx
  have e':k=(i != 0):=e
  subst e'
  exact PySem.P.truthy_int ⟨H,I,q⟩
 | str y =>
  obtain ⟨t,rfl⟩:=rx
  obtain ⟨hy,e'⟩ : y.length<=Be/\k=((y.length:Int) != 0):=e
  subst e'
  exact PySem.P.truthy_str (by omega) ⟨H,I.tok _,q⟩
 | byt y =>
  obtain ⟨t,rfl⟩:=rx
  obtain ⟨hy,e'⟩ : y.size<=Be/\k=((y.size:Int) != 0):=e
  subst e'
  exact PySem.W.truthy_bytes (by omega) ⟨H,I.tok _,q⟩
 | ref p =>
  cases rx
  have e':(∃xs,Pu X.K H p xs/\k = !xs.isEmpty)\/(∃xs,Se X.K H p xs/\k = !xs.isEmpty)\/∃kvs,H p=some (.dK kvs)/\k = !kvs.isEmpty:=e
  rcases e' with ⟨xs,hx,e'⟩ | ⟨xs,hx,e'⟩ | ⟨kvs,hx,e'⟩
  ·subst e'
   obtain ⟨its,r,pl,hz⟩:=I.list hx
   have hlen:=r.length
   exact wpAny_truthy_list pl.isList (by simp only[Aq]; omega) ⟨H,I.tok _,by rw[Za r]; exact q⟩
  ·subst e'
   obtain ⟨its,r,pl,hz⟩:=I.tuple hx
   have hlen:=r.length
   exact truthy_tuple pl (by simp only[Aq]; omega) ⟨H,I.tok _,by rw[Za r]; exact q⟩
  ·subst e'
   obtain ⟨hz,hS,vs,r,m⟩ : kvs.length<=Be/\(p == sysModules)=false/\∃vs,KV kvs vs/\s.heap.DictOf (cG X.prog X.w) p vs:=I.hok p _ hx
   have hlen:kvs.length=vs.length:=Paired.length r
   exact wpAny_truthy_dict hS m (by omega) ⟨H,I.tok _,by rw[iK r]; exact q⟩
 | _=>exact (show False from e).elim
theorem tT(ha:PE X a ta)(he:∀whole,isTrue a X.env whole=(do let v <- whole; standAt a.pos; Lu [v] (truthy v))) :
  PT X a (λσ H Q=>ta σ H λx H'=>∃k,xA X.K x H' k/\Q k H'):=by
 intro pins s σ H Q I h
 exact isTrue_plain (Jo (ha pins s σ H _ I h) λv s1 ⟨x,H1,I1,r1,q1⟩=>zP pins s1 σ H1 x v Q I1 r1 q1) (he _)
theorem vals1{x:V}{us:List Value}(r:Fi [x] us):∃u,us=[u]/\RelV x u:=by
 cases r with
 | cons r1 r2=>cases r2; exact ⟨_,rfl,r1⟩
theorem vals2{x y:V}{us:List Value}(r:Fi [x,y] us):∃u w',us=[u,w']/\RelV x u/\RelV y w':=by
 cases r with
 | cons r1 r2 =>
  cases r2 with
  | cons r3 r4=>cases r4; exact ⟨_,_,rfl,r1,r3⟩
theorem Vk(hc:X.calm=true):Ld X (.builtin "max") (λxs H Q=>∃i j,xs=[.int i,.int j]/\Q (.int (if j > i then j else i)) H):=by
 intro pins s σ H xs us Q I r h
 obtain ⟨i,j,rfl,q⟩:=h
 obtain ⟨u,w',rfl,⟨t,rfl⟩,⟨t',rfl⟩⟩:=vals2 r
 refine max_two_ints (I.ok.hd hc) λh' tk k=>⟨_,H,I.kept k,?_,q⟩
 by_cases hj:j > i
 ·rw[if_pos hj,if_pos hj]; exact ⟨_,rfl⟩
 ·rw[if_neg hj,if_neg hj]; exact ⟨_,rfl⟩
theorem bP(hc:X.calm=true):Ld X (.builtin "min") (λxs H Q=>∃i j,xs=[.int i,.int j]/\Q (.int (if j<i then j else i)) H):=by
 intro pins s σ H xs us Q I r h
 obtain ⟨i,j,rfl,q⟩:=h
 obtain ⟨u,w',rfl,⟨t,rfl⟩,⟨t',rfl⟩⟩:=vals2 r
 refine min_two_ints (I.ok.hd hc) λh' tk k=>⟨_,H,I.kept k,?_,q⟩
 by_cases hj:j<i
 ·rw[if_pos hj,if_pos hj]; exact ⟨_,rfl⟩
 ·rw[if_neg hj,if_neg hj]; exact ⟨_,rfl⟩
theorem Vi:Ld X (.type "int") (λxs H Q=>(∃i,xs=[.int i]/\Q (.int i) H)\/∃k,xs=[.bl k]/\Q (.int (if k then 1 else 0)) H):=by
 intro pins s σ H xs us Q I r h
 rcases h with ⟨i,rfl,q⟩ | ⟨k,rfl,q⟩
 ·obtain ⟨u,rfl,t,rfl⟩:=vals1 r
  exact call_int_int ⟨.int i,H,I,⟨_,rfl⟩,q⟩
 ·obtain ⟨u,rfl,r1⟩:=vals1 r
  cases r1
  exact call_int_bool ⟨.int (if k then 1 else 0),H,I.tok _,⟨_,rfl⟩,q⟩
def J3(K:PySem.W.Frag)(x:V)(H:Hp)(n:Nat):Prop :=
 match x with
 | .str y=>y.length<=Be/\n=y.length
 | .byt y=>y.size<=Be/\n=y.size
 | .ref p=>(∃xs,Pu K H p xs/\n=xs.length)\/∃xs,Se K H p xs/\n=xs.length
 | _=>False
theorem Fy:Ld X (.builtin "len") (λxs H Q=>∃x n,xs=[x]/\J3 X.K x H n/\Q (.int n) H):=by
 intro pins s σ H xs us Q I r h
 obtain ⟨x,n,rfl,e,q⟩:=h
 obtain ⟨u,rfl,rx⟩:=vals1 r
 have hl:=Sx
 have hs:Be=16777216:=Le
 cases x with
 | str y =>
  obtain ⟨t,rfl⟩:=rx
  obtain ⟨hy,e'⟩ : y.length<=Be/\n=y.length:=e
  subst e'
  exact len_str (by omega) ⟨.int _,H,I.tok _,⟨_,rfl⟩,q⟩
 | byt y =>
  obtain ⟨t,rfl⟩:=rx
  obtain ⟨hy,e'⟩ : y.size<=Be/\n=y.size:=e
  subst e'
  exact PySem.W.len_bytes (by omega) ⟨.int _,H,I.tok _,⟨_,rfl⟩,q⟩
 | ref p =>
  cases rx
  have e':(∃xs,Pu X.K H p xs/\n=xs.length)\/∃xs,Se X.K H p xs/\n=xs.length:=e
  rcases e' with ⟨xs,hx,e'⟩ | ⟨xs,hx,e'⟩
  ·subst e'
   obtain ⟨its,r',pl,hz⟩:=I.list hx
   have hlen:=r'.length
   exact Calls.call_len_list pl.isList (by simp only[Aq]; omega) ⟨.int xs.length,H,I.tok _,⟨_,by simp only[Aq]; rw[hlen]⟩,q⟩
  ·subst e'
   obtain ⟨its,r',pl,hz⟩:=I.tuple hx
   have hlen:=r'.length
   exact len_tuple pl (by simp only[Aq]; omega) ⟨.int xs.length,H,I.tok _,⟨_,by simp only[Aq]; rw[hlen]⟩,q⟩
 | _=>exact (show False from e).elim
end
structure ObjM(h:Heap)(x dx C:Addr)(mA:Str->Option Value):Prop where
 obj:h.get? x=some (PySem.W.instObj C dx)
 ns:h.Ns1 dx mA
 ne:dx≠x
theorem mL{h:Heap}{dx:Addr}{mA:Str->Option Value}(n:h.Ns1 dx mA):∃od,h.get? dx=some od/\∀name,PySem.W.lookIn name od=some (mA name):=by
 obtain ⟨o,es,ep,ho,hd,hk,_,hm⟩:=n
 refine ⟨o,ho,λname=>?_⟩
 have e:=hm name
 unfold nsFind findBy at e
 rw[<- Array.find?_toList] at e
 unfold PySem.W.lookIn
 rw[hd]
 dsimp only
 split
 ·rename_i y q
  rw[q] at e
  exact congrArg some e
 ·rename_i q
  rw[q] at e
  have a:es.toList.any (·.refKey)=false:=by
   rw[List.any_eq_false]
   intro y hy
   obtain ⟨z,t,hkey⟩:=hk y (Array.mem_toList_iff.mp hy)
   simp [DictEntry.refKey,hkey]
  have a':¬ es.toList.any (·.refKey)=true:=by rw[a]; exact Ce
  rw[if_neg a']
  exact congrArg some e
theorem ObjM.look{h:Heap}{x dx C:Addr}{mA:Str->Option Value}(I:ObjM h x dx C mA):∃od,PySem.W.InstAt h x (PySem.W.instObj C dx) C (some od)/\∀name,PySem.W.lookIn name od=some (mA name) :=
 let ⟨od,ho,hl⟩:=mL I.ns
 ⟨od,⟨I.obj,rfl,rfl,ho⟩,hl⟩
section
variable{P:Bp}{w:World}{H H':Hp}{h h':Heap}{a C dx:Addr}{fs fs':List (Str×V)}
theorem uY(hok:Zx P w H h)(e:H a=some (.ins C dx fs)):∃mA,ObjM h a dx C mA/\(∀f,A2 (fs.lookup f) (mA f))/\PySem.Within mA (fs.map (·.1))/\fs.length<=1000/\H dx=some (.own a):=by
 obtain ⟨d,z,ne,ob,mA,n,r,q⟩:=(show Kc P w H h a (.ins C dx fs) from hok a _ e)
 exact ⟨mA,⟨ob,n,ne⟩,r,q,z,d⟩
end
structure Cls(K:PySem.W.Frag)(C:Addr):Prop where
 pg:PySem.W.plainGet K C Str.empty=true
 hd:PySem.W.hasDictIn K C=true
 po:PySem.W.plainOver K C=true
 sa:PySem.W.findIn K (.ref C) "__setattr__" = some (some (.builtin "object.__setattr__"))
theorem Cls.get{K:PySem.W.Frag}{C:Addr}(c:Cls K C)(f:Str):PySem.W.plainGet K C f=true:=c.pg
section
variable{X:Cx}{pins:List (Addr×Obj)}{σ:St}{H:Hp}{s:Al}{A:Cr}{E:Value->Al->Prop}{Q:Value->Al->Prop}{c:Value}{b:Bool}
inductive TyOf (K:PySem.W.Frag) (H:Hp):V->Value->Prop where
 | non:TyOf K H .non (.type "NoneType")
 | bl (x:Bool):TyOf K H (.bl x) (.type "bool")
 | int (i:Int):TyOf K H (.int i) (.type "int")
 | str (x:Str):TyOf K H (.str x) (.type "str")
 | flt (x:UInt64):TyOf K H (.flt x) (.type "float")
 | lst {a:Addr} {xs:List V} (e:H a=some (.lst xs)):TyOf K H (.ref a) (.type "list")
 | frz {a:Addr} {o:Obj} {xs:List V} (e:H a=some (.frz o (.lst xs))):TyOf K H (.ref a) (.type "list")
 | tup {a:Addr} {xs:List V} (e:H a=some (.tup xs)):TyOf K H (.ref a) (.type "tuple")
 | dK {a:Addr} {kvs:List (Xn×V)} (e:H a=some (.dK kvs)):TyOf K H (.ref a) (.type "dict")
 | dT {a:Addr} {kvs:List (List Xn×V)} (e:H a=some (.dT kvs)):TyOf K H (.ref a) (.type "dict")
 | ins {a C dx:Addr} {fs:List (Str×V)} (e:H a=some (.ins C dx fs)) (cl:Cls K C) (ha:PySem.W.findIn K (.ref C) "__class__" = some (some (.builtin "object.__class__")))
   (hn:PySem.W.specialIn K (.builtin "object.__class__") "__get__" = some (some (.builtin "getset_descriptor.__get__"))) (htk:PySem.W.takesIn K (.builtin "object.__class__")=some true)
   (hm:PySem.W.mroIn K C (.type "object")=some true):TyOf K H (.ref a) (.ref C)
theorem mB{x:V}{u t:Value}(I:Inv X pins σ H s)(rx:RelV x u)(ty:TyOf X.K H x t)(e:PySem.W.kitOne X.K t c=some b)(h:∀tk,Q (.bool b) { s with toks:=tk }):wpAny (model X.prog X.w) A (call (.builtin "isinstance") [u,c]) Q E s:=by
 cases ty with
 | non=>cases (show u=Uy from rx); exact PySem.W.kia_one PySem.W.kitx_none I.kIn Vu e (λz=>nomatch z) h
 | bl y=>cases (show u=Uz y from rx); exact PySem.W.kia_one PySem.W.kitx_bool I.kIn Vu e (λz=>nomatch z) h
 | int i=>obtain ⟨t,q⟩:=(show ∃t,u=Mz i t from rx); cases q; exact PySem.W.kia_one PySem.W.kitx_int I.kIn Vu e (λz=>nomatch z) h
 | str y=>obtain ⟨t,q⟩:=(show ∃t,u=Value.str y t from rx); cases q; exact PySem.W.kia_one PySem.W.kitx_str I.kIn Vu e (λz=>nomatch z) h
 | flt y=>obtain ⟨t,q⟩:=(show ∃t,u=Value.float y t from rx); cases q; exact PySem.W.kia_one PySem.W.kitx_float I.kIn Vu e (λz=>nomatch z) h
 | @lst a xs ea =>
  cases (show u=Bg a from rx)
  obtain ⟨_,_,n,_,h1⟩:=(show Kc X.prog X.w H s.heap a (.lst xs) from I.hok a _ ea)
  exact PySem.W.kia_one PySem.W.kitx_list I.kIn ⟨_,h1,rfl⟩ e (λz=>nomatch z) h
 | @frz a ob xs ea =>
  cases (show u=Bg a from rx)
  obtain ⟨_,_,_,n,_,h1⟩:=(show Kc X.prog X.w H s.heap a (.frz ob (.lst xs)) from I.hok a _ ea)
  exact PySem.W.kia_one PySem.W.kitx_list I.kIn ⟨_,h1,rfl⟩ e (λz=>nomatch z) h
 | @tup a xs ea =>
  cases (show u=Bg a from rx)
  obtain ⟨_,_,_,p⟩:=(show Kc X.prog X.w H s.heap a (.tup xs) from I.hok a _ ea)
  obtain ⟨o,h1,h2,_⟩:=p
  exact PySem.W.kia_one PySem.W.kitx_tuple I.kIn ⟨o,h1,h2⟩ e (λz=>nomatch z) h
 | @dK a kvs ea =>
  cases (show u=Bg a from rx)
  obtain ⟨_,_,vs,_,p⟩:=(show Kc X.prog X.w H s.heap a (.dK kvs) from I.hok a _ ea)
  obtain ⟨o,es,ep,h1,h2,_⟩:=p
  exact PySem.W.kia_one PySem.W.kitx_dict I.kIn ⟨o,h1,h2.1⟩ e (λz=>nomatch z) h
 | @dT a kvs ea =>
  cases (show u=Bg a from rx)
  obtain ⟨_,_,xs,_,o,es,ep,h1,h2,_⟩:=(show Kc X.prog X.w H s.heap a (.dT kvs) from I.hok a _ ea)
  exact PySem.W.kia_one PySem.W.kitx_dict I.kIn ⟨o,h1,h2.1⟩ e (λz=>nomatch z) h
 | @ins a C dx fs ea cl ha hn htk hm =>
  cases (show u=Bg a from rx)
  obtain ⟨mA,O,_⟩:=uY I.hok ea
  obtain ⟨od,J,_⟩:=O.look
  exact PySem.W.kia_one (PySem.W.kitx_own (cl.get _) cl.hd ha hn htk hm) I.kIn J e (λz=>nomatch z) h
end
structure Room(k:Nat)(A:Cr):Prop where
 hd:A.handled=none
 dp:A.depth+3 * k+5<Lr
 un:A.units+16 * k+200<cLine
 gd:A.guards=some []
theorem Room.mono{j k:Nat}{A:Cr}(r:Room k A)(h:j<=k):Room j A:=⟨r.hd,by have:=r.dp; omega,by have:=r.un; omega,r.gd⟩
theorem Room.deeper{k:Nat}{A:Cr}(r:Room (k+1) A)(env:Env):Room k (A.deeper env) :=
 ⟨r.hd,by have:=r.dp; show A.depth+1+3 * k+5<_; omega,by have:=r.un; show A.units+3+16 * k+200<_; omega,r.gd⟩
theorem Room.depth{k:Nat}{A:Cr}(r:Room k A):A.depth<Lr:=by have:=r.dp; omega
theorem Room.units{k:Nat}{A:Cr}(r:Room k A):A.units+64<cLine:=by have:=r.un; omega
def W3:TA:=λ_ H Q=>Q [] H
def M8(ta:TE)(tr:TA):TA:=λσ H Q=>ta σ H λx H1=>tr σ H1 λxs H2=>Q (x::xs) H2
section
variable{X:Cx}{e:Expr}{es:List Expr}{te:TE}{t:TA}{pos:Pos}
theorem Qx:PA X [] W3:=λ_ _ _ _ H Q I h=>Wo ⟨[],H,I,.nil,h⟩
theorem Iq(ha:PE X e te)(hr:PA X es t)(hs:Bs (e::es) X.env=(false,eval e X.env)::Bs es X.env:=by rfl):PA X (e::es) (M8 te t):=by
 intro pos pins s σ H Q I h
 rw[hs]
 show wpAny _ _ (spliced ((false,eval e X.env)::Ih pos (Bs es X.env))) _ _ s
 refine Nl (Jo (ha pins s σ H _ I h) λu s1 q0_ => ?_)
 obtain ⟨x,H1,I1,r1,q1⟩ := q0_
 exact Jo (hr pos pins s1 σ H1 _ I1 q1) λus s2 ⟨xs,H2,I2,r2,q2⟩=>⟨x::xs,H2,I2,.cons r1 r2,q2⟩
def V0(t:TA):TE:=λσ H Q=>t σ H λxs H1=>xs.length<=Be/\∀p,H1 p=none->Q (.ref p) (upd H1 p (.tup xs))
def U3(t:TA):TE:=λσ H Q=>t σ H λxs H1=>xs.length<=Be/\∀p,H1 p=none->Q (.ref p) (upd H1 p (.lst xs))
theorem zG{x1}(h:PA X es t):PE X (.Tuple es x1 pos) (V0 t):=by
 intro pins s σ H Q I hq
 refine wpAny_Tuple_spliced (Jo (h pos pins s σ H _ I hq) λus s1 ⟨xs,H1,I1,r,z,q⟩=>⟨by rw[<- r.length]; exact z,?_⟩)
 have hf:H1 s1.heap.objs.size=none:=I1.hok.fresh (Ap _)
 refine ⟨.ref s1.heap.objs.size,upd H1 s1.heap.objs.size (.tup xs),I1.laid (t':=s1.toks) (λb u e=>Aj _ e) (Ap _) ?_,rfl,q _ hf⟩
 exact ⟨z,us,r,⟨_,Bn _ rfl,rfl,_,rfl⟩⟩
theorem jJ(h:PA X es t):PE X (.List es pos) (U3 t):=by
 intro pins s σ H Q I hq
 refine wpAny_List_spliced (Jo (h pos pins s σ H _ I hq) λus s1 ⟨xs,H1,I1,r,z,q⟩=>⟨by rw[<- r.length]; exact z,?_⟩)
 have hf:H1 s1.heap.objs.size=none:=I1.hok.fresh (Ap _)
 refine ⟨.ref s1.heap.objs.size,upd H1 s1.heap.objs.size (.lst xs),I1.laid (t':=s1.toks) (λb u e=>Aj _ e) (Ap _) ?_,rfl,q _ hf⟩
 exact ⟨z,us,0,r,Bn _ rfl⟩
end
abbrev Sp:=List V->Hp->VK->XK->Prop
abbrev nM:=List Env->Hp->Al->XK->Value->Al->Prop
structure Env0(P:Bp)(w:World)(K:PySem.W.Frag)(mg:Str->Option Value)(base:Heap)(A:Cr)(outer:List Env)(s:Al)(H:Hp):Prop where
 frames:A.frames=some outer
 mod:Mod K mg base
 bs:∀b o,base.get? b=some o->s.heap.get? b=some o/\H b=none
 bsz:base.objs.size<=s.heap.objs.size
 funs:s.heap.FunFrames base outer
 frf:∀b∈mF outer,H b=none
 hok:Zx P w H s.heap
 bare:Rj s.gens
 tab:rE K mg base H
def CE(outer:List Env)(P:Bp)(w:World)(H:Hp)(s:Al)(Q:VK)(u:Value)(s':Al):Prop :=
 ∃v H',s'.os=s.os/\Rj s'.gens/\Un (mF outer) [] H H' s.heap s'.heap/\Zx P w H' s'.heap/\RelV v u/\Q v H'
def CR(CX:nM)(outer:List Env)(P:Bp)(w:World)(H:Hp)(s:Al)(Q:VK)(E:XK)(r:Result)(s':Al):Prop :=
 match r with
 | .ok (.ret u)=>CE outer P w H s Q u s'
 | .ok _=>False
 | .error e=>CX outer H s E e s'
structure FnOk(P:Bp)(w:World)(K:PySem.W.Frag)(mg:Str->Option Value)(base:Heap)(CX:nM)(k:Nat)(f:Addr)(fd:Bx)(ps:List Str)(sp:Sp):Prop where
 len:∀vs H Q E,sp vs H Q E->vs.length=ps.length
 run:∀(A:Cr) (outer:List Env) (s:Al) (H:Hp) (args:Args) (us:List Value) (vs:List V) (Q:VK) (E:XK),Room k A->Env0 P w K mg base A outer s H->BindsTo s fd args (ps.zip us)->Fi vs us->sp vs H Q E ->
  Tq (model P w) A (.call (.ref f) args) (CR CX outer P w H s Q E) s
theorem FnOk.imp{P:Bp}{w:World}{K:PySem.W.Frag}{mg:Str->Option Value}{base:Heap}{CX:nM}{k:Nat}{f:Addr}{fd:Bx}{ps:List Str}{sp sp':Sp}(F:FnOk P w K mg base CX k f fd ps sp)(h:∀vs H Q E,sp' vs H Q E->sp vs H Q E):FnOk P w K mg base CX k f fd ps sp' :=
 ⟨λvs H Q E q=>F.len vs H Q E (h _ _ _ _ q),λA outer s H args us vs Q E hr he hb hv hs=>F.run A outer s H args us vs Q E hr he hb hv (h _ _ _ _ hs)⟩
section
variable{X:Cx}{pins:List (Addr×Obj)}{σ:St}{H:Hp}{s s':Al}
theorem Inv.env0(I:Inv X pins σ H s):Env0 X.prog X.w X.K X.mg X.base X.A X.stack s H :=
 ⟨I.ok.frames,I.ok.mod,I.bs,Cm I.ok.bsz I.sz,I.stack,I.stkFree,I.hok,I.bare,I.ok.tab.un I.base⟩
theorem Inv.after{Q:VK}{u:Value}(I:Inv X pins σ H s)(h:CE X.stack X.prog X.w H s Q u s'):EP X pins σ Q u s':=by
 obtain ⟨v,H',os,bare,un,hok,r,q⟩:=h
 obtain ⟨hh,g,d,t,os'⟩:=s'
 obtain rfl:os'=s.os:=os
 exact ⟨v,H',I.call (h':=hh) (g':=g) (d':=d) (t':=t) (ch:=[]) un hok bare (λb z=>absurd z (by simp)),r,q⟩
end
def J5(sp:Sp)(dvs:List V)(E:XK)(t:TA):TE:=λσ H Q=>t σ H λvs H1=>sp (vs++dvs) H1 Q E
def Binds(K:PySem.W.Frag)(fd:Bx)(ps:List Str)(ds:List Value):Prop :=
 ∀(s:Al) (us:List Value),K.In s.heap->(us++ds).length=ps.length->BindsTo s fd ⟨us,[]⟩ (ps.zip (us++ds))
theorem Binds.all{K:PySem.W.Frag}{fd:Bx}{ps:List Str}(h:∀us:List Value,us.length=ps.length->bindArgs fd ⟨us,[]⟩=pure (ps.zip us)):Binds K fd ps []:=λs us _ hl=>by
 rw[Dk] at hl ⊢
 exact .of_eq (h us hl)
def Sz(CX:nM)(X:Cx)(E:XK):Prop:=∀(pins:List (Addr×Obj)) (σ:St) (H:Hp) (s:Al) (e:Value) (s':Al),Inv X pins σ H s->CX X.stack H s E e s'->X.xe e s'
section
variable{X:Cx}{CX:nM}{k:Nat}{f C:Addr}{fd:Bx}{ps:List Str}{sp:Sp}{dvs:List V}{ds:List Value}{E:XK}{x m:Str}{p pos apos:Pos}{e o:Expr}{es:List Expr}{ta:TE}{t:TA}
theorem x4{pins:List (Addr×Obj)}{σ:St}{H:Hp}{s:Al}{Q:VK}{us:List Value}{vs:List V}(F:FnOk X.prog X.w X.K X.mg X.base CX k f fd ps sp)(hr:Room k X.A)(hb:Binds X.K fd ps ds)(hd:Fi dvs ds)(hx:Sz CX X E)(I:Inv X pins σ H s)(r:Fi vs us)(h:sp (vs++dvs) H Q E):wpAny (model X.prog X.w) X.A (call (.ref f) us) (EP X pins σ Q) X.xe s:=by
 have r2:Fi (vs++dvs) (us++ds):=r.append hd
 have hl:(us++ds).length=ps.length:=by rw[<- r2.length]; exact F.len _ _ _ _ h
 refine wpAny_call (bV (F.run X.A X.stack s H ⟨us,[]⟩ (us++ds) (vs++dvs) Q E hr I.env0 (hb s us I.kIn hl) r2 h) λr s' hq=>?_)
 cases r with
 | error e=>exact hx pins σ H s e s' I hq
 | ok fl =>
  cases fl with
  | ret u=>exact I.after hq
  | next=>exact Iy hq
  | brk=>exact Iy hq
  | cont=>exact Iy hq
theorem Xh(F:FnOk X.prog X.w X.K X.mg X.base CX k f fd ps sp)(hr:Room k X.A)(hg:Gl X x)(hm:X.mg x=some (.ref f))(hk:PySem.W.keepIn X.K (.ref f)=true)(hb:Binds X.K fd ps ds)(hd:Fi dvs ds)(hx:Sz CX X E)(ha:PA X (e::es) t)(hdb:(x == ("__debug__" : Str))=false:=by decide)(he:Bs (e::es) X.env=(false,eval e X.env)::Bs es X.env:=by rfl)(hpl:(Ih pos (Bs es X.env)).any (·.1)=false:=by rfl):PE X (.Call (.Name x p) (e::es) [] pos) (J5 sp dvs E t):=by
 intro pins s σ H Q I h
 refine Gk (vI I hg hm ?_ hdb)
 refine PySem.W.callWith_K (h₀:=X.base) I.ok.mod.kin hk (Jo (ha pos pins s σ H _ I h) λus s1 ⟨vs,H1,I1,r,q⟩=>⟨I1.kIn,?_⟩) he hpl
 exact x4 F hr hb hd hx I1 r q
end
structure FnScope(N P:List Str)(sc:Scope):Prop where
 kind:sc.kind=.function
 co:sc.isCoroutine=false
 gen:sc.isGenerator=false
 nd:N.Nodup
 pre:N.take P.length=P
 par:∀x∈P,sc.names.lookup x=some .local\/sc.names.lookup x=some .cell
 nofree:∀y∈sc.names,y.2≠.free
theorem bI{kindOf:Str->Option Nk}{x:Str}:∀{binds:List (Str×Value)} {m:Str->Option Value},(∀v,(x,v)∉binds)->bindL kindOf binds m x=m x
 | [],_,_=>rfl
 | (n,v)::r,m,h=>by
  unfold bindL
  rw[bI λw hw=>h w (Ak _ hw)]
  split
  ·have : x≠n:=by rintro rfl; exact h v Ab
   simp [this]
  ·rfl
theorem bM{kindOf:Str->Option Nk}{x:Str}:∀{binds:List (Str×Value)} {m:Str->Option Value},(∀v,(x,v)∉binds)->bindC kindOf binds m x=m x
 | [],_,_=>rfl
 | (n,v)::r,m,h=>by
  unfold bindC
  rw[bM λw hw=>h w (Ak _ hw)]
  split
  ·rfl
  ·have : x≠n:=by rintro rfl; exact h v Ab
   simp [this]
theorem aQ{kindOf:Str->Option Nk}{x:Str}{v:Value}:∀{P:List Str} {vs:List Value} {i:Nat} {m:Str->Option Value},P.Nodup->P[i]? = some x->vs[i]? = some v->kindOf x=some .local->bindL kindOf (P.zip vs) m x=some v
 | [],_,_,_,_,h,_,_=>by simp at h
 | _::_,[],_,_,_,_,h,_=>by simp at h
 | p::P,w::vs,0,m,nd,h1,h2,hk=>by
  simp at h1 h2; subst h1; subst h2
  show bindL kindOf ((p,w)::P.zip vs) m p=_
  unfold bindL
  rw[bI λv hv=>(Di.mp nd).1 (List.of_mem_zip hv).1,if_pos hk]
  simp
 | p::P,w::vs,i+1,m,nd,h1,h2,hk=>by
  show bindL kindOf ((p,w)::P.zip vs) m x=_
  unfold bindL
  exact aQ (i:=i) (Di.mp nd).2 (by simpa using h1) (by simpa using h2) hk
theorem aS{kindOf:Str->Option Nk}{x:Str}{v:Value}:∀{P:List Str} {vs:List Value} {i:Nat} {m:Str->Option Value},P.Nodup->P[i]? = some x->vs[i]? = some v->kindOf x≠some .local->bindC kindOf (P.zip vs) m x=some v
 | [],_,_,_,_,h,_,_=>by simp at h
 | _::_,[],_,_,_,_,h,_=>by simp at h
 | p::P,w::vs,0,m,nd,h1,h2,hk=>by
  simp at h1 h2; subst h1; subst h2
  show bindC kindOf ((p,w)::P.zip vs) m p=_
  unfold bindC
  rw[bM λv hv=>(Di.mp nd).1 (List.of_mem_zip hv).1,if_neg hk]
  simp
 | p::P,w::vs,i+1,m,nd,h1,h2,hk=>by
  show bindC kindOf ((p,w)::P.zip vs) m x=_
  unfold bindC
  exact aS (i:=i) (Di.mp nd).2 (by simpa using h1) (by simpa using h2) hk
def start(N:List Str)(vs:List V):St:=vs.map some++Ci (N.length - vs.length) none
def Vl(CX:nM)(P:Bp)(w:World)(K:PySem.W.Frag)(mg:Str->Option Value)(base:Heap)(N:List Str)(qual:Str)(scope:Scope)(f:Addr)(cd:Value)(A:Cr)(outer:List Env)(s:Al)(H:Hp)(E:XK):Cx where
 prog:=P
 w:=w
 K:=K
 mg:=mg
 base:=base
 A:=A.deeper (Mu qual scope s.heap.objs.size f cd)
 N:=N
 s₀:=s
 H₀:=H
 env:=Mu qual scope s.heap.objs.size f cd
 outer:=outer
 stack:=Mu qual scope s.heap.objs.size f cd::outer
 ex:=[]
 calm:=true
 fn:=λ_=>true
 pn:=[]
 xe:=λe s'=>wpAny (model P w) (A.deeper (Mu qual scope s.heap.objs.size f cd)) (leaving (Mu qual scope s.heap.objs.size f cd) e) (λ_ s''=>CX outer H s E e s'') (λe' s''=>CX outer H s E e' s'') s'
theorem gC{sc:Scope}{n:Nat}{x:Str}(h:sc.names.lookup x=some .cell):∃c,(Eu n sc.names []).lookup x=some c:=by
 have q:=PySem.W.cellsFrom_some sc.names n [] (.inl h)
 exact Os.mp q
theorem oG{CX:nM}{P:Bp}{w:World}{K:PySem.W.Frag}{mg:Str->Option Value}{base:Heap}{N ps:List Str}{qual:Str}{scope:Scope}{f:Addr}{cd:Value}{A:Cr}{outer:List Env}{s s1:Al}{H:Hp}{E:XK}{us:List Value}{vs:List V}(S:FnScope N ps scope)(hd:A.handled=none)(e0:Env0 P w K mg base A outer s H)(hl:vs.length=ps.length)(r:Fi vs us)(x:InCallC s s.heap.objs.size (bindL (Mu qual scope s.heap.objs.size f cd).kindOf (ps.zip us) λ_=>none) (Eu (s.heap.objs.size+1) scope.names []) (bindC (Mu qual scope s.heap.objs.size f cd).kindOf (ps.zip us) λ_=>none) s1):Inv (Vl CX P w K mg base N qual scope f cd A outer s H E) [] (start N vs) H s1:=by
 have hpl:ps.length<=N.length:=by have:=congrArg Ga S.pre; rw[Dj] at this; omega
 obtain ⟨h1,tk,rfl,hk⟩:=x.done
 have noA:∀b:Addr,b∉(Vl CX P w K mg base N qual scope f cd A outer s H E).ex:=λb z=>absurd (show b∈([]:List Addr) from z) (by simp)
 refine ⟨⟨e0.mod,S.kind,rfl,rfl,Ap _,λy z c h1 h2=>?_,λy hy=>?_,λy c _ h=>?_,λ_=>hd,Around.frames_deeper e0.frames,.inr ⟨rfl,rfl⟩,λb z=>absurd z (noA b),e0.bs,e0.bsz,λb _ _=>noA b,λb z=>absurd z (noA b),e0.funs,e0.frf,e0.tab⟩,
  rfl,e0.bare,Un.kept hk,⟨_,x.toInCall.ns,λi y v h1 h2 h3=>?_⟩,λy c h=>⟨_,x.cell y c h⟩,e0.hok.fresh (Ap _),λy c h=>?_,λp hp=>absurd (show p∈([]:List (Addr×Obj)) from hp) (by simp),e0.hok.kept hk,?_⟩
 ·exact name_of_addr x.apart (PySem.mem_of_lookup h1) (PySem.mem_of_lookup h2)
 ·have hy:scope.names.lookup y=some .cell\/scope.names.lookup y=some .free:=hy
  rcases hy with hy | hy
  ·exact gC hy
  ·exact absurd rfl (S.nofree _ (PySem.mem_of_lookup hy))
 ·exact Lb (x.above y c (PySem.mem_of_lookup h))
 ·have hi:i<vs.length:=by
   unfold start at h2
   by_cases hi:i<vs.length
   ·exact hi
   ·rw[Ge (by simpa using hi)] at h2
    rw[List.getElem?_replicate] at h2
    split at h2 <;> cases h2
  have ha:vs[i]? = some v:=by
   unfold start at h2
   rw[Jk (by simpa using hi),Ao] at h2
   cases e:vs[i]? with
   | none=>rw[e] at h2; cases h2
   | some a=>rw[e] at h2; cases h2; rfl
  obtain ⟨u,hu,rv⟩:=r.get ha
  have hp:ps[i]? = some y:=by
   rw[<- S.pre,Ea (by omega)]; exact h1
  have ndP:ps.Nodup:=by rw[<- S.pre]; exact S.nd.sublist (Ku _ _)
  refine ⟨u,rv,?_⟩
  rcases S.par y (An hp) with k | k
  ·exact .inl ⟨k,aQ ndP hp hu k⟩
  ·obtain ⟨c,e⟩:=gC (n:=s.heap.objs.size+1) k
   refine .inr ⟨.inl k,c,e,?_⟩
   have q:=x.cell y c e
   rw[aS ndP hp hu (by show scope.names.lookup y≠_; rw[k]; decide)] at q
   exact q
 ·exact e0.hok.fresh (Lb (x.above y c (PySem.mem_of_lookup h)))
 ·unfold start
  show _=N.length
  rw[Cc,Aa,List.length_replicate]
  omega
theorem yX{CX:nM}{P:Bp}{w:World}{K:PySem.W.Frag}{mg:Str->Option Value}{base:Heap}{k:Nat}{f:Addr}{name qual:Str}{params:Lg}{body:List Stmt}{scope:Scope}{dV kV doc pm cdv ct oc:Value}{an od:Option Addr}{osl:Array (Option Value)}{N ps:List Str}{sp:Sp}(lk:K.lookup f=some ⟨oc,od,.func (PySem.W.fnOf name qual params body scope dV kV doc pm an cdv ct),osl⟩)(hcd:PySem.W.codeIn K cdv qual=true)(S:FnScope N ps scope)(len:∀vs H Q E,sp vs H Q E->vs.length=ps.length)(hbody:∀(A:Cr) (outer:List Env) (s:Al) (H:Hp) (vs:List V) (Q:VK) (E:XK),Room k (A.deeper (Mu qual scope s.heap.objs.size f cdv))->sp vs H Q E->∃t,gU (Vl CX P w K mg base N qual scope f cdv A outer s H E) body t/\t { nx:=λ_ H'=>Q .non H',rt:=Q } (start N vs) H):FnOk P w K mg base CX (k+1) f (PySem.W.fnOf name qual params body scope dV kV doc pm an cdv ct) ps sp:=by
 refine ⟨len,λA outer s H args us vs Q E hr e0 hb r hsp=>?_⟩
 have hl:=len _ _ _ _ hsp
 have KX:K.In s.heap:=e0.mod.kin.keeps λb o e=>(e0.bs b o e).1
 have lim:s.heap.NoLimit:=e0.mod.nolimit.keeps λb o e=>(e0.bs b o e).1
 have hkind:∀y∈ps.zip us,scope.names.lookup y.1=some .local\/(scope.names.lookup y.1=some .cell/\((Eu (s.heap.objs.size+1) scope.names []).lookup y.1).isSome=true):=λ⟨n,v⟩ hy=>by
  rcases S.par n (List.of_mem_zip hy).1 with q | q
  ·exact .inl q
  ·exact .inr ⟨q,PySem.W.cellsFrom_some _ _ _ (.inl q)⟩
 refine codeAny_call_function hr.depth (KX _ _ lk) rfl S.co S.gen rfl (PySem.W.codeRec_of KX hcd) (hb _ _ _ _ ?_)
 refine wpAny_newFunctionEnv_cells S.kind hkind λenv he s1 x=>?_
 subst he
 refine ⟨lim.keeps x.toInCall.keep,codeAny_func ?_⟩
 obtain ⟨t,ht,hq⟩:=hbody A outer s H vs Q E (hr.deeper _) hsp
 have I:Inv (Vl CX P w K mg base N qual scope f cdv A outer s H E) [] (start N vs) H s1:=oG S hr.hd e0 hl r x
 refine Ez (ht [] s1 (start N vs) H _ I hq) (λfl s' hs=>?_) λe s' hs=>hs
 have fin:∀{σ':St} {H':Hp} {v:V} {u:Value},Inv (Vl CX P w K mg base N qual scope f cdv A outer s H E) [] σ' H' s'->RelV v u->Q v H'->CE outer P w H s Q u s' :=
  λ{σ' H' v u} J rv q=>⟨v,H',J.os,J.bare,J.base,J.hok,rv,q⟩
 cases fl with
 | ret u =>
  obtain ⟨v,σ',H',J,rv,q⟩:=hs
  exact fin J rv q
 | next =>
  obtain ⟨σ',H',J,q⟩:=hs
  exact fin (v:=V.non) (u:=Uy) J rfl q
 | brk =>
  obtain ⟨_,_,_,q⟩:=hs
  exact Iy q
 | cont =>
  obtain ⟨_,_,_,q⟩:=hs
  exact Iy q
section
variable{X:Cx}{x:Str}{p pos:Pos}{e:Expr}{es:List Expr}{t:TA}{id T:String}{r:List V->Hp->VK->Prop}
def R8(r:List V->Hp->VK->Prop)(t:TA):TE:=λσ H Q=>t σ H λvs H1=>r vs H1 Q
theorem pA(hc:Ld X (.builtin id) r)(hg:Gl X x)(hm:X.mg x=none)(hv:Ig x=some (.builtin id))(ha:PA X (e::es) t)(hn:x ≠ "__name__" := by decide)(hdb:(x == ("__debug__" : Str))=false:=by decide)(he:Bs (e::es) X.env=(false,eval e X.env)::Bs es X.env:=by rfl)(hpl:(Ih pos (Bs es X.env)).any (·.1)=false:=by rfl):PE X (.Call (.Name x p) (e::es) [] pos) (R8 r t):=by
 intro pins s σ H Q I h
 refine Gk (Qq I hg hm hv ?_ hn hdb)
 exact Tj (Jo (ha pos pins s σ H _ I h) λus s1 ⟨vs,H1,I1,r1,q1⟩=>hc pins s1 σ H1 vs us Q I1 r1 q1) he hpl
theorem aT(hc:Ld X (.type T) r)(hg:Gl X x)(hm:X.mg x=none)(hv:Ig x=some (.type T))(ha:PA X (e::es) t)(hn:x ≠ "__name__" := by decide)(hdb:(x == ("__debug__" : Str))=false:=by decide)(he:Bs (e::es) X.env=(false,eval e X.env)::Bs es X.env:=by rfl)(hpl:(Ih pos (Bs es X.env)).any (·.1)=false:=by rfl):PE X (.Call (.Name x p) (e::es) [] pos) (R8 r t):=by
 intro pins s σ H Q I h
 refine Gk (Qq I hg hm hv ?_ hn hdb)
 exact Lf (Jo (ha pos pins s σ H _ I h) λus s1 ⟨vs,H1,I1,r1,q1⟩=>hc pins s1 σ H1 vs us Q I1 r1 q1) he hpl
end
end L2
namespace HT
open PySem PyProof.Rows
def lexLt:List Int->List Int->Bool
 | [],[]=>false
 | [],_::_=>true
 | _::_,[]=>false
 | x::xs,y::ys=>if x=y then lexLt xs ys else decide (x<y)
theorem lexLt_cons(x y:Int)(xs ys:List Int):lexLt (x::xs) (y::ys)=if x=y then lexLt xs ys else decide (x<y):=rfl
theorem lexLt_nil_nil:lexLt [] []=false:=rfl
theorem lexLt_nil_cons(y:Int)(ys:List Int):lexLt [] (y::ys)=true:=rfl
theorem lexLt_cons_nil(x:Int)(xs:List Int):lexLt (x::xs) []=false:=rfl
theorem gH(A:Cr)(s:Al)(a:Int)(t:Tok)(c:Int)(u:Tok):∃e,Lh A s (.int a t) (.int c u) e/\(e=true↔a=c) :=
 ⟨(a == c),SeqAt.EqAt.int_int a t c u,by simp⟩
theorem sR(A:Cr)(s:Al)(a:Int)(t:Tok)(c:Int)(u:Tok)(prog:Bp)(w:World)(E:Value->Al->Prop)(Q:Value->Al->Prop)(h:Q (.bool (decide (a<c))) s):wpAny (model prog w) A (richCompare .Lt (.int a t) (.int c u)) Q E s :=
 (PyProof.Rows.lt_int h:wpAny (model prog w) A (Fo .Lt (.int a t) (.int c u)) Q E s)
section
open PySem.SeqAt
open PySem.AutoSeq1 (wpAny_loadPart')
open PySem.MeetsSeq PySem.MeetsSeq2 PySem.MeetsSeq3
theorem tuple_lt_ints(l b:Addr)(items items2:Array Value)(n n2:Nat)(dd dd2:Option Addr)(sl sl2:Array (Option Value))(ns ms:List Int)(hi:Dw items.toList ns)(hj:Dw items2.toList ms):Meets (Builtin.«tuple.__lt__» ⟨[.ref l,.ref b],[]⟩) (λ_ R s=>s.heap.get? l=some { cls:=.type "tuple",dict:=dd,data:=.seq items n,slots:=sl }/\s.heap.get? b=some { cls:=.type "tuple",dict:=dd2,data:=.seq items2 n2,slots:=sl2 }/\R (.ok (.ret (.bool (lexLt ns ms)))) s) :=
 .of_wp λprog w A R s h=>by
  obtain ⟨hp,g,d,tk,os⟩:=s; obtain ⟨hl,hb,h⟩:=h
  have f2:=aP
  have z1:items.size=ns.length:=by rw[<- hi.length]; simp
  have z2:items2.size=ms.length:=by rw[<- hj.length]; simp
  wp_walk using Iv hl,Iv hb,wpAny_forIn_list _ (λFt b s'=>b.1=none/\s'=⟨hp,g,d,tk,os⟩/\∃(vs ws:List Value) (ns' ms':List Int),Ft=vs.zip ws /\
   Dw vs ns'/\Dw ws ms'/\ns'.length+items2.size=ms'.length+items.size/\R (.ok (.ret (.bool (lexLt ns' ms')))) ⟨hp,g,d,tk,os⟩) _
  case turn =>
   (rintro ⟨y,x⟩ Ft b s' q_; obtain ⟨hb',rfl,vs,ws,ns',ms',hz,hvi,hwi,hlen,hR⟩ := q_)
   cases hvi with
   | nil=>rw[List.zip_nil_left] at hz; cases hz
   | cons a t hvi' =>
    cases hwi with
    | nil=>rw[List.zip_nil_right] at hz; cases hz
    | cons c u hwi' =>
     rw[Hl] at hz
     injection hz with hyx hrest
     injection hyx with hy hx
     subst hy hx
     rw[lexLt_cons] at hR
     simp only[Bk] at hlen
     obtain ⟨e,he,hiff⟩:=gH A.in1 ⟨hp,g,d,tk,os⟩ a t c u
     refine Ag (he prog w _ _ ?_)
     cases e with
     | true =>
      rw[if_pos (hiff.mp rfl)] at hR
      wp_walk
      exact ⟨rfl,rfl,_,_,_,_,hrest,hvi',hwi',by omega,hR⟩
     | false =>
      rw[if_neg (λq=>absurd (hiff.mpr q) Ce)] at hR
      have hri:=sR A.in1 ⟨hp,g,d,tk,os⟩ a t c u prog w
      wp_walk using hri
      exact ⟨_,rfl,by simpa using hR⟩
  case fin =>
   (rintro ⟨b1,b2⟩ s' q_; obtain ⟨hb',rfl,vs,ws,ns',ms',hz,hvi,hwi,hlen,hR⟩ := q_)
   simp only at hb'
   subst hb'
   have hv:lexLt ns' ms'=decide (items.size<items2.size):=by
    cases hvi with
    | nil =>
     cases hwi with
     | nil =>
      simp only[Gm] at hlen
      rw[lexLt_nil_nil]
      exact (decide_eq_false (by omega)).symm
     | cons c u hw =>
      simp only[Gm,Bk] at hlen
      rw[lexLt_nil_cons]
      exact (decide_eq_true (by omega)).symm
    | cons a t hv =>
     cases hwi with
     | nil =>
      simp only[Gm,Bk] at hlen
      rw[lexLt_cons_nil]
      exact (decide_eq_false (by omega)).symm
     | cons c u hw =>
      rw[Hl] at hz
      cases hz
   rw[hv] at hR
   wp_walk
   exact ⟨_,rfl,by simpa [Sm] using hR⟩
  case h =>
   exact ⟨rfl,rfl,items.toList,items2.toList,ns,ms,rfl,hi,hj,by omega,h⟩
end
section
variable{prog:Bp}{w:World}{A:Cr}{E:Value->Al->Prop}{s:Al}
theorem lt_tupInts{l b:Addr}{items items2:Array Value}{ns ms:List Int}{Q:Value->Al->Prop}(hl:IsTup s.heap l items)(hb:IsTup s.heap b items2)(hi:Dw items.toList ns)(hj:Dw items2.toList ms)(hu:A.units<cLine)(h:Q (.bool (lexLt ns ms)) s):wpAny (model prog w) A (Fo .Lt (.ref l) (.ref b)) Q E s:=by
 obtain ⟨⟨cls,dd,data,sl⟩,ho,hc,n,hd⟩:=id hl
 obtain ⟨⟨cls2,dd2,data2,sl2⟩,ho2,hc2,n2,hd2⟩:=id hb
 simp only at hc hd hc2 hd2
 subst hc hd hc2 hd2
 exact uD (op:=.Lt) ⟨_,ho,rfl⟩ ⟨_,ho2,rfl⟩ PySem.F.slot_tuple_lt PySem.F.entry_tuple_lt (PySem.F.args_tuple_lt_2 _ _) (tuple_lt_ints l b items items2 n n2 dd dd2 sl sl2 ns ms hi hj)
  ⟨ho,ho2,show Uz (lexLt ns ms)≠Value.notImplemented/\Q (.bool (lexLt ns ms)) s from ⟨(λx=>nomatch x),h⟩⟩ hu
theorem cat_tup{t b:Addr}{vs ws:List Value}{Q:Value->Al->Prop}(ht:IsTup s.heap t vs.toArray)(hb:IsTup s.heap b ws.toArray)(hv:vs≠[])(h1:ws=[]->Q (.ref t) s)(h2:ws≠[]->Q (.ref s.heap.objs.size) { s with heap:=s.heap.push { cls:=.type "tuple",data:=.seq (vs++ws).toArray } })(hsz:vs.length+ws.length<=Be):wpAny (model prog w) A (Hr .Add (.ref t) (.ref b)) Q E s:=by
 obtain ⟨⟨cls,dd,data,sl⟩,ho,hc,n,hd⟩:=id ht
 obtain ⟨⟨cls2,dd2,data2,sl2⟩,ho2,hc2,n2,hd2⟩:=id hb
 simp only at hc hd hc2 hd2
 subst hc hd hc2 hd2
 have e:vs.toArray++ws.toArray=(vs++ws).toArray:=by simp
 by_cases hw:ws=[]
 ·exact concat_meets ⟨_,ho,rfl⟩ ⟨_,ho2,rfl⟩ eD seq_tuple_add PySem.F.slot_tuple_add PySem.F.entry_tuple_add (PySem.F.args_tuple_add_2 _ _)
   (tuple_addW1 t b vs.toArray ws.toArray n n2 dd dd2 sl sl2 (by simpa using hv) (by simp [hw])) ⟨ho,ho2,h1 hw⟩
 ·refine concat_meets ⟨_,ho,rfl⟩ ⟨_,ho2,rfl⟩ eD seq_tuple_add PySem.F.slot_tuple_add PySem.F.entry_tuple_add (PySem.F.args_tuple_add_2 _ _)
   (tuple_addW2 t b vs.toArray ws.toArray n n2 dd dd2 sl sl2 (by simpa using hv) (by simpa using hw) (by rw[Aq,Aq]; exact hsz)) ⟨ho,ho2,?_⟩
  rw[e]
  exact h2 hw
def sIx(n d:Nat):Option Int->Nat
 | none=>d
 | some v=>if v<0 then (v+(n:Int)).toNat else min v.toNat n
theorem sIx_none(n d:Nat):sIx n d none=d:=rfl
theorem sIx_nat(n d k:Nat):sIx n d (some (k:Int))=min k n:=by
 show (if (k:Int)<0 then ((k:Int)+(n:Int)).toNat else min (k:Int).toNat n)=min k n
 rw[if_neg (by omega),Ed]
theorem B4(n d:Nat)(hd:d<=n)(o:Option Int):sIx n d o<=n:=by
 cases o with
 | none=>exact hd
 | some v =>
  show (if v<0 then (v+(n:Int)).toNat else min v.toNat n)<=n
  by_cases hv:v<0
  ·rw[if_pos hv]; omega
  ·rw[if_neg hv]; exact Nat.min_le_right _ _
theorem lD(v:Int)(n d:Nat):(if v<0 then max (v+(n:Int)) 0 else min v (n:Int))=((sIx n d (some v):Nat):Int):=by
 show (if v<0 then max (v+(n:Int)) 0 else min v (n:Int))=(((if v<0 then (v+(n:Int)).toNat else min v.toNat n):Nat):Int)
 by_cases hv:v<0
 ·simp only[if_pos hv]; omega
 ·simp only[if_neg hv]; omega
theorem gZ(lo hi:Option Int)(n:Nat):Lv lo hi 1 (n:Int)=(((sIx n 0 lo:Nat):Int),((sIx n n hi:Nat):Int)):=by
 have h1:¬ ((1:Int)<0):=by omega
 unfold Lv
 simp only[h1,if_false]
 refine Prod.ext ?_ ?_
 ·cases lo with
  | none=>rfl
  | some v=>exact lD v n 0
 ·cases hi with
  | none=>rfl
  | some v=>exact lD v n n
theorem iB(i j:Nat):Hv (i:Int) (j:Int) 1=j - i:=by
 unfold Hv
 have h1:(1:Int) > 0:=by omega
 simp only[h1,if_true,Int.ediv_one]
 split <;> omega
theorem Xr{v:Value}{o:Option Int}{Q:Option Int->Al->Prop}(p:Wn v o)(h:Q o s):wpAny (model prog w) A (Builtin.Slice.slicePartIndex v) Q E s:=by
 cases p with
 | none=>exact slicePart_none h
 | int i t=>exact slicePart_int h
theorem sliceApplied_gen{sl:Addr}{vl vu:Value}{lo hi:Option Int}{n:Nat}{Q:Int×Int×Nat->Al->Prop}(hs:s.heap.IsSliceOf sl vl vu .none)(pl:Wn vl lo)(pu:Wn vu hi)(h:Q (((sIx n 0 lo:Nat):Int),1,sIx n n hi - sIx n 0 lo) s):wpAny (model prog w) A (Vc (.ref sl) (pure (n:Int))) Q E s:=by
 obtain ⟨os,hos,hcs,hds⟩:=id hs
 unfold Vc Builtin.Slice.sliceFields
 refine Ag (Ag (wpAny_field hos hds (x:=vl) rfl (Ag (wpAny_field hos hds (x:=vu) rfl (Ag (wpAny_field hos hds (x:=.none) rfl (Ay ?_)))))))
 refine Ag (slicePart_none ?_)
 show wpAny _ _ (if ((1:Int) == 0)=true then _ else _) _ _ s
 rw[if_neg (by decide)]
 refine Ag (Xr pl (Ag (Xr pu (Ag (Ay ?_)))))
 show wpAny _ _ (match Lv lo hi 1 (n:Int) with | (lo,hi)=>pure (lo,(1:Int),Hv lo hi 1)) _ _ s
 rw[gZ lo hi n]
 show wpAny _ _ (pure (((sIx n 0 lo:Nat):Int),(1:Int),Hv ((sIx n 0 lo:Nat):Int) ((sIx n n hi:Nat):Int) 1)) _ _ s
 rw[iB]
 exact Ay h
theorem pC(xs:Array Value)(i k:Nat):((Cb k).filterMap λ(m:Nat)=>xs[((i:Int)+(m:Int) * 1).toNat]?).toArray=((xs.toList.drop i).take k).toArray:=by
 have e:(λ(m:Nat)=>xs[((i:Int)+(m:Int) * 1).toNat]?)=λm=>xs[i+m]?:=by
  funext m
  have : ((i:Int)+(m:Int) * 1).toNat=i+m:=by omega
  rw[this]
 rw[e]
 have:=pick_run xs i k
 rw[List.filterMap_map] at this
 have e2:((λx=>xs[x]?) ∘ λx=>i+x)=λm=>xs[i+m]?:=rfl
 rw[e2] at this
 rw[this]
theorem getItem_tuple_cut{t sl:Addr}{items:Array Value}{vl vu:Value}{lo hi:Option Int}{Q:Value->Al->Prop}(ht:IsTup s.heap t items)(hs:s.heap.IsSliceOf sl vl vu .none)(pl:Wn vl lo)(pu:Wn vu hi)(hw:¬ (sIx items.size 0 lo=0/\sIx items.size items.size hi=items.size))(h:Q (.ref s.heap.objs.size) { s with heap:=s.heap.push { cls:=.type "tuple",data:=.seq ((items.toList.drop (sIx items.size 0 lo)).take (sIx items.size items.size hi - sIx items.size 0 lo)).toArray } })(hsz:items.size<=Be):wpAny (model prog w) A (getItem (.ref t) (.ref sl)) Q E s:=by
 have htake:sizeOk (.seq ((items.toList.drop (sIx items.size 0 lo)).take (sIx items.size items.size hi - sIx items.size 0 lo)).toArray):=by
  show ((items.toList.drop (sIx items.size 0 lo)).take (sIx items.size items.size hi - sIx items.size 0 lo)).toArray.size<=Be
  rw[Aq,Dj,Qd,Aw]
  omega
 have hj:sIx items.size items.size hi<=items.size:=B4 _ _ (Ap _) hi
 obtain ⟨os,hos,hcs,hds⟩:=id hs
 have hTs:s.TypeIs (.ref sl) "slice" := ⟨os,hos,hcs⟩
 unfold getItem
 try with_reducible refine Em ?_
 first | refine Ag (Ay ?_) | skip
 refine Ag (wpAny_sequenceKey ht.typeIs (by decide) ?_)
 refine Ag (tW (name:=Hs "__getitem__") ht.typeIs Eb
  (eB Eb ht.typeIs entry_tuple_getitem ?_ (args_tuple_getitem _ _)))
 show wpAny _ _ (Va (.ref t) >>= _) _ _ s
 refine Ag (tupleItemsOf_ ht ?_)
 refine Ag (To hTs ?_)
 rw[if_pos (by decide)]
 refine Ag (sliceApplied_gen hs pl pu ?_)
 have hno:¬ ((((sIx items.size 0 lo:Nat):Int) == 0 && (1:Int) == 1 && (sIx items.size items.size hi - sIx items.size 0 lo) == items.size)=true):=by
  intro q
  rw[Cg,Cg] at q
  have q1:((sIx items.size 0 lo:Nat):Int)=0:=Dn q.1.1
  have q2:sIx items.size items.size hi - sIx items.size 0 lo=items.size:=Dn q.2
  exact hw ⟨by omega,by omega⟩
 show wpAny _ _ (if (((sIx items.size 0 lo:Nat):Int) == 0 && (1:Int) == 1 && (sIx items.size items.size hi - sIx items.size 0 lo) == items.size)=true then _ else _) _ _ s
 rw[if_neg hno,pC]
 first
  | exact Ag (m:=Io _) (Hb (Ay ⟨_,rfl,Ay h⟩) htake)
  | exact Ag (m:=Io _) (Hb (Ag (Ay (Ay ⟨_,rfl,Ay h⟩))) htake)
  | exact Ag (Ag (m:=Io _) (Hb (Ay (Ay ⟨_,rfl,Ay h⟩)) htake))
  | exact Ag (Ag (m:=Io _) (Hb (Ay ⟨_,rfl,Ay h⟩) htake))
end
end HT
namespace L2
open PySem PySem.Spec PyProof.Rows
abbrev TO:=St->Hp->(Option Int->Hp->Prop)->Prop
def PO(X:Cx)(e:Option Expr)(t:TO):Prop :=
 ∀(pins:List (Addr×Obj)) (s:Al) (σ:St) (H:Hp) (Q:Option Int->Hp->Prop),Inv X pins σ H s->t σ H Q ->
  wpAny (model X.prog X.w) X.A (evalPart e X.env) (λu s'=>∃o H',Inv X pins σ H' s'/\Wn u o/\Q o H') X.xe s
def vL:TO:=λ_ H Q=>Q none H
def E7(t:TE):TO:=λσ H Q=>t σ H λx H1=>∃i,x=.int i/\Q (some i) H1
theorem intsAre_of{ns:List Int}:∀{us:List Value},Fi (ns.map V.int) us->Dw us ns:=by
 induction ns with
 | nil=>intro us r; rw[Ww] at r; cases r; exact .nil
 | cons n ns ih =>
  intro us r
  rw[Ba] at r
  cases r with
  | cons r1 r2 =>
   obtain ⟨t,e⟩:=r1
   subst e
   exact .cons n t (ih r2)
section
variable{X:Cx}{e:Expr}{te:TE}{lo hi:Option Expr}{tl th:TO}{pos p2:Pos}
theorem vS:PO X none vL:=by
 intro pins s σ H Q I h
 rw[evalPart_none]
 exact Ay ⟨none,H,I,.none,h⟩
theorem wA(h:PE X e te):PO X (some e) (E7 te):=by
 intro pins s σ H Q I hw
 rw[evalPart_some]
 refine Jo (h pins s σ H _ I hw) λu s1 q0_ => ?_
 obtain ⟨x,H1,I1,r1,q1⟩ := q0_
 obtain ⟨i,rfl,q⟩:=q1
 obtain ⟨t,rfl⟩:=r1
 exact ⟨some i,H1,I1,.int i t,q⟩
def o5(X:Cx)(r:V->Option Int->Option Int->Hp->VK->Prop):Prop :=
 ∀(pins:List (Addr×Obj)) (s:Al) (σ:St) (H:Hp) (x:V) (v vl vu:Value) (lo hi:Option Int) (sl:Addr) (Q:VK),Inv X pins σ H s->RelV x v->s.heap.IsSliceOf sl vl vu .none->Wn vl lo->Wn vu hi->r x lo hi H Q ->
  ∃T id,typeLookup (.type T) "__getitem__" = pure (some (.builtin id))/\s.TypeIs v T/\wpAny (model X.prog X.w) X.A (getItem v (.ref sl)) (EP X pins σ Q) X.xe s
theorem o5.or{r r':V->Option Int->Option Int->Hp->VK->Prop}(h:o5 X r)(h':o5 X r'):o5 X (λx lo hi H Q=>r x lo hi H Q\/r' x lo hi H Q):=by
 intro pins s σ H x v vl vu lo hi sl Q I rx hs pl pu q
 rcases q with q | q
 ·exact h pins s σ H x v vl vu lo hi sl Q I rx hs pl pu q
 ·exact h' pins s σ H x v vl vu lo hi sl Q I rx hs pl pu q
def Z9(r:V->Option Int->Option Int->Hp->VK->Prop)(te:TE)(tl th:TO):TE:=λσ H Q=>te σ H λx H1=>tl σ H1 λl H2=>th σ H2 λu H3=>r x l u H3 Q
theorem gN{r:V->Option Int->Option Int->Hp->VK->Prop}(hr:o5 X r)(he:PE X e te)(hl:PO X lo tl)(hu:PO X hi th):PE X (.Subscript e (.Slice lo hi none p2) pos) (Z9 r te tl th):=by
 intro pins s σ H Q I h
 refine Subscript_ (Jo (he pins s σ H _ I h) λv s1 q0_ => ?_)
 obtain ⟨x,H1,I1,r1,q1⟩ := q0_
 refine wpAny_Slice (Jo (hl pins s1 σ H1 _ I1 q1) λvl s2 ⟨l,H2,I2,pl,q2⟩=>Jo (hu pins s2 σ H2 _ I2 q2) λvu s3 q0_ => ?_)
 obtain ⟨u,H3,I3,pu,q3⟩ := q0_
 rw[evalPart_none]
 refine Ay ?_
 have I4:Inv X pins σ H3 { s3 with heap:=s3.heap.push { cls:=.type "slice",data:=.fields #[vl,vu,.none] } }:=I3.kept (t':=s3.toks) λb ob q=>Aj _ q
 obtain ⟨T,id,hT,ht,hg⟩:=hr pins { s3 with heap:=s3.heap.push { cls:=.type "slice",data:=.fields #[vl,vu,.none] } } σ H3 x v vl vu l u s3.heap.objs.size Q I4 r1 (Heap.IsSliceOf.new ..) pl pu q3
 show wpAny (model X.prog X.w) X.A (subscriptTail e (.Slice lo hi none p2) v (.ref s3.heap.objs.size)) (EP X pins σ Q) X.xe { s3 with heap:=s3.heap.push { cls:=.type "slice",data:=.fields #[vl,vu,.none] } }
 exact tail_any (ops:=[.ref s3.heap.objs.size,v]) ht hT hg (by with_unfolding_all rfl)
def Yg(xs:List V)(lo hi:Option Int):List V:=(xs.drop (HT.sIx xs.length 0 lo)).take (HT.sIx xs.length xs.length hi - HT.sIx xs.length 0 lo)
theorem Wf(xs:List V)(lo hi:Option Int):(Yg xs lo hi).length<=xs.length:=by
 unfold Yg
 rw[Dj,Qd]
 omega
def U2(K:PySem.W.Frag):V->Option Int->Option Int->Hp->VK->Prop:=λx lo hi H Q=>∃a xs,x=.ref a/\Se K H a xs /\
 ¬ (HT.sIx xs.length 0 lo=0/\HT.sIx xs.length xs.length hi=xs.length)/\∀p,H p=none->Q (.ref p) (upd H p (.tup (Yg xs lo hi)))
theorem A3:o5 X (U2 X.K):=by
 intro pins s σ H x v vl vu lo hi sl Q I rx hs pl pu h
 obtain ⟨a,xs,rfl,hx,hw,q⟩:=h
 cases rx
 obtain ⟨its,r,ht,hz⟩:=I.tuple hx
 have hlen:its.toArray.size=xs.length:=by rw[Aq]; exact r.length.symm
 refine ⟨"tuple",_,Eb.lookup,ht.typeIs,?_⟩
 refine HT.getItem_tuple_cut ht hs pl pu (by rw[hlen]; exact hw) ?_ (by rw[hlen]; exact hz)
 rw[hlen]
 refine ⟨.ref s.heap.objs.size,_,I.laid (t':=s.toks) (o:=.tup (Yg xs lo hi)) (λb ob q=>Aj _ q) (Ap _) ?_,rfl,q _ (I.hok.fresh (Ap _))⟩
 exact ⟨Cm (Wf xs lo hi) hz,_,(r.drop (HT.sIx xs.length 0 lo)).take (HT.sIx xs.length xs.length hi - HT.sIx xs.length 0 lo),IsTup.new _ _⟩
def K5(K:PySem.W.Frag):R2:=λx y H Q=>∃a b xs ys,x=.ref a/\y=.ref b/\Se K H a xs/\Se K H b ys/\xs≠[]/\xs.length+ys.length<=Be /\
 (ys=[]->Q (.ref a) H)/\(ys≠[]->∀p,H p=none->Q (.ref p) (upd H p (.tup (xs++ys))))
theorem Fi.nil_iff{xs:List V}{us:List Value}(r:Fi xs us):us=[]↔xs=[]:=by
 cases r with
 | nil=>simp
 | cons _ _=>simp
theorem vA:Tn X (Hr .Add) (K5 X.K):=by
 intro pins s σ H x y v u Q I rx ry h
 obtain ⟨a,b,xs,ys,rfl,rfl,ha,hb,hx,hz,q1,q2⟩:=h
 cases rx
 cases ry
 obtain ⟨its,r1,p1,_⟩:=I.tuple ha
 obtain ⟨its2,r2,p2,_⟩:=I.tuple hb
 refine HT.cat_tup p1 p2 (λz=>hx (r1.nil_iff.mp z)) (λz=>⟨.ref a,H,I,rfl,q1 (r2.nil_iff.mp z)⟩) (λz=>?_) (by rw[<- r1.length,<- r2.length]; exact hz)
 refine ⟨.ref s.heap.objs.size,_,I.laid (t':=s.toks) (o:=.tup (xs++ys)) (λb ob q=>Aj _ q) (Ap _) ?_,rfl,q2 (λw=>z (r2.nil_iff.mpr w)) _ (I.hok.fresh (Ap _))⟩
 exact ⟨by rw[Cc]; exact hz,_,r1.append r2,IsTup.new _ _⟩
end
def oM(n:Nat)(i:Int):Option Nat:=if 0<=i then (if i<n then some i.toNat else none) else if -(n:Int)<=i then some (i+n).toNat else none
def Py{α:Type}(xs:List α)(i:Int):Option α:=(oM xs.length i).bind λj=>xs[j]?
theorem lY{n:Nat}{i:Int}{j:Nat}(h:oM n i=some j):seqIndex? i n=some j/\j<n /\ -(n:Int)<=i/\i<n:=by
 unfold oM at h
 by_cases h0:0<=i
 ·rw[if_pos h0] at h
  by_cases h1:i<n
  ·rw[if_pos h1] at h
   have e:i.toNat=j:=Bo h
   exact ⟨by rw[seqIndex_of h0 h1,e],by omega,by omega,h1⟩
  ·rw[if_neg h1] at h; cases h
 ·rw[if_neg h0] at h
  by_cases h1:-(n:Int)<=i
  ·rw[if_pos h1] at h
   have e:(i+n).toNat=j:=Bo h
   exact ⟨by rw[seqIndex_neg (by omega) h1,e],by omega,h1,by omega⟩
  ·rw[if_neg h1] at h; cases h
theorem cM{α:Type}{xs:List α}{i:Int}{v:α}(h:Py xs i=some v):∃j,seqIndex? i xs.length=some j/\xs[j]? = some v/\j<xs.length /\ -(xs.length:Int)<=i/\i<xs.length:=by
 unfold Py at h
 cases e:oM xs.length i with
 | none=>rw[e] at h; cases h
 | some j =>
  rw[e] at h
  obtain ⟨h1,h2,h3,h4⟩:=lY e
  exact ⟨j,h1,h,h2,h3,h4⟩
theorem wR{α:Type}{xs:List α}{j:Nat}{v:α}(h:xs[j]? = some v):Py xs (j:Int)=some v:=by
 have hj:j<xs.length:=(Ah.mp h).1
 have e:oM xs.length (j:Int)=some j:=by
  unfold oM
  rw[if_pos (by omega),if_pos (by omega)]; simp
 unfold Py; rw[e]; exact h
def bX(b:Expr):Prop:=∀o i,subscripted b false o i=operate [o,i] (getItem o i)
def uM(X:Cx)(r:R2):Prop :=
 ∀(value slice:Expr) (pins:List (Addr×Obj)) (s:Al) (σ:St) (H:Hp) (x y:V) (v u:Value) (Q:VK),Inv X pins σ H s->RelV x v->RelV y u->r x y H Q ->
  subscripted slice false v u=operate [v,u] (getItem v u)->wpAny (model X.prog X.w) X.A (subscriptTail value slice v u) (EP X pins σ Q) X.xe s
def Y7(X:Cx)(id:String)(r:V->List V->Hp->VK->Prop):Prop :=
 ∀(pins:List (Addr×Obj)) (s:Al) (σ:St) (H:Hp) (x:V) (xs:List V) (v:Value) (us:List Value) (Q:VK),Inv X pins σ H s->RelV x v->Fi xs us->r x xs H Q ->
  wpAny (model X.prog X.w) X.A (call (.builtin id) (v::us)) (EP X pins σ Q) X.xe s
section
variable{X:Cx}{a b:Expr}{ta tb:TE}{pos:Pos}
theorem uM.or{r r':R2}(h:uM X r)(h':uM X r'):uM X (λx y H Q=>r x y H Q\/r' x y H Q):=by
 intro value slice pins s σ H x y v u Q I rx ry q hs
 rcases q with q | q
 ·exact h value slice pins s σ H x y v u Q I rx ry q hs
 ·exact h' value slice pins s σ H x y v u Q I rx ry q hs
theorem Oj{r:R2}(hr:uM X r)(ha:PE X a ta)(hb:PE X b tb)(hs:bX b):PE X (.Subscript a b pos) (O1 r ta tb):=by
 intro pins s σ H Q I h
 exact Subscript_ (n6 ha hb I h λv u s2 x y H2 I2 rx ry q=>hr a b pins s2 σ H2 x y v u Q I2 rx ry q (hs _ _))
def P9(K:PySem.W.Frag):R2:=λx y H Q=>∃p xs i v,x=.ref p/\y=.int i/\Pu K H p xs/\Py xs i=some v/\Q v H
def O4(K:PySem.W.Frag):R2:=λx y H Q=>∃p xs i v,x=.ref p/\y=.int i/\Se K H p xs/\Py xs i=some v/\Q v H
def G8:R2:=λx y H Q=>∃z i c,x=.str z/\y=.int i/\z.length<=Be/\Py z.cps.toList i=some c/\Q (.str ⟨#[c]⟩) H
theorem Jj:uM X (P9 X.K):=by
 intro value slice pins s σ H x y v u Q I rx ry h hs
 obtain ⟨p,xs,i,z,rfl,rfl,hq,he,q⟩:=h
 cases rx
 obtain ⟨t,rfl⟩:=ry
 obtain ⟨its,r,pl,hz⟩:=I.list hq
 obtain ⟨j,h1,h2,h3,h4,h5⟩:=cM he
 obtain ⟨w,ew,rw'⟩:=r.get h2
 have hl:=r.length
 have hn:=Sx
 have fin:EP X pins σ Q w s:=⟨z,H,I,rw',q⟩
 by_cases h0:0<=i
 ·have hj:i.toNat=j:=by
   rw[seqIndex_of h0 h5] at h1
   exact Bo h1
  exact item_listR pl.isList h0 (by omega) (by rw[hj]; simpa using ew) fin hs
 ·have hj:(i+(its.toArray.size:Int)).toNat=j:=by
   rw[seqIndex_neg (by omega) h4] at h1
   rw[Aq,<- hl]
   exact Bo h1
  exact uC (x:=w) pl.isList.typeIs Q9.lookup
   (wpAny_getItem_list_neg (Q:=λr s'=>r=w/\EP X pins σ Q r s') pl.isList (by omega) (by rw[Aq] <;> omega) (by omega) (by rw[hj]; simpa using ew) ⟨rfl,fin⟩) hs
theorem T2:uM X (O4 X.K):=by
 intro value slice pins s σ H x y v u Q I rx ry h hs
 obtain ⟨p,xs,i,z,rfl,rfl,hq,he,q⟩:=h
 cases rx
 obtain ⟨t,rfl⟩:=ry
 obtain ⟨its,r,pl,hz⟩:=I.tuple hq
 obtain ⟨j,h1,h2,h3,h4,h5⟩:=cM he
 obtain ⟨w,ew,rw'⟩:=r.get h2
 have hl:=r.length
 have hn:=Sx
 have fin:EP X pins σ Q w s:=⟨z,H,I,rw',q⟩
 exact uC (x:=w) pl.typeIs slot_tuple_getitem.lookup
  (getItem_tuple (j:=j) (Q:=λr s'=>r=w/\EP X pins σ Q r s') pl (by omega) (by omega) (by rw[Aq,<- hl]; exact h1) (by simpa using ew) ⟨rfl,fin⟩) hs
theorem zL:uM X G8:=by
 intro value slice pins s σ H x y v u Q I rx ry h hs
 obtain ⟨z,i,c,rfl,rfl,hz,he,q⟩:=h
 obtain ⟨t,rfl⟩:=rx
 obtain ⟨t',rfl⟩:=ry
 obtain ⟨j,h1,h2,h3,h4,h5⟩:=cM he
 have hl:z.cps.toList.length=z.length:=by simp [Str.length]
 rw[hl] at h1 h4 h5
 have hn:=Sx
 exact tail_any (typeIs_str s z t) slot_str_getitem.lookup (getItem_str (c:=c) (by
  have e1:decide (i < -(2 ^ 63:Int))=false:=decide_eq_false (by omega)
  have e2:decide (i ≥ 2 ^ 63)=false:=decide_eq_false (by omega)
  rw[e1,e2,Bool.or_false]) (by rw[h1]; simpa using h2) ⟨.str ⟨#[c]⟩,H,I.tok _,⟨_,rfl⟩,q⟩) hs
def X1(K:PySem.W.Frag):R2:=λx y H Q=>P9 K x y H Q\/O4 K x y H Q\/G8 x y H Q
theorem x3:uM X (X1 X.K):=Jj.or (T2.or zL)
theorem jA(its:List Value)(n j:Nat)(u:Value):Cy (·.setIfInBounds j u) { cls:=.type "list",data:=.seq its.toArray n }={ cls:=.type "list",data:=.seq (its.set j u).toArray n }:=by
 simp [Cy]
theorem Inv.lst{pins:List (Addr×Obj)}{σ:St}{H:Hp}{s:Al}{p:Addr}{xs:List V}(I:Inv X pins σ H s)(h:H p=some (.lst xs)):∃(its:List Value) (n:Nat),Fi xs its/\s.heap.get? p=some { cls:=.type "list",data:=.seq its.toArray n }/\xs.length<=Be:=by
 obtain ⟨z,its,n,r,e⟩:=I.hok p _ h
 exact ⟨its,n,r,e,z⟩
theorem Inv.lstUpd{pins:List (Addr×Obj)}{σ:St}{H:Hp}{s:Al}{p:Addr}{xs ys:List V}{its its':List Value}{n n':Nat}{f:Obj->Obj}(I:Inv X pins σ H s)(h:H p=some (.lst xs))(ho:s.heap.get? p=some { cls:=.type "list",data:=.seq its.toArray n })(hf:f { cls:=.type "list",data:=.seq its.toArray n }={ cls:=.type "list",data:=.seq its'.toArray n' })(r:Fi ys its')(hz:ys.length<=Be)(t:Nat):Inv X pins σ (upd H p (.lst ys)) { s with heap:=s.heap.update p f,toks:=t }:=by
 have e:(s.heap.update p f).get? p=some { cls:=.type "list",data:=.seq its'.toArray n' }:=by
  rw[Sk f ho (by rw[hf] <;> rfl),hf]
 refine I.write (x:=p) (e:=p) (by rw[h]; trivial) (.inl rfl) (λb u hb q=>(Ff _ _ (Ny hb)).trans q) ⟨_,e⟩ ?_
 exact ⟨hz,its',n',r,e⟩
def L8:V->V->V->Hp->(Hp->Prop)->Prop:=λo i v H Q=>∃p xs k j,o=.ref p/\i=.int k/\H p=some (.lst xs)/\oM xs.length k=some j/\Q (upd H p (.lst (xs.set j v)))
theorem Rf:G6 X L8:=by
 intro pins s σ H o i v ov iv u Q I ro ri rv h
 obtain ⟨p,xs,k,j,rfl,rfl,hp,hj,q⟩:=h
 cases ro
 obtain ⟨t,rfl⟩:=ri
 obtain ⟨its,n,r,ho,hz⟩:=I.lst hp
 obtain ⟨h1,h2,h3,h4⟩:=lY hj
 have hl:=r.length
 have hn:=Sx
 have I':Inv X pins σ (upd H p (.lst (xs.set j v))) { s with heap:=s.heap.update p (Cy (·.setIfInBounds j u)) } :=
  I.lstUpd hp ho (jA its n j u) (r.set rv j) (by rw[List.length_set]; exact hz) s.toks
 by_cases h0:0<=k
 ·have hk:k.toNat=j:=by
   rw[seqIndex_of h0 h4] at h1
   exact Bo h1
  exact PySem.W.ki_setAt ho h0 (by omega) (by rw[Aq,<- hl]; exact h4) (by rw[hk]; exact ⟨_,I',q⟩)
 ·have hk:(k+(its.toArray.size:Int)).toNat=j:=by
   rw[seqIndex_neg (by omega) h3] at h1
   rw[Aq,<- hl]
   exact Bo h1
  exact PySem.W.ki_setBack ho (by omega) (by rw[Aq,<- hl]; exact h3) (by omega) (by rw[hk]; exact ⟨_,I',q⟩)
theorem cA(lo hi:Option Int)(n:Nat):(Ni lo hi none n).1=((HT.sIx n 0 lo:Nat):Int)/\(Ni lo hi none n).2.1=((HT.sIx n n hi:Nat):Int)/\(Ni lo hi none n).2.2=1:=by
 refine ⟨?_,?_,rfl⟩
 ·cases lo with
  | none=>simp [Ni,HT.sIx]
  | some i =>
   simp only[Ni,HT.sIx,Option.getD_none,show (1:Int) > 0 by decide,if_true]
   by_cases h:i<0
   ·simp only[h,if_true] <;> omega
   ·simp only[h,if_false] <;> omega
 ·cases hi with
  | none=>simp [Ni,HT.sIx]
  | some i =>
   simp only[Ni,HT.sIx,Option.getD_none,show (1:Int) > 0 by decide,if_true]
   by_cases h:i<0
   ·simp only[h,if_true] <;> omega
   ·simp only[h,if_false] <;> omega
theorem aK(its:List Value)(lo hi:Option Int):slicePick its.toArray lo hi none=((its.drop (HT.sIx its.length 0 lo)).take (HT.sIx its.length its.length hi - HT.sIx its.length 0 lo)).toArray:=by
 obtain ⟨h1,h2,h3⟩:=cA lo hi its.toArray.size
 unfold slicePick
 rw[h1,h2,h3]
 simp only[sliceRange_one,pick_run,Aq] <;> rfl
def w4(K:PySem.W.Frag):V->Option Int->Option Int->Hp->VK->Prop:=λx lo hi H Q=>∃a xs,x=.ref a/\Pu K H a xs/\∀p,H p=none->Q (.ref p) (upd H p (.lst (Yg xs lo hi)))
theorem wN:o5 X (w4 X.K):=by
 intro pins s σ H x v vl vu lo hi sl Q I rx hs pl pu h
 obtain ⟨a,xs,rfl,hx,q⟩:=h
 cases rx
 obtain ⟨its,r,ht,hz⟩:=I.list hx
 have hlen:=r.length
 refine ⟨"list",_,Q9.lookup,ht.isList.typeIs,?_⟩
 refine wpAny_getItem_list_slice ht.isList hs pl pu .none (by simp) ?_ (by rw[Aq] <;> omega)
 rw[aK,<- hlen]
 refine ⟨.ref s.heap.objs.size,_,I.laid (t':=s.toks) (o:=.lst (Yg xs lo hi)) (λb ob q=>Aj _ q) (Ap _) ?_,rfl,q _ (I.hok.fresh (Ap _))⟩
 exact ⟨Cm (Wf xs lo hi) hz,_,0,(r.drop (HT.sIx xs.length 0 lo)).take (HT.sIx xs.length xs.length hi - HT.sIx xs.length 0 lo),Bn _ rfl⟩
theorem cN:Ld X (.type "list") (λxs H Q=>∃p ys,xs=[.ref p]/\(Pu X.K H p ys\/Se X.K H p ys)/\∀l,H l=none->Q (.ref l) (upd H l (.lst ys))):=by
 intro pins s σ H xs us Q I r h
 obtain ⟨p,ys,rfl,hq,q⟩:=h
 obtain ⟨u,rfl,rx⟩:=vals1 r
 cases rx
 have fin:∀(its:List Value),Fi ys its->ys.length<=Be->∀(h':Heap) (c':Nat),(∀b o',s.heap.get? b=some o'->h'.get? b=some o') ->
   h'.get? s.heap.objs.size=some { cls:=.type "list",dict:=none,data:=.seq its.toArray c',slots:=#[] }->EP X pins σ Q (.ref s.heap.objs.size) { s with heap:=h' }:=λits r' hz h' c' kp e =>
  ⟨.ref s.heap.objs.size,_,I.laid (t':=s.toks) kp (Ap _) (show Kc X.prog X.w _ h' _ (.lst ys) from ⟨hz,its,c',r',e⟩),rfl,q _ (I.hok.fresh (Ap _))⟩
 rcases hq with hq | hq
 ·obtain ⟨its,r',pl,hz⟩:=I.list hq
  have hlen:=r'.length
  obtain ⟨o,ho,hc,n,hd⟩:=pl.isList
  exact call_list_seq p (.inl rfl) ho hc hd (λh' c' kp e=>fin its r' hz h' c' kp e) (by simp only[Aq] <;> omega)
 ·obtain ⟨its,r',pl,hz⟩:=I.tuple hq
  have hlen:=r'.length
  obtain ⟨o,ho,hc,n,hd⟩:=pl
  exact call_list_seq p (.inr rfl) ho hc hd (λh' c' kp e=>fin its r' hz h' c' kp e) (by simp only[Aq] <;> omega)
def Y5(K:PySem.W.Frag)(T:String)(x:V)(H:Hp):Prop:=match x with
 | .str _=>T = "str"
 | .int _=>T = "int"
 | .ref p=>(T = "list" /\ ∃xs,Pu K H p xs)\/(T = "tuple" /\ ∃o,K.lookup p=some o/\o.cls=.type "tuple" /\ o.dict=none) \/
   (T = "dict" /\ ((∃kvs,H p=some (.dK kvs))\/∃kvs,H p=some (.dT kvs)))\/(T = "set" /\ ∃S n,H p=some (.set S n))
 | _=>False
theorem j8{pins:List (Addr×Obj)}{σ:St}{H:Hp}{s:Al}{T:String}{x:V}{v:Value}(I:Inv X pins σ H s)(r:RelV x v)(ty:Y5 X.K T x H):s.TypeIs v T/\∀a,v=.ref a->∃ob,s.heap.get? a=some ob/\ob.dict=none:=by
 cases x with
 | str z =>
  obtain ⟨t,rfl⟩:=r
  cases (show T = "str" from ty)
  exact ⟨typeIs_str s z t,λ_ e=>nomatch e⟩
 | int i =>
  obtain ⟨t,rfl⟩:=r
  cases (show T = "int" from ty)
  exact ⟨typeIs_int s i t,λ_ e=>nomatch e⟩
 | ref p =>
  cases r
  rcases ty with ⟨rfl,xs,hq⟩ | ⟨rfl,o,hk,hc,hd⟩ | ⟨rfl,hk⟩ | ⟨rfl,S,n,hk⟩
  ·obtain ⟨its,_,pl,_⟩:=I.list hq
   refine ⟨pl.isList.typeIs,λa e=>?_⟩
   cases e
   obtain ⟨o,n,e,c,hd,_⟩:=pl
   exact ⟨o,e,hd⟩
  ·refine ⟨⟨o,I.kIn p o hk,hc⟩,λa e=>?_⟩
   cases e
   exact ⟨o,I.kIn _ o hk,hd⟩
  ·have z:∃o,s.heap.get? p=some o/\o.ExactDict:=by
    rcases hk with ⟨kvs,hk⟩ | ⟨kvs,hk⟩
    ·obtain ⟨_,_,_,_,o,_,_,e,ex,_⟩:=I.hok p _ hk
     exact ⟨o,e,ex⟩
    ·obtain ⟨_,_,_,_,o,_,_,e,ex,_⟩:=I.hok p _ hk
     exact ⟨o,e,ex⟩
   obtain ⟨o,e,ex⟩:=z
   refine ⟨⟨o,e,ex.1⟩,λa e2=>?_⟩
   cases e2
   exact ⟨o,e,ex.2.1⟩
  ·obtain ⟨o,_,_,_,e,ex,_⟩:=I.hok p _ hk
   refine ⟨⟨o,e,ex.1⟩,λa e2=>?_⟩
   cases e2
   exact ⟨o,e,ex.2.1⟩
 | _=>exact Iy ty
def Z4(K:PySem.W.Frag)(T:String)(r:V->List V->Hp->VK->Prop)(to:TE)(t:TA):TE:=λσ H Q=>to σ H λx H1=>Y5 K T x H1/\t σ H1 λxs H2=>r x xs H2 Q
variable{o e:Expr}{es:List Expr}{to:TE}{t:TA}{name:Str}{apos cpos:Pos}{T id:String}{r:V->List V->Hp->VK->Prop}
theorem xY(pa:PlainAttrs T)(slot:Slot T name id)(hty:typeOf (.builtin id)=pure (.type "method_descriptor"))(hm:Y7 X id r)(ho:PE X o to)(ha:PA X (e::es) t)
  (hbase:Rz o name X.env (eval o X.env)=eval o X.env:=by rfl)
  (hfew:((Ih cpos (Bs (e::es) X.env)).all (λx=>!x.1) && (backToKw cpos (Wl [] X.env)).all (λx=>x.1.isSome)
   && decide ((e::es).length+([]:List Ri).length+(if ([]:List Ri).isEmpty then 0 else 1)<30))=true:=by rfl)
  (hline:(apos.endLine == cpos.line)=true:=by rfl) (hs:Bs (e::es) X.env=(false,eval e X.env)::Bs es X.env:=by rfl) (hplain:(Ih cpos (Bs es X.env)).any (·.1)=false:=by rfl) :
  PE X (.Call (.Attribute o name apos) (e::es) [] cpos) (Z4 X.K T r to t):=by
 intro pins s σ H Q I h
 refine wpAny_Call_method_late hbase hfew hline rfl (Jo (ho pins s σ H _ I h) λv s1 q0_ => ?_)
 obtain ⟨x,H1,I1,r1,ty,q1⟩ := q0_
 obtain ⟨h1,h2⟩:=j8 I1 r1 ty
 refine ⟨T,id,pa,slot,hty,h1,h2,?_⟩
 have hA:=ha cpos pins s1 σ H1 _ I1 q1
 rw[hs] at hA ⊢
 refine Calls.callWith_builtin (by show (false || (Ih cpos (Bs es X.env)).any (·.1))=false; rw[hplain] <;> rfl) (Calls.evalArgs_plain ?_)
 exact Jo hA λus s2 ⟨vs,H2,I2,r2,q2⟩=>hm pins s2 σ H2 x vs v us Q I2 r1 r2 q2
end
def Z7(X:Cx)(id:String)(r:V->List V->Hp->VK->Prop):Prop :=
 ∀(pins:List (Addr×Obj)) (s:Al) (σ:St) (H:Hp) (x:V) (xs:List V) (v:Value) (us:List Value) (Q:VK),Inv X pins σ H s->RelV x v->Fi xs us->r x xs H Q ->
  wpAny (model X.prog X.w) X.A (call (.builtin id) (v::us)) (EP X pins σ Q) X.xe s
theorem Fi.one:∀{x:V} {us:List Value},Fi [x] us->∃u,us=[u]/\RelV x u
 | _,_,.cons r .nil=>⟨_,rfl,r⟩
theorem Fi.rep{xs:List V}{us:List Value}(h:Fi xs us):∀k:Nat,Fi (Ci k xs).flatten (Ci k us).flatten
 | 0=>.nil
 | k+1=>by
  rw[Fh,Fh,Gr,Gr]
  exact Fi.append h (Fi.rep h k)
theorem foldl_rep(its:List Value):∀(k:Nat) (acc:List Value),List.foldl (λx1 x2=>x1++x2) acc.toArray (Ci k its.toArray)=(acc++(Ci k its).flatten).toArray
 | 0,acc=>by simp
 | k+1,acc=>by
  have e:acc.toArray++its.toArray=(acc++its).toArray:=by simp
  have e2:(acc++its)++(Ci k its).flatten=acc++(Ci (k+1) its).flatten:=by
   rw[Fh,Gr,Ca]
  rw[<- e2,<- foldl_rep its k (acc++its),<- e,Fh,List.foldl_cons]
section
variable{X:Cx}{pins:List (Addr×Obj)}{σ:St}{H:Hp}{s:Al}{l b:Addr}{xs ys zs:List V}
theorem Inv.lset{its its':List Value}{n:Nat}{f:Array Value->Array Value}{t':Nat}(I:Inv X pins σ H s)(hH:H l=some (.lst xs))(e:s.heap.get? l=some { cls:=.type "list",data:=.seq its.toArray n })(hf:f its.toArray=its'.toArray)(hv:Fi ys its')(hz:ys.length<=Be):Inv X pins σ (upd H l (.lst ys)) { s with heap:=s.heap.update l (Cy f),toks:=t' }:=by
 have q:=PySem.IsL.update e f
 rw[hf] at q
 refine I.write (x:=l) (e:=l) (by rw[hH]; exact trivial) (.inl rfl) (λb' u hb hu=>(Ff s.heap (Cy f) (Ny hb)).trans hu) ⟨_,q⟩ ?_
 exact ⟨hz,its',_,hv,q⟩
theorem Inv.lnew{its:List Value}{t':Nat}(I:Inv X pins σ H s)(hv:Fi ys its)(hz:ys.length<=Be):Inv X pins σ (upd H s.heap.objs.size (.lst ys)) { s with heap:=s.heap.push { cls:=.type "list",data:=.seq its.toArray },toks:=t' } :=
 I.laid (λ_ _ q=>Aj _ q) (Ap _) ⟨hz,its,0,hv,Bn _ rfl⟩
theorem Inv.fresh(I:Inv X pins σ H s):H s.heap.objs.size=none:=I.hok.fresh (Ap _)
theorem Inv.lstM(I:Inv X pins σ H s)(hH:H l=some (.lst xs)):xs.length<=Be/\∃(its:List Value) (n:Nat),Fi xs its/\xs.length=its.length/\s.heap.get? l=some { cls:=.type "list",data:=.seq its.toArray n }:=by
 obtain ⟨z,its,n,r,e⟩:=I.hok l _ hH
 exact ⟨z,its,n,r,r.length,e⟩
theorem qF{n:Nat}(h:n<=Be):Ms n=false:=by
 unfold Ms
 exact decide_eq_false (by omega)
end
section
variable{X:Cx}
def vE:V->List V->Hp->VK->Prop:=λx vs H Q=>∃l xs y,x=.ref l/\vs=[y]/\H l=some (.lst xs)/\xs.length<Be/\Q .non (upd H l (.lst (xs++[y])))
theorem bA:Z7 X "list.append" vE:=by
 intro pins s σ H x vs v us Q I rx rv h
 obtain ⟨l,xs,y,rfl,rfl,hH,hz,q⟩:=h
 cases rx
 obtain ⟨u,rfl,ru⟩:=rv.one
 obtain ⟨z,its,n,r,hl,e⟩:=I.lstM hH
 refine Zy F.slot_list_append ⟨_,e,rfl⟩ F.entry_list_append (F.args_list_append_2 _ _) (PySem.list_append l its.toArray n u (by rw[Aq]; omega)) ⟨e,?_⟩
 refine ⟨.non,_,I.lset (its':=its++[u]) hH e (by simp) (r.append (.cons ru .nil)) ?_,rfl,q⟩
 rw[Cc,Ib]
 omega
def i7:R2:=λx y H Q=>∃l b xs zs,x=.ref l/\y=.ref b/\H l=some (.lst xs)/\H b=some (.lst zs)/\xs.length+zs.length<=Be/\∀p,H p=none->Q (.ref p) (upd H p (.lst (xs++zs)))
theorem tV:Tn X (Hr .Add) i7:=by
 intro pins s σ H x y v u Q I rx ry h
 obtain ⟨l,b,xs,zs,rfl,rfl,hH,hB,hz,q⟩:=h
 cases rx
 cases ry
 obtain ⟨z,its,n,r,hl,e⟩:=I.lstM hH
 obtain ⟨z2,its2,n2,r2,hl2,e2⟩:=I.lstM hB
 refine PySem.P.add_list e e2 ?_ (by rw[Aq,Aq]; omega)
 have ea:its.toArray++its2.toArray=(its++its2).toArray:=by simp
 rw[ea]
 exact ⟨.ref _,_,I.lnew (t':=s.toks) (r.append r2) (by rw[Cc]; omega),rfl,q _ I.fresh⟩
def M9:R2:=λx y H Q=>∃l k xs,x=.ref l/\y=.int k/\H l=some (.lst xs) /\ -(2 ^ 63)<=k/\k<2 ^ 63/\xs.length * k.toNat<=Be /\
 ∀p,H p=none->Q (.ref p) (upd H p (.lst (Ci k.toNat xs).flatten))
theorem kI{α:Type}(xs:List α)(k:Nat):(Ci k xs).flatten.length=k * xs.length:=by
 induction k with
 | zero=>simp
 | succ k ih=>rw[Fh,Gr,Cc,ih,Nat.succ_mul,Nat.add_comm]
theorem o7:Tn X (Hr .Mult) M9:=by
 intro pins s σ H x y v u Q I rx ry h
 obtain ⟨l,k,xs,rfl,rfl,hH,h1,h2,hz,q⟩:=h
 cases rx
 obtain ⟨t,rfl⟩:=ry
 obtain ⟨z,its,n,r,hl,e⟩:=I.lstM hH
 have hlen:its.toArray.size * k.toNat<=Be:=by rw[Aq,<- hl]; exact hz
 have hcap:¬ its.toArray.size * k.toNat > (2 ^ 63 - 1) / 8:=by
  have : (Be:Nat)<=(2 ^ 63 - 1) / 8:=by decide
  omega
 have hfit:¬ (!Builtin.List.listFitsIndex k)=true:=by
  rw[fitsIndex_both h1 h2]
  exact Ce
 have hlong:¬ Ms (its.toArray.size * k.toNat)=true:=by
  rw[qF hlen]
  exact Ce
 have hnew:List.foldl (λx1 x2=>x1++x2) #[] (Ci (if its.toArray.isEmpty=true then 0 else k.toNat) its.toArray)=(Ci k.toNat its).flatten.toArray:=by
  have f0:∀m:Nat,List.foldl (λx1 x2=>x1++x2) #[] (Ci m its.toArray)=(Ci m its).flatten.toArray:=λm=>by
   have:=foldl_rep its m []
   rw[List.nil_append] at this
   exact this
  rw[f0]
  cases its with
  | nil=>simp
  | cons a r'=>rw[if_neg (by simp)]
 refine wpAny_binaryOp_repeat_ref (T := "list") (U := "int") (by decide) ⟨_,e,rfl⟩ (λs'=>typeIs_int s' k t) noFill_list_mul F.fills_int_mul F.slot_int_rmul repeat_list F.slot_int_index.lookup
  (Zy F.slot_int_rmul (typeIs_int s k t) F.entry_int_rmul (F.args_int_rmul_2 _ _) (int___rmul___int_list k t l its.toArray n)
   ⟨e,rfl,⟨_,e,rfl⟩,Zy F.slot_list_mul ⟨_,e,rfl⟩ F.entry_list_mul (F.args_list_mul_2 _ _) (AutoListH.list___mul___list_int_3 l its.toArray n k t hfit hcap hlong) ⟨e,?_⟩⟩)
 rw[hnew]
 exact ⟨.ref _,_,I.lnew (t':=s.toks) (r.rep k.toNat) (by rw[kI,Nat.mul_comm]; exact hz),rfl,q _ I.fresh⟩
end
end L2
namespace Att
open PySem PySem.W PySem.Calls PyProof.Rows
theorem Wp{P:Params}{h:Heap}:∀(ns:List Int) (vs:List Value),WellAll P h vs (ns.map WData.int)->Dw vs ns:=by
 intro ns
 induction ns with
 | nil =>
  intro vs w
  rw[Ww] at w
  cases w
  exact .nil
 | cons n ns ih =>
  intro vs w
  rw[Ba] at w
  cases w with
  | cons a b =>
   cases a
   exact .cons _ _ (ih _ b)
theorem nO{l:OpenLaw}{n:Nat}(hn:l.most=some n){P:Params}{h:Heap}{args:List WData}{vals:List Value}(hpre:l.row.toRowW.claim.pre args=true)(hwl:WellAll P h vals args):∃a vs ns,vals=[Bg a]/\args=[WData.list (ns.map WData.int)]/\h.get? a=some { cls:=.type "list",data:=.seq vs.toArray }/\Dw vs ns/\ns.length<=n:=by
 have hsh:WShape.hasAll [] args [.list .int]=true:=(pre_splitW hpre).1
 have hc:l.pre.holds [] { args:=args }=true:=(pre_splitW hpre).2
 obtain ⟨d,r,rfl,h1,h2⟩:=hasAllW_cons hsh
 obtain rfl:=hasAllW_nil h2
 obtain ⟨xs,rfl,h3⟩:=hasW_list h1
 obtain ⟨ns,rfl⟩:=items_int h3
 have hlen:ns.length<=n:=by
  unfold OpenLaw.pre at hc
  have h4:(WTm.not (.lt (.lit (.int (n:Int))) (.len (.arg 0)))).holds [] { args:=[.list (ns.map .int)] }=true:=by
   have h4:=(holds_andW hc).1
   rw[hn] at h4
   exact h4
  have h5:=condW_of h4 (w_not (w_lt w_lit (w_len_list (w_arg rfl))))
  rw[Aa] at h5
  refine Nat.le_of_not_lt λq=>?_
  have q':(n:Int)<((ns.length:Nat):Int):=by omega
  first
   | (rw[decide_eq_true q'] at h5; exact absurd h5 (by decide))
   | (simp at h5; omega)
 cases hwl with
 | cons w1 w2 =>
  cases w2
  cases w1 with
  | list ho hall=>exact ⟨_,_,ns,rfl,rfl,ho,Wp ns _ hall,hlen⟩
theorem oA(l:OpenLaw)(args:List WData):l.row.toRowW.claim.post args (.bool true) args=true :=
 postW_of (r:=l.row.toRowW) (X:=(true == true))
  (show WShape.has [] (.bool true) .bool=true by first | rfl | decide | simp [WShape.has,WShape.arms,WShape.armsAll])
  (show (WTm.eq .res (.lit (.bool true))).value [] { args:=args,res:=some (.bool true),after:=args }=some (.bool (true == true)) from w_eq_bool (w_res rfl) w_lit) rfl
theorem attach_call{l:OpenLaw}{n:Nat}{q:Bp}{loose:List Str}{XP:(Str->Option Value)->Heap->Prop}{YP:World->Heap->Prop}{d:DefRec}(hn:l.most=some n)(hdf:d.params.defaults=[])(call:∀(w:World) (s₀ s₁:Al) (mg mb:Str->Option Value) (fa:Addr) (o:Obj) (pm cd doc:Value) (a:Addr) (vs:List Value) (ns:List Int),Ground q loose [] XP w s₀ mg mb s₁.heap->YP w s₁.heap->s₁.heap.get? fa=some o->o.data=.func (docDef d.name d.params d.body d.scope pm cd doc)->s₁.heap.CodeRec cd d.name->mg d.name=some (.ref fa)->s₁.heap.get? a=some { cls:=.type "list",data:=.seq vs.toArray }->Dw vs ns->ns.length<=n->s₁.gens=#[]->Tq (model l.prog w) Wv (.call (.ref fa) ⟨[.ref a],[]⟩) (λr s'=>r=.ok (.ret (.bool true))/\OldK s₁.heap s'.heap/\s'.os=s₁.os/\Rj s'.gens) s₁):WalkO q loose XP YP l.row.toRowW d [] (λf vs=>PySem.call f vs):=by
 intro w s₀ s₁ mg mb G Y fa o pm cd doc dV kV ho hd hcd hD hmg hg args vals as hpre hlay hrd hwl hlo
 obtain rfl:dV=.none:=Dflts.none hD hdf
 obtain rfl:kV=.none:=Dflts.noKw hD
 obtain ⟨a,vs,ns,rfl,rfl,hobj,hints,hlen⟩:=nO hn hpre hwl
 refine enter_call (bV (call w s₀ s₁ mg mb fa o pm cd doc a vs ns G Y ho (fd_plain hd) hcd hmg hobj hints hlen hg) λr s' hq=>?_)
 obtain ⟨rfl,h2,h3,h4⟩:=hq
 exact ⟨.inl ⟨.bool true,.bool true,[],rfl,λ_=>rfl,.bool true,oA l _,λ_=>⟨Jm,λ_ hm=>(nomatch hm)⟩⟩,h2,h3,h4⟩
end Att
namespace L2
open PySem PySem.Spec PyProof.Rows
theorem aU:∀{vs:List Value} {ns:List Int},Dw vs ns->Fi (ns.map V.int) vs
 | _,_,.nil=>.nil
 | _,_,.cons n t h=>.cons ⟨t,rfl⟩ (aU h)
def Na(s:Stmt):Lg:=match s with
 | .FunctionDef _ a _ _ _ _ _ _ _ _=>a
 | _=>{ posonlyargs:=[],args:=[],vararg:=none,kwonlyargs:=[],kw_defaults:=[],kwarg:=none,defaults:=[] }
def Hd(s:Stmt):List Stmt:=match s with
 | .FunctionDef _ _ b _ _ _ _ _ _ _=>b
 | _=>[]
def Br(s:Stmt):Scope:=match s with
 | .FunctionDef _ _ _ _ _ _ sc _ _ _=>sc
 | _=>{ kind:=.function,names:=[],isGenerator:=false,isCoroutine:=false }
abbrev Gc:nM:=λ_ _ _ _ _ _=>False
abbrev E0:XK:=λ_ _ _=>False
theorem Eg{X:Cx}:Sz Gc X E0:=λ_ _ _ _ _ _ _ h=>h.elim
structure Fun(K:PySem.W.Frag)(x qual:Str)(st:Stmt)(f:Addr)(fd:Bx):Prop where
 ex:∃(oc:Value) (od:Option Addr) (kV doc pm:Value) (an:Option Addr) (cdv ct:Value) (osl:Array (Option Value)),
  fd=PySem.W.fnOf x qual (Na st) (Hd st) (Br st) .none kV doc pm an cdv ct/\K.lookup f=some ⟨oc,od,.func fd,osl⟩/\PySem.W.codeIn K cdv qual=true
 kp:PySem.W.keepIn K (.ref f)=true
section
variable{P:Bp}{w:World}{K:PySem.W.Frag}{mg:Str->Option Value}{base:Heap}
theorem Fun.ok{x qual:Str}{st:Stmt}{f:Addr}{fd:Bx}{N ps:List Str}{k:Nat}{sp:Sp}(F:Fun K x qual st f fd)(S:FnScope N ps (Br st))(len:∀vs H Q E,sp vs H Q E->vs.length=ps.length)(hbody:∀(cdv:Value) (A:Cr) (outer:List Env) (s:Al) (H:Hp) (vs:List V) (Q:VK) (E:XK),Room k (A.deeper (Mu qual (Br st) s.heap.objs.size f cdv))->sp vs H Q E->∃t,gU (Vl Gc P w K mg base N qual (Br st) f cdv A outer s H E).nox (Hd st) t/\t { nx:=λ_ H'=>Q .non H',rt:=Q } (start N vs) H):FnOk P w K mg base Gc (k+1) f fd ps sp:=by
 obtain ⟨oc,od,kV,doc,pm,an,cdv,ct,osl,rfl,lk,hcd⟩:=F.ex
 refine yX lk hcd S len λA outer s H vs Q E hr hsp=>?_
 obtain ⟨t,h,q⟩:=hbody cdv A outer s H vs Q E hr hsp
 exact ⟨t,h.nox,q⟩
theorem Fun.binds{x qual:Str}{st:Stmt}{f:Addr}{fd:Bx}{ps:List Str}(F:Fun K x qual st f fd)(h:∀(kV doc pm:Value) (an:Option Addr) (cdv ct:Value) (us:List Value),us.length=ps.length->bindArgs (PySem.W.fnOf x qual (Na st) (Hd st) (Br st) .none kV doc pm an cdv ct) ⟨us,[]⟩=pure (ps.zip us)):Binds K fd ps []:=by
 obtain ⟨oc,od,kV,doc,pm,an,cdv,ct,osl,rfl,lk,hcd⟩:=F.ex
 exact .all (h kV doc pm an cdv ct)
theorem pT{x qual:Str}{st:Stmt}{f:Addr}{oc:Value}{od an:Option Addr}{osl:Array (Option Value)}{kV doc pm cdv ct:Value}(l:K.lookup f=some ⟨oc,od,.func (PySem.W.fnOf x qual (Na st) (Hd st) (Br st) .none kV doc pm an cdv ct),osl⟩)(c:PySem.W.codeIn K cdv qual=true)(k:PySem.W.keepIn K (.ref f)=true):Fun K x qual st f (PySem.W.fnOf x qual (Na st) (Hd st) (Br st) .none kV doc pm an cdv ct):=⟨⟨oc,od,kV,doc,pm,an,cdv,ct,osl,rfl,l,c⟩,k⟩
end
theorem mM{n:Nat}(h:n<=1000):n<Be:=Nat.lt_of_le_of_lt h (by decide)
section
variable{X:Cx}
theorem pv(i:Nat){x:Str}{pos:Pos}(hN:X.N[i]? = some x:=by rfl)(hv:R9 X.env.scope x:=by first | exact Cu rfl | exact Lz (Cu rfl) | exact Lz (Lz rfl))(hd:(x == ("__debug__" : Str))=false:=by decide)(hcd:(x == ("__classdict__" : Str))=false:=by decide):PE X (.Name x pos) (gI i):=n4 hN hv hd hcd
end
theorem mX{A B:Prop}(h:B):if false=true then A else B:=by
 rw[if_neg Ce]
 exact h
theorem mJ{A B:Prop}(h:A):if true=true then A else B:=by
 rw[if_pos rfl]
 exact h
theorem B2{c A B:Prop}[Decidable c](h1:c->A)(h2:¬ c->B):if c then A else B:=by
 by_cases h:c
 ·rw[if_pos h]
  exact h1 h
 ·rw[if_neg h]
  exact h2 h
def Qm(H H':Hp):Prop:=∀b o,H b=some o->H' b=some o
theorem Qm.refl(H:Hp):Qm H H:=λ_ _ h=>h
end L2
namespace Nd
open PySem PySem.Spec PyProof.Rows L2
def Eo(X:Cx)(scope:Scope)(cl:List (Str×Addr))(N:List Str)(fp:List Addr)(s:Al)(H:Hp):Cx where
 prog:=X.prog
 w:=X.w
 K:=X.K
 mg:=X.mg
 base:=X.base
 A:=X.A
 N:=N
 s₀:=s
 H₀:=H
 env:=compEnvC scope (Eu (s.heap.objs.size+1) scope.names cl) s.heap.objs.size X.env
 outer:=X.stack
 stack:=X.stack
 ex:=fp
 fn:=λy=>decide (scope.names.lookup y=some Ds)
 calm:=X.calm
 pn:=[]
 xe:=λ_ _=>False
section
variable{prog:Bp}{w:World}{A:Cr}{R:Result->Al->Prop}{s:Al}
theorem iJ{elt tg iter:Expr}{ifs:List Expr}{scope:Scope}{pos:Pos}{it acc:Value}{env:Env}(J:Nat->Al->Prop) (turn:∀n s,J n s->wpAny (model prog w) A (pyNext it) (λr s1=>match r with
    | none=>R (.ok .next) s1
    | some v=>wpAny (model prog w) A (Us tg it v) (λ_ s2=>wpAny (model prog w) A (Wm tg env v) (λ_ s3 =>
      wpAny (model prog w) A (forIn ifs true λc r=>if r=true then (do
        let ok <- isTrue c env (eval c env)
        pure (Fb ok)) else pure (Fb r)) (λok s4 =>
       if ok=true then
        wpAny (model prog w) A (eval elt env) (λx s5=>wpAny (model prog w) A (call (.builtin "list.append") [acc,x]) (λ_ s6=>∃m,m<n/\J m s6) (λ_ _=>False) s5) (λ_ _=>False) s4
       else ∃m,m<n/\J m s4) (λ_ _=>False) s3) (λ_ _=>False) s2) (λ_ _=>False) s1) (λ_ _=>False) s)
  (n:Nat) (h:J n s):Tq (model prog w) A (.compLoop (.ListComp elt [⟨tg,iter,ifs,0⟩] scope pos) 0 it acc env) R s:=by
 refine codeAny_loop rfl J (λn s hJ=>?_) n h
 show wpAny _ A (Sem.onRaise (compTurn (.ListComp elt [⟨tg,iter,ifs,0⟩] scope pos) 0 it acc env) (λx=>do noteFrame x env; theTreesLotGoes x)) _ _ s
 refine wpAny_noted ?_
 rw[compTurn_list]
 refine Ag (wpAny_standAt (Ag (Ez (turn n s hJ) (λr s1 h1=>?_) λ_ _ z=>z.elim)))
 cases r with
 | none=>exact Ay h1
 | some v =>
  refine Ag (Ez h1 (λ_ s2 h2=>?_) λ_ _ z=>z.elim)
  refine Ag (Ez h2 (λ_ s3 h3=>?_) λ_ _ z=>z.elim)
  refine Ag (Ez h3 (λok s4 h4=>?_) λ_ _ z=>z.elim)
  cases ok with
  | false=>exact Ay ⟨rfl,h4⟩
  | true =>
   refine Ag (Ag (Ez h4 (λx s5 h5=>?_) λ_ _ z=>z.elim))
   exact Ag (Ez h5 (λ_ s6 h6=>Ay (Ay ⟨rfl,h6⟩)) λ_ _ z=>z.elim)
end
section
variable{X:Cx}{pins:List (Addr×Obj)}{σ:L2.St}{H:Hp}{s:Al}{scope:Scope}{cl:List (Str×Addr)}{fp:List Addr}{N:List Str}
def mU(scope:Scope)(x:Str):Prop:=scope.names.lookup x=some .local\/scope.names.lookup x=some .cell
structure CompScope(X:Cx)(scope:Scope)(cl:List (Str×Addr))(x:Str)(ys:List Str)(js:List Nat):Prop where
 clos:La scope X.env=pure cl
 oc:(∀y∈scope.names,y.2≠.cell)\/∃z:Str,(∀n,Eu n scope.names []=[(z,n)])/\scope.names.lookup z=some .cell/\∀y∈scope.names,y.2=.cell->y.1=z
 kind:scope.kind=.function
 locs:∀y∈scope.names,y.2=.local->scope.names.lookup y.1=some .local
 own:mU scope x
 sub:∀y c,cl.lookup y=some c->X.env.cells.lookup y=some c
 has_:(scope.names.all λy=>!(y.2 == Dy) || (cl.lookup y.1).isSome)=true
 nd:(x::ys).Nodup
 len:ys.length=js.length
 at_:∀(k:Nat) (y:Str) (j:Nat),ys[k]? = some y->js[k]? = some j->X.N[j]? = some y/\scope.names.lookup y=some .free/\(X.env.kindOf y=some .cell\/X.env.kindOf y=some .free)
theorem CompScope.has{x:Str}{ys:List Str}{js:List Nat}(C:CompScope X scope cl x ys js):∀y∈scope.names,y.2=.free->(cl.lookup y.1).isSome=true:=λy hy e=>by
 have h:=Ex.mp C.has_ y hy
 rw[e] at h
 simpa using h
theorem Qp{env:Env}{y:Str}{k:Nk}:∀{names:List (Str×Nk)},
  (names.map λ(n,k)=>if (k == Dy && env.scope.kind == .function && env.kindOf n == some .cell) then (n,Ds) else (n,k)).lookup y=some k ->
  ∃k0,names.lookup y=some k0/\(k=k0\/(k0=.free/\k=.cell))
 | [],h=>by simp at h
 | (n,k0)::r,h=>by
  have ih:=@Qp env y k r
  rw[Ba] at h
  by_cases hc:(k0 == Dy && env.scope.kind == .function && env.kindOf n == some .cell)=true
  ·have h':Kh y ((n,Ds)::(r.map λ(n,k)=>if (k == Dy && env.scope.kind == .function && env.kindOf n == some .cell) then (n,Ds) else (n,k)))=some k:=by
    simpa [hc] using h
   cases hy:y == n with
   | true =>
    rw[Bu,hy] at h'
    have e:k=Ds:=by simpa using h'.symm
    refine ⟨k0,by rw[Bu,hy],.inr ⟨?_,e⟩⟩
    rw[Cg,Cg] at hc
    exact Dn hc.1.1
   | false =>
    rw[Bu,hy] at h'
    obtain ⟨q,e1,e2⟩:=ih h'
    exact ⟨q,by rw[Bu,hy]; exact e1,e2⟩
  ·have h':Kh y ((n,k0)::(r.map λ(n,k)=>if (k == Dy && env.scope.kind == .function && env.kindOf n == some .cell) then (n,Ds) else (n,k)))=some k:=by
    simpa [hc] using h
   cases hy:y == n with
   | true =>
    rw[Bu,hy] at h'
    exact ⟨k0,by rw[Bu,hy],.inl (by simpa using h'.symm)⟩
   | false =>
    rw[Bu,hy] at h'
    obtain ⟨q,e1,e2⟩:=ih h'
    exact ⟨q,by rw[Bu,hy]; exact e1,e2⟩
theorem Uc{env:Env}{y:Str}:∀{names:List (Str×Nk)},names.lookup y=some .free ->
  (names.map λ(n,k)=>if (k == Dy && env.scope.kind == .function && env.kindOf n == some .cell) then (n,Ds) else (n,k)).lookup y=some .cell \/
  (names.map λ(n,k)=>if (k == Dy && env.scope.kind == .function && env.kindOf n == some .cell) then (n,Ds) else (n,k)).lookup y=some .free
 | [],h=>by simp at h
 | (n,k0)::r,h=>by
  have ih:=@Uc env y r
  show Kh y ((if (k0 == Dy && env.scope.kind == .function && env.kindOf n == some .cell)=true then (n,Ds) else (n,k0))::_)=_\/Kh y ((if (k0 == Dy && env.scope.kind == .function && env.kindOf n == some .cell)=true then (n,Ds) else (n,k0))::_)=_
  by_cases hc:(k0 == Dy && env.scope.kind == .function && env.kindOf n == some .cell)=true
  ·rw[if_pos hc]
   cases hy:y == n with
   | true=>exact .inl (by rw[Bu,hy])
   | false =>
    rw[Bu,hy] at h
    simp only[Bu,hy]
    exact ih h
  ·rw[if_neg hc]
   cases hy:y == n with
   | true =>
    rw[Bu,hy] at h
    exact .inr (by rw[Bu,hy]; exact h)
   | false =>
    rw[Bu,hy] at h
    simp only[Bu,hy]
    exact ih h
theorem Kn{α β:Type}[BEq α][LawfulBEq α]{y:α}{k:β}:∀{l:List (α×β)},l.lookup y=some k->(y,k)∈l
 | [],h=>by simp at h
 | (n,v)::r,h=>by
  cases hy:y == n with
  | true =>
   rw[Bu,hy] at h
   have e:=Dn hy
   subst e
   have : v=k:=by simpa using h
   subst this
   exact Ab
  | false =>
   rw[Bu,hy] at h
   exact Ak _ (Kn h)
end
theorem dN{a c:Nat}(h:c<a)(e:c=a+1):False:=by omega
theorem Hk:∀(names:List (Str×Nk)) (n:Nat) (acc:List (Str×Addr)),Eu n names acc=Eu n names []++acc
 | [],_,_=>rfl
 | (x,k)::r,n,acc=>by
  unfold Eu
  by_cases h:(k == Ds)=true
  ·rw[if_pos h,if_pos h,Hk r _ ((x,n)::acc),Hk r _ [(x,n)],Ca]; rfl
  ·rw[if_neg h,if_neg h]; exact Hk r n acc
theorem Mj:∀(names:List (Str×Nk)) (n:Nat) (acc:List (Str×Addr)),(∀y∈names,y.2≠.cell)->Eu n names acc=acc
 | [],_,_,_=>rfl
 | (x,k)::r,n,acc,h=>by
  unfold Eu
  rw[if_neg (by have:=h (x,k) Ab; simpa using this)]
  exact Mj r n acc λy hy=>h y (Ak _ hy)
theorem Ur{env:Env}{y:Str}:∀{names:List (Str×Nk)},names.lookup y=some .cell->(names.map λ(n,k)=>if (k == Dy && env.scope.kind == .function && env.kindOf n == some .cell) then (n,Ds) else (n,k)).lookup y=some .cell
 | [],h=>by simp at h
 | (n,k0)::r,h=>by
  have ih:=@Ur env y r
  show Kh y ((if (k0 == Dy && env.scope.kind == .function && env.kindOf n == some .cell)=true then (n,Ds) else (n,k0))::_)=_
  by_cases hc:(k0 == Dy && env.scope.kind == .function && env.kindOf n == some .cell)=true
  ·rw[if_pos hc]
   cases hy:y == n with
   | true=>rw[Bu,hy]
   | false=>rw[Bu,hy] at h ⊢; exact ih h
  ·rw[if_neg hc]
   cases hy:y == n with
   | true=>rw[Bu,hy] at h ⊢; exact h
   | false=>rw[Bu,hy] at h ⊢; exact ih h
theorem Xl{env:Env}{scope:Scope}{x:Str}(o:mU scope x):Loc (relabel scope env) x:=o.imp lookup_relabel_local Ur
section
variable{X:Cx}{scope:Scope}{cl:List (Str×Addr)}{x y:Str}{ys:List Str}{js:List Nat}{n c:Nat}{N:List Str}{fp:List Addr}{s:Al}{H:Hp}
theorem dE(o:mU scope x):(Eo X scope cl N fp s H).fn x=true\/(Eo X scope cl N fp s H).env.scope.names.lookup x=some .local:=by
 rcases o with o | o
 ·exact .inr (lookup_relabel_local o)
 ·exact .inl (decide_eq_true o)
theorem CompScope.split(C:CompScope X scope cl x ys js)(h:(Eu n scope.names cl).lookup y=some c):cl.lookup y=some c\/(c=n/\Eu 0 scope.names []=[(y,0)]/\Eu n scope.names []=[(y,n)]/\scope.names.lookup y=some .cell):=by
 rcases C.oc with o | ⟨z,o1,o2,_⟩
 ·rw[Mj _ _ _ o] at h; exact .inl h
 ·rw[Hk,o1] at h
  have h2:Kh y ((z,n)::cl)=some c:=h
  rw[Bu] at h2
  cases e:y == z with
  | true =>
   rw[e] at h2
   have ec:c=n:=(Bo h2).symm
   have ey:=Dn e
   subst ey
   exact .inr ⟨ec,o1 0,o1 n,o2⟩
  | false=>rw[e] at h2; exact .inl h2
theorem CompScope.find(C:CompScope X scope cl x ys js)(h:cl.lookup y=some c)(hy:scope.names.lookup y=some .free):(Eu n scope.names cl).lookup y=some c:=by
 rcases C.oc with o | ⟨z,o1,o2,_⟩
 ·rw[Mj _ _ _ o]; exact h
 ·rw[Hk,o1]
  show Kh y ((z,n)::cl)=some c
  rw[Bu]
  cases e:y == z with
  | true=>rw[Dn e,o2] at hy; cases hy
  | false=>exact h
theorem CompScope.cellAt(C:CompScope X scope cl x ys js)(hy:(y,Ds)∈scope.names):(Eu n scope.names cl).lookup y=some n:=by
 rcases C.oc with o | ⟨z,o1,o2,o3⟩
 ·exact absurd rfl (o _ hy)
 ·have ez:y=z:=o3 _ hy rfl
  subst ez
  rw[Hk,o1]
  show Kh y ((y,n)::cl)=some n
  rw[Bu,beq_self_eq_true]
theorem mE{M:Model}{A:Cr}{E:Value->Al->Prop}{Q:Env->Al->Prop}(C:CompScope X scope cl x ys js)(hQ:∀h4,h4.Ns s.heap.objs.size (λ_=>none)->(∀b u,s.heap.get? b=some u->h4.get? b=some u)->(∀z n,Eu (s.heap.objs.size+1) scope.names []=[(z,n)]->h4.IsCell n none)->Q (newEnv scope s.heap.objs.size X.env.globals (Eu (s.heap.objs.size+1) scope.names cl) X.env.qual none .none (some X.env) Tr) { s with heap:=h4,toks:=s.toks+([]:List (Str×Value)).length }):wpAny M A (newFunctionEnv scope X.env.globals cl [] X.env.qual none .none (some X.env)) Q E s:=by
 simp only[newFunctionEnv,Option.isSome_some,if_true]
 refine Ag (wpAny_alloc (Ag (wpAny_layCells _ (λx k cs=>by cases e:k == Ds <;> simp [e]) _ _ _ _ ?_)))
 have hsz:({ s with heap:=s.heap.push { cls:=.type "dict",data:=.dict #[] } }:Al).heap.objs.size=s.heap.objs.size+1:=Heap.size_push ..
 rw[hsz]
 refine Ag (Ay (Ay (hQ _ ((Heap.Ns.new s.heap (.type "dict")).keeps (pushCells_keeps _ _)) (λb u e=>pushCells_keeps _ _ b u (Aj _ e)) λz n e=>?_)))
 have ok:=(cellsFrom_ok scope.names (s.heap.push { cls:=.type "dict",data:=.dict #[] }) 0 [] ⟨λ_ _ hm=>(nomatch hm),Jm⟩ (Ei _)).empty z n
 rw[show (s.heap.push { cls:=.type "dict",data:=.dict #[] }).objs.size=s.heap.objs.size+1 from hsz,e] at ok
 exact (ok (Am.mpr rfl)).1
end
section
variable{X:Cx}{pins:List (Addr×Obj)}{σ:L2.St}{H:Hp}{s:Al}{scope:Scope}{cl:List (Str×Addr)}{fp:List Addr}{N:List Str}
theorem wJ{x:Str}{ys:List Str}{js:List Nat}(C:CompScope X scope cl x ys js)(I:Inv X pins σ H s)(hf:∀b∈fp,On X pins H b)(ho:∀b∈fp,∃o,s.heap.get? b=some o):(Eo X scope cl N fp s H).Ok where
 mod:=I.ok.mod
 kind:=C.kind
 glob:=I.ok.glob
 blt:=I.ok.blt
 above:=Ap _
 inj:=λy z c h1 h2=>by
  have lt:∀y,cl.lookup y=some c->c<s.heap.objs.size:=λy e=>let ⟨_,q⟩:=I.cell y c (C.sub y c e); q.lt
  rcases C.split h1 with h1 | ⟨e1,a1,_⟩
  ·rcases C.split h2 with h2 | ⟨e2,_⟩
   ·exact I.ok.inj y z c (C.sub y c h1) (C.sub z c h2)
   ·exact (dN (lt y h1) e2).elim
  ·rcases C.split h2 with h2 | ⟨e2,a2,_⟩
   ·exact (dN (lt z h2) e1).elim
   ·rw[a1] at a2
    simpa using a2
 has:=λy hy=>by
  have key:∀k,(k=Ds\/k=Dy)->(compEnvC scope cl s.heap.objs.size X.env).kindOf y=some k->∃c,(Eu (s.heap.objs.size+1) scope.names cl).lookup y=some c:=by
   intro k hk e
   obtain ⟨k0,e0,e1⟩:=Qp (names:=scope.names) (env:=X.env) (y:=y) (k:=k) e
   have m:=Kn e0
   by_cases hk0:k0=.cell
   ·exact ⟨_,C.cellAt (hk0▸m)⟩
   have hfree:k0=.free:=by
    rcases e1 with e1 | e1
    ·subst e1
     rcases hk with hk | hk
     ·exact absurd hk hk0
     ·exact hk
    ·exact e1.1
   obtain ⟨c,hc⟩:=Os.mp (C.has _ m hfree)
   exact ⟨c,C.find hc (hfree▸e0)⟩
  rcases hy with hy | hy
  ·exact key _ (.inl rfl) hy
  ·exact key _ (.inr rfl) hy
 cab:=λy c h e=>by
  have h:scope.names.lookup y=some .cell:=of_decide_eq_true h
  have:=(C.cellAt (n:=s.heap.objs.size+1) (Kn h)).symm.trans e
  show s.heap.objs.size<=c
  have:=Bo this
  omega
 hd:=I.ok.hd
 frames:=I.ok.frames
 stk:=.inl rfl
 exf:=λb hb=>by
  obtain ⟨o,e⟩:=ho b hb
  refine ⟨Cq (Bf e),λy c hc=>?_⟩
  rcases C.split hc with hc | ⟨hc,_⟩
  ·exact (hf b hb).2.2.2.2.1 y c (C.sub y c hc)
  ·exact λz=>dN (Bf e) (z.symm.trans hc)
 bs:=I.bs
 bsz:=Cm I.ok.bsz I.sz
 noex:=λb o e hb=>by
  rcases (hf b hb).2.2.2.1 with z | z
  ·exact I.ok.noex b o e z
  ·exact absurd (Cj (Bf (I.ok.bs b o e).1) z) (Er _)
 exfs:=λb hb z=>by
  rcases Az.mp (I.stkSub b z) with e | e
  ·exact (hf b hb).2.1 e
  ·exact (hf b hb).2.2.1 e
 funs:=I.stack
 frf:=I.stkFree
 tab:=I.ok.tab.un I.base
def Hj(σ:L2.St)(js:List Nat):L2.St:=js.map λj=>(σ[j]?).join
theorem gX{x:Str}{pre ys:List Str}{js:List Nat}{h1:Heap}{tk:Nat}{m1:Str->Option Value}(C:CompScope X scope cl x ys js)(I:Inv X pins σ H s)(hf:∀b∈fp,On X pins H b)(ho:∀b∈fp,∃o,s.heap.get? b=some o)(hns:h1.Ns s.heap.objs.size m1)(keep:∀b u,s.heap.get? b=some u->h1.get? b=some u)(new:∀z n,Eu (s.heap.objs.size+1) scope.names []=[(z,n)]->h1.IsCell n none):Inv (Eo X scope cl (pre++ys) fp s H) [] (pre.map (λ_=>none)++Hj σ js) H { s with heap:=h1,toks:=tk }:=by
 have cellK:∀y c,cl.lookup y=some c->∃v,s.heap.IsCell c v/\h1.IsCell c v:=λy c e=>by
  obtain ⟨v,o,q,d⟩:=I.cell y c (C.sub y c e)
  exact ⟨v,⟨o,q,d⟩,o,keep c o q,d⟩
 refine ⟨wJ C I hf ho,rfl,I.bare,Un.kept keep,⟨m1,hns,λi y v e1 e2 _=>?_⟩,λy c e=>?_,I.hok.fresh (Ap _),λy c e=>?_,λp hp=>?_,I.hok.kept keep,?_⟩
 ·have e2:(pre.map (λ_=>(none:Option V))++Hj σ js)[i]? = some (some v):=e2
  have e1:(pre++ys)[i]? = some y:=e1
  by_cases hi:i<pre.length
  ·rw[Jk (by rw[Aa]; exact hi),Ao] at e2
   cases q:pre[i]? with
   | none=>rw[q] at e2; cases e2
   | some z=>rw[q] at e2; cases e2
  ·rw[Ge (by rw[Aa]; omega),Aa] at e2
   rw[Ge (by omega)] at e1
   have e1':=e1
   have e2':=e2
   generalize i - pre.length=k at e1' e2'
   unfold Hj at e2'
   rw[Ao] at e2'
   cases ej:js[k]? with
   | none=>rw[ej] at e2'; simp at e2'
   | some j =>
    rw[ej] at e2'
    have e3:(σ[j]?).join=some v:=by simpa using e2'
    have e4:σ[j]? = some (some v):=by
     cases q:σ[j]? with
     | none=>rw[q] at e3; simp at e3
     | some z=>rw[q] at e3; simp at e3; rw[e3]
    obtain ⟨a1,a2,a3⟩:=C.at_ k y j e1' ej
    obtain ⟨m0,_,hl⟩:=I.loc
    have vis:R9 X.env.scope y:=a3.elim (λa3=>.inr (.inl a3)) λa3=>.inr (.inr a3)
    obtain ⟨u,r,l⟩:=hl j y v a1 e4 vis
    refine ⟨u,r,?_⟩
    rcases l with ⟨k1,_⟩ | ⟨_,c,hc,hv⟩
    ·rcases a3 with a3 | a3 <;> rw[k1] at a3 <;> cases a3
    ·obtain ⟨c',hc'⟩:=Os.mp (C.has _ (Kn a2) rfl)
     have ec:c'=c:=by
      have:=C.sub y c' hc'
      rw[hc] at this
      exact (Bo this).symm
     subst ec
     obtain ⟨o,q,d⟩:=hv
     exact .inr ⟨Uc a2,c',C.find hc' a2,o,keep c' o q,d⟩
 ·rcases C.split e with e | ⟨e,_,e',_⟩
  ·obtain ⟨v,_,z⟩:=cellK y c e
   exact ⟨v,z⟩
  ·exact ⟨_,e▸new _ _ e'⟩
 ·rcases C.split e with e | ⟨e,_⟩
  ·exact I.freeC y c (C.sub y c e)
  ·exact I.hok.fresh (by omega)
 ·cases (show p∈([]:List (Addr×Obj)) from hp)
 ·show (pre.map (λ_=>(none:Option V))++Hj σ js).length=(pre++ys).length
  simp [Hj,C.len]
end
section
variable{X:Cx}
def yG(J:It)(js:List Nat)(tc:TT)(te:TE)(σ:L2.St)(H1:Hp)(Q:VK):Prop:=∀D,H1 D=none->∃W:Nat->Nat->Hp->Prop,(∃m,W 0 m (upd H1 D (.lst [])))/\∀i m H,W i m H ->
 (J.stop i H/\Q (.ref D) H)\/(J.go i H/\∀x H',J.yld i H x H'->∃(N1:Hp->Prop) (N2:VK),(∀H2,N1 H2->∃m',m'<m/\W (i+1) m' H2) /\
  (∀y H3,N2 y H3->∃acc,H3 D=some (.lst acc)/\acc.length<Be/\∃m',m'<m/\W (i+1) m' (upd H3 D (.lst (acc++[y])))) /\
  tc (some x::Hj σ js) H' λc H2=>if c=true then te (some x::Hj σ js) H2 N2 else N1 H2)
def rU(wi:TI)(js:List Nat)(tc:TT)(te:TE):TE:=λσ H Q=>wi σ H λJ H1=>yG J js tc te σ H1 Q
def dI:TT:=λ_ H Q=>Q true H
def kO(X:Cx)(ifs:List Expr)(t:TT):Prop :=
 ∀(pins:List (Addr×Obj)) (s:Al) (σ:L2.St) (H:Hp) (Q:Bool->Hp->Prop),Inv X pins σ H s->t σ H Q ->
  wpAny (model X.prog X.w) X.A (forIn ifs true λc r=>if r=true then (do
   let ok <- isTrue c X.env (eval c X.env)
   pure (Fb ok)) else pure (Fb r)) (TP X pins σ Q) X.xe s
theorem qQ:kO X [] dI:=λpins s σ H Q I h=>wpAny_tests_nil ⟨H,I,h⟩
theorem vQ{c:Expr}{t:TT}(h:PT X c t):kO X [c] t:=λpins s σ H Q I q=>wpAny_tests_one (h pins s σ H Q I q)
theorem iL{X X':Cx}{pins:List (Addr×Obj)}{σ σ':L2.St}{H3 H6:Hp}{s3 s7:Al}{scope:Scope}{cl:List (Str×Addr)}{N:List Str}{fp:List Addr}(hX':Eo X scope cl N fp s3 H3=X')(I3:Inv X pins σ H3 s3)(f3:∀b∈fp,On X pins H3 b)(I7:Inv X' [] σ' H6 s7):∃m7,s7.heap.Ns s3.heap.objs.size m7/\∀h8,Wy s3.heap.objs.size s7.heap h8->Inv X pins σ H6 { s7 with heap:=h8 }:=by
 have eP:X'.prog=X.prog:=by rw[<- hX']; rfl
 have eW:X'.w=X.w:=by rw[<- hX']; rfl
 obtain ⟨m7,hn7,_⟩:=I7.loc
 have hn7':s7.heap.Ns s3.heap.objs.size m7:=by rw[<- hX'] at hn7; exact hn7
 refine ⟨m7,hn7',λh8 hs8=>?_⟩
 have I7f:H6 s3.heap.objs.size=none:=by have:=I7.free; rw[<- hX'] at this; exact this
 have b7:Un (mF X.stack) fp H3 H6 s3.heap s7.heap:=by have:=I7.base; rw[<- hX'] at this; exact this
 have ne8:∀b o,s3.heap.get? b=some o->b≠s3.heap.objs.size:=λb o q=>Cq (Bf q)
 have u8:Un (mF X.stack) fp H3 H6 s3.heap h8:=by
  refine ⟨λb o q n hb hx=>(hs8.2 b (ne8 b o q)).trans (b7.keep b o q n hb hx),λb o q n hb hx=>?_,b7.free,λb o q hx=>?_,b7.tups,b7.frzs,b7.tbls⟩
  ·obtain ⟨sl,z⟩:=b7.slot b o q n hb hx
   exact ⟨sl,(hs8.2 b (ne8 b o q)).trans z⟩
  ·obtain ⟨o',z⟩:=b7.there b o q hx
   exact ⟨o',(hs8.2 b (ne8 b o q)).trans z⟩
 have hok8:Zx X.prog X.w H6 h8:=λb ob e=>by
  have hk7:=I7.hok
  rw[eP,eW] at hk7
  refine (hk7 b ob e).stay (λc w' hcc q=>(hs8.2 c ?_).trans q) (λ_ q=>q) λ_ _ q=>q
  rintro rfl
  rcases hcc with rfl | hcc
  ·rw[I7f] at e; cases e
  ·rw[I7f] at hcc; cases hcc
 have os7:s7.os=s3.os:=by have:=I7.os; rw[<- hX'] at this; exact this
 exact I3.call' (s':={ s7 with heap:=h8 }) (ch:=fp) os7 u8 hok8 I7.bare (λb hb=>⟨(f3 b hb).2.2.2.1,(f3 b hb).2.1,(f3 b hb).2.2.2.2.1,(f3 b hb).2.2.2.2.2⟩)
theorem mY{X X':Cx}{σ':L2.St}{H3 H6:Hp}{s3 s7:Al}{scope:Scope}{cl:List (Str×Addr)}{N:List Str}{fp:List Addr}(hX':Eo X scope cl N fp s3 H3=X')(I4:Inv X' [] σ' H6 s7){H':Hp}(hn:∀b∈fp,H' b=none):∀b∈fp,On X' [] H' b:=λb hb=>by
 have ok:=I4.ok
 have hex:b∈X'.ex:=by rw[<- hX']; exact hb
 exact ⟨hn b hb,(ok.exf b hex).1,ok.exfs b hex,.inl hex,(ok.exf b hex).2,λp hp=>by rw[<- hX'] at hp; cases (show p∈([]:List (Addr×Obj)) from hp)⟩
theorem tU{X X':Cx}{H3:Hp}{s3:Al}{scope:Scope}{cl:List (Str×Addr)}{N:List Str}{fp:List Addr}(hc:X.calm=true)(hX':Eo X scope cl N fp s3 H3=X'):X'.prog=X.prog/\X'.w=X.w/\X'.K=X.K/\X'.A=X.A/\X'.calm=true:=by
 subst hX'
 exact ⟨rfl,rfl,rfl,rfl,hc⟩
theorem oI{X X':Cx}{pins:List (Addr×Obj)}{σ σ':L2.St}{H3 H6:Hp}{s3 s7:Al}{scope:Scope}{cl:List (Str×Addr)}{N:List Str}{fp:List Addr}(hX':Eo X scope cl N fp s3 H3=X')(I3:Inv X pins σ H3 s3)(f3:∀b∈fp,On X pins H3 b)(I7:Inv X' [] σ' H6 s7):(∃m7,s7.heap.Ns s3.heap.objs.size m7)/\H6 s3.heap.objs.size=none/\Inv X pins σ H6 s7:=by
 subst hX'
 obtain ⟨m7,hn7,_⟩:=I7.loc
 exact ⟨⟨m7,hn7⟩,I7.free,I3.call' (s':=s7) (ch:=fp) I7.os I7.base I7.hok I7.bare (λb hb=>⟨(f3 b hb).2.2.2.1,(f3 b hb).2.1,(f3 b hb).2.2.2.2.1,(f3 b hb).2.2.2.2.2⟩)⟩
theorem qB{X:Cx}{pins:List (Addr×Obj)}{σ:L2.St}{H2:Hp}{s2:Al}{tg:Expr}{J:It}{fp:List Addr}{it:Addr}{tn:Nat->Heap->Prop}(I2:Inv X pins σ H2 s2)(T:Turn X.prog X.w X.K tg J fp it tn)(st2:tn 0 s2.heap)(f2:∀b∈fp,On X pins H2 b){ob:Obj}{ho:HO}(I3:Inv X pins σ (upd H2 s2.heap.objs.size ho) { s2 with heap:=s2.heap.push ob }):(∀b∈fp,On X pins (upd H2 s2.heap.objs.size ho) b)/\tn 0 (s2.heap.push ob)/\∀b∈fp,∃o,(s2.heap.push ob).get? b=some o:=by
 have Tc:tn 0 (s2.heap.push ob):=T.keep 0 _ _ st2 λb hb o q=>Aj _ q
 refine ⟨λb hb=>⟨?_,(f2 b hb).2⟩,Tc,λb hb=>?_⟩
 ·rw[Ee ?_]
  ·exact (f2 b hb).1
  ·intro z
   obtain ⟨o,q,_⟩:=T.obj _ _ st2 b hb
   have:=Bf q
   rw[z] at this
   exact absurd this (Er _)
 ·obtain ⟨o,q,_⟩:=T.obj _ _ Tc b hb
  exact ⟨o,q⟩
end
theorem Hi{H:Hp}{p:Addr}(h:H p=none)(o:HO):Qm H (upd H p o):=λb u q=>by rw[Ee (Ek q h)]; exact q
theorem Mf{α:Type}{xs:List α}{i:Nat}{x:α}(h:xs[i]? = some x):xs.take (i+1)=xs.take i++[x]:=by
 rw[List.take_succ,h]; rfl
mutual
inductive RdV (K:PySem.W.Frag) (H:Hp):V->Ac->Prop
 | non:RdV K H .non .none
 | bl (b:Bool):RdV K H (.bl b) (.bool b)
 | int (i:Int):RdV K H (.int i) (.int i)
 | str (x:Str):RdV K H (.str x) (.str x)
 | lst {a:Addr} {xs:List V} {ds:List Ac}:Pu K H a xs->RdVs K H xs ds->RdV K H (.ref a) (.list ds)
 | tup {a:Addr} {xs:List V} {ds:List Ac}:Se K H a xs->RdVs K H xs ds->RdV K H (.ref a) (.tuple ds)
inductive RdVs (K:PySem.W.Frag) (H:Hp):List V->List Ac->Prop
 | nil:RdVs K H [] []
 | cons {x:V} {d:Ac} {xs:List V} {ds:List Ac}:RdV K H x d->RdVs K H xs ds->RdVs K H (x::xs) (d::ds)
end
mutual
def M7(b:Nat):Ac->Prop
 | .none=>True
 | .bool _=>True
 | .int i=>i.natAbs<10 ^ b
 | .str x=>(reprText x).length<=b
 | .list xs=>dF b xs
 | .tuple xs=>dF b xs
 | .dict _=>False
def dF(b:Nat):List Ac->Prop
 | []=>True
 | x::xs=>M7 b x/\dF b xs
end
mutual
def yS:Ac->Nat
 | .list xs=>Yd xs+1
 | .tuple xs=>Yd xs+1
 | _=>1
def Yd:List Ac->Nat
 | []=>0
 | x::xs=>yS x+Yd xs
end
theorem jQ(ns:List Int):Bh (ns.map Ad)=0:=by
 induction ns with
 | nil=>rfl
 | cons n ns ih=>simp only[Ba,Bh,Dd,ih,Nat.max_self]
theorem Wc{m:Nat}:∀{xs:List Ac},(∀x∈xs,x.depth<=m)->Bh xs<=m
 | [],_=>by simp [Bh]
 | x::xs,h=>by
  have h1:=h x (Ab ..)
  have h2:=Wc (xs:=xs) λy hy=>h y (Ak _ hy)
  simp only[Bh]
  omega
theorem Fi.at'{xs:List V}{us:List Value}(r:Fi xs us){j:Nat}(h:j<us.length):∃x,xs[j]? = some x/\RelV x us[j]:=by
 have hl:=r.length
 have hj:j<xs.length:=by omega
 obtain ⟨u,hu,ru⟩:=r.get (i:=j) (x:=xs[j]) (by simp [hj])
 rw[Ai h] at hu
 cases hu
 exact ⟨xs[j],by simp [hj],ru⟩
section
variable{X:Cx}{pins:List (Addr×Obj)}{σ:L2.St}{H:Hp}{s:Al}{A:Cr}
theorem Rm(A:Cr):A.in1.units<=A.units+1:=by
 first | exact Ap _ | (simp [Around.in1]; done) | (unfold Around.in1; simp)
theorem fU:Ld X (.builtin "isinstance") (λxs H Q=>∃x n t b,xs=[x,.ty n]/\TyOf X.K H x t/\PySem.W.kitOne X.K t (.type n)=some b/\Q (.bl b) H):=by
 intro pins s σ H xs us Q I r h
 obtain ⟨x,n,t,b,rfl,ty,e,q⟩:=h
 obtain ⟨u,v,rfl,ru,rv⟩:=vals2 r
 cases rv
 exact mB I ru ty e λtk=>⟨.bl b,H,I.tok _,rfl,q⟩
theorem Up(hc:X.calm=true):Ld X (.builtin "all") (λxs H Q=>∃(p:Addr) (bs:List Bool),xs=[.ref p]/\Pu X.K H p (bs.map V.bl)/\Q (.bl (bs.all id)) H):=by
 intro pins s σ H xs us Q I r h
 obtain ⟨p,bs,rfl,hp,q⟩:=h
 obtain ⟨u,rfl,ru⟩:=vals1 r
 cases ru
 obtain ⟨its,rv,pl,_⟩:=I.list hp
 have hlen:its.toArray.size=bs.length:=by
  have:=rv.length
  rw[Aa] at this
  rw[Aq]; omega
 refine call_all_walk (bT pl.isList ?_)
 have hd:X.A.in1.handled=none:=I.ok.hd hc
 have ne:p≠s.heap.objs.size:=Cq (let ⟨o,q,_⟩:=pl.isList; Bf q)
 refine ⟨s.heap.objs.size,_,_,_,_,_,λi=>bs.getD i false,rfl,Walks.list hd s.heap.objs.size p ne its.toArray,⟨⟨_,Bn _ rfl,rfl,rfl⟩,pl.isList.push _⟩,?_,?_⟩
 ·intro i v s' Q' E' hv hq
  have hv':its[i]? = some v:=by simpa using hv
  have hi:i<its.length:=(Ah.mp hv').1
  obtain ⟨x,e1,q1⟩:=Fi.at' rv hi
  rw[Ai hi] at hv'
  have hv'':its[i]=v:=Bo hv'
  rw[hv''] at q1
  rw[Ao] at e1
  cases eb:bs[i]? with
  | none=>rw[eb] at e1; cases e1
  | some b =>
   rw[eb] at e1
   cases e1
   cases q1
   have : bs.getD i false=b:=by simp [Bv,eb]
   have hq':Q' (bs.getD i false) s':=hq
   rw[this] at hq'
   exact Fl hq'
 ·intro h' tk hk
  have e:((Cb its.toArray.size).all λi=>bs.getD i false)=bs.all id:=by
   rw[hlen]
   have : bs=(Cb bs.length).map (λj=>bs.getD j false):=(range_getD bs false).symm
   conv=>rhs; rw[this]
   rw[Kw]
   rfl
  rw[e]
  refine ⟨.bl _,H,I.kept (h':=h') (t':=tk) (λb o qq=>hk b o ?_ (Aj _ qq)),rfl,q⟩
  intro z
  have e2:b=s.heap.objs.size:=by simpa using z
  have e3:=Bf qq
  rw[e2] at e3
  exact absurd e3 (Er _)
end
section
variable{prog:Bp}{w:World}{A:Cr}{E:Value->Al->Prop}{s:Al}
theorem Sg{t sl:Addr}{items:Array Value}{vl vu:Value}{lo hi:Option Int}{Q:Value->Al->Prop}(ht:IsTup s.heap t items)(hs:s.heap.IsSliceOf sl vl vu .none)(pl:Wn vl lo)(pu:Wn vu hi)(hw:HT.sIx items.size 0 lo=0/\HT.sIx items.size items.size hi=items.size)(h:Q (.ref t) s):wpAny (model prog w) A (getItem (.ref t) (.ref sl)) Q E s:=by
 obtain ⟨os,hos,hcs,hds⟩:=id hs
 have hTs:s.TypeIs (.ref sl) "slice" := ⟨os,hos,hcs⟩
 unfold getItem
 try with_reducible refine Em ?_
 first | refine Ag (Ay ?_) | skip
 refine Ag (wpAny_sequenceKey ht.typeIs (by decide) ?_)
 refine Ag (tW (name:=Hs "__getitem__") ht.typeIs Eb
  (eB Eb ht.typeIs entry_tuple_getitem ?_ (args_tuple_getitem _ _)))
 show wpAny _ _ (Va (.ref t) >>= _) _ _ s
 refine Ag (tupleItemsOf_ ht ?_)
 refine Ag (To hTs ?_)
 rw[if_pos (by decide)]
 refine Ag (HT.sliceApplied_gen hs pl pu ?_)
 rw[hw.1,hw.2]
 have hyes:(((0:Nat):Int) == 0 && (1:Int) == 1 && (items.size - 0) == items.size)=true:=by simp
 show wpAny _ _ (if (((0:Nat):Int) == 0 && (1:Int) == 1 && (items.size - 0) == items.size)=true then _ else _) _ _ s
 rw[if_pos hyes]
 have hex:∀{R:Bool->Al->Prop},R true s->wpAny (model prog w) A.in1 (Vb (.ref t)) R E s:=λ{R} hR=>by
  unfold Vb
  refine Ag (To ht.typeIs (Ay ?_))
  rw[beq_self_eq_true]
  exact hR
 refine Ag (hex ?_)
 rw[if_pos rfl]
 exact Ag (wpAny_rule (Ay ⟨_,rfl,Ay h⟩))
end
mutual
def Dq:Ac->Ac->Bool
 | .none,.none=>true
 | .bool a,.bool b=>a == b
 | .bool a,.int b=>(if a then 1 else 0) == b
 | .int a,.bool b=>a == (if b then 1 else 0)
 | .int a,.int b=>a == b
 | .str a,.str b=>a == b
 | .list xs,.list ys=>Mk xs ys
 | .tuple xs,.tuple ys=>Mk xs ys
 | _,_=>false
def Mk:List Ac->List Ac->Bool
 | [],[]=>true
 | x::xs,y::ys=>Dq x y && Mk xs ys
 | _,_=>false
end
theorem Mh:∀ds es:List Ac,(((Cb (min ds.length es.length)).all λj=>Dq (ds.getD j .none) (es.getD j .none)) && ds.length == es.length)=Mk ds es
 | [],[]=>by simp [Mk]
 | [],_::_=>by simp [Mk]
 | _::_,[]=>by simp [Mk]
 | d::ds,e::es=>by
  have ih:=Mh ds es
  rw[Mk,<- ih]
  have h1:min (d::ds).length (e::es).length=min ds.length es.length+1:=by simp only[Bk]; omega
  rw[h1,List.range_succ_eq_map,List.all_cons,Kw]
  have h2:((d::ds).length == (e::es).length)=(ds.length == es.length):=by
   rw[Sb]; simp
  rw[h2,Bool.and_assoc]
  rfl
section
variable{X:Cx}{pins:List (Addr×Obj)}{σ:L2.St}{H:Hp}{s:Al}{K:PySem.W.Frag}
mutual
theorem RdV.eqD_self:∀{v:V} {d:Ac},RdV K H v d->Dq d d=true
 | _,_,.non=>by simp [Dq]
 | _,_,.bl b=>by simp [Dq]
 | _,_,.int i=>by simp [Dq]
 | _,_,.str x=>by simp [Dq]
 | _,_,.lst _ h=>by rw[Dq]; exact RdVs.eqDs_self h
 | _,_,.tup _ h=>by rw[Dq]; exact RdVs.eqDs_self h
theorem RdVs.eqDs_self:∀{vs:List V} {ds:List Ac},RdVs K H vs ds->Mk ds ds=true
 | _,_,.nil=>by simp [Mk]
 | _,_,.cons h t=>by rw[Mk,RdV.eqD_self h,RdVs.eqDs_self t]; rfl
end
theorem eZ(I:Inv X pins σ H s){a:Addr}{xs ys:List V}(h1:Pu X.K H a xs)(h2:Se X.K H a ys):False:=by
 obtain ⟨us,_,p1,_⟩:=I.list h1
 obtain ⟨vs,_,p2,_⟩:=I.tuple h2
 exact SeqAt.ne_of_list_tuple p1.isList p2 rfl
mutual
theorem RdV.det(I:Inv X pins σ H s):∀{v:V} {d e:Ac},RdV X.K H v d->RdV X.K H v e->d=e
 | _,_,_,.non,h=>by cases h; rfl
 | _,_,_,.bl b,h=>by cases h; rfl
 | _,_,_,.int i,h=>by cases h; rfl
 | _,_,_,.str x,h=>by cases h; rfl
 | _,_,_,.lst q r,h=>by
  cases h with
  | lst q' r' =>
   have e:=I.list_inj q q'
   subst e
   rw[RdVs.det I r r']
  | tup q' r'=>exact (eZ I q q').elim
 | _,_,_,.tup q r,h=>by
  cases h with
  | lst q' r'=>exact (eZ I q' q).elim
  | tup q' r' =>
   have e:=I.tuple_inj q q'
   subst e
   rw[RdVs.det I r r']
theorem RdVs.det(I:Inv X pins σ H s):∀{vs:List V} {ds es:List Ac},RdVs X.K H vs ds->RdVs X.K H vs es->ds=es
 | _,_,_,.nil,h=>by cases h; rfl
 | _,_,_,.cons r t,h=>by
  cases h with
  | cons r' t'=>rw[RdV.det I r r',RdVs.det I t t']
end
theorem RdVs.length:∀{vs:List V} {ds:List Ac},RdVs K H vs ds->vs.length=ds.length
 | _,_,.nil=>rfl
 | _,_,.cons _ t=>by rw[Bk,Bk,RdVs.length t]
theorem Vg{A:Cr}{n:Nat}(h:A.units+(n+1)<cLine):A.in1.units+n<cLine:=by
 have:=Rm A
 omega
theorem fG{A:Cr}{a b:Addr}{us vs:List Value}{ds es:List Ac}(p1:PlainL s.heap a us.toArray)(p2:PlainL s.heap b vs.toArray)(l1:us.length=ds.length)(l2:vs.length=es.length)(hu:A.units<cLine)(he:∀j (h1:j<us.length) (h2:j<vs.length),Lh A.in1 s us[j] vs[j] (Dq (ds.getD j .none) (es.getD j .none))):SeqAt.RcAt A s (.ref a) (.ref b) (Mk ds es):=by
 rw[<- Mh]
 by_cases hl:ds.length=es.length
 ·have hs:us.toArray.size=vs.toArray.size:=by rw[Aq,Aq,l1,l2,hl]
  have h:=SeqAt.RcAt.lists (A:=A) (e:=λj=>Dq (ds.getD j .none) (es.getD j .none)) p1.isList p2.isList hs hu (λj h1 h2=>by simpa using he j (by simpa using h1) (by simpa using h2))
  rw[Aq,l1] at h
  rw[hl,Nat.min_self,beq_self_eq_true,Bool.and_true,<- hl]
  exact h
 ·have hs:(us.toArray.size != vs.toArray.size)=true:=by rw[Aq,Aq,l1,l2]; simpa using hl
  have h:=SeqAt.RcAt.lists_lengths (A:=A) p1.isList p2.isList hs hu
  have e0:(ds.length == es.length)=false:=by simpa using hl
  rw[e0,Bool.and_false]
  exact h
theorem bR{A:Cr}{a b:Addr}{us vs:List Value}{ds es:List Ac}(p1:IsTup s.heap a us.toArray)(p2:IsTup s.heap b vs.toArray)(l1:us.length=ds.length)(l2:vs.length=es.length)(hu:A.units<cLine)(he:∀j (h1:j<us.length) (h2:j<vs.length),Lh A.in1 s us[j] vs[j] (Dq (ds.getD j .none) (es.getD j .none))):SeqAt.RcAt A s (.ref a) (.ref b) (Mk ds es):=by
 rw[<- Mh]
 have h:=SeqAt.RcAt.tuples (A:=A) (e:=λj=>Dq (ds.getD j .none) (es.getD j .none)) (show s.heap.IsTuple a us.toArray from p1) (show s.heap.IsTuple b vs.toArray from p2) hu (λj h1 h2=>by simpa using he j (by simpa using h1) (by simpa using h2))
 rw[Aq,Aq,l1,l2] at h
 exact h
mutual
theorem rO(I:Inv X pins σ H s):∀{A:Cr} {x y:V} {d e:Ac} {u v:Value},RdV X.K H x d->RdV X.K H y e->RelV x u->RelV y v->A.units+d.depth<cLine->Lh A s u v (Dq d e)
 | A,_,_,_,_,_,_,.non,h,ru,rv,hu=>by
  cases ru
  have hu':A.units<cLine:=by omega
  cases h with
  | non=>cases rv; rw[Dq]; exact SeqAt.EqAt.same _
  | bl b=>cases rv; rw[Dq]; exact SeqAt.EqAt.none_bool b; all_goals simp
  | int b=>obtain ⟨t,rfl⟩:=rv; rw[Dq]; exact SeqAt.EqAt.none_int b t; all_goals simp
  | str b=>obtain ⟨t,rfl⟩:=rv; rw[Dq]; exact SeqAt.EqAt.none_str b t; all_goals simp
  | lst q r=>cases rv; obtain ⟨us,_,p,_⟩:=I.list q; rw[Dq]; exact SeqAt.EqAt.none_list p.isList hu'; all_goals simp
  | tup q r=>cases rv; obtain ⟨us,_,p,_⟩:=I.tuple q; rw[Dq]; exact SeqAt.EqAt.none_tuple p hu'; all_goals simp
 | A,_,_,_,_,_,_,.bl a,h,ru,rv,hu=>by
  cases ru
  have hu':A.units<cLine:=by omega
  cases h with
  | non=>cases rv; rw[Dq]; exact SeqAt.EqAt.bool_none a; all_goals simp
  | bl b=>cases rv; rw[Dq]; exact SeqAt.EqAt.bool_bool a b
  | int b=>obtain ⟨t,rfl⟩:=rv; rw[Dq]; exact SeqAt.EqAt.bool_int a b t
  | str b=>obtain ⟨t,rfl⟩:=rv; rw[Dq]; exact SeqAt.EqAt.bool_str a b t; all_goals simp
  | lst q r=>cases rv; obtain ⟨us,_,p,_⟩:=I.list q; rw[Dq]; exact SeqAt.EqAt.bool_list a p.isList hu'; all_goals simp
  | tup q r=>cases rv; obtain ⟨us,_,p,_⟩:=I.tuple q; rw[Dq]; exact SeqAt.EqAt.bool_tuple a p hu'; all_goals simp
 | A,_,_,_,_,_,_,.int a,h,ru,rv,hu=>by
  obtain ⟨t',rfl⟩:=ru
  have hu':A.units<cLine:=by omega
  cases h with
  | non=>cases rv; rw[Dq]; exact SeqAt.EqAt.int_none a t'; all_goals simp
  | bl b=>cases rv; rw[Dq]; exact SeqAt.EqAt.int_bool a t' b
  | int b=>obtain ⟨t,rfl⟩:=rv; rw[Dq]; exact SeqAt.EqAt.int_int a t' b t
  | str b=>obtain ⟨t,rfl⟩:=rv; rw[Dq]; exact SeqAt.EqAt.int_str a t' b t; all_goals simp
  | lst q r=>cases rv; obtain ⟨us,_,p,_⟩:=I.list q; rw[Dq]; exact SeqAt.EqAt.int_list a t' p.isList hu'; all_goals simp
  | tup q r=>cases rv; obtain ⟨us,_,p,_⟩:=I.tuple q; rw[Dq]; exact SeqAt.EqAt.int_tuple a t' p hu'; all_goals simp
 | A,_,_,_,_,_,_,.str a,h,ru,rv,hu=>by
  obtain ⟨t',rfl⟩:=ru
  have hu':A.units<cLine:=by omega
  cases h with
  | non=>cases rv; rw[Dq]; exact SeqAt.EqAt.str_none a t'; all_goals simp
  | bl b=>cases rv; rw[Dq]; exact SeqAt.EqAt.str_bool a t' b; all_goals simp
  | int b=>obtain ⟨t,rfl⟩:=rv; rw[Dq]; exact SeqAt.EqAt.str_int a t' b t; all_goals simp
  | str b=>obtain ⟨t,rfl⟩:=rv; rw[Dq]; exact SeqAt.EqAt.str_str a t' b t
  | lst q r=>cases rv; obtain ⟨us,_,p,_⟩:=I.list q; rw[Dq]; exact SeqAt.EqAt.str_list a t' p.isList hu'; all_goals simp
  | tup q r=>cases rv; obtain ⟨us,_,p,_⟩:=I.tuple q; rw[Dq]; exact SeqAt.EqAt.str_tuple a t' p hu'; all_goals simp
 | A,_,_,_,_,_,_,@RdV.lst _ _ a xs ds q r,h,ru,rv,hu=>by
  cases ru
  have hu':A.units<cLine:=by omega
  obtain ⟨us,r1,p,_⟩:=I.list q
  cases h with
  | non=>cases rv; rw[Dq]; exact SeqAt.EqAt.list_none p.isList hu'; all_goals simp
  | bl b=>cases rv; rw[Dq]; exact SeqAt.EqAt.list_bool b p.isList hu'; all_goals simp
  | int b=>obtain ⟨t,rfl⟩:=rv; rw[Dq]; exact SeqAt.EqAt.list_int b t p.isList hu'; all_goals simp
  | str b=>obtain ⟨t,rfl⟩:=rv; rw[Dq]; exact SeqAt.EqAt.list_str b t p.isList hu'; all_goals simp
  | @lst b ys es q2 rr2 =>
   cases rv
   obtain ⟨vs,r2,p2,_⟩:=I.list q2
   rw[Dq]
   by_cases hab:a=b
   ·subst hab
    have e:=I.list_inj q q2
    subst e
    rw[<- RdVs.det I r rr2,RdVs.eqDs_self r]
    exact SeqAt.EqAt.same _
   ·refine SeqAt.EqAt.of_refs hab (fG p p2 (r1.length.symm.trans r.length) (r2.length.symm.trans rr2.length) hu' λj h1 h2=>?_)
    exact Pj I r rr2 r1 r2 (Vg (by simpa only [Dd] using hu)) j h1 h2
  | tup q2 rr2=>cases rv; obtain ⟨vs,_,p2,_⟩:=I.tuple q2; rw[Dq]; exact SeqAt.EqAt.list_tuple p.isList p2 hu'; all_goals simp
 | A,_,_,_,_,_,_,@RdV.tup _ _ a xs ds q r,h,ru,rv,hu=>by
  cases ru
  have hu':A.units<cLine:=by omega
  obtain ⟨us,r1,p,_⟩:=I.tuple q
  cases h with
  | non=>cases rv; rw[Dq]; exact SeqAt.EqAt.tuple_none p hu'; all_goals simp
  | bl b=>cases rv; rw[Dq]; exact SeqAt.EqAt.tuple_bool b p hu'; all_goals simp
  | int b=>obtain ⟨t,rfl⟩:=rv; rw[Dq]; exact SeqAt.EqAt.tuple_int b t p hu'; all_goals simp
  | str b=>obtain ⟨t,rfl⟩:=rv; rw[Dq]; exact SeqAt.EqAt.tuple_str b t p hu'; all_goals simp
  | lst q2 rr2=>cases rv; obtain ⟨vs,_,p2,_⟩:=I.list q2; rw[Dq]; exact SeqAt.EqAt.tuple_list p p2.isList hu'; all_goals simp
  | @tup b ys es q2 rr2 =>
   cases rv
   obtain ⟨vs,r2,p2,_⟩:=I.tuple q2
   rw[Dq]
   by_cases hab:a=b
   ·subst hab
    have e:=I.tuple_inj q q2
    subst e
    rw[<- RdVs.det I r rr2,RdVs.eqDs_self r]
    exact SeqAt.EqAt.same _
   ·refine SeqAt.EqAt.of_refs hab (bR p p2 (r1.length.symm.trans r.length) (r2.length.symm.trans rr2.length) hu' λj h1 h2=>?_)
    exact Pj I r rr2 r1 r2 (Vg (by simpa only [Dd] using hu)) j h1 h2
theorem Pj(I:Inv X pins σ H s):∀{A:Cr} {xs ys:List V} {ds es:List Ac} {us vs:List Value},RdVs X.K H xs ds->RdVs X.K H ys es->Fi xs us->Fi ys vs->A.units+Bh ds<cLine->∀j (h1:j<us.length) (h2:j<vs.length),Lh A s us[j] vs[j] (Dq (ds.getD j .none) (es.getD j .none))
 | _,_,_,_,_,_,_,.nil,_,r1,_,_=>λj h1 h2=>by cases r1; exact absurd h1 (Mv _)
 | A,_,_,_,_,_,_,@RdVs.cons _ _ x d xs ds r t,h,r1,r2,hu=>λj h1 h2=>by
  cases h with
  | nil=>cases r2; exact absurd h2 (Mv _)
  | cons r' t' =>
   cases r1 with
   | cons ra ta =>
    cases r2 with
    | cons rb tb =>
     have hm:A.units+d.depth<cLine/\A.units+Bh ds<cLine:=by
      simp only[Bh] at hu
      omega
     cases j with
     | zero=>simpa using rO I r r' ra rb hm.1
     | succ j=>simpa using Pj I t t' ta tb hm.2 j (by simpa using h1) (by simpa using h2)
end
end
section
variable{X:Cx}{pins:List (Addr×Obj)}{σ:L2.St}{H:Hp}{s:Al}{K:PySem.W.Frag}
theorem oF{A:Cr}{a b:Addr}{us vs:List Value}{ds es:List Ac}(p1:PlainL s.heap a us.toArray)(p2:PlainL s.heap b vs.toArray)(l1:us.length=ds.length)(l2:vs.length=es.length)(hu:A.units<cLine)(he:∀j (h1:j<us.length) (h2:j<vs.length),Lh A.in1 s us[j] vs[j] (Dq (ds.getD j .none) (es.getD j .none))):SeqAt.RcNeAt A s (.ref a) (.ref b) (!Mk ds es):=by
 rw[<- Mh]
 by_cases hl:ds.length=es.length
 ·have hs:us.toArray.size=vs.toArray.size:=by rw[Aq,Aq,l1,l2,hl]
  have h:=SeqAt.RcNeAt.lists (A:=A) (e:=λj=>Dq (ds.getD j .none) (es.getD j .none)) p1.isList p2.isList hs hu (λj h1 h2=>by simpa using he j (by simpa using h1) (by simpa using h2))
  rw[Aq,l1] at h
  rw[hl,Nat.min_self,beq_self_eq_true,Bool.and_true,<- hl]
  exact h
 ·have hs:(us.toArray.size != vs.toArray.size)=true:=by rw[Aq,Aq,l1,l2]; simpa using hl
  have h:=SeqAt.RcNeAt.lists_lengths (A:=A) p1.isList p2.isList hs hu
  have e0:(ds.length == es.length)=false:=by simpa using hl
  rw[e0,Bool.and_false]
  exact h
theorem iA{A:Cr}{a b:Addr}{us vs:List Value}{ds es:List Ac}(p1:IsTup s.heap a us.toArray)(p2:IsTup s.heap b vs.toArray)(l1:us.length=ds.length)(l2:vs.length=es.length)(hu:A.units<cLine)(he:∀j (h1:j<us.length) (h2:j<vs.length),Lh A.in1 s us[j] vs[j] (Dq (ds.getD j .none) (es.getD j .none))):SeqAt.RcNeAt A s (.ref a) (.ref b) (!Mk ds es):=by
 rw[<- Mh]
 have h:=SeqAt.RcNeAt.tuples (A:=A) (e:=λj=>Dq (ds.getD j .none) (es.getD j .none)) (show s.heap.IsTuple a us.toArray from p1) (show s.heap.IsTuple b vs.toArray from p2) hu (λj h1 h2=>by simpa using he j (by simpa using h1) (by simpa using h2))
 rw[Aq,Aq,l1,l2] at h
 exact h
end
section
variable{X:Cx}
def E8(K:PySem.W.Frag):R2:=λx y H Q=>∃d e,RdV K H x d/\RdV K H y e/\d.depth<=60/\Q (.bl (Dq d e)) H
def N5(K:PySem.W.Frag):R2:=λx y H Q=>∃d e,RdV K H x d/\RdV K H y e/\d.depth<=60/\Q (.bl (!Dq d e)) H
theorem rD(hu:X.A.units+64<cLine):Tn X (Fo .Eq) (E8 X.K):=by
 intro pins s σ H x y v u Q I rx ry h
 obtain ⟨d,e,h1,h2,hd,q⟩:=h
 have hu':X.A.units<cLine:=by omega
 cases h1 with
 | non =>
  cases rx
  cases h2 with
  | non=>cases ry; rw[Dq] at q; exact SeqAt.RcAt.none_none _ _ _ _ ⟨.bl _,H,I,rfl,q⟩
  | bl b=>cases ry; rw[Dq] at q; exact SeqAt.RcAt.none_bool b _ _ _ _ ⟨.bl _,H,I,rfl,q⟩; all_goals simp
  | int b=>obtain ⟨t,rfl⟩:=ry; rw[Dq] at q; exact SeqAt.RcAt.none_int b t _ _ _ _ ⟨.bl _,H,I,rfl,q⟩; all_goals simp
  | str b=>obtain ⟨t,rfl⟩:=ry; rw[Dq] at q; exact SeqAt.RcAt.none_str b t _ _ _ _ ⟨.bl _,H,I,rfl,q⟩; all_goals simp
  | @lst b ys es q2 rr2=>cases ry; obtain ⟨vs,r2,p2,_⟩:=I.list q2; rw[Dq] at q; exact SeqAt.RcAt.none_list p2.isList hu' _ _ _ _ ⟨.bl _,H,I,rfl,q⟩; all_goals simp
  | @tup b ys es q2 rr2=>cases ry; obtain ⟨vs,r2,p2,_⟩:=I.tuple q2; rw[Dq] at q; exact SeqAt.RcAt.none_tuple p2 hu' _ _ _ _ ⟨.bl _,H,I,rfl,q⟩; all_goals simp
 | bl a =>
  cases rx
  cases h2 with
  | non=>cases ry; rw[Dq] at q; exact SeqAt.RcAt.bool_none a _ _ _ _ ⟨.bl _,H,I,rfl,q⟩; all_goals simp
  | bl b=>cases ry; rw[Dq] at q; exact SeqAt.RcAt.bool_bool a b _ _ _ _ ⟨.bl _,H,I,rfl,q⟩
  | int b=>obtain ⟨t,rfl⟩:=ry; rw[Dq] at q; exact SeqAt.RcAt.bool_int a b t _ _ _ _ ⟨.bl _,H,I,rfl,q⟩
  | str b=>obtain ⟨t,rfl⟩:=ry; rw[Dq] at q; exact SeqAt.RcAt.bool_str a b t _ _ _ _ ⟨.bl _,H,I,rfl,q⟩; all_goals simp
  | @lst b ys es q2 rr2=>cases ry; obtain ⟨vs,r2,p2,_⟩:=I.list q2; rw[Dq] at q; exact SeqAt.RcAt.bool_list a p2.isList hu' _ _ _ _ ⟨.bl _,H,I,rfl,q⟩; all_goals simp
  | @tup b ys es q2 rr2=>cases ry; obtain ⟨vs,r2,p2,_⟩:=I.tuple q2; rw[Dq] at q; exact SeqAt.RcAt.bool_tuple a p2 hu' _ _ _ _ ⟨.bl _,H,I,rfl,q⟩; all_goals simp
 | int a =>
  obtain ⟨t',rfl⟩:=rx
  cases h2 with
  | non=>cases ry; rw[Dq] at q; exact SeqAt.RcAt.int_none a t' _ _ _ _ ⟨.bl _,H,I,rfl,q⟩; all_goals simp
  | bl b=>cases ry; rw[Dq] at q; exact SeqAt.RcAt.int_bool a t' b _ _ _ _ ⟨.bl _,H,I,rfl,q⟩
  | int b=>obtain ⟨t,rfl⟩:=ry; rw[Dq] at q; exact SeqAt.RcAt.int_int a t' b t _ _ _ _ ⟨.bl _,H,I,rfl,q⟩
  | str b=>obtain ⟨t,rfl⟩:=ry; rw[Dq] at q; exact SeqAt.RcAt.int_str a t' b t _ _ _ _ ⟨.bl _,H,I,rfl,q⟩; all_goals simp
  | @lst b ys es q2 rr2=>cases ry; obtain ⟨vs,r2,p2,_⟩:=I.list q2; rw[Dq] at q; exact SeqAt.RcAt.int_list a t' p2.isList hu' _ _ _ _ ⟨.bl _,H,I,rfl,q⟩; all_goals simp
  | @tup b ys es q2 rr2=>cases ry; obtain ⟨vs,r2,p2,_⟩:=I.tuple q2; rw[Dq] at q; exact SeqAt.RcAt.int_tuple a t' p2 hu' _ _ _ _ ⟨.bl _,H,I,rfl,q⟩; all_goals simp
 | str a =>
  obtain ⟨t',rfl⟩:=rx
  cases h2 with
  | non=>cases ry; rw[Dq] at q; exact SeqAt.RcAt.str_none a t' _ _ _ _ ⟨.bl _,H,I,rfl,q⟩; all_goals simp
  | bl b=>cases ry; rw[Dq] at q; exact SeqAt.RcAt.str_bool a t' b _ _ _ _ ⟨.bl _,H,I,rfl,q⟩; all_goals simp
  | int b=>obtain ⟨t,rfl⟩:=ry; rw[Dq] at q; exact SeqAt.RcAt.str_int a t' b t _ _ _ _ ⟨.bl _,H,I,rfl,q⟩; all_goals simp
  | str b=>obtain ⟨t,rfl⟩:=ry; rw[Dq] at q; exact SeqAt.RcAt.str_str a t' b t _ _ _ _ ⟨.bl _,H,I,rfl,q⟩
  | @lst b ys es q2 rr2=>cases ry; obtain ⟨vs,r2,p2,_⟩:=I.list q2; rw[Dq] at q; exact SeqAt.RcAt.str_list a t' p2.isList hu' _ _ _ _ ⟨.bl _,H,I,rfl,q⟩; all_goals simp
  | @tup b ys es q2 rr2=>cases ry; obtain ⟨vs,r2,p2,_⟩:=I.tuple q2; rw[Dq] at q; exact SeqAt.RcAt.str_tuple a t' p2 hu' _ _ _ _ ⟨.bl _,H,I,rfl,q⟩; all_goals simp
 | @lst a xs ds qa r =>
  cases rx
  obtain ⟨us,r1,p,_⟩:=I.list qa
  cases h2 with
  | non=>cases ry; rw[Dq] at q; exact SeqAt.RcAt.list_none p.isList hu' _ _ _ _ ⟨.bl _,H,I,rfl,q⟩; all_goals simp
  | bl b=>cases ry; rw[Dq] at q; exact SeqAt.RcAt.list_bool b p.isList hu' _ _ _ _ ⟨.bl _,H,I,rfl,q⟩; all_goals simp
  | int b=>obtain ⟨t,rfl⟩:=ry; rw[Dq] at q; exact SeqAt.RcAt.list_int b t p.isList hu' _ _ _ _ ⟨.bl _,H,I,rfl,q⟩; all_goals simp
  | str b=>obtain ⟨t,rfl⟩:=ry; rw[Dq] at q; exact SeqAt.RcAt.list_str b t p.isList hu' _ _ _ _ ⟨.bl _,H,I,rfl,q⟩; all_goals simp
  | @lst b ys es q2 rr2=>cases ry; obtain ⟨vs,r2,p2,_⟩:=I.list q2; rw[Dq] at q; exact fG p p2 (r1.length.symm.trans r.length) (r2.length.symm.trans rr2.length) hu' (λj h1 h2=>Pj I r rr2 r1 r2 (Vg (by simp only[Dd] at hd; omega)) j h1 h2) _ _ _ _ ⟨.bl _,H,I,rfl,q⟩
  | @tup b ys es q2 rr2=>cases ry; obtain ⟨vs,r2,p2,_⟩:=I.tuple q2; rw[Dq] at q; exact SeqAt.RcAt.list_tuple p.isList p2 hu' _ _ _ _ ⟨.bl _,H,I,rfl,q⟩; all_goals simp
 | @tup a xs ds qa r =>
  cases rx
  obtain ⟨us,r1,p,_⟩:=I.tuple qa
  cases h2 with
  | non=>cases ry; rw[Dq] at q; exact SeqAt.RcAt.tuple_none p hu' _ _ _ _ ⟨.bl _,H,I,rfl,q⟩; all_goals simp
  | bl b=>cases ry; rw[Dq] at q; exact SeqAt.RcAt.tuple_bool b p hu' _ _ _ _ ⟨.bl _,H,I,rfl,q⟩; all_goals simp
  | int b=>obtain ⟨t,rfl⟩:=ry; rw[Dq] at q; exact SeqAt.RcAt.tuple_int b t p hu' _ _ _ _ ⟨.bl _,H,I,rfl,q⟩; all_goals simp
  | str b=>obtain ⟨t,rfl⟩:=ry; rw[Dq] at q; exact SeqAt.RcAt.tuple_str b t p hu' _ _ _ _ ⟨.bl _,H,I,rfl,q⟩; all_goals simp
  | @lst b ys es q2 rr2=>cases ry; obtain ⟨vs,r2,p2,_⟩:=I.list q2; rw[Dq] at q; exact SeqAt.RcAt.tuple_list p p2.isList hu' _ _ _ _ ⟨.bl _,H,I,rfl,q⟩; all_goals simp
  | @tup b ys es q2 rr2=>cases ry; obtain ⟨vs,r2,p2,_⟩:=I.tuple q2; rw[Dq] at q; exact bR p p2 (r1.length.symm.trans r.length) (r2.length.symm.trans rr2.length) hu' (λj h1 h2=>Pj I r rr2 r1 r2 (Vg (by simp only[Dd] at hd; omega)) j h1 h2) _ _ _ _ ⟨.bl _,H,I,rfl,q⟩
theorem zO(hu:X.A.units+64<cLine):Tn X (Fo .NotEq) (N5 X.K):=by
 intro pins s σ H x y v u Q I rx ry h
 obtain ⟨d,e,h1,h2,hd,q⟩:=h
 have hu':X.A.units<cLine:=by omega
 cases h1 with
 | non =>
  cases rx
  cases h2 with
  | non=>cases ry; rw[Dq] at q; exact SeqAt.RcNeAt.none_none _ _ _ _ ⟨.bl _,H,I,rfl,q⟩
  | bl b=>cases ry; rw[Dq] at q; exact SeqAt.RcNeAt.none_bool b _ _ _ _ ⟨.bl _,H,I,rfl,q⟩; all_goals simp
  | int b=>obtain ⟨t,rfl⟩:=ry; rw[Dq] at q; exact SeqAt.RcNeAt.none_int b t _ _ _ _ ⟨.bl _,H,I,rfl,q⟩; all_goals simp
  | str b=>obtain ⟨t,rfl⟩:=ry; rw[Dq] at q; exact SeqAt.RcNeAt.none_str b t _ _ _ _ ⟨.bl _,H,I,rfl,q⟩; all_goals simp
  | @lst b ys es q2 rr2=>cases ry; obtain ⟨vs,r2,p2,_⟩:=I.list q2; rw[Dq] at q; exact SeqAt.RcNeAt.none_list p2.isList hu' _ _ _ _ ⟨.bl _,H,I,rfl,q⟩; all_goals simp
  | @tup b ys es q2 rr2=>cases ry; obtain ⟨vs,r2,p2,_⟩:=I.tuple q2; rw[Dq] at q; exact SeqAt.RcNeAt.none_tuple p2 hu' _ _ _ _ ⟨.bl _,H,I,rfl,q⟩; all_goals simp
 | bl a =>
  cases rx
  cases h2 with
  | non=>cases ry; rw[Dq] at q; exact SeqAt.RcNeAt.bool_none a _ _ _ _ ⟨.bl _,H,I,rfl,q⟩; all_goals simp
  | bl b=>cases ry; rw[Dq] at q; exact SeqAt.RcNeAt.bool_bool a b _ _ _ _ ⟨.bl _,H,I,rfl,q⟩
  | int b=>obtain ⟨t,rfl⟩:=ry; rw[Dq] at q; exact SeqAt.RcNeAt.bool_int a b t _ _ _ _ ⟨.bl _,H,I,rfl,q⟩
  | str b=>obtain ⟨t,rfl⟩:=ry; rw[Dq] at q; exact SeqAt.RcNeAt.bool_str a b t _ _ _ _ ⟨.bl _,H,I,rfl,q⟩; all_goals simp
  | @lst b ys es q2 rr2=>cases ry; obtain ⟨vs,r2,p2,_⟩:=I.list q2; rw[Dq] at q; exact SeqAt.RcNeAt.bool_list a p2.isList hu' _ _ _ _ ⟨.bl _,H,I,rfl,q⟩; all_goals simp
  | @tup b ys es q2 rr2=>cases ry; obtain ⟨vs,r2,p2,_⟩:=I.tuple q2; rw[Dq] at q; exact SeqAt.RcNeAt.bool_tuple a p2 hu' _ _ _ _ ⟨.bl _,H,I,rfl,q⟩; all_goals simp
 | int a =>
  obtain ⟨t',rfl⟩:=rx
  cases h2 with
  | non=>cases ry; rw[Dq] at q; exact SeqAt.RcNeAt.int_none a t' _ _ _ _ ⟨.bl _,H,I,rfl,q⟩; all_goals simp
  | bl b=>cases ry; rw[Dq] at q; exact SeqAt.RcNeAt.int_bool a t' b _ _ _ _ ⟨.bl _,H,I,rfl,q⟩
  | int b=>obtain ⟨t,rfl⟩:=ry; rw[Dq] at q; exact SeqAt.RcNeAt.int_int a t' b t _ _ _ _ ⟨.bl _,H,I,rfl,q⟩
  | str b=>obtain ⟨t,rfl⟩:=ry; rw[Dq] at q; exact SeqAt.RcNeAt.int_str a t' b t _ _ _ _ ⟨.bl _,H,I,rfl,q⟩; all_goals simp
  | @lst b ys es q2 rr2=>cases ry; obtain ⟨vs,r2,p2,_⟩:=I.list q2; rw[Dq] at q; exact SeqAt.RcNeAt.int_list a t' p2.isList hu' _ _ _ _ ⟨.bl _,H,I,rfl,q⟩; all_goals simp
  | @tup b ys es q2 rr2=>cases ry; obtain ⟨vs,r2,p2,_⟩:=I.tuple q2; rw[Dq] at q; exact SeqAt.RcNeAt.int_tuple a t' p2 hu' _ _ _ _ ⟨.bl _,H,I,rfl,q⟩; all_goals simp
 | str a =>
  obtain ⟨t',rfl⟩:=rx
  cases h2 with
  | non=>cases ry; rw[Dq] at q; exact SeqAt.RcNeAt.str_none a t' _ _ _ _ ⟨.bl _,H,I,rfl,q⟩; all_goals simp
  | bl b=>cases ry; rw[Dq] at q; exact SeqAt.RcNeAt.str_bool a t' b _ _ _ _ ⟨.bl _,H,I,rfl,q⟩; all_goals simp
  | int b=>obtain ⟨t,rfl⟩:=ry; rw[Dq] at q; exact SeqAt.RcNeAt.str_int a t' b t _ _ _ _ ⟨.bl _,H,I,rfl,q⟩; all_goals simp
  | str b=>obtain ⟨t,rfl⟩:=ry; rw[Dq] at q; exact SeqAt.RcNeAt.str_str a t' b t _ _ _ _ ⟨.bl _,H,I,rfl,q⟩
  | @lst b ys es q2 rr2=>cases ry; obtain ⟨vs,r2,p2,_⟩:=I.list q2; rw[Dq] at q; exact SeqAt.RcNeAt.str_list a t' p2.isList hu' _ _ _ _ ⟨.bl _,H,I,rfl,q⟩; all_goals simp
  | @tup b ys es q2 rr2=>cases ry; obtain ⟨vs,r2,p2,_⟩:=I.tuple q2; rw[Dq] at q; exact SeqAt.RcNeAt.str_tuple a t' p2 hu' _ _ _ _ ⟨.bl _,H,I,rfl,q⟩; all_goals simp
 | @lst a xs ds qa r =>
  cases rx
  obtain ⟨us,r1,p,_⟩:=I.list qa
  cases h2 with
  | non=>cases ry; rw[Dq] at q; exact SeqAt.RcNeAt.list_none p.isList hu' _ _ _ _ ⟨.bl _,H,I,rfl,q⟩; all_goals simp
  | bl b=>cases ry; rw[Dq] at q; exact SeqAt.RcNeAt.list_bool b p.isList hu' _ _ _ _ ⟨.bl _,H,I,rfl,q⟩; all_goals simp
  | int b=>obtain ⟨t,rfl⟩:=ry; rw[Dq] at q; exact SeqAt.RcNeAt.list_int b t p.isList hu' _ _ _ _ ⟨.bl _,H,I,rfl,q⟩; all_goals simp
  | str b=>obtain ⟨t,rfl⟩:=ry; rw[Dq] at q; exact SeqAt.RcNeAt.list_str b t p.isList hu' _ _ _ _ ⟨.bl _,H,I,rfl,q⟩; all_goals simp
  | @lst b ys es q2 rr2=>cases ry; obtain ⟨vs,r2,p2,_⟩:=I.list q2; rw[Dq] at q; exact oF p p2 (r1.length.symm.trans r.length) (r2.length.symm.trans rr2.length) hu' (λj h1 h2=>Pj I r rr2 r1 r2 (Vg (by simp only[Dd] at hd; omega)) j h1 h2) _ _ _ _ ⟨.bl _,H,I,rfl,q⟩
  | @tup b ys es q2 rr2=>cases ry; obtain ⟨vs,r2,p2,_⟩:=I.tuple q2; rw[Dq] at q; exact SeqAt.RcNeAt.list_tuple p.isList p2 hu' _ _ _ _ ⟨.bl _,H,I,rfl,q⟩; all_goals simp
 | @tup a xs ds qa r =>
  cases rx
  obtain ⟨us,r1,p,_⟩:=I.tuple qa
  cases h2 with
  | non=>cases ry; rw[Dq] at q; exact SeqAt.RcNeAt.tuple_none p hu' _ _ _ _ ⟨.bl _,H,I,rfl,q⟩; all_goals simp
  | bl b=>cases ry; rw[Dq] at q; exact SeqAt.RcNeAt.tuple_bool b p hu' _ _ _ _ ⟨.bl _,H,I,rfl,q⟩; all_goals simp
  | int b=>obtain ⟨t,rfl⟩:=ry; rw[Dq] at q; exact SeqAt.RcNeAt.tuple_int b t p hu' _ _ _ _ ⟨.bl _,H,I,rfl,q⟩; all_goals simp
  | str b=>obtain ⟨t,rfl⟩:=ry; rw[Dq] at q; exact SeqAt.RcNeAt.tuple_str b t p hu' _ _ _ _ ⟨.bl _,H,I,rfl,q⟩; all_goals simp
  | @lst b ys es q2 rr2=>cases ry; obtain ⟨vs,r2,p2,_⟩:=I.list q2; rw[Dq] at q; exact SeqAt.RcNeAt.tuple_list p p2.isList hu' _ _ _ _ ⟨.bl _,H,I,rfl,q⟩; all_goals simp
  | @tup b ys es q2 rr2=>cases ry; obtain ⟨vs,r2,p2,_⟩:=I.tuple q2; rw[Dq] at q; exact iA p p2 (r1.length.symm.trans r.length) (r2.length.symm.trans rr2.length) hu' (λj h1 h2=>Pj I r rr2 r1 r2 (Vg (by simp only[Dd] at hd; omega)) j h1 h2) _ _ _ _ ⟨.bl _,H,I,rfl,q⟩
theorem qW{z z':V}{v:Value}(h:RelV z v)(h':RelV z' v):z=z':=by
 cases z <;> cases z' <;> simp only[L2.RelV] at h h' <;> first | rfl | (subst h; cases h'; rfl) | (subst h; cases h'; done) | (obtain ⟨t,rfl⟩:=h; obtain ⟨t',e⟩:=h'; cases e; rfl) | (obtain ⟨t,rfl⟩:=h; obtain ⟨t',e⟩:=h'; cases e; done) | (obtain ⟨t,rfl⟩:=h; cases h'; done) | (subst h; obtain ⟨t',e⟩:=h'; cases e)
open Classical in
noncomputable def Kj(K:PySem.W.Frag)(H:Hp)(d:Ac)(v:Value):Bool:=if h:∃e z,RdV K H z e/\RelV z v then Dq h.choose d else false
theorem Yu{pins:List (Addr×Obj)}{σ:L2.St}{H:Hp}{s:Al}(I:Inv X pins σ H s){d e:Ac}{z:V}{v:Value}(h:RdV X.K H z e)(r:RelV z v):Kj X.K H d v=Dq e d:=by
 unfold Kj
 have hx:∃e z,RdV X.K H z e/\RelV z v:=⟨e,z,h,r⟩
 rw[dif_pos hx]
 obtain ⟨z',h',r'⟩:=hx.choose_spec
 have ez:=qW r' r
 subst ez
 rw[RdV.det I h' h]
theorem Oe{pins:List (Addr×Obj)}{σ:L2.St}{H:Hp}{s:Al}(I:Inv X pins σ H s){d:Ac}:∀{xs:List V} {ds:List Ac} {us:List Value},RdVs X.K H xs ds->Fi xs us->us.any (Kj X.K H d)=ds.any λe=>Dq e d
 | _,_,_,.nil,r=>by cases r; rfl
 | _,_,_,.cons h t,r=>by
  cases r with
  | cons r1 r2=>rw[List.any_cons,List.any_cons,Yu I h r1,Oe I t r2]
theorem Mc{pins:List (Addr×Obj)}{σ:L2.St}{H:Hp}{s:Al}(I:Inv X pins σ H s){A:Cr}{x:V}{d:Ac}{u:Value}(hx:RdV X.K H x d)(rx:RelV x u):∀{xs:List V} {ds:List Ac} {us:List Value},RdVs X.K H xs ds->Fi xs us->A.units+Bh ds<cLine->∀v∈us,Lh A s v u (Kj X.K H d v)
 | _,_,_,.nil,r,_=>λv hv=>by cases r; cases hv
 | _,_,_,@RdVs.cons _ _ y e ys es h t,r,hu=>λv hv=>by
  have hm:A.units+e.depth<cLine/\A.units+Bh es<cLine:=by
   simp only[Bh] at hu
   omega
  cases r with
  | cons r1 r2 =>
   rcases Az.mp hv with rfl | hv
   ·rw[Yu I h r1]; exact rO I h hx r1 rx hm.1
   ·exact Mc I hx rx t r2 hm.2 v hv
def B8(K:PySem.W.Frag)(neg:Bool):R2:=λx y H Q=>∃p xs d ds,y=.ref p/\(Pu K H p xs\/Se K H p xs)/\RdV K H x d/\RdVs K H xs ds/\Bh ds<=60/\Q (.bl (if neg then !(ds.any λe=>Dq e d) else ds.any λe=>Dq e d)) H
theorem zI(hu:X.A.units+64<cLine):Tn X (Fo .In) (B8 X.K false):=by
 intro pins s σ H x y v u Q I rx ry h
 obtain ⟨p,xs,d,ds,rfl,hq,hx,hs,hd,q⟩:=h
 cases ry
 have hu1:X.A.in1.units+Bh ds<cLine:=by have:=Rm X.A; omega
 rcases hq with hq | hq
 ·obtain ⟨its,r,pl,hz⟩:=I.list hq
  refine SeqAt.in_listAt (Kj X.K H d) pl.isList (λw hw=>Mc I hx rx hs r hu1 w (by simpa using hw)) ⟨.bl _,H,I,rfl,?_⟩
  rw[show its.toArray.any (Kj X.K H d)=its.any (Kj X.K H d) by simp,Oe I hs r]
  exact q
 ·obtain ⟨its,r,pl,hz⟩:=I.tuple hq
  refine SeqAt.in_tupleAt (Kj X.K H d) pl (λw hw=>Mc I hx rx hs r hu1 w (by simpa using hw)) ⟨.bl _,H,I,rfl,?_⟩
  rw[show its.toArray.any (Kj X.K H d)=its.any (Kj X.K H d) by simp,Oe I hs r]
  exact q
theorem nR(hu:X.A.units+64<cLine):Tn X (Fo .NotIn) (B8 X.K true):=by
 intro pins s σ H x y v u Q I rx ry h
 obtain ⟨p,xs,d,ds,rfl,hq,hx,hs,hd,q⟩:=h
 cases ry
 have hu1:X.A.in1.units+Bh ds<cLine:=by have:=Rm X.A; omega
 rcases hq with hq | hq
 ·obtain ⟨its,r,pl,hz⟩:=I.list hq
  refine SeqAt.notIn_listAt (Kj X.K H d) pl.isList (λw hw=>Mc I hx rx hs r hu1 w (by simpa using hw)) ⟨.bl _,H,I,rfl,?_⟩
  rw[show its.toArray.any (Kj X.K H d)=its.any (Kj X.K H d) by simp,Oe I hs r]
  exact q
 ·obtain ⟨its,r,pl,hz⟩:=I.tuple hq
  refine SeqAt.notIn_tupleAt (Kj X.K H d) pl (λw hw=>Mc I hx rx hs r hu1 w (by simpa using hw)) ⟨.bl _,H,I,rfl,?_⟩
  rw[show its.toArray.any (Kj X.K H d)=its.any (Kj X.K H d) by simp,Oe I hs r]
  exact q
end
def W0(K:PySem.W.Frag)(a:Addr):It :=
 ⟨λi H=>∃xs x,Pu K H a xs/\xs[i]? = some x,λi H x H'=>∃p y,x=.ref p/\H p=none/\H'=upd H p (.tup [.int i,y])/\∀xs,Pu K H a xs->xs[i]? = some y,λi H=>∃xs,Pu K H a xs/\xs.length<=i⟩
section
variable{X:Cx}{pins:List (Addr×Obj)}{σ:L2.St}{H:Hp}{s:Al}{h':Heap}
theorem dG{t':Nat}{fp:List Addr}(I:Inv X pins σ H s)(k:∀b o,b∉fp->s.heap.get? b=some o->h'.get? b=some o)(hf:∀b∈fp,On X pins H b):Inv X pins σ H { s with heap:=h',toks:=t' }:=by
 have nit:∀b u,H b=some u->b∉fp:=λb u e z=>by rw[(hf b z).1] at e; cases e
 refine I.step (g':=s.gens) (d':=s.drawn) (ch:=fp) (λb hb=>?_) (λb o _ _ hc e _=>k b o hc e) (λb o _ _ hc e _=>⟨o.slots,k b o hc e⟩) (λ_ _ _ _ n=>n)
  (λb o hc e=>⟨o,k b o hc e⟩) (λ_ _ e=>e) (λ_ _ _ e=>e) (λb ps e=>⟨#[],by rw[e]; simp⟩) (λm hm=>?_) (λb u e=>?_) I.bare
 ·obtain ⟨_,f1,_,f3,f4,f5⟩:=hf b hb
  exact ⟨f3,f1,f4,f5⟩
 ·obtain ⟨o,es,ep,ho,r⟩:=hm
  exact ⟨o,es,ep,k _ o (λz=>(hf _ z).2.1 rfl) ho,r⟩
 ·refine (I.hok b u e).stay (λc v hc q=>k c v ?_ q) (λ_ q=>q) λ_ _ q=>q
  rcases hc with z | z
  ·rw[z]; exact nit b u e
  ·exact nit c _ z
end
theorem nX{P:Bp}{w:World}{K:PySem.W.Frag}{elts:List Expr}{k:Nat}{pos:Pos}(a e it:Addr)(ne:e≠it):Turn P w K (.Tuple elts k pos) (W0 K a) [e,it] e (λi h=>(∃old,IsEnum h e it ((i:Nat):Int) old)/\h.IsListIter it a i) where
 mem:=Ab
 obj:=λi h st b hb=>by
  obtain ⟨⟨old,he⟩,o,e1,c,d⟩:=st
  rcases Az.mp hb with z | z
  ·subst z
   exact ⟨_,he,λv z=>by cases z⟩
  ·rw[Am.mp z]
   exact ⟨o,e1,λv z=>by rw[d] at z; cases z⟩
 keep:=λi h h' st kp=>⟨let ⟨old,he⟩:=st.1; ⟨old,kp e Ab _ he⟩,st.2.at λo q=>kp it (Ak _ Ab) o q⟩
 item:=by
  intro X hP hw hK hc i pins s σ H E I hf st hg
  subst hP hw hK
  obtain ⟨xs,x,hq,hx⟩:=hg
  obtain ⟨its,rv,p,hz⟩:=I.list hq
  obtain ⟨u,hu,ru⟩:=rv.get hx
  obtain ⟨⟨old,he⟩,hit⟩:=st
  have el:e<s.heap.objs.size:=Bf he
  have il:it<s.heap.objs.size:=by obtain ⟨_,q,_⟩:=hit; exact Bf q
  refine wpAny_pyNext_enum_item he hit p.isList (x:=u) (by simpa using hu) ne λh1 ho hit1 hT hsz hk=>⟨_,rfl,wpAny_letOwnedTupleGo_enum ho λh2 he2 hs2=>?_⟩
  have hs2':Wy e h1 h2:=hs2
  -- the pair laid,then the iterators turned
  have I1:Inv X pins σ (upd H s.heap.objs.size (.tup [.int i,x])) { s with heap:=s.heap.push { cls:=.type "tuple",data:=.seq #[.int i s.toks,u] } } :=
   I.laid (t':=s.toks) (λb o q=>Aj _ q) (Ap _) ⟨by show 2<=Be; decide,[.int i s.toks,u],.cons ⟨_,rfl⟩ (.cons ru .nil),_,Bn _ rfl,rfl,0,rfl⟩
  have nT:∀b∈[e,it],b≠s.heap.objs.size:=λb hb=>by
   rcases Az.mp hb with z | z
   ·rw[z]; exact Cq el
   ·rw[Am.mp z]; exact Cq il
  have fr:∀b∈[e,it],(upd H s.heap.objs.size (.tup [.int i,x])) b=none:=λb hb=>by rw[Ee (nT b hb)]; exact (hf b hb).1
  refine ⟨.ref s.heap.objs.size,_,dG (fp:=[e,it]) (s:={ s with heap:=s.heap.push { cls:=.type "tuple",data:=.seq #[.int i s.toks,u] } }) (h':=h2) (t':=s.toks+1) I1 (λb o hb q=>?_) (λb hb=>⟨fr b hb,(hf b hb).2⟩),rfl,⟨_,x,rfl,I.hok.fresh (Ap _),rfl,λys hy=>by rw[I.list_inj hy hq]; exact hx⟩,⟨⟨u,?_⟩,?_⟩,fr⟩
  ·have nbe:b≠e:=λz=>hb (by rw[z]; exact Ab)
   have nbi:b≠it:=λz=>hb (by rw[z]; exact Ak _ Ab)
   refine (hs2'.2 b nbe).trans ?_
   by_cases hbT:b=s.heap.objs.size
   ·subst hbT
    have q':=(Bn s.heap (o:={ cls:=.type "tuple",data:=.seq #[.int i s.toks,u] }) rfl).symm.trans q
    rw[hT]
    exact q'
   ·refine hk b o nbe nbi ?_
    have q0:(s.heap.push { cls:=.type "tuple",data:=.seq #[.int i s.toks,u] }).get? b=some o:=q
    rcases Heap.get?_push_cases q0 with z | z
    ·exact absurd z.1 hbT
    ·exact z
  ·have : ((i+1:Nat):Int)=(i:Int)+1:=by omega
   rw[this]
   exact he2
  ·exact hit1.at λo q=>(hs2'.2 it (Ny ne)).trans q
 done:=by
  intro X hP hw hK hc i pins s σ H E I hf st hg
  subst hP hw hK
  obtain ⟨xs,hq,hx⟩:=hg
  obtain ⟨its,rv,p,hz⟩:=I.list hq
  obtain ⟨⟨old,he⟩,hit⟩:=st
  have hl:=rv.length
  exact wpAny_pyNext_enum_end (I.ok.hd hc) he hit p.isList (by simp; omega) λh1 eb=>⟨rfl,dG (fp:=[e,it]) (t':=s.toks) I (λb o hb q=>eb b o (λz=>hb (by rw[z]; exact Ak _ Ab)) q) hf⟩
 self:=λ_ _ _ _ _ st h=>let ⟨_,he⟩:=st.1; wpAny_pyIter_enum he h
section
variable{X:Cx}
def N0(K:PySem.W.Frag)(ta:TA):TI:=λσ H R=>ta σ H λvs H1=>∃a,vs=[.ref a]/\(∃xs,Pu K H1 a xs)/\R (W0 K a) H1
theorem xO{elts:List Expr}{k:Nat}{tp:Pos}{a:Expr}{ta:TA}{p pos:Pos}(hg:Gl X "enumerate")(hm:X.mg "enumerate" = none)(ha:PA X [a] ta)(hs:Bs [a] X.env=[(false,eval a X.env)]:=by rfl):PI X (.Tuple elts k tp) (.Call (.Name "enumerate" p) [a] [] pos) (N0 X.K ta):=by
 intro pins s σ H R I h
 refine Call_ (Qq I hg hm (u:=.type "enumerate") (by decide +kernel) (Lf (Jo (ha pos pins s σ H _ I h) λus s1 ⟨vs,H1,I1,r1,q1⟩=>?_) hs rfl))
 obtain ⟨l,e,⟨xs,hq⟩,q⟩:=q1
 subst e
 obtain ⟨u,rfl,ru⟩:=vals1 r1
 cases ru
 obtain ⟨its,rv,pl,hz⟩:=I1.list hq
 refine call_enumerate_list pl.isList λh2 he hit hsz hk=>wpAny_pyIter_enum he ?_
 have fr:∀b∈[s1.heap.objs.size+1,s1.heap.objs.size],On X pins H1 b:=λb hb=>by
  rcases Az.mp hb with z | z
  ·rw[z]; exact I1.fpOk (Nat.le_succ _) (I1.hok.fresh (Nat.le_succ _))
  ·rw[Am.mp z]; exact I1.fpOk (Ap _) (I1.hok.fresh (Ap _))
 exact ⟨s1.heap.objs.size+1,[s1.heap.objs.size+1,s1.heap.objs.size],_,_,H1,rfl,I1.kept (t':=s1.toks) hk,nX l _ _ (Nat.succ_ne_self _),⟨⟨_,he⟩,hit⟩,fr,q⟩
end
def iC(Bd:V->Hp->L2.St->Prop)(J:It)(js:List Nat)(tc:TT)(te:TE)(σ:L2.St)(H1:Hp)(Q:VK):Prop:=∀D,H1 D=none->∃W:Nat->Nat->Hp->Prop,(∃m,W 0 m (upd H1 D (.lst [])))/\∀i m H,W i m H ->
 (J.stop i H/\Q (.ref D) H)\/(J.go i H/\∀x H',J.yld i H x H'->∃ws,Bd x H' ws/\∃(N1:Hp->Prop) (N2:VK),(∀H2,N1 H2->∃m',m'<m/\W (i+1) m' H2) /\
  (∀y H3,N2 y H3->∃acc,H3 D=some (.lst acc)/\acc.length<Be/\∃m',m'<m/\W (i+1) m' (upd H3 D (.lst (acc++[y])))) /\
  tc (ws++Hj σ js) H' λc H2=>if c=true then te (ws++Hj σ js) H2 N2 else N1 H2)
section
variable{X:Cx}{pins:List (Addr×Obj)}{σ:L2.St}{H:Hp}{s:Al}{elt iter tg:Expr}{ifs:List Expr}{scope:Scope}{cl:List (Str×Addr)}{x:Str}{ys:List Str}{js:List Nat}{tc:TT}{te:TE}
theorem Ve{pre:List Str}{pos p2:Pos}{use:Option (Value->Sem Unit)}{Qf:Value->Al->Prop}{Bd:V->Hp->L2.St->Prop}{Qc:VK}{g:TG}{R:It->Hp->Prop}(C:CompScope X scope cl x ys js)(hc:X.calm=true)(ht:∀fp s H,kO (Eo X scope cl (pre++ys) fp s H) ifs tc)(he:∀fp s H,PE (Eo X scope cl (pre++ys) fp s H) elt te)(hg:∀fp s H,PG (Eo X scope cl (pre++ys) fp s H) tg g)(hb:∀(o ws:L2.St) (y:V) (H:Hp),o.length=pre.length->Bd y H ws->ws.length=pre.length/\g y (o++Hj σ js) H λσ' H'=>σ'=ws++Hj σ js/\H'=H)(hs:∀x,Et iter X.env x=pure x)(hR:∀J H1,R J H1->iC Bd J js tc te σ H1 Qc)(hi:wpAny (model X.prog X.w) X.A (eval iter X.env) (λv s1=>wpAny (model X.prog X.w) X.A (pyIter v) (V3 X pins σ tg R) X.xe s1) X.xe s)(hend:∀(X':Cx) (s3 s7:Al) (H3 H6:Hp) (fp:List Addr) (D:Addr) (σ':L2.St),Eo X scope cl (pre++ys) fp s3 H3=X'->Inv X pins σ H3 s3->(∀b∈fp,On X pins H3 b)->Inv X' [] σ' H6 s7->Qc (.ref D) H6->compPost (model X.prog X.w) X.A X.xe use Qf (.ref D) s3.heap.objs.size (.ok .next) s7):wpAny (model X.prog X.w) X.A (comprehension (.ListComp elt [⟨tg,iter,ifs,0⟩] scope pos) scope X.env p2 (newList []) false (eval iter X.env) use) Qf X.xe s:=by
 refine wpAny_comprehension_free (use:=use) rfl hs C.clos C.kind C.locs (Jo hi λv s1 h1=>Jo h1 λitv s2 h2=>?_)
 obtain ⟨it,fp,tn,J,H2,e,I2,T,st2,f2,q2⟩:=h2
 subst e
 have fD:H2 s2.heap.objs.size=none:=I2.hok.fresh (Ap _)
 obtain ⟨W,⟨m0,w0⟩,turn⟩:=hR _ _ q2 s2.heap.objs.size fD
 refine Hb ?_
 have I3:Inv X pins σ (upd H2 s2.heap.objs.size (.lst [])) { s2 with heap:=s2.heap.push { cls:=.type "list",dict:=none,data:=.seq ([]:List Value).toArray } } :=
  I2.laid (t':=s2.toks) (λb u q=>Aj _ q) (Ap _) ⟨Ei _,[],0,.nil,Bn _ rfl⟩
 obtain ⟨f3,st3',o3'⟩:=qB I2 T st2 f2 I3
 generalize hS3:({ s2 with heap:=s2.heap.push { cls:=.type "list",dict:=none,data:=.seq ([]:List Value).toArray } }:Al)=s3 at I3
 have Tc:tn 0 s3.heap:=by rw[<- hS3]; exact st3'
 have o3:∀b∈fp,∃o,s3.heap.get? b=some o:=by rw[<- hS3]; exact o3'
 show wpAny _ _ (newFunctionEnv scope X.env.globals cl [] X.env.qual none .none (some X.env)) _ _ _
 refine mE C λh4 hns4 keep4 new4=>?_
 have I4:∀tk,Inv (Eo X scope cl (pre++ys) fp s3 (upd H2 s2.heap.objs.size (.lst []))) [] (pre.map (λ_=>none)++Hj σ js) (upd H2 s2.heap.objs.size (.lst [])) { s3 with heap:=h4,toks:=tk }:=λtk=>gX (pre:=pre) C I3 f3 o3 hns4 keep4 new4
 have st4:tn 0 h4:=T.keep 0 _ _ Tc λb hb o q=>keep4 b o q
 generalize hX':Eo X scope cl (pre++ys) fp s3 (upd H2 s2.heap.objs.size (.lst []))=X' at I4
 obtain ⟨eP,eW,eK,eA,eC⟩:=tU hc hX'
 have stat:∀{H':Hp},(∀b∈fp,H' b=none)->∀b∈fp,On X' [] H' b:=λ{H'} hn=>mY hX' (I4 0) hn
 have loop:∀s5:Al,s5={ s3 with heap:=h4,toks:=s3.toks+([]:List (Str×Value)).length } ->
   Tq (model X.prog X.w) X.A (.compLoop (.ListComp elt [⟨tg,iter,ifs,0⟩] scope pos) 0 (.ref it) (.ref s2.heap.objs.size) (compEnvC scope (Eu (s3.heap.objs.size+1) scope.names cl) s3.heap.objs.size X.env))
    (compPost (model X.prog X.w) X.A X.xe use Qf (.ref s2.heap.objs.size) s3.heap.objs.size) s5:=by
  rintro s5 rfl
  refine iJ (λn s'=>∃(i:Nat) (o:L2.St) (H':Hp),o.length=pre.length/\Inv X' [] (o++Hj σ js) H' s'/\tn i s'.heap/\(∀b∈fp,H' b=none)/\W i n H') ?_ m0
   ⟨0,_,_,Aa ..,I4 _,st4,λb hb=>(f3 b hb).1,w0⟩
  (intro n s6 q_; obtain ⟨i,o,H6,lo,I6,st6,fr6,w6⟩ := q_)
  rcases turn i n H6 w6 with ⟨stop,qn⟩ | ⟨go,step⟩
  ·have hd:=T.done X' eP eW eK eC i [] s6 _ H6 (λ_ _=>False) I6 (stat fr6) st6 stop
   rw[eA] at hd
   refine Jo hd λr s7 q0_ => ?_
   obtain ⟨hr,I7⟩ := q0_
   subst hr
   exact hend _ _ _ _ _ _ _ _ hX' I3 f3 I7 qn
  ·have hit:=T.item X' eP eW eK eC i [] s6 _ H6 (λ_ _=>False) I6 (stat fr6) st6 go
   rw[eA] at hit
   refine Jo hit λr s7 q0_ => ?_
   obtain ⟨u,hr,h7⟩ := q0_
   subst hr
   refine Jo h7 λ_ s8 q0_ => ?_
   obtain ⟨y,H8,I8,r8,y8,st8,fr8⟩ := q0_
   have I8':=I8.pinned (stat fr8) (T.obj _ _ st8)
   obtain ⟨ws,hbd,N1,N2,hN1,hN2,hst⟩:=step y H8 y8
   obtain ⟨lw,hgo⟩:=hb o ws y H8 lo hbd
   have again:∀{H9:Hp} {s9:Al} {m':Nat},Inv X' ([]++Xw fp s8.heap) (ws++Hj σ js) H9 s9->m'<n->W (i+1) m' H9->∃m,m<n/\∃(i:Nat) (o:L2.St) (H':Hp),o.length=pre.length/\Inv X' [] (o++Hj σ js) H' s9/\tn i s9.heap/\(∀b∈fp,H' b=none)/\W i m H':=λ{H9 s9 m'} I9 hm w9=>by
    refine ⟨m',hm,i+1,ws,H9,lw,I9.unpinned,T.keep _ _ _ st8 λb hb o e=>(I9.pin (b,o) (Av _ (Av _ (Ph hb e)))).1,λb hb=>?_,w9⟩
    obtain ⟨o,e,_⟩:=T.obj _ _ st8 b hb
    exact (I9.pin (b,o) (Av _ (Av _ (Ph hb e)))).2.1
   subst hX'
   refine Jo (hg _ _ _ _ s8 _ H8 y u _ I8' r8 hgo) λ_ s9 q0_ => ?_
   obtain ⟨σ9,H9,I9,e9,e9'⟩ := q0_
   subst e9 e9'
   refine Jo (ht fp s3 _ _ s9 _ _ _ I9 hst) λok s10 q0_ => ?_
   obtain ⟨H10,I10,q10⟩ := q0_
   cases ok with
   | false =>
    rw[if_neg Ce] at q10 ⊢
    obtain ⟨m',hm,w10⟩:=hN1 _ q10
    exact again I10 hm w10
   | true =>
    rw[if_pos rfl] at q10 ⊢
    refine Jo (he fp s3 _ _ s10 _ _ _ I10 q10) λz s11 q0_ => ?_
    obtain ⟨vz,H11,I11,r11,q11⟩ := q0_
    obtain ⟨acc,ha,hz,m',hm,w11⟩:=hN2 _ _ q11
    refine Jo (bA _ s11 _ H11 (.ref s2.heap.objs.size) [vz] (.ref s2.heap.objs.size) [z] (λ_ H'=>H'=upd H11 s2.heap.objs.size (.lst (acc++[vz]))) I11 rfl (.cons r11 .nil) ⟨_,acc,vz,rfl,rfl,ha,hz,rfl⟩) λ_ s12 q0_ => ?_
    obtain ⟨_,H12,I12,_,e12⟩ := q0_
    subst e12
    exact again I12 hm w11
 exact codeAny_compStart_list (loop _ rfl) (T.self X.A 0 _ _ _ st4 (loop _ rfl))
theorem gE{Q:VK}{N:List Str}(X':Cx)(s3 s7:Al)(H3 H6:Hp)(fp:List Addr)(D:Addr)(σ':L2.St)(hX':Eo X scope cl N fp s3 H3=X')(I3:Inv X pins σ H3 s3)(f3:∀b∈fp,On X pins H3 b)(I7:Inv X' [] σ' H6 s7)(q:Q (.ref D) H6):compPost (model X.prog X.w) X.A X.xe none (EP X pins σ Q) (.ref D) s3.heap.objs.size (.ok .next) s7:=by
 obtain ⟨m7,hn7,fin7⟩:=iL hX' I3 f3 I7
 exact ⟨m7,hn7,λh8 hs8=>⟨.ref D,H6,fin7 h8 hs8,rfl,q⟩⟩
theorem sW{De:Ends}{N:List Str}{i0:Nat}{y0:Str}{py:Pos}(hN:X.N.Nodup)(hi0:X.N[i0]? = some y0)(hy0:X.env.scope.names.lookup y0=some .local)(X':Cx)(s3 s7:Al)(H3 H6:Hp)(fp:List Addr)(D:Addr)(σ':L2.St)(hX':Eo X scope cl N fp s3 H3=X')(I3:Inv X pins σ H3 s3)(f3:∀b∈fp,On X pins H3 b)(I7:Inv X' [] σ' H6 s7)(qn:De.nx (σ.set i0 (some (.ref D))) H6):compPost (model X.prog X.w) X.A X.xe (some (Wm (.Name y0 py) X.env)) (λ_ s'=>SP X pins De .next s') (.ref D) s3.heap.objs.size (.ok .next) s7:=by
 obtain ⟨⟨m7,hn7'⟩,I7f,J7⟩:=oI hX' I3 f3 I7
 have fC:On X pins H6 s3.heap.objs.size:=I3.fpOk (Ap _) I7f
 obtain ⟨oC,esC,epC,hoC,rC⟩:=id hn7'
 have J8:Inv X (pins++[(s3.heap.objs.size,oC)]) σ H6 s7:=J7.pins_of λp hp=>by
  rcases Bi.mp hp with z | z
  ·have q:=J7.pin p (Av _ z)
   exact q
  ·rw[Am.mp z]
   exact ⟨hoC,I7f,fC.2.1,fC.2.2.1,λv hv=>by rw[rC.1] at hv; cases hv⟩
 refine Jo (Rw (X:=X) (i:=i0) (x:=y0) (pos:=py) hN hi0 (.inl hy0) (.inr hy0) (pins++[(s3.heap.objs.size,oC)]) s7 σ H6 (.ref D) (.ref D) (λσ' H'=>σ'=σ.set i0 (some (.ref D))/\H'=H6) J8 rfl ⟨rfl,rfl⟩) λ_ s9 q0_ => ?_
 obtain ⟨σ9,H9,I9,e9,e9'⟩ := q0_
 subst e9 e9'
 have hoC9:=(I9.pin (s3.heap.objs.size,oC) (Av _ (Av _ Ab))).1
 have I9':Inv X pins (σ.set i0 (some (.ref D))) H9 s9:=I9.pins_of λp hp=>I9.pin p (Av _ (Au _ hp))
 refine ⟨m7,hn7'.at λo e=>by rw[hoC] at e; cases e; exact hoC9,λh10 hs10=>?_⟩
 exact ⟨_,H9,dG (t':=s9.toks) (fp:=[s3.heap.objs.size]) I9' (λb o hb e=>(hs10.2 b (λz=>hb (by rw[z]; exact Ab))).trans e) (λb hb=>by rw[Am.mp hb]; exact fC),qn⟩
def b1:V->Hp->L2.St->Prop:=λx _ ws=>ws=[some x]
def b2(K:PySem.W.Frag):V->Hp->L2.St->Prop:=λx H ws=>∃(t:Addr) (w1 w2:V),x=.ref t/\Se K H t [w1,w2]/\ws=[some w1,some w2]
theorem yC{J:It}{H1:Hp}{Q:VK}(q:yG J js tc te σ H1 Q):iC b1 J js tc te σ H1 Q:=λD nD=>by
 obtain ⟨W,w0,t⟩:=q D nD
 exact ⟨W,w0,λi m H w=>(t i m H w).imp id λ⟨go,st⟩=>⟨go,λx H' y=>⟨_,rfl,st x H' y⟩⟩⟩
def rK(K:PySem.W.Frag)(J:It)(js:List Nat)(tc:TT)(te:TE)(σ:L2.St)(H1:Hp)(Q:VK):Prop:=∀D,H1 D=none->∃W:Nat->Nat->Hp->Prop,(∃m,W 0 m (upd H1 D (.lst [])))/\∀i m H,W i m H ->
 (J.stop i H/\Q (.ref D) H)\/(J.go i H/\∀x H',J.yld i H x H'->∃(t:Addr) (w1 w2:V),x=.ref t/\Se K H' t [w1,w2]/\∃(N1:Hp->Prop) (N2:VK),(∀H2,N1 H2->∃m',m'<m/\W (i+1) m' H2) /\
  (∀y H3,N2 y H3->∃acc,H3 D=some (.lst acc)/\acc.length<Be/\∃m',m'<m/\W (i+1) m' (upd H3 D (.lst (acc++[y])))) /\
  tc (some w1::some w2::Hj σ js) H' λc H2=>if c=true then te (some w1::some w2::Hj σ js) H2 N2 else N1 H2)
def qT(K:PySem.W.Frag)(wi:TI)(js:List Nat)(tc:TT)(te:TE):TE:=λσ H Q=>wi σ H λJ H1=>rK K J js tc te σ H1 Q
theorem F5{J:It}{H1:Hp}{Q:VK}(q:rK X.K J js tc te σ H1 Q):iC (b2 X.K) J js tc te σ H1 Q:=λD nD=>by
 obtain ⟨W,w0,t⟩:=q D nD
 refine ⟨W,w0,λi m H w=>(t i m H w).imp id λ⟨go,st⟩=>⟨go,λx H' y=>?_⟩⟩
 obtain ⟨t,w1,w2,e,q,r⟩:=st x H' y
 exact ⟨_,⟨t,w1,w2,e,q,rfl⟩,r⟩
theorem yY(o ws:L2.St)(y:V)(H:Hp)(lo:o.length=1)(h:b1 y H ws):ws.length=1/\Qv 0 y (o++Hj σ js) H λσ' H'=>σ'=ws++Hj σ js/\H'=H:=by
 unfold b1 at h
 subst h
 match o,lo with
 | [_],_=>exact ⟨rfl,rfl,rfl⟩
theorem L7(o ws:L2.St)(y:V)(H:Hp)(lo:o.length=2)(h:b2 X.K y H ws):ws.length=2/\C2 X.K 2 (fH (Qv 0) (fH (Qv 1) z0)) y (o++Hj σ js) H λσ' H'=>σ'=ws++Hj σ js/\H'=H:=by
 obtain ⟨t,w1,w2,e,q,rfl⟩:=h
 match o,lo with
 | [_,_],_=>exact ⟨rfl,t,[w1,w2],e,q,rfl,_,_,rfl,_,_,rfl,rfl,rfl,rfl⟩
theorem g2{x2:Str}{px px2 pt:Pos}{kt:Nat}(C:CompScope X scope cl x ys js)(own2:mU scope x2)(nd2:(x::x2::ys).Nodup)(hc:X.calm=true)(fp:List Addr)(s:Al)(H:Hp):PG (Eo X scope cl (x::x2::ys) fp s H) (.Tuple [.Name x px,.Name x2 px2] kt pt) (C2 X.K 2 (fH (Qv 0) (fH (Qv 1) z0))) :=
 rG (X:=Eo X scope cl (x::x2::ys) fp s H) hc (Ze (Rw (i:=0) (x:=x) nd2 rfl (Xl C.own) (dE C.own)) (Ze (Rw (i:=1) (x:=x2) nd2 rfl (Xl own2) (dE own2)) kR))
theorem lJ{px pos:Pos}{wi:TI}(C:CompScope X scope cl x ys js)(hc:X.calm=true)(hi:PI X (.Name x px) iter wi)(ht:∀fp s H,kO (Eo X scope cl (x::ys) fp s H) ifs tc)(he:∀fp s H,PE (Eo X scope cl (x::ys) fp s H) elt te)(hs:∀x,Et iter X.env x=pure x:=by intro _; rfl):PE X (.ListComp elt [⟨.Name x px,iter,ifs,0⟩] scope pos) (rU wi js tc te):=by
 intro pins s σ H Q I h
 rw[eval_ListComp]
 exact Ve (pre:=[x]) C hc ht he (λ_ _ _=>Rw (i:=0) C.nd rfl (Xl C.own) (dE C.own)) yY hs (λ_ _=>yC) (hi pins s σ H _ I h) gE
theorem tK{x2:Str}{px px2 pt pos:Pos}{kt:Nat}{wi:TI}(C:CompScope X scope cl x ys js)(own2:mU scope x2)(nd2:(x::x2::ys).Nodup)(hc:X.calm=true)(hi:PI X (.Tuple [.Name x px,.Name x2 px2] kt pt) iter wi)(ht:∀fp s H,kO (Eo X scope cl (x::x2::ys) fp s H) ifs tc)(he:∀fp s H,PE (Eo X scope cl (x::x2::ys) fp s H) elt te)(hs:∀x,Et iter X.env x=pure x:=by intro _; rfl):PE X (.ListComp elt [⟨.Tuple [.Name x px,.Name x2 px2] kt pt,iter,ifs,0⟩] scope pos) (qT X.K wi js tc te):=by
 intro pins s σ H Q I h
 rw[eval_ListComp]
 exact Ve (pre:=[x,x2]) C hc ht he (g2 C own2 nd2 hc) L7 hs (λ_ _=>F5) (hi pins s σ H _ I h) gE
theorem wO{y0:Str}{px py pos spos:Pos}{i0:Nat}{wi:TI}(hN:X.N.Nodup)(hi0:X.N[i0]? = some y0)(hy0:X.env.scope.names.lookup y0=some .local)(C:CompScope X scope cl x ys js)(hc:X.calm=true)(hi:PI X (.Name x px) iter wi)(ht:∀fp s H,kO (Eo X scope cl (x::ys) fp s H) ifs tc)(he:∀fp s H,PE (Eo X scope cl (x::ys) fp s H) elt te)(hs:∀x,Et iter X.env x=pure x:=by intro _; rfl)(hsw:Sq (.ListComp elt [⟨(.Name x px),iter,ifs,0⟩] scope pos) (some (.Name y0 py)) spos.line X.env=pure true:=by rfl):PS X (.Assign [.Name y0 py] (.ListComp elt [⟨(.Name x px),iter,ifs,0⟩] scope pos) spos) (uS (rU wi js tc te) (Qv i0)):=by
 intro pins s σ H De I h
 rw[exec_Assign_Name_used _ _ _ _ hsw]
 refine Ag (wpAny_standAt (Ag ?_))
 exact Ag (m:=comprehension _ scope X.env _ (newList []) false (eval iter X.env) (some (Wm (.Name y0 py) X.env))) (Ez (Ve (pre:=[x]) C hc ht he (λ_ _ _=>Rw (i:=0) C.nd rfl (Xl C.own) (dE C.own)) yY (hR:=λ_ _=>yC) hs (hi pins s σ H _ I h) (sW hN hi0 hy0)) (λ_ s' hq=>Ay (Ay hq)) λ_ _ e=>e)
end
end Nd
namespace Nd
open PySem L2
def yK(K:PySem.W.Frag):R2:=λx y H Q=>∃a b xs ys,x=.ref a/\y=.ref b/\Se K H a xs/\Se K H b ys/\xs.length+ys.length<=Be/\(xs=[]->Q (.ref b) H)/\(ys=[]->Q (.ref a) H)/\(∀p,H p=none->Q (.ref p) (upd H p (.tup (xs++ys))))
open PyProof.Rows in
theorem vC{X:Cx}:Tn X (Hr .Add) (yK X.K):=by
 intro pins s σ H x y v u Q I rx ry h
 obtain ⟨a,b,xs,ys,rfl,rfl,ha,hb,hz,q1,q3,q2⟩:=h
 by_cases hx:xs=[]
 ·cases rx
  cases ry
  obtain ⟨its,r1,p1,_⟩:=I.tuple ha
  obtain ⟨its2,r2,p2,_⟩:=I.tuple hb
  have e1:its=[]:=r1.nil_iff.mpr hx
  subst e1
  obtain ⟨⟨c1,d1,dt1,sl1⟩,g1,k1,n1,e1⟩:=id p1
  obtain ⟨⟨c2,d2,dt2,sl2⟩,g2,k2,n2,e2⟩:=id p2
  simp only at k1 e1 k2 e2
  subst k1 e1 k2 e2
  exact concat_meets ⟨_,g1,rfl⟩ ⟨_,g2,rfl⟩ eD seq_tuple_add PySem.F.slot_tuple_add PySem.F.entry_tuple_add (PySem.F.args_tuple_add_2 _ _)
   (tuple_addW0 a b _ _ n1 n2 d1 d2 sl1 sl2 rfl) ⟨g1,g2,⟨.ref b,H,I,rfl,q1 hx⟩⟩
 ·exact vA pins s σ H (.ref a) (.ref b) v u Q I rx ry ⟨a,b,xs,ys,rfl,rfl,ha,hb,hx,hz,q3,λ_=>q2⟩
end Nd
namespace Nd
open PySem PySem.Spec PyProof.Rows L2
end Nd
namespace Nd
open PySem L2
def Y6(K:PySem.W.Frag):List V->Hp->VK->Prop:=λxs H Q=>∃x n t b,xs=[x,.ty n]/\TyOf K H x t/\PySem.W.kitOne K t (.type n)=some b/\Q (.bl b) H
theorem jN{X:Cx}:Ld X (.builtin "isinstance") (Y6 X.K):=fU
theorem u0{K:PySem.W.Frag}{T:String}:PySem.W.kitOne K (.type T) (.type T)=some true:=by
 unfold PySem.W.kitOne
 rw[if_pos (by simp)]
theorem sz{n:Nat}(h:n<=1000:=by first | decide | simp | (simp; omega)):n<=Be:=Lb (mM h)
end Nd
namespace DL
open PySem PySem.Spec PyProof.Rows L2 Nd
def n9(scope:Scope)(x:Str)(ys:List Str):Bool:=scope.names.all (λy=>decide (y.2≠.cell)) && decide (scope.kind=.function) && scope.names.all (λy=>decide (y.2=.local->scope.names.lookup y.1=some .local)) &&
 decide (scope.names.lookup x=some .local) && decide (x::ys).Nodup && ys.all (λy=>decide (scope.names.lookup y=some .free)) && scope.names.all (λy=>decide (y.2=.free->y.1∈ys))
section
variable{X:Cx}{scope:Scope}{x:Str}
theorem kJ:∀{ys:List Str} {as:List Addr} {f:Str->Option Addr},ys.map f=as.map some->∀p∈ys.zip as,f p.1=some p.2
 | [],_,_,_=>λp h=>by simp at h
 | y::ys,[],_,h=>λp q=>by simp at q
 | y::ys,a::as,f,h=>λp q=>by
  rw[Ba,Ba,List.cons.injEq] at h
  rw[Hl] at q
  rcases Az.mp q with rfl | q
  ·exact h.1
  ·exact kJ h.2 p q
theorem lI:∀{l:List (Str×Addr)} {y:Str},y∈l.map (·.1)->(l.lookup y).isSome=true
 | [],y,h=>by simp at h
 | p::l,y,h=>by
  rw[Bu]
  split
  ·rfl
  ·rename_i ne
   rcases Az.mp h with rfl | h
   ·simp at ne
   ·exact lI h
theorem cs{ys:List Str}{as:List Addr}{js:List Nat}{cl:List (Str×Addr)}(e:cl=(ys.zip as).reverse)(h1:La scope X.env=pure cl)(hD:n9 scope x ys=true)(h2:ys.map (λy=>X.env.cells.lookup y)=as.map some)(h3:js.map (λj=>X.N[j]?)=ys.map some)(h4:ys.all (λy=>decide (X.env.kindOf y=some .cell\/X.env.kindOf y=some .free))=true):CompScope X scope cl x ys js:=by
 unfold n9 at hD
 simp only[Cg,Ex,decide_eq_true_eq] at hD
 obtain ⟨⟨⟨⟨⟨⟨c1,c2⟩,c3⟩,c4⟩,c5⟩,c6⟩,c7⟩:=hD
 have lj:ys.length=js.length:=by
  have:=congrArg Ga h3
  rw[Aa,Aa] at this
  exact this.symm
 have la:ys.length=as.length:=by
  have:=congrArg Ga h2
  rwa [Aa,Aa] at this
 refine ⟨h1,.inl c1,c2,c3,.inl c4,λy c h=>?_,List.all_eq_true.mpr λy hy=>?_,c5,lj,λk y j e1 e2=>⟨?_,c6 y (An e1),?_⟩⟩
 ·have m:=Kn h
  rw[e] at m
  exact kJ h2 _ (Lk.mp m)
 ·by_cases hf:y.2=.free
  ·have : (cl.lookup y.1).isSome=true:=by
    refine lI ?_
    rw[e,List.map_reverse,List.mem_reverse,List.map_fst_zip (by omega)]
    exact c7 y hy hf
   rw[this,Bool.or_true]
  ·have : (y.2 == Dy)=false:=by simpa using hf
   rw[this]; rfl
 ·have a:(js.map (λj=>X.N[j]?))[k]? = some (X.N[j]?):=by rw[Ao,e2]; rfl
  rw[h3,Ao,e1] at a
  exact (Bo a).symm
 ·have:=Ex.mp h4 y (An e1)
  exact of_decide_eq_true this
theorem Z0(h1:La scope X.env=pure [])(hD:n9 scope x []=true):CompScope X scope [] x [] []:=cs (as:=[]) rfl h1 hD rfl rfl rfl
theorem oH(a0:Str)(j0:Nat){p0:Addr}(h1:La scope X.env=pure [(a0,p0)])(hD:n9 scope x [a0]=true)(h2:[a0].map (λy=>X.env.cells.lookup y)=[some p0])(h3:[j0].map (λj=>X.N[j]?)=[some a0])(h4:[a0].all (λy=>decide (X.env.kindOf y=some .cell\/X.env.kindOf y=some .free))=true):CompScope X scope [(a0,p0)] x [a0] [j0]:=cs (as:=[p0]) rfl h1 hD h2 h3 h4
theorem E1(a0 a1:Str)(j0 j1:Nat){p0 p1:Addr}(h1:La scope X.env=pure [(a1,p1),(a0,p0)])(hD:n9 scope x [a0,a1]=true)(h2:[a0,a1].map (λy=>X.env.cells.lookup y)=[some p0,some p1])(h3:[j0,j1].map (λj=>X.N[j]?)=[some a0,some a1])(h4:[a0,a1].all (λy=>decide (X.env.kindOf y=some .cell\/X.env.kindOf y=some .free))=true):CompScope X scope [(a1,p1),(a0,p0)] x [a0,a1] [j0,j1]:=cs (as:=[p0,p1]) rfl h1 hD h2 h3 h4
theorem Z5(a0 a1 a2:Str)(j0 j1 j2:Nat){p0 p1 p2:Addr}(h1:La scope X.env=pure [(a2,p2),(a1,p1),(a0,p0)])(hD:n9 scope x [a0,a1,a2]=true)(h2:[a0,a1,a2].map (λy=>X.env.cells.lookup y)=[some p0,some p1,some p2])(h3:[j0,j1,j2].map (λj=>X.N[j]?)=[some a0,some a1,some a2])(h4:[a0,a1,a2].all (λy=>decide (X.env.kindOf y=some .cell\/X.env.kindOf y=some .free))=true):CompScope X scope [(a2,p2),(a1,p1),(a0,p0)] x [a0,a1,a2] [j0,j1,j2]:=cs (as:=[p0,p1,p2]) rfl h1 hD h2 h3 h4
theorem U6(a0 a1 a2 a3:Str)(j0 j1 j2 j3:Nat){p0 p1 p2 p3:Addr}(h1:La scope X.env=pure [(a3,p3),(a2,p2),(a1,p1),(a0,p0)])(hD:n9 scope x [a0,a1,a2,a3]=true)(h2:[a0,a1,a2,a3].map (λy=>X.env.cells.lookup y)=[some p0,some p1,some p2,some p3])(h3:[j0,j1,j2,j3].map (λj=>X.N[j]?)=[some a0,some a1,some a2,some a3])(h4:[a0,a1,a2,a3].all (λy=>decide (X.env.kindOf y=some .cell\/X.env.kindOf y=some .free))=true):CompScope X scope [(a3,p3),(a2,p2),(a1,p1),(a0,p0)] x [a0,a1,a2,a3] [j0,j1,j2,j3]:=cs (as:=[p0,p1,p2,p3]) rfl h1 hD h2 h3 h4
end
end DL
namespace Nd
open PySem PySem.Spec PyProof.Rows L2
theorem B6{K:PySem.W.Frag}{T n:String}{b:Bool}(h1:(Gv T == Gv n)=false)(h2:PySem.W.kitMeta n=true)(h3:(fastBuiltinMro T).map (λx=>x.contains (Gv n))=some b):PySem.W.kitOne K (.type T) (.type n)=some b:=by
 unfold PySem.W.kitOne PySem.W.kitCls
 rw[h1,if_neg (by decide)]
 dsimp only
 rw[if_pos h2]
 exact h3
end Nd
namespace NdS
open PySem
def st(m i:Nat):Nat:=(i * 5+1) % m
def it(m:Nat):Nat->Nat->Nat
 | 0,i=>i
 | t+1,i=>it m t (st m i)
def X7(m:Nat):Nat->Nat->List Nat
 | 0,_=>[]
 | f+1,i=>i::X7 m f (st m i)
def M6(m:Nat):Prop:=0<m/\it m m 0=0/\∀e,e<m->e∈X7 m m 0
def lp(m:Nat):Nat->Nat->Nat->Nat×Nat
 | 0,i,p=>(i,p)
 | t+1,i,p=>lp m t ((i * 5+1+p / 32) % m) (p / 32)
abbrev V1(p:Array Nat):Prop:=p.toList.Pairwise (· < ·)
structure TabOk(n:Nat)(t:SetTable):Prop where
 good:M6 (t.mask+1)
 dum:t.dummies=#[]
 plain:t.plain=true
 rise:V1 t.place
 Mt:∀j∈t.place.toList,j<=t.mask
 size:t.place.size=n
structure Tab(n:Nat)(t:SetTable):Prop extends TabOk n t where
 room:n * 5<t.mask * 3
abbrev bt(w:World):Bool:=w.params.followText "set-order"
def N4:Int×Value->Int
 | (_,.int k _)=>k
 | _=>0
def G9(e:Int×Value):Prop:=∃k tk,e=(hashInt k,Mz k tk)
abbrev Yj(es:Array (Int×Value)):List Int:=es.toList.map N4
abbrev A0(es:Array (Int×Value))(ep:Nat)(t:SetTable):Obj:={ cls:=.type "set",dict:=none,data:=.set es ep t }
structure SetS(w:World)(h:Heap)(a:Addr)(es:Array (Int×Value))(ep:Nat)(t:SetTable):Prop where
 obj:h.get? a=some (A0 es ep t)
 ent:∀e∈es.toList,G9 e
 nd:(Yj es).Nodup
 tab:Tab es.size t
 led:bt w=false->t.led=true
 few:es.size<64
def ins(k:Int)(l:List Int):List Int:=if k∈l then l else k::l
theorem len_leI:∀{l1 l2:List Int},l1.Nodup->(∀e∈l1,e∈l2)->l1.length<=l2.length
 | [],_,_,_=>Ei _
 | a::l1,l2,nd,h=>by
  have nd':=Di.mp nd
  have ha:=h a (Ab ..)
  have:=len_leI (l2:=l2.erase a) nd'.2 λe he=>(List.mem_erase_of_ne (show e≠a from λz=>nd'.1 (by rw[<- z]; exact he))).mpr (h e (Ak _ he))
  rw[gR ha] at this
  have p:0<l2.length:=Rh ha
  rw[Bk]
  omega
end NdS
namespace NdS
open PySem PyProof.Rows
def arrOf(w:World)(a:Addr)(ep:Nat)(es:Array (Int×Value)):Array (Int×Value):=if bt w then pickOrder (w.params.setOrder a ep) es else es
end NdS
namespace Nd
open PySem PySem.Spec PyProof.Rows L2 NdS
def Q7(w:World)(a:Addr)(ks:List Int)(h:Heap):Prop:=∃es ep t,SetS w h a es ep t/\∀x,x∈Yj es↔x∈ks
abbrev U4(w:World)(a:Addr)(ks:List Int):HO:=.ext (Q7 w a ks)
end Nd
namespace Nd
open PySem L2
def Sn(d:Addr)(H H':Hp):Prop:=∀b o,b≠d->H b=some o->H' b=some o
theorem Sn.trans{d:Addr}{H H1 H2:Hp}(a:Sn d H H1)(b:Sn d H1 H2):Sn d H H2:=λc o n h=>b c o n (a c o n h)
theorem Sn.upd{d:Addr}{H:Hp}{o:HO}:Sn d H (upd H d o):=λb o n h=>by rw[Ee n]; exact h
theorem nY{n:Nat}(h:n<=1000000):n<=Be:=by rw[Le]; omega
theorem Tx(a b:Int)(h:0<b):0<=a % b/\a % b<b:=⟨Mw _ (by omega),Od _ h⟩
def Ja(h:Int)(ns:List Int):Prop:=ns.Pairwise (· < ·)/\∀x∈ns,0<=x/\x<h
theorem Ja.nil(h:Int):Ja h []:=⟨Jm,λx hx=>by cases hx⟩
theorem Ja.more{h:Int}{ns:List Int}(r:Ja h ns)(h0:0<=h):Ja (h+1) (ns++[h]) :=
 ⟨Cn.mpr ⟨r.1,He _ _,λa ha b hb=>by rw[Am.mp hb]; exact (r.2 a ha).2⟩,λx hx=>by
  rcases Bi.mp hx with z | z
  ·have:=r.2 x z; omega
  ·have:=Am.mp z; omega⟩
theorem Ja.up{h h':Int}{ns:List Int}(r:Ja h ns)(l:h<=h'):Ja h' ns:=⟨r.1,λx hx=>by have:=r.2 x hx; omega⟩
def aB(H:Hp)(d:Addr)(c k:Int)(f:Bool):Prop:=H d=some (.lst [.int c,.int k,.bl f])
def pS:Sp:=λvs H Q _=>∃(d:Addr) (c k:Int) (f:Bool),vs=[.ref d]/\aB H d c k f/\0<=k/\k<=1000000/\∀(r c':Int) (H':Hp),aB H' d c' (k+1) f->Sn d H H'->Q (.int r) H'
def Cf(ns:List Int):Ac:=.tuple (ns.map Ad)
theorem jU(ns:List Int):(Cf ns).depth<=1:=by
 have : (Cf ns).depth<=Bh (ns.map Ad)+1:=by simp [Cf,Dd]
 rw[jQ] at this
 exact this
theorem uO(TD:List Ac):Dq (.list TD) (.list [])=TD.isEmpty:=by cases TD <;> simp [Dq,Mk]
def oX(b:Bool):Str:=if b=true then "back" else "front"
def order{α:Type}(a b:α)(l:List α):Option Bool->List α
 | none=>l
 | some true=>[a,b]
 | some false=>[b,a]
structure TD(K:PySem.W.Frag)(H:Hp)(x:V)(d:Ac)(n m:Nat):Prop where
 rd:RdV K H x d
 fits:M7 22 d
 nd:yS d<=n
 dp:d.depth<=m
abbrev yU(K:PySem.W.Frag):List V->Hp->VK->Prop:=λxs H Q=>∃p ys,xs=[V.ref p]/\(Pu K H p ys\/Se K H p ys)/\∀l,H l=none->Q (.ref l) (upd H l (.lst ys))
theorem Uj{X:Cx}:Ld X (.type "list") (yU X.K):=cN
end Nd
namespace DL
open PySem L2 Nd
def KL(K:PySem.W.Frag)(H:Hp)(a:Addr)(xs:List V):Prop :=
 (∃o,H a=some (.frz o (.lst xs)))\/∃(its:Array Value) (n:Nat),K.lookup a=some { cls:=.type "list",data:=.seq its n }/\its.size<=Be/\Fi xs its.toList
def Xv:Nat->Ac
 | 0=>.none
 | n+1=>.tuple [Xv n]
def V5(ks:List (List Int×Ac)):List (Ac×Ac):=(Xv 100,.none)::ks.map λp=>(Cf p.1,p.2)
def W7(ks:List (Int×Ac)):List (Ac×Ac):=(Xv 100,.bool true)::ks.map λp=>(.int p.1,p.2)
def V6(a:Addr)(ks:List (List Int×Ac)):List (Ac×Ac):=(Xv 100,.int a)::ks.map λp=>(Cf p.1,p.2)
def qY(w:List Int):List Xn:=w.map Sa
mutual
inductive RdF (K:PySem.W.Frag) (H:Hp):V->Ac->List Addr->Prop
 | non:RdF K H .non .none []
 | bl (b:Bool):RdF K H (.bl b) (.bool b) []
 | int (i:Int):RdF K H (.int i) (.int i) []
 | str (x:Str):RdF K H (.str x) (.str x) []
 | lst {a:Addr} {xs:List V} {ds:List Ac} {F:List Addr}:H a=some (.lst xs)->ds.length<=Be->RdFs K H xs ds F->RdF K H (.ref a) (.list ds) (a::F)
 | tup {a:Addr} {xs:List V} {ds:List Ac} {F:List Addr}:H a=some (.tup xs)->ds.length<=Be->RdFs K H xs ds F->RdF K H (.ref a) (.tuple ds) F
 | dic {a:Addr} {kv:List (List Xn×V)} {ks:List (List Int×Ac)}:H a=some (.dT kv)->kv.map (·.1)=ks.map (λp=>qY p.1)->RdFs K H (kv.map (·.2)) (ks.map (·.2)) []->RdF K H (.ref a) (.dict (V5 ks)) [a]
 | dik {a:Addr} {kv:List (Xn×V)} {ks:List (Int×Ac)}:H a=some (.dK kv)->kv.map (·.1)=ks.map (λp=>(Sa p.1:Xn))->RdFs K H (kv.map (·.2)) (ks.map (·.2)) []->RdF K H (.ref a) (.dict (W7 ks)) [a]
 | dnm {a:Addr} {kv:List (List Xn×V)} {ks:List (List Int×Ac)}:H a=some (.dT kv)->kv.map (·.1)=ks.map (λp=>qY p.1)->RdFs K H (kv.map (·.2)) (ks.map (·.2)) []->RdF K H (.ref a) (.dict (V6 a ks)) [a]
inductive RdFs (K:PySem.W.Frag) (H:Hp):List V->List Ac->List Addr->Prop
 | nil:RdFs K H [] [] []
 | cons {x:V} {d:Ac} {xs:List V} {ds:List Ac} {F G:List Addr}:RdF K H x d F->RdFs K H xs ds G->RdFs K H (x::xs) (d::ds) (F++G)
end
def Z3(o:HO):Prop:=(∃xs,o=.tup xs)\/∃ob u,o=.frz ob u
def Kp(F:List Addr)(H H':Hp):Prop:=∀b o,H b=some o->(b∈F\/Z3 o)->H' b=some o
theorem Kp.of{F:List Addr}{H H':Hp}(s:Qm H H'):Kp F H H':=λb o e _=>s b o e
theorem Kp.sub{F G:List Addr}{H H':Hp}(k:Kp F H H')(h:∀a∈G,a∈F):Kp G H H':=λb o e z=>k b o e (z.imp (h b) id)
section
variable{K:PySem.W.Frag}{H H':Hp}
theorem KL.kp{a:Addr}{xs:List V}{F:List Addr}(h:KL K H a xs)(k:Kp F H H'):KL K H' a xs:=by
 rcases h with ⟨o,h⟩ | h
 ·exact .inl ⟨o,k _ _ h (.inr (.inr ⟨_,_,rfl⟩))⟩
 ·exact .inr h
theorem KL.sq{a:Addr}{xs:List V}(h:KL K H a xs):Pu K H a xs:=by
 rcases h with ⟨o,h⟩ | ⟨its,n,h,hz,r⟩
 ·exact .inl (.inr ⟨o,h⟩)
 ·exact .inr ⟨_,its,n,h,rfl,rfl,rfl,hz,r⟩
mutual
theorem RdF.kp:∀{v:V} {d:Ac} {F:List Addr},RdF K H v d F->Kp F H H'->RdF K H' v d F
 | _,_,_,.non,_=>.non
 | _,_,_,.bl b,_=>.bl b
 | _,_,_,.int i,_=>.int i
 | _,_,_,.str x,_=>.str x
 | _,_,_,.lst h l hs,k=>.lst (k _ _ h (.inl Ab)) l (RdFs.kp hs (k.sub λ_ z=>Ak _ z))
 | _,_,_,.tup h l hs,k=>.tup (k _ _ h (.inr (.inl ⟨_,rfl⟩))) l (RdFs.kp hs k)
 | _,_,_,.dic h e hs,k=>.dic (k _ _ h (.inl Ab)) e (RdFs.kp hs (k.sub λ_ z=>nomatch z))
 | _,_,_,.dik h e hs,k=>.dik (k _ _ h (.inl Ab)) e (RdFs.kp hs (k.sub λ_ z=>nomatch z))
 | _,_,_,.dnm h e hs,k=>.dnm (k _ _ h (.inl Ab)) e (RdFs.kp hs (k.sub λ_ z=>nomatch z))
theorem RdFs.kp:∀{v:List V} {d:List Ac} {F:List Addr},RdFs K H v d F->Kp F H H'->RdFs K H' v d F
 | _,_,_,.nil,_=>.nil
 | _,_,_,.cons h hs,k=>.cons (RdF.kp h (k.sub λ_ z=>Au _ z)) (RdFs.kp hs (k.sub λ_ z=>Av _ z))
end
theorem Ng:∀n,(Xv n).depth=n
 | 0=>by simp [Xv,Dd]
 | n+1=>by
  have:=Ng n
  simp only[Xv,Dd,Bh,this]
  omega
theorem rP{ks:List (Int×Ac)}:100<=(PyData.dict (W7 ks)).depth:=by
 have:=Ng 100
 simp only[W7,Dd,PyData.depthKv,this]
 omega
theorem tL{a:Addr}{ks:List (List Int×Ac)}:100<=(PyData.dict (V6 a ks)).depth:=by
 have:=Ng 100
 simp only[V6,Dd,PyData.depthKv,this]
 omega
theorem qS{ks:List (List Int×Ac)}:100<=(PyData.dict (V5 ks)).depth:=by
 have:=Ng 100
 simp only[V5,Dd,PyData.depthKv,this]
 omega
mutual
theorem RdF.rd:∀{v:V} {d:Ac} {F:List Addr},RdF K H v d F->d.depth<=90->RdV K H v d
 | _,_,_,.non,_=>.non
 | _,_,_,.bl b,_=>.bl b
 | _,_,_,.int i,_=>.int i
 | _,_,_,.str x,_=>.str x
 | _,_,_,.lst h l hs,z=>.lst (Pu.of h) (RdFs.rd hs (by simp only[Dd] at z; omega))
 | _,_,_,.tup h l hs,z=>.tup (Se.of h) (RdFs.rd hs (by simp only[Dd] at z; omega))
 | _,_,_,.dic h e hs,z=>absurd (Cm qS z) (by decide)
 | _,_,_,.dik h e hs,z=>absurd (Cm rP z) (by decide)
 | _,_,_,.dnm h e hs,z=>absurd (Cm tL z) (by decide)
theorem RdFs.rd:∀{v:List V} {d:List Ac} {F:List Addr},RdFs K H v d F->Bh d<=90->RdVs K H v d
 | _,_,_,.nil,_=>.nil
 | _,_,_,.cons h hs,z=>.cons (RdF.rd h (by simp only[Bh] at z; omega)) (RdFs.rd hs (by simp only[Bh] at z; omega))
end
mutual
theorem RdF.dom:∀{v:V} {d:Ac} {F:List Addr},RdF K H v d F->∀a∈F,∃o,H a=some o
 | _,_,_,.non,_,z=>nomatch z
 | _,_,_,.bl b,_,z=>nomatch z
 | _,_,_,.int i,_,z=>nomatch z
 | _,_,_,.str x,_,z=>nomatch z
 | _,_,_,.lst h l hs,b,z=>by
  rcases Az.mp z with rfl | z
  ·exact ⟨_,h⟩
  ·exact RdFs.dom hs b z
 | _,_,_,.tup h l hs,b,z=>RdFs.dom hs b z
 | _,_,_,.dic h e hs,b,z=>⟨_,Am.mp z▸h⟩
 | _,_,_,.dik h e hs,b,z=>⟨_,Am.mp z▸h⟩
 | _,_,_,.dnm h e hs,b,z=>⟨_,Am.mp z▸h⟩
theorem RdFs.dom:∀{v:List V} {d:List Ac} {F:List Addr},RdFs K H v d F->∀a∈F,∃o,H a=some o
 | _,_,_,.nil,_,z=>nomatch z
 | _,_,_,.cons h hs,b,z=>by
  rcases Bi.mp z with z | z
  ·exact RdF.dom h b z
  ·exact RdFs.dom hs b z
end
theorem RdFs.len:∀{v:List V} {d:List Ac} {F:List Addr},RdFs K H v d F->v.length=d.length
 | _,_,_,.nil=>rfl
 | _,_,_,.cons _ t=>by rw[Bk,Bk,RdFs.len t]
theorem RdFs.get:∀{v:List V} {d:List Ac} {F:List Addr} {i:Nat} {e:Ac},RdFs K H v d F->d[i]? = some e->∃x G,v[i]? = some x/\RdF K H x e G/\G.Sublist F
 | _,_,_,_,_,.nil,z=>by simp at z
 | _,_,_,0,_,.cons h _,z=>by
  simp at z
  subst z
  exact ⟨_,_,rfl,h,List.sublist_append_left _ _⟩
 | _,_,_,i+1,e,.cons _ t,z=>by
  obtain ⟨x,G,h1,h2,h3⟩:=RdFs.get (i:=i) (e:=e) t (by simpa using z)
  exact ⟨x,G,by simpa using h1,h2,h3.trans (Dh _ _)⟩
theorem RdFs.app:∀{v w:List V} {d e:List Ac} {F G:List Addr},RdFs K H v d F->RdFs K H w e G->RdFs K H (v++w) (d++e) (F++G)
 | _,_,_,_,_,_,.nil,h=>h
 | _,_,_,_,_,_,.cons a t,h=>by
  rw[Ca]
  exact .cons a (RdFs.app t h)
theorem RdFs.snoc{v:List V}{d:List Ac}{F G:List Addr}{x:V}{e:Ac}(t:RdFs K H v d F)(h:RdF K H x e G):RdFs K H (v++[x]) (d++[e]) (F++G):=by
 have:=t.app (.cons h .nil)
 rw[Dk] at this
 exact this
end
mutual
def imm:Ac->Bool
 | .list _=>false
 | .dict _=>false
 | .tuple xs=>Dv xs
 | _=>true
def Dv:List Ac->Bool
 | []=>true
 | x::xs=>imm x && Dv xs
end
theorem jF:∀{xs:List Ac},Dv xs=true↔∀x∈xs,imm x=true
 | []=>by simp [Dv]
 | x::xs=>by simp [Dv,jF (xs:=xs)]
theorem Td{α:Type}{f:α->Ac}(h:∀a,imm (f a)=true)(l:List α):Dv (l.map f)=true:=jF.mpr λx hx=>by
 obtain ⟨a,_,rfl⟩:=Bl.mp hx
 exact h a
theorem sJ(ns:List Int):imm (Cf ns)=true:=by
 unfold Cf
 rw[imm]
 exact Td (λ_=>by simp [imm]) ns
section
variable{K:PySem.W.Frag}{H H':Hp}
mutual
theorem RdF.imm:∀{v:V} {d:Ac} {F:List Addr},RdF K H v d F->DL.imm d=true->F=[]
 | _,_,_,.non,_=>rfl
 | _,_,_,.bl b,_=>rfl
 | _,_,_,.int i,_=>rfl
 | _,_,_,.str x,_=>rfl
 | _,_,_,.lst h l hs,k=>by simp [DL.imm] at k
 | _,_,_,.tup h l hs,k=>RdFs.imm hs (by simpa [DL.imm] using k)
 | _,_,_,.dic h e hs,k=>by simp [DL.imm] at k
 | _,_,_,.dik h e hs,k=>by simp [DL.imm] at k
 | _,_,_,.dnm h e hs,k=>by simp [DL.imm] at k
theorem RdFs.imm:∀{v:List V} {d:List Ac} {F:List Addr},RdFs K H v d F->Dv d=true->F=[]
 | _,_,_,.nil,_=>rfl
 | _,_,_,.cons h hs,k=>by
  rw[Dv,Cg] at k
  rw[RdF.imm h k.1,RdFs.imm hs k.2]
  rfl
end
end
inductive Md where
 | pk | sh | tp | ow
 deriving DecidableEq
inductive DV where
 | un
 | dat (m:Md) (d:Ac)
 | drw
 | dT (kvs:List (List Xn×Ac))
 | val (v:V)
 | scr (ns:List Int)
 | acc (ds:List Ac)
 | grd (Hc:Hp)
 | tpl (xs:List V)
structure DS where
 sl:List DV
 n:Nat
structure Ent where
 v:Option V
 x:DV
 F:List Addr
def Oz:DV->Bool
 | .dat .pk _=>true
 | _=>false
def F4:DV->Bool
 | .drw=>true
 | _=>false
def j4:DV->Bool
 | .drw=>true
 | .acc _=>true
 | .dT _=>true
 | .grd _=>true
 | _=>false
def cells(e:Ent):List Addr:=match e.x with
 | .dat .ow _=>e.F
 | .dat .tp _=>e.F.take 1
 | .drw=>e.F
 | .dT _=>e.F
 | .acc _=>e.F.take 1
 | .grd _=>e.F
 | _=>[]
theorem Fx(e:Ent):∀a∈cells e,a∈e.F:=by
 obtain ⟨v,x,F⟩:=e
 intro a h
 cases x with
 | un=>exact nomatch h
 | val _=>exact nomatch h
 | scr _=>exact nomatch h
 | drw=>exact h
 | dT _=>exact h
 | grd _=>exact h
 | tpl _=>exact nomatch h
 | acc _=>exact (Ku _ _).subset h
 | dat m d =>
  cases m with
  | pk=>exact nomatch h
  | sh=>exact nomatch h
  | tp=>exact (Ku _ _).subset h
  | ow=>exact h
def Ua(e f:Ent):Prop:=((Oz f.x=false\/j4 e.x=true)->∀a∈cells e,a∉f.F)/\((Oz e.x=false\/j4 f.x=true)->∀a∈cells f,a∉e.F)
theorem Ua.symm{e f:Ent}(h:Ua e f):Ua f e:=⟨h.2,h.1⟩
def Iu(K:PySem.W.Frag)(H:Hp)(n:Nat)(e:Ent):Prop:=match e.x with
 | .un=>e.F=[]
 | .dat m d=>∃v,e.v=some v/\RdF K H v d e.F/\(m=.ow->e.F.Nodup)/\(m=.tp->∀a l,e.F=a::l->a∉l)
 | .drw=>∃dr c k f,e.v=some (.ref dr)/\e.F=[dr]/\aB H dr c k f/\0<=k/\k<=(n:Int)
 | .dT kvs=>∃a ks,e.v=some (.ref a)/\e.F=[a]/\H a=some (.dT ks)/\ks.map (·.1)=kvs.map (·.1)/\RdFs K H (ks.map (·.2)) (kvs.map (·.2)) []
 | .val v=>e.v=some v/\e.F=[]
 | .scr ns=>∃a,e.v=some (.ref a)/\e.F=[]/\KL K H a (ns.map V.int)/\ns.length<=63
 | .acc ds=>∃a xs G,e.v=some (.ref a)/\e.F=a::G/\H a=some (.lst xs)/\RdFs K H xs ds G/\ds.length<=Be/\a∉G
 | .grd Hc=>∀a∈e.F,∃o,Hc a=some o/\H a=some o
 | .tpl xs=>∃t,e.v=some (.ref t)/\H t=some (.tup xs)/\e.F=[]
structure At(K:PySem.W.Frag)(H0:Hp)(X:Addr->Prop)(n:Nat)(E:List Ent)(H:Hp):Prop where
 ok:∀e∈E,Iu K H n e
 sep:E.Pairwise Ua
 new:∀e∈E,∀a∈cells e,H0 a=none\/(X a/\F4 e.x=true)
 same:∀b o,¬ X b->H0 b=some o->H b=some o
 dom:∀b o,H0 b=some o->∃o',H b=some o'
 xd:∀b,X b->H0 b≠none/\∃c k f,aB H b c k f/\0<=k/\k<=(n:Int)
section
variable{K:PySem.W.Frag}{H0 H H':Hp}{X:Addr->Prop}{n n':Nat}{E E' S T:List Ent}{e f:Ent}
theorem At.perm(h:At K H0 X n E H)(p:E.Perm E'):At K H0 X n E' H :=
 ⟨λe he=>h.ok e (p.mem_iff.mpr he),(p.pairwise_iff λ{a b}=>Ua.symm).mp h.sep,λe he=>h.new e (p.mem_iff.mpr he),h.same,h.dom,h.xd⟩
theorem At.sub(h:At K H0 X n E H)(p:E'.Sublist E):At K H0 X n E' H :=
 ⟨λe he=>h.ok e (p.subset he),h.sep.sublist p,λe he=>h.new e (p.subset he),h.same,h.dom,h.xd⟩
theorem At.drop(h:At K H0 X n (S++e::T) H):At K H0 X n (S++T) H:=h.sub ((Dg S).append (Dl _ _))
theorem sA:(S++e::T).Perm (e::(S++T)):=Qb
theorem At.mid(h:At K H0 X n (S++e::T) H):At K H0 X n (e::(S++T)) H:=h.perm sA
theorem At.tomid(h:At K H0 X n (e::(S++T)) H):At K H0 X n (S++e::T) H:=h.perm sA.symm
theorem Iu.dom(h:Iu K H n e):∀a∈e.F,∃o,H a=some o:=by
 obtain ⟨v,x,F⟩:=e
 intro a ha
 cases x with
 | un=>rw[show F=[] from h] at ha; cases ha
 | val _=>rw[show F=[] from h.2] at ha; cases ha
 | scr _ =>
  obtain ⟨_,_,hF,_⟩:=h
  rw[show F=[] from hF] at ha; cases ha
 | dat m d =>
  obtain ⟨w,_,h,_⟩:=h
  obtain ⟨xs,z⟩:=h.dom a ha
  exact ⟨_,z⟩
 | drw =>
  obtain ⟨dr,c,k,f,_,hF,h,_⟩:=h
  rw[show F=[dr] from hF] at ha
  rw[Am.mp ha]
  exact ⟨_,h⟩
 | grd Hc =>
  obtain ⟨o,_,z⟩:=h a ha
  exact ⟨o,z⟩
 | tpl xs =>
  obtain ⟨_,_,_,hF⟩:=h
  rw[show F=[] from hF] at ha; cases ha
 | dT kvs =>
  obtain ⟨b,ks,_,hF,h,_⟩:=h
  rw[show F=[b] from hF] at ha
  rw[Am.mp ha]
  exact ⟨_,h⟩
 | acc ds =>
  obtain ⟨b,ks,G,_,hF,h,hr,_⟩:=h
  rw[show F=b::G from hF] at ha
  rcases Az.mp ha with rfl | ha
  ·exact ⟨_,h⟩
  ·obtain ⟨xs,z⟩:=hr.dom a ha
   exact ⟨_,z⟩
theorem Iu.kp(h:Iu K H n e)(k:Kp e.F H H')(hn:n<=n'):Iu K H' n' e:=by
 obtain ⟨v,x,F⟩:=e
 cases x with
 | un=>exact h
 | val _=>exact h
 | scr _ =>
  obtain ⟨a,h1,h2,h3,h4⟩:=h
  exact ⟨a,h1,h2,h3.kp k,h4⟩
 | dat m d =>
  obtain ⟨w,h1,h2,h3⟩:=h
  exact ⟨w,h1,h2.kp k,h3⟩
 | drw =>
  obtain ⟨dr,c,kk,f,h1,hF,h2,h3,h4⟩:=h
  have hF':F=[dr]:=hF
  subst hF'
  exact ⟨dr,c,kk,f,h1,rfl,k _ _ h2 (.inl Ab),h3,by omega⟩
 | tpl xs =>
  obtain ⟨t,h1,h2,h3⟩:=h
  exact ⟨t,h1,k _ _ h2 (.inr (.inl ⟨_,rfl⟩)),h3⟩
 | grd Hc =>
  intro a ha
  obtain ⟨o,h1,h2⟩:=h a ha
  exact ⟨o,h1,k _ _ h2 (.inl ha)⟩
 | dT kvs =>
  obtain ⟨b,ks,h1,hF,h2,h3,h4⟩:=h
  have hF':F=[b]:=hF
  subst hF'
  exact ⟨b,ks,h1,rfl,k _ _ h2 (.inl Ab),h3,h4.kp (k.sub λ_ z=>nomatch z)⟩
 | acc ds =>
  obtain ⟨b,ks,G,h1,hF,h2,h3,h4⟩:=h
  have hF':F=b::G:=hF
  subst hF'
  exact ⟨b,ks,G,h1,rfl,k _ _ h2 (.inl Ab),h3.kp (k.sub λ_ z=>Ak _ z),h4⟩
theorem At.grow(h:At K H0 X n E H)(s:Qm H H')(hn:n<=n'):At K H0 X n' E H' :=
 ⟨λe he=>(h.ok e he).kp (Kp.of s) hn,h.sep,h.new,λb o nx e=>s _ _ (h.same b o nx e),λb o e=>let ⟨o',q⟩:=h.dom b o e; ⟨o',s _ _ q⟩,λb hb=>let ⟨z,c,k,f,h1,h2,h3⟩:=h.xd b hb; ⟨z,c,k,f,s _ _ h1,h2,by omega⟩⟩
theorem At.free(h:At K H0 X n E H){a:Addr}(ha:H a=none):∀e∈E,a∉e.F:=λe he z=>by
 obtain ⟨o,q⟩:=(h.ok e he).dom a z
 rw[ha] at q; cases q
theorem At.push(h:At K H0 X n E H)(ok:Iu K H n e)(sep:∀f∈E,Ua e f)(new:∀a∈cells e,H0 a=none\/(X a/\F4 e.x=true)):At K H0 X n (e::E) H :=
 ⟨λg hg=>by
  rcases Az.mp hg with rfl | hg
  ·exact ok
  ·exact h.ok g hg,Bt.mpr ⟨sep,h.sep⟩,λg hg=>by
  rcases Az.mp hg with rfl | hg
  ·exact new
  ·exact h.new g hg,h.same,h.dom,h.xd⟩
theorem At.new0(h:At K H0 X n E H){p:Addr}(hp:H p=none):H0 p=none:=by
 cases q:H0 p with
 | none=>rfl
 | some o =>
  obtain ⟨o',z⟩:=h.dom p o q
  rw[hp] at z; cases z
theorem vY{v:Option V}{m:Md}{d:Ac}:Ua ⟨v,.dat m d,[]⟩ f:=by
 refine ⟨λ_ a ha=>?_,λ_ a _=>Cz⟩
 have:=Fx _ a ha
 cases this
theorem At.pushI(h:At K H0 X n (S++T) H){v:V}{m:Md}{d:Ac}(r:RdF K H v d []):At K H0 X n (S++⟨some v,.dat m d,[]⟩::T) H :=
 (h.push (e:=⟨some v,.dat m d,[]⟩) ⟨v,rfl,r,λ_=>Ep,λ_ a l z=>nomatch z⟩ (λf _=>vY) (λa ha=>nomatch Fx _ a ha)).tomid
def wk:Md->Md->Bool
 | _,.pk=>true
 | .pk,_=>false
 | _,.sh=>true
 | .sh,_=>false
 | _,.tp=>true
 | .tp,.ow=>false
 | .ow,.ow=>true
theorem eI{v:Option V}{m m':Md}{d:Ac}{F:List Addr}(w:wk m m'=true):∀a∈cells ⟨v,.dat m' d,F⟩,a∈cells ⟨v,.dat m d,F⟩:=by
 intro a ha
 cases m <;> cases m' <;> first | exact absurd w (by decide) | exact ha | exact absurd ha Cz | exact (Ku 1 F).subset ha
theorem nP{α:Type}{F:List α}(h:F.Nodup):∀a l,F=a::l->a∉l:=λa l e=>by
 subst e
 exact (Di.mp h).1
theorem Iu.wk{v:Option V}{m m':Md}{d:Ac}{F:List Addr}(w:wk m m'=true)(h:Iu K H n ⟨v,.dat m d,F⟩):Iu K H n ⟨v,.dat m' d,F⟩:=by
 obtain ⟨u,h1,h2,h3,h4⟩:=h
 refine ⟨u,h1,h2,λe=>?_,λe=>?_⟩
 ·subst e
  cases m <;> first | exact absurd w (by decide) | exact h3 rfl
 ·subst e
  cases m <;> first | exact absurd w (by decide) | exact h4 rfl | exact nP (h3 rfl)
theorem Ua.wk{v:Option V}{m m':Md}{d:Ac}{F:List Addr}(w:wk m m'=true)(h:Ua ⟨v,.dat m d,F⟩ f):Ua ⟨v,.dat m' d,F⟩ f:=by
 refine ⟨λhp a ha=>?_,λhp a ha=>?_⟩
 ·rcases hp with hp | hp
  ·exact h.1 (.inl hp) a (eI w a ha)
  ·cases hp
 ·rcases hp with hp | hp
  ·refine h.2 (.inl ?_) a ha
   cases m <;> cases m' <;> first | rfl | exact absurd w (by decide) | exact absurd hp (by show ¬ (true=false); decide)
  ·exact h.2 (.inr hp) a ha
theorem At.wk{v:Option V}{m m':Md}{d:Ac}{F:List Addr}(w:wk m m'=true)(h:At K H0 X n (⟨v,.dat m d,F⟩::E) H):At K H0 X n (⟨v,.dat m' d,F⟩::E) H:=by
 have hs:=Bt.mp h.sep
 refine (h.sub (Dl _ _)).push ((h.ok _ Ab).wk w) (λf hf=>(hs.1 f hf).wk w) λa ha=>?_
 rcases h.new _ Ab a (eI w a ha) with z | z
 ·exact .inl z
 ·cases z.2
end
abbrev DE:=DS->(DV->DS->Prop)->Prop
abbrev DT:=DS->(Bool->DS->Prop)->Prop
abbrev DA:=DS->(List DV->DS->Prop)->Prop
structure DEnds where
 nx:DS->Prop
 rt:DV->DS->Prop
 bk:DS->Prop:=λ_=>False
 ct:DS->Prop:=λ_=>False
abbrev DB:=DEnds->DS->Prop
abbrev DG:=DV->DS->(DS->Prop)->Prop
abbrev rY:=List DV->DS->(DS->Prop)->Prop
def vs(S:List Ent):L2.St:=S.map Ent.v
def Sl(S:List Ent)(δ:DS):Prop:=S.map Ent.x=δ.sl
section
variable(K:PySem.W.Frag)
def LE(de:DE):TE:=λσ H Q=>∃(H0:Hp) (X:Addr->Prop) (S T:List Ent) (δ:DS) (P:DV->DS->Prop),vs S=σ/\Sl S δ/\At K H0 X δ.n (S++T) H/\de δ P /\
 ∀x δ' v F S' H',vs S'=σ->Sl S' δ'->At K H0 X δ'.n (S'++⟨some v,x,F⟩::T) H'->P x δ'->Q v H'
def LT(dt:DT):TT:=λσ H Q=>∃(H0:Hp) (X:Addr->Prop) (S T:List Ent) (δ:DS) (P:Bool->DS->Prop),vs S=σ/\Sl S δ/\At K H0 X δ.n (S++T) H/\dt δ P /\
 ∀b δ' S' H',vs S'=σ->Sl S' δ'->At K H0 X δ'.n (S'++T) H'->P b δ'->Q b H'
def LA(da:DA):TA:=λσ H Q=>∃(H0:Hp) (X:Addr->Prop) (S T:List Ent) (δ:DS) (P:List DV->DS->Prop),vs S=σ/\Sl S δ/\At K H0 X δ.n (S++T) H/\da δ P /\
 ∀xs δ' As us S' H',vs S'=σ->Sl S' δ'->As.map Ent.x=xs->As.map Ent.v=us.map some->At K H0 X δ'.n (S'++(As++T)) H'->P xs δ'->Q us H'
def LS(db:DB):TS:=λD σ H=>∃(H0:Hp) (X:Addr->Prop) (S T:List Ent) (δ:DS) (P:DEnds),vs S=σ/\Sl S δ/\(∀e∈T,Oz e.x=false)/\At K H0 X δ.n (S++T) H/\db P δ /\
 (∀δ' S' H',Sl S' δ'->At K H0 X δ'.n (S'++T) H'->P.nx δ'->D.nx (vs S') H') /\
 (∀x δ' v F S' H',Sl S' δ'->At K H0 X δ'.n (S'++⟨some v,x,F⟩::T) H'->P.rt x δ'->D.rt v H') /\
 (∀δ' S' H',Sl S' δ'->At K H0 X δ'.n (S'++T) H'->P.bk δ'->D.bk (vs S') H') /\
 (∀δ' S' H',Sl S' δ'->At K H0 X δ'.n (S'++T) H'->P.ct δ'->D.ct (vs S') H')
def LG(dg:DG):TG:=λv σ H Q=>∃(H0:Hp) (X:Addr->Prop) (S T:List Ent) (δ:DS) (x:DV) (F:List Addr) (P:DS->Prop),vs S=σ/\Sl S δ/\At K H0 X δ.n (S++⟨some v,x,F⟩::T) H/\dg x δ P /\
 ∀δ' S' H',Sl S' δ'->At K H0 X δ'.n (S'++T) H'->P δ'->Q (vs S') H'
def Z2(dg:rY):xE:=λus σ H Q=>∃(H0:Hp) (X:Addr->Prop) (S T As:List Ent) (δ:DS) (P:DS->Prop),vs S=σ/\Sl S δ/\As.map Ent.v=us.map some/\At K H0 X δ.n (S++(As++T)) H/\dg (As.map Ent.x) δ P /\
 ∀δ' S' H',Sl S' δ'->At K H0 X δ'.n (S'++T) H'->P δ'->Q (vs S') H'
end
abbrev En(X:Cx)(e:Expr)(de:DE):Prop:=PE X e (LE X.K de)
abbrev bE(X:Cx)(e:Expr)(dt:DT):Prop:=PT X e (LT X.K dt)
abbrev j9(X:Cx)(e:Expr)(dt:DT):Prop:=PW X e (LT X.K dt)
abbrev kU(X:Cx)(es:List Expr)(da:DA):Prop:=PA X es (LA X.K da)
abbrev tY(X:Cx)(st:Stmt)(db:DB):Prop:=PS X st (LS X.K db)
abbrev Wu(X:Cx)(st:List Stmt)(db:DB):Prop:=gU X st (LS X.K db)
abbrev R1(X:Cx)(tg:Expr)(dg:DG):Prop:=PG X tg (LG X.K dg)
abbrev wG(X:Cx)(tg:List Expr)(dg:rY):Prop:=x9 X tg (Z2 X.K dg)
theorem PE.imp{X:Cx}{e:Expr}{t t':TE}(h:PE X e t)(k:∀σ H Q,t' σ H Q->t σ H Q):PE X e t':=λpins s σ H Q I q=>h pins s σ H Q I (k σ H Q q)
theorem PT.imp{X:Cx}{e:Expr}{t t':TT}(h:PT X e t)(k:∀σ H Q,t' σ H Q->t σ H Q):PT X e t':=λpins s σ H Q I q=>h pins s σ H Q I (k σ H Q q)
theorem PW.imp{X:Cx}{e:Expr}{t t':TT}(h:PW X e t)(k:∀σ H Q,t' σ H Q->t σ H Q):PW X e t':=λwh pins s σ H Q I q=>h wh pins s σ H Q I (k σ H Q q)
theorem PA.imp{X:Cx}{e:List Expr}{t t':TA}(h:PA X e t)(k:∀σ H Q,t' σ H Q->t σ H Q):PA X e t':=λpos pins s σ H Q I q=>h pos pins s σ H Q I (k σ H Q q)
theorem PG.imp{X:Cx}{e:Expr}{t t':TG}(h:PG X e t)(k:∀v σ H Q,t' v σ H Q->t v σ H Q):PG X e t':=λpins s σ H v u Q I r q=>h pins s σ H v u Q I r (k v σ H Q q)
theorem x9.imp{X:Cx}{e:List Expr}{t t':xE}(h:x9 X e t)(k:∀v σ H Q,t' v σ H Q->t v σ H Q):x9 X e t':=λpins s σ H v u Q I r q=>h pins s σ H v u Q I r (k v σ H Q q)
section
variable{K:PySem.W.Frag}{H:Hp}{v:V}{F:List Addr}
theorem RdF.int_inv{i:Int}(h:RdF K H v (.int i) F):v=.int i/\F=[]:=by cases h; exact ⟨rfl,rfl⟩
theorem RdF.bl_inv{i:Bool}(h:RdF K H v (.bool i) F):v=.bl i/\F=[]:=by cases h; exact ⟨rfl,rfl⟩
theorem RdF.str_inv{i:Str}(h:RdF K H v (.str i) F):v=.str i/\F=[]:=by cases h; exact ⟨rfl,rfl⟩
theorem RdF.non_inv(h:RdF K H v .none F):v=.non/\F=[]:=by cases h; exact ⟨rfl,rfl⟩
theorem RdF.list_inv{ds:List Ac}(h:RdF K H v (.list ds) F):∃a xs G,v=.ref a/\H a=some (.lst xs)/\RdFs K H xs ds G/\F=a::G/\ds.length<=Be:=by
 cases h with
 | lst h l hs=>exact ⟨_,_,_,rfl,h,hs,rfl,l⟩
theorem RdF.tup_inv{ds:List Ac}(h:RdF K H v (.tuple ds) F):∃a xs,v=.ref a/\H a=some (.tup xs)/\RdFs K H xs ds F/\ds.length<=Be:=by
 cases h with
 | tup h l hs=>exact ⟨_,_,rfl,h,hs,l⟩
end
section
variable{K:PySem.W.Frag}{H0 H H':Hp}{X:Addr->Prop}{n:Nat}{E S T:List Ent}{v:V}{m:Md}{d:Ac}{F:List Addr}
theorem At.told(h:At K H0 X n E H)(he:⟨some v,.dat m d,F⟩∈E):RdF K H v d F:=by
 obtain ⟨w,e1,h1,_⟩:=h.ok _ he
 cases e1
 exact h1
theorem mem_mid{e:Ent}:e∈S++e::T:=Av _ Ab
theorem Es{e f:Ent}:f∈S++e::f::T:=Av _ (Ak _ Ab)
theorem At.drop2{e f:Ent}(h:At K H0 X n (S++e::f::T) H):At K H0 X n (S++T) H:=h.drop.drop
theorem At.dropL{As:List Ent}(h:At K H0 X n (S++(As++T)) H):At K H0 X n (S++T) H:=h.sub ((Dg S).append (Dh As T))
end
def jK:Md->Md
 | .ow=>.pk
 | .tp=>.pk
 | m=>m
def A6(i:Nat):DE:=λδ P=>match δ.sl[i]? with
 | some (.dat m d)=>P (.dat (jK m) d) δ
 | _=>False
def dC(d:Ac):DE:=λδ P=>P (.dat .ow d) δ
theorem Ky{S:List Ent}{δ:DS}{i:Nat}{x:DV}(h:Sl S δ)(e:δ.sl[i]? = some x):∃ent,S[i]? = some ent/\ent.x=x:=by
 unfold Sl at h
 rw[<- h,Ao] at e
 cases q:S[i]? with
 | none=>rw[q] at e; cases e
 | some ent=>rw[q] at e; exact ⟨ent,rfl,Bo e⟩
theorem Pw{S:List Ent}{i:Nat}{e:Ent}(h:S[i]? = some e):(vs S)[i]? = some e.v:=by
 unfold vs
 rw[Ao,h]
 rfl
theorem At.look{K:PySem.W.Frag}{H0 H:Hp}{X:Addr->Prop}{n:Nat}{S T:List Ent}{u:Option V}{v:V}{m:Md}{d:Ac}{F:List Addr}(h:At K H0 X n (S++T) H)(he:⟨u,.dat m d,F⟩∈S)(hu:u=some v):At K H0 X n (S++⟨some v,.dat (jK m) d,F⟩::T) H:=by
 subst hu
 obtain ⟨S1,S2,rfl⟩:=List.append_of_mem he
 have hp:((S1++⟨some v,.dat m d,F⟩::S2)++T).Perm (⟨some v,.dat m d,F⟩::(S1++(S2++T))):=by
  rw[Ca,Hg]
  exact Qb
 have h2:=h.perm hp
 have hs:=Bt.mp h2.sep
 refine (h.push (e:=⟨some v,.dat (jK m) d,F⟩) ?_ (λf hf=>?_) λa ha=>?_).tomid
 ·obtain ⟨w,e1,h1,_⟩:=h2.ok _ Ab
  refine ⟨w,e1,h1,λz=>?_,λz=>?_⟩ <;> cases m <;> cases z
 ·refine ⟨λ_ a ha=>?_,λhq a ha=>?_⟩
  ·cases m <;> exact nomatch ha
  ·rcases Az.mp (hp.mem_iff.mp hf) with rfl | hf
   ·rcases hq with hq | hq
    ·cases m <;> first | cases hq; done | exact nomatch ha
    ·cases hq
   ·refine (hs.1 f hf).2 ?_ a ha
    rcases hq with hq | hq
    ·refine .inl ?_
     cases m <;> first | rfl | exact hq
    ·exact .inr hq
 ·cases m <;> exact nomatch ha
section
variable{X:Cx}{e:Expr}
theorem Af{i:Nat}(h:PE X e (gI i)):En X e (A6 i):=by
 refine PE.imp h λσ H Q h=>?_
 obtain ⟨H0,Y,S,T,δ,P,rfl,hS,hA,hd,k⟩:=h
 unfold A6 at hd
 split at hd
 ·rename_i m d e1
  obtain ⟨ent,e2,e3⟩:=Ky hS e1
  have hm:ent∈S:=An e2
  obtain ⟨u,x,F⟩:=ent
  subst e3
  obtain ⟨v,hv,_⟩:=hA.ok _ (Au _ hm)
  refine ⟨v,by rw[Pw e2]; exact congrArg some hv,k _ δ v F S H rfl hS (hA.look hm hv) hd⟩
 ·exact hd.elim
theorem dR{v:V}{d:Ac}(h:PE X e (tC v))(r:∀H,RdF X.K H v d []):En X e (dC d):=by
 refine PE.imp h λσ H Q h=>?_
 obtain ⟨H0,Y,S,T,δ,P,rfl,hS,hA,hd,k⟩:=h
 exact k _ δ v [] S H rfl hS (hA.pushI (r H)) hd
theorem Cs{i j pos}:En X (.Constant (.int i) j pos) (dC (.int i)):=dR Dc λ_=>.int i
theorem Ln{i j pos}:En X (.Constant (.bool i) j pos) (dC (.bool i)):=dR sN λ_=>.bl i
theorem jT{i j pos}:En X (.Constant (.str i) j pos) (dC (.str i)):=dR zY λ_=>.str i
theorem dO{j pos}:En X (.Constant .none j pos) (dC .none):=dR zS λ_=>.non
end
def Q6(de:DE):DE:=λδ P=>de δ λx δ'=>match x with
 | .dat _ d=>imm d=true/\P (.dat .ow d) δ'
 | _=>False
theorem Yk{X:Cx}{e:Expr}{de:DE}(h:En X e de):En X e (Q6 de):=by
 refine PE.imp h λσ H Q h=>?_
 obtain ⟨H0,Y,S,T,δ,P,rfl,hS,hA,hd,k⟩:=h
 refine ⟨H0,Y,S,T,δ,_,rfl,hS,hA,hd,λx δ' v F S' H' e1 e2 hA' p=>?_⟩
 cases x with
 | dat m d =>
  have r:=hA'.told mem_mid
  obtain rfl:=r.imm p.1
  exact k _ δ' v [] S' H' e1 e2 (hA'.drop.pushI r) p.2
 | _=>exact p.elim
def pD(i:Nat):DE:=λδ P=>match δ.sl[i]? with
 | some (.dat m d)=>P (.dat m d) ⟨δ.sl.set i .un,δ.n⟩
 | _=>False
theorem Yi{α:Type}:∀{l:List α} {i:Nat} {x y:α},l[i]? = some x->(y::l).Perm (x::l.set i y)
 | [],i,x,y,h=>by simp at h
 | z::l,0,x,y,h=>by
  simp at h
  subst h
  exact Ka _ _ _
 | z::l,i+1,x,y,h=>by
  have ih:=Yi (l:=l) (i:=i) (x:=x) (y:=y) (by simpa using h)
  rw[List.set_cons_succ]
  exact (Ka z y l).trans ((ih.cons z).trans (Ka x z _))
theorem Xi{X:Cx}{e:Expr}{i:Nat}(h:PE X e (gI i)):En X e (pD i):=by
 refine PE.imp h λσ H Q h=>?_
 obtain ⟨H0,Y,S,T,δ,P,rfl,hS,hA,hd,k⟩:=h
 unfold pD at hd
 split at hd
 ·rename_i m d e1
  obtain ⟨ent,e2,e3⟩:=Ky hS e1
  have hm:ent∈S:=An e2
  obtain ⟨u,x,F⟩:=ent
  subst e3
  obtain ⟨v,hv,hv2⟩:=hA.ok _ (Au _ hm)
  have hv':u=some v:=hv
  subst hv'
  refine ⟨v,by rw[Pw e2],k _ _ v F (S.set i ⟨some v,.un,[]⟩) H ?_ ?_ ?_ hd⟩
  ·unfold vs
   rw[Kv]
   apply Ik
   intro j
   rw[Ou]
   split
   ·rename_i hij
    subst hij
    rw[Ao,e2]
    split
    ·rfl
    ·rename_i hj
     rw[Aa] at hj
     exact absurd (Ah.mp e2).1 hj
   ·rfl
  ·unfold Sl at hS ⊢
   rw[Kv,hS]
  ·have hp:=hA.push (e:=⟨some v,.un,[]⟩) (show Iu X.K H δ.n ⟨some v,.un,[]⟩ from rfl) (λf _=>⟨λ_ a ha=>(nomatch ha),λ_ a _=>Cz⟩) (λa ha=>(nomatch ha))
   have p1:(⟨some v,.un,[]⟩::(S++T)).Perm ((S.set i ⟨some v,.un,[]⟩)++⟨some v,.dat m d,F⟩::T):=by
    rw[<- Hg]
    exact ((Yi (y:=(⟨some v,.un,[]⟩ : Ent)) e2).append_right T).trans (by rw[Hg]; exact List.perm_middle.symm)
   exact hp.perm p1
 ·exact hd.elim
abbrev D2:=DV->DV->(DV->Prop)->Prop
def gS(K:PySem.W.Frag)(r:R2)(rd:D2):Prop:=∀(H0:Hp) (X:Addr->Prop) (n:Nat) (S T:List Ent) (x y:DV) (v w:V) (F G:List Addr) (H:Hp) (Q:VK) (P:DV->Prop),
 At K H0 X n (S++⟨some w,y,G⟩::⟨some v,x,F⟩::T) H->rd x y P->(∀z u F' H',At K H0 X n (S++⟨some u,z,F'⟩::T) H'->P z->Q u H')->r v w H Q
def Tw(rd:D2)(da db:DE):DE:=λδ P=>da δ λx δ1=>db δ1 λy δ2=>rd x y λz=>P z δ2
theorem op_le{K:PySem.W.Frag}{r:R2}{rd:D2}{da db:DE}(o:gS K r rd):∀σ H Q,LE K (Tw rd da db) σ H Q->O1 r (LE K da) (LE K db) σ H Q:=by
 intro σ H Q h
 obtain ⟨H0,Y,S,T,δ,P,rfl,hS,hA,hd,k⟩:=h
 refine ⟨H0,Y,S,T,δ,_,rfl,hS,hA,hd,λx δ1 v F S1 H1 e1 e2 hA1 p1=>?_⟩
 refine ⟨H0,Y,S1,⟨some v,x,F⟩::T,δ1,_,e1,e2,hA1,p1,λy δ2 w G S2 H2 e3 e4 hA2 p2=>?_⟩
 exact o H0 Y δ2.n S2 T x y v w F G H2 Q _ hA2 p2 λz u F' H' hA3 p3=>k z δ2 u F' S2 H' e3 e4 hA3 p3
section
variable{X:Cx}{a b:Expr}{da db:DE}{pos:Pos}{r:R2}{rd:D2}
theorem Qs{op:Operator}(ho:Tn X (Hr op) r)(o:gS X.K r rd)(ha:En X a da)(hb:En X b db):En X (.BinOp a op b pos) (Tw rd da db):=PE.imp (Ew ho ha hb) (op_le o)
theorem dM{op:CmpOp}(ho:Tn X (Fo op) r)(o:gS X.K r rd)(ha:En X a da)(hb:En X b db)(hm:Jd op b=false):En X (.Compare a [op] [b] pos) (Tw rd da db):=PE.imp (xB ho ha hb hm) (op_le o)
theorem J0(ho:uM X r)(o:gS X.K r rd)(ha:En X a da)(hb:En X b db)(hs:bX b):En X (.Subscript a b pos) (Tw rd da db):=PE.imp (Oj ho ha hb hs) (op_le o)
end
def B1(C:Int->Int->Prop)(g:Int->Int->Ac):D2:=λx y P=>match x,y with
 | .dat _ (.int i),.dat _ (.int j)=>C i j/\P (.dat .ow (g i j))
 | _,_=>False
def aO(g:Int->Int->Ac):D2:=λx y P=>match x,y with
 | .dat _ (.int i),.dat _ (.int j)=>P (.dat .ow (g i j))
 | _,_=>False
section
variable{K:PySem.W.Frag}
theorem uF{C:Int->Int->Prop}{g:Int->Int->V}{g':Int->Int->Ac}(h:∀i j H,RdF K H (g i j) (g' i j) []):gS K (rI C g) (B1 C g'):=by
 intro H0 X n S T x y v w F G H Q P hA hd k
 unfold B1 at hd
 split at hd
 ·obtain ⟨rfl,_⟩:=(hA.told Es).int_inv
  obtain ⟨rfl,_⟩:=(hA.told mem_mid).int_inv
  exact ⟨_,_,rfl,rfl,hd.1,k _ _ [] H (hA.drop2.pushI (h _ _ H)) hd.2⟩
 ·exact hd.elim
theorem Wa{g:Int->Int->V}{g':Int->Int->Ac}(h:∀i j H,RdF K H (g i j) (g' i j) []):gS K (uB g) (aO g'):=by
 intro H0 X n S T x y v w F G H Q P hA hd k
 unfold aO at hd
 split at hd
 ·obtain ⟨rfl,_⟩:=(hA.told Es).int_inv
  obtain ⟨rfl,_⟩:=(hA.told mem_mid).int_inv
  exact ⟨_,_,rfl,rfl,k _ _ [] H (hA.drop2.pushI (h _ _ H)) hd⟩
 ·exact hd.elim
end
abbrev rdAdd:D2:=aO λi j=>.int (i+j)
abbrev rdSub:D2:=aO λi j=>.int (i - j)
abbrev rdMul:D2:=B1 o4 λi j=>.int (i * j)
abbrev rdDiv:D2:=B1 C1 λi j=>.int (i / j)
abbrev rdMod:D2:=B1 (λ_ j=>0<j) λi j=>.int (i % j)
abbrev rdPow:D2:=B1 zN λi j=>.int (i ^ j.toNat)
abbrev rdXor:D2:=aO λi j=>.int (Builtin.bitXor i j)
abbrev rdLt:D2:=aO λi j=>.bool (decide (i<j))
abbrev rdLe:D2:=aO λi j=>.bool (decide (i<=j))
abbrev rdGt:D2:=aO λi j=>.bool (decide (j<i))
abbrev rdGe:D2:=aO λi j=>.bool (decide (j<=i))
section
variable{X:Cx}{a b:Expr}{da db:DE}{pos:Pos}
theorem Lj(ha:En X a da)(hb:En X b db):En X (.BinOp a .Add b pos) (Tw rdAdd da db):=Qs Oy (Wa λ_ _ _=>.int _) ha hb
theorem dA(ha:En X a da)(hb:En X b db):En X (.BinOp a .Sub b pos) (Tw rdSub da db):=Qs b0 (Wa λ_ _ _=>.int _) ha hb
theorem jB(ha:En X a da)(hb:En X b db):En X (.BinOp a .Mult b pos) (Tw rdMul da db):=Qs Mq (uF λ_ _ _=>.int _) ha hb
theorem Ql(ha:En X a da)(hb:En X b db):En X (.BinOp a .FloorDiv b pos) (Tw rdDiv da db):=Qs Ub (uF λ_ _ _=>.int _) ha hb
theorem Fk(ha:En X a da)(hb:En X b db):En X (.BinOp a .Mod b pos) (Tw rdMod da db):=Qs Mn (uF λ_ _ _=>.int _) ha hb
theorem i8(ha:En X a da)(hb:En X b db):En X (.BinOp a .Pow b pos) (Tw rdPow da db):=Qs Te (uF λ_ _ _=>.int _) ha hb
theorem j7(ha:En X a da)(hb:En X b db):En X (.BinOp a .BitXor b pos) (Tw rdXor da db):=Qs w5 (Wa λ_ _ _=>.int _) ha hb
theorem J4(ha:En X a da)(hb:En X b db):En X (.Compare a [.LtE] [b] pos) (Tw rdLe da db):=dM L2.op_le (Wa λ_ _ _=>.bl _) ha hb (Nr _)
theorem xW(ha:En X a da)(hb:En X b db):En X (.Compare a [.GtE] [b] pos) (Tw rdGe da db):=dM sH (Wa λ_ _ _=>.bl _) ha hb (Nr _)
end
def bW(ne:Bool):D2:=λx y P=>match x,y with
 | .dat _ d,.dat _ e=>d.depth<=60/\e.depth<=60/\P (.dat .ow (.bool (match ne with | true=>!Dq d e | false=>Dq d e)))
 | _,_=>False
def mK(ne:Bool):D2:=λx y P=>match x,y with
 | .dat _ d,.dat _ (.list es)=>Bh es<=60/\d.depth<=60/\P (.dat .ow (.bool (match ne with | true=>!(es.any λe=>Dq e d) | false=>es.any λe=>Dq e d)))
 | .dat _ d,.dat _ (.tuple es)=>Bh es<=60/\d.depth<=60/\P (.dat .ow (.bool (match ne with | true=>!(es.any λe=>Dq e d) | false=>es.any λe=>Dq e d)))
 | _,_=>False
section
variable{K:PySem.W.Frag}
theorem yP:gS K (E8 K) (bW false):=by
 intro H0 X n S T x y v w F G H Q P hA hd k
 unfold bW at hd
 split at hd
 ·exact ⟨_,_,(hA.told Es).rd (Cm hd.1 (by decide)),(hA.told mem_mid).rd (Cm hd.2.1 (by decide)),hd.1,k _ _ [] H (hA.drop2.pushI (.bl _)) hd.2.2⟩
 ·exact hd.elim
theorem K3:gS K (N5 K) (bW true):=by
 intro H0 X n S T x y v w F G H Q P hA hd k
 unfold bW at hd
 split at hd
 ·exact ⟨_,_,(hA.told Es).rd (Cm hd.1 (by decide)),(hA.told mem_mid).rd (Cm hd.2.1 (by decide)),hd.1,k _ _ [] H (hA.drop2.pushI (.bl _)) hd.2.2⟩
 ·exact hd.elim
theorem zC{ne:Bool}:gS K (B8 K ne) (mK ne):=by
 intro H0 X n S T x y v w F G H Q P hA hd k
 unfold mK at hd
 split at hd
 ·obtain ⟨a,xs,G',rfl,hq,hs,_,_⟩:=(hA.told mem_mid).list_inv
  refine ⟨a,xs,_,_,rfl,.inl (Pu.of hq),(hA.told Es).rd (Cm hd.2.1 (by decide)),hs.rd (Cm hd.1 (by decide)),hd.1,?_⟩
  cases ne with
  | true=>exact k _ _ [] H (hA.drop2.pushI (.bl _)) hd.2.2
  | false=>exact k _ _ [] H (hA.drop2.pushI (.bl _)) hd.2.2
 ·obtain ⟨a,xs,rfl,hq,hs,_⟩:=(hA.told mem_mid).tup_inv
  refine ⟨a,xs,_,_,rfl,.inr (Se.of hq),(hA.told Es).rd (Cm hd.2.1 (by decide)),hs.rd (Cm hd.1 (by decide)),hd.1,?_⟩
  cases ne with
  | true=>exact k _ _ [] H (hA.drop2.pushI (.bl _)) hd.2.2
  | false=>exact k _ _ [] H (hA.drop2.pushI (.bl _)) hd.2.2
 ·exact hd.elim
def isNone:Ac->Bool
 | .none=>true
 | _=>false
theorem wH{v:V}{H:Hp}{d:Ac}{F:List Addr}(r:RdF K H v d F):decide (v=.non)=isNone d:=by
 cases r <;> simp [isNone]
def kC(ne:Bool):D2:=λx y P=>match x,y with
 | .dat _ d,.dat _ .none=>P (.dat .ow (.bool (match ne with | true=>!isNone d | false=>isNone d)))
 | _,_=>False
theorem g0:gS K (λx y H Q=>y=.non/\Q (.bl (decide (x=.non))) H) (kC false):=by
 intro H0 X n S T x y v w F G H Q P hA hd k
 unfold kC at hd
 split at hd
 ·obtain ⟨rfl,_⟩:=(hA.told mem_mid).non_inv
  refine ⟨rfl,k _ _ [] H (hA.drop2.pushI (m:=.ow) (.bl _)) ?_⟩
  rw[wH (hA.told Es)]
  exact hd
 ·exact hd.elim
end
section
variable{X:Cx}{a b:Expr}{da db:DE}{pos:Pos}
theorem bO(hu:X.A.units+64<cLine)(ha:En X a da)(hb:En X b db):En X (.Compare a [.Eq] [b] pos) (Tw (bW false) da db):=dM (rD hu) yP ha hb (Nr _)
theorem O6(hu:X.A.units+64<cLine)(ha:En X a da)(hb:En X b db)(hm:Jd .In b=false:=by with_unfolding_all rfl):En X (.Compare a [.In] [b] pos) (Tw (mK false) da db):=dM (zI hu) zC ha hb hm
end
def Mx:Md->Md
 | .ow=>.ow
 | .tp=>.sh
 | m=>m
theorem At.part{K:PySem.W.Frag}{H0 H:Hp}{X:Addr->Prop}{n:Nat}{S T:List Ent}{v w:V}{m:Md}{d e:Ac}{F G:List Addr}(h:At K H0 X n (S++⟨some v,.dat m d,F⟩::T) H)(r:RdF K H w e G)(hG:G.Sublist F):At K H0 X n (S++⟨some w,.dat (Mx m) e,G⟩::T) H:=by
 have h2:=h.mid
 have hs:=Bt.mp h2.sep
 obtain ⟨v',e1,h1,hn,ht⟩:=h2.ok _ Ab
 have cs:∀a∈cells ⟨some w,.dat (Mx m) e,G⟩,a∈cells ⟨some v,.dat m d,F⟩:=λa ha=>by
  cases m with
  | ow=>exact hG.subset ha
  | tp=>exact nomatch ha
  | sh=>exact nomatch ha
  | pk=>exact nomatch ha
 refine (h.drop.push (e:=⟨some w,.dat (Mx m) e,G⟩) ⟨w,rfl,r,λz=>?_,λz=>?_⟩ (λf hf=>?_) λa ha=>?_).tomid
 ·cases m with
  | ow=>exact (hn rfl).sublist hG
  | _=>cases z
 ·cases m <;> cases z
 ·refine ⟨λhp a ha=>(hs.1 f hf).1 ?_ a (cs a ha),λhp a ha z=>(hs.1 f hf).2 ?_ a ha (hG.subset z)⟩
  ·rcases hp with hp | hp
   ·exact .inl hp
   ·cases hp
  ·rcases hp with hp | hp
   ·refine .inl ?_
    cases m <;> first | rfl | exact hp
   ·exact .inr hp
 ·rcases h2.new _ Ab a (cs a ha) with z | z
  ·exact .inl z
  ·cases z.2
def qU:D2:=λx y P=>match x,y with
 | .dat m (.list ds),.dat _ (.int i)=>∃d,Py ds i=some d/\P (.dat (Mx m) d)
 | .dat m (.tuple ds),.dat _ (.int i)=>∃d,Py ds i=some d/\P (.dat (Mx m) d)
 | .dat _ (.str z),.dat _ (.int i)=>z.length<=Be/\∃c,Py z.cps.toList i=some c/\P (.dat .ow (.str ⟨#[c]⟩))
 | _,_=>False
theorem oV{K:PySem.W.Frag}{H:Hp}{xs:List V}{ds:List Ac}{F:List Addr}{i:Int}{d:Ac}(r:RdFs K H xs ds F)(h:Py ds i=some d):∃x G,Py xs i=some x/\RdF K H x d G/\G.Sublist F:=by
 unfold Py at h ⊢
 rw[r.len]
 cases e:oM ds.length i with
 | none=>rw[e] at h; cases h
 | some j =>
  rw[e] at h
  exact r.get h
theorem P2{K:PySem.W.Frag}:gS K (X1 K) qU:=by
 intro H0 X n S T x y v w F G H Q P hA hd k
 unfold qU at hd
 split at hd
 ·obtain ⟨d,hi,p⟩:=hd
  obtain ⟨rfl,_⟩:=(hA.told mem_mid).int_inv
  have r:=hA.told Es
  have hA':=hA.drop
  obtain ⟨a,xs,G0,rfl,hq,hs,hG,_⟩:=r.list_inv
  obtain ⟨x,G',h1,h2,h3⟩:=oV hs hi
  subst hG
  exact .inl ⟨_,_,_,_,rfl,rfl,Pu.of hq,h1,k _ _ G' H (hA'.part h2 (h3.trans (Dl _ _))) p⟩
 ·obtain ⟨d,hi,p⟩:=hd
  obtain ⟨rfl,_⟩:=(hA.told mem_mid).int_inv
  have r:=hA.told Es
  have hA':=hA.drop
  obtain ⟨a,xs,rfl,hq,hs,_⟩:=r.tup_inv
  obtain ⟨x,G',h1,h2,h3⟩:=oV hs hi
  exact .inr (.inl ⟨_,_,_,_,rfl,rfl,Se.of hq,h1,k _ _ G' H (hA'.part h2 h3) p⟩)
 ·obtain ⟨hz,c,hi,p⟩:=hd
  obtain ⟨rfl,_⟩:=(hA.told mem_mid).int_inv
  obtain ⟨rfl,_⟩:=(hA.told Es).str_inv
  exact .inr (.inr ⟨_,_,_,rfl,rfl,hz,hi,k _ _ [] H (hA.drop2.pushI (.str _)) p⟩)
 ·exact hd.elim
theorem Ec{X:Cx}{a b:Expr}{da db:DE}{pos:Pos}(ha:En X a da)(hb:En X b db)(hs:bX b:=by intro _ _; rfl):En X (.Subscript a b pos) (Tw qU da db):=J0 x3 P2 ha hb hs
def kW:Md->Md
 | .ow=>.ow
 | .pk=>.pk
 | _=>.tp
def Wg(i:Bool)(m:Md)(ds:List Ac)(P:DV->Prop):Prop:=match i with
 | true=>Dv ds=true/\P (.dat .ow (.list ds))
 | false=>P (.dat (kW m) (.list ds))
def pP(i:Bool)(m:Md)(ds:List Ac)(P:DV->Prop):Prop:=match i with
 | true=>Dv ds=true/\P (.dat .ow (.tuple ds))
 | false=>P (.dat (Mx m) (.tuple ds))
section
variable{K:PySem.W.Frag}{H0 H:Hp}{X:Addr->Prop}{n:Nat}{S T:List Ent}{v w:V}{m:Md}{d e:Ac}{F G:List Addr}{p:Addr}{xs:List V}{ds:List Ac}{P:DV->Prop}{i:Bool}
theorem At.newI(h:At K H0 X n (S++T) H)(r:RdFs K H xs ds G)(hi:Dv ds=true)(hz:ds.length<=Be)(hp:H p=none)(m:Md):At K H0 X n (S++⟨some (.ref p),.dat m (.list ds),[p]⟩::T) (upd H p (.lst xs)):=by
 obtain rfl:=r.imm hi
 have s1:=Hi hp (.lst xs)
 have h1:=h.grow (n':=n) s1 (Ap _)
 refine (h1.push (e:=⟨some (.ref p),.dat m (.list ds),[p]⟩) ⟨_,rfl,.lst Ej hz (r.kp (Kp.of s1)),λ_=>Di.mpr ⟨Cz,Ep⟩,λ_ a l z=>by cases z; exact Cz⟩ (λf hf=>?_) λa ha=>?_).tomid
 ·have nf:=h.free hp f hf
  refine ⟨λ_ a ha z=>?_,λ_ a ha z=>?_⟩
  ·have:=Fx _ a ha
   rw[Am.mp this] at z
   exact nf z
  ·rw[Am.mp z] at ha
   exact nf (Fx _ _ ha)
 ·have:=Fx _ a ha
  rw[Am.mp this]
  exact .inl (h.new0 hp)
theorem At.newL(h:At K H0 X n (S++⟨some v,.dat m d,F⟩::T) H)(r:RdFs K H xs ds G)(hG:G.Sublist F)(hz:ds.length<=Be)(hp:H p=none)(q:Wg i m ds P):∃z F',At K H0 X n (S++⟨some (.ref p),z,F'⟩::T) (upd H p (.lst xs))/\P z:=by
 cases i with
 | true=>exact ⟨_,_,h.drop.newI r q.1 hz hp .ow,q.2⟩
 | false =>
  have q:P (.dat (kW m) (.list ds)):=q
  refine ⟨_,p::G,?_,q⟩
  have s1:=Hi hp (.lst xs)
  have h2:=h.mid
  have hs:=Bt.mp h2.sep
  obtain ⟨v',e1,_,hn,_⟩:=h2.ok _ Ab
  have h1:=h.drop.grow (n':=n) s1 (Ap _)
  have npF:p∉F:=h2.free hp _ Ab
  have npG:p∉G:=λz=>npF (hG.subset z)
  have cs:∀a∈cells ⟨some (.ref p),.dat (kW m) (.list ds),p::G⟩,a=p\/(a∈cells ⟨some v,.dat m d,F⟩):=λa ha=>by
   cases m with
   | ow =>
    rcases Az.mp ha with z | z
    ·exact .inl z
    ·exact .inr (hG.subset z)
   | tp=>exact .inl (Am.mp ha)
   | sh=>exact .inl (Am.mp ha)
   | pk=>exact nomatch ha
  refine (h1.push (e:=⟨some (.ref p),.dat (kW m) (.list ds),p::G⟩) ⟨_,rfl,.lst Ej hz (r.kp (Kp.of s1)),λz=>?_,λz a l e=>?_⟩ (λf hf=>?_) λa ha=>?_).tomid
  ·cases m with
   | ow=>exact Di.mpr ⟨npG,(hn rfl).sublist hG⟩
   | _=>cases z
  ·cases e
   exact npG
  ·have nf:=h2.free hp f (Ak _ hf)
   refine ⟨λhq a ha z=>?_,λhq a ha z=>?_⟩
   ·rcases cs a ha with rfl | hc
    ·exact nf z
    ·refine (hs.1 f hf).1 ?_ a hc z
     rcases hq with hq | hq
     ·exact .inl hq
     ·cases hq
   ·rcases Az.mp z with rfl | z
    ·exact nf (Fx _ _ ha)
    ·refine (hs.1 f hf).2 ?_ a ha (hG.subset z)
     rcases hq with hq | hq
     ·refine .inl ?_
      cases m <;> first | rfl | exact hq
     ·exact .inr hq
  ·rcases cs a ha with rfl | hc
   ·exact .inl (h2.new0 hp)
   ·rcases h2.new _ Ab a hc with z | z
    ·exact .inl z
    ·cases z.2
theorem At.oldT{t:Addr}(h:At K H0 X n (S++⟨some v,.dat m d,F⟩::T) H)(r:RdFs K H xs ds G)(hG:G.Sublist F)(hz:ds.length<=Be)(ht:H t=some (.tup xs))(q:pP i m ds P):∃z F',At K H0 X n (S++⟨some (.ref t),z,F'⟩::T) H/\P z:=by
 cases i with
 | true =>
  obtain rfl:=r.imm q.1
  exact ⟨_,[],h.drop.pushI (.tup ht hz r),q.2⟩
 | false=>exact ⟨_,G,h.part (.tup ht hz r) hG,q⟩
end
def P5:DA:=λδ P=>P [] δ
def yD(de:DE)(da:DA):DA:=λδ P=>de δ λx δ1=>da δ1 λxs δ2=>P (x::xs) δ2
section
variable{X:Cx}{e:Expr}{es:List Expr}{de:DE}{da:DA}
theorem Ar:kU X [] P5:=by
 refine PA.imp Qx λσ H Q h=>?_
 obtain ⟨H0,Y,S,T,δ,P,rfl,hS,hA,hd,k⟩:=h
 exact k [] δ [] [] S H rfl hS rfl rfl hA hd
theorem Ae(ha:En X e de)(hr:kU X es da)(hs:Bs (e::es) X.env=(false,eval e X.env)::Bs es X.env:=by rfl):kU X (e::es) (yD de da):=by
 refine PA.imp (Iq ha hr hs) λσ H Q h=>?_
 obtain ⟨H0,Y,S,T,δ,P,rfl,hS,hA,hd,k⟩:=h
 refine ⟨H0,Y,S,T,δ,_,rfl,hS,hA,hd,λx δ1 v F S1 H1 e1 e2 hA1 p1=>?_⟩
 refine ⟨H0,Y,S1,⟨some v,x,F⟩::T,δ1,_,e1,e2,hA1,p1,λxs δ2 As us S2 H2 e3 e4 ex eu hA2 p2=>?_⟩
 refine k (x::xs) δ2 (⟨some v,x,F⟩::As) (v::us) S2 H2 e3 e4 (by rw[Ba,ex]) (by rw[Ba,Ba,eu]) (hA2.perm ((List.Perm.refl S2).append ?_)) p2
 exact Qb
end
def allOw:List DV->Bool
 | []=>true
 | .dat .ow _::xs=>allOw xs
 | _=>false
def noPk:List DV->Bool
 | []=>true
 | .dat .pk _::_=>false
 | .dat _ _::xs=>noPk xs
 | _=>false
def datas:List DV->Option (List Ac)
 | []=>some []
 | .dat _ d::xs=>(datas xs).map (d::·)
 | _=>none
def pkMd(Mt:Md)(xs:List DV):Md:=if allOw xs=true then .ow else if noPk xs=true then Mt else .pk
section
variable{K:PySem.W.Frag}{H0 H:Hp}{X:Addr->Prop}{n:Nat}{S T As:List Ent}
theorem Zt:∀{As:List Ent} {us:List V} {ds:List Ac},As.map Ent.v=us.map some->datas (As.map Ent.x)=some ds->(∀e∈As,Iu K H n e)->RdFs K H us ds (As.flatMap Ent.F)
 | [],us,ds,e,h,_=>by
  cases us with
  | nil=>cases h; exact .nil
  | cons _ _=>cases e
 | ent::As,us,ds,e,h,ok=>by
  cases us with
  | nil=>cases e
  | cons u us =>
   rw[Ba,Ba] at e
   obtain ⟨e1,e2⟩:=Fv e
   obtain ⟨v,x,F⟩:=ent
   have e1':v=some u:=e1
   subst e1'
   rw[Ba] at h
   cases x with
   | dat m d =>
    rw[show datas (DV.dat m d::As.map Ent.x)=(datas (As.map Ent.x)).map (d::·) from rfl] at h
    cases q:datas (As.map Ent.x) with
    | none=>rw[q] at h; cases h
    | some es =>
     rw[q] at h
     cases h
     obtain ⟨w,ew,rw',_⟩:=ok _ Ab
     cases ew
     rw[List.flatMap_cons]
     exact .cons rw' (Zt e2 q λf hf=>ok f (Ak _ hf))
   | _=>cases h
theorem Om:∀{As:List Ent},allOw (As.map Ent.x)=true->∀e∈As,∃d,e.x=.dat .ow d
 | [],_,_,h=>nomatch h
 | ⟨v,x,F⟩::As,h,e,he=>by
  rw[Ba] at h
  have hx:(∃d,x=.dat .ow d)/\allOw (As.map Ent.x)=true:=by
   cases x with
   | dat m d=>cases m <;> first | exact ⟨⟨d,rfl⟩,h⟩ | cases h
   | _=>cases h
  rcases Az.mp he with rfl | he
  ·exact hx.1
  ·exact Om hx.2 e he
theorem gB:∀{As:List Ent},noPk (As.map Ent.x)=true->∀e∈As,Oz e.x=false
 | [],_,_,h=>nomatch h
 | ⟨v,x,F⟩::As,h,e,he=>by
  rw[Ba] at h
  have hx:Oz x=false/\noPk (As.map Ent.x)=true:=by
   cases x with
   | dat m d=>cases m <;> first | exact ⟨rfl,h⟩ | cases h
   | _=>cases h
  rcases Az.mp he with rfl | he
  ·exact hx.1
  ·exact gB hx.2 e he
theorem Zr:∀{As:List Ent},(∀e∈As,∃d,e.x=.dat .ow d)->(∀e∈As,Iu K H n e)->As.Pairwise Ua->(As.flatMap Ent.F).Nodup
 | [],_,_,_=>Ep
 | ent::As,ho,ok,hs=>by
  rw[List.flatMap_cons]
  have hc:=Bt.mp hs
  obtain ⟨v,x,F⟩:=ent
  obtain ⟨d,hd⟩:=ho _ Ab
  have hd':x=.dat .ow d:=hd
  subst hd'
  obtain ⟨w,_,_,hn,_⟩:=ok _ Ab
  refine Gp.mpr ⟨hn rfl,Zr (λe he=>ho e (Ak _ he)) (λe he=>ok e (Ak _ he)) hc.2,λa ha b hb z=>?_⟩
  subst z
  obtain ⟨f,hf,hb⟩:=Ll.mp hb
  obtain ⟨d',hd'⟩:=ho f (Ak _ hf)
  exact (hc.1 f hf).1 (.inl (by rw[hd']; rfl)) a ha hb
theorem At.pack{v:V}{d:Ac}{N:List Addr}{H':Hp}{Mt:Md}(h:At K H0 X n (S++(As++T)) H)(s:Qm H H')(hN:∀a∈N,H a=none)(ndN:N.Nodup)(htop:(Mt=.tp/\N.length=1)\/(Mt=.sh/\N=[]))(r:RdF K H' v d (N++As.flatMap Ent.F)):At K H0 X n (S++⟨some v,.dat (pkMd Mt (As.map Ent.x)) d,N++As.flatMap Ent.F⟩::T) H':=by
 have hp:(S++(As++T)).Perm (As++(S++T)):=by
  rw[<- Ca,<- Ca]
  exact Fm.append_right T
 have h2:=h.perm hp
 have hs:=Cn.mp h2.sep
 have h1:=(h.dropL).grow (n':=n) s (Ap _)
 have nN:∀a∈N,∀f∈As++(S++T),a∉f.F:=λa ha f hf=>h2.free (hN a ha) f hf
 have nFlat:∀a∈N,a∉As.flatMap Ent.F:=λa ha z=>by
  obtain ⟨f,hf,z⟩:=Ll.mp z
  exact nN a ha f (Au _ hf) z
 have cs:∀a∈cells ⟨some v,.dat (pkMd Mt (As.map Ent.x)) d,N++As.flatMap Ent.F⟩,a∈N\/(allOw (As.map Ent.x)=true/\∃f∈As,a∈cells f):=λa ha=>by
  unfold pkMd at ha
  by_cases hw:allOw (As.map Ent.x)=true
  ·rw[if_pos hw] at ha
   rcases Bi.mp ha with z | z
   ·exact .inl z
   ·obtain ⟨f,hf,z⟩:=Ll.mp z
    obtain ⟨d',hd'⟩:=Om hw f hf
    refine .inr ⟨hw,f,hf,?_⟩
    unfold cells
    rw[hd']
    exact z
  ·rw[if_neg hw] at ha
   by_cases hk:noPk (As.map Ent.x)=true
   ·rw[if_pos hk] at ha
    rcases htop with ⟨rfl,h1⟩ | ⟨rfl,rfl⟩
    ·match N,h1,ha with
     | [b],_,ha=>exact .inl ha
    ·exact nomatch ha
   ·rw[if_neg hk] at ha
    exact nomatch ha
 refine (h1.push (e:=⟨some v,.dat (pkMd Mt (As.map Ent.x)) d,N++As.flatMap Ent.F⟩) ⟨_,rfl,r,λz=>?_,λz a l e=>?_⟩ (λf hf=>?_) λa ha=>?_).tomid
 ·have hw:allOw (As.map Ent.x)=true:=by
   unfold pkMd at z
   by_cases hw:allOw (As.map Ent.x)=true
   ·exact hw
   ·rw[if_neg hw] at z
    split at z
    ·rcases htop with ⟨rfl,_⟩ | ⟨rfl,_⟩ <;> cases z
    ·cases z
  refine Gp.mpr ⟨ndN,Zr (Om hw) (λe he=>h2.ok e (Au _ he)) hs.1,λa ha b hb e=>?_⟩
  subst e
  exact nFlat a ha hb
 ·have ht:Mt=.tp:=by
   unfold pkMd at z
   split at z
   ·cases z
   ·split at z
    ·exact z
    ·cases z
  subst ht
  rcases htop with ⟨_,h1⟩ | ⟨h1,_⟩
  ·match N,h1,e,nFlat with
   | [b],_,e,nFlat =>
    cases e
    exact nFlat a Ab
  ·cases h1
 ·have hf':f∈As++(S++T):=Av _ hf
  refine ⟨λhq a ha z=>?_,λhq a ha z=>?_⟩
  ·rcases cs a ha with hn | ⟨_,g,hg,hc⟩
   ·exact nN a hn f hf' z
   ·refine (hs.2.2 g hg f hf).1 ?_ a hc z
    rcases hq with hq | hq
    ·exact .inl hq
    ·cases hq
  ·rcases Bi.mp z with z | z
   ·exact nN a z f hf' (Fx _ _ ha)
   ·obtain ⟨g,hg,z⟩:=Ll.mp z
    refine (hs.2.2 g hg f hf).2 ?_ a ha z
    rcases hq with hq | hq
    ·refine .inl ?_
     have hq':Oz (.dat (pkMd Mt (As.map Ent.x)) d)=false:=hq
     unfold pkMd at hq'
     by_cases hw:allOw (As.map Ent.x)=true
     ·obtain ⟨d',hd'⟩:=Om hw g hg
      rw[hd']
      rfl
     ·rw[if_neg hw] at hq'
      by_cases hk:noPk (As.map Ent.x)=true
      ·exact gB hk g hg
      ·rw[if_neg hk] at hq'
       cases hq'
    ·exact .inr hq
 ·rcases cs a ha with hn | ⟨_,g,hg,hc⟩
  ·exact .inl (h2.new0 (hN a hn))
  ·rcases h2.new g (Au _ hg) a hc with z | z
   ·exact .inl z
   ·obtain ⟨d',hd'⟩:=Om (by assumption) g hg
    rw[hd'] at z
    cases z.2
end
def M3(da:DA):DE:=λδ P=>da δ λxs δ'=>match datas xs with
 | some ds=>ds.length<=1000/\P (.dat (pkMd .sh xs) (.tuple ds)) δ'
 | none=>False
def P3(da:DA):DE:=λδ P=>da δ λxs δ'=>match datas xs with
 | some ds=>ds.length<=1000/\P (.dat (pkMd .tp xs) (.list ds)) δ'
 | none=>False
section
variable{X:Cx}{es:List Expr}{da:DA}{pos:Pos}
theorem Vp{x1}(h:kU X es da):En X (.Tuple es x1 pos) (M3 da):=by
 refine PE.imp (zG h) λσ H Q h=>?_
 obtain ⟨H0,Y,S,T,δ,P,rfl,hS,hA,hd,k⟩:=h
 refine ⟨H0,Y,S,T,δ,_,rfl,hS,hA,hd,λxs δ' As us S' H' e1 e2 ex eu hA' p=>?_⟩
 cases q:datas xs with
 | none=>rw[q] at p; exact p.elim
 | some ds =>
  rw[q] at p
  subst ex
  have r:=Zt eu q λe he=>hA'.ok e (Av _ (Au _ he))
  have hl:=r.len
  have hz:ds.length<=Be:=sz p.1
  refine ⟨by omega,λt ht=>?_⟩
  have s1:=Hi ht (.tup us)
  exact k _ δ' _ _ S' _ e1 e2 (hA'.pack (N:=[]) s1 (λ_ z=>nomatch z) Ep (.inr ⟨rfl,rfl⟩) (.tup Ej hz (r.kp (Kp.of s1)))) p.2
theorem Fs(h:kU X es da):En X (.List es pos) (P3 da):=by
 refine PE.imp (jJ h) λσ H Q h=>?_
 obtain ⟨H0,Y,S,T,δ,P,rfl,hS,hA,hd,k⟩:=h
 refine ⟨H0,Y,S,T,δ,_,rfl,hS,hA,hd,λxs δ' As us S' H' e1 e2 ex eu hA' p=>?_⟩
 cases q:datas xs with
 | none=>rw[q] at p; exact p.elim
 | some ds =>
  rw[q] at p
  subst ex
  have r:=Zt eu q λe he=>hA'.ok e (Av _ (Au _ he))
  have hl:=r.len
  have hz:ds.length<=Be:=sz p.1
  refine ⟨by omega,λt ht=>?_⟩
  have s1:=Hi ht (.lst us)
  exact k _ δ' _ _ S' _ e1 e2 (hA'.pack (N:=[t]) s1 (λa z=>by rw[Am.mp z]; exact ht) (Di.mpr ⟨Cz,Ep⟩) (.inl ⟨rfl,rfl⟩) (.lst Ej hz (r.kp (Kp.of s1)))) p.2
end
end DL
namespace Nd
open PySem PySem.Spec PyProof.Rows L2
section
variable{X:Cx}
def xT:V->Option Int->Option Int->Hp->VK->Prop:=λx lo hi H Q=>∃a xs,x=.ref a/\H a=some (.tup xs)/\∀p H',H' p=some (.tup (Yg xs lo hi))->Qm H H'->Q (.ref p) H'
theorem vW:o5 X xT:=by
 intro pins s σ H x v vl vu lo hi sl Q I rx hs pl pu h
 obtain ⟨a,xs,rfl,hx',q⟩:=h
 have hx:Se X.K H a xs:=Se.of hx'
 cases rx
 by_cases hw:HT.sIx xs.length 0 lo=0/\HT.sIx xs.length xs.length hi=xs.length
 ·obtain ⟨its,r,ht,hz⟩:=I.tuple hx
  have hlen:its.toArray.size=xs.length:=by rw[Aq]; exact r.length.symm
  refine ⟨"tuple",_,Eb.lookup,ht.typeIs,?_⟩
  refine Sg ht hs pl pu (by rw[hlen]; exact hw) ⟨.ref a,H,I,rfl,q a H ?_ (Qm.refl _)⟩
  unfold Yg
  rw[hw.1,hw.2,List.drop_zero,Nat.sub_zero,Jh]
  exact hx'
 ·exact A3 pins s σ H (.ref a) (.ref a) vl vu lo hi sl Q I rfl hs pl pu ⟨a,xs,rfl,hx,hw,λp np=>q p _ Ej (Hi np _)⟩
end
theorem Mo:∀{vs:List Value} {ns:List Int},Fi (ns.map V.int) vs->∃xs:List (Int×Tok),vs=xs.map (λp=>Mz p.1 p.2)/\xs.map (·.1)=ns
 | [],[],_=>⟨[],rfl,rfl⟩
 | v::vs,n::ns,h=>by
  cases h with
  | cons h1 h2 =>
   obtain ⟨t,rfl⟩:=h1
   obtain ⟨xs,e1,e2⟩:=Mo h2
   exact ⟨(n,t)::xs,by rw[e1]; rfl,by rw[<- e2]; rfl⟩
 | [],n::ns,h=>nomatch h
 | v::vs,[],h=>nomatch h
section
variable{X:Cx}
def xZ(K:PySem.W.Frag):List V->Hp->VK->Prop:=λxs H Q=>∃(a:Addr) (ns:List Int),xs=[.ref a]/\Pu K H a (ns.map V.int)/\ns≠[]/\∀M∈ns,(∀x∈ns,M<=x)->Q (.int M) H
theorem lZ(hc:X.calm=true):Ld X (.builtin "min") (xZ X.K):=by
 intro pins s σ H xs us Q I r h
 obtain ⟨p,ns,rfl,hp,ne,q⟩:=h
 obtain ⟨u,rfl,ru⟩:=vals1 r
 cases ru
 obtain ⟨its,rv,pl,_⟩:=I.list hp
 obtain ⟨ps,rfl,rfl⟩:=Mo rv
 have hl:s.heap.IsList p (Ls ps.toArray):=by simpa [Ls] using pl.isList
 have hpos:0<ps.toArray.size:=by rcases ps with _ | ⟨x,ps⟩ <;> simp at ne ⊢
 refine min_intList (I.ok.hd hc) hl hpos λv h' tk hv k=>?_
 obtain ⟨t,rfl⟩:=intItems_at hv
 obtain ⟨h1,h2⟩:=argBest_lt (numAt ps.toArray) (ps.toArray.size - 1)
 refine ⟨.int _,H,I.kept k,⟨t,rfl⟩,q _ ?_ λx hx=>?_⟩
 ·rw[numAt_eq]; exact getD_mem (by rw[Aa]; show _<ps.length; have hs:ps.toArray.size=ps.length:=Aq; omega)
 ·obtain ⟨j,hj,rfl⟩:=mem_getD hx
  rw[Aa] at hj
  have:=h2 j (by have hs:ps.toArray.size=ps.length:=Aq; have hj':j<ps.length:=hj; omega)
  rw[numAt_eq ps.toArray j] at this
  exact this
end
end Nd
namespace Ts
open PySem PyProof.Rows
def Rt:Bool->Keyed->Array Keyed->Nat->Nat->Nat->StateT Bm Sem (Option Nat):=sortPriv% PySem.Builtin.gallop
structure Cmp(prog:Bp)(w:World)(A:Cr)(s:Al)(kd:Kl)(Ok:Keyed->Prop)(blt:Keyed->Keyed->Bool):Prop where
 run:∀(x y:Keyed) (Q:Bool->Al->Prop) (E:Value->Al->Prop),Ok x->Ok y->Q (blt x y) s->wpAny (model prog w) A (keyLt' kd x.1 y.1) Q E s
 irr:∀x,blt x x=false
 tr:∀x y z,blt x y=true->blt y z=true->blt x z=true
 neg:∀x y z,blt x z=true->blt x y=true\/blt y z=true
def le(blt:Keyed->Keyed->Bool)(x y:Keyed):Prop:=blt y x=false
section
variable{prog:Bp}{w:World}{A:Cr}{s:Al}{kd:Kl}{Ok:Keyed->Prop}{blt:Keyed->Keyed->Bool}
theorem Cmp.refl(C:Cmp prog w A s kd Ok blt)(x:Keyed):le blt x x:=C.irr x
theorem Cmp.ofLt(C:Cmp prog w A s kd Ok blt){x y:Keyed}(h:blt x y=true):le blt x y:=by
 unfold le
 cases q:blt y x with
 | false=>rfl
 | true=>have:=C.tr _ _ _ h q; rw[C.irr] at this; cases this
theorem Cmp.trans(C:Cmp prog w A s kd Ok blt){x y z:Keyed}(h1:le blt x y)(h2:le blt y z):le blt x z:=by
 unfold le at *
 cases q:blt z x with
 | false=>rfl
 | true =>
  rcases C.neg _ y _ q with h | h
  ·rw[h2] at h; cases h
  ·rw[h1] at h; cases h
theorem Cmp.ltLe(C:Cmp prog w A s kd Ok blt){x y z:Keyed}(h1:blt x y=true)(h2:le blt y z):blt x z=true:=by
 unfold le at h2
 rcases C.neg _ z _ h1 with h | h
 ·exact h
 ·rw[h2] at h; cases h
theorem Cmp.leLt(C:Cmp prog w A s kd Ok blt){x y z:Keyed}(h1:le blt x y)(h2:blt y z=true):blt x z=true:=by
 unfold le at h1
 rcases C.neg _ x _ h2 with h | h
 ·rw[h1] at h; cases h
 ·exact h
variable{E:Value->Al->Prop}
structure Kept(st st':Bm):Prop where
 kind:kindOf st'=kindOf st
 arr:arrOf st'=arrOf st
 pend:Bb st'=Bb st
 fail:Jz st'=Jz st
theorem Kept.refl(st:Bm):Kept st st:=⟨rfl,rfl,rfl,rfl⟩
theorem Kept.trans{a b c:Bm}(h:Kept a b)(k:Kept b c):Kept a c:=⟨k.kind.trans h.kind,k.arr.trans h.arr,k.pend.trans h.pend,k.fail.trans h.fail⟩
theorem eJ(C:Cmp prog w A s kd Ok blt){st:Bm}{x y:Keyed}{Q:Option Bool->Bm->Prop}(hk:kindOf st=kd)(ox:Ok x)(oy:Ok y)(h:Q (some (blt x y)) st):wpS (model prog w) A E s (lt' x y) Q st:=by
 rw[lt'_eq]
 refine Ax (Lq ?_)
 rw[hk]
 exact Ax (wpS_lift (wpAny_attempt (C.run x y _ _ ox oy ⟨rfl,Bc h⟩)))
theorem Ey{st:Bm}{xs:Array Keyed}{i:Nat}{p:Keyed}{Q:Keyed->Bm->Prop}(h:xs[i]? = some p)(q:Q p st):wpS (model prog w) A E s (elem' xs i) Q st:=by
 rw[elem'_eq,h]
 exact Bc q
def Rk(left:Bool)(key:Keyed)(arr:Array Keyed)(base i:Nat):StateT Bm Sem (Option Bool):=do
 let x <- elem' arr (base+i)
 if left then lt' x key else return (<- lt' key x).map (!·)
def kP(left:Bool)(key:Keyed)(arr:Array Keyed)(base n lo0 hi0:Nat):StateT Bm Sem (Option Nat):=do
 let mut lo:=lo0
 let mut hi:=hi0
 for _ in [0:n] do
  if lo ≥ hi then break
  let mid:=lo+(hi - lo) / 2
  let some up <- Rk left key arr base mid | return none
  if up then lo:=mid+1 else hi:=mid
 return some hi
theorem hZ(left:Bool)(key:Keyed)(arr:Array Keyed)(base n hint:Nat):Rt left key arr base n hint=(do
  let some right <- Rk left key arr base hint | return none
  let mut last:=0
  let mut ofs:=1
  if right then
   let Mt:=n - hint
   for _ in [0:n] do
    if ofs ≥ Mt then break
    let some up <- Rk left key arr base (hint+ofs) | return none
    if !up then break
    last:=ofs
    ofs:=2 * ofs+1
   kP left key arr base n (hint+last+1) (hint+min ofs Mt)
  else
   let Mt:=hint+1
   for _ in [0:n] do
    if ofs ≥ Mt then break
    let some got <- Rk left key arr base (hint - ofs) | return none
    if got then break
    last:=ofs
    ofs:=2 * ofs+1
   kP left key arr base n (hint+1 - min ofs Mt) (hint - last)):=rfl
def Fu(blt:Keyed->Keyed->Bool)(left:Bool)(key x:Keyed):Bool:=if left then blt x key else !blt key x
structure Row(Ok:Keyed->Prop)(arr:Array Keyed)(base n:Nat)(el:Nat->Keyed):Prop where
 at_:∀i,i<n->arr[base+i]? = some (el i)
 ok:∀i,i<n->Ok (el i)
theorem Rp(C:Cmp prog w A s kd Ok blt){st:Bm}{left:Bool}{key:Keyed}{arr:Array Keyed}{base n i:Nat}{el:Nat->Keyed}(R:Row Ok arr base n el)(ok:Ok key)(hk:kindOf st=kd)(hi:i<n){Q:Option Bool->Bm->Prop}(h:Q (some (Fu blt left key (el i))) st):wpS (model prog w) A E s (Rk left key arr base i) Q st:=by
 unfold Rk
 refine Ax (Ey (R.at_ i hi) ?_)
 cases left with
 | true =>
  rw[if_pos rfl]
  exact eJ C hk (R.ok i hi) ok h
 | false =>
  rw[if_neg Ce]
  exact Ax (eJ C hk ok (R.ok i hi) (Bc h))
theorem lV(C:Cmp prog w A s kd Ok blt){st:Bm}{left:Bool}{key:Keyed}{arr:Array Keyed}{base n lo hi:Nat}{el:Nat->Keyed}(R:Row Ok arr base n el)(ok:Ok key)(hk:kindOf st=kd)(mono:∀i j,i<=j->j<n->Fu blt left key (el j)=true->Fu blt left key (el i)=true)(h1:lo<=hi)(h2:hi<=n)(t1:∀i,i<lo->Fu blt left key (el i)=true)(t2:∀i,hi<=i->i<n->Fu blt left key (el i)=false){Q:Option Nat->Bm->Prop}(h:∀k,k<=n->(∀i,i<k->Fu blt left key (el i)=true)->(∀i,k<=i->i<n->Fu blt left key (el i)=false)->Q (some k) st):wpS (model prog w) A E s (kP left key arr base n lo hi) Q st:=by
 unfold kP
 refine Ax (Gb (Dz (I:=λx c st'=>∃l r,c=(none,l,r)/\st'=st/\l<=r/\r<=n/\r - l+x<=n/\(∀i,i<l->Fu blt left key (el i)=true)/\(∀i,r<=i->i<n->Fu blt left key (el i)=false))
  (Q:=λc st'=>∃r,c=(none,r,r)/\st'=st/\r<=n/\(∀i,i<r->Fu blt left key (el i)=true)/\(∀i,r<=i->i<n->Fu blt left key (el i)=false)) ?_ ?_ ⟨lo,hi,rfl,rfl,h1,h2,by omega,t1,t2⟩) ?_)
 ·(intro x c st' _ hx q_; obtain ⟨l,r,rfl,rfl,a1,a2,a3,b1,b2⟩ := q_)
  dsimp only
  by_cases hlr:l ≥ r
  ·rw[if_pos hlr]
   have e:l=r:=by omega
   subst e
   exact Bc ⟨l,rfl,rfl,a2,b1,b2⟩
  ·rw[if_neg hlr]
   have hm:l+(r - l) / 2<n:=by omega
   refine Ax (Rp C R ok hk hm ?_)
   dsimp only
   cases hb:Fu blt left key (el (l+(r - l) / 2)) with
   | true =>
    rw[if_pos rfl]
    exact Bc ⟨l+(r - l) / 2+1,r,rfl,rfl,by omega,a2,by omega,λi hi=>mono i _ (by omega) hm hb,b2⟩
   | false =>
    rw[if_neg Ce]
    refine Bc ⟨l,l+(r - l) / 2,rfl,rfl,by omega,by omega,by omega,b1,λi hi hn=>?_⟩
    cases q:Fu blt left key (el i) with
    | false=>rfl
    | true=>rw[mono _ i hi hn q] at hb; cases hb
 ·(intro c st' q_; obtain ⟨l,r,rfl,rfl,a1,a2,a3,b1,b2⟩ := q_)
  have e:l=r:=by
   have : max 0 n=n:=by omega
   rw[this] at a3
   omega
  subst e
  exact ⟨l,rfl,rfl,a2,b1,b2⟩
 ·(intro c st' q_; obtain ⟨r,rfl,rfl,a2,b1,b2⟩ := q_)
  exact Bc (h r a2 b1 b2)
theorem Me(C:Cmp prog w A s kd Ok blt){st:Bm}{left:Bool}{key:Keyed}{arr:Array Keyed}{base n hint:Nat}{el:Nat->Keyed}(R:Row Ok arr base n el)(ok:Ok key)(hk:kindOf st=kd)(hh:hint<n)(mono:∀i j,i<=j->j<n->Fu blt left key (el j)=true->Fu blt left key (el i)=true){Q:Option Nat->Bm->Prop}(h:∀k,k<=n->(∀i,i<k->Fu blt left key (el i)=true)->(∀i,k<=i->i<n->Fu blt left key (el i)=false)->Q (some k) st):wpS (model prog w) A E s (Rt left key arr base n hint) Q st:=by
 have anti:∀i j,i<=j->j<n->Fu blt left key (el i)=false->Fu blt left key (el j)=false:=λi j hij hj q=>by
  cases z:Fu blt left key (el j) with
  | false=>rfl
  | true=>rw[mono i j hij hj z] at q; cases q
 rw[hZ]
 refine Ax (Rp C R ok hk hh ?_)
 dsimp only
 cases hb:Fu blt left key (el hint) with
 | true =>
  rw[if_pos rfl]
  refine Ax (Gb (Dz (I:=λx c st'=>∃la o,c=(none,la,o)/\st'=st/\la<o/\x+1<=o/\hint+la<n/\Fu blt left key (el (hint+la))=true)
   (Q:=λc st'=>∃la o,c=(none,la,o)/\st'=st/\la<o/\hint+la<n/\Fu blt left key (el (hint+la))=true/\(o ≥ n - hint\/(hint+o<n/\Fu blt left key (el (hint+o))=false))) ?_ ?_
   ⟨0,1,rfl,rfl,by omega,by omega,by omega,hb⟩) ?_)
  ·(intro x c st' _ hx q_; obtain ⟨la,o,rfl,rfl,a1,a2,a3,b1⟩ := q_)
   dsimp only
   by_cases ho:o ≥ n - hint
   ·rw[if_pos ho]
    exact Bc ⟨la,o,rfl,rfl,a1,a3,b1,.inl ho⟩
   ·rw[if_neg ho]
    have hm:hint+o<n:=by omega
    refine Ax (Rp C R ok hk hm ?_)
    dsimp only
    cases hb2:Fu blt left key (el (hint+o)) with
    | true =>
     simp only[Bool.not_true,Ck,if_false]
     exact Bc ⟨o,2 * o+1,rfl,rfl,by omega,by omega,hm,hb2⟩
    | false =>
     simp only[Bool.not_false,if_true]
     exact Bc ⟨la,o,rfl,rfl,a1,a3,b1,.inr ⟨hm,hb2⟩⟩
  ·(intro c st' q_; obtain ⟨la,o,rfl,rfl,a1,a2,a3,b1⟩ := q_)
   have : max 0 n=n:=by omega
   rw[this] at a2
   exact ⟨la,o,rfl,rfl,a1,a3,b1,.inl (by omega)⟩
  ·(intro c st' q_; obtain ⟨la,o,rfl,rfl,a1,a3,b1,b2⟩ := q_)
   dsimp only
   refine lV C R ok hk mono (by omega) (by omega) (λi hi=>mono i _ (by omega) a3 b1) (λi hi hn=>?_) h
   rcases b2 with b2 | ⟨b2,b3⟩
   ·exfalso; omega
   ·exact anti _ i (by omega) hn b3
 | false =>
  rw[if_neg Ce]
  refine Ax (Gb (Dz (I:=λx c st'=>∃la o,c=(none,la,o)/\st'=st/\la<o/\x+1<=o/\la<=hint/\Fu blt left key (el (hint - la))=false)
   (Q:=λc st'=>∃la o,c=(none,la,o)/\st'=st/\la<o/\la<=hint/\Fu blt left key (el (hint - la))=false/\(o ≥ hint+1\/(o<=hint/\Fu blt left key (el (hint - o))=true))) ?_ ?_
   ⟨0,1,rfl,rfl,by omega,by omega,by omega,hb⟩) ?_)
  ·(intro x c st' _ hx q_; obtain ⟨la,o,rfl,rfl,a1,a2,a3,b1⟩ := q_)
   dsimp only
   by_cases ho:o ≥ hint+1
   ·rw[if_pos ho]
    exact Bc ⟨la,o,rfl,rfl,a1,a3,b1,.inl ho⟩
   ·rw[if_neg ho]
    have hm:hint - o<n:=by omega
    refine Ax (Rp C R ok hk hm ?_)
    dsimp only
    cases hb2:Fu blt left key (el (hint - o)) with
    | true =>
     rw[if_pos rfl]
     exact Bc ⟨la,o,rfl,rfl,a1,a3,b1,.inr ⟨by omega,hb2⟩⟩
    | false =>
     rw[if_neg Ce]
     exact Bc ⟨o,2 * o+1,rfl,rfl,by omega,by omega,by omega,hb2⟩
  ·(intro c st' q_; obtain ⟨la,o,rfl,rfl,a1,a2,a3,b1⟩ := q_)
   have : max 0 n=n:=by omega
   rw[this] at a2
   exact ⟨la,o,rfl,rfl,a1,a3,b1,.inl (by omega)⟩
  ·(intro c st' q_; obtain ⟨la,o,rfl,rfl,a1,a3,b1,b2⟩ := q_)
   dsimp only
   refine lV C R ok hk mono (by omega) (by omega) (λi hi=>?_) (λi hi hn=>anti _ i hi hn b1) h
   rcases b2 with b2 | ⟨b2,b3⟩
   ·exfalso; omega
   ·exact mono i _ (by omega) (by omega) b3
end
structure MI{α:Type}(R:α->α->Prop)(xs ys out:List α)(i j:Nat):Prop where
 perm:out.Perm (xs.take i++ys.take j)
 srt:out.Pairwise R
 lx:∀o∈out,∀z∈xs.drop i,R o z
 ly:∀o∈out,∀z∈ys.drop j,R o z
section
variable{α:Type}{R:α->α->Prop}{xs ys out:List α}{i j:Nat}
theorem bL{l:List α}{n:Nat}{a:α}(h:l[n]? = some a):l.drop n=a::l.drop (n+1):=by
 obtain ⟨hn,e⟩:=Ah.mp h
 rw[eE hn,e]
theorem take_snoc{l:List α}{n:Nat}{a:α}(h:l[n]? = some a):l.take (n+1)=l.take n++[a]:=by
 rw[List.take_succ,h]; rfl
theorem MI.pushY(M:MI R xs ys out i j)(sy:ys.Pairwise R){y:α}(hy:ys[j]? = some y)(hx:∀z∈xs.drop i,R y z):MI R xs ys (out++[y]) i (j+1):=by
 have dy:=bL hy
 have sd:(y::ys.drop (j+1)).Pairwise R:=by rw[<- dy]; exact Fw (Il _ _) sy
 obtain ⟨s1,s2⟩:=Bt.mp sd
 refine ⟨?_,?_,λo ho z hz=>?_,λo ho z hz=>?_⟩
 ·rw[take_snoc hy,<- Ca]
  exact M.perm.append_right _
 ·refine Cn.mpr ⟨M.srt,He _ _,λo ho z hz=>?_⟩
  have e:z=y:=by simpa using hz
  rw[e]
  exact M.ly o ho y (by rw[dy]; exact Ab)
 ·rcases Bi.mp ho with ho | ho
  ·exact M.lx o ho z hz
  ·have e:o=y:=by simpa using ho
   rw[e]; exact hx z hz
 ·rcases Bi.mp ho with ho | ho
  ·exact M.ly o ho z (by rw[dy]; exact Ak _ hz)
  ·have e:o=y:=by simpa using ho
   rw[e]; exact s1 z hz
theorem MI.pushX(M:MI R xs ys out i j)(sx:xs.Pairwise R){x:α}(hx:xs[i]? = some x)(hy:∀z∈ys.drop j,R x z):MI R xs ys (out++[x]) (i+1) j:=by
 have dx:=bL hx
 have sd:(x::xs.drop (i+1)).Pairwise R:=by rw[<- dx]; exact Fw (Il _ _) sx
 obtain ⟨s1,s2⟩:=Bt.mp sd
 refine ⟨?_,?_,λo ho z hz=>?_,λo ho z hz=>?_⟩
 ·rw[take_snoc hx]
  have p1:(out++[x]).Perm ((xs.take i++ys.take j)++[x]):=M.perm.append_right _
  refine p1.trans ?_
  rw[Ca,Ca]
  exact Ki _ Fm
 ·refine Cn.mpr ⟨M.srt,He _ _,λo ho z hz=>?_⟩
  have e:z=x:=by simpa using hz
  rw[e]
  exact M.lx o ho x (by rw[dx]; exact Ab)
 ·rcases Bi.mp ho with ho | ho
  ·exact M.lx o ho z (by rw[dx]; exact Ak _ hz)
  ·have e:o=x:=by simpa using ho
   rw[e]; exact s1 z hz
 ·rcases Bi.mp ho with ho | ho
  ·exact M.ly o ho z hz
  ·have e:o=x:=by simpa using ho
   rw[e]; exact hy z hz
theorem Qr{l:List α}{n k:Nat}{a:α}(h:l[n+k]? = some a):(l.drop n).take (k+1)=(l.drop n).take k++[a]:=take_snoc (by rw[Vv]; exact h)
theorem MI.blockX(M:MI R xs ys out i j)(sx:xs.Pairwise R):∀k,i+k<=xs.length->(∀m,m<k->∀x,xs[i+m]? = some x->∀z∈ys.drop j,R x z)->MI R xs ys (out++(xs.drop i).take k) (i+k) j
 | 0,_,_=>by simpa using M
 | k+1,hk,h=>by
  have ih:=MI.blockX M sx k (by omega) λm hm=>h m (by omega)
  obtain ⟨x,hx⟩ : ∃x,xs[i+k]? = some x:=⟨xs[i+k],by simp⟩
  rw[Qr hx,<- Ca]
  exact ih.pushX sx hx (h k (by omega) x hx)
theorem MI.blockY(M:MI R xs ys out i j)(sy:ys.Pairwise R):∀k,j+k<=ys.length->(∀m,m<k->∀y,ys[j+m]? = some y->∀z∈xs.drop i,R y z)->MI R xs ys (out++(ys.drop j).take k) i (j+k)
 | 0,_,_=>by simpa using M
 | k+1,hk,h=>by
  have ih:=MI.blockY M sy k (by omega) λm hm=>h m (by omega)
  obtain ⟨y,hy⟩ : ∃y,ys[j+k]? = some y:=⟨ys[j+k],by simp⟩
  rw[Qr hy,<- Ca]
  exact ih.pushY sy hy (h k (by omega) y hy)
theorem MI.endX(M:MI R xs ys out i j)(sx:xs.Pairwise R)(hj:ys.length<=j):(out++xs.drop i++ys.drop j).Perm (xs++ys)/\(out++xs.drop i++ys.drop j).Pairwise R:=by
 rw[List.drop_eq_nil_of_le hj,Dk]
 constructor
 ·have p1:(out++xs.drop i).Perm ((xs.take i++ys.take j)++xs.drop i):=M.perm.append_right _
  refine p1.trans ?_
  rw[Fd hj]
  have p2:(xs.take i++ys++xs.drop i).Perm (xs.take i++(xs.drop i++ys)):=by
   rw[Ca]
   exact Ki _ Fm
  refine p2.trans ?_
  rw[<- Ca,Ia]
 ·exact Cn.mpr ⟨M.srt,Fw (Il _ _) sx,M.lx⟩
theorem MI.endYX(M:MI R xs ys out i j)(sx:xs.Pairwise R)(sy:ys.Pairwise R)(h:∀y∈ys.drop j,∀x∈xs.drop i,R y x):(out++ys.drop j++xs.drop i).Perm (xs++ys)/\(out++ys.drop j++xs.drop i).Pairwise R:=by
 constructor
 ·have p1:(out++(ys.drop j++xs.drop i)).Perm ((xs.take i++ys.take j)++(ys.drop j++xs.drop i)):=M.perm.append_right _
  rw[Ca]
  refine p1.trans ?_
  rw[Ca,<- Ca (ys.take j),Ia]
  have p2:(xs.take i++(ys++xs.drop i)).Perm (xs.take i++(xs.drop i++ys)):=Ki _ Fm
  refine p2.trans ?_
  rw[<- Ca,Ia]
 ·refine Cn.mpr ⟨Cn.mpr ⟨M.srt,Fw (Il _ _) sy,M.ly⟩,Fw (Il _ _) sx,λa ha b hb=>?_⟩
  rcases Bi.mp ha with ha | ha
  ·exact M.lx a ha b hb
  ·exact h a ha b hb
end
def fS:Array Keyed->Array Keyed->StateT Bm Sem (Array Keyed):=sortPriv% PySem.Builtin.mergeLo
def Xd:Nat->StateT Bm Sem Unit:=sortPriv% PySem.Builtin.setMinGallop
abbrev t9(st:Bm)(g:Nat):Bm:=Ut (kindOf st) (arrOf st) (Bb st) g (Jz st)
theorem iH(g:Nat):Xd g=modify λst=>t9 st g:=rfl
theorem Xc(p:Array Keyed)(i:Nat):(p.extract i p.size).toList=p.toList.drop i:=by
 rw[Lw,Jl,Fd]
 rw[Qd,Aw]
 exact Ap _
theorem Uo(p:Array Keyed)(i k:Nat):(p.extract i (i+k)).toList=(p.toList.drop i).take k:=by
 rw[Lw,Jl,Nat.add_sub_cancel_left]
abbrev dn(p q out:Array Keyed)(i j:Nat):Array Keyed:=out++p.extract i p.size++q.extract j q.size
abbrev lst(p q out:Array Keyed)(i j:Nat):Array Keyed:=out++q.extract j q.size++p.extract i p.size
theorem uV(p q out:Array Keyed)(i j:Nat):(dn p q out i j).toList=out.toList++p.toList.drop i++q.toList.drop j:=by
 rw[Cv,Cv,Xc,Xc]
theorem sO(p q out:Array Keyed)(i j:Nat):(lst p q out i j).toList=out.toList++q.toList.drop j++p.toList.drop i:=by
 rw[Cv,Cv,Xc,Xc]
abbrev vJ:=Option (Array Keyed)×Array Keyed×Nat×Nat×Nat×Nat×Nat
def uH(p q out:Array Keyed)(i j g ac k:Nat):StateT Bm Sem (ForInStep vJ):=do
 let x <- elem' p i
 if (i+1+1 == p.size)=true then pure (Cp (some (lst p q (out.push x) (i+1) j),out.push x,i+1,j,g,ac,k))
 else if (decide (ac<7) && decide (k<7))=true then pure (Cp (none,out.push x,i+1,j,g,ac,k))
 else pure (Fb (none,out.push x,i+1,j,g,ac,k))
def uJ(p q out:Array Keyed)(i j g ac bc:Nat):StateT Bm Sem (ForInStep vJ):=do
 let y <- elem' q j
 if (j+1 == q.size)=true then pure (Cp (some (dn p q (out.push y) i (j+1)),out.push y,i,j+1,g,ac,bc))
 else do
  let x <- elem' p i
  let some k <- Rt true x q (j+1) (q.size - (j+1)) 0 | pure (Cp (some (dn p q (out.push y) i (j+1)),out.push y,i,j+1,g,ac,bc))
  if k > 0 then
   if (j+1+k == q.size)=true then pure (Cp (some (dn p q (out.push y++q.extract (j+1) (j+1+k)) i (j+1+k)),out.push y++q.extract (j+1) (j+1+k),i,j+1+k,g,ac,k))
   else uH p q (out.push y++q.extract (j+1) (j+1+k)) i (j+1+k) g ac k
  else uH p q (out.push y) i (j+1) g ac k
def r9(p q out:Array Keyed)(i j g ac bc:Nat):StateT Bm Sem (ForInStep vJ):=do
 Xd g
 let y <- elem' q j
 let some k <- Rt false y p i (p.size - i) 0 | pure (Cp (some (dn p q out i j),out,i,j,g,ac,bc))
 if k > 0 then
  if (i+k+1 == p.size)=true then pure (Cp (some (lst p q (out++p.extract i (i+k)) (i+k) j),out++p.extract i (i+k),i+k,j,g,k,bc))
  else if (i+k == p.size)=true then pure (Cp (some (dn p q (out++p.extract i (i+k)) (i+k) j),out++p.extract i (i+k),i+k,j,g,k,bc))
  else uJ p q (out++p.extract i (i+k)) (i+k) j g k bc
 else uJ p q out i j g k bc
section
variable{prog:Bp}{w:World}{A:Cr}{s:Al}{kd:Kl}{Ok:Keyed->Prop}{blt:Keyed->Keyed->Bool}{E:Value->Al->Prop}
theorem Rl{st:Bm}{x:String}{Q:Unit->Bm->Prop}(h:Q () st):wpS (model prog w) A E s (liftM (rule x):StateT Bm Sem Unit) Q st:=wpS_lift (wpAny_rule ⟨rfl,h⟩)
theorem Ro{st:Bm}{g:Nat}{Q:Unit->Bm->Prop}(h:∀st',Kept st st'->Q () st'):wpS (model prog w) A E s (Xd g) Q st:=by
 rw[iH]
 exact Ie (h _ ⟨rfl,rfl,rfl,rfl⟩)
structure Two(Ok:Keyed->Prop)(blt:Keyed->Keyed->Bool)(p q:Array Keyed)(x0 y0 xl:Keyed):Prop where
 op:∀x∈p.toList,Ok x
 oq:∀x∈q.toList,Ok x
 sp:p.toList.Pairwise (le blt)
 sq:q.toList.Pairwise (le blt)
 hx0:p[0]? = some x0
 hy0:q[0]? = some y0
 hxl:p[p.size - 1]? = some xl
 first:blt y0 x0=true
 last:∀y∈q.toList,blt y xl=true
abbrev iE(blt:Keyed->Keyed->Bool)(p q r:Array Keyed):Prop:=r.toList.Perm (p.toList++q.toList)/\r.toList.Pairwise (le blt)
theorem Dx{p:Array Keyed}{i:Nat}{x:Keyed}(h:p[i]? = some x):p.toList[i]? = some x:=by simpa using h
theorem Fc{p:Array Keyed}{i:Nat}(h:i<p.size):∃x,p[i]? = some x:=⟨p[i],by simp [h]⟩
theorem Hy{p:Array Keyed}{i:Nat}{x:Keyed}(h:p[i]? = some x):x∈p.toList:=An (Dx h)
theorem eO{α:Type}{l:List α}{i:Nat}{z:α}(h:z∈l.drop i):∃k,l[i+k]? = some z:=by
 obtain ⟨k,hk,e⟩:=Gq.mp h
 exact ⟨k,by rw[<- Vv,Ai hk,e]⟩
theorem Ju(C:Cmp prog w A s kd Ok blt){l:List Keyed}(sl:l.Pairwise (le blt)){i j:Nat}{x y:Keyed}(hij:i<=j)(hx:l[i]? = some x)(hy:l[j]? = some y):le blt x y:=by
 by_cases e:i=j
 ·subst e
  rw[hx] at hy
  cases hy
  exact C.refl x
 ·obtain ⟨hi,ex⟩:=Ah.mp hx
  obtain ⟨hj,ey⟩:=Ah.mp hy
  have:=Da.mp sl i j hi hj (by omega)
  rw[ex,ey] at this
  exact this
theorem Nb(C:Cmp prog w A s kd Ok blt){l:List Keyed}(sl:l.Pairwise (le blt)){i:Nat}{x y:Keyed}(hx:l[i]? = some x)(h:le blt y x):∀z∈l.drop i,le blt y z:=λz hz=>by
 obtain ⟨k,hk⟩:=eO hz
 exact C.trans h (Ju C sl (Nat.le_add_right i k) hx hk)
abbrev LI(blt:Keyed->Keyed->Bool)(p q out:Array Keyed)(i j:Nat):Prop:=MI (le blt) p.toList q.toList out.toList i j
theorem Mb(out:Array Keyed)(x:Keyed):(out.push x).toList=out.toList++[x]:=by simp
theorem Two.last_end(C:Cmp prog w A s kd Ok blt){p q out:Array Keyed}{x0 y0 xl:Keyed}(T:Two Ok blt p q x0 y0 xl){i j:Nat}(M:LI blt p q out i j)(hi:i+1=p.size):iE blt p q (lst p q out i j):=by
 have h:=M.endYX T.sp T.sq (λy hy x hx=>?_)
 ·rw[<- sO] at h
  exact h
 ·obtain ⟨k,hk⟩:=eO hx
  have : k=0:=by
   have:=(Ah.mp hk).1
   rw[Aw] at this
   omega
  subst this
  have e:x=xl:=by
   have:=Dx T.hxl
   rw[show p.size - 1=i+0 by omega,hk] at this
   exact Bo this
  rw[e]
  exact C.ofLt (T.last y (List.mem_of_mem_drop hy))
theorem Two.done_end{p q out:Array Keyed}{x0 y0 xl:Keyed}(T:Two Ok blt p q x0 y0 xl){i j:Nat}(M:LI blt p q out i j)(hj:q.size<=j):iE blt p q (dn p q out i j):=by
 have h:=M.endX T.sp (by rw[Aw]; exact hj)
 rw[<- uV] at h
 exact h
def Q8(blt:Keyed->Keyed->Bool)(p q:Array Keyed)(st:Bm)(n:Nat)(r:ForInStep vJ)(st':Bm):Prop:=Kept st st'/\match r with
 | .done (some r,_)=>iE blt p q r
 | .done (none,out,i,j,_)=>LI blt p q out i j/\i+1<p.size/\j<q.size/\n<i+j
 | .yield (none,out,i,j,_)=>LI blt p q out i j/\i+1<p.size/\j<q.size/\n<i+j
 | .yield (some _,_)=>False
theorem kF(C:Cmp prog w A s kd Ok blt){p q out:Array Keyed}{x0 y0 xl:Keyed}(T:Two Ok blt p q x0 y0 xl){i j g ac k n:Nat}{st0 st:Bm}(kp:Kept st0 st)(M:LI blt p q out i j)(hi:i+1<p.size)(hj:j<q.size)(hn:n<=i+j){x:Keyed}(hx:p[i]? = some x)(hq:∀z∈q.toList.drop j,le blt x z):wpS (model prog w) A E s (uH p q out i j g ac k) (Q8 blt p q st0 n) st:=by
 unfold uH
 refine Ax (Ey hx ?_)
 have M1:LI blt p q (out.push x) (i+1) j:=by
  have:=M.pushX T.sp (Dx hx) hq
  rw[<- Mb] at this
  exact this
 by_cases h1:i+1+1=p.size
 ·rw[if_pos (by rw[h1]; exact beq_self_eq_true _)]
  exact Bc ⟨kp,T.last_end C M1 h1⟩
 ·rw[if_neg (λz=>h1 (Dn z))]
  by_cases h2:(decide (ac<7) && decide (k<7))=true
  ·rw[if_pos h2]
   exact Bc ⟨kp,M1,by omega,hj,by omega⟩
  ·rw[if_neg h2]
   exact Bc ⟨kp,M1,by omega,hj,by omega⟩
theorem lX(C:Cmp prog w A s kd Ok blt){p q out:Array Keyed}{x0 y0 xl:Keyed}(T:Two Ok blt p q x0 y0 xl){i j g ac bc n:Nat}{st0 st:Bm}(kp:Kept st0 st)(hk:kindOf st=kd)(M:LI blt p q out i j)(hi:i+1<p.size)(hj:j<q.size)(hn:n<=i+j){x y:Keyed}(hx:p[i]? = some x)(hy:q[j]? = some y)(hyx:blt y x=true):wpS (model prog w) A E s (uJ p q out i j g ac bc) (Q8 blt p q st0 n) st:=by
 unfold uJ
 refine Ax (Ey hy ?_)
 have M1:LI blt p q (out.push y) i (j+1):=by
  have:=M.pushY T.sq (Dx hy) (Nb C T.sp (Dx hx) (C.ofLt hyx))
  rw[<- Mb] at this
  exact this
 by_cases h1:j+1=q.size
 ·rw[if_pos (by rw[h1]; exact beq_self_eq_true _)]
  exact Bc ⟨kp,T.done_end M1 (by omega)⟩
 ·rw[if_neg (λz=>h1 (Dn z))]
  refine Ax (Ey hx ?_)
  have R:Row Ok q (j+1) (q.size - (j+1)) (λm=>q.getD (j+1+m) y):=⟨λm hm=>?_,λm hm=>?_⟩
  ·refine Ax (Me C R (T.op x (Hy hx)) hk (by omega) (λa b hab hb q1=>?_) λk hk1 t1 t2=>?_)
   ·obtain ⟨ya,ea⟩:=Fc (p:=q) (i:=j+1+a) (by omega)
    obtain ⟨yb,eb⟩:=Fc (p:=q) (i:=j+1+b) (by omega)
    have ga:q.getD (j+1+a) y=ya:=by simp [Do,ea]
    have gb:q.getD (j+1+b) y=yb:=by simp [Do,eb]
    simp only[ga,gb,Fu,if_true] at q1 ⊢
    exact C.leLt (Ju C T.sq (by omega) (Dx ea) (Dx eb)) q1
   ·dsimp only
    have val:∀m yy,q[j+1+m]? = some yy->q.getD (j+1+m) y=yy:=λm yy e=>by simp [Do,e]
    have M2:LI blt p q (out.push y++q.extract (j+1) (j+1+k)) i (j+1+k):=by
     have:=M1.blockY T.sq k (by rw[Aw]; omega) (λm hm yy ey=>by
      have ey':q[j+1+m]? = some yy:=by simpa using ey
      have:=t1 m hm
      rw[val m yy ey'] at this
      simp only[Fu,if_true] at this
      exact Nb C T.sp (Dx hx) (C.ofLt this))
     rw[<- Uo,<- Cv] at this
     exact this
    by_cases h2:k > 0
    ·rw[if_pos h2]
     by_cases h3:j+1+k=q.size
     ·rw[if_pos (by rw[h3]; exact beq_self_eq_true _)]
      exact Bc ⟨kp,T.done_end M2 (by omega)⟩
     ·rw[if_neg (λz=>h3 (Dn z))]
      obtain ⟨yk,ek⟩:=Fc (p:=q) (i:=j+1+k) (by omega)
      refine kF C T kp M2 hi (by omega) (by omega) hx (Nb C T.sq (Dx ek) ?_)
      have:=t2 k (Ap _) (by omega)
      rw[val k yk ek] at this
      have z:blt yk x=false:=by simpa only [Fu,if_true] using this
      exact z
    ·rw[if_neg h2]
     have hk0:k=0:=by omega
     subst hk0
     obtain ⟨yk,ek⟩:=Fc (p:=q) (i:=j+1) (by omega)
     refine kF C T kp M1 hi (by omega) (by omega) hx (Nb C T.sq (Dx ek) ?_)
     have:=t2 0 (Ap _) (by omega)
     rw[val 0 yk ek] at this
     have z:blt yk x=false:=by simpa only [Fu,if_true] using this
     exact z
  ·obtain ⟨ya,ea⟩:=Fc (p:=q) (i:=j+1+m) (by omega)
   rw[ea]
   simp [Do,ea]
  ·obtain ⟨ya,ea⟩:=Fc (p:=q) (i:=j+1+m) (by omega)
   have : q.getD (j+1+m) y=ya:=by simp [Do,ea]
   rw[this]
   exact T.oq ya (Hy ea)
theorem uI(C:Cmp prog w A s kd Ok blt){p q out:Array Keyed}{x0 y0 xl:Keyed}(T:Two Ok blt p q x0 y0 xl){i j g ac bc n:Nat}{st0 st:Bm}(kp:Kept st0 st)(hk:kindOf st=kd)(M:LI blt p q out i j)(hi:i+1<p.size)(hj:j<q.size)(hn:n<=i+j):wpS (model prog w) A E s (r9 p q out i j g ac bc) (Q8 blt p q st0 n) st:=by
 unfold r9
 refine Ax (Ro λst1 kp1=>?_)
 have kp':=kp.trans kp1
 have hk':kindOf st1=kd:=kp1.kind.trans hk
 obtain ⟨y,hy⟩:=Fc (p:=q) hj
 refine Ax (Ey hy ?_)
 have val:∀m xx,p[i+m]? = some xx->p.getD (i+m) y=xx:=λm xx e=>by simp [Do,e]
 have R:Row Ok p i (p.size - i) (λm=>p.getD (i+m) y):=⟨λm hm=>by
  obtain ⟨xa,ea⟩:=Fc (p:=p) (i:=i+m) (by omega)
  rw[val m xa ea,ea],λm hm=>by
  obtain ⟨xa,ea⟩:=Fc (p:=p) (i:=i+m) (by omega)
  show Ok (p.getD (i+m) y)
  rw[val m xa ea]
  exact T.op xa (Hy ea)⟩
 refine Ax (Me C R (T.oq y (Hy hy)) hk' (by omega) (λa b hab hb q1=>?_) λk hk1 t1 t2=>?_)
 ·obtain ⟨xa,ea⟩:=Fc (p:=p) (i:=i+a) (by omega)
  obtain ⟨xb,eb⟩:=Fc (p:=p) (i:=i+b) (by omega)
  simp only[val a xa ea,val b xb eb,Fu,Ck,if_false,Ip] at q1 ⊢
  exact C.trans (Ju C T.sp (by omega) (Dx ea) (Dx eb)) q1
 ·dsimp only
  -- the last one is beyond y: so k does not reach it
  have hkl:i+k+1<=p.size:=by
   rcases Nat.lt_or_ge (i+k) p.size with z | z
   ·omega
   ·exfalso
    have:=t1 (p.size - 1 - i) (by omega)
    have e:p[i+(p.size - 1 - i)]? = some xl:=by
     rw[show i+(p.size - 1 - i)=p.size - 1 by omega]
     exact T.hxl
    rw[val _ xl e] at this
    simp only[Fu,Ck,if_false,T.last y (Hy hy),Bool.not_true] at this
  have M1:LI blt p q (out++p.extract i (i+k)) (i+k) j:=by
   have:=M.blockX T.sp k (by rw[Aw]; omega) (λm hm xx ex=>by
    have ex':p[i+m]? = some xx:=by simpa using ex
    have:=t1 m hm
    rw[val m xx ex'] at this
    simp only[Fu,Ck,if_false,Ip] at this
    exact Nb C T.sq (Dx hy) this)
   rw[<- Uo,<- Cv] at this
   exact this
  obtain ⟨xk,ek⟩:=Fc (p:=p) (i:=i+k) (by omega)
  have hyx:blt y xk=true:=by
   have:=t2 k (Ap _) (by omega)
   rw[val k xk ek] at this
   simpa only [Fu,Ck,if_false,Vw] using this
  by_cases h2:k > 0
  ·rw[if_pos h2]
   by_cases h3:i+k+1=p.size
   ·rw[if_pos (by rw[h3]; exact beq_self_eq_true _)]
    exact Bc ⟨kp',T.last_end C M1 h3⟩
   ·rw[if_neg (λz=>h3 (Dn z)),if_neg (λz=>by have:=Dn z; omega)]
    exact lX C T kp' hk' M1 (by omega) hj (by omega) ek hy hyx
  ·rw[if_neg h2]
   have hk0:k=0:=by omega
   subst hk0
   exact lX C T kp' hk' M hi hj hn ek hy hyx
theorem iD(C:Cmp prog w A s kd Ok blt){p q:Array Keyed}{x0 y0 xl:Keyed}(T:Two Ok blt p q x0 y0 xl){st:Bm}(hk:kindOf st=kd){Q:Array Keyed->Bm->Prop}(h:∀r st',Kept st st'->iE blt p q r->Q r st'):wpS (model prog w) A E s (fS p q) Q st:=by
 have p0:0<p.size:=by
  have:=(Iz.mp T.hx0).1
  exact this
 have q0:0<q.size:=by
  have:=(Iz.mp T.hy0).1
  exact this
 have M0:LI blt p q #[y0] 0 1:=by
  have m:LI blt p q #[] 0 0:=⟨by simp,by simp,λo ho=>by simp at ho,λo ho=>by simp at ho⟩
  have:=m.pushY T.sq (Dx T.hy0) (Nb C T.sp (Dx T.hx0) (C.ofLt T.first))
  simpa using this
 unfold fS
 refine Ax (Rl ?_)
 refine Ax (Ey T.hy0 ?_)
 dsimp only
 by_cases h1:1=q.size
 ·rw[if_pos (by rw[<- h1]; rfl)]
  exact Bc (h _ _ (Kept.refl _) (T.done_end M0 (by omega)))
 rw[if_neg (λz=>h1 (Dn z))]
 by_cases h2:0+1=p.size
 ·rw[if_pos (by rw[<- h2]; rfl)]
  exact Bc (h _ _ (Kept.refl _) (T.last_end C M0 (by omega)))
 rw[if_neg (λz=>h2 (Dn z))]
 refine Ax (Lq ?_)
 refine Ax (Gb (Dz
  (I:=λx c st'=>Kept st st'/\∃out i j g,c=(none,out,i,j,g)/\LI blt p q out i j/\i+1<p.size/\j<q.size/\x+1<=i+j)
  (Q:=λc st'=>Kept st st'/\∃r Ft,c=(some r,Ft)/\iE blt p q r) ?_ ?_ ⟨Kept.refl _,_,0,1,_,rfl,M0,by omega,by omega,by omega⟩) ?_)
 ·(intro x c st1 _ hx q_; obtain ⟨kp1,out,i,j,g,rfl,M,hi,hj,hn⟩ := q_)
  dsimp only
  -- one by one
  refine Ax (Gb (Dz
   (I:=λ_ c st'=>st'=st1/\∃out i j ac bc,c=(none,out,i,j,ac,bc)/\LI blt p q out i j/\i+1<p.size/\j<q.size/\x+1<=i+j)
   (Q:=λc st'=>st'=st1/\((∃r Ft,c=(some r,Ft)/\iE blt p q r)\/∃out i j ac bc,c=(none,out,i,j,ac,bc)/\LI blt p q out i j/\i+1<p.size/\j<q.size/\x+1<=i+j)) ?_ ?_ ⟨rfl,out,i,j,0,0,rfl,M,hi,hj,hn⟩) ?_)
  ·(intro z c st2 _ hz q_; obtain ⟨rfl,out,i,j,ac,bc,rfl,M,hi,hj,hn⟩ := q_)
   dsimp only
   obtain ⟨yy,hy⟩:=Fc (p:=q) hj
   obtain ⟨xx,hx⟩:=Fc (p:=p) (i:=i) (by omega)
   refine Ax (Ey hy ?_)
   refine Ax (Ey hx ?_)
   refine Ax (eJ C (kp1.kind.trans hk) (T.oq yy (Hy hy)) (T.op xx (Hy hx)) ?_)
   dsimp only
   cases hb:blt yy xx with
   | true =>
    rw[if_pos rfl]
    refine Ax (Ey hy ?_)
    have M1:LI blt p q (out.push yy) i (j+1):=by
     have:=M.pushY T.sq (Dx hy) (Nb C T.sp (Dx hx) (C.ofLt hb))
     rw[<- Mb] at this
     exact this
    by_cases e1:j+1=q.size
    ·rw[if_pos (by rw[e1]; exact beq_self_eq_true _)]
     exact Bc ⟨rfl,.inl ⟨_,_,rfl,T.done_end M1 (by omega)⟩⟩
    ·rw[if_neg (λz=>e1 (Dn z))]
     split
     ·exact Bc ⟨rfl,.inr ⟨_,_,_,_,_,rfl,M1,hi,by omega,by omega⟩⟩
     ·exact Bc ⟨rfl,_,_,_,_,_,rfl,M1,hi,by omega,by omega⟩
   | false =>
    rw[if_neg Ce]
    refine Ax (Ey hx ?_)
    have M1:LI blt p q (out.push xx) (i+1) j:=by
     have:=M.pushX T.sp (Dx hx) (Nb C T.sq (Dx hy) hb)
     rw[<- Mb] at this
     exact this
    by_cases e1:i+1+1=p.size
    ·rw[if_pos (by rw[e1]; exact beq_self_eq_true _)]
     exact Bc ⟨rfl,.inl ⟨_,_,rfl,T.last_end C M1 (by omega)⟩⟩
    ·rw[if_neg (λz=>e1 (Dn z))]
     split
     ·exact Bc ⟨rfl,.inr ⟨_,_,_,_,_,rfl,M1,by omega,hj,by omega⟩⟩
     ·exact Bc ⟨rfl,_,_,_,_,_,rfl,M1,by omega,hj,by omega⟩
  ·(intro c st2 q_; obtain ⟨rfl,out,i,j,ac,bc,rfl,M⟩ := q_)
   exact ⟨rfl,.inr ⟨out,i,j,ac,bc,rfl,M⟩⟩
  ·rintro c st2 ⟨rfl,hc⟩
   rcases hc with hc | hc
   ·obtain ⟨r,Ft,rfl,hr⟩:=hc
    exact Bc ⟨kp1,r,_,rfl,hr⟩
   ·obtain ⟨out,i,j,ac,bc,rfl,M,hi,hj,hn⟩:=hc
    dsimp only
    refine Ax (Rl ?_)
    -- the gallop
    refine Ax (Gb (Dz
     (I:=λy c st'=>Kept st st'/\∃out i j g ac bc,c=(none,out,i,j,g,ac,bc)/\LI blt p q out i j/\i+1<p.size/\j<q.size/\(if y=0 then x+1<=i+j else x+2<=i+j))
     (Q:=λc st'=>Kept st st'/\((∃r Ft,c=(some r,Ft)/\iE blt p q r)\/∃out i j g ac bc,c=(none,out,i,j,g,ac,bc)/\LI blt p q out i j/\i+1<p.size/\j<q.size/\x+2<=i+j)) ?_ ?_
     ⟨kp1,out,i,j,_,ac,bc,rfl,M,hi,hj,by rw[if_pos rfl]; exact hn⟩) ?_)
    ·(intro y c Tc _ hy q_; obtain ⟨kp3,out,i,j,g,ac,bc,rfl,M,hi,hj,hn⟩ := q_)
     have hn':x+1<=i+j:=by split at hn <;> omega
     have key:∀g',wpS (model prog w) A E s (r9 p q out i j g' ac bc) (Q8 blt p q st (x+1)) Tc:=λg'=>uI C T kp3 (kp3.kind.trans hk) M hi hj hn'
     dsimp only
     refine Gb (?_:wpS (model prog w) A E s _ (Q8 blt p q st (x+1)) Tc) λr st4 hr=>?_
     ·by_cases hg:g > 1
      ·rw[if_pos hg]
       exact key _
      ·rw[if_neg hg]
       exact key _
     ·obtain ⟨kp4,hr⟩:=hr
      match r,hr with
      | .done (some r,Ft),hr=>exact ⟨kp4,.inl ⟨r,Ft,rfl,hr⟩⟩
      | .done (none,out,i,j,g,ac,bc),hr=>exact ⟨kp4,.inr ⟨out,i,j,g,ac,bc,rfl,hr.1,hr.2.1,hr.2.2.1,by have:=hr.2.2.2; omega⟩⟩
      | .yield (none,out,i,j,g,ac,bc),hr=>exact ⟨kp4,out,i,j,g,ac,bc,rfl,hr.1,hr.2.1,hr.2.2.1,by rw[if_neg (by omega)]; have:=hr.2.2.2; omega⟩
    ·(intro c Tc q_; obtain ⟨kp3,out,i,j,g,ac,bc,rfl,M,hi,hj,hn⟩ := q_)
     rw[if_neg (by omega)] at hn
     exact ⟨kp3,.inr ⟨out,i,j,g,ac,bc,rfl,M,hi,hj,hn⟩⟩
    ·rintro c Tc ⟨kp3,hc⟩
     rcases hc with hc | hc
     ·obtain ⟨r,Ft,rfl,hr⟩:=hc
      exact Bc ⟨kp3,r,_,rfl,hr⟩
     ·obtain ⟨out,i,j,g,ac,bc,rfl,M,hi,hj,hn⟩:=hc
      dsimp only
      refine Ax (Ro λst4 kp4=>?_)
      exact Bc ⟨kp3.trans kp4,out,i,j,_,rfl,M,hi,hj,by omega⟩
 ·(intro c st1 q_; obtain ⟨kp1,out,i,j,g,rfl,M,hi,hj,hn⟩ := q_)
  exfalso
  have : max 0 (p.size+q.size)=p.size+q.size:=by omega
  rw[this] at hn
  omega
 ·(intro c st1 q_; obtain ⟨kp1,r,Ft,rfl,hr⟩ := q_)
  exact Bc (h r st1 kp1 hr)
end
def fB:Array Keyed->Array Keyed->StateT Bm Sem (Array Keyed):=sortPriv% PySem.Builtin.mergeHi
abbrev zU(p q out:Array Keyed)(m n:Nat):Array Keyed:=p.extract 0 m++q.extract 0 n++out.reverse
abbrev S6(p q out:Array Keyed)(m n:Nat):Array Keyed:=q.extract 0 n++p.extract 0 m++out.reverse
abbrev xR:=Option (Array Keyed)×Nat×Nat×Array Keyed×Nat×Nat×Nat
def wQ(p q out:Array Keyed)(m n g ac k:Nat):StateT Bm Sem (ForInStep xR):=do
 let x <- elem' p (m - 1)
 if (m - 1 == 0)=true then pure (Cp (some (zU p q (out.push x) (m - 1) n),m - 1,n,out.push x,g,ac,k))
 else if (decide (ac<7) && decide (k<7))=true then pure (Cp (none,m - 1,n,out.push x,g,ac,k))
 else pure (Fb (none,m - 1,n,out.push x,g,ac,k))
def vF(p q out:Array Keyed)(m n g ac bc:Nat):StateT Bm Sem (ForInStep xR):=do
 let y <- elem' q (n - 1)
 if (n - 1 == 1)=true then pure (Cp (some (S6 p q (out.push y) m (n - 1)),m,n - 1,out.push y,g,ac,bc))
 else do
  let x <- elem' p (m - 1)
  let some t <- Rt true x q 0 (n - 1) (n - 1 - 1) | pure (Cp (some (zU p q (out.push y) m (n - 1)),m,n - 1,out.push y,g,ac,bc))
  if n - 1 - t > 0 then
   if (t == 1)=true then pure (Cp (some (S6 p q (out.push y++(q.extract t (n - 1)).reverse) m t),m,t,out.push y++(q.extract t (n - 1)).reverse,g,ac,n - 1 - t))
   else if (t == 0)=true then pure (Cp (some (zU p q (out.push y++(q.extract t (n - 1)).reverse) m t),m,t,out.push y++(q.extract t (n - 1)).reverse,g,ac,n - 1 - t))
   else wQ p q (out.push y++(q.extract t (n - 1)).reverse) m t g ac (n - 1 - t)
  else wQ p q (out.push y) m (n - 1) g ac (n - 1 - t)
def w8(p q out:Array Keyed)(m n g ac bc:Nat):StateT Bm Sem (ForInStep xR):=do
 Xd g
 let y <- elem' q (n - 1)
 let some t <- Rt false y p 0 m (m - 1) | pure (Cp (some (zU p q out m n),m,n,out,g,ac,bc))
 if m - t > 0 then
  if (t == 0)=true then pure (Cp (some (zU p q (out++(p.extract t m).reverse) t n),t,n,out++(p.extract t m).reverse,g,m - t,bc))
  else vF p q (out++(p.extract t m).reverse) t n g (m - t) bc
 else vF p q out m n g (m - t) bc
section
variable{α:Type}{R:α->α->Prop}{xs ys out:List α}{i j:Nat}
theorem MI.swap(M:MI R xs ys out i j):MI R ys xs out j i:=⟨M.perm.trans Fm,M.srt,M.ly,M.lx⟩
theorem MI.endXY(M:MI R xs ys out i j)(sx:xs.Pairwise R)(sy:ys.Pairwise R)(h:∀x∈xs.drop i,∀y∈ys.drop j,R x y):(out++xs.drop i++ys.drop j).Perm (xs++ys)/\(out++xs.drop i++ys.drop j).Pairwise R:=by
 have:=M.swap.endYX sy sx h
 exact ⟨this.1.trans Fm,this.2⟩
end
abbrev ge(blt:Keyed->Keyed->Bool)(x y:Keyed):Prop:=le blt y x
abbrev HI(blt:Keyed->Keyed->Bool)(p q out:Array Keyed)(m n:Nat):Prop:=MI (ge blt) p.toList.reverse q.toList.reverse out.toList (p.size - m) (q.size - n)
theorem Hx(p:Array Keyed){m:Nat}(h:m<=p.size):p.toList.reverse.drop (p.size - m)=(p.toList.take m).reverse:=by
 rw[List.drop_reverse,Aw]
 congr 2
 omega
theorem sV{p:Array Keyed}{m:Nat}{x:Keyed}(h0:0<m)(h:m<=p.size)(e:p[m - 1]? = some x):p.toList.reverse[p.size - m]? = some x:=by
 rw[Sj (by rw[Aw]; omega),Aw,show p.size - 1 - (p.size - m)=m - 1 by omega]
 exact Dx e
theorem xJ(p:Array Keyed)(m:Nat):(p.extract 0 m).toList=p.toList.take m:=by
 rw[Lw,Jl,List.drop_zero,Nat.sub_zero]
theorem Q3(p:Array Keyed){t m:Nat}(h1:t<=m)(h2:m<=p.size):(p.extract t m).reverse.toList=(p.toList.reverse.drop (p.size - m)).take (m - t):=by
 rw[Hx p h2,List.take_reverse,Sr,Lw,Jl,Dj,Aw,List.drop_take]
 congr 2
 ·omega
 ·congr 1
  omega
section
variable{prog:Bp}{w:World}{A:Cr}{s:Al}{kd:Kl}{Ok:Keyed->Prop}{blt:Keyed->Keyed->Bool}{E:Value->Al->Prop}
theorem Hz{l:List Keyed}(h:l.Pairwise (le blt)):l.reverse.Pairwise (ge blt):=Si.mpr h
theorem Two.dn_end{p q out:Array Keyed}{x0 y0 xl:Keyed}(T:Two Ok blt p q x0 y0 xl){m n:Nat}(M:HI blt p q out m n)(hm:m<=p.size)(hn:n<=q.size)(h:m=0\/n=0):iE blt p q (zU p q out m n):=by
 have h1:=M.endYX (Hz T.sp) (Hz T.sq) (λy hy x hx=>by
  rw[Hx p hm] at hx
  rw[Hx q hn] at hy
  rcases h with h | h
  ·subst h; simp at hx
  ·subst h; simp at hy)
 rw[Hx p hm,Hx q hn] at h1
 have e:(zU p q out m n).toList=(out.toList++(q.toList.take n).reverse++(p.toList.take m).reverse).reverse:=by
  rw[Cv,Cv,xJ,xJ,Sr]
  simp
 refine ⟨?_,?_⟩
 ·rw[e]
  refine (Ij _).trans (h1.1.trans ?_)
  exact List.Perm.append (Ij _) (Ij _)
 ·rw[e]
  exact Si.mpr h1.2
theorem Two.fs_end(C:Cmp prog w A s kd Ok blt){p q out:Array Keyed}{x0 y0 xl:Keyed}(T:Two Ok blt p q x0 y0 xl){m n:Nat}(M:HI blt p q out m n)(hm:m<=p.size)(hn:n=1)(hq:1<=q.size):iE blt p q (S6 p q out m n):=by
 subst hn
 have h1:=M.endXY (Hz T.sp) (Hz T.sq) (λx hx y hy=>by
  rw[Hx p hm] at hx
  rw[Hx q hq] at hy
  have ey:y=y0:=by
   have : y∈q.toList.take 1:=Lk.mp hy
   obtain ⟨k,hk,e⟩:=Gq.mp this
   have hk0:k=0:=by
    rw[Dj] at hk
    omega
   subst hk0
   have e2:q.toList[0]? = some y:=by
    rw[<- e,<- Ai hk,Ea (by omega)]
   rw[Dx T.hy0] at e2
   exact (Bo e2).symm
  rw[ey]
  have hx':x∈p.toList:=List.mem_of_mem_take (Lk.mp hx)
  obtain ⟨k,hk,e⟩:=Gq.mp hx'
  have e2:p.toList[k]? = some x:=by rw[<- e,Ai hk]
  exact C.trans (C.ofLt T.first) (Ju C T.sp (Ei k) (Dx T.hx0) e2))
 rw[Hx p hm,Hx q hq] at h1
 have e:(S6 p q out m 1).toList=(out.toList++(p.toList.take m).reverse++(q.toList.take 1).reverse).reverse:=by
  rw[Cv,Cv,xJ,xJ,Sr]
  simp
 refine ⟨?_,?_⟩
 ·rw[e]
  refine (Ij _).trans (h1.1.trans ?_)
  exact List.Perm.append (Ij _) (Ij _)
 ·rw[e]
  exact Si.mpr h1.2
theorem Ru(C:Cmp prog w A s kd Ok blt){p:Array Keyed}(sp:p.toList.Pairwise (le blt)){m:Nat}{x y:Keyed}(h0:0<m)(hm:m<=p.size)(hx:p[m - 1]? = some x)(h:le blt x y):∀z∈p.toList.reverse.drop (p.size - m),ge blt y z:=λz hz=>by
 rw[Hx p hm] at hz
 obtain ⟨k,hk,e⟩:=Gq.mp (Lk.mp hz)
 have e2:p.toList[k]? = some z:=by
  rw[Dj] at hk
  rw[<- e,<- Ai (by rw[Dj]; exact hk),Ea (by omega)]
 rw[Dj] at hk
 exact C.trans (Ju C sp (by omega) e2 (Dx hx)) h
theorem HI.pushX(C:Cmp prog w A s kd Ok blt){p q out:Array Keyed}{x0 y0 xl:Keyed}(T:Two Ok blt p q x0 y0 xl){m n:Nat}(M:HI blt p q out m n)(h0:0<m)(hm:m<=p.size){x:Keyed}(hx:p[m - 1]? = some x)(h:∀z∈q.toList.reverse.drop (q.size - n),ge blt x z):HI blt p q (out.push x) (m - 1) n:=by
 have:=MI.pushX M (Hz T.sp) (sV h0 hm hx) h
 rw[<- Mb,show p.size - m+1=p.size - (m - 1) by omega] at this
 exact this
theorem HI.pushY(C:Cmp prog w A s kd Ok blt){p q out:Array Keyed}{x0 y0 xl:Keyed}(T:Two Ok blt p q x0 y0 xl){m n:Nat}(M:HI blt p q out m n)(h0:0<n)(hn:n<=q.size){y:Keyed}(hy:q[n - 1]? = some y)(h:∀z∈p.toList.reverse.drop (p.size - m),ge blt y z):HI blt p q (out.push y) m (n - 1):=by
 have:=MI.pushY M (Hz T.sq) (sV h0 hn hy) h
 rw[<- Mb,show q.size - n+1=q.size - (n - 1) by omega] at this
 exact this
def F6(blt:Keyed->Keyed->Bool)(p q:Array Keyed)(st:Bm)(b:Nat)(r:ForInStep xR)(st':Bm):Prop:=Kept st st'/\match r with
 | .done (some r,_)=>iE blt p q r
 | .done (none,m,n,out,_)=>HI blt p q out m n/\0<m/\m<=p.size/\1<n/\n<=q.size/\m+n<b
 | .yield (none,m,n,out,_)=>HI blt p q out m n/\0<m/\m<=p.size/\1<n/\n<=q.size/\m+n<b
 | .yield (some _,_)=>False
theorem lR(C:Cmp prog w A s kd Ok blt){p q out:Array Keyed}{x0 y0 xl:Keyed}(T:Two Ok blt p q x0 y0 xl){m n g ac k b:Nat}{st0 st:Bm}(kp:Kept st0 st)(M:HI blt p q out m n)(m0:0<m)(hm:m<=p.size)(n0:1<n)(hn:n<=q.size)(hb:m+n<=b){x:Keyed}(hx:p[m - 1]? = some x)(hq:∀z∈q.toList.reverse.drop (q.size - n),ge blt x z):wpS (model prog w) A E s (wQ p q out m n g ac k) (F6 blt p q st0 b) st:=by
 unfold wQ
 refine Ax (Ey hx ?_)
 have M1:=HI.pushX C T M m0 hm hx hq
 by_cases h1:m - 1=0
 ·rw[if_pos (by rw[h1]; rfl)]
  exact Bc ⟨kp,T.dn_end M1 (by omega) hn (.inl h1)⟩
 ·rw[if_neg (λz=>h1 (Dn z))]
  by_cases h2:(decide (ac<7) && decide (k<7))=true
  ·rw[if_pos h2]
   exact Bc ⟨kp,M1,by omega,by omega,n0,hn,by omega⟩
  ·rw[if_neg h2]
   exact Bc ⟨kp,M1,by omega,by omega,n0,hn,by omega⟩
theorem kY(C:Cmp prog w A s kd Ok blt){p q out:Array Keyed}{x0 y0 xl:Keyed}(T:Two Ok blt p q x0 y0 xl){m n g ac bc b:Nat}{st0 st:Bm}(kp:Kept st0 st)(hk:kindOf st=kd)(M:HI blt p q out m n)(m0:0<m)(hm:m<=p.size)(n0:1<n)(hn:n<=q.size)(hb:m+n<=b){x y:Keyed}(hx:p[m - 1]? = some x)(hy:q[n - 1]? = some y)(hxy:le blt x y):wpS (model prog w) A E s (vF p q out m n g ac bc) (F6 blt p q st0 b) st:=by
 unfold vF
 refine Ax (Ey hy ?_)
 have M1:=HI.pushY C T M (by omega) hn hy (Ru C T.sp m0 hm hx hxy)
 by_cases h1:n - 1=1
 ·rw[if_pos (by rw[h1]; rfl)]
  exact Bc ⟨kp,T.fs_end C M1 hm h1 (by omega)⟩
 rw[if_neg (λz=>h1 (Dn z))]
 refine Ax (Ey hx ?_)
 have val:∀i yy,q[i]? = some yy->q.getD (0+i) y=yy:=λi yy e=>by rw[Nj]; simp [Do,e]
 have R:Row Ok q 0 (n - 1) (λi=>q.getD (0+i) y):=⟨λi hi=>by
  obtain ⟨ya,ea⟩:=Fc (p:=q) (i:=i) (by omega)
  rw[val i ya ea,Nj,ea],λi hi=>by
  obtain ⟨ya,ea⟩:=Fc (p:=q) (i:=i) (by omega)
  show Ok (q.getD (0+i) y)
  rw[val i ya ea]
  exact T.oq ya (Hy ea)⟩
 refine Ax (Me C R (T.op x (Hy hx)) hk (by omega) (λa c hab hc q1=>?_) λt ht t1 t2=>?_)
 ·obtain ⟨ya,ea⟩:=Fc (p:=q) (i:=a) (by omega)
  obtain ⟨yc,ec⟩:=Fc (p:=q) (i:=c) (by omega)
  simp only[val a ya ea,val c yc ec,Fu,if_true] at q1 ⊢
  exact C.leLt (Ju C T.sq hab (Dx ea) (Dx ec)) q1
 dsimp only
 have M2:HI blt p q (out.push y++(q.extract t (n - 1)).reverse) m t:=by
  have:=MI.blockY M1 (Hz T.sq) (n - 1 - t) (by rw[List.length_reverse,Aw]; omega) (λi hi yy ey=>by
   have e1:q[n - 1 - i - 1]? = some yy:=by
    rw[Sj (by rw[Aw]; omega),Aw,show q.size - 1 - (q.size - (n - 1)+i)=n - 1 - i - 1 by omega] at ey
    simpa using ey
   have:=t2 (n - 1 - i - 1) (by omega) (by omega)
   rw[val _ yy e1] at this
   have z:blt yy x=false:=by simpa only [Fu,if_true] using this
   exact Ru C T.sp m0 hm hx z)
  rw[<- Q3 q (by omega) (by omega),<- Cv,show q.size - (n - 1)+(n - 1 - t)=q.size - t by omega] at this
  exact this
 -- what is left of q is below x
 have below:∀z∈q.toList.reverse.drop (q.size - t),ge blt x z:=λz hz=>by
  rw[Hx q (by omega)] at hz
  obtain ⟨k,hk',e⟩:=Gq.mp (Lk.mp hz)
  rw[Dj] at hk'
  have e2:q.toList[k]? = some z:=by
   rw[<- e,<- Ai (by rw[Dj]; exact hk'),Ea (by omega)]
  have e3:q[k]? = some z:=by simpa using e2
  have:=t1 k (by omega)
  rw[val k z e3] at this
  exact C.ofLt (by simpa only [Fu,if_true] using this)
 by_cases h2:n - 1 - t > 0
 ·rw[if_pos h2]
  by_cases h3:t=1
  ·rw[if_pos (by rw[h3]; rfl)]
   exact Bc ⟨kp,T.fs_end C M2 hm h3 (by omega)⟩
  ·rw[if_neg (λz=>h3 (Dn z))]
   by_cases h4:t=0
   ·rw[if_pos (by rw[h4]; rfl)]
    exact Bc ⟨kp,T.dn_end M2 hm (by omega) (.inr h4)⟩
   ·rw[if_neg (λz=>h4 (Dn z))]
    exact lR C T kp M2 m0 hm (by omega) (by omega) (by omega) hx below
 ·rw[if_neg h2]
  have et:t=n - 1:=by omega
  rw[et] at below
  exact lR C T kp M1 m0 hm (by omega) (by omega) (by omega) hx below
theorem vB(C:Cmp prog w A s kd Ok blt){p q out:Array Keyed}{x0 y0 xl:Keyed}(T:Two Ok blt p q x0 y0 xl){m n g ac bc b:Nat}{st0 st:Bm}(kp:Kept st0 st)(hk:kindOf st=kd)(M:HI blt p q out m n)(m0:0<m)(hm:m<=p.size)(n0:1<n)(hn:n<=q.size)(hb:m+n<=b):wpS (model prog w) A E s (w8 p q out m n g ac bc) (F6 blt p q st0 b) st:=by
 unfold w8
 refine Ax (Ro λst1 kp1=>?_)
 have kp':=kp.trans kp1
 have hk':kindOf st1=kd:=kp1.kind.trans hk
 obtain ⟨y,hy⟩:=Fc (p:=q) (i:=n - 1) (by omega)
 refine Ax (Ey hy ?_)
 have val:∀i xx,p[i]? = some xx->p.getD (0+i) y=xx:=λi xx e=>by rw[Nj]; simp [Do,e]
 have R:Row Ok p 0 m (λi=>p.getD (0+i) y):=⟨λi hi=>by
  obtain ⟨xa,ea⟩:=Fc (p:=p) (i:=i) (by omega)
  rw[val i xa ea,Nj,ea],λi hi=>by
  obtain ⟨xa,ea⟩:=Fc (p:=p) (i:=i) (by omega)
  show Ok (p.getD (0+i) y)
  rw[val i xa ea]
  exact T.op xa (Hy ea)⟩
 refine Ax (Me C R (T.oq y (Hy hy)) hk' (by omega) (λa c hab hc q1=>?_) λt ht t1 t2=>?_)
 ·obtain ⟨xa,ea⟩:=Fc (p:=p) (i:=a) (by omega)
  obtain ⟨xc,ec⟩:=Fc (p:=p) (i:=c) (by omega)
  simp only[val a xa ea,val c xc ec,Fu,Ck,if_false,Ip] at q1 ⊢
  exact C.trans (Ju C T.sp hab (Dx ea) (Dx ec)) q1
 dsimp only
 have M1:HI blt p q (out++(p.extract t m).reverse) t n:=by
  have:=MI.blockX M (Hz T.sp) (m - t) (by rw[List.length_reverse,Aw]; omega) (λi hi xx ex=>by
   have e1:p[m - i - 1]? = some xx:=by
    rw[Sj (by rw[Aw]; omega),Aw,show p.size - 1 - (p.size - m+i)=m - i - 1 by omega] at ex
    simpa using ex
   have:=t2 (m - i - 1) (by omega) (by omega)
   rw[val _ xx e1] at this
   have z:blt y xx=true:=by simpa only [Fu,Ck,if_false,Vw] using this
   exact Ru C T.sq (by omega) hn hy (C.ofLt z))
  rw[<- Q3 p (by omega) hm,<- Cv,show p.size - m+(m - t)=p.size - t by omega] at this
  exact this
 have below:∀x,0<t->p[t - 1]? = some x->le blt x y:=λx h0 hx=>by
  have:=t1 (t - 1) (by omega)
  rw[val _ x hx] at this
  have z:blt y x=false:=by simpa only [Fu,Ck,if_false,Ip] using this
  exact z
 by_cases h2:m - t > 0
 ·rw[if_pos h2]
  by_cases h3:t=0
  ·rw[if_pos (by rw[h3]; rfl)]
   exact Bc ⟨kp',T.dn_end M1 (by omega) hn (.inl h3)⟩
  ·rw[if_neg (λz=>h3 (Dn z))]
   obtain ⟨x,hx⟩:=Fc (p:=p) (i:=t - 1) (by omega)
   exact kY C T kp' hk' M1 (by omega) (by omega) n0 hn (by omega) hx hy (below x (by omega) hx)
 ·rw[if_neg h2]
  have et:t=m:=by omega
  subst et
  obtain ⟨x,hx⟩:=Fc (p:=p) (i:=t - 1) (by omega)
  exact kY C T kp' hk' M m0 hm n0 hn hb hx hy (below x m0 hx)
theorem jG(C:Cmp prog w A s kd Ok blt){p q:Array Keyed}{x0 y0 xl:Keyed}(T:Two Ok blt p q x0 y0 xl){st:Bm}(hk:kindOf st=kd){Q:Array Keyed->Bm->Prop}(h:∀r st',Kept st st'->iE blt p q r->Q r st'):wpS (model prog w) A E s (fB p q) Q st:=by
 have p0:0<p.size:=(Iz.mp T.hx0).1
 have q0:0<q.size:=(Iz.mp T.hy0).1
 obtain ⟨yl,hyl⟩:=Fc (p:=q) (i:=q.size - 1) (by omega)
 have M0:HI blt p q #[xl] (p.size - 1) q.size:=by
  have m:HI blt p q #[] p.size q.size:=⟨by simp,by simp,λo ho=>by simp at ho,λo ho=>by simp at ho⟩
  have:=HI.pushX C T m p0 (Ap _) T.hxl (Ru C T.sq q0 (Ap _) hyl (C.ofLt (T.last yl (Hy hyl))))
  simpa using this
 unfold fB
 refine Ax (Rl ?_)
 refine Ax (Ey T.hxl ?_)
 dsimp only
 by_cases h1:p.size - 1=0
 ·rw[if_pos (by rw[h1]; rfl)]
  exact Bc (h _ _ (Kept.refl _) (T.dn_end M0 (by omega) (by omega) (.inl h1)))
 rw[if_neg (λz=>h1 (Dn z))]
 by_cases h2:q.size=1
 ·rw[if_pos (by rw[h2]; rfl)]
  exact Bc (h _ _ (Kept.refl _) (T.fs_end C M0 (by omega) h2 (by omega)))
 rw[if_neg (λz=>h2 (Dn z))]
 refine Ax (Lq ?_)
 refine Ax (Gb (Dz
  (I:=λx c st'=>Kept st st'/\∃m n out g,c=(none,m,n,out,g)/\HI blt p q out m n/\0<m/\m<=p.size/\1<n/\n<=q.size/\m+n+x+1<=p.size+q.size)
  (Q:=λc st'=>Kept st st'/\∃r Ft,c=(some r,Ft)/\iE blt p q r) ?_ ?_ ⟨Kept.refl _,_,_,_,_,rfl,M0,by omega,by omega,by omega,by omega,by omega⟩) ?_)
 ·(intro x c st1 _ hx q_; obtain ⟨kp1,m,n,out,g,rfl,M,m0,hm,n0,hn,hb⟩ := q_)
  dsimp only
  -- one by one
  refine Ax (Gb (Dz
   (I:=λ_ c st'=>st'=st1/\∃m n out ac bc,c=(none,m,n,out,ac,bc)/\HI blt p q out m n/\0<m/\m<=p.size/\1<n/\n<=q.size/\m+n+x+1<=p.size+q.size)
   (Q:=λc st'=>st'=st1/\((∃r Ft,c=(some r,Ft)/\iE blt p q r)\/∃m n out ac bc,c=(none,m,n,out,ac,bc)/\HI blt p q out m n/\0<m/\m<=p.size/\1<n/\n<=q.size/\m+n+x+1<=p.size+q.size)) ?_ ?_ ⟨rfl,m,n,out,0,0,rfl,M,m0,hm,n0,hn,hb⟩) ?_)
  ·(intro z c st2 _ hz q_; obtain ⟨rfl,m,n,out,ac,bc,rfl,M,m0,hm,n0,hn,hb⟩ := q_)
   dsimp only
   obtain ⟨yy,hy⟩:=Fc (p:=q) (i:=n - 1) (by omega)
   obtain ⟨xx,hx⟩:=Fc (p:=p) (i:=m - 1) (by omega)
   refine Ax (Ey hy ?_)
   refine Ax (Ey hx ?_)
   refine Ax (eJ C (kp1.kind.trans hk) (T.oq yy (Hy hy)) (T.op xx (Hy hx)) ?_)
   dsimp only
   cases hlt:blt yy xx with
   | true =>
    rw[if_pos rfl]
    refine Ax (Ey hx ?_)
    have M1:=HI.pushX C T M m0 hm hx (Ru C T.sq (by omega) hn hy (C.ofLt hlt))
    by_cases e1:m - 1=0
    ·rw[if_pos (by rw[e1]; rfl)]
     exact Bc ⟨rfl,.inl ⟨_,_,rfl,T.dn_end M1 (by omega) hn (.inl e1)⟩⟩
    ·rw[if_neg (λz=>e1 (Dn z))]
     split
     ·exact Bc ⟨rfl,.inr ⟨_,_,_,_,_,rfl,M1,by omega,by omega,n0,hn,by omega⟩⟩
     ·exact Bc ⟨rfl,_,_,_,_,_,rfl,M1,by omega,by omega,n0,hn,by omega⟩
   | false =>
    rw[if_neg Ce]
    refine Ax (Ey hy ?_)
    have M1:=HI.pushY C T M (by omega) hn hy (Ru C T.sp m0 hm hx hlt)
    by_cases e1:n - 1=1
    ·rw[if_pos (by rw[e1]; rfl)]
     exact Bc ⟨rfl,.inl ⟨_,_,rfl,T.fs_end C M1 hm e1 (by omega)⟩⟩
    ·rw[if_neg (λz=>e1 (Dn z))]
     split
     ·exact Bc ⟨rfl,.inr ⟨_,_,_,_,_,rfl,M1,m0,hm,by omega,by omega,by omega⟩⟩
     ·exact Bc ⟨rfl,_,_,_,_,_,rfl,M1,m0,hm,by omega,by omega,by omega⟩
  ·(intro c st2 q_; obtain ⟨rfl,m,n,out,ac,bc,rfl,M⟩ := q_)
   exact ⟨rfl,.inr ⟨m,n,out,ac,bc,rfl,M⟩⟩
  ·rintro c st2 ⟨rfl,hc⟩
   rcases hc with hc | hc
   ·obtain ⟨r,Ft,rfl,hr⟩:=hc
    exact Bc ⟨kp1,r,_,rfl,hr⟩
   ·obtain ⟨m,n,out,ac,bc,rfl,M,m0,hm,n0,hn,hb⟩:=hc
    dsimp only
    refine Ax (Rl ?_)
    -- the gallop
    refine Ax (Gb (Dz
     (I:=λy c st'=>Kept st st'/\∃m n out g ac bc,c=(none,m,n,out,g,ac,bc)/\HI blt p q out m n/\0<m/\m<=p.size/\1<n/\n<=q.size/\(if y=0 then m+n+x+1<=p.size+q.size else m+n+x+2<=p.size+q.size))
     (Q:=λc st'=>Kept st st'/\((∃r Ft,c=(some r,Ft)/\iE blt p q r)\/∃m n out g ac bc,c=(none,m,n,out,g,ac,bc)/\HI blt p q out m n/\0<m/\m<=p.size/\1<n/\n<=q.size/\m+n+x+2<=p.size+q.size)) ?_ ?_
     ⟨kp1,m,n,out,_,ac,bc,rfl,M,m0,hm,n0,hn,by rw[if_pos rfl]; exact hb⟩) ?_)
    ·(intro y c Tc _ hy q_; obtain ⟨kp3,m,n,out,g,ac,bc,rfl,M,m0,hm,n0,hn,hb⟩ := q_)
     have hb':m+n+x+1<=p.size+q.size:=by split at hb <;> omega
     have key:∀g',wpS (model prog w) A E s (w8 p q out m n g' ac bc) (F6 blt p q st (m+n)) Tc:=λg'=>vB C T kp3 (kp3.kind.trans hk) M m0 hm n0 hn (Ap _)
     dsimp only
     refine Gb (?_:wpS (model prog w) A E s _ (F6 blt p q st (m+n)) Tc) λr st4 hr=>?_
     ·by_cases hg:g > 1
      ·rw[if_pos hg]
       exact key _
      ·rw[if_neg hg]
       exact key _
     ·obtain ⟨kp4,hr⟩:=hr
      match r,hr with
      | .done (some r,Ft),hr=>exact ⟨kp4,.inl ⟨r,Ft,rfl,hr⟩⟩
      | .done (none,m',n',out',g',ac',bc'),hr=>exact ⟨kp4,.inr ⟨m',n',out',g',ac',bc',rfl,hr.1,hr.2.1,hr.2.2.1,hr.2.2.2.1,hr.2.2.2.2.1,by have:=hr.2.2.2.2.2; omega⟩⟩
      | .yield (none,m',n',out',g',ac',bc'),hr=>exact ⟨kp4,m',n',out',g',ac',bc',rfl,hr.1,hr.2.1,hr.2.2.1,hr.2.2.2.1,hr.2.2.2.2.1,by rw[if_neg (by omega)]; have:=hr.2.2.2.2.2; omega⟩
    ·(intro c Tc q_; obtain ⟨kp3,m,n,out,g,ac,bc,rfl,M,m0,hm,n0,hn,hb⟩ := q_)
     rw[if_neg (by omega)] at hb
     exact ⟨kp3,.inr ⟨m,n,out,g,ac,bc,rfl,M,m0,hm,n0,hn,hb⟩⟩
    ·rintro c Tc ⟨kp3,hc⟩
     rcases hc with hc | hc
     ·obtain ⟨r,Ft,rfl,hr⟩:=hc
      exact Bc ⟨kp3,r,_,rfl,hr⟩
     ·obtain ⟨m,n,out,g,ac,bc,rfl,M,m0,hm,n0,hn,hb⟩:=hc
      dsimp only
      refine Ax (Ro λst4 kp4=>?_)
      exact Bc ⟨kp3.trans kp4,m,n,out,_,rfl,M,m0,hm,n0,hn,by omega⟩
 ·(intro c st1 q_; obtain ⟨kp1,m,n,out,g,rfl,M,m0,hm,n0,hn,hb⟩ := q_)
  exfalso
  have : max 0 (p.size+q.size)=p.size+q.size:=by omega
  rw[this] at hb
  omega
 ·(intro c st1 q_; obtain ⟨kp1,r,Ft,rfl,hr⟩ := q_)
  exact Bc (h r st1 kp1 hr)
end
def aV:Nat->Nat->StateT Bm Sem (Option Nat):=sortPriv% PySem.Builtin.countRun
def Vy:Nat->Nat->Nat->StateT Bm Sem Bool:=sortPriv% PySem.Builtin.binarySort
def X(xs:Array Keyed)(i:Nat):Keyed:=xs[i]?.getD (Uy,Uy)
theorem Vn{xs:Array Keyed}{i:Nat}(h:i<xs.size):xs[i]? = some (X xs i):=by
 unfold X
 rw[getElem?_pos xs i h]
 rfl
theorem Pe{xs ys:Array Keyed}{i j:Nat}(h:xs[i]? = ys[j]?):X xs i=X ys j:=by unfold X; rw[h]
theorem Qj{xs:Array Keyed}{i j:Nat}(hj:j<=xs.size)(k:Nat):X (mirror xs i j ((j - i) / 2)) k=if i<=k/\k<j then X xs (i+j - 1 - k) else X xs k:=by
 have e:=getElem?_mirror_all (i:=i) hj k
 by_cases h:i<=k/\k<j
 ·rw[if_pos h] at e ⊢; exact Pe e
 ·rw[if_neg h] at e ⊢; exact Pe e
theorem sC{xs:Array Keyed}{src d:Nat}(hs:src<xs.size)(hd:d<=src)(k:Nat):X (bubble xs src d) k=if k=src - d then X xs src else if src - d<k/\k<=src then X xs (k - 1) else X xs k:=by
 have e:=getElem?_bubble hs d hd k
 by_cases h1:k=src - d
 ·rw[if_pos h1] at e ⊢; exact Pe e
 ·rw[if_neg h1] at e ⊢
  by_cases h2:src - d<k/\k<=src
  ·rw[if_pos h2] at e ⊢; exact Pe e
  ·rw[if_neg h2] at e ⊢; exact Pe e
def Qg(blt:Keyed->Keyed->Bool)(xs:Array Keyed)(a b:Nat):Prop:=∀i j,a<=i->i<=j->j<b->le blt (X xs i) (X xs j)
def oJ(blt:Keyed->Keyed->Bool)(xs:Array Keyed)(a b:Nat):Prop:=∀i j,a<=i->i<=j->j<b->le blt (X xs j) (X xs i)
structure Good(kd:Kl)(a₀:Array Keyed)(pend:Array (Nat×Nat×Nat))(st:Bm):Prop where
 kind:kindOf st=kd
 fail:Jz st=none
 perm:(arrOf st).Perm a₀
 pd:Bb st=pend
def dZ(xs ys:Array Keyed)(a b:Nat):Prop:=∀i,(i<a\/b<=i)->X ys i=X xs i
theorem dZ.refl(xs:Array Keyed)(a b:Nat):dZ xs xs a b:=λ_ _=>rfl
theorem dZ.trans{xs ys zs:Array Keyed}{a b:Nat}(h:dZ xs ys a b)(k:dZ ys zs a b):dZ xs zs a b:=λi hi=>(k i hi).trans (h i hi)
section
variable{prog:Bp}{w:World}{A:Cr}{s:Al}{kd:Kl}{Ok:Keyed->Prop}{blt:Keyed->Keyed->Bool}{E:Value->Al->Prop}{a₀:Array Keyed}{pend:Array (Nat×Nat×Nat)}
theorem Good.size{st:Bm}(g:Good kd a₀ pend st):(arrOf st).size=a₀.size:=g.perm.size_eq
theorem Good.okX{st:Bm}(g:Good kd a₀ pend st)(h0:∀x∈a₀.toList,Ok x){i:Nat}(hi:i<a₀.size):Ok (X (arrOf st) i):=by
 have e:=Vn (xs:=arrOf st) (i:=i) (by rw[g.size]; exact hi)
 exact h0 _ ((Nn.mp g.perm).mem_iff.mp (Hy e))
theorem Good.set{st:Bm}(g:Good kd a₀ pend st){xs:Array Keyed}(h:xs.Perm (arrOf st)):Good kd a₀ pend (setArr st xs):=⟨g.kind,g.fail,h.trans g.perm,g.pd⟩
theorem Ud(C:Cmp prog w A s kd Ok blt){st:Bm}(g:Good kd a₀ pend st)(h0:∀x∈a₀.toList,Ok x){i j:Nat}(hi:i<a₀.size)(hj:j<a₀.size){Q:Option Bool->Bm->Prop}(h:Q (some (blt (X (arrOf st) i) (X (arrOf st) j))) st):wpS (model prog w) A E s (ltAt' i j) Q st:=by
 rw[ltAt'_eq]
 refine Ax (Lq ?_)
 refine Ax (Ey (Vn (by rw[g.size]; exact hi)) ?_)
 refine Ax (Ey (Vn (by rw[g.size]; exact hj)) ?_)
 exact eJ C g.kind (g.okX h0 hi) (g.okX h0 hj) h
theorem Pk{st:Bm}{i j:Nat}{Q:Unit->Bm->Prop}(h:Q () (setArr st (mirror (arrOf st) i j ((j - i) / 2)))):wpS (model prog w) A E s (Ry i j) Q st:=by
 rw[reverseSlice'_eq]
 exact Ie h
def I0(lo a b:Nat):StateT Bm Sem (Option (Option Nat)×Nat) :=
 forIn [a:b] ((none,a):Option (Option Nat)×Nat) λ_ c=>do
  let some gD <- ltAt' (lo+c.2) (lo+c.2 - 1) | pure (Cp (some none,c.2))
  if gD=true then pure (Cp (none,c.2)) else pure (Fb (none,c.2+1))
theorem sE(C:Cmp prog w A s kd Ok blt){st:Bm}(g:Good kd a₀ pend st)(h0:∀x∈a₀.toList,Ok x){lo a b:Nat}(hb:lo+b<=a₀.size)(ha:1<=a)(hab:a<=b)(h1:Qg blt (arrOf st) lo (lo+a)){Q:Option (Option Nat)×Nat->Bm->Prop}(h:∀n,a<=n->n<=b->Qg blt (arrOf st) lo (lo+n)->(n=b\/blt (X (arrOf st) (lo+n)) (X (arrOf st) (lo+n - 1))=true)->Q (none,n) st):wpS (model prog w) A E s (I0 lo a b) Q st:=by
 unfold I0
 refine Dz (I:=λx c st'=>st'=st/\c=(none,x)/\Qg blt (arrOf st) lo (lo+x)) ?_ ?_ ⟨rfl,rfl,h1⟩
 ·(intro x c st' hx1 hx2 q_; obtain ⟨rfl,rfl,hs⟩ := q_)
  dsimp only
  refine Ax (Ud C g h0 (by omega) (by omega) ?_)
  dsimp only
  cases hl:blt (X (arrOf st') (lo+x)) (X (arrOf st') (lo+x - 1)) with
  | true =>
   rw[if_pos rfl]
   exact Bc (h x hx1 (by omega) hs (.inr hl))
  | false =>
   rw[if_neg Ce]
   refine Bc ⟨rfl,rfl,λi j hi hij hj=>?_⟩
   by_cases hjx:j<lo+x
   ·exact hs i j hi hij hjx
   ·have ej:j=lo+x:=by omega
    subst ej
    by_cases hi':i=lo+x
    ·subst hi'; exact C.refl _
    ·exact C.trans (hs i (lo+x - 1) hi (by omega) (by omega)) hl
 ·(intro c st' q_; obtain ⟨rfl,rfl,hs⟩ := q_)
  rw[show max a b=b by omega] at hs ⊢
  exact h b hab (Ap _) hs (.inl rfl)
theorem gW{xs:Array Keyed}{lo n:Nat}(hn:lo+n<=xs.size)(h:oJ blt xs lo (lo+n)):Qg blt (mirror xs lo (lo+n) ((lo+n - lo) / 2)) lo (lo+n):=λi j hi hij hj=>by
 rw[Qj hn,Qj hn,if_pos (by omega),if_pos (by omega)]
 exact h _ _ (by omega) (by omega) (by omega)
theorem Vd{xs:Array Keyed}{lo n b e:Nat}(hn:lo+n<=xs.size)(he:e<=lo+n)(hb:lo<=b)(h:oJ blt xs lo (lo+n))(eqv:∀i j,b<=i->i<e->b<=j->j<e->le blt (X xs i) (X xs j)):oJ blt (mirror xs b e ((e - b) / 2)) lo (lo+n):=λi j hi hij hj=>by
 rw[Qj (by omega),Qj (by omega)]
 by_cases h1:b<=j/\j<e
 ·rw[if_pos h1]
  by_cases h2:b<=i/\i<e
  ·rw[if_pos h2]
   exact eqv _ _ (by omega) (by omega) (by omega) (by omega)
  ·rw[if_neg h2]
   exact h _ _ hi (by omega) (by omega)
 ·rw[if_neg h1]
  by_cases h2:b<=i/\i<e
  ·rw[if_pos h2]
   exact h _ _ (by omega) (by omega) (by omega)
  ·rw[if_neg h2]
   exact h i j hi hij hj
theorem Pp{xs:Array Keyed}{a b i j:Nat}(h1:a<=i)(h2:j<=b)(h3:j<=xs.size):dZ xs (mirror xs i j ((j - i) / 2)) a b:=λk hk=>by
 rw[Qj h3,if_neg (by omega)]
def qJ(lo n b:Nat):StateT Bm Sem (Option Nat):=do
 Ry lo (lo+n)
 let mut m:=n
 for _ in [n:b] do
  let some gD <- ltAt' (lo+m) (lo+m - 1) | return none
  if gD then break
  m:=m+1
 return some m
theorem lO(C:Cmp prog w A s kd Ok blt){st:Bm}(g:Good kd a₀ pend st)(h0:∀x∈a₀.toList,Ok x){lo n b:Nat}(hb:lo+b<=a₀.size)(hn:1<=n)(hnb:n<=b)(h1:oJ blt (arrOf st) lo (lo+n)){Q:Option Nat->Bm->Prop}(h:∀m st',Good kd a₀ pend st'->1<=m->m<=b->Qg blt (arrOf st') lo (lo+m)->dZ (arrOf st) (arrOf st') lo (lo+b)->Q (some m) st'):wpS (model prog w) A E s (qJ lo n b) Q st:=by
 unfold qJ
 have hsz:lo+n<=(arrOf st).size:=by rw[g.size]; omega
 refine Ax (Pk ?_)
 have g':Good kd a₀ pend (setArr st (mirror (arrOf st) lo (lo+n) ((lo+n - lo) / 2))):=g.set (mirror_perm _ _ _ _)
 refine Ax (sE C g' h0 hb hn hnb (gW hsz h1) λm hm1 hm2 hs _=>?_)
 exact Bc (h m _ g' (by omega) hm2 hs (Pp (Ap _) (by omega) hsz))
abbrev A1:=Option (Option Nat)×Nat×Nat
def L9(lo a b:Nat):StateT Bm Sem A1 :=
 forIn [a:b] ((none,a,0):A1) λ_ c=>do
  let some gD <- ltAt' (lo+c.2.1) (lo+c.2.1 - 1) | pure (Cp (some none,c.2.1,c.2.2))
  if gD=true then
   if c.2.2 > 0 then do
    Ry (lo+c.2.1 - (c.2.2+1)) (lo+c.2.1)
    pure (Fb (none,c.2.1+1,0))
   else pure (Fb (none,c.2.1+1,0))
  else do
   let some more <- ltAt' (lo+c.2.1 - 1) (lo+c.2.1) | pure (Cp (some none,c.2.1,c.2.2))
   if more=true then pure (Cp (none,c.2.1,c.2.2)) else pure (Fb (none,c.2.1+1,c.2.2+1))
def wY(blt:Keyed->Keyed->Bool)(xs:Array Keyed)(lo n e:Nat):Prop:=e+1<=n/\∀i j,lo+n - (e+1)<=i->i<lo+n->lo+n - (e+1)<=j->j<lo+n->le blt (X xs i) (X xs j)
theorem pW(C:Cmp prog w A s kd Ok blt){xs:Array Keyed}{lo n:Nat}(h:1<=n):wY blt xs lo n 0:=⟨by omega,λi j i1 i2 j1 j2=>by
 have e:i=j:=by omega
 subst e
 exact C.refl _⟩
theorem Uq(C:Cmp prog w A s kd Ok blt){xs:Array Keyed}{lo n:Nat}(hn:1<=n)(h:oJ blt xs lo (lo+n))(hl:le blt (X xs (lo+n)) (X xs (lo+n - 1))):oJ blt xs lo (lo+(n+1)):=λi j hi hij hj=>by
 by_cases hjx:j<lo+n
 ·exact h i j hi hij hjx
 ·have ej:j=lo+n:=by omega
  subst ej
  by_cases hi':i=lo+n
  ·subst hi'; exact C.refl _
  ·exact C.trans hl (h i (lo+n - 1) hi (by omega) (by omega))
theorem wZ(C:Cmp prog w A s kd Ok blt){st:Bm}(g:Good kd a₀ pend st)(h0:∀x∈a₀.toList,Ok x){lo a b:Nat}(hb:lo+b<=a₀.size)(ha:1<=a)(hab:a<=b)(h1:oJ blt (arrOf st) lo (lo+a)){Q:A1->Bm->Prop}(h:∀n e st',Good kd a₀ pend st'->a<=n->n<=b->oJ blt (arrOf st') lo (lo+n)->wY blt (arrOf st') lo n e->dZ (arrOf st) (arrOf st') lo (lo+b)->Q (none,n,e) st'):wpS (model prog w) A E s (L9 lo a b) Q st:=by
 unfold L9
 refine Dz (I:=λx c st'=>∃e,c=(none,x,e)/\Good kd a₀ pend st'/\oJ blt (arrOf st') lo (lo+x)/\wY blt (arrOf st') lo x e/\dZ (arrOf st) (arrOf st') lo (lo+b)) ?_ ?_
  ⟨0,rfl,g,h1,pW C ha,dZ.refl _ _ _⟩
 ·(intro x c st' hx1 hx2 q_; obtain ⟨e,rfl,g',hs,lk,ou⟩ := q_)
  have hsz:(arrOf st').size=a₀.size:=g'.size
  dsimp only
  refine Ax (Ud C g' h0 (by omega) (by omega) ?_)
  dsimp only
  cases hl:blt (X (arrOf st') (lo+x)) (X (arrOf st') (lo+x - 1)) with
  | true =>
   rw[if_pos rfl]
   have d1:=Uq C (by omega) hs (C.ofLt hl)
   have one:∀ys:Array Keyed,wY blt ys lo (x+1) 0:=λys=>⟨by omega,λi j i1 i2 j1 j2=>by
    have : i=j:=by omega
    subst this
    exact C.refl _⟩
   by_cases he:e > 0
   ·rw[if_pos he]
    refine Ax (Pk ?_)
    refine Bc ⟨0,rfl,g'.set (mirror_perm _ _ _ _),?_,one _,ou.trans (Pp (by have:=lk.1; omega) (by omega) (by omega))⟩
    exact Vd (by omega) (by omega) (by have:=lk.1; omega) d1 λi j i1 i2 j1 j2=>lk.2 i j i1 i2 j1 j2
   ·rw[if_neg he]
    exact Bc ⟨0,rfl,g',d1,one _,ou⟩
  | false =>
   rw[if_neg Ce]
   refine Ax (Ud C g' h0 (by omega) (by omega) ?_)
   dsimp only
   cases hm:blt (X (arrOf st') (lo+x - 1)) (X (arrOf st') (lo+x)) with
   | true =>
    rw[if_pos rfl]
    exact Bc (h x e st' g' hx1 (by omega) hs lk ou)
   | false =>
    rw[if_neg Ce]
    refine Bc ⟨e+1,rfl,g',Uq C (by omega) hs hm,⟨by have:=lk.1; omega,λi j i1 i2 j1 j2=>?_⟩,ou⟩
    have l1:le blt (X (arrOf st') (lo+x - 1)) (X (arrOf st') (lo+x)):=hl
    have l2:le blt (X (arrOf st') (lo+x)) (X (arrOf st') (lo+x - 1)):=hm
    by_cases ei:i=lo+x
    ·by_cases ej:j=lo+x
     ·rw[ei,ej]; exact C.refl _
     ·rw[ei]
      exact C.trans l2 (lk.2 (lo+x - 1) j (by omega) (by omega) (by omega) (by omega))
    ·by_cases ej:j=lo+x
     ·rw[ej]
      exact C.trans (lk.2 i (lo+x - 1) (by omega) (by omega) (by omega) (by omega)) l1
     ·exact lk.2 i j (by omega) (by omega) (by omega) (by omega)
 ·(intro c st' q_; obtain ⟨e,rfl,g',hs,lk,ou⟩ := q_)
  rw[show max a b=b by omega] at hs lk ⊢
  exact h b e st' g' hab (Ap _) hs lk ou
def yN(lo n b:Nat):StateT Bm Sem (Option Nat):=do
 liftM (rule "list.sort.descending-run")
 let mut m:=n+1
 let mut e:=0
 for _ in [m:b] do
  let some gD <- ltAt' (lo+m) (lo+m - 1) | return none
  if gD then
   if e > 0 then Ry (lo+m - (e+1)) (lo+m)
   e:=0
  else
   let some more <- ltAt' (lo+m - 1) (lo+m) | return none
   if more then break
   e:=e+1
  m:=m+1
 if e > 0 then Ry (lo+m - (e+1)) (lo+m)
 qJ lo m b
theorem kX(C:Cmp prog w A s kd Ok blt){st:Bm}(g:Good kd a₀ pend st)(h0:∀x∈a₀.toList,Ok x){lo n b:Nat}(hb:lo+b<=a₀.size)(hnb:n+1<=b)(h1:oJ blt (arrOf st) lo (lo+(n+1))){Q:Option Nat->Bm->Prop}(h:∀m st',Good kd a₀ pend st'->1<=m->m<=b->Qg blt (arrOf st') lo (lo+m)->dZ (arrOf st) (arrOf st') lo (lo+b)->Q (some m) st'):wpS (model prog w) A E s (yN lo n b) Q st:=by
 unfold yN
 refine Ax (Rl ?_)
 refine Ax (wZ C g h0 hb (by omega) hnb h1 λk e st1 g1 k1 k2 d1 lk ou=>?_)
 dsimp only
 have hsz:(arrOf st1).size=a₀.size:=g1.size
 by_cases he:e > 0
 ·rw[if_pos he]
  refine Ax (Pk ?_)
  refine lO C (g1.set (mirror_perm _ _ _ _)) h0 hb (by omega) k2 (Vd (by omega) (by omega) (by have:=lk.1; omega) d1 λi j i1 i2 j1 j2=>lk.2 i j i1 i2 j1 j2) λm st2 g2 m1 m2 as ou2=>?_
  exact h m st2 g2 m1 m2 as ((ou.trans (Pp (by have:=lk.1; omega) (by omega) (by omega))).trans ou2)
 ·rw[if_neg he]
  exact lO C g1 h0 hb (by omega) k2 d1 λm st2 g2 m1 m2 as ou2=>h m st2 g2 m1 m2 as (ou.trans ou2)
theorem rT(C:Cmp prog w A s kd Ok blt){st:Bm}(g:Good kd a₀ pend st)(h0:∀x∈a₀.toList,Ok x){lo b:Nat}(hb:lo+b<=a₀.size)(b1:1<=b){Q:Option Nat->Bm->Prop}(h:∀m st',Good kd a₀ pend st'->1<=m->m<=b->Qg blt (arrOf st') lo (lo+m)->dZ (arrOf st) (arrOf st') lo (lo+b)->Q (some m) st'):wpS (model prog w) A E s (aV lo b) Q st:=by
 unfold aV
 have hsz:(arrOf st).size=a₀.size:=g.size
 refine Ax (sE C g h0 hb (Ap _) b1 (λi j i1 i2 j1=>by
  have : i=j:=by omega
  subst this
  exact C.refl _) λn n1 n2 hs hor=>?_)
 dsimp only
 by_cases e:n=b
 ·rw[if_pos (by rw[e]; exact beq_self_eq_true _)]
  exact Bc (h n st g n1 n2 hs (dZ.refl _ _ _))
 rw[if_neg (λz=>e (Dn z))]
 have hlt:blt (X (arrOf st) (lo+n)) (X (arrOf st) (lo+n - 1))=true:=hor.resolve_left e
 by_cases hg:n > 1
 ·rw[if_pos hg]
  refine Ax (Ud C g h0 (by omega) (by omega) ?_)
  dsimp only
  cases hr:blt (X (arrOf st) lo) (X (arrOf st) (lo+n - 1)) with
  | true =>
   rw[if_pos rfl]
   exact Bc (h n st g n1 n2 hs (dZ.refl _ _ _))
  | false =>
   rw[if_neg Ce]
   refine Ax (Pk ?_)
   -- all of it are alike
   have like:∀i j,lo<=i->i<lo+n->lo<=j->j<lo+n->le blt (X (arrOf st) i) (X (arrOf st) j):=λi j i1 i2 j1 j2 =>
    C.trans (hs i (lo+n - 1) i1 (by omega) (by omega)) (C.trans hr (hs lo j (Ap _) j1 j2))
   have d1:oJ blt (arrOf st) lo (lo+(n+1)):=Uq C n1 (λi j i1 i2 j1=>like j i (by omega) j1 i1 (by omega)) (C.ofLt hlt)
   exact kX C (g.set (mirror_perm _ _ _ _)) h0 hb (by omega) (Vd (by omega) (by omega) (Ap _) d1 like) λm st2 g2 m1 m2 as ou2=>h m st2 g2 m1 m2 as ((Pp (Ap _) (by omega) (by omega)).trans ou2)
 ·rw[if_neg hg]
  have en:n=1:=by omega
  subst en
  have d1:oJ blt (arrOf st) lo (lo+(1+1)):=Uq C (Ap _) (λi j i1 i2 j1=>by
   have : i=j:=by omega
   subst this
   exact C.refl _) (C.ofLt hlt)
  exact kX C g h0 hb (by omega) d1 h
end
def Um:Nat->StateT Bm Sem Bool:=sortPriv% PySem.Builtin.mergeAt
section
variable{prog:Bp}{w:World}{A:Cr}{s:Al}{kd:Kl}{Ok:Keyed->Prop}{blt:Keyed->Keyed->Bool}{E:Value->Al->Prop}{a₀:Array Keyed}{pend:Array (Nat×Nat×Nat)}
theorem fO{st:Bm}{i j:Nat}{Q:Unit->Bm->Prop}(h:Q () (setArr st (bubble (arrOf st) i (i - j)))):wpS (model prog w) A E s (moveDown' i j) Q st:=by
 rw[moveDown'_eq]
 exact Ie h
theorem oE(C:Cmp prog w A s kd Ok blt){st:Bm}(g:Good kd a₀ pend st)(h0:∀x∈a₀.toList,Ok x){lo n ok:Nat}(hb:lo+n<=a₀.size)(h1:Qg blt (arrOf st) lo (lo+ok))(hok:ok<=n){Q:Bool->Bm->Prop}(h:∀st',Good kd a₀ pend st'->Qg blt (arrOf st') lo (lo+n)->dZ (arrOf st) (arrOf st') lo (lo+n)->Q true st'):wpS (model prog w) A E s (Vy lo n ok) Q st:=by
 unfold Vy
 refine Ax (Gb (Dz
  (I:=λk c st'=>c=(none,())/\Good kd a₀ pend st'/\Qg blt (arrOf st') lo (lo+k)/\dZ (arrOf st) (arrOf st') lo (lo+n))
  (Q:=λc st'=>c=(none,())/\Good kd a₀ pend st'/\Qg blt (arrOf st') lo (lo+n)/\dZ (arrOf st) (arrOf st') lo (lo+n)) ?_ ?_ ⟨rfl,g,?_,dZ.refl _ _ _⟩) ?_)
 ·(intro k c st1 hk1 hk2 q_; obtain ⟨rfl,g1,hs,ou⟩ := q_)
  have hsz:(arrOf st1).size=a₀.size:=g1.size
  dsimp only
  refine Ax (Gb (Dz
   (I:=λy c st'=>st'=st1/\∃l r,c=(none,l,r)/\l<=r/\r<=k/\r - l+y<=k/\(∀i,i<l->le blt (X (arrOf st1) (lo+i)) (X (arrOf st1) (lo+k)))/\(∀i,r<=i->i<k->blt (X (arrOf st1) (lo+k)) (X (arrOf st1) (lo+i))=true))
   (Q:=λc st'=>st'=st1/\∃l,c=(none,l,l)/\l<=k/\(∀i,i<l->le blt (X (arrOf st1) (lo+i)) (X (arrOf st1) (lo+k)))/\(∀i,l<=i->i<k->blt (X (arrOf st1) (lo+k)) (X (arrOf st1) (lo+i))=true)) ?_ ?_
   ⟨rfl,0,k,rfl,by omega,by omega,by omega,λi hi=>by omega,λi h1 h2=>by omega⟩) ?_)
  ·(intro y c st2 _ hy q_; obtain ⟨rfl,l,r,rfl,a1,a2,a3,b1,b2⟩ := q_)
   dsimp only
   by_cases hlr:l ≥ r
   ·rw[if_pos hlr]
    have e:l=r:=by omega
    subst e
    exact Bc ⟨rfl,l,rfl,a2,b1,b2⟩
   ·rw[if_neg hlr]
    refine Ax (Ud C g1 h0 (by omega) (by omega) ?_)
    dsimp only
    cases hl:blt (X (arrOf st2) (lo+k)) (X (arrOf st2) (lo+(l+r) / 2)) with
    | true =>
     rw[if_pos rfl]
     exact Bc ⟨rfl,l,(l+r) / 2,rfl,by omega,by omega,by omega,b1,λi i1 i2=>C.ltLe hl (hs _ _ (by omega) (by omega) (by omega))⟩
    | false =>
     rw[if_neg Ce]
     exact Bc ⟨rfl,(l+r) / 2+1,r,rfl,by omega,a2,by omega,λi hi=>C.trans (hs _ _ (by omega) (by omega) (by omega)) hl,b2⟩
  ·(intro c st2 q_; obtain ⟨rfl,l,r,rfl,a1,a2,a3,b1,b2⟩ := q_)
   have : max 0 k=k:=by omega
   rw[this] at a3
   have e:l=r:=by omega
   subst e
   exact ⟨rfl,l,rfl,a2,b1,b2⟩
  ·(intro c st2 q_; obtain ⟨rfl,l,rfl,a2,b1,b2⟩ := q_)
   dsimp only
   refine Ax (fO ?_)
   have xb:=λi=>sC (xs:=arrOf st2) (src:=lo+k) (d:=lo+k - (lo+l)) (by omega) (by omega) i
   have ed:lo+k - (lo+k - (lo+l))=lo+l:=by omega
   refine Bc ⟨rfl,g1.set (bubble_perm _ _ _),λi j i1 i2 j1=>?_,ou.trans λi hi=>?_⟩
   ·show le blt (X (bubble (arrOf st2) (lo+k) (lo+k - (lo+l))) i) (X (bubble (arrOf st2) (lo+k) (lo+k - (lo+l))) j)
    rw[xb,xb,ed]
    by_cases e1:i=lo+l
    ·rw[if_pos e1]
     by_cases e2:j=lo+l
     ·rw[if_pos e2]; exact C.refl _
     ·rw[if_neg e2]
      by_cases e3:lo+l<j/\j<=lo+k
      ·rw[if_pos e3]
       have:=b2 (j - 1 - lo) (by omega) (by omega)
       rw[show lo+(j - 1 - lo)=j - 1 by omega] at this
       exact C.ofLt this
      ·exfalso; omega
    ·rw[if_neg e1]
     by_cases e2:j=lo+l
     ·rw[if_pos e2,if_neg (by omega)]
      have:=b1 (i - lo) (by omega)
      rw[show lo+(i - lo)=i by omega] at this
      exact this
     ·rw[if_neg e2]
      by_cases e3:lo+l<i/\i<=lo+k
      ·rw[if_pos e3,if_pos (by omega)]
       exact hs _ _ (by omega) (by omega) (by omega)
      ·rw[if_neg e3]
       by_cases e4:lo+l<j/\j<=lo+k
       ·rw[if_pos e4]
        exact hs _ _ (by omega) (by omega) (by omega)
       ·rw[if_neg e4]
        exact hs _ _ (by omega) (by omega) (by omega)
   ·show X (bubble (arrOf st2) (lo+k) (lo+k - (lo+l))) i=X (arrOf st2) i
    rw[xb,ed,if_neg (by omega),if_neg (by omega)]
 ·(intro c st1 q_; obtain ⟨rfl,g1,hs,ou⟩ := q_)
  refine ⟨rfl,g1,λi j i1 i2 j1=>hs i j i1 i2 (by omega),ou⟩
 ·intro i j i1 i2 j1
  by_cases e:i=j
  ·subst e; exact C.refl _
  ·exact h1 i j i1 i2 (by omega)
 ·(intro c st1 q_; obtain ⟨rfl,g1,hs,ou⟩ := q_)
  exact Bc (h st1 g1 hs ou)
end
abbrev Mg(xs:Array Keyed)(b:Nat)(l:List (Keyed×Nat)):Array Keyed:=l.foldl (λa x=>match x with | (p,j)=>a.setIfInBounds (b+j) p) xs
theorem Zg(b:Nat):∀(l:List Keyed) (o:Nat) (xs:Array Keyed),b+o+l.length<=xs.size->(Mg xs b (l.zipIdx o)).size=xs.size/\∀i:Nat,(Mg xs b (l.zipIdx o))[i]? = if b+o<=i/\i<b+o+l.length then l[i - (b+o)]? else xs[i]?
 | [],o,xs,_=>⟨rfl,λi=>by rw[if_neg (by rw[Gm]; omega)]; rfl⟩
 | x::l,o,xs,h=>by
  rw[Bk] at h
  have ih:=Zg b l (o+1) (xs.setIfInBounds (b+o) x) (by rw[eH]; omega)
  have e:Mg xs b ((x::l).zipIdx o)=Mg (xs.setIfInBounds (b+o) x) b (l.zipIdx (o+1)):=by
   rw[List.zipIdx_cons]
   rfl
  rw[e]
  refine ⟨ih.1.trans (eH),λi=>?_⟩
  rw[ih.2 i,Bk]
  by_cases h1:b+(o+1)<=i/\i<b+(o+1)+l.length
  ·rw[if_pos h1,if_pos (by omega)]
   rw[show i - (b+o)=(i - (b+(o+1)))+1 by omega,List.getElem?_cons_succ]
  ·rw[if_neg h1]
   by_cases h2:i=b+o
   ·subst h2
    rw[if_pos (by omega),Array.getElem?_setIfInBounds_self_of_lt (by omega),Nat.sub_self]
    rfl
   ·rw[if_neg (by omega),Array.getElem?_setIfInBounds_ne (by omega)]
theorem iW{xs m:Array Keyed}{b n:Nat}(hb:b+n<=xs.size)(hn:m.size=n)(hp:m.toList.Perm ((xs.toList.drop b).take n)):(Mg xs b m.toList.zipIdx).Perm xs:=by
 have ha:=Zg b m.toList 0 xs (by rw[Aw]; omega)
 have e:(Mg xs b m.toList.zipIdx).toList=xs.toList.take b++(m.toList++xs.toList.drop (b+n)):=by
  apply Ik
  intro i
  have h1:=ha.2 i
  rw[Aw,hn] at h1
  have h2:(Mg xs b m.toList.zipIdx).toList[i]? = (Mg xs b m.toList.zipIdx)[i]?:=by simp
  rw[h2,h1]
  have lt:(xs.toList.take b).length=b:=by rw[Dj,Aw]; omega
  by_cases c1:i<b
  ·rw[if_neg (by omega),Jk (by omega),Ea c1]
   simp
  ·rw[Ge (by omega),lt]
   by_cases c2:i<b+n
   ·rw[if_pos (by omega),Jk (by rw[Aw]; omega)]
    congr 1
   ·rw[if_neg (by omega),Ge (by rw[Aw]; omega),Vv,Aw]
    rw[show b+n+(i - b - m.size)=i by omega]
    simp
 refine Array.perm_iff_toList_perm.mpr ?_
 rw[e]
 have e2:xs.toList=xs.toList.take b++((xs.toList.drop b).take n++xs.toList.drop (b+n)):=by
  conv=>lhs; rw[<- Ia b xs.toList]
  congr 1
  conv=>lhs; rw[<- Ia n (xs.toList.drop b)]
  rw[List.drop_drop]
 conv=>rhs; rw[e2]
 exact Ki _ (List.Perm.append_right _ hp)
theorem Vs{xs:Array Keyed}{a n:Nat}(h:a+n<=xs.size){i:Nat}(hi:i<n):(xs.extract a (a+n))[i]? = some (X xs (a+i)):=by
 rw[Array.getElem?_extract,if_pos (by omega)]
 exact Vn (by omega)
theorem Re{xs:Array Keyed}{a n:Nat}(h:a+n<=xs.size):(xs.extract a (a+n)).size=n:=by
 rw[Array.size_extract]
 omega
theorem Ul{xs:Array Keyed}{a n:Nat}(h:a+n<=xs.size){x:Keyed}(hx:x∈(xs.extract a (a+n)).toList):∃i,i<n/\x=X xs (a+i):=by
 obtain ⟨i,hi,e⟩:=Gq.mp hx
 rw[Aw,Re h] at hi
 refine ⟨i,hi,?_⟩
 have h1:=Vs h hi
 have h2:(xs.extract a (a+n)).toList[i]? = some x:=by rw[<- e,<- Ai]
 rw[Sd,h1] at h2
 exact (Bo h2).symm
section
variable{prog:Bp}{w:World}{A:Cr}{s:Al}{kd:Kl}{Ok:Keyed->Prop}{blt:Keyed->Keyed->Bool}{E:Value->Al->Prop}{a₀:Array Keyed}{pend:Array (Nat×Nat×Nat)}
theorem Yt(C:Cmp prog w A s kd Ok blt){xs:Array Keyed}{a n c d:Nat}(h:a+n<=xs.size)(hs:Qg blt xs c d)(h1:c<=a)(h2:a+n<=d):(xs.extract a (a+n)).toList.Pairwise (le blt):=by
 rw[Da]
 intro i j hi hj hij
 rw[Aw,Re h] at hi hj
 have e1:(xs.extract a (a+n)).toList[i]? = some (X xs (a+i)):=by rw[Sd]; exact Vs h hi
 have e2:(xs.extract a (a+n)).toList[j]? = some (X xs (a+j)):=by rw[Sd]; exact Vs h hj
 obtain ⟨_,f1⟩:=Ah.mp e1
 obtain ⟨_,f2⟩:=Ah.mp e2
 rw[f1,f2]
 exact hs _ _ (by omega) (by omega) (by omega)
theorem fX(C:Cmp prog w A s kd Ok blt){xs:Array Keyed}{a b c:Nat}(hab:a<b)(h1:Qg blt xs a b)(h2:Qg blt xs b c)(h:le blt (X xs (b - 1)) (X xs b)):Qg blt xs a c:=λi j i1 i2 j1=>by
 by_cases e1:j<b
 ·exact h1 i j i1 i2 e1
 ·by_cases e2:b<=i
  ·exact h2 i j e2 i2 j1
  ·exact C.trans (h1 i (b - 1) i1 (by omega) (by omega)) (C.trans h (h2 b j (Ap _) (by omega) j1))
structure Good0(kd:Kl)(a₀:Array Keyed)(st:Bm):Prop where
 kind:kindOf st=kd
 fail:Jz st=none
 perm:(arrOf st).Perm a₀
theorem Good0.size{st:Bm}(g:Good0 kd a₀ st):(arrOf st).size=a₀.size:=g.perm.size_eq
theorem Good0.okX{st:Bm}(g:Good0 kd a₀ st)(h0:∀x∈a₀.toList,Ok x){i:Nat}(hi:i<a₀.size):Ok (X (arrOf st) i):=by
 have e:=Vn (xs:=arrOf st) (i:=i) (by rw[g.size]; exact hi)
 exact h0 _ ((Nn.mp g.perm).mem_iff.mp (Hy e))
theorem pE{st:Bm}(g:Good0 kd a₀ st)(h0:∀x∈a₀.toList,Ok x){b n:Nat}(h:b+n<=a₀.size):Row Ok (arrOf st) b n (λi=>X (arrOf st) (b+i)) :=
 ⟨λi hi=>Vn (by rw[g.size]; omega),λi hi=>g.okX h0 (by omega)⟩
theorem i5{st st':Bm}{Q:Unit->Bm->Prop}(h:Q () st'):wpS (model prog w) A E s (set st':StateT Bm Sem Unit) Q st:=by
 unfold wpS
 rw[StateT.run_set]
 exact Ay ⟨rfl,h⟩
theorem gV(C:Cmp prog w A s kd Ok blt){st:Bm}(g:Good0 kd a₀ st)(h0:∀x∈a₀.toList,Ok x){i sa na pa sb nb pb:Nat}(hi:(Bb st)[i]? = some (sa,na,pa))(hj:(Bb st)[i+1]? = some (sb,nb,pb))(e1:sb=sa+na)(n1:1<=na)(n2:1<=nb)(hz:sb+nb<=a₀.size)(s1:Qg blt (arrOf st) sa sb)(s2:Qg blt (arrOf st) sb (sb+nb)){Q:Bool->Bm->Prop}(h:∀st',Good0 kd a₀ st'->Bb st'=((Bb st).setIfInBounds i (sa,na+nb,pa)).eraseIdxIfInBounds (i+1)->Qg blt (arrOf st') sa (sb+nb)->dZ (arrOf st) (arrOf st') sa (sb+nb)->Q true st'):wpS (model prog w) A E s (Um i) Q st:=by
 have hsz:(arrOf st).size=a₀.size:=g.size
 unfold Um
 refine Ax (Lq ?_)
 rw[hi,hj]
 dsimp only
 refine Ax (i5 ?_)
 refine Ax (Ey (Vn (xs:=arrOf st) (i:=sb) (by rw[hsz]; omega)) ?_)
 show wpS (model prog w) A E s _ _ (Ut (kindOf st) (arrOf st) (((Bb st).setIfInBounds i (sa,na+nb,pa)).eraseIdxIfInBounds (i+1)) (gallopOf st) (Jz st))
 generalize hst1:Ut (kindOf st) (arrOf st) (((Bb st).setIfInBounds i (sa,na+nb,pa)).eraseIdxIfInBounds (i+1)) (gallopOf st) (Jz st)=st1
 have k1:kindOf st1=kd:=by rw[<- hst1]; exact g.kind
 have ar1:arrOf st1=arrOf st:=by rw[<- hst1]
 have pd1:Bb st1=((Bb st).setIfInBounds i (sa,na+nb,pa)).eraseIdxIfInBounds (i+1):=by rw[<- hst1]
 have fl1:Jz st1=none:=by rw[<- hst1]; exact g.fail
 have g1:Good0 kd a₀ st1:=⟨k1,fl1,by rw[ar1]; exact g.perm⟩
 have same:Good0 kd a₀ st1->Qg blt (arrOf st) sa (sb+nb)->Q true st1:=λgg as=>h st1 gg pd1 (by rw[ar1]; exact as) (by rw[ar1]; exact dZ.refl _ _ _)
 refine Ax (Me C (hint:=0) (n:=na) (pE g h0 (b:=sa) (n:=na) (by omega)) (g.okX h0 (i:=sb) (by omega)) k1 (by omega) (λa c hac hc q1=>?_) λk kn t1 t2=>?_)
 ·simp only[Fu,Ck,if_false,Ip] at q1 ⊢
  exact C.trans (s1 _ _ (by omega) (by omega) (by omega)) q1
 dsimp only
 have f1:∀m,m<k->le blt (X (arrOf st) (sa+m)) (X (arrOf st) sb):=λm hm=>by
  have:=t1 m hm
  have z:blt (X (arrOf st) sb) (X (arrOf st) (sa+m))=false:=by simpa only [Fu,Ck,if_false,Ip] using this
  exact z
 by_cases c1:na - k=0
 ·rw[if_pos (by rw[c1]; rfl)]
  refine Bc (same g1 (fX C (by omega) s1 s2 ?_))
  have:=f1 (na - 1) (by omega)
  rw[show sa+(na - 1)=sb - 1 by omega] at this
  exact this
 rw[if_neg (λz=>c1 (Dn z))]
 have f2:blt (X (arrOf st) sb) (X (arrOf st) (sa+k))=true:=by
  have:=t2 k (Ap _) (by omega)
  simpa only [Fu,Ck,if_false,Vw] using this
 have el:sa+k+(na - k) - 1=sb - 1:=by omega
 rw[el]
 refine Ax (Ey (Vn (xs:=arrOf st) (i:=sb - 1) (by rw[hsz]; omega)) ?_)
 refine Ax (Me C (hint:=nb - 1) (n:=nb) (pE g h0 (b:=sb) (n:=nb) (by omega)) (g.okX h0 (i:=sb - 1) (by omega)) k1 (by omega) (λa c hac hc q1=>?_) λl ln u1 u2=>?_)
 ·simp only[Fu,if_true] at q1 ⊢
  exact C.leLt (s2 _ _ (by omega) (by omega) (by omega)) q1
 dsimp only
 have f3:∀m,m<l->blt (X (arrOf st) (sb+m)) (X (arrOf st) (sb - 1))=true:=λm hm=>by
  have:=u1 m hm
  simpa only [Fu,if_true] using this
 have f4:∀m,l<=m->m<nb->le blt (X (arrOf st) (sb - 1)) (X (arrOf st) (sb+m)):=λm h1 h2=>by
  have:=u2 m h1 h2
  have z:blt (X (arrOf st) (sb+m)) (X (arrOf st) (sb - 1))=false:=by simpa only [Fu,if_true] using this
  exact z
 by_cases c2:l=0
 ·rw[if_pos (by rw[c2]; rfl)]
  subst c2
  exact Bc (same g1 (fX C (by omega) s1 s2 (f4 0 (Ap _) (by omega))))
 rw[if_neg (λz=>c2 (Dn z))]
 have ep:(arrOf st).extract (sa+k) sb=(arrOf st).extract (sa+k) (sa+k+(na - k)):=by rw[show sa+k+(na - k)=sb by omega]
 rw[ep]
 have hp:sa+k+(na - k)<=(arrOf st).size:=by omega
 have hq:sb+l<=(arrOf st).size:=by omega
 have T:Two Ok blt ((arrOf st).extract (sa+k) (sa+k+(na - k))) ((arrOf st).extract sb (sb+l)) (X (arrOf st) (sa+k)) (X (arrOf st) sb) (X (arrOf st) (sb - 1)):=by
  refine ⟨λx hx=>?_,λx hx=>?_,Yt C hp s1 (by omega) (by omega),Yt C hq s2 (by omega) (by omega),?_,?_,?_,f2,λy hy=>?_⟩
  ·obtain ⟨m,hm,rfl⟩:=Ul hp hx
   exact g.okX h0 (by omega)
  ·obtain ⟨m,hm,rfl⟩:=Ul hq hx
   exact g.okX h0 (by omega)
  ·exact Vs hp (by omega)
  ·exact Vs hq (by omega)
  ·rw[Re hp,Vs hp (by omega),show sa+k+(na - k - 1)=sb - 1 by omega]
  ·obtain ⟨m,hm,rfl⟩:=Ul hq hy
   exact f3 m hm
 -- Vt the merge
 have fin:∀(r:Array Keyed) (st2:Bm),Kept st1 st2->iE blt ((arrOf st).extract (sa+k) (sa+k+(na - k))) ((arrOf st).extract sb (sb+l)) r ->
   Q (Jz (setArr st2 (Mg (arrOf st2) (sa+k) r.toList.zipIdx))).isNone (setArr st2 (Mg (arrOf st2) (sa+k) r.toList.zipIdx)):=by
  intro r st2 kp hr
  have ar2:arrOf st2=arrOf st:=kp.arr.trans ar1
  have fl2:Jz st2=none:=kp.fail.trans fl1
  have rsz:r.size=na - k+l:=by
   have:=hr.1.length_eq
   rw[Cc,Aw,Aw,Aw,Re hp,Re hq] at this
   exact this
  have seg:((arrOf st).toList.drop (sa+k)).take (na - k+l)=((arrOf st).extract (sa+k) (sa+k+(na - k))).toList++((arrOf st).extract sb (sb+l)).toList:=by
   rw[Uo,Uo,List.take_add,List.drop_drop,show sa+k+(na - k)=sb by omega]
  have pa':=Zg (sa+k) r.toList 0 (arrOf st) (by rw[Aw]; omega)
  have xat:∀m,X (Mg (arrOf st) (sa+k) r.toList.zipIdx) m=if sa+k<=m/\m<sb+l then X r (m - (sa+k)) else X (arrOf st) m:=λm=>by
   have:=pa'.2 m
   rw[Aw,rsz,Nat.add_zero] at this
   by_cases hm:sa+k<=m/\m<sb+l
   ·rw[if_pos hm]
    rw[if_pos (by omega)] at this
    refine Pe (this.trans ?_)
    simp
   ·rw[if_neg hm]
    rw[if_neg (by omega)] at this
    exact Pe this
  -- each thing of the merged is one of the two runs'
  have from2:∀m,m<na - k+l->(∃c,sa+k<=c/\c<sb/\X r m=X (arrOf st) c)\/(∃c,sb<=c/\c<sb+l/\X r m=X (arrOf st) c):=λm hm=>by
   have hx:=Hy (Vn (xs:=r) (i:=m) (by omega))
   rcases Bi.mp (hr.1.mem_iff.mp hx) with z | z
   ·obtain ⟨c,hc,e⟩:=Ul hp z
    exact .inl ⟨sa+k+c,by omega,by omega,e⟩
   ·obtain ⟨c,hc,e⟩:=Ul hq z
    exact .inr ⟨sb+c,by omega,by omega,e⟩
  have rs:∀m n,m<=n->n<na - k+l->le blt (X r m) (X r n):=λm n hmn hn=>Ju C hr.2 hmn (Dx (Vn (by omega))) (Dx (Vn (by omega)))
  have e3:Jz (setArr st2 (Mg (arrOf st2) (sa+k) r.toList.zipIdx))=none:=fl2
  rw[e3]
  refine h _ ⟨kp.kind.trans k1,e3,?_⟩ (kp.pend.trans pd1) ?_ ?_
  ·show (Mg (arrOf st2) (sa+k) r.toList.zipIdx).Perm a₀
   rw[ar2]
   refine (iW (by omega) rsz ?_).trans g.perm
   rw[seg]
   exact hr.1
  ·show Qg blt (Mg (arrOf st2) (sa+k) r.toList.zipIdx) sa (sb+nb)
   rw[ar2]
   intro c d c1 cd d1
   rw[xat,xat]
   by_cases zc:sa+k<=c/\c<sb+l
   ·rw[if_pos zc]
    by_cases zd:sa+k<=d/\d<sb+l
    ·rw[if_pos zd]
     exact rs _ _ (by omega) (by omega)
    ·rw[if_neg zd]
     rcases from2 (c - (sa+k)) (by omega) with ⟨b,b1,b2,e⟩ | ⟨b,b1,b2,e⟩
     ·rw[e]
      refine C.trans (s1 b (sb - 1) (by omega) (by omega) (by omega)) ?_
      have:=f4 (d - sb) (by omega) (by omega)
      rw[show sb+(d - sb)=d by omega] at this
      exact this
     ·rw[e]
      exact s2 b d b1 (by omega) (by omega)
   ·rw[if_neg zc]
    by_cases zd:sa+k<=d/\d<sb+l
    ·rw[if_pos zd]
     rcases from2 (d - (sa+k)) (by omega) with ⟨b,b1,b2,e⟩ | ⟨b,b1,b2,e⟩
     ·rw[e]
      exact s1 c b c1 (by omega) b2
     ·rw[e]
      have:=f1 (c - sa) (by omega)
      rw[show sa+(c - sa)=c by omega] at this
      exact C.trans this (s2 sb b (Ap _) b1 (by omega))
    ·rw[if_neg zd]
     by_cases y1:d<sb
     ·exact s1 c d c1 cd y1
     ·by_cases y2:sb<=c
      ·exact s2 c d y2 cd d1
      ·have:=f1 (c - sa) (by omega)
       rw[show sa+(c - sa)=c by omega] at this
       exact C.trans this (s2 sb d (Ap _) (by omega) d1)
  ·show dZ (arrOf st) (Mg (arrOf st2) (sa+k) r.toList.zipIdx) sa (sb+nb)
   rw[ar2]
   intro m hm
   rw[xat,if_neg (by omega)]
 by_cases c3:na - k<=l
 ·rw[if_pos c3]
  refine Ax (iD C T k1 λr st2 kp hr=>?_)
  exact Ax (Ie (Ax (Lq (Bc (fin r st2 kp hr)))))
 ·rw[if_neg c3]
  refine Ax (jG C T k1 λr st2 kp hr=>?_)
  exact Ax (Ie (Ax (Lq (Bc (fin r st2 kp hr)))))
end
def bH:StateT Bm Sem Unit:=sortPriv% PySem.Builtin.sortRuns
def Runs(blt:Keyed->Keyed->Bool)(xs:Array Keyed):List (Nat×Nat×Nat)->Nat->Nat->Prop
 | [],a,b=>a=b
 | (s,n,_)::r,a,b=>s=a/\1<=n/\Qg blt xs a (a+n)/\Runs blt xs r (a+n) b
variable{blt:Keyed->Keyed->Bool}
theorem Runs.len{xs:Array Keyed}:∀{l:List (Nat×Nat×Nat)} {a b:Nat},Runs blt xs l a b->a+l.length<=b
 | [],a,b,h=>by
  have e:a=b:=h
  rw[Gm]
  omega
 | (s,n,p)::r,a,b,h=>by
  have:=Runs.len h.2.2.2
  have:=h.2.1
  rw[Bk]
  omega
theorem Qg.out{xs ys:Array Keyed}{a b c d:Nat}(h:Qg blt xs a b)(o:dZ xs ys c d)(e:b<=c\/d<=a):Qg blt ys a b:=λi j i1 i2 j1=>by
 rw[o i (by omega),o j (by omega)]
 exact h i j i1 i2 j1
theorem Runs.out{xs ys:Array Keyed}{c d:Nat}(o:dZ xs ys c d):∀{l:List (Nat×Nat×Nat)} {a b:Nat},(b<=c\/d<=a)->Runs blt xs l a b->Runs blt ys l a b
 | [],_,_,_,h=>h
 | (s,n,p)::r,a,b,e,h=>by
  have hl:=Runs.len h.2.2.2
  exact ⟨h.1,h.2.1,h.2.2.1.out o (by omega),Runs.out o (by omega) h.2.2.2⟩
theorem Runs.push{xs:Array Keyed}{m q:Nat}(hm:1<=m):∀{l:List (Nat×Nat×Nat)} {a b:Nat},Runs blt xs l a b->Qg blt xs b (b+m)->Runs blt xs (l++[(b,m,q)]) a (b+m)
 | [],a,b,h,hs=>by
  have e:a=b:=h
  subst e
  exact ⟨rfl,hm,hs,rfl⟩
 | (s,n,p)::r,a,b,h,hs=>⟨h.1,h.2.1,h.2.2.1,Runs.push hm h.2.2.2 hs⟩
theorem Runs.power{xs:Array Keyed}{pw:Nat}:∀{l:List (Nat×Nat×Nat)} {a b:Nat} (k:Nat),Runs blt xs l a b->Runs blt xs (l.modify k λx=>(x.1,x.2.1,pw)) a b
 | [],_,_,k,h=>by simpa using h
 | (s,n,p)::r,a,b,0,h=>by
  rw[List.modify_zero_cons]
  exact h
 | (s,n,p)::r,a,b,k+1,h=>by
  rw[List.modify_succ_cons]
  exact ⟨h.1,h.2.1,h.2.2.1,Runs.power k h.2.2.2⟩
theorem Runs.two{xs:Array Keyed}:∀{l:List (Nat×Nat×Nat)} {a b i sa na pa sb nb pb:Nat},Runs blt xs l a b->l[i]? = some (sa,na,pa)->l[i+1]? = some (sb,nb,pb)->sb=sa+na/\1<=na/\1<=nb/\a<=sa/\sb+nb<=b/\Qg blt xs sa sb/\Qg blt xs sb (sb+nb)
 | [],_,_,_,_,_,_,_,_,_,_,h,_=>by simp at h
 | (s,n,p)::r,a,b,0,sa,na,pa,sb,nb,pb,h,h1,h2=>by
  obtain ⟨e,hn,hs,hr⟩:=h
  have q:s=sa/\n=na/\p=pa:=by simpa using h1
  obtain ⟨q1,q2,q3⟩:=q
  subst q1 q2 q3
  subst e
  cases r with
  | nil=>simp at h2
  | cons y r' =>
   obtain ⟨s',n',p'⟩:=y
   have q':s'=sb/\n'=nb/\p'=pb:=by simpa using h2
   obtain ⟨q1,q2,q3⟩:=q'
   subst q1 q2 q3
   obtain ⟨e',hn',hs',hr'⟩:=hr
   have:=Runs.len hr'
   exact ⟨e',hn,hn',Ap _,by omega,by rw[e']; exact hs,by rw[e']; exact hs'⟩
 | (s,n,p)::r,a,b,i+1,sa,na,pa,sb,nb,pb,h,h1,h2=>by
  have:=Runs.two h.2.2.2 (by simpa using h1) (by simpa using h2)
  exact ⟨this.1,this.2.1,this.2.2.1,by have:=this.2.2.2.1; have:=h.2.1; omega,this.2.2.2.2.1,this.2.2.2.2.2⟩
theorem Runs.merge{xs ys:Array Keyed}:∀{l:List (Nat×Nat×Nat)} {a b i sa na pa sb nb pb:Nat},Runs blt xs l a b->l[i]? = some (sa,na,pa)->l[i+1]? = some (sb,nb,pb)->dZ xs ys sa (sb+nb)->Qg blt ys sa (sb+nb)->Runs blt ys ((l.set i (sa,na+nb,pa)).eraseIdx (i+1)) a b
 | [],_,_,_,_,_,_,_,_,_,_,h,_,_,_=>by simp at h
 | (s,n,p)::r,a,b,0,sa,na,pa,sb,nb,pb,h,h1,h2,o,as=>by
  have tw:=Runs.two h h1 h2
  obtain ⟨e,hn,hs,hr⟩:=h
  have q:s=sa/\n=na/\p=pa:=by simpa using h1
  obtain ⟨q1,q2,q3⟩:=q
  subst q1 q2 q3
  subst e
  cases r with
  | nil=>simp at h2
  | cons y r' =>
   obtain ⟨s',n',p'⟩:=y
   have q':s'=sb/\n'=nb/\p'=pb:=by simpa using h2
   obtain ⟨q1,q2,q3⟩:=q'
   subst q1 q2 q3
   obtain ⟨e',hn',hs',hr'⟩:=hr
   rw[List.set_cons_zero,Qe,List.eraseIdx_cons_zero]
   refine ⟨rfl,by omega,?_,?_⟩
   ·rw[show s+(n+n')=s'+n' by omega]
    exact as
   ·rw[show s+(n+n')=s+n+n' by omega]
    exact Runs.out o (.inr (by omega)) hr'
 | (s,n,p)::r,a,b,i+1,sa,na,pa,sb,nb,pb,h,h1,h2,o,as=>by
  have tw:=Runs.two (i:=i) h.2.2.2 (by simpa using h1) (by simpa using h2)
  rw[List.set_cons_succ,Qe]
  exact ⟨h.1,h.2.1,h.2.2.1.out o (.inl tw.2.2.2.1),Runs.merge h.2.2.2 (by simpa using h1) (by simpa using h2) o as⟩
theorem aY(P:Array (Nat×Nat×Nat))(i:Nat)(v:Nat×Nat×Nat):((P.setIfInBounds i v).eraseIdxIfInBounds (i+1)).toList=(P.toList.set i v).eraseIdx (i+1):=by
 rw[Array.toList_eraseIdxIfInBounds,Array.toList_setIfInBounds]
section
variable{prog:Bp}{w:World}{A:Cr}{s:Al}{kd:Kl}{Ok:Keyed->Prop}{E:Value->Al->Prop}{a₀:Array Keyed}
theorem Nc{α:Type}{c:Prop}[Decidable c]{p q:StateT Bm Sem α}{Q:α->Bm->Prop}{st:Bm}(h1:c->wpS (model prog w) A E s p Q st)(h2:¬ c->wpS (model prog w) A E s q Q st):wpS (model prog w) A E s (if c then p else q) Q st:=by
 by_cases h:c
 ·rw[if_pos h]; exact h1 h
 ·rw[if_neg h]; exact h2 h
theorem dQ(C:Cmp prog w A s kd Ok blt){st:Bm}(g:Good0 kd a₀ st)(h0:∀x∈a₀.toList,Ok x){lo i:Nat}(hlo:lo<=a₀.size)(rn:Runs blt (arrOf st) (Bb st).toList 0 lo)(hi:i+1<(Bb st).size){Q:Bool->Bm->Prop}(h:∀st',Good0 kd a₀ st'->Runs blt (arrOf st') (Bb st').toList 0 lo->(Bb st').size+1=(Bb st).size->(∀c d,lo<=c->Qg blt (arrOf st) c d->Qg blt (arrOf st') c d)->Q true st'):wpS (model prog w) A E s (Um i) Q st:=by
 obtain ⟨⟨sa,na,pa⟩,ha⟩ : ∃x,(Bb st)[i]? = some x:=⟨(Bb st)[i],by simp⟩
 obtain ⟨⟨sb,nb,pb⟩,hb⟩ : ∃x,(Bb st)[i+1]? = some x:=⟨(Bb st)[i+1],by simp⟩
 have la:(Bb st).toList[i]? = some (sa,na,pa):=by simpa using ha
 have lb:(Bb st).toList[i+1]? = some (sb,nb,pb):=by simpa using hb
 obtain ⟨t1,t2,t3,t4,t5,t6,t7⟩:=rn.two la lb
 refine gV C g h0 ha hb t1 t2 t3 (by omega) t6 t7 λst' g' pd as ou=>?_
 refine h st' g' ?_ ?_ λc d hc hs=>hs.out ou (.inr (by omega))
 ·rw[pd,aY]
  exact rn.merge la lb ou as
 ·have : (Bb st').toList.length+1=(Bb st).toList.length:=by
   rw[pd,aY,List.length_eraseIdx,List.length_set,Aw,if_pos hi]
   omega
  simpa using this
theorem xM{st:Bm}(g:Good0 kd a₀ st):Good kd a₀ (Bb st) st:=⟨g.kind,g.fail,g.perm,rfl⟩
theorem fR{st:Bm}{p:Array (Nat×Nat×Nat)}(g:Good kd a₀ p st):Good0 kd a₀ st:=⟨g.kind,g.fail,g.perm⟩
theorem bJ(C:Cmp prog w A s kd Ok blt){st:Bm}(g:Good0 kd a₀ st)(h0:∀x∈a₀.toList,Ok x)(hp:Bb st=#[])(hz:1<=a₀.size){Q:Unit->Bm->Prop}(h:∀st',Good0 kd a₀ st'->Qg blt (arrOf st') 0 a₀.size->Q () st'):wpS (model prog w) A E s bH Q st:=by
 unfold bH
 refine Ax (Lq ?_)
 have hsz:(arrOf st).size=a₀.size:=g.size
 dsimp only
 rw[hsz]
 generalize (sortPriv% PySem.Builtin.minRun) a₀.size a₀.size 0=mr
 refine Ax (Gb (Dz
  (I:=λx c st'=>∃lo,c=(none,lo)/\Good0 kd a₀ st'/\Runs blt (arrOf st') (Bb st').toList 0 lo/\lo<=a₀.size/\x<=lo)
  (Q:=λc st'=>c=(none,a₀.size)/\Good0 kd a₀ st'/\Runs blt (arrOf st') (Bb st').toList 0 a₀.size) ?_ ?_ ⟨0,rfl,g,by rw[hp]; exact rfl,by omega,by omega⟩) ?_)
 ·(intro x c st1 _ hx q_; obtain ⟨lo,rfl,g1,rn,hlo,hxl⟩ := q_)
  dsimp only
  by_cases hge:lo ≥ a₀.size
  ·rw[if_pos hge]
   have e:lo=a₀.size:=by omega
   subst e
   exact Bc ⟨rfl,g1,rn⟩
  rw[if_neg hge]
  refine Ax (rT C (xM g1) h0 (lo:=lo) (b:=a₀.size - lo) (by omega) (by omega) λm st2 g2 m1 m2 as ou=>?_)
  dsimp only
  have rn2:Runs blt (arrOf st2) (Bb st2).toList 0 lo:=by
   rw[g2.pd]
   exact rn.out ou (.inl (Ap _))
  have g2':=fR g2
  clear rn g1
  refine Nc (λhmin=>?_) (λhmin=>?_)
  ·refine Ax (Rl ?_)
   refine Ax (oE C g2 h0 (lo:=lo) (n:=min (a₀.size - lo) mr) (ok:=m) (by omega) as (by omega) λTc g3 as3 ou3=>?_)
   refine Nc (λz=>absurd z (by decide)) (λ_=>?_)
   have n1:1<=min (a₀.size - lo) mr:=by omega
   have n2:lo+min (a₀.size - lo) mr<=a₀.size:=by omega
   have rn3:Runs blt (arrOf Tc) (Bb Tc).toList 0 lo:=by
    rw[g3.pd,<- g2.pd]
    exact rn2.out ou3 (.inl (Ap _))
   have g3':=fR g3
   generalize min (a₀.size - lo) mr=n at as3 n1 n2
   clear g2 g2' rn2 as ou ou3 g3 m1 m2 hmin
   refine Ax (Lq ?_)
   cases hb:(Bb Tc).back? with
   | none =>
    dsimp only
    refine Ax (Ie ?_)
    refine Bc ⟨lo+n,rfl,⟨g3'.kind,g3'.fail,g3'.perm⟩,?_,n2,by omega⟩
    show Runs blt (arrOf Tc) ((Bb Tc).push (lo,n,0)).toList 0 (lo+n)
    rw[Km]
    exact rn3.push n1 as3
   | some y =>
    obtain ⟨s1,l1,p1⟩:=y
    dsimp only
    refine Ax (Gb (Dz
     (I:=λ_ c st'=>c=(none,())/\Good0 kd a₀ st'/\Runs blt (arrOf st') (Bb st').toList 0 lo/\Qg blt (arrOf st') lo (lo+n))
     (Q:=λc st'=>c=(none,())/\Good0 kd a₀ st'/\Runs blt (arrOf st') (Bb st').toList 0 lo/\Qg blt (arrOf st') lo (lo+n)) ?_ (λ_ _ z=>z) ⟨rfl,g3',rn3,as3⟩) ?_)
    ·(intro z c st4 _ _ q_; obtain ⟨rfl,g4,rn4,as4⟩ := q_)
     refine Ax (Lq ?_)
     by_cases hs1:(Bb st4).size > 1
     ·rw[if_pos hs1]
      obtain ⟨⟨a1,b1,older⟩,ho⟩ : ∃x,(Bb st4)[(Bb st4).size - 2]? = some x:=⟨(Bb st4)[(Bb st4).size - 2],by simp⟩
      rw[ho]
      dsimp only
      refine Nc (λ_=>Bc ⟨rfl,g4,rn4,as4⟩) (λ_=>?_)
      refine Ax (dQ C g4 h0 hlo rn4 (i:=(Bb st4).size - 2) (show (Bb st4).size - 2+1<(Bb st4).size by omega) λst5 g5 rn5 _ keep=>?_)
      refine Nc (λz=>absurd z (by decide)) (λ_=>?_)
      exact Bc ⟨rfl,g5,rn5,keep _ _ (Ap _) as4⟩
     ·rw[if_neg hs1]
      exact Bc ⟨rfl,g4,rn4,as4⟩
    ·(intro c st4 q_; obtain ⟨rfl,g4,rn4,as4⟩ := q_)
     dsimp only
     refine Ax (Ie ?_)
     refine Ax (Ie ?_)
     refine Bc ⟨lo+n,rfl,⟨g4.kind,g4.fail,g4.perm⟩,?_,n2,by omega⟩
     show Runs blt (arrOf st4) (((Bb st4).modify ((Bb st4).size - 1) _).push (lo,n,0)).toList 0 (lo+n)
     rw[Km,Array.toList_modify]
     exact (rn4.power _).push n1 as4
  ·have n2:lo+m<=a₀.size:=by omega
   refine Ax (Lq ?_)
   cases hb:(Bb st2).back? with
   | none =>
    dsimp only
    refine Ax (Ie ?_)
    refine Bc ⟨lo+m,rfl,⟨g2'.kind,g2'.fail,g2'.perm⟩,?_,n2,by omega⟩
    show Runs blt (arrOf st2) ((Bb st2).push (lo,m,0)).toList 0 (lo+m)
    rw[Km]
    exact rn2.push m1 as
   | some y =>
    obtain ⟨s1,l1,p1⟩:=y
    dsimp only
    refine Ax (Gb (Dz
     (I:=λ_ c st'=>c=(none,())/\Good0 kd a₀ st'/\Runs blt (arrOf st') (Bb st').toList 0 lo/\Qg blt (arrOf st') lo (lo+m))
     (Q:=λc st'=>c=(none,())/\Good0 kd a₀ st'/\Runs blt (arrOf st') (Bb st').toList 0 lo/\Qg blt (arrOf st') lo (lo+m)) ?_ (λ_ _ z=>z) ⟨rfl,g2',rn2,as⟩) ?_)
    ·(intro z c st4 _ _ q_; obtain ⟨rfl,g4,rn4,as4⟩ := q_)
     refine Ax (Lq ?_)
     by_cases hs1:(Bb st4).size > 1
     ·rw[if_pos hs1]
      obtain ⟨⟨a1,b1,older⟩,ho⟩ : ∃x,(Bb st4)[(Bb st4).size - 2]? = some x:=⟨(Bb st4)[(Bb st4).size - 2],by simp⟩
      rw[ho]
      dsimp only
      refine Nc (λ_=>Bc ⟨rfl,g4,rn4,as4⟩) (λ_=>?_)
      refine Ax (dQ C g4 h0 hlo rn4 (i:=(Bb st4).size - 2) (show (Bb st4).size - 2+1<(Bb st4).size by omega) λst5 g5 rn5 _ keep=>?_)
      refine Nc (λz=>absurd z (by decide)) (λ_=>?_)
      exact Bc ⟨rfl,g5,rn5,keep _ _ (Ap _) as4⟩
     ·rw[if_neg hs1]
      exact Bc ⟨rfl,g4,rn4,as4⟩
    ·(intro c st4 q_; obtain ⟨rfl,g4,rn4,as4⟩ := q_)
     dsimp only
     refine Ax (Ie ?_)
     refine Ax (Ie ?_)
     refine Bc ⟨lo+m,rfl,⟨g4.kind,g4.fail,g4.perm⟩,?_,n2,by omega⟩
     show Runs blt (arrOf st4) (((Bb st4).modify ((Bb st4).size - 1) _).push (lo,m,0)).toList 0 (lo+m)
     rw[Km,Array.toList_modify]
     exact (rn4.power _).push m1 as4
 ·(intro c st1 q_; obtain ⟨lo,rfl,g1,rn,hlo,hxl⟩ := q_)
  have : max 0 a₀.size=a₀.size:=by omega
  rw[this] at hxl
  have e:lo=a₀.size:=by omega
  subst e
  exact ⟨rfl,g1,rn⟩
 ·(intro c st1 q_; obtain ⟨rfl,g1,rn⟩ := q_)
  dsimp only
  have len0:=Runs.len rn
  rw[Aw] at len0
  refine Ax (Gb (Dz
   (I:=λx c st'=>c=(none,())/\Good0 kd a₀ st'/\Runs blt (arrOf st') (Bb st').toList 0 a₀.size/\((Bb st').size<=1\/(Bb st').size+x<=a₀.size))
   (Q:=λc st'=>c=(none,())/\Good0 kd a₀ st'/\Runs blt (arrOf st') (Bb st').toList 0 a₀.size/\(Bb st').size<=1) ?_ ?_ ⟨rfl,g1,rn,.inr (by omega)⟩) ?_)
  ·(intro x c st2 _ hx q_; obtain ⟨rfl,g2,rn2,hs⟩ := q_)
   refine Ax (Lq ?_)
   refine Nc (λh1=>Bc ⟨rfl,g2,rn2,h1⟩) (λh1=>?_)
   have h1':¬ (Bb st2).size<=1:=h1
   generalize hB:Option.any _ _=bb
   have key:∀i,i+1<(Bb st2).size->wpS (model prog w) A E s (Um i) (λr Tc=>r=true/\Good0 kd a₀ Tc/\Runs blt (arrOf Tc) (Bb Tc).toList 0 a₀.size/\(Bb Tc).size+1=(Bb st2).size) st2 :=
    λi hi=>dQ C g2 h0 (Ap _) rn2 hi λTc g3 rn3 sz _=>⟨rfl,g3,rn3,sz⟩
   refine Ax (Gb (key _ ?_) λr Tc ⟨er,g3,rn3,sz⟩=>?_)
   ·cases bb with
    | true=>show (Bb st2).size - 2 - 1+1<(Bb st2).size; omega
    | false=>show (Bb st2).size - 2+1<(Bb st2).size; omega
   subst er
   refine Nc (λz=>absurd z (by decide)) (λ_=>?_)
   exact Bc ⟨rfl,g3,rn3,.inr (by omega)⟩
  ·(intro c st2 q_; obtain ⟨rfl,g2,rn2,hs⟩ := q_)
   have : max 0 a₀.size=a₀.size:=by omega
   rw[this] at hs
   exact ⟨rfl,g2,rn2,by omega⟩
  ·(intro c st2 q_; obtain ⟨rfl,g2,rn2,hs⟩ := q_)
   dsimp only
   refine Bc (h st2 g2 ?_)
   generalize hl:(Bb st2).toList=l at rn2
   have hll:l.length<=1:=by rw[<- hl,Aw]; exact hs
   match l,rn2,hll with
   | [],rn2,_ =>
    have e:0=a₀.size:=rn2
    omega
   | [(s1,n1,p1)],rn2,_ =>
    obtain ⟨_,_,as,e⟩:=rn2
    have e':0+n1=a₀.size:=e
    rw[e'] at as
    exact as
end
end Ts
namespace Ts
open PySem PyProof.Rows L2
theorem Rn:∀l:List Int,HT.lexLt l l=false
 | []=>rfl
 | x::r=>by rw[HT.lexLt_cons,if_pos rfl]; exact Rn r
theorem Tb:∀{a b c:List Int},HT.lexLt a b=true->HT.lexLt b c=true->HT.lexLt a c=true
 | [],[],_,h,_=>by rw[HT.lexLt_nil_nil] at h; cases h
 | [],_::_,[],_,h=>by rw[HT.lexLt_cons_nil] at h; cases h
 | [],_::_,_::_,_,_=>HT.lexLt_nil_cons _ _
 | _::_,[],_,h,_=>by rw[HT.lexLt_cons_nil] at h; cases h
 | _::_,_::_,[],_,h=>by rw[HT.lexLt_cons_nil] at h; cases h
 | x::a,y::b,z::c,h1,h2=>by
  rw[HT.lexLt_cons] at h1 h2 ⊢
  by_cases e1:x=y
  ·subst e1
   rw[if_pos rfl] at h1
   by_cases e2:x=z
   ·subst e2
    rw[if_pos rfl] at h2 ⊢
    exact Tb h1 h2
   ·rw[if_neg e2] at h2 ⊢
    exact h2
  ·rw[if_neg e1] at h1
   have l1:x<y:=of_decide_eq_true h1
   by_cases e2:y=z
   ·subst e2
    rw[if_neg e1]
    exact h1
   ·rw[if_neg e2] at h2
    have l2:y<z:=of_decide_eq_true h2
    rw[if_neg (by omega)]
    exact decide_eq_true (by omega)
theorem Xf:∀{a b:List Int},HT.lexLt a b=false->HT.lexLt b a=false->a=b
 | [],[],_,_=>rfl
 | [],_::_,h,_=>by rw[HT.lexLt_nil_cons] at h; cases h
 | _::_,[],_,h=>by rw[HT.lexLt_nil_cons] at h; cases h
 | x::a,y::b,h1,h2=>by
  rw[HT.lexLt_cons] at h1 h2
  by_cases e:x=y
  ·subst e
   rw[if_pos rfl] at h1 h2
   rw[Xf h1 h2]
  ·rw[if_neg e] at h1
   rw[if_neg (Ny e)] at h2
   have l1:=of_decide_eq_false h1
   have l2:=of_decide_eq_false h2
   omega
theorem cR{a b c:List Int}(h:HT.lexLt a c=true):HT.lexLt a b=true\/HT.lexLt b c=true:=by
 cases h1:HT.lexLt a b with
 | true=>exact .inl rfl
 | false =>
  cases h2:HT.lexLt b a with
  | true=>exact .inr (Tb h2 h)
  | false =>
   rw[<- Xf h1 h2]
   exact .inr h
def X8(c:Addr->List Int)(x:Keyed):List Int:=match x.1 with
 | .ref a=>c a
 | _=>[]
def AD(c:Addr->List Int)(x y:Keyed):Bool:=HT.lexLt (X8 c x) (X8 c y)
def vD(c:Addr->List Int)(rs:List Addr)(h:Heap):Prop:=∀r∈rs,∃its:List Value,Dw its (c r)/\IsTup h r its.toArray
section
variable{prog:Bp}{w:World}{A:Cr}{E:Value->Al->Prop}{s:Al}{c:Addr->List Int}{rs:List Addr}
theorem nQ(hH:vD c rs s.heap)(hu:A.units<cLine){a b:Addr}(ha:a∈rs)(hb:b∈rs){Q:Bool->Al->Prop}(h:Q (HT.lexLt (c a) (c b)) s):wpAny (model prog w) A (oneLt' true (.ref a) (.ref b)) Q E s:=by
 obtain ⟨i1,t1,⟨c1,d1,dt1,sl1⟩,g1,k1,n1,e1⟩:=hH a ha
 obtain ⟨i2,t2,⟨c2,d2,dt2,sl2⟩,g2,k2,n2,e2⟩:=hH b hb
 simp only at k1 e1 k2 e2
 subst k1 e1 k2 e2
 rw[oneLt'_eq]
 simp only[if_true]
 refine Ag (wpAny_cRoomFor hu (Ag (wpAny_callSpecialIfBound?_slot ⟨_,g1,rfl⟩ PySem.F.slot_tuple_lt ?_)))
 refine Zy PySem.F.slot_tuple_lt ⟨_,g1,rfl⟩ PySem.F.entry_tuple_lt (PySem.F.args_tuple_lt_2 _ _) (HT.tuple_lt_ints a b _ _ n1 n2 d1 d2 sl1 sl2 (c a) (c b) (by simpa using t1) (by simpa using t2)) ⟨g1,g2,?_⟩
 exact Fl h
theorem uT(hH:vD c rs s.heap)(hu:A.units<cLine):Cmp prog w A s oneType' (λx=>∃r∈rs,x.1=.ref r) (AD c) where
 run:=λx y Q E ⟨r,hr,ex⟩ ⟨r',hr',ey⟩ h=>by
  obtain ⟨x1,x2⟩:=x
  obtain ⟨y1,y2⟩:=y
  simp only at ex ey
  subst ex ey
  rw[keyLt'_oneType]
  exact nQ hH hu hr hr' h
 irr:=λx=>Rn _
 tr:=λx y z h1 h2=>Tb h1 h2
 neg:=λx y z h=>cR h
theorem Ss:∀{l:List Addr} {Q:List (Option Value)->Al->Prop},(∀r∈l,∃its:List Value,Dw its (c r)/\IsTup s.heap r its.toArray)->(∀fs:List (Option Value),fs.length=l.length->(∀(i:Nat) (r:Addr),l[i]? = some r->∃f,fs[i]? = some f/\(f.isSome=true↔c r≠[]))->Q fs s)->wpAny (model prog w) A ((l.map Bg).mapM Zv) Q E s
 | [],Q,_,h=>by
  rw[Ww,List.mapM_nil]
  exact Ay (h [] rfl λi r e=>by simp at e)
 | r::l,Q,hH,h=>by
  obtain ⟨its,ti,o,g,k,n,e⟩:=hH r Ab
  rw[Ba,List.mapM_cons]
  have one:∀{R:Option Value->Al->Prop},R its.toArray[0]? s->wpAny (model prog w) A (Zv (.ref r)) R E s:=λ{R} hR=>by
   unfold Zv
   refine Ag (To (T := "tuple") ⟨o,g,k⟩ ?_)
   rw[if_neg (by simp)]
   exact Ag (bU g e (Ay hR))
  refine Ag (one (Ag (Ss (λr' hr'=>hH r' (Ak _ hr')) λfs hl hf=>Ay (h _ (by rw[Bk,Bk,hl]) λi r' er=>?_))))
  cases i with
  | zero =>
   have e':r=r':=by simpa using er
   subst e'
   refine ⟨_,rfl,?_⟩
   have hlen:=ti.length
   cases its with
   | nil =>
    cases hc:c r with
    | nil=>simp
    | cons _ _=>rw[hc] at hlen; simp at hlen
   | cons a b =>
    cases hc:c r with
    | nil=>rw[hc] at hlen; simp at hlen
    | cons _ _=>simp
  | succ i =>
   obtain ⟨f,h1,h2⟩:=hf i r' (by simpa using er)
   exact ⟨f,by simpa using h1,h2⟩
theorem bS:∀{l:List Addr} {Q:List Value->Al->Prop},(∀r∈l,∃its:List Value,Dw its (c r)/\IsTup s.heap r its.toArray)->Q (l.map λ_=>Gv "tuple") s->wpAny (model prog w) A ((l.map Bg).mapM typeOf) Q E s
 | [],Q,_,h=>by
  rw[Ww,List.mapM_nil]
  exact Ay h
 | r::l,Q,hH,h=>by
  obtain ⟨its,ti,o,g,k,n,e⟩:=hH r Ab
  rw[Ba,List.mapM_cons]
  exact Ag (To (T := "tuple") ⟨o,g,k⟩ (Ag (bS (λr' hr'=>hH r' (Ak _ hr')) (Ay h))))
theorem rM{r:Addr}{l:List Addr}(hH:vD c (r::l) s.heap)(h0:c r=[]){Q:Kl->Al->Prop}(h:Q oneType' s):wpAny (model prog w) A (keyKind' ((r::l).map Bg).toArray) Q E s:=by
 rw[keyKind'_eq,Wx]
 refine Ag ?_
 show wpAny (model prog w) A (List.toArray <$> ((r::l).map Bg).mapM Zv) _ E s
 rw[map_eq_pure_bind]
 refine Ag (Ss hH λfs hl hf=>Ay ?_)
 obtain ⟨f,h1,h2⟩:=hf 0 r rfl
 have fn:f=none:=by
  cases f with
  | none=>rfl
  | some v=>exact absurd h0 (h2.mp rfl)
 subst fn
 have na:¬ (fs.toArray.all λx=>x.isSome)=true:=by
  intro z
  have:=Array.all_eq_true'.mp z none (by
   have:=An h1
   simpa using this)
  simp at this
 have n0:¬ (fs.toArray[0]?.bind id).isSome=true:=by
  rw[Ic,h1]
  simp
 rw[if_neg na,if_neg n0,oneTypeOnly'_eq,Wx]
 refine Ag (Ag ?_)
 show wpAny (model prog w) A (List.toArray <$> ((r::l).map Bg).mapM typeOf) _ E s
 rw[map_eq_pure_bind]
 refine Ag (bS hH (Ay ?_))
 have e0:((r::l).map λ_=>Gv "tuple").toArray[0]? = some (Gv "tuple"):=by simp
 have ea:(((r::l).map λ_=>Gv "tuple").toArray.all λx=>x == Gv "tuple")=true:=by
  simp only[List.all_toArray,Kw,Ex]
  intro _ _
  rfl
 rw[e0]
 dsimp only
 rw[ea,if_pos rfl]
 exact Ay (Ay h)
end
theorem Rv:∀{rs:List Addr} {us:List Value},Fi (rs.map V.ref) us->us=rs.map Bg
 | [],_,r=>by cases r; rfl
 | a::l,_,r=>by
  rw[Ba] at r
  cases r with
  | cons r1 r2 =>
   cases r1
   rw[Rv r2]
   rfl
theorem bD:∀rs:List Addr,Fi (rs.map V.ref) (rs.map Bg)
 | []=>.nil
 | _::l=>.cons rfl (bD l)
section
variable{prog:Bp}{w:World}{A:Cr}{E:Value->Al->Prop}{s:Al}{c:Addr->List Int}{rs:List Addr}
theorem Wt{h:Heap}{vs:List Value}{out:Array Value}{b:Addr}{o:Obj}(e:h.get? b=some o):(sortedAll h vs out).get? b=some o:=by
 have lt:=Bf e
 unfold sortedAll sortedHeap
 have z1:((h.push (Dm "list" #[] 0)).update h.objs.size (Cy (·++vs.toArray))).objs.size=h.objs.size+1:=by rw[Ji,Tp]
 have n1:b≠h.objs.size+1:=Cq (Xp lt)
 refine ((Eh _ _ _).2 b n1).trans (Aj _ (Aj _ (((Eh _ _ _).2 b n1).trans (Aj _ ?_))))
 exact ((Eh _ _ _).2 b (Cq lt)).trans (Aj _ e)
theorem aD{h:Heap}{vs:List Value}{out:Array Value}:∃n,(sortedAll h vs out).get? (h.objs.size+1)=some (Dm "list" out n):=by
 unfold sortedAll sortedHeap
 have z1:((h.push (Dm "list" #[] 0)).update h.objs.size (Cy (·++vs.toArray))).objs.size=h.objs.size+1:=by rw[Ji,Tp]
 have g1:(((h.push (Dm "list" #[] 0)).update h.objs.size (Cy (·++vs.toArray))).push (Dm "list" vs.toArray 0)).get? (h.objs.size+1)=some (Dm "list" vs.toArray 0):=by
  rw[<- z1]
  exact Bn _ rfl
 have g2:=Iw g1 (λ_=>#[])
 have g3:=Aj (Dm "list" #[] 0) (Aj (Dm "tuple" vs.toArray 0) g2)
 exact ⟨_,Iw g3 (λ_=>out)⟩
end
def O3{κ:Type}(c:Addr->κ)(d0:κ)(x:Keyed):κ:=match x.1 with
 | .ref a=>c a
 | _=>d0
def X6{κ:Type}(c:Addr->κ)(d0:κ)(lt_:κ->κ->Bool)(x y:Keyed):Bool:=lt_ (O3 c d0 x) (O3 c d0 y)
def iV{κ:Type}(prog:Bp)(w:World)(A:Cr)(s:Al)(rs:List Addr)(c:Addr->κ)(d0:κ)(lt_:κ->κ->Bool):Prop :=
 ∃kd,(∀(R:Kl->Al->Prop) (E:Value->Al->Prop),R kd s->wpAny (model prog w) A (keyKind' (rs.map Bg).toArray) R E s)/\Cmp prog w A s kd (λx=>∃r∈rs,x.1=.ref r) (X6 c d0 lt_)
section
variable{prog:Bp}{w:World}{A:Cr}{E:Value->Al->Prop}{s:Al}{κ:Type}{c:Addr->κ}{d0:κ}{lt_:κ->κ->Bool}{rs:List Addr}
theorem jM{a:Addr}{n:Nat}{P:Fin->Al->Prop}(hl:s.heap.get? a=some (Dm "list" (rs.map Bg).toArray n))(hC:∀h':Heap,(∀b o,b≠a->s.heap.get? b=some o->h'.get? b=some o)->2<=rs.length->iV prog w A { s with heap:=h' } rs c d0 lt_)(hz:rs.length<=Be)(h:∀rs':List Addr,rs'.Perm rs->rs'.Pairwise (λx y=>lt_ (c y) (c x)=false)->P (.done (.ret .none)) { s with heap:=sortedHeap s.heap a (rs.map Bg) (rs'.map Bg).toArray }):wpAny (model prog w) A (Builtin.«list.sort» ⟨[.ref a],[]⟩) P E s:=by
 have lt:=Bf hl
 have hsz:(rs.map Bg).toArray.size=rs.length:=by simp
 rw[list_sort_plain]
 refine Ag (bU hl rfl (Ag (Kk hl rfl ?_ (by rw[hsz]; exact hz))))
 obtain ⟨ep,hl1⟩ : ∃ep,(s.heap.update a (Cy λ_=>#[])).get? a=some (Dm "list" #[] ep):=⟨_,Iw hl (λ_=>#[])⟩
 refine Ag (Wk hl1 rfl (Ag (wpAny_newTuple (Ag (Rx (Em ?_)) ))))
 have hl2:(((s.heap.update a (Cy λ_=>#[])).push (Dm "tuple" (rs.map Bg).toArray 0)).push (Dm "list" #[] 0)).get? a=some (Dm "list" #[] ep):=by
  rw[Heap.get?_push_ne _ _ _ (by rw[Tp,Ji]; exact Cq (Xp lt)),
   Heap.get?_push_ne _ _ _ (by rw[Ji]; exact Cq lt)]
  exact hl1
 have kept:∀b o,b≠a->s.heap.get? b=some o->(((s.heap.update a (Cy λ_=>#[])).push (Dm "tuple" (rs.map Bg).toArray 0)).push (Dm "list" #[] 0)).get? b=some o:=λb o hb e=>by
  refine Aj _ (Aj _ ?_)
  exact ((Eh s.heap a _).2 b hb).trans e
 show wpAny (model prog w) A _ P E { s with heap:=((s.heap.update a (Cy λ_=>#[])).push (Dm "tuple" (rs.map Bg).toArray 0)).push (Dm "list" #[] 0) }
 dsimp only
 -- what is left Vt the runs
 have fin:∀(out:Array Value) (rs':List Addr),out=(rs'.map Bg).toArray->rs'.Perm rs->rs'.Pairwise (λx y=>lt_ (c y) (c x)=false) ->
   P (.done (.ret .none)) { s with heap:=sortedHeap s.heap a (rs.map Bg) out }:=λout rs' e p1 p2=>by rw[e]; exact h rs' p1 p2
 by_cases h2:(rs.map Bg).toArray.size<2
 ·rw[if_pos h2,if_pos h2]
  refine Ag (Ay ?_)
  rw[StateT.run_pure]
  refine Ag (Ay (Ag (Wk hl2 rfl (Ag (Kk hl2 rfl ?_ (by simp) ?_)))))
  ·simp only[bne_self_eq_false,Ck,if_false]
   refine Ay (fin _ rs ?_ (List.Perm.refl _) ?_)
   ·show Array.map (λx=>x.2) ((rs.map Bg).toArray.zip (rs.map Bg).toArray)=_
    apply Array.ext'
    simp [List.map_snd_zip]
   ·rw[hsz] at h2
    match rs,h2 with
    | [],_=>exact Jm
    | [_],_=>exact He _ _
    | _::_::_,h2=>simp only[Bk] at h2; omega
  ·show (Array.map (λx:Keyed=>x.2) ((rs.map Bg).toArray.zip (rs.map Bg).toArray)).size<=Be+1
   rw[Array.size_map,Array.size_zip,hsz]
   omega
 ·rw[if_neg h2,if_neg h2]
  rw[hsz] at h2
  obtain ⟨kd,hk,C⟩:=hC (((s.heap.update a (Cy λ_=>#[])).push (Dm "tuple" (rs.map Bg).toArray 0)).push (Dm "list" #[] 0)) kept (by omega)
  refine Ag (hk _ _ ?_)
  have a0:(pairsOf (rs.map Bg)).size=rs.length:=by rw[pairsOf_size,Aa]
  refine Ag (Ez (bJ C (a₀:=pairsOf (rs.map Bg)) (st:=Ut kd ((rs.map Bg).toArray.zip (rs.map Bg).toArray) #[] 7 none) (E:=E)
   (Q:=λ_ st'=>Good0 kd (pairsOf (rs.map Bg)) st'/\Qg (X6 c d0 lt_) (arrOf st') 0 (pairsOf (rs.map Bg)).size)
   ⟨rfl,rfl,Array.Perm.refl _⟩ (λx hx=>?_) rfl (by rw[a0]; omega) λst' g as=>⟨g,as⟩) ?_ λ_ _ z=>z)
  ·rw[pairsOf_toList] at hx
   obtain ⟨_,hm⟩:=mem_zip_self hx
   obtain ⟨r,hr,e⟩:=Bl.mp hm
   exact ⟨r,hr,e.symm⟩
  ·(rintro ⟨⟨⟩,st'⟩ s' q_; obtain ⟨rfl,g,as⟩ := q_)
   dsimp only
   -- the things of the new order
   have pl:(arrOf st').toList.Perm ((rs.map Bg).zip (rs.map Bg)):=by rw[<- pairsOf_toList]; exact Nn.mp g.perm
   have each:∀x∈(arrOf st').toList,∃r∈rs,x=(Bg r,Bg r):=λx hx=>by
    obtain ⟨e,hm⟩:=mem_zip_self (pl.mem_iff.mp hx)
    obtain ⟨r,hr,e2⟩:=Bl.mp hm
    refine ⟨r,hr,?_⟩
    obtain ⟨x1,x2⟩:=x
    simp only at e e2
    rw[<- e,e2]
   have ex:∀l:List Keyed,(∀x∈l,∃r∈rs,x=(Bg r,Bg r))->∃rs':List Addr,l=rs'.map λr=>(Bg r,Bg r):=by
    intro l
    induction l with
    | nil=>intro _; exact ⟨[],rfl⟩
    | cons x l ih =>
     intro hx
     obtain ⟨r,_,e⟩:=hx x Ab
     obtain ⟨rs',e'⟩:=ih λy hy=>hx y (Ak _ hy)
     exact ⟨r::rs',by rw[Ba,e,e']⟩
   obtain ⟨rs',ers⟩:=ex _ each
   have zz:(rs.map Bg).zip (rs.map Bg)=rs.map λr=>(Bg r,Bg r):=by
    rw[List.zip_map',]
   rw[ers,zz] at pl
   have inj:∀x:Keyed,∃a:Addr,True:=λ_=>⟨0,trivial⟩
   have pr:rs'.Perm rs:=by
    have:=pl.map (λx:Keyed=>match x.1 with | .ref a=>a | _=>0)
    rw[Bz,Bz] at this
    simpa [Ux] using this
   have so:rs'.Pairwise (λx y=>lt_ (c y) (c x)=false):=by
    rw[Da]
    intro i j hi hj hij
    have ls:(arrOf st').size=rs'.length:=by
     have:=congrArg Ga ers
     rw[Aw,Aa] at this
     exact this
    have xe:∀k (hk:k<rs'.length),X (arrOf st') k=(Bg rs'[k],Bg rs'[k]):=λk hk=>by
     have e1:=Dx (Vn (xs:=arrOf st') (i:=k) (by omega))
     rw[ers,Ao,Ai hk] at e1
     exact (Bo e1).symm
    have:=as i j (Ei _) (by omega) (by rw[a0,<- pr.length_eq]; exact hj)
    rw[xe i hi,xe j hj] at this
    exact this
   refine Ag (Wk hl2 rfl (Ag (Kk hl2 rfl ?_ (by simp) ?_)))
   ·have fl:Jz st'=none:=g.fail
    rw[fl]
    simp only[bne_self_eq_false,Ck,if_false]
    refine Ay (fin _ rs' ?_ pr so)
    apply Array.ext'
    rw[Array.toList_map,ers,Bz]
    rfl
   ·show (Array.map (λx:Keyed=>x.2) (arrOf st')).size<=Be+1
    rw[Array.size_map,g.size,a0]
    omega
theorem Pq{l:Addr}{Q:Value->Al->Prop}(hl:s.heap.IsList l (rs.map Bg).toArray)(hC:∀(A':Cr) (h':Heap),A'.units<=A.units+2->A'.handled=A.handled->(∀b o,s.heap.get? b=some o->h'.get? b=some o)->2<=rs.length->iV prog w A' { s with heap:=h' } rs c d0 lt_)(hz:rs.length<=Be)(h:∀rs':List Addr,rs'.Perm rs->rs'.Pairwise (λx y=>lt_ (c y) (c x)=false)->Q (.ref (s.heap.objs.size+1)) { s with heap:=sortedAll s.heap (rs.map Bg) (rs'.map Bg).toArray }):wpAny (model prog w) A (call (.builtin "sorted") [.ref l]) Q E s:=by
 refine Calls.call_function_entry (by exact kind_sorted) plain_sorted entry_sorted (args_sorted1 _) ?_
 unfold Builtin.«sorted»
 refine Ag (m:=checkCount "sorted" 1 1 _) (Ay (Ag (collect_list hl (Ag (Rx ?_)) (by rw[Aa]; exact hz))))
 have z1:((s.heap.push (Dm "list" #[] 0)).update s.heap.objs.size (Cy (·++(rs.map Bg).toArray))).objs.size=s.heap.objs.size+1:=by rw[Ji,Tp]
 have g1:(((s.heap.push (Dm "list" #[] 0)).update s.heap.objs.size (Cy (·++(rs.map Bg).toArray))).push (Dm "list" (rs.map Bg).toArray 0)).get? (s.heap.objs.size+1)=some (Dm "list" (rs.map Bg).toArray 0):=by
  rw[<- z1]
  exact Bn _ rfl
 have kept:∀b o,s.heap.get? b=some o->(((s.heap.push (Dm "list" #[] 0)).update s.heap.objs.size (Cy (·++(rs.map Bg).toArray))).push (Dm "list" (rs.map Bg).toArray 0)).get? b=some o:=λb o e=>by
  refine Aj _ (((Eh _ _ _).2 b (Cq (Bf e))).trans (Aj _ e))
 show wpAny _ _ _ _ _ { s with heap:=((s.heap.push (Dm "list" #[] 0)).update s.heap.objs.size (Cy (·++(rs.map Bg).toArray))).push (Dm "list" (rs.map Bg).toArray 0) }
 rw[z1]
 refine Ag (Em (eB slot_list_sort ⟨_,g1,rfl⟩ entry_list_sort (jM g1 (λh' hk h2=>hC _ h' ?_ ?_ (λb o e=>hk b o (Cq (Xp (Bf e))) (kept b o e)) h2) hz λrs' p1 p2=>⟨_,rfl,?_⟩) (args_list_sort _)))
 ·first | exact Ap _ | (show A.units+1<=A.units+2; omega) | (show A.units<=A.units+2; omega)
 ·rfl
 ·exact Ay ⟨_,rfl,h rs' p1 p2⟩
end
section
variable{prog:Bp}{w:World}{A:Cr}{E:Value->Al->Prop}{s:Al}{c:Addr->List Int}{rs:List Addr}
theorem jY{b:Bool}{x y:Int}{t u:Tok}{Q:Bool->Al->Prop}(h:Q (decide (x<y)) s):wpAny (model prog w) A (oneLt' b (.int x t) (.int y u)) Q E s:=by
 cases b with
 | true=>exact oneLt_int h
 | false=>exact PySem.W.kat_one _ _ (lt_int h)
theorem gM{b:Bool}{Q:Bool->Al->Prop}:∀{xs ys:List Value} {ns ms:List Int} (i:Nat),Dw xs ns->Dw ys ms->Q (HT.lexLt ns ms) s->PySem.W.KatLex prog w A b (decide (xs.length<ys.length)) Q (xs.zip ys) i s
 | _,_,_,_,i,.nil,.nil,h=>h
 | _,_,_,_,i,.nil,.cons m u k,h=>h
 | _,_,_,_,i,.cons n t k,.nil,h=>h
 | _,_,_,_,i,.cons (vs:=xs) n t k,.cons (vs:=ys) m u k2,h=>by
  rw[Hl]
  refine PySem.W.kat_cons (wpAny_eqBool_int ?_)
  rw[HT.lexLt_cons] at h
  cases hnm:(n == m) with
  | true =>
   have e:n=m:=by simpa using hnm
   rw[if_pos e] at h
   refine PySem.W.kat_yes ?_
   have : decide ((Mz n t::xs).length<(Mz m u::ys).length)=decide (xs.length<ys.length):=by simp
   rw[this]
   exact gM (i+1) k k2 h
  | false =>
   have e:¬ n=m:=by simpa using hnm
   rw[if_neg e] at h
   exact PySem.W.kat_no (jY h)
theorem Yl:∀{l:List Addr},(∀r∈l,∃its:List Value,Dw its (c r)/\IsTup s.heap r its.toArray)->(∀r∈l,c r≠[])->∃fs:List Value,PySem.W.KatTups s.heap (l.map Bg) fs/\fs.length=l.length/\∀v∈fs,∃i t,v=.int i t
 | [],_,_=>⟨[],.nil,rfl,λ_ h=>(nomatch h)⟩
 | r::l,hH,hn=>by
  obtain ⟨fs,h1,h2,h3⟩:=Yl (λr' hr'=>hH r' (Ak _ hr')) (λr' hr'=>hn r' (Ak _ hr'))
  obtain ⟨its,ti,o,g,k,n,e⟩:=hH r Ab
  have hne:=hn r Ab
  match its,ti with
  | [],ti=>cases hc:c r with
   | nil=>exact absurd hc hne
   | cons _ _=>rw[hc] at ti; cases ti
  | v::its,ti =>
   have : ∃i t,v=.int i t:=by
    revert ti
    generalize c r=cr
    intro ti
    cases ti with
    | cons m t k=>exact ⟨_,_,rfl⟩
   refine ⟨v::fs,PySem.W.KatTups.cons g k e (by simp) h1,by rw[Bk,Bk,h2],λx hx=>?_⟩
   rcases Az.mp hx with rfl | hx
   ·exact this
   ·exact h3 x hx
theorem eX(hH:vD c rs s.heap)(hu:A.units<cLine)(h2:2<=rs.length):iV prog w A s rs c [] HT.lexLt:=by
 obtain ⟨r,l,rfl⟩ : ∃r l,rs=r::l:=by
  cases rs with
  | nil=>simp at h2
  | cons r l=>exact ⟨r,l,rfl⟩
 by_cases h0:c r=[]
 ·exact ⟨oneType',λR E h=>rM hH h0 h,uT hH hu⟩
 by_cases hall:∀r'∈r::l,c r'≠[]
 ·obtain ⟨fs,f1,f2,f3⟩:=Yl hH hall
  refine ⟨tuples' true,λR E h=>?_,?_⟩
  ·refine PySem.W.kat_kind (T:=.type "int") f1 (by rw[f2]; simp) (λv hv=>?_) (by decide) h
   obtain ⟨i,t,rfl⟩:=f3 v hv
   exact .now
  ·refine ⟨λx y Q E ⟨r1,hr1,ex⟩ ⟨r2,hr2,ey⟩ h=>?_,λx=>Rn _,λx y z=>Tb,λx y z=>cR⟩
   obtain ⟨x1,x2⟩:=x
   obtain ⟨y1,y2⟩:=y
   simp only at ex ey
   subst ex ey
   obtain ⟨i1,t1,o1,g1,k1,n1,e1⟩:=hH r1 hr1
   obtain ⟨i2,t2,o2,g2,k2,n2,e2⟩:=hH r2 hr2
   refine PySem.W.kat_lt g1 e1 g2 e2 ?_
   have e:(decide (i1.toArray.size<i2.toArray.size))=decide (i1.length<i2.length):=by simp
   rw[e]
   exact gM 0 t1 t2 h
 ·refine ⟨general',λR E h=>?_,?_⟩
  ·rw[kat_kind_eq,Wx,map_eq_pure_bind]
   refine Ag (Ag (Ss hH λfs hl hf=>Ay ?_))
   have na:¬ (fs.toArray.all λx=>x.isSome)=true:=by
    intro z
    refine hall λr' hr'=>?_
    obtain ⟨i,hi⟩:=List.getElem?_of_mem hr'
    obtain ⟨f,q1,q2⟩:=hf i r' hi
    refine q2.mp ?_
    exact Array.all_eq_true'.mp z f (by have:=An q1; simpa using this)
   obtain ⟨f,q1,q2⟩:=hf 0 r rfl
   have n0:(fs.toArray[0]?.bind id).isSome=true:=by
    rw[Ic,q1]
    simpa using q2.mpr h0
   rw[if_neg na,if_pos n0]
   exact Ay h
  ·refine ⟨λx y Q E ⟨r1,hr1,ex⟩ ⟨r2,hr2,ey⟩ h=>?_,λx=>Rn _,λx y z=>Tb,λx y z=>cR⟩
   obtain ⟨x1,x2⟩:=x
   obtain ⟨y1,y2⟩:=y
   simp only at ex ey
   subst ex ey
   obtain ⟨i1,t1,p1⟩:=hH r1 hr1
   obtain ⟨i2,t2,p2⟩:=hH r2 hr2
   show wpAny (model prog w) A (oneLt' false (.ref r1) (.ref r2)) Q E s
   exact PySem.W.kat_one _ _ (HT.lt_tupInts p1 p2 (show Dw i1.toArray.toList (c r1) by simpa using t1) (show Dw i2.toArray.toList (c r2) by simpa using t2) hu h)
end
section
variable{X:Cx}
def rSortI(K:PySem.W.Frag):List V->Hp->VK->Prop:=λxs H Q=>∃(a:Addr) (rs:List Addr) (c:Addr->List Int),xs=[.ref a]/\Pu K H a (rs.map V.ref)/\(∀r∈rs,Se K H r ((c r).map V.int)) /\
  ∀(p:Addr) (rs':List Addr),H p=none->rs'.Perm rs->rs'.Pairwise (λx y=>HT.lexLt (c y) (c x)=false)->Q (.ref p) (upd H p (.lst (rs'.map V.ref)))
theorem call_sortedI(hu:X.A.units+64<cLine):Ld X (.builtin "sorted") (rSortI X.K):=by
 intro pins s σ H xs us Q I r h
 obtain ⟨a,rs,c,rfl,hl,hc,q⟩:=h
 obtain ⟨u,rfl,ru⟩:=vals1 r
 cases ru
 obtain ⟨its,rv,pl,hz⟩:=I.list hl
 have e:=Rv rv
 subst e
 rw[Aa] at hz
 refine Pq (c:=c) (d0:=[]) (lt_:=HT.lexLt) pl.isList (λA' h' hA _ hk h2=>eX (λr hr=>?_) (by omega) h2) hz λrs' p1 p2=>?_
 ·obtain ⟨ti,t1,⟨o,g,k⟩,_⟩:=I.tuple (hc r hr)
  exact ⟨ti,intsAre_of t1,o,hk _ _ g,k⟩
 ·obtain ⟨n,hn⟩:=aD (h:=s.heap) (vs:=rs.map Bg) (out:=(rs'.map Bg).toArray)
  refine ⟨.ref (s.heap.objs.size+1),upd H (s.heap.objs.size+1) (.lst (rs'.map V.ref)),I.laid (t':=s.toks) (λb o e=>Wt e) (Nat.le_succ _) ⟨?_,_,n,bD rs',hn⟩,rfl,q _ rs' (I.hok.fresh (Nat.le_succ _)) p1 p2⟩
  rw[Aa,p1.length_eq]
  exact hz
end
end Ts
namespace DL
open PySem L2 Nd
def Ko{α:Type}(xs:List α)(lo hi:Option Int):List α:=(xs.drop (HT.sIx xs.length 0 lo)).take (HT.sIx xs.length xs.length hi - HT.sIx xs.length 0 lo)
theorem eT{α β:Type}(f:α->β)(xs:List α)(lo hi:Option Int):Ko (xs.map f) lo hi=(Ko xs lo hi).map f:=by
 unfold Ko
 rw[Aa,List.map_take,List.map_drop]
theorem Uk{α:Type}(xs:List α)(lo hi:Option Int):(Ko xs lo hi).Sublist xs:=(Ku _ _).trans (Il _ _)
theorem aX{α:Type}(xs:List α)(k:Nat):Ko xs none (some (k:Int))=xs.take k:=by
 unfold Ko
 rw[HT.sIx_none,HT.sIx_nat,List.drop_zero,Nat.sub_zero]
 by_cases h:k<=xs.length
 ·rw[Nat.min_eq_left h]
 ·rw[Nat.min_eq_right (by omega),Jh,Fd (by omega)]
section
variable{K:PySem.W.Frag}{H:Hp}
theorem RdFs.drop:∀(n:Nat) {xs:List V} {ds:List Ac} {F:List Addr},RdFs K H xs ds F->∃G,RdFs K H (xs.drop n) (ds.drop n) G/\G.Sublist F
 | 0,_,_,F,h=>⟨F,h,Dg _⟩
 | n+1,_,_,_,.nil=>⟨[],.nil,Dg _⟩
 | n+1,_,_,_,.cons _ t=>by
  obtain ⟨G,h1,h2⟩:=RdFs.drop n t
  exact ⟨G,h1,h2.trans (Dh _ _)⟩
theorem RdFs.take:∀(n:Nat) {xs:List V} {ds:List Ac} {F:List Addr},RdFs K H xs ds F->∃G,RdFs K H (xs.take n) (ds.take n) G/\G.Sublist F
 | 0,_,_,F,h=>⟨[],.nil,List.nil_sublist _⟩
 | n+1,_,_,_,.nil=>⟨[],.nil,Dg _⟩
 | n+1,_,_,_,.cons a t=>by
  obtain ⟨G,h1,h2⟩:=RdFs.take n t
  exact ⟨_,.cons a h1,(Dg _).append h2⟩
theorem RdFs.cut{xs:List V}{ds:List Ac}{F:List Addr}(h:RdFs K H xs ds F)(lo hi:Option Int):∃G,RdFs K H (Yg xs lo hi) (Ko ds lo hi) G/\G.Sublist F:=by
 unfold Yg Ko
 rw[h.len]
 obtain ⟨G,h1,h2⟩:=h.drop (HT.sIx ds.length 0 lo)
 obtain ⟨G',h3,h4⟩:=h1.take (HT.sIx ds.length ds.length hi - HT.sIx ds.length 0 lo)
 exact ⟨G',h3,h4.trans h2⟩
theorem RdFs.rep{xs:List V}{ds:List Ac}(h:RdFs K H xs ds []):∀k:Nat,RdFs K H (Ci k xs).flatten (Ci k ds).flatten []
 | 0=>.nil
 | k+1=>by
  rw[Fh,Fh,Gr,Gr]
  exact h.app (RdFs.rep h k)
theorem RdFs.ints:∀ns:List Int,RdFs K H (ns.map V.int) (ns.map Ad) []
 | []=>.nil
 | n::ns=>RdFs.cons (F:=[]) (.int n) (RdFs.ints ns)
theorem RdFs.ints_inv:∀{ns:List Int} {xs:List V} {F:List Addr},RdFs K H xs (ns.map Ad) F->xs=ns.map V.int/\F=[]
 | [],_,_,h=>by cases h; exact ⟨rfl,rfl⟩
 | n::ns,_,_,h=>by
  rw[Ba] at h
  cases h with
  | cons a t =>
   obtain ⟨rfl,rfl⟩:=a.int_inv
   obtain ⟨rfl,rfl⟩:=RdFs.ints_inv t
   exact ⟨rfl,rfl⟩
theorem RdFs.bools_inv:∀{ns:List Bool} {xs:List V} {F:List Addr},RdFs K H xs (ns.map PyData.bool) F->xs=ns.map V.bl/\F=[]
 | [],_,_,h=>by cases h; exact ⟨rfl,rfl⟩
 | n::ns,_,_,h=>by
  rw[Ba] at h
  cases h with
  | cons a t =>
   obtain ⟨rfl,rfl⟩:=a.bl_inv
   obtain ⟨rfl,rfl⟩:=RdFs.bools_inv t
   exact ⟨rfl,rfl⟩
end
theorem Ys{a b:List Ac}:Dv (a++b)=(Dv a && Dv b):=by
 induction a with
 | nil=>simp [Dv]
 | cons x a ih=>simp [Dv,ih,Bool.and_assoc]
theorem Nh(ns:List Int):Dv (ns.map Ad)=true:=Td (λ_=>by simp [imm]) ns
def jZ:D2:=λx y P=>match x,y with
 | .dat _ (.list ds),.dat _ (.list es)=>Dv ds=true/\Dv es=true/\ds.length+es.length<=1000000/\P (.dat .ow (.list (ds++es)))
 | _,_=>False
def cH:D2:=λx y P=>match x,y with
 | .dat _ (.tuple ds),.dat _ (.tuple es)=>Dv ds=true/\Dv es=true/\ds.length+es.length<=1000000/\P (.dat .ow (.tuple (ds++es)))
 | _,_=>False
def lS:D2:=λx y P=>match x,y with
 | .dat _ (.list ds),.dat _ (.int k)=>Dv ds=true /\ -1000000<=k/\k<=1000000/\ds.length * k.toNat<=1000000/\P (.dat .ow (.list (Ci k.toNat ds).flatten))
 | _,_=>False
section
variable{K:PySem.W.Frag}
theorem B5:gS K i7 jZ:=by
 intro H0 X n S T x y v w F G H Q P hA hd k
 unfold jZ at hd
 split at hd
 ·obtain ⟨i1,i2,hz,p⟩:=hd
  obtain ⟨b,ys,G1,rfl,hb,rb,_,_⟩:=(hA.told mem_mid).list_inv
  obtain ⟨a,xs,G2,rfl,ha,ra,_,_⟩:=(hA.told Es).list_inv
  have l1:=ra.len
  have l2:=rb.len
  refine ⟨a,b,xs,ys,rfl,rfl,ha,hb,nY (by omega),λq hq=>?_⟩
  exact k _ _ _ _ (hA.drop2.newI (ra.app rb) (by rw[Ys,i1,i2]; rfl) (by rw[Cc]; exact nY (by omega)) hq .ow) p
 ·exact hd.elim
theorem u7:gS K M9 lS:=by
 intro H0 X n S T x y v w F G H Q P hA hd k
 unfold lS at hd
 split at hd
 ·obtain ⟨i1,k0,k1,hz,p⟩:=hd
  obtain ⟨rfl,_⟩:=(hA.told mem_mid).int_inv
  obtain ⟨a,xs,G2,rfl,ha,ra,_,_⟩:=(hA.told Es).list_inv
  have l1:=ra.len
  obtain rfl:=ra.imm i1
  rename_i j
  refine ⟨a,_,xs,rfl,rfl,ha,by omega,by omega,nY (by rw[l1]; exact hz),λq hq=>?_⟩
  refine k _ _ _ _ (hA.drop2.newI (ra.rep _) ?_ (by rw[kI,Nat.mul_comm]; exact nY hz) hq .ow) p
  refine jF.mpr λz hz'=>?_
  obtain ⟨l,hl,hz'⟩:=List.mem_flatten.mp hz'
  rw[(Gd.mp hl).2] at hz'
  exact jF.mp i1 z hz'
 ·exact hd.elim
theorem vG:gS K (yK K) cH:=by
 intro H0 X n S T x y v w F G H Q P hA hd k
 unfold cH at hd
 split at hd
 ·obtain ⟨i1,i2,hz,p⟩:=hd
  obtain ⟨b,ys,rfl,hb,rb,zb⟩:=(hA.told mem_mid).tup_inv
  obtain ⟨a,xs,rfl,ha,ra,za⟩:=(hA.told Es).tup_inv
  have l1:=ra.len
  have l2:=rb.len
  obtain rfl:=ra.imm i1
  obtain rfl:=rb.imm i2
  refine ⟨a,b,xs,ys,rfl,rfl,Se.of ha,Se.of hb,nY (by omega),λe=>?_,λe=>?_,λq hq=>?_⟩
  ·subst e
   obtain rfl:=Hf.mp (l1.symm.trans rfl)
   exact k _ _ [] _ (hA.drop2.pushI (.tup hb zb rb)) p
  ·subst e
   obtain rfl:=Hf.mp (l2.symm.trans rfl)
   rw[Dk] at p
   exact k _ _ [] _ (hA.drop2.pushI (.tup ha za ra)) p
  ·have s1:=Hi hq (.tup (xs++ys))
   exact k _ _ [] _ ((hA.drop2.grow s1 (Ap _)).pushI (.tup Ej (by rw[Cc]; exact nY (by omega)) ((ra.app rb).kp (Kp.of s1)))) p
 ·exact hd.elim
end
section
variable{X:Cx}{a b:Expr}{da db:DE}{pos:Pos}
theorem Pc(ha:En X a da)(hb:En X b db):En X (.BinOp a .Add b pos) (Tw jZ da db):=Qs tV B5 ha hb
theorem kM(ha:En X a da)(hb:En X b db):En X (.BinOp a .Add b pos) (Tw cH da db):=Qs vC vG ha hb
theorem o9(ha:En X a da)(hb:En X b db):En X (.BinOp a .Mult b pos) (Tw lS da db):=Qs o7 u7 ha hb
end
abbrev DO:=DS->(Option Int->DS->Prop)->Prop
def LO(K:PySem.W.Frag)(do_:DO):TO:=λσ H Q=>∃(H0:Hp) (X:Addr->Prop) (S T:List Ent) (δ:DS) (P:Option Int->DS->Prop),vs S=σ/\Sl S δ/\At K H0 X δ.n (S++T) H/\do_ δ P /\
 ∀o δ' S' H',vs S'=σ->Sl S' δ'->At K H0 X δ'.n (S'++T) H'->P o δ'->Q o H'
abbrev D0(X:Cx)(e:Option Expr)(d:DO):Prop:=PO X e (LO X.K d)
theorem PO.imp{X:Cx}{e:Option Expr}{t t':TO}(h:PO X e t)(k:∀σ H Q,t' σ H Q->t σ H Q):PO X e t':=λpins s σ H Q I q=>h pins s σ H Q I (k σ H Q q)
def kE:DO:=λδ P=>P none δ
def yW(de:DE):DO:=λδ P=>de δ λx δ'=>match x with
 | .dat _ (.int i)=>P (some i) δ'
 | _=>False
section
variable{X:Cx}{e:Expr}{de:DE}{lo hi:Option Expr}{dl dh:DO}{pos p2:Pos}
theorem Rc:D0 X none kE:=by
 refine PO.imp vS λσ H Q h=>?_
 obtain ⟨H0,Y,S,T,δ,P,rfl,hS,hA,hd,k⟩:=h
 exact k _ δ S H rfl hS hA hd
theorem Rg(h:En X e de):D0 X (some e) (yW de):=by
 refine PO.imp (wA h) λσ H Q h=>?_
 obtain ⟨H0,Y,S,T,δ,P,rfl,hS,hA,hd,k⟩:=h
 refine ⟨H0,Y,S,T,δ,_,rfl,hS,hA,hd,λx δ' v F S' H' e1 e2 hA' p=>?_⟩
 split at p
 ·obtain ⟨rfl,_⟩:=(hA'.told mem_mid).int_inv
  exact ⟨_,rfl,k _ δ' S' H' e1 e2 hA'.drop p⟩
 ·exact p.elim
def X9(i:Bool)(de:DE)(dl dh:DO):DE:=λδ P=>de δ λx δ1=>dl δ1 λl δ2=>dh δ2 λh δ3=>match x with
 | .dat m (.list ds)=>Wg i m (Ko ds l h) λz=>P z δ3
 | .dat m (.tuple ds)=>pP i m (Ko ds l h) λz=>P z δ3
 | _=>False
def S9(K:PySem.W.Frag):V->Option Int->Option Int->Hp->VK->Prop:=λx lo hi H Q=>w4 K x lo hi H Q\/xT x lo hi H Q
theorem Tz{i:Bool}(he:En X e de)(hl:D0 X lo dl)(hh:D0 X hi dh):En X (.Subscript e (.Slice lo hi none p2) pos) (X9 i de dl dh):=by
 refine PE.imp (gN (r:=S9 X.K) (wN.or vW) he hl hh) λσ H Q h=>?_
 obtain ⟨H0,Y,S,T,δ,P,rfl,hS,hA,hd,k⟩:=h
 refine ⟨H0,Y,S,T,δ,_,rfl,hS,hA,hd,λx δ1 v F S1 H1 e1 e2 hA1 p1=>?_⟩
 refine ⟨H0,Y,S1,⟨some v,x,F⟩::T,δ1,_,e1,e2,hA1,p1,λl δ2 S2 H2 e3 e4 hA2 p2=>?_⟩
 refine ⟨H0,Y,S2,⟨some v,x,F⟩::T,δ2,_,e3,e4,hA2,p2,λh δ3 S3 H3 e5 e6 hA3 p3=>?_⟩
 split at p3
 ·obtain ⟨a,xs,G,rfl,ha,ra,rfl,hz⟩:=(hA3.told mem_mid).list_inv
  refine .inl ⟨a,xs,rfl,Pu.of ha,λp hp=>?_⟩
  obtain ⟨G',h1,h2⟩:=ra.cut l h
  obtain ⟨z,F',hA4,p4⟩:=hA3.newL h1 (h2.trans (Dl _ _)) (Cm (Uk _ _ _).length_le hz) hp p3
  exact k z δ3 _ F' S3 _ e5 e6 hA4 p4
 ·obtain ⟨a,xs,rfl,ha,ra,hz⟩:=(hA3.told mem_mid).tup_inv
  refine .inr ⟨a,xs,rfl,ha,λp H' hp s1=>?_⟩
  obtain ⟨G',h1,h2⟩:=ra.cut l h
  obtain ⟨z,F',hA4,p4⟩:=(hA3.grow s1 (Ap _)).oldT (h1.kp (Kp.of s1)) h2 (Cm (Uk _ _ _).length_le hz) hp p3
  exact k z δ3 _ F' S3 _ e5 e6 hA4 p4
 ·exact p3.elim
end
end DL
namespace NdS
open PySem PyProof.Rows
end NdS
namespace Nd
open PySem PySem.Spec PyProof.Rows L2 NdS
end Nd
namespace DL
open PySem L2 Nd
def P6(x:Int):List Int->List Int
 | []=>[x]
 | y::l=>if x<y then x::y::l else if x=y then y::l else y::P6 x l
def K4(ns:List Int):List Int:=ns.foldr P6 []
abbrev DC:=List DV->(DV->Prop)->Prop
def Nf(K:PySem.W.Frag)(r:List V->Hp->VK->Prop)(rd:DC):Prop:=∀(H0:Hp) (X:Addr->Prop) (n:Nat) (S T As:List Ent) (us:List V) (H:Hp) (Q:VK) (P:DV->Prop),
 As.map Ent.v=us.map some->At K H0 X n (S++(As++T)) H->rd (As.map Ent.x) P->(∀z u F' H',At K H0 X n (S++⟨some u,z,F'⟩::T) H'->P z->Q u H')->r us H Q
def O5(rd:DC)(da:DA):DE:=λδ P=>da δ λxs δ1=>rd xs λz=>P z δ1
section
variable{X:Cx}{x:Str}{p pos:Pos}{e:Expr}{es:List Expr}{da:DA}{id T:String}{r:List V->Hp->VK->Prop}{rd:DC}
theorem sP{K:PySem.W.Frag}(o:Nf K r rd):∀σ H Q,LE K (O5 rd da) σ H Q->R8 r (LA K da) σ H Q:=by
 intro σ H Q h
 obtain ⟨H0,Y,S,T,δ,P,rfl,hS,hA,hd,k⟩:=h
 refine ⟨H0,Y,S,T,δ,_,rfl,hS,hA,hd,λxs δ' As us S' H' e1 e2 ex eu hA' p=>?_⟩
 subst ex
 exact o H0 Y δ'.n S' T As us H' Q _ eu hA' p λz u F' H'' hA3 p3=>k z δ' u F' S' H'' e1 e2 hA3 p3
theorem Df(hc:Ld X (.builtin id) r)(o:Nf X.K r rd)(hg:Gl X x)(hm:X.mg x=none)(hv:Ig x=some (.builtin id))(ha:kU X (e::es) da)(hn:x ≠ "__name__" := by decide)(hdb:(x == ("__debug__" : Str))=false:=by decide)(he:Bs (e::es) X.env=(false,eval e X.env)::Bs es X.env:=by rfl)(hpl:(Ih pos (Bs es X.env)).any (·.1)=false:=by rfl):En X (.Call (.Name x p) (e::es) [] pos) (O5 rd da) :=
 PE.imp (pA hc hg hm hv ha hn hdb he hpl) (sP o)
theorem Jw(hc:Ld X (.type T) r)(o:Nf X.K r rd)(hg:Gl X x)(hm:X.mg x=none)(hv:Ig x=some (.type T))(ha:kU X (e::es) da)(hn:x ≠ "__name__" := by decide)(hdb:(x == ("__debug__" : Str))=false:=by decide)(he:Bs (e::es) X.env=(false,eval e X.env)::Bs es X.env:=by rfl)(hpl:(Ih pos (Bs es X.env)).any (·.1)=false:=by rfl):En X (.Call (.Name x p) (e::es) [] pos) (O5 rd da) :=
 PE.imp (aT hc hg hm hv ha hn hdb he hpl) (sP o)
end
theorem j5{α β:Type}{f:α->β}{l:List α}{x:β}(h:l.map f=[x]):∃a,l=[a]/\f a=x:=by
 cases l with
 | nil=>cases h
 | cons a t =>
  obtain ⟨h1,h2⟩:=Fv h
  exact ⟨a,by rw[oP.mp h2],h1⟩
theorem F9{α β:Type}{f:α->β}{l:List α}{x y:β}(h:l.map f=[x,y]):∃a b,l=[a,b]/\f a=x/\f b=y:=by
 cases l with
 | nil=>cases h
 | cons a t =>
  obtain ⟨h1,h2⟩:=Fv h
  obtain ⟨b,rfl,h3⟩:=j5 h2
  exact ⟨a,b,rfl,h1,h3⟩
theorem Gs{K:PySem.W.Frag}{H0 H:Hp}{X:Addr->Prop}{n:Nat}{S T As:List Ent}{us:List V}{x:DV}(eu:As.map Ent.v=us.map some)(hA:At K H0 X n (S++(As++T)) H)(ex:As.map Ent.x=[x]):∃v F,us=[v]/\At K H0 X n (S++⟨some v,x,F⟩::T) H:=by
 obtain ⟨⟨v,y,F⟩,rfl,h1⟩:=j5 ex
 obtain ⟨u,rfl,h2⟩:=j5 eu.symm
 have h1':y=x:=h1
 have h2':some u=v:=h2
 subst h1' h2'
 exact ⟨u,F,rfl,hA⟩
theorem Zu{K:PySem.W.Frag}{H0 H:Hp}{X:Addr->Prop}{n:Nat}{S T As:List Ent}{us:List V}{x y:DV}(eu:As.map Ent.v=us.map some)(hA:At K H0 X n (S++(As++T)) H)(ex:As.map Ent.x=[x,y]):∃v F w G,us=[v,w]/\At K H0 X n (S++⟨some v,x,F⟩::⟨some w,y,G⟩::T) H:=by
 obtain ⟨⟨v,x',F⟩,⟨w,y',G⟩,rfl,h1,h2⟩:=F9 ex
 obtain ⟨u,u',rfl,h3,h4⟩:=F9 eu.symm
 have h1':x'=x:=h1
 have h2':y'=y:=h2
 have h3':some u=v:=h3
 have h4':some u'=w:=h4
 subst h1' h2' h3' h4'
 exact ⟨u,F,u',G,rfl,hA⟩
def lK:DC:=λxs P=>match xs with
 | [.dat _ (.list ds)]=>P (.dat .ow (.int ds.length))
 | [.dat _ (.tuple ds)]=>P (.dat .ow (.int ds.length))
 | [.dat _ (.str z)]=>z.length<=1000000/\P (.dat .ow (.int z.length))
 | _=>False
def jE(i:Bool):DC:=λxs P=>match xs with
 | [.dat m (.list ds)]=>Wg i m ds P
 | [.dat m (.tuple ds)]=>Wg i m ds P
 | _=>False
def rX:DC:=λxs P=>match xs with
 | [.dat _ (.int i)]=>P (.dat .ow (.int i))
 | [.dat _ (.bool b)]=>P (.dat .ow (.int (if b=true then 1 else 0)))
 | _=>False
def iR:DC:=λxs P=>match xs with
 | [.dat _ (.int i),.dat _ (.int j)]=>P (.dat .ow (.int (if j > i then j else i)))
 | _=>False
def jD:DC:=λxs P=>match xs with
 | [.dat _ (.int i),.dat _ (.int j)]=>P (.dat .ow (.int (if j<i then j else i)))
 | _=>False
def iN:DC:=λxs P=>match xs with
 | [.dat _ (.list ds)]=>∃ns:List Int,ds=ns.map Ad/\ns≠[]/\∀M∈ns,(∀x∈ns,M<=x)->P (.dat .ow (.int M))
 | _=>False
def qZ:DC:=λxs P=>match xs with
 | [.dat _ (.list ds)]=>∃bs:List Bool,ds=bs.map PyData.bool/\P (.dat .ow (.bool (bs.all id)))
 | _=>False
def pZ:Ac->String
 | .none => "NoneType"
 | .bool _ => "bool"
 | .int _ => "int"
 | .str _ => "str"
 | .list _ => "list"
 | .tuple _ => "tuple"
 | .dict _ => "dict"
def Tg(d:Ac)(n:String):Bool:=pZ d == n || (pZ d == "bool" && n == "int")
def pX:DC:=λxs P=>match xs with
 | [.dat _ d,.val (.ty n)]=>(n = "int" \/ n = "bool" \/ n = "str" \/ n = "list" \/ n = "tuple")/\P (.dat .ow (.bool (Tg d n)))
 | _=>False
section
variable{K:PySem.W.Frag}
theorem Jn:Nf K (λxs H Q=>∃x n,xs=[x]/\J3 K x H n/\Q (.int n) H) lK:=by
 intro H0 X n S T As us H Q P eu hA hd k
 unfold lK at hd
 split at hd
 ·rename_i ex
  obtain ⟨v,F,rfl,hA⟩:=Gs eu hA ex
  obtain ⟨a,xs,G,rfl,ha,ra,_,_⟩:=(hA.told mem_mid).list_inv
  exact ⟨_,_,rfl,.inl ⟨xs,Pu.of ha,ra.len.symm⟩,k _ _ [] H (hA.drop.pushI (.int _)) hd⟩
 ·rename_i ex
  obtain ⟨v,F,rfl,hA⟩:=Gs eu hA ex
  obtain ⟨a,xs,rfl,ha,ra,_⟩:=(hA.told mem_mid).tup_inv
  exact ⟨_,_,rfl,.inr ⟨xs,Se.of ha,ra.len.symm⟩,k _ _ [] H (hA.drop.pushI (.int _)) hd⟩
 ·rename_i ex
  obtain ⟨v,F,rfl,hA⟩:=Gs eu hA ex
  obtain ⟨rfl,_⟩:=(hA.told mem_mid).str_inv
  exact ⟨_,_,rfl,⟨nY hd.1,rfl⟩,k _ _ [] H (hA.drop.pushI (.int _)) hd.2⟩
 ·exact hd.elim
theorem Ui{i:Bool}:Nf K (yU K) (jE i):=by
 intro H0 X n S T As us H Q P eu hA hd k
 unfold jE at hd
 split at hd
 ·rename_i ex
  obtain ⟨v,F,rfl,hA⟩:=Gs eu hA ex
  obtain ⟨a,xs,G,rfl,ha,ra,rfl,hz⟩:=(hA.told mem_mid).list_inv
  refine ⟨a,xs,rfl,.inl (Pu.of ha),λl hl=>?_⟩
  obtain ⟨z,F',h1,h2⟩:=hA.newL ra (Dl _ _) hz hl hd
  exact k _ _ _ _ h1 h2
 ·rename_i ex
  obtain ⟨v,F,rfl,hA⟩:=Gs eu hA ex
  obtain ⟨a,xs,rfl,ha,ra,hz⟩:=(hA.told mem_mid).tup_inv
  refine ⟨a,xs,rfl,.inr (Se.of ha),λl hl=>?_⟩
  obtain ⟨z,F',h1,h2⟩:=hA.newL ra (Dg _) hz hl hd
  exact k _ _ _ _ h1 h2
 ·exact hd.elim
theorem iZ:Nf K (λxs H Q=>(∃i,xs=[V.int i]/\Q (.int i) H)\/∃k,xs=[V.bl k]/\Q (.int (if k then 1 else 0)) H) rX:=by
 intro H0 X n S T As us H Q P eu hA hd k
 unfold rX at hd
 split at hd
 ·rename_i ex
  obtain ⟨v,F,rfl,hA⟩:=Gs eu hA ex
  obtain ⟨rfl,_⟩:=(hA.told mem_mid).int_inv
  exact .inl ⟨_,rfl,k _ _ [] H (hA.drop.pushI (.int _)) hd⟩
 ·rename_i ex
  obtain ⟨v,F,rfl,hA⟩:=Gs eu hA ex
  obtain ⟨rfl,_⟩:=(hA.told mem_mid).bl_inv
  exact .inr ⟨_,rfl,k _ _ [] H (hA.drop.pushI (.int _)) hd⟩
 ·exact hd.elim
theorem cB:Nf K (λxs H Q=>∃i j,xs=[V.int i,V.int j]/\Q (.int (if j > i then j else i)) H) iR:=by
 intro H0 X n S T As us H Q P eu hA hd k
 unfold iR at hd
 split at hd
 ·rename_i ex
  obtain ⟨v,F,w,G,rfl,hA⟩:=Zu eu hA ex
  obtain ⟨rfl,_⟩:=(hA.told mem_mid).int_inv
  obtain ⟨rfl,_⟩:=(hA.told Es).int_inv
  exact ⟨_,_,rfl,k _ _ [] H (hA.drop2.pushI (.int _)) hd⟩
 ·exact hd.elim
theorem lA:Nf K (λxs H Q=>∃i j,xs=[V.int i,V.int j]/\Q (.int (if j<i then j else i)) H) jD:=by
 intro H0 X n S T As us H Q P eu hA hd k
 unfold jD at hd
 split at hd
 ·rename_i ex
  obtain ⟨v,F,w,G,rfl,hA⟩:=Zu eu hA ex
  obtain ⟨rfl,_⟩:=(hA.told mem_mid).int_inv
  obtain ⟨rfl,_⟩:=(hA.told Es).int_inv
  exact ⟨_,_,rfl,k _ _ [] H (hA.drop2.pushI (.int _)) hd⟩
 ·exact hd.elim
theorem xG:Nf K (xZ K) iN:=by
 intro H0 X n S T As us H Q P eu hA hd k
 unfold iN at hd
 split at hd
 ·rename_i ex
  obtain ⟨v,F,rfl,hA⟩:=Gs eu hA ex
  obtain ⟨ns,rfl,h0,h1⟩:=hd
  obtain ⟨a,xs,G,rfl,ha,ra,rfl,hz⟩:=(hA.told mem_mid).list_inv
  obtain ⟨rfl,_⟩:=ra.ints_inv
  exact ⟨a,ns,rfl,Pu.of ha,h0,λM hM hm=>k _ _ [] H (hA.drop.pushI (.int _)) (h1 M hM hm)⟩
 ·exact hd.elim
theorem dY:Nf K (λxs H Q=>∃(p:Addr) (bs:List Bool),xs=[.ref p]/\Pu K H p (bs.map V.bl)/\Q (.bl (bs.all id)) H) qZ:=by
 intro H0 X n S T As us H Q P eu hA hd k
 unfold qZ at hd
 split at hd
 ·rename_i ex
  obtain ⟨v,F,rfl,hA⟩:=Gs eu hA ex
  obtain ⟨bs,rfl,h1⟩:=hd
  obtain ⟨a,xs,G,rfl,ha,ra,rfl,hz⟩:=(hA.told mem_mid).list_inv
  obtain ⟨rfl,_⟩:=ra.bools_inv
  exact ⟨a,bs,rfl,Pu.of ha,k _ _ [] H (hA.drop.pushI (.bl _)) h1⟩
 ·exact hd.elim
theorem xN{T n:String}{b:Bool}(h1:(Gv T == Gv n)=false)(h2:PySem.W.kitMeta n=true)(h3:(fastBuiltinMro T).map (λx=>x.contains (Gv n))=some b):PySem.W.kitOne K (.type T) (.type n)=some b:=B6 h1 h2 h3
theorem wI{d:Ac}{n:String}(hn:n = "int" \/ n = "bool" \/ n = "str" \/ n = "list" \/ n = "tuple"):PySem.W.kitOne K (.type (pZ d)) (.type n)=some (Tg d n):=by
 have main:∀T:String,(T = "NoneType" \/ T = "bool" \/ T = "int" \/ T = "str" \/ T = "list" \/ T = "tuple" \/ T = "dict")->PySem.W.kitOne K (.type T) (.type n)=some (T == n || (T == "bool" && n == "int")):=by
  intro T hT
  rcases hT with rfl | rfl | rfl | rfl | rfl | rfl | rfl <;> rcases hn with rfl | rfl | rfl | rfl | rfl <;> first | exact u0 | exact xN (by decide +kernel) (by decide +kernel) (by decide +kernel)
 unfold Tg
 refine main _ ?_
 cases d <;> simp [pZ]
theorem gT:Nf K (Y6 K) pX:=by
 intro H0 X n S T As us H Q P eu hA hd k
 unfold pX at hd
 split at hd
 ·rename_i ex
  obtain ⟨v,F,w,G,rfl,hA⟩:=Zu eu hA ex
  have hw:w=.ty _:=Bo (hA.ok _ Es).1
  subst hw
  have r:=hA.told mem_mid
  refine ⟨v,_,.type (pZ _),_,rfl,?_,wI hd.1,k _ _ [] H (hA.drop2.pushI (.bl _)) hd.2⟩
  ·cases r with
   | non=>exact .non
   | bl b=>exact .bl b
   | int i=>exact .int i
   | str x=>exact .str x
   | lst h l hs=>exact .lst h
   | tup h l hs=>exact .tup h
   | dic h e hs=>exact .dT h
   | dik h e hs=>exact .dK h
   | dnm h e hs=>exact .dT h
 ·exact hd.elim
end
def dV(v:V):DE:=λδ P=>P (.val v) δ
section
variable{X:Cx}{e:Expr}
theorem o6{v:V}(h:PE X e (tC v)):En X e (dV v):=by
 refine PE.imp h λσ H Q h=>?_
 obtain ⟨H0,Y,S,T,δ,P,rfl,hS,hA,hd,k⟩:=h
 exact k _ δ v [] S H rfl hS ((hA.push (e:=⟨some v,.val v,[]⟩) ⟨rfl,rfl⟩ (λf _=>⟨λ_ a ha=>(nomatch ha),λ_ a _=>Cz⟩) (λa ha=>(nomatch ha))).tomid) hd
theorem oW{x:Str}{n:String}{pos:Pos}(hg:Gl X x)(hm:X.mg x=none)(hv:Ig x=some (.type n))(hn:x ≠ "__name__" := by decide)(hd:(x == ("__debug__" : Str))=false:=by decide):En X (.Name x pos) (dV (.ty n)):=o6 (vK hg hm hv rfl hn hd)
end
end DL
namespace Nd
open PySem PySem.Spec PyProof.Rows L2
end Nd
namespace Nd
open PySem PySem.Spec PyProof.Rows L2
open AutoSeq1 (wpAny_loadPart')
end Nd
namespace DL
open PySem L2 Nd
def dB(de:DE):DT:=λδ P=>de δ λx δ'=>match x with
 | .dat _ (.bool b)=>P b δ'
 | _=>False
def xP:Ac->Bool
 | .none=>false
 | .bool b=>b
 | .int i=>i != 0
 | .str s=>(s.length:Int) != 0
 | .list ds=>!ds.isEmpty
 | .tuple ds=>!ds.isEmpty
 | .dict _=>true
def P0:Ac->Prop
 | .str s=>s.length<=1000000
 | .dict _=>False
 | _=>True
def C4(de:DE):DT:=λδ P=>de δ λx δ'=>match x with
 | .dat _ d=>P0 d/\P (xP d) δ'
 | _=>False
def xV(dt:DT):DT:=λδ P=>dt δ λb δ'=>P (!b) δ'
def yZ(dt du:DT):DT:=λδ P=>dt δ λb δ'=>match b with
 | true=>du δ' P
 | false=>P false δ'
def G5(dt du:DT):DT:=λδ P=>dt δ λb δ'=>match b with
 | true=>P true δ'
 | false=>du δ' P
def J1(de:DE):DE:=λδ P=>de δ λx δ'=>match x with
 | .dat _ (.bool b)=>P (.dat .ow (.bool (!b))) δ'
 | _=>False
def P7(da db:DE):DE:=λδ P=>da δ λx δ'=>match x with
 | .dat _ (.bool true)=>db δ' P
 | .dat _ (.bool false)=>P (.dat .ow (.bool false)) δ'
 | _=>False
def N6(dt:DT)(da db:DE):DE:=λδ P=>dt δ λb δ'=>match b with
 | true=>da δ' P
 | false=>db δ' P
section
variable{K:PySem.W.Frag}{de:DE}
theorem F0:∀σ H Q,LT K (dB de) σ H Q->LE K de σ H λx H'=>∃k,x=.bl k/\Q k H':=by
 intro σ H Q h
 obtain ⟨H0,Y,S,T,δ,P,rfl,hS,hA,hd,k⟩:=h
 refine ⟨H0,Y,S,T,δ,_,rfl,hS,hA,hd,λx δ1 v F S1 H1 e1 e2 hA1 p1=>?_⟩
 split at p1
 ·obtain ⟨rfl,_⟩:=(hA1.told mem_mid).bl_inv
  exact ⟨_,rfl,k _ δ1 S1 H1 e1 e2 hA1.drop p1⟩
 ·exact p1.elim
theorem i6{H:Hp}{v:V}{d:Ac}{F:List Addr}(r:RdF K H v d F)(h:P0 d):xA K v H (xP d):=by
 cases r with
 | non=>rfl
 | bl b=>rfl
 | int i=>rfl
 | str x=>exact ⟨nY h,rfl⟩
 | lst e l hs =>
  refine .inl ⟨_,Pu.of e,?_⟩
  have:=hs.len
  rename_i xs ds G
  cases xs <;> cases ds <;> first | rfl | cases this
 | tup e l hs =>
  refine .inr (.inl ⟨_,Se.of e,?_⟩)
  have:=hs.len
  rename_i xs ds
  cases xs <;> cases ds <;> first | rfl | cases this
 | dic _ _ _=>exact h.elim
 | dik _ _ _=>exact h.elim
 | dnm _ _ _=>exact h.elim
theorem zK:∀σ H Q,LT K (C4 de) σ H Q->LE K de σ H λx H'=>∃k,xA K x H' k/\Q k H':=by
 intro σ H Q h
 obtain ⟨H0,Y,S,T,δ,P,rfl,hS,hA,hd,k⟩:=h
 refine ⟨H0,Y,S,T,δ,_,rfl,hS,hA,hd,λx δ1 v F S1 H1 e1 e2 hA1 p1=>?_⟩
 split at p1
 ·exact ⟨_,i6 (hA1.told mem_mid) p1.1,k _ δ1 S1 H1 e1 e2 hA1.drop p1.2⟩
 ·exact p1.elim
end
section
variable{X:Cx}{a b c e:Expr}{da db de:DE}{dt du:DT}{pos:Pos}{Ft:List Expr}
theorem Mp(h:En X e de)(he:∀whole,isTrue e X.env whole=(do let v <- whole; standAt e.pos; Lu [v] (truthy v)):=by intro _; rfl):bE X e (dB de):=PT.imp (iF h he) F0
theorem Tf{op:CmpOp}{r:R2}{rd:D2}(ho:Tn X (Fo op) r)(o:gS X.K r rd)(ha:En X a da)(hb:En X b db)(hm:Jd op b=false):bE X (.Compare a [op] [b] pos) (dB (Tw rd da db)):=by
 refine PT.imp (kH ho ha hb hm) λσ H Q h=>?_
 exact op_le o _ _ _ (F0 σ H Q h)
theorem K0(ha:En X a da)(hb:En X b db):bE X (.Compare a [.Lt] [b] pos) (dB (Tw rdLt da db)):=Tf O8 (Wa λ_ _ _=>.bl _) ha hb (Nr _)
theorem yJ(ha:En X a da)(hb:En X b db):bE X (.Compare a [.Gt] [b] pos) (dB (Tw rdGt da db)):=Tf L5 (Wa λ_ _ _=>.bl _) ha hb (Nr _)
theorem N7(ha:En X a da)(hb:En X b db):bE X (.Compare a [.GtE] [b] pos) (dB (Tw rdGe da db)):=Tf sH (Wa λ_ _ _=>.bl _) ha hb (Nr _)
theorem bQ(hu:X.A.units+64<cLine)(ha:En X a da)(hb:En X b db):bE X (.Compare a [.Eq] [b] pos) (dB (Tw (bW false) da db)):=Tf (rD hu) yP ha hb (Nr _)
theorem Vx(hu:X.A.units+64<cLine)(ha:En X a da)(hb:En X b db):bE X (.Compare a [.NotEq] [b] pos) (dB (Tw (bW true) da db)):=Tf (zO hu) K3 ha hb (Nr _)
theorem rZ(hu:X.A.units+64<cLine)(ha:En X a da)(hb:En X b db)(hm:Jd .NotIn b=false:=by with_unfolding_all rfl):bE X (.Compare a [.NotIn] [b] pos) (dB (Tw (mK true) da db)):=Tf (nR hu) zC ha hb hm
theorem sZ(ha:En X a da)(hb:En X b db):bE X (.Compare a [.Is] [b] pos) (dB (Tw (kC false) da db)):=Tf zW g0 ha hb (Nr _)
theorem tG(ha:En X a da)(he:∀whole,isTrue a X.env whole=(do let v <- whole; standAt a.pos; Lu [v] (truthy v)):=by intro _; rfl):bE X a (C4 da):=PT.imp (tT ha he) zK
theorem Sy(h:bE X a dt):bE X (.UnaryOp .Not a pos) (xV dt):=by
 refine PT.imp (zF h) λσ H Q h=>?_
 obtain ⟨H0,Y,S,T,δ,P,rfl,hS,hA,hd,k⟩:=h
 exact ⟨H0,Y,S,T,δ,_,rfl,hS,hA,hd,λb δ' S' H' e1 e2 hA' p=>k _ δ' S' H' e1 e2 hA' p⟩
theorem Xj(h:bE X a dt):j9 X (.BoolOp .And [a] pos) dt:=uG h
theorem t8(h:bE X a dt):j9 X (.BoolOp .Or [a] pos) dt:=zZ h
theorem cY(h:bE X a dt)(hb:j9 X (.BoolOp .And (b::Ft) pos) du):j9 X (.BoolOp .And (a::b::Ft) pos) (yZ dt du):=by
 refine PW.imp (A8 h hb) λσ H Q h=>?_
 obtain ⟨H0,Y,S,T,δ,P,rfl,hS,hA,hd,k⟩:=h
 refine ⟨H0,Y,S,T,δ,_,rfl,hS,hA,hd,λb δ' S' H' e1 e2 hA' p=>?_⟩
 cases b with
 | true=>exact mJ ⟨H0,Y,S',T,δ',P,e1,e2,hA',p,k⟩
 | false=>exact mX (k _ δ' S' H' e1 e2 hA' p)
theorem O9(h:bE X a dt)(hb:j9 X (.BoolOp .Or (b::Ft) pos) du):j9 X (.BoolOp .Or (a::b::Ft) pos) (G5 dt du):=by
 refine PW.imp (P4 h hb) λσ H Q h=>?_
 obtain ⟨H0,Y,S,T,δ,P,rfl,hS,hA,hd,k⟩:=h
 refine ⟨H0,Y,S,T,δ,_,rfl,hS,hA,hd,λb δ' S' H' e1 e2 hA' p=>?_⟩
 cases b with
 | true=>exact mJ (k _ δ' S' H' e1 e2 hA' p)
 | false=>exact mX ⟨H0,Y,S',T,δ',P,e1,e2,hA',p,k⟩
theorem qE(h:j9 X a dt):bE X a dt:=PW.pt h
theorem iO{op}(h:En X a da):En X (.BoolOp op [a] pos) da:=i4 h
theorem iS(h:En X a da)(hb:En X (.BoolOp .And (b::Ft) pos) db):En X (.BoolOp .And (a::b::Ft) pos) (P7 da db):=by
 refine PE.imp (A4 h hb) λσ H Q h=>?_
 obtain ⟨H0,Y,S,T,δ,P,rfl,hS,hA,hd,k⟩:=h
 refine ⟨H0,Y,S,T,δ,_,rfl,hS,hA,hd,λx δ1 v F S1 H1 e1 e2 hA1 p1=>?_⟩
 split at p1
 ·obtain ⟨rfl,_⟩:=(hA1.told mem_mid).bl_inv
  exact ⟨_,rfl,mJ ⟨H0,Y,S1,T,δ1,P,e1,e2,hA1.drop,p1,k⟩⟩
 ·obtain ⟨rfl,_⟩:=(hA1.told mem_mid).bl_inv
  exact ⟨_,rfl,mX (k _ δ1 _ [] S1 H1 e1 e2 (hA1.drop.pushI (.bl _)) p1)⟩
 ·exact p1.elim
theorem zT(h:En X a da):En X (.UnaryOp .Not a pos) (J1 da):=by
 refine PE.imp (i9 h) λσ H Q h=>?_
 obtain ⟨H0,Y,S,T,δ,P,rfl,hS,hA,hd,k⟩:=h
 refine ⟨H0,Y,S,T,δ,_,rfl,hS,hA,hd,λx δ1 v F S1 H1 e1 e2 hA1 p1=>?_⟩
 split at p1
 ·obtain ⟨rfl,_⟩:=(hA1.told mem_mid).bl_inv
  exact ⟨_,rfl,k _ δ1 _ [] S1 H1 e1 e2 (hA1.drop.pushI (.bl _)) p1⟩
 ·exact p1.elim
theorem C7(hc:bE X c dt)(ha:En X a da)(hb:En X b db):En X (.IfExp c a b pos) (N6 dt da db):=by
 refine PE.imp (tH hc ha hb) λσ H Q h=>?_
 obtain ⟨H0,Y,S,T,δ,P,rfl,hS,hA,hd,k⟩:=h
 refine ⟨H0,Y,S,T,δ,_,rfl,hS,hA,hd,λb δ' S' H' e1 e2 hA' p=>?_⟩
 cases b with
 | true=>exact mJ ⟨H0,Y,S',T,δ',P,e1,e2,hA',p,k⟩
 | false=>exact mX ⟨H0,Y,S',T,δ',P,e1,e2,hA',p,k⟩
end
theorem PS.impD{X:Cx}{st:Stmt}{t t':TS}(h:PS X st t)(k:∀D σ H,t' D σ H->t D σ H):PS X st t':=λpins s σ H D I q=>h pins s σ H D I (k D σ H q)
theorem gU.impD{X:Cx}{st:List Stmt}{t t':TS}(h:gU X st t)(k:∀D σ H,t' D σ H->t D σ H):gU X st t':=λpins s σ H D I q=>h pins s σ H D I (k D σ H q)
def yQ:DB:=λD δ=>D.nx δ
def F8(t u:DB):DB:=λD δ=>t { D with nx:=λδ'=>u D δ' } δ
def Q4(de:DE):DB:=λD δ=>de δ D.rt
def X3(dt:DT)(t u:DB):DB:=λD δ=>dt δ λb δ'=>match b with
 | true=>t D δ'
 | false=>u D δ'
def sX(de:DE)(dg:DG):DB:=λD δ=>de δ λx δ'=>dg x δ' D.nx
section
variable{X:Cx}{st:Stmt}{e tg c:Expr}{t u:DB}{Ft:List Stmt}{de:DE}{dg:DG}{dt:DT}{pos:Pos}
theorem Jc:Wu X [] yQ:=by
 refine gU.impD Xb λD σ H h=>?_
 obtain ⟨H0,Y,S,T,δ,P,rfl,hS,hT,hA,hd,k1,k2,k3,k4⟩:=h
 exact k1 δ S H hS hA hd
theorem Bq(h1:tY X st t)(h2:Wu X Ft u):Wu X (st::Ft) (F8 t u):=by
 refine gU.impD (Fq h1 h2) λD σ H h=>?_
 obtain ⟨H0,Y,S,T,δ,P,rfl,hS,hT,hA,hd,k1,k2,k3,k4⟩:=h
 exact ⟨H0,Y,S,T,δ,_,rfl,hS,hT,hA,hd,λδ' S' H' e2 hA' p=>⟨H0,Y,S',T,δ',P,rfl,e2,hT,hA',p,k1,k2,k3,k4⟩,k2,k3,k4⟩
theorem Cw(h1:tY X st t):Wu X [st] t:=Pi h1
theorem Dt(he:En X e de):tY X (.Return (some e) pos) (Q4 de):=by
 refine PS.impD (Ta he) λD σ H h=>?_
 obtain ⟨H0,Y,S,T,δ,P,rfl,hS,hT,hA,hd,k1,k2,k3,k4⟩:=h
 exact ⟨H0,Y,S,T,δ,_,rfl,hS,hA,hd,λx δ' v F S' H' e1 e2 hA' p=>k2 x δ' v F S' H' e2 hA' p⟩
theorem Lp{a b:List Stmt}(hc:bE X c dt)(ha:Wu X a t)(hb:Wu X b u):tY X (.If c a b pos) (X3 dt t u):=by
 refine PS.impD (lH hc ha hb) λD σ H h=>?_
 obtain ⟨H0,Y,S,T,δ,P,rfl,hS,hT,hA,hd,k1,k2,k3,k4⟩:=h
 refine ⟨H0,Y,S,T,δ,_,rfl,hS,hA,hd,λb δ' S' H' e1 e2 hA' p=>?_⟩
 cases b with
 | true=>exact mJ ⟨H0,Y,S',T,δ',P,e1,e2,hT,hA',p,k1,k2,k3,k4⟩
 | false=>exact mX ⟨H0,Y,S',T,δ',P,e1,e2,hT,hA',p,k1,k2,k3,k4⟩
theorem iM{K:PySem.W.Frag}{te:TE}{g:TG}(h1:∀σ H Q,LE K de σ H Q->te σ H Q)(h2:∀v σ H Q,LG K dg v σ H Q->g v σ H Q):∀D σ H,LS K (sX de dg) D σ H->uS te g D σ H:=by
 intro D σ H h
 obtain ⟨H0,Y,S,T,δ,P,rfl,hS,hT,hA,hd,k1,k2,k3,k4⟩:=h
 refine h1 _ _ _ ⟨H0,Y,S,T,δ,_,rfl,hS,hA,hd,λx δ' v F S' H' e1 e2 hA' p=>?_⟩
 exact h2 _ _ _ _ ⟨H0,Y,S',T,δ',x,F,P.nx,e1,e2,hA',p,λδ2 S2 H2 e3 hA2 q=>k1 δ2 S2 H2 e3 hA2 q⟩
end
def Np(i:Nat):DG:=λx δ P=>match x with
 | .dat .pk _=>False
 | .dat _ d=>P ⟨δ.sl.set i (.dat .sh d),δ.n⟩
 | .val v=>P ⟨δ.sl.set i (.val v),δ.n⟩
 | .drw=>P ⟨δ.sl.set i .drw,δ.n⟩
 | .dT kvs=>P ⟨δ.sl.set i (.dT kvs),δ.n⟩
 | _=>False
def fT(i:Nat):DG:=λx δ P=>match x with
 | .dat .ow d=>P ⟨δ.sl.set i (.dat .ow d),δ.n⟩
 | .dat .tp d=>P ⟨δ.sl.set i (.dat .tp d),δ.n⟩
 | _=>False
theorem At.store{K:PySem.W.Frag}{H0 H:Hp}{X:Addr->Prop}{n:Nat}{S T:List Ent}{e:Ent}{i:Nat}(h:At K H0 X n (S++e::T) H):At K H0 X n (S.set i e++T) H:=by
 by_cases hi:i<S.length
 ·have hx:S[i]? = some S[i]:=by simp [hi]
  have p:(S++e::T).Perm (S[i]::(S.set i e++T)):=by
   refine List.perm_middle.trans ?_
   rw[<- Hg,<- Hg]
   exact (Yi hx).append_right T
  exact (h.perm p).sub (Dl _ _)
 ·rw[List.set_eq_of_length_le (by omega)]
  exact h.drop
theorem tE{S:List Ent}{i:Nat}{v:V}{x:DV}{F:List Addr}:vs (S.set i ⟨some v,x,F⟩)=(vs S).set i (some v):=by
 unfold vs
 rw[Kv]
theorem qI{S:List Ent}{δ:DS}{i n:Nat}{v:V}{x:DV}{F:List Addr}(h:Sl S δ):Sl (S.set i ⟨some v,x,F⟩) ⟨δ.sl.set i x,n⟩:=by
 unfold Sl at h ⊢
 rw[Kv,h]
theorem cC{K:PySem.W.Frag}{i:Nat}:∀v σ H Q,LG K (Np i) v σ H Q->Qv i v σ H Q:=by
 intro v σ H Q h
 obtain ⟨H0,Y,S,T,δ,x,F,P,rfl,hS,hA,hd,k⟩:=h
 show Q ((vs S).set i (some v)) H
 have fin:∀y,At K H0 Y δ.n (S++⟨some v,y,F⟩::T) H->P ⟨δ.sl.set i y,δ.n⟩->Q ((vs S).set i (some v)) H:=λy hA' p=>by
  rw[<- tE (x:=y) (F:=F)]
  exact k _ _ H (qI hS) hA'.store p
 unfold Np at hd
 split at hd
 ·exact hd.elim
 ·rename_i m d hm
  refine fin _ ?_ hd
  refine (hA.mid.wk ?_).tomid
  cases m <;> first | rfl | exact (hm rfl).elim
 ·exact fin _ hA hd
 ·exact fin _ hA hd
 ·exact fin _ hA hd
 ·exact hd.elim
theorem qV{K:PySem.W.Frag}{i:Nat}:∀v σ H Q,LG K (fT i) v σ H Q->Qv i v σ H Q:=by
 intro v σ H Q h
 obtain ⟨H0,Y,S,T,δ,x,F,P,rfl,hS,hA,hd,k⟩:=h
 show Q ((vs S).set i (some v)) H
 have fin:∀y,At K H0 Y δ.n (S++⟨some v,y,F⟩::T) H->P ⟨δ.sl.set i y,δ.n⟩->Q ((vs S).set i (some v)) H:=λy hA' p=>by
  rw[<- tE (x:=y) (F:=F)]
  exact k _ _ H (qI hS) hA'.store p
 unfold fT at hd
 split at hd
 ·exact fin _ hA hd
 ·exact fin _ hA hd
 ·exact hd.elim
section
variable{X:Cx}{pos:Pos}
theorem Hq{i:Nat}{x:Str}(hN:X.N.Nodup)(hi:X.N[i]? = some x)(hx:Loc X.env.scope x)(hf:X.fn x=true\/X.env.scope.names.lookup x=some .local:=by first | exact .inl rfl | exact .inr rfl | assumption):R1 X (.Name x pos) (Np i):=PG.imp (Rw hN hi hx hf) cC
theorem Dr{i:Nat}{x:Str}{e:Expr}{de:DE}{pos':Pos}(hN:X.N.Nodup)(hi:X.N[i]? = some x)(hx:Loc X.env.scope x)(he:En X e de)(hs:Sq e (some (.Name x pos')) pos.line X.env=pure false:=by rfl)(hf:X.fn x=true\/X.env.scope.names.lookup x=some .local:=by first | exact .inl rfl | exact .inr rfl | assumption):tY X (.Assign [.Name x pos'] e pos) (sX de (Np i)):=PS.impD (Nq hN hi hx he hs hf) (iM (λ_ _ _ h=>h) cC)
theorem Xa{i:Nat}{x:Str}{e:Expr}{de:DE}{pos':Pos}(hN:X.N.Nodup)(hi:X.N[i]? = some x)(hx:Loc X.env.scope x)(he:En X e de)(hs:Sq e (some (.Name x pos')) pos.line X.env=pure false:=by rfl)(hf:X.fn x=true\/X.env.scope.names.lookup x=some .local:=by first | exact .inl rfl | exact .inr rfl | assumption):tY X (.Assign [.Name x pos'] e pos) (sX de (fT i)):=PS.impD (Nq hN hi hx he hs hf) (iM (λ_ _ _ h=>h) qV)
end
def oR:rY:=λxs δ P=>match xs with
 | []=>P δ
 | _=>False
def lQ(g:DG)(gs:rY):rY:=λxs δ P=>match xs with
 | x::r=>g x δ λδ'=>gs r δ' P
 | []=>False
def tP(n:Nat)(gs:rY):DG:=λx δ P=>match x with
 | .dat m (.tuple ds)=>ds.length=n/\gs (ds.map λd=>.dat (Mx m) d) δ P
 | _=>False
theorem At.unpack{K:PySem.W.Frag}{H0 H:Hp}{X:Addr->Prop}{n:Nat}{m:Md}:∀{us:List V} {ds:List Ac} {F:List Addr} {E:List Ent},RdFs K H us ds F->(m=.ow->F.Nodup)->(∀f∈E,Ua ⟨none,.dat (Mx m) .none,F⟩ f)->(∀a∈cells ⟨none,.dat (Mx m) .none,F⟩,H0 a=none)->At K H0 X n E H->∃As:List Ent,As.map Ent.v=us.map some/\As.map Ent.x=ds.map (λd=>.dat (Mx m) d)/\(∀e∈As,∀a∈e.F,a∈F)/\At K H0 X n (As++E) H
 | _,_,_,_,.nil,_,_,_,h=>⟨[],rfl,rfl,λ_ z=>(nomatch z),h⟩
 | _,_,_,E,.cons (x:=x) (d:=d) (F:=F1) (G:=G1) a t,hn,hs,hnew,h=>by
  have cs:∀{G:List Addr} {u:Option V} {d':Ac},(∀b∈G,b∈F1++G1)->∀b∈cells ⟨u,.dat (Mx m) d',G⟩,b∈cells ⟨none,.dat (Mx m) .none,F1++G1⟩:=λ{G u d'} hG b hb=>by
   cases m with
   | ow=>exact hG b hb
   | _=>exact nomatch hb
  have sub:∀{G:List Addr} {u:Option V} {d':Ac} {f:Ent},(∀b∈G,b∈F1++G1)->Ua ⟨none,.dat (Mx m) .none,F1++G1⟩ f->Ua ⟨u,.dat (Mx m) d',G⟩ f:=λ{G u d' f} hG q=>by
   refine ⟨λhp b hb=>q.1 ?_ b (cs hG b hb),λhp b hb z=>q.2 ?_ b hb (hG b z)⟩
   ·rcases hp with hp | hp
    ·exact .inl hp
    ·cases hp
   ·rcases hp with hp | hp
    ·refine .inl ?_
     cases m <;> exact hp
    ·exact .inr hp
  obtain ⟨As,h1,h2,h3,h4⟩:=At.unpack (m:=m) t (λz=>(Gp.mp (hn z)).2.1) (λf hf=>sub (λb hb=>Av _ hb) (hs f hf)) (λb hb=>hnew b (cs (λb hb=>Av _ hb) b hb)) h
  refine ⟨⟨some x,.dat (Mx m) d,F1⟩::As,by rw[Ba,Ba,h1],by rw[Ba,Ba,h2],λe he b hb=>?_,?_⟩
  ·rcases Az.mp he with rfl | he
   ·exact Au _ hb
   ·exact Av _ (h3 e he b hb)
  ·refine h4.push ⟨x,rfl,a,λz=>?_,λz=>?_⟩ (λf hf=>?_) λb hb=>.inl (hnew b (cs (λb hb=>Au _ hb) b hb))
   ·cases m with
    | ow=>exact (Gp.mp (hn rfl)).1
    | _=>cases z
   ·cases m <;> cases z
   ·rcases Bi.mp hf with hf | hf
    ·have hx:f.x∈As.map Ent.x:=Bl.mpr ⟨f,hf,rfl⟩
     rw[h2] at hx
     obtain ⟨d',_,ed⟩:=Bl.mp hx
     refine ⟨λhp b hb z=>?_,λhp b hb z=>?_⟩
     ·cases m with
      | ow=>exact (Gp.mp (hn rfl)).2.2 b hb b (h3 f hf b z) rfl
      | _=>exact nomatch hb
     ·cases m with
      | ow=>exact (Gp.mp (hn rfl)).2.2 b z b (h3 f hf b (Fx _ _ hb)) rfl
      | _ =>
       unfold cells at hb
       rw[<- ed] at hb
       exact nomatch hb
    ·exact sub (λb hb=>Au _ hb) (hs f hf)
section
variable{X:Cx}{pos:Pos}
theorem vM:wG X [] oR:=by
 refine x9.imp kR λus σ H Q h=>?_
 obtain ⟨H0,Y,S,T,As,δ,P,rfl,hS,eu,hA,hd,k⟩:=h
 match As,hA,hd,eu with
 | [],hA,hd,eu =>
  cases us with
  | nil=>exact ⟨rfl,k δ S H hS hA hd⟩
  | cons _ _=>cases eu
 | _::_,hA,hd,eu=>exact hd.elim
theorem eY{e:Expr}{es:List Expr}{g:DG}{gs:rY}(h1:R1 X e g)(h2:wG X es gs)(hs:(Ii (e::es) X.env).map (·.2)=Wm e X.env::(Ii es X.env).map (·.2):=by rfl):wG X (e::es) (lQ g gs):=by
 refine x9.imp (Ze h1 h2 hs) λus σ H Q h=>?_
 obtain ⟨H0,Y,S,T,As,δ,P,rfl,hS,eu,hA,hd,k⟩:=h
 match As,hA,hd,eu with
 | [],hA,hd,eu=>exact hd.elim
 | ⟨v,x,F⟩::As,hA,hd,eu =>
  cases us with
  | nil=>cases eu
  | cons u us =>
   rw[Ba,Ba] at eu
   obtain ⟨e1,e2⟩:=Fv eu
   have e1':v=some u:=e1
   subst e1'
   refine ⟨u,us,rfl,H0,Y,S,As++T,δ,x,F,_,rfl,hS,hA,hd,λδ' S' H' e3 hA' p=>?_⟩
   exact ⟨H0,Y,S',T,As,δ',P,rfl,e3,e2,hA',p,k⟩
theorem C3{es:List Expr}{kk:Nat}{gs:rY}{n:Nat}(hc:X.calm=true)(h:wG X es gs)(hn:(Ii es X.env).length=n:=by rfl)(hst:(Ii es X.env).findIdx? (·.1)=none:=by rfl):R1 X (.Tuple es kk pos) (tP n gs):=by
 refine PG.imp (rG hc h hn hst) λv σ H Q h=>?_
 obtain ⟨H0,Y,S,T,δ,x,F,P,rfl,hS,hA,hd,k⟩:=h
 unfold tP at hd
 split at hd
 ·rename_i m ds
  obtain ⟨a,xs,rfl,ha,ra,hz⟩:=(hA.told mem_mid).tup_inv
  have hm:=hA.mid
  have hp:=Bt.mp hm.sep
  obtain ⟨w,_,_,hnd,_⟩:=hm.ok _ Ab
  have cs:∀b∈cells ⟨none,.dat (Mx m) .none,F⟩,b∈cells ⟨some (.ref a),.dat m (.tuple ds),F⟩:=λb hb=>by
   cases m with
   | ow=>exact hb
   | _=>exact nomatch hb
  obtain ⟨As,h1,h2,h3,h4⟩:=At.unpack (m:=m) (E:=S++T) ra hnd (λf hf=>by
   refine ⟨λhq b hb=>(hp.1 f hf).1 ?_ b (cs b hb),λhq b hb=>(hp.1 f hf).2 ?_ b hb⟩
   ·rcases hq with hq | hq
    ·exact .inl hq
    ·cases hq
   ·rcases hq with hq | hq
    ·refine .inl ?_
     cases m <;> first | rfl | exact hq
    ·exact .inr hq) (λb hb=>by
   rcases hm.new _ Ab b (cs b hb) with z | z
   ·exact z
   ·cases z.2) hA.drop
  refine ⟨a,xs,rfl,Se.of ha,by rw[ra.len]; exact hd.1,H0,Y,S,T,As,δ,P,rfl,hS,h1,h4.perm ?_,by rw[h2]; exact hd.2,k⟩
  rw[<- Ca,<- Ca]
  exact Fm.append_right T
 ·exact hd.elim
end
theorem jL{K:PySem.W.Frag}{H0 H:Hp}{X:Addr->Prop}{n:Nat}{E:List Ent}(h:At K H0 X n E H):∀{e f:Ent},e∈E->f∈E->e=f\/Ua e f:=by
 have main:∀{E:List Ent},E.Pairwise Ua->∀{e f:Ent},e∈E->f∈E->e=f\/Ua e f:=by
  intro E
  induction E with
  | nil=>intro _ e f he; cases he
  | cons g E ih =>
   intro hp e f he hf
   have hc:=Bt.mp hp
   rcases Az.mp he with he | he
   ·subst he
    rcases Az.mp hf with hf | hf
    ·exact .inl hf.symm
    ·exact .inr (hc.1 f hf)
   ·rcases Az.mp hf with hf | hf
    ·rw[hf]
     exact .inr (hc.1 e he).symm
    ·exact ih hc.2 he hf
 intro e f he hf
 exact main h.sep he hf
abbrev DI:=DS->(Md->List Ac->DS->Prop)->Prop
structure IterOk(K:PySem.W.Frag)(J:It)(hid:List Ent)(m:Md)(ds:List Ac):Prop where
 md:m=.sh\/m=.pk
 hd:∀e∈hid,cells e=[]
 np:m=.sh->∀e∈hid,Oz e.x=false
 go:∀H n i,(∀e∈hid,Iu K H n e)->i<ds.length->J.go i H
 yld:∀H n i x H',(∀e∈hid,Iu K H n e)->i<ds.length->J.yld i H x H'->Qm H H'/\∃d F,ds[i]? = some d/\RdF K H' x d F/\∀a∈F,∃e∈hid,a∈e.F
 stop:∀H n,(∀e∈hid,Iu K H n e)->J.stop ds.length H
def LI(K:PySem.W.Frag)(di:DI):TI:=λσ H R=>∃(H0:Hp) (X:Addr->Prop) (S T:List Ent) (δ:DS) (P:Md->List Ac->DS->Prop),vs S=σ/\Sl S δ/\At K H0 X δ.n (S++T) H/\di δ P /\
 ∀m ds δ' J hid S' H',vs S'=σ->Sl S' δ'->At K H0 X δ'.n (S'++(hid++T)) H'->IterOk K J hid m ds->ds.length<=Be->P m ds δ'->R J H'
abbrev wX(X:Cx)(tg iter:Expr)(di:DI):Prop:=PI X tg iter (LI X.K di)
theorem PI.imp{X:Cx}{tg e:Expr}{t t':TI}(h:PI X tg e t)(k:∀σ H Q,t' σ H Q->t σ H Q):PI X tg e t':=λpins s σ H Q I q=>h pins s σ H Q I (k σ H Q q)
def Kd:Md->Md
 | .pk=>.pk
 | _=>.sh
theorem cF(m:Md):wk m (Kd m)=true:=by cases m <;> rfl
theorem At.item{K:PySem.W.Frag}{H0 H H':Hp}{X:Addr->Prop}{n:Nat}{S T hid:List Ent}{m:Md}{v:V}{d:Ac}{F:List Addr}(h:At K H0 X n (S++(hid++T)) H)(s:Qm H H')(r:RdF K H' v d F)(hF:∀a∈F,∃e∈hid,a∈e.F)(md:m=.sh\/m=.pk)(hh:∀e∈hid,cells e=[])(np:m=.sh->∀e∈hid,Oz e.x=false):At K H0 X n (S++⟨some v,.dat m d,F⟩::(hid++T)) H':=by
 have h1:=h.grow (n':=n) s (Ap _)
 have c0:∀a,a∉cells ⟨some v,.dat m d,F⟩:=λa ha=>by
  rcases md with rfl | rfl <;> exact nomatch ha
 refine (h1.push (e:=⟨some v,.dat m d,F⟩) ⟨v,rfl,r,λz=>?_,λz=>?_⟩ (λf hf=>⟨λ_ a ha=>absurd ha (c0 a),λhq a ha z=>?_⟩) λa ha=>absurd ha (c0 a)).tomid
 ·rcases md with rfl | rfl <;> cases z
 ·rcases md with rfl | rfl <;> cases z
 ·obtain ⟨e,he,ze⟩:=hF a z
  have he':e∈S++(hid++T):=Av _ (Au _ he)
  rcases jL h he' hf with rfl | q
  ·rw[hh e he] at ha
   cases ha
  ·refine q.2 ?_ a ha ze
   rcases hq with hq | hq
   ·refine .inl (np ?_ e he)
    rcases md with rfl | rfl
    ·rfl
    ·cases hq
   ·exact .inr hq
def Y1(de:DE):DI:=λδ P=>de δ λx δ'=>match x with
 | .dat m (.list ds)=>P (Kd m) ds δ'
 | .dat m (.tuple ds)=>P (Kd m) ds δ'
 | _=>False
def eU(da:DA):DI:=λδ P=>da δ λxs δ'=>match xs with
 | [.dat _ (.int j)]=>-1000000<=j/\j<=1000000/\P .sh ((Cb j.toNat).map λi:Nat=>.int i) δ'
 | _=>False
def pU(da:DA):DI:=λδ P=>da δ λxs δ'=>match xs with
 | [.dat m (.list ds)]=>P (Kd m) (ds.zipIdx.map λp=>.tuple [.int p.2,p.1]) δ'
 | _=>False
def R4(da:DA):DI:=λδ P=>da δ λxs δ'=>match xs with
 | [.dat m (.tuple ds)]=>P (Kd m) (ds.zipIdx.map λp=>.tuple [.int p.2,p.1]) δ'
 | _=>False
section
variable{K:PySem.W.Frag}
theorem Lx{H:Hp}{n:Nat}{v:V}{m:Md}{d:Ac}{F:List Addr}{hid:List Ent}(h:∀e∈hid,Iu K H n e)(he:⟨some v,.dat m d,F⟩∈hid):RdF K H v d F:=by
 obtain ⟨w,e1,h1,_⟩:=h _ he
 cases e1
 exact h1
theorem pK{v:Option V}{m:Md}{d:Ac}{F:List Addr}:cells ⟨v,.dat (Kd m) d,F⟩=[]:=by cases m <;> rfl
theorem iY{v:Option V}{m:Md}{d:Ac}{F:List Addr}:∀e∈[(⟨v,.dat (Kd m) d,F⟩ : Ent)],cells e=[]:=λe he=>by
 rw[Am.mp he]
 exact pK
theorem tI{v:Option V}{m:Md}{d:Ac}{F:List Addr}:Kd m=.sh->∀e∈[(⟨v,.dat (Kd m) d,F⟩ : Ent)],Oz e.x=false:=λz e he=>by
 rw[Am.mp he]
 show Oz (.dat (Kd m) d)=false
 rw[z]
 rfl
theorem dU(m:Md):Kd m=.sh\/Kd m=.pk:=by cases m <;> simp [Kd]
theorem nE{a:Addr}{m:Md}{ds:List Ac}{F:List Addr}:IterOk K (W6 K a) [⟨some (.ref a),.dat (Kd m) (.list ds),F⟩] (Kd m) ds where
 md:=dU m
 hd:=iY
 np:=tI
 go:=λH n i h hi=>by
  obtain ⟨b,xs,G,e,hb,rb,_,_⟩:=(Lx h Ab).list_inv
  cases e
  have hl:=rb.len
  exact ⟨xs,xs[i],Pu.of hb,by simp [show i<xs.length by omega]⟩
 yld:=λH n i x H' h hi y=>by
  obtain ⟨b,xs,G,e,hb,rb,rfl,_⟩:=(Lx h Ab).list_inv
  cases e
  obtain ⟨rfl,y⟩:=y
  have hx:=y xs (Pu.of hb)
  obtain ⟨x',F',h1,h2,h3⟩:=rb.get (i:=i) (e:=ds[i]) (by simp [hi])
  rw[hx] at h1
  cases h1
  exact ⟨Qm.refl _,ds[i],F',by simp [hi],h2,λc hc=>⟨_,Ab,Ak _ (h3.subset hc)⟩⟩
 stop:=λH n h=>by
  obtain ⟨b,xs,G,e,hb,rb,_,_⟩:=(Lx h Ab).list_inv
  cases e
  exact ⟨xs,Pu.of hb,by rw[rb.len]; exact Ap _⟩
theorem pL{a:Addr}{m:Md}{ds:List Ac}{F:List Addr}:IterOk K (U7 K a) [⟨some (.ref a),.dat (Kd m) (.tuple ds),F⟩] (Kd m) ds where
 md:=dU m
 hd:=iY
 np:=tI
 go:=λH n i h hi=>by
  obtain ⟨b,xs,e,hb,rb,_⟩:=(Lx h Ab).tup_inv
  cases e
  have hl:=rb.len
  exact ⟨xs,xs[i],Se.of hb,by simp [show i<xs.length by omega]⟩
 yld:=λH n i x H' h hi y=>by
  obtain ⟨b,xs,e,hb,rb,_⟩:=(Lx h Ab).tup_inv
  cases e
  obtain ⟨rfl,y⟩:=y
  have hx:=y xs (Se.of hb)
  obtain ⟨x',F',h1,h2,h3⟩:=rb.get (i:=i) (e:=ds[i]) (by simp [hi])
  rw[hx] at h1
  cases h1
  exact ⟨Qm.refl _,ds[i],F',by simp [hi],h2,λc hc=>⟨_,Ab,h3.subset hc⟩⟩
 stop:=λH n h=>by
  obtain ⟨b,xs,e,hb,rb,_⟩:=(Lx h Ab).tup_inv
  cases e
  exact ⟨xs,Se.of hb,by rw[rb.len]; exact Ap _⟩
theorem iT{lo:Int}{n:Nat}:IterOk K (G3 lo n) [] .sh ((Cb n).map λi:Nat=>.int (lo+i)) where
 md:=.inl rfl
 hd:=λ_ z=>nomatch z
 np:=λ_ _ z=>nomatch z
 go:=λH k i h hi=>by
  show i<n
  simpa using hi
 yld:=λH k i x H' h hi y=>by
  obtain ⟨rfl,rfl⟩:=y
  rw[Aa,Ct] at hi
  exact ⟨Qm.refl _,.int (lo+i),[],by simp [hi],.int _,λ_ z=>nomatch z⟩
 stop:=λH k h=>by simp [G3]
theorem oD{a:Addr}{m:Md}{ds:List Ac}{F:List Addr}:IterOk K (W0 K a) [⟨some (.ref a),.dat (Kd m) (.list ds),F⟩] (Kd m) (ds.zipIdx.map λp=>.tuple [.int p.2,p.1]) where
 md:=dU m
 hd:=iY
 np:=tI
 go:=λH n i h hi=>by
  obtain ⟨b,xs,G,e,hb,rb,_,_⟩:=(Lx h Ab).list_inv
  cases e
  have hl:=rb.len
  rw[Aa,Nz] at hi
  exact ⟨xs,xs[i],Pu.of hb,by simp [show i<xs.length by omega]⟩
 yld:=λH n i x H' h hi y=>by
  obtain ⟨b,xs,G,e,hb,rb,rfl,_⟩:=(Lx h Ab).list_inv
  cases e
  rw[Aa,Nz] at hi
  obtain ⟨t,z,rfl,nt,rfl,y⟩:=y
  have hx:=y xs (Pu.of hb)
  obtain ⟨x',F',h1,h2,h3⟩:=rb.get (i:=i) (e:=ds[i]) (by simp [hi])
  rw[hx] at h1
  cases h1
  have s1:=Hi nt (.tup [.int i,z])
  refine ⟨s1,.tuple [.int i,ds[i]],F',by simp [hi],.tup Ej (by simp [Le]) ?_,λc hc=>⟨_,Ab,Ak _ (h3.subset hc)⟩⟩
  have:=RdFs.cons (F:=[]) (.int (i:Int)) (RdFs.cons (h2.kp (Kp.of s1)) RdFs.nil)
  rw[Dk] at this
  exact this
 stop:=λH n h=>by
  obtain ⟨b,xs,G,e,hb,rb,_,_⟩:=(Lx h Ab).list_inv
  cases e
  exact ⟨xs,Pu.of hb,by rw[Aa,Nz,rb.len]; exact Ap _⟩
end
section
variable{X:Cx}{tg e:Expr}{de:DE}{di:DI}
def dL(de:DE):DI:=λδ P=>de δ λx δ'=>match x with
 | .dat m (.list ds)=>P (Kd m) ds δ'
 | _=>False
def Y2(de:DE):DI:=λδ P=>de δ λx δ'=>match x with
 | .dat m (.tuple ds)=>P (Kd m) ds δ'
 | _=>False
theorem dW(h:En X e de):wX X tg e (dL de):=by
 refine PI.imp (xQ h) λσ H R h=>?_
 obtain ⟨H0,Y,S,T,δ,P,rfl,hS,hA,hd,k⟩:=h
 refine ⟨H0,Y,S,T,δ,_,rfl,hS,hA,hd,λx δ1 v F S1 H1 e1 e2 hA1 p1=>?_⟩
 split at p1
 ·obtain ⟨a,xs,G,rfl,ha,ra,rfl,hz⟩:=(hA1.told mem_mid).list_inv
  exact ⟨a,rfl,⟨xs,Pu.of ha⟩,k _ _ δ1 _ [_] S1 H1 e1 e2 ((hA1.mid.wk (cF _)).tomid) nE hz p1⟩
 ·exact p1.elim
theorem T9(h:En X e de):wX X tg e (Y2 de):=by
 refine PI.imp (zM h) λσ H R h=>?_
 obtain ⟨H0,Y,S,T,δ,P,rfl,hS,hA,hd,k⟩:=h
 refine ⟨H0,Y,S,T,δ,_,rfl,hS,hA,hd,λx δ1 v F S1 H1 e1 e2 hA1 p1=>?_⟩
 split at p1
 ·obtain ⟨a,xs,rfl,ha,ra,hz⟩:=(hA1.told mem_mid).tup_inv
  exact ⟨a,rfl,⟨xs,Se.of ha⟩,k _ _ δ1 _ [_] S1 H1 e1 e2 ((hA1.mid.wk (cF _)).tomid) pL hz p1⟩
 ·exact p1.elim
variable{es:List Expr}{da:DA}{a b:Expr}{p pos tp:Pos}{elts:List Expr}{kt:Nat}
theorem Gy(hg:Gl X "range")(hm:X.mg "range" = none)(ha:kU X [a] da)(hs:Bs [a] X.env=[(false,eval a X.env)]:=by rfl):wX X tg (.Call (.Name "range" p) [a] [] pos) (eU da):=by
 refine PI.imp (mR hg hm ha hs) λσ H R h=>?_
 obtain ⟨H0,Y,S,T,δ,P,rfl,hS,hA,hd,k⟩:=h
 refine ⟨H0,Y,S,T,δ,_,rfl,hS,hA,hd,λxs δ' As us S' H' e1 e2 ex eu hA' p=>?_⟩
 split at p
 ·obtain ⟨v,F,rfl,hA2⟩:=Gs eu hA' ex
  obtain ⟨rfl,_⟩:=(hA2.told mem_mid).int_inv
  obtain ⟨j0,j1,pp⟩:=p
  refine ⟨_,rfl,by omega,by omega,k _ _ δ' _ [] S' H' e1 e2 hA2.drop iT (by rw[Aa,Ct]; exact nY (by omega)) ?_⟩
  simpa using pp
 ·exact p.elim
theorem Ue(hg:Gl X "enumerate")(hm:X.mg "enumerate" = none)(ha:kU X [a] da)(hs:Bs [a] X.env=[(false,eval a X.env)]:=by rfl):wX X (.Tuple elts kt tp) (.Call (.Name "enumerate" p) [a] [] pos) (pU da):=by
 refine PI.imp (xO hg hm ha hs) λσ H R h=>?_
 obtain ⟨H0,Y,S,T,δ,P,rfl,hS,hA,hd,k⟩:=h
 refine ⟨H0,Y,S,T,δ,_,rfl,hS,hA,hd,λxs δ' As us S' H' e1 e2 ex eu hA' p=>?_⟩
 split at p
 ·obtain ⟨v,F,rfl,hA2⟩:=Gs eu hA' ex
  obtain ⟨a,xs,G,rfl,ha,ra,rfl,hz⟩:=(hA2.told mem_mid).list_inv
  exact ⟨a,rfl,⟨xs,Pu.of ha⟩,k _ _ δ' _ [_] S' H' e1 e2 ((hA2.mid.wk (cF _)).tomid) oD (by rw[Aa,Nz]; exact hz) p⟩
 ·exact p.elim
end
def E6(di:DI)(dg:DG)(db:DB):DB:=λD δ=>di δ λm ds δ1=>m=.sh/\∃I:Nat->DS->Prop,I 0 δ1 /\
 (∀i d δ',ds[i]? = some d->I i δ'->dg (.dat .sh d) δ' λδ2=>db { D with nx:=I (i+1),ct:=I (i+1),bk:=D.nx } δ2)/\∀δ',I ds.length δ'->D.nx δ'
section
variable{X:Cx}{tg iter:Expr}{di:DI}{dg:DG}{db:DB}{body:List Stmt}{pos:Pos}
theorem At.dropH{K:PySem.W.Frag}{H0 H:Hp}{X:Addr->Prop}{n:Nat}{S T hid:List Ent}{e:Ent}(h:At K H0 X n (S++e::(hid++T)) H):At K H0 X n (S++e::T) H:=h.sub ((Dg S).append ((Dh hid T).cons₂ e))
theorem Kr(hp:PassesOwn (model X.prog X.w) X.A X.env X.xe)(hc:X.calm=true)(hi:wX X tg iter di)(hg:R1 X tg dg)(hb:Wu X body db)(hs:∀x,Et iter X.env x=pure x:=by intro _; rfl):tY X (.For tg iter body [] pos) (E6 di dg db):=by
 refine PS.impD (B3 hp hc hi hg hb hs) λD σ H h=>?_
 obtain ⟨H0,Y,S,T,δ,P,rfl,hS,hT,hA,hd,k1,k2,k3,k4⟩:=h
 refine ⟨H0,Y,S,T,δ,_,rfl,hS,hA,hd,λm ds δ1 J hid S1 H1 e1 e2 hA1 it hz p1=>?_⟩
 obtain ⟨rfl,I,h0,hs,hf⟩:=p1
 rw[<- e1]
 have hT':∀e∈hid++T,Oz e.x=false:=λe he=>by
  rcases Bi.mp he with he | he
  ·exact it.np rfl e he
  ·exact hT e he
 refine ⟨λi q σ H=>q=ds.length - i/\i<=ds.length/\∃S δ,vs S=σ/\Sl S δ/\At X.K H0 Y δ.n (S++(hid++T)) H/\I i δ,⟨ds.length,by simp,Ei _,S1,δ1,rfl,e2,hA1,h0⟩,?_⟩
 (intro i q σ H q_; obtain ⟨rfl,hi,S2,δ2,rfl,e3,hA2,hI⟩ := q_)
 have hid_ok:∀e∈hid,Iu X.K H δ2.n e:=λe he=>hA2.ok e (Av _ (Au _ he))
 by_cases hlt:i<ds.length
 ·refine .inr ⟨it.go H δ2.n i hid_ok hlt,λσ' H'=>∃S δ,vs S=σ'/\Sl S δ/\At X.K H0 Y δ.n (S++(hid++T)) H'/\I (i+1) δ,λσ' H' q=>⟨ds.length - (i+1),by omega,rfl,hlt,q⟩,λx H' y=>?_⟩
  obtain ⟨s1,d,F,h1,h2,h3⟩:=it.yld H δ2.n i x H' hid_ok hlt y
  refine ⟨H0,Y,S2,hid++T,δ2,.dat .sh d,F,_,rfl,e3,hA2.item s1 h2 h3 it.md it.hd it.np,hs i d δ2 h1 hI,λδ3 S3 H3 e4 hA3 p3=>?_⟩
  refine ⟨H0,Y,S3,hid++T,δ3,_,rfl,e4,hT',hA3,p3,λδ4 S4 H4 e5 hA4 p4=>⟨S4,δ4,rfl,e5,hA4,p4⟩,λx δ4 v F S4 H4 e5 hA4 p4=>k2 x δ4 v F S4 H4 e5 hA4.dropH p4,
   λδ4 S4 H4 e5 hA4 p4=>k1 δ4 S4 H4 e5 hA4.dropL p4,λδ4 S4 H4 e5 hA4 p4=>⟨S4,δ4,rfl,e5,hA4,p4⟩⟩
 ·have e:i=ds.length:=by omega
  subst e
  exact .inl ⟨it.stop H δ2.n hid_ok,k1 δ2 S2 H e3 hA2.dropL (hf δ2 hI)⟩
end
end DL
namespace Nd
open PySem PySem.Spec PyProof.Rows L2
end Nd
namespace DL
open PySem L2 Nd
def al(e:Ent):Ent:=match e.x with
 | .dat m d=>⟨e.v,.dat (jK m) d,e.F⟩
 | .val _=>e
 | .scr _=>e
 | _=>⟨e.v,.un,[]⟩
def alD:DV->DV
 | .dat m d=>.dat (jK m) d
 | .val v=>.val v
 | .scr ns=>.scr ns
 | _=>.un
def oU(S:List Ent)(j:Nat):Ent:=match S[j]? with
 | some e=>al e
 | none=>⟨none,.un,[]⟩
def oK(S:List Ent)(js:List Nat):List Ent:=js.map (oU S)
def frD1(sl:List DV)(j:Nat):DV:=match sl[j]? with
 | some x=>alD x
 | none=>.un
def frD(sl:List DV)(js:List Nat):List DV:=js.map (frD1 sl)
theorem U0(e:Ent):(al e).v=e.v:=by
 obtain ⟨v,x,F⟩:=e
 cases x <;> rfl
theorem W2(e:Ent):(al e).x=alD e.x:=by
 obtain ⟨v,x,F⟩:=e
 cases x <;> rfl
theorem yB(S:List Ent)(js:List Nat):vs (oK S js)=Hj (vs S) js:=by
 unfold vs oK Hj
 rw[Bz]
 refine Jr λj _=>?_
 rw[Ao]
 simp only[Function.comp,oU]
 cases S[j]? with
 | none=>rfl
 | some e=>exact U0 e
theorem yH{S:List Ent}{δ:DS}(h:Sl S δ)(js:List Nat):(oK S js).map Ent.x=frD δ.sl js:=by
 unfold Sl at h
 unfold oK frD
 rw[Bz]
 refine Jr λj _=>?_
 simp only[Function.comp,oU,frD1]
 rw[<- h,Ao]
 cases S[j]? with
 | none=>rfl
 | some e=>exact W2 e
section
variable{K:PySem.W.Frag}{H0 H H':Hp}{X:Addr->Prop}{n:Nat}{E S T:List Ent}
theorem eS(e:Ent):cells (al e)=[]:=by
 obtain ⟨v,x,F⟩:=e
 cases x with
 | dat m d=>cases m <;> rfl
 | _=>rfl
theorem At.view1(h:At K H0 X n E H){e:Ent}(he:e∈E):At K H0 X n (al e::E) H:=by
 refine h.push ?_ (λf hf=>⟨λ_ a ha=>(by rw[eS] at ha; cases ha),λhq a ha z=>?_⟩) λa ha=>(by rw[eS] at ha; cases ha)
 ·have:=h.ok e he
  obtain ⟨v,x,F⟩:=e
  cases x with
  | dat m d =>
   obtain ⟨w,h1,h2,_⟩:=this
   exact ⟨w,h1,h2,λz=>(by cases m <;> cases z),λz=>(by cases m <;> cases z)⟩
  | val v=>exact this
  | scr ns=>exact this
  | _=>exact (rfl:([]:List Addr)=[])
 ·obtain ⟨v,x,F⟩:=e
  cases x with
  | dat m d =>
   rcases jL h he hf with rfl | q
   ·rcases hq with hq | hq
    ·cases m <;> first | cases hq; done | exact nomatch ha
    ·cases hq
   ·refine q.2 ?_ a ha z
    rcases hq with hq | hq
    ·refine .inl ?_
     cases m <;> first | rfl | exact hq
    ·exact .inr hq
  | val v =>
   rw[show F=[] from (h.ok _ he).2] at z
   cases z
  | scr ns =>
   obtain ⟨_,_,hF,_⟩:=h.ok _ he
   rw[show F=[] from hF] at z
   cases z
  | _=>exact nomatch z
theorem At.blank(h:At K H0 X n E H){v:Option V}:At K H0 X n (⟨v,.un,[]⟩::E) H :=
 h.push (rfl:([]:List Addr)=[]) (λf _=>⟨λ_ a ha=>(nomatch ha),λ_ a _=>Cz⟩) (λa ha=>(nomatch ha))
theorem At.view(h:At K H0 X n E H)(hS:∀e∈S,e∈E):∀js:List Nat,At K H0 X n (oK S js++E) H
 | []=>h
 | j::js=>by
  have ih:=At.view h hS js
  show At K H0 X n (oU S j::(oK S js++E)) H
  unfold oU
  cases e:S[j]? with
  | none=>exact ih.blank
  | some x=>exact ih.view1 (Av _ (hS x (An e)))
theorem At.accNew(h:At K H0 X n E H){D:Addr}(hD:H D=Option.none):At K H0 X n (⟨some (.ref D),.acc [],[D]⟩::E) (upd H D (.lst [])):=by
 have s1:=Hi hD (.lst [])
 refine (h.grow (n':=n) s1 (Ap _)).push ⟨D,[],[],rfl,rfl,Ej,.nil,Ei _,Cz⟩ (λf hf=>?_) λa ha=>?_
 ·have nf:=h.free hD f hf
  refine ⟨λ_ a ha z=>?_,λ_ a ha z=>?_⟩
  ·rw[Am.mp ha] at z
   exact nf z
  ·rw[Am.mp z] at ha
   exact nf (Fx _ _ ha)
 ·rw[Am.mp ha]
  exact .inl (h.new0 hD)
theorem At.accPutG{D:Addr}{ds:List Ac}{v:V}{m:Md}{e:Ac}{F G:List Addr}(h:At K H0 X n (⟨some (.ref D),.acc ds,D::G⟩::⟨some v,.dat m e,F⟩::E) H)(hm:m≠.pk)(hz:ds.length+1<=Be):∃xs,H D=some (.lst xs)/\xs.length=ds.length/\At K H0 X n (⟨some (.ref D),.acc (ds++[e]),D::(G++F)⟩::E) (upd H D (.lst (xs++[v]))):=by
 obtain ⟨a,xs,G',e1,e0,ha,ra,_,nG⟩:=h.ok _ Ab
 have e1':some (V.ref D)=some (V.ref a):=e1
 cases e1'
 have e0':D::G=D::G':=e0
 cases e0'
 have r:RdF K H v e F:=h.told (Ak _ Ab)
 have hs:=Bt.mp h.sep
 have hs2:=Bt.mp hs.2
 have h1:=(h.sub (Dl _ _)).sub (Dl _ _)
 have npk:Oz (.dat m e)=false:=by cases m <;> first | rfl | exact absurd rfl hm
 have nF:D∉F:=(hs.1 _ Ab).1 (.inr rfl) D Ab
 have kp:∀{F:List Addr},D∉F->Kp F H (upd H D (.lst (xs++[v]))):=λ{F} hF b o q z=>by
  have : b≠D:=by
   rintro rfl
   rw[ha] at q
   cases q
   rcases z with z | z
   ·exact hF z
   ·rcases z with ⟨_,z⟩ | ⟨_,_,z⟩ <;> cases z
  rw[Ee this]
  exact q
 have nD:H0 D=Option.none:=by
  rcases h.new _ Ab D Ab with z | z
  ·exact z
  ·cases z.2
 refine ⟨xs,ha,ra.len,?_⟩
 refine ⟨λf hf=>?_,?_,λf hf=>?_,λb o nx q=>?_,λb o q=>?_,λb hb=>?_⟩
 rotate_right
 ·obtain ⟨z,c,k,f,h1,h2⟩:=h.xd b hb
  refine ⟨z,c,k,f,(Ee ?_).trans h1,h2⟩
  rintro rfl
  exact z nD
 ·rcases Az.mp hf with rfl | hf
  ·exact ⟨D,xs++[v],G++F,rfl,rfl,Ej,(ra.kp (kp nG)).snoc (r.kp (kp nF)),by rw[Cc]; exact hz,λz=>(Bi.mp z).elim nG nF⟩
  ·exact (h1.ok f hf).kp (kp ((hs.1 f (Ak _ hf)).1 (.inr rfl) D Ab)) (Ap _)
 ·refine Bt.mpr ⟨λf hf=>⟨λhq a ha'=>(hs.1 f (Ak _ hf)).1 (.inr rfl) a ha',λhq a ha' z=>?_⟩,hs2.2⟩
  have z1:=(hs.1 f (Ak _ hf)).2 (.inl rfl) a ha'
  rcases Az.mp z with z | z
  ·exact z1 (z▸Ab)
  ·rcases Bi.mp z with z | z
   ·exact z1 (Ak _ z)
   ·exact (hs2.1 f hf).2 (.inl npk) a ha' z
 ·rcases Az.mp hf with rfl | hf
  ·intro a ha'
   rw[Am.mp ha']
   exact .inl nD
  ·exact h1.new f hf
 ·rw[Ee (Ek q nD)]
  exact h.same b o nx q
 ·rw[Ee (Ek q nD)]
  exact h.dom b o q
theorem At.accPut{D:Addr}{ds:List Ac}{v:V}{e:Ac}(h:At K H0 X n (⟨some (.ref D),.acc ds,[D]⟩::E) H)(r:RdF K H v e [])(hz:ds.length+1<=Be):∃xs,H D=some (.lst xs)/\xs.length=ds.length/\At K H0 X n (⟨some (.ref D),.acc (ds++[e]),[D]⟩::E) (upd H D (.lst (xs++[v]))) :=
 At.accPutG (m:=.ow) (At.pushI (S:=[⟨some (.ref D),.acc ds,[D]⟩]) h r) (by decide) hz
def bC:Bool->Md
 | true=>.ow
 | false=>.tp
theorem At.accGetG{D:Addr}{ds:List Ac}{b:Bool}{G:List Addr}(h:At K H0 X n (⟨some (.ref D),.acc ds,D::G⟩::E) H)(hb:b=true->G=[]):At K H0 X n (⟨some (.ref D),.dat (bC b) (.list ds),D::G⟩::E) H:=by
 obtain ⟨a,xs,G',e1,e0,ha,ra,hz,nG⟩:=h.ok _ Ab
 have e1':some (V.ref D)=some (V.ref a):=e1
 cases e1'
 have e0':D::G=D::G':=e0
 cases e0'
 have hs:=Bt.mp h.sep
 have cs:∀a∈cells ⟨some (.ref D),.dat (bC b) (.list ds),D::G⟩,a=D:=λa ha'=>by
  cases b with
  | true=>rw[hb rfl] at ha'; exact Am.mp ha'
  | false=>exact Am.mp ha'
 refine (h.sub (Dl _ _)).push ⟨_,rfl,.lst ha hz ra,λz=>?_,λ_ a l e=>?_⟩ (λf hf=>⟨λhq a ha'=>?_,λhq a ha'=>(hs.1 f hf).2 (.inl rfl) a ha'⟩) λa ha'=>?_
 ·cases b with
  | true=>rw[hb rfl]; exact Di.mpr ⟨Cz,Ep⟩
  | false=>cases z
 ·have e:D::G=a::l:=e
  cases e
  exact nG
 ·rw[cs a ha']
  exact (hs.1 f hf).1 (.inr rfl) D Ab
 ·rw[cs a ha']
  rcases h.new _ Ab D Ab with z | z
  ·exact .inl z
  ·cases z.2
end
def dJ:DT:=λδ P=>P true δ
def u6(b:Bool)(m:Md)(e:Ac):Prop:=match b with
 | true=>imm e=true
 | false=>m≠.pk
def Jt(b:Bool)(dc:DT)(de:DE)(δ:DS)(yes:Ac->Nat->Prop)(no:Nat->Prop):Prop:=dc δ λc δ2=>match c with
 | true=>de δ2 λy δ3=>match y with
  | .dat m e=>u6 b m e/\yes e δ3.n
  | _=>False
 | false=>no δ2.n
def gY(b:Bool)(di:DI)(js:List Nat)(dc:DT)(de:DE):DE:=λδ P=>di δ λm ds δ1=>∃I:Nat->List Ac->Nat->Prop,I 0 [] δ1.n /\
 (∀i d acc n,ds[i]? = some d->I i acc n->Jt b dc de ⟨.dat m d::frD δ1.sl js,n⟩ (λe n'=>I (i+1) (acc++[e]) n') (λn'=>I (i+1) acc n')) /\
 ∀acc n,I ds.length acc n->P (.dat (bC b) (.list acc)) ⟨δ1.sl,n⟩
def kN(b:Bool)(di:DI)(js:List Nat)(dc:DT)(de:DE):DE:=λδ P=>di δ λm ds δ1=>∃I:Nat->List Ac->Nat->Prop,I 0 [] δ1.n /\
 (∀i d acc n,ds[i]? = some d->I i acc n->∃d1 d2,d=.tuple [d1,d2]/\Jt b dc de ⟨.dat m d1::.dat m d2::frD δ1.sl js,n⟩ (λe n'=>I (i+1) (acc++[e]) n') (λn'=>I (i+1) acc n')) /\
 ∀acc n,I ds.length acc n->P (.dat (bC b) (.list acc)) ⟨δ1.sl,n⟩
def Oh:DT->DE->DS->(Ac->Nat->Prop)->(Nat->Prop)->Prop:=Jt true
def tQ:DI->List Nat->DT->DE->DE:=gY true
def tD:DI->List Nat->DT->DE->DE:=kN true
def tM:DI->List Nat->DT->DE->DE:=gY false
section
variable{K:PySem.W.Frag}{H0 H H':Hp}{Y:Addr->Prop}{n:Nat}{E S T:List Ent}
theorem fA{b:Bool}{dc:DT}{de:DE}{δ:DS}{yes:Ac->Nat->Prop}{no:Nat->Prop}{D:Addr}{G:List Addr}{acc:List Ac}{N1:Hp->Prop}{N2:VK}(hS:Sl S δ)(hb:b=true->G=[])(hA:At K H0 Y δ.n (S++⟨some (.ref D),.acc acc,D::G⟩::T) H)(h:Jt b dc de δ yes no)(hz:acc.length+1<=Be)(k1:∀n' H',At K H0 Y n' (⟨some (.ref D),.acc acc,D::G⟩::T) H'->no n'->N1 H')(k2:∀e n' v H' G',(b=true->G'=[])->(∃xs,H' D=some (.lst xs)/\xs.length=acc.length/\At K H0 Y n' (⟨some (.ref D),.acc (acc++[e]),D::G'⟩::T) (upd H' D (.lst (xs++[v]))))->yes e n'->N2 v H'):LT K dc (vs S) H λc H2=>if c=true then LE K de (vs S) H2 N2 else N1 H2:=by
 refine ⟨H0,Y,S,⟨some (.ref D),.acc acc,D::G⟩::T,δ,_,rfl,hS,hA,h,λc δ2 S2 H2 e1 e2 hA2 p2=>?_⟩
 cases c with
 | false=>exact mX (k1 _ _ (hA2.sub (Dh _ _)) p2)
 | true =>
  refine mJ ⟨H0,Y,S2,⟨some (.ref D),.acc acc,D::G⟩::T,δ2,_,e1,e2,hA2,p2,λy δ3 v F S3 H3 e3 e4 hA3 p3=>?_⟩
  split at p3
  ·rename_i m e
   have r:=hA3.told mem_mid
   cases b with
   | true =>
    obtain rfl:=r.imm p3.1
    obtain rfl:=hb rfl
    exact k2 _ _ _ _ [] (λ_=>rfl) ((hA3.drop.sub (Dh _ _)).accPut r hz) p3.2
   | false =>
    have hA4:At K H0 Y δ3.n (⟨some v,.dat m e,F⟩::⟨some (.ref D),.acc acc,D::G⟩::T) H3:=hA3.sub (Dh _ _)
    exact k2 _ _ _ _ (G++F) (λz=>nomatch z) ((hA4.perm (Ka _ _ _)).accPutG p3.1 hz) p3.2
  ·exact p3.elim
theorem mW{dt:TT}:∀σ H Q,LT K dJ σ H Q->dI σ H Q:=by
 intro σ H Q h
 obtain ⟨H0,Y,S,T,δ,P,rfl,hS,hA,hd,k⟩:=h
 exact k true δ S H rfl hS hA hd
theorem kO.imp{X:Cx}{e:List Expr}{t t':TT}(h:kO X e t)(k:∀σ H Q,t' σ H Q->t σ H Q):kO X e t':=λpins s σ H Q I q=>h pins s σ H Q I (k σ H Q q)
theorem dH{b:Bool}{di:DI}{js:List Nat}{dc:DT}{de:DE}:∀σ H Q,LE K (gY b di js dc de) σ H Q->rU (LI K di) js (LT K dc) (LE K de) σ H Q:=by
 intro σ H Q h
 obtain ⟨H0,Y,S,T,δ,P,rfl,hS,hA,hd,k⟩:=h
 refine ⟨H0,Y,S,T,δ,_,rfl,hS,hA,hd,λm ds δ1 J hid S1 H1 e1 e2 hA1 it hz p1=>?_⟩
 obtain ⟨I,h0,hs,hf⟩:=p1
 rw[<- e1]
 intro D hD
 refine ⟨λi q H=>q=ds.length - i/\i<=ds.length/\∃acc n G,(b=true->G=[])/\At K H0 Y n (⟨some (.ref D),.acc acc,D::G⟩::(S1++(hid++T))) H/\acc.length<=i/\I i acc n,⟨ds.length,by simp,Ei _,[],δ1.n,[],λ_=>rfl,hA1.accNew hD,Ap _,h0⟩,?_⟩
 (intro i q H q_; obtain ⟨rfl,hi,acc,n,G,hG,hA2,hl,hI⟩ := q_)
 have hid_ok:∀e∈hid,Iu K H n e:=λe he=>hA2.ok e (Ak _ (Av _ (Au _ he)))
 by_cases hlt:i<ds.length
 ·refine .inr ⟨it.go H n i hid_ok hlt,λx H' y=>?_⟩
  obtain ⟨s1,d,F,h1,h2,h3⟩:=it.yld H n i x H' hid_ok hlt y
  have hA3:At K H0 Y n ((⟨some (.ref D),.acc acc,D::G⟩::S1)++⟨some x,.dat m d,F⟩::(hid++T)) H':=At.item (S:=⟨some (.ref D),.acc acc,D::G⟩::S1) hA2 s1 h2 h3 it.md it.hd it.np
  have hA4:=hA3.mid
  have hA5:=At.view (S:=S1) hA4 (λe he=>Ak _ (Au _ (Ak _ he))) js
  have hA6:At K H0 Y n ((⟨some x,.dat m d,F⟩::oK S1 js)++⟨some (.ref D),.acc acc,D::G⟩::(S1++(hid++T))) H':=hA5.mid
  have hS6:Sl (⟨some x,.dat m d,F⟩::oK S1 js) ⟨.dat m d::frD δ1.sl js,n⟩:=by
   unfold Sl
   rw[Ba,yH e2]
  have hv:vs (⟨some x,.dat m d,F⟩::oK S1 js)=some x::Hj (vs S1) js:=by
   rw[<- yB]
   rfl
  refine ⟨λH2=>∃m',m'<ds.length - i/\_,λy H3=>∃acc,H3 D=some (.lst acc)/\acc.length<Be/\∃m',m'<ds.length - i/\_,λH2 q=>q,λy H3 q=>q,?_⟩
  rw[<- hv]
  refine fA hS6 hG hA6 (hs i d acc n h1 hI) (by omega) (λn' H2 hA7 p=>?_) (λe n' v H2 G' hG' hA7 p=>?_)
  ·exact ⟨ds.length - (i+1),by omega,rfl,hlt,acc,n',G,hG,hA7,by omega,p⟩
  ·obtain ⟨xs,g1,g2,g3⟩:=hA7
   exact ⟨xs,g1,by omega,ds.length - (i+1),by omega,rfl,hlt,acc++[e],n',G',hG',g3,by rw[Cc]; simp; omega,p⟩
 ·have e:i=ds.length:=by omega
  subst e
  refine .inl ⟨it.stop H n hid_ok,k _ ⟨δ1.sl,n⟩ _ (D::G) S1 H e1 e2 ?_ (hf acc n hI)⟩
  have hA3:=hA2.accGetG hG
  have hA4:At K H0 Y n (⟨some (.ref D),.dat (bC b) (.list acc),D::G⟩::(S1++T)) H:=hA3.sub (((Dg S1).append (Dh hid T)).cons₂ _)
  exact hA4.tomid
theorem pV{b:Bool}{di:DI}{js:List Nat}{dc:DT}{de:DE}:∀σ H Q,LE K (kN b di js dc de) σ H Q->qT K (LI K di) js (LT K dc) (LE K de) σ H Q:=by
 intro σ H Q h
 obtain ⟨H0,Y,S,T,δ,P,rfl,hS,hA,hd,k⟩:=h
 refine ⟨H0,Y,S,T,δ,_,rfl,hS,hA,hd,λm ds δ1 J hid S1 H1 e1 e2 hA1 it hz p1=>?_⟩
 obtain ⟨I,h0,hs,hf⟩:=p1
 rw[<- e1]
 intro D hD
 refine ⟨λi q H=>q=ds.length - i/\i<=ds.length/\∃acc n G,(b=true->G=[])/\At K H0 Y n (⟨some (.ref D),.acc acc,D::G⟩::(S1++(hid++T))) H/\acc.length<=i/\I i acc n,⟨ds.length,by simp,Ei _,[],δ1.n,[],λ_=>rfl,hA1.accNew hD,Ap _,h0⟩,?_⟩
 (intro i q H q_; obtain ⟨rfl,hi,acc,n,G,hG,hA2,hl,hI⟩ := q_)
 have hid_ok:∀e∈hid,Iu K H n e:=λe he=>hA2.ok e (Ak _ (Av _ (Au _ he)))
 by_cases hlt:i<ds.length
 ·refine .inr ⟨it.go H n i hid_ok hlt,λx H' y=>?_⟩
  obtain ⟨s1,d,F,h1,h2,h3⟩:=it.yld H n i x H' hid_ok hlt y
  obtain ⟨d1,d2,rfl,hst⟩:=hs i d acc n h1 hI
  obtain ⟨t,xs,rfl,ht,rt,_⟩:=h2.tup_inv
  cases rt with
  | @cons w1 _ xs _ F1 _ r1 rt =>
   cases rt with
   | @cons w2 _ xs _ F2 G r2 rt =>
    cases rt
    have hA3:At K H0 Y n ((⟨some (.ref D),.acc acc,D::G⟩::S1)++⟨some w1,.dat m d1,F1⟩::(hid++T)) H':=At.item (S:=⟨some (.ref D),.acc acc,D::G⟩::S1) hA2 s1 r1 (λa ha=>h3 a (Au _ ha)) it.md it.hd it.np
    have hA3':At K H0 Y n ((⟨some w1,.dat m d1,F1⟩::⟨some (.ref D),.acc acc,D::G⟩::S1)++(hid++T)) H':=hA3.mid
    have hA3'':At K H0 Y n ((⟨some w1,.dat m d1,F1⟩::⟨some (.ref D),.acc acc,D::G⟩::S1)++⟨some w2,.dat m d2,F2⟩::(hid++T)) H':=At.item hA3' (Qm.refl _) r2 (λa ha=>h3 a (Av _ (Au _ ha))) it.md it.hd it.np
    have hA4:At K H0 Y n (⟨some w1,.dat m d1,F1⟩::⟨some w2,.dat m d2,F2⟩::⟨some (.ref D),.acc acc,D::G⟩::(S1++(hid++T))) H':=hA3''.mid.perm (Ka _ _ _)
    have hA5:=At.view (S:=S1) hA4 (λe he=>Ak _ (Ak _ (Ak _ (Au _ he)))) js
    have hA6:At K H0 Y n ((⟨some w1,.dat m d1,F1⟩::⟨some w2,.dat m d2,F2⟩::oK S1 js)++⟨some (.ref D),.acc acc,D::G⟩::(S1++(hid++T))) H':=by
     have z:=hA5.mid
     refine z.perm ?_
     exact (Qb).cons _
    have hS6:Sl (⟨some w1,.dat m d1,F1⟩::⟨some w2,.dat m d2,F2⟩::oK S1 js) ⟨.dat m d1::.dat m d2::frD δ1.sl js,n⟩:=by
     unfold Sl
     rw[Ba,Ba,yH e2]
    have hv:vs (⟨some w1,.dat m d1,F1⟩::⟨some w2,.dat m d2,F2⟩::oK S1 js)=some w1::some w2::Hj (vs S1) js:=by
     rw[<- yB]
     rfl
    refine ⟨t,w1,w2,rfl,Se.of ht,λH2=>∃m',m'<ds.length - i/\_,λy H3=>∃acc,H3 D=some (.lst acc)/\acc.length<Be/\∃m',m'<ds.length - i/\_,λH2 q=>q,λy H3 q=>q,?_⟩
    rw[<- hv]
    refine fA hS6 hG hA6 hst (by omega) (λn' H2 hA7 p=>?_) (λe n' v H2 G' hG' hA7 p=>?_)
    ·exact ⟨ds.length - (i+1),by omega,rfl,hlt,acc,n',G,hG,hA7,by omega,p⟩
    ·obtain ⟨xs,g1,g2,g3⟩:=hA7
     exact ⟨xs,g1,by omega,ds.length - (i+1),by omega,rfl,hlt,acc++[e],n',G',hG',g3,by rw[Cc]; simp; omega,p⟩
 ·have e:i=ds.length:=by omega
  subst e
  refine .inl ⟨it.stop H n hid_ok,k _ ⟨δ1.sl,n⟩ _ (D::G) S1 H e1 e2 ?_ (hf acc n hI)⟩
  have hA3:=hA2.accGetG hG
  have hA4:At K H0 Y n (⟨some (.ref D),.dat (bC b) (.list acc),D::G⟩::(S1++T)) H:=hA3.sub (((Dg S1).append (Dh hid T)).cons₂ _)
  exact hA4.tomid
end
section
variable{X:Cx}{elt iter c:Expr}{x x2 y0:Str}{px px2 pt py pos spos:Pos}{kt i0:Nat}{ifs:List Expr}{scope:Scope}{cl:List (Str×Addr)}{ys:List Str}{js:List Nat}{di:DI}{dc:DT}{de:DE}
theorem Gf:kO X [] (LT X.K dJ):=kO.imp qQ (mW (dt:=dI))
theorem Kb(h:bE X c dc):kO X [c] (LT X.K dc):=vQ h
theorem Gu(C:CompScope X scope cl x ys js)(hc:X.calm=true)(hi:wX X (.Name x px) iter di)(ht:∀fp s H,kO (Eo X scope cl (x::ys) fp s H) ifs (LT X.K dc))(he:∀fp s H,En (Eo X scope cl (x::ys) fp s H) elt de)(hs:∀x,Et iter X.env x=pure x:=by intro _; rfl):En X (.ListComp elt [⟨.Name x px,iter,ifs,0⟩] scope pos) (tQ di js dc de):=PE.imp (lJ C hc hi ht he hs) dH
theorem Tv(C:CompScope X scope cl x ys js)(own2:mU scope x2)(nd2:(x::x2::ys).Nodup)(hc:X.calm=true)(hi:wX X (.Tuple [.Name x px,.Name x2 px2] kt pt) iter di)(ht:∀fp s H,kO (Eo X scope cl (x::x2::ys) fp s H) ifs (LT X.K dc))(he:∀fp s H,En (Eo X scope cl (x::x2::ys) fp s H) elt de)(hs:∀x,Et iter X.env x=pure x:=by intro _; rfl):En X (.ListComp elt [⟨.Tuple [.Name x px,.Name x2 px2] kt pt,iter,ifs,0⟩] scope pos) (tD di js dc de):=PE.imp (tK C own2 nd2 hc hi ht he hs) pV
def T6(o:Bool)(i:Nat):DG:=match o with
 | true=>fT i
 | false=>Np i
theorem T5{K:PySem.W.Frag}{o:Bool}{i:Nat}:∀v σ H Q,LG K (T6 o i) v σ H Q->Qv i v σ H Q:=by
 cases o with
 | true=>exact qV
 | false=>exact cC
theorem Xm{o:Bool}(hN:X.N.Nodup)(hi0:X.N[i0]? = some y0)(hy0:X.env.scope.names.lookup y0=some .local)(C:CompScope X scope cl x ys js)(hc:X.calm=true)(hi:wX X (.Name x px) iter di)(ht:∀fp s H,kO (Eo X scope cl (x::ys) fp s H) ifs (LT X.K dc))(he:∀fp s H,En (Eo X scope cl (x::ys) fp s H) elt de)(hs:∀x,Et iter X.env x=pure x:=by intro _; rfl)(hsw:Sq (.ListComp elt [⟨.Name x px,iter,ifs,0⟩] scope pos) (some (.Name y0 py)) spos.line X.env=pure true:=by rfl):tY X (.Assign [.Name y0 py] (.ListComp elt [⟨.Name x px,iter,ifs,0⟩] scope pos) spos) (sX (tQ di js dc de) (T6 o i0)):=PS.impD (wO hN hi0 hy0 C hc hi ht he hs hsw) (iM dH T5)
theorem pQ(C:CompScope X scope cl x ys js)(hc:X.calm=true)(hi:wX X (.Name x px) iter di)(ht:∀fp s H,kO (Eo X scope cl (x::ys) fp s H) ifs (LT X.K dc))(he:∀fp s H,En (Eo X scope cl (x::ys) fp s H) elt de)(hs:∀x,Et iter X.env x=pure x:=by intro _; rfl):En X (.ListComp elt [⟨.Name x px,iter,ifs,0⟩] scope pos) (tM di js dc de):=PE.imp (lJ C hc hi ht he hs) dH
end
end DL
namespace DL
open PySem PySem.Spec PyProof.Rows L2 Nd
section
variable{K:PySem.W.Frag}{H0 H H':Hp}{X:Addr->Prop}{n n':Nat}{E S T:List Ent}
theorem At.pushF(h:At K H0 X n E H){v:V}{d:Ac}{F:List Addr}(r:RdF K H v d F)(nd:F.Nodup)(fr:∀a∈F,∀f∈E,a∉f.F)(f0:∀a∈F,H0 a=none):At K H0 X n (⟨some v,.dat .ow d,F⟩::E) H:=by
 refine h.push ⟨v,rfl,r,λ_=>nd,λz=>nomatch z⟩ (λf hf=>⟨λ_ a ha z=>fr a ha f hf z,λ_ a ha z=>fr a z f hf (Fx _ _ ha)⟩) λa ha=>.inl (f0 a ha)
theorem At.drawn(h:At K H0 X n E H){e:Ent}{dr:Addr}(he:e∈E)(hx:e.x=.drw)(hv:e.v=some (.ref dr))(s:Sn dr H H')(hd:∃c k f,aB H' dr c k f/\0<=k/\k<=(n':Int))(hn:n<=n'):At K H0 X n' E H':=by
 obtain ⟨v,x,F⟩:=e
 have hx':x=.drw:=hx
 subst hx'
 obtain ⟨dr',c0,k0,f0,hv',hF,hd0,_⟩:=h.ok _ he
 have e1:some (V.ref dr)=some (V.ref dr'):=hv.symm.trans hv'
 cases e1
 have hF':F=[dr]:=hF
 subst hF'
 refine ⟨λf hf=>?_,h.sep,h.new,λb o nx q=>?_,λb o q=>?_,λb hb=>?_⟩
 rotate_right
 ·obtain ⟨z,c,k,f,h1,h2,h3⟩:=h.xd b hb
  by_cases hbd:b=dr
  ·subst hbd
   exact ⟨z,hd⟩
  ·exact ⟨z,c,k,f,s _ _ hbd h1,h2,by omega⟩
 ·rcases jL h he hf with rfl | q
  ·obtain ⟨c,k,fl,h1,h2,h3⟩:=hd
   exact ⟨dr,c,k,fl,hv',rfl,h1,h2,h3⟩
  ·have nf:dr∉f.F:=q.1 (.inr rfl) dr Ab
   refine (h.ok f hf).kp (λb o eb z=>?_) hn
   by_cases hb:b=dr
   ·subst hb
    rcases z with z | z
    ·exact absurd z nf
    ·have hd0':H b=some (.lst _):=hd0
     rw[eb] at hd0'
     cases hd0'
     rcases z with ⟨_,z⟩ | ⟨_,_,z⟩ <;> cases z
   ·exact s b o hb eb
 ·have hb:b≠dr:=by
   rintro rfl
   rcases h.new _ he b Ab with z | z
   ·rw[z] at q; cases q
   ·exact nx z.1
  exact s b o hb (h.same b o nx q)
 ·by_cases hb:b=dr
  ·subst hb
   obtain ⟨c,k,fl,h1,_⟩:=hd
   exact ⟨_,h1⟩
  ·obtain ⟨o',z⟩:=h.dom b o q
   exact ⟨o',s b o' hb z⟩
end
abbrev PF:=List Ac->(Ac->Prop)->Prop
abbrev DF:=List Ac->Nat->(Ac->Nat->Prop)->Prop
def Oa(K:PySem.W.Frag)(pf:PF):Sp:=λus H Q _=>∃(As:List Ent) (n:Nat) (ds:List Ac) (R:Ac->Prop),As.map Ent.v=us.map some/\(∀e∈As,Iu K H n e)/\datas (As.map Ent.x)=some ds/\pf ds R /\
 ∀v d F H',R d->RdF K H' v d F->F.Nodup->(∀a∈F,H a=none)->Qm H H'->Q v H'
def Vz(K:PySem.W.Frag)(df:DF):Sp:=λus H Q _=>∃(dr:Addr) (ws:List V) (As:List Ent) (n:Nat) (ds:List Ac) (R:Ac->Nat->Prop),us=.ref dr::ws/\As.map Ent.v=ws.map some/\(∀e∈As,Iu K H n e)/\(∀e∈As,dr∉e.F)/\(∃c k f,aB H dr c k f/\0<=k/\k<=(n:Int))/\datas (As.map Ent.x)=some ds/\df ds n R /\
 ∀v d F n' H',n<=n'->R d n'->RdF K H' v d F->F.Nodup->(∀a∈F,H a=none)->(∃c k f,aB H' dr c k f/\0<=k/\k<=(n':Int))->Sn dr H H'->Q v H'
def xU(pf:PF)(da:DA):DE:=λδ P=>da δ λxs δ1=>match datas xs with
 | some ds=>pf ds λd=>P (.dat .ow d) δ1
 | none=>False
def iP(i:Nat)(df:DF)(da:DA):DE:=λδ P=>match δ.sl[i]? with
 | some .drw=>da δ λxs δ1=>match δ1.sl[i]? with
  | some .drw=>match datas xs with
   | some ds=>df ds δ1.n λd n'=>P (.dat .ow d) ⟨δ1.sl,n'⟩
   | none=>False
  | _=>False
 | _=>False
section
variable{X:Cx}{CX:nM}{k:Nat}{f:Addr}{fd:Bx}{ps:List Str}{pf:PF}{df:DF}{E:XK}{x:Str}{p pos:Pos}{e e0:Expr}{es:List Expr}{da:DA}
theorem El(F:FnOk X.prog X.w X.K X.mg X.base CX k f fd ps (Oa X.K pf))(hr:Room k X.A)(hg:Gl X x)(hm:X.mg x=some (.ref f))(hk:PySem.W.keepIn X.K (.ref f)=true)(hb:Binds X.K fd ps [])(hx:Sz CX X E)(ha:kU X (e::es) da)(hdb:(x == ("__debug__" : Str))=false:=by decide)(he:Bs (e::es) X.env=(false,eval e X.env)::Bs es X.env:=by rfl)(hpl:(Ih pos (Bs es X.env)).any (·.1)=false:=by rfl):En X (.Call (.Name x p) (e::es) [] pos) (xU pf da):=by
 refine PE.imp (Xh F hr hg hm hk hb .nil hx ha hdb he hpl) λσ H Q h=>?_
 obtain ⟨H0,Y,S,T,δ,P,rfl,hS,hA,hd,kk⟩:=h
 refine ⟨H0,Y,S,T,δ,_,rfl,hS,hA,hd,λxs δ' As us S' H' e1 e2 ex eu hA' p=>?_⟩
 subst ex
 cases q:datas (As.map Ent.x) with
 | none=>rw[q] at p; exact p.elim
 | some ds =>
  rw[q] at p
  rw[Dk]
  refine ⟨As,δ'.n,ds,_,eu,λe he=>hA'.ok e (Av _ (Au _ he)),q,p,λv d F H'' r rd nd fr s=>?_⟩
  exact kk _ δ' v F S' H'' e1 e2 (((hA'.dropL.grow s (Ap _)).pushF rd nd (λa ha=>hA'.dropL.free (fr a ha)) (λa ha=>hA'.new0 (fr a ha))).tomid) r
theorem Fn{i:Nat}(F:FnOk X.prog X.w X.K X.mg X.base CX k f fd ps (Vz X.K df))(hr:Room k X.A)(hg:Gl X x)(hm:X.mg x=some (.ref f))(hk:PySem.W.keepIn X.K (.ref f)=true)(hb:Binds X.K fd ps [])(hx:Sz CX X E)(h0:PE X e0 (gI i))(ha:kU X es da)(hdb:(x == ("__debug__" : Str))=false:=by decide)(he:Bs (e0::es) X.env=(false,eval e0 X.env)::Bs es X.env:=by rfl)(hpl:(Ih pos (Bs es X.env)).any (·.1)=false:=by rfl):En X (.Call (.Name x p) (e0::es) [] pos) (iP i df da):=by
 refine PE.imp (Xh F hr hg hm hk hb .nil hx (Iq h0 ha he) hdb he hpl) λσ H Q h=>?_
 obtain ⟨H0,Y,S,T,δ,P,rfl,hS,hA,hd,kk⟩:=h
 unfold iP at hd
 split at hd
 case h_2=>exact hd.elim
 rename_i hsl0
 have main:∀w,(vs S)[i]? = some (some w)->LA X.K da (vs S) H λxs H2=>Vz X.K df ((w::xs)++[]) H2 Q E:=λw hw=>by
  refine ⟨H0,Y,S,T,δ,_,rfl,hS,hA,hd,λxs δ' As us S' H' e1 e2 ex eu hA' p=>?_⟩
  subst ex
  split at p
  ·rename_i hsl
   obtain ⟨ent,s1,s2⟩:=Ky e2 hsl
   have hm':ent∈S':=An s1
   have hv:ent.v=some w:=by
    have:=Pw s1
    rw[e1,hw] at this
    exact (Bo this).symm
   obtain ⟨u,z,F⟩:=ent
   have s2':z=.drw:=s2
   subst s2'
   have hE:(⟨u,.drw,F⟩ : Ent)∈S'++(As++T):=Au _ hm'
   obtain ⟨dr,c0,k0,f0,hv0,hF0,hd0,hk0,hk1⟩:=hA'.ok _ hE
   have ew:some w=some (V.ref dr):=hv.symm.trans hv0
   cases ew
   have hF':F=[dr]:=hF0
   subst hF'
   cases q:datas (As.map Ent.x) with
   | none=>rw[q] at p; exact p.elim
   | some ds =>
    rw[q] at p
    rw[Dk]
    refine ⟨dr,us,As,δ'.n,ds,_,rfl,eu,λe he=>hA'.ok e (Av _ (Au _ he)),λe he=>?_,⟨c0,k0,f0,hd0,hk0,hk1⟩,q,p,λv d F n' H'' hn r rd nd fr hdr s=>?_⟩
    ·obtain ⟨_,_,hp⟩ := Cn.mp hA'.sep
     exact (hp _ hm' e (Au _ he)).1 (.inr rfl) dr Ab
    ·have hA2:=hA'.dropL.drawn (Au _ hm') rfl hv s hdr hn
     exact kk _ ⟨δ'.sl,n'⟩ v F S' H'' e1 e2 ((hA2.pushF rd nd (λa ha=>hA'.dropL.free (fr a ha)) (λa ha=>hA'.new0 (fr a ha))).tomid) r
  ·exact p.elim
 obtain ⟨ent,s1,s2⟩:=Ky hS hsl0
 have hm':ent∈S:=An s1
 obtain ⟨u,z,F⟩:=ent
 have s2':z=.drw:=s2
 subst s2'
 obtain ⟨dr,c0,k0,f0,hv0,_⟩:=hA.ok _ (Au _ hm')
 have hw:(vs S)[i]? = some (some (.ref dr)):=(Pw s1).trans (congrArg some hv0)
 exact ⟨_,hw,main _ hw⟩
def Tu:Sp:=λvs H Q _=>∃c:Int,vs=[.int c]/\∀(p:Addr) (c':Int) (f:Bool) (H':Hp),H p=none->aB H' p c' 0 f->Qm H H'->Q (.ref p) H'
def qN(da:DA):DE:=λδ P=>da δ λxs δ1=>match xs with
 | [.dat _ (.int _)]=>P .drw δ1
 | _=>False
theorem gK(F:FnOk X.prog X.w X.K X.mg X.base CX k f fd ps Tu)(hr:Room k X.A)(hg:Gl X x)(hm:X.mg x=some (.ref f))(hk:PySem.W.keepIn X.K (.ref f)=true)(hb:Binds X.K fd ps [])(hx:Sz CX X E)(ha:kU X (e::es) da)(hdb:(x == ("__debug__" : Str))=false:=by decide)(he:Bs (e::es) X.env=(false,eval e X.env)::Bs es X.env:=by rfl)(hpl:(Ih pos (Bs es X.env)).any (·.1)=false:=by rfl):En X (.Call (.Name x p) (e::es) [] pos) (qN da):=by
 refine PE.imp (Xh F hr hg hm hk hb .nil hx ha hdb he hpl) λσ H Q h=>?_
 obtain ⟨H0,Y,S,T,δ,P,rfl,hS,hA,hd,kk⟩:=h
 refine ⟨H0,Y,S,T,δ,_,rfl,hS,hA,hd,λxs δ' As us S' H' e1 e2 ex eu hA' p=>?_⟩
 split at p
 ·obtain ⟨v,F,rfl,hA2⟩:=Gs eu hA' ex
  obtain ⟨rfl,_⟩:=(hA2.told mem_mid).int_inv
  refine ⟨_,rfl,λq c' fl H'' nq hdr s=>?_⟩
  have h3:=hA2.drop.grow (n':=δ'.n) s (Ap _)
  refine kk _ δ' _ [q] S' H'' e1 e2 ((h3.push (e:=⟨some (.ref q),.drw,[q]⟩) ⟨q,_,0,fl,rfl,rfl,hdr,by decide,by omega⟩ (λf hf=>?_) λa ha=>?_).tomid) p
  ·have nf:=hA2.drop.free nq f hf
   refine ⟨λ_ a ha z=>?_,λ_ a ha z=>?_⟩
   ·rw[Am.mp ha] at z
    exact nf z
   ·rw[Am.mp z] at ha
    exact nf (Fx _ _ ha)
  ·rw[Am.mp ha]
   exact .inl (hA2.new0 nq)
 ·exact p.elim
end
def args0(ds:List Ac)(k:Nat):List DV:=ds.map (λd=>.dat .sh d)++Ci k .un
def Yv(e:Ent):Ent:=match e.x with
 | .dat _ d=>⟨e.v,.dat .sh d,e.F⟩
 | _=>e
theorem Gz:∀{xs:List DV} {ds:List Ac},datas xs=some ds->xs.length=ds.length
 | [],ds,h=>by cases h; rfl
 | x::xs,ds,h=>by
  cases x with
  | dat m d =>
   cases q:datas xs with
   | none=>simp [datas,q] at h
   | some es =>
    simp [datas,q] at h
    subst h
    rw[Bk,Bk,Gz q]
  | _=>cases h
theorem Qk:∀{As:List Ent} {ds:List Ac},datas (As.map Ent.x)=some ds->(As.map Yv).map Ent.x=ds.map (λd=>.dat .sh d)
 | [],ds,h=>by cases h; rfl
 | ⟨v,x,F⟩::As,ds,h=>by
  rw[Ba] at h
  cases x with
  | dat m d =>
   cases q:datas (As.map Ent.x) with
   | none=>simp [datas,q] at h
   | some es =>
    simp [datas,q] at h
    subst h
    rw[Ba,Ba,Ba,Qk q]
    rfl
  | _=>cases h
theorem Vh:∀{As:List Ent} {ds:List Ac},datas (As.map Ent.x)=some ds->∀e∈As,∃m d,e.x=.dat m d
 | [],ds,h,e,he=>nomatch he
 | ⟨v,x,F⟩::As,ds,h,e,he=>by
  rw[Ba] at h
  cases x with
  | dat m d =>
   cases q:datas (As.map Ent.x) with
   | none=>simp [datas,q] at h
   | some es =>
    rcases Az.mp he with rfl | he
    ·exact ⟨m,d,rfl⟩
    ·exact Vh q e he
  | _=>cases h
theorem vP(As:List Ent):(As.map Yv).map Ent.v=As.map Ent.v:=by
 rw[Bz]
 refine Jr λe _=>?_
 obtain ⟨v,x,F⟩:=e
 cases x <;> rfl
def Gh(k:Nat):List Ent:=Ci k ⟨none,.un,[]⟩
theorem Xk{As:List Ent}{ds:List Ac}(q:datas (As.map Ent.x)=some ds)(k:Nat):∀e∈As.map Yv++Gh k,cells e=[]/\j4 e.x=false:=λe he=>by
 rcases Bi.mp he with he | he
 ·obtain ⟨f,hf,rfl⟩:=Bl.mp he
  obtain ⟨m,d,hx⟩:=Vh q f hf
  obtain ⟨v,x,F⟩:=f
  have hx':x=.dat m d:=hx
  subst hx'
  exact ⟨rfl,rfl⟩
 ·rw[(Gd.mp he).2]
  exact ⟨rfl,rfl⟩
theorem Oq{α:Type}{R:α->α->Prop}:∀{l:List α},(∀a∈l,∀b∈l,R a b)->l.Pairwise R
 | [],_=>Jm
 | a::l,h=>Bt.mpr ⟨λb hb=>h a Ab b (Ak _ hb),Oq λx hx y hy=>h x (Ak _ hx) y (Ak _ hy)⟩
theorem lP{K:PySem.W.Frag}{H:Hp}{n:Nat}{As:List Ent}{ds:List Ac}(q:datas (As.map Ent.x)=some ds)(ok:∀e∈As,Iu K H n e)(k:Nat):∀e∈As.map Yv++Gh k,Iu K H n e:=λe he=>by
 rcases Bi.mp he with he | he
 ·obtain ⟨f,hf,rfl⟩:=Bl.mp he
  obtain ⟨m,d,hx⟩:=Vh q f hf
  have o:=ok f hf
  obtain ⟨v,x,F⟩:=f
  have hx':x=.dat m d:=hx
  subst hx'
  obtain ⟨w,h1,h2,_⟩:=o
  exact ⟨w,h1,h2,λz=>(nomatch z),λz=>(nomatch z)⟩
 ·rw[(Gd.mp he).2]
  exact (rfl:([]:List Addr)=[])
theorem Kz{α β:Type}(f:α->β)(k:Nat)(a:α):(Ci k a).map f=Ci k (f a):=by
 rw[List.map_replicate]
def retE(R:Ac->Prop):DEnds where
 nx:=λ_=>R .none
 rt:=λx _=>∃d,x=.dat .ow d/\R d
def retW(n:Nat)(R:Ac->Nat->Prop):DEnds where
 nx:=λδ=>n<=δ.n/\R .none δ.n
 rt:=λx δ=>n<=δ.n/\∃d,x=.dat .ow d/\R d δ.n
section
variable{P:Bp}{w:World}{K:PySem.W.Frag}{mg:Str->Option Value}{base:Heap}
theorem Ho{x qual:Str}{st:Stmt}{f:Addr}{fd:Bx}{N ps:List Str}{k:Nat}{pf:PF}{db:DB}(F:Fun K x qual st f fd)(S:FnScope N ps (Br st))(hb:∀(cdv:Value) (A:Cr) (outer:List Env) (s:Al) (H:Hp) (E:XK),Room k (A.deeper (Mu qual (Br st) s.heap.objs.size f cdv))->Wu (Vl Gc P w K mg base N qual (Br st) f cdv A outer s H E).nox (Hd st) db)(h:∀ds R,pf ds R->ds.length=ps.length/\db (retE R) ⟨args0 ds (N.length - ps.length),0⟩):FnOk P w K mg base Gc (k+1) f fd ps (Oa K pf):=by
 refine F.ok S (λvs H Q E z=>?_) λcdv A outer s H us Q E hr z=>?_
 ·obtain ⟨As,n,ds,R,eu,ok,q,hp,_⟩:=z
  have l1:=(h ds R hp).1
  have l2:=Gz q
  rw[Aa] at l2
  have l3:=congrArg Ga eu
  rw[Aa,Aa] at l3
  omega
 ·obtain ⟨As,n,ds,R,eu,ok,q,hp,k1⟩:=z
  obtain ⟨l1,hd⟩:=h ds R hp
  have l2:=Gz q
  rw[Aa] at l2
  have l3:=congrArg Ga eu
  rw[Aa,Aa] at l3
  refine ⟨_,hb cdv A outer s H E hr,H,λ_=>False,As.map Yv++Gh (N.length - ps.length),[],⟨args0 ds (N.length - ps.length),0⟩,retE R,?_,?_,λ_ z=>(nomatch z),?_,hd,λδ' S' H' e1 hA p=>?_,λx δ' v F' S' H' e1 hA p=>?_,λ_ _ _ _ _ p=>p.elim,λ_ _ _ _ _ p=>p.elim⟩
  ·unfold vs L2.start Gh
   rw[Bw,vP,eu,Kz,show us.length=ps.length by omega]
  ·unfold Sl args0 Gh
   rw[Bw,Qk q,Kz]
  ·rw[Dk]
   have hs:=Xk q (N.length - ps.length)
   refine ⟨λe he=>?_,Oq λa ha b hb'=>⟨λhq c hc=>?_,λhq c hc=>?_⟩,λe he a ha=>?_,λb o _ e=>e,λb o e=>⟨o,e⟩,λb hb=>hb.elim⟩
   ·have:=lP q ok (N.length - ps.length) e he
    obtain ⟨v,x,F⟩:=e
    cases x with
    | drw=>exact absurd (hs _ he).2 (by show ¬ (true=false); decide)
    | _=>exact this
   ·rw[(hs a ha).1] at hc; cases hc
   ·rw[(hs b hb').1] at hc; cases hc
   ·rw[(hs e he).1] at ha; cases ha
  ·exact k1 .non .none [] H' p .non Ep (λ_ z=>(nomatch z)) λb o e=>hA.same b o (λz=>z) e
  ·obtain ⟨d,rfl,r⟩:=p
   rw[show S'++[(⟨some v,.dat .ow d,F'⟩ : Ent)]=S'++⟨some v,.dat .ow d,F'⟩::[] from rfl] at hA
   obtain ⟨u,e2,rd,nd,_⟩:=hA.ok _ mem_mid
   cases e2
   refine k1 v d F' H' r rd (nd rfl) (λa ha=>?_) λb o e=>hA.same b o (λz=>z) e
   rcases hA.new _ mem_mid a ha with z | z
   ·exact z
   ·exact z.1.elim
theorem Rq{x qual:Str}{st:Stmt}{f:Addr}{fd:Bx}{N ps:List Str}{p0:Str}{k:Nat}{df:DF}{db:DB}(F:Fun K x qual st f fd)(S:FnScope N (p0::ps) (Br st))(hb:∀(cdv:Value) (A:Cr) (outer:List Env) (s:Al) (H:Hp) (E:XK),Room k (A.deeper (Mu qual (Br st) s.heap.objs.size f cdv))->Wu (Vl Gc P w K mg base N qual (Br st) f cdv A outer s H E).nox (Hd st) db)(h:∀ds n R,df ds n R->ds.length=ps.length/\db (retW n R) ⟨.drw::args0 ds (N.length - (p0::ps).length),n⟩):FnOk P w K mg base Gc (k+1) f fd (p0::ps) (Vz K df):=by
 refine F.ok S (λvs H Q E z=>?_) λcdv A outer s H us Q E hr z=>?_
 ·obtain ⟨dr,ws,As,n,ds,R,rfl,eu,ok,nd,hdr,q,hp,_⟩:=z
  have l1:=(h ds n R hp).1
  have l2:=Gz q
  rw[Aa] at l2
  have l3:=congrArg Ga eu
  rw[Aa,Aa] at l3
  rw[Bk,Bk]
  omega
 ·obtain ⟨dr,ws,As,n,ds,R,rfl,eu,ok,ndr,hdr,q,hp,k1⟩:=z
  obtain ⟨l1,hd⟩:=h ds n R hp
  have l2:=Gz q
  rw[Aa] at l2
  have l3:=congrArg Ga eu
  rw[Aa,Aa] at l3
  -- what the end tells of the draws: they stand in an old cell
  have ends:∀{E':List Ent} {n':Nat} {H':Hp},At K H (·=dr) n' E' H'->∀b o,b≠dr->H b=some o->H' b=some o:=λhA b o nb e=>hA.same b o nb e
  refine ⟨_,hb cdv A outer s H E hr,H,(·=dr),⟨some (.ref dr),.drw,[dr]⟩::(As.map Yv++Gh (N.length - (p0::ps).length)),[],⟨.drw::args0 ds (N.length - (p0::ps).length),n⟩,retW n R,?_,?_,λ_ z=>(nomatch z),?_,hd,λδ' S' H' e1 hA p=>?_,λx δ' v F' S' H' e1 hA p=>?_,λ_ _ _ _ _ p=>p.elim,λ_ _ _ _ _ p=>p.elim⟩
  ·unfold vs L2.start Gh
   rw[Ba,Bw,vP,eu,Kz,Bk,Bk,show ws.length=ps.length by omega]
   rfl
  ·unfold Sl args0 Gh
   rw[Ba,Bw,Qk q,Kz]
  ·rw[Dk]
   have hs:=Xk q (N.length - (p0::ps).length)
   have hsub:∀e∈As.map Yv++Gh (N.length - (p0::ps).length),dr∉e.F:=λe he=>by
    rcases Bi.mp he with he | he
    ·obtain ⟨f,hf,rfl⟩:=Bl.mp he
     obtain ⟨v,x,F⟩:=f
     have:=ndr _ hf
     cases x <;> exact this
    ·rw[(Gd.mp he).2]
     exact Cz
   refine ⟨λe he=>?_,Bt.mpr ⟨λb hb'=>⟨λhq c hc=>?_,λhq c hc=>?_⟩,Oq λa ha b hb'=>⟨λhq c hc=>?_,λhq c hc=>?_⟩⟩,λe he a ha=>?_,λb o _ e=>e,λb o e=>⟨o,e⟩,λb hb=>?_⟩
   rotate_right
   ·subst hb
    obtain ⟨c,kk,fl,z1,z2⟩:=hdr
    exact ⟨λz=>(by rw[show H b=some _ from z1] at z; cases z),c,kk,fl,z1,z2⟩
   ·rcases Az.mp he with rfl | he
    ·obtain ⟨c,kk,fl,z1,z2,z3⟩:=hdr
     exact ⟨dr,c,kk,fl,rfl,rfl,z1,z2,z3⟩
    ·exact lP q ok _ e he
   ·rw[Am.mp hc]
    exact hsub b hb'
   ·rw[(hs b hb').1] at hc; cases hc
   ·rw[(hs a ha).1] at hc; cases hc
   ·rw[(hs b hb').1] at hc; cases hc
   ·rcases Az.mp he with rfl | he
    ·rw[Am.mp ha]
     exact .inr ⟨rfl,rfl⟩
    ·rw[(hs e he).1] at ha; cases ha
  ·exact k1 .non .none [] δ'.n H' p.1 p.2 .non Ep (λ_ z=>(nomatch z)) (hA.xd dr rfl).2 (ends hA)
  ·obtain ⟨hn,d,rfl,r⟩:=p
   rw[show S'++[(⟨some v,.dat .ow d,F'⟩ : Ent)]=S'++⟨some v,.dat .ow d,F'⟩::[] from rfl] at hA
   obtain ⟨u,e2,rd,nd,_⟩:=hA.ok _ mem_mid
   cases e2
   refine k1 v d F' δ'.n H' hn r rd (nd rfl) (λa ha=>?_) (hA.xd dr rfl).2 (ends hA)
   rcases hA.new _ mem_mid a ha with z | z
   ·exact z
   ·cases z.2
end
end DL
namespace L2
open PySem PySem.Spec PyProof.Rows
def qH(H:Hp):Prop:=∀b,H b=none\/(∃o xs,H b=some (.frz o (.lst xs)))\/∃ps,H b=some (.tbl ps)
def fW(tabs:List (Addr×Addr×Str))(H:Hp):Hp:=λb=>match tabs.find? (λr=>r.2.1 == b) with | some t=>some (.tbl #[.str t.2.2 0]) | none=>H b
theorem Ti{tabs:List (Addr×Addr×Str)}{H:Hp}{b:Addr}{t:Addr×Addr×Str}(h:tabs.find? (λr=>r.2.1 == b)=some t):fW tabs H b=some (.tbl #[.str t.2.2 0]):=by unfold fW; rw[h]
theorem Kq{tabs:List (Addr×Addr×Str)}{H:Hp}{b:Addr}(h:tabs.find? (λr=>r.2.1 == b)=none):fW tabs H b=H b:=by unfold fW; rw[h]
def cE(q:Bp)(K:PySem.W.Frag):Prop:=∃tabs:List (Addr×Addr×Str),(∀t∈tabs,∃x d,(recsOf q).find? (λe=>e.name == x)=some d/\PySem.W.tabIn K x=some (t.1,t.2.1))/\(∀t∈tabs,∀t'∈tabs,t.2.1=t'.2.1->t=t') /\
 (∀x∈Oi,∀c P,PySem.W.tabIn K x=some (c,P)->(c,P,Zh x)∈tabs)/\∀t∈tabs,K.lookup t.2.1=none
theorem uQ{x:Str}(hx:x∈Oi):x = "often" \/ x = "cut_by" := by
 rcases Az.mp hx with h | hx
 ·exact .inl h
 ·exact .inr (Am.mp hx)
theorem nZ{q:Bp}{K:PySem.W.Frag}{c P c' P':Addr}{d d':DefRec}(h1:PySem.W.tabIn K "often" = some (c,P))(hd:(recsOf q).find? (λe=>e.name == ("often" : Str))=some d)(hl:K.lookup P=none)(h2:PySem.W.tabIn K "cut_by" = some (c',P'))(hd2:(recsOf q).find? (λe=>e.name == ("cut_by" : Str))=some d')(hl2:K.lookup P'=none)(ne:(P == P')=false):cE q K:=by
 have ne:P≠P':=by simpa using ne
 refine ⟨[(c,P,Zh "often"),(c',P',Zh "cut_by")],λt ht=>?_,λt ht t' ht' e=>?_,λx hx c' P' e=>?_,λt ht=>?_⟩
 ·rcases Az.mp ht with rfl | ht
  ·exact ⟨"often",d,hd,h1⟩
  ·rw[Am.mp ht]; exact ⟨"cut_by",d',hd2,h2⟩
 ·rcases Az.mp ht with rfl | ht <;> rcases Az.mp ht' with rfl | ht'
  ·rfl
  ·rw[Am.mp ht'] at e; exact absurd e ne
  ·rw[Am.mp ht] at e; exact absurd e.symm ne
  ·rw[Am.mp ht,Am.mp ht']
 ·rcases uQ hx with rfl | rfl
  ·rw[h1] at e; cases e; exact Ab
  ·rw[h2] at e; cases e; exact Ak _ (Am.mpr rfl)
 ·rcases Az.mp ht with rfl | ht
  ·exact hl
  ·rw[Am.mp ht]; exact hl2
theorem mP{P:Bp}{w:World}{K:PySem.W.Frag}{mg mb:Str->Option Value}{CX:nM}{k:Nat}{fa a:Addr}{fd:Bx}{x:Str}{sp:Sp}{s₁:Al}{vs:List Value}{ns:List Int}(tabs:List (Addr×Addr×Str))(hT:∀t∈tabs,PySem.W.CodeHd s₁.heap t.1 t.2.1/\s₁.heap.get? t.2.1=some (PySem.W.tabObj #[]))(hu:∀t∈tabs,∀t'∈tabs,t.2.1=t'.2.1->t=t')(hL:∀x∈Oi,∀c P,PySem.W.tabIn K x=some (c,P)->(c,P,Zh x)∈tabs)(hnt:∀t∈tabs,K.lookup t.2.1=none)(hbm:∃bm ob,mg "__builtins__" = some (.ref bm)/\bm≠Tr/\s₁.heap.get? bm=some ob/\ob.cls=.type "module" /\ ob.dict=some Tr/\ob.data=.plain)(KX:K.In s₁.heap)(hns:s₁.heap.Ns Co mg)(hb:s₁.heap.Ns Tr mb)(hbb:∀x:Str,x ≠ "__name__" -> mb x=Ig x)(hlim:s₁.heap.NoLimit)(hg:s₁.gens=#[])(ha:s₁.heap.get? a=some { cls:=.type "list",data:=.seq vs.toArray })(hi:Dw vs ns)(hl:ns.length<=Be)(hr:Room k Wv)(F:∀base:Heap,K.In base->base.Ns Co mg->FnOk P w K mg base CX k fa fd [x] sp)(hbind:∀(s:Al) (u:Value),BindsTo s fd ⟨[u],[]⟩ [(x,u)])(hsp:∀H:Hp,qH H->DL.KL K H a (ns.map V.int)->sp [.ref a] H (λv _=>v=.bl true) λ_ _ _=>False)(hCX:∀H e s',CX [] H s₁ (λ_ _ _=>False) e s'->False):Tq (model P w) Wv (.call (.ref fa) ⟨[.ref a],[]⟩) (λr s'=>r=.ok (.ret (.bool true))/\OldK s₁.heap s'.heap/\s'.os=s₁.os/\Rj s'.gens) s₁:=by
 have rv:=aU hi
 have lenV:=hi.length
 -- from an abstract heap in which nothing but the script may be tracked
 have core:∀H:Hp,qH H->DL.KL K H a (ns.map V.int)->Zx P w H s₁.heap->(∀b,H b≠none->b=a\/∃t∈tabs,b=t.2.1)->(H a≠none->K.lookup a=none)->(∀t∈tabs,zD H t.2.1 t.2.2) ->
   Tq (model P w) Wv (.call (.ref fa) ⟨[.ref a],[]⟩) (λr s'=>r=.ok (.ret (.bool true))/\OldK s₁.heap s'.heap/\s'.os=s₁.os/\Rj s'.gens) s₁:=by
  intro H hO hS hok hA hK hTH
  have base_of:∀{b:Addr} {o:Obj},s₁.heap.get? b=some o->H b=none->(Zz s₁.heap H).get? b=some o:=λe n=>pH e n
  have noA:∀{b:Addr} {o:Obj} {es:Array DictEntry} {ep:Nat},s₁.heap.get? b=some o->o.data=.dict es ep->H b=none:=λ{b o es ep} e d=>by
   cases q:H b with
   | none=>rfl
   | some u =>
    rcases hA b (by rw[q]; simp) with e' | ⟨t,ht,e'⟩
    ·subst e'
     rw[ha] at e; cases e
     have d':Data.seq vs.toArray _=Data.dict es ep:=d
     cases d'
    ·rw[e',(hT t ht).2] at e; cases e
     cases d
  have nsK:∀{b:Addr} {m:Str->Option Value},s₁.heap.Ns b m->(Zz s₁.heap H).Ns b m:=λ{b m} ⟨o,es,ep,e,d,r⟩=>⟨o,es,ep,base_of e (noA e d),d,r⟩
  have hKb:K.In (Zz s₁.heap H):=λb o e=>base_of (KX b o e) (by
   cases q:H b with
   | none=>rfl
   | some u =>
    rcases hA b (by rw[q]; simp) with e' | ⟨t,ht,e'⟩
    ·subst e'
     rw[hK (by rw[q]; simp)] at e; cases e
    ·rw[e',hnt t ht] at e; cases e)
  have noC:∀{b:Addr} {o:Obj},s₁.heap.get? b=some o->o.cls≠.none->o.cls≠.type "list" -> H b=none:=λ{b o} e d d2=>by
   cases q:H b with
   | none=>rfl
   | some u =>
    rcases hA b (by rw[q]; simp) with e' | ⟨t,ht,e'⟩
    ·subst e'
     rw[ha] at e; cases e
     exact absurd rfl d2
    ·rw[e',(hT t ht).2] at e; cases e
     exact absurd rfl d
  have hTb:rE K mg (Zz s₁.heap H) H:=λx hx c P e=>by
   have ht:=hL x hx c P e
   obtain ⟨bm,ob,b1,b2,b3,b4,b5,b6⟩:=hbm
   obtain ⟨⟨o,us,file,tf,flags,tg,inF,text,tt,e1,r1,r2⟩,hP⟩:=hT _ ht
   refine ⟨⟨o,us,file,tf,flags,tg,inF,text,tt,base_of e1 (noC e1 (by rw[r1]; nofun) (by rw[r1]; simp)),r1,r2⟩,⟨bm,ob,b1,b2,λz=>?_,λz=>?_,base_of b3 (noC b3 (by rw[b4]; nofun) (by rw[b4]; simp)),b4,b5,b6⟩,hTH _ ht⟩
   ·obtain ⟨o',es,ep,e',d,_⟩:=hns
    rw[<- z,b3] at e'; cases e'; rw[b6] at d; cases d
   ·have hP:s₁.heap.get? P=_:=hP
    rw[<- z,b3] at hP; cases hP; cases b4
  have hM:Mod K mg (Zz s₁.heap H):=⟨hKb,nsK hns,⟨mb,nsK hb,hbb⟩,let ⟨mc,h1,h2⟩:=hlim; ⟨mc,nsK h1,h2⟩⟩
  have e0:Env0 P w K mg (Zz s₁.heap H) Wv [] s₁ H:=⟨rfl,hM,λb o e=>xD e,Nat.le_of_eq (nK _ _),trivial,λb hb=>absurd (show b∈([]:List Addr) from hb) (by simp),hok,.of_eq hg,hTb⟩
  refine bV ((F _ hKb (nsK hns)).run Wv [] s₁ H ⟨[.ref a],[]⟩ [.ref a] [.ref a] _ _ hr e0 (hbind s₁ (.ref a)) (.cons rfl .nil) (hsp H hO hS)) λr s' h=>?_
  cases r with
  | error e=>exact (hCX H e s' h).elim
  | ok fl =>
   cases fl with
   | next=>exact Iy h
   | brk=>exact Iy h
   | cont=>exact Iy h
   | ret u =>
    obtain ⟨v,H',os,bare,un,hok',r',q⟩:=h
    have q':v=.bl true:=q
    subst q'
    obtain rfl:u=Uz true:=r'
    have old:∀b o,s₁.heap.get? b=some o->s'.heap.get? b=some o\/∃t∈tabs,b=t.2.1:=λb o e=>by
     cases q:H b with
     | none=>exact .inl (un.keep b o e q (by intro z; exact absurd (show b∈([]:List Addr) from z) (by simp)) (by simp))
     | some u =>
      rcases hO b with z | ⟨ob,xs,z⟩ | ⟨ps,z⟩
      ·rw[q] at z; cases z
      ·have z2:=un.frzs b ob _ z
       obtain ⟨e1,_⟩:=hok b _ z
       obtain ⟨e2,_⟩:=hok' b _ z2
       rw[e] at e1; cases e1
       exact .inl e2
      ·rcases hA b (by rw[q]; simp) with e' | h'
       ·obtain ⟨_,e1,_⟩:=hok b _ z
        rw[e',ha] at e1; cases e1
       ·exact .inr h'
    have grown:∀t∈tabs,∃ps,s'.heap.get? t.2.1=some (PySem.W.tabObj ps):=λt ht=>by
     obtain ⟨ps,t0,h3,_⟩:=hTH t ht
     obtain ⟨more,h5⟩:=un.tbls _ _ h3
     obtain ⟨qs,e1,_⟩:=hok' _ _ h5
     exact ⟨qs,e1⟩
    refine ⟨rfl,⟨λb o e=>?_,λb o e=>?_⟩,os,bare⟩
    ·rcases old b o e with z | ⟨t,ht,rfl⟩
     ·exact .inl z
     ·obtain ⟨ps,hP⟩:=grown t ht
      have e2:=(hT t ht).2
      rw[e] at e2
      cases e2
      exact .inr (.inl ⟨((hT t ht).1.tab (hT t ht).2).isCodeTable,rfl,#[],ps,rfl,by rw[Array.empty_append]; exact hP⟩)
    ·rcases old b o e with z | ⟨t,ht,rfl⟩
     ·exact ⟨_,z⟩
     ·obtain ⟨ps,hP⟩:=grown t ht
      exact ⟨_,hP⟩
 have tabH:∀(t:Addr×Addr×Str),t∈tabs->tabs.find? (λr=>r.2.1 == t.2.1)=some t:=λt ht=>by
  cases q:tabs.find? (λr=>r.2.1 == t.2.1) with
  | none=>exact absurd (List.find?_eq_none.mp q t ht) (by simp)
  | some r=>exact congrArg some (hu r (Ot q) t ht (by have:=List.find?_some q; simpa using this))
 have neA:∀t∈tabs,t.2.1≠a:=λt ht z=>by
  have e:=(hT t ht).2
  rw[z,ha] at e; cases e
 have all:∀H:Hp,(∀b,H b=none\/∃o xs,H b=some (.frz o (.lst xs)))->(∀b,H b≠none->b=a)->(H a≠none->K.lookup a=none)->DL.KL K H a (ns.map V.int)->Zx P w H s₁.heap ->
   Tq (model P w) Wv (.call (.ref fa) ⟨[.ref a],[]⟩) (λr s'=>r=.ok (.ret (.bool true))/\OldK s₁.heap s'.heap/\s'.os=s₁.os/\Rj s'.gens) s₁:=by
  intro H h1 h2 h3 h4 h5
  refine core (fW tabs H) (λb=>?_) ?_ (λb u z=>?_) (λb z=>?_) (λz=>?_) λt ht=>?_
  ·cases q:tabs.find? (λr=>r.2.1 == b) with
   | some t=>exact .inr (.inr ⟨_,Ti q⟩)
   | none =>
    rcases h1 b with z | ⟨o,xs,z⟩
    ·exact .inl (by rw[Kq q]; exact z)
    ·exact .inr (.inl ⟨o,xs,by rw[Kq q]; exact z⟩)
  ·have na:tabs.find? (λr=>r.2.1 == a)=none:=tX.mpr λt ht z=>neA t ht (by simpa using z)
   rcases h4 with ⟨o,h⟩ | h
   ·exact .inl ⟨o,by rw[Kq na]; exact h⟩
   ·exact .inr h
  ·cases q:tabs.find? (λr=>r.2.1 == b) with
   | some t =>
    rw[Ti q] at z
    cases z
    have eb:t.2.1=b:=by have:=List.find?_some q; simpa using this
    exact ⟨#[],by rw[<- eb]; exact (hT t (Ot q)).2,by simp [TriplesOk],λpos v y=>by simp [Pt] at y⟩
   | none =>
    rw[Kq q] at z
    rcases h1 b with y | ⟨o,xs,y⟩
    ·rw[z] at y; cases y
    ·rw[z] at y
     cases y
     exact h5 b _ z
  ·cases q:tabs.find? (λr=>r.2.1 == b) with
   | some t=>exact .inr ⟨t,Ot q,by have:=List.find?_some q; exact (by simpa using this : t.2.1=b).symm⟩
   | none =>
    rw[Kq q] at z
    exact .inl (h2 b z)
  ·have na:tabs.find? (λr=>r.2.1 == a)=none:=tX.mpr λt ht z=>neA t ht (by simpa using z)
   rw[Kq na] at z
   exact h3 z
  ·exact ⟨#[.str t.2.2 0],0,Ti (tabH t ht),rfl⟩
 cases hk:K.lookup a with
 | some o =>
  -- the script is one of the module's own objects
  have e:=KX a o hk
  rw[ha] at e
  cases e
  exact all (λ_=>none) (λ_=>.inl rfl) (λb z=>absurd rfl z) (λz=>absurd rfl z) (.inr ⟨vs.toArray,_,hk,by rw[Aq,lenV]; exact hl,by simpa using rv⟩) (λb u z=>by have z':(none:Option HO)=some u:=z; cases z')
 | none =>
  refine all (λb=>if b=a then some (.frz { cls:=.type "list",data:=.seq vs.toArray } (.lst (ns.map V.int))) else none) (λb=>?_) (λb z=>?_) (λ_=>hk) (.inl ⟨{ cls:=.type "list",data:=.seq vs.toArray },if_pos rfl⟩) (λb u z=>?_)
  ·by_cases hb:b=a
   ·exact .inr ⟨_,_,if_pos hb⟩
   ·exact .inl (if_neg hb)
  ·by_cases hb:b=a
   ·exact hb
   ·exact absurd (if_neg hb) z
  ·by_cases hb:b=a
   ·have z':=(if_pos hb).symm.trans z
    cases z'
    subst hb
    exact ⟨ha,by rw[Aa]; exact hl,vs,_,rv,ha⟩
   ·have z':=(if_neg hb).symm.trans z
    cases z'
theorem walk_ofD{l:PySem.W.OpenLaw}{n k:Nat}{q:Bp}{loose:List Str}{XP:(Str->Option Value)->Heap->Prop}{YP:World->Heap->Prop}{d:DefRec}{K:Params->PySem.W.Frag}{CX:World->nM}{sp:World->Sp}{x:Str}(hn:l.most=some n)(hn2:n<=Be)(hdf:d.params.defaults=[])(hr:Room k Wv)(hY:∀(w:World) (h:Heap),YP w h->(K w.params).In h)(F:∀(w:World) (mg:Str->Option Value) (fa:Addr) (h:Heap),(K w.params).In h->h.Ns Co mg->mg d.name=some (.ref fa)->(cE q (K w.params))/\∃fd:Bx,(∀(s:Al) (u:Value),BindsTo s fd ⟨[u],[]⟩ [(x,u)])/\∀base:Heap,(K w.params).In base->base.Ns Co mg->FnOk l.prog w (K w.params) mg base (CX w) k fa fd [x] (sp w))(hsp:∀(w:World) (H:Hp) (a:Addr) (ns:List Int),ns.length<=n->qH H->DL.KL (K w.params) H a (ns.map V.int)->sp w [.ref a] H (λv _=>v=.bl true) λ_ _ _=>False)(hCX:∀(w:World) (H:Hp) (s:Al) (e:Value) (s':Al),CX w [] H s (λ_ _ _=>False) e s'->False):PySem.W.WalkO q loose XP YP l.row.toRowW d [] (λf vs=>PySem.call f vs):=by
 refine Att.attach_call hn hdf λw s₀ s₁ mg mb fa o pm cd doc a vs ns G Y ho hd hcd hmg hobj hints hlen hg=>?_
 have KX:=hY w _ Y
 obtain ⟨⟨tabs,t1,t2,t3,t4⟩,fd,hb,hF⟩:=F w mg fa _ KX G.T.g hmg
 exact mP tabs (λt ht=>by
  obtain ⟨x,d,h1,h2⟩:=t1 t ht
  exact PySem.W.tab_of G.T KX h1 h2) t2 t3 t4 G.T.bmain KX G.T.g G.T.b G.T.builtins G.T.nolimit hg hobj hints (Cm hlen hn2) hr hF hb (λH hO hS=>hsp w H a ns hlen hO hS) λH e s'=>hCX w H s₁ e s'
end L2
namespace DL
open PySem PySem.Spec PyProof.Rows L2 Nd
def npk:List DV->Bool
 | []=>true
 | .dat .pk _::_=>false
 | _::xs=>npk xs
theorem sU:∀{S:List Ent} {sl:List DV},S.map Ent.x=sl->npk sl=true->∀e∈S,Oz e.x=false
 | [],_,_,_,e,he=>nomatch he
 | ⟨v,x,F⟩::S,_,h,hn,e,he=>by
  subst h
  rw[Ba] at hn
  have : Oz x=false/\npk (S.map Ent.x)=true:=by
   cases x with
   | dat m d=>cases m <;> first | exact ⟨rfl,hn⟩ | cases hn
   | _=>exact ⟨rfl,hn⟩
  rcases Az.mp he with rfl | he
  ·exact this.1
  ·exact sU rfl this.2 e he
def own1:Md->Bool
 | .ow=>true
 | .tp=>true
 | _=>false
section
variable{K:PySem.W.Frag}{H0 H:Hp}{X:Addr->Prop}{n:Nat}{E:List Ent}
theorem At.write{v:Option V}{m:Md}{ds es:List Ac}{a:Addr}{F G:List Addr}{ys:List V}(h:At K H0 X n (⟨v,.dat m (.list ds),a::F⟩::E) H)(ho:own1 m=true)(hv:v=some (.ref a))(np:∀e∈E,Oz e.x=false)(r:RdFs K H ys es G)(hG:G.Sublist F)(hz:es.length<=Be):At K H0 X n (⟨v,.dat m (.list es),a::G⟩::E) (upd H a (.lst ys)):=by
 obtain ⟨w,e1,rd,hn,ht⟩:=h.ok _ Ab
 obtain ⟨b,xs,G0,e2,ha,ra,eF,_⟩:=rd.list_inv
 have eF':a::F=b::G0:=eF
 cases eF'
 have hs:=Bt.mp h.sep
 have naF:a∉F:=by
  cases m with
  | ow=>exact (Di.mp (hn rfl)).1
  | tp=>exact ht rfl a F rfl
  | sh=>cases ho
  | pk=>cases ho
 have ca:a∈cells ⟨v,.dat m (.list ds),a::F⟩:=by
  cases m <;> first | exact Ab | cases ho
 have kp:∀{F':List Addr},a∉F'->Kp F' H (upd H a (.lst ys)):=λ{F'} hF b o q z=>by
  have : b≠a:=by
   rintro rfl
   rw[ha] at q
   cases q
   rcases z with z | z
   ·exact hF z
   ·rcases z with ⟨_,z⟩ | ⟨_,_,z⟩ <;> cases z
  rw[Ee this]
  exact q
 have n0:H0 a=none:=by
  rcases h.new _ Ab a ca with z | z
  ·exact z
  ·cases z.2
 have cs:∀c∈cells ⟨v,.dat m (.list es),a::G⟩,c∈cells ⟨v,.dat m (.list ds),a::F⟩:=λc hc=>by
  cases m with
  | ow =>
   rcases Az.mp hc with z | z
   ·exact Az.mpr (.inl z)
   ·exact Az.mpr (.inr (hG.subset z))
  | tp=>exact hc
  | sh=>cases ho
  | pk=>cases ho
 have hsub:∀c∈a::G,c∈a::F:=λc hc=>by
  rcases Az.mp hc with z | z
  ·exact Az.mpr (.inl z)
  ·exact Az.mpr (.inr (hG.subset z))
 have naG:a∉G:=λz=>naF (hG.subset z)
 refine ⟨λf hf=>?_,?_,λf hf=>?_,λb o nx q=>?_,λb o q=>?_,λb hb=>?_⟩
 ·rcases Az.mp hf with rfl | hf
  ·refine ⟨.ref a,hv,.lst Ej hz (r.kp (kp naG)),λz=>?_,λz c l e=>?_⟩
   ·exact Di.mpr ⟨naG,(Di.mp (hn z)).2.sublist hG⟩
   ·cases e
    exact naG
  ·exact (h.ok f (Ak _ hf)).kp (kp ((hs.1 f hf).1 (.inl (np f hf)) a ca)) (Ap _)
 ·refine Bt.mpr ⟨λf hf=>⟨λhq c hc=>(hs.1 f hf).1 (.inl (np f hf)) c (cs c hc),λhq c hc z=>(hs.1 f hf).2 (.inl ?_) c hc (hsub c z)⟩,hs.2⟩
  cases m <;> first | rfl | cases ho
 ·rcases Az.mp hf with rfl | hf
  ·exact λc hc=>h.new _ Ab c (cs c hc)
  ·exact h.new f (Ak _ hf)
 ·rw[Ee (Ek q n0)]
  exact h.same b o nx q
 ·rw[Ee (Ek q n0)]
  exact h.dom b o q
 ·obtain ⟨z,c,k,f,h1,h2⟩:=h.xd b hb
  refine ⟨z,c,k,f,(Ee ?_).trans h1,h2⟩
  rintro rfl
  exact z n0
end
theorem Su{α:Type}:∀{l:List α} {i:Nat} {x:α},l[i]? = some x->l.Perm (x::l.eraseIdx i)
 | [],i,x,h=>by simp at h
 | z::l,0,x,h=>by
  simp at h
  subst h
  exact List.Perm.refl _
 | z::l,i+1,x,h=>by
  have ih:=Su (l:=l) (i:=i) (x:=x) (by simpa using h)
  rw[Qe]
  exact (ih.cons z).trans (Ka x z _)
theorem nB{α:Type}{l:List α}{i:Nat}{x y:α}(h:l[i]? = some x):(l.set i y).Perm (y::l.eraseIdx i):=by
 have hlt:=(Ah.mp h).1
 have q:=Su (l:=l.set i y) (i:=i) (x:=y) (by rw[Ou]; simp [hlt])
 rw[List.eraseIdx_set_eq] at q
 exact q
theorem Zn{K:PySem.W.Frag}{H0 H:Hp}{X:Addr->Prop}{S T:List Ent}{δ:DS}{i:Nat}{m:Md}{ds es:List Ac}(hS:Sl S δ)(hT:∀e∈T,Oz e.x=false)(hA:At K H0 X δ.n (S++T) H)(hi:δ.sl[i]? = some (.dat m (.list ds)))(ho:own1 m=true)(np:npk δ.sl=true):∃a xs G,(vs S)[i]? = some (some (.ref a))/\H a=some (.lst xs)/\RdFs K H xs ds G/\ds.length<=Be/\∀ys G',RdFs K H ys es G'->G'.Sublist G->es.length<=Be->∃S',vs S'=vs S/\Sl S' ⟨δ.sl.set i (.dat m (.list es)),δ.n⟩/\At K H0 X δ.n (S'++T) (upd H a (.lst ys)):=by
 obtain ⟨ent,e2,e3⟩:=Ky hS hi
 have hm:ent∈S:=An e2
 obtain ⟨u,x,F⟩:=ent
 have e3':x=.dat m (.list ds):=e3
 subst e3'
 obtain ⟨v,hv,rd,_⟩:=hA.ok _ (Au _ hm)
 obtain ⟨a,xs,G,rfl,ha,ra,eF,hz⟩:=rd.list_inv
 have eF':F=a::G:=eF
 subst eF'
 refine ⟨a,xs,G,by rw[Pw e2]; exact congrArg some hv,ha,ra,hz,λys G' r hG hz'=>?_⟩
 have hn:=sU hS np
 have pm:(S++T).Perm (⟨u,.dat m (.list ds),a::G⟩::(S.eraseIdx i++T)):=by
  exact (Su e2).append_right T
 have h1:=(hA.perm pm).write (es:=es) (ys:=ys) ho hv (λe he=>?_) r hG hz'
 ·refine ⟨S.set i ⟨u,.dat m (.list es),a::G'⟩,?_,?_,h1.perm ?_⟩
  ·unfold vs
   rw[Kv]
   apply Ik
   intro j
   rw[Ou]
   split
   ·rename_i hij
    subst hij
    rw[Ao,e2]
    split
    ·rfl
    ·rename_i hj
     rw[Aa] at hj
     exact absurd (Ah.mp e2).1 hj
   ·rfl
  ·unfold Sl at hS ⊢
   rw[Kv,hS]
  ·exact ((nB e2).append_right T).symm
 ·rcases Bi.mp he with he | he
  ·exact hn e ((List.eraseIdx_sublist S i).subset he)
  ·exact hT e he
def cU(i:Nat)(de:DE):DB:=λD δ=>match δ.sl[i]? with
 | some (.dat _ (.list _))=>de δ λy δ1=>match δ1.sl[i]?,y with
  | some (.dat m (.list ds)),.dat _ e=>own1 m=true/\npk δ1.sl=true/\imm e=true/\ds.length<1000000/\D.nx ⟨δ1.sl.set i (.dat m (.list (ds++[e]))),δ1.n⟩
  | _,_=>False
 | _=>False
section
variable{X:Cx}{o e:Expr}{de:DE}{apos cpos pos:Pos}{i:Nat}
theorem Vj(ho:PE X o (gI i))(he:En X e de)(hbase:Rz o "append" X.env (eval o X.env)=eval o X.env:=by rfl)
  (hfew:((Ih cpos (Bs [e] X.env)).all (λx=>!x.1) && (backToKw cpos (Wl [] X.env)).all (λx=>x.1.isSome)
   && decide (([e]:List Expr).length+([]:List Ri).length+(if ([]:List Ri).isEmpty then 0 else 1)<30))=true:=by rfl)
  (hline:(apos.endLine == cpos.line)=true:=by rfl) (hs:Bs [e] X.env=(false,eval e X.env)::Bs [] X.env:=by rfl) (hplain:(Ih cpos (Bs [] X.env)).any (·.1)=false:=by rfl)
  (hsw:Sq (.Call (.Attribute o "append" apos) [e] [] cpos) none pos.line X.env=pure false:=by rfl) :
  tY X (.Expr (.Call (.Attribute o "append" apos) [e] [] cpos) pos) (cU i de):=by
 refine PS.impD (vX (xY PySem.F.plainAttrs_list PySem.F.slot_list_append PySem.F.type_list_append bA ho (Iq he Qx hs) hbase hfew hline hs hplain) hsw) λD σ H h=>?_
 obtain ⟨H0,Y,S,T,δ,P,rfl,hS,hT,hA,hd,k1,k2,k3,k4⟩:=h
 unfold cU at hd
 split at hd
 case h_2=>exact hd.elim
 rename_i m0 ds0 hsl
 obtain ⟨ent,e2,e3⟩:=Ky hS hsl
 have hm:ent∈S:=An e2
 obtain ⟨u,x,F⟩:=ent
 have e3':x=.dat m0 (.list ds0):=e3
 subst e3'
 obtain ⟨v,hv,rd,_⟩:=hA.ok _ (Au _ hm)
 obtain ⟨a,xs,G,rfl,ha,ra,eF,hz⟩:=rd.list_inv
 refine ⟨.ref a,by rw[Pw e2]; exact congrArg some hv,.inl ⟨rfl,xs,Pu.of ha⟩,H0,Y,S,T,δ,_,rfl,hS,hA,hd,λy δ1 w F1 S1 H1 e4 e5 hA1 p1=>?_⟩
 split at p1
 ·rename_i m ds m' e' hsl1
  obtain ⟨p1,p2,p3,p4,p5⟩:=p1
  have r:=hA1.told mem_mid
  obtain rfl:=r.imm p3
  obtain ⟨b,xs1,G1,g1,g2,g3,g4,g5⟩:=Zn (es:=ds++[e']) e5 hT hA1.drop hsl1 p1 p2
  rw[e4,Pw e2] at g1
  have : some (V.ref b)=some (V.ref a):=(Bo g1).symm.trans hv
  cases this
  obtain ⟨S2,h1,h2,h3⟩:=g5 (xs1++[w]) (G1++[]) (g3.snoc r) (by rw[Dk]; exact Dg _) (by rw[Cc]; exact nY (by simp; omega))
  have hl:=g3.len
  refine ⟨a,xs1,w,rfl,rfl,g2,Cj (by omega) (nY (n:=1000000) (Ap _)),?_⟩
  rw[<- e4,<- h1]
  exact k1 ⟨_,_⟩ S2 _ h2 h3 p5
 ·exact p1.elim
end
def yI(i:Nat)(dk de:DE):DB:=λD δ=>de δ λy δ1=>match δ1.sl[i]? with
 | some (.dat _ (.list _))=>dk δ1 λz δ2=>match δ2.sl[i]?,y,z with
  | some (.dat m (.list ds)),.dat _ e,.dat _ (.int k)=>own1 m=true/\npk δ2.sl=true/\imm e=true/\Dv ds=true/\∃j,oM ds.length k=some j/\D.nx ⟨δ2.sl.set i (.dat m (.list (ds.set j e))),δ2.n⟩
  | _,_,_=>False
 | _=>False
theorem RdFs.setI{K:PySem.W.Frag}{H:Hp}:∀{xs:List V} {ds:List Ac} {j:Nat} {v:V} {e:Ac},RdFs K H xs ds []->RdF K H v e []->RdFs K H (xs.set j v) (ds.set j e) []:=by
 have main:∀{xs:List V} {ds:List Ac} {F:List Addr} {j:Nat} {v:V} {e:Ac},RdFs K H xs ds F->F=[]->RdF K H v e []->RdFs K H (xs.set j v) (ds.set j e) []:=by
  intro xs ds F j v e h
  induction j generalizing xs ds F with
  | zero =>
   intro hF r
   cases h with
   | nil=>exact .nil
   | cons a t =>
    obtain ⟨rfl,rfl⟩:=jX.mp hF
    exact RdFs.cons (F:=[]) r t
  | succ j ih =>
   intro hF r
   cases h with
   | nil=>exact .nil
   | cons a t =>
    obtain ⟨rfl,rfl⟩:=jX.mp hF
    exact RdFs.cons (F:=[]) a (ih t rfl r)
 intro xs ds j v e h r
 exact main h rfl r
section
variable{X:Cx}{o ie e:Expr}{de dk:DE}{pos spos:Pos}{i:Nat}
theorem xC(ho:PE X o (gI i))(hk:En X ie dk)(he:En X e de)
  (ha:∀v,Wm (.Subscript o ie spos) X.env v=(do
   let ov <- Lu [v] (eval o X.env)
   let iv <- Lu [v,ov] (eval ie X.env)
   standAt spos
   Lu [v,ov,iv] (setItem ov iv v)
   release [v,ov,iv] []):=by intro _; rfl)
  (hs:swapsWithSole [.Subscript o ie spos] e pos.line X.env=pure false:=by rfl) (hw:swappedStores [.Subscript o ie spos] e X.env=pure none:=by rfl)
  (h1:(Ii [.Subscript o ie spos] X.env).map (·.2)=[Wm (.Subscript o ie spos) X.env]:=by rfl):tY X (.Assign [.Subscript o ie spos] e pos) (yI i dk de):=by
 refine PS.impD (Zd he (Zi ho hk Rf ha) hs hw h1) λD σ H h=>?_
 obtain ⟨H0,Y,S,T,δ,P,rfl,hS,hT,hA,hd,k1,k2,k3,k4⟩:=h
 refine ⟨H0,Y,S,T,δ,_,rfl,hS,hA,hd,λy δ1 w F1 S1 H1 e4 e5 hA1 p1=>?_⟩
 split at p1
 case h_2=>exact p1.elim
 rename_i m0 ds0 hsl
 obtain ⟨ent,e2,e3⟩:=Ky e5 hsl
 have hm:ent∈S1:=An e2
 obtain ⟨u,x,F⟩:=ent
 have e3':x=.dat m0 (.list ds0):=e3
 subst e3'
 obtain ⟨v,hv,rd,_⟩:=hA1.ok _ (Au _ hm)
 obtain ⟨a,xs,G,rfl,ha,ra,eF,hz⟩:=rd.list_inv
 refine ⟨.ref a,by rw[<- e4,Pw e2]; exact congrArg some hv,H0,Y,S1,⟨some w,y,F1⟩::T,δ1,_,e4,e5,hA1,p1,λz δ2 w2 F2 S2 H2 e6 e7 hA2 p2=>?_⟩
 split at p2
 ·rename_i m ds m' e' m'' k hsl2
  obtain ⟨q1,q2,q3,q4,j,q5,q6⟩:=p2
  obtain ⟨rfl,_⟩:=(hA2.told mem_mid).int_inv
  have r:=hA2.told Es
  obtain rfl:=r.imm q3
  obtain ⟨b,xs1,G1,g1,g2,g3,g4,g5⟩:=Zn (es:=ds.set j e') e7 hT hA2.drop2 hsl2 q1 q2
  rw[e6,<- e4,Pw e2] at g1
  have : some (V.ref b)=some (V.ref a):=(Bo g1).symm.trans hv
  cases this
  obtain rfl:=g3.imm q4
  obtain ⟨S3,h1,h2,h3⟩:=g5 (xs1.set j w) [] (g3.setI r) (Dg _) (by rw[List.length_set]; exact g4)
  refine ⟨a,xs1,k,j,rfl,rfl,g2,by rw[g3.len]; exact q5,?_⟩
  rw[<- e6,<- h1]
  exact k1 ⟨_,_⟩ S3 _ h2 h3 q6
 ·exact p2.elim
end
def spLawD(K:PySem.W.Frag):Sp:=λus H Q _=>∃(a:Addr) (ns:List Int),us=[.ref a]/\KL K H a (ns.map V.int)/\ns.length<=63/\∀H',Q (.bl true) H'
def retL:DEnds where
 nx:=λ_=>False
 rt:=λx _=>∃m,x=.dat m (.bool true)
section
variable{P:Bp}{w:World}{K:PySem.W.Frag}{mg:Str->Option Value}{base:Heap}
theorem C6{x qual p0:Str}{st:Stmt}{f:Addr}{fd:Bx}{N:List Str}{k:Nat}{db:DB}(F:Fun K x qual st f fd)(S:FnScope N [p0] (Br st))(hb:∀(cdv:Value) (A:Cr) (outer:List Env) (s:Al) (H:Hp) (E:XK),Room k (A.deeper (Mu qual (Br st) s.heap.objs.size f cdv))->Wu (Vl Gc P w K mg base N qual (Br st) f cdv A outer s H E).nox (Hd st) db)(h:∀ns:List Int,ns.length<=63->db retL ⟨.scr ns::Ci (N.length - 1) .un,0⟩):FnOk P w K mg base Gc (k+1) f fd [p0] (spLawD K):=by
 refine F.ok S (λvs H Q E z=>?_) λcdv A outer s H us Q E hr z=>?_
 ·obtain ⟨a,ns,rfl,_⟩:=z
  rfl
 ·obtain ⟨a,ns,rfl,hK,h63,k1⟩:=z
  refine ⟨_,hb cdv A outer s H E hr,H,λ_=>False,⟨some (.ref a),.scr ns,[]⟩::Gh (N.length - 1),[],⟨.scr ns::Ci (N.length - 1) .un,0⟩,retL,?_,?_,λ_ z=>(nomatch z),?_,h ns h63,λδ' S' H' e1 hA p=>p.elim,λx δ' v F' S' H' e1 hA p=>?_,λ_ _ _ _ _ p=>p.elim,λ_ _ _ _ _ p=>p.elim⟩
  ·unfold vs L2.start Gh
   rw[Ba,Kz]
   rfl
  ·unfold Sl Gh
   rw[Ba,Kz]
  ·rw[Dk]
   have hc:∀e∈(⟨some (.ref a),.scr ns,[]⟩::Gh (N.length - 1):List Ent),cells e=[]:=λe he=>by
    rcases Az.mp he with rfl | he
    ·rfl
    ·rw[(Gd.mp he).2]
     rfl
   refine ⟨λe he=>?_,Oq λa ha b hb'=>⟨λhq c z=>?_,λhq c z=>?_⟩,λe he a ha=>?_,λb o _ e=>e,λb o e=>⟨o,e⟩,λb hb=>hb.elim⟩
   ·rcases Az.mp he with rfl | he
    ·exact ⟨a,rfl,rfl,hK,h63⟩
    ·rw[(Gd.mp he).2]
     exact (rfl:([]:List Addr)=[])
   ·rw[hc a ha] at z; cases z
   ·rw[hc b hb'] at z; cases z
   ·rw[hc e he] at ha; cases ha
  ·obtain ⟨m,rfl⟩:=p
   rw[show S'++[(⟨some v,.dat m (.bool true),F'⟩ : Ent)]=S'++⟨some v,.dat m (.bool true),F'⟩::[] from rfl] at hA
   obtain ⟨rfl,_⟩:=(hA.told mem_mid).bl_inv
   exact k1 H'
end
def iI(i:Nat)(dl dh:DO):DE:=λδ P=>match δ.sl[i]? with
 | some (.scr ns)=>dl δ λl δ2=>dh δ2 λh δ3=>P (.dat .ow (.list ((Ko ns l h).map Ad))) δ3
 | _=>False
section
variable{X:Cx}{e b:Expr}{de:DE}{lo hi:Option Expr}{dl dh:DO}{pos p2:Pos}{i:Nat}
theorem zQ{K:PySem.W.Frag}{H0 H:Hp}{Y:Addr->Prop}{S T:List Ent}{δ:DS}{ns:List Int}(hS:Sl S δ)(hA:At K H0 Y δ.n (S++T) H)(hi:δ.sl[i]? = some (.scr ns)):∃a,(vs S)[i]? = some (some (.ref a))/\(⟨some (.ref a),.scr ns,[]⟩ : Ent)∈S/\KL K H a (ns.map V.int)/\ns.length<=63:=by
 obtain ⟨ent,e2,e3⟩:=Ky hS hi
 have hm:ent∈S:=An e2
 obtain ⟨u,x,F⟩:=ent
 have e3':x=.scr ns:=e3
 subst e3'
 obtain ⟨a,h1,h2,h3⟩:=hA.ok _ (Au _ hm)
 have h1':u=some (.ref a):=h1
 have h2':F=[]:=h2
 subst h1' h2'
 exact ⟨a,by rw[Pw e2],hm,h3⟩
theorem sG(he:PE X e (gI i))(hl:D0 X lo dl)(hh:D0 X hi dh):En X (.Subscript e (.Slice lo hi none p2) pos) (iI i dl dh):=by
 refine PE.imp (gN (r:=w4 X.K) wN he hl hh) λσ H Q h=>?_
 obtain ⟨H0,Y,S,T,δ,P,rfl,hS,hA,hd,k⟩:=h
 unfold iI at hd
 split at hd
 case h_2=>exact hd.elim
 rename_i ns hsl
 obtain ⟨a,ha,hm,hK,h63⟩:=zQ hS hA hsl
 have hA0:At X.K H0 Y δ.n (S++⟨some (.ref a),.scr ns,[]⟩::T) H:=(At.view1 hA (Au _ hm)).tomid
 refine ⟨.ref a,ha,H0,Y,S,⟨some (.ref a),.scr ns,[]⟩::T,δ,_,rfl,hS,hA0,hd,λl δ2 S2 H2 e3 e4 hA2 p2=>?_⟩
 refine ⟨H0,Y,S2,⟨some (.ref a),.scr ns,[]⟩::T,δ2,_,e3,e4,hA2,p2,λh δ3 S3 H3 e5 e6 hA3 p3=>?_⟩
 obtain ⟨a',h1,_,hK3,_⟩:=hA3.ok _ mem_mid
 cases h1
 refine ⟨a,_,rfl,hK3.sq,λp hp=>?_⟩
 have : Yg (ns.map V.int) l h=(Ko ns l h).map V.int:=by
  rw[<- eT]; rfl
 rw[this]
 refine k _ δ3 _ _ S3 _ e5 e6 (hA3.drop.newI (RdFs.ints _) (Nh _) ?_ hp .ow) p3
 rw[Aa]
 have l1:=(Uk ns l h).length_le
 exact sz (by omega)
end
def M4(i j:Int):Prop:=0<=j/\(Builtin.Int.intBits i:Int) * j<=2 ^ 27
theorem vZ{X:Cx}:Tn X (Hr .Pow) (rI M4 λi j=>.int (i ^ j.toNat)):=G7 λ_ _ _ _ _ _ _ hc q=>pow_int hc.1 hc.2 q
def Qy:DF:=λds n R=>ds=[]/\n<=100000/\∀r:Int,R (.int r) (n+1)
theorem wB{P:Bp}{w:World}{K:PySem.W.Frag}{mg:Str->Option Value}{base:Heap}{k:Nat}{f:Addr}{fd:Bx}{ps:List Str}(F:FnOk P w K mg base Gc k f fd ps pS):FnOk P w K mg base Gc k f fd ps (Vz K Qy):=by
 refine F.imp λus H Q E h=>?_
 obtain ⟨dr,ws,As,n,ds,R,rfl,eu,ok,nd,⟨c,kk,fl,hdr,h0,h1⟩,q,hp,k1⟩:=h
 obtain ⟨rfl,hn,hR⟩:=hp
 have hAs:As=[]:=by
  have:=Gz q
  rw[Aa] at this
  exact Hf.mp this
 subst hAs
 have hws:ws=[]:=by
  cases ws with
  | nil=>rfl
  | cons _ _=>cases eu
 subst hws
 refine ⟨dr,c,kk,fl,rfl,hdr,h0,by omega,λr c' H' hd' s=>?_⟩
 exact k1 (.int r) (.int r) [] (n+1) H' (by omega) (hR r) (.int r) Ep (λ_ z=>(nomatch z)) ⟨c',kk+1,fl,hd',by omega,by omega⟩ s
def yL(K:PySem.W.Frag):List V->Hp->VK->Prop:=λxs H Q=>∃(a:Addr) (ns:List Int),xs=[.ref a]/\(Pu K H a (ns.map V.int)\/Se K H a (ns.map V.int))/\Q (.int ns.sum) H
section
variable{X:Cx}
theorem mS(hc:X.calm=true):Ld X (.builtin "sum") (yL X.K):=by
 intro pins s σ H xs us Q I r h
 obtain ⟨p,ns,rfl,hp,q⟩:=h
 obtain ⟨u,rfl,ru⟩:=vals1 r
 cases ru
 rcases hp with hp | hp
 ·obtain ⟨its,rv,pl,_⟩:=I.list hp
  obtain ⟨ps,rfl,rfl⟩:=Mo rv
  have hl:s.heap.IsList p (Ls ps.toArray):=by simpa [Ls] using pl.isList
  refine sum_intListG (I.ok.hd hc) hl λh' tk t' k=>?_
  rw[preSum_eq,Fd (by simp)]
  exact ⟨.int _,H,I.kept k,⟨t',rfl⟩,q⟩
 ·obtain ⟨its,rv,pl,_⟩:=I.tuple hp
  obtain ⟨ps,rfl,rfl⟩:=Mo rv
  obtain ⟨o,ho,hoc,m,hd⟩:=pl
  have hl:s.heap.IsTuple p (Ls ps.toArray):=⟨o,ho,hoc,m,by rw[hd]; simp [Ls]⟩
  refine PySem.W.ktm_sumG (I.ok.hd hc) hl λh' tk t' k=>?_
  rw[preSum_eq,Fd (by simp)]
  exact ⟨.int _,H,I.kept k,⟨t',rfl⟩,q⟩
end
def oZ:DC:=λxs P=>match xs with
 | [.dat _ (.list ds)]=>∃ns:List Int,ds=ns.map Ad/\P (.dat .ow (.int ns.sum))
 | [.dat _ (.tuple ds)]=>∃ns:List Int,ds=ns.map Ad/\P (.dat .ow (.int ns.sum))
 | _=>False
section
variable{K:PySem.W.Frag}
theorem A7:Nf K (yL K) oZ:=by
 intro H0 X n S T As us H Q P eu hA hd k
 unfold oZ at hd
 split at hd
 ·rename_i ex
  obtain ⟨v,F,rfl,hA⟩:=Gs eu hA ex
  obtain ⟨ns,rfl,h1⟩:=hd
  obtain ⟨a,xs,G,rfl,ha,ra,rfl,hz⟩:=(hA.told mem_mid).list_inv
  obtain ⟨rfl,_⟩:=ra.ints_inv
  exact ⟨a,ns,rfl,.inl (Pu.of ha),k _ _ [] H (hA.drop.pushI (.int _)) h1⟩
 ·rename_i ex
  obtain ⟨v,F,rfl,hA⟩:=Gs eu hA ex
  obtain ⟨ns,rfl,h1⟩:=hd
  obtain ⟨a,xs,rfl,ha,ra,hz⟩:=(hA.told mem_mid).tup_inv
  obtain ⟨rfl,_⟩:=ra.ints_inv
  exact ⟨a,ns,rfl,.inr (Se.of ha),k _ _ [] H (hA.drop.pushI (.int _)) h1⟩
 ·exact hd.elim
end
end DL
namespace Nd
open PySem PySem.Spec PyProof.Rows L2
end Nd
namespace DL
open PySem PySem.Spec PyProof.Rows L2 Nd
def X5(n:Nat)(gs:rY):DG:=λx δ P=>match x with
 | .dat m (.list ds)=>ds.length=n/\gs (ds.map λd=>.dat (Mx m) d) δ P
 | _=>False
def Zp:D2:=λx y P=>match x,y with
 | .dat m (.list ds),.dat m' (.list es)=>m≠.pk/\m'≠.pk/\ds.length+es.length<=1000000/\P (.dat .tp (.list (ds++es)))
 | _,_=>False
theorem yO{m:Md}{d:Ac}(h:m≠.pk):Oz (.dat m d)=false:=by cases m <;> first | rfl | exact absurd rfl h
theorem wV{K:PySem.W.Frag}:gS K i7 Zp:=by
 intro H0 X n S T x y v w F G H Q P hA hd k
 unfold Zp at hd
 split at hd
 ·rename_i m ds m' es
  obtain ⟨i1,i2,hz,p⟩:=hd
  obtain ⟨b,ys,G1,rfl,hb,rb,rfl,_⟩:=(hA.told mem_mid).list_inv
  obtain ⟨a,xs,G2,rfl,ha,ra,rfl,_⟩:=(hA.told Es).list_inv
  have l1:=ra.len
  have l2:=rb.len
  refine ⟨a,b,xs,ys,rfl,rfl,ha,hb,nY (by omega),λq hq=>?_⟩
  have s1:=Hi hq (.lst (xs++ys))
  have sy:=Bt.mp hA.mid.sep
  have sx:=Bt.mp hA.drop.mid.sep
  have nq:∀f∈S++_::_::T,q∉f.F:=hA.free hq
  have n1:q∉G1:=λz=>nq _ mem_mid (Ak _ z)
  have n2:q∉G2:=λz=>nq _ Es (Ak _ z)
  have fr:=hA.drop2.free hq
  refine k _ _ _ _ (((hA.drop2.grow (n':=n) s1 (Ap _)).push (e:=⟨some (.ref q),.dat .tp (.list (ds++es)),q::(G2++G1)⟩) ⟨_,rfl,.lst Ej (by rw[Cc]; exact nY (by omega)) ((ra.app rb).kp (Kp.of s1)),λz=>(nomatch z),λ_ a l e=>?_⟩ (λf hf=>⟨λ_ c hc z=>?_,λ_ c hc z=>?_⟩) λc hc=>?_).tomid) p
  ·cases e
   exact λz=>(Bi.mp z).elim n2 n1
  ·rw[Am.mp hc] at z
   exact fr f hf z
  ·rcases Az.mp z with z | z
   ·rw[z] at hc
    exact fr f hf (Fx _ _ hc)
   ·rcases Bi.mp z with z | z
    ·exact (sx.1 f hf).2 (.inl (yO i1)) c hc (Ak _ z)
    ·exact (sy.1 f ((Dg S).append (Dl _ T) |>.subset hf)).2 (.inl (yO i2)) c hc (Ak _ z)
  ·rw[Am.mp hc]
   exact .inl (hA.new0 hq)
 ·exact hd.elim
theorem kK{X:Cx}{a b:Expr}{da db:DE}{pos:Pos}(ha:En X a da)(hb:En X b db):En X (.BinOp a .Add b pos) (Tw Zp da db):=Qs tV wV ha hb
end DL
namespace Nd
open PySem PySem.Spec PyProof.Rows
end Nd
namespace L2
open PySem PySem.Spec PyProof.Rows
structure M1(X:Cx)(o:Expr)(m:Str)(apos:Pos)(e:Expr)(cpos:Pos):Prop where
 base:Rz o m X.env (eval o X.env)=eval o X.env
 few:((Ih cpos (Bs [e] X.env)).all (λx=>!x.1) && (backToKw cpos (Wl [] X.env)).all (λx=>x.1.isSome)
  && decide (([e]:List Expr).length+([]:List Ri).length+(if ([]:List Ri).isEmpty then 0 else 1)<30))=true
 line:(apos.endLine == cpos.line)=true
 trees:Ih cpos (Bs [e] X.env)=[(false,eval e X.env)]
structure M2(X:Cx)(o:Expr)(m:Str)(apos:Pos)(e f:Expr)(cpos:Pos):Prop where
 base:Rz o m X.env (eval o X.env)=eval o X.env
 few:((Ih cpos (Bs [e,f] X.env)).all (λx=>!x.1) && (backToKw cpos (Wl [] X.env)).all (λx=>x.1.isSome)
  && decide (([e,f]:List Expr).length+([]:List Ri).length+(if ([]:List Ri).isEmpty then 0 else 1)<30))=true
 line:(apos.endLine == cpos.line)=true
 trees:Ih cpos (Bs [e,f] X.env)=[(false,eval e X.env),(false,eval f X.env)]
end L2
namespace Nd
open PySem PySem.Spec PyProof.Rows L2
end Nd
namespace DL
open PySem PySem.Spec PyProof.Rows L2 Nd
theorem lW{α β:Type}{f:α->β}(hf:∀a b,f a=f b->a=b):∀{l m:List α},l.map f=m.map f->l=m
 | [],[],_=>rfl
 | [],_::_,h=>by cases h
 | _::_,[],h=>by cases h
 | a::l,b::m,h=>by
  obtain ⟨h1,h2⟩:=Fv h
  rw[hf a b h1,lW hf h2]
theorem kB(w:List Int):(qY w).map kV=w.map V.int:=by
 unfold qY
 rw[Bz]
 rfl
section
variable{K:PySem.W.Frag}
theorem wK{H:Hp}{v:V}{w:List Int}{F:List Addr}(r:RdF K H v (Cf w) F):∃b,v=.ref b/\H b=some (.tup ((qY w).map kV)):=by
 obtain ⟨b,xs,rfl,hb,rb,_⟩:=r.tup_inv
 obtain ⟨rfl,_⟩:=rb.ints_inv
 exact ⟨b,rfl,by rw[kB]; exact hb⟩
end
def yV:V->Int
 | .int i=>i
 | _=>0
def uA(H:Hp)(r:Addr):List Int:=match H r with
 | some (.tup xs)=>xs.map yV
 | _=>[]
theorem u3{H:Hp}{r:Addr}{w:List Int}(h:H r=some (.tup (w.map V.int))):uA H r=w:=by
 unfold uA
 rw[h]
 show (w.map V.int).map yV=w
 rw[Bz]
 exact List.map_id' w
section
variable{K:PySem.W.Frag}{H:Hp}
theorem Tt:∀{ws:List (List Int)} {xs:List V} {ds:List Ac} {G:List Addr},RdFs K H xs ds G->ds=ws.map Cf->∃rs:List Addr,xs=rs.map V.ref/\ws=rs.map (uA H)/\G=[]/\(∀r∈rs,H r=some (.tup ((uA H r).map V.int)))/\∀r∈rs,RdF K H (.ref r) (Cf (uA H r)) []
 | [],_,_,_,h,e=>by
  subst e
  cases h
  exact ⟨[],rfl,rfl,rfl,(λ_ z=>nomatch z),(λ_ z=>nomatch z)⟩
 | w::ws,_,_,_,h,e=>by
  cases h with
  | nil=>cases e
  | cons a t =>
   obtain ⟨e1,e2⟩:=Fv e
   obtain ⟨rs,rfl,rfl,rfl,h1,h2⟩:=Tt t e2
   subst e1
   obtain ⟨r,rfl,hr⟩:=wK a
   rw[kB] at hr
   have ew:=u3 hr
   obtain rfl:=a.imm (show imm (Cf w)=true from Nh w)
   refine ⟨r::rs,rfl,by rw[Ba,ew],rfl,λx hx=>?_,λx hx=>?_⟩
   ·rcases Az.mp hx with rfl | hx
    ·rw[ew]; exact hr
    ·exact h1 x hx
   ·rcases Az.mp hx with rfl | hx
    ·rw[ew]; exact a
    ·exact h2 x hx
theorem Zo:∀{rs:List Addr},(∀r∈rs,RdF K H (.ref r) (Cf (uA H r)) [])->RdFs K H (rs.map V.ref) ((rs.map (uA H)).map Cf) []
 | [],_=>.nil
 | r::rs,h=>RdFs.cons (F:=[]) (G:=[]) (h r (Ab ..)) (Zo λx hx=>h x (Ak _ hx))
theorem Yn:∀L:List (List Int),Dv (L.map Cf)=true
 | []=>rfl
 | w::L=>by
  show (imm (Cf w) && Dv (L.map Cf))=true
  rw[Yn L,show imm (Cf w)=true from Nh w]; rfl
def bZ:DC:=λxs P=>match xs with
 | [.dat _ (.list ds)]=>∃ws:List (List Int),ds=ws.map Cf/\∀L:List (List Int),L.Perm ws->L.Pairwise (λx y=>HT.lexLt y x=false)->P (.dat .ow (.list (L.map Cf)))
 | _=>False
theorem fM:Nf K (Ts.rSortI K) bZ:=by
 intro H0 X n S T As us H Q P eu hA hd k
 unfold bZ at hd
 split at hd
 ·rename_i ex
  obtain ⟨v,F,rfl,hA⟩:=Gs eu hA ex
  obtain ⟨ws,rfl,h1⟩:=hd
  obtain ⟨a,xs,G,rfl,ha,ra,rfl,hz⟩:=(hA.told mem_mid).list_inv
  obtain ⟨rs,rfl,rfl,rfl,c1,c2⟩:=Tt ra rfl
  refine ⟨a,rs,uA H,rfl,Pu.of ha,λr hr=>Se.of (c1 r hr),λq rs' nq pe pw=>?_⟩
  refine k _ _ _ _ (hA.drop.newI (Zo λr hr=>c2 r (pe.mem_iff.mp hr)) (Yn _) (by rw[Aa,Aa,pe.length_eq]; simpa using hz) nq .ow) (h1 _ (pe.map _) (List.pairwise_map.mpr pw))
 ·exact hd.elim
end
end DL
namespace Nd
open PySem PySem.Spec PyProof.Rows L2
end Nd
namespace DL
open PySem PySem.Spec PyProof.Rows L2 Nd
end DL
namespace Nd
open PySem PySem.Spec PySem.Calls PyProof.Rows PyProof.V L2
def Q1(r:Addr)(j:Int)(h:Heap):Prop:=∃t u v,IsRange h r 0 j 1 t u v
abbrev sD(r:Addr)(j:Int):HO:=.ext (Q1 r j)
section
variable{X:Cx}
def N3:List V->Hp->VK->Prop:=λxs H Q=>∃j:Int,xs=[.int j]/\∀r,H r=none->Q (.ref r) (upd H r (sD r j))
theorem fZ:Ld X (.type "range") N3:=by
 intro pins s σ H xs us Q I r h
 obtain ⟨j,rfl,q⟩:=h
 obtain ⟨u,rfl,t,rfl⟩:=vals1 r
 refine call_range_1 ⟨.ref s.heap.objs.size,_,I.laid (a:=s.heap.objs.size) (o:=sD s.heap.objs.size j) (t':=s.toks+1+1) (λb o e=>Aj _ e) (Ap _) ?_,rfl,q _ (I.hok.fresh (Ap _))⟩
 refine ⟨⟨_,_,_,Bn _ rfl⟩,⟨_,Bn _ rfl⟩,λh1 h2 ⟨t,u,v,e⟩ k=>⟨t,u,v,k _ e⟩⟩
end
end Nd
namespace DL
open PySem PySem.Spec PyProof.Rows L2 Nd
def R3(K:PySem.W.Frag)(pf:PF):Sp:=λus H Q _=>∃(As:List Ent) (n:Nat) (ds:List Ac) (R:Ac->Prop) (C:List Addr),As.map Ent.v=us.map some/\(∀e∈As,Iu K H n e)/\datas (As.map Ent.x)=some ds/\pf ds R/\(∀a∈C,H a≠none/\∀e∈As,a∉e.F) /\
 ∀v d F H',R d->RdF K H' v d F->(∀a∈F,a∉C)->Qm H H'->Q v H'
def retA(R:Ac->Prop):DEnds where
 nx:=λ_=>R .none
 rt:=λx _=>∃m d,x=.dat m d/\m≠.pk/\R d
section
variable{K:PySem.W.Frag}{H0 H H':Hp}{X:Addr->Prop}{n:Nat}{E S T:List Ent}
theorem At.pushS(h:At K H0 X n E H){v:V}{d:Ac}{F:List Addr}(r:RdF K H v d F)(fr:∀f∈E,∀a∈cells f,a∉F):At K H0 X n (⟨some v,.dat .sh d,F⟩::E) H :=
 h.push ⟨v,rfl,r,λz=>(nomatch z),λz=>(nomatch z)⟩ (λf hf=>⟨λ_ a ha=>(nomatch ha),λ_ a ha=>fr f hf a ha⟩) λa ha=>(nomatch ha)
end
section
variable{P:Bp}{w:World}{K:PySem.W.Frag}{mg:Str->Option Value}{base:Heap}
theorem W8{As:List Ent}{k:Nat}:∀e∈As.map Yv++Gh k,∀a∈e.F,∃f∈As,a∈f.F:=λe he a ha=>by
 rcases Bi.mp he with he | he
 ·obtain ⟨f,hf,rfl⟩:=Bl.mp he
  refine ⟨f,hf,?_⟩
  obtain ⟨v,x,F⟩:=f
  cases x <;> exact ha
 ·rw[(Gd.mp he).2] at ha
  exact nomatch ha
theorem sT{x qual:Str}{st:Stmt}{f:Addr}{fd:Bx}{N ps:List Str}{k:Nat}{pf:PF}{db:DB}(F:Fun K x qual st f fd)(S:FnScope N ps (Br st))(hb:∀(cdv:Value) (A:Cr) (outer:List Env) (s:Al) (H:Hp) (E:XK),Room k (A.deeper (Mu qual (Br st) s.heap.objs.size f cdv))->Wu (Vl Gc P w K mg base N qual (Br st) f cdv A outer s H E).nox (Hd st) db)(h:∀ds R,pf ds R->ds.length=ps.length/\db (retA R) ⟨args0 ds (N.length - ps.length),0⟩):FnOk P w K mg base Gc (k+1) f fd ps (R3 K pf):=by
 refine F.ok S (λvs H Q E z=>?_) λcdv A outer s H us Q E hr z=>?_
 ·obtain ⟨As,n,ds,R,C,eu,ok,q,hp,_⟩:=z
  have l1:=(h ds R hp).1
  have l2:=Gz q
  rw[Aa] at l2
  have l3:=congrArg Ga eu
  rw[Aa,Aa] at l3
  omega
 ·obtain ⟨As,n,ds,R,C,eu,ok,q,hp,hG,k1⟩:=z
  obtain ⟨l1,hd⟩:=h ds R hp
  have l2:=Gz q
  rw[Aa] at l2
  have l3:=congrArg Ga eu
  rw[Aa,Aa] at l3
  let H0:Hp:=λa=>open Classical in if a∈C then none else H a
  have h0n:∀{a},a∈C->H0 a=none:=λz=>if_pos z
  have h0s:∀{a},a∉C->H0 a=H a:=λz=>if_neg z
  -- what holds at the end
  have ends:∀{E':List Ent} {n':Nat} {H':Hp},At K H0 (λ_=>False) n' (E'++[⟨none,.grd H,C⟩]) H'->Qm H H':=λ{E' n' H'} hA b o e=>by
   by_cases hb:b∈C
   ·obtain ⟨o',g1,g2⟩:=hA.ok _ (Av _ Ab) b hb
    rw[e] at g1
    cases g1
    exact g2
   ·exact hA.same b o (λz=>z) (by rw[h0s hb]; exact e)
  refine ⟨_,hb cdv A outer s H E hr,H0,λ_=>False,As.map Yv++Gh (N.length - ps.length),[⟨none,.grd H,C⟩],⟨args0 ds (N.length - ps.length),0⟩,retA R,?_,?_,λe z=>?_,?_,hd,λδ' S' H' e1 hA p=>?_,λx δ' v F' S' H' e1 hA p=>?_,λ_ _ _ _ _ p=>p.elim,λ_ _ _ _ _ p=>p.elim⟩
  ·unfold vs L2.start Gh
   rw[Bw,vP,eu,Kz,show us.length=ps.length by omega]
  ·unfold Sl args0 Gh
   rw[Bw,Qk q,Kz]
  ·rw[Am.mp z]; rfl
  ·have hs:=Xk q (N.length - ps.length)
   have hF:=W8 (As:=As) (k:=N.length - ps.length)
   have gF:∀e∈As.map Yv++Gh (N.length - ps.length),∀a∈C,a∉e.F:=λe he a ha z=>by
    obtain ⟨f,hf,zf⟩:=hF e he a z
    exact (hG _ ha).2 f hf zf
   refine ⟨λe he=>?_,Cn.mpr ⟨Oq λa ha b hb'=>⟨λhq c hc=>?_,λhq c hc=>?_⟩,He _ _,λa ha b hb'=>⟨λhq c hc=>?_,λhq c hc=>?_⟩⟩,λe he a ha=>?_,λb o _ e=>?_,λb o e=>?_,λb hb=>hb.elim⟩
   ·rcases Bi.mp he with he | he
    ·have:=lP q ok (N.length - ps.length) e he
     obtain ⟨v,x,F⟩:=e
     cases x with
     | drw=>exact absurd (hs _ he).2 (by show ¬ (true=false); decide)
     | _=>exact this
    ·rw[Am.mp he]
     intro a ha
     have:=(hG _ ha).1
     cases q:H a with
     | none=>exact absurd q this
     | some o=>exact ⟨o,by first | rfl | exact q,by first | rfl | exact q⟩
   ·rw[(hs a ha).1] at hc; cases hc
   ·rw[(hs b hb').1] at hc; cases hc
   ·rw[(hs a ha).1] at hc; cases hc
   ·rw[Am.mp hb'] at hc
    exact gF a ha c hc
   ·rcases Bi.mp he with he | he
    ·rw[(hs e he).1] at ha; cases ha
    ·rw[Am.mp he] at ha
     exact .inl (h0n ha)
   ·by_cases hb:b∈C
    ·rw[h0n hb] at e; cases e
    ·rw[h0s hb] at e; exact e
   ·by_cases hb:b∈C
    ·rw[h0n hb] at e; cases e
    ·rw[h0s hb] at e; exact ⟨o,e⟩
  ·exact k1 .non .none [] H' p .non (λ_ z=>(nomatch z)) (ends hA)
  ·obtain ⟨m,d,rfl,hm,r⟩:=p
   obtain ⟨u,e2,rd,_⟩:=hA.ok _ mem_mid
   cases e2
   have hA2:At K H0 (λ_=>False) δ'.n ((S'++[⟨some v,.dat m d,F'⟩])++[⟨none,.grd H,C⟩]) H':=by rw[Ca]; exact hA
   refine k1 v d F' H' r rd (λa ha=>?_) (ends hA2)
   have sp:=(Cn.mp hA2.sep).2.2 _ (Av _ Ab) _ Ab
   exact λz=>sp.2 (.inr rfl) a z ha
end
def sS(pf:PF)(da:DA):DE:=λδ P=>da δ λxs δ1=>noPk xs=true/\match datas xs with
 | some ds=>pf ds λd=>P (.dat .sh d) δ1
 | none=>False
theorem fK:∀{As:List Ent},noPk (As.map Ent.x)=true->∀e∈As,Oz e.x=false
 | [],_,e,he=>nomatch he
 | ⟨v,x,F⟩::As,h,e,he=>by
  rw[Ba] at h
  have hh:Oz x=false/\noPk (As.map Ent.x)=true:=by
   cases x with
   | dat m d=>cases m <;> first | exact ⟨rfl,h⟩ | (simp [noPk] at h)
   | _=>exact ⟨rfl,by simpa [noPk] using h⟩
  rcases Az.mp he with rfl | he
  ·exact hh.1
  ·exact fK hh.2 e he
section
variable{X:Cx}{CX:nM}{k:Nat}{f:Addr}{fd:Bx}{ps:List Str}{pf:PF}{E:XK}{x:Str}{p pos:Pos}{e:Expr}{es:List Expr}{da:DA}
theorem rH(F:FnOk X.prog X.w X.K X.mg X.base CX k f fd ps (R3 X.K pf))(hr:Room k X.A)(hg:Gl X x)(hm:X.mg x=some (.ref f))(hk:PySem.W.keepIn X.K (.ref f)=true)(hb:Binds X.K fd ps [])(hx:Sz CX X E)(ha:kU X (e::es) da)(hdb:(x == ("__debug__" : Str))=false:=by decide)(he:Bs (e::es) X.env=(false,eval e X.env)::Bs es X.env:=by rfl)(hpl:(Ih pos (Bs es X.env)).any (·.1)=false:=by rfl):En X (.Call (.Name x p) (e::es) [] pos) (sS pf da):=by
 refine PE.imp (Xh F hr hg hm hk hb .nil hx ha hdb he hpl) λσ H Q h=>?_
 obtain ⟨H0,Y,S,T,δ,P,rfl,hS,hA,hd,kk⟩:=h
 refine ⟨H0,Y,S,T,δ,_,rfl,hS,hA,hd,λxs δ' As us S' H' e1 e2 ex eu hA' p=>?_⟩
 subst ex
 obtain ⟨np,p⟩:=p
 cases q:datas (As.map Ent.x) with
 | none=>rw[q] at p; exact p.elim
 | some ds =>
  rw[q] at p
  rw[Dk]
  have hAs:=fK np
  have hE:=hA'.dropL
  refine ⟨As,δ'.n,ds,_,(S'++T).flatMap cells,eu,λe he=>hA'.ok e (Av _ (Au _ he)),q,p,λa ha=>?_,λv d F H'' r rd fr s=>?_⟩
  ·obtain ⟨g,hg1,hg2⟩:=Ll.mp ha
   refine ⟨λz=>?_,λe he=>?_⟩
   ·obtain ⟨o,q⟩:=(hE.ok g hg1).dom a (Fx _ _ hg2)
    rw[z] at q; cases q
   ·obtain ⟨_,hp2,hp⟩ := Cn.mp hA'.sep
    rcases Bi.mp hg1 with hg1 | hg1
    ·exact (hp g hg1 e (Au _ he)).1 (.inl (hAs e he)) a hg2
    ·exact ((Cn.mp hp2).2.2 e he g hg1).2 (.inl (hAs e he)) a hg2
  ·refine kk _ δ' v F S' H'' e1 e2 (((hE.grow s (Ap _)).pushS rd λf hf a ha z=>fr a z (List.mem_flatMap.mpr ⟨f,hf,ha⟩)).tomid) r
end
abbrev PX:=List Ac->(Ac->Prop)->(Addr->Prop)->Prop
end DL
namespace Nd
open PySem PySem.Spec PyProof.Rows L2
end Nd
namespace DL
open PySem PySem.Spec PyProof.Rows L2 Nd
end DL
namespace Nd
open PySem PySem.Spec PyProof.Rows L2
end Nd
namespace Nd
open PySem PySem.Spec
end Nd
namespace Nd
open PySem PySem.Spec PyProof.Rows L2
end Nd
namespace DL
open PySem PySem.Spec PyProof.Rows L2 Nd
end DL
namespace Nd
open PySem PySem.Spec PyProof.Rows L2
end Nd
namespace DL
open PySem PySem.Spec PyProof.Rows L2 Nd
end DL
namespace Nd
open PySem PySem.Spec PyProof.Rows L2
end Nd
namespace DL
open PySem PySem.Spec PyProof.Rows L2 Nd
end DL
namespace Ts
open PySem PyProof.Rows L2
def Fj(h h':Heap):Prop:=∀b o,h.get? b=some o->h'.get? b=some o
theorem Fj.trans{a b c:Heap}(x:Fj a b)(y:Fj b c):Fj a c:=λi o e=>y i o (x i o e)
def E5(x y:Keyed):Bool:=decide (numOf x.1<numOf y.1)
section
variable{prog:Bp}{w:World}{A:Cr}{E:Value->Al->Prop}{s:Al}
theorem pG:Cmp prog w A s oneType' (λx=>∃n t,x.1=.int n t) E5 where
 run:=λx y Q E ⟨n,t,ex⟩ ⟨n',t',ey⟩ h=>by
  obtain ⟨x1,x2⟩:=x
  obtain ⟨y1,y2⟩:=y
  simp only at ex ey
  subst ex ey
  rw[keyLt'_oneType]
  exact jY h
 irr:=λx=>by simp [E5]
 tr:=λx y z h1 h2=>by simp only[E5,decide_eq_true_eq] at *; omega
 neg:=λx y z h=>by simp only[E5,decide_eq_true_eq] at *; omega
variable{a kS:Addr}{vs:List Value}{kz:List Int}{P:PySem.Fin->Al->Prop}
structure Fresh2(h0:Heap)(h:Heap)(a kS:Addr)(Yj:Array Value)(e1:Nat):Prop where
 keep:Fj h0 h
 na:h0.get? a=none
 nk:h0.get? kS=none
 ne:kS≠a
 ga:h.get? a=some (Dm "list" #[] e1)
 gk:∃e,h.get? kS=some (Dm "list" Yj e)
theorem Mm{h0 h:Heap}{b:Addr}{f:Obj->Obj}(k:Fj h0 h)(n:h0.get? b=none):Fj h0 (h.update b f):=λi o e =>
 ((Eh h b f).2 i (λz=>by rw[z,n] at e; cases e)).trans (k i o e)
theorem yA{h0:Heap}{Yj:Array Value}{e1:Nat}{st:Bm}(F:Fresh2 h0 s.heap a kS Yj e1)(hk:Dw Yj.toList kz)(hlen:kz.length=vs.length)(hz:vs.length<Be)(hp:(arrOf st).Perm (Yj.zip vs.toArray))(hs:SortedTo (arrOf st) (arrOf st).size)(hf:Jz st=none)(h:∀h' tk out c,Fj h0 h'->h'.get? a=some (Dm "list" out c)->KskOut false kz vs out.toList->P (.done (.ret .none)) { s with heap:=h',toks:=tk }):wpAny (model prog w) A (ksk_tail a false e1 (.ref kS) st) P E s:=by
 obtain ⟨ek,gk⟩:=F.gk
 have l1:=hk.length
 rw[Aw] at l1
 have vz:vs.toArray.size=vs.length:=Aq
 have l2:(arrOf st).size=vs.length:=by rw[hp.size_eq,Array.size_zip,vz]; omega
 have ga:(s.heap.update kS (Cy λ_=>(#[]:Array Value))).get? a=some (Dm "list" #[] e1):=((Eh s.heap kS _).2 a F.ne.symm).trans F.ga
 have out:=ksk_out (b:=false) hk hp hs
 rw[if_neg Ce] at out
 obtain ⟨c2,g2⟩ : ∃c2,((s.heap.update kS (Cy λ_=>(#[]:Array Value))).update a (Cy λ_=>(arrOf st).map (·.2))).get? a=some (Dm "list" ((arrOf st).map (·.2)) c2):=⟨_,Iw ga λ_=>(arrOf st).map (·.2)⟩
 unfold ksk_tail
 dsimp only
 refine Ag (Kk gk rfl ?_ (by omega) (Ei _))
 refine Ag (Jy (Ag (Wk ga rfl (Ag (Kk ga rfl ?_ (Ei _) ?_)))))
 ·rw[hf]
  simp only[bne_self_eq_false,Ck,if_false]
  exact Ay (h _ _ _ c2 (Mm (Mm F.keep F.nk) F.na) g2 out)
 ·simp only[Ck,if_false,Array.size_map]
  omega
theorem W4{h0:Heap}{Yj:Array Value}{e1:Nat}(F:Fresh2 h0 s.heap a kS Yj e1)(hk:Dw Yj.toList kz)(hlen:kz.length=vs.length)(hz:vs.length<Be)(h:∀h' tk out c,Fj h0 h'->h'.get? a=some (Dm "list" out c)->KskOut false kz vs out.toList->P (.done (.ret .none)) { s with heap:=h',toks:=tk }):wpAny (model prog w) A (ksk_end a false vs.toArray e1 (.ref kS) Yj) P E s:=by
 have l1:=hk.length
 rw[Aw] at l1
 have vz:vs.toArray.size=vs.length:=Aq
 have l2:(Yj.zip vs.toArray).size=vs.length:=by rw[Array.size_zip,vz]; omega
 unfold ksk_end
 dsimp only
 rw[if_neg Ce]
 by_cases h2:vs.toArray.size<2
 ·rw[if_pos h2,if_pos h2]
  refine Ag (Ay ?_)
  rw[StateT.run_pure]
  refine Ag (Ay ?_)
  refine yA F hk hlen hz (Array.Perm.refl _) (λi j hij hj=>?_) rfl h
  have hj':j<(Yj.zip vs.toArray).size:=hj
  rw[l2] at hj'
  rw[Aq] at h2
  obtain rfl:i=j:=by omega
  exact Gx _
 ·rw[if_neg h2,if_neg h2]
  rw[Aq] at h2
  rw[ksk_kind hk (by omega)]
  refine Ag (Ay ?_)
  refine Ag (Ez (bJ pG (a₀:=Yj.zip vs.toArray) (st:=Ut oneType' (Yj.zip vs.toArray) #[] 7 none) (E:=E)
   (Q:=λ_ st'=>Good0 oneType' (Yj.zip vs.toArray) st'/\Qg E5 (arrOf st') 0 (Yj.zip vs.toArray).size) ⟨rfl,rfl,Array.Perm.refl _⟩ (ksk_intKeys hk) rfl (by omega) λst' g as=>⟨g,as⟩) ?_ λ_ _ z=>z)
  (rintro ⟨⟨⟩,st'⟩ s' q_; obtain ⟨rfl,g,as⟩ := q_)
  refine yA F hk hlen hz g.perm (λi j hij hj=>?_) g.fail h
  rw[g.size] at hj
  have q:=as i j (Ei _) hij hj
  unfold le E5 at q
  have xi:∀k,k<(arrOf st').size->K (arrOf st') k=numOf (X (arrOf st') k).1:=λk hk=>by
   rw[K_eq hk]
   have e1:=Vn (xs:=arrOf st') (i:=k) hk
   rw[Array.getElem?_eq_getElem hk] at e1
   rw[Bo e1]
  have gs:(arrOf st').size=_:=g.size
  have hj0:j<(arrOf st').size:=by rw[gs]; exact hj
  refine Eq.symm (xi i (by omega))▸Eq.symm (xi j hj0)▸?_
  simp only[decide_eq_false_iff_not] at q
  omega
theorem Q2{f:Value}{h0:Heap}{e1:Nat}(F:Fresh2 h0 s.heap a kS #[] e1)(hlen:kz.length=vs.length)(hz:vs.length<Be)(turn:∀(i:Nat) (v:Value) (k:Int),vs[i]? = some v->kz[i]? = some k->∀(h:Heap) (tk:Nat),Fj h0 h->∀R:Value->Al->Prop,(∀t h2 tk2,Fj h h2->R (.int k t) { s with heap:=h2,toks:=tk2 })->wpAny (model prog w) A (call f [v]) R (λ_ _=>False) { s with heap:=h,toks:=tk })(h:∀h' tk out c,Fj h0 h'->h'.get? a=some (Dm "list" out c)->KskOut false kz vs out.toList->P (.done (.ret .none)) { s with heap:=h',toks:=tk }):wpAny (model prog w) A (ksk_rest a f false vs.toArray e1 (.ref kS)) P E s:=by
 unfold ksk_rest
 refine Ag (wpAny_rule ?_)
 rw[<- Array.forIn_toList]
 simp only[List.toList_toArray]
 refine Ag (ksk_fold (λi s'=>∃h' tk kA,s'={ s with heap:=h',toks:=tk }/\Fresh2 h0 h' a kS kA e1/\Dw kA.toList (kz.take i)) vs 0 s ⟨s.heap,s.toks,#[],rfl,F,by simpa using IntsAre.nil⟩ ?_ ?_)
 ·(intro j x s' hx q_; obtain ⟨h',tk,kA,rfl,F',hk⟩ := q_)
  simp only[Nj] at hk ⊢
  have hj:j<vs.length:=(Ah.mp hx).1
  obtain ⟨k,hkj⟩ : ∃k,kz[j]? = some k:=⟨_,Ai (by omega)⟩
  have l1:=hk.length
  rw[Aw,Dj] at l1
  refine Ag (wpAny_attempt (Ez (turn j x k hx hkj h' tk F'.keep (λv s''=>∃t h2 tk2,v=.int k t/\s''={ s with heap:=h2,toks:=tk2 }/\Fj h' h2) λt h2 tk2 q=>⟨t,h2,tk2,rfl,rfl,q⟩) (λv s'' q=>?_) λ_ _ z=>z.elim))
  obtain ⟨t,h2,tk2,rfl,rfl,q⟩:=q
  dsimp only
  obtain ⟨ek,gk⟩:=F'.gk
  have gk2:=q _ _ gk
  refine Ag (Kk gk2 rfl ?_ (by omega) (by rw[Array.size_push]; omega))
  refine Ay ⟨rfl,_,_,kA.push (.int k t),rfl,⟨Mm (F'.keep.trans q) F'.nk,F'.na,F'.nk,F'.ne,((Eh h2 kS _).2 a F'.ne.symm).trans (q _ _ F'.ga),_,Iw gk2 (·.push (.int k t))⟩,?_⟩
  have e1:kz.take (j+1)=kz.take j++[k]:=by rw[List.take_add_one,hkj]; rfl
  rw[Km,e1]
  exact ksk_snoc hk
 ·(intro s' q_; obtain ⟨h',tk,kA,rfl,F',hk⟩ := q_)
  rw[Nj,Fd (by omega)] at hk
  obtain ⟨ek,gk⟩:=F'.gk
  refine Ag (bU gk rfl ?_)
  exact W4 (s:={ s with heap:=h',toks:=tk }) F' hk hlen hz λh3 tk3 out c a1 a2 a3=>h h3 tk3 out c a1 a2 a3
end
end Ts
namespace DL
open PySem PySem.Spec PyProof.Rows L2 Nd Ts
end DL
namespace DL
open PySem PySem.Spec PyProof.Rows L2 Nd
end DL
namespace Nd
open PySem PySem.Spec PyProof.Rows L2
def Q0(bt:Nat->Nat->Bool)(P:Nat->Value->Prop)(j:Nat)(its:Array Value):Prop:=(j=0/\its=#[])\/∃i v,j=i+1/\P (argBest bt i) v/\its=#[v,v]
section
variable{prog:Bp}{w:World}{A:Cr}{R:Result->Al->Prop}{I:Addr}{fp wr:List Addr}{n:Nat}{P:Nat->Value->Prop}{St:Nat->Heap->Prop}
theorem nU(W:Walks prog w A.in1 I fp wr n P St)(bt:Nat->Nat->Bool)(hcmp:CmpOf prog w A.in1 .Gt P bt)(S:Addr)(hSf:S∉fp)(d:Value):∀(k j:Nat) (s:Al) (its:Array Value) (c:Nat),n - j=k->j<=n->St j s.heap->Q0 bt P j its->s.heap.get? S=some { cls:=.type "list",dict:=none,data:=.seq its c,slots:=#[] }->(∀v h' tk,(n=0->v=d)->(0<n->P (argBest bt (n - 1)) v)->(∀b o,b∉wr->b≠S->s.heap.get? b=some o->h'.get? b=some o)->R (.ok (.ret v)) { s with heap:=h',toks:=tk })->Tq (model prog w) A (.builtin "max.loop" ⟨[.ref I,.none,.ref S],[("default",d)]⟩) R s:=by
 have hSw:S∉wr:=λh=>hSf (W.sub _ h)
 have nm:(So "max" ++ So ".loop" : String) = "max.loop" := by decide
 intro k
 induction k with
 | zero =>
  intro j s its c hk hj hst hP hS hR
  have e:j=n:=by omega
  subst e
  refine Kt PySem.F.entry_max_loop ?_
  rw[Gj PySem.F.plain_max_loop _]
  refine Ag (m:=seqItems? (.ref S)) (Wh hS rfl ?_)
  refine Ag (m:=Wj (pyNext (.ref I)) _) (Jx (W.done s _ _ hst λh' tk kp=>?_))
  rcases hP with ⟨z,rfl⟩ | ⟨i,v,z,pv,rfl⟩
  ·exact Ag (wpAny_rule (Ay (hR d h' tk (λ_=>rfl) (λq=>absurd q (by omega)) λb o h1 _ e=>kp b o h1 e)))
  ·refine Ag (m:=updateSeq S (λ_=>#[])) (Ks (kp S _ hSw hS) rfl (Ag (Jy (Ay ?_))))
   exact hR v _ tk (λq=>by omega) (λ_=>by subst z; exact pv) λb o h1 h2 e=>(Ff _ _ (Ny h2)).trans (kp b o h1 e)
 | succ k ih =>
  intro j s its c hk hj hst hP hS hR
  have hlt:j<n:=by omega
  refine Kt PySem.F.entry_max_loop ?_
  rw[Gj PySem.F.plain_max_loop _]
  refine Ag (m:=seqItems? (.ref S)) (Wh hS rfl ?_)
  refine Ag (m:=Wj (pyNext (.ref I)) _) (Jx (W.item j s _ _ hlt hst λv h' tk pv hst' kp=>?_))
  have hS':=kp S _ hSw hS
  rcases hP with ⟨z,rfl⟩ | ⟨i,vb,z,pb,rfl⟩
  ·subst z
   refine Ag (m:=updateSeq S (λ_=>#[v,v])) (Ks hS' rfl ?_)
   rw[nm]
   refine Ay ⟨Hh PySem.F.plain_max_loop _,ih 1 _ #[v,v] _ (by omega) (by omega) (W.frame _ _ _ hst' λb hb o e=>?_) (.inr ⟨0,v,rfl,pv,rfl⟩) (Sk _ hS' rfl) λv' h2 tk2 q1 q2 q3=>?_⟩
   ·exact (Ff _ _ (λh:S=b=>hSf (by rw[h]; exact hb))).trans e
   ·exact hR v' h2 tk2 q1 q2 λb o h1 h3 e=>q3 b o h1 h3 ((Ff _ _ (Ny h3)).trans (kp b o h1 e))
  ·subst z
   refine Ag (m:=Wj (Lu [v,v] (richCompare .Gt v vb >>= _)) _) (Jx (Em (Ag (hcmp (i+1) (argBest bt i) v vb _ _ _ pv pb ?_))))
   refine Ag (Em (Fl (Ag (Jy (Ay ?_)))))
   cases hb:bt (i+1) (argBest bt i) with
   | true =>
    simp only[if_true]
    refine Ag ?_
    refine Ks hS' rfl (Ag (Jy ?_))
    rw[nm]
    refine Ay ⟨Hh PySem.F.plain_max_loop _,ih (i+2) _ #[v,v] _ (by omega) (by omega) (W.frame _ _ _ hst' λb hb o e=>?_) (.inr ⟨i+1,v,rfl,by simp only[argBest,hb,if_true]; exact pv,rfl⟩) (Sk _ hS' rfl) λv' h2 tk2 q1 q2 q3=>?_⟩
    ·exact (Ff _ _ (λh:S=b=>hSf (by rw[h]; exact hb))).trans e
    ·exact hR v' h2 tk2 q1 q2 λb o h1 h3 e=>q3 b o h1 h3 ((Ff _ _ (Ny h3)).trans (kp b o h1 e))
   | false =>
    simp only[Ck,if_false]
    refine Ag (Jy ?_)
    rw[nm]
    refine Ay ⟨Hh PySem.F.plain_max_loop _,ih (i+2) _ #[vb,vb] c (by omega) (by omega) hst' (.inr ⟨i+1,vb,rfl,by simp only[argBest,hb,Ck,if_false]; exact pb,rfl⟩) hS' λv' h2 tk2 q1 q2 q3=>?_⟩
    exact hR v' h2 tk2 q1 q2 λb o h1 h3 e=>q3 b o h1 h3 (kp b o h1 e)
end
theorem mD(a v:Value):argsOk "max" ⟨[a],[(Hs "default",v)]⟩:=by unfold argsOk; kernel_rfl
section
variable{X:Cx}{pins:List (Addr×Obj)}{σ:List (Option V)}{H:Hp}{s:Al}
def rJ(K:PySem.W.Frag):V->V->Hp->VK->Prop:=λx d H Q=>∃(a:Addr) (ns:List Int),x=.ref a/\Pu K H a (ns.map V.int)/\(ns=[]->Q d H)/\∀M∈ns,(∀x∈ns,x<=M)->Q (.int M) H
theorem nV(hc:X.calm=true){x d:V}{u ud:Value}{Q:VK}(I:Inv X pins σ H s)(ru:RelV x u)(rd:RelV d ud)(h:rJ X.K x d H Q):wpAny (model X.prog X.w) X.A (call (.builtin "max") [u] [(Hs "default",ud)]) (EP X pins σ Q) X.xe s:=by
 obtain ⟨p,ns,rfl,hp,q0,q⟩:=h
 cases ru
 obtain ⟨its,rv,pl,_⟩:=I.list hp
 obtain ⟨ps,rfl,rfl⟩:=Mo rv
 have hl:s.heap.IsList p (Ls ps.toArray):=by simpa [Ls] using pl.isList
 have nm:(So "max" ++ So ".loop" : String) = "max.loop" := by decide
 refine kmb_tree PySem.F.kind_max PySem.F.plain_max PySem.F.entry_max (mD _ _) ?_
 refine Ag (m:=Ha "max" ["key", "default"] 0 ⟨[],[(Hs "default",ud)]⟩) (wpAny_of_eq (show Ha "max" ["key", "default"] 0 ⟨[],[(Hs "default",ud)]⟩=pure [none,some ud] from rfl) ?_)
 refine Ag (Ay (Ag (iter_intList hl λs₂ e st hfp hlI=>?_)))
 subst e
 refine Ag (Hb ?_)
 rw[nm]
 have W:=Walks.list (prog:=X.prog) (w:=X.w) (A:=X.A.in1) (I.ok.hd hc) s.heap.objs.size p hlI (Ls ps.toArray)
 have nf:=λhm=>Er _ (hfp _ hm)
 refine Ay ⟨Hh PySem.F.plain_max_loop _,nU W _ (CmpOf.ints_gt (numAt ps.toArray) (λ_ _=>intItems_at)) _ nf ud _ 0 _ #[] _ rfl (Ei _) (W.frame _ _ _ st λb _ o e=>Aj _ e) (.inl ⟨rfl,rfl⟩) (Bn _ rfl) λv h' tk q1 q2 q3=>?_⟩
 have kept:∀b o,s.heap.get? b=some o->h'.get? b=some o:=λb o e=>by
  have hb:=Bf e
  refine q3 b o (λz=>?_) (λz=>?_) (Aj _ (Aj _ e))
  ·rw[Am.mp z] at hb
   exact Er _ hb
  ·rw[z,Heap.size_push] at hb
   exact Er _ (Nat.lt_of_succ_lt hb)
 have sz:(Ls ps.toArray).size=ps.length:=by simp [Ls]
 cases ps with
 | nil=>exact ⟨d,H,I.kept kept,by rw[q1 (by rw[sz]; rfl)]; exact rd,q0 rfl⟩
 | cons y ps =>
  have hv:=q2 (by rw[sz]; exact Nat.succ_pos _)
  rw[sz] at hv
  obtain ⟨t,rfl⟩:=intItems_at hv
  obtain ⟨h1,h2⟩:=argBest_gt (numAt (y::ps).toArray) ((y::ps).length - 1)
  refine ⟨.int _,H,I.kept kept,⟨t,rfl⟩,q _ ?_ λx hx=>?_⟩
  ·rw[numAt_eq]; exact getD_mem (by rw[Aa]; show _<(y::ps).length; have:=Bk (a:=y) (as:=ps); omega)
  ·obtain ⟨j,hj,rfl⟩:=mem_getD hx
   rw[Aa] at hj
   have:=h2 j (by have hj':j<(y::ps).length:=hj; omega)
   rw[numAt_eq (y::ps).toArray j] at this
   exact this
end
end Nd
namespace DL
open PySem PySem.Spec PyProof.Rows L2 Nd
section
variable{X:Cx}{e:Expr}{t:TA}{p1 kp cp pos:Pos}{k:Int}{j:Nat}
theorem vH(hc:X.calm=true)(hg:Gl X "max")(hm:X.mg "max" = none)(ha:PA X [e] t)(hs:Bs [e] X.env=[(false,eval e X.env)]:=by rfl):PE X (.Call (.Name "max" p1) [e] [⟨some "default",.Constant (.int k) j cp,kp⟩] pos) (R8 (λxs H Q=>∃x,xs=[x]/\rJ X.K x (.int k) H Q) t):=by
 intro pins s σ H Q I h
 refine Gk (Qq I hg hm (u:=.builtin "max") (by decide +kernel) ?_)
 refine Mr (Jo (ha pos pins s σ H _ I h) λus s1 ⟨vs,H1,I1,r1,q1⟩=>?_) (by rw[hs]; rfl) (by rw[hs]; rfl)
 obtain ⟨x,rfl,q⟩:=q1
 obtain ⟨u,rfl,ru⟩:=vals1 r1
 refine kws_cons (wpAny_Constant_int (kws_nil ?_))
 exact nV (d:=.int k) hc (I1.tok _) ru ⟨_,rfl⟩ q
end
def dD(k:Int):DC:=λxs P=>match xs with
 | [.dat _ (.list ds)]=>∃ns:List Int,ds=ns.map Ad/\(ns=[]->P (.dat .ow (.int k)))/\∀M∈ns,(∀x∈ns,x<=M)->P (.dat .ow (.int M))
 | _=>False
section
variable{K:PySem.W.Frag}{k:Int}
theorem wD:Nf K (λxs H Q=>∃x,xs=[x]/\rJ K x (.int k) H Q) (dD k):=by
 intro H0 X n S T As us H Q P eu hA hd kk
 unfold dD at hd
 split at hd
 ·rename_i ex
  obtain ⟨v,F,rfl,hA⟩:=Gs eu hA ex
  obtain ⟨ns,rfl,h0,h1⟩:=hd
  obtain ⟨a,xs,G,rfl,ha,ra,rfl,hz⟩:=(hA.told mem_mid).list_inv
  obtain ⟨rfl,_⟩:=ra.ints_inv
  exact ⟨_,rfl,a,ns,rfl,Pu.of ha,λz=>kk _ _ [] H (hA.drop.pushI (.int _)) (h0 z),λM hM hle=>kk _ _ [] H (hA.drop.pushI (.int _)) (h1 M hM hle)⟩
 ·exact hd.elim
variable{X:Cx}{e:Expr}{da:DA}{p1 kp cp pos:Pos}{j:Nat}
theorem uK(hc:X.calm=true)(hg:Gl X "max")(hm:X.mg "max" = none)(ha:kU X [e] da)(hs:Bs [e] X.env=[(false,eval e X.env)]:=by rfl):En X (.Call (.Name "max" p1) [e] [⟨some "default",.Constant (.int k) j cp,kp⟩] pos) (O5 (dD k) da):=PE.imp (vH hc hg hm ha hs) (sP wD)
end
end DL
namespace Nd
open PySem PySem.Spec PySem.Calls PyProof.Rows PyProof.V L2 Ts
theorem aN{pos:Pos}{a b:Int}{c v:Value}(l:List Value):TriplesOk l->Pt pos (l++[rawInt a,rawInt b,c])=some v->Pt pos l=some v\/v=c:=by
 fun_induction TriplesOk l with
 | case1 =>
  intro _ e
  simp only[List.nil_append,Pt,rawInt] at e
  split at e
  ·exact .inr (Bo e).symm
  ·simp [Pt] at e
 | case2 a' t b' u x Ft ih =>
  intro h e
  simp only[Hg,Pt] at e ⊢
  split at e
  ·rename_i hc; rw[if_pos hc]; exact .inl e
  ·rename_i hc; rw[if_neg hc]; exact ih h e
 | case3 l h1 h2=>intro h; exact h.elim
section
variable{X:Cx}{pins:List (Addr×Obj)}{σ:List (Option V)}{H:Hp}{s:Al}
theorem rV{x:Str}{c P:Addr}{params:Lg}{body:Expr}{scope:Scope}{pos:Pos}{clos:List (Str×Addr)}{Q:Value->Al->Prop}(I:Inv X pins σ H s)(hx:x∈Oi)(ht:PySem.W.tabIn X.K x=some (c,P))(hcode:X.env.code=.ref c)(hq:X.env.qual ++ "<lambda>" = Zh x)(hdef:defaultsOf params X.env=([],[]))(hcl:La scope X.env=pure clos)(h:∀(f c':Addr) (pm ctv:Value) (H1:Hp) (s1:Al),Inv X pins σ H1 s1->Qm H H1->s1.heap.get? f=some (PySem.W.kla_obj "<lambda>" (Zh x) params body scope clos pm c' ctv)->s1.heap.CodeRec (.ref c') (Zh x)->Q (.ref f) s1):wpAny (model X.prog X.w) X.A (eval (.Lambda params body scope pos) X.env) Q X.xe s:=by
 obtain ⟨C0,B0,ps,t0,hP,hps⟩:=(I.ok.tab.un I.base) x hx c P ht
 obtain ⟨qs,gP,tri,each⟩:=(show Kc X.prog X.w H s.heap P (.tbl ps) from I.hok P _ hP)
 have C:=C0.keeps I.bk
 have B:s.heap.BuiltinsAt X.mg P:=by
  obtain ⟨bm,o,b1,b2,b3,b4,b5,r⟩:=B0
  exact ⟨bm,o,b1,b2,b3,b4,I.bk _ _ b5,r⟩
 have G:s.heap.Ns Co X.mg:=I.mod.glob.keeps I.bk
 refine PySem.W.kla_eval hdef ?_
 rw[hq]
 cases hf:Pt pos qs.toList with
 | some cv =>
  obtain ⟨c1,oc,us,q,t,t1,rfl,h2,h3,h4,h5,h6⟩:=each pos cv hf
  rw[hps] at h6
  cases h6
  refine PySem.W.kla_makeFunctionHit (mg:=X.mg) hcl I.ok.glob G hcode C gP tri hf B λctv h' tk hk hsz=>?_
  exact h _ c1 _ ctv H _ (I.kept (t':=tk) λb u e=>Aj _ (hk b u e)) (λ_ _ e=>e) (Bn _ rfl) ⟨c1,oc,us,t,rfl,Aj _ (hk _ _ h3),h4,h5⟩
 | none =>
  have hgP:Co≠P:=λz=>by
   obtain ⟨o,es,ep,e,d,_⟩:=G
   rw[z,gP] at e; cases e; cases d
  refine PySem.W.kla_makeFunction (mg:=X.mg) hcl I.ok.glob G hcode C gP tri hf hgP B λc' ctv h' tk hx' hge hlt hrec htb=>?_
  have Hn:H c'=none:=I.hok.fresh hge
  have neP:∀b,H b=none->b≠P:=λb n z=>by rw[z,hP] at n; cases n
  obtain ⟨c2,oc,us,t,e2,g3,g4,g5⟩:=id hrec
  cases e2
  have ncP:c'≠P:=neP c' Hn
  generalize hfo:(PySem.W.kla_obj "<lambda>" (Zh x) params body scope clos ((X.mg "__name__").getD .none) c' ctv)=fo
  have keepH:∀b o,b≠P->s.heap.get? b=some o->(h'.push fo).get? b=some o:=λb o n e=>Aj _ (hx' b o n e)
  have gPn:(h'.push fo).get? P=some { cls:=.none,data:=.fields (qs++#[rawInt pos.line,rawInt pos.col,.ref c']) }:=Aj _ htb
  have hok:Zx X.prog X.w (upd H c' (.own P)) (h'.push fo):=λb u e=>by
   by_cases hb:b=c'
   ·subst hb
    rw[Ej] at e
    cases e
    exact ⟨oc,Aj _ g3⟩
   ·rw[Ee hb] at e
    by_cases hbP:b=P
    ·subst hbP
     rw[hP] at e
     cases e
     refine ⟨_,gPn,by rw[Cv]; exact TriplesOk_snoc _ _ _ _ tri,λpos' v y=>?_⟩
     rw[Cv] at y
     rcases aN qs.toList tri y with y | rfl
     ·obtain ⟨c1,oc1,us1,q1,t1,t2,r1,r2,r3,r4⟩:=each pos' v y
      have n1:c1≠c':=λz=>by rw[z,Hn] at r2; cases r2
      exact ⟨c1,oc1,us1,q1,t1,t2,r1,by rw[Ee n1]; exact r2,keepH _ _ (λz=>by rw[z,hP] at r2; cases r2) r3,r4⟩
     ·exact ⟨c',oc,us,_,t,t0,rfl,Ej,Aj _ g3,g4,g5,hps⟩
    ·refine (I.hok b u e).stay (λd v hc q=>keepH d v ?_ q) (λd q=>by rw[Ee (Ek q Hn)]; exact q) λd xs q=>by rw[Ee (Ek q Hn)]; exact q
     rcases hc with rfl | hc
     ·exact hbP
     ·intro z; rw[z,hP] at hc; cases hc
  have I1:Inv X pins σ (upd H c' (.own P)) { s with heap:=h'.push fo,toks:=tk }:=by
   refine I.step (g':=s.gens) (d':=s.drawn) (t':=tk) (ch:=[]) (λ_ z=>nomatch z) (λb o _ _ _ e n=>keepH b o (neP b n) e) (λb o _ _ _ e n=>⟨o.slots,keepH b o (neP b n) e⟩) (λb o _ e n=>?_) (λb o _ e=>?_)
    (λb xs e=>by rw[Ee (Ek e Hn)]; exact e) (λb o u e=>by rw[Ee (Ek e Hn)]; exact e) (λb xs e=>⟨#[],by rw[Ee (Ek e Hn),e]; simp⟩) (λm hm=>?_) hok I.bare
   ·rw[Ee (Cq (Cj (Bf e) hge))]
    exact n
   ·by_cases hb:b=P
    ·subst hb; exact ⟨_,gPn⟩
    ·exact ⟨o,keepH b o hb e⟩
   ·obtain ⟨o,es,ep,e,r⟩:=hm
    exact ⟨o,es,ep,keepH _ o (neP _ I.free) e,r⟩
  refine h _ c' ((X.mg "__name__").getD .none) ctv _ _ I1 (λb o e=>by rw[Ee (Ek e Hn)]; exact e) ?_ ⟨c',oc,us,t,rfl,Aj _ g3,g4,g5⟩
  rw[<- hfo]
  exact Bn _ rfl
end
section
variable{prog:Bp}{w:World}{A:Cr}{E:Value->Al->Prop}{s:Al}
theorem Xz{R:List Value->Al->Prop}{r:Addr}{a b c:Int}{t u v:Tok}{n:Nat}(hh:A.handled=none)(hr:IsRange s.heap r a b c t u v)(hsmall:Builtin.Range.small a b c=true)(hn:Wz a b c=n)(hlen:n<=2 ^ 24)(h:∀(h':Heap) (tk:Nat) (acc:Array Value),(∀b o,s.heap.get? b=some o->h'.get? b=some o)->ItemsOf (λi v=>∃t,v=.int (a+i * c) t) acc n->s.heap.objs.size<=h'.objs.size->R acc.toList { s with heap:=h',toks:=tk }):wpAny (model prog w) A (collect (.ref r)) R E s:=by
 unfold collect
 refine Ag (wpAny_runValue (Kt PyProof.Rows.entry_proto_collect' ?_))
 rw[Gj PySem.F.plain_proto_collect _]
 show wpAny _ A.in1 (newList [] >>= λl=>again (.builtin "list.__iadd__" ⟨[l,.ref r],[]⟩)) _ _ s
 refine Ag (Hb ?_)
 refine Ay ⟨Hh PySem.F.plain_list_iadd _,Kt PyProof.Rows.entry_list_iadd' ?_⟩
 rw[Gj PySem.F.plain_list_iadd _]
 have hS₁:(s.heap.push { cls:=.type "list",data:=.seq ([]:List Value).toArray }).get? s.heap.objs.size=some { cls:=.type "list",data:=.seq #[] }:=Bn _ rfl
 show wpAny _ A.in1 (Builtin.List.listExtendWith (.ref s.heap.objs.size) (.ref r) (.ref s.heap.objs.size)) _ _ _
 have key:=wpAny_extend_range (prog:=prog) (w:=w) (A:=A) (s:={ s with heap:=s.heap.push { cls:=.type "list",data:=.seq ([]:List Value).toArray } })
  (R:=λ(q:Result) (s':Al)=>∃(h':Heap) (tk:Nat) (acc':Array Value) (c':Nat),q=.ok (.ret (.ref s.heap.objs.size))/\s'={ s with heap:=h',toks:=tk } /\
   (∀b o,s.heap.get? b=some o->h'.get? b=some o)/\h'.get? s.heap.objs.size=some { cls:=.type "list",dict:=none,data:=.seq acc' c',slots:=#[] }/\ItemsOf (λi v=>∃t,v=.int (a+i * c) t) acc' n)
  hh (Aj _ hr) hsmall hn hlen s.heap.objs.size (.ref s.heap.objs.size) 0 hS₁
  (λh' tk acc' c' hk hS' hacc=>⟨h',tk,acc',c',rfl,rfl,λb o e=>hk b o (Cq (Bf e)) (Aj _ e),hS',hacc⟩)
 refine Ez key (λfin s' x=>?_) λe s' x=>?_
 ·cases fin with
  | done f =>
   obtain ⟨h',tk,acc',c',e,rfl,hk,hS',hacc⟩:=x
   cases e
   show wpAny _ A (load s.heap.objs.size >>= _) _ _ _
   refine Ag (wpAny_load hS' ?_)
   exact Ay (h h' tk acc' hk hacc (Lb (Bf hS')))
  | again c₁ =>
   refine ⟨x.1,bV x.2 λq s₂ y=>?_⟩
   obtain ⟨h',tk,acc',c',rfl,rfl,hk,hS',hacc⟩:=y
   show wpAny _ A (load s.heap.objs.size >>= _) _ _ _
   refine Ag (wpAny_load hS' ?_)
   exact Ay (h h' tk acc' hk hacc (Lb (Bf hS')))
 ·obtain ⟨_,_,_,_,e',_⟩:=x
  cases e'
theorem pR{f c':Addr}{q x:Str}{params:Lg}{body:Expr}{scope:Scope}{clos:List (Str×Addr)}{pm ctv v:Value}{R:Value->Al->Prop}(hroom:A.depth<Lr)(ho:s.heap.get? f=some (PySem.W.kla_obj "<lambda>" q params body scope clos pm c' ctv))(hcd:s.heap.CodeRec (.ref c') q)(hnl:s.heap.NoLimit)(hbind:bindArgs (PySem.W.kla_fn "<lambda>" q params body scope clos pm (.ref c') ctv) ⟨[v],[]⟩=pure [(x,v)])(hx:scope.names.lookup x=some .local)(hco:scope.isCoroutine=false)(hgen:scope.isGenerator=false)(hk:scope.kind=.function)(hcell:∀y∈scope.names,y.2≠.cell)(hb:∀L h₁,h₁.Ns L (λy=>[(x,v)].reverse.lookup y)->Fj s.heap h₁->wpAny (model prog w) (A.deeper (PySem.W.envX q scope L f (.ref c') clos)) (eval body (PySem.W.envX q scope L f (.ref c') clos)) R (λ_ _=>False) { s with heap:=h₁,toks:=s.toks+1 }):wpAny (model prog w) A (call (.ref f) [v]) R E s:=by
 refine wpAny_call (PySem.W.kla_callFunE hroom ho rfl hco hgen rfl hcd ?_)
 rw[hbind]
 refine Ay (wpAny_newFunctionEnv hcell (λy hy=>?_) (λh₁ hns hsb=>⟨hnl.fresh _ hsb,?_⟩) hk)
 ·rw[Am.mp hy]; exact hx
 have hk₁:Fj s.heap h₁:=λb o e=>hsb.extBut b o (Cq (Bf e)) (Aj _ e)
 exact PySem.W.kla_codeExpr (Ez (hb _ h₁ hns hk₁) (λv s' z=>z) λ_ _ z=>z.elim)
theorem Yx{env:Env}{p1 p2 p3 p4 p5 p6:Pos}{m mg mb:Str->Option Value}{c l r:Addr}{its us:List Value}{i:Int}{t:Tok}{R:Value->Al->Prop}(hk:env.scope.kind=.function)(hn:env.kindOf "number" = some .local)(hw:env.kindOf "words" = some .free)(hl:env.kindOf "len" = some .globalImplicit)(hm:s.heap.Ns env.locals m)(hv:m "number" = some (.int i t))(hc:env.cells.lookup ("words" : Str)=some c)(hcv:s.heap.IsCell c (some (.ref l)))(hg:s.heap.Ns env.globals mg)(hg0:mg "len" = none)(hb:s.heap.Ns env.builtins mb)(hb0:mb "len" = some (.builtin "len"))(hL:s.heap.IsList l its.toArray)(h0:0<=i)(hi:i<2 ^ 63)(hr:its.toArray[i.toNat]? = some (.ref r))(hT:IsTup s.heap r us.toArray)(hz:us.length<2 ^ 62)(h:∀t' tk,R (.int (-(us.length:Int)) t') { s with toks:=tk }):wpAny (model prog w) A (eval (.UnaryOp .USub (.Call (.Name "len" p1) [.Subscript (.Name "words" p2) (.Name "number" p3) p4] [] p5) p6) env) R E s:=by
 refine UnaryOp_ (Gk (Nm hk hl (eG hg hg0 hb hb0 ?_)))
 refine Tj ?_ rfl rfl
 refine Nl (Subscript_ (Px (Xo hk hw hc hcv (Px (Wi hk hn hm hv ?_) (by decide))) (by decide)))
 refine item_listR hL h0 hi hr (Wo ?_)
 refine len_tuple hT (by rw[Aq]; omega) (neg_int ?_)
 rw[Aq]
 exact h _ _
theorem Pq{f u:Value}{kz:List Int}{Pv:List Value->Prop}{kw:List (Str×Value)}{Q:Value->Al->Prop}(hcol:∀R:List Value->Al->Prop,(∀h' tk vs,Fj s.heap h'->s.heap.objs.size<=h'.objs.size->Pv vs->R vs { s with heap:=h',toks:=tk })->wpAny (model prog w) A.in1 (collect u) R E s)(hlen:∀vs,Pv vs->kz.length=vs.length)(hz:kz.length<Be)(ha1:argsOk "sorted" ⟨[u],kw⟩)(ha2:∀x,argsOk "list.sort" ⟨[.ref x],kw⟩)(ht:∀x,Builtin.«list.sort» ⟨[.ref x],kw⟩=ksk_tree x f false)(turn:∀vs,Pv vs->∀(i:Nat) (v:Value) (k:Int),vs[i]? = some v->kz[i]? = some k->∀(h:Heap) (tk:Nat),Fj s.heap h->∀R:Value->Al->Prop,(∀t h2 tk2,Fj h h2->R (.int k t) { s with heap:=h2,toks:=tk2 })->wpAny (model prog w) A.in1.in1 (call f [v]) R (λ_ _=>False) { s with heap:=h,toks:=tk })(h:∀D h' tk out c vs,Pv vs->Fj s.heap h'->s.heap.objs.size<=D->h'.get? D=some (Dm "list" out c)->KskOut false kz vs out.toList->Q (.ref D) { s with heap:=h',toks:=tk }):wpAny (model prog w) A (call (.builtin "sorted") [u] kw) Q E s:=by
 refine call_function_entry_kw kind_sorted plain_sorted entry_sorted ha1 ?_
 unfold Builtin.«sorted»
 refine Ag (m:=checkCount "sorted" 1 1 _) (Ay (Ag (hcol _ λh0 tk0 vs hk0 hs0 hvs=>?_)))
 have hl0:=hlen vs hvs
 refine Ag (Rx ?_ (by omega))
 have g1:(h0.push (Dm "list" vs.toArray 0)).get? h0.objs.size=some (Dm "list" vs.toArray 0):=Bn _ rfl
 have kept:Fj s.heap (h0.push (Dm "list" vs.toArray 0)):=λb o e=>Aj _ (hk0 b o e)
 show wpAny _ _ _ _ _ { s with heap:=h0.push (Dm "list" vs.toArray 0),toks:=tk0 }
 generalize hH:h0.push (Dm "list" vs.toArray 0)=H1 at g1 kept
 have none_:∀b,s.heap.objs.size<=b->s.heap.get? b=none:=λb hb=>Ma hb
 refine Ag (Em (wpAny_call_entry_kw slot_list_sort ⟨_,g1,rfl⟩ entry_list_sort ?_ (ha2 _)))
 show wpAny (model prog w) A.in1.in1 (Builtin.«list.sort» ⟨[.ref h0.objs.size],kw⟩) _ _ _
 rw[ht]
 unfold ksk_tree
 have lt:h0.objs.size<H1.objs.size:=Bf g1
 obtain ⟨ep,g2⟩ : ∃ep,(H1.update h0.objs.size (Cy λ_=>(#[]:Array Value))).get? h0.objs.size=some (Dm "list" #[] ep):=⟨_,Iw g1 λ_=>#[]⟩
 have k2:Fj s.heap (H1.update h0.objs.size (Cy λ_=>(#[]:Array Value))):=Mm kept (none_ _ hs0)
 refine Ag (bU g1 rfl (Ag (Kk g1 rfl ?_ (by rw[Aq]; omega) (Ei _))))
 refine Ag (Wk g2 rfl (Ag (wpAny_newTuple (Ag (Rx (Em ?_) (Ei _))) (by show vs.length<=_; omega))))
 have e3:((H1.update h0.objs.size (Cy λ_=>(#[]:Array Value))).push (Dm "tuple" vs.toArray 0)).objs.size=H1.objs.size+1:=by rw[Tp,Ji]
 refine Q2 (s:={ s with heap:=((H1.update h0.objs.size (Cy λ_=>(#[]:Array Value))).push (Dm "tuple" vs.toArray 0)).push (Dm "list" #[] 0),toks:=tk0 }) (h0:=s.heap) (a:=h0.objs.size)
  (kS:=((H1.update h0.objs.size (Cy λ_=>(#[]:Array Value))).push (Dm "tuple" vs.toArray 0)).objs.size)
  ⟨λb o e=>Aj _ (Aj _ (k2 b o e)),none_ _ hs0,none_ _ (by rw[e3]; omega),λz=>(by have:=e3.symm.trans z; omega),Aj _ (Aj _ g2),0,Bn _ rfl⟩ hl0 (by omega)
  (λi v k h1 h2 hh tk hk R hR=>turn vs hvs i v k h1 h2 hh tk hk R hR) ?_
 intro h' tk out c a1 a2 a3
 exact ⟨_,rfl,Ay ⟨_,rfl,h _ h' tk out c vs hvs a1 hs0 a2 a3⟩⟩
end
theorem eR{α β:Type}{g:α->β}{q ps:List β}(h:q.Perm ps):∀l0:List α,q=l0.map g->∃l:List α,l.Perm l0/\ps=l.map g:=by
 induction h with
 | nil =>
  intro l0 e
  cases l0 with
  | nil=>exact ⟨[],.refl _,rfl⟩
  | cons a l=>cases e
 | cons x p ih =>
  intro l0 e
  cases l0 with
  | nil=>cases e
  | cons a l =>
   rw[Ba] at e
   obtain ⟨e1,e2⟩:=Fv e
   obtain ⟨l',h1,h2⟩:=ih l e2
   exact ⟨a::l',h1.cons a,by rw[Ba,e1,h2]⟩
 | swap x y p =>
  intro l0 e
  match l0,e with
  | a::b::l,e =>
   rw[Ba,Ba] at e
   obtain ⟨e1,e2⟩:=Fv e
   obtain ⟨e2,e3⟩:=Fv e2
   exact ⟨b::a::l,.swap a b l,by rw[Ba,Ba,e1,e2,e3]⟩
 | trans p1 p2 ih1 ih2 =>
  intro l0 e
  obtain ⟨l1,h1,h2⟩:=ih1 l0 e
  obtain ⟨l2,h3,h4⟩:=ih2 l1 h2
  exact ⟨l2,h3.trans h1,h4⟩
def zR(K:PySem.W.Frag)(xs:List V)(w:V)(H:Hp)(Q:VK):Prop:=∃(r:Addr) (n:Nat) (p:Addr) (rs:List Addr) (kf:Nat->Nat),xs=[.ref r]/\H r=some (sD r n)/\n<=1000000/\w=.ref p/\Pu K H p (rs.map V.ref)/\rs.length=n /\
 (∀(i:Nat) a,rs[i]? = some a->∃ys,Se K H a ys/\ys.length=kf i) /\
 ∀(a:Addr) (l:List Nat) (H1:Hp),Qm H H1->H1 a=none->l.Perm (Cb n)->l.Pairwise (λi j=>kf j<=kf i)->Q (.ref a) (upd H1 a (.lst (l.map λi:Nat=>V.int i)))
def zJ(K:PySem.W.Frag)(j:Nat)(t:TA):TE:=λσ H Q=>t σ H λxs H1=>∃w,σ[j]? = some (some w)/\zR K xs w H1 Q
theorem cQ{K:PySem.W.Frag}{H H1:Hp}{p:Addr}{xs:List V}(h:Pu K H p xs)(s:Qm H H1):Pu K H1 p xs:=by
 rcases h with (h | ⟨o,h⟩) | h
 ·exact .inl (.inl (s _ _ h))
 ·exact .inl (.inr ⟨o,s _ _ h⟩)
 ·exact .inr h
theorem pY{K:PySem.W.Frag}{H H1:Hp}{p:Addr}{xs:List V}(h:Se K H p xs)(s:Qm H H1):Se K H1 p xs:=by
 rcases h with (h | ⟨o,h⟩) | h
 ·exact .inl (.inl (s _ _ h))
 ·exact .inl (.inr ⟨o,s _ _ h⟩)
 ·exact .inr h
structure LamOf(X:Cx)(x:Str)(params:Lg)(body:Expr)(scope:Scope)(pn:Str)(clos:List (Str×Addr)):Prop where
 mem:x∈Oi
 tab:∃c P,PySem.W.tabIn X.K x=some (c,P)/\X.env.code=.ref c
 qual:X.env.qual ++ "<lambda>" = Zh x
 dfl:defaultsOf params X.env=([],[])
 cl:La scope X.env=pure clos
 bind:∀(pm cd ctv v:Value),bindArgs (PySem.W.kla_fn "<lambda>" (Zh x) params body scope clos pm cd ctv) ⟨[v],[]⟩=pure [(pn,v)]
 loc:scope.names.lookup pn=some .local
 co:scope.isCoroutine=false
 gen:scope.isGenerator=false
 kind:scope.kind=.function
 cell:∀y∈scope.names,y.2≠.cell
section
variable{X:Cx}{e:Expr}{t:TA}{p1 kp pos lp q1 q2 q3 q4 q5 q6:Pos}{k j:Nat}{x:Str}{params:Lg}{scope:Scope}{cw:Addr}
theorem rA(hg:Gl X "sorted")(hm:X.mg "sorted" = none)(hml:X.mg "len" = none)(hr:Room k X.A)(hcalm:X.calm=true)(Lm:LamOf X x params (.UnaryOp .USub (.Call (.Name "len" q1) [.Subscript (.Name "words" q2) (.Name "number" q3) q4] [] q5) q6) scope "number" [("words",cw)])(hcw:X.env.cells.lookup ("words" : Str)=some cw)(hkc:X.env.kindOf "words" = some .cell)(hN:X.N[j]? = some "words")(hwf:scope.names.lookup ("words" : Str)=some .free)(hlg:scope.names.lookup ("len" : Str)=some .globalImplicit)(ha:PA X [e] t)(hs:Bs [e] X.env=[(false,eval e X.env)]:=by rfl):PE X (.Call (.Name "sorted" p1) [e] [⟨some "key",.Lambda params (.UnaryOp .USub (.Call (.Name "len" q1) [.Subscript (.Name "words" q2) (.Name "number" q3) q4] [] q5) q6) scope lp,kp⟩] pos) (zJ X.K j t):=by
 intro pins s σ H Q I h
 refine Gk (Qq I hg hm (u:=.builtin "sorted") (by decide +kernel) ?_)
 refine Mr (Jo (ha pos pins s σ H _ I h) λus s1 ⟨vs,H1,I1,r1,q1⟩=>?_) (by rw[hs]; rfl) (by rw[hs]; rfl)
 obtain ⟨w,hw,r,n,p,rs,kf,rfl,hR,hn,rfl,hp,hlen,hx',q⟩:=q1
 obtain ⟨u,rfl,ru⟩:=vals1 r1
 cases ru
 obtain ⟨c,P,ht,hcode⟩:=Lm.tab
 refine kws_cons (rV I1 Lm.mem ht hcode Lm.qual Lm.dfl Lm.cl λf c' pm ctv H2 s2 I2 sm ho hcd=>kws_nil ?_)
 obtain ⟨⟨t,u,v,hr'⟩,_,_⟩:=(show Kc X.prog X.w H2 s2.heap r (sD r n) from I2.hok r _ (sm r _ hR))
 have hs:Be=16777216:=Le
 have cellW:s2.heap.IsCell cw (some (.ref p)):=by
  obtain ⟨m,hns,hl⟩:=I2.loc
  obtain ⟨u,ru,l⟩:=hl j "words" (.ref p) hN hw (.inr (.inl hkc))
  cases ru
  rcases l with ⟨hk,_⟩ | ⟨hk,c1,hc1,hcell⟩
  ·rw[hkc] at hk; cases hk
  ·rw[hcw] at hc1; cases hc1; exact hcell
 obtain ⟨its,rv,pl,hz⟩:=I2.list (cQ hp sm)
 have e1:=Rv rv
 subst e1
 obtain ⟨mb,hb1,hb2⟩:=I2.mod.blt
 have hbl:mb "len" = some (.builtin "len"):=(hb2 "len" (by decide)).trans (by decide +kernel)
 have vvOf:∀vs:List Value,ItemsOf (λi v=>∃t,v=.int (0+i * 1) t) vs.toArray n->vs.length=n/\∀(i:Nat) v,vs[i]? = some v->∃t,v=.int (i:Int) t:=λvs hv=>by
  refine ⟨by simpa using hv.1,λi v e=>?_⟩
  obtain ⟨t,e2⟩:=hv.2 i v (by simpa using e)
  exact ⟨t,by rw[e2]; congr 1; omega⟩
 refine Pq (f:=.ref f) (kz:=(Cb n).map λi=>-((kf i:Nat):Int)) (Pv:=λvs=>vs.length=n/\∀(i:Nat) v,vs[i]? = some v->∃t,v=.int (i:Int) t)
  (λR hR=>Xz (n:=n) (show X.A.in1.handled=none from I2.ok.hd hcalm) hr' (small_one (by omega) (by omega) (by omega) (by omega)) (by rw[rangeSize_one]; split <;> omega) (by omega) λh' tk acc hk hacc hsz=>hR h' tk acc.toList hk hsz (vvOf _ (by simpa using hacc)))
  (λvs hv=>by rw[Aa,Ct]; exact hv.1.symm) (by rw[Aa,Ct]; omega) (ksk_s1 _ _) (λx=>ksk_l1 _ _) (λx=>ksk_t1 _ _) (λvs hvs i v k hv hk hh tk hkeep R hR=>?_) λD h' tk out c3 vs hvs k1 k2 k3 k4=>?_
 ·have hi:i<n:=by rw[<- hvs.1]; exact (Ah.mp hv).1
  obtain ⟨t,rfl⟩:=hvs.2 i v hv
  rw[Ao,Uv hi] at hk
  cases hk
  obtain ⟨a,hra⟩ : ∃a,rs[i]? = some a:=⟨_,Ai (by omega)⟩
  obtain ⟨ys,hy,hyl⟩:=hx' i a hra
  obtain ⟨us,ru,pt,hz2⟩:=I2.tuple (pY hy sm)
  have hlu:=ru.length
  have k0:Fj s2.heap hh:=hkeep
  refine pR (x := "number") (show X.A.in1.in1.depth<Lr from hr.depth) (k0 _ _ ho) ?_ ?_ (Lm.bind _ _ _ _) Lm.loc Lm.co Lm.gen Lm.kind Lm.cell λL h₁ hns hk1=>?_
  ·obtain ⟨c2,oc,vs2,t2,e2,g3,g4⟩:=hcd
   exact ⟨c2,oc,vs2,t2,e2,k0 _ _ g3,g4⟩
  ·exact I2.nolimit.keeps k0
  ·have kk:Fj s2.heap h₁:=k0.trans hk1
   obtain ⟨oL,nL,eL,rL⟩:=pl
   obtain ⟨oc,ec,dc⟩:=cellW
   obtain ⟨ot,et,dt⟩:=pt
   refine Yx (l:=p) (r:=a) (us:=us) (its:=rs.map Bg) (i:=(i:Int)) (t:=t) Lm.kind Lm.loc hwf hlg hns rfl (List.lookup_cons_self ..) ⟨oc,kk _ _ ec,dc⟩ ((I2.mod.glob.keeps I2.bk).keeps kk) hml ((hb1.keeps I2.bk).keeps kk) hbl (PlainL.isList ⟨oL,nL,kk _ _ eL,rL⟩) (by omega) (by omega) ?_ ⟨ot,kk _ _ et,dt⟩ (by omega) λt' tk'=>?_
   ·rw[Ed,Ic,Ao,hra]; rfl
   ·rw[<- hlu,hyl]
    exact hR _ _ _ hk1
 ·obtain ⟨ps,h1,e2,h3⟩:=k4
  obtain ⟨hl,hv⟩:=hvs
  have ez:((Cb n).map λi=>-((kf i:Nat):Int)).zip vs=(Cb n).map λi=>(-((kf i:Nat):Int),vs.getD i .none):=by
   have ev:vs=(Cb n).map λi=>vs.getD i .none:=by
    refine Ik λi=>?_
    rw[Ao]
    by_cases hi:i<n
    ·rw[Uv hi,Ai (by omega)]
     simp [List.getD,Ai (show i<vs.length by omega)]
    ·rw[Li (by omega),Li (by rw[Ct]; omega)]
     rfl
   conv=>lhs; rw[ev]
   exact List.zip_map' ..
  rw[ez] at h1
  obtain ⟨l,p1,rfl⟩:=eR h1.symm (Cb n) rfl
  have p2:l.Pairwise λi j=>kf j<=kf i:=by
   have h4:(l.map λi=>(-((kf i:Nat):Int),vs.getD i .none)).Pairwise (λp q=>p.1<=q.1):=h3
   rw[List.pairwise_map] at h4
   exact h4.imp λq=>by simp only at q; omega
  have eo:out=(l.map λi=>vs.getD i .none).toArray:=by
   rw[Bz] at e2
   have e3:out.toList=l.map λi=>vs.getD i .none:=e2
   rw[<- e3,Array.toArray_toList]
  subst eo
  have vv:∀l:List Nat,(∀i∈l,i<n)->Fi (l.map λi:Nat=>V.int i) (l.map λi=>vs.getD i .none):=by
   intro l
   induction l with
   | nil=>exact λ_=>.nil
   | cons i l ih =>
    intro hi
    have hin:=hi i Ab
    obtain ⟨t,e⟩:=hv i _ (Ai (by omega))
    refine .cons ⟨t,?_⟩ (ih λj hj=>hi j (Ak _ hj))
    show vs.getD i .none=Mz (i:Int) t
    rw[Bv,Ai (by omega)]
    exact e
  refine ⟨.ref D,upd H2 D (.lst (l.map λi:Nat=>V.int i)),I2.laid (t':=tk) k1 k2 ⟨?_,_,c3,vv l λi hi=>Fe.mp (p1.mem_iff.mp hi),k3⟩,rfl,q D l H2 sm (I2.hok.fresh k2) p1 p2⟩
  rw[Aa,p1.length_eq,Ct]
  omega
end
end Nd
namespace DL
open PySem PySem.Spec PyProof.Rows L2 Nd Ts
section
variable{P:Bp}{w:World}{K:PySem.W.Frag}{mg:Str->Option Value}{base:Heap}
theorem vU{x qual:Str}{st:Stmt}{f:Addr}{fd:Bx}{N ps:List Str}{k:Nat}{sp:Sp}(F:Fun K x qual st f fd)(S:FnScope N ps (Br st))(len:∀vs H Q E,sp vs H Q E->vs.length=ps.length)(hbody:∀(cdv:Value) (A:Cr) (outer:List Env) (s:Al) (H:Hp) (vs:List V) (Q:VK) (E:XK),fd.code=cdv->Room k (A.deeper (Mu qual (Br st) s.heap.objs.size f cdv))->sp vs H Q E->∃t,gU (Vl Gc P w K mg base N qual (Br st) f cdv A outer s H E).nox (Hd st) t/\t { nx:=λ_ H'=>Q .non H',rt:=Q } (L2.start N vs) H):FnOk P w K mg base Gc (k+1) f fd ps sp:=by
 obtain ⟨oc,od,kV,doc,pm,an,cdv,ct,osl,rfl,lk,hcd⟩:=F.ex
 refine yX lk hcd S len λA outer s H vs Q E hr hsp=>?_
 obtain ⟨t,h,q⟩:=hbody cdv A outer s H vs Q E rfl hr hsp
 exact ⟨t,h.nox,q⟩
theorem fV{x qual:Str}{st:Stmt}{f:Addr}{fd:Bx}{N ps:List Str}{k:Nat}{pf:PF}{db:DB}(F:Fun K x qual st f fd)(S:FnScope N ps (Br st))(hb:∀(cdv:Value) (A:Cr) (outer:List Env) (s:Al) (H:Hp) (E:XK),fd.code=cdv->Room k (A.deeper (Mu qual (Br st) s.heap.objs.size f cdv))->Wu (Vl Gc P w K mg base N qual (Br st) f cdv A outer s H E).nox (Hd st) db)(h:∀ds R,pf ds R->ds.length=ps.length/\db (retE R) ⟨args0 ds (N.length - ps.length),0⟩):FnOk P w K mg base Gc (k+1) f fd ps (Oa K pf):=by
 refine vU F S (λvs H Q E z=>?_) λcdv A outer s H us Q E hcv hr z=>?_
 ·obtain ⟨As,n,ds,R,eu,ok,q,hp,_⟩:=z
  have l1:=(h ds R hp).1
  have l2:=Gz q
  rw[Aa] at l2
  have l3:=congrArg Ga eu
  rw[Aa,Aa] at l3
  omega
 ·obtain ⟨As,n,ds,R,eu,ok,q,hp,k1⟩:=z
  obtain ⟨l1,hd⟩:=h ds R hp
  have l2:=Gz q
  rw[Aa] at l2
  have l3:=congrArg Ga eu
  rw[Aa,Aa] at l3
  refine ⟨_,hb cdv A outer s H E hcv hr,H,λ_=>False,As.map Yv++Gh (N.length - ps.length),[],⟨args0 ds (N.length - ps.length),0⟩,retE R,?_,?_,λ_ z=>(nomatch z),?_,hd,λδ' S' H' e1 hA p=>?_,λx δ' v F' S' H' e1 hA p=>?_,λ_ _ _ _ _ p=>p.elim,λ_ _ _ _ _ p=>p.elim⟩
  ·unfold vs L2.start Gh
   rw[Bw,vP,eu,Kz,show us.length=ps.length by omega]
  ·unfold Sl args0 Gh
   rw[Bw,Qk q,Kz]
  ·rw[Dk]
   have hs:=Xk q (N.length - ps.length)
   refine ⟨λe he=>?_,Oq λa ha b hb'=>⟨λhq c hc=>?_,λhq c hc=>?_⟩,λe he a ha=>?_,λb o _ e=>e,λb o e=>⟨o,e⟩,λb hb=>hb.elim⟩
   ·have:=lP q ok (N.length - ps.length) e he
    obtain ⟨v,x,F⟩:=e
    cases x with
    | drw=>exact absurd (hs _ he).2 (by show ¬ (true=false); decide)
    | _=>exact this
   ·rw[(hs a ha).1] at hc; cases hc
   ·rw[(hs b hb').1] at hc; cases hc
   ·rw[(hs e he).1] at ha; cases ha
  ·exact k1 .non .none [] H' p .non Ep (λ_ z=>(nomatch z)) λb o e=>hA.same b o (λz=>z) e
  ·obtain ⟨d,rfl,r⟩:=p
   rw[show S'++[(⟨some v,.dat .ow d,F'⟩ : Ent)]=S'++⟨some v,.dat .ow d,F'⟩::[] from rfl] at hA
   obtain ⟨u,e2,rd,nd,_⟩:=hA.ok _ mem_mid
   cases e2
   refine k1 v d F' H' r rd (nd rfl) (λa ha=>?_) λb o e=>hA.same b o (λz=>z) e
   rcases hA.new _ mem_mid a ha with z | z
   ·exact z
   ·exact z.1.elim
end
theorem code_tab{K:PySem.W.Frag}{x qual:Str}{st:Stmt}{f c P:Addr}{fd:Bx}(nm:PySem.W.nsIn K Co x=some (some (.ref f)))(F:Fun K x qual st f fd)(t:PySem.W.tabIn K x=some (c,P)):fd.code=.ref c:=by
 obtain ⟨oc,od,kV,doc,pm,an,cdv,ct,osl,e,lk,hcd⟩:=F.ex
 unfold PySem.W.tabIn at t
 rw[nm] at t
 dsimp only at t
 rw[lk] at t
 dsimp only at t
 split at t
 ·rename_i c2 h
  rw[h]
  split at t
  ·split at t
   ·cases t; rfl
   ·cases t
  ·cases t
 ·cases t
theorem tab_mk{K:PySem.W.Frag}{x qual:Str}{st:Stmt}{f c P:Addr}{fd:Bx}{o2:Value}{d2:Option Addr}{vs:Array Value}{sl2:Array (Option Value)}(nm:PySem.W.nsIn K Co x=some (some (.ref f)))(F:Fun K x qual st f fd)(hc:fd.code=.ref c)(lc:K.lookup c=some ⟨o2,d2,.fields vs,sl2⟩)(hv:vs[11]? = some (.ref P)):PySem.W.tabIn K x=some (c,P):=by
 obtain ⟨oc,od,kV,doc,pm,an,cdv,ct,osl,e,lk,hcd⟩:=F.ex
 unfold PySem.W.tabIn
 rw[nm]
 dsimp only
 rw[lk]
 dsimp only
 rw[hc]
 dsimp only
 rw[lc]
 dsimp only
 rw[hv]
def N9(j:Nat)(x:DV)(δ:DS)(P:DV->DS->Prop):Prop:=match x,δ.sl[j]? with
 | .dat _ (.int n),some (.dat _ (.list ds))=>∃ws:List (List Int),ds=ws.map Cf/\n=ws.length/\ws.length<=1000000/\∀l:List Nat,l.Perm (Cb ws.length)->l.Pairwise (λa b=>(ws.getD b []).length<=(ws.getD a []).length)->P (.dat .ow (.list (l.map λi:Nat=>Ad i))) δ
 | _,_=>False
def sI(j:Nat)(de:DE):DE:=λδ P=>de δ λx δ1=>N9 j x δ1 P
theorem A5{j:Nat}{m m':Md}{n:Int}{δ:DS}{P:DV->DS->Prop}{ws:List (List Int)}(h:δ.sl[j]? = some (.dat m' (.list (ws.map Cf))))(hn:n=ws.length)(hz:ws.length<=1000000)(k:∀l:List Nat,l.Perm (Cb ws.length)->l.Pairwise (λa b=>(ws.getD b []).length<=(ws.getD a []).length)->P (.dat .ow (.list (l.map λi:Nat=>Ad i))) δ):N9 j (.dat m (.int n)) δ P:=by
 unfold N9
 rw[h]
 exact ⟨ws,rfl,hn,hz,k⟩
section
variable{X:Cx}{e:Expr}{de:DE}{p1 p2 kp pos pos2 lp q1 q2 q3 q4 q5 q6:Pos}{k j:Nat}{x:Str}{params:Lg}{scope:Scope}{cw:Addr}
theorem pN(hc:X.calm=true)(hr:Room k X.A)(hg:Gl X "sorted")(hm:X.mg "sorted" = none)(hml:X.mg "len" = none)(hg2:Gl X "range")(hm2:X.mg "range" = none)(Lm:LamOf X x params (.UnaryOp .USub (.Call (.Name "len" q1) [.Subscript (.Name "words" q2) (.Name "number" q3) q4] [] q5) q6) scope "number" [("words",cw)])(hcw:X.env.cells.lookup ("words" : Str)=some cw)(hkc:X.env.kindOf "words" = some .cell)(hN:X.N[j]? = some "words")(hwf:scope.names.lookup ("words" : Str)=some .free)(hlg:scope.names.lookup ("len" : Str)=some .globalImplicit)(ha:En X e de)(he:Bs [e] X.env=[(false,eval e X.env)]:=by rfl)(he2:Bs [.Call (.Name "range" p2) [e] [] pos2] X.env=[(false,eval (.Call (.Name "range" p2) [e] [] pos2) X.env)]:=by rfl):En X (.Call (.Name "sorted" p1) [.Call (.Name "range" p2) [e] [] pos2] [⟨some "key",.Lambda params (.UnaryOp .USub (.Call (.Name "len" q1) [.Subscript (.Name "words" q2) (.Name "number" q3) q4] [] q5) q6) scope lp,kp⟩] pos) (sI j de):=by
 refine PE.imp (rA hg hm hml hr hc Lm hcw hkc hN hwf hlg (Iq (aT fZ hg2 hm2 (by decide +kernel) (Iq ha Qx he) (by decide) (by decide) he rfl) Qx he2) he2) λσ H Q h=>?_
 obtain ⟨H0,Y,S,T,δ,P,rfl,hS,hA,hd,k⟩:=h
 refine ⟨H0,Y,S,T,δ,_,rfl,hS,hA,hd,λx δ' v F S' H' e1 e2 hA' p=>?_⟩
 unfold N9 at p
 split at p
 ·rename_i m n m' ds hsl
  obtain ⟨ws,rfl,hn,hz,p⟩:=p
  obtain ⟨rfl,_⟩:=(hA'.told mem_mid).int_inv
  refine ⟨n,rfl,λr nr=>?_⟩
  obtain ⟨⟨u,y,G⟩,es,ex⟩:=Ky e2 hsl
  have ex:y=.dat m' (.list (ws.map Cf)):=ex
  subst ex
  obtain ⟨v,ev,rd,_⟩:=hA'.ok _ (Au _ (An es))
  have ev:u=some v:=ev
  subst ev
  obtain ⟨a,xs,G',rfl,hla,ra,rfl,hz'⟩:=rd.list_inv
  obtain ⟨rs,rfl,ews,rfl,c1,c2⟩:=Tt ra rfl
  have s1:=Hi nr (sD r n)
  have lrs:rs.length=ws.length:=by rw[ews,Aa]
  refine ⟨.ref a,by rw[<- e1]; exact Pw es,r,ws.length,a,rs,λi=>(ws.getD i []).length,rfl,by rw[hn]; exact Ej,hz,rfl,Pu.of (s1 _ _ hla),lrs,λi b hb=>?_,λq l H1 sm nq pe pw=>?_⟩
  ·refine ⟨_,Se.of (s1 _ _ (c1 b (An hb))),?_⟩
   have : ws[i]? = some (uA H' b):=by rw[ews,Ao,hb]; rfl
   rw[Aa]
   show _=(ws.getD i []).length
   rw[Bv,this]
   rfl
  ·have hI:RdFs X.K H1 (l.map λi:Nat=>V.int i) (l.map λi:Nat=>Ad i) []:=by
    have:=RdFs.ints (K:=X.K) (H:=H1) (l.map λi:Nat=>(i:Int))
    rw[Bz,Bz] at this
    exact this
   refine k _ δ' _ _ S' _ e1 e2 (((hA'.drop.grow s1 (Ap _)).grow sm (Ap _)).newI hI ?_ ?_ nq .ow) (p l pe pw)
   ·have:=Nh (l.map λi:Nat=>(i:Int))
    rw[Bz] at this
    exact this
   ·rw[Aa,pe.length_eq,Ct,Le]
    omega
 ·exact p.elim
end
end DL
namespace HT
open PySem PyProof.Rows
theorem tJ(A:Cr)(s:Al)(a:Int)(t:Tok)(c:Int)(u:Tok)(prog:Bp)(w:World)(E:Value->Al->Prop)(Q:Value->Al->Prop)(h:Q (.bool (decide (c<a))) s):wpAny (model prog w) A (richCompare .Gt (.int a t) (.int c u)) Q E s :=
 (PyProof.Rows.gt_int h:wpAny (model prog w) A (Fo .Gt (.int a t) (.int c u)) Q E s)
section
open PySem.SeqAt
open PySem.AutoSeq1 (wpAny_loadPart')
open PySem.MeetsSeq PySem.MeetsSeq2 PySem.MeetsSeq3
theorem aG(l b:Addr)(items items2:Array Value)(n n2:Nat)(dd dd2:Option Addr)(sl sl2:Array (Option Value))(ns ms:List Int)(hi:Dw items.toList ns)(hj:Dw items2.toList ms):Meets (Builtin.«tuple.__gt__» ⟨[.ref l,.ref b],[]⟩) (λ_ R s=>s.heap.get? l=some { cls:=.type "tuple",dict:=dd,data:=.seq items n,slots:=sl }/\s.heap.get? b=some { cls:=.type "tuple",dict:=dd2,data:=.seq items2 n2,slots:=sl2 }/\R (.ok (.ret (.bool (lexLt ms ns)))) s) :=
 .of_wp λprog w A R s h=>by
  obtain ⟨hp,g,d,tk,os⟩:=s; obtain ⟨hl,hb,h⟩:=h
  have f2:=aP
  have z1:items.size=ns.length:=by rw[<- hi.length]; simp
  have z2:items2.size=ms.length:=by rw[<- hj.length]; simp
  wp_walk using Iv hl,Iv hb,wpAny_forIn_list _ (λFt b s'=>b.1=none/\s'=⟨hp,g,d,tk,os⟩/\∃(vs ws:List Value) (ns' ms':List Int),Ft=vs.zip ws /\
   Dw vs ns'/\Dw ws ms'/\ns'.length+items2.size=ms'.length+items.size/\R (.ok (.ret (.bool (lexLt ms' ns')))) ⟨hp,g,d,tk,os⟩) _
  case turn =>
   (rintro ⟨y,x⟩ Ft b s' q_; obtain ⟨hb',rfl,vs,ws,ns',ms',hz,hvi,hwi,hlen,hR⟩ := q_)
   cases hvi with
   | nil=>rw[List.zip_nil_left] at hz; cases hz
   | cons a t hvi' =>
    cases hwi with
    | nil=>rw[List.zip_nil_right] at hz; cases hz
    | cons c u hwi' =>
     rw[Hl] at hz
     injection hz with hyx hrest
     injection hyx with hy hx
     subst hy hx
     rw[lexLt_cons] at hR
     simp only[Bk] at hlen
     obtain ⟨e,he,hiff⟩:=gH A.in1 ⟨hp,g,d,tk,os⟩ a t c u
     refine Ag (he prog w _ _ ?_)
     cases e with
     | true =>
      rw[if_pos (hiff.mp rfl).symm] at hR
      wp_walk
      exact ⟨rfl,rfl,_,_,_,_,hrest,hvi',hwi',by omega,hR⟩
     | false =>
      rw[if_neg (λq=>absurd (hiff.mpr q.symm) Ce)] at hR
      have hri:=tJ A.in1 ⟨hp,g,d,tk,os⟩ a t c u prog w
      wp_walk using hri
      exact ⟨_,rfl,by simpa using hR⟩
  case fin =>
   (rintro ⟨b1,b2⟩ s' q_; obtain ⟨hb',rfl,vs,ws,ns',ms',hz,hvi,hwi,hlen,hR⟩ := q_)
   simp only at hb'
   subst hb'
   have hv:lexLt ms' ns'=decide (items2.size<items.size):=by
    cases hvi with
    | nil =>
     cases hwi with
     | nil =>
      simp only[Gm] at hlen
      rw[lexLt_nil_nil]
      exact (decide_eq_false (by omega)).symm
     | cons c u hw =>
      simp only[Gm,Bk] at hlen
      rw[lexLt_cons_nil]
      exact (decide_eq_false (by omega)).symm
    | cons a t hv =>
     cases hwi with
     | nil =>
      simp only[Gm,Bk] at hlen
      rw[lexLt_nil_cons]
      exact (decide_eq_true (by omega)).symm
     | cons c u hw =>
      rw[Hl] at hz
      cases hz
   rw[hv] at hR
   wp_walk
   exact ⟨_,rfl,by simpa [Sm] using hR⟩
  case h =>
   exact ⟨rfl,rfl,items.toList,items2.toList,ns,ms,rfl,hi,hj,by omega,h⟩
end
section
variable{prog:Bp}{w:World}{A:Cr}{E:Value->Al->Prop}{s:Al}
theorem gt_tupInts{l b:Addr}{items items2:Array Value}{ns ms:List Int}{Q:Value->Al->Prop}(hl:IsTup s.heap l items)(hb:IsTup s.heap b items2)(hi:Dw items.toList ns)(hj:Dw items2.toList ms)(hu:A.units<cLine)(h:Q (.bool (lexLt ms ns)) s):wpAny (model prog w) A (Fo .Gt (.ref l) (.ref b)) Q E s:=by
 obtain ⟨⟨cls,dd,data,sl⟩,ho,hc,n,hd⟩:=id hl
 obtain ⟨⟨cls2,dd2,data2,sl2⟩,ho2,hc2,n2,hd2⟩:=id hb
 simp only at hc hd hc2 hd2
 subst hc hd hc2 hd2
 exact uD (op:=.Gt) ⟨_,ho,rfl⟩ ⟨_,ho2,rfl⟩ PySem.F.slot_tuple_gt PySem.F.entry_tuple_gt (PySem.F.args_tuple_gt_2 _ _) (aG l b items items2 n n2 dd dd2 sl sl2 ns ms hi hj)
  ⟨ho,ho2,show Uz (lexLt ms ns)≠Value.notImplemented/\Q (.bool (lexLt ms ns)) s from ⟨(λx=>nomatch x),h⟩⟩ hu
end
end HT
namespace Nd
open PySem PySem.Spec PySem.Calls PyProof.Rows PyProof.V L2 Ts
def E9(kl:Nat->List Int)(vs:List Value)(h:Heap)(S I:Addr)(j:Nat)(its:Array Value):Prop:=(j=0/\its=#[])\/∃(i:Nat) (v:Value) (r:Addr) (items:Array Value),i<j/\vs[i]? = some v/\its=#[v,.ref r]/\r≠S/\r≠I /\
 IsTup h r items/\Dw items.toList (kl i)/\(∀j',j'<j->HT.lexLt (kl i) (kl j')=false)/\∀j',j'<i->HT.lexLt (kl j') (kl i)=true
section
variable{prog:Bp}{w:World}{A:Cr}{E:Value->Al->Prop}{s:Al}{R:Result->Al->Prop}{I S l f:Addr}{h0:Heap}{vs:List Value}{kl:Nat->List Int}
theorem mH(hh:A.handled=none)(hu:A.in1.units<cLine)(hlI:l≠I)(hSI:S≠I)(nI:h0.get? I=none)(nS:h0.get? S=none)(hl:h0.IsList l vs.toArray)(hne:0<vs.length)(turn:∀(i:Nat) (v:Value),vs[i]? = some v->∀(h:Heap) (tk:Nat),Fj h0 h->∀Rr:Value->Al->Prop,(∀r items h2 tk2,Fj h h2->h.objs.size<=r->IsTup h2 r items->Dw items.toList (kl i)->Rr (.ref r) { s with heap:=h2,toks:=tk2 })->wpAny (model prog w) A.in1 (call (.ref f) [v]) Rr (λ_ _=>False) { s with heap:=h,toks:=tk })(hR:∀i v h' tk',vs[i]? = some v->(∀j,j<vs.length->HT.lexLt (kl i) (kl j)=false)->(∀j,j<i->HT.lexLt (kl j) (kl i)=true)->Fj h0 h'->R (.ok (.ret v)) { s with heap:=h',toks:=tk' }):∀(k j:Nat) (h:Heap) (tk:Nat) (its:Array Value) (c:Nat),vs.length - j=k->j<=vs.length->Fj h0 h->h.IsListIter I l j->h.get? S=some (Dm "list" its c)->E9 kl vs h S I j its->Tq (model prog w) A (.builtin "max.loop" ⟨[.ref I,.ref f,.ref S],[]⟩) R { s with heap:=h,toks:=tk }:=by
 have hname:(So "max" ++ So ".loop" : String) = "max.loop" := by decide
 have W:=Walks.list (prog:=prog) (w:=w) (A:=A.in1) hh I l hlI vs.toArray
 have hsz:vs.toArray.size=vs.length:=Aq ..
 have up0:∀{h h':Heap},Fj h0 h->(∀b o,b∉[I]->h.get? b=some o->h'.get? b=some o)->Fj h0 h':=λk k' b o e=>k' b o (λz=>by rw[Am.mp z,nI] at e; cases e) (k b o e)
 have lst:∀{h:Heap},Fj h0 h->h.IsList l vs.toArray:=λk=>by
  obtain ⟨o,ho,r⟩:=hl
  exact ⟨o,k _ _ ho,r⟩
 intro k
 induction k with
 | zero =>
  intro j h tk its c hk hj K hit hS hB
  have hin:j=vs.length:=by omega
  rcases hB with ⟨z,_⟩ | ⟨i,v,r,items,hi,hv,rfl,rS,rI,ht,hks,hmax,hfst⟩
  ·omega
  refine Kt PySem.F.entry_max_loop ?_
  rw[Gj PySem.F.plain_max_loop _]
  show wpAny _ A.in1 (seqItems? (.ref S) >>= _) _ _ _
  refine Ag (Wh hS rfl ?_)
  show wpAny _ A.in1 (Wj (pyNext (.ref I)) _ >>= _) _ _ _
  refine Ag (Jx (W.done _ _ _ ⟨by rw[hsz,<- hin]; exact hit,lst K⟩ λh' tk' hk'=>?_))
  have hS':=hk' S _ (by simpa using hSI) hS
  show wpAny _ A.in1 (updateSeq S (λ_=>#[]) >>= _) _ _ _
  refine Ag ?_
  refine Ks hS' rfl (Ag (Jy (Ay ?_)))
  exact hR i v _ _ hv (λj' hj'=>hmax j' (by omega)) hfst (Mm (up0 K hk') nS)
 | succ k ih =>
  intro j h tk its c hk hj K hit hS hB
  have hlt:j<vs.length:=by omega
  refine Kt PySem.F.entry_max_loop ?_
  rw[Gj PySem.F.plain_max_loop _]
  show wpAny _ A.in1 (seqItems? (.ref S) >>= _) _ _ _
  refine Ag (Wh hS rfl ?_)
  show wpAny _ A.in1 (Wj (pyNext (.ref I)) _ >>= _) _ _ _
  refine Ag (Jx (W.item j _ _ _ (by rw[hsz]; exact hlt) ⟨hit,lst K⟩ λv h' tk' hP hst' hk'=>?_))
  have hv:vs[j]? = some v:=by simpa using hP
  obtain ⟨oI',hoI',hoc,hod⟩:=id hst'.1
  have K1:=up0 K hk'
  have hS1:=hk' S _ (by simpa using hSI) hS
  show wpAny _ A.in1 (Wj (Lu [v] (call (.ref f) [v])) _ >>= _) _ _ _
  refine Ag (Jx (Em (Ez (turn j v hv h' tk' K1 (λx s''=>∃r items h2 tk2,x=.ref r/\s''={ s with heap:=h2,toks:=tk2 }/\Fj h' h2/\h'.objs.size<=r/\IsTup h2 r items/\Dw items.toList (kl j)) λr items h2 tk2 a1 a2 a3 a4=>⟨r,items,h2,tk2,rfl,rfl,a1,a2,a3,a4⟩) (λx s'' he=>?_) λ_ _ hF=>hF.elim)))
  obtain ⟨r2,items2,h2,tk2,rfl,rfl,K2,sr,ht2,hks2⟩:=he
  have hS2:=K2 _ _ hS1
  have hI2:=K2 _ _ hoI'
  have r2S:r2≠S:=λz=>Er _ (Cj (Bf hS1) (by rw[<- z]; exact sr))
  have r2I:r2≠I:=λz=>Er _ (Cj (Bf hoI') (by rw[<- z]; exact sr))
  have put:∀{c:Nat},True->∃c2,(h2.update S (Cy λ_=>#[v,.ref r2])).get? S=some (Dm "list" #[v,.ref r2] c2):=λ_=>⟨_,Iw hS2 λ_=>#[v,.ref r2]⟩
  obtain ⟨c2,hc2⟩:=put (c:=c) trivial
  have s1:=Eh h2 S (Cy λ_=>#[v,.ref r2])
  have ht3:IsTup (h2.update S (Cy λ_=>#[v,.ref r2])) r2 items2:=by
   obtain ⟨o,ho,rr⟩:=ht2
   exact ⟨o,(s1.2 r2 r2S).trans ho,rr⟩
  rcases hB with ⟨z,rfl⟩ | ⟨i,vb,r,items,hi,hvb,rfl,rS,rI,ht,hks,hmax,hfst⟩
  ·subst z
   show wpAny _ A.in1 (updateSeq S (λ_=>#[v,.ref r2]) >>= _) _ _ _
   refine Ag ?_
   refine Ks hS2 rfl ?_
   rw[hname]
   refine Ay ⟨Hh PySem.F.plain_max_loop _,ih 1 _ _ _ c2 (by omega) hlt (Mm (K1.trans K2) nS) ⟨oI',(s1.2 I hSI.symm).trans hI2,hoc,hod⟩ hc2 (.inr ⟨0,v,r2,items2,by omega,hv,rfl,r2S,r2I,ht3,hks2,λj' hj'=>?_,λj' hj'=>absurd hj' (Mv _)⟩)⟩
   obtain rfl:j'=0:=by omega
   exact Rn _
  ·have htb:IsTup h2 r items:=by
    obtain ⟨o,ho,rr⟩:=ht
    exact ⟨o,K2 _ _ (hk' r o (by simpa using rI) ho),rr⟩
   show wpAny _ A.in1 (Wj (Lu [v,.ref r2] (richCompare .Gt (.ref r2) (.ref r) >>= _)) _ >>= _) _ _ _
   refine Ag (Jx (Em (Ag (HT.gt_tupInts ht2 htb hks2 hks hu ?_))))
   refine Ag (Em (Fl ?_))
   refine Ag (Jy (Ay ?_))
   cases hb':HT.lexLt (kl i) (kl j) with
   | true =>
    simp only[if_true]
    refine Ag ?_
    refine Ks hS2 rfl (Ag (Jy ?_))
    rw[hname]
    refine Ay ⟨Hh PySem.F.plain_max_loop _,ih (j+1) _ _ _ c2 (by omega) hlt (Mm (K1.trans K2) nS) ⟨oI',(s1.2 I hSI.symm).trans hI2,hoc,hod⟩ hc2 (.inr ⟨j,v,r2,items2,by omega,hv,rfl,r2S,r2I,ht3,hks2,λj' hj'=>?_,λj' hj'=>?_⟩)⟩
    rotate_left
    ·cases q:HT.lexLt (kl j') (kl j) with
     | true=>rfl
     | false =>
      cases q2:HT.lexLt (kl j) (kl j') with
      | true =>
       have:=Tb hb' q2
       rw[hmax j' hj'] at this
       cases this
      | false =>
       have e:=Xf q q2
       have:=hmax j' hj'
       rw[e,hb'] at this
       cases this
    by_cases e:j'=j
    ·subst e; exact Rn _
    ·cases q:HT.lexLt (kl j) (kl j') with
     | false=>rfl
     | true =>
      have:=Tb hb' q
      rw[hmax j' (by omega)] at this
      cases this
   | false =>
    simp only[Ck,if_false]
    refine Ag (Jy ?_)
    rw[hname]
    refine Ay ⟨Hh PySem.F.plain_max_loop _,ih (j+1) _ _ _ _ (by omega) hlt (K1.trans K2) ⟨oI',hI2,hoc,hod⟩ hS2 (.inr ⟨i,vb,r,items,by omega,hvb,rfl,rS,rI,htb,hks,λj' hj'=>?_,hfst⟩)⟩
    by_cases e:j'=j
    ·subst e; exact hb'
    ·exact hmax j' (by omega)
theorem nW{Q:Value->Al->Prop}(hh:A.handled=none)(hu:A.in1.units<cLine)(hl:s.heap.IsList l vs.toArray)(hne:0<vs.length)(turn:∀(i:Nat) (v:Value),vs[i]? = some v->∀(h:Heap) (tk:Nat),Fj s.heap h->∀Rr:Value->Al->Prop,(∀r items h2 tk2,Fj h h2->h.objs.size<=r->IsTup h2 r items->Dw items.toList (kl i)->Rr (.ref r) { s with heap:=h2,toks:=tk2 })->wpAny (model prog w) A.in1 (call (.ref f) [v]) Rr (λ_ _=>False) { s with heap:=h,toks:=tk })(hQ:∀i v h' tk',vs[i]? = some v->(∀j,j<vs.length->HT.lexLt (kl i) (kl j)=false)->(∀j,j<i->HT.lexLt (kl j) (kl i)=true)->Fj s.heap h'->Q v { s with heap:=h',toks:=tk' }):wpAny (model prog w) A (call (.builtin "max") [.ref l] [(Hs "key",.ref f)]) Q E s:=by
 have hname:(So "max" ++ So ".loop" : String) = "max.loop" := by decide
 obtain ⟨ol,hol,_⟩:=id hl
 have hll:l<s.heap.objs.size:=Bf hol
 refine kmb_tree PySem.F.kind_max PySem.F.plain_max PySem.F.entry_max (kmb_max_key _ _) ?_
 show wpAny _ A.in1 (Ha "max" ["key", "default"] 0 ⟨[],[(Hs "key",.ref f)]⟩ >>= _) _ _ s
 refine Ag (wpAny_of_eq (show Ha "max" ["key", "default"] 0 ⟨[],[(Hs "key",.ref f)]⟩=pure [some (.ref f),none] from rfl) ?_)
 refine Ag (Ay ?_)
 refine Ag (bT hl ?_)
 refine Ag (Rx ?_ (Ei _))
 rw[hname]
 have hS:(s.heap.push { cls:=.type "list_iterator",data:=.fields #[.ref l,.int 0 0] }).objs.size=s.heap.objs.size+1:=Tp ..
 refine Ay ⟨Hh PySem.F.plain_max_loop _,mH (s:=s) (h0:=s.heap) (l:=l) (I:=s.heap.objs.size) (S:=(s.heap.push { cls:=.type "list_iterator",data:=.fields #[.ref l,.int 0 0] }).objs.size) (vs:=vs) (kl:=kl) hh hu (Cq hll) (by rw[hS]; exact Nat.succ_ne_self _) (Ma (Ap _)) (Ma (by rw[hS]; omega)) hl hne turn
  (λi v h' tk' h1 h2 h2f h3=>hQ i v h' tk' h1 h2 h2f h3) vs.length 0 _ _ #[] 0 (by omega) (Ei _) (λb o e=>Aj _ (Aj _ e)) ⟨_,Aj _ (Bn _ rfl),rfl,rfl⟩ (Bn _ rfl) (.inl ⟨rfl,rfl⟩)⟩
end
section
variable{prog:Bp}{w:World}{A:Cr}{E:Value->Al->Prop}{s:Al}
theorem mC{f c':Addr}{q x:Str}{params:Lg}{body:Expr}{scope:Scope}{clos:List (Str×Addr)}{pm ctv v:Value}{R:Value->Al->Prop}(hroom:A.depth<Lr)(ho:s.heap.get? f=some (PySem.W.kla_obj "<lambda>" q params body scope clos pm c' ctv))(hcd:s.heap.CodeRec (.ref c') q)(hnl:s.heap.NoLimit)(hbind:bindArgs (PySem.W.kla_fn "<lambda>" q params body scope clos pm (.ref c') ctv) ⟨[v],[]⟩=pure [(x,v)])(hx:scope.names.lookup x=some .local)(hco:scope.isCoroutine=false)(hgen:scope.isGenerator=false)(hk:scope.kind=.function)(hcell:∀y∈scope.names,y.2≠.cell)(hb:∀L h₁,h₁.Ns L (λy=>[(x,v)].reverse.lookup y)->Fj s.heap h₁->s.heap.objs.size<=h₁.objs.size->wpAny (model prog w) (A.deeper (PySem.W.envX q scope L f (.ref c') clos)) (eval body (PySem.W.envX q scope L f (.ref c') clos)) R (λ_ _=>False) { s with heap:=h₁,toks:=s.toks+1 }):wpAny (model prog w) A (call (.ref f) [v]) R E s:=by
 refine wpAny_call (PySem.W.kla_callFunE hroom ho rfl hco hgen rfl hcd ?_)
 rw[hbind]
 refine Ay (wpAny_newFunctionEnv hcell (λy hy=>?_) (λh₁ hns hsb=>⟨hnl.fresh _ hsb,?_⟩) hk)
 ·rw[Am.mp hy]; exact hx
 have hk₁:Fj s.heap h₁:=λb o e=>hsb.extBut b o (Cq (Bf e)) (Aj _ e)
 exact PySem.W.kla_codeExpr (Ez (hb _ h₁ hns hk₁ (Lb hns.lt)) (λv s' z=>z) λ_ _ z=>z.elim)
theorem rB{env:Env}{p1 p2 p3 p4 p5 p6 p7 p8 p9 p10:Pos}{m mg mb:Str->Option Value}{c cn l ln r:Addr}{its us ins:List Value}{i a:Int}{t ta:Tok}{x1:Nat}{R:Value->Al->Prop}(hk:env.scope.kind=.function)(hn:env.kindOf "number" = some .local)(hw:env.kindOf "words" = some .free)(hnm:env.kindOf "numbers" = some .free)(hl:env.kindOf "len" = some .globalImplicit)(hm:s.heap.Ns env.locals m)(hv:m "number" = some (.int i t))(hc:env.cells.lookup ("words" : Str)=some c)(hcv:s.heap.IsCell c (some (.ref l)))(hc2:env.cells.lookup ("numbers" : Str)=some cn)(hcv2:s.heap.IsCell cn (some (.ref ln)))(hg:s.heap.Ns env.globals mg)(hg0:mg "len" = none)(hb:s.heap.Ns env.builtins mb)(hb0:mb "len" = some (.builtin "len"))(hL:s.heap.IsList l its.toArray)(hLn:s.heap.IsList ln ins.toArray)(h0:0<=i)(hi:i<2 ^ 63)(hr:its.toArray[i.toNat]? = some (.ref r))(ha:ins.toArray[i.toNat]? = some (.int a ta))(hT:IsTup s.heap r us.toArray)(hz:us.length<2 ^ 62)(h:∀t' tk,R (.ref s.heap.objs.size) { s with heap:=s.heap.push { cls:=.type "tuple",data:=.seq #[.int a ta,.int (-(us.length:Int)) t'] },toks:=tk }):wpAny (model prog w) A (eval (.Tuple [.Subscript (.Name "numbers" p7) (.Name "number" p8) p9,.UnaryOp .USub (.Call (.Name "len" p1) [.Subscript (.Name "words" p2) (.Name "number" p3) p4] [] p5) p6] x1 p10) env) R E s:=by
 refine wpAny_Tuple_spliced ?_
 refine Nl (Subscript_ (Px (Xo hk hnm hc2 hcv2 (Px (Wi hk hn hm hv ?_) (by decide))) (by decide)))
 refine item_listR hLn h0 hi ha ?_
 refine Nl (Yx hk hn hw hl hm hv hc hcv hg hg0 hb hb0 hL h0 hi hr hT hz λt' tk=>Wo ⟨?_,?_⟩)
 ·exact sz (by show 2<=1000; decide)
 ·exact h t' tk
end
def My(nums:List Int)(kf:Nat->Nat)(k:Nat):List Int:=[nums.getD k 0,-((kf k:Nat):Int)]
def L4(K:PySem.W.Frag)(xs:List V)(wn ww:V)(H:Hp)(Q:VK):Prop:=∃(p:Addr) (ns:List Nat) (pn:Addr) (nums:List Int) (pw:Addr) (rs:List Addr) (kf:Nat->Nat),xs=[.ref p]/\Pu K H p (ns.map λk:Nat=>V.int k)/\ns≠[]/\wn=.ref pn/\Pu K H pn (nums.map V.int)/\ww=.ref pw/\Pu K H pw (rs.map V.ref) /\
 (∀k∈ns,k<nums.length/\k<rs.length)/\(∀(i:Nat) a,rs[i]? = some a->∃ys,Se K H a ys/\ys.length=kf i)/\∀(M:Nat) (H1:Hp),M∈ns->Qm H H1->(∀x∈ns,HT.lexLt (My nums kf M) (My nums kf x)=false)->(∃i,ns[i]? = some M/\∀(j x:Nat),j<i->ns[j]? = some x->HT.lexLt (My nums kf x) (My nums kf M)=true)->Q (.int M) H1
def J2(K:PySem.W.Frag)(jn jw:Nat)(t:TA):TE:=λσ H Q=>t σ H λxs H1=>∃wn ww,σ[jn]? = some (some wn)/\σ[jw]? = some (some ww)/\L4 K xs wn ww H1 Q
section
variable{X:Cx}{e:Expr}{t:TA}{p1 kp pos lp q1 q2 q3 q4 q5 q6 q7 q8 q9 q10:Pos}{x1:Nat}{k jn jw:Nat}{x:Str}{params:Lg}{scope:Scope}{cw cn:Addr}
theorem vR(hg:Gl X "max")(hm:X.mg "max" = none)(hml:X.mg "len" = none)(hr:Room k X.A)(hcalm:X.calm=true)(Lm:LamOf X x params (.Tuple [.Subscript (.Name "numbers" q7) (.Name "number" q8) q9,.UnaryOp .USub (.Call (.Name "len" q1) [.Subscript (.Name "words" q2) (.Name "number" q3) q4] [] q5) q6] x1 q10) scope "number" [("words",cw),("numbers",cn)])(hcw:X.env.cells.lookup ("words" : Str)=some cw)(hcn:X.env.cells.lookup ("numbers" : Str)=some cn)(hkc:X.env.kindOf "words" = some .cell)(hkn:X.env.kindOf "numbers" = some .cell)(hN:X.N[jw]? = some "words")(hNn:X.N[jn]? = some "numbers")(hwf:scope.names.lookup ("words" : Str)=some .free)(hnf:scope.names.lookup ("numbers" : Str)=some .free)(hlg:scope.names.lookup ("len" : Str)=some .globalImplicit)(ha:PA X [e] t)(hs:Bs [e] X.env=[(false,eval e X.env)]:=by rfl):PE X (.Call (.Name "max" p1) [e] [⟨some "key",.Lambda params (.Tuple [.Subscript (.Name "numbers" q7) (.Name "number" q8) q9,.UnaryOp .USub (.Call (.Name "len" q1) [.Subscript (.Name "words" q2) (.Name "number" q3) q4] [] q5) q6] x1 q10) scope lp,kp⟩] pos) (J2 X.K jn jw t):=by
 intro pins s σ H Q I h
 refine Gk (Qq I hg hm (u:=.builtin "max") (by decide +kernel) ?_)
 refine Mr (Jo (ha pos pins s σ H _ I h) λus s1 ⟨vs,H1,I1,r1,q1⟩=>?_) (by rw[hs]; rfl) (by rw[hs]; rfl)
 obtain ⟨wn,ww,hwn,hww,p,ns,pn,nums,pw,rs,kf,rfl,hpl,hne,rfl,hpn,rfl,hpw,hin,hx',q⟩:=q1
 obtain ⟨u,rfl,ru⟩:=vals1 r1
 cases ru
 obtain ⟨c,P,ht,hcode⟩:=Lm.tab
 refine kws_cons (rV I1 Lm.mem ht hcode Lm.qual Lm.dfl Lm.cl λf c' pm ctv H2 s2 I2 sm ho hcd=>kws_nil ?_)
 have hs:Be=16777216:=Le
 have cellOf:∀{nm:Str} {j:Nat} {b a:Addr},X.N[j]? = some nm->X.env.kindOf nm=some .cell->X.env.cells.lookup nm=some b->σ[j]? = some (some (.ref a))->s2.heap.IsCell b (some (.ref a)):=λ{nm j b a} h1 h2 h3 h4=>by
  obtain ⟨m,hns,hl⟩:=I2.loc
  obtain ⟨u,ru,l⟩:=hl j nm (.ref a) h1 h4 (.inr (.inl h2))
  cases ru
  rcases l with ⟨hk,_⟩ | ⟨hk,c1,hc1,hcell⟩
  ·rw[h2] at hk; cases hk
  ·rw[h3] at hc1; cases hc1; exact hcell
 have cellW:=cellOf hN hkc hcw hww
 have cellN:=cellOf hNn hkn hcn hwn
 obtain ⟨its,rv,plw,hz⟩:=I2.list (cQ hpw sm)
 have e1:=Rv rv
 subst e1
 obtain ⟨fv,rf,plf,hzf⟩:=I2.list (cQ hpl sm)
 obtain ⟨nv,rn,pln,hzn⟩:=I2.list (cQ hpn sm)
 have lf:=rf.length
 rw[Aa] at lf
 obtain ⟨mb,hb1,hb2⟩:=I2.mod.blt
 have hbl:mb "len" = some (.builtin "len"):=(hb2 "len" (by decide)).trans (by decide +kernel)
 have atF:∀(i:Nat) (v:Value),fv[i]? = some v->∃k t,ns[i]? = some k/\v=.int (k:Int) t:=λi v hv=>by
  have hi:i<ns.length:=by rw[lf]; exact (Ah.mp hv).1
  obtain ⟨u,h1,t,h2⟩:=rf.get (i:=i) (x:=.int ((ns[i]:Nat):Int)) (by rw[Ao,Ai hi]; rfl)
  rw[hv] at h1
  cases h1
  exact ⟨ns[i],t,Ai hi,h2⟩
 refine nW (f:=f) (vs:=fv) (kl:=λi=>My nums kf (ns.getD i 0)) (I2.ok.hd hcalm) (show X.A.in1.units<cLine from Nat.lt_of_le_of_lt (show X.A.units+1<=X.A.units+64 by omega) hr.units) plf.isList (by rw[<- lf]; exact List.length_pos_iff.mpr hne) (λi v hv hh tk hkeep R hR=>?_) λi v h' tk' hv hmax hfst kk=>?_
 ·obtain ⟨k,t,hk,rfl⟩:=atF i v hv
  obtain ⟨b1,b2⟩:=hin k (An hk)
  have gk:ns.getD i 0=k:=by rw[Bv,hk]; rfl
  obtain ⟨a,hra⟩ : ∃a,rs[k]? = some a:=⟨_,Ai b2⟩
  obtain ⟨ys,hy,hyl⟩:=hx' k a hra
  obtain ⟨us,ru,pt,hz2⟩:=I2.tuple (pY hy sm)
  have hlu:=ru.length
  obtain ⟨z,hzz⟩ : ∃z,nums[k]? = some z:=⟨_,Ai b1⟩
  obtain ⟨zv,hz3,tz,rfl⟩:=rn.get (i:=k) (x:=.int z) (by rw[Ao,hzz]; rfl)
  have gz:nums.getD k 0=z:=by rw[Bv,hzz]; rfl
  have k0:Fj s2.heap hh:=hkeep
  refine mC (x := "number") (show X.A.in1.depth<Lr from hr.depth) (k0 _ _ ho) ?_ ?_ (Lm.bind _ _ _ _) Lm.loc Lm.co Lm.gen Lm.kind Lm.cell λL h₁ hns hk1 sizes=>?_
  ·obtain ⟨c2,oc,vs2,t2,e2,g3,g4⟩:=hcd
   exact ⟨c2,oc,vs2,t2,e2,k0 _ _ g3,g4⟩
  ·exact I2.nolimit.keeps k0
  ·have k2:Fj s2.heap h₁:=k0.trans hk1
   obtain ⟨oL,nL,eL,rL⟩:=plw
   obtain ⟨oN,nN,eN,rN⟩:=pln
   obtain ⟨oc,ec,dc⟩:=cellW
   obtain ⟨oc2,ec2,dc2⟩:=cellN
   obtain ⟨ot,et,dt⟩:=pt
   refine rB (l:=pw) (ln:=pn) (r:=a) (us:=us) (its:=rs.map Bg) (ins:=nv) (i:=(k:Int)) (t:=t) (a:=z) (ta:=tz) Lm.kind Lm.loc hwf hnf hlg hns rfl rfl ⟨oc,k2 _ _ ec,dc⟩ rfl ⟨oc2,k2 _ _ ec2,dc2⟩ ((I2.mod.glob.keeps I2.bk).keeps k2) hml ((hb1.keeps I2.bk).keeps k2) hbl (PlainL.isList ⟨oL,nL,k2 _ _ eL,rL⟩) (PlainL.isList ⟨oN,nN,k2 _ _ eN,rN⟩) (by omega) (by rw[Aa] at hz; omega) ?_ ?_ ⟨ot,k2 _ _ et,dt⟩ (by omega) λt' tk'=>?_
   ·rw[Ed,Ic,Ao,hra]; rfl
   ·rw[Ed,Ic]; exact hz3
   ·refine hR _ _ _ _ (λb o e=>Aj _ (hk1 b o e)) sizes (IsTup.new _ _) ?_
    show Dw [.int z tz,.int (-(us.length:Int)) t'] (My nums kf (ns.getD i 0))
    unfold My
    rw[gk,gz,<- hyl,hlu]
    exact .cons _ _ (.cons _ _ .nil)
 ·obtain ⟨k,t,hk,rfl⟩:=atF i v hv
  have gk:ns.getD i 0=k:=by rw[Bv,hk]; rfl
  refine ⟨.int k,H2,I2.kept (t':=tk') kk,⟨t,rfl⟩,q k H2 (An hk) sm (λy hy=>?_) ⟨i,hk,λj x lt hx=>by
   have:=hfst j lt
   rw[gk,Bv,hx] at this
   exact this⟩⟩
  obtain ⟨j,hj⟩:=By.mp hy
  have hjl:=(Ah.mp hj).1
  have:=hmax j (by omega)
  rw[gk,Bv,hj] at this
  exact this
end
end Nd
namespace DL
open PySem PySem.Spec PyProof.Rows L2 Nd Ts
def Uh(ws:List (List Int))(i:Nat):Nat:=(ws.getD i []).length
def V8(jn jw:Nat)(x:DV)(δ:DS)(P:DV->DS->Prop):Prop:=match x,δ.sl[jn]?,δ.sl[jw]? with
 | .dat _ (.list ds),some (.dat _ (.list es)),some (.dat _ (.list gs))=>∃(ns:List Nat) (nums:List Int) (ws:List (List Int)),ds=ns.map (λk:Nat=>Ad k)/\es=nums.map Ad/\gs=ws.map Cf/\ns≠[]/\(∀k∈ns,k<nums.length/\k<ws.length) /\
  ∀M∈ns,(∀x∈ns,HT.lexLt (My nums (Uh ws) M) (My nums (Uh ws) x)=false)->(∃i,ns[i]? = some M/\∀(j x:Nat),j<i->ns[j]? = some x->HT.lexLt (My nums (Uh ws) x) (My nums (Uh ws) M)=true)->P (.dat .ow (.int (M:Nat))) δ
 | _,_,_=>False
def yF(jn jw:Nat)(de:DE):DE:=λδ P=>de δ λx δ1=>V8 jn jw x δ1 P
section
variable{X:Cx}{e:Expr}{de:DE}{p1 kp pos lp q1 q2 q3 q4 q5 q6 q7 q8 q9 q10:Pos}{x1:Nat}{k jn jw:Nat}{x:Str}{params:Lg}{scope:Scope}{cw cn:Addr}
theorem wU(hc:X.calm=true)(hr:Room k X.A)(hg:Gl X "max")(hm:X.mg "max" = none)(hml:X.mg "len" = none)(Lm:LamOf X x params (.Tuple [.Subscript (.Name "numbers" q7) (.Name "number" q8) q9,.UnaryOp .USub (.Call (.Name "len" q1) [.Subscript (.Name "words" q2) (.Name "number" q3) q4] [] q5) q6] x1 q10) scope "number" [("words",cw),("numbers",cn)])(hcw:X.env.cells.lookup ("words" : Str)=some cw)(hcn:X.env.cells.lookup ("numbers" : Str)=some cn)(hkc:X.env.kindOf "words" = some .cell)(hkn:X.env.kindOf "numbers" = some .cell)(hN:X.N[jw]? = some "words")(hNn:X.N[jn]? = some "numbers")(hwf:scope.names.lookup ("words" : Str)=some .free)(hnf:scope.names.lookup ("numbers" : Str)=some .free)(hlg:scope.names.lookup ("len" : Str)=some .globalImplicit)(ha:En X e de)(he:Bs [e] X.env=[(false,eval e X.env)]:=by rfl):En X (.Call (.Name "max" p1) [e] [⟨some "key",.Lambda params (.Tuple [.Subscript (.Name "numbers" q7) (.Name "number" q8) q9,.UnaryOp .USub (.Call (.Name "len" q1) [.Subscript (.Name "words" q2) (.Name "number" q3) q4] [] q5) q6] x1 q10) scope lp,kp⟩] pos) (yF jn jw de):=by
 refine PE.imp (vR hg hm hml hr hc Lm hcw hcn hkc hkn hN hNn hwf hnf hlg (Iq ha Qx he) he) λσ H Q h=>?_
 obtain ⟨H0,Y,S,T,δ,P,rfl,hS,hA,hd,k⟩:=h
 refine ⟨H0,Y,S,T,δ,_,rfl,hS,hA,hd,λx δ' v F S' H' e1 e2 hA' p=>?_⟩
 unfold V8 at p
 split at p
 ·rename_i m ds m' es m2 gs hsn hsw
  obtain ⟨ns,nums,ws,rfl,rfl,rfl,hne,hin,p⟩:=p
  have look:∀{j:Nat} {mm:Md} {d:Ac},δ'.sl[j]? = some (.dat mm d)->∃v G,(vs S)[j]? = some (some v)/\RdF X.K H' v d G:=λ{j mm d} hj=>by
   obtain ⟨⟨u,y,G⟩,es,ex⟩:=Ky e2 hj
   have ex:y=.dat mm d:=ex
   subst ex
   obtain ⟨v,ev,rd,_⟩:=hA'.ok _ (Au _ (An es))
   have ev:u=some v:=ev
   subst ev
   exact ⟨v,G,by rw[<- e1]; exact Pw es,rd⟩
  obtain ⟨vn,Gn,hvn,rdn⟩:=look hsn
  obtain ⟨vw,Gw,hvw,rdw⟩:=look hsw
  obtain ⟨an,xn,Gn',rfl,hln,ran,_,_⟩:=rdn.list_inv
  obtain ⟨rfl,_⟩:=ran.ints_inv
  obtain ⟨aw,xw,Gw',rfl,hlw,raw,_,hz'⟩:=rdw.list_inv
  obtain ⟨rs,rfl,ews,_,c1,c2⟩:=Tt raw rfl
  obtain ⟨a,xs,G',rfl,hla,ra,_,_⟩:=(hA'.told mem_mid).list_inv
  have exs:xs=ns.map λk:Nat=>V.int k:=by
   have e9:(ns.map λk:Nat=>Ad k)=(ns.map λk:Nat=>(k:Int)).map Ad:=by rw[Bz]; rfl
   rw[e9] at ra
   obtain ⟨rfl,_⟩:=ra.ints_inv
   rw[Bz]
   rfl
  subst exs
  have lrs:rs.length=ws.length:=by rw[ews,Aa]
  refine ⟨.ref an,.ref aw,hvn,hvw,a,ns,an,nums,aw,rs,Uh ws,rfl,Pu.of hla,hne,rfl,Pu.of hln,rfl,Pu.of hlw,λk hk=>by rw[lrs]; exact hin k hk,λi b hb=>?_,λM H1 hM sm hmax hfst=>?_⟩
  ·refine ⟨_,Se.of (c1 b (An hb)),?_⟩
   have : ws[i]? = some (uA H' b):=by rw[ews,Ao,hb]; rfl
   rw[Aa]
   show _=(ws.getD i []).length
   rw[Bv,this]
   rfl
  ·exact k _ δ' _ [] S' _ e1 e2 ((hA'.drop.grow sm (Ap _)).pushI (RdF.int _)) (p M hM hmax hfst)
 ·exact p.elim
end
end DL
namespace DL
open PySem PySem.Spec PyProof.Rows L2 Nd
def U5(K:PySem.W.Frag):V->List V->Hp->VK->Prop:=λx xs H Q=>∃p ys y d ds j,x=.ref p/\xs=[y]/\Pu K H p ys/\RdV K H y d/\RdVs K H ys ds/\Bh ds<=60/\ds.findIdx? (λe=>Dq e d)=some j/\Q (.int (j:Nat)) H
theorem Zq{X:Cx}{pins:List (Addr×Obj)}{σ:L2.St}{H:Hp}{s:Al}(I:Inv X pins σ H s){d:Ac}:∀{xs:List V} {ds:List Ac} {us:List Value},RdVs X.K H xs ds->Fi xs us->∀(j:Nat) (e:Ac) (u:Value),ds[j]? = some e->us[j]? = some u->Kj X.K H d u=Dq e d
 | _,_,_,.nil,r,j,e,u,h1,h2=>by simp at h1
 | _,_,_,.cons h t,r,0,e,u,h1,h2=>by
  cases r with
  | cons r1 r2 =>
   simp at h1 h2
   subst h1 h2
   exact Yu I h r1
 | _,_,_,.cons h t,r,j+1,e,u,h1,h2=>by
  cases r with
  | cons r1 r2=>exact Zq I t r2 j e u (by simpa using h1) (by simpa using h2)
theorem qC{X:Cx}(hu:X.A.units+64<cLine):Y7 X "list.index" (U5 X.K):=by
 intro pins s σ H x xs v us Q I rx rs h
 obtain ⟨p,ys,y,d,ds,j,rfl,rfl,hq,hy,hs,hd,hj,q⟩:=h
 cases rx
 obtain ⟨u,rfl,ry⟩:=vals1 rs
 obtain ⟨its,r,pl,hz⟩:=I.list hq
 have hu1:X.A.in1.units+Bh ds<cLine:=by have:=Rm X.A; omega
 obtain ⟨⟨cls,dd,data,sl⟩,ho,hc,n,hd2⟩:=id pl.isList
 simp only at hc hd2
 subst hc hd2
 have l1:=r.length
 have l2:=hs.length
 obtain ⟨hjl,hit,hno⟩:=List.findIdx?_eq_some_iff_getElem.mp hj
 have hn:=Sx
 have hjs:j<its.toArray.size:=by rw[Aq]; omega
 refine Zy PySem.F.slot_list_index ⟨_,ho,rfl⟩ PySem.F.entry_list_index (PySem.F.args_list_index_2 _ _)
  (PySem.SeqAt.list_indexAt p its.toArray n dd sl u (Kj X.K H d) j hjs (by omega) ?_ ?_) ⟨ho,λw hw=>Mc I hy ry hs r hu1 w (by simpa using hw),⟨.int (j:Nat),H,I.tok _,⟨_,rfl⟩,q⟩⟩
 ·rw[Zq I hs r j ds[j] _ (Ai hjl) (by simp [Ai (show j<its.length by omega)])]
  exact hit
 ·intro m hm hlt
  rw[Aq] at hm
  rw[Zq I hs r m (ds[m]'(by omega)) _ (Ai _) (by simp [Ai hm])]
  simpa using hno m hlt
def vN(ds:List Ac)(y:DV)(δ:DS)(P:DV->DS->Prop):Prop:=match y with
 | .dat _ d=>Bh ds<=60/\d.depth<=60/\∃j,ds.findIdx? (λe=>Dq e d)=some j/\P (.dat .ow (.int (j:Nat))) δ
 | _=>False
def uU(x:DV)(δ:DS)(db:DE)(P:DV->DS->Prop):Prop:=match x with
 | .dat _ (.list ds)=>db δ λy δ2=>vN ds y δ2 P
 | _=>False
def F7(da db:DE):DE:=λδ P=>da δ λx δ1=>uU x δ1 db P
section
variable{X:Cx}{o e:Expr}{da db:DE}{apos cpos:Pos}
theorem fY(hu:X.A.units+64<cLine)(ho:En X o da)(he:En X e db)
  (hbase:Rz o "index" X.env (eval o X.env)=eval o X.env:=by rfl) (hline:(apos.endLine == cpos.line)=true:=by rfl)
  (hfew:((Ih cpos (Bs [e] X.env)).all (λx=>!x.1) && (backToKw cpos (Wl [] X.env)).all (λx=>x.1.isSome)
   && decide (([e]:List Expr).length+([]:List Ri).length+(if ([]:List Ri).isEmpty then 0 else 1)<30))=true:=by rfl)
  (hs:Bs [e] X.env=[(false,eval e X.env)]:=by rfl):En X (.Call (.Attribute o "index" apos) [e] [] cpos) (F7 da db):=by
 refine PE.imp (xY PySem.F.plainAttrs_list PySem.F.slot_list_index PySem.F.type_list_index (qC hu) ho (Iq he Qx hs) hbase hfew hline hs rfl) λσ H Q h=>?_
 obtain ⟨H0,Y,S,T,δ,P,rfl,hS,hA,hd,k⟩:=h
 refine ⟨H0,Y,S,T,δ,_,rfl,hS,hA,hd,λx δ1 v F S1 H1 e1 e2 hA1 p1=>?_⟩
 unfold uU at p1
 split at p1
 ·rename_i m ds
  obtain ⟨a,xs,G',rfl,hla,ra,_,_⟩:=(hA1.told mem_mid).list_inv
  refine ⟨.inl ⟨rfl,xs,Pu.of hla⟩,?_⟩
  refine ⟨H0,Y,S1,⟨some (.ref a),.dat m (.list ds),F⟩::T,δ1,_,e1,e2,hA1,p1,λy δ2 w G S2 H2 e3 e4 hA2 p2=>?_⟩
  unfold vN at p2
  split at p2
  ·obtain ⟨d1,d2,j,hj,p3⟩:=p2
   obtain ⟨b,ys,G2,eb,hlb,rb,_,_⟩:=(hA2.told Es).list_inv
   cases eb
   refine ⟨a,ys,w,_,ds,j,rfl,rfl,Pu.of hlb,(hA2.told mem_mid).rd (Cm d2 (by decide)),rb.rd (Cm d1 (by decide)),d1,hj,?_⟩
   exact k _ δ2 _ [] S2 _ e3 e4 (hA2.drop2.pushI (.int _)) p3
  ·exact p2.elim
 ·exact p1.elim
end
end DL
namespace DL
open PySem L2 Nd
end DL
namespace Nd
open PySem PySem.Spec PyProof.Rows L2
end Nd
namespace DL
open PySem PySem.Spec PyProof.Rows L2 Nd
end DL
namespace NdS
open PySem
end NdS
namespace NdS
open PySem PyProof.Rows
end NdS
namespace Nd
open PySem PySem.Spec PyProof.Rows L2 NdS
end Nd
namespace Nd
open PySem L2
end Nd
namespace DL
open PySem PySem.Spec PyProof.Rows L2 Nd
end DL
namespace NdW
open PySem PyProof.Rows NdS
end NdW
namespace Nd
open PySem PySem.Spec PyProof.Rows L2 NdS NdW
end Nd
namespace DL
open PySem PySem.Spec PyProof.Rows L2 Nd
def R7(t u:DB)(D:DEnds)(b:Bool)(δ:DS):Prop:=match b with
 | true=>t D δ
 | false=>u D δ
def O0(x:DV)(δ:DS)(P:DV->DS->Prop):Prop:=match x with
 | .dat _ d=>imm d=true/\P (.dat .ow d) δ
 | _=>False
def AC(i:Nat)(s:Option DV)(δ:DS)(P:DV->DS->Prop):Prop:=match s with
 | some (.dat .pk _)=>False
 | some (.dat _ d)=>P (.dat .sh d) ⟨δ.sl.set i (.dat .sh d),δ.n⟩
 | _=>False
def tupB(xs:List DV)(δ:DS)(P:DV->DS->Prop):Prop:=match datas xs with
 | some ds=>ds.length<=1000/\P (.dat (pkMd .sh xs) (.tuple ds)) δ
 | none=>False
def lstB(xs:List DV)(δ:DS)(P:DV->DS->Prop):Prop:=match datas xs with
 | some ds=>ds.length<=1000/\P (.dat (pkMd .tp xs) (.list ds)) δ
 | none=>False
def yE(x:DV)(δ:DS)(P:Option Int->DS->Prop):Prop:=match x with
 | .dat _ (.int i)=>P (some i) δ
 | _=>False
def X4(i:Bool)(x:DV)(l h:Option Int)(δ:DS)(P:DV->DS->Prop):Prop:=match x with
 | .dat m (.list ds)=>Wg i m (Ko ds l h) λz=>P z δ
 | .dat m (.tuple ds)=>pP i m (Ko ds l h) λz=>P z δ
 | _=>False
def AE(xs:List DV)(δ:DS)(P:DV->DS->Prop):Prop:=match xs with
 | [.dat _ (.list ds)]=>∃ns:List Int,ds=ns.map Ad/\(∀x∈ns,0<=x/\x<60)/\P (.dat .ow (.list ((K4 ns).map Ad))) δ
 | [.dat _ (.tuple ds)]=>∃ns:List Int,ds=ns.map Ad/\(∀x∈ns,0<=x/\x<60)/\P (.dat .ow (.list ((K4 ns).map Ad))) δ
 | _=>False
def bB(x:DV)(δ:DS)(P:Bool->DS->Prop):Prop:=match x with
 | .dat _ (.bool b)=>P b δ
 | _=>False
def K7(x:DV)(δ:DS)(P:Bool->DS->Prop):Prop:=match x with
 | .dat _ d=>P0 d/\P (xP d) δ
 | _=>False
def eV(du:DT)(b:Bool)(δ:DS)(P:Bool->DS->Prop):Prop:=match b with
 | true=>du δ P
 | false=>P false δ
def Y8(du:DT)(b:Bool)(δ:DS)(P:Bool->DS->Prop):Prop:=match b with
 | true=>P true δ
 | false=>du δ P
def O7(x:DV)(δ:DS)(P:DV->DS->Prop):Prop:=match x with
 | .dat _ (.bool b)=>P (.dat .ow (.bool (!b))) δ
 | _=>False
def vO(db:DE)(x:DV)(δ:DS)(P:DV->DS->Prop):Prop:=match x with
 | .dat _ (.bool true)=>db δ P
 | .dat _ (.bool false)=>P (.dat .ow (.bool false)) δ
 | _=>False
def X2(da db:DE)(b:Bool)(δ:DS)(P:DV->DS->Prop):Prop:=match b with
 | true=>da δ P
 | false=>db δ P
def lB(x:DV)(δ:DS)(P:Md->List Ac->DS->Prop):Prop:=match x with
 | .dat m (.list ds)=>P (Kd m) ds δ
 | _=>False
def Y4(x:DV)(δ:DS)(P:Md->List Ac->DS->Prop):Prop:=match x with
 | .dat m (.tuple ds)=>P (Kd m) ds δ
 | _=>False
def xS(xs:List DV)(δ:DS)(P:Md->List Ac->DS->Prop):Prop:=match xs with
 | [.dat _ (.int j)]=>-1000000<=j/\j<=1000000/\P .sh ((Cb j.toNat).map λi:Nat=>.int i) δ
 | _=>False
def zB(xs:List DV)(δ:DS)(P:Md->List Ac->DS->Prop):Prop:=match xs with
 | [.dat m (.list ds)]=>P (Kd m) (ds.zipIdx.map λp=>.tuple [.int p.2,p.1]) δ
 | _=>False
def L3(dg:DG)(db:DB)(D:DEnds)(m:Md)(ds:List Ac)(δ1:DS):Prop:=m=.sh/\∃I:Nat->DS->Prop,I 0 δ1 /\
 (∀i d δ',ds[i]? = some d->I i δ'->dg (.dat .sh d) δ' λδ2=>db { D with nx:=I (i+1),ct:=I (i+1),bk:=D.nx } δ2)/\∀δ',I ds.length δ'->D.nx δ'
def qM(js:List Nat)(dc:DT)(de:DE)(P:DV->DS->Prop)(m:Md)(ds:List Ac)(δ1:DS):Prop:=∃I:Nat->List Ac->Nat->Prop,I 0 [] δ1.n /\
 (∀i d acc n,ds[i]? = some d->I i acc n->Oh dc de ⟨.dat m d::frD δ1.sl js,n⟩ (λe n'=>I (i+1) (acc++[e]) n') (λn'=>I (i+1) acc n')) /\
 ∀acc n,I ds.length acc n->P (.dat .ow (.list acc)) ⟨δ1.sl,n⟩
def tR(js:List Nat)(dc:DT)(de:DE)(P:DV->DS->Prop)(m:Md)(ds:List Ac)(δ1:DS):Prop:=∃I:Nat->List Ac->Nat->Prop,I 0 [] δ1.n /\
 (∀i d acc n,ds[i]? = some d->I i acc n->∃d1 d2,d=.tuple [d1,d2]/\Oh dc de ⟨.dat m d1::.dat m d2::frD δ1.sl js,n⟩ (λe n'=>I (i+1) (acc++[e]) n') (λn'=>I (i+1) acc n')) /\
 ∀acc n,I ds.length acc n->P (.dat .ow (.list acc)) ⟨δ1.sl,n⟩
def jH(js:List Nat)(dc:DT)(de:DE)(P:DV->DS->Prop)(m:Md)(ds:List Ac)(δ1:DS):Prop:=∃I:Nat->List Ac->Nat->Prop,I 0 [] δ1.n /\
 (∀i d acc n,ds[i]? = some d->I i acc n->Jt false dc de ⟨.dat m d::frD δ1.sl js,n⟩ (λe n'=>I (i+1) (acc++[e]) n') (λn'=>I (i+1) acc n')) /\
 ∀acc n,I ds.length acc n->P (.dat .tp (.list acc)) ⟨δ1.sl,n⟩
def wC(yes:Ac->Nat->Prop)(y:DV)(δ:DS):Prop:=match y with
 | .dat _ e=>imm e=true/\yes e δ.n
 | _=>False
def kD(de:DE)(yes:Ac->Nat->Prop)(no:Nat->Prop)(b:Bool)(δ:DS):Prop:=match b with
 | true=>de δ λy δ3=>wC yes y δ3
 | false=>no δ.n
def tS(yes:Ac->Nat->Prop)(y:DV)(δ:DS):Prop:=match y with
 | .dat m e=>m≠.pk/\yes e δ.n
 | _=>False
def sF(de:DE)(yes:Ac->Nat->Prop)(no:Nat->Prop)(b:Bool)(δ:DS):Prop:=match b with
 | true=>de δ λy δ3=>tS yes y δ3
 | false=>no δ.n
def callB(pf:PF)(xs:List DV)(δ:DS)(P:DV->DS->Prop):Prop:=match datas xs with
 | some ds=>pf ds λd=>P (.dat .ow d) δ
 | none=>False
def callBW(i:Nat)(df:DF)(xs:List DV)(δ:DS)(P:DV->DS->Prop):Prop:=match δ.sl[i]? with
 | some .drw=>match datas xs with
  | some ds=>df ds δ.n λd n'=>P (.dat .ow d) ⟨δ.sl,n'⟩
  | none=>False
 | _=>False
def pF(xs:List DV)(δ:DS)(P:DV->DS->Prop):Prop:=match xs with
 | [.dat _ (.int _)]=>P .drw δ
 | _=>False
def appB(i:Nat)(y:DV)(δ:DS)(D:DEnds):Prop:=match δ.sl[i]?,y with
 | some (.dat m (.list ds)),.dat _ e=>own1 m=true/\npk δ.sl=true/\imm e=true/\ds.length<1000000/\D.nx ⟨δ.sl.set i (.dat m (.list (ds++[e]))),δ.n⟩
 | _,_=>False
def setB(i:Nat)(y z:DV)(δ:DS)(D:DEnds):Prop:=match δ.sl[i]?,y,z with
 | some (.dat m (.list ds)),.dat _ e,.dat _ (.int k)=>own1 m=true/\npk δ.sl=true/\imm e=true/\Dv ds=true/\∃j,oM ds.length k=some j/\D.nx ⟨δ.sl.set i (.dat m (.list (ds.set j e))),δ.n⟩
 | _,_,_=>False
def callAB(pf:PF)(xs:List DV)(δ:DS)(P:DV->DS->Prop):Prop:=match datas xs with
 | some ds=>pf ds λd=>P (.dat .sh d) δ
 | none=>False
theorem e_maxL{jn jw:Nat}{de:DE}{δ:DS}{P:DV->DS->Prop}:yF jn jw de δ P=(de δ λx δ1=>V8 jn jw x δ1 P):=rfl
theorem e_idx{da db:DE}{δ:DS}{P:DV->DS->Prop}:F7 da db δ P=(da δ λx δ1=>uU x δ1 db P):=rfl
theorem e_idxB{m:Md}{ds:List Ac}{db:DE}{δ:DS}{P:DV->DS->Prop}:uU (.dat m (.list ds)) δ db P=(db δ λy δ2=>vN ds y δ2 P):=rfl
theorem e_idxC{ds:List Ac}{m:Md}{d:Ac}{δ:DS}{P:DV->DS->Prop}:vN ds (.dat m d) δ P=(Bh ds<=60/\d.depth<=60/\∃j,ds.findIdx? (λe=>Dq e d)=some j/\P (.dat .ow (.int (j:Nat))) δ):=rfl
theorem e_sortL{j:Nat}{de:DE}{δ:DS}{P:DV->DS->Prop}:sI j de δ P=(de δ λx δ1=>N9 j x δ1 P):=rfl
theorem e_seq{t u:DB}{D:DEnds}{δ:DS}:F8 t u D δ=(t { D with nx:=λδ'=>u D δ' } δ):=rfl
theorem e_skip{D:DEnds}{δ:DS}:yQ D δ=(D.nx δ):=rfl
theorem e_ret{de:DE}{D:DEnds}{δ:DS}:Q4 de D δ=(de δ D.rt):=rfl
theorem e_if{dt:DT}{t u:DB}{D:DEnds}{δ:DS}:X3 dt t u D δ=(dt δ (R7 t u D)):=rfl
theorem e_asg{de:DE}{dg:DG}{D:DEnds}{δ:DS}:sX de dg D δ=(de δ λx δ'=>dg x δ' D.nx):=rfl
theorem e_name{i:Nat}{m:Md}{d:Ac}{δ:DS}{Q:DS->Prop}:Np i (.dat .ow d) δ Q=(Q ⟨δ.sl.set i (.dat .sh d),δ.n⟩):=rfl
theorem e_name2{i:Nat}{m:Md}{d:Ac}{δ:DS}{Q:DS->Prop}:Np i (.dat .sh d) δ Q=(Q ⟨δ.sl.set i (.dat .sh d),δ.n⟩):=rfl
theorem e_name3{i:Nat}{m:Md}{d:Ac}{δ:DS}{Q:DS->Prop}:Np i (.dat .tp d) δ Q=(Q ⟨δ.sl.set i (.dat .sh d),δ.n⟩):=rfl
theorem e_name4{i:Nat}{δ:DS}{Q:DS->Prop}:Np i .drw δ Q=(Q ⟨δ.sl.set i .drw,δ.n⟩):=rfl
theorem e_own{i:Nat}{d:Ac}{δ:DS}{Q:DS->Prop}:fT i (.dat .ow d) δ Q=(Q ⟨δ.sl.set i (.dat .ow d),δ.n⟩):=rfl
theorem e_nF{i:Nat}{x:DV}{δ:DS}{Q:DS->Prop}:T6 false i x δ Q=(Np i x δ Q):=rfl
theorem e_gtup{n:Nat}{gs:rY}{m:Md}{ds:List Ac}{δ:DS}{Q:DS->Prop}:tP n gs (.dat m (.tuple ds)) δ Q=(ds.length=n/\gs (ds.map λd=>.dat (Mx m) d) δ Q):=rfl
theorem e_gsn{δ:DS}{Q:DS->Prop}:oR [] δ Q=(Q δ):=rfl
theorem e_gsc{g:DG}{gs:rY}{x:DV}{r:List DV}{δ:DS}{Q:DS->Prop}:lQ g gs (x::r) δ Q=(g x δ λδ'=>gs r δ' Q):=rfl
theorem e_op{rd:D2}{da db:DE}{δ:DS}{P:DV->DS->Prop}:Tw rd da db δ P=(da δ λx δ1=>db δ1 λy δ2=>rd x y λz=>P z δ2):=rfl
theorem e_var{i:Nat}{δ:DS}{P:DV->DS->Prop}:A6 i δ P=(match δ.sl[i]? with | some (.dat m d)=>P (.dat (jK m) d) δ | _=>False):=rfl
theorem e_c{d:Ac}{δ:DS}{P:DV->DS->Prop}:dC d δ P=(P (.dat .ow d) δ):=rfl
theorem e_imm{de:DE}{δ:DS}{P:DV->DS->Prop}:Q6 de δ P=(de δ λx δ'=>O0 x δ' P):=rfl
theorem e_immB{m:Md}{d:Ac}{δ:DS}{P:DV->DS->Prop}:O0 (.dat m d) δ P=(imm d=true/\P (.dat .ow d) δ):=rfl
theorem e_take{i:Nat}{δ:DS}{P:DV->DS->Prop}:pD i δ P=(match δ.sl[i]? with | some (.dat m d)=>P (.dat m d) ⟨δ.sl.set i .un,δ.n⟩ | _=>False):=rfl
theorem e_I{C:Int->Int->Prop}{g:Int->Int->Ac}{i j:Int}{m m':Md}{P:DV->Prop}:B1 C g (.dat m (.int i)) (.dat m' (.int j)) P=(C i j/\P (.dat .ow (g i j))):=rfl
theorem e_I0{g:Int->Int->Ac}{i j:Int}{m m':Md}{P:DV->Prop}:aO g (.dat m (.int i)) (.dat m' (.int j)) P=(P (.dat .ow (g i j))):=rfl
theorem e_eqF{d e:Ac}{m m':Md}{P:DV->Prop}:bW false (.dat m d) (.dat m' e) P=(d.depth<=60/\e.depth<=60/\P (.dat .ow (.bool (Dq d e)))):=rfl
theorem e_eqT{d e:Ac}{m m':Md}{P:DV->Prop}:bW true (.dat m d) (.dat m' e) P=(d.depth<=60/\e.depth<=60/\P (.dat .ow (.bool (!Dq d e)))):=rfl
theorem e_inFt_w1{nes:List Int}{d:Ac}{es:List Ac}{m m':Md}{P:DV->Prop}:mK false (.dat m d) (.dat m' (Cf nes)) P=(Bh (nes.map Ad)<=60/\d.depth<=60/\P (.dat .ow (.bool ((nes.map Ad).any λe=>Dq e d)))):=rfl
theorem e_inTt_w1{nes:List Int}{d:Ac}{es:List Ac}{m m':Md}{P:DV->Prop}:mK true (.dat m d) (.dat m' (Cf nes)) P=(Bh (nes.map Ad)<=60/\d.depth<=60/\P (.dat .ow (.bool (!((nes.map Ad).any λe=>Dq e d))))):=rfl
theorem e_isNF{d:Ac}{m m':Md}{P:DV->Prop}:kC false (.dat m d) (.dat m' .none) P=(P (.dat .ow (.bool (isNone d)))):=rfl
theorem e_ixl{ds:List Ac}{i:Int}{m m':Md}{P:DV->Prop}:qU (.dat m (.list ds)) (.dat m' (.int i)) P=(∃d,Py ds i=some d/\P (.dat (Mx m) d)):=rfl
theorem e_ixt{ds:List Ac}{i:Int}{m m':Md}{P:DV->Prop}:qU (.dat m (.tuple ds)) (.dat m' (.int i)) P=(∃d,Py ds i=some d/\P (.dat (Mx m) d)):=rfl
theorem e_cat{ds es:List Ac}{m m':Md}{P:DV->Prop}:jZ (.dat m (.list ds)) (.dat m' (.list es)) P=(Dv ds=true/\Dv es=true/\ds.length+es.length<=1000000/\P (.dat .ow (.list (ds++es)))):=rfl
theorem e_catT_w1{nds:List Int}{ds es:List Ac}{m m':Md}{P:DV->Prop}:cH (.dat m (Cf nds)) (.dat m' (.tuple es)) P=(Dv (nds.map Ad)=true/\Dv es=true/\(nds.map Ad).length+es.length<=1000000/\P (.dat .ow (.tuple ((nds.map Ad)++es)))):=rfl
theorem e_rep{ds:List Ac}{k:Int}{m m':Md}{P:DV->Prop}:lS (.dat m (.list ds)) (.dat m' (.int k)) P=(Dv ds=true /\ -1000000<=k/\k<=1000000/\ds.length * k.toNat<=1000000/\P (.dat .ow (.list (Ci k.toNat ds).flatten))):=rfl
theorem e_nlT{m:Md}{ds:List Ac}{P:DV->Prop}:Wg true m ds P=(Dv ds=true/\P (.dat .ow (.list ds))):=rfl
theorem e_pkOfsh  : jK .sh=(Md.sh):=rfl
theorem e_mdInsh  : Mx .sh=(Md.sh):=rfl
theorem e_mdInow  : Mx .ow=(Md.ow):=rfl
theorem e_mdItsh  : Kd .sh=(Md.sh):=rfl
theorem e_mdItow  : Kd .ow=(Md.sh):=rfl
theorem e_nil{δ:DS}{P:List DV->DS->Prop}:P5 δ P=(P [] δ):=rfl
theorem e_cons{de:DE}{da:DA}{δ:DS}{P:List DV->DS->Prop}:yD de da δ P=(de δ λx δ1=>da δ1 λxs δ2=>P (x::xs) δ2):=rfl
theorem e_tup{da:DA}{δ:DS}{P:DV->DS->Prop}:M3 da δ P=(da δ λxs δ'=>tupB xs δ' P):=rfl
theorem e_lst{da:DA}{δ:DS}{P:DV->DS->Prop}:P3 da δ P=(da δ λxs δ'=>lstB xs δ' P):=rfl
theorem e_noPart{δ:DS}{P:Option Int->DS->Prop}:kE δ P=(P none δ):=rfl
theorem e_part{de:DE}{δ:DS}{P:Option Int->DS->Prop}:yW de δ P=(de δ λx δ'=>yE x δ' P):=rfl
theorem e_partB{m:Md}{i:Int}{δ:DS}{P:Option Int->DS->Prop}:yE (.dat m (.int i)) δ P=(P (some i) δ):=rfl
theorem e_sl{i:Bool}{de:DE}{dl dh:DO}{δ:DS}{P:DV->DS->Prop}:X9 i de dl dh δ P=(de δ λx δ1=>dl δ1 λl δ2=>dh δ2 λh δ3=>X4 i x l h δ3 P):=rfl
theorem e_slBl{i:Bool}{m:Md}{ds:List Ac}{l h:Option Int}{δ:DS}{P:DV->DS->Prop}:X4 i (.dat m (.list ds)) l h δ P=(Wg i m (Ko ds l h) λz=>P z δ):=rfl
theorem e_cb{rd:DC}{da:DA}{δ:DS}{P:DV->DS->Prop}:O5 rd da δ P=(da δ λxs δ1=>rd xs λz=>P z δ1):=rfl
theorem e_lenl{ds:List Ac}{m m':Md}{P:DV->Prop}:lK [.dat m (.list ds)] P=(P (.dat .ow (.int ds.length))):=rfl
theorem e_lent_w1{nds:List Int}{ds:List Ac}{m m':Md}{P:DV->Prop}:lK [.dat m (Cf nds)] P=(P (.dat .ow (.int (nds.map Ad).length))):=rfl
theorem e_listl{i:Bool}{ds:List Ac}{m m':Md}{P:DV->Prop}:jE i [.dat m (.list ds)] P=(Wg i m ds P):=rfl
theorem e_intb{i:Bool}{m m':Md}{P:DV->Prop}:rX [.dat m (.bool i)] P=(P (.dat .ow (.int (if i=true then 1 else 0)))):=rfl
theorem e_max2{i j:Int}{m m':Md}{P:DV->Prop}:iR [.dat m (.int i),.dat m' (.int j)] P=(P (.dat .ow (.int (if j > i then j else i)))):=rfl
theorem e_min2{i j:Int}{m m':Md}{P:DV->Prop}:jD [.dat m (.int i),.dat m' (.int j)] P=(P (.dat .ow (.int (if j<i then j else i)))):=rfl
theorem e_MinL{ds:List Ac}{m m':Md}{P:DV->Prop}:iN [.dat m (.list ds)] P=(∃ns:List Int,ds=ns.map Ad/\ns≠[]/\∀M∈ns,(∀x∈ns,M<=x)->P (.dat .ow (.int M))):=rfl
theorem e_all{ds:List Ac}{m m':Md}{P:DV->Prop}:qZ [.dat m (.list ds)] P=(∃bs:List Bool,ds=bs.map PyData.bool/\P (.dat .ow (.bool (bs.all id)))):=rfl
theorem e_isi{d:Ac}{n:String}{m m':Md}{P:DV->Prop}:pX [.dat m d,.val (.ty n)] P=((n = "int" \/ n = "bool" \/ n = "str" \/ n = "list" \/ n = "tuple")/\P (.dat .ow (.bool (Tg d n)))):=rfl
theorem e_v{v:V}{δ:DS}{P:DV->DS->Prop}:dV v δ P=(P (.val v) δ):=rfl
theorem e_b{de:DE}{δ:DS}{P:Bool->DS->Prop}:dB de δ P=(de δ λx δ'=>bB x δ' P):=rfl
theorem e_bB{m:Md}{b:Bool}{δ:DS}{P:Bool->DS->Prop}:bB (.dat m (.bool b)) δ P=(P b δ):=rfl
theorem e_tru{de:DE}{δ:DS}{P:Bool->DS->Prop}:C4 de δ P=(de δ λx δ'=>K7 x δ' P):=rfl
theorem e_truB{m:Md}{d:Ac}{δ:DS}{P:Bool->DS->Prop}:K7 (.dat m d) δ P=(P0 d/\P (xP d) δ):=rfl
theorem e_notT{dt:DT}{δ:DS}{P:Bool->DS->Prop}:xV dt δ P=(dt δ λb δ'=>P (!b) δ'):=rfl
theorem e_andT{dt du:DT}{δ:DS}{P:Bool->DS->Prop}:yZ dt du δ P=(dt δ λb δ'=>eV du b δ' P):=rfl
theorem e_andTt{du:DT}{δ:DS}{P:Bool->DS->Prop}:eV du true δ P=(du δ P):=rfl
theorem e_andTf{du:DT}{δ:DS}{P:Bool->DS->Prop}:eV du false δ P=(P false δ):=rfl
theorem e_orT{dt du:DT}{δ:DS}{P:Bool->DS->Prop}:G5 dt du δ P=(dt δ λb δ'=>Y8 du b δ' P):=rfl
theorem e_not{de:DE}{δ:DS}{P:DV->DS->Prop}:J1 de δ P=(de δ λx δ'=>O7 x δ' P):=rfl
theorem e_notB{m:Md}{b:Bool}{δ:DS}{P:DV->DS->Prop}:O7 (.dat m (.bool b)) δ P=(P (.dat .ow (.bool (!b))) δ):=rfl
theorem e_and{da db:DE}{δ:DS}{P:DV->DS->Prop}:P7 da db δ P=(da δ λx δ'=>vO db x δ' P):=rfl
theorem e_andt{db:DE}{m:Md}{δ:DS}{P:DV->DS->Prop}:vO db (.dat m (.bool true)) δ P=(db δ P):=rfl
theorem e_andf{db:DE}{m:Md}{δ:DS}{P:DV->DS->Prop}:vO db (.dat m (.bool false)) δ P=(P (.dat .ow (.bool false)) δ):=rfl
theorem e_ifE{dt:DT}{da db:DE}{δ:DS}{P:DV->DS->Prop}:N6 dt da db δ P=(dt δ λb δ'=>X2 da db b δ' P):=rfl
theorem e_dL{de:DE}{δ:DS}{P:Md->List Ac->DS->Prop}:dL de δ P=(de δ λx δ'=>lB x δ' P):=rfl
theorem e_dTp{de:DE}{δ:DS}{P:Md->List Ac->DS->Prop}:Y2 de δ P=(de δ λx δ'=>Y4 x δ' P):=rfl
theorem e_lB{m:Md}{ds:List Ac}{δ:DS}{P:Md->List Ac->DS->Prop}:lB (.dat m (.list ds)) δ P=(P (Kd m) ds δ):=rfl
theorem e_tpB_w1{nds:List Int}{m:Md}{ds:List Ac}{δ:DS}{P:Md->List Ac->DS->Prop}:Y4 (.dat m (Cf nds)) δ P=(P (Kd m) (nds.map Ad) δ):=rfl
theorem e_range1{da:DA}{δ:DS}{P:Md->List Ac->DS->Prop}:eU da δ P=(da δ λxs δ'=>xS xs δ' P):=rfl
theorem e_rng1B{m:Md}{j:Int}{δ:DS}{P:Md->List Ac->DS->Prop}:xS [.dat m (.int j)] δ P=(-1000000<=j/\j<=1000000/\P .sh ((Cb j.toNat).map λi:Nat=>.int i) δ):=rfl
theorem e_enum{da:DA}{δ:DS}{P:Md->List Ac->DS->Prop}:pU da δ P=(da δ λxs δ'=>zB xs δ' P):=rfl
theorem e_enumB{m:Md}{ds:List Ac}{δ:DS}{P:Md->List Ac->DS->Prop}:zB [.dat m (.list ds)] δ P=(P (Kd m) (ds.zipIdx.map λp=>.tuple [.int p.2,p.1]) δ):=rfl
theorem e_for{di:DI}{dg:DG}{db:DB}{D:DEnds}{δ:DS}:E6 di dg db D δ=(di δ (L3 dg db D)):=rfl
theorem e_comp{di:DI}{js:List Nat}{dc:DT}{de:DE}{δ:DS}{P:DV->DS->Prop}:tQ di js dc de δ P=(di δ (qM js dc de P)):=rfl
theorem e_comp2{di:DI}{js:List Nat}{dc:DT}{de:DE}{δ:DS}{P:DV->DS->Prop}:tD di js dc de δ P=(di δ (tR js dc de P)):=rfl
theorem e_compL{di:DI}{js:List Nat}{dc:DT}{de:DE}{δ:DS}{P:DV->DS->Prop}:tM di js dc de δ P=(di δ (jH js dc de P)):=rfl
theorem e_stepL{dc:DT}{de:DE}{δ:DS}{yes:Ac->Nat->Prop}{no:Nat->Prop}:Jt false dc de δ yes no=(dc δ λb δ2=>sF de yes no b δ2):=rfl
theorem e_stepLT{de:DE}{δ:DS}{yes:Ac->Nat->Prop}{no:Nat->Prop}:sF de yes no true δ=(de δ λy δ3=>tS yes y δ3):=rfl
theorem e_noTest{δ:DS}{P:Bool->DS->Prop}:dJ δ P=(P true δ):=rfl
theorem e_step{dc:DT}{de:DE}{δ:DS}{yes:Ac->Nat->Prop}{no:Nat->Prop}:Oh dc de δ yes no=(dc δ λb δ2=>kD de yes no b δ2):=rfl
theorem e_stepT{de:DE}{δ:DS}{yes:Ac->Nat->Prop}{no:Nat->Prop}:kD de yes no true δ=(de δ λy δ3=>wC yes y δ3):=rfl
theorem e_stepF{de:DE}{δ:DS}{yes:Ac->Nat->Prop}{no:Nat->Prop}:kD de yes no false δ=(no δ.n):=rfl
theorem e_yesB{m:Md}{e:Ac}{δ:DS}{yes:Ac->Nat->Prop}:wC yes (.dat m e) δ=(imm e=true/\yes e δ.n):=rfl
theorem e_call{pf:PF}{da:DA}{δ:DS}{P:DV->DS->Prop}:xU pf da δ P=(da δ λxs δ1=>callB pf xs δ1 P):=rfl
theorem e_callW{i:Nat}{df:DF}{da:DA}{δ:DS}{P:DV->DS->Prop}:iP i df da δ P=(match δ.sl[i]? with | some .drw=>da δ λxs δ1=>callBW i df xs δ1 P | _=>False):=rfl
theorem e_draws{da:DA}{δ:DS}{P:DV->DS->Prop}:qN da δ P=(da δ λxs δ1=>pF xs δ1 P):=rfl
theorem e_drawsB{m:Md}{i:Int}{δ:DS}{P:DV->DS->Prop}:pF [.dat m (.int i)] δ P=(P .drw δ):=rfl
theorem e_append{i:Nat}{de:DE}{D:DEnds}{δ:DS}:cU i de D δ=(match δ.sl[i]? with | some (.dat _ (.list _))=>de δ λy δ1=>appB i y δ1 D | _=>False):=rfl
theorem e_setI{i:Nat}{dk de:DE}{D:DEnds}{δ:DS}:yI i dk de D δ=(de δ λy δ1=>match δ1.sl[i]? with | some (.dat _ (.list _))=>dk δ1 λz δ2=>setB i y z δ2 D | _=>False):=rfl
theorem e_sumt_w1{nds:List Int}{ds:List Ac}{m m':Md}{P:DV->Prop}:oZ [.dat m (Cf nds)] P=(∃ns:List Int,(nds.map Ad)=ns.map Ad/\P (.dat .ow (.int ns.sum))):=rfl
theorem e_scrSl{i:Nat}{dl dh:DO}{δ:DS}{P:DV->DS->Prop}:iI i dl dh δ P=(match δ.sl[i]? with | some (.scr ns)=>dl δ λl δ2=>dh δ2 λh δ3=>P (.dat .ow (.list ((Ko ns l h).map Ad))) δ3 | _=>False):=rfl
theorem e_sortW{m:Md}{ds:List Ac}{P:DV->Prop}:bZ [.dat m (.list ds)] P=(∃ws:List (List Int),ds=ws.map Cf/\∀L:List (List Int),L.Perm ws->L.Pairwise (λx y=>HT.lexLt y x=false)->P (.dat .ow (.list (L.map Cf)))):=rfl
theorem e_MaxD{k:Int}{m:Md}{ds:List Ac}{P:DV->Prop}:dD k [.dat m (.list ds)] P=(∃ns:List Int,ds=ns.map Ad/\(ns=[]->P (.dat .ow (.int k)))/\∀M∈ns,(∀x∈ns,x<=M)->P (.dat .ow (.int M))):=rfl
theorem e_callA{pf:PF}{da:DA}{δ:DS}{P:DV->DS->Prop}:sS pf da δ P=(da δ λxs δ1=>noPk xs=true/\callAB pf xs δ1 P):=rfl
section
variable{t u:DB}{D:DEnds}{δ δ1:DS}
theorem Vf{α:Type}{dg:DG}{db:DB}{ds:List Ac}{l:List α}{g:α->Ac}(e:ds=l.map g)(I:Nat->DS->Prop)(h0:I 0 δ1)(hs:∀i a δ',l[i]? = some a->I i δ'->dg (.dat .sh (g a)) δ' λδ2=>db { D with nx:=I (i+1),ct:=I (i+1),bk:=D.nx } δ2)(hf:∀δ',I l.length δ'->D.nx δ'):L3 dg db D .sh ds δ1:=by
 subst e
 refine ⟨rfl,I,h0,λi d δ' hd hI=>?_,λδ' h=>hf δ' (by rw[Aa] at h; exact h)⟩
 rw[Ao] at hd
 cases q:l[i]? with
 | none=>rw[q] at hd; cases hd
 | some a=>rw[q] at hd; cases hd; exact hs i a δ' q hI
end
section
variable{js:List Nat}{dc:DT}{de:DE}{P:DV->DS->Prop}{m:Md}{ds:List Ac}{δ1:DS}{α:Type}
theorem We{l:List α}{g:α->Ac}(e:ds=l.map g)(p:α->Bool)(f:α->Ac)(h:∀a∈l,∀(yes:Ac->Nat->Prop) (no:Nat->Prop),(p a=true->yes (f a) δ1.n)->(p a=false->no δ1.n)->Oh dc de ⟨.dat m (g a)::frD δ1.sl js,δ1.n⟩ yes no)(q:P (.dat .ow (.list ((l.filter p).map f))) δ1):qM js dc de P m ds δ1:=by
 subst e
 refine ⟨λi acc n=>n=δ1.n/\acc=((l.take i).filter p).map f,⟨rfl,by simp⟩,λi d acc n hd ⟨hn,ha⟩=>?_,λacc n ⟨hn,ha⟩=>?_⟩
 ·subst hn ha
  rw[Ao] at hd
  cases q:l[i]? with
  | none=>rw[q] at hd; cases hd
  | some a =>
   rw[q] at hd
   cases hd
   refine h a (An q) _ _ (λhp=>⟨rfl,?_⟩) (λhp=>⟨rfl,?_⟩)
   ·rw[Mf q,Hm,Bw]; simp [hp]
   ·rw[Mf q,Hm,Bw]; simp [hp]
 ·subst hn ha
  rw[Aa,Jh]
  exact q
theorem Og{l:List α}{g:α->Ac}(e:ds=l.map g)(f:α->Ac)(h:∀a∈l,∀(yes:Ac->Nat->Prop) (no:Nat->Prop),yes (f a) δ1.n->Oh dc de ⟨.dat m (g a)::frD δ1.sl js,δ1.n⟩ yes no)(q:P (.dat .ow (.list (l.map f))) δ1):qM js dc de P m ds δ1:=by
 refine We e (λ_=>true) f (λa ha yes no hy _=>h a ha yes no (hy rfl)) ?_
 rw[oQ.mpr λ_ _=>rfl]
 exact q
theorem cV{l:List α}{g1 g2:α->Ac}(e:ds=l.map λa=>.tuple [g1 a,g2 a])(p:α->Bool)(f:α->Ac)(h:∀a∈l,∀(yes:Ac->Nat->Prop) (no:Nat->Prop),(p a=true->yes (f a) δ1.n)->(p a=false->no δ1.n)->Oh dc de ⟨.dat m (g1 a)::.dat m (g2 a)::frD δ1.sl js,δ1.n⟩ yes no)(q:P (.dat .ow (.list ((l.filter p).map f))) δ1):tR js dc de P m ds δ1:=by
 subst e
 refine ⟨λi acc n=>n=δ1.n/\acc=((l.take i).filter p).map f,⟨rfl,by simp⟩,λi d acc n hd ⟨hn,ha⟩=>?_,λacc n ⟨hn,ha⟩=>?_⟩
 ·subst hn ha
  rw[Ao] at hd
  cases q:l[i]? with
  | none=>rw[q] at hd; cases hd
  | some a =>
   rw[q] at hd
   cases hd
   refine ⟨_,_,rfl,h a (An q) _ _ (λhp=>⟨rfl,?_⟩) (λhp=>⟨rfl,?_⟩)⟩
   ·rw[Mf q,Hm,Bw]; simp [hp]
   ·rw[Mf q,Hm,Bw]; simp [hp]
 ·subst hn ha
  rw[Aa,Jh]
  exact q
theorem i3{l:List α}{g:α->Ac}(e:ds=l.map g)(p:α->Bool)(f:α->Ac)(h:∀a∈l,∀(yes:Ac->Nat->Prop) (no:Nat->Prop),(p a=true->yes (f a) δ1.n)->(p a=false->no δ1.n)->Jt false dc de ⟨.dat m (g a)::frD δ1.sl js,δ1.n⟩ yes no)(q:P (.dat .tp (.list ((l.filter p).map f))) δ1):jH js dc de P m ds δ1:=by
 subst e
 refine ⟨λi acc n=>n=δ1.n/\acc=((l.take i).filter p).map f,⟨rfl,by simp⟩,λi d acc n hd ⟨hn,ha⟩=>?_,λacc n ⟨hn,ha⟩=>?_⟩
 ·subst hn ha
  rw[Ao] at hd
  cases q:l[i]? with
  | none=>rw[q] at hd; cases hd
  | some a =>
   rw[q] at hd
   cases hd
   refine h a (An q) _ _ (λhp=>⟨rfl,?_⟩) (λhp=>⟨rfl,?_⟩)
   ·rw[Mf q,Hm,Bw]; simp [hp]
   ·rw[Mf q,Hm,Bw]; simp [hp]
 ·subst hn ha
  rw[Aa,Jh]
  exact q
theorem n8{l:List α}{g:α->Ac}(e:ds=l.map g)(f:α->Ac)(h:∀a∈l,∀(yes:Ac->Nat->Prop) (no:Nat->Prop),yes (f a) δ1.n->Jt false dc de ⟨.dat m (g a)::frD δ1.sl js,δ1.n⟩ yes no)(q:P (.dat .tp (.list (l.map f))) δ1):jH js dc de P m ds δ1:=by
 refine i3 e (λ_=>true) f (λa ha yes no hy _=>h a ha yes no (hy rfl)) ?_
 rw[oQ.mpr λ_ _=>rfl]
 exact q
end
theorem bN{t u:DB}{D:DEnds}{b:Bool}{δ:DS}(h1:b=true->t D δ)(h2:b=false->u D δ):R7 t u D b δ:=by
 cases b with
 | true=>exact h1 rfl
 | false=>exact h2 rfl
theorem O2{da db:DE}{b:Bool}{δ:DS}{P:DV->DS->Prop}(h1:b=true->da δ P)(h2:b=false->db δ P):X2 da db b δ P:=by
 cases b with
 | true=>exact h1 rfl
 | false=>exact h2 rfl
theorem rR{du:DT}{b:Bool}{δ:DS}{P:Bool->DS->Prop}(h1:b=true->du δ P)(h2:b=false->P false δ):eV du b δ P:=by
 cases b with
 | true=>exact h1 rfl
 | false=>exact h2 rfl
theorem L6{du:DT}{b:Bool}{δ:DS}{P:Bool->DS->Prop}(h1:b=true->P true δ)(h2:b=false->du δ P):Y8 du b δ P:=by
 cases b with
 | true=>exact h1 rfl
 | false=>exact h2 rfl
theorem n5{db:DE}{m:Md}{b:Bool}{δ:DS}{P:DV->DS->Prop}(h1:b=true->db δ P)(h2:b=false->P (.dat .ow (.bool false)) δ):vO db (.dat m (.bool b)) δ P:=by
 cases b with
 | true=>exact h1 rfl
 | false=>exact h2 rfl
theorem Kf{de:DE}{yes:Ac->Nat->Prop}{no:Nat->Prop}{b:Bool}{δ:DS}(h1:b=true->de δ λy δ3=>wC yes y δ3)(h2:b=false->no δ.n):kD de yes no b δ:=by
 cases b with
 | true=>exact h1 rfl
 | false=>exact h2 rfl
class Im (d:Ac):Prop where
 h:imm d=true
class ImA (ds:List Ac):Prop where
 h:Dv ds=true
theorem im{d:Ac}[h:Im d]:imm d=true:=h.h
theorem W9{ds:List Ac}[h:ImA ds]:Dv ds=true:=h.h
instance {i:Int}:Im (.int i):=⟨by simp [imm]⟩
instance {i:Bool}:Im (.bool i):=⟨by simp [imm]⟩
instance {i:Str}:Im (.str i):=⟨by simp [imm]⟩
instance:Im .none:=⟨by simp [imm]⟩
instance {ds:List Ac} [h:ImA ds]:Im (.tuple ds):=⟨by rw[imm]; exact h.h⟩
instance {ns:List Int}:Im (Cf ns):=⟨sJ ns⟩
instance:ImA []:=⟨by simp [Dv]⟩
instance {d:Ac} {ds:List Ac} [h:Im d] [t:ImA ds]:ImA (d::ds):=⟨by rw[Dv,h.h,t.h]; rfl⟩
instance {α:Type} {f:α->Ac} {l:List α} [h:∀a,Im (f a)]:ImA (l.map f):=⟨Td (λa=>(h a).h) l⟩
instance {a b:List Ac} [h:ImA a] [k:ImA b]:ImA (a++b):=⟨by rw[Ys,h.h,k.h]; rfl⟩
class Dp (d:Ac) (k:outParam Nat):Prop where
 h:d.depth<=k
class DpA (ds:List Ac) (k:outParam Nat):Prop where
 h:Bh ds<=k
theorem dp{d:Ac}{k:Nat}[h:Dp d k](hk:k<=60:=by decide):d.depth<=60:=Cm h.h hk
instance {i:Int}:Dp (.int i) 0:=⟨by simp [Dd]⟩
instance {i:Bool}:Dp (.bool i) 0:=⟨by simp [Dd]⟩
instance {i:Str}:Dp (.str i) 0:=⟨by simp [Dd]⟩
instance:Dp .none 0:=⟨by simp [Dd]⟩
instance {ds:List Ac} {k:Nat} [h:DpA ds k]:Dp (.tuple ds) (k+1):=⟨by have:=h.h; simp only[Dd]; omega⟩
instance {ds:List Ac} {k:Nat} [h:DpA ds k]:Dp (.list ds) (k+1):=⟨by have:=h.h; simp only[Dd]; omega⟩
instance {ns:List Int}:Dp (Cf ns) 1:=⟨jU ns⟩
instance:DpA [] 0:=⟨by simp [Bh]⟩
instance {d:Ac} {ds:List Ac} {k j:Nat} [h:Dp d k] [t:DpA ds j]:DpA (d::ds) (k+j):=⟨by have:=h.h; have:=t.h; simp only[Bh]; omega⟩
instance {α:Type} {f:α->Ac} {l:List α} {k:Nat} [h:∀a,Dp (f a) k]:DpA (l.map f) k:=⟨Wc λx hx=>by
 obtain ⟨a,_,rfl⟩:=Bl.mp hx
 exact (h a).h⟩
theorem cD{a b:List Ac}:Bh (a++b)<=Bh a+Bh b:=by
 induction a with
 | nil=>simp [Bh]
 | cons x a ih=>simp only[Hg,Bh]; omega
instance {a b:List Ac} {k j:Nat} [h:DpA a k] [t:DpA b j]:DpA (a++b) (k+j):=⟨by have:=h.h; have:=t.h; have:=cD (a:=a) (b:=b); omega⟩
theorem eqD_bl(i j:Bool):Dq (.bool i) (.bool j)=(i == j):=by simp [Dq]
theorem eqD_str(i j:Str):Dq (.str i) (.str j)=(i == j):=by simp [Dq]
theorem qR(a b:List Ac):Dq (.list a) (.list b)=Mk a b:=by simp [Dq]
theorem uW(a b:List Ac):Dq (.tuple a) (.tuple b)=Mk a b:=by simp [Dq]
theorem Yo{α:Type}[DecidableEq α]{f:α->Ac}(h:∀a b,Dq (f a) (f b)=decide (a=b)):∀l m:List α,Mk (l.map f) (m.map f)=decide (l=m)
 | [],[]=>by simp [Mk]
 | [],_::_=>by simp [Mk]
 | _::_,[]=>by simp [Mk]
 | a::l,b::m=>by simp [Mk,h,Yo h l m]
theorem eqD_intd(i j:Int):Dq (.int i) (.int j)=decide (i=j):=by simp [Dq]; rfl
theorem gL(a b:List Int):Dq (Cf a) (Cf b)=decide (a=b):=by
 unfold Cf
 rw[uW,Yo eqD_intd]
def wordsD(ws:List (List Int)):Ac:=.list (ws.map Cf)
instance {ws:List (List Int)}:Dp (wordsD ws) 2:=⟨(inferInstance:Dp (.list (ws.map Cf)) 2).h⟩
def kT(ns:List Int):Ac:=.list (ns.map Ad)
instance {ns:List Int}:Dp (kT ns) 1:=⟨(inferInstance:Dp (.list (ns.map Ad)) 1).h⟩
theorem qA(a b:List Int):Dq (kT a) (kT b)=decide (a=b):=by
 unfold kT
 rw[qR,Yo eqD_intd]
theorem any_int(ns:List Int)(i:Int):((ns.map Ad).any λe=>Dq e (.int i))=decide (i∈ns):=by
 rw[List.any_map]
 induction ns with
 | nil=>rfl
 | cons n ns ih =>
  rw[List.any_cons,ih]
  simp only[Function.comp,eqD_intd,List.mem_cons]
  by_cases h:n=i
  ·subst h; simp
  ·have : ¬ i=n:=λz=>h z.symm
   simp [h,this]
theorem Xg{α β:Type}(f:α->β)(l:List α):(l.map f).zipIdx=l.zipIdx.map λp=>(f p.1,p.2):=by
 rw[List.zipIdx_map]
 rfl
theorem Xe{α β:Type}(f:α->β)(l:List α)(i:Int):Py (l.map f) i=(Py l i).map f:=by
 unfold Py
 rw[Aa]
 cases oM l.length i with
 | none=>rfl
 | some j=>simp
theorem Qz{α:Type}{l:List α}{i:Int}(h0:0<=i)(h1:i<l.length):∃a,l[i.toNat]? = some a/\Py l i=some a/\a∈l:=by
 have hk:i.toNat<l.length:=by omega
 refine ⟨l[i.toNat],by simp [hk],?_,List.getElem_mem hk⟩
 have q:Py l ((i.toNat:Nat):Int)=some l[i.toNat]:=wR (by simp [hk])
 rwa [show ((i.toNat:Nat):Int)=i by omega] at q
theorem im_e{d:Ac}[h:Im d]:(imm d=true)=True:=eq_true h.h
theorem ima_e{ds:List Ac}[h:ImA ds]:(Dv ds=true)=True:=eq_true h.h
theorem dp_e{d:Ac}{k:Nat}[h:Dp d k](hk:k<=60):(d.depth<=60)=True:=eq_true (Cm h.h hk)
theorem dpa_e{ds:List Ac}{k:Nat}[h:DpA ds k](hk:k<=60):(Bh ds<=60)=True:=eq_true (Cm h.h hk)
theorem eqD_li(a b:List Int):Dq (.list (a.map Ad)) (.list (b.map Ad))=decide (a=b):=qA a b
theorem eqD_l0(a:List Ac):Dq (.list a) (.list [])=a.isEmpty:=uO a
theorem ow_e{d:Ac}{R:Ac->Prop}:(∃e,DV.dat .ow d=.dat .ow e/\R e)=R d:=by
 apply propext
 constructor
 ·(intro q_; obtain ⟨e,h,r⟩ := q_); cases h; exact r
 ·intro r; exact ⟨d,rfl,r⟩
theorem tt_e{m:Md}{b:Bool}:(∃m',DV.dat m (.bool b)=.dat m' (.bool true))=(b=true):=by
 apply propext
 constructor
 ·rintro ⟨e,h⟩; cases h; rfl
 ·intro r; subst r; exact ⟨m,rfl⟩
theorem cdiv_e{i j:Int}:C1 i j=(0<j/\j<1073741824):=rfl
theorem cpow_e{i j:Int}:zN i j=(0<=j/\j<=1000000/\i.natAbs<2 ^ 64):=rfl
theorem lF{sl sl':List DV}{n n':Nat}(h:sl=sl')(h':n=n'):(⟨sl,n⟩ : DS)=⟨sl',n'⟩:=by subst h h'; rfl
theorem Ml{j i a:Nat}(h:(Cb j)[i]? = some a):a=i/\i<j:=by
 obtain ⟨h1,h2⟩:=Ah.mp h
 rw[Ct] at h1
 rw[List.getElem_range] at h2
 exact ⟨h2.symm,h1⟩
def NP(v:DV):Prop:=∀l,npk (v::l)=npk l
theorem Jf:NP .un:=λ_=>rfl
theorem Fp{d:Ac}:NP (.dat .sh d):=λ_=>rfl
theorem sY:NP .drw:=λ_=>rfl
theorem yM{α:Type}(x y:α)(b:Bool):Py [x,y] (if b=true then 1 else 0)=some (if b=true then y else x):=by cases b <;> rfl
theorem isi_ib(i:Int):Tg (.int i) "bool" = false:=by simp [Tg,pZ]
theorem isi_bb(i:Bool):Tg (.bool i) "bool" = true:=by simp [Tg,pZ]
theorem K8{ns:List Int}(k:Nat):(Ko ns none (some (k:Int))).length<=k:=by
 rw[aX,Dj]
 exact Nat.min_le_left _ _
theorem ifB_lt{t u:DB}{D:DEnds}{δ:DS}:R7 t u D true δ=t D δ:=rfl
theorem ifB_lf{t u:DB}{D:DEnds}{δ:DS}:R7 t u D false δ=u D δ:=rfl
theorem str_self(s:Str):(s == s)=true:=by simp
theorem Lo{α:Type}{l:List α}{i:Nat}{a:α}(h:l[i]? = some a):Py l (i:Int)=some a:=by
 obtain ⟨b,e1,e2,_⟩:=Qz (l:=l) (i:=(i:Int)) (by omega) (by have:=(Ah.mp h).1; omega)
 rw[e2,<- e1,<- h]; rfl
theorem okT_l{ds:List Ac}:P0 (.list ds)=True:=rfl
theorem yesL_ow{e:Ac}{δ:DS}{yes:Ac->Nat->Prop}:tS yes (.dat .ow e) δ=yes e δ.n:=propext ⟨λh=>h.2,λh=>⟨by decide,h⟩⟩
theorem r6{m m':Md}{ds es:List Ac}{P:DV->Prop}(h1:m≠.pk)(h2:m'≠.pk):Zp (.dat m (.list ds)) (.dat m' (.list es)) P=(ds.length+es.length<=1000000/\P (.dat .tp (.list (ds++es)))):=propext ⟨λh=>h.2.2,λh=>⟨h1,h2,h⟩⟩
theorem catL_show{ds es:List Ac}{P:DV->Prop}:Zp (.dat .sh (.list ds)) (.dat .ow (.list es)) P=(ds.length+es.length<=1000000/\P (.dat .tp (.list (ds++es)))):=r6 (by decide) (by decide)
theorem atI_0{α:Type}(x:α)(l:List α):Py (x::l) 0=some x:=Lo (i:=0) rfl
theorem atI_1{α:Type}(x y:α)(l:List α):Py (x::y::l) 1=some y:=Lo (i:=1) rfl
theorem Q5{α:Type}(x y z:α)(l:List α):Py (x::y::z::l) 2=some z:=Lo (i:=2) rfl
theorem L0{α:Type}(x y z t:α)(l:List α):Py (x::y::z::t::l) 3=some t:=Lo (i:=3) rfl
theorem some_e{α:Type}{a:α}{R:α->Prop}:(∃d,some a=some d/\R d)=R a:=propext ⟨λ⟨_,e,h⟩=>by cases e; exact h,λh=>⟨a,rfl,h⟩⟩
theorem dec_self{α:Type}(a:α)[h:Decidable (a=a)]:decide (a=a)=true:=by simp
theorem retA_tp{d:Ac}{R:Ac->Prop}:(∃m d',DV.dat .tp d=.dat m d'/\m≠.pk/\R d')=R d:=propext ⟨λ⟨m,d',e,_,h⟩=>by cases e; exact h,λh=>⟨_,_,rfl,by decide,h⟩⟩
end DL
namespace K37
open PySem L2 Nd DL
def Mt(i:Nat):Stmt:=PySem.Challenge.pw_needledeck_k37_whole_just_so_often.main.body.getD i (.Pass ⟨0,0,0,0⟩)
abbrev Sv:Stmt:=Mt 1
abbrev Zj:Stmt:=Mt 2
abbrev Qh:Stmt:=Mt 3
abbrev Vq:Stmt:=Mt 5
abbrev Pm:Stmt:=Mt 6
abbrev Ow:Stmt:=Mt 7
abbrev cK:Stmt:=Mt 8
abbrev Nu:Stmt:=Mt 9
abbrev Nw:Stmt:=Mt 10
abbrev Jq:Stmt:=Mt 11
abbrev Zb:Stmt:=Mt 12
abbrev Vr:Stmt:=Mt 13
abbrev cX:Stmt:=Mt 15
abbrev aZ:Stmt:=Mt 16
abbrev Pl:Stmt:=Mt 17
abbrev Rb:Stmt:=Mt 18
abbrev Nv:Stmt:=Mt 19
abbrev Pn:Stmt:=Mt 20
abbrev Mi:Stmt:=Mt 21
abbrev Nt:Stmt:=Mt 22
abbrev Kx:Stmt:=Mt 23
abbrev Jb:Stmt:=Mt 24
abbrev Hw:Stmt:=Mt 25
abbrev Nx:Stmt:=Mt 26
abbrev Kg:Stmt:=Mt 27
abbrev cW:Stmt:=Mt 28
section
variable{P:Bp}{w:World}{K:PySem.W.Frag}{mg:Str->Option Value}{base:Heap}
theorem Z8:FnScope ["_law_cell"] ["_law_cell"] (Br cX):=⟨rfl,rfl,rfl,by decide +kernel,rfl,by decide +kernel,by decide +kernel⟩
theorem pJ{f:Addr}{fd:Bx}(F:Fun K "_law_draws" "_law_draws" cX f fd):FnOk P w K mg base Gc 1 f fd ["_law_cell"] Tu:=by
 refine F.ok Z8 (λvs H Q E h=>?_) (λcdv A outer s H vs Q E hr h=>?_)
 ·obtain ⟨c,rfl,_⟩:=h
  rfl
 obtain ⟨c,rfl,q⟩:=h
 refine ⟨_,Fq (lH (kH sH (pv 0) (Ew Te Dc Dc) (Nr _)) (Pi (Ta (jJ (Iq (Ew Mn (pv 0) (Ew vZ (Ew Te Dc Dc) Dc)) (Iq Dc (Iq sN Qx)))))) Xb)
  (Pi (Ta (jJ (Iq (Ew Mn (pv 0) Dc) (Iq Dc (Iq sN Qx)))))),?_⟩
 refine ⟨_,rfl,10,18,rfl,rfl,⟨by decide,by decide,by decide⟩,_,_,rfl,rfl,_,rfl,B2 (λ_=>?_) (λ_=>?_)⟩
 ·refine ⟨_,rfl,10,60,rfl,rfl,⟨by decide,by decide,by decide⟩,_,16,rfl,rfl,⟨by decide,by show (Builtin.Int.intBits (10 ^ (60:Int).toNat):Int) * 16<=2 ^ 27; decide +kernel⟩,_,_,rfl,rfl,(by show (0:Int)<(10 ^ (60:Int).toNat) ^ (16:Int).toNat; decide +kernel),(by show 3<=Be; decide),λp hp=>?_⟩
  exact q p _ _ _ hp Ej (Hi hp _)
 ·refine ⟨_,rfl,_,_,rfl,rfl,(by show (0:Int)<1000003; decide),(by show 3<=Be; decide),λp hp=>?_⟩
  exact q p _ _ _ hp Ej (Hi hp _)
theorem Y3:FnScope ["_law_draws_here", "_law_k", "_law_number"] ["_law_draws_here"] (Br aZ):=⟨rfl,rfl,rfl,by decide +kernel,rfl,by decide +kernel,by decide +kernel⟩
theorem uR{f:Addr}{fd:Bx}(F:Fun K "_law_next" "_law_next" aZ f fd):FnOk P w K mg base Gc 1 f fd ["_law_draws_here"] pS:=by
 refine F.ok Y3 (λvs H Q E h=>?_) (λcdv A outer s H vs Q E hr h=>?_)
 ·obtain ⟨d,c,k,fl,rfl,_⟩:=h
  rfl
 obtain ⟨d,c,k,fl,rfl,hd,h0,h1,q⟩:=h
 refine ⟨_,Fq (Zd (Ew Oy (Oj Jj (pv 0) Dc (λ_ _=>rfl)) Dc) (Zi (pv 0) Dc Rf))
  (Fq (lH (iF (Oj Jj (pv 0) Dc (λ_ _=>rfl)))
   (Fq (Nq (i:=2) Y3.nd rfl (Cu rfl) (Ew Mn (Oj Jj (pv 0) Dc (λ_ _=>rfl)) (Ew Te Dc Dc)))
    (Fq (Zd (Ew Ub (Oj Jj (pv 0) Dc (λ_ _=>rfl)) (Ew Te Dc Dc)) (Zi (pv 0) Dc Rf))
    (Pi (Ta (pv 2))))) Xb)
  (Fq (Nq (i:=1) Y3.nd rfl (Cu rfl) (Oj Jj (pv 0) Dc (λ_ _=>rfl)))
  (Fq (Nq (i:=2) Y3.nd rfl (Cu rfl) (Ew Mn (Ew Mq (Ew Oy (Ew Oy (Oj Jj (pv 0) Dc (λ_ _=>rfl)) (Ew Mq (Ew Mq (pv 1) (pv 1)) Dc)) (pv 1)) Dc) Dc))
  (Fq (Nq (i:=2) Y3.nd rfl (Cu rfl) (Ew Mn (Ew Mq (pv 2) (pv 2)) Dc))
  (Pi (Ta (Ew Ub (Ew Mn (Ew Mq (pv 2) (Ew Oy (pv 2) Dc)) Dc) Dc))))))),?_⟩
 -- draws[1]=draws[1]+1
 refine ⟨_,rfl,d,_,1,_,rfl,rfl,Pu.of hd,rfl,_,_,rfl,rfl,_,rfl,d,_,1,1,rfl,rfl,hd,rfl,?_⟩
 have e1:(upd H d (.lst ([V.int c,V.int k,V.bl fl].set 1 (V.int (k+1))))) d=some (.lst [.int c,.int (k+1),.bl fl]):=Ej
 generalize hH1:upd H d (.lst ([V.int c,V.int k,V.bl fl].set 1 (V.int (k+1))))=H1 at e1
 have s1:Sn d H H1:=by rw[<- hH1]; exact Sn.upd
 refine ⟨_,rfl,d,_,2,_,rfl,rfl,Pu.of e1,rfl,_,rfl,?_⟩
 refine B2 (λ_=>?_) (λ_=>?_)
 ·refine ⟨_,rfl,d,_,0,_,rfl,rfl,Pu.of e1,rfl,10,6,rfl,rfl,⟨by decide,by decide,by decide⟩,_,_,rfl,rfl,(by show (0:Int)<10 ^ (6:Int).toNat; decide),?_⟩
  refine ⟨_,rfl,d,_,0,_,rfl,rfl,Pu.of e1,rfl,10,6,rfl,rfl,⟨by decide,by decide,by decide⟩,_,_,rfl,rfl,⟨by decide,by decide⟩,_,rfl,d,_,0,0,rfl,rfl,e1,rfl,_,rfl,?_⟩
  exact q _ _ _ Ej (s1.trans Sn.upd)
 ·refine ⟨_,rfl,d,_,1,_,rfl,rfl,Pu.of e1,rfl,?_⟩
  have b1:=Tx ((c+(k+1) * (k+1) * 7919+(k+1)) * 48271) 2147483629 (by decide)
  refine ⟨_,rfl,d,_,0,_,rfl,rfl,Pu.of e1,rfl,_,rfl,_,rfl,_,_,rfl,rfl,.inl ⟨by omega,by omega⟩,_,_,rfl,rfl,.inr ⟨by decide,by decide⟩,_,_,rfl,rfl,_,rfl,_,_,rfl,rfl,
   _,_,rfl,rfl,.inr ⟨by decide,by decide⟩,_,_,rfl,rfl,(by show (0:Int)<2147483629; decide),?_⟩
  generalize ((c+(k+1) * (k+1) * 7919+(k+1)) * 48271) % 2147483629=x at b1
  have b2:=Tx (x * x) 2147483587 (by decide)
  refine ⟨_,rfl,_,rfl,_,_,rfl,rfl,.inl ⟨by omega,by omega⟩,_,_,rfl,rfl,(by show (0:Int)<2147483587; decide),?_⟩
  generalize (x * x) % 2147483587=y at b2
  refine ⟨_,rfl,_,rfl,_,_,rfl,rfl,_,_,rfl,rfl,.inl ⟨by omega,by omega⟩,_,_,rfl,rfl,(by show (0:Int)<2147483579; decide),_,_,rfl,rfl,⟨by decide,by decide⟩,?_⟩
  exact q _ _ _ e1 s1
theorem nJ{f:Addr}{fd:Bx}(F:Fun K "_law_draws" "_law_draws" cX f fd):FnOk P w K mg base Gc 1 f fd ["_law_cell"] Tu:=pJ F
theorem qK{f:Addr}{fd:Bx}(F:Fun K "_law_next" "_law_next" aZ f fd):FnOk P w K mg base Gc 1 f fd ["_law_draws_here"] (Vz K Qy):=wB (uR F)
end
end K37
namespace DL
open PySem L2 Nd
def sub(a b:List Int):Bool:=a.all λi=>decide (i∈b)
def gD(a b:List Int):List Int:=a.filter λi=>decide (i∉b)
theorem jS{h:Int}{a:List Int}(r:Ja h a):a.Nodup:=r.1.imp λ{x y} h=>Int.ne_of_lt h
theorem Jp(a:Int){b:Int}(h:0<b):0<=a % b/\a % b<b:=Tx a b h
end DL
namespace Nd
open PySem L2 Ts
def Ef:Nat->List (List Int)
 | 0=>[[]]
 | n+1=>Ef n++(Ef n).map (·++[(n:Int)])
theorem Gi:∀n,(Ef n).length=2 ^ n
 | 0=>rfl
 | n+1=>by
  show (Ef n++(Ef n).map (·++[(n:Int)])).length=2 ^ (n+1)
  rw[Cc,Aa,Gi n,Nat.pow_succ]
  omega
theorem Pg{n:Nat}(h:n<=10):(Ef n).length<=1024:=by
 rw[Gi]
 exact Nat.pow_le_pow_right (by decide) h
theorem Jv:∀n,∀w∈Ef n,w.length<=n
 | 0,w,h=>by
  have : w=[]:=by simpa [Ef] using h
  rw[this]
  exact Ap _
 | n+1,w,h=>by
  rcases Bi.mp (show w∈Ef n++(Ef n).map (·++[(n:Int)]) from h) with h | h
  ·exact Nat.le_succ_of_le (Jv n w h)
  ·obtain ⟨v,hv,e⟩:=Bl.mp h
   rw[<- e,Cc,Ib]
   exact Nat.succ_le_succ (Jv n v hv)
def Ord(l:List (List Int)):Prop:=l.Pairwise λx y=>HT.lexLt y x=false
theorem Qt:∀{l m:List (List Int)},l.Perm m->Ord l->Ord m->l=m
 | [],m,p,_,_=>(List.Perm.nil_eq p)
 | x::l,[],p,_,_=>by
  have:=p.length_eq
  simp at this
 | x::l,y::m,p,h1,h2=>by
  obtain ⟨a1,a2⟩:=Bt.mp h1
  obtain ⟨b1,b2⟩:=Bt.mp h2
  have e:x=y:=by
   have mx:x∈y::m:=p.mem_iff.mp Ab
   have my:y∈x::l:=p.mem_iff.mpr Ab
   rcases Az.mp mx with e | mx
   ·exact e
   ·rcases Az.mp my with e | my
    ·exact e.symm
    ·exact Xf (b1 x mx) (a1 y my) |>.symm▸rfl
  subst e
  rw[Qt ((List.perm_cons x).mp p) a2 b2]
end Nd
namespace Nd
open PySem L2
def ch:Nat->Nat->Nat
 | _,0=>1
 | 0,_+1=>0
 | n+1,k+1=>ch n k+ch n (k+1)
def cw:Nat->Int->Nat->List (List Int)
 | _,_,0=>[[]]
 | 0,_,_+1=>[]
 | d+1,p,m+1=>(cw d (p+1) m).map (p::·)++cw d (p+1) (m+1)
def Vt(Mt:Int):Nat->List Int->Nat
 | _,[]=>0
 | m,x::w=>ch (Mt - 1 - x).toNat m+Vt Mt (m - 1) w
theorem jC:∀{n:Nat} {w:List Int},w∈Ef n↔Ja n w
 | 0,w=>by
  show w∈[[]]↔_
  rw[List.mem_singleton]
  constructor
  ·rintro rfl; exact Ja.nil _
  ·rintro ⟨_,h⟩
   match w with
   | []=>rfl
   | x::w=>have:=h x Ab; omega
 | n+1,w=>by
  show w∈Ef n++(Ef n).map (·++[(n:Int)])↔_
  rw[List.mem_append,List.mem_map,jC]
  constructor
  ·rintro (h | ⟨v,hv,rfl⟩)
   ·exact h.up (by omega)
   ·have:=(jC.mp hv).more (by omega)
    exact this.up (by omega)
  ·intro h
   by_cases hn:(n:Int)∈w
   ·refine .inr ⟨w.dropLast,jC.mpr ?_,?_⟩
    ·have hne:w≠[]:=λz=>by rw[z] at hn; cases hn
     have hl:w.getLast hne=n:=by
      have h1:=h.2 _ (List.getLast_mem hne)
      by_cases e:w.getLast hne=n
      ·exact e
      ·exfalso
       have hd:=Hu hne
       rw[<- hd] at hn
       rcases Bi.mp hn with z | z
       ·have hp:=h.1
        rw[<- hd] at hp
        have:=(Cn.mp hp).2.2 _ z _ (Am.mpr rfl)
        omega
       ·exact e (Am.mp z).symm
     have hd:=Hu hne
     have hp:=h.1
     rw[<- hd,hl] at hp
     obtain ⟨p1,_,p3⟩:=Cn.mp hp
     exact ⟨p1,λx hx=>⟨(h.2 x (List.dropLast_subset w hx)).1,p3 x hx _ (Am.mpr rfl)⟩⟩
    ·have hne:w≠[]:=λz=>by rw[z] at hn; cases hn
     have hl:w.getLast hne=n:=by
      have h1:=h.2 _ (List.getLast_mem hne)
      by_cases e:w.getLast hne=n
      ·exact e
      ·exfalso
       have hd:=Hu hne
       rw[<- hd] at hn
       rcases Bi.mp hn with z | z
       ·have hp:=h.1
        rw[<- hd] at hp
        have:=(Cn.mp hp).2.2 _ z _ (Am.mpr rfl)
        omega
       ·exact e (Am.mp z).symm
     rw[<- hl]
     exact Hu hne
   ·refine .inl ⟨h.1,λx hx=>?_⟩
    have:=h.2 x hx
    have : x≠n:=λz=>hn (by rw[<- z]; exact hx)
    omega
theorem Ov:∀n:Nat,(Ef n).Nodup
 | 0=>Di.mpr ⟨Cz,Ep⟩
 | n+1=>by
  show (Ef n++(Ef n).map (·++[(n:Int)])).Nodup
  refine Gp.mpr ⟨Ov n,?_,λx hx y hy e=>?_⟩
  ·exact List.Pairwise.map _ (λa b h e=>h (List.append_cancel_right e)) (Ov n)
  ·subst e
   obtain ⟨v,_,rfl⟩:=Bl.mp hy
   have:=(jC.mp hx).2 n (Av _ (Am.mpr rfl))
   omega
end Nd
namespace DL
open PySem L2 Nd
def Pr:PF:=λds R=>∃h:Int,ds=[.int h]/\0<=h/\h<=10/\∀L:List (List Int),L.Perm (Ef h.toNat)->Ord L->R (wordsD L)
theorem Ol{L:List (List Int)}{n:Nat}(hn:n<=10)(p:L.Perm (Ef n)):L.length<=1024/\∀w∈L,Ja n w/\w.length<=10:=⟨by rw[p.length_eq]; exact Pg hn,λw hw=>⟨jC.mp (p.mem_iff.mp hw),Cm (Jv n w (p.mem_iff.mp hw)) hn⟩⟩
theorem Ox{α:Type}{l:List α}{i:Nat}{p:α×Nat}(h:l.zipIdx[i]? = some p):p.2=i/\l[i]? = some p.1/\p.1∈l/\i<l.length:=by
 rw[List.getElem?_zipIdx] at h
 cases q:l[i]? with
 | none=>rw[q] at h; cases h
 | some a =>
  rw[q] at h
  cases h
  exact ⟨by simp,rfl,An q,(Ah.mp q).1⟩
def pairD(p:Nat×Nat):Ac:=.tuple [.int p.1,.int p.2]
instance {p:Nat×Nat}:Im (pairD p):=⟨(inferInstance:Im (.tuple [.int p.1,.int p.2])).h⟩
instance {p:Nat×Nat}:Dp (pairD p) 1:=⟨(inferInstance:Dp (.tuple [.int p.1,.int p.2]) 1).h⟩
def yT(p:Nat×Nat×List Int):Ac:=.tuple [.int p.1,.int p.2.1,Cf p.2.2]
instance {p:Nat×Nat×List Int}:Im (yT p):=⟨(inferInstance:Im (.tuple [.int p.1,.int p.2.1,Cf p.2.2])).h⟩
instance {p:Nat×Nat×List Int}:Dp (yT p) 2:=⟨(inferInstance:Dp (.tuple [.int p.1,.int p.2.1,Cf p.2.2]) 2).h⟩
def T7(L:List (List Int))(f:List Int->Int):Ac:=.list ((L.map f).map Ad)
instance {L:List (List Int)} {f:List Int->Int}:Dp (T7 L f) 1:=⟨(inferInstance:Dp (.list ((L.map f).map Ad)) 1).h⟩
theorem Qi{L:List (List Int)}{n:Nat}(p:L.Perm (Ef n)):L.Nodup:=p.nodup_iff.mpr (Ov n)
theorem nH{n m:Int}{a b:List Int}(ha:Ja n a)(hb:Ja m b)(h:∀i,i∈a↔i∈b):a=b:=by
 have p:a.Perm b:=(List.perm_ext_iff_of_nodup (jS ha) (jS hb)).mpr h
 exact p.eq_of_pairwise (λx y _ _ h1 h2=>by omega) ha.1 hb.1
end DL
namespace DL
open PySem PySem.Spec PyProof.Rows L2 Nd
end DL
namespace K37
open PySem L2 Nd DL
local macro_rules | `(tactic| array_get_dec) => do
  let ids:=(("e_maxL e_idx e_idxB e_idxC e_sortL e_seq e_skip e_ret e_if e_asg e_name e_name2 e_name3 e_name4 e_own e_nF e_gtup e_gsn e_gsc e_op e_var e_c e_imm e_immB e_take e_I e_I0 e_eqF e_eqT e_inFt_w1 e_inTt_w1 e_isNF e_ixl e_ixt e_cat e_catT_w1 e_rep e_nlT e_pkOfsh e_mdInsh e_mdInow e_mdItsh e_mdItow e_nil e_cons e_tup e_lst e_noPart e_part e_partB e_sl e_slBl e_cb e_lenl e_lent_w1 e_listl e_intb e_max2 e_min2 e_MinL e_all e_isi e_v e_b e_bB e_tru e_truB e_notT e_andT e_andTt e_andTf e_orT e_not e_notB e_and e_andt e_andf e_ifE e_dL e_dTp e_lB e_tpB_w1 e_range1 e_rng1B e_enum e_enumB e_for e_comp e_comp2 e_compL e_stepL e_stepLT e_noTest e_step e_stepT e_stepF e_yesB e_call e_callW e_draws e_drawsB e_append e_setI e_sumt_w1 e_scrSl e_sortW e_MaxD e_callA callAB retA retA_tp wordsD callB callBW tupB lstB datas pkMd allOw noPk appB setB own1 npk retE retW retL args0 frD frD1 alD List.map_cons List.map_nil List.replicate List.getElem?_cons_zero List.getElem?_cons_succ List.set_cons_zero List.set_cons_succ List.cons_append List.nil_append Option.map_some List.length_cons List.length_nil List.append_nil rdAdd rdSub rdMul rdDiv rdMod rdPow rdXor rdLt rdLe rdGt rdGe if_true List.append_assoc Nat.reduceAdd Nat.reduceSub Nat.reduceLeDiff true_and im_e ima_e dp_e dpa_e any_int eqD_intd eqD_bl eqD_str eqD_li eqD_l0 ow_e tt_e cdiv_e cpow_e Int.reduceLT Int.reduceLE Int.reduceNeg and_self Int.reduceToNat Int.reducePow isi_ib isi_bb Bool.not_true Bool.not_false String.reduceEq or_true true_or List.isEmpty_nil ifB_lt ifB_lf str_self atI_0 atI_1 some_e dec_self okT_l yesL_ow catL_show" : String).splitOn " ").toArray.map λ(x:String)=>Lean.mkIdent x.toName
  `(tactic| try simp only [$[↓$ids:ident],*])
section
variable{P:Bp}{w:World}{K:PySem.W.Frag}{mg:Str->Option Value}{base:Heap}
theorem dP:FnScope ["holes", "words", "place"] ["holes"] (Br Qh):=⟨rfl,rfl,rfl,by decide +kernel,rfl,by decide +kernel,by decide +kernel⟩
theorem dS{f   : Addr}{fd  : Bx}(F:Fun K "all_words" "all_words" Qh f fd)(mz_range:mg "range" = none)(mz_sorted:mg "sorted" = none):FnOk P w K mg base Gc 1 f fd ["holes"] (Oa K (Pr)):=by
 refine' Ho (k:=0) F dP (λcdv A outer s H E hr=>?hb) ?h
 case hb =>
  have hu64:=hr.units
  exact Bq (Dr (i:=1) dP.nd rfl (Cu rfl) (Fs (Ae (Vp Ar) Ar)))
   (Bq (Kr Du rfl (Gy rfl mz_range (Ae (Af (pv 0)) Ar)) (Hq (i:=2) dP.nd rfl (Lz rfl))
   (Cw (Dr (i:=1) dP.nd rfl (Cu rfl) (Pc (Af (pv 1)) (Gu (oH (x := "word") "place" 2 rfl (by decide +kernel) rfl rfl rfl) rfl (dW (Af (pv 1))) (λ_ _ _=>Gf) (λ_ _ _=>kM (Af (pv 0)) (Vp (Ae (Yk (Af (pv 1))) Ar))))))))
   (Cw (Dt (Df (Ts.call_sortedI hu64) fM rfl mz_sorted (by decide +kernel) (Ae (Af (pv 1)) Ar)))))
 case h =>
  (intro ds R q_; obtain ⟨h,rfl,h0,h10,hR⟩ := q_)
  refine ⟨rfl,?_⟩
  array_get_dec
  refine ⟨by omega,by omega,?_⟩
  refine Vf (l:=Cb h.toNat) (g:=λi:Nat=>.int i) rfl (λi δ=>∃v:DV,δ=⟨[.dat .sh (.int h),.dat .sh (.list ((Ef i).map Cf)),v],0⟩/\NP v) ?_ ?_ ?_
  ·exact ⟨_,rfl,Jf⟩
  ·(intro i a _ ha q_; obtain ⟨v,rfl,hv⟩ := q_)
   obtain ⟨rfl,hi⟩:=Ml ha
   have l1:=Pg (n:=a) (by omega)
   array_get_dec
   refine Og (l:=Ef a) (g:=Cf) rfl (λw=>Cf (w++[(a:Int)])) (λw hw yes no hy=>?_) ?_
   ·have lw:=Jv a w hw
    array_get_dec
    refine ⟨by rw[Aa]; omega,?_⟩
    unfold Cf at hy
    rw[Bw] at hy
    exact hy
   ·array_get_dec
    refine ⟨by rw[Aa,Aa]; omega,.dat .sh (.int a),lF ?_ rfl,Fp⟩
    show _=[DV.dat .sh (.int h),.dat .sh (.list ((Ef a++(Ef a).map (·++[(a:Int)])).map Cf)),.dat .sh (.int a)]
    rw[Bw,Bz]
    rfl
  ·(intro _ q_; obtain ⟨v,rfl,hv⟩ := q_)
   rw[Ct]
   array_get_dec
   exact ⟨_,rfl,λL pe pw=>hR L pe pw⟩
theorem aC:FnScope ["_law_holes_here", "_law_found", "_law_place"] ["_law_holes_here"] (Br Pl):=⟨rfl,rfl,rfl,by decide +kernel,rfl,by decide +kernel,by decide +kernel⟩
theorem aE{f   : Addr}{fd  : Bx}(F:Fun K "_law_words" "_law_words" Pl f fd)(mz_range:mg "range" = none)(mz_sorted:mg "sorted" = none):FnOk P w K mg base Gc 1 f fd ["_law_holes_here"] (Oa K (Pr)):=by
 refine' Ho (k:=0) F aC (λcdv A outer s H E hr=>?hb) ?h
 case hb =>
  have hu64:=hr.units
  exact Bq (Dr (i:=1) aC.nd rfl (Cu rfl) (Fs (Ae (Vp Ar) Ar)))
   (Bq (Kr Du rfl (Gy rfl mz_range (Ae (Af (pv 0)) Ar)) (Hq (i:=2) aC.nd rfl (Lz rfl))
   (Cw (Dr (i:=1) aC.nd rfl (Cu rfl) (Pc (Af (pv 1)) (Gu (oH (x := "_law_word") "_law_place" 2 rfl (by decide +kernel) rfl rfl rfl) rfl (dW (Af (pv 1))) (λ_ _ _=>Gf) (λ_ _ _=>kM (Af (pv 0)) (Vp (Ae (Yk (Af (pv 1))) Ar))))))))
   (Cw (Dt (Df (Ts.call_sortedI hu64) fM rfl mz_sorted (by decide +kernel) (Ae (Af (pv 1)) Ar)))))
 case h =>
  (intro ds R q_; obtain ⟨h,rfl,h0,h10,hR⟩ := q_)
  refine ⟨rfl,?_⟩
  array_get_dec
  refine ⟨by omega,by omega,?_⟩
  refine Vf (l:=Cb h.toNat) (g:=λi:Nat=>.int i) rfl (λi δ=>∃v:DV,δ=⟨[.dat .sh (.int h),.dat .sh (.list ((Ef i).map Cf)),v],0⟩/\NP v) ?_ ?_ ?_
  ·exact ⟨_,rfl,Jf⟩
  ·(intro i a _ ha q_; obtain ⟨v,rfl,hv⟩ := q_)
   obtain ⟨rfl,hi⟩:=Ml ha
   have l1:=Pg (n:=a) (by omega)
   array_get_dec
   refine Og (l:=Ef a) (g:=Cf) rfl (λw=>Cf (w++[(a:Int)])) (λw hw yes no hy=>?_) ?_
   ·have lw:=Jv a w hw
    array_get_dec
    refine ⟨by rw[Aa]; omega,?_⟩
    unfold Cf at hy
    rw[Bw] at hy
    exact hy
   ·array_get_dec
    refine ⟨by rw[Aa,Aa]; omega,.dat .sh (.int a),lF ?_ rfl,Fp⟩
    show _=[DV.dat .sh (.int h),.dat .sh (.list ((Ef a++(Ef a).map (·++[(a:Int)])).map Cf)),.dat .sh (.int a)]
    rw[Bw,Bz]
    rfl
  ·(intro _ q_; obtain ⟨v,rfl,hv⟩ := q_)
   rw[Ct]
   array_get_dec
   exact ⟨_,rfl,λL pe pw=>hR L pe pw⟩
end
def aW(w u:List Int):Bool:=w.all λi=>decide (i∈u)
def fI(face:List Int)(w:List Int)(v:Int)(p:List Int×Nat):Bool:=decide (face[p.2]? = some v) && aW w p.1
def Ke(ws:List (List Int))(face:List Int)(w:List Int)(v:Int):List (List Int×Nat):=ws.zipIdx.filter (fI face w v)
def lE:PF:=λds R=>∃a b:List Int,ds=[Cf a,Cf b]/\R (.bool (aW a b))
def iQ:PF:=λds R=>∃(ws:List (List Int)) (face w:List Int) (v:Int),ds=[.list (ws.map Cf),.list (face.map Ad),Cf w,.int v]/\ws.length=face.length/\R (.list ((Ke ws face w v).map λp=>.int p.2))
def tN:PF:=λds R=>∃w:List Int,ds=[Cf w]/\∀v:Int,R (.int v)
def lN:DF:=λds n R=>ds=[]/\n<=90000/\∀h:Int,1<=h->h<=7->R (.int h) (n+1)
def gJ:DF:=λds n R=>ds=[]/\n<=90000/\∀h:Int,2<=h->h<=16->R (.int h) (n+1)
def kG:Sp:=λvs H Q _=>∃(d:Addr) (c k:Int) (f:Bool),vs=[.ref d]/\aB H d c k f/\0<=k/\k<=1000000/\∀(r c':Int) (H':Hp),0<=r/\r<4294967296->aB H' d c' (k+1) f->Sn d H H'->Q (.int r) H'
def cT:DF:=λds n R=>ds=[]/\n<=100000/\∀r:Int,0<=r/\r<4294967296->R (.int r) (n+1)
theorem oT{P:Bp}{w:World}{K:PySem.W.Frag}{mg:Str->Option Value}{base:Heap}{k:Nat}{f:Addr}{fd:Bx}{ps:List Str}(F:FnOk P w K mg base Gc k f fd ps kG):FnOk P w K mg base Gc k f fd ps (Vz K cT):=by
 refine F.imp λus H Q E h=>?_
 obtain ⟨dr,ws,As,n,ds,R,rfl,eu,ok,nd,⟨c,kk,fl,hdr,h0,h1⟩,q,hp,k1⟩:=h
 obtain ⟨rfl,hn,hR⟩:=hp
 have hAs:As=[]:=by
  have:=Gz q
  rw[Aa] at this
  exact Hf.mp this
 subst hAs
 have hws:ws=[]:=by
  cases ws with
  | nil=>rfl
  | cons _ _=>cases eu
 subst hws
 refine ⟨dr,c,kk,fl,rfl,hdr,h0,by omega,λr c' H' hr hd' s=>?_⟩
 exact k1 (.int r) (.int r) [] (n+1) H' (by omega) (hR r hr) (.int r) Ep (λ_ z=>(nomatch z)) ⟨c',kk+1,fl,hd',by omega,by omega⟩ s
section
variable{P:Bp}{w:World}{K:PySem.W.Frag}{mg:Str->Option Value}{base:Heap}
theorem mQ{f:Addr}{fd:Bx}(F:Fun K "_law_next" "_law_next" aZ f fd):FnOk P w K mg base Gc 1 f fd ["_law_draws_here"] kG:=by
 refine F.ok Y3 (λvs H Q E h=>?_) (λcdv A outer s H vs Q E hr h=>?_)
 ·obtain ⟨d,c,k,fl,rfl,_⟩:=h
  rfl
 obtain ⟨d,c,k,fl,rfl,hd,h0,h1,q⟩:=h
 refine ⟨_,Fq (Zd (Ew Oy (Oj Jj (pv 0) Dc (λ_ _=>rfl)) Dc) (Zi (pv 0) Dc Rf))
  (Fq (lH (iF (Oj Jj (pv 0) Dc (λ_ _=>rfl)))
   (Fq (Nq (i:=2) Y3.nd rfl (Cu rfl) (Ew Mn (Oj Jj (pv 0) Dc (λ_ _=>rfl)) (Ew Te Dc Dc)))
    (Fq (Zd (Ew Ub (Oj Jj (pv 0) Dc (λ_ _=>rfl)) (Ew Te Dc Dc)) (Zi (pv 0) Dc Rf))
    (Pi (Ta (pv 2))))) Xb)
  (Fq (Nq (i:=1) Y3.nd rfl (Cu rfl) (Oj Jj (pv 0) Dc (λ_ _=>rfl)))
  (Fq (Nq (i:=2) Y3.nd rfl (Cu rfl) (Ew Mn (Ew Mq (Ew Oy (Ew Oy (Oj Jj (pv 0) Dc (λ_ _=>rfl)) (Ew Mq (Ew Mq (pv 1) (pv 1)) Dc)) (pv 1)) Dc) Dc))
  (Fq (Nq (i:=2) Y3.nd rfl (Cu rfl) (Ew Mn (Ew Mq (pv 2) (pv 2)) Dc))
  (Pi (Ta (Ew Ub (Ew Mn (Ew Mq (pv 2) (Ew Oy (pv 2) Dc)) Dc) Dc))))))),?_⟩
 -- draws[1]=draws[1]+1
 refine ⟨_,rfl,d,_,1,_,rfl,rfl,Pu.of hd,rfl,_,_,rfl,rfl,_,rfl,d,_,1,1,rfl,rfl,hd,rfl,?_⟩
 have e1:(upd H d (.lst ([V.int c,V.int k,V.bl fl].set 1 (V.int (k+1))))) d=some (.lst [.int c,.int (k+1),.bl fl]):=Ej
 generalize hH1:upd H d (.lst ([V.int c,V.int k,V.bl fl].set 1 (V.int (k+1))))=H1 at e1
 have s1:Sn d H H1:=by rw[<- hH1]; exact Sn.upd
 refine ⟨_,rfl,d,_,2,_,rfl,rfl,Pu.of e1,rfl,_,rfl,?_⟩
 refine B2 (λ_=>?_) (λ_=>?_)
 ·refine ⟨_,rfl,d,_,0,_,rfl,rfl,Pu.of e1,rfl,10,6,rfl,rfl,⟨by decide,by decide,by decide⟩,_,_,rfl,rfl,(by show (0:Int)<10 ^ (6:Int).toNat; decide),?_⟩
  refine ⟨_,rfl,d,_,0,_,rfl,rfl,Pu.of e1,rfl,10,6,rfl,rfl,⟨by decide,by decide,by decide⟩,_,_,rfl,rfl,⟨by decide,by decide⟩,_,rfl,d,_,0,0,rfl,rfl,e1,rfl,_,rfl,?_⟩
  exact q _ _ _ ⟨Mw _ (by decide),Int.lt_trans (Od _ (by decide)) (by decide)⟩ Ej (s1.trans Sn.upd)
 ·refine ⟨_,rfl,d,_,1,_,rfl,rfl,Pu.of e1,rfl,?_⟩
  have b1:=Tx ((c+(k+1) * (k+1) * 7919+(k+1)) * 48271) 2147483629 (by decide)
  refine ⟨_,rfl,d,_,0,_,rfl,rfl,Pu.of e1,rfl,_,rfl,_,rfl,_,_,rfl,rfl,.inl ⟨by omega,by omega⟩,_,_,rfl,rfl,.inr ⟨by decide,by decide⟩,_,_,rfl,rfl,_,rfl,_,_,rfl,rfl,
   _,_,rfl,rfl,.inr ⟨by decide,by decide⟩,_,_,rfl,rfl,(by show (0:Int)<2147483629; decide),?_⟩
  generalize ((c+(k+1) * (k+1) * 7919+(k+1)) * 48271) % 2147483629=x at b1
  have b2:=Tx (x * x) 2147483587 (by decide)
  refine ⟨_,rfl,_,rfl,_,_,rfl,rfl,.inl ⟨by omega,by omega⟩,_,_,rfl,rfl,(by show (0:Int)<2147483587; decide),?_⟩
  generalize (x * x) % 2147483587=y at b2
  refine ⟨_,rfl,_,rfl,_,_,rfl,rfl,_,_,rfl,rfl,.inl ⟨by omega,by omega⟩,_,_,rfl,rfl,(by show (0:Int)<2147483579; decide),_,_,rfl,rfl,⟨by decide,by decide⟩,?_⟩
  exact q _ _ _ ⟨Int.ediv_nonneg (Mw _ (by decide)) (by decide),Int.lt_of_le_of_lt (Int.ediv_le_self _ (Mw _ (by decide))) (Int.lt_trans (Od _ (by decide)) (by decide))⟩ e1 s1
theorem oS{f:Addr}{fd:Bx}(F:Fun K "_law_next" "_law_next" aZ f fd):FnOk P w K mg base Gc 1 f fd ["_law_draws_here"] (Vz K cT):=oT (mQ F)
end
def Xx:DF:=λds n R=>∃(ws:List (List Int)) (v:Int),ds=[.list (ws.map Cf),.int v]/\0<v/\v<=16/\ws.length<=1024/\(∀w∈ws,w.length<=10)/\n<=90000/\∀face:List Int,face.length=ws.length->(∀x∈face,0<=x/\x<100000000000000000000)->R (.list (face.map Ad)) (n+1+ws.length)
section
variable{P:Bp}{w:World}{K:PySem.W.Frag}{mg:Str->Option Value}{base:Heap}
theorem oB:FnScope ["one", "other"] ["one", "other"] (Br Zj):=⟨rfl,rfl,rfl,by decide +kernel,rfl,by decide +kernel,by decide +kernel⟩
theorem mZ{f   : Addr}{fd  : Bx}(F:Fun K "within" "within" Zj f fd)(mz_all:mg "all" = none):FnOk P w K mg base Gc 1 f fd ["one", "other"] (Oa K (lE)):=by
 refine' Ho (k:=0) F oB (λcdv A outer s H E hr=>?hb) ?h
 case hb =>
  have hu64:=hr.units
  exact Cw (Dt (Df (Up rfl) dY rfl mz_all (by decide +kernel) (Ae (Gu (oH (x := "place") "other" 1 rfl (by decide +kernel) rfl rfl rfl) rfl (T9 (Af (pv 0))) (λ_ _ _=>Gf) (λ_ _ _=>O6 hu64 (Af (pv 0)) (Af (pv 1)))) Ar)))
 case h =>
  (intro ds R q_; obtain ⟨a,b,rfl,hR⟩ := q_)
  refine ⟨rfl,?_⟩
  array_get_dec
  refine Og (l:=a) (g:=Ad) rfl (λi=>.bool (decide (i∈b))) (λi _ yes no hy=>?_) ?_
  ·array_get_dec
   exact hy
  ·array_get_dec
   refine ⟨a.map λi=>decide (i∈b),by rw[Bz]; rfl,?_⟩
   rw[Kw]
   exact hR
theorem jO:FnScope ["words", "reading", "word", "value"] ["words", "reading", "word", "value"] (Br Vq):=⟨rfl,rfl,rfl,by decide +kernel,rfl,by decide +kernel,by decide +kernel⟩
theorem hU{f f_within  : Addr}{fd d_within:Bx}(F:Fun K "showing" "showing" Vq f fd)(G_within:FnOk P w K mg base Gc 1 f_within d_within ["one", "other"] (Oa K (lE)))(b_within:Binds K d_within ["one", "other"] [])(k_within:PySem.W.keepIn K (.ref f_within)=true)(m_within:mg "within" = some (.ref f_within))(mz_enumerate:mg "enumerate" = none):FnOk P w K mg base Gc 2 f fd ["words", "reading", "word", "value"] (Oa K (iQ)):=by
 refine' Ho (k:=1) F jO (λcdv A outer s H E hr=>?hb) ?h
 case hb =>
  have hr1:Room 1 _:=hr.mono (by decide)
  have hu64:=hr.units
  exact Cw (Dt (Tv (Z5 (x := "at") "reading" "value" "word" 1 3 2 rfl (by decide +kernel) rfl rfl rfl) (.inl rfl) (by decide +kernel) rfl (Ue rfl mz_enumerate (Ae (Af (pv 0)) Ar)) (λ_ _ _=>Kb (qE (cY (bQ hu64 (Ec (Af (pv 2)) (Af (pv 0))) (Af (pv 3))) (Xj (Mp (El G_within hr1 rfl m_within k_within b_within Eg (Ae (Af (pv 4)) (Ae (Af (pv 1)) Ar)))))))) (λ_ _ _=>Af (pv 0))))
 case h =>
  (intro ds R q_; obtain ⟨ws,face,w,v,rfl,hl,hR⟩ := q_)
  refine ⟨rfl,?_⟩
  array_get_dec
  refine cV (l:=ws.zipIdx) (g1:=λp=>.int p.2) (g2:=λp=>Cf p.1) (by rw[Xg,Bz]; rfl) (fI face w v) (λp=>.int p.2) (λp hp yes no hy hn=>?_) ?_
  ·obtain ⟨k,hk⟩:=By.mp hp
   obtain ⟨ek,hp1,hp2,hp3⟩:=Ox hk
   obtain ⟨x,e1,e2,e3⟩:=Qz (l:=face) (i:=(p.2:Int)) (by omega) (by omega)
   rw[Ed] at e1
   have hh:fI face w v p=(decide (x=v) && aW w p.1):=by
    unfold fI
    rw[e1]
    congr 1
    simp
   rw[hh] at hy hn
   array_get_dec
   refine ⟨.int x,by rw[Xe,e2]; rfl,dp,?_⟩
   array_get_dec
   refine rR (λh1=>?_) (λh1=>?_)
   ·array_get_dec
    refine ⟨w,p.1,rfl,?_⟩
    refine Kf (λh2=>?_) (λh2=>?_)
    ·array_get_dec
     exact hy (by rw[h1,h2]; rfl)
    ·exact hn (by rw[h1,h2]; rfl)
   ·array_get_dec
    exact hn (by rw[h1]; rfl)
  ·array_get_dec
   exact hR
theorem cP:FnScope ["_law_one", "_law_other"] ["_law_one", "_law_other"] (Br Rb):=⟨rfl,rfl,rfl,by decide +kernel,rfl,by decide +kernel,by decide +kernel⟩
theorem cZ{f   : Addr}{fd  : Bx}(F:Fun K "_law_lies" "_law_lies" Rb f fd):FnOk P w K mg base Gc 1 f fd ["_law_one", "_law_other"] (Oa K (lE)):=by
 refine' Ho (k:=0) F cP (λcdv A outer s H E hr=>?hb) ?h
 case hb =>
  have hu64:=hr.units
  exact Cw (Dt (bO hu64 (Gu (oH (x := "_law_place") "_law_other" 1 rfl (by decide +kernel) rfl rfl rfl) rfl (T9 (Af (pv 0))) (λ_ _ _=>Kb (rZ hu64 (Af (pv 0)) (Af (pv 1)))) (λ_ _ _=>Af (pv 0))) (Fs Ar)))
 case h =>
  (intro ds R q_; obtain ⟨a,b,rfl,hR⟩ := q_)
  refine ⟨rfl,?_⟩
  array_get_dec
  refine We (l:=a) (g:=Ad) rfl (λi=>decide (i∉b)) (λi=>.int i) (λi _ yes no hy hn=>?_) ?_
  ·array_get_dec
   refine Kf (λh=>?_) (λh=>?_)
   ·array_get_dec
    exact hy (by simpa using h)
   ·exact hn (by simpa using h)
  ·array_get_dec
   rw[show ((a.filter λi=>decide (i∉b)).map λi=>Ad i).isEmpty=aW a b from ?_]
   ·exact hR
   ·unfold aW
    rw[Sb,List.isEmpty_iff,List.map_eq_nil_iff,Fz,Ex]
    simp
theorem Yy:FnScope ["_law_word", "_law_value", "_law_place"] ["_law_word"] (Br Nv):=⟨rfl,rfl,rfl,by decide +kernel,rfl,by decide +kernel,by decide +kernel⟩
theorem Yc{f   : Addr}{fd  : Bx}(F:Fun K "_law_folded" "_law_folded" Nv f fd):FnOk P w K mg base Gc 1 f fd ["_law_word"] (Oa K (tN)):=by
 refine' Ho (k:=0) F Yy (λcdv A outer s H E hr=>?hb) ?h
 case hb =>
  have hu64:=hr.units
  exact Bq (Dr (i:=1) Yy.nd rfl (Cu rfl) Cs)
   (Bq (Kr Du rfl (T9 (Af (pv 0))) (Hq (i:=2) Yy.nd rfl (Cu rfl))
   (Cw (Dr (i:=1) Yy.nd rfl (Cu rfl) (j7 (Af (pv 1)) (Lj (Af (pv 2)) Cs)))))
   (Cw (Dt (Yk (Af (pv 1))))))
 case h =>
  (intro ds R q_; obtain ⟨w,rfl,hR⟩ := q_)
  refine ⟨rfl,?_⟩
  array_get_dec
  refine Vf (l:=w) (g:=Ad) rfl (λi δ=>∃(x:Int) (v:DV),δ=⟨[.dat .sh (Cf w),.dat .sh (.int x),v],0⟩/\NP v) ?_ ?_ ?_
  ·exact ⟨_,_,rfl,Jf⟩
  ·(intro i p _ hp q_; obtain ⟨x,v,rfl,hv⟩ := q_)
   array_get_dec
   exact ⟨_,_,rfl,Fp⟩
  ·(intro _ q_; obtain ⟨x,v,rfl,hv⟩ := q_)
   array_get_dec
   exact hR _
theorem aM:FnScope ["_law_draws_here", "_law_pick"] ["_law_draws_here"] (Br Pn):=⟨rfl,rfl,rfl,by decide +kernel,rfl,by decide +kernel,by decide +kernel⟩
theorem aA{f f_L_next  : Addr}{fd d_L_next:Bx}(F:Fun K "_law_holes" "_law_holes" Pn f fd)(G_L_next:FnOk P w K mg base Gc 1 f_L_next d_L_next ["_law_draws_here"] (Vz K Qy))(b_L_next:Binds K d_L_next ["_law_draws_here"] [])(k_L_next:PySem.W.keepIn K (.ref f_L_next)=true)(m_L_next:mg "_law_next" = some (.ref f_L_next))(mz_max:mg "max" = none):FnOk P w K mg base Gc 2 f fd ["_law_draws_here"] (Vz K (lN)):=by
 refine' Rq (k:=1) F aM (λcdv A outer s H E hr=>?hb) ?h
 case hb =>
  have hr1:Room 1 _:=hr.mono (by decide)
  have hu64:=hr.units
  exact Bq (Dr (i:=1) aM.nd rfl (Cu rfl) (Fn G_L_next hr1 rfl m_L_next k_L_next b_L_next Eg (pv 0) Ar))
   (Cw (Dt (Ec (Fs (Ae (Lj Cs (Fk (Ql (Af (pv 1)) Cs) Cs)) (Ae (Lj Cs (Fk (Ql (Af (pv 1)) Cs) Cs)) (Ae Cs (Ae Cs Ar))))) (Df (Vk rfl) cB rfl mz_max (by decide +kernel) (Ae Cs (Ae (dA (Fk (Af (pv 1)) Cs) Cs) Ar))))))
 case h =>
  (intro ds n R q_; obtain ⟨rfl,hn,hR⟩ := q_)
  refine ⟨rfl,?_⟩
  array_get_dec
  refine ⟨rfl,by omega,λr1=>?_⟩
  array_get_dec
  have b8:=Jp r1 (b:=8) (by decide)
  have b5:=Jp (r1 / 8) (b:=5) (by decide)
  rcases (by omega:r1 % 8 - 4<=0\/r1 % 8 - 4=1\/r1 % 8 - 4=2\/r1 % 8 - 4=3) with z | z | z | z
  ·rw[if_neg (by omega)]
   exact ⟨_,atI_0 _ _,by omega,hR _ (by omega) (by omega)⟩
  ·rw[if_pos (by omega),z]
   exact ⟨_,atI_1 _ _ _,by omega,hR _ (by omega) (by omega)⟩
  ·rw[if_pos (by omega),z]
   exact ⟨_,Q5 _ _ _ _,by omega,hR _ (by omega) (by omega)⟩
  ·rw[if_pos (by omega),z]
   exact ⟨_,L0 _ _ _ _ _,by omega,hR _ (by omega) (by omega)⟩
theorem Yz:FnScope ["_law_draws_here", "_law_pick"] ["_law_draws_here"] (Br Nt):=⟨rfl,rfl,rfl,by decide +kernel,rfl,by decide +kernel,by decide +kernel⟩
theorem Yh{f f_L_next  : Addr}{fd d_L_next:Bx}(F:Fun K "_law_values" "_law_values" Nt f fd)(G_L_next:FnOk P w K mg base Gc 1 f_L_next d_L_next ["_law_draws_here"] (Vz K Qy))(b_L_next:Binds K d_L_next ["_law_draws_here"] [])(k_L_next:PySem.W.keepIn K (.ref f_L_next)=true)(m_L_next:mg "_law_next" = some (.ref f_L_next))(mz_int:mg "int" = none):FnOk P w K mg base Gc 2 f fd ["_law_draws_here"] (Vz K (gJ)):=by
 refine' Rq (k:=1) F Yz (λcdv A outer s H E hr=>?hb) ?h
 case hb =>
  have hr1:Room 1 _:=hr.mono (by decide)
  have hu64:=hr.units
  exact Bq (Dr (i:=1) Yz.nd rfl (Cu rfl) (Fn G_L_next hr1 rfl m_L_next k_L_next b_L_next Eg (pv 0) Ar))
   (Cw (Dt (Ec (Fs (Ae (Lj Cs (Fk (Ql (Af (pv 1)) Cs) Cs)) (Ae Cs Ar))) (Jw Vi iZ rfl mz_int (by decide +kernel) (Ae (bO hu64 (Fk (Af (pv 1)) Cs) Cs) Ar)))))
 case h =>
  (intro ds n R q_; obtain ⟨rfl,hn,hR⟩ := q_)
  refine ⟨rfl,?_⟩
  array_get_dec
  refine ⟨rfl,by omega,λr1=>?_⟩
  array_get_dec
  have b5:=Jp (r1 / 8) (b:=5) (by decide)
  refine ⟨_,yM _ _ _,by omega,?_⟩
  cases decide (r1 % 8=1)
  ·exact hR _ (by omega) (by omega)
  ·exact hR _ (by decide) (by decide)
theorem Wr:FnScope ["_law_draws_here", "_law_words_here", "_law_values_here", "_law_way", "_law_found", "_law_word", "_law_number", "_law_told"] ["_law_draws_here", "_law_words_here", "_law_values_here"] (Br Mi):=⟨rfl,rfl,rfl,by decide +kernel,rfl,by decide +kernel,by decide +kernel⟩
theorem Ws{f f_L_next f_L_folded  : Addr}{fd d_L_next d_L_folded:Bx}(F:Fun K "_law_reading" "_law_reading" Mi f fd)(G_L_next:FnOk P w K mg base Gc 1 f_L_next d_L_next ["_law_draws_here"] (Vz K cT))(b_L_next:Binds K d_L_next ["_law_draws_here"] [])(k_L_next:PySem.W.keepIn K (.ref f_L_next)=true)(m_L_next:mg "_law_next" = some (.ref f_L_next))(G_L_folded:FnOk P w K mg base Gc 1 f_L_folded d_L_folded ["_law_word"] (Oa K (tN)))(b_L_folded:Binds K d_L_folded ["_law_word"] [])(k_L_folded:PySem.W.keepIn K (.ref f_L_folded)=true)(m_L_folded:mg "_law_folded" = some (.ref f_L_folded))(mz_len:mg "len" = none)(mz_sum:mg "sum" = none)(mz_int:mg "int" = none):FnOk P w K mg base Gc 2 f fd ["_law_draws_here", "_law_words_here", "_law_values_here"] (Vz K (Xx)):=by
 refine' Rq (k:=1) F Wr (λcdv A outer s H E hr=>?hb) ?h
 case hb =>
  have hr1:Room 1 _:=hr.mono (by decide)
  have hu64:=hr.units
  exact Bq (Dr (i:=3) Wr.nd rfl (Cu rfl) (Fk (Fn G_L_next hr1 rfl m_L_next k_L_next b_L_next Eg (pv 0) Ar) Cs))
   (Bq (Xa (i:=4) Wr.nd rfl (Cu rfl) (Fs Ar))
   (Bq (Kr Du rfl (dW (Af (pv 1))) (Hq (i:=5) Wr.nd rfl (Cu rfl))
   (Bq (Dr (i:=6) Wr.nd rfl (Cu rfl) (Fn G_L_next hr1 rfl m_L_next k_L_next b_L_next Eg (pv 0) Ar))
    (Bq (Dr (i:=7) Wr.nd rfl (Cu rfl) (Fs (Ae (Fk (Af (pv 6)) (Af (pv 2))) (Ae (Fk (Df Fy Jn rfl mz_len (by decide +kernel) (Ae (Af (pv 5)) Ar)) (Af (pv 2))) (Ae (Fk (El G_L_folded hr1 rfl m_L_folded k_L_folded b_L_folded Eg (Ae (Af (pv 5)) Ar)) (Af (pv 2))) (Ae (Fk (Df (mS rfl) A7 rfl mz_sum (by decide +kernel) (Ae (Af (pv 5)) Ar)) (Af (pv 2))) Ar))))))
    (Bq (Dr (i:=7) Wr.nd rfl (Cu rfl) (Pc (Af (pv 7)) (Fs (Ae (Fk (Af (pv 6)) (Lj (Af (pv 2)) Cs)) (Ae (jB (Ql (Fk (Af (pv 6)) Cs) Cs) (Fk (Af (pv 6)) (Af (pv 2)))) (Ae (Fk (Af (pv 6)) (Af (pv 2))) Ar))))))
    (Cw (Vj (pv 4) (Ec (Pc (Af (pv 7)) (Fs (Ae (Ec (Fs (Ae (Fk (Df Fy Jn rfl mz_len (by decide +kernel) (Ae (Af (pv 5)) Ar)) (Af (pv 2))) (Ae (Lj (i8 Cs Cs) (Af (pv 6))) Ar))) (Jw Vi iZ rfl mz_int (by decide +kernel) (Ae (bO hu64 (Fk (Af (pv 6)) Cs) Cs) Ar))) Ar))) (Af (pv 3)))))))))
   (Cw (Dt (Xi (pv 4))))))
 case h =>
  (intro ds n R q_; obtain ⟨ws,v,rfl,v0,v1,lw,hw,hn,hR⟩ := q_)
  refine ⟨rfl,?_⟩
  array_get_dec
  refine ⟨rfl,by omega,λr1 p1=>?_⟩
  array_get_dec
  have b8:=Jp r1 (b:=8) (by decide)
  refine Vf (l:=ws) (g:=Cf) rfl (λi δ=>∃(face:List Int) (v1 v2 v3:DV),δ=⟨[.drw,.dat .sh (.list (ws.map Cf)),.dat .sh (.int v),.dat .sh (.int (r1 % 8)),.dat .ow (.list (face.map Ad)),v1,v2,v3],n+1+i⟩/\face.length=i/\(∀x∈face,0<=x/\x<100000000000000000000)/\NP v1/\NP v2/\NP v3) ?_ ?_ ?_
  ·exact ⟨[],_,_,_,rfl,rfl,λ_ z=>(nomatch z),Jf,Jf,Jf⟩
  ·(intro i u _ hu q_; obtain ⟨face,v1,v2,v3,rfl,lf,nf,hv1,hv2,hv3⟩ := q_)
   have hi:=(Ah.mp hu).1
   have lu:=hw u (An hu)
   array_get_dec
   refine ⟨rfl,by omega,λr2 p2=>?_⟩
   array_get_dec
   refine ⟨v0,v0,u,rfl,λf=>?_⟩
   array_get_dec
   refine ⟨v0,u,rfl,v0,?_⟩
   array_get_dec
   have bv:=Jp r2 v0
   refine ⟨by omega,v0,.inr ⟨by omega,by omega⟩,v0,v0,by decide,?_⟩
   obtain ⟨x,x0,hx⟩ : ∃x:Int,(0<=x/\x<100000000000000000000)/\Py [Ad (((u.map Ad).length:Int) % v),Ad (10000000000000000000+r2)] (if decide (r2 % 9=0)=true then 1 else 0)=some (.int x):=by
    rw[yM]
    cases decide (r2 % 9=0)
    ·exact ⟨_,⟨Mw _ (by omega),by have:=Od ((u.map Ad).length:Int) v0; omega⟩,rfl⟩
    ·exact ⟨_,⟨by omega,by omega⟩,rfl⟩
   refine ⟨_,hx,W9,?_⟩
   obtain ⟨y,ey,e2,_⟩:=Qz (l:=[r2 % v,((u.map Ad).length:Int) % v,f % v,u.sum % v,r2 % (v+2),r2 % 7 / 5 * (r2 % v),r2 % v,x]) b8.1 (by simpa using b8.2)
   have e3:=Xe Ad [r2 % v,((u.map Ad).length:Int) % v,f % v,u.sum % v,r2 % (v+2),r2 % 7 / 5 * (r2 % v),r2 % v,x] (r1 % 8)
   rw[e2] at e3
   refine ⟨_,e3,im,by rw[Aa]; omega,?_⟩
   have y0:0<=y/\y<100000000000000000000:=by
    have hm:=An ey
    have m1:=Jp r2 (b:=v) v0
    have m2:=Jp ((u.map Ad).length:Int) (b:=v) v0
    have m3:=Jp f (b:=v) v0
    have m4:=Jp u.sum (b:=v) v0
    have m5:=Jp r2 (b:=v+2) (by omega)
    have m6:0<=r2 % 7 / 5 * (r2 % v)/\r2 % 7 / 5 * (r2 % v)<100000000000000000000:=by
     have q:r2 % 7 / 5=0\/r2 % 7 / 5=1:=by omega
     rcases q with q | q
     ·rw[q]; omega
     ·rw[q]; omega
    simp only[List.mem_cons,Cz,or_false] at hm
    rcases hm with e | e | e | e | e | e | e | e
    ·rw[e]; omega
    ·rw[e]; omega
    ·rw[e]; omega
    ·rw[e]; omega
    ·rw[e]; omega
    ·rw[e]; exact m6
    ·rw[e]; omega
    ·rw[e]; exact x0
   exact ⟨face++[y],_,_,_,lF (by rw[Bw]; rfl) (by omega),by simp [lf],λz hz=>by rcases Bi.mp hz with hz | hz; exact nf z hz; rw[Am.mp hz]; exact y0,Fp,Fp,Fp⟩
  ·(intro _ q_; obtain ⟨face,v1,v2,v3,rfl,lf,nf,hv1,hv2,hv3⟩ := q_)
   array_get_dec
   exact ⟨by omega,hR face lf nf⟩
end
def Pa(l:List Int):Int:=l.foldr max 0
theorem Ly{x:Int}(hx:0<x):∀{l:List Int},x<=Pa l↔∃y∈l,x<=y
 | []=>⟨λh=>by simp [Pa] at h; omega,λ⟨_,h,_⟩=>nomatch h⟩
 | a::l=>by
  show x<=max a (Pa l)↔_
  have ih:=Ly hx (l:=l)
  constructor
  ·intro h
   rcases (by omega:x<=a\/x<=Pa l) with h | h
   ·exact ⟨a,Ab,h⟩
   ·obtain ⟨y,hy,e⟩:=ih.mp h
    exact ⟨y,Ak _ hy,e⟩
  ·(intro q_; obtain ⟨y,hy,e⟩ := q_)
   rcases Az.mp hy with rfl | hy
   ·omega
   ·have:=ih.mpr ⟨y,hy,e⟩
    omega
theorem Pf:∀l:List Int,0<=Pa l
 | []=>by simp [Pa]
 | a::l=>by
  show 0<=max a (Pa l)
  have:=Pf l
  omega
theorem xF{l:List Int}{M:Int}(h0:∀x∈l,0<=x)(hM:M∈l)(hle:∀x∈l,x<=M):Pa l=M:=by
 by_cases z:0<M
 ·have h1:=(Ly z (l:=l)).mpr ⟨M,hM,Gx _⟩
  by_cases q:M<Pa l
  ·obtain ⟨y,hy,e⟩:=(Ly (x:=Pa l) (by omega) (l:=l)).mp (Gx _)
   have:=hle y hy
   omega
  ·omega
 ·have:=h0 M hM
  by_cases q:0<Pa l
  ·obtain ⟨y,hy,e⟩:=(Ly q (l:=l)).mp (Gx _)
   have:=hle y hy
   omega
  ·have:=Pf l
   omega
def Pd(nums:List Int)(p:List Int×Nat):Int:=(nums[p.2]?).getD 0+1
def Jg(ws:List (List Int))(face nums w:List Int)(v:Int):Int:=Pa ((Ke ws face w v).map (Pd nums))
def oY:PF:=λds R=>∃(ws:List (List Int)) (face nums w:List Int) (v:Int),ds=[.list (ws.map Cf),.list (face.map Ad),.list (nums.map Ad),Cf w,.int v]/\ws.length=face.length/\ws.length=nums.length/\(∀x∈nums,0<=x)/\R (.int (Jg ws face nums w v))
def cI:PF:=λds R=>∃(ws:List (List Int)) (face nums:List Int) (vs:Int) (k:Nat) (w:List Int) (f:Int),ds=[.list (ws.map Cf),.list (face.map Ad),.int vs,.list (nums.map Ad),.int k]/\ws.length=face.length/\ws.length=nums.length/\(∀x∈nums,0<=x)/\2<=vs/\vs<=16 /\
 ws[k]? = some w/\face[k]? = some f/\∀M:Int,(∀x:Int,x<=M↔∀v:Int,0<=v->v<vs->v≠f->x<=Jg ws face nums w v)->R (.int M)
def Qn:Ac->Bool
 | .int i=>decide (0<=i)
 | _=>false
def Wd(d:Ac)(n:Int):Bool:=match d with
 | .list ds=>decide ((ds.length:Int)=n) && ds.all Qn
 | _=>false
def wM:Ac->Bool
 | .none=>true
 | .bool _=>true
 | .int _=>true
 | .str _=>true
 | _=>false
theorem r0{d:Ac}(h:wM d=true):imm d=true:=by
 cases d <;> first | rfl | cases h
theorem uN{ds:List Ac}(h:ds.all wM=true):Dv ds=true:=jF.mpr λd hd=>r0 (Ex.mp h d hd)
def R6(d:Ac):Prop:=(∃ds,d=.list ds/\ds.all wM=true)\/imm d=true
def lT:PF:=λds R=>∃d,ds=[d]/\imm d=true/\R (.bool (match d with | .int _=>true | _=>false))
def qX:PF:=λds R=>∃(d:Ac) (n:Int),ds=[d,.int n]/\R6 d/\R (.bool (Wd d n))
section
variable{P:Bp}{w:World}{K:PySem.W.Frag}{mg:Str->Option Value}{base:Heap}
theorem aF:FnScope ["words", "reading", "numbers", "word", "value"] ["words", "reading", "numbers", "word", "value"] (Br Pm):=⟨rfl,rfl,rfl,by decide +kernel,rfl,by decide +kernel,by decide +kernel⟩
theorem aJ{f f_showing  : Addr}{fd d_showing:Bx}(F:Fun K "best_turns" "best_turns" Pm f fd)(G_showing:FnOk P w K mg base Gc 2 f_showing d_showing ["words", "reading", "word", "value"] (Oa K (iQ)))(b_showing:Binds K d_showing ["words", "reading", "word", "value"] [])(k_showing:PySem.W.keepIn K (.ref f_showing)=true)(m_showing:mg "showing" = some (.ref f_showing))(mz_max:mg "max" = none):FnOk P w K mg base Gc 3 f fd ["words", "reading", "numbers", "word", "value"] (Oa K (oY)):=by
 refine' Ho (k:=2) F aF (λcdv A outer s H E hr=>?hb) ?h
 case hb =>
  have hr1:Room 1 _:=hr.mono (by decide)
  have hr2:Room 2 _:=hr.mono (by decide)
  have hu64:=hr.units
  exact Cw (Dt (uK rfl rfl mz_max (Ae (Gu (oH (x := "at") "numbers" 2 rfl (by decide +kernel) rfl rfl rfl) rfl (dW (El G_showing hr2 rfl m_showing k_showing b_showing Eg (Ae (Af (pv 0)) (Ae (Af (pv 1)) (Ae (Af (pv 3)) (Ae (Af (pv 4)) Ar)))))) (λ_ _ _=>Gf) (λ_ _ _=>Lj (Ec (Af (pv 1)) (Af (pv 0))) Cs)) Ar)))
 case h =>
  (intro ds R q_; obtain ⟨ws,face,nums,w,v,rfl,l1,l2,h0,hR⟩ := q_)
  refine ⟨rfl,?_⟩
  array_get_dec
  refine ⟨ws,face,w,v,rfl,l1,?_⟩
  array_get_dec
  refine Og (l:=Ke ws face w v) (g:=λp=>.int p.2) rfl (λp=>.int (Pd nums p)) (λp hp yes no hy=>?_) ?_
  ·obtain ⟨k,hk⟩:=By.mp (Bj.mp hp).1
   obtain ⟨ek,hp1,hp2,hp3⟩:=Ox hk
   obtain ⟨x,e1,e2,e3⟩:=Qz (l:=nums) (i:=(p.2:Int)) (by omega) (by omega)
   array_get_dec
   refine ⟨.int x,by rw[Xe,e2]; rfl,im,?_⟩
   array_get_dec
   rw[Ed] at e1
   have : Pd nums p=x+1:=by unfold Pd; rw[e1]; rfl
   rw[this] at hy
   exact hy
  ·array_get_dec
   refine ⟨(Ke ws face w v).map (Pd nums),by rw[Bz]; rfl,λz=>?_,λM hM hle=>?_⟩
   ·have : Jg ws face nums w v=0:=by unfold Jg; rw[z]; rfl
    rw[this] at hR
    array_get_dec
    exact hR
   ·have : Jg ws face nums w v=M:=xF (λx hx=>?_) hM hle
    ·rw[this] at hR
     array_get_dec
     exact hR
    ·obtain ⟨p,_,rfl⟩:=Bl.mp hx
     unfold Pd
     cases q:nums[p.2]? with
     | none=>simp
     | some y=>have:=h0 y (An q); show 0<=y+1; omega
theorem aH:FnScope ["words", "reading", "values", "numbers", "at", "others"] ["words", "reading", "values", "numbers", "at"] (Br Ow):=⟨rfl,rfl,rfl,by decide +kernel,rfl,by decide +kernel,by decide +kernel⟩
theorem aI{f f_best_turns  : Addr}{fd d_best_turns:Bx}(F:Fun K "sure_turns" "sure_turns" Ow f fd)(G_best_turns:FnOk P w K mg base Gc 3 f_best_turns d_best_turns ["words", "reading", "numbers", "word", "value"] (Oa K (oY)))(b_best_turns:Binds K d_best_turns ["words", "reading", "numbers", "word", "value"] [])(k_best_turns:PySem.W.keepIn K (.ref f_best_turns)=true)(m_best_turns:mg "best_turns" = some (.ref f_best_turns))(mz_range:mg "range" = none)(mz_min:mg "min" = none):FnOk P w K mg base Gc 4 f fd ["words", "reading", "values", "numbers", "at"] (Oa K (cI)):=by
 refine' Ho (k:=3) F aH (λcdv A outer s H E hr=>?hb) ?h
 case hb =>
  have hr1:Room 1 _:=hr.mono (by decide)
  have hr2:Room 2 _:=hr.mono (by decide)
  have hr3:Room 3 _:=hr.mono (by decide)
  have hu64:=hr.units
  exact Bq (Xm (o:=false) (i0:=5) aH.nd rfl rfl (E1 (x := "value") "at" "reading" 4 1 rfl (by decide +kernel) rfl rfl rfl) rfl (Gy rfl mz_range (Ae (Af (pv 2)) Ar)) (λ_ _ _=>Kb (Vx hu64 (Af (pv 0)) (Ec (Af (pv 2)) (Af (pv 1))))) (λ_ _ _=>Af (pv 0)))
   (Cw (Dt (Df (lZ rfl) xG rfl mz_min (by decide +kernel) (Ae (Gu (U6 (x := "value") "at" "numbers" "reading" "words" 4 3 1 0 rfl (by decide +kernel) rfl rfl rfl) rfl (dW (Af (pv 5))) (λ_ _ _=>Gf) (λ_ _ _=>El G_best_turns hr3 rfl m_best_turns k_best_turns b_best_turns Eg (Ae (Af (pv 4)) (Ae (Af (pv 3)) (Ae (Af (pv 2)) (Ae (Ec (Af (pv 4)) (Af (pv 1))) (Ae (Af (pv 0)) Ar))))))) Ar))))
 case h =>
  (intro ds R q_; obtain ⟨ws,face,nums,vs,k,w,f,rfl,l1,l2,h0,v0,v1,hw,hf,hR⟩ := q_)
  refine ⟨rfl,?_⟩
  array_get_dec
  have ef:Py (face.map Ad) (k:Int)=some (.int f):=Lo (by rw[Ao,hf]; rfl)
  have ew:Py (ws.map Cf) (k:Int)=some (Cf w):=Lo (by rw[Ao,hw]; rfl)
  refine ⟨by omega,by omega,?_⟩
  refine We (l:=Cb vs.toNat) (g:=λi:Nat=>.int i) rfl (λi:Nat=>decide ((i:Int)≠f)) (λi=>.int i) (λi _ yes no hy hn=>?_) ?_
  ·array_get_dec
   refine ⟨_,ef,dp,?_⟩
   array_get_dec
   refine Kf (λh=>?_) (λh=>?_)
   ·array_get_dec
    exact hy (by simpa using h)
   ·exact hn (by simpa using h)
  array_get_dec
  refine Og (l:=(Cb vs.toNat).filter λi:Nat=>decide ((i:Int)≠f)) (g:=λi:Nat=>.int i) rfl (λi=>.int (Jg ws face nums w i)) (λi _ yes no hy=>?_) ?_
  ·array_get_dec
   refine ⟨_,ew,ws,face,nums,w,i,rfl,l1,l2,h0,?_⟩
   array_get_dec
   exact hy
  array_get_dec
  have mem:∀b:Int,b∈((Cb vs.toNat).filter λi:Nat=>decide ((i:Int)≠f)).map (λi:Nat=>Jg ws face nums w i)↔∃v:Int,0<=v/\v<vs/\v≠f/\b=Jg ws face nums w v:=λb=>by
   constructor
   ·intro h
    obtain ⟨i,hi,rfl⟩:=Bl.mp h
    obtain ⟨h1,h2⟩:=Bj.mp hi
    have:=Fe.mp h1
    exact ⟨i,by omega,by omega,by simpa using h2,rfl⟩
   ·(intro q_; obtain ⟨v,h1,h2,h3,rfl⟩ := q_)
    refine Bl.mpr ⟨v.toNat,Bj.mpr ⟨Fe.mpr (by omega),?_⟩,by rw[Int.toNat_of_nonneg h1]⟩
    rw[Int.toNat_of_nonneg h1]
    simpa using h3
  refine ⟨((Cb vs.toNat).filter λi:Nat=>decide ((i:Int)≠f)).map (λi:Nat=>Jg ws face nums w i),by rw[Bz]; rfl,λz=>?_,λM hM hle=>?_⟩
  ·have h1:=(mem (Jg ws face nums w 0)).mpr
   have h2:=(mem (Jg ws face nums w 1)).mpr
   rw[z] at h1 h2
   by_cases q:f=0
   ·exact absurd (h2 ⟨1,by omega,by omega,by omega,rfl⟩) Cz
   ·exact absurd (h1 ⟨0,by omega,by omega,by omega,rfl⟩) Cz
  ·array_get_dec
   refine hR M λx=>⟨λh v h1 h2 h3=>?_,λh=>?_⟩
   ·have:=hle _ ((mem _).mpr ⟨v,h1,h2,h3,rfl⟩)
    omega
   ·obtain ⟨v,h1,h2,h3,rfl⟩:=(mem M).mp hM
    exact h v h1 h2 h3
end
noncomputable def Ra(ws:List (List Int))(face:List Int)(vs:Int)(nums:List Int):Bool:=@decide (∀(k:Nat) (w:List Int) (f x:Int),ws[k]? = some w->face[k]? = some f->nums[k]? = some x->∀v:Int,0<=v->v<vs->v≠f->x<=Jg ws face nums w v) (Js _)
theorem wF{d:Ac}(h:Tg d "int" = true):(∃i,d=.int i)\/∃b,d=.bool b:=by
 cases d <;> simp [Tg,pZ] at h <;> first | exact .inl ⟨_,rfl⟩ | exact .inr ⟨_,rfl⟩
theorem uP{d:Ac}(h:Tg d "list" = true):∃ds,d=.list ds:=by
 cases d <;> simp [Tg,pZ] at h
 exact ⟨_,rfl⟩
theorem qD{d:Ac}(h:Tg d "list" = false)(n:Int):Wd d n=false:=by
 cases d <;> first | rfl | simp [Tg,pZ] at h
section
variable{P:Bp}{w:World}{K:PySem.W.Frag}{mg:Str->Option Value}{base:Heap}
theorem gO:FnScope ["thing"] ["thing"] (Br Sv):=⟨rfl,rfl,rfl,by decide +kernel,rfl,by decide +kernel,by decide +kernel⟩
theorem gA{f   : Addr}{fd  : Bx}(F:Fun K "is_whole" "is_whole" Sv f fd)(mz_bool:mg "bool" = none)(mz_isinstance:mg "isinstance" = none)(mz_int:mg "int" = none):FnOk P w K mg base Gc 1 f fd ["thing"] (Oa K (lT)):=by
 refine' Ho (k:=0) F gO (λcdv A outer s H E hr=>?hb) ?h
 case hb =>
  have hu64:=hr.units
  exact Cw (Dt (iS (Df jN gT rfl mz_isinstance (by decide +kernel) (Ae (Af (pv 0)) (Ae (oW (n := "int") rfl mz_int (by decide +kernel)) Ar))) (iO (zT (Df jN gT rfl mz_isinstance (by decide +kernel) (Ae (Af (pv 0)) (Ae (oW (n := "bool") rfl mz_bool (by decide +kernel)) Ar)))))))
 case h =>
  (intro ds R q_; obtain ⟨d,rfl,hd,hR⟩ := q_)
  refine ⟨rfl,?_⟩
  array_get_dec
  refine n5 (λh=>?_) (λh=>?_)
  ·rcases wF h with ⟨i,rfl⟩ | ⟨b,rfl⟩
   ·array_get_dec
    exact hR
   ·array_get_dec
    exact hR
  ·array_get_dec
   cases d <;> first | exact hR | simp [Tg,pZ] at h
theorem Yp:FnScope ["thing", "many"] ["thing", "many"] (Br Nu):=⟨rfl,rfl,rfl,by decide +kernel,rfl,by decide +kernel,by decide +kernel⟩
theorem Xy{f f_is_whole  : Addr}{fd d_is_whole:Bx}(F:Fun K "are_numbers" "are_numbers" Nu f fd)(G_is_whole:FnOk P w K mg base Gc 1 f_is_whole d_is_whole ["thing"] (Oa K (lT)))(b_is_whole:Binds K d_is_whole ["thing"] [])(k_is_whole:PySem.W.keepIn K (.ref f_is_whole)=true)(m_is_whole:mg "is_whole" = some (.ref f_is_whole))(mz_len:mg "len" = none)(mz_list:mg "list" = none)(mz_isinstance:mg "isinstance" = none)(mz_all:mg "all" = none):FnOk P w K mg base Gc 2 f fd ["thing", "many"] (Oa K (qX)):=by
 refine' Ho (k:=1) F Yp (λcdv A outer s H E hr=>?hb) ?h
 case hb =>
  have hr1:Room 1 _:=hr.mono (by decide)
  have hu64:=hr.units
  exact Bq (Lp (qE (O9 (Sy (Mp (Df jN gT rfl mz_isinstance (by decide +kernel) (Ae (Af (pv 0)) (Ae (oW (n := "list") rfl mz_list (by decide +kernel)) Ar))))) (t8 (Vx hu64 (Df Fy Jn rfl mz_len (by decide +kernel) (Ae (Af (pv 0)) Ar)) (Af (pv 1))))))
   (Cw (Dt Ln)) Jc)
   (Cw (Dt (Df (Up rfl) dY rfl mz_all (by decide +kernel) (Ae (Gu (Z0 (x := "number") rfl (by decide +kernel)) rfl (dW (Af (pv 0))) (λ_ _ _=>Gf) (λ_ _ _=>iS (El G_is_whole hr1 rfl m_is_whole k_is_whole b_is_whole Eg (Ae (Af (pv 0)) Ar)) (iO (xW (Af (pv 0)) Cs)))) Ar))))
 case h =>
  (intro ds R q_; obtain ⟨d,n,rfl,hd,hR⟩ := q_)
  refine ⟨rfl,?_⟩
  array_get_dec
  refine L6 (λh=>?_) (λh=>?_)
  ·rw[qD (by simpa using h)] at hR
   array_get_dec
   exact hR
  obtain ⟨ds,rfl⟩:=uP (d:=d) (by simpa using h)
  have ha:ds.all wM=true:=by
   rcases hd with ⟨ds',e,h⟩ | h
   ·cases e; exact h
   ·cases h
  have hi:=uN ha
  array_get_dec
  refine bN (λh1=>?_) (λh1=>?_)
  ·array_get_dec
   have : Wd (.list ds) n=false:=by
    show (decide ((ds.length:Int)=n) && ds.all Qn)=false
    rw[show decide ((ds.length:Int)=n)=false by simpa using h1]
    rfl
   rw[this] at hR
   exact hR
  ·array_get_dec
   have e:Wd (.list ds) n=ds.all Qn:=by
    show (decide ((ds.length:Int)=n) && ds.all Qn)=_
    rw[show decide ((ds.length:Int)=n)=true by simpa using h1]
    rfl
   rw[e] at hR
   refine Og (l:=ds) (g:=λd=>d) (by simp) (λd=>.bool (Qn d)) (λd hm yes no hy=>?_) ?_
   ·array_get_dec
    refine ⟨d,rfl,jF.mp hi d hm,?_⟩
    cases d with
    | int i =>
     array_get_dec
     exact hy
    | _ =>
     array_get_dec
     exact hy
   ·array_get_dec
    refine ⟨ds.map Qn,by rw[Bz]; rfl,?_⟩
    rw[Kw]
    array_get_dec
    exact hR
end
theorem kZ:∀{ds:List Ac},ds.all Qn=true->∃nums:List Int,ds=nums.map Ad/\∀x∈nums,0<=x
 | [],_=>⟨[],rfl,λ_ z=>nomatch z⟩
 | d::ds,h=>by
  rw[List.all_cons,Cg] at h
  obtain ⟨nums,rfl,h2⟩:=kZ h.2
  cases d with
  | int i=>exact ⟨i::nums,rfl,λx hx=>by
    rcases Az.mp hx with rfl | hx
    ·simpa [Qn] using h.1
    ·exact h2 x hx⟩
  | _=>simp [Qn] at h
theorem fN{d:Ac}{n:Int}(h:Wd d n=true):∃nums:List Int,d=.list (nums.map Ad)/\(nums.length:Int)=n/\∀x∈nums,0<=x:=by
 cases d with
 | list ds =>
  have h:(decide ((ds.length:Int)=n) && ds.all Qn)=true:=h
  rw[Cg] at h
  obtain ⟨nums,rfl,h2⟩:=kZ h.2
  exact ⟨nums,rfl,by simpa using h.1,h2⟩
 | _=>cases h
noncomputable def E2(ws:List (List Int))(face:List Int)(vs:Int)(nums:List Int)(k:Nat):Bool:=@decide (∀(w:List Int) (f x:Int),ws[k]? = some w->face[k]? = some f->nums[k]? = some x->∀v:Int,0<=v->v<vs->v≠f->x<=Jg ws face nums w v) (Js _)
theorem mO(ws:List (List Int))(face:List Int)(vs:Int)(nums:List Int):Ra ws face vs nums=(Cb ws.length).all (id ∘ E2 ws face vs nums):=by
 rw[Sb,Ex]
 unfold Ra E2
 simp only[Ux,id,decide_eq_true_eq]
 exact ⟨λh k _=>h k,λh k w f x h1=>h k (Fe.mpr (Ah.mp h1).1) w f x h1⟩
def bY:PF:=λds R=>∃(h:Int) (face:List Int) (vs:Int) (d:Ac),ds=[.int h,.list (face.map Ad),.int vs,d]/\0<=h/\h<=10/\face.length=2 ^ h.toNat/\2<=vs/\vs<=16/\R6 d /\
 ∀L:List (List Int),L.Perm (Ef h.toNat)->Ord L->(Wd d L.length=false->R (.bool false))/\∀nums:List Int,d=.list (nums.map Ad)->nums.length=L.length->(∀x∈nums,0<=x)->R (.bool (Ra L face vs nums))
section
variable{P:Bp}{w:World}{K:PySem.W.Frag}{mg:Str->Option Value}{base:Heap}
theorem Yq:FnScope ["holes", "reading", "values", "thing", "words"] ["holes", "reading", "values", "thing"] (Br Nw):=⟨rfl,rfl,rfl,by decide +kernel,rfl,by decide +kernel,by decide +kernel⟩
theorem Xs{f f_all_words f_sure_turns f_are_numbers  : Addr}{fd d_all_words d_sure_turns d_are_numbers:Bx}(F:Fun K "shows_least" "shows_least" Nw f fd)(G_all_words:FnOk P w K mg base Gc 1 f_all_words d_all_words ["holes"] (Oa K (Pr)))(b_all_words:Binds K d_all_words ["holes"] [])(k_all_words:PySem.W.keepIn K (.ref f_all_words)=true)(m_all_words:mg "all_words" = some (.ref f_all_words))(G_sure_turns:FnOk P w K mg base Gc 4 f_sure_turns d_sure_turns ["words", "reading", "values", "numbers", "at"] (Oa K (cI)))(b_sure_turns:Binds K d_sure_turns ["words", "reading", "values", "numbers", "at"] [])(k_sure_turns:PySem.W.keepIn K (.ref f_sure_turns)=true)(m_sure_turns:mg "sure_turns" = some (.ref f_sure_turns))(G_are_numbers:FnOk P w K mg base Gc 2 f_are_numbers d_are_numbers ["thing", "many"] (Oa K (qX)))(b_are_numbers:Binds K d_are_numbers ["thing", "many"] [])(k_are_numbers:PySem.W.keepIn K (.ref f_are_numbers)=true)(m_are_numbers:mg "are_numbers" = some (.ref f_are_numbers))(mz_len:mg "len" = none)(mz_range:mg "range" = none)(mz_all:mg "all" = none):FnOk P w K mg base Gc 5 f fd ["holes", "reading", "values", "thing"] (Oa K (bY)):=by
 refine' Ho (k:=4) F Yq (λcdv A outer s H E hr=>?hb) ?h
 case hb =>
  have hr1:Room 1 _:=hr.mono (by decide)
  have hr2:Room 2 _:=hr.mono (by decide)
  have hr3:Room 3 _:=hr.mono (by decide)
  have hr4:Room 4 _:=hr.mono (by decide)
  have hu64:=hr.units
  exact Bq (Dr (i:=4) Yq.nd rfl (Lz rfl) (El G_all_words hr1 rfl m_all_words k_all_words b_all_words Eg (Ae (Af (pv 0)) Ar)))
   (Bq (Lp (Sy (Mp (El G_are_numbers hr2 rfl m_are_numbers k_are_numbers b_are_numbers Eg (Ae (Af (pv 3)) (Ae (Df Fy Jn rfl mz_len (by decide +kernel) (Ae (Af (pv 4)) Ar)) Ar)))))
   (Cw (Dt Ln)) Jc)
   (Cw (Dt (Df (Up rfl) dY rfl mz_all (by decide +kernel) (Ae (Gu (U6 (x := "at") "reading" "thing" "values" "words" 1 3 2 4 rfl (by decide +kernel) rfl rfl rfl) rfl (Gy rfl mz_range (Ae (Df Fy Jn rfl mz_len (by decide +kernel) (Ae (Af (pv 4)) Ar)) Ar)) (λ_ _ _=>Gf) (λ_ _ _=>J4 (Ec (Af (pv 2)) (Af (pv 0))) (El G_sure_turns hr4 rfl m_sure_turns k_sure_turns b_sure_turns Eg (Ae (Af (pv 4)) (Ae (Af (pv 1)) (Ae (Af (pv 3)) (Ae (Af (pv 2)) (Ae (Af (pv 0)) Ar)))))))) Ar)))))
 case h =>
  (intro ds R q_; obtain ⟨h,face,vs,d,rfl,h0,h1,lf,v0,v1,hd,hR⟩ := q_)
  refine ⟨rfl,?_⟩
  array_get_dec
  refine ⟨h,rfl,h0,h1,λL hp ho=>?_⟩
  obtain ⟨hR1,hR2⟩:=hR L hp ho
  have lL:L.length=2 ^ h.toNat:=by rw[hp.length_eq,Gi]
  obtain ⟨l1,l2⟩:=Ol (n:=h.toNat) (by omega) hp
  array_get_dec
  rw[Aa]
  refine ⟨d,L.length,rfl,hd,?_⟩
  refine bN (λhb=>?_) (λhb=>?_)
  ·array_get_dec
   exact hR1 (by simpa using hb)
  obtain ⟨nums,rfl,ln,nn⟩:=fN (d:=d) (n:=L.length) (by simpa using hb)
  have ln:nums.length=L.length:=by omega
  have hR2:=hR2 nums rfl ln nn
  array_get_dec
  rw[Aa,Ed]
  refine ⟨by omega,by omega,?_⟩
  refine Og (l:=Cb L.length) (g:=λi:Nat=>.int i) rfl (λk=>.bool (E2 L face vs nums k)) (λk hk yes no hy=>?_) ?_
  ·have hk:=Fe.mp hk
   obtain ⟨w,hw⟩ : ∃w,L[k]? = some w:=⟨_,Ai hk⟩
   obtain ⟨f,hf⟩ : ∃f,face[k]? = some f:=⟨_,Ai (by omega)⟩
   obtain ⟨x,hx⟩ : ∃x,nums[k]? = some x:=⟨_,Ai (by omega)⟩
   have ex:Py (nums.map Ad) (k:Int)=some (.int x):=Lo (by rw[Ao,hx]; rfl)
   array_get_dec
   refine ⟨_,ex,L,face,nums,vs,k,w,f,rfl,by omega,by omega,nn,v0,v1,hw,hf,λM hM=>?_⟩
   array_get_dec
   have : E2 L face vs nums k=decide (x<=M):=by
    unfold E2
    refine decide_eq_decide.mpr ⟨λh=>(hM x).mpr (h w f x hw hf hx),λh w' f' x' h1 h2 h3=>?_⟩
    rw[hw] at h1; cases h1
    rw[hf] at h2; cases h2
    rw[hx] at h3; cases h3
    exact (hM x).mp h
   rw[this] at hy
   exact hy
  ·array_get_dec
   refine ⟨(Cb L.length).map (E2 L face vs nums),by rw[Bz]; rfl,?_⟩
   rw[Kw]
   array_get_dec
   rw[mO] at hR2
   exact hR2
end
noncomputable def Wb(ws:List (List Int))(face:List Int)(vs:Int)(nums:List Int):Bool:=@decide (∀(k:Nat) (w:List Int) (f x:Int),ws[k]? = some w->face[k]? = some f->nums[k]? = some x->∃v:Int,0<=v/\v<vs/\v≠f/\Jg ws face nums w v<=x) (Js _)
noncomputable def mI(ws:List (List Int))(face:List Int)(vs:Int)(nums:List Int)(k:Nat):Bool:=@decide (∀(w:List Int) (f x:Int),ws[k]? = some w->face[k]? = some f->nums[k]? = some x->∃v:Int,0<=v/\v<vs/\v≠f/\Jg ws face nums w v<=x) (Js _)
theorem rQ(ws:List (List Int))(face:List Int)(vs:Int)(nums:List Int):Wb ws face vs nums=(Cb ws.length).all (id ∘ mI ws face vs nums):=by
 rw[Sb,Ex]
 unfold Wb mI
 simp only[Ux,id,decide_eq_true_eq]
 exact ⟨λh k _=>h k,λh k w f x h1=>h k (Fe.mpr (Ah.mp h1).1) w f x h1⟩
def Yw:PF:=λds R=>∃(h:Int) (face:List Int) (vs:Int) (d:Ac),ds=[.int h,.list (face.map Ad),.int vs,d]/\0<=h/\h<=10/\face.length=2 ^ h.toNat/\2<=vs/\vs<=16/\R6 d /\
 ∀L:List (List Int),L.Perm (Ef h.toNat)->Ord L->(Wd d L.length=false->R (.bool false))/\∀nums:List Int,d=.list (nums.map Ad)->nums.length=L.length->(∀x∈nums,0<=x)->R (.bool (Wb L face vs nums))
section
variable{P:Bp}{w:World}{K:PySem.W.Frag}{mg:Str->Option Value}{base:Heap}
theorem Sf:FnScope ["holes", "reading", "values", "thing", "words"] ["holes", "reading", "values", "thing"] (Br Jq):=⟨rfl,rfl,rfl,by decide +kernel,rfl,by decide +kernel,by decide +kernel⟩
theorem Sh{f f_all_words f_sure_turns f_are_numbers  : Addr}{fd d_all_words d_sure_turns d_are_numbers:Bx}(F:Fun K "shows_most_often" "shows_most_often" Jq f fd)(G_all_words:FnOk P w K mg base Gc 1 f_all_words d_all_words ["holes"] (Oa K (Pr)))(b_all_words:Binds K d_all_words ["holes"] [])(k_all_words:PySem.W.keepIn K (.ref f_all_words)=true)(m_all_words:mg "all_words" = some (.ref f_all_words))(G_sure_turns:FnOk P w K mg base Gc 4 f_sure_turns d_sure_turns ["words", "reading", "values", "numbers", "at"] (Oa K (cI)))(b_sure_turns:Binds K d_sure_turns ["words", "reading", "values", "numbers", "at"] [])(k_sure_turns:PySem.W.keepIn K (.ref f_sure_turns)=true)(m_sure_turns:mg "sure_turns" = some (.ref f_sure_turns))(G_are_numbers:FnOk P w K mg base Gc 2 f_are_numbers d_are_numbers ["thing", "many"] (Oa K (qX)))(b_are_numbers:Binds K d_are_numbers ["thing", "many"] [])(k_are_numbers:PySem.W.keepIn K (.ref f_are_numbers)=true)(m_are_numbers:mg "are_numbers" = some (.ref f_are_numbers))(mz_len:mg "len" = none)(mz_range:mg "range" = none)(mz_all:mg "all" = none):FnOk P w K mg base Gc 5 f fd ["holes", "reading", "values", "thing"] (Oa K (Yw)):=by
 refine' Ho (k:=4) F Sf (λcdv A outer s H E hr=>?hb) ?h
 case hb =>
  have hr1:Room 1 _:=hr.mono (by decide)
  have hr2:Room 2 _:=hr.mono (by decide)
  have hr3:Room 3 _:=hr.mono (by decide)
  have hr4:Room 4 _:=hr.mono (by decide)
  have hu64:=hr.units
  exact Bq (Dr (i:=4) Sf.nd rfl (Lz rfl) (El G_all_words hr1 rfl m_all_words k_all_words b_all_words Eg (Ae (Af (pv 0)) Ar)))
   (Bq (Lp (Sy (Mp (El G_are_numbers hr2 rfl m_are_numbers k_are_numbers b_are_numbers Eg (Ae (Af (pv 3)) (Ae (Df Fy Jn rfl mz_len (by decide +kernel) (Ae (Af (pv 4)) Ar)) Ar)))))
   (Cw (Dt Ln)) Jc)
   (Cw (Dt (Df (Up rfl) dY rfl mz_all (by decide +kernel) (Ae (Gu (U6 (x := "at") "reading" "thing" "values" "words" 1 3 2 4 rfl (by decide +kernel) rfl rfl rfl) rfl (Gy rfl mz_range (Ae (Df Fy Jn rfl mz_len (by decide +kernel) (Ae (Af (pv 4)) Ar)) Ar)) (λ_ _ _=>Gf) (λ_ _ _=>xW (Ec (Af (pv 2)) (Af (pv 0))) (El G_sure_turns hr4 rfl m_sure_turns k_sure_turns b_sure_turns Eg (Ae (Af (pv 4)) (Ae (Af (pv 1)) (Ae (Af (pv 3)) (Ae (Af (pv 2)) (Ae (Af (pv 0)) Ar)))))))) Ar)))))
 case h =>
  (intro ds R q_; obtain ⟨h,face,vs,d,rfl,h0,h1,lf,v0,v1,hd,hR⟩ := q_)
  refine ⟨rfl,?_⟩
  array_get_dec
  refine ⟨h,rfl,h0,h1,λL hp ho=>?_⟩
  obtain ⟨hR1,hR2⟩:=hR L hp ho
  have lL:L.length=2 ^ h.toNat:=by rw[hp.length_eq,Gi]
  obtain ⟨l1,l2⟩:=Ol (n:=h.toNat) (by omega) hp
  array_get_dec
  rw[Aa]
  refine ⟨d,L.length,rfl,hd,?_⟩
  refine bN (λhb=>?_) (λhb=>?_)
  ·array_get_dec
   exact hR1 (by simpa using hb)
  obtain ⟨nums,rfl,ln,nn⟩:=fN (d:=d) (n:=L.length) (by simpa using hb)
  have ln:nums.length=L.length:=by omega
  have hR2:=hR2 nums rfl ln nn
  array_get_dec
  rw[Aa,Ed]
  refine ⟨by omega,by omega,?_⟩
  refine Og (l:=Cb L.length) (g:=λi:Nat=>.int i) rfl (λk=>.bool (mI L face vs nums k)) (λk hk yes no hy=>?_) ?_
  ·have hk:=Fe.mp hk
   obtain ⟨w,hw⟩ : ∃w,L[k]? = some w:=⟨_,Ai hk⟩
   obtain ⟨f,hf⟩ : ∃f,face[k]? = some f:=⟨_,Ai (by omega)⟩
   obtain ⟨x,hx⟩ : ∃x,nums[k]? = some x:=⟨_,Ai (by omega)⟩
   have ex:Py (nums.map Ad) (k:Int)=some (.int x):=Lo (by rw[Ao,hx]; rfl)
   array_get_dec
   refine ⟨_,ex,L,face,nums,vs,k,w,f,rfl,by omega,by omega,nn,v0,v1,hw,hf,λM hM=>?_⟩
   array_get_dec
   have lem:M<=x↔∃v:Int,0<=v/\v<vs/\v≠f/\Jg L face nums w v<=x:=by
    constructor
    ·intro q
     refine Fg λz=>?_
     have:=(hM (x+1)).mpr λv z1 z2 z3=>Int.lt_of_not_ge λz4=>z ⟨v,z1,z2,z3,z4⟩
     omega
    ·(intro q_; obtain ⟨v,z1,z2,z3,z4⟩ := q_)
     have:=(hM M).mp (Gx _) v z1 z2 z3
     omega
   have : mI L face vs nums k=decide (M<=x):=by
    unfold mI
    refine decide_eq_decide.mpr ⟨λh=>lem.mpr (h w f x hw hf hx),λh w' f' x' h1 h2 h3=>?_⟩
    rw[hw] at h1; cases h1
    rw[hf] at h2; cases h2
    rw[hx] at h3; cases h3
    exact lem.mp h
   rw[this] at hy
   exact hy
  ·array_get_dec
   refine ⟨(Cb L.length).map (mI L face vs nums),by rw[Bz]; rfl,?_⟩
   rw[Kw]
   array_get_dec
   rw[rQ] at hR2
   exact hR2
end
def Je(P:List (List Int))(f g:List Int->Int)(w:List Int)(v:Int):Int:=Pa ((P.filter λu=>decide (f u=v) && aW w u).map λu=>g u+1)
def dX(L:List (List Int))(f:List Int->Int)(vs:Int)(g:List Int->Int)(P:List (List Int)):Prop:=∀w∈P,∀x:Int,x<=g w↔∀v:Int,0<=v->v<vs->v≠f w->x<=Je L f g w v
def iX(L:List (List Int))(f:List Int->Int)(vs:Int)(g:List Int->Int):Prop:=dX L f vs g L
theorem Zk{l m:List Int}(h:∀x,x∈l↔x∈m):Pa l=Pa m:=by
 have key:∀{l m:List Int},(∀x∈l,x∈m)->Pa l<=Pa m:=λ{l m} h=>by
  by_cases z:0<Pa l
  ·obtain ⟨y,hy,e⟩:=(Ly z (l:=l)).mp (Gx _)
   exact (Ly z).mpr ⟨y,h y hy,e⟩
  ·have:=Pf m
   omega
 exact Int.le_antisymm (key λx hx=>(h x).mp hx) (key λx hx=>(h x).mpr hx)
theorem j6{w u:List Int}:aW w u=true↔∀i∈w,i∈u:=by
 unfold aW
 rw[Ex]
 simp
theorem Vo{n:Int}{w u:List Int}(hw:Ja n w)(hu:Ja n u)(hi:aW w u=true)(ne:w≠u):w.length<u.length:=by
 rw[j6] at hi
 obtain ⟨y,hy,hn⟩ : ∃y∈u,y∉w:=Fg λz=>ne (nH hw hu λi=>⟨hi i,λq=>Fg λr=>z ⟨i,q,r⟩⟩)
 have:=NdS.len_leI (l2:=u.erase y) (jS hw) λe he=>(List.mem_erase_of_ne (show e≠y from λq=>hn (by rw[<- q]; exact he))).mpr (hi e he)
 rw[gR hy] at this
 have:=Rh hy
 omega
def fJ(g:List Int->Int)(w:List Int)(X:Int)(u:List Int):Int:=if u=w then X else g u
theorem cJ{g:List Int->Int}{w:List Int}{X:Int}:fJ g w X w=X:=if_pos rfl
theorem Pb{g:List Int->Int}{w u:List Int}{X:Int}(h:u≠w):fJ g w X u=g u:=if_neg h
theorem iG{n:Int}{L M:List (List Int)}{f g:List Int->Int}{vs X:Int}{i:Nat}{w:List Int}(hm:∀u,u∈M↔u∈L)(nd:M.Nodup)(hr:∀u∈L,Ja n u)(hs:M.Pairwise λx y=>y.length<=x.length)(hw:M[i]? = some w)(ho:dX L f vs g (M.take i))(hX:∀x:Int,x<=X↔∀v:Int,0<=v->v<vs->v≠f w->x<=Je (M.take i) f g w v):dX L f vs (fJ g w X) (M.take (i+1)):=by
 have hi:=(Ah.mp hw).1
 have wL:=(hm w).mp (An hw)
 have ahead:∀u∈L,w.length<u.length->u∈M.take i:=λu hu hl=>by
  obtain ⟨j,hj⟩:=By.mp ((hm u).mpr hu)
  have hj':=(Ah.mp hj).1
  by_cases q:j<i
  ·exact An (i:=j) (by rw[Ea q]; exact hj)
  ·exfalso
   by_cases z:j=i
   ·subst z; rw[hw] at hj; cases hj; omega
   ·have:=Da.mp hs i j hi hj' (by omega)
    rw[Ai hi] at hw
    rw[Ai hj'] at hj
    cases hw
    cases hj
    omega
 have Vt:∀u∈M.take i,w.length<=u.length/\u≠w:=λu hu=>by
  obtain ⟨j,hj⟩:=By.mp hu
  have q:j<i:=by
   have:=(Ah.mp hj).1
   rw[Dj] at this
   omega
  rw[Ea q] at hj
  have hj':=(Ah.mp hj).1
  rw[Ai hi] at hw
  rw[Ai hj'] at hj
  cases hw
  cases hj
  refine ⟨Da.mp hs j i hj' hi q,λz=>?_⟩
  have q3:=Da.mp nd j i hj' hi q
  exact q3 z
 intro u hu x
 rw[List.take_add_one,hw] at hu
 have hu:u∈M.take i++[w]:=hu
 rcases Bi.mp hu with hu | hu
 ·obtain ⟨b1,b2⟩:=Vt u hu
  have uL:=(hm u).mp (Zw _ _ hu)
  have same:∀v,Je L f (fJ g w X) u v=Je L f g u v:=λv=>by
   unfold Je
   congr 1
   refine Jr λc hc=>?_
   obtain ⟨c1,c2⟩:=Bj.mp hc
   rw[Cg] at c2
   have : c≠w:=λz=>by
    subst z
    have:=Vo (hr u uL) (hr c c1) c2.2 b2
    omega
   rw[Pb this]
  rw[Pb b2]
  simp only[same]
  exact ho u hu x
 ·rw[Am.mp hu,cJ,hX x]
  refine forall_congr' λv=>forall_congr' λq1=>forall_congr' λq2=>forall_congr' λq3=>?_
  have : Je (M.take i) f g w v=Je L f (fJ g w X) w v:=by
   unfold Je
   refine Zk λy=>?_
   constructor
   ·intro hy
    obtain ⟨c,hc,rfl⟩:=Bl.mp hy
    obtain ⟨c1,c2⟩:=Bj.mp hc
    exact Bl.mpr ⟨c,Bj.mpr ⟨(hm c).mp (Zw _ _ c1),c2⟩,by rw[Pb (Vt c c1).2]⟩
   ·intro hy
    obtain ⟨c,hc,rfl⟩:=Bl.mp hy
    obtain ⟨c1,c2⟩:=Bj.mp hc
    have c3:=c2
    rw[Cg,decide_eq_true_eq] at c3
    have ne:c≠w:=λz=>q3 (by rw[<- c3.1,z])
    have:=Vo (hr w wL) (hr c c1) c3.2 ne.symm
    exact Bl.mpr ⟨c,Bj.mpr ⟨ahead c c1 this,c2⟩,by rw[Pb ne]⟩
  rw[this]
theorem Zc:∀{L:List (List Int)},L.Nodup->∀{face:List Int},face.length=L.length->∃f:List Int->Int,face=L.map f
 | [],_,[],_=>⟨λ_=>0,rfl⟩
 | [],_,_::_,h=>by cases h
 | _::_,_,[],h=>by cases h
 | w::L,nd,x::face,h=>by
  obtain ⟨n1,n2⟩:=Di.mp nd
  obtain ⟨f,e⟩:=Zc n2 (face:=face) (by simpa using h)
  refine ⟨fJ f w x,?_⟩
  rw[Ba,cJ,e]
  congr 1
  refine Jr λu hu=>?_
  rw[Pb (show u≠w from λz=>n1 (by rw[<- z]; exact hu))]
def sQ:PF:=λds R=>∃(h:Int) (L:List (List Int)) (f:List Int->Int) (vs:Int),ds=[.int h,.list ((L.map f).map Ad),.int vs]/\0<=h/\h<=10/\L.Perm (Ef h.toNat)/\Ord L/\2<=vs/\vs<=16 /\
 ∀g:List Int->Int,iX L f vs g->R (.list ((L.map g).map Ad))
theorem Of(L:List (List Int))(f g:List Int->Int)(w:List Int)(v:Int):Jg L (L.map f) (L.map g) w v=Je L f g w v:=by
 unfold Jg Je
 refine Zk λx=>?_
 have at':∀p:List Int×Nat,p∈L.zipIdx->L[p.2]? = some p.1:=λp hp=>by
  obtain ⟨k,hk⟩:=By.mp hp
  obtain ⟨ek,hp1,hp2,hp3⟩:=Ox hk
  exact Ht.mp hp
 constructor
 ·intro hx
  obtain ⟨p,hp,rfl⟩:=Bl.mp hx
  obtain ⟨p1,p2⟩:=Bj.mp hp
  have e:=at' p p1
  unfold fI at p2
  rw[Ao,e,Cg,decide_eq_true_eq] at p2
  refine Bl.mpr ⟨p.1,Bj.mpr ⟨An e,?_⟩,?_⟩
  ·rw[Cg,decide_eq_true_eq]
   exact ⟨Bo p2.1,p2.2⟩
  ·unfold Pd
   rw[Ao,e]
   rfl
 ·intro hx
  obtain ⟨u,hu,rfl⟩:=Bl.mp hx
  obtain ⟨u1,u2⟩:=Bj.mp hu
  rw[Cg,decide_eq_true_eq] at u2
  obtain ⟨k,hk⟩:=By.mp u1
  have hk':=(Ah.mp hk)
  refine Bl.mpr ⟨(u,k),Bj.mpr ⟨?_,?_⟩,?_⟩
  ·exact List.mem_zipIdx_iff_getElem?.mpr hk
  ·unfold fI
   rw[Ao,hk,Cg,decide_eq_true_eq]
   exact ⟨congrArg some u2.1,u2.2⟩
  ·unfold Pd
   rw[Ao,hk]
   rfl
theorem fP{n:Int}{L M:List (List Int)}{f g:List Int->Int}{i:Nat}{w:List Int}{v:Int}(hm:∀u,u∈M↔u∈L)(hr:∀u∈L,Ja n u)(hs:M.Pairwise λx y=>y.length<=x.length)(hw:M[i]? = some w)(hv:v≠f w):Je L f g w v=Je (M.take i) f g w v:=by
 have hi:=(Ah.mp hw).1
 have wL:=(hm w).mp (An hw)
 unfold Je
 refine Zk λy=>?_
 constructor
 ·intro hy
  obtain ⟨c,hc,rfl⟩:=Bl.mp hy
  obtain ⟨c1,c2⟩:=Bj.mp hc
  have c3:=c2
  rw[Cg,decide_eq_true_eq] at c3
  have ne:c≠w:=λz=>hv (by rw[<- c3.1,z])
  have hl:=Vo (hr w wL) (hr c c1) c3.2 ne.symm
  refine Bl.mpr ⟨c,Bj.mpr ⟨?_,c2⟩,rfl⟩
  obtain ⟨j,hj⟩:=By.mp ((hm c).mpr c1)
  have hj':=(Ah.mp hj).1
  by_cases q:j<i
  ·exact An (i:=j) (by rw[Ea q]; exact hj)
  ·exfalso
   by_cases z:j=i
   ·subst z; rw[hw] at hj; cases hj; omega
   ·have:=Da.mp hs i j hi hj' (by omega)
    rw[Ai hi] at hw
    rw[Ai hj'] at hj
    cases hw
    cases hj
    omega
 ·intro hy
  obtain ⟨c,hc,rfl⟩:=Bl.mp hy
  obtain ⟨c1,c2⟩:=Bj.mp hc
  exact Bl.mpr ⟨c,Bj.mpr ⟨(hm c).mp (Zw _ _ c1),c2⟩,rfl⟩
theorem tF{L:List (List Int)}(nd:L.Nodup){g:List Int->Int}{X:Int}{k:Nat}{w:List Int}(hk:L[k]? = some w):(L.map g).set k X=L.map (fJ g w X):=by
 refine Ik λj=>?_
 have hkl:=(Ah.mp hk).1
 rw[Ou,Ao,Ao]
 by_cases e:k=j
 ·subst e
  rw[if_pos rfl,if_pos (by rw[Aa]; exact hkl),hk]
  exact congrArg some cJ.symm
 ·rw[if_neg e]
  cases hj:L[j]? with
  | none=>rfl
  | some u =>
   refine congrArg some (Pb λz=>e ?_).symm
   rw[z] at hj
   have hjl:=(Ah.mp hj).1
   have pw:=Da.mp nd
   rw[Ai hkl] at hk
   rw[Ai hjl] at hj
   by_cases q:k<j
   ·exact absurd (Bo (hk.trans hj.symm)) (pw k j hkl hjl q)
   ·exact absurd (Bo (hj.trans hk.symm)) (pw j k hjl hkl (by omega))
section
variable{P:Bp}{w:World}{K:PySem.W.Frag}{mg:Str->Option Value}{base:Heap}
theorem pB:FnScope ["holes", "reading", "values", "told", "at", "words"] ["holes", "reading", "values"] (Br cK):=⟨rfl,rfl,rfl,by decide +kernel,rfl,by decide +kernel,by decide +kernel⟩
theorem qL{f f_all_words f_sure_turns  : Addr}{fd d_all_words d_sure_turns:Bx}(F:Fun K "often" "often" cK f fd)(G_all_words:FnOk P w K mg base Gc 1 f_all_words d_all_words ["holes"] (Oa K (Pr)))(b_all_words:Binds K d_all_words ["holes"] [])(k_all_words:PySem.W.keepIn K (.ref f_all_words)=true)(m_all_words:mg "all_words" = some (.ref f_all_words))(G_sure_turns:FnOk P w K mg base Gc 4 f_sure_turns d_sure_turns ["words", "reading", "values", "numbers", "at"] (Oa K (cI)))(b_sure_turns:Binds K d_sure_turns ["words", "reading", "values", "numbers", "at"] [])(k_sure_turns:PySem.W.keepIn K (.ref f_sure_turns)=true)(m_sure_turns:mg "sure_turns" = some (.ref f_sure_turns))(mz_len:mg "len" = none)(mz_sorted:mg "sorted" = none)(mz_range:mg "range" = none){cO pO:Addr}(tO:PySem.W.tabIn K "often" = some (cO,pO))(cdO:fd.code=.ref cO):FnOk P w K mg base Gc 5 f fd ["holes", "reading", "values"] (Oa K (sQ)):=by
 refine' fV (k:=4) F pB (λcdv A outer s H E hcv hr=>?hb) ?h
 case hb =>
  have hr1:Room 1 _:=hr.mono (by decide)
  have hr2:Room 2 _:=hr.mono (by decide)
  have hr3:Room 3 _:=hr.mono (by decide)
  have hr4:Room 4 _:=hr.mono (by decide)
  have hu64:=hr.units
  exact Bq (Dr (i:=5) pB.nd rfl (Lz rfl) (El G_all_words hr1 rfl m_all_words k_all_words b_all_words Eg (Ae (Af (pv 0)) Ar)))
   (Bq (Xa (i:=3) pB.nd rfl (Cu rfl) (o9 (Fs (Ae Cs Ar)) (Df Fy Jn rfl mz_len (by decide +kernel) (Ae (Af (pv 5)) Ar))))
   (Bq (Kr Du rfl (dW (pN (x := "often") (j:=5) (cw:=s.heap.objs.size+1) rfl hr rfl mz_sorted mz_len rfl mz_range ⟨.head _,⟨_,_,tO,hcv.symm.trans cdO⟩,rfl,rfl,rfl,λ_ _ _ _=>rfl,rfl,rfl,rfl,rfl,by decide⟩ rfl rfl rfl rfl rfl (Df Fy Jn rfl mz_len (by decide +kernel) (Ae (Af (pv 5)) Ar)))) (Hq (i:=4) pB.nd rfl (Cu rfl))
   (Cw (xC (pv 3) (Af (pv 4)) (El G_sure_turns hr4 rfl m_sure_turns k_sure_turns b_sure_turns Eg (Ae (Af (pv 5)) (Ae (Af (pv 1)) (Ae (Af (pv 2)) (Ae (Af (pv 3)) (Ae (Af (pv 4)) Ar)))))))))
   (Cw (Dt (Xi (pv 3))))))
 case h =>
  (intro ds R q_; obtain ⟨h,L,f,vs,rfl,h0,h1,hp,ho,v0,v1,hR⟩ := q_)
  refine ⟨rfl,?_⟩
  array_get_dec
  refine ⟨h,rfl,h0,h1,λL' hp' ho'=>?_⟩
  obtain rfl:=Qt (hp.trans hp'.symm) ho ho'
  have lL:L.length=2 ^ h.toNat:=by rw[hp.length_eq,Gi]
  obtain ⟨l1,l2⟩:=Ol (n:=h.toNat) (by omega) hp
  have nd:=Qi hp
  array_get_dec
  rw[Aa]
  refine ⟨by omega,by omega,by omega,A5 (ws:=L) rfl rfl (by omega) λl pl sl=>?_⟩
  have e0:(Ci (L.length:Int).toNat [Ad 0]).flatten=(L.map λ_=>(0:Int)).map Ad:=by
   rw[Ed,Bz]
   have : ∀l:List (List Int),(Ci l.length [Ad 0]).flatten=l.map (Ad ∘ λ_=>(0:Int)):=by
    intro l
    induction l with
    | nil=>rfl
    | cons a l ih=>rw[Bk,Fh,Gr,ih]; rfl
   exact this L
  rw[e0]
  have lin:∀k∈l,k<L.length:=λk hk=>Fe.mp (pl.mem_iff.mp hk)
  obtain ⟨M,hM⟩ : ∃M,l.map (λk=>L.getD k [])=M:=⟨_,rfl⟩
  have pM:M.Perm L:=by
   rw[<- hM]
   refine (pl.map _).trans ?_
   have : (Cb L.length).map (λk=>L.getD k [])=L:=by
    refine Ik λj=>?_
    rw[Ao]
    by_cases hj:j<L.length
    ·rw[Uv hj,Ai hj]
     show some (L.getD j [])=_
     rw[Bv,Ai hj]
     rfl
    ·rw[Li (by rw[Ct]; omega),Li (by omega)]
     rfl
   rw[this]
  have sM:M.Pairwise λx y=>y.length<=x.length:=by
   rw[<- hM,List.pairwise_map]
   exact sl
  have ndM:M.Nodup:=pM.nodup_iff.mpr nd
  array_get_dec
  refine Vf (l:=l) (g:=λk:Nat=>.int k) rfl (λi δ=>∃(g:List Int->Int) (v4:DV),δ=⟨[.dat .sh (.int h),.dat .sh (.list ((L.map f).map Ad)),.dat .sh (.int vs),.dat .ow (.list ((L.map g).map Ad)),v4,.dat .sh (.list (L.map Cf))],0⟩/\NP v4/\(∀u∈L,0<=g u)/\dX L f vs g (M.take i)) ?_ ?_ ?_
  ·exact ⟨λ_=>0,_,rfl,Jf,λ_ _=>Gx _,λ_ z=>nomatch z⟩
  ·(intro i k _ hk q_; obtain ⟨g,v4,rfl,hv4,gn,ho⟩ := q_)
   have hkl:=lin k (An hk)
   obtain ⟨w,hw⟩ : ∃w,L[k]? = some w:=⟨_,Ai hkl⟩
   have hwM:M[i]? = some w:=by
    rw[<- hM,Ao,hk]
    show some (L.getD k [])=_
    rw[Bv,hw]
    rfl
   array_get_dec
   refine ⟨L,L.map f,L.map g,vs,k,w,f w,rfl,by rw[Aa],by rw[Aa],?_,v0,v1,hw,by rw[Ao,hw]; rfl,λX hX=>?_⟩
   ·intro x hx
    obtain ⟨u,hu,rfl⟩:=Bl.mp hx
    exact gn u hu
   array_get_dec
   simp only[Of] at hX
   have X0:0<=X:=(hX 0).mpr λv _ _ _=>Pf _
   refine ⟨k,by unfold oM; rw[Aa,Aa,if_pos (by omega),if_pos (by omega),Ed],fJ g w X,.dat .sh (.int k),?_,Fp,λu hu=>?_,?_⟩
   ·rw[<- tF nd hw,Kv]
   ·by_cases z:u=w
    ·rw[z,cJ]; exact X0
    ·rw[Pb z]; exact gn u hu
   ·refine iG (λu=>pM.mem_iff) ndM (λu hu=>(l2 u hu).1) sM hwM ho λx=>(hX x).trans ?_
    refine forall_congr' λv=>forall_congr' λq1=>forall_congr' λq2=>forall_congr' λq3=>?_
    rw[fP (λu=>pM.mem_iff) (λu hu=>(l2 u hu).1) sM hwM q3]
  ·(intro _ q_; obtain ⟨g,v4,rfl,hv4,gn,hu⟩ := q_)
   have lM:M.length=l.length:=by rw[<- hM,Aa]
   rw[<- lM,Jh] at hu
   array_get_dec
   exact hR g λw hw=>hu w (pM.mem_iff.mpr hw)
end
theorem uE(ws:List (List Int))(face w:List Int)(v:Int):((Ke ws face w v).map (·.2)).Pairwise (· < ·):=by
 unfold Ke
 refine Fw ((List.filter_sublist (l:=ws.zipIdx)).map _) ?_
 rw[List.zipIdx_map_snd,List.range'_eq_map_range]
 exact List.pairwise_map.mpr (List.pairwise_lt_range.imp λz=>by omega)
theorem jR{ws:List (List Int)}{face w nums:List Int}{v:Int}{kf:Nat->Nat}{M:Nat}(h:∃i,((Ke ws face w v).map (·.2))[i]? = some M/\∀(j x:Nat),j<i->((Ke ws face w v).map (·.2))[j]? = some x->HT.lexLt (My nums kf x) (My nums kf M)=true){r:List Int×Nat}(hr:r∈Ke ws face w v)(lt:r.2<M):HT.lexLt (My nums kf r.2) (My nums kf M)=true:=by
 obtain ⟨i,hi,hf⟩:=h
 obtain ⟨j,hj⟩:=By.mp (Uu (f:=(·.2)) hr)
 refine hf j r.2 (Fg λz=>?_) hj
 obtain ⟨i1,i2⟩:=Ah.mp hi
 obtain ⟨j1,j2⟩:=Ah.mp hj
 rcases Nat.lt_or_ge i j with q | q
 ·have:=Da.mp (uE ws face w v) i j i1 j1 q
  omega
 ·have e:i=j:=by omega
  subst e
  omega
def wW(ws:List (List Int))(face nums:List Int)(k:Nat)(v:Int)(r:Option Nat):Prop:=∃(w:List Int) (f:Int),ws[k]? = some w/\face[k]? = some f /\
 ((f=v/\r=some k)\/(f≠v/\r=none/\Ke ws face w v=[])\/(f≠v/\∃p∈Ke ws face w v,r=some p.2/\(∀q∈Ke ws face w v,HT.lexLt (My nums (Uh ws) p.2) (My nums (Uh ws) q.2)=false)/\∀q∈Ke ws face w v,q.2<p.2->HT.lexLt (My nums (Uh ws) q.2) (My nums (Uh ws) p.2)=true))
def B9:Option Nat->Ac
 | none=>.none
 | some k=>.int k
def yR:PF:=λds R=>∃(ws:List (List Int)) (face nums:List Int) (k:Nat) (v:Int),ds=[.list (ws.map Cf),.list (face.map Ad),.list (nums.map Ad),.int k,.int v]/\ws.length=face.length/\ws.length=nums.length/\k<ws.length /\
 ∀r,wW ws face nums k v r->R (B9 r)
section
variable{P:Bp}{w:World}{K:PySem.W.Frag}{mg:Str->Option Value}{base:Heap}
theorem mT:FnScope ["words", "reading", "numbers", "at", "value", "found"] ["words", "reading", "numbers", "at", "value"] (Br Zb):=⟨rfl,rfl,rfl,by decide +kernel,rfl,by decide +kernel,by decide +kernel⟩
theorem nC{f f_showing  : Addr}{fd d_showing:Bx}(F:Fun K "cut_by" "cut_by" Zb f fd)(G_showing:FnOk P w K mg base Gc 2 f_showing d_showing ["words", "reading", "word", "value"] (Oa K (iQ)))(b_showing:Binds K d_showing ["words", "reading", "word", "value"] [])(k_showing:PySem.W.keepIn K (.ref f_showing)=true)(m_showing:mg "showing" = some (.ref f_showing))(mz_max:mg "max" = none)(mz_len:mg "len" = none){cO pO:Addr}(tO:PySem.W.tabIn K "cut_by" = some (cO,pO))(cdO:fd.code=.ref cO):FnOk P w K mg base Gc 3 f fd ["words", "reading", "numbers", "at", "value"] (Oa K (yR)):=by
 refine' fV (k:=2) F mT (λcdv A outer s H E hcv hr=>?hb) ?h
 case hb =>
  have hr1:Room 1 _:=hr.mono (by decide)
  have hr2:Room 2 _:=hr.mono (by decide)
  have hu64:=hr.units
  exact Bq (Lp (bQ hu64 (Ec (Af (pv 1)) (Af (pv 3))) (Af (pv 4)))
   (Cw (Dt (Yk (Af (pv 3))))) Jc)
   (Bq (Dr (i:=5) mT.nd rfl (Cu rfl) (El G_showing hr2 rfl m_showing k_showing b_showing Eg (Ae (Af (pv 0)) (Ae (Af (pv 1)) (Ae (Ec (Af (pv 0)) (Af (pv 3))) (Ae (Af (pv 4)) Ar))))))
   (Cw (Dt (C7 (tG (Af (pv 5))) (wU (x := "cut_by") (jn:=2) (jw:=0) (cw:=s.heap.objs.size+1) (cn:=s.heap.objs.size+2) rfl hr rfl mz_max mz_len ⟨.tail _ (.head _),⟨_,_,tO,hcv.symm.trans cdO⟩,rfl,rfl,rfl,λ_ _ _ _=>rfl,rfl,rfl,rfl,rfl,by decide⟩ rfl rfl rfl rfl rfl rfl rfl rfl rfl (Af (pv 5))) dO))))
 case h =>
  (intro ds R q_; obtain ⟨ws,face,nums,k,v,rfl,l1,l2,hk,hR⟩ := q_)
  refine ⟨rfl,?_⟩
  obtain ⟨w,hw⟩ : ∃w,ws[k]? = some w:=⟨_,Ai hk⟩
  obtain ⟨f,hf⟩ : ∃f,face[k]? = some f:=⟨_,Ai (by omega)⟩
  have ef:Py (face.map Ad) (k:Int)=some (.int f):=Lo (by rw[Ao,hf]; rfl)
  have ew:Py (ws.map Cf) (k:Int)=some (Cf w):=Lo (by rw[Ao,hw]; rfl)
  array_get_dec
  refine ⟨_,ef,dp,?_⟩
  array_get_dec
  refine bN (λq=>?_) (λq=>?_)
  ·array_get_dec
   exact hR (some k) ⟨w,f,hw,hf,.inl ⟨by simpa using q,rfl⟩⟩
  have q:f≠v:=by simpa using q
  array_get_dec
  refine ⟨_,ew,ws,face,w,v,rfl,l1,?_⟩
  array_get_dec
  refine O2 (λhb=>?_) (λhb=>?_)
  ·array_get_dec
   rw[show (Ke ws face w v).map (λp=>Ad p.2)=((Ke ws face w v).map (·.2)).map (λk:Nat=>Ad k) by rw[Bz]; rfl]
   show ∃(ns:List Nat) (nums':List Int) (ws':List (List Int)),_
   refine ⟨(Ke ws face w v).map (·.2),nums,ws,rfl,rfl,rfl,λz=>?_,λj hj=>?_,λM hM hmax hfst=>?_⟩
   ·rw[oP.mp z] at hb
    cases hb
   ·obtain ⟨p,hp,rfl⟩:=Bl.mp hj
    have:=Ht.mp (Bj.mp hp).1
    have:=(Ah.mp this).1
    omega
   ·obtain ⟨p,hp,rfl⟩:=Bl.mp hM
    exact ⟨_,rfl,hR (some p.2) ⟨w,f,hw,hf,.inr (.inr ⟨q,p,hp,rfl,λr hr=>hmax r.2 (Uu hr),λr hr lt=>jR hfst hr lt⟩)⟩⟩
  ·array_get_dec
   refine hR none ⟨w,f,hw,hf,.inr (.inl ⟨q,rfl,?_⟩)⟩
   cases e:Ke ws face w v with
   | nil=>rfl
   | cons a l=>rw[e] at hb; cases hb
end
inductive WrR (ws:List (List Int)) (face nums:List Int):Nat->List Int->List Nat->Bool->Prop
 | done (k:Nat):WrR ws face nums k [] [] true
 | stuck {k:Nat} {v:Int} {row:List Int}:wW ws face nums k v none->WrR ws face nums k (v::row) [] false
 | step {k:Nat} {v:Int} {row:List Int} {M:Nat} {ms:List Nat} {b:Bool}:wW ws face nums k v (some M)->WrR ws face nums M row ms b->WrR ws face nums k (v::row) (M::ms) b
def Y9(b:Bool):Str:=if b then "written" else "stuck"
def Y0(L:List (List Int))(b:Bool)(ms:List Nat):Ac:=.tuple [.str (Y9 b),.list ((ms.map λm=>L.getD m []).map Cf)]
def bG:PF:=λds R=>∃(h:Int) (L:List (List Int)) (face nums w:List Int) (k:Nat) (row:List Int),ds=[.int h,.list (face.map Ad),.list (nums.map Ad),Cf w,.list (row.map Ad)]/\0<=h/\h<=10/\L.Perm (Ef h.toNat)/\Ord L /\
 L.length=face.length/\L.length=nums.length/\L[k]? = some w/\row.length<=1000/\∀ms b,WrR L face nums k row ms b->R (Y0 L b ms)
theorem u9{ws:List (List Int)}{face nums:List Int}{k M:Nat}{v:Int}(h:wW ws face nums k v (some M)):M<ws.length:=by
 obtain ⟨w,f,hw,hf,⟨_,e⟩ | ⟨_,e,_⟩ | ⟨_,p,hp,e,_⟩⟩:=h
 ·cases e
  exact (Ah.mp hw).1
 ·cases e
 ·cases e
  exact (Ah.mp (Ht.mp (Bj.mp hp).1)).1
theorem Zm{L:List (List Int)}(nd:L.Nodup){k:Nat}{w:List Int}(h:L[k]? = some w):(L.map Cf).findIdx? (λe=>Dq e (Cf w))=some k:=by
 obtain ⟨hk,e⟩:=Ah.mp h
 refine List.findIdx?_eq_some_iff_getElem.mpr ⟨by rw[Aa]; exact hk,?_,λj hj=>?_⟩
 ·rw[List.getElem_map,e,gL]
  simp
 ·rw[List.getElem_map,gL]
  have:=Da.mp nd j k (by omega) hk hj
  rw[e] at this
  simpa using this
section
variable{P:Bp}{w:World}{K:PySem.W.Frag}{mg:Str->Option Value}{base:Heap}
theorem iU:FnScope ["holes", "reading", "numbers", "word", "row", "words", "at", "told", "value"] ["holes", "reading", "numbers", "word", "row"] (Br Vr):=⟨rfl,rfl,rfl,by decide +kernel,rfl,by decide +kernel,by decide +kernel⟩
theorem hV{f f_all_words f_cut_by  : Addr}{fd d_all_words d_cut_by:Bx}(F:Fun K "written" "written" Vr f fd)(G_all_words:FnOk P w K mg base Gc 1 f_all_words d_all_words ["holes"] (Oa K (Pr)))(b_all_words:Binds K d_all_words ["holes"] [])(k_all_words:PySem.W.keepIn K (.ref f_all_words)=true)(m_all_words:mg "all_words" = some (.ref f_all_words))(G_cut_by:FnOk P w K mg base Gc 3 f_cut_by d_cut_by ["words", "reading", "numbers", "at", "value"] (Oa K (yR)))(b_cut_by:Binds K d_cut_by ["words", "reading", "numbers", "at", "value"] [])(k_cut_by:PySem.W.keepIn K (.ref f_cut_by)=true)(m_cut_by:mg "cut_by" = some (.ref f_cut_by)):FnOk P w K mg base Gc 4 f fd ["holes", "reading", "numbers", "word", "row"] (Oa K (bG)):=by
 refine' Ho (k:=3) F iU (λcdv A outer s H E hr=>?hb) ?h
 case hb =>
  have hr1:Room 1 _:=hr.mono (by decide)
  have hr2:Room 2 _:=hr.mono (by decide)
  have hr3:Room 3 _:=hr.mono (by decide)
  have hu64:=hr.units
  exact Bq (Dr (i:=5) iU.nd rfl (Cu rfl) (El G_all_words hr1 rfl m_all_words k_all_words b_all_words Eg (Ae (Af (pv 0)) Ar)))
   (Bq (Dr (i:=6) iU.nd rfl (Cu rfl) (fY hu64 (Af (pv 5)) (Af (pv 3))))
   (Bq (Xa (i:=7) iU.nd rfl (Cu rfl) (Fs Ar))
   (Bq (Kr Du rfl (dW (Af (pv 4))) (Hq (i:=8) iU.nd rfl (Cu rfl))
   (Bq (Dr (i:=6) iU.nd rfl (Cu rfl) (El G_cut_by hr3 rfl m_cut_by k_cut_by b_cut_by Eg (Ae (Af (pv 5)) (Ae (Af (pv 1)) (Ae (Af (pv 2)) (Ae (Af (pv 6)) (Ae (Af (pv 8)) Ar)))))))
    (Bq (Lp (sZ (Af (pv 6)) dO)
    (Cw (Dt (Vp (Ae jT (Ae (Xi (pv 7)) Ar))))) Jc)
    (Cw (Vj (pv 7) (Ec (Af (pv 5)) (Af (pv 6))))))))
   (Cw (Dt (Vp (Ae jT (Ae (Xi (pv 7)) Ar))))))))
 case h =>
  (intro ds R q_; obtain ⟨h,L,face,nums,w,k,row,rfl,h0,h1,hp,ho,l1,l2,hw,lr,hR⟩ := q_)
  refine ⟨rfl,?_⟩
  array_get_dec
  refine ⟨h,rfl,h0,h1,λL' hp' ho'=>?_⟩
  obtain rfl:=Qt (hp.trans hp'.symm) ho ho'
  obtain ⟨m1,m2⟩:=Ol (n:=h.toNat) (by omega) hp
  have nd:=Qi hp
  have hk:=(Ah.mp hw).1
  array_get_dec
  refine ⟨k,Zm nd hw,?_⟩
  refine Vf (l:=row) (g:=Ad) rfl (λi δ=>∃(c:Nat) (ms:List Nat) (v8:DV),δ=⟨[.dat .sh (.int h),.dat .sh (.list (face.map Ad)),.dat .sh (.list (nums.map Ad)),.dat .sh (Cf w),.dat .sh (.list (row.map Ad)),.dat .sh (.list (L.map Cf)),.dat .sh (.int c),.dat .ow (.list ((ms.map λm=>L.getD m []).map Cf)),v8],0⟩/\c<L.length/\ms.length=i/\NP v8/\∀ms' b,WrR L face nums c (row.drop i) ms' b->WrR L face nums k row (ms++ms') b) ?_ ?_ ?_
  ·exact ⟨k,[],_,rfl,hk,rfl,Jf,λms' b h=>h⟩
  ·(intro i v _ hv q_; obtain ⟨c,ms,v8,rfl,hc,lm,hv8,hW⟩ := q_)
   have hi:=(Ah.mp hv).1
   have dr:row.drop i=v::row.drop (i+1):=by
    rw[eE hi,(Ah.mp hv).2]
   array_get_dec
   refine ⟨L,face,nums,c,v,rfl,l1,l2,hc,λr hr=>?_⟩
   cases r with
   | none =>
    dsimp only [B9]
    array_get_dec
    simp only[isNone]
    array_get_dec
    exact hR ms false (by have:=hW [] false (by rw[dr]; exact .stuck hr); rwa [Dk] at this)
   | some M =>
    dsimp only [B9]
    have hM:=u9 hr
    obtain ⟨u,hu⟩ : ∃u,L[M]? = some u:=⟨_,Ai hM⟩
    array_get_dec
    simp only[isNone]
    array_get_dec
    have gu:L.getD M []=u:=by rw[Bv,hu]; rfl
    refine ⟨Cf u,Lo (by rw[Ao,hu]; rfl),im,by rw[Aa,Aa]; omega,M,ms++[M],.dat .sh (.int v),?_,hM,by rw[Cc,lm]; rfl,Fp,λms' b hh=>?_⟩
    ·rw[Bw,Bw,Ba,gu]
     rfl
    ·have:=hW (M::ms') b (by rw[dr]; exact .step hr hh)
     rw[Ca]
     exact this
  ·(intro _ q_; obtain ⟨c,ms,v8,rfl,hc,lm,hv8,hW⟩ := q_)
   rw[List.drop_length] at hW
   array_get_dec
   exact hR ms true (by have:=hW [] true (.done c); rwa [Dk] at this)
end
def Ir(ws:List (List Int))(w:List Int):List Int:=(ws.zipIdx.filter λp=>aW w p.1).map λp=>(p.2:Int)
def fL:PF:=λds R=>∃L:List (List Int),ds=[.list (L.map Cf)]/\L.length<=1024/\R (.list (L.map λw=>.list ((Ir L w).map Ad)))
section
variable{P:Bp}{w:World}{K:PySem.W.Frag}{mg:Str->Option Value}{base:Heap}
theorem Ye:FnScope ["_law_words_here"] ["_law_words_here"] (Br Kx):=⟨rfl,rfl,rfl,by decide +kernel,rfl,by decide +kernel,by decide +kernel⟩
theorem Zf{f f_L_lies  : Addr}{fd d_L_lies:Bx}(F:Fun K "_law_beyond" "_law_beyond" Kx f fd)(G_L_lies:FnOk P w K mg base Gc 1 f_L_lies d_L_lies ["_law_one", "_law_other"] (Oa K (lE)))(b_L_lies:Binds K d_L_lies ["_law_one", "_law_other"] [])(k_L_lies:PySem.W.keepIn K (.ref f_L_lies)=true)(m_L_lies:mg "_law_lies" = some (.ref f_L_lies))(mz_enumerate:mg "enumerate" = none):FnOk P w K mg base Gc 2 f fd ["_law_words_here"] (R3 K (fL)):=by
 refine' sT (k:=1) F Ye (λcdv A outer s H E hr=>?hb) ?h
 case hb =>
  have hr1:Room 1 _:=hr.mono (by decide)
  have hu64:=hr.units
  have CS1:∀{scope:Scope} (h:scope={ kind:=.function,names:=[(".0",.local),("_law_word",.cell),("enumerate",.globalImplicit),("_law_words_here",.free)],isGenerator:=false,isCoroutine:=false }),
    CompScope (Vl Gc P w K mg base ["_law_words_here"] "_law_beyond" (Br Kx) f cdv A outer s H E).nox scope [("_law_words_here",s.heap.objs.size+1)] "_law_word" ["_law_words_here"] [0]:=by
   rintro scope rfl
   refine ⟨by rfl,.inr ⟨"_law_word",λ_=>rfl,rfl,by decide +kernel⟩,by rfl,by decide +kernel,.inr rfl,λy c h=>?_,by rfl,by decide +kernel,rfl,λk y j e1 e2=>?_⟩
   ·have z:=Kn h
    simp only[List.mem_cons,Cz,or_false,Prod.mk.injEq] at z
    obtain ⟨rfl,rfl⟩:=z; rfl
   ·match k,e1,e2 with
    | 0,e1,e2=>cases e1; cases e2; exact ⟨rfl,rfl,by first | exact .inl rfl | exact .inr rfl⟩
    | k+1,e1,e2=>cases e1
  exact Cw (Dt (pQ (CS1 rfl) rfl (dW (Af (pv 0))) (λ_ _ _=>Gf) (λ_ _ _=>Tv (oH (x := "_law_j") "_law_word" 0 rfl (by decide +kernel) rfl rfl rfl) (.inl rfl) (by decide +kernel) rfl (Ue rfl mz_enumerate (Ae (Af (pv 1)) Ar)) (λ_ _ _=>Kb (Mp (El G_L_lies hr1 rfl m_L_lies k_L_lies b_L_lies Eg (Ae (Af (pv 2)) (Ae (Af (pv 1)) Ar))))) (λ_ _ _=>Af (pv 0)))))
 case h =>
  (intro ds R q_; obtain ⟨L,rfl,l1,hR⟩ := q_)
  refine ⟨rfl,?_⟩
  array_get_dec
  refine n8 (l:=L) (g:=Cf) rfl (λw=>.list ((Ir L w).map Ad)) (λw hw yes no hy=>?_) ?_
  ·array_get_dec
   refine cV (l:=L.zipIdx) (g1:=λp=>.int p.2) (g2:=λp=>Cf p.1) (by rw[Xg,Bz]; rfl) (λp=>aW w p.1) (λp=>.int p.2) (λp hp yes no hy hn=>?_) ?_
   ·array_get_dec
    refine ⟨w,p.1,rfl,?_⟩
    refine Kf (λh=>?_) (λh=>?_)
    ·array_get_dec
     exact hy h
    ·exact hn h
   ·array_get_dec
    unfold Ir at hy
    rw[Bz] at hy
    exact hy
  ·array_get_dec
   exact hR
end
theorem M5{L:List (List Int)}{w:List Int}{j:Int}:j∈Ir L w↔∃(n:Nat) (u:List Int),j=n/\L[n]? = some u/\aW w u=true:=by
 unfold Ir
 constructor
 ·intro h
  obtain ⟨p,hp,rfl⟩:=Bl.mp h
  obtain ⟨h1,h2⟩:=Bj.mp hp
  obtain ⟨k,hk⟩:=By.mp h1
  obtain ⟨ek,hp1,_,_⟩:=Ox hk
  exact ⟨p.2,p.1,rfl,by rw[ek]; exact hp1,h2⟩
 ·(intro q_; obtain ⟨n,u,rfl,h1,h2⟩ := q_)
  exact Bl.mpr ⟨(u,n),Bj.mpr ⟨Xq.mpr h1,h2⟩,rfl⟩
theorem qO(L:List (List Int)):((L.map λw=>PyData.list ((Ir L w).map Ad)).zipIdx.map λp=>PyData.tuple [.int p.2,p.1])=L.zipIdx.map λp=>.tuple [.int p.2,.list ((Ir L p.1).map Ad)]:=by
 rw[List.zipIdx_map,Bz]
 rfl
def lG(l:List Int)(j:Int):Int:=(l[j.toNat]?).getD 0
theorem Vm{l:List Int}{j:Int}(h0:0<=j)(h1:j<l.length):Py (l.map Ad) j=some (.int (lG l j)):=by
 obtain ⟨a,e1,e2,_⟩:=Qz (l:=l) h0 h1
 rw[Xe,e2]
 unfold lG
 rw[e1]
 rfl
theorem o8{nums:List Int}{kf:Nat->Nat}{a b:Nat}(h:HT.lexLt (My nums kf a) (My nums kf b)=false):nums.getD b 0<=nums.getD a 0/\(nums.getD a 0=nums.getD b 0->kf a<=kf b):=by
 unfold My at h
 rw[HT.lexLt_cons] at h
 by_cases e:nums.getD a 0=nums.getD b 0
 ·rw[if_pos e,HT.lexLt_cons] at h
  refine ⟨by omega,λ_=>?_⟩
  by_cases z:-((kf a:Nat):Int) = -((kf b:Nat):Int)
  ·omega
  ·rw[if_neg z,decide_eq_false_iff_not] at h
   omega
 ·rw[if_neg e,decide_eq_false_iff_not] at h
  exact ⟨by omega,λz=>absurd z e⟩
theorem uX{n:Nat}{L:List (List Int)}{f g:List Int->Int}{vs:Int}(h:iX L f vs g)(v0:2<=vs)(hr:∀u∈L,Ja n u)(hl:∀u∈L,u.length<=10):∀(m:Nat) (w:List Int),w∈L->10 - w.length<=m->0<=g w/\g w<=(10 - w.length:Nat):=by
 intro m
 induction m with
 | zero =>
  intro w hw hm
  have hw10:=hl w hw
  refine ⟨(h w hw 0).mpr λv _ _ _=>Pf _,?_⟩
  obtain ⟨v,z1,z2,z3⟩ : ∃v:Int,0<=v/\v<vs/\v≠f w:=by
   by_cases q:f w=0
   ·exact ⟨1,by omega,by omega,by omega⟩
   ·exact ⟨0,by omega,by omega,by omega⟩
  have e:=(h w hw (g w)).mp (Gx _) v z1 z2 z3
  have : Je L f g w v=0:=by
   unfold Je
   rw[Fz.mpr]
   ·rfl
   ·intro u hu q
    rw[Cg,decide_eq_true_eq] at q
    have:=Vo (hr w hw) (hr u hu) q.2 (λz=>z3 (by rw[<- q.1,z]))
    have:=hl u hu
    omega
  omega
 | succ m ih =>
  intro w hw hm
  have hw10:=hl w hw
  refine ⟨(h w hw 0).mpr λv _ _ _=>Pf _,?_⟩
  obtain ⟨v,z1,z2,z3⟩ : ∃v:Int,0<=v/\v<vs/\v≠f w:=by
   by_cases q:f w=0
   ·exact ⟨1,by omega,by omega,by omega⟩
   ·exact ⟨0,by omega,by omega,by omega⟩
  have e:=(h w hw (g w)).mp (Gx _) v z1 z2 z3
  by_cases x0:0<g w
  ·unfold Je at e
   obtain ⟨y,hy,e2⟩:=(Ly x0).mp e
   obtain ⟨u,hu,rfl⟩:=Bl.mp hy
   obtain ⟨u1,u2⟩:=Bj.mp hu
   rw[Cg,decide_eq_true_eq] at u2
   have:=Vo (hr w hw) (hr u u1) u2.2 (λz=>z3 (by rw[<- u2.1,z]))
   have u10:=hl u u1
   have:=(ih u u1 (by omega)).2
   omega
  ·omega
theorem E3{ws:List (List Int)}{face:List Int}{vs:Int}{nums:List Int}:Ra ws face vs nums=true↔∀(k:Nat) (w:List Int) (f x:Int),ws[k]? = some w->face[k]? = some f->nums[k]? = some x->∀v:Int,0<=v->v<vs->v≠f->x<=Jg ws face nums w v:=by
 unfold Ra
 simp only[decide_eq_true_eq]
theorem L1{ws:List (List Int)}{face:List Int}{vs:Int}{nums:List Int}:Wb ws face vs nums=true↔∀(k:Nat) (w:List Int) (f x:Int),ws[k]? = some w->face[k]? = some f->nums[k]? = some x->∃v:Int,0<=v/\v<vs/\v≠f/\Jg ws face nums w v<=x:=by
 unfold Wb
 simp only[decide_eq_true_eq]
theorem Xu(P:List (List Int))(f g:List Int->Int)(w:List Int)(v:Int):0<=Je P f g w v:=Pf _
theorem Qw{P:List (List Int)}{f g:List Int->Int}{w u:List Int}{v:Int}(hu:u∈P)(hf:f u=v)(hi:aW w u=true):g u+1<=Je P f g w v:=by
 by_cases z:0<g u+1
 ·exact (Ly z).mpr ⟨_,Bl.mpr ⟨u,Bj.mpr ⟨hu,by rw[Cg,decide_eq_true_eq]; exact ⟨hf,hi⟩⟩,rfl⟩,Gx _⟩
 ·have:=Xu P f g w v
  omega
theorem Ug{P:List (List Int)}{f g:List Int->Int}{w:List Int}{v x:Int}(h0:0<x)(h:x<=Je P f g w v):∃u∈P,f u=v/\aW w u=true/\x<=g u+1:=by
 obtain ⟨y,hy,hx⟩:=(Ly h0).mp h
 obtain ⟨u,hu,rfl⟩:=Bl.mp hy
 obtain ⟨h1,h2⟩:=Bj.mp hu
 rw[Cg,decide_eq_true_eq] at h2
 exact ⟨u,h1,h2.1,h2.2,hx⟩
structure Due(L:List (List Int))(f g:List Int->Int)(vs:Int):Prop where
 nd:L.Nodup
 hr:∀u∈L,Ja 10 u
 hl:∀u∈L,u.length<=10
 v0:2<=vs
 v1:vs<=16
 hg:iX L f vs g
section
variable{L:List (List Int)}{f g:List Int->Int}{vs:Int}(D:Due L f g vs)
include D
theorem Due.up{w u:List Int}{v:Int}(hw:w∈L)(hu:u∈L)(hv:v≠f w)(hf:f u=v)(hi:aW w u=true):w.length<u.length:=Vo (D.hr w hw) (D.hr u hu) hi λz=>hv (by rw[<- hf,z])
theorem Due.le{w:List Int}(hw:w∈L){v:Int}(a:0<=v)(b:v<vs)(c:v≠f w):g w<=Je L f g w v:=(D.hg w hw (g w)).mp (Gx _) v a b c
theorem Due.bd{w:List Int}(hw:w∈L):0<=g w/\g w<=10:=by
 have:=uX D.hg D.v0 D.hr D.hl 10 w hw (by omega)
 omega
theorem Due.least:Ra L (L.map f) vs (L.map g)=true:=by
 refine E3.mpr ?_
 intro k w f0 x hw hf hx v a b c
 rw[Ao,hw] at hf hx
 cases hf
 cases hx
 rw[Of]
 exact D.le (An hw) a b c
theorem Due.low{w:List Int}(hw:w∈L):∃v:Int,0<=v/\v<vs/\v≠f w/\Je L f g w v<=g w:=Fg λz=>by
 have : g w+1<=g w:=(D.hg w hw _).mpr λv a b c=>Fg λy=>z ⟨v,a,b,c,by omega⟩
 omega
theorem Due.most:Wb L (L.map f) vs (L.map g)=true:=by
 refine L1.mpr ?_
 intro k w f0 x hw hf hx
 rw[Ao,hw] at hf hx
 cases hf
 cases hx
 obtain ⟨v,a,b,c,e⟩:=D.low (An hw)
 exact ⟨v,a,b,c,by rw[Of]; exact e⟩
theorem Due.least_le{g':List Int->Int}(h:Ra L (L.map f) vs (L.map g')=true):∀(m:Nat) (w:List Int),w∈L->10 - w.length<m->g' w<=g w
 | 0,w,_,hm=>absurd hm (Mv _)
 | m+1,w,hw,hm=>by
  obtain ⟨k,hk⟩:=By.mp hw
  refine (D.hg w hw (g' w)).mpr λv a b c=>?_
  have e:=E3.mp h k w (f w) (g' w) hk (by rw[Ao,hk]; rfl) (by rw[Ao,hk]; rfl) v a b c
  rw[Of] at e
  by_cases x0:0<g' w
  ·obtain ⟨u,hu,hf,hi,hx⟩:=Ug x0 e
   have l1:=D.up hw hu c hf hi
   have l2:=D.hl u hu
   have ih:=Due.least_le h m u hu (by omega)
   have:=Qw (g:=g) hu hf hi
   omega
  ·have:=Xu L f g w v
   omega
theorem Due.most_ge{g':List Int->Int}(h:Wb L (L.map f) vs (L.map g')=true)(nn:∀w∈L,0<=g' w):∀(m:Nat) (w:List Int),w∈L->10 - w.length<m->g w<=g' w
 | 0,w,_,hm=>absurd hm (Mv _)
 | m+1,w,hw,hm=>by
  obtain ⟨k,hk⟩:=By.mp hw
  obtain ⟨v,a,b,c,e⟩:=L1.mp h k w (f w) (g' w) hk (by rw[Ao,hk]; rfl) (by rw[Ao,hk]; rfl)
  rw[Of] at e
  by_cases x0:0<g w
  ·obtain ⟨u,hu,hf,hi,hx⟩:=Ug x0 (D.le hw a b c)
   have l1:=D.up hw hu c hf hi
   have l2:=D.hl u hu
   have ih:=Due.most_ge h nn m u hu (by omega)
   have:=Qw (g:=g') hu hf hi
   omega
  ·have:=nn w hw
   omega
theorem Due.mono{w u:List Int}(hw:w∈L)(hu:u∈L)(hi:aW w u=true):g u<=g w:=(D.hg w hw (g u)).mpr λv a b c=>by
 by_cases e:v=f u
 ·have:=Qw (g:=g) hu e.symm hi
  omega
 ·by_cases x0:0<g u
  ·obtain ⟨t,ht,hf,hj,hx⟩:=Ug x0 (D.le hu a b e)
   have:=Qw (w:=w) (g:=g) ht hf (j6.mpr λi z=>j6.mp hj i (j6.mp hi i z))
   omega
  ·have:=Xu L f g w v
   omega
end
def xK(L:List (List Int))(f g:List Int->Int)(vs:Int)(w:List Int)(v:Int):Prop:=0<=v/\v<vs/\v≠f w/\∀u∈L,f u=v->aW w u=true->g u<g w
theorem Due.bar{L:List (List Int)}{f g:List Int->Int}{vs:Int}(D:Due L f g vs){w:List Int}(hw:w∈L):∃v,xK L f g vs w v:=by
 obtain ⟨v,a,b,c,e⟩:=D.low hw
 refine ⟨v,a,b,c,λu hu hf hi=>?_⟩
 have:=Qw (g:=g) hu hf hi
 omega
def K6(vs:Int):Int->List Int->Prop
 | _,[]=>True
 | x,v::r=>0<=v/\v<vs/\v≠x/\K6 vs v r
theorem Due.wr{L:List (List Int)}{f g:List Int->Int}{vs:Int}(D:Due L f g vs){k:Nat}{row:List Int}{ms:List Nat}{b:Bool}(h:WrR L (L.map f) (L.map g) k row ms b):∀{w:List Int},L[k]? = some w->K6 vs (f w) row->(row.length:Int)<=g w->b=true/\ms.map (λm=>f (L.getD m []))=row/\∀m∈ms,m<L.length:=by
 induction h with
 | done k=>exact λ_ _ _=>⟨rfl,rfl,λ_ z=>(nomatch z)⟩
 | @stuck k v row hc =>
  intro w hk ha hl
  obtain ⟨w',f',hw',hf',cs⟩:=hc
  rw[hk] at hw'
  cases hw'
  rw[Ao,hk] at hf'
  cases hf'
  have hm:=An hk
  rw[Bk] at hl
  rcases cs with ⟨_,e⟩ | ⟨_,_,e⟩ | ⟨_,p,_,e,_⟩
  ·cases e
  ·have:=D.le hm ha.1 ha.2.1 ha.2.2.1
   rw[<- Of] at this
   unfold Jg at this
   rw[e] at this
   have z:Pa (([]:List (List Int×Nat)).map (Pd (L.map g)))=0:=rfl
   omega
  ·cases e
 | @step k v row M ms b hc hW ih =>
  intro w hk ha hl
  obtain ⟨w',f',hw',hf',cs⟩:=hc
  rw[hk] at hw'
  cases hw'
  rw[Ao,hk] at hf'
  cases hf'
  have hm:=An hk
  rw[Bk] at hl
  rcases cs with ⟨e,_⟩ | ⟨_,e,_⟩ | ⟨_,p,hp,e,hmax,_⟩
  ·exact absurd e.symm ha.2.2.1
  ·cases e
  ·cases e
   have at':∀p∈Ke L (L.map f) w v,L[p.2]? = some p.1/\f p.1=v/\aW w p.1=true:=λp hp=>by
    obtain ⟨p1,p2⟩:=Bj.mp hp
    have q:=Ht.mp p1
    unfold fI at p2
    rw[Cg,decide_eq_true_eq,Ao,q] at p2
    exact ⟨q,Bo p2.1,p2.2⟩
   obtain ⟨e1,e2,e3⟩:=at' p hp
   obtain ⟨u,hu,hf,hi,hx⟩:=Ug (by omega) (D.le hm ha.1 ha.2.1 ha.2.2.1)
   obtain ⟨j,hj⟩:=By.mp hu
   have hq:(u,j)∈Ke L (L.map f) w v:=by
    refine Bj.mpr ⟨Xq.mpr hj,?_⟩
    unfold fI
    rw[Cg,decide_eq_true_eq,Ao,hj,<- hf]
    exact ⟨rfl,hi⟩
   have kk:=(o8 (hmax _ hq)).1
   have gd:∀{i:Nat} {y:List Int},L[i]? = some y->(L.map g).getD i 0=g y:=λ{i y} h=>by rw[Bv,Ao,h]; rfl
   rw[gd hj,gd e1] at kk
   obtain ⟨b1,b2,b3⟩:=ih e1 (by rw[e2]; exact ha.2.2.2) (by omega)
   have lp:=(Ah.mp e1).1
   refine ⟨b1,?_,λm hm=>?_⟩
   ·rw[Ba,b2,Bv,e1]
    exact congrArg (·::row) e2
   ·rcases Az.mp hm with rfl | hm
    ·exact lp
    ·exact b3 m hm
def S7(L:List (List Int)):Ac:=.list (L.map λw=>.list ((Ir L w).map Ad))
def oO(l:List Int):Ac:=.list (l.map Ad)
def zE:PF:=λds R=>∃(L:List (List Int)) (f g:List Int->Int) (vs:Int) (k:Nat) (w:List Int),ds=[S7 L,oO (L.map f),.int vs,oO (L.map g),.int k]/\L.length<=1024/\2<=vs/\vs<=16/\L[k]? = some w/\(∃v,xK L f g vs w v)/\∀v,xK L f g vs w v->R (.int v)
theorem Lc{L:List (List Int)}{f:List Int->Int}{k:Nat}{w:List Int}(h:L[k]? = some w):Py ((L.map f).map Ad) (k:Int)=some (.int (f w)):=Lo (by rw[Ao,Ao,h]; rfl)
theorem Po{L:List (List Int)}{f:List Int->Int}{k:Nat}{w:List Int}(h:L[k]? = some w):lG (L.map f) (k:Int)=f w:=by
 unfold lG
 rw[Ed,Ao,h]
 rfl
theorem qP{L:List (List Int)}{k:Nat}{w:List Int}(h:L[k]? = some w):Py (L.map λw=>PyData.list ((Ir L w).map Ad)) (k:Int)=some (.list ((Ir L w).map Ad)):=Lo (by rw[Ao,h]; rfl)
section
variable{P:Bp}{w:World}{K:PySem.W.Frag}{mg:Str->Option Value}{base:Heap}
theorem Yb:FnScope ["_law_over", "_law_face", "_law_values_here", "_law_due", "_law_at", "_law_value", "_law_ends"] ["_law_over", "_law_face", "_law_values_here", "_law_due", "_law_at"] (Br Nx):=⟨rfl,rfl,rfl,by decide +kernel,rfl,by decide +kernel,by decide +kernel⟩
theorem Zl{f   : Addr}{fd  : Bx}(F:Fun K "_law_barred" "_law_barred" Nx f fd)(mz_range:mg "range" = none):FnOk P w K mg base Gc 1 f fd ["_law_over", "_law_face", "_law_values_here", "_law_due", "_law_at"] (Oa K (zE)):=by
 refine' Ho (k:=0) F Yb (λcdv A outer s H E hr=>?hb) ?h
 case hb =>
  have hu64:=hr.units
  exact Bq (Kr Du rfl (Gy rfl mz_range (Ae (Af (pv 2)) Ar)) (Hq (i:=5) Yb.nd rfl (Lz rfl))
   (Bq (Xm (o:=false) (i0:=6) Yb.nd rfl rfl (E1 (x := "_law_j") "_law_face" "_law_value" 1 5 rfl (by decide +kernel) rfl rfl rfl) rfl (dW (Ec (Af (pv 0)) (Af (pv 4)))) (λ_ _ _=>Kb (bQ hu64 (Ec (Af (pv 1)) (Af (pv 0))) (Af (pv 2)))) (λ_ _ _=>Af (pv 0)))
    (Cw (Lp (qE (cY (Vx hu64 (Af (pv 5)) (Ec (Af (pv 1)) (Af (pv 4)))) (Xj (bQ hu64 (Gu (E1 (x := "_law_j") "_law_at" "_law_due" 4 3 rfl (by decide +kernel) rfl rfl rfl) rfl (dW (Af (pv 6))) (λ_ _ _=>Kb (N7 (Ec (Af (pv 2)) (Af (pv 0))) (Ec (Af (pv 2)) (Af (pv 1))))) (λ_ _ _=>Af (pv 0))) (Fs Ar)))))
    (Cw (Dt (Yk (Af (pv 5))))) Jc))))
   (Cw (Dt dO))
 case h =>
  (intro ds R q_; obtain ⟨L,f,g,vs,k,w,rfl,l1,v0,v1,hk,hex,hR⟩ := q_)
  refine ⟨rfl,?_⟩
  unfold S7 oO
  have ef:=Lc (f:=f) hk
  have eg:=Lc (f:=g) hk
  have inb:∀j∈Ir L w,∃(n:Nat) (u:List Int),j=n/\L[n]? = some u/\aW w u=true:=λj hj=>M5.mp hj
  array_get_dec
  refine ⟨by omega,by omega,?_⟩
  refine Vf (l:=Cb vs.toNat) (g:=λi:Nat=>.int i) rfl (λi δ=>∃(v5 v6:DV),δ=⟨[.dat .sh (.list (L.map λw=>.list ((Ir L w).map Ad))),.dat .sh (.list ((L.map f).map Ad)),.dat .sh (.int vs),.dat .sh (.list ((L.map g).map Ad)),.dat .sh (.int k),v5,v6],0⟩/\NP v5/\NP v6/\∀v:Int,v<i->¬ xK L f g vs w v) ?_ ?_ ?_
  ·exact ⟨_,_,rfl,Jf,Jf,λv z q=>by have:=q.1; omega⟩
  ·(intro i a _ ha q_; obtain ⟨v5,v6,rfl,hv5,hv6,hno⟩ := q_)
   obtain ⟨rfl,hi⟩:=Ml ha
   array_get_dec
   refine ⟨_,qP hk,?_⟩
   array_get_dec
   refine We (l:=Ir L w) (g:=Ad) rfl (λj=>decide (lG (L.map f) j=(a:Int))) (λj=>.int j) (λj hj yes no hy hn=>?_) ?_
   ·obtain ⟨n,u,rfl,hn1,_⟩:=inb j hj
    have hl:=(Ah.mp hn1).1
    array_get_dec
    refine ⟨_,Vm (by omega) (by rw[Aa]; omega),dp,?_⟩
    array_get_dec
    refine Kf (λq=>?_) (λq=>?_)
    ·array_get_dec
     exact hy q
    ·exact hn q
   array_get_dec
   refine ⟨_,ef,dp,?_⟩
   array_get_dec
   refine rR (λh1=>?_) (λh1=>?_)
   ·array_get_dec
    refine We (l:=(Ir L w).filter λj=>decide (lG (L.map f) j=(a:Int))) (g:=Ad) rfl (λj=>decide (g w<=lG (L.map g) j)) (λj=>.int j) (λj hj yes no hy hn=>?_) ?_
    ·obtain ⟨n,u,rfl,hn1,_⟩:=inb j (Bj.mp hj).1
     have hl:=(Ah.mp hn1).1
     array_get_dec
     refine ⟨_,Vm (by omega) (by rw[Aa]; omega),_,eg,?_⟩
     array_get_dec
     refine Kf (λq=>?_) (λq=>?_)
     ·array_get_dec
      exact hy q
     ·exact hn q
    have emp:((((Ir L w).filter λj=>decide (lG (L.map f) j=(a:Int))).filter λj=>decide (g w<=lG (L.map g) j)).map λj=>Ad j).isEmpty=true↔∀u∈L,f u=(a:Int)->aW w u=true->g u<g w:=by
     rw[List.isEmpty_iff,List.map_eq_nil_iff,Fz]
     constructor
     ·intro z u hu hf hi
      obtain ⟨n,hn⟩:=By.mp hu
      have:=z n (Bj.mpr ⟨M5.mpr ⟨n,u,rfl,hn,hi⟩,by rw[Po hn]; simpa using hf⟩)
      rw[Po hn] at this
      simpa using this
     ·intro z j hj q2
      obtain ⟨q3,q4⟩:=Bj.mp hj
      obtain ⟨n,u,rfl,q5,q6⟩:=M5.mp q3
      rw[Po q5] at q4 q2
      have:=z u (An q5) (by simpa using q4) q6
      have : g w<=g u:=by simpa using q2
      omega
    array_get_dec
    refine bN (λh2=>?_) (λh2=>?_)
    ·array_get_dec
     exact hR a ⟨by omega,by omega,by simpa using h1,emp.mp h2⟩
    ·array_get_dec
     refine ⟨_,_,rfl,Fp,Fp,λv hv q=>?_⟩
     by_cases e:v=a
     ·subst e
      rw[emp.mpr q.2.2.2] at h2
      cases h2
     ·exact hno v (by omega) q
   ·array_get_dec
    refine ⟨_,_,rfl,Fp,Fp,λv hv q=>?_⟩
    by_cases e:v=a
    ·subst e
     exact q.2.2.1 (by simpa using h1)
    ·exact hno v (by omega) q
  ·(intro _ q_; obtain ⟨v5,v6,rfl,hv5,hv6,hno⟩ := q_)
   obtain ⟨v,q⟩:=hex
   rw[Ct] at hno
   exact absurd q (hno v (by have:=q.2.1; omega))
end
def lU:DF:=λds n R=>∃(L:List (List Int)) (f g:List Int->Int) (vs:Int) (k:Nat),ds=[S7 L,oO (L.map f),.int vs,oO (L.map g),.int k]/\L.length<=1024/\Due L f g vs/\k<L.length/\n<=50000/\∀n',n<=n'->n'<=n+11->R (.bool true) n'
section
variable{P:Bp}{w:World}{K:PySem.W.Frag}{mg:Str->Option Value}{base:Heap}
theorem Sw:FnScope ["_law_draws_here", "_law_over", "_law_face", "_law_values_here", "_law_due", "_law_at", "_law_limit", "_law_turn", "_law_value", "_law_some"] ["_law_draws_here", "_law_over", "_law_face", "_law_values_here", "_law_due", "_law_at"] (Br Kg):=⟨rfl,rfl,rfl,by decide +kernel,rfl,by decide +kernel,by decide +kernel⟩
theorem Th{f f_L_next f_L_barred  : Addr}{fd d_L_next d_L_barred:Bx}(F:Fun K "_law_no_oftener" "_law_no_oftener" Kg f fd)(G_L_next:FnOk P w K mg base Gc 1 f_L_next d_L_next ["_law_draws_here"] (Vz K Qy))(b_L_next:Binds K d_L_next ["_law_draws_here"] [])(k_L_next:PySem.W.keepIn K (.ref f_L_next)=true)(m_L_next:mg "_law_next" = some (.ref f_L_next))(G_L_barred:FnOk P w K mg base Gc 1 f_L_barred d_L_barred ["_law_over", "_law_face", "_law_values_here", "_law_due", "_law_at"] (Oa K (zE)))(b_L_barred:Binds K d_L_barred ["_law_over", "_law_face", "_law_values_here", "_law_due", "_law_at"] [])(k_L_barred:PySem.W.keepIn K (.ref f_L_barred)=true)(m_L_barred:mg "_law_barred" = some (.ref f_L_barred))(mz_range:mg "range" = none)(mz_len:mg "len" = none):FnOk P w K mg base Gc 2 f fd ["_law_draws_here", "_law_over", "_law_face", "_law_values_here", "_law_due", "_law_at"] (Vz K (lU)):=by
 refine' Rq (k:=1) F Sw (λcdv A outer s H E hr=>?hb) ?h
 case hb =>
  have hr1:Room 1 _:=hr.mono (by decide)
  have hu64:=hr.units
  exact Bq (Dr (i:=6) Sw.nd rfl (Cu rfl) (Ec (Af (pv 4)) (Af (pv 5))))
   (Bq (Kr Du rfl (Gy rfl mz_range (Ae (Lj (Af (pv 6)) Cs) Ar)) (Hq (i:=7) Sw.nd rfl (Cu rfl))
   (Bq (Dr (i:=8) Sw.nd rfl (Lz rfl) (El G_L_barred hr1 rfl m_L_barred k_L_barred b_L_barred Eg (Ae (Af (pv 1)) (Ae (Af (pv 2)) (Ae (Af (pv 3)) (Ae (Af (pv 4)) (Ae (Af (pv 5)) Ar)))))))
    (Bq (Lp (sZ (Af (pv 8)) dO)
    (Cw (Dt Ln)) Jc)
    (Bq (Xm (o:=false) (i0:=9) Sw.nd rfl rfl (E1 (x := "_law_j") "_law_face" "_law_value" 2 8 rfl (by decide +kernel) rfl rfl rfl) rfl (dW (Ec (Af (pv 1)) (Af (pv 5)))) (λ_ _ _=>Kb (bQ hu64 (Ec (Af (pv 1)) (Af (pv 0))) (Af (pv 2)))) (λ_ _ _=>Af (pv 0)))
    (Bq (Lp (bQ hu64 (Af (pv 9)) (Fs Ar))
    (Cw (Dt Ln)) Jc)
    (Cw (Dr (i:=5) Sw.nd rfl (Cu rfl) (Ec (Af (pv 9)) (Fk (Fn G_L_next hr1 rfl m_L_next k_L_next b_L_next Eg (pv 0) Ar) (Df Fy Jn rfl mz_len (by decide +kernel) (Ae (Af (pv 9)) Ar)))))))))))
   (Cw (Dt Ln)))
 case h =>
  (intro ds n R q_; obtain ⟨L,f,g,vs,k,rfl,l1,D,hk,hn,hR⟩ := q_)
  refine ⟨rfl,?_⟩
  unfold S7 oO
  obtain ⟨w,hw⟩ : ∃w,L[k]? = some w:=⟨_,Ai hk⟩
  have hm:=An hw
  have bd:=D.bd hm
  array_get_dec
  refine ⟨_,Lc hw,by omega,by omega,?_⟩
  refine Vf (l:=Cb (g w+1).toNat) (g:=λi:Nat=>.int i) rfl (λi δ=>∃(n' k':Nat) (w':List Int) (v7 v8 v9:DV),δ=⟨[.drw,.dat .sh (.list (L.map λw=>.list ((Ir L w).map Ad))),.dat .sh (.list ((L.map f).map Ad)),.dat .sh (.int vs),.dat .sh (.list ((L.map g).map Ad)),.dat .sh (.int k'),.dat .sh (.int (g w)),v7,v8,v9],n'⟩/\n<=n'/\n'<=n+i/\L[k']? = some w'/\g w'+i<=g w/\NP v7/\NP v8/\NP v9) ?_ ?_ ?_
  ·exact ⟨n,k,w,_,_,_,rfl,Ap _,Ap _,hw,by omega,Jf,Jf,Jf⟩
  ·(intro i a _ ha q_; obtain ⟨n',k',w',v7,v8,v9,rfl,hn1,hn2,hw',hg,hv7,hv8,hv9⟩ := q_)
   obtain ⟨rfl,hi⟩:=Ml ha
   have hm':=An hw'
   array_get_dec
   refine ⟨L,f,g,vs,k',w',rfl,l1,D.v0,D.v1,hw',D.bar hm',λv hb=>?_⟩
   array_get_dec
   refine ⟨_,qP hw',?_⟩
   array_get_dec
   refine We (l:=Ir L w') (g:=Ad) rfl (λj=>decide (lG (L.map f) j=v)) (λj=>.int j) (λj hj yes no hy hn=>?_) ?_
   ·obtain ⟨m,u,rfl,hm1,_⟩:=M5.mp hj
    have hl:=(Ah.mp hm1).1
    array_get_dec
    refine ⟨_,Vm (by omega) (by rw[Aa]; omega),dp,?_⟩
    array_get_dec
    refine Kf (λq=>?_) (λq=>?_)
    ·array_get_dec
     exact hy q
    ·exact hn q
   obtain ⟨S,hS⟩ : ∃S,(Ir L w').filter (λj=>decide (lG (L.map f) j=v))=S:=⟨_,rfl⟩
   rw[hS]
   array_get_dec
   refine bN (λh1=>?_) (λh1=>?_)
   ·array_get_dec
    exact ⟨by omega,hR _ (by omega) (by omega)⟩
   ·array_get_dec
    have ls:0<S.length:=by
     cases S with
     | nil=>cases h1
     | cons a l=>exact Nat.succ_pos _
    refine ⟨rfl,by omega,λr1=>?_⟩
    array_get_dec
    rw[Aa]
    have b1:=Jp r1 (b:=(S.length:Int)) (by omega)
    obtain ⟨j,hj⟩ : ∃j,S[(r1 % (S.length:Int)).toNat]? = some j:=⟨_,Ai (by omega)⟩
    have hjm:=An hj
    rw[<- hS] at hjm
    obtain ⟨q1,q2⟩:=Bj.mp hjm
    obtain ⟨m,u,rfl,q3,q4⟩:=M5.mp q1
    rw[Po q3] at q2
    have:=hb.2.2.2 u (An q3) (by simpa using q2) q4
    refine ⟨by omega,.int m,?_,n'+1,m,u,_,_,_,rfl,by omega,by omega,q3,by omega,Fp,Fp,Fp⟩
    rw[show r1 % (S.length:Int)=((r1 % (S.length:Int)).toNat:Int) by omega]
    exact Lo (by rw[Ao,hj]; rfl)
  ·(intro _ q_; obtain ⟨n',k',w',v7,v8,v9,rfl,hn1,hn2,hw',hg,hv7,hv8,hv9⟩ := q_)
   rw[Ct] at hg
   have:=(D.bd (An hw')).1
   omega
end
end K37
namespace DRow
open PySem L2 Nd DL
abbrev Cd:=List Int
def Wq(w u:List Int):Bool:=w.all λi=>decide (i∈u)
def u4(n1 n2:List Int)(ps:List (List Int×Bool)):Option Bool:=ps.foldl (λst p=>if Wq p.1 n1=Wq p.1 n2 then st else some (Wq p.1 n1 == !p.2)) none
theorem vV(n1 n2:List Int)(ps:List (List Int×Bool))(p:List Int×Bool):u4 n1 n2 (ps++[p])=if Wq p.1 n1=Wq p.1 n2 then u4 n1 n2 ps else some (Wq p.1 n1 == !p.2):=by
 unfold u4
 rw[List.foldl_append]
 rfl
def Yr(ps:List (List Int×Bool))(n:List Int):List Int:=ps.reverse.map λp=>if Wq p.1 n=p.2 then 1 else 0
theorem bF(ps:List (List Int×Bool))(p:List Int×Bool)(n:List Int):Yr (ps++[p]) n=(if Wq p.1 n=p.2 then 1 else 0)::Yr ps n:=by
 unfold Yr
 rw[List.reverse_append,Bw]
 rfl
theorem sL{α:Type}{P:List α->Prop}(h0:P [])(h1:∀l x,P l->P (l++[x]))(l:List α):P l:=by
 have : ∀m:List α,P m.reverse:=λm=>by
  induction m with
  | nil=>exact h0
  | cons x m ih=>rw[List.reverse_cons]; exact h1 _ _ ih
 have:=this l.reverse
 rwa [List.reverse_reverse] at this
theorem pI(n1 n2:List Int)(ps:List (List Int×Bool)):(u4 n1 n2 ps=none↔Yr ps n1=Yr ps n2)/\(u4 n1 n2 ps=some true↔HT.lexLt (Yr ps n1) (Yr ps n2)=true):=by
 induction ps using sL with
 | h0=>exact ⟨⟨λ_=>rfl,λ_=>rfl⟩,⟨λh=>(by cases h),λh=>(by cases h)⟩⟩
 | h1 l p ih =>
  rw[vV,bF,bF,HT.lexLt_cons]
  by_cases h:Wq p.1 n1=Wq p.1 n2
  ·rw[if_pos h,h,if_pos rfl]
   refine ⟨ih.1.trans ⟨λe=>by rw[e],λe=>(Fv e).2⟩,ih.2⟩
  ·rw[if_neg h]
   cases h1:Wq p.1 n1 <;> cases h2:Wq p.1 n2 <;> cases h3:p.2 <;> rw[h1,h2] at h <;> first | exact absurd rfl h | simp
theorem Tc(x y:List Int)(ps:List (List Int×Bool)):u4 x y ps=some false↔(¬ Yr ps x=Yr ps y/\¬ HT.lexLt (Yr ps x) (Yr ps y)=true):=by
 rw[<- (pI x y ps).1,<- (pI x y ps).2]
 cases u4 x y ps with
 | none=>simp
 | some b=>cases b <;> simp
def two(x y:Cd):Cd->Bool:=λr=>decide (r=x) || decide (r=y)
abbrev Ps:=List Int×Bool
def xX(p:Ps):Ac:=.tuple [Cf p.1,.str (oX p.2)]
instance {p:Ps}:Im (xX p):=⟨(inferInstance:Im (.tuple [Cf p.1,.str (oX p.2)])).h⟩
instance {p:Ps}:Dp (xX p) 2:=⟨(inferInstance:Dp (.tuple [Cf p.1,.str (oX p.2)]) _).h⟩
instance {α:Type} {f:α->Ac} {l:List α} {lo hi:Option Int} [h:∀a,Im (f a)]:ImA (Ko (l.map f) lo hi):=⟨by rw[eT]; exact W9⟩
theorem cutG_from{α:Type}(xs:List α)(k:Nat):Ko xs (some (k:Int)) none=xs.drop k:=by
 unfold Ko
 rw[HT.sIx_none,HT.sIx_nat]
 by_cases h:k<=xs.length
 ·rw[Nat.min_eq_left h,Fd (by rw[Qd]; exact Ap _)]
 ·rw[Nat.min_eq_right (by omega),jW (by omega),jW (by omega),List.take_nil]
end DRow
namespace K37
open PySem L2 Nd DL
local macro_rules | `(tactic| array_get_dec) => do
  let ids:=(("e_maxL e_idx e_idxB e_idxC e_sortL e_seq e_skip e_ret e_if e_asg e_name e_name2 e_name3 e_name4 e_own e_nF e_gtup e_gsn e_gsc e_op e_var e_c e_imm e_immB e_take e_I e_I0 e_eqF e_eqT e_inFt_w1 e_inTt_w1 e_isNF e_ixl e_ixt e_cat e_catT_w1 e_rep e_nlT e_pkOfsh e_mdInsh e_mdInow e_mdItsh e_mdItow e_nil e_cons e_tup e_lst e_noPart e_part e_partB e_sl e_slBl e_cb e_lenl e_lent_w1 e_listl e_intb e_max2 e_min2 e_MinL e_all e_isi e_v e_b e_bB e_tru e_truB e_notT e_andT e_andTt e_andTf e_orT e_not e_notB e_and e_andt e_andf e_ifE e_dL e_dTp e_lB e_tpB_w1 e_range1 e_rng1B e_enum e_enumB e_for e_comp e_comp2 e_compL e_stepL e_stepLT e_noTest e_step e_stepT e_stepF e_yesB e_call e_callW e_draws e_drawsB e_append e_setI e_sumt_w1 e_scrSl e_sortW e_MaxD e_callA callAB retA retA_tp wordsD callB callBW tupB lstB datas pkMd allOw noPk appB setB own1 npk retE retW retL args0 frD frD1 alD List.map_cons List.map_nil List.replicate List.getElem?_cons_zero List.getElem?_cons_succ List.set_cons_zero List.set_cons_succ List.cons_append List.nil_append Option.map_some List.length_cons List.length_nil List.append_nil rdAdd rdSub rdMul rdDiv rdMod rdPow rdXor rdLt rdLe rdGt rdGe if_true List.append_assoc Nat.reduceAdd Nat.reduceSub Nat.reduceLeDiff true_and im_e ima_e dp_e dpa_e any_int eqD_intd eqD_bl eqD_str eqD_li eqD_l0 ow_e tt_e cdiv_e cpow_e Int.reduceLT Int.reduceLE Int.reduceNeg and_self Int.reduceToNat Int.reducePow isi_ib isi_bb Bool.not_true Bool.not_false String.reduceEq or_true true_or List.isEmpty_nil ifB_lt ifB_lf str_self atI_0 atI_1 some_e dec_self okT_l yesL_ow catL_show" : String).splitOn " ").toArray.map λ(x:String)=>Lean.mkIdent x.toName
  `(tactic| try simp only [$[↓$ids:ident],*])
theorem zH{l:List Int}{k:Nat}{x:Int}:Ko (l.map Ad) none (some (k:Int))++Ad x::Ko (l.map Ad) (some ((k:Int)+1)) none=(l.take k++[x]++l.drop (k+1)).map Ad:=by
 rw[aX,show ((k:Int)+1)=((k+1:Nat):Int) by omega,DRow.cutG_from,Bw,Bw,List.map_take,List.map_drop,Ca]
 rfl
theorem xI{l:List Int}{k:Nat}{x:Int}(h:k<l.length):(l.take k++[x]++l.drop (k+1)).length=l.length:=by
 simp
 omega
theorem fQ{a b:List Int}(h:a.map Ad=b.map Ad):a=b:=lW (λx y e=>PyData.int.inj e) h
theorem Ym{nums:List Int}{n:Nat}(hl:nums.length=n)(nn:∀x∈nums,0<=x):Wd (.list (nums.map Ad)) n=true:=by
 show (decide (((nums.map Ad).length:Int)=n) && (nums.map Ad).all Qn)=true
 rw[Cg,decide_eq_true_eq,Ex]
 refine ⟨by rw[Aa]; omega,λd hd=>?_⟩
 obtain ⟨x,hx,rfl⟩:=Bl.mp hd
 exact decide_eq_true (nn x hx)
theorem vT(b:Bool):(!(b == b))=false:=by cases b <;> rfl
theorem fF(nums:List Int):R6 (.list (nums.map Ad)):=.inl ⟨_,rfl,List.all_eq_true.mpr λd hd=>by
 obtain ⟨x,_,rfl⟩:=Bl.mp hd
 rfl⟩
theorem Zs{h:Int}{L:List (List Int)}{f g:List Int->Int}{vs:Int}{nums:List Int}{R:Ac->Prop}(hp:L.Perm (Ef h.toNat))(ho:Ord L)(D:Due L f g vs)(h0:0<=h)(h1:h<=10)(ln:nums.length=L.length)(nn:∀x∈nums,0<=x)(hR:R (.bool (Ra L (L.map f) vs nums))):bY [.int h,.list ((L.map f).map Ad),.int vs,.list (nums.map Ad)] R:=by
 refine ⟨h,L.map f,vs,_,rfl,h0,h1,by rw[Aa,hp.length_eq,Gi],D.v0,D.v1,fF _,λL2 hp2 ho2=>?_⟩
 obtain rfl:L2=L:=Qt (hp2.trans hp.symm) ho2 ho
 refine ⟨λz=>?_,λnums' e l' nn'=>?_⟩
 ·rw[Ym ln nn] at z; cases z
 obtain rfl:=fQ (PyData.list.inj e)
 exact hR
theorem bK{h:Int}{L:List (List Int)}{f g:List Int->Int}{vs:Int}{nums:List Int}{R:Ac->Prop}(hp:L.Perm (Ef h.toNat))(ho:Ord L)(D:Due L f g vs)(h0:0<=h)(h1:h<=10)(ln:nums.length=L.length)(nn:∀x∈nums,0<=x)(hR:R (.bool (Wb L (L.map f) vs nums))):Yw [.int h,.list ((L.map f).map Ad),.int vs,.list (nums.map Ad)] R:=by
 refine ⟨h,L.map f,vs,_,rfl,h0,h1,by rw[Aa,hp.length_eq,Gi],D.v0,D.v1,fF _,λL2 hp2 ho2=>?_⟩
 obtain rfl:L2=L:=Qt (hp2.trans hp.symm) ho2 ho
 refine ⟨λz=>?_,λnums' e l' nn'=>?_⟩
 ·rw[Ym ln nn] at z; cases z
 obtain rfl:=fQ (PyData.list.inj e)
 exact hR
theorem aR(l:List Int)(lo hi:Option Int):(Ko (l.map Ad) lo hi).length<=l.length:=by
 have:=(Uk (l.map Ad) lo hi).length_le
 rwa [Aa] at this
theorem P8{a b c d e f:Ac}{P Q:Ac->Prop}(r:Int)(k:∀x,P x->Q x)(ha:P a)(hb:P b)(hc:P c)(hd:P d)(he:P e)(hf:P f):∃x,Py [a,b,c,d,e,f] (r % 6)=some x/\Q x:=by
 rcases (by omega:r % 6=0\/r % 6=1\/r % 6=2\/r % 6=3\/r % 6=4\/r % 6=5) with q | q | q | q | q | q <;> rw[q]
 ·exact ⟨a,rfl,k _ ha⟩
 ·exact ⟨b,rfl,k _ hb⟩
 ·exact ⟨c,rfl,k _ hc⟩
 ·exact ⟨d,rfl,k _ hd⟩
 ·exact ⟨e,rfl,k _ he⟩
 ·exact ⟨f,rfl,k _ hf⟩
theorem cS{α:Type}{l:List α}{F:α->Int}{n:Nat}(hl:l.length=n)(h:∀x∈l,0<=F x):∃nums:List Int,PyData.list (l.map λx=>.int (F x))=.list (nums.map Ad)/\nums.length=n/\∀x∈nums,0<=x :=
 ⟨l.map F,by rw[Bz]; rfl,by rw[Aa,hl],λx hx=>by obtain ⟨y,hy,rfl⟩:=Bl.mp hx; exact h y hy⟩
theorem rF{l:List Int}{k n:Nat}{x:Int}(hl:l.length=n)(hk:k<n)(h:∀x∈l,0<=x)(hx:0<=x):∃nums:List Int,PyData.list (Ko (l.map Ad) none (some (k:Int))++Ad x::Ko (l.map Ad) (some ((k:Int)+1)) none)=.list (nums.map Ad)/\nums.length=n/\∀x∈nums,0<=x :=
 ⟨l.take k++[x]++l.drop (k+1),by rw[zH],by rw[xI (by omega),hl],λy hy=>by
  rcases Bi.mp hy with hy | hy
  ·rcases Bi.mp hy with hy | hy
   ·exact h y (List.mem_of_mem_take hy)
   ·rw[Am.mp hy]; exact hx
  ·exact h y (List.mem_of_mem_drop hy)⟩
theorem lC{t:DT}{b:Bool}{δ:DS}{K:Bool->DS->Prop}(k:eV t false δ K)(h:b=true->eV t false δ K->eV t true δ K):eV t b δ K:=by
 cases b
 ·exact k
 ·exact h rfl k
def fE:DF:=λds n R=>∃(h:Int) (L:List (List Int)) (f g:List Int->Int) (vs:Int),ds=[.int h,.list (L.map Cf),oO (L.map f),.int vs,oO (L.map g)]/\1<=h/\h<=7/\L.Perm (Ef h.toNat)/\Ord L/\L.length<=1024/\Due L f g vs/\n<=50000/\∀n',n<=n'->n'<=n+6->R (.bool true) n'
section
variable{P:Bp}{w:World}{K:PySem.W.Frag}{mg:Str->Option Value}{base:Heap}
theorem Qo:FnScope ["_law_draws_here", "_law_holes_here", "_law_words_here", "_law_face", "_law_values_here", "_law_due", "_law_turn", "_law_pick", "_law_at", "_law_some", "_law_thing"] ["_law_draws_here", "_law_holes_here", "_law_words_here", "_law_face", "_law_values_here", "_law_due"] (Br Jb):=⟨rfl,rfl,rfl,by decide +kernel,rfl,by decide +kernel,by decide +kernel⟩
theorem Qu{f f_shows_least f_shows_most_often f_L_next  : Addr}{fd d_shows_least d_shows_most_often d_L_next:Bx}(F:Fun K "_law_papers_right" "_law_papers_right" Jb f fd)(G_shows_least:FnOk P w K mg base Gc 5 f_shows_least d_shows_least ["holes", "reading", "values", "thing"] (Oa K (bY)))(b_shows_least:Binds K d_shows_least ["holes", "reading", "values", "thing"] [])(k_shows_least:PySem.W.keepIn K (.ref f_shows_least)=true)(m_shows_least:mg "shows_least" = some (.ref f_shows_least))(G_shows_most_often:FnOk P w K mg base Gc 5 f_shows_most_often d_shows_most_often ["holes", "reading", "values", "thing"] (Oa K (Yw)))(b_shows_most_often:Binds K d_shows_most_often ["holes", "reading", "values", "thing"] [])(k_shows_most_often:PySem.W.keepIn K (.ref f_shows_most_often)=true)(m_shows_most_often:mg "shows_most_often" = some (.ref f_shows_most_often))(G_L_next:FnOk P w K mg base Gc 1 f_L_next d_L_next ["_law_draws_here"] (Vz K Qy))(b_L_next:Binds K d_L_next ["_law_draws_here"] [])(k_L_next:PySem.W.keepIn K (.ref f_L_next)=true)(m_L_next:mg "_law_next" = some (.ref f_L_next))(mz_list:mg "list" = none)(mz_range:mg "range" = none)(mz_len:mg "len" = none)(mz_min:mg "min" = none)(mz_max:mg "max" = none)(mz_enumerate:mg "enumerate" = none):FnOk P w K mg base Gc 6 f fd ["_law_draws_here", "_law_holes_here", "_law_words_here", "_law_face", "_law_values_here", "_law_due"] (Vz K (fE)):=by
 refine' Rq (k:=5) F Qo (λcdv A outer s H E hr=>?hb) ?h
 case hb =>
  have hr1:Room 1 _:=hr.mono (by decide)
  have hr2:Room 2 _:=hr.mono (by decide)
  have hr3:Room 3 _:=hr.mono (by decide)
  have hr4:Room 4 _:=hr.mono (by decide)
  have hr5:Room 5 _:=hr.mono (by decide)
  have hu64:=hr.units
  exact Bq (Lp (Vx hu64 (El G_shows_least hr5 rfl m_shows_least k_shows_least b_shows_least Eg (Ae (Af (pv 1)) (Ae (Af (pv 3)) (Ae (Af (pv 4)) (Ae (Jw Uj (Ui (i:=true)) rfl mz_list (by decide +kernel) (Ae (Af (pv 5)) Ar)) Ar))))) (El G_shows_most_often hr5 rfl m_shows_most_often k_shows_most_often b_shows_most_often Eg (Ae (Af (pv 1)) (Ae (Af (pv 3)) (Ae (Af (pv 4)) (Ae (Jw Uj (Ui (i:=true)) rfl mz_list (by decide +kernel) (Ae (Af (pv 5)) Ar)) Ar))))))
   (Cw (Dt Ln)) Jc)
   (Bq (Lp (Sy (Mp (El G_shows_least hr5 rfl m_shows_least k_shows_least b_shows_least Eg (Ae (Af (pv 1)) (Ae (Af (pv 3)) (Ae (Af (pv 4)) (Ae (Jw Uj (Ui (i:=true)) rfl mz_list (by decide +kernel) (Ae (Af (pv 5)) Ar)) Ar)))))))
   (Cw (Dt Ln)) Jc)
   (Bq (Kr Du rfl (Gy rfl mz_range (Ae Cs Ar)) (Hq (i:=6) Qo.nd rfl (Cu rfl))
   (Bq (Dr (i:=7) Qo.nd rfl (Lz rfl) (Fn G_L_next hr1 rfl m_L_next k_L_next b_L_next Eg (pv 0) Ar))
    (Bq (Dr (i:=8) Qo.nd rfl (Cu rfl) (Fk (Ql (Af (pv 7)) Cs) (Df Fy Jn rfl mz_len (by decide +kernel) (Ae (Af (pv 2)) Ar))))
    (Bq (Dr (i:=9) Qo.nd rfl (Cu rfl) (Fs (Ae (Gu (oH (x := "_law_one") "_law_pick" 7 rfl (by decide +kernel) rfl rfl rfl) rfl (dW (Af (pv 5))) (λ_ _ _=>Gf) (λ_ _ _=>Df (bP rfl) lA rfl mz_min (by decide +kernel) (Ae (Af (pv 0)) (Ae (Fk (Ql (Af (pv 1)) Cs) Cs) Ar)))) (Ae (Pc (Pc (Tz (i:=true) (Af (pv 5)) Rc (Rg (Af (pv 8)))) (Fs (Ae (Lj (Ec (Af (pv 5)) (Af (pv 8))) Cs) Ar))) (Tz (i:=true) (Af (pv 5)) (Rg (Lj (Af (pv 8)) Cs)) Rc)) Ar))))
    (Bq (Dr (i:=9) Qo.nd rfl (Cu rfl) (kK (Af (pv 9)) (Fs (Ae (Pc (Pc (Tz (i:=true) (Af (pv 5)) Rc (Rg (Af (pv 8)))) (Fs (Ae (Df (Vk rfl) cB rfl mz_max (by decide +kernel) (Ae Cs (Ae (dA (Ec (Af (pv 5)) (Af (pv 8))) Cs) Ar))) Ar))) (Tz (i:=true) (Af (pv 5)) (Rg (Lj (Af (pv 8)) Cs)) Rc)) (Ae (Gu (oH (x := "_law_word") "_law_holes_here" 1 rfl (by decide +kernel) rfl rfl rfl) rfl (dW (Af (pv 2))) (λ_ _ _=>Gf) (λ_ _ _=>dA (Af (pv 1)) (Df Fy Jn rfl mz_len (by decide +kernel) (Ae (Af (pv 0)) Ar)))) Ar)))))
    (Bq (Dr (i:=9) Qo.nd rfl (Cu rfl) (kK (Af (pv 9)) (Fs (Ae (Gu (oH (x := "_law_one") "_law_pick" 7 rfl (by decide +kernel) rfl rfl rfl) rfl (dW (Af (pv 5))) (λ_ _ _=>Gf) (λ_ _ _=>Lj (Af (pv 0)) (Fk (Ql (Af (pv 1)) Cs) Cs))) (Ae (Gu (oH (x := "_law_one") "_law_pick" 7 rfl (by decide +kernel) rfl rfl rfl) rfl (dW (Af (pv 5))) (λ_ _ _=>Gf) (λ_ _ _=>Df (Vk rfl) cB rfl mz_max (by decide +kernel) (Ae Cs (Ae (dA (Af (pv 0)) (Fk (Ql (Af (pv 1)) Cs) Cs)) Ar)))) Ar)))))
    (Bq (Dr (i:=10) Qo.nd rfl (Cu rfl) (Ec (Af (pv 9)) (Fk (Af (pv 7)) Cs)))
    (Bq (Lp (qE (cY (Mp (El G_shows_least hr5 rfl m_shows_least k_shows_least b_shows_least Eg (Ae (Af (pv 1)) (Ae (Af (pv 3)) (Ae (Af (pv 4)) (Ae (Af (pv 10)) Ar)))))) (Xj (Vx hu64 (Tv (oH (x := "_law_k") "_law_due" 5 rfl (by decide +kernel) rfl rfl rfl) (.inl rfl) (by decide +kernel) rfl (Ue rfl mz_enumerate (Ae (Af (pv 10)) Ar)) (λ_ _ _=>Kb (yJ (Af (pv 1)) (Ec (Af (pv 2)) (Af (pv 0))))) (λ_ _ _=>Af (pv 0))) (Fs Ar)))))
    (Cw (Dt Ln)) Jc)
    (Cw (Lp (qE (cY (Mp (El G_shows_most_often hr5 rfl m_shows_most_often k_shows_most_often b_shows_most_often Eg (Ae (Af (pv 1)) (Ae (Af (pv 3)) (Ae (Af (pv 4)) (Ae (Af (pv 10)) Ar)))))) (Xj (Vx hu64 (Tv (oH (x := "_law_k") "_law_due" 5 rfl (by decide +kernel) rfl rfl rfl) (.inl rfl) (by decide +kernel) rfl (Ue rfl mz_enumerate (Ae (Af (pv 10)) Ar)) (λ_ _ _=>Kb (K0 (Af (pv 1)) (Ec (Af (pv 2)) (Af (pv 0))))) (λ_ _ _=>Af (pv 0))) (Fs Ar)))))
    (Cw (Dt Ln)) Jc))))))))))
   (Cw (Dt Ln))))
 case h =>
  (intro ds n R q_; obtain ⟨h,L,f,g,vs,rfl,h1,h7,hp,ho,l1,D,hn,hR⟩ := q_)
  refine ⟨rfl,?_⟩
  unfold oO
  have lL:L.length=2 ^ h.toNat:=by rw[hp.length_eq,Gi]
  have l0:0<L.length:=by rw[lL]; exact Nat.two_pow_pos _
  have gn:∀x∈L.map g,0<=x:=λx hx=>by
   obtain ⟨u,hu,rfl⟩:=Bl.mp hx
   exact (D.bd hu).1
  array_get_dec
  refine Zs hp ho D (by omega) (by omega) (Aa ..) gn ?_
  refine bK hp ho D (by omega) (by omega) (Aa ..) gn ?_
  rw[D.least,D.most]
  array_get_dec
  rw[vT]
  array_get_dec
  refine Zs hp ho D (by omega) (by omega) (Aa ..) gn ?_
  rw[D.least]
  array_get_dec
  refine Vf (l:=Cb 6) (g:=λi:Nat=>.int i) rfl (λi δ=>∃(n':Nat) (v6 v7 v8 v9 v10:DV),δ=⟨[.drw,.dat .sh (.int h),.dat .sh (.list (L.map Cf)),.dat .sh (.list ((L.map f).map Ad)),.dat .sh (.int vs),.dat .sh (.list ((L.map g).map Ad)),v6,v7,v8,v9,v10],n'⟩/\n<=n'/\n'<=n+i/\NP v6/\NP v7/\NP v8/\NP v9/\NP v10) ?_ ?_ ?_
  ·exact ⟨n,_,_,_,_,_,rfl,Ap _,Ap _,Jf,Jf,Jf,Jf,Jf⟩
  ·(intro i a _ ha q_; obtain ⟨n',v6,v7,v8,v9,v10,rfl,hn1,hn2,hv6,hv7,hv8,hv9,hv10⟩ := q_)
   obtain ⟨rfl,hi⟩:=Ml ha
   array_get_dec
   refine ⟨rfl,by omega,λr1=>?_⟩
   array_get_dec
   rw[show (L.map Cf).length=L.length from Aa ..]
   have b1:=Jp (r1 / 6) (b:=(L.length:Int)) (by omega)
   obtain ⟨k,hk,kl⟩ : ∃k:Nat,r1 / 6 % (L.length:Int)=k/\k<L.length:=⟨(r1 / 6 % (L.length:Int)).toNat,by omega,by omega⟩
   rw[hk]
   obtain ⟨w,hw⟩ : ∃w,L[k]? = some w:=⟨_,Ai kl⟩
   have eg:=Lc (f:=g) hw
   refine ⟨by omega,?_⟩
   refine Og (l:=L.map g) (g:=Ad) rfl (λx=>.int (if r1 / 6 % 4<x then r1 / 6 % 4 else x)) (λx _ yes no hy=>?_) ?_
   ·array_get_dec
    exact hy
   array_get_dec
   have ln:=aR (L.map g) none (some (k:Int))
   have lo:=aR (L.map g) (some ((k:Int)+1)) none
   rw[Aa] at ln lo
   refine ⟨_,eg,?_⟩
   array_get_dec
   refine ⟨by omega,by rw[Cc,Ib]; omega,_,eg,?_⟩
   array_get_dec
   refine ⟨by omega,by rw[Cc,Ib]; omega,?_⟩
   refine Og (l:=L) (g:=Cf) rfl (λc=>.int (h - c.length)) (λc hc yes no hy=>?_) ?_
   ·array_get_dec
    rw[Aa]
    exact hy
   array_get_dec
   refine Og (l:=L.map g) (g:=Ad) rfl (λx=>.int (x+r1 / 6 % 3)) (λx _ yes no hy=>?_) ?_
   ·array_get_dec
    exact hy
   array_get_dec
   refine Og (l:=L.map g) (g:=Ad) rfl (λx=>.int (if x - r1 / 6 % 2 > 0 then x - r1 / 6 % 2 else 0)) (λx _ yes no hy=>?_) ?_
   ·array_get_dec
    exact hy
   array_get_dec
   have lw:=λc (hc:c∈L)=>Jv h.toNat c (hp.mem_iff.mp hc)
   have gl:(L.map g).length=L.length:=Aa ..
   refine P8 (P:=λd=>∃nums:List Int,d=.list (nums.map Ad)/\nums.length=L.length/\∀x∈nums,0<=x) r1 (λd hd=>?_) (cS gl λx hx=>?_) (rF gl kl gn (by have:=(D.bd (An hw)).1; omega)) (rF gl kl gn (by split <;> omega)) (cS rfl λc hc=>by have:=lw c hc; omega) (cS gl λx hx=>?_) (cS gl λx hx=>by split <;> omega)
   ·obtain ⟨nums,rfl,ln2,nn2⟩:=hd
    refine Zs hp ho D (by omega) (by omega) ln2 nn2 ?_
    obtain ⟨g',rfl⟩:=Zc D.nd ln2
    array_get_dec
    refine lC ?_ (λz kk=>?_)
    rotate_left
    ·array_get_dec
     refine cV (l:=(L.map g').zipIdx) (g1:=λp=>.int p.2) (g2:=λp=>.int p.1) (by rw[Xg,Bz]; rfl) (λp=>decide (lG (L.map g) (p.2:Int)<p.1)) (λp=>.int p.2) (λp hp yes no hy hn=>?_) ?_
     ·obtain ⟨j,hj⟩:=By.mp hp
      obtain ⟨ek,hp1,hp2,hp3⟩:=Ox hj
      have hq:p.2<(L.map g').length:=(Ah.mp (ek▸hp1)).1
      rw[Aa] at hq
      array_get_dec
      refine ⟨_,Vm (by omega) (by rw[gl]; omega),?_⟩
      array_get_dec
      refine Kf (λq=>?_) (λq=>?_)
      ·array_get_dec
       exact hy q
      ·exact hn q
     rw[Fz.mpr λp hp q=>?_]
     ·array_get_dec
      exact kk
     ·obtain ⟨j,hj⟩:=By.mp hp
      obtain ⟨ek,hp1,hp2,hp3⟩:=Ox hj
      have hq:=ek▸hp1
      rw[Ao] at hq
      obtain ⟨u,hu,e2⟩:=gQ.mp hq
      have:=D.least_le z 11 u (An hu) (by omega)
      rw[decide_eq_true_eq,Po hu,<- e2] at q
      omega
    array_get_dec
    refine bK hp ho D (by omega) (by omega) ln2 nn2 ?_
    array_get_dec
    refine lC ?_ (λz kk=>?_)
    rotate_left
    ·array_get_dec
     refine cV (l:=(L.map g').zipIdx) (g1:=λp=>.int p.2) (g2:=λp=>.int p.1) (by rw[Xg,Bz]; rfl) (λp=>decide (p.1<lG (L.map g) (p.2:Int))) (λp=>.int p.2) (λp hp yes no hy hn=>?_) ?_
     ·obtain ⟨j,hj⟩:=By.mp hp
      obtain ⟨ek,hp1,hp2,hp3⟩:=Ox hj
      have hq:p.2<(L.map g').length:=(Ah.mp (ek▸hp1)).1
      rw[Aa] at hq
      array_get_dec
      refine ⟨_,Vm (by omega) (by rw[gl]; omega),?_⟩
      array_get_dec
      refine Kf (λq=>?_) (λq=>?_)
      ·array_get_dec
       exact hy q
      ·exact hn q
     rw[Fz.mpr λp hp q=>?_]
     ·array_get_dec
      exact kk
     ·obtain ⟨j,hj⟩:=By.mp hp
      obtain ⟨ek,hp1,hp2,hp3⟩:=Ox hj
      have hq:=ek▸hp1
      rw[Ao] at hq
      obtain ⟨u,hu,e2⟩:=gQ.mp hq
      have:=D.most_ge z (λu hu=>nn2 _ (Uu hu)) 11 u (An hu) (by omega)
      rw[decide_eq_true_eq,Po hu,<- e2] at q
      omega
    array_get_dec
    exact ⟨_,_,_,_,_,_,rfl,by omega,by omega,Fp,Fp,Fp,Fp,Fp⟩
   ·have:=gn x hx
    split <;> omega
   ·have:=gn x hx
    omega
  ·(intro _ q_; obtain ⟨n',v6,v7,v8,v9,v10,rfl,hn1,hn2,hv6,hv7,hv8,hv9,hv10⟩ := q_)
   rw[Ct] at hn2
   array_get_dec
   exact ⟨by omega,hR _ (by omega) (by omega)⟩
end
def kQ:DF:=λds n R=>∃(h:Int) (L:List (List Int)) (f g:List Int->Int) (vs:Int),ds=[.int h,.list (L.map Cf),oO (L.map f),.int vs,oO (L.map g)]/\1<=h/\h<=7/\L.Perm (Ef h.toNat)/\Ord L/\L.length<=1024/\Due L f g vs/\n<=50000/\∀n',n<=n'->n'<=n+14->R (.bool true) n'
theorem gG{vs v:Int}(h0:0<=v)(h1:v<vs):∀{x:Int} {zs:List Int},K6 vs x zs->v≠zs.getLastD x->K6 vs x (zs++[v])
 | x,[],_,h=>⟨h0,h1,h,trivial⟩
 | x,y::zs,a,h=>⟨a.1,a.2.1,a.2.2.1,gG h0 h1 a.2.2.2 (by rwa [List.getLastD_cons] at h)⟩
theorem mV{x v:Int}{zs:List Int}:(zs++[v]).getLastD x=v:=by simp
section
variable{P:Bp}{w:World}{K:PySem.W.Frag}{mg:Str->Option Value}{base:Heap}
theorem Pz:FnScope ["_law_draws_here", "_law_holes_here", "_law_words_here", "_law_face", "_law_values_here", "_law_due", "_law_at", "_law_row", "_law_last", "_law_turn", "_law_some", "_law_told"] ["_law_draws_here", "_law_holes_here", "_law_words_here", "_law_face", "_law_values_here", "_law_due"] (Br Hw):=⟨rfl,rfl,rfl,by decide +kernel,rfl,by decide +kernel,by decide +kernel⟩
theorem Qa{f f_written f_L_next  : Addr}{fd d_written d_L_next:Bx}(F:Fun K "_law_written_whole" "_law_written_whole" Hw f fd)(G_written:FnOk P w K mg base Gc 4 f_written d_written ["holes", "reading", "numbers", "word", "row"] (Oa K (bG)))(b_written:Binds K d_written ["holes", "reading", "numbers", "word", "row"] [])(k_written:PySem.W.keepIn K (.ref f_written)=true)(m_written:mg "written" = some (.ref f_written))(G_L_next:FnOk P w K mg base Gc 1 f_L_next d_L_next ["_law_draws_here"] (Vz K Qy))(b_L_next:Binds K d_L_next ["_law_draws_here"] [])(k_L_next:PySem.W.keepIn K (.ref f_L_next)=true)(m_L_next:mg "_law_next" = some (.ref f_L_next))(mz_len:mg "len" = none)(mz_int:mg "int" = none)(mz_min:mg "min" = none)(mz_range:mg "range" = none)(mz_list:mg "list" = none):FnOk P w K mg base Gc 5 f fd ["_law_draws_here", "_law_holes_here", "_law_words_here", "_law_face", "_law_values_here", "_law_due"] (Vz K (kQ)):=by
 refine' Rq (k:=4) F Pz (λcdv A outer s H E hr=>?hb) ?h
 case hb =>
  have hr1:Room 1 _:=hr.mono (by decide)
  have hr2:Room 2 _:=hr.mono (by decide)
  have hr3:Room 3 _:=hr.mono (by decide)
  have hr4:Room 4 _:=hr.mono (by decide)
  have hu64:=hr.units
  exact Bq (Dr (i:=6) Pz.nd rfl (Cu rfl) (jB (Fk (Fn G_L_next hr1 rfl m_L_next k_L_next b_L_next Eg (pv 0) Ar) (Df Fy Jn rfl mz_len (by decide +kernel) (Ae (Af (pv 2)) Ar))) (Jw Vi iZ rfl mz_int (by decide +kernel) (Ae (bO hu64 (Fk (Fn G_L_next hr1 rfl m_L_next k_L_next b_L_next Eg (pv 0) Ar) Cs) Cs) Ar))))
   (Bq (Xa (i:=7) Pz.nd rfl (Cu rfl) (Fs Ar))
   (Bq (Dr (i:=8) Pz.nd rfl (Lz rfl) (Ec (Af (pv 3)) (Af (pv 6))))
   (Bq (Kr Du rfl (Gy rfl mz_range (Ae (Df (bP rfl) lA rfl mz_min (by decide +kernel) (Ae Cs (Ae (Ec (Af (pv 5)) (Af (pv 6))) Ar))) Ar)) (Hq (i:=9) Pz.nd rfl (Cu rfl))
   (Bq (Xm (o:=false) (i0:=10) Pz.nd rfl rfl (oH (x := "_law_value") "_law_last" 8 rfl (by decide +kernel) rfl rfl rfl) rfl (Gy rfl mz_range (Ae (Af (pv 4)) Ar)) (λ_ _ _=>Kb (Vx hu64 (Af (pv 0)) (Af (pv 1)))) (λ_ _ _=>Af (pv 0)))
    (Bq (Dr (i:=8) Pz.nd rfl (Lz rfl) (Ec (Af (pv 10)) (Fk (Fn G_L_next hr1 rfl m_L_next k_L_next b_L_next Eg (pv 0) Ar) (Df Fy Jn rfl mz_len (by decide +kernel) (Ae (Af (pv 10)) Ar)))))
    (Cw (Vj (pv 7) (Af (pv 8)))))))
   (Bq (Dr (i:=11) Pz.nd rfl (Cu rfl) (El G_written hr4 rfl m_written k_written b_written Eg (Ae (Af (pv 1)) (Ae (Af (pv 3)) (Ae (Jw Uj (Ui (i:=true)) rfl mz_list (by decide +kernel) (Ae (Af (pv 5)) Ar)) (Ae (Ec (Af (pv 2)) (Af (pv 6))) (Ae (Af (pv 7)) Ar)))))))
   (Cw (Dt (iS (bO hu64 (Ec (Af (pv 11)) Cs) jT) (iO (bO hu64 (Gu (E1 (x := "_law_word") "_law_face" "_law_words_here" 3 2 rfl (by decide +kernel) rfl rfl rfl) rfl (dW (Ec (Af (pv 11)) Cs)) (λ_ _ _=>Gf) (λ_ _ _=>Ec (Af (pv 1)) (fY hu64 (Af (pv 2)) (Af (pv 0))))) (Af (pv 7)))))))))))
 case h =>
  (intro ds n R q_; obtain ⟨h,L,f,g,vs,rfl,h1,h7,hp,ho,l1,D,hn,hR⟩ := q_)
  refine ⟨rfl,?_⟩
  unfold oO
  have lL:L.length=2 ^ h.toNat:=by rw[hp.length_eq,Gi]
  have l0:0<L.length:=by rw[lL]; exact Nat.two_pow_pos _
  array_get_dec
  refine ⟨rfl,by omega,λr1=>?_⟩
  array_get_dec
  rw[show (L.map Cf).length=L.length from Aa ..]
  have b1:=Jp r1 (b:=(L.length:Int)) (by omega)
  refine ⟨by omega,rfl,by omega,λr2=>?_⟩
  array_get_dec
  obtain ⟨z01,ez01⟩ : ∃z,(if decide (r2 % 3=0)=true then (1:Int) else 0)=z:=⟨_,rfl⟩
  have hz01:z01=0\/z01=1:=by
   rw[<- ez01]
   by_cases q:decide (r2 % 3=0)=true
   ·rw[if_pos q]; exact .inr rfl
   ·rw[if_neg q]; exact .inl rfl
  rw[ez01]
  obtain ⟨k,hk,kl⟩ : ∃j:Nat,r1 % (L.length:Int) * z01=(j:Int)/\j<L.length:=by
   rcases hz01 with rfl | rfl
   ·exact ⟨0,by simp,l0⟩
   ·exact ⟨(r1 % (L.length:Int)).toNat,by omega,by omega⟩
  obtain ⟨w,hw⟩ : ∃w,L[k]? = some w:=⟨_,Ai kl⟩
  have hm:=An hw
  have bd:=D.bd hm
  rw[hk]
  refine ⟨.inr (by rcases hz01 with rfl | rfl <;> decide),_,Lc hw,_,Lc hw,?_⟩
  array_get_dec
  rw[if_pos (show g w<12 by omega)]
  refine ⟨by omega,by omega,?_⟩
  refine Vf (l:=Cb (g w).toNat) (g:=λi:Nat=>.int i) rfl (λi δ=>∃(zs:List Int) (n':Nat) (v9 v10:DV),δ=⟨[.drw,.dat .sh (.int h),.dat .sh (.list (L.map Cf)),.dat .sh (.list ((L.map f).map Ad)),.dat .sh (.int vs),.dat .sh (.list ((L.map g).map Ad)),.dat .sh (.int k),.dat .ow (.list (zs.map Ad)),.dat .sh (.int (zs.getLastD (f w))),v9,v10,.un],n'⟩/\zs.length=i/\K6 vs (f w) zs/\n<=n'/\n'<=n+2+i/\NP v9/\NP v10) ?_ ?_ ?_
  ·exact ⟨[],_,_,_,rfl,rfl,trivial,by omega,by omega,Jf,Jf⟩
  ·(intro i a _ ha q_; obtain ⟨zs,n',v9,v10,rfl,lz,az,hn1,hn2,hv9,hv10⟩ := q_)
   obtain ⟨rfl,hi⟩:=Ml ha
   have v0:=D.v0
   have v1:=D.v1
   array_get_dec
   refine ⟨by omega,by omega,?_⟩
   refine We (l:=Cb vs.toNat) (g:=λi:Nat=>.int i) rfl (λv=>!decide ((v:Int)=zs.getLastD (f w))) (λv=>.int v) (λv hv yes no hy hn=>?_) ?_
   ·array_get_dec
    refine Kf (λq=>?_) (λq=>?_)
    ·array_get_dec
     exact hy q
    ·exact hn q
   obtain ⟨S,hS⟩ : ∃S,(Cb vs.toNat).filter (λv:Nat=>!decide ((v:Int)=zs.getLastD (f w)))=S:=⟨_,rfl⟩
   rw[hS]
   have ls:0<S.length:=by
    obtain ⟨v,hv,ne⟩ : ∃v:Nat,v<vs.toNat/\(v:Int)≠zs.getLastD (f w):=by
     by_cases q:(0:Int)=zs.getLastD (f w)
     ·exact ⟨1,by omega,by omega⟩
     ·exact ⟨0,by omega,q⟩
    refine Rh (a:=v) ?_
    rw[<- hS]
    exact Bj.mpr ⟨Fe.mpr hv,by simpa using ne⟩
   array_get_dec
   refine ⟨rfl,by omega,λr3=>?_⟩
   array_get_dec
   rw[Aa]
   have b3:=Jp r3 (b:=(S.length:Int)) (by omega)
   obtain ⟨v,hv⟩ : ∃v,S[(r3 % (S.length:Int)).toNat]? = some v:=⟨_,Ai (by omega)⟩
   have hvm:=An hv
   rw[<- hS] at hvm
   obtain ⟨q1,q2⟩:=Bj.mp hvm
   have q1:=Fe.mp q1
   have q2:(v:Int)≠zs.getLastD (f w):=by simpa using q2
   refine ⟨by omega,.int v,?_,?_⟩
   ·rw[show r3 % (S.length:Int)=((r3 % (S.length:Int)).toNat:Int) by omega]
    exact Lo (by rw[Ao,hv]; rfl)
   array_get_dec
   refine ⟨by rw[Aa]; omega,?_⟩
   exact ⟨zs++[(v:Int)],_,_,_,lF (by rw[Bw,mV]; rfl) rfl,by rw[Cc,lz]; rfl,gG (by omega) (by omega) az q2,by omega,by omega,Fp,Fp⟩
  ·(intro _ q_; obtain ⟨zs,n',v9,v10,rfl,lz,az,hn1,hn2,hv9,hv10⟩ := q_)
   rw[Ct] at lz hn2
   array_get_dec
   refine ⟨Cf w,Lo (by rw[Ao,hw]; rfl),h,L,L.map f,L.map g,w,k,zs,rfl,by omega,by omega,hp,ho,by rw[Aa],by rw[Aa],hw,by omega,λms b hW=>?_⟩
   obtain ⟨rfl,e1,e2⟩:=D.wr hW hw az (by omega)
   unfold Y0 Y9
   array_get_dec
   refine Og (l:=ms.map λm=>L.getD m []) (g:=Cf) rfl (λu=>.int (f u)) (λu hu yes no hy=>?_) ?_
   ·obtain ⟨m,hm',rfl⟩:=Bl.mp hu
    have hmm:L[m]? = some (L.getD m []):=by
     rw[Bv,Ai (e2 m hm')]
     rfl
    array_get_dec
    refine ⟨m,Zm D.nd hmm,_,Lc hmm,?_⟩
    array_get_dec
    exact hy
   rw[show (ms.map λm=>L.getD m []).map (λu=>Ad (f u))=zs.map Ad by rw[<- e1,Bz,Bz]; rfl]
   array_get_dec
   exact ⟨by omega,hR _ (by omega) (by omega)⟩
end
theorem Oo{n:Nat}{l:List DV}(h:l.length=n+1):∃v m,l=v::m/\m.length=n:=by
 cases l with
 | nil=>cases h
 | cons v m=>exact ⟨v,m,rfl,by simpa using h⟩
theorem x8{l:List DV}(h:l.length=13):∃v1 v2 v3 v4 v5 v6 v7 v8 v9 v10 v11 v12 v13,l=[v1,v2,v3,v4,v5,v6,v7,v8,v9,v10,v11,v12,v13]:=by
 obtain ⟨v1,l1,e1,h1⟩:=Oo h
 obtain ⟨v2,l2,e2,h2⟩:=Oo h1
 obtain ⟨v3,l3,e3,h3⟩:=Oo h2
 obtain ⟨v4,l4,e4,h4⟩:=Oo h3
 obtain ⟨v5,l5,e5,h5⟩:=Oo h4
 obtain ⟨v6,l6,e6,h6⟩:=Oo h5
 obtain ⟨v7,l7,e7,h7⟩:=Oo h6
 obtain ⟨v8,l8,e8,h8⟩:=Oo h7
 obtain ⟨v9,l9,e9,h9⟩:=Oo h8
 obtain ⟨v10,l10,e10,h10⟩:=Oo h9
 obtain ⟨v11,l11,e11,h11⟩:=Oo h10
 obtain ⟨v12,l12,e12,h12⟩:=Oo h11
 obtain ⟨v13,l13,e13,h13⟩:=Oo h12
 have e0:=Hf.mp h13
 subst e0 e13 e12 e11 e10 e9 e8 e7 e6 e5 e4 e3 e2 e1
 exact ⟨v1,v2,v3,v4,v5,v6,v7,v8,v9,v10,v11,v12,v13,rfl⟩
section
variable{P:Bp}{w:World}{K:PySem.W.Frag}{mg:Str->Option Value}{base:Heap}
theorem u5:FnScope ["_law_script", "_law_cell", "_law_draws_here", "_law_holes_here", "_law_words_here", "_law_values_here", "_law_seed", "_law_face", "_law_due", "_law_over", "_law_k", "_law_some", "_law_more", "_law_turn"] ["_law_script"] (Br cW):=⟨rfl,rfl,rfl,by decide +kernel,rfl,by decide +kernel,by decide +kernel⟩
theorem x5{f f_often f_L_draws f_L_next f_L_words f_L_holes f_L_reading f_L_values f_L_beyond f_L_papers_right f_L_written_whole f_L_no_oftener  : Addr}{fd d_often d_L_draws d_L_next d_L_words d_L_holes d_L_reading d_L_values d_L_beyond d_L_papers_right d_L_written_whole d_L_no_oftener:Bx}(F:Fun K "law" "law" cW f fd)(G_often:FnOk P w K mg base Gc 5 f_often d_often ["holes", "reading", "values"] (Oa K (sQ)))(b_often:Binds K d_often ["holes", "reading", "values"] [])(k_often:PySem.W.keepIn K (.ref f_often)=true)(m_often:mg "often" = some (.ref f_often))(G_L_draws:FnOk P w K mg base Gc 1 f_L_draws d_L_draws ["_law_cell"] (Tu))(b_L_draws:Binds K d_L_draws ["_law_cell"] [])(k_L_draws:PySem.W.keepIn K (.ref f_L_draws)=true)(m_L_draws:mg "_law_draws" = some (.ref f_L_draws))(G_L_next:FnOk P w K mg base Gc 1 f_L_next d_L_next ["_law_draws_here"] (Vz K Qy))(b_L_next:Binds K d_L_next ["_law_draws_here"] [])(k_L_next:PySem.W.keepIn K (.ref f_L_next)=true)(m_L_next:mg "_law_next" = some (.ref f_L_next))(G_L_words:FnOk P w K mg base Gc 1 f_L_words d_L_words ["_law_holes_here"] (Oa K (Pr)))(b_L_words:Binds K d_L_words ["_law_holes_here"] [])(k_L_words:PySem.W.keepIn K (.ref f_L_words)=true)(m_L_words:mg "_law_words" = some (.ref f_L_words))(G_L_holes:FnOk P w K mg base Gc 2 f_L_holes d_L_holes ["_law_draws_here"] (Vz K (lN)))(b_L_holes:Binds K d_L_holes ["_law_draws_here"] [])(k_L_holes:PySem.W.keepIn K (.ref f_L_holes)=true)(m_L_holes:mg "_law_holes" = some (.ref f_L_holes))(G_L_reading:FnOk P w K mg base Gc 2 f_L_reading d_L_reading ["_law_draws_here", "_law_words_here", "_law_values_here"] (Vz K (Xx)))(b_L_reading:Binds K d_L_reading ["_law_draws_here", "_law_words_here", "_law_values_here"] [])(k_L_reading:PySem.W.keepIn K (.ref f_L_reading)=true)(m_L_reading:mg "_law_reading" = some (.ref f_L_reading))(G_L_values:FnOk P w K mg base Gc 2 f_L_values d_L_values ["_law_draws_here"] (Vz K (gJ)))(b_L_values:Binds K d_L_values ["_law_draws_here"] [])(k_L_values:PySem.W.keepIn K (.ref f_L_values)=true)(m_L_values:mg "_law_values" = some (.ref f_L_values))(G_L_beyond:FnOk P w K mg base Gc 2 f_L_beyond d_L_beyond ["_law_words_here"] (R3 K (fL)))(b_L_beyond:Binds K d_L_beyond ["_law_words_here"] [])(k_L_beyond:PySem.W.keepIn K (.ref f_L_beyond)=true)(m_L_beyond:mg "_law_beyond" = some (.ref f_L_beyond))(G_L_papers_right:FnOk P w K mg base Gc 6 f_L_papers_right d_L_papers_right ["_law_draws_here", "_law_holes_here", "_law_words_here", "_law_face", "_law_values_here", "_law_due"] (Vz K (fE)))(b_L_papers_right:Binds K d_L_papers_right ["_law_draws_here", "_law_holes_here", "_law_words_here", "_law_face", "_law_values_here", "_law_due"] [])(k_L_papers_right:PySem.W.keepIn K (.ref f_L_papers_right)=true)(m_L_papers_right:mg "_law_papers_right" = some (.ref f_L_papers_right))(G_L_written_whole:FnOk P w K mg base Gc 5 f_L_written_whole d_L_written_whole ["_law_draws_here", "_law_holes_here", "_law_words_here", "_law_face", "_law_values_here", "_law_due"] (Vz K (kQ)))(b_L_written_whole:Binds K d_L_written_whole ["_law_draws_here", "_law_holes_here", "_law_words_here", "_law_face", "_law_values_here", "_law_due"] [])(k_L_written_whole:PySem.W.keepIn K (.ref f_L_written_whole)=true)(m_L_written_whole:mg "_law_written_whole" = some (.ref f_L_written_whole))(G_L_no_oftener:FnOk P w K mg base Gc 2 f_L_no_oftener d_L_no_oftener ["_law_draws_here", "_law_over", "_law_face", "_law_values_here", "_law_due", "_law_at"] (Vz K (lU)))(b_L_no_oftener:Binds K d_L_no_oftener ["_law_draws_here", "_law_over", "_law_face", "_law_values_here", "_law_due", "_law_at"] [])(k_L_no_oftener:PySem.W.keepIn K (.ref f_L_no_oftener)=true)(m_L_no_oftener:mg "_law_no_oftener" = some (.ref f_L_no_oftener))(mz_list:mg "list" = none)(mz_enumerate:mg "enumerate" = none)(mz_range:mg "range" = none)(mz_len:mg "len" = none):FnOk P w K mg base Gc 7 f fd ["_law_script"] (spLawD K):=by
 refine' C6 (k:=6) F u5 (λcdv A outer s H E hr=>?hb) ?h
 case hb =>
  have hr1:Room 1 _:=hr.mono (by decide)
  have hr2:Room 2 _:=hr.mono (by decide)
  have hr3:Room 3 _:=hr.mono (by decide)
  have hr4:Room 4 _:=hr.mono (by decide)
  have hr5:Room 5 _:=hr.mono (by decide)
  have hr6:Room 6 _:=hr.mono (by decide)
  have hu64:=hr.units
  exact Bq (Kr Du rfl (dW (Pc (sG (pv 0) Rc (Rg Cs)) (Fs (Ae Cs Ar)))) (Hq (i:=1) u5.nd rfl (Cu rfl))
   (Bq (Dr (i:=2) u5.nd rfl (Cu rfl) (gK G_L_draws hr1 rfl m_L_draws k_L_draws b_L_draws Eg (Ae (Af (pv 1)) Ar)))
    (Bq (Dr (i:=3) u5.nd rfl (Cu rfl) (Fn G_L_holes hr2 rfl m_L_holes k_L_holes b_L_holes Eg (pv 2) Ar))
    (Bq (Dr (i:=4) u5.nd rfl (Cu rfl) (El G_L_words hr1 rfl m_L_words k_L_words b_L_words Eg (Ae (Af (pv 3)) Ar)))
    (Bq (Dr (i:=5) u5.nd rfl (Cu rfl) (Fn G_L_values hr2 rfl m_L_values k_L_values b_L_values Eg (pv 2) Ar))
    (Bq (Dr (i:=6) u5.nd rfl (Cu rfl) (Fn G_L_next hr1 rfl m_L_next k_L_next b_L_next Eg (pv 2) Ar))
    (Bq (Dr (i:=7) u5.nd rfl (Cu rfl) (Fn G_L_reading hr2 rfl m_L_reading k_L_reading b_L_reading Eg (pv 2) (Ae (Af (pv 4)) (Ae (Af (pv 5)) Ar))))
    (Bq (Dr (i:=8) u5.nd rfl (Lz rfl) (El G_often hr5 rfl m_often k_often b_often Eg (Ae (Af (pv 3)) (Ae (Jw Uj (Ui (i:=true)) rfl mz_list (by decide +kernel) (Ae (Af (pv 7)) Ar)) (Ae (Af (pv 5)) Ar)))))
    (Bq (Dr (i:=9) u5.nd rfl (Cu rfl) (rH G_L_beyond hr2 rfl m_L_beyond k_L_beyond b_L_beyond Eg (Ae (Af (pv 4)) Ar)))
    (Bq (Kr Du rfl (Ue rfl mz_enumerate (Ae (Af (pv 9)) Ar)) (C3 (n:=2) rfl (eY (Hq (i:=10) u5.nd rfl (Lz rfl)) (eY (Hq (i:=11) u5.nd rfl (Cu rfl)) vM)))
    (Cw (Lp (Vx hu64 (Gu (E1 (x := "_law_j") "_law_due" "_law_k" 8 10 rfl (by decide +kernel) rfl rfl rfl) rfl (dW (Af (pv 11))) (λ_ _ _=>Kb (yJ (Ec (Af (pv 1)) (Af (pv 0))) (Ec (Af (pv 1)) (Af (pv 2))))) (λ_ _ _=>Af (pv 0))) (Fs Ar))
     (Cw (Dt Ln)) Jc)))
    (Bq (Dr (i:=12) u5.nd rfl (Cu rfl) (gK G_L_draws hr1 rfl m_L_draws k_L_draws b_L_draws Eg (Ae (Af (pv 6)) Ar)))
    (Bq (Lp (Sy (Mp (Fn G_L_papers_right hr6 rfl m_L_papers_right k_L_papers_right b_L_papers_right Eg (pv 12) (Ae (Af (pv 3)) (Ae (Af (pv 4)) (Ae (Af (pv 7)) (Ae (Af (pv 5)) (Ae (Af (pv 8)) Ar))))))))
    (Cw (Dt Ln)) Jc)
    (Cw (Kr Du rfl (Gy rfl mz_range (Ae Cs Ar)) (Hq (i:=13) u5.nd rfl (Cu rfl))
    (Bq (Lp (Sy (Mp (Fn G_L_written_whole hr5 rfl m_L_written_whole k_L_written_whole b_L_written_whole Eg (pv 12) (Ae (Af (pv 3)) (Ae (Af (pv 4)) (Ae (Af (pv 7)) (Ae (Af (pv 5)) (Ae (Af (pv 8)) Ar))))))))
     (Cw (Dt Ln)) Jc)
     (Cw (Lp (Sy (Mp (Fn G_L_no_oftener hr2 rfl m_L_no_oftener k_L_no_oftener b_L_no_oftener Eg (pv 12) (Ae (Af (pv 9)) (Ae (Af (pv 7)) (Ae (Af (pv 5)) (Ae (Af (pv 8)) (Ae (jB (Fk (Fn G_L_next hr1 rfl m_L_next k_L_next b_L_next Eg (pv 12) Ar) (Df Fy Jn rfl mz_len (by decide +kernel) (Ae (Af (pv 4)) Ar))) (Fk (Af (pv 13)) Cs)) Ar))))))))
     (Cw (Dt Ln)) Jc)))))))))))))))))
   (Cw (Dt Ln))
 case h =>
  intro ns h63
  array_get_dec
  have lc:(Ko ns none (some 2)).length<=2:=K8 2
  refine ⟨by rw[Aa]; omega,?_⟩
  refine Vf (l:=Ko ns none (some 2)++[0]) (g:=Ad) (by rw[Bw]; rfl) (λi δ=>∃(l:List DV) (n':Nat),δ=⟨.scr ns::l,n'⟩/\l.length=13/\(∀v∈l,NP v)/\n'<=2000 * i) ?_ ?_ ?_
  ·exact ⟨_,_,rfl,rfl,by simp [Jf],by omega⟩
  ·(intro i c _ hc q_; obtain ⟨l,n0,rfl,hl,hv,hn⟩ := q_)
   have hi:i<3:=by
    have:=(Ah.mp hc).1
    rw[Cc,Ib] at this
    omega
   obtain ⟨v1,v2,v3,v4,v5,v6,v7,v8,v9,v10,v11,v12,v13,rfl⟩:=x8 hl
   simp only[List.forall_mem_cons] at hv
   obtain ⟨hv1,hv2,hv3,hv4,hv5,hv6,hv7,hv8,hv9,hv10,hv11,hv12,hv13,-⟩:=hv
   array_get_dec
   refine ⟨rfl,by omega,λh h0 h1=>?_⟩
   array_get_dec
   refine ⟨h,rfl,by omega,by omega,λL hp ho=>?_⟩
   have lL:L.length=2 ^ h.toNat:=by rw[hp.length_eq,Gi]
   obtain ⟨l1,l2⟩:=Ol (n:=h.toNat) (by omega) hp
   have nd:=Qi hp
   have lp:0<L.length:=by rw[lL]; exact Nat.two_pow_pos _
   array_get_dec
   refine ⟨rfl,by omega,λvs w0 w1=>?_⟩
   array_get_dec
   refine ⟨rfl,by omega,λr1=>?_⟩
   array_get_dec
   refine ⟨L,vs,rfl,by omega,by omega,l1,λw hw=>(l2 w hw).2,by omega,λface lf nf=>?_⟩
   array_get_dec
   obtain ⟨f,rfl⟩:=Zc nd lf
   refine ⟨h,L,f,vs,rfl,by omega,by omega,hp,ho,w0,w1,λg hg=>?_⟩
   have D:Due L f g vs:=⟨nd,λu hu=>⟨(l2 u hu).1.1,λx hx=>by have:=(l2 u hu).1.2 x hx; omega⟩,λu hu=>(l2 u hu).2,w0,w1,hg⟩
   array_get_dec
   refine ⟨L,rfl,l1,?_⟩
   array_get_dec
   refine Vf (l:=L.zipIdx) (g:=λp=>.tuple [.int p.2,.list ((Ir L p.1).map Ad)]) (qO L) (λi δ=>∃v10 v11:DV,δ=⟨[.scr ns,.dat .sh (.int c),.drw,.dat .sh (.int h),.dat .sh (.list (L.map Cf)),.dat .sh (.int vs),.dat .sh (.int r1),.dat .sh (.list ((L.map f).map Ad)),.dat .sh (.list ((L.map g).map Ad)),.dat .sh (.list (L.map λw=>.list ((Ir L w).map Ad))),v10,v11,v12,v13],n0+1+1+1+1+L.length⟩/\NP v10/\NP v11) ?_ ?_ ?_
   ·exact ⟨_,_,rfl,hv10,hv11⟩
   ·clear hv10 hv11
    (intro i p _ hp' q_; obtain ⟨v10,v11,rfl,hv10,hv11⟩ := q_)
    obtain ⟨ek,hp1,hp2,hp3⟩:=Ox hp'
    obtain ⟨w,k⟩:=p
    simp only at ek hp1 hp2 hp3
    subst ek
    array_get_dec
    refine We (l:=Ir L w) (g:=Ad) rfl (λj=>decide (g w<lG (L.map g) j)) (λj=>.int j) (λj hj yes no hy hn=>?_) ?_
    ·obtain ⟨m,u,rfl,hm1,_⟩:=M5.mp hj
     have hl:=(Ah.mp hm1).1
     array_get_dec
     refine ⟨_,Vm (by omega) (by rw[Aa]; omega),_,Lc hp1,?_⟩
     array_get_dec
     refine Kf (λq=>?_) (λq=>?_)
     ·array_get_dec
      exact hy q
     ·exact hn q
    rw[Fz.mpr λj hj q=>?_]
    ·array_get_dec
     exact ⟨_,_,rfl,Fp,Fp⟩
    ·obtain ⟨m,u,rfl,hm1,hi'⟩:=M5.mp hj
     have:=D.mono (An hp1) (An hm1) hi'
     rw[decide_eq_true_eq,Po hm1] at q
     omega
   ·(intro _ q_; obtain ⟨v10,v11,rfl,hv10,hv11⟩ := q_)
    array_get_dec
    refine ⟨h,L,f,g,vs,rfl,by omega,by omega,hp,ho,l1,D,by omega,λn1 a1 a2=>?_⟩
    array_get_dec
    refine Vf (l:=Cb 4) (g:=λi:Nat=>.int i) rfl (λi δ=>∃(n':Nat) (v13:DV),δ=⟨[.scr ns,.dat .sh (.int c),.drw,.dat .sh (.int h),.dat .sh (.list (L.map Cf)),.dat .sh (.int vs),.dat .sh (.int r1),.dat .sh (.list ((L.map f).map Ad)),.dat .sh (.list ((L.map g).map Ad)),.dat .sh (.list (L.map λw=>.list ((Ir L w).map Ad))),v10,v11,.drw,v13],n'⟩/\n1<=n'/\n'<=n1+30 * i/\NP v13) ?_ ?_ ?_
    ·exact ⟨n1,_,rfl,Ap _,Ap _,hv13⟩
    ·clear hv13
     (intro j t _ ht q_; obtain ⟨n',v13,rfl,c1,c2,hv13⟩ := q_)
     obtain ⟨rfl,hj⟩:=Ml ht
     array_get_dec
     refine ⟨h,L,f,g,vs,rfl,by omega,by omega,hp,ho,l1,D,by omega,λn2 d1 d2=>?_⟩
     array_get_dec
     refine ⟨rfl,by omega,λr2=>?_⟩
     array_get_dec
     rw[show (L.map Cf).length=L.length from Aa ..]
     have b2:=Jp r2 (b:=(L.length:Int)) (by omega)
     obtain ⟨z,ez⟩ : ∃z,(t:Int) % 2=z:=⟨_,rfl⟩
     have hz:z=0\/z=1:=by omega
     rw[ez]
     obtain ⟨k,hk,kl⟩ : ∃k:Nat,r2 % (L.length:Int) * z=(k:Int)/\k<L.length:=by
      rcases hz with rfl | rfl
      ·exact ⟨0,by simp,lp⟩
      ·exact ⟨(r2 % (L.length:Int)).toNat,by omega,by omega⟩
     refine ⟨by omega,.inr (by rcases hz with rfl | rfl <;> decide),?_⟩
     rw[hk]
     array_get_dec
     refine ⟨L,f,g,vs,k,rfl,l1,D,kl,by omega,λn3 f1 f2=>?_⟩
     array_get_dec
     exact ⟨_,_,rfl,by omega,by omega,Fp⟩
    ·(intro _ q_; obtain ⟨n',v13,rfl,c1,c2,hv13⟩ := q_)
     rw[Ct] at c2
     refine ⟨_,_,rfl,rfl,?_,by omega⟩
     simp only[List.forall_mem_cons]
     exact ⟨Fp,sY,Fp,Fp,Fp,Fp,Fp,Fp,Fp,hv10,hv11,sY,hv13,λ_ z=>(nomatch z)⟩
  ·(intro _ q_; obtain ⟨l,n',rfl,hl,hv,hn⟩ := q_)
   array_get_dec
end
structure Def(K:PySem.W.Frag)(x:Str)(st:Stmt)(f:Addr)(fd:Bx):Prop where
 nm:PySem.W.nsIn K Co x=some (some (.ref f))
 fn:Fun K x x st f fd
theorem def_mk{K:PySem.W.Frag}{x:Str}{st:Stmt}{f:Addr}{od an:Option Addr}{sl:Array (Option Value)}{oc kV dc pm cd ct:Value}(a:PySem.W.nsIn K Co x=some (some (.ref f)))(l:K.lookup f=some ⟨oc,od,.func (PySem.W.fnOf x x (Na st) (Hd st) (Br st) .none kV dc pm an cd ct),sl⟩)(c:PySem.W.codeIn K cd x=true)(k:PySem.W.keepIn K (.ref f)=true):Def K x st f (PySem.W.fnOf x x (Na st) (Hd st) (Br st) .none kV dc pm an cd ct):=⟨a,pT l c k⟩
theorem AA{P:List Value->Prop}(h:P []):∀us:List Value,us.length=0->P us
 | [],_=>h
theorem C9{P:List Value->Prop}{n:Nat}(h:∀a (us:List Value),us.length=n->P (a::us)):∀us:List Value,us.length=n+1->P us
 | a::us,e=>h a us (Nat.succ.inj e)
theorem tZ{P:List Value->Prop}(h:∀a0,P [a0]):∀us:List Value,us.length=1->P us:=C9 λa us e=>AA (P:=λus=>P (a::us)) (h a) us e
theorem S0{P:List Value->Prop}(h:∀a0 a1,P [a0,a1]):∀us:List Value,us.length=2->P us:=C9 λa us e=>tZ (P:=λus=>P (a::us)) (h a) us e
theorem T3{P:List Value->Prop}(h:∀a0 a1 a2,P [a0,a1,a2]):∀us:List Value,us.length=3->P us:=C9 λa us e=>S0 (P:=λus=>P (a::us)) (h a) us e
theorem R0{P:List Value->Prop}(h:∀a0 a1 a2 a3,P [a0,a1,a2,a3]):∀us:List Value,us.length=4->P us:=C9 λa us e=>T3 (P:=λus=>P (a::us)) (h a) us e
theorem E4{P:List Value->Prop}(h:∀a0 a1 a2 a3 a4,P [a0,a1,a2,a3,a4]):∀us:List Value,us.length=5->P us:=C9 λa us e=>R0 (P:=λus=>P (a::us)) (h a) us e
theorem V9{P:List Value->Prop}(h:∀a0 a1 a2 a3 a4 a5,P [a0,a1,a2,a3,a4,a5]):∀us:List Value,us.length=6->P us:=C9 λa us e=>E4 (P:=λus=>P (a::us)) (h a) us e
theorem all_mk{l:PySem.W.OpenLaw}{q:Bp}{w:World}{K:PySem.W.Frag}{h:Heap}{mg:Str->Option Value}{fa f1 f2 f3 f4 f5 f6 f7 f8 f9 f10 f11 f12 f13 f14 f15 f16 f17 f18 f19 f20 f21 f22 f23 f24 f25 f26:Addr}{d1 d2 d3 d4 d5 d6 d7 d8 d9 d10 d11 d12 d13 d14 d15 d16 d17 d18 d19 d20 d21 d22 d23 d24 d25:Bx}(X:K.In h)(G:h.Ns Co mg)(hfa:mg "law" = some (.ref fa)){od an:Option Addr}{sl:Array (Option Value)}{oc kV dc pm cd ct:Value}(D1:Def K "_law_draws" cX f1 d1)(D2:Def K "_law_next" aZ f2 d2)(D3:Def K "all_words" Qh f3 d3)(D4:Def K "_law_words" Pl f4 d4)(D5:Def K "within" Zj f5 d5)(D6:Def K "showing" Vq f6 d6)(D7:Def K "_law_lies" Rb f7 d7)(D8:Def K "_law_folded" Nv f8 d8)(D9:Def K "_law_holes" Pn f9 d9)(D10:Def K "_law_values" Nt f10 d10)(D11:Def K "_law_reading" Mi f11 d11)(D12:Def K "best_turns" Pm f12 d12)(D13:Def K "sure_turns" Ow f13 d13)(D14:Def K "is_whole" Sv f14 d14)(D15:Def K "are_numbers" Nu f15 d15)(D16:Def K "shows_least" Nw f16 d16)(D17:Def K "shows_most_often" Jq f17 d17)(D18:Def K "often" cK f18 d18)(D19:Def K "cut_by" Zb f19 d19)(D20:Def K "written" Vr f20 d20)(D21:Def K "_law_beyond" Kx f21 d21)(D22:Def K "_law_barred" Nx f22 d22)(D23:Def K "_law_no_oftener" Kg f23 d23)(D24:Def K "_law_papers_right" Jb f24 d24)(D25:Def K "_law_written_whole" Hw f25 d25)(aL:PySem.W.nsIn K Co "law" = some (some (.ref f26)))(lL:K.lookup f26=some ⟨oc,od,.func (PySem.W.fnOf "law" "law" (Na cW) (Hd cW) (Br cW) .none kV dc pm an cd ct),sl⟩)(cL:PySem.W.codeIn K cd "law" = true)(kL:PySem.W.keepIn K (.ref f26)=true)(z1:PySem.W.nsIn K Co "range" = some none)(z2:PySem.W.nsIn K Co "sorted" = some none)(z3:PySem.W.nsIn K Co "all" = some none)(z4:PySem.W.nsIn K Co "enumerate" = some none)(z5:PySem.W.nsIn K Co "max" = some none)(z6:PySem.W.nsIn K Co "int" = some none)(z7:PySem.W.nsIn K Co "len" = some none)(z8:PySem.W.nsIn K Co "sum" = some none)(z9:PySem.W.nsIn K Co "min" = some none)(z10:PySem.W.nsIn K Co "bool" = some none)(z11:PySem.W.nsIn K Co "isinstance" = some none)(z12:PySem.W.nsIn K Co "list" = some none){e18 p18:Addr}{r18:DefRec}{o18:Value}{u18:Option Addr}{x18:Array Value}{w18:Array (Option Value)}(tc18:d18.code=.ref e18)(tk18:K.lookup e18=some ⟨o18,u18,.fields x18,w18⟩)(tv18:x18[11]? = some (.ref p18))(td18:(PyProof.Rows.recsOf q).find? (λe=>e.name == ("often" : Str))=some r18)(tl18:K.lookup p18=none){e19 p19:Addr}{r19:DefRec}{o19:Value}{u19:Option Addr}{x19:Array Value}{w19:Array (Option Value)}(tc19:d19.code=.ref e19)(tk19:K.lookup e19=some ⟨o19,u19,.fields x19,w19⟩)(tv19:x19[11]? = some (.ref p19))(td19:(PyProof.Rows.recsOf q).find? (λe=>e.name == ("cut_by" : Str))=some r19)(tl19:K.lookup p19=none)(tne:(p18 == p19)=false):cE q K/\∃fd:Bx,(∀(s:Al) (v:Value),BindsTo s fd ⟨[v],[]⟩ [("_law_script",v)])/\∀base:Heap,K.In base->base.Ns Co mg->FnOk l.prog w K mg base Gc 7 fa fd ["_law_script"] (DL.spLawD K):=by
 have e:=hfa.symm.trans (PySem.W.mg_of X G aL)
 cases e
 have FL:=pT (st:=cW) lL cL kL
 have b1:=D1.fn.binds (ps:=["_law_cell"]) λ_ _ _ _ _ _=>tZ (λ_=>rfl)
 have b2:=D2.fn.binds (ps:=["_law_draws_here"]) λ_ _ _ _ _ _=>tZ (λ_=>rfl)
 have b3:=D3.fn.binds (ps:=["holes"]) λ_ _ _ _ _ _=>tZ (λ_=>rfl)
 have b4:=D4.fn.binds (ps:=["_law_holes_here"]) λ_ _ _ _ _ _=>tZ (λ_=>rfl)
 have b5:=D5.fn.binds (ps:=["one", "other"]) λ_ _ _ _ _ _=>S0 (λ_ _=>rfl)
 have b6:=D6.fn.binds (ps:=["words", "reading", "word", "value"]) λ_ _ _ _ _ _=>R0 (λ_ _ _ _=>rfl)
 have b7:=D7.fn.binds (ps:=["_law_one", "_law_other"]) λ_ _ _ _ _ _=>S0 (λ_ _=>rfl)
 have b8:=D8.fn.binds (ps:=["_law_word"]) λ_ _ _ _ _ _=>tZ (λ_=>rfl)
 have b9:=D9.fn.binds (ps:=["_law_draws_here"]) λ_ _ _ _ _ _=>tZ (λ_=>rfl)
 have b10:=D10.fn.binds (ps:=["_law_draws_here"]) λ_ _ _ _ _ _=>tZ (λ_=>rfl)
 have b11:=D11.fn.binds (ps:=["_law_draws_here", "_law_words_here", "_law_values_here"]) λ_ _ _ _ _ _=>T3 (λ_ _ _=>rfl)
 have b12:=D12.fn.binds (ps:=["words", "reading", "numbers", "word", "value"]) λ_ _ _ _ _ _=>E4 (λ_ _ _ _ _=>rfl)
 have b13:=D13.fn.binds (ps:=["words", "reading", "values", "numbers", "at"]) λ_ _ _ _ _ _=>E4 (λ_ _ _ _ _=>rfl)
 have b14:=D14.fn.binds (ps:=["thing"]) λ_ _ _ _ _ _=>tZ (λ_=>rfl)
 have b15:=D15.fn.binds (ps:=["thing", "many"]) λ_ _ _ _ _ _=>S0 (λ_ _=>rfl)
 have b16:=D16.fn.binds (ps:=["holes", "reading", "values", "thing"]) λ_ _ _ _ _ _=>R0 (λ_ _ _ _=>rfl)
 have b17:=D17.fn.binds (ps:=["holes", "reading", "values", "thing"]) λ_ _ _ _ _ _=>R0 (λ_ _ _ _=>rfl)
 have b18:=D18.fn.binds (ps:=["holes", "reading", "values"]) λ_ _ _ _ _ _=>T3 (λ_ _ _=>rfl)
 have b19:=D19.fn.binds (ps:=["words", "reading", "numbers", "at", "value"]) λ_ _ _ _ _ _=>E4 (λ_ _ _ _ _=>rfl)
 have b20:=D20.fn.binds (ps:=["holes", "reading", "numbers", "word", "row"]) λ_ _ _ _ _ _=>E4 (λ_ _ _ _ _=>rfl)
 have b21:=D21.fn.binds (ps:=["_law_words_here"]) λ_ _ _ _ _ _=>tZ (λ_=>rfl)
 have b22:=D22.fn.binds (ps:=["_law_over", "_law_face", "_law_values_here", "_law_due", "_law_at"]) λ_ _ _ _ _ _=>E4 (λ_ _ _ _ _=>rfl)
 have b23:=D23.fn.binds (ps:=["_law_draws_here", "_law_over", "_law_face", "_law_values_here", "_law_due", "_law_at"]) λ_ _ _ _ _ _=>V9 (λ_ _ _ _ _ _=>rfl)
 have b24:=D24.fn.binds (ps:=["_law_draws_here", "_law_holes_here", "_law_words_here", "_law_face", "_law_values_here", "_law_due"]) λ_ _ _ _ _ _=>V9 (λ_ _ _ _ _ _=>rfl)
 have b25:=D25.fn.binds (ps:=["_law_draws_here", "_law_holes_here", "_law_words_here", "_law_face", "_law_values_here", "_law_due"]) λ_ _ _ _ _ _=>V9 (λ_ _ _ _ _ _=>rfl)
 have m1:=PySem.W.mg_of X G D1.nm
 have m2:=PySem.W.mg_of X G D2.nm
 have m3:=PySem.W.mg_of X G D3.nm
 have m4:=PySem.W.mg_of X G D4.nm
 have m5:=PySem.W.mg_of X G D5.nm
 have m6:=PySem.W.mg_of X G D6.nm
 have m7:=PySem.W.mg_of X G D7.nm
 have m8:=PySem.W.mg_of X G D8.nm
 have m9:=PySem.W.mg_of X G D9.nm
 have m10:=PySem.W.mg_of X G D10.nm
 have m11:=PySem.W.mg_of X G D11.nm
 have m12:=PySem.W.mg_of X G D12.nm
 have m13:=PySem.W.mg_of X G D13.nm
 have m14:=PySem.W.mg_of X G D14.nm
 have m15:=PySem.W.mg_of X G D15.nm
 have m16:=PySem.W.mg_of X G D16.nm
 have m17:=PySem.W.mg_of X G D17.nm
 have m18:=PySem.W.mg_of X G D18.nm
 have m19:=PySem.W.mg_of X G D19.nm
 have m20:=PySem.W.mg_of X G D20.nm
 have m21:=PySem.W.mg_of X G D21.nm
 have m22:=PySem.W.mg_of X G D22.nm
 have m23:=PySem.W.mg_of X G D23.nm
 have m24:=PySem.W.mg_of X G D24.nm
 have m25:=PySem.W.mg_of X G D25.nm
 have y1:=PySem.W.mg_none_of X G z1
 have y2:=PySem.W.mg_none_of X G z2
 have y3:=PySem.W.mg_none_of X G z3
 have y4:=PySem.W.mg_none_of X G z4
 have y5:=PySem.W.mg_none_of X G z5
 have y6:=PySem.W.mg_none_of X G z6
 have y7:=PySem.W.mg_none_of X G z7
 have y8:=PySem.W.mg_none_of X G z8
 have y9:=PySem.W.mg_none_of X G z9
 have y10:=PySem.W.mg_none_of X G z10
 have y11:=PySem.W.mg_none_of X G z11
 have y12:=PySem.W.mg_none_of X G z12
 have t18:=DL.tab_mk D18.nm D18.fn tc18 tk18 tv18
 have t19:=DL.tab_mk D19.nm D19.fn tc19 tk19 tv19
 refine ⟨nZ t18 td18 tl18 t19 td19 tl19 tne,PySem.W.fnOf "law" "law" (Na cW) (Hd cW) (Br cW) .none kV dc pm an cd ct,λs v=>.of_eq rfl,λbase _ _=>?_⟩
 have g1:=nJ (P:=l.prog) (w:=w) (mg:=mg) (base:=base) D1.fn
 have g2:=qK (P:=l.prog) (w:=w) (mg:=mg) (base:=base) D2.fn
 have g3:=dS (P:=l.prog) (w:=w) (mg:=mg) (base:=base) D3.fn y1 y2
 have g4:=aE (P:=l.prog) (w:=w) (mg:=mg) (base:=base) D4.fn y1 y2
 have g5:=mZ (P:=l.prog) (w:=w) (mg:=mg) (base:=base) D5.fn y3
 have g6:=hU (P:=l.prog) (w:=w) (mg:=mg) (base:=base) D6.fn g5 b5 D5.fn.kp m5 y4
 have g7:=cZ (P:=l.prog) (w:=w) (mg:=mg) (base:=base) D7.fn
 have g8:=Yc (P:=l.prog) (w:=w) (mg:=mg) (base:=base) D8.fn
 have g9:=aA (P:=l.prog) (w:=w) (mg:=mg) (base:=base) D9.fn g2 b2 D2.fn.kp m2 y5
 have g10:=Yh (P:=l.prog) (w:=w) (mg:=mg) (base:=base) D10.fn g2 b2 D2.fn.kp m2 y6
 have g11:=Ws (P:=l.prog) (w:=w) (mg:=mg) (base:=base) D11.fn (oS (P:=l.prog) (w:=w) (mg:=mg) (base:=base) D2.fn) b2 D2.fn.kp m2 g8 b8 D8.fn.kp m8 y7 y8 y6
 have g12:=aJ (P:=l.prog) (w:=w) (mg:=mg) (base:=base) D12.fn g6 b6 D6.fn.kp m6 y5
 have g13:=aI (P:=l.prog) (w:=w) (mg:=mg) (base:=base) D13.fn g12 b12 D12.fn.kp m12 y1 y9
 have g14:=gA (P:=l.prog) (w:=w) (mg:=mg) (base:=base) D14.fn y10 y11 y6
 have g15:=Xy (P:=l.prog) (w:=w) (mg:=mg) (base:=base) D15.fn g14 b14 D14.fn.kp m14 y7 y12 y11 y3
 have g16:=Xs (P:=l.prog) (w:=w) (mg:=mg) (base:=base) D16.fn g3 b3 D3.fn.kp m3 g13 b13 D13.fn.kp m13 g15 b15 D15.fn.kp m15 y7 y1 y3
 have g17:=Sh (P:=l.prog) (w:=w) (mg:=mg) (base:=base) D17.fn g3 b3 D3.fn.kp m3 g13 b13 D13.fn.kp m13 g15 b15 D15.fn.kp m15 y7 y1 y3
 have g18:=qL (P:=l.prog) (w:=w) (mg:=mg) (base:=base) D18.fn g3 b3 D3.fn.kp m3 g13 b13 D13.fn.kp m13 y7 y2 y1 t18 (DL.code_tab D18.nm D18.fn t18)
 have g19:=nC (P:=l.prog) (w:=w) (mg:=mg) (base:=base) D19.fn g6 b6 D6.fn.kp m6 y5 y7 t19 (DL.code_tab D19.nm D19.fn t19)
 have g20:=hV (P:=l.prog) (w:=w) (mg:=mg) (base:=base) D20.fn g3 b3 D3.fn.kp m3 g19 b19 D19.fn.kp m19
 have g21:=Zf (P:=l.prog) (w:=w) (mg:=mg) (base:=base) D21.fn g7 b7 D7.fn.kp m7 y4
 have g22:=Zl (P:=l.prog) (w:=w) (mg:=mg) (base:=base) D22.fn y1
 have g23:=Th (P:=l.prog) (w:=w) (mg:=mg) (base:=base) D23.fn g2 b2 D2.fn.kp m2 g22 b22 D22.fn.kp m22 y1 y7
 have g24:=Qu (P:=l.prog) (w:=w) (mg:=mg) (base:=base) D24.fn g16 b16 D16.fn.kp m16 g17 b17 D17.fn.kp m17 g2 b2 D2.fn.kp m2 y12 y1 y7 y9 y5 y4
 have g25:=Qa (P:=l.prog) (w:=w) (mg:=mg) (base:=base) D25.fn g20 b20 D20.fn.kp m20 g2 b2 D2.fn.kp m2 y7 y6 y9 y1 y12
 exact x5 FL g18 b18 D18.fn.kp m18 g1 b1 D1.fn.kp m1 g2 b2 D2.fn.kp m2 g4 b4 D4.fn.kp m4 g9 b9 D9.fn.kp m9 g11 b11 D11.fn.kp m11 g10 b10 D10.fn.kp m10 g21 b21 D21.fn.kp m21 g24 b24 D24.fn.kp m24 g25 b25 D25.fn.kp m25 g23 b23 D23.fn.kp m23 y12 y4 y1 y7
theorem walk{l:PySem.W.OpenLaw}{q:Bp}{loose:List Str}{XP:(Str->Option Value)->Heap->Prop}{YP:World->Heap->Prop}{d:DefRec}{K:Params->PySem.W.Frag}(hn:l.most=some 63)(hdf:d.params.defaults=[])(hY:∀(w:World) (h:Heap),YP w h->(K w.params).In h)(F:∀(w:World) (mg:Str->Option Value) (fa:Addr) (h:Heap),(K w.params).In h->h.Ns Co mg->mg d.name=some (.ref fa)->cE q (K w.params)/\∃fd:Bx,(∀(s:Al) (u:Value),BindsTo s fd ⟨[u],[]⟩ [("_law_script",u)])/\∀base:Heap,(K w.params).In base->base.Ns Co mg->FnOk l.prog w (K w.params) mg base Gc 7 fa fd ["_law_script"] (DL.spLawD (K w.params))):PySem.W.WalkO q loose XP YP l.row.toRowW d [] (λf vs=>PySem.call f vs) :=
 L2.walk_ofD (n:=63) (k:=7) (x := "_law_script") (CX:=λ_=>Gc) (sp:=λw=>DL.spLawD (K w.params)) hn (by decide) hdf ⟨rfl,by decide,by decide,rfl⟩ hY F (λ_ _ a ns hl _ hS=>⟨a,ns,rfl,hS,hl,λ_=>rfl⟩) λ_ _ _ _ _ z=>z
end K37
theorem AB:PySem.Challenge.rw_needledeck_k37_whole_just_so_often.wellSaid=true:=by kernel_rfl
open PySem PySem.W PyProof.Rows
local macro_rules | `(tactic| refine $h:ident (q := $q) (loose := $l) (Xt := $a) (XP := $b) (Yf := $c) (Ya := $d) (YP := $e) (N := $n) ?hl $y*) => `(tactic| refine $h:ident (q := $q) (loose := $l) (Xt := $a) (XP := $b) (Yf := $c) (Ya := $d) (YP := $e) (N := $n) (fun _ => by kernel_rfl) $y*)
set_option maxRecDepth 100000 in
set_option maxHeartbeats 0 in
theorem PySem.Challenge.cw_needledeck_k37_whole_just_so_often_holds : PySem.Challenge.rw_needledeck_k37_whole_just_so_often.Holds := by
 w_on; refine holds_law AB λsaid=>?_; k_head; (case hw=>w_witness2)
 k_fill
 refine K37.walk (l:=PySem.Challenge.rw_needledeck_k37_whole_just_so_often) rfl rfl (λw h Y=>PySem.W.km_in_of Y) ?F
 case F =>
  intro w mg fa h KX G hmg
  refine' K37.all_mk KX G hmg (K37.def_mk ?a1 ?l1 ?c1 ?k1) (K37.def_mk ?a2 ?l2 ?c2 ?k2) (K37.def_mk ?a3 ?l3 ?c3 ?k3) (K37.def_mk ?a4 ?l4 ?c4 ?k4) (K37.def_mk ?a5 ?l5 ?c5 ?k5) (K37.def_mk ?a6 ?l6 ?c6 ?k6) (K37.def_mk ?a7 ?l7 ?c7 ?k7) (K37.def_mk ?a8 ?l8 ?c8 ?k8) (K37.def_mk ?a9 ?l9 ?c9 ?k9) (K37.def_mk ?a10 ?l10 ?c10 ?k10) (K37.def_mk ?a11 ?l11 ?c11 ?k11) (K37.def_mk ?a12 ?l12 ?c12 ?k12) (K37.def_mk ?a13 ?l13 ?c13 ?k13) (K37.def_mk ?a14 ?l14 ?c14 ?k14) (K37.def_mk ?a15 ?l15 ?c15 ?k15) (K37.def_mk ?a16 ?l16 ?c16 ?k16) (K37.def_mk ?a17 ?l17 ?c17 ?k17) (K37.def_mk ?a18 ?l18 ?c18 ?k18) (K37.def_mk ?a19 ?l19 ?c19 ?k19) (K37.def_mk ?a20 ?l20 ?c20 ?k20) (K37.def_mk ?a21 ?l21 ?c21 ?k21) (K37.def_mk ?a22 ?l22 ?c22 ?k22) (K37.def_mk ?a23 ?l23 ?c23 ?k23) (K37.def_mk ?a24 ?l24 ?c24 ?k24) (K37.def_mk ?a25 ?l25 ?c25 ?k25) ?aL ?lL ?cL ?kL ?z1 ?z2 ?z3 ?z4 ?z5 ?z6 ?z7 ?z8 ?z9 ?z10 ?z11 ?z12 ?tc18 ?tk18 ?tv18 ?td18 ?tl18 ?tc19 ?tk19 ?tv19 ?td19 ?tl19 ?tne
  (case a1=>k_is); (case l1=>k_is); (case c1=>k_is); (case k1=>k_is)
  (case a2=>k_is); (case l2=>k_is); (case c2=>k_is); (case k2=>k_is)
  (case a3=>k_is); (case l3=>k_is); (case c3=>k_is); (case k3=>k_is)
  (case a4=>k_is); (case l4=>k_is); (case c4=>k_is); (case k4=>k_is)
  (case a5=>k_is); (case l5=>k_is); (case c5=>k_is); (case k5=>k_is)
  (case a6=>k_is); (case l6=>k_is); (case c6=>k_is); (case k6=>k_is)
  (case a7=>k_is); (case l7=>k_is); (case c7=>k_is); (case k7=>k_is)
  (case a8=>k_is); (case l8=>k_is); (case c8=>k_is); (case k8=>k_is)
  (case a9=>k_is); (case l9=>k_is); (case c9=>k_is); (case k9=>k_is)
  (case a10=>k_is); (case l10=>k_is); (case c10=>k_is); (case k10=>k_is)
  (case a11=>k_is); (case l11=>k_is); (case c11=>k_is); (case k11=>k_is)
  (case a12=>k_is); (case l12=>k_is); (case c12=>k_is); (case k12=>k_is)
  (case a13=>k_is); (case l13=>k_is); (case c13=>k_is); (case k13=>k_is)
  (case a14=>k_is); (case l14=>k_is); (case c14=>k_is); (case k14=>k_is)
  (case a15=>k_is); (case l15=>k_is); (case c15=>k_is); (case k15=>k_is)
  (case a16=>k_is); (case l16=>k_is); (case c16=>k_is); (case k16=>k_is)
  (case a17=>k_is); (case l17=>k_is); (case c17=>k_is); (case k17=>k_is)
  (case a18=>k_is); (case l18=>k_is); (case c18=>k_is); (case k18=>k_is)
  (case a19=>k_is); (case l19=>k_is); (case c19=>k_is); (case k19=>k_is)
  (case a20=>k_is); (case l20=>k_is); (case c20=>k_is); (case k20=>k_is)
  (case a21=>k_is); (case l21=>k_is); (case c21=>k_is); (case k21=>k_is)
  (case a22=>k_is); (case l22=>k_is); (case c22=>k_is); (case k22=>k_is)
  (case a23=>k_is); (case l23=>k_is); (case c23=>k_is); (case k23=>k_is)
  (case a24=>k_is); (case l24=>k_is); (case c24=>k_is); (case k24=>k_is)
  (case a25=>k_is); (case l25=>k_is); (case c25=>k_is); (case k25=>k_is)
  (case aL=>k_is); (case lL=>k_is); (case cL=>k_is); (case kL=>k_is)
  (case z1=>k_is); (case z2=>k_is); (case z3=>k_is); (case z4=>k_is); (case z5=>k_is); (case z6=>k_is); (case z7=>k_is); (case z8=>k_is); (case z9=>k_is); (case z10=>k_is); (case z11=>k_is); (case z12=>k_is)
  (case tc18=>first | rfl | kernel_rfl)
  (case tk18=>k_is)
  (case tv18=>first | rfl | kernel_rfl)
  (case td18=>first | rfl | kernel_rfl)
  (case tl18=>first | rfl | kernel_rfl)
  (case tc19=>first | rfl | kernel_rfl)
  (case tk19=>k_is)
  (case tv19=>first | rfl | kernel_rfl)
  (case td19=>first | rfl | kernel_rfl)
  (case tl19=>first | rfl | kernel_rfl)
  (case tne=>first | rfl | kernel_rfl)