import PyProof.Rows.All
import KE.KLam
import Wide.All
import OpenK.AllK
import Wide.FinOn
import Lean
import PyProof.EqAt
import PyProof.EqKinds
import PyProof.TupleCall
import PyProof.FactsAll.set
import PyProof.FactsAll.subtypes
import KE.KTupSum
import KE.KMinBuiltin
import PyProof.Draws
import PyProof.DictWalks
import PyProof.DictCompW
import PyProof.IsiH_tuple
import PyProof.FactsAll.zip
import KE.KDictOf
import PyProof.DictValues
import KE.KSortKey
import PyProof.WalkInts
import PySem.Challenge.RW_needledeck_k16_two_words_in_a_chain
set_option Elab.async false
set_option linter.all false
set_option maxRecDepth 100000
set_option maxHeartbeats 4000000
set_option genSizeOf false
local macro_rules|`(tactic|omega)=>`(tactic|first|lia|omega +splitDisjunctions)
theorem e0a2{A B:Prop}{G:Prop}(k:A→B→G)(h:A∧B):G:=k h.1 h.2
theorem e0a3{A B C:Prop}{G:Prop}(k:A→B→C→G)(h:A∧B∧C):G:=k h.1 h.2.1 h.2.2
theorem e0a4{A B C D:Prop}{G:Prop}(k:A→B→C→D→G)(h:A∧B∧C∧D):G:=k h.1 h.2.1 h.2.2.1 h.2.2.2
theorem e0a5{A B C D E:Prop}{G:Prop}(k:A→B→C→D→E→G)(h:A∧B∧C∧D∧E):G:=k h.1 h.2.1 h.2.2.1 h.2.2.2.1 h.2.2.2.2
theorem e0a6{A B C D E F:Prop}{G:Prop}(k:A→B→C→D→E→F→G)(h:A∧B∧C∧D∧E∧F):G:=k h.1 h.2.1 h.2.2.1 h.2.2.2.1 h.2.2.2.2.1 h.2.2.2.2.2
theorem e1a1{t0:Type}{A:t0→Prop}{G:Prop}(k:∀x,A x→G)(h:∃x,A x):G:=h.elim λx h=>k x h
theorem e1a2{t0:Type}{A B:t0→Prop}{G:Prop}(k:∀x,A x→B x→G)(h:∃x,A x∧B x):G:=h.elim λx h=>k x h.1 h.2
theorem e1a3{t0:Type}{A B C:t0→Prop}{G:Prop}(k:∀x,A x→B x→C x→G)(h:∃x,A x∧B x∧C x):G:=h.elim λx h=>k x h.1 h.2.1 h.2.2
theorem e1a4{t0:Type}{A B C D:t0→Prop}{G:Prop}(k:∀x,A x→B x→C x→D x→G)(h:∃x,A x∧B x∧C x∧D x):G:=h.elim λx h=>k x h.1 h.2.1 h.2.2.1 h.2.2.2
theorem e2a1{t0 t1:Type}{A:t0→t1→Prop}{G:Prop}(k:∀x y,A x y→G)(h:∃x y,A x y):G:=h.elim λx h=>h.elim λy h=>k x y h
theorem e2a2{t0 t1:Type}{A B:t0→t1→Prop}{G:Prop}(k:∀x y,A x y→B x y→G)(h:∃x y,A x y∧B x y):G:=h.elim λx h=>h.elim λy h=>k x y h.1 h.2
theorem e2a3{t0 t1:Type}{A B C:t0→t1→Prop}{G:Prop}(k:∀x y,A x y→B x y→C x y→G)(h:∃x y,A x y∧B x y∧C x y):G:=h.elim λx h=>h.elim λy h=>k x y h.1 h.2.1 h.2.2
theorem e2a4{t0 t1:Type}{A B C D:t0→t1→Prop}{G:Prop}(k:∀x y,A x y→B x y→C x y→D x y→G)(h:∃x y,A x y∧B x y∧C x y∧D x y):G:=h.elim λx h=>h.elim λy h=>k x y h.1 h.2.1 h.2.2.1 h.2.2.2
theorem e3a1{t0 t1 t2:Type}{A:t0→t1→t2→Prop}{G:Prop}(k:∀x y z,A x y z→G)(h:∃x y z,A x y z):G:=h.elim λx h=>h.elim λy h=>h.elim λz h=>k x y z h
theorem e3a3{t0 t1 t2:Type}{A B C:t0→t1→t2→Prop}{G:Prop}(k:∀x y z,A x y z→B x y z→C x y z→G)(h:∃x y z,A x y z∧B x y z∧C x y z):G:=h.elim λx h=>h.elim λy h=>h.elim λz h=>k x y z h.1 h.2.1 h.2.2
theorem e3a4{t0 t1 t2:Type}{A B C D:t0→t1→t2→Prop}{G:Prop}(k:∀x y z,A x y z→B x y z→C x y z→D x y z→G)(h:∃x y z,A x y z∧B x y z∧C x y z∧D x y z):G:=h.elim λx h=>h.elim λy h=>h.elim λz h=>k x y z h.1 h.2.1 h.2.2.1 h.2.2.2
theorem e3a5{t0 t1 t2:Type}{A B C D E:t0→t1→t2→Prop}{G:Prop}(k:∀x y z,A x y z→B x y z→C x y z→D x y z→E x y z→G)(h:∃x y z,A x y z∧B x y z∧C x y z∧D x y z∧E x y z):G:=h.elim λx h=>h.elim λy h=>h.elim λz h=>k x y z h.1 h.2.1 h.2.2.1 h.2.2.2.1 h.2.2.2.2
theorem e4a1{t0 t1 t2 t3:Type}{A:t0→t1→t2→t3→Prop}{G:Prop}(k:∀x y z w,A x y z w→G)(h:∃x y z w,A x y z w):G:=h.elim λx h=>h.elim λy h=>h.elim λz h=>h.elim λw h=>k x y z w h
theorem e4a2{t0 t1 t2 t3:Type}{A B:t0→t1→t2→t3→Prop}{G:Prop}(k:∀x y z w,A x y z w→B x y z w→G)(h:∃x y z w,A x y z w∧B x y z w):G:=h.elim λx h=>h.elim λy h=>h.elim λz h=>h.elim λw h=>k x y z w h.1 h.2
theorem e5a2{t0 t1 t2 t3 t4:Type}{A B:t0→t1→t2→t3→t4→Prop}{G:Prop}(k:∀x y z w u,A x y z w u→B x y z w u→G)(h:∃x y z w u,A x y z w u∧B x y z w u):G:=h.elim λx h=>h.elim λy h=>h.elim λz h=>h.elim λw h=>h.elim λu h=>k x y z w u h.1 h.2
theorem e4a5{t0 t1 t2 t3:Type}{A B C D E:t0→t1→t2→t3→Prop}{G:Prop}(k:∀x y z w,A x y z w→B x y z w→C x y z w→D x y z w→E x y z w→G)(h:∃x y z w,A x y z w∧B x y z w∧C x y z w∧D x y z w∧E x y z w):G:=h.elim λx h=>h.elim λy h=>h.elim λz h=>h.elim λw h=>k x y z w h.1 h.2.1 h.2.2.1 h.2.2.2.1 h.2.2.2.2
theorem e5a5{t0 t1 t2 t3 t4:Type}{A B C D E:t0→t1→t2→t3→t4→Prop}{G:Prop}(k:∀x y z w u,A x y z w u→B x y z w u→C x y z w u→D x y z w u→E x y z w u→G)(h:∃x y z w u,A x y z w u∧B x y z w u∧C x y z w u∧D x y z w u∧E x y z w u):G:=h.elim λx h=>h.elim λy h=>h.elim λz h=>h.elim λw h=>h.elim λu h=>k x y z w u h.1 h.2.1 h.2.2.1 h.2.2.2.1 h.2.2.2.2
theorem e6a5{t0 t1 t2 t3 t4 t5:Type}{A B C D E:t0→t1→t2→t3→t4→t5→Prop}{G:Prop}(k:∀x y z w u v,A x y z w u v→B x y z w u v→C x y z w u v→D x y z w u v→E x y z w u v→G)(h:∃x y z w u v,A x y z w u v∧B x y z w u v∧C x y z w u v∧D x y z w u v∧E x y z w u v):G:=h.elim λx h=>h.elim λy h=>h.elim λz h=>h.elim λw h=>h.elim λu h=>h.elim λv h=>k x y z w u v h.1 h.2.1 h.2.2.1 h.2.2.2.1 h.2.2.2.2
theorem e4a7{t0 t1 t2 t3:Type}{A B C D E F H:t0→t1→t2→t3→Prop}{G:Prop}(k:∀x y z w,A x y z w→B x y z w→C x y z w→D x y z w→E x y z w→F x y z w→H x y z w→G)(h:∃x y z w,A x y z w∧B x y z w∧C x y z w∧D x y z w∧E x y z w∧F x y z w∧H x y z w):G:=h.elim λx h=>h.elim λy h=>h.elim λz h=>h.elim λw h=>k x y z w h.1 h.2.1 h.2.2.1 h.2.2.2.1 h.2.2.2.2.1 h.2.2.2.2.2.1 h.2.2.2.2.2.2
theorem e5a7{t0 t1 t2 t3 t4:Type}{A B C D E F H:t0→t1→t2→t3→t4→Prop}{G:Prop}(k:∀x y z w u,A x y z w u→B x y z w u→C x y z w u→D x y z w u→E x y z w u→F x y z w u→H x y z w u→G)(h:∃x y z w u,A x y z w u∧B x y z w u∧C x y z w u∧D x y z w u∧E x y z w u∧F x y z w u∧H x y z w u):G:=h.elim λx h=>h.elim λy h=>h.elim λz h=>h.elim λw h=>h.elim λu h=>k x y z w u h.1 h.2.1 h.2.2.1 h.2.2.2.1 h.2.2.2.2.1 h.2.2.2.2.2.1 h.2.2.2.2.2.2
theorem e6a7{t0 t1 t2 t3 t4 t5:Type}{A B C D E F H:t0→t1→t2→t3→t4→t5→Prop}{G:Prop}(k:∀x y z w u v,A x y z w u v→B x y z w u v→C x y z w u v→D x y z w u v→E x y z w u v→F x y z w u v→H x y z w u v→G)(h:∃x y z w u v,A x y z w u v∧B x y z w u v∧C x y z w u v∧D x y z w u v∧E x y z w u v∧F x y z w u v∧H x y z w u v):G:=h.elim λx h=>h.elim λy h=>h.elim λz h=>h.elim λw h=>h.elim λu h=>h.elim λv h=>k x y z w u v h.1 h.2.1 h.2.2.1 h.2.2.2.1 h.2.2.2.2.1 h.2.2.2.2.2.1 h.2.2.2.2.2.2
local macro_rules|`(tactic|obtain $p:rcasesPatMed:=$v:term)=>do
 let c s:=((p.raw.reprint.getD "").splitOn s).length
 if c ","<3||c "|">1||c ":">1 then Lean.Macro.throwUnsupported
 let T (a:Lean.Syntax):Lean.TSyntax `Lean.Parser.Tactic.rcasesPatMed:=⟨a⟩
 let q:=p.raw
 let x:=q[0][0]
 let l:=x[1].getSepArgs
 let mut a:Array (Lean.TSyntax ``Lean.Parser.Tactic.tacticSeq):=#[]
 let mut y:Array Lean.Term:=#[]
 let mut z:Array (Array (Lean.TSyntax `tactic)):=#[]
 for o in l do
  let u:=o[0][0][0]
  let f:=Lean.mkIdent (←Lean.Macro.addMacroScope (.mkSimple s!"f{y.size}"))
  if u[0].getId==`rfl then
   y:=y.push f
   z:=z.push #[←`(tactic|subst $f:term)]
  else if u[0].isIdent then
   y:=y.push ⟨u[0]⟩
   z:=z.push #[]
  else if u[1].isMissing then
   y:=y.push (←`(_))
   z:=z.push #[]
  else
   y:=y.push f
   z:=z.push #[←`(tactic|obtain $(T o[0]):rcasesPatMed:=$f)]
 for j in [0:l.size] do
  if j==1 then continue
  let n:=l.size-j
  let mut i:=y.extract 0 n
  let mut w:=(z.extract 0 n).flatten
  if j>0 then
   i:=i.push (←`(r_))
   w:=w.push (←`(tactic|obtain $(T (q.setArg 0 (q[0].setArg 0 (x.setArg 1 (Lean.mkNullNode (Lean.mkSepArray (l.extract n l.size) (Lean.mkAtom ","))))))):rcasesPatMed:=r_))
  for k in [0:i.size] do
   let m:=Lean.mkIdent (.mkSimple s!"e{k}a{i.size-k}")
   let g←if v.raw.isIdent then `(tactic|(revert $(⟨v⟩):ident;refine $m fun $i*=>?_)) else `(tactic|refine $m (fun $i*=>?_) $v)
   a:=a.push (←`(Lean.Parser.Tactic.tacticSeq| $g:tactic;$[$w];*))
  if j==0&& !v.raw.isIdent then
   a:=a.push (←`(Lean.Parser.Tactic.tacticSeq| have h_ := $v; obtain $p := h_))
   break
 a:=a.push (←`(Lean.Parser.Tactic.tacticSeq| rcases $v:term with $p))
 `(tactic|first $[| $a]*)
open Array renaming length_toList → Av, toList_append → Dc, getD_eq_getD_getElem? → Dk, getElem?_eq_some_iff → Iw, getElem?_toList → Kr, toList_extract → Lf, perm_iff_toList_perm → Mv, toList_push → Nz, toList_reverse → Rb, size_setIfInBounds → cS
open Bool renaming false_ne_true → Cb, false_eq_true → Cz, and_eq_true → Fl, not_eq_true' → Ij, not_eq_false' → Um
open False renaming elim → Iv
open ForInStep renaming done → Cj, yield → Ef
open Function renaming comp → Qz
open LawfulBEq renaming eq_of_beq → Di
open List renaming mem_cons_self → Aa, mem_singleton → Ac, mem_append_right → Ad, mem_cons_of_mem → Ae, length_map → Af, mem_append_left → Ag, mem_cons → Ak, getElem?_eq_some_iff → Al, size_toArray → Am, mem_append → An, map_cons → Ap, mem_of_getElem? → Ar, pairwise_cons → Ax, length_append → Ay, map_append → Az, getElem?_map → Bg, sublist_append_right → Bj, pairwise_append → Bk, length_cons → Bm, not_mem_nil → Bq, append_assoc → Br, getElem?_eq_getElem → Bs, nodup_cons → Bt, mem_flatMap → Bu, lookup_cons → By, mem_map → Ce, sublist_cons_self → Ck, length_take → Cn, pairwise_singleton → Co, length_singleton → Ct, dropLast_concat_getLast → Cu, nodup_nil → Cw, perm_middle → Dg, nodup_append → Dh, take_length → Dq, getLast?_eq_some_getLast → Du, append_nil → Ea, cons_append → Ec, take_append_drop → Ee, map_map → Eh, take_of_length_le → Eu, range → Ew, getElem?_append_right → Ex, length_nil → Ez, perm_append_comm → Fg, length_dropLast → Fo, length → Fp, dropLast_subset → Fq, getLastD_eq_getLast? → Gk, mem_filter → Gn, mem_iff_getElem → Gp, map_set → Gq, length_range → Gr, getElem?_set → Gs, ext_getElem? → Gu, drop_sublist → Gv, getElem?_take_of_lt → Ha, replicate → Hj, length_drop → Hk, drop_zero → Hl, take_sublist → Ie, take_add_one → Ig, reverse_perm → Ih, getElem?_append_left → Jf, extract_eq_take_drop → Jg, length_pos_iff → Jk, find?_cons → Jq, mem_replicate → Ju, length_zipIdx → Jv, lookup → Jx, length_eq_zero_iff → Jy, map_nil → Kh, flatMap_cons → Ki, dropLast_sublist → Kt, getElem?_set_ne → Lj, map_congr_left → Me, flatMap_append → Mf, getD_eq_getElem?_getD → Nc, filter_append → Nf, mem_of_find?_eq_some → Ny, map_dropLast → Oc, any_cons → On, mem_reverse → Oq, getLast_mem → Os, eraseIdx_cons_succ → Ot, length_pos_of_mem → Pq, any_map → Pr, pairwise_reverse → Qn, getElem?_reverse → Qo, eraseIdx_sublist → Qp, filterMap_cons → Td, getElem?_drop → Uk, pairwise_map → Vf, eraseIdx_eq_take_drop_succ → Vt, sublist_nil → Yc, nil_sublist → Yd, mem_range → cK, pairwise_iff_getElem → cQ, drop_eq_getElem_cons → cR, length_erase_of_mem → gL, append_cancel_right → gM, getElem?_cons_succ → gP, getElem?_set_self → jU, drop_eq_nil_of_le → jV, mem_iff_getElem? → lY, map_eq_nil_iff → oU, filter_eq_self → oV, mem_filterMap → uH, find?_eq_none → uI
open List.Pairwise renaming nil → Fh, sublist → Hg
open List.Perm renaming swap → Dv, refl → Gw, append_left → Ka, cons → Lo
open List.Sublist renaming refl → Ci
open List.cons renaming inj → Fz
open Nat renaming le_refl → Ai, le_trans → Bv, lt_of_lt_of_le → Bz, ne_of_lt → Cy, zero_le → Dl, pow_le_pow_right → Ft, lt_irrefl → Gd, le_succ → Ln, lt_of_le_of_lt → Nh, lt_succ_self → Ou, zero_add → Qi, le_of_lt → Qj, not_lt_zero → Qm, pow_succ → Vr, lt_succ_of_lt → Vs
open Ne renaming symm → Nb
open Option renaming none → Ng, isSome_iff_exists → Nx, isSome_some → Tc
open Option.some renaming inj → Be
open Or renaming inl → El
open Prod.mk renaming injEq → Gm
open PyProof.Rows renaming wpS_bind → Au, pendingOf → Ba, wpS_pure → Bc, SortSt → Bo, seqObj → Ds, wpS_forRange → Eb, slot_tuple_getitem → Ed, wpS_mono → Ge, wpS_modify → Hy, IntsAre → Jd, failedOf → Kb, SortKind → Kd, callWith_type1 → Kq, wpS_get → Lb, AllBare → Pt, reverseSlice' → Qg, get?_update_seq → Ta, sortedAll → Vb, callWith_kw → Ve, listUpdate_at → Xy, firstOfTuple' → Xz, size_push' → Yg, listItems_at → Zz, subscriptTail_builtinR → uK
open PySem renaming PyData → Ab, wpAny_bind → Ah, Shared → Aj, sizeLine → Aq, wpAny_pure → Aw, starEach → Bf, Program → Bx, wpAny_mono → Cf, foldedSetIterable → Cg, mainGlobals → Cm, FuncData → Cr, Around → Cs, cellsFrom → Dt, wpAny_newObj_type → Eg, wpAny_holding → Ek, wpAny_standAt → Fd, behindInMarks → Fe, backTo → Fs, letOwnedTupleGo → Gc, swapsWith → Gj, compareOp → Hb, sizeLine_eq → He, codeAny → Hf, wpAny_comprehension_free → Hm, wpAny_Call_Name_kw → Hz, bootBuiltins → Ia, assignEach → Ib, assign → Ic, wpAny_passesOwn → Iu, attributeBase → Iy, Keyword → Jc, newFunctionEnv → Jp, binaryOp → Kc, keywordEach → Ko, wpAny_truthy_bool → Lc, codeAny_compStart_list → Ld, sysModules → Mc, sliceBounds → Mt, NameKind → Mu, wpAny_typeOf → Oa, standAt → Po, getItem → Pp, strLen_append → Qf, wpAny_call_entry → Qu, tupleKind → Qv, noFill_tuple_add → Qw, compEnvC → Qx, backToKw → Qy, wpAny_rule → Rt, builtinsNs → Ru, wpAny_loadPart' → Sy, wpAny_execs_nil → Sz, exec_Assign_Name_used → Te, IsPart → Uu, holding → Vc, callerA → Vd, wpAny_newList → Xw, seq_tuple_add → Xx, comprehension → Yb, entryOfKey → Yh, call_meets → Yi, concat_meets → aA, codeAny_mono → aB, codeAny_loop → aC, wpAny_callSpecial?_slot → uG, slot_list_getitem → O8
open PySem.Builtin.Builtins renaming bindParams → Ra
open PySem.Builtin.List renaming listTooLong → Mb, listExtendWith → Tj, listFitsIndex → Ul
open PySem.Builtin.Slice renaming slicePlaces → Ht, sliceAdjust → Le, sliceApplied → Ti
open PySem.Builtin.Tuple renaming tupleExact → Ii, tupleItemsOf → Tg, tupleIsExact → Th
open PySem.Calls renaming Name_function_global → aD, call_function_entry → cM
open PySem.F renaming slot_list_insert → Vu
open PySem.Heap renaming get?_push_of_some → Ao, get?_push_size → Bn, lt_size → Bp, size_update → Je, SameBut → Mj, get?_update_self → Qq, get?_update_other → jW
open PySem.Heap.SameBut renaming update → Dw
open PySem.NameKind renaming free → Dn, cell → Do
open PySem.Obj renaming mapSeq → Da
open PySem.PassesOwn renaming never → Er
open PySem.PyData renaming depthAll → Bd, int → Bl, depth → Cq, showable → Hq, hasDict → Jz, shownAll → Li, shown → Ma, list → Ql, showableAll → Tb, hasDictAll → Uj
open PySem.SeqAt renaming EqAt → Ks
open PySem.Str renaming ofString → Km
open PySem.Value renaming ref → Bb, type → Fw, none → Tf
open Sum renaming inl → Qh
open ToString renaming toString → Ut
open True renaming intro → Kx
namespace L2
open PySem PySem.Spec PyProof.Rows
abbrev Jj:=Sum Int Str
def Zq:Jj->Value->Bool
 | .inl k,v=>Value.isInt k v
 | .inr x,v=>Value.isStrOf x v
def T9(w:World):Jj->Int
 | .inl k=>hashInt k
 | .inr x=>hashStr w x
theorem Gi:∀{k:Jj} {v:Value},Zq k v=true->(∃i t,k=Qh i/\v=Value.int i t)\/(∃x t,k=Sum.inr x/\v=Value.str x t)
 | .inl i,v,h=>by
  obtain ⟨t,e⟩:=Value.isInt_shape (k:=i) (v:=v) h
  exact .inl ⟨i,t,rfl,e⟩
 | .inr x,v,h=>by
  obtain ⟨t,e⟩:=Value.isStrOf_shape (x:=x) (v:=v) h
  exact .inr ⟨x,t,rfl,e⟩
theorem mY(i:Int)(t:Tok):Zq (.inl i) (.int i t)=true:=by simp [Zq,Value.isInt]
theorem mG(x:Str)(t:Tok):Zq (.inr x) (.str x t)=true:=by simp [Zq,Value.isStrOf]
theorem w4(a b:Int):decide ((Qh a:Jj)=Qh b)=(a == b):=by
 by_cases e:a=b
 ·subst e; simp
 ·have h:¬ (Qh a:Jj)=Qh b:=λq=>e (Sum.inl.inj q)
  rw[decide_eq_false h]
  exact (beq_eq_false_iff_ne.mpr e).symm
theorem j4(a b:Str):decide ((Sum.inr a:Jj)=Sum.inr b)=decide (a=b):=by
 by_cases e:a=b
 ·subst e; simp
 ·have h:¬ (Sum.inr a:Jj)=Sum.inr b:=λq=>e (Sum.inr.inj q)
  rw[decide_eq_false h,decide_eq_false e]
theorem zE(a:Int)(b:Str):decide ((Qh a:Jj)=Sum.inr b)=false:=decide_eq_false (λq=>nomatch q)
theorem o5(a:Str)(b:Int):decide ((Sum.inr a:Jj)=Qh b)=false:=decide_eq_false (λq=>nomatch q)
def Il(prog:Bx)(w:World):PySem.KeyKind prog w Jj where
 is:=Zq
 hash:=T9 w
 inj:=λv a b ha hb=>by
  rcases Gi ha with ⟨i,t,rfl,rfl⟩ | ⟨x,t,rfl,rfl⟩
  ·rcases Gi hb with ⟨j,u,rfl,e⟩ | ⟨y,u,rfl,e⟩
   ·injection e with e1 _; rw[e1]
   ·exact nomatch e
  ·rcases Gi hb with ⟨j,u,rfl,e⟩ | ⟨y,u,rfl,e⟩
   ·exact nomatch e
   ·injection e with e1 _; rw[e1]
 byValue:=λk v h=>by
  rcases Gi h with ⟨i,t,rfl,rfl⟩ | ⟨x,t,rfl,rfl⟩ <;> rfl
 pyHash:=λhv h=>by
  rcases Gi hv with ⟨i,t,rfl,rfl⟩ | ⟨x,t,rfl,rfl⟩
  ·exact wpAny_pyHash_int h
  ·exact wpAny_pyHash_str h
 eqBool:=λhu hv h=>by
  rcases Gi hu with ⟨i,t,rfl,rfl⟩ | ⟨x,t,rfl,rfl⟩
  ·rcases Gi hv with ⟨j,u,rfl,rfl⟩ | ⟨y,u,rfl,rfl⟩
   ·rw[w4] at h; exact wpAny_eqBool_int h
   ·rw[zE] at h; exact SeqAt.EqAt.int_str i t y u _ _ _ _ h
  ·rcases Gi hv with ⟨j,u,rfl,rfl⟩ | ⟨y,u,rfl,rfl⟩
   ·rw[o5] at h; exact SeqAt.EqAt.str_int x t j u _ _ _ _ h
   ·rw[j4] at h; exact wpAny_eqBool_str h
 «strs»:=λk x t v h=>by
  rcases Gi h with ⟨i,u,rfl,e⟩ | ⟨y,u,rfl,e⟩
  ·exact nomatch e
  ·injection e with e1 _
   subst e1
   cases v <;> rfl
theorem fO(prog:Bx)(w:World)(i:Int)(t:Tok):(Il prog w).is (.inl i) (.int i t)=true:=mY i t
theorem eY(prog:Bx)(w:World)(x:Str)(t:Tok):(Il prog w).is (.inr x) (.str x t)=true:=mG x t
inductive V where
 | non | bl (b:Bool) | int (i:Int) | str (x:Str) | byt (b:Array UInt8) | flt (b:UInt64) | ref (a:Addr) | ty (n:String)
 deriving DecidableEq
def RelV:V->Value->Prop
 | .non,u=>u=Tf
 | .bl b,u=>u=Value.bool b
 | .int i,u=>∃t,u=Value.int i t
 | .str x,u=>∃t,u=Value.str x t
 | .byt b,u=>∃t,u=Value.bytes b t
 | .flt b,u=>∃t,u=Value.float b t
 | .ref a,u=>u=Bb a
 | .ty n,u=>u=Fw n
abbrev Ey:List V->List Value->Prop:=Paired RelV
theorem Ey.length{xs:List V}{us:List Value}(r:Ey xs us):xs.length=us.length:=Paired.length r
theorem Ey.get:∀{xs:List V} {us:List Value} {i:Nat} {x:V},Ey xs us->xs[i]? = some x->∃u,us[i]? = some u/\RelV x u
 | _,_,_,_,.nil,e=>by simp at e
 | _,_,0,_,.cons r _,e=>by simp at e; subst e; exact ⟨_,rfl,r⟩
 | _,_,i+1,x,.cons _ t,e=>by
  obtain ⟨u,h1,h2⟩:=Ey.get (i:=i) (x:=x) t (by simpa using e)
  exact ⟨u,by simpa using h1,h2⟩
theorem Ey.set{x:V}{u:Value}(r:RelV x u):∀{xs:List V} {us:List Value} (i:Nat),Ey xs us->Ey (xs.set i x) (us.set i u)
 | _,_,_,.nil=>.nil
 | _,_,0,.cons _ t=>.cons r t
 | _,_,i+1,.cons q t=>.cons q (Ey.set r i t)
theorem Ey.append:∀{xs ys:List V} {us ws:List Value},Ey xs us->Ey ys ws->Ey (xs++ys) (us++ws)
 | _,_,_,_,.nil,s=>s
 | _,_,_,_,.cons r t,s=>.cons r (Ey.append t s)
theorem Ey.take:∀{xs:List V} {us:List Value} (n:Nat),Ey xs us->Ey (xs.take n) (us.take n)
 | _,_,0,_=>.nil
 | _,_,_+1,.nil=>.nil
 | _,_,n+1,.cons r t=>.cons r (Ey.take n t)
theorem Ey.drop:∀{xs:List V} {us:List Value} (n:Nat),Ey xs us->Ey (xs.drop n) (us.drop n)
 | _,_,0,r=>r
 | _,_,_+1,.nil=>.nil
 | _,_,n+1,.cons _ t=>Ey.drop n t
def iV:Option V->Option Value->Prop
 | some v,some u=>RelV v u
 | none,none=>True
 | _,_=>False
def KV{κ:Type}:List (κ×V)->List (κ×Value)->Prop:=Paired λ(p:κ×V) (q:κ×Value)=>p.1=q.1/\RelV p.2 q.2
def kV:Jj->V
 | .inl i=>.int i
 | .inr x=>.str x
inductive HO where
 /-- a list -/
 | lst (xs:List V)
 /-- a tuple (never changes) -/
 | tup (xs:List V)
 /-- a dict whose uM are ints and texts; one whose uM are tuples of ints and texts (the empty one is both) -/
 | dK (kvs:List (Jj×V)) | dT (kvs:List (List Jj×V))
 /-- a set of ints: its members,its size -/
 | set (S:Int->Bool) (n:Nat)
 /-- an instance of the class at C,its dict at dx,its attributes -/
 | ins (C dx:Addr) (fs:List (Str×V))
 /-- the dict of the instance at x -/
 | own (x:Addr)
 /-- the dict of an exception -/
 | xd (fs:List (Str×V))
 /-- a bound method,f of x -/
 | met (f x:Addr)
 /-- a range object lo,lo+1,.. below hi -/
 | rng (lo hi:Int)
 /-- a thing that is known to the object (the script; a dict while a loop walks it): read,never written while it is so -/
 | frz (o:Obj) (u:HO)
 /-- a code object's table -/
 | tbl (ps:Array Value)
 /-- any other thing,by what is true of its one object (a def of one's own: Q4 a S n:=HO.ext λh=>..) -/
 | ext (φ:Heap->Prop)
abbrev Hp:=Addr->Option HO
def upd(H:Hp)(a:Addr)(o:HO):Hp:=λb=>if b=a then some o else H b
theorem Dd{H:Hp}{a:Addr}{o:HO}:upd H a o a=some o:=by unfold upd; rw[if_pos rfl]
theorem Dy{H:Hp}{a b:Addr}{o:HO}(h:b≠a):upd H a o b=H b:=by unfold upd; rw[if_neg h]
theorem yT{H:Hp}{a b:Addr}{o u:HO}(h:H a=some o)(h':H b=some u)(d:o≠u):a≠b:=by
 intro e; subst e; rw[h] at h'; exact d (Be h')
theorem Ej{H:Hp}{a b:Addr}{o:HO}(h:H a=some o)(h':H b=none):a≠b:=by
 intro e; subst e; rw[h] at h'; cases h'
section
variable(P:Bx)(w:World)
def Hs(H:Hp)(h:Heap)(a:Addr):HO->Prop
 | .lst xs=>xs.length<=Aq/\∃(its:List Value) (n:Nat),Ey xs its/\h.get? a=some { cls:=.type "list",data:=.seq its.toArray n }
 | .tup xs=>xs.length<=Aq/\∃its:List Value,Ey xs its/\IsTup h a its.toArray
 | .dK kvs=>kvs.length<=Aq/\(a == Mc)=false/\∃vs,KV kvs vs/\h.DictOf (Il P w) a vs
 | .dT kvs=>kvs.length<=Aq/\(a == Mc)=false/\∃xs:List (List Jj×Addr×Value),
   Paired (λ(p:List Jj×V) (q:List Jj×Addr×Value)=>p.1=q.1/\H q.2.1=some (.tup (p.1.map kV))/\RelV p.2 q.2.2) kvs xs /\
   ∃o es ep,h.get? a=some o/\o.ExactDict/\o.data=.dict es ep/\es.toList=xs.map (Yh (Qv (Il P w)))/\(xs.map (·.1)).Nodup/\ep=es.size
 | .set S n=>h.SetOf (intKind P w) a S n
 | .ins C dx fs=>H dx=some (.own a)/\fs.length<=1000/\dx≠a/\h.get? a=some (PySem.W.instObj C dx) /\
   ∃mA,h.Ns1 dx mA/\(∀f,iV (fs.lookup f) (mA f))/\PySem.Within mA (fs.map (·.1))
 | .own _=>∃o,h.get? a=some o
 | .xd fs=>∃mA,h.Ns1 a mA/\∀f,iV (fs.lookup f) (mA f)
 | .rng lo hi=>∃t u v,h.get? a=some { cls:=.type "range",data:=.fields #[.int lo t,.int hi u,.int 1 v] }
 | .frz o u=>h.get? a=some o/\Hs H h a u
 | .tbl ps=>∃qs:Array Value,h.get? a=some { cls:=.none,data:=.fields qs }/\TriplesOk qs.toList/\∀(pos:Pos) (v:Value),codeAmong pos qs.toList=some v->∃(c:Addr) (oc:Obj) (us:Array Value) (q:Str) (t t0:Tok),v=.ref c/\H c=some (.own a)/\h.get? c=some oc/\oc.data=.fields us/\us[1]? = some (.str q t)/\ps[0]? = some (.str q t0)
 | .met f x=>h.get? a=some (PySem.W.methodObj (.ref f) (.ref x))
 | .ext φ=>φ h/\(∃o,h.get? a=some o)/\∀h1 h2:Heap,φ h1->(∀o,h1.get? a=some o->h2.get? a=some o)->φ h2
def Uo(H:Hp)(h:Heap):Prop:=∀a o,H a=some o->Hs P w H h a o
end
section
variable{P:Bx}{w:World}{H H':Hp}{h h':Heap}{a:Addr}{o:HO}
theorem Hs.lt(x:Hs P w H h a o):a<h.objs.size:=by
 cases o with
 | lst xs=>obtain ⟨_,_,_,_,e⟩:=x; exact Bp e
 | tup xs=>obtain ⟨_,_,_,p⟩:=x; exact p.lt
 | dK kvs=>obtain ⟨_,_,_,_,o,_,_,e,_⟩:=x; exact Bp e
 | dT kvs=>obtain ⟨_,_,_,_,o,_,_,e,_⟩:=x; exact Bp e
 | set S n=>obtain ⟨o,_,_,_,e,_⟩:=x; exact Bp e
 | ins C dx fs=>obtain ⟨_,_,_,e,_⟩:=x; exact Bp e
 | own y=>obtain ⟨_,e⟩:=x; exact Bp e
 | xd fs=>obtain ⟨_,⟨_,_,_,e,_⟩,_⟩:=x; exact Bp e
 | rng lo hi=>obtain ⟨_,_,_,e⟩:=x; exact Bp e
 | frz ob u=>obtain ⟨e,_⟩:=x; exact Bp e
 | tbl ps=>obtain ⟨_,e,_⟩:=x; exact Bp e
 | met f y=>exact Bp (show h.get? a=some _ from x)
 | ext φ=>obtain ⟨_,⟨_,e⟩,_⟩:=x; exact Bp e
theorem Paired.mapP{α β:Type}{F G:α->β->Prop}:∀{l₁:List α} {l₂:List β},Paired F l₁ l₂->(∀a b,F a b->G a b)->Paired G l₁ l₂
 | _,_,.nil,_=>.nil
 | _,_,.cons r t,f=>.cons (f _ _ r) (Paired.mapP t f)
theorem Hs.stay(x:Hs P w H h a o)(k:∀b u,(b=a\/H b=some (.own a))->h.get? b=some u->h'.get? b=some u)(ho:∀b,H b=some (.own a)->H' b=some (.own a))(ht:∀b xs,H b=some (.tup xs)->H' b=some (.tup xs)):Hs P w H' h' a o:=by
 induction o with
 | lst xs=>obtain ⟨z,its,n,r,e⟩:=x; exact ⟨z,its,n,r,k _ _ (.inl rfl) e⟩
 | tup xs=>obtain ⟨z,its,r,ob,e,c⟩:=x; exact ⟨z,its,r,ob,k _ _ (.inl rfl) e,c⟩
 | dK kvs=>obtain ⟨z,y,vs,r,ob,es,ep,e,c⟩:=x; exact ⟨z,y,vs,r,ob,es,ep,k _ _ (.inl rfl) e,c⟩
 | dT kvs =>
  obtain ⟨z,y,xs,r,ob,es,ep,e,c⟩:=x
  exact ⟨z,y,xs,Paired.mapP r λp q z=>⟨z.1,ht _ _ z.2.1,z.2.2⟩,ob,es,ep,k _ _ (.inl rfl) e,c⟩
 | set S n=>obtain ⟨ob,es,ep,t,e,c⟩:=x; exact ⟨ob,es,ep,t,k _ _ (.inl rfl) e,c⟩
 | ins C dx fs =>
  obtain ⟨d,z,ne,e,mA,⟨od,es,ep,e2,c⟩,r⟩:=x
  exact ⟨ho _ d,z,ne,k _ _ (.inl rfl) e,mA,⟨od,es,ep,k _ _ (.inr d) e2,c⟩,r⟩
 | own y=>obtain ⟨ob,e⟩:=x; exact ⟨ob,k _ _ (.inl rfl) e⟩
 | xd fs=>obtain ⟨mA,⟨od,es,ep,e,c⟩,r⟩:=x; exact ⟨mA,⟨od,es,ep,k _ _ (.inl rfl) e,c⟩,r⟩
 | rng lo hi=>obtain ⟨t,u,v,e⟩:=x; exact ⟨t,u,v,k _ _ (.inl rfl) e⟩
 | frz ob u ih=>obtain ⟨e,q⟩:=x; exact ⟨k _ _ (.inl rfl) e,ih q⟩
 | tbl ps =>
  obtain ⟨qs,e,t,z⟩:=x
  exact ⟨qs,k _ _ (.inl rfl) e,t,λpos v y=>by
   obtain ⟨c,oc,us,q,t,t0,h1,h2,h3,h4⟩:=z pos v y
   exact ⟨c,oc,us,q,t,t0,h1,ho _ h2,k _ _ (.inr h2) h3,h4⟩⟩
 | met f y =>
  have e:h.get? a=some (PySem.W.methodObj (.ref f) (.ref y)):=x
  show h'.get? a=some (PySem.W.methodObj (.ref f) (.ref y))
  exact k a _ (.inl rfl) e
 | ext φ=>obtain ⟨p,⟨o,e⟩,st⟩:=x; exact ⟨st _ _ p λo q=>k _ _ (.inl rfl) q,⟨o,k _ _ (.inl rfl) e⟩,st⟩
theorem Uo.lt(x:Uo P w H h)(e:H a=some o):a<h.objs.size:=(x a o e).lt
theorem Uo.fresh(x:Uo P w H h)(e:h.objs.size<=a):H a=none:=by
 cases q:H a with
 | none=>rfl
 | some u=>exact absurd (Bz (x.lt q) e) (Gd _)
theorem Uo.kept(x:Uo P w H h)(k:∀b u,h.get? b=some u->h'.get? b=some u):Uo P w H h':=λa o e =>
 (x a o e).stay (λb u _ q=>k b u q) (λ_ q=>q) λ_ _ q=>q
theorem Uo.laid(x:Uo P w H h)(k:∀b u,h.get? b=some u->h'.get? b=some u)(hp:h.objs.size<=a)(new:Hs P w (upd H a o) h' a o):Uo P w (upd H a o) h':=λb u e=>by
 have hn:=x.fresh hp
 by_cases hb:b=a
 ·subst hb; rw[Dd] at e; cases e; exact new
 ·rw[Dy hb] at e
  exact (x b u e).stay (λc v _ q=>k c v q) (λc q=>by rw[Dy (Ej q hn)]; exact q) λc xs q=>by rw[Dy (Ej q hn)]; exact q
end
def Rd(H:Hp)(a:Addr)(u:HO):Prop:=H a=some u\/∃o,H a=some (.frz o u)
theorem Rd.ok{P:Bx}{w:World}{H:Hp}{h:Heap}{a:Addr}{u:HO}(r:Rd H a u)(x:Uo P w H h):Hs P w H h a u:=by
 rcases r with r | ⟨o,r⟩
 ·exact x a u r
 ·obtain ⟨_,q⟩:=x a _ r
  exact q
def M7:Option HO->Prop
 | some (.lst _)=>True
 | some (.dK _)=>True
 | some (.dT _)=>True
 | some (.set _ _)=>True
 | some (.ins _ _ _)=>True
 | some (.ext _)=>True
 | _=>False
section
variable{P:Bx}{w:World}{H:Hp}{h h':Heap}{x e:Addr}{o':HO}
theorem Uo.write(ok:Uo P w H h)(mu:M7 (H x))(he:e=x\/H e=some (.own x))(k:∀b u,b≠e->h.get? b=some u->h'.get? b=some u)(heo:∃u,h'.get? e=some u)(new:Hs P w (upd H x o') h' x o'):Uo P w (upd H x o') h':=λb u q=>by
 have nown:∀c y,H c=some (.own y)->c≠x:=λc y r z=>by subst z; rw[r] at mu; exact mu
 have aN:∀c xs,H c=some (.tup xs)->c≠x:=λc xs r z=>by subst z; rw[r] at mu; exact mu
 by_cases hb:b=x
 ·subst hb; rw[Dd] at q; cases q; exact new
 ·rw[Dy hb] at q
  by_cases hbe:b=e
  ·have q':H b=some (.own x):=by
    rcases he with z | z
    ·exact absurd (hbe.trans z) hb
    ·rw[hbe]; exact z
   rw[q] at q'; cases q'
   obtain ⟨v,hv⟩:=heo
   exact ⟨v,by rw[hbe]; exact hv⟩
  ·refine (ok b u q).stay (λc v hc r=>k c v ?_ r) (λc r=>by rw[Dy (nown c b r)]; exact r) λc xs r=>by rw[Dy (aN c xs r)]; exact r
   rcases hc with rfl | hc
   ·exact hbe
   ·rintro rfl
    rcases he with z | z
    ·exact nown c b hc z
    ·rw[hc] at z; cases z; exact hb rfl
end
structure Un(fs ex:List Addr)(H H':Hp)(h h':Heap):Prop where
 keep:∀b o,h.get? b=some o->H b=none->b∉fs->b∉ex->h'.get? b=some o
 slot:∀b o,h.get? b=some o->H b=none->b∈fs->b∉ex->∃sl,h'.get? b=some { o with slots:=sl }
 free:∀b o,h.get? b=some o->H b=none->b∉ex->H' b=none
 there:∀b o,h.get? b=some o->b∉ex->∃o',h'.get? b=some o'
 tups:∀b xs,H b=some (.tup xs)->H' b=some (.tup xs)
 frzs:∀b o u,H b=some (.frz o u)->H' b=some (.frz o u)
 tbls:∀b ps,H b=some (.tbl ps)->∃more,H' b=some (.tbl (ps++more))
section
variable{fs fs' ex ex':List Addr}{H H1 H2:Hp}{h h1 h2 h':Heap}{a x e:Addr}{o:HO}
theorem Un.any(u:Un fs ex H H1 h h1){b:Addr}{ob:Obj}(q:h.get? b=some ob)(n:H b=none)(hx:b∉ex):∃sl,h1.get? b=some { ob with slots:=sl }:=by
 by_cases hb:b∈fs
 ·exact u.slot b ob q n hb hx
 ·exact ⟨ob.slots,u.keep b ob q n hb hx⟩
theorem Un.kept(k:∀b u,h.get? b=some u->h'.get? b=some u):Un fs ex H H h h' :=
 ⟨λb ob q _ _ _=>k b ob q,λb ob q _ _ _=>⟨ob.slots,k b ob q⟩,λ_ _ _ n _=>n,λb ob q _=>⟨ob,k b ob q⟩,λ_ _ q=>q,λ_ _ _ q=>q,λ_ ps q=>⟨#[],by rw[q]; simp⟩⟩
theorem Un.refl:Un fs ex H H h h:=Un.kept λ_ _ q=>q
theorem Un.laid(k:∀b u,h.get? b=some u->h'.get? b=some u)(hp:h.objs.size<=a)(hn:H a=none):Un fs ex H (upd H a o) h h' where
 keep:=λb u q _ _ _=>k b u q
 slot:=λb u q _ _ _=>⟨u.slots,k b u q⟩
 free:=λb u q n _=>by rw[Dy (Cy (Bz (Bp q) hp))]; exact n
 there:=λb u q _=>⟨u,k b u q⟩
 tups:=λb xs q=>by rw[Dy (Ej q hn)]; exact q
 frzs:=λb u xs q=>by rw[Dy (Ej q hn)]; exact q
 tbls:=λb ps q=>⟨#[],by rw[Dy (Ej q hn),q]; simp⟩
theorem Un.write(mu:M7 (H x))(he:e=x\/H e=some (.own x))(k:∀b u,b≠e->h.get? b=some u->h'.get? b=some u)(heo:∃u,h'.get? e=some u):Un fs ex H (upd H x o) h h':=by
 have hx:∀b,H b=none->b≠x:=λb n z=>by subst z; rw[n] at mu; exact mu
 have hb:∀b,H b=none->b≠e:=λb n z=>by
  subst z
  rcases he with r | r
  ·exact hx b n r
  ·rw[n] at r; cases r
 have hm:∀b u,H b=some u->¬ M7 (some u)->b≠x:=λb u q nm z=>by subst z; rw[q] at mu; exact nm mu
 refine ⟨λb u q n _ _=>k b u (hb b n) q,λb u q n _ _=>⟨u.slots,k b u (hb b n) q⟩,λb u q n _=>by rw[Dy (hx b n)]; exact n,λb u q _=>?_,
  λb xs q=>by rw[Dy (hm b _ q λz=>z)]; exact q,λb u xs q=>by rw[Dy (hm b _ q λz=>z)]; exact q,λb ps q=>⟨#[],by rw[Dy (hm b _ q λz=>z),q]; simp⟩⟩
 by_cases hbe:b=e
 ·subst hbe; exact heo
 ·exact ⟨u,k b u hbe q⟩
end
def P6(h:Heap)(H:Hp):List Addr:=(Ew h.objs.size).filter λa=>(H a).isSome
def Yp(h:Heap)(H:Hp):Heap:=PySem.W.hideAll h (P6 h H)
theorem mU(h:Heap)(H:Hp):(Yp h H).objs.size=h.objs.size:=PySem.W.hideAll_size _ _
theorem sI{h:Heap}{H:Hp}{b:Addr}{o:Obj}(e:h.get? b=some o)(n:H b=none):(Yp h H).get? b=some o :=
 PySem.W.hideAll_get _ e λhm=>by
  have q:(H b).isSome=true:=(Gn.mp hm).2
  rw[n] at q; simp at q
theorem vQ{h:Heap}{H:Hp}{b:Addr}{o:Obj}(e:(Yp h H).get? b=some o):h.get? b=some o/\H b=none:=by
 have e':h.get? b=some o:=PySem.W.of_hideAll (P6 h H) e
 refine ⟨e',?_⟩
 cases q:H b with
 | none=>rfl
 | some x =>
  have hm:b∈P6 h H:=Gn.mpr ⟨cK.mpr (Bp e'),by simp [q]⟩
  have z:(Yp h H).get? b=none:=PySem.W.hideAll_none (P6 h H) hm
  rw[z] at e; cases e
def Mo(g h:Heap)(L:Addr):List (Addr×Obj):=(Ew h.objs.size).filterMap λa=>if a=L\/(g.get? a).isSome=true then none else (h.get? a).map λo=>(a,o)
theorem cT{g h:Heap}{L a:Addr}{o:Obj}(h1:a≠L)(h2:g.get? a=none)(h3:h.get? a=some o):(a,o)∈Mo g h L :=
 uH.mpr ⟨a,cK.mpr (Bp h3),by simp [h1,h2,h3]⟩
theorem Wn{g h:Heap}{L:Addr}{p:Addr×Obj}(hp:p∈Mo g h L):p.1≠L/\g.get? p.1=none/\h.get? p.1=some p.2:=by
 obtain ⟨b,_,e⟩:=List.mem_filterMap.mp hp
 split at e
 ·cases e
 ·rename_i hn
  cases q:h.get? b with
  | none=>rw[q] at e; simp at e
  | some u =>
   rw[q] at e
   simp only[Option.map_some,Option.some.injEq] at e
   subst e
   refine ⟨λz=>hn (.inl z),?_,q⟩
   show g.get? b=none
   cases r:g.get? b with
   | none=>rfl
   | some v=>exact (hn (.inr (by simp [r]))).elim
def Gf(g h:Heap)(L d:Addr):List (Addr×Obj):=(Mo g h L).filter λp=>decide (p.1≠d)
theorem fX{g h:Heap}{L:Addr}:News g L h (Mo g h L):=λp hp=>let ⟨a,b,c⟩:=Wn hp; ⟨c,a,b⟩
structure Mod(K:PySem.W.Frag)(mg:Str->Option Value)(base:Heap):Prop where
 kin:K.In base
 glob:base.Ns Cm mg
 blt:∃mb,base.Ns Ru mb/\∀x:Str,x ≠ "__name__" -> mb x=Ia x
 nolimit:base.NoLimit
def Rv:List Str:=["often", "cut_by"]
def zJ(x:Str):Str:=x ++ ".<locals>." ++ "<lambda>"
def yU(H:Hp)(P:Addr)(q:Str):Prop:=∃(ps:Array Value) (t0:Tok),H P=some (.tbl ps)/\ps[0]? = some (.str q t0)
def qT(K:PySem.W.Frag)(mg:Str->Option Value)(base:Heap)(H:Hp):Prop:=∀x∈Rv,∀c P,PySem.W.tabIn K x=some (c,P)->PySem.W.CodeHd base c P/\base.BuiltinsAt mg P/\yU H P (zJ x)
theorem qT.un{K:PySem.W.Frag}{mg:Str->Option Value}{base:Heap}{fs ex:List Addr}{H H':Hp}{h h':Heap}(t:qT K mg base H)(u:Un fs ex H H' h h'):qT K mg base H':=λx hx c P e=>by
 obtain ⟨h1,h2,ps,t0,h3,h4⟩:=t x hx c P e
 obtain ⟨more,h5⟩:=u.tbls P ps h3
 refine ⟨h1,h2,ps++more,t0,h5,?_⟩
 have hl:0<ps.size:=by
  rcases Nat.eq_zero_or_pos ps.size with z | z
  ·rw[Array.getElem?_eq_none (by omega)] at h4; cases h4
  ·exact z
 rw[Array.getElem?_append_left hl]
 exact h4
structure Cx where
 prog:Bx
 w:World
 K:PySem.W.Frag
 mg:Str->Option Value
 base:Heap
 A:Cs
 N:List Str
 s₀:Aj
 H₀:Hp
 env:Env
 outer:List Env
 stack:List Env
 ex:List Addr
 fn:Str->Bool
 calm:Bool
 pn:List (Addr×Obj)
 xe:Value->Aj->Prop
def oI(l:List Env):List Addr:=l.filterMap (·.frame)
abbrev Cx.fs(X:Cx):List Addr:=oI X.outer
def P5(sc:Scope)(x:Str):Prop:=sc.names.lookup x=some .local\/sc.names.lookup x=some .cell\/sc.names.lookup x=some .free
def Loc(sc:Scope)(x:Str):Prop:=sc.names.lookup x=some .local\/sc.names.lookup x=some .cell
def S7(env:Env)(h:Heap)(m:Str->Option Value)(x:Str)(u:Value):Prop :=
 (env.kindOf x=some .local/\m x=some u)\/((env.kindOf x=some .cell\/env.kindOf x=some .free)/\∃c,env.cells.lookup x=some c/\h.IsCell c (some u))
structure Cx.Ok(X:Cx):Prop where
 mod:Mod X.K X.mg X.base
 kind:X.env.scope.kind=.function
 glob:X.env.globals=Cm
 blt:X.env.builtins=Ru
 above:X.s₀.heap.objs.size<=X.env.locals
 inj:∀x y c,X.env.cells.lookup x=some c->X.env.cells.lookup y=some c->x=y
 has:∀x,(X.env.kindOf x=some .cell\/X.env.kindOf x=some .free)->∃c,X.env.cells.lookup x=some c
 cab:∀x c,X.fn x=true->X.env.cells.lookup x=some c->X.s₀.heap.objs.size<=c
 hd:X.calm=true->X.A.handled=none
 frames:X.A.frames=some X.stack
 stk:X.stack=X.outer\/(X.stack=X.env::X.outer/\X.env.frame=some X.env.locals)
 exf:∀b∈X.ex,b≠X.env.locals/\∀x c,X.env.cells.lookup x=some c->c≠b
 bs:∀b o,X.base.get? b=some o->X.s₀.heap.get? b=some o/\X.H₀ b=none
 bsz:X.base.objs.size<=X.s₀.heap.objs.size
 noex:∀b o,X.base.get? b=some o->b∉X.ex
 exfs:∀b∈X.ex,b∉X.fs
 funs:X.s₀.heap.FunFrames X.base X.outer
 frf:∀b∈X.fs,X.H₀ b=none
 tab:qT X.K X.mg X.base X.H₀
structure Inv(X:Cx)(pins:List (Addr×Obj))(σ:List (Option V))(H:Hp)(s:Aj):Prop where
 ok:X.Ok
 os:s.os=X.s₀.os
 bare:Pt s.gens
 base:Un X.fs X.ex X.H₀ H X.s₀.heap s.heap
 loc:∃m,s.heap.Ns X.env.locals m/\∀(i:Nat) (x:Str) (v:V),X.N[i]? = some x->σ[i]? = some (some v)->P5 X.env.scope x->∃u,RelV v u/\S7 X.env s.heap m x u
 cell:∀x c,X.env.cells.lookup x=some c->∃v,s.heap.IsCell c v
 free:H X.env.locals=none
 freeC:∀x c,X.env.cells.lookup x=some c->H c=none
 pin:∀p∈X.pn++pins,s.heap.get? p.1=some p.2/\H p.1=none/\p.1≠X.env.locals/\p.1∉X.fs/\∀v,p.2.data≠.cell v
 hok:Uo X.prog X.w H s.heap
 len:σ.length=X.N.length
section
variable{X:Cx}{pins:List (Addr×Obj)}{σ:List (Option V)}{H H':Hp}{s:Aj}{h':Heap}
theorem Cx.Ok.nofr(ok:X.Ok){b:Addr}{o:Obj}(e:X.base.get? b=some o):b∉X.fs:=λhb=>by
 have:=(ok.funs.mem hb).1
 rw[e] at this; cases this
theorem Inv.bs(I:Inv X pins σ H s):∀b o,X.base.get? b=some o->s.heap.get? b=some o/\H b=none:=λb o e =>
 ⟨I.base.keep b o (I.ok.bs b o e).1 (I.ok.bs b o e).2 (I.ok.nofr e) (I.ok.noex b o e),I.base.free b o (I.ok.bs b o e).1 (I.ok.bs b o e).2 (I.ok.noex b o e)⟩
theorem Inv.bk(I:Inv X pins σ H s):∀b o,X.base.get? b=some o->s.heap.get? b=some o:=λb o e=>(I.bs b o e).1
theorem Inv.mod(I:Inv X pins σ H s):Mod X.K X.mg X.base:=I.ok.mod
theorem Inv.kIn(I:Inv X pins σ H s):X.K.In s.heap:=I.ok.mod.kin.keeps I.bk
theorem Inv.fr(I:Inv X pins σ H s):∃m,Fr X.base X.env.locals s.heap m :=
 let ⟨m,hn,_⟩:=I.loc
 ⟨m,hn,I.bk,Bv I.ok.bsz I.ok.above⟩
theorem Inv.lt(I:Inv X pins σ H s):X.env.locals<s.heap.objs.size:=let ⟨_,hn,_⟩:=I.loc; hn.lt
theorem Inv.sz(I:Inv X pins σ H s):X.s₀.heap.objs.size<=s.heap.objs.size:=Bv I.ok.above (Qj I.lt)
theorem Inv.nofs(I:Inv X pins σ H s){a:Addr}(h:s.heap.objs.size<=a):a∉X.fs:=λhb=>by
 obtain ⟨_,o,ho,_⟩:=I.ok.funs.mem hb
 exact absurd (Bz (Bp ho) (Bv I.sz h)) (Gd _)
theorem Inv.cne(I:Inv X pins σ H s):∀x c,X.env.cells.lookup x=some c->c≠X.env.locals:=λx c e z=>by
 obtain ⟨v,o,ho,hd⟩:=I.cell x c e
 obtain ⟨m,⟨o',es,ep,ho',hd',_⟩,_⟩:=I.loc
 rw[z,ho'] at ho; cases ho; rw[hd'] at hd; cases hd
theorem Inv.funs(I:Inv X pins σ H s):s.heap.FunFrames X.base X.outer:=by
 have all:∀(l:List Env),(∀b∈oI l,b∈X.fs)->X.s₀.heap.FunFrames X.base l->s.heap.FunFrames X.base l:=by
  intro l
  induction l with
  | nil=>intro _ _; trivial
  | cons env r ih =>
   intro hs hl
   obtain ⟨hk,⟨L,o,hf,hn,ho,hd⟩,hr⟩:=hl
   have hL:L∈X.fs:=hs L (by unfold oI; rw[Td,hf]; exact Aa)
   obtain ⟨sl,e⟩:=I.base.slot L o ho (I.ok.frf L hL) hL λz=>I.ok.exfs L z hL
   exact ⟨hk,⟨L,_,hf,hn,e,hd⟩,ih (λb hb=>hs b (by unfold oI; rw[Td,hf]; exact Ae _ hb)) hr⟩
 exact all X.outer (λ_ hb=>hb) I.ok.funs
theorem Inv.stack(I:Inv X pins σ H s):s.heap.FunFrames X.base X.stack:=by
 rcases I.ok.stk with e | ⟨e,hf⟩
 ·rw[e]; exact I.funs
 ·rw[e]
  obtain ⟨m,hn,_⟩:=I.loc
  refine .cons (by rw[I.ok.kind]; decide) hf hn ?_ I.funs
  exact Heap.get?_none_of_le (Bv I.ok.bsz I.ok.above)
theorem Inv.stkSub(I:Inv X pins σ H s):∀b∈oI X.stack,b∈X.env.locals::X.fs:=λb hb=>by
 rcases I.ok.stk with e | ⟨e,hf⟩
 ·rw[e] at hb; exact Ae _ hb
 ·rw[e] at hb
  unfold oI at hb
  rw[Td,hf] at hb
  exact hb
theorem Inv.stkFree(I:Inv X pins σ H s):∀b∈oI X.stack,H b=none:=λb hb=>by
 rcases Ak.mp (I.stkSub b hb) with e | hb
 ·rw[e]; exact I.free
 ·obtain ⟨_,o,ho,_⟩:=I.ok.funs.mem hb
  exact I.base.free b o ho (I.ok.frf b hb) λz=>I.ok.exfs b z hb
theorem Inv.step{g':Array GenState}{t':Nat}{d':Drawn}{ch:List Addr}(I:Inv X pins σ H s)(hch:∀b∈ch,(b∈X.ex\/X.s₀.heap.objs.size<=b)/\b≠X.env.locals/\(∀x c,X.env.cells.lookup x=some c->c≠b)/\∀p∈X.pn++pins,p.1≠b)(keep:∀b o,b≠X.env.locals->b∉X.fs->b∉ch->s.heap.get? b=some o->H b=none->h'.get? b=some o)(slot:∀b o,b≠X.env.locals->b∈X.fs->b∉ch->s.heap.get? b=some o->H b=none->∃sl,h'.get? b=some { o with slots:=sl })(free:∀b o,b∉ch->s.heap.get? b=some o->H b=none->H' b=none)(there:∀b o,b∉ch->s.heap.get? b=some o->∃o',h'.get? b=some o')(tups:∀b xs,H b=some (.tup xs)->H' b=some (.tup xs))(frzs:∀b o u,H b=some (.frz o u)->H' b=some (.frz o u))(tbls:∀b ps,H b=some (.tbl ps)->∃more,H' b=some (.tbl (ps++more)))(ns:∀m,s.heap.Ns X.env.locals m->h'.Ns X.env.locals m)(hok:Uo X.prog X.w H' h')(hg:Pt g'):Inv X pins σ H' { s with heap:=h',gens:=g',drawn:=d',toks:=t' }:=by
 have neL:∀b o,X.s₀.heap.get? b=some o->b≠X.env.locals:=λb o e=>Cy (Bz (Bp e) I.ok.above)
 have neC:∀b o,X.s₀.heap.get? b=some o->b∉X.ex->b∉ch:=λb o e hx hb=>by
  rcases (hch b hb).1 with z | z
  ·exact hx z
  ·exact absurd (Bz (Bp e) z) (Gd _)
 have cellK:∀x c,X.env.cells.lookup x=some c->∀v,s.heap.IsCell c v->h'.IsCell c v:=λx c e v ⟨o,ho,hd⟩=>by
  have nch:c∉ch:=λz=>(hch c z).2.2.1 x c e rfl
  by_cases hc:c∈X.fs
  ·obtain ⟨sl,q⟩:=slot c o (I.cne x c e) hc nch ho (I.freeC x c e)
   exact ⟨_,q,hd⟩
  ·exact ⟨o,keep c o (I.cne x c e) hc nch ho (I.freeC x c e),hd⟩
 refine ⟨I.ok,I.os,hg,⟨λb o e n hb hx=>?_,λb o e n hb hx=>?_,λb o e n hx=>?_,λb o e hx=>?_,λb xs e=>tups b xs (I.base.tups b xs e),λb o xs e=>frzs b o xs (I.base.frzs b o xs e),λb ps e=>?_⟩,?_,λx c e=>?_,?_,λx c e=>?_,λp hp=>?_,hok,I.len⟩
 ·exact keep b o (neL b o e) hb (neC b o e hx) (I.base.keep b o e n hb hx) (I.base.free b o e n hx)
 ·obtain ⟨sl,e1⟩:=I.base.slot b o e n hb hx
  obtain ⟨sl',e2⟩:=slot b _ (neL b o e) hb (neC b o e hx) e1 (I.base.free b o e n hx)
  exact ⟨sl',e2⟩
 ·obtain ⟨o',e1⟩:=I.base.there b o e hx
  exact free b o' (neC b o e hx) e1 (I.base.free b o e n hx)
 ·obtain ⟨o',e1⟩:=I.base.there b o e hx
  exact there b o' (neC b o e hx) e1
 ·obtain ⟨m1,e1⟩:=I.base.tbls b ps e
  obtain ⟨m2,e2⟩:=tbls b _ e1
  exact ⟨m1++m2,by rw[e2,Array.append_assoc]⟩
 ·obtain ⟨m,hn,hl⟩:=I.loc
  refine ⟨m,ns m hn,λi x v e1 e2 e3=>?_⟩
  obtain ⟨u,r,l⟩:=hl i x v e1 e2 e3
  refine ⟨u,r,?_⟩
  rcases l with l | ⟨k,c,e,z⟩
  ·exact .inl l
  ·exact .inr ⟨k,c,e,cellK x c e _ z⟩
 ·obtain ⟨v,z⟩:=I.cell x c e
  exact ⟨v,cellK x c e v z⟩
 ·obtain ⟨m,⟨o,_,_,ho,_⟩,_⟩:=I.loc
  exact free _ o (λz=>(hch _ z).2.1 rfl) ho I.free
 ·obtain ⟨v,o,ho,hd⟩:=I.cell x c e
  exact free c o (λz=>(hch c z).2.2.1 x c e rfl) ho (I.freeC x c e)
 ·obtain ⟨e,n,ne,nf,d⟩:=I.pin p hp
  have nch:p.1∉ch:=λz=>(hch p.1 z).2.2.2 p hp rfl
  exact ⟨keep p.1 p.2 ne nf nch e n,free p.1 p.2 nch e n,ne,nf,d⟩
theorem Inv.un{t':Nat}(I:Inv X pins σ H s)(u:Un X.fs [] H H' s.heap h')(hok:Uo X.prog X.w H' h'):Inv X pins σ H' { s with heap:=h',toks:=t' }:=by
 obtain ⟨m,⟨o,es,ep,ho,r⟩,_⟩:=id I.loc
 obtain ⟨sl,hL⟩:=u.any ho I.free (by simp)
 exact I.step (g':=s.gens) (d':=s.drawn) (ch:=[]) (λ_ z=>nomatch z) (λb o _ hb _ e n=>u.keep b o e n hb (by simp)) (λb o _ hb _ e n=>u.slot b o e n hb (by simp)) (λb o _ e n=>u.free b o e n (by simp)) (λb o _ e=>u.there b o e (by simp)) u.tups u.frzs u.tbls (λm' hm=>by
  obtain ⟨o',es',ep',ho',r'⟩:=hm
  rw[ho] at ho'; cases ho'
  exact ⟨_,es',ep',hL,r'⟩) hok I.bare
theorem Inv.call{g':Array GenState}{t':Nat}{d':Drawn}{ch:List Addr}(I:Inv X pins σ H s)(u:Un (oI X.stack) ch H H' s.heap h')(hok:Uo X.prog X.w H' h')(hg:Pt g')(hch:∀b∈ch,(b∈X.ex\/X.s₀.heap.objs.size<=b)/\b≠X.env.locals/\(∀x c,X.env.cells.lookup x=some c->c≠b)/\∀p∈X.pn++pins,p.1≠b):Inv X pins σ H' { s with heap:=h',gens:=g',drawn:=d',toks:=t' }:=by
 obtain ⟨m,⟨o,es,ep,ho,r⟩,_⟩:=id I.loc
 obtain ⟨sl,hL⟩:=u.any ho I.free λz=>(hch _ z).2.1 rfl
 exact I.step (ch:=ch) hch (λb o hL hb hc e n=>u.keep b o e n (λz=>(Ak.mp (I.stkSub b z)).elim hL hb) hc) (λb o _ _ hc e n=>u.any e n hc) (λb o hc e n=>u.free b o e n hc) (λb o hc e=>u.there b o e hc) u.tups u.frzs u.tbls (λm' hm=>by
  obtain ⟨o',es',ep',ho',r'⟩:=hm
  rw[ho] at ho'; cases ho'
  exact ⟨_,es',ep',hL,r'⟩) hok hg
theorem Inv.turned{t':Nat}{it:Addr}(I:Inv X pins σ H s)(k:∀b o,b≠it->s.heap.get? b=some o->h'.get? b=some o)(hn:H it=none)(hL:it≠X.env.locals)(h1:it∈X.ex\/X.s₀.heap.objs.size<=it)(h2:∀x c,X.env.cells.lookup x=some c->c≠it)(h3:∀p∈X.pn++pins,p.1≠it):Inv X pins σ H { s with heap:=h',toks:=t' }:=by
 have nit:∀b u,H b=some u->b≠it:=λb u e z=>by rw[z,hn] at e; cases e
 refine I.step (g':=s.gens) (d':=s.drawn) (ch:=[it]) (λb hb=>?_) (λb o _ _ hc e _=>k b o (λz=>hc (by simp [z])) e) (λb o _ _ hc e _=>⟨o.slots,k b o (λz=>hc (by simp [z])) e⟩) (λ_ _ _ _ n=>n)
  (λb o hc e=>⟨o,k b o (λz=>hc (by simp [z])) e⟩) (λ_ _ e=>e) (λ_ _ _ e=>e) (λb ps e=>⟨#[],by rw[e]; simp⟩) (λm hm=>?_) (λb u e=>?_) I.bare
 ·have e:b=it:=by simpa using hb
  subst e
  exact ⟨h1,hL,h2,h3⟩
 ·obtain ⟨o,es,ep,ho,r⟩:=hm
  exact ⟨o,es,ep,k _ o (Nb hL) ho,r⟩
 ·refine (I.hok b u e).stay (λc v hc q=>k c v ?_ q) (λ_ q=>q) λ_ _ q=>q
  rcases hc with z | z
  ·rw[z]; exact nit b u e
  ·exact nit c _ z
theorem Inv.tok(I:Inv X pins σ H s)(t:Nat):Inv X pins σ H { s with toks:=t }:=I.un (h':=s.heap) (t':=t) Un.refl I.hok
theorem Inv.kept{t':Nat}(I:Inv X pins σ H s)(k:∀b u,s.heap.get? b=some u->h'.get? b=some u):Inv X pins σ H { s with heap:=h',toks:=t' }:=I.un (Un.kept k) (I.hok.kept k)
theorem Inv.laid{a:Addr}{o:HO}{t':Nat}(I:Inv X pins σ H s)(k:∀b u,s.heap.get? b=some u->h'.get? b=some u)(hp:s.heap.objs.size<=a)(new:Hs X.prog X.w (upd H a o) h' a o):Inv X pins σ (upd H a o) { s with heap:=h',toks:=t' }:=I.un (Un.laid k hp (I.hok.fresh hp)) (I.hok.laid k hp new)
theorem Inv.write{x e:Addr}{o:HO}{t':Nat}(I:Inv X pins σ H s)(mu:M7 (H x))(he:e=x\/H e=some (.own x))(k:∀b u,b≠e->s.heap.get? b=some u->h'.get? b=some u)(heo:∃u,h'.get? e=some u)(new:Hs X.prog X.w (upd H x o) h' x o):Inv X pins σ (upd H x o) { s with heap:=h',toks:=t' }:=I.un (Un.write mu he k heo) (I.hok.write mu he k heo new)
theorem Inv.pins_of{pins':List (Addr×Obj)}(I:Inv X pins σ H s)(h:∀p∈pins',s.heap.get? p.1=some p.2/\H p.1=none/\p.1≠X.env.locals/\p.1∉X.fs/\∀v,p.2.data≠.cell v):Inv X pins' σ H s :=
 ⟨I.ok,I.os,I.bare,I.base,I.loc,I.cell,I.free,I.freeC,λp hp=>(An.mp hp).elim (λz=>I.pin p (Ag _ z)) (h p),I.hok,I.len⟩
theorem fT{N:List Str}(hN:N.Nodup){i j:Nat}{x:Str}(a:N[i]? = some x)(b:N[j]? = some x):i=j:=by
 obtain ⟨h1,e1⟩:=Al.mp a
 obtain ⟨h2,e2⟩:=Al.mp b
 exact (List.getElem_inj hN).mp (e1.trans e2.symm)
theorem mO{M:Model}{A:Cs}{E:Value->Aj->Prop}{i:Nat}{x:Str}{v:V}{u:Value}{Q:Unit->Aj->Prop}(I:Inv X pins σ H s)(hN:X.N.Nodup)(hi:X.N[i]? = some x)(hx:Loc X.env.scope x)(r:RelV v u)(h:∀s',Inv X pins (σ.set i (some v)) H s'->(∃a,Mj a s.heap s'.heap/\(a=X.env.locals\/X.env.cells.lookup x=some a))->Q () s')(hf:X.fn x=true\/X.env.scope.names.lookup x=some .local:=by first | exact .inl rfl | exact .inr rfl | assumption):wpAny M A (storeName X.env x u) Q E s:=by
 obtain ⟨m,hn,hl⟩:=id I.loc
 have hcls:(X.env.scope.kind == .class || (X.env.scope.kind == .module && X.env.locals != X.env.globals))=false:=by rw[I.ok.kind]; rfl
 have hiσ:i<σ.length:=by rw[I.len]; exact (Al.mp hi).1
 have cne:=I.cne
 have tracked:∀{a:Addr} {h':Heap},(∃o,s.heap.get? a=some o/\H a=none)->Mj a s.heap h'->Uo X.prog X.w H h':=λ{a h'} ha hs b ob e=>by
  obtain ⟨_,_,hfree⟩:=ha
  refine (I.hok b ob e).stay (λc w' hc q=>(hs.2 c ?_).trans q) (λ_ q=>q) λ_ _ q=>q
  rintro rfl
  rcases hc with rfl | hc
  ·rw[hfree] at e; cases e
  ·rw[hfree] at hc; cases hc
 rcases hx with hk | hk
 ·refine wpAny_storeName_local hk hn (λh' hn' hs=>?_) hcls
  obtain ⟨oL,_,_,hoL,_⟩:=id hn
  refine h _ ⟨I.ok,I.os,I.bare,⟨λb o e n hb hx=>?_,λb o e n hb hx=>?_,I.base.free,λb o e hx=>?_,I.base.tups,I.base.frzs,I.base.tbls⟩,⟨_,hn',λj y v' e1 e2 e3=>?_⟩,λy c e=>?_,I.free,I.freeC,λp hp=>?_,tracked ⟨oL,hoL,I.free⟩ hs,by simpa using I.len⟩ ⟨_,hs,.inl rfl⟩
  ·exact (hs.2 b (Cy (Bz (Bp e) I.ok.above))).trans (I.base.keep b o e n hb hx)
  ·obtain ⟨sl,e1⟩:=I.base.slot b o e n hb hx
   exact ⟨sl,(hs.2 b (Cy (Bz (Bp e) I.ok.above))).trans e1⟩
  ·obtain ⟨o',e1⟩:=I.base.there b o e hx
   exact ⟨o',(hs.2 b (Cy (Bz (Bp e) I.ok.above))).trans e1⟩
  ·by_cases hj:j=i
   ·subst hj
    rw[hi] at e1; cases e1
    rw[jU hiσ] at e2
    cases e2
    exact ⟨u,r,.inl ⟨hk,by simp⟩⟩
   ·rw[Lj (Nb hj)] at e2
    obtain ⟨u',r',q⟩:=hl j y v' e1 e2 e3
    refine ⟨u',r',?_⟩
    rcases q with ⟨k,e⟩ | ⟨k,c,e,z⟩
    ·refine .inl ⟨k,?_⟩
     have : y≠x:=λe=>hj (fT hN e1 (e▸hi))
     simp [this,e]
    ·exact .inr ⟨k,c,e,z.sameBut hs (cne y c e)⟩
  ·obtain ⟨w',z⟩:=I.cell y c e
   exact ⟨w',z.sameBut hs (cne y c e)⟩
  ·obtain ⟨e,n,ne,nf,d⟩:=I.pin p hp
   exact ⟨(hs.2 p.1 ne).trans e,n,ne,nf,d⟩
 ·have hfn:X.fn x=true:=by
   rcases hf with z | z
   ·exact z
   ·rw[z] at hk; cases hk
  obtain ⟨c,hc⟩:=I.ok.has x (.inl hk)
  obtain ⟨w',z⟩:=I.cell x c hc
  refine wpAny_storeName_cell I.ok.kind hk hc z (λh' hc' hs=>?_)
  obtain ⟨oc,hoc,hocd⟩:=id z
  refine h { s with heap:=h' } ⟨I.ok,I.os,I.bare,⟨λb o e n hb hx=>?_,λb o e n hb hx=>?_,I.base.free,λb o e hx=>?_,I.base.tups,I.base.frzs,I.base.tbls⟩,⟨m,hn.sameBut hs (Nb (cne x c hc)),λj y v' e1 e2 e3=>?_⟩,λy c' e=>?_,I.free,I.freeC,λp hp=>?_,tracked ⟨oc,hoc,I.freeC x c hc⟩ hs,by simpa using I.len⟩ ⟨c,hs,.inr hc⟩
  ·exact (hs.2 b (Cy (Bz (Bp e) (I.ok.cab x c hfn hc)))).trans (I.base.keep b o e n hb hx)
  ·obtain ⟨sl,e1⟩:=I.base.slot b o e n hb hx
   exact ⟨sl,(hs.2 b (Cy (Bz (Bp e) (I.ok.cab x c hfn hc)))).trans e1⟩
  ·obtain ⟨o',e1⟩:=I.base.there b o e hx
   exact ⟨o',(hs.2 b (Cy (Bz (Bp e) (I.ok.cab x c hfn hc)))).trans e1⟩
  ·by_cases hj:j=i
   ·subst hj
    rw[hi] at e1; cases e1
    rw[jU hiσ] at e2
    cases e2
    exact ⟨u,r,.inr ⟨.inl hk,c,hc,hc'⟩⟩
   ·rw[Lj (Nb hj)] at e2
    obtain ⟨u',r',q⟩:=hl j y v' e1 e2 e3
    refine ⟨u',r',?_⟩
    rcases q with q | ⟨k,c',e,z'⟩
    ·exact .inl q
    ·refine .inr ⟨k,c',e,z'.sameBut hs ?_⟩
     rintro rfl
     exact hj (fT hN e1 (I.ok.inj _ _ _ e hc▸hi))
  ·by_cases hcc:c'=c
   ·subst hcc; exact ⟨_,hc'⟩
   ·obtain ⟨w2,z2⟩:=I.cell y c' e
    exact ⟨w2,z2.sameBut hs hcc⟩
  ·obtain ⟨e,n,ne,nf,d⟩:=I.pin p hp
   refine ⟨(hs.2 p.1 ?_).trans e,n,ne,nf,d⟩
   intro q
   rw[q,hoc] at e
   have q':oc=p.2:=Be e
   exact d w' (by rw[<- q']; exact hocd)
theorem cX{M:Model}{A:Cs}{E:Value->Aj->Prop}{i:Nat}{x:Str}{v:V}{u:Value}{Q:Unit->Aj->Prop}(I:Inv X pins σ H s)(hN:X.N.Nodup)(hi:X.N[i]? = some x)(hx:Loc X.env.scope x)(r:RelV v u)(h:∀s',Inv X pins (σ.set i (some v)) H s'->Q () s')(hf:X.fn x=true\/X.env.scope.names.lookup x=some .local:=by first | exact .inl rfl | exact .inr rfl | assumption):wpAny M A (storeName X.env x u) Q E s :=
 mO I hN hi hx r (λs' I' _=>h s' I') hf
theorem Inv.call'{s':Aj}{ch:List Addr}(I:Inv X pins σ H s)(ho:s'.os=s.os)(u:Un (oI X.stack) ch H H' s.heap s'.heap)(hok:Uo X.prog X.w H' s'.heap)(hg:Pt s'.gens)(hch:∀b∈ch,(b∈X.ex\/X.s₀.heap.objs.size<=b)/\b≠X.env.locals/\(∀x c,X.env.cells.lookup x=some c->c≠b)/\∀p∈X.pn++pins,p.1≠b):Inv X pins σ H' s':=by
 obtain ⟨h',g',d',t',o'⟩:=s'
 have e:o'=s.os:=ho
 subst e
 exact I.call (g':=g') (t':=t') (d':=d') u hok hg hch
end
abbrev XK:=Value->Option Addr->Hp->Prop
abbrev St:=List (Option V)
abbrev VK:=V->Hp->Prop
abbrev TE:=St->Hp->VK->Prop
abbrev TT:=St->Hp->(Bool->Hp->Prop)->Prop
abbrev TA:=St->Hp->(List V->Hp->Prop)->Prop
structure Ends where
 nx:St->Hp->Prop
 rt:VK
 bk:St->Hp->Prop:=λ_ _=>False
 ct:St->Hp->Prop:=λ_ _=>False
abbrev TS:=Ends->St->Hp->Prop
def EP(X:Cx)(pins:List (Addr×Obj))(σ:St)(Q:VK)(u:Value)(s':Aj):Prop:=∃v H',Inv X pins σ H' s'/\RelV v u/\Q v H'
def TP(X:Cx)(pins:List (Addr×Obj))(σ:St)(Q:Bool->Hp->Prop)(b:Bool)(s':Aj):Prop:=∃H',Inv X pins σ H' s'/\Q b H'
def AP(X:Cx)(pins:List (Addr×Obj))(σ:St)(Q:List V->Hp->Prop)(us:List Value)(s':Aj):Prop:=∃vs H',Inv X pins σ H' s'/\Ey vs us/\Q vs H'
def SP(X:Cx)(pins:List (Addr×Obj))(D:Ends)(f:Flow)(s':Aj):Prop :=
 match f with
 | .next=>∃σ' H',Inv X pins σ' H' s'/\D.nx σ' H'
 | .brk=>∃σ' H',Inv X pins σ' H' s'/\D.bk σ' H'
 | .cont=>∃σ' H',Inv X pins σ' H' s'/\D.ct σ' H'
 | .ret u=>∃v σ' H',Inv X pins σ' H' s'/\RelV v u/\D.rt v H'
def PE(X:Cx)(e:Expr)(t:TE):Prop :=
 ∀(pins:List (Addr×Obj)) (s:Aj) (σ:St) (H:Hp) (Q:VK),Inv X pins σ H s->t σ H Q->wpAny (model X.prog X.w) X.A (eval e X.env) (EP X pins σ Q) X.xe s
def PT(X:Cx)(e:Expr)(t:TT):Prop :=
 ∀(pins:List (Addr×Obj)) (s:Aj) (σ:St) (H:Hp) (Q:Bool->Hp->Prop),Inv X pins σ H s->t σ H Q->wpAny (model X.prog X.w) X.A (isTrue e X.env (eval e X.env)) (TP X pins σ Q) X.xe s
def PW(X:Cx)(e:Expr)(t:TT):Prop :=
 ∀(whole:Sem Value) (pins:List (Addr×Obj)) (s:Aj) (σ:St) (H:Hp) (Q:Bool->Hp->Prop),Inv X pins σ H s->t σ H Q->wpAny (model X.prog X.w) X.A (isTrue e X.env whole) (TP X pins σ Q) X.xe s
theorem PW.pt{X:Cx}{e:Expr}{t:TT}(h:PW X e t):PT X e t:=h _
def PA(X:Cx)(es:List Expr)(t:TA):Prop :=
 ∀(pos:Pos) (pins:List (Addr×Obj)) (s:Aj) (σ:St) (H:Hp) (Q:List V->Hp->Prop),Inv X pins σ H s->t σ H Q->wpAny (model X.prog X.w) X.A (spliced (Fs pos (Bf es X.env))) (AP X pins σ Q) X.xe s
def PS(X:Cx)(st:Stmt)(t:TS):Prop :=
 ∀(pins:List (Addr×Obj)) (s:Aj) (σ:St) (H:Hp) (D:Ends),Inv X pins σ H s->t D σ H->wpAny (model X.prog X.w) X.A (exec st X.env) (SP X pins D) X.xe s
def jN(X:Cx)(st:List Stmt)(t:TS):Prop :=
 ∀(pins:List (Addr×Obj)) (s:Aj) (σ:St) (H:Hp) (D:Ends),Inv X pins σ H s->t D σ H->wpAny (model X.prog X.w) X.A (execs st X.env) (SP X pins D) X.xe s
theorem Et{α:Type}{t:Sem α}{Q Q':α->Aj->Prop}{M:Model}{A:Cs}{E:Value->Aj->Prop}{s:Aj}(h:wpAny M A t Q E s)(hQ:∀a s,Q a s->Q' a s):wpAny M A t Q' E s:=Cf h hQ λ_ _ x=>x
section
variable{X:Cx}
theorem Y3{a b:Expr}{ta tb:TE}(ha:PE X a ta)(hb:PE X b tb){pins:List (Addr×Obj)}{s:Aj}{σ:St}{H:Hp}{R:V->V->Hp->Prop}(I:Inv X pins σ H s)(h:ta σ H λx H1=>tb σ H1 λy H2=>R x y H2){α:Type}{Q:α->Aj->Prop}{f:Value->Value->Sem α}(hf:∀v u s2 x y H2,Inv X pins σ H2 s2->RelV x v->RelV y u->R x y H2->wpAny (model X.prog X.w) X.A (f v u) Q X.xe s2):wpAny (model X.prog X.w) X.A (eval a X.env) (λv s₁=>wpAny (model X.prog X.w) X.A (eval b X.env) (λu s₂=>wpAny (model X.prog X.w) X.A (f v u) Q X.xe s₂) X.xe s₁) X.xe s:=by
 refine Et (ha pins s σ H _ I h) λv s1 q0_ => ?_
 obtain ⟨x,H1,I1,r1,q1⟩ := q0_
 refine Et (hb pins s1 σ H1 _ I1 q1) λu s2 q0_ => ?_
 obtain ⟨y,H2,I2,r2,q2⟩ := q0_
 exact hf v u s2 x y H2 I2 r1 r2 q2
def Tp(i:Nat):TE:=λσ H Q=>∃v,σ[i]? = some (some v)/\Q v H
def tC(v:V):TE:=λ_ H Q=>Q v H
theorem zY{i:Nat}{x:Str}{pos:Pos}(hN:X.N[i]? = some x)(hv:P5 X.env.scope x)(hd:(x == ("__debug__" : Str))=false:=by decide)(hcd:(x == ("__classdict__" : Str))=false:=by decide):PE X (.Name x pos) (Tp i):=by
 intro pins s σ H Q I h
 obtain ⟨v,e,h⟩:=h
 obtain ⟨m,hn,hl⟩:=I.loc
 obtain ⟨u,r,l⟩:=hl i x v hN e hv
 have fin:EP X pins σ Q u s:=⟨v,H,I,r,h⟩
 rcases l with ⟨hk,hm⟩ | ⟨hk,c,hc,hcell⟩
 ·exact wpAny_Name (wpAny_loadName_local I.ok.kind hk hn hm fin) hd
 ·rcases hk with hk | hk
  ·exact wpAny_Name (wpAny_loadName_cell I.ok.kind hk hc hcell fin) hd
  ·exact wpAny_Name (wpAny_loadName_free I.ok.kind hk hc hcell fin hcd) hd
theorem Fm{i j pos}:PE X (.Constant (.int i) j pos) (tC (.int i)):=λ_ _ _ H _ I h=>wpAny_Constant_int ⟨.int i,H,I.tok _,⟨_,rfl⟩,h⟩
theorem M4{b j pos}:PE X (.Constant (.bool b) j pos) (tC (.bl b)):=λ_ _ _ H _ I h=>Constant_bool ⟨.bl b,H,I,rfl,h⟩
def Gl(X:Cx)(x:Str):Prop:=X.env.kindOf x=some .globalImplicit
theorem lI{E:Value->Aj->Prop}{pins:List (Addr×Obj)}{s:Aj}{σ:St}{H:Hp}{x:Str}{u:Value}{pos:Pos}{Q:Value->Aj->Prop}(I:Inv X pins σ H s)(hg:Gl X x)(hm:X.mg x=some u)(h:Q u s)(hd:(x == ("__debug__" : Str))=false:=by decide):wpAny (model X.prog X.w) X.A (eval (.Name x pos) X.env) Q E s :=
 aD I.ok.kind hg (Calls.loadGlobal_global (by rw[I.ok.glob]; exact I.mod.glob.keeps I.bk) hm h) hd
theorem Of{E:Value->Aj->Prop}{pins:List (Addr×Obj)}{s:Aj}{σ:St}{H:Hp}{x:Str}{u:Value}{pos:Pos}{Q:Value->Aj->Prop}(I:Inv X pins σ H s)(hg:Gl X x)(hm:X.mg x=none)(hv:Ia x=some u)(h:Q u s)(hn:x ≠ "__name__" := by decide)(hd:(x == ("__debug__" : Str))=false:=by decide):wpAny (model X.prog X.w) X.A (eval (.Name x pos) X.env) Q E s:=by
 obtain ⟨mb,h1,h2⟩:=I.mod.blt
 exact aD I.ok.kind hg (Calls.loadGlobal_builtin (by rw[I.ok.glob]; exact I.mod.glob.keeps I.bk) hm (by rw[I.ok.blt]; exact h1.keeps I.bk) ((h2 x hn).trans hv) h) hd
theorem uP{x:Str}{v:V}{u:Value}{pos:Pos}(hg:Gl X x)(hm:X.mg x=none)(hv:Ia x=some u)(r:RelV v u)(hn:x ≠ "__name__" := by decide)(hd:(x == ("__debug__" : Str))=false:=by decide):PE X (.Name x pos) (tC v) :=
 λ_ _ _ H _ I h=>Of I hg hm hv ⟨v,H,I,r,h⟩ hn hd
variable{a b:Expr}{ta tb:TE}{pos:Pos}
def PC(X:Cx)(op:CmpOp)(a b:Expr)(t:TE):Prop :=
 ∀(pins:List (Addr×Obj)) (s:Aj) (σ:St) (H:Hp) (Q:VK),Inv X pins σ H s->t σ H Q ->
  wpAny (model X.prog X.w) X.A (eval a X.env) (λv s₁=>wpAny (model X.prog X.w) X.A (eval b X.env) (λu s₂=>wpAny (model X.prog X.w) X.A (Hb op v u) (EP X pins σ Q) X.xe s₂) X.xe s₁) X.xe s
theorem pG(b:Expr){op:CmpOp}(h:op≠.In)(h2:op≠.NotIn):Fe op b=false:=by
 have e1:(op == CmpOp.In)=false:=by cases op <;> first | rfl | exact absurd rfl h
 have e2:(op == CmpOp.NotIn)=false:=by cases op <;> first | rfl | exact absurd rfl h2
 cases b <;> simp [Fe,e1,e2]
def tB(t:TE):TT:=λσ H Q=>t σ H λx H1=>∃c,x=.bl c/\Q c H1
theorem u7{op:CmpOp}{t:TE}(h:PC X op a b t)(h1:Fe op b=false:=by first | exact pG _ (by decide) (by decide) | rfl):PT X (.Compare a [op] [b] pos) (tB t):=by
 intro pins s σ H Q I hw
 refine wpAny_isTrue_Compare1 (Et (h pins s σ H _ I hw) λv s1 h1=>Et h1 λu s2 h2=>Et h2 λc s3 ⟨x,H1,I1,r1,q1⟩=>?_) h1
 obtain ⟨d,rfl,q⟩:=q1
 cases r1
 exact Lc ⟨H1,I1,q⟩
theorem qN{e:Expr}{t:TE}(h:PE X e t)(he:∀whole,isTrue e X.env whole=(do let v <- whole; Po e.pos; Vc [v] (truthy v)):=by intro _; rfl):PT X e (tB t):=by
 intro pins s σ H Q I hw
 refine isTrue_plain (Et (h pins s σ H _ I hw) λv s1 ⟨x,H1,I1,r1,q1⟩=>?_) (he _)
 obtain ⟨d,rfl,q⟩:=q1
 cases r1
 exact Lc ⟨H1,I1,q⟩
variable{tA tB':TT}{Gf:List Expr}
def U3(t u:TT):TT:=λσ H Q=>t σ H λc H1=>if c=true then u σ H1 Q else Q false H1
def W9(t u:TT):TT:=λσ H Q=>t σ H λc H1=>if c=true then Q true H1 else u σ H1 Q
def U0(t:TT):TT:=λσ H Q=>t σ H λc H1=>Q (!c) H1
theorem uL(ha:PT X a tA):PW X (.BoolOp .And [a] pos) tA:=by
 intro wh pins s σ H Q I h
 refine isTrue_and (Et (ha pins s σ H Q I h) λc s1 e=>?_)
 cases c with
 | true=>exact isTrue_and_nil e
 | false=>exact e
theorem A0(ha:PT X a tA):PW X (.BoolOp .Or [a] pos) tA:=by
 intro wh pins s σ H Q I h
 refine isTrue_or (Et (ha pins s σ H Q I h) λc s1 e=>?_)
 cases c with
 | false=>exact isTrue_or_nil e
 | true=>exact e
theorem u6(ha:PT X a tA)(hb:PW X (.BoolOp .And (b::Gf) pos) tB'):PW X (.BoolOp .And (a::b::Gf) pos) (U3 tA tB'):=by
 intro wh pins s σ H Q I h
 refine isTrue_and (Et (ha pins s σ H _ I h) λc s1 q0_ => ?_)
 obtain ⟨H1,I1,q1⟩ := q0_
 cases c with
 | true=>exact hb wh pins s1 σ H1 Q I1 q1
 | false=>exact ⟨H1,I1,q1⟩
theorem C8(ha:PT X a tA)(hb:PW X (.BoolOp .Or (b::Gf) pos) tB'):PW X (.BoolOp .Or (a::b::Gf) pos) (W9 tA tB'):=by
 intro wh pins s σ H Q I h
 refine isTrue_or (Et (ha pins s σ H _ I h) λc s1 q0_ => ?_)
 obtain ⟨H1,I1,q1⟩ := q0_
 cases c with
 | true=>exact ⟨H1,I1,q1⟩
 | false=>exact hb wh pins s1 σ H1 Q I1 q1
theorem p9(ha:PT X a tA):PT X (.UnaryOp .Not a pos) (U0 tA):=by
 intro pins s σ H Q I h
 exact isTrue_not (ha pins s σ H (λc H1=>Q (!c) H1) I h)
def X4(t:TT)(ta tb:TE):TE:=λσ H Q=>t σ H λc H1=>if c=true then ta σ H1 Q else tb σ H1 Q
theorem pJ{c:Expr}(hc:PT X c tA)(ha:PE X a ta)(hb:PE X b tb):PE X (.IfExp c a b pos) (X4 tA ta tb):=by
 intro pins s σ H Q I h
 refine wpAny_IfExp (Et (hc pins s σ H _ I h) λd s1 q0_ => ?_)
 obtain ⟨H1,I1,q1⟩ := q0_
 cases d with
 | true=>exact ha pins s1 σ H1 Q I1 q1
 | false=>exact hb pins s1 σ H1 Q I1 q1
end
def Rr(K:PySem.W.Frag)(H:Hp)(a:Addr)(xs:List V):Prop :=
 Rd H a (.lst xs) \/
  ∃(o:Obj) (its:Array Value) (n:Nat),K.lookup a=some o/\o.cls=.type "list" /\ o.dict=none/\o.data=.seq its n/\its.size<=Aq/\Ey xs its.toList
def Qs(K:PySem.W.Frag)(H:Hp)(a:Addr)(xs:List V):Prop :=
 Rd H a (.tup xs) \/
  ∃(o:Obj) (its:Array Value) (n:Nat),K.lookup a=some o/\o.cls=.type "tuple" /\ o.data=.seq its n/\its.size<=Aq/\Ey xs its.toList
def R3:Value->Option V
 | .none=>some .non
 | .bool b=>some (.bl b)
 | .int i _=>some (.int i)
 | .str x _=>some (.str x)
 | .bytes b _=>some (.byt b)
 | .float b _=>some (.flt b)
 | .ref a=>some (.ref a)
 | .type n=>some (.ty n)
 | _=>none
theorem RelV.abs{x:V}{u:Value}(r:RelV x u):R3 u=some x:=by
 cases x with
 | non=>cases r; rfl
 | bl _=>cases r; rfl
 | int _=>obtain ⟨t,rfl⟩:=r; rfl
 | str _=>obtain ⟨t,rfl⟩:=r; rfl
 | byt _=>obtain ⟨t,rfl⟩:=r; rfl
 | flt _=>obtain ⟨t,rfl⟩:=r; rfl
 | ref _=>cases r; rfl
 | ty _=>cases r; rfl
theorem RelV.inj{x y:V}{u:Value}(r:RelV x u)(q:RelV y u):x=y:=Be (r.abs.symm.trans q.abs)
theorem Ey.inj:∀{xs ys:List V} {us:List Value},Ey xs us->Ey ys us->xs=ys
 | _,_,_,.nil,.nil=>rfl
 | _,_,_,.cons r t,.cons r' t'=>by rw[r.inj r',Ey.inj t t']
section
variable{X:Cx}{pins:List (Addr×Obj)}{σ:St}{H:Hp}{s:Aj}{a:Addr}{xs ys:List V}
theorem Rr.of{K:PySem.W.Frag}(h:H a=some (.lst xs)):Rr K H a xs:=.inl (.inl h)
theorem Qs.of{K:PySem.W.Frag}(h:H a=some (.tup xs)):Qs K H a xs:=.inl (.inl h)
theorem Inv.list(I:Inv X pins σ H s)(h:Rr X.K H a xs):∃its:List Value,Ey xs its/\PlainL s.heap a its.toArray/\xs.length<=Aq:=by
 rcases h with h | ⟨o,its,n,hk,hc,hd,hs,hz,r⟩
 ·obtain ⟨z,its,n,r,e⟩:=h.ok I.hok
  exact ⟨its,r,⟨_,n,e,rfl,rfl,rfl⟩,z⟩
 ·refine ⟨its.toList,r,⟨o,n,I.kIn a o hk,hc,hd,by simpa using hs⟩,?_⟩
  have e:=r.length
  simp only[Av] at e
  omega
theorem Inv.tuple(I:Inv X pins σ H s)(h:Qs X.K H a xs):∃its:List Value,Ey xs its/\IsTup s.heap a its.toArray/\xs.length<=Aq:=by
 rcases h with h | ⟨o,its,n,hk,hc,hs,hz,r⟩
 ·obtain ⟨z,its,r,p⟩:=h.ok I.hok
  exact ⟨its,r,p,z⟩
 ·refine ⟨its.toList,r,⟨o,I.kIn a o hk,hc,n,by simpa using hs⟩,?_⟩
  have e:=r.length
  simp only[Av] at e
  omega
theorem Inv.list_inj(I:Inv X pins σ H s)(h:Rr X.K H a xs)(h':Rr X.K H a ys):xs=ys:=by
 obtain ⟨its,r,⟨o,n,e,_,_,d⟩,_⟩:=I.list h
 obtain ⟨its',r',⟨o',n',e',_,_,d'⟩,_⟩:=I.list h'
 rw[e] at e'; cases e'
 rw[d] at d'
 injection d' with d1 _
 have : its=its':=by simpa using congrArg Array.toList d1
 subst this
 exact r.inj r'
theorem Inv.tuple_inj(I:Inv X pins σ H s)(h:Qs X.K H a xs)(h':Qs X.K H a ys):xs=ys:=by
 obtain ⟨its,r,⟨o,e,_,n,d⟩,_⟩:=I.tuple h
 obtain ⟨its',r',⟨o',e',_,n',d'⟩,_⟩:=I.tuple h'
 rw[e] at e'; cases e'
 rw[d] at d'
 injection d' with d1 _
 have : its=its':=by simpa using congrArg Array.toList d1
 subst this
 exact r.inj r'
end
abbrev Cx.wish(X:Cx)(E:Value->Aj->Prop):Cx:={ X with xe:=E }
abbrev Cx.nox(X:Cx):Cx:=X.wish λ_ _=>False
theorem Cx.Ok.wish{X:Cx}(ok:X.Ok)(E:Value->Aj->Prop):(X.wish E).Ok :=
 ⟨ok.mod,ok.kind,ok.glob,ok.blt,ok.above,ok.inj,ok.has,ok.cab,ok.hd,ok.frames,ok.stk,ok.exf,ok.bs,ok.bsz,ok.noex,ok.exfs,ok.funs,ok.frf,ok.tab⟩
theorem Cx.Ok.unwish{X:Cx}{E:Value->Aj->Prop}(ok:(X.wish E).Ok):X.Ok :=
 ⟨ok.mod,ok.kind,ok.glob,ok.blt,ok.above,ok.inj,ok.has,ok.cab,ok.hd,ok.frames,ok.stk,ok.exf,ok.bs,ok.bsz,ok.noex,ok.exfs,ok.funs,ok.frf,ok.tab⟩
section
variable{X:Cx}{pins:List (Addr×Obj)}{σ:St}{H:Hp}{s:Aj}{E:Value->Aj->Prop}
theorem Inv.wish(I:Inv X pins σ H s)(E:Value->Aj->Prop):Inv (X.wish E) pins σ H s:=⟨I.ok.wish E,I.os,I.bare,I.base,I.loc,I.cell,I.free,I.freeC,I.pin,I.hok,I.len⟩
theorem Inv.unwish(I:Inv (X.wish E) pins σ H s):Inv X pins σ H s:=⟨I.ok.unwish,I.os,I.bare,I.base,I.loc,I.cell,I.free,I.freeC,I.pin,I.hok,I.len⟩
theorem SP.unwish{D:Ends}{f:Flow}{s':Aj}(h:SP (X.wish E) pins D f s'):SP X pins D f s':=by
 cases f with
 | next=>obtain ⟨σ',H',I,q⟩:=h; exact ⟨σ',H',I.unwish,q⟩
 | brk=>obtain ⟨σ',H',I,q⟩:=h; exact ⟨σ',H',I.unwish,q⟩
 | cont=>obtain ⟨σ',H',I,q⟩:=h; exact ⟨σ',H',I.unwish,q⟩
 | ret u=>obtain ⟨v,σ',H',I,r,q⟩:=h; exact ⟨v,σ',H',I.unwish,r,q⟩
theorem jN.nox{st:List Stmt}{t:TS}(h:jN X.nox st t):jN X st t:=λpins s σ H D I hw =>
 Cf (h pins s σ H D (I.wish _) hw) (λ_ _ q=>q.unwish) λ_ _ z=>Iv z
end
section
variable{X:Cx}{st:Stmt}{Gf:List Stmt}{t u:TS}{e:Expr}{te:TE}{pos:Pos}
def J3:TS:=λD σ H=>D.nx σ H
def T6(t u:TS):TS:=λD σ H=>t { D with nx:=u D } σ H
theorem lT:jN X [] J3:=λ_ _ σ H _ I h=>Sz ⟨σ,H,I,h⟩
theorem Iz(h1:PS X st t)(h2:jN X Gf u):jN X (st::Gf) (T6 t u):=by
 intro pins s σ H D I h
 refine wpAny_execs_cons (Et (h1 pins s σ H { D with nx:=u D } I h) λf s1 q=>?_)
 cases f with
 | next =>
  obtain ⟨σ',H',I',q⟩:=q
  exact h2 pins s1 σ' H' D I' q
 | ret v=>exact q
 | brk=>exact q
 | cont=>exact q
theorem Qd(h1:PS X st t):jN X [st] t:=by
 intro pins s σ H D I h
 refine wpAny_execs_cons (Et (h1 pins s σ H D I h) λf s1 q=>?_)
 cases f with
 | next=>exact Sz q
 | ret v=>exact q
 | brk=>exact q
 | cont=>exact q
theorem Inv.quiet{pins:List (Addr×Obj)}{σ:St}{H:Hp}{s:Aj}(I:Inv X pins σ H s):interactive X.env=false:=by simp [interactive,I.ok.kind]
def N9(te:TE):TS:=λD σ H=>te σ H λ_ H1=>D.nx σ H1
theorem Vo(he:PE X e te)(hs:Gj e none pos.line X.env=pure false:=by rfl):PS X (.Expr e pos) (N9 te):=by
 intro pins s σ H D I h
 exact wpAny_Expr_any (Et (he pins s σ H _ I h) λv s1 ⟨x,H1,I1,r1,q1⟩=>⟨σ,H1,I1,q1⟩) I.quiet hs
def U2(te:TE):TS:=λD σ H=>te σ H D.rt
theorem Wz(he:PE X e te):PS X (.Return (some e) pos) (U2 te):=by
 intro pins s σ H D I h
 exact wpAny_Return_some (Et (he pins s σ H _ I h) λv s1 ⟨x,H1,I1,r1,q1⟩=>⟨x,σ,H1,I1,r1,q1⟩)
def R7(c:TT)(t u:TS):TS:=λD σ H=>c σ H λb H1=>if b=true then t D σ H1 else u D σ H1
theorem yK{c:Expr}{a b:List Stmt}{tc:TT}(hc:PT X c tc)(ha:jN X a t)(hb:jN X b u):PS X (.If c a b pos) (R7 tc t u):=by
 intro pins s σ H D I h
 refine wpAny_If (Et (hc pins s σ H _ I h) λd s1 q0_ => ?_)
 obtain ⟨H1,I1,q1⟩ := q0_
 cases d with
 | true=>exact ha pins s1 σ H1 D I1 q1
 | false=>exact hb pins s1 σ H1 D I1 q1
end
abbrev TG:=V->St->Hp->(St->Hp->Prop)->Prop
abbrev vC:=List V->St->Hp->(St->Hp->Prop)->Prop
def PG(X:Cx)(target:Expr)(t:TG):Prop :=
 ∀(pins:List (Addr×Obj)) (s:Aj) (σ:St) (H:Hp) (v:V) (u:Value) (Q:St->Hp->Prop),Inv X pins σ H s->RelV v u->t v σ H Q ->
  wpAny (model X.prog X.w) X.A (Ic target X.env u) (λ_ s'=>∃σ' H',Inv X pins σ' H' s'/\Q σ' H') X.xe s
def zL(X:Cx)(ts:List Expr)(t:vC):Prop :=
 ∀(pins:List (Addr×Obj)) (s:Aj) (σ:St) (H:Hp) (vs:List V) (us:List Value) (Q:St->Hp->Prop),Inv X pins σ H s->Ey vs us->t vs σ H Q ->
  wpAny (model X.prog X.w) X.A (assignInOrder ((Ib ts X.env).map (·.2)) us) (λ_ s'=>∃σ' H',Inv X pins σ' H' s'/\Q σ' H') X.xe s
abbrev zV:=V->V->V->Hp->(Hp->Prop)->Prop
def J5(X:Cx)(t:zV):Prop :=
 ∀(pins:List (Addr×Obj)) (s:Aj) (σ:St) (H:Hp) (o i v:V) (ov iv u:Value) (Q:Hp->Prop),Inv X pins σ H s->RelV o ov->RelV i iv->RelV v u->t o i v H Q ->
  wpAny (model X.prog X.w) X.A (setItem ov iv u) (λ_ s'=>∃H',Inv X pins σ H' s'/\Q H') X.xe s
section
variable{X:Cx}{pos:Pos}
def Oo(i:Nat):TG:=λv σ H Q=>Q (σ.set i (some v)) H
theorem Ip{i:Nat}{x:Str}(hN:X.N.Nodup)(hi:X.N[i]? = some x)(hx:Loc X.env.scope x)(hf:X.fn x=true\/X.env.scope.names.lookup x=some .local:=by first | exact .inl rfl | exact .inr rfl | assumption):PG X (.Name x pos) (Oo i):=by
 intro pins s σ H v u Q I r h
 exact wpAny_assign_Name (cX I hN hi hx r (λs' I'=>⟨_,H,I',h⟩) hf)
def B2:vC:=λvs σ H Q=>vs=[]/\Q σ H
def gC(t:TG)(u:vC):vC:=λvs σ H Q=>∃v r,vs=v::r/\t v σ H λσ' H'=>u r σ' H' Q
theorem aE:zL X [] B2:=by
 intro pins s σ H vs us Q I r h
 obtain ⟨e,h⟩:=h
 subst e
 cases r
 exact assignInOrder_nil ⟨σ,H,I,h⟩
theorem Pg{e:Expr}{es:List Expr}{t:TG}{u:vC}(h1:PG X e t)(h2:zL X es u)(hs:(Ib (e::es) X.env).map (·.2)=Ic e X.env::(Ib es X.env).map (·.2):=by rfl):zL X (e::es) (gC t u):=by
 intro pins s σ H vs us Q I r h
 obtain ⟨v,vr,e1,h⟩:=h
 subst e1
 cases r with
 | cons r rr =>
  rw[hs]
  refine assignInOrder_cons (Et (h1 pins s σ H _ _ _ I r h) λ_ s1 q0_ => ?_)
  obtain ⟨σ1,H1,I1,q1⟩ := q0_
  exact h2 pins s1 σ1 H1 _ _ Q I1 rr q1
def zF(K:PySem.W.Frag)(n:Nat)(t:vC):TG:=λv σ H Q=>∃a xs,v=.ref a/\Qs K H a xs/\xs.length=n/\t xs σ H Q
theorem iZ{es:List Expr}{k:Nat}{t:vC}{n:Nat}(hc:X.calm=true)(h:zL X es t)(hn:(Ib es X.env).length=n:=by rfl)(hst:(Ib es X.env).findIdx? (·.1)=none:=by rfl):PG X (.Tuple es k pos) (zF X.K n t):=by
 intro pins s σ H v u Q I r hw
 obtain ⟨a,xs,e1,hq,hl,hw⟩:=hw
 subst e1
 cases r
 obtain ⟨its,rv,ht,hz⟩:=I.tuple hq
 refine assign_Tuple_tuple (I.ok.hd hc) ht (by simp [hn,<- hl,rv.length]) hst λh' hx=>?_
 have I1:Inv X pins σ H { s with heap:=h' }:=I.kept (t':=s.toks) λb o e=>hx b o (Cy (Bp e)) e
 exact h pins _ σ H xs _ Q I1 (by simpa using rv) hw
def Q7(to ti:TE)(t:zV):TG:=λv σ H Q=>to σ H λo H1=>ti σ H1 λi H2=>t o i v H2 λH3=>Q σ H3
theorem qP{o i:Expr}{to ti:TE}{t:zV}(ho:PE X o to)(hi:PE X i ti)(hs:J5 X t)
  (ha:∀v,Ic (.Subscript o i pos) X.env v=(do
   let ov <- Vc [v] (eval o X.env)
   let iv <- Vc [v,ov] (eval i X.env)
   Po pos
   Vc [v,ov,iv] (setItem ov iv v)
   release [v,ov,iv] []):=by intro _; rfl):PG X (.Subscript o i pos) (Q7 to ti t):=by
 intro pins s σ H v u Q I r h
 rw[ha]
 refine Ah (Ek (Et (ho pins s σ H _ I h) λov s1 q0_ => ?_))
 obtain ⟨x,H1,I1,r1,q1⟩ := q0_
 refine Ah (Ek (Et (hi pins s1 σ H1 _ I1 q1) λiv s2 q0_ => ?_))
 obtain ⟨y,H2,I2,r2,q2⟩ := q0_
 refine Ah (Fd (Ah (Ek (Et (hs pins s2 σ H2 x y v ov iv u _ I2 r1 r2 r q2) λ_ s3 q0_ => ?_))))
 obtain ⟨H3,I3,q3⟩ := q0_
 exact wpAny_release ⟨σ,H3,I3,q3⟩
def mI(te:TE)(g:TG):TS:=λD σ H=>te σ H λx H1=>g x σ H1 D.nx
theorem gR{tg e:Expr}{te:TE}{g:TG}(he:PE X e te)(hg:PG X tg g)(hs:swapsWithSole [tg] e pos.line X.env=pure false:=by rfl)(hw:swappedStores [tg] e X.env=pure none:=by rfl)(h1:(Ib [tg] X.env).map (·.2)=[Ic tg X.env]:=by rfl):PS X (.Assign [tg] e pos) (mI te g):=by
 intro pins s σ H D I h
 refine wpAny_Assign_stores (Et (he pins s σ H _ I h) λv s1 ⟨x,H1,I1,r1,q1⟩=>?_) hs hw
 rw[h1]
 exact Et (hg pins s1 σ H1 x v _ I1 r1 q1) λ_ s2 q=>q
theorem Pi{i:Nat}{x:Str}{e:Expr}{te:TE}{pos':Pos}(hN:X.N.Nodup)(hi:X.N[i]? = some x)(hx:Loc X.env.scope x)(he:PE X e te)(hs:Gj e (some (.Name x pos')) pos.line X.env=pure false:=by rfl)(hf:X.fn x=true\/X.env.scope.names.lookup x=some .local:=by first | exact .inl rfl | exact .inr rfl | assumption):PS X (.Assign [.Name x pos'] e pos) (mI te (Oo i)):=by
 intro pins s σ H D I h
 refine wpAny_Assign_Name (Et (he pins s σ H _ I h) λv s1 ⟨y,H1,I1,r1,q1⟩=>?_) hs
 exact cX I1 hN hi hx r1 (λs2 I2=>⟨_,H1,I2,q1⟩) hf
end
section
variable{X:Cx}{pos:Pos}
def B1(c:TT)(tb:TS):TS:=λD σ H=>∃W:Nat->St->Hp->Prop,(∃m,W m σ H)/\∀m σ H,W m σ H ->
 c σ H λb H1=>if b=true then ∃N:St->Hp->Prop,(∀σ' H',N σ' H'->∃m',m'<m/\W m' σ' H')/\tb { D with nx:=N,ct:=N,bk:=D.nx } σ H1 else D.nx σ H1
theorem qH{c:Expr}{body:List Stmt}{tc:TT}{tb:TS}(hp:PassesOwn (model X.prog X.w) X.A X.env X.xe)(hc:PT X c tc)(hb:jN X body tb):PS X (.While c body [] pos) (B1 tc tb):=by
 intro pins s σ H D I h
 obtain ⟨W,⟨m0,w0⟩,turn⟩:=h
 refine wpAny_While (codeAny_whileLoop (λn s'=>∃σ' H',Inv X pins σ' H' s'/\W n σ' H') ?_ m0 ⟨σ,H,I,w0⟩)
 (intro n s1 q_; obtain ⟨σ1,H1,I1,w1⟩ := q_)
 refine Iu hp (Et (hc pins s1 σ1 H1 _ I1 (turn n σ1 H1 w1)) λb s2 q0_ => ?_)
 obtain ⟨H2,I2,q2⟩ := q0_
 cases b with
 | true =>
  obtain ⟨N,hN,q2⟩:=q2
  rw[if_pos rfl]
  refine Iu hp (Et (hb pins s2 σ1 H2 _ I2 q2) λf s3 q3=>?_)
  cases f with
  | next =>
   obtain ⟨σ3,H3,I3,n3⟩:=q3
   obtain ⟨m',hm,w3⟩:=hN σ3 H3 n3
   exact ⟨m',hm,σ3,H3,I3,w3⟩
  | cont =>
   obtain ⟨σ3,H3,I3,n3⟩:=q3
   obtain ⟨m',hm,w3⟩:=hN σ3 H3 n3
   exact ⟨m',hm,σ3,H3,I3,w3⟩
  | brk=>exact q3
  | ret v=>exact q3
 | false =>
  rw[if_neg Cb]
  exact Sz ⟨σ1,H2,I2,q2⟩
end
structure It where
 go:Nat->Hp->Prop
 yld:Nat->Hp->V->Hp->Prop
 stop:Nat->Hp->Prop
def Lh(X:Cx)(pins:List (Addr×Obj))(H:Hp)(b:Addr):Prop :=
 H b=none/\b≠X.env.locals/\b∉X.fs/\(b∈X.ex\/X.s₀.heap.objs.size<=b)/\(∀x c,X.env.cells.lookup x=some c->c≠b)/\∀p∈X.pn++pins,p.1≠b
theorem Inv.fpOk{X:Cx}{pins:List (Addr×Obj)}{σ:St}{H H':Hp}{s:Aj}{b:Addr}(I:Inv X pins σ H s)(hb:s.heap.objs.size<=b)(hn:H' b=none):Lh X pins H' b:=by
 refine ⟨hn,Nat.ne_of_gt (Bz I.lt hb),I.nofs hb,.inr (Bv I.sz hb),λx c e z=>?_,λp hp z=>?_⟩
 ·obtain ⟨v,q⟩:=I.cell x c e
  exact absurd (Bz q.lt (by rw[z]; exact hb)) (Gd _)
 ·exact absurd (Bz (Bp (I.pin p hp).1) (by rw[z]; exact hb)) (Gd _)
structure Turn(P:Bx)(w:World)(K:PySem.W.Frag)(tg:Expr)(J:It)(fp:List Addr)(it:Addr)(tn:Nat->Heap->Prop):Prop where
 mem:it∈fp
 obj:∀i h,tn i h->∀b∈fp,∃o,h.get? b=some o/\∀v,o.data≠.cell v
 keep:∀i h h',tn i h->(∀b∈fp,∀o,h.get? b=some o->h'.get? b=some o)->tn i h'
 item:∀(X:Cx),X.prog=P->X.w=w->X.K=K->X.calm=true->∀(i:Nat) (pins:List (Addr×Obj)) (s:Aj) (σ:St) (H:Hp) (E:Value->Aj->Prop),Inv X pins σ H s->(∀b∈fp,Lh X pins H b)->tn i s.heap->J.go i H ->
  wpAny (model P w) X.A (pyNext (.ref it)) (λr s1=>∃u,r=some u /\
   wpAny (model P w) X.A (Gc tg (.ref it) u) (λ_ s2=>∃x H',Inv X pins σ H' s2/\RelV x u/\J.yld i H x H'/\tn (i+1) s2.heap/\∀b∈fp,H' b=none) E s1) E s
 done:∀(X:Cx),X.prog=P->X.w=w->X.K=K->X.calm=true->∀(i:Nat) (pins:List (Addr×Obj)) (s:Aj) (σ:St) (H:Hp) (E:Value->Aj->Prop),Inv X pins σ H s->(∀b∈fp,Lh X pins H b)->tn i s.heap->J.stop i H ->
  wpAny (model P w) X.A (pyNext (.ref it)) (λr s1=>r=none/\Inv X pins σ H s1) E s
 self:∀(A:Cs) (i:Nat) (s:Aj) (Q:Value->Aj->Prop) (E:Value->Aj->Prop),tn i s.heap->Q (.ref it) s->wpAny (model P w) A (pyIter (.ref it)) Q E s
abbrev TI:=St->Hp->(It->Hp->Prop)->Prop
def U9(X:Cx)(pins:List (Addr×Obj))(σ:St)(tg:Expr)(R:It->Hp->Prop)(itv:Value)(s2:Aj):Prop :=
 ∃(it:Addr) (fp:List Addr) (tn:Nat->Heap->Prop) (J:It) (H':Hp),itv=.ref it/\Inv X pins σ H' s2/\Turn X.prog X.w X.K tg J fp it tn/\tn 0 s2.heap/\(∀b∈fp,Lh X pins H' b)/\R J H'
def PI(X:Cx)(tg iter:Expr)(wi:TI):Prop :=
 ∀(pins:List (Addr×Obj)) (s:Aj) (σ:St) (H:Hp) (R:It->Hp->Prop),Inv X pins σ H s->wi σ H R ->
  wpAny (model X.prog X.w) X.A (eval iter X.env) (λv s1=>wpAny (model X.prog X.w) X.A (pyIter v) (U9 X pins σ tg R) X.xe s1) X.xe s
theorem sZ{M:Model}{A:Cs}{E:Value->Aj->Prop}{s:Aj}{tg:Expr}{it:Addr}{u:Value}{o:Obj}{n:String}{vs:Array Value}{Q:Unit->Aj->Prop}(ho:s.heap.get? it=some o)(hc:o.cls=.type n)(hd:o.data=.fields vs)(hn:["enumerate", "zip", "dict_itemiterator", "dict_reverseitemiterator", "odict_iterator", "itertools.zip_longest", "itertools.pairwise"].contains n=false)(hQ:Q () s):wpAny M A (Gc tg (.ref it) u) Q E s:=by
  unfold Gc
  cases tg <;> first
    | exact Aw hQ
    | (cases u <;> first
        | exact Aw hQ
        | (refine Ah (wpAny_load ho ?_)
           rw[hc,hd]
           show wpAny M A (if (["enumerate", "zip", "dict_itemiterator", "dict_reverseitemiterator", "odict_iterator", "itertools.zip_longest", "itertools.pairwise"].contains n && vs[0]? == some (rawInt _))=true then _ else _) Q E s
           rw[if_neg (by intro h; rw[hn,Bool.false_and] at h; cases h)]
           exact Aw hQ))
def P7(K:PySem.W.Frag)(a:Addr):It :=
 ⟨λi H=>∃xs x,Rr K H a xs/\xs[i]? = some x,λi H x H'=>H'=H/\∀xs,Rr K H a xs->xs[i]? = some x,λi H=>∃xs,Rr K H a xs/\xs.length<=i⟩
def R0(K:PySem.W.Frag)(a:Addr):It :=
 ⟨λi H=>∃xs x,Qs K H a xs/\xs[i]? = some x,λi H x H'=>H'=H/\∀xs,Qs K H a xs->xs[i]? = some x,λi H=>∃xs,Qs K H a xs/\xs.length<=i⟩
def yZ(lo:Int)(n:Nat):It:=⟨λi _=>i<n,λi H x H'=>H'=H/\x=.int (lo+i),λi _=>n<=i⟩
theorem nM{P:Bx}{w:World}{K:PySem.W.Frag}{tg:Expr}(a it:Addr):Turn P w K tg (P7 K a) [it] it (λi h=>h.IsListIter it a i) where
 mem:=by simp
 obj:=λi h st b hb=>by
  have e:b=it:=by simpa using hb
  subst e
  obtain ⟨o,e,c,d⟩:=st
  exact ⟨o,e,λv z=>by rw[d] at z; cases z⟩
 keep:=λi h h' st k=>st.at λo e=>k it (by simp) o e
 item:=by
  intro X hP hw hK hc i pins s σ H E I hf st hg
  subst hP hw hK
  obtain ⟨xs,x,hq,hx⟩:=hg
  obtain ⟨its,rv,p,hz⟩:=I.list hq
  obtain ⟨u,hu,ru⟩:=rv.get hx
  obtain ⟨f0,f1,f2,f3,f4,f5⟩:=hf it (by simp)
  refine wpAny_pyNext_list_item st p.isList (x:=u) (by simpa using hu) λh' st' sb=>?_
  have I1:Inv X pins σ H { s with heap:=h' }:=I.turned (t':=s.toks) (λb o hb e=>(sb.2 b hb).trans e) f0 f1 f3 f4 f5
  obtain ⟨o,e,c,d⟩:=id st'
  exact ⟨u,rfl,sZ (s:={ s with heap:=h' }) e c d (by decide) ⟨x,H,I1,ru,⟨rfl,λys hy=>by rw[I.list_inj hy hq]; exact hx⟩,st',λb hb=>(hf b hb).1⟩⟩
 done:=by
  intro X hP hw hK hc i pins s σ H E I hf st hg
  subst hP hw hK
  obtain ⟨xs,hq,hx⟩:=hg
  obtain ⟨its,rv,p,hz⟩:=I.list hq
  obtain ⟨f0,f1,f2,f3,f4,f5⟩:=hf it (by simp)
  have hl:=rv.length
  exact wpAny_pyNext_list_end (I.ok.hd hc) st p.isList (by simp; omega) λh' eb=>⟨rfl,I.turned (t':=s.toks) (λb o hb e=>eb b o hb e) f0 f1 f3 f4 f5⟩
 self:=λ_ _ _ _ _ st h=>wpAny_pyIter_listiter st h
theorem jT{P:Bx}{w:World}{K:PySem.W.Frag}{tg:Expr}(a it:Addr):Turn P w K tg (R0 K a) [it] it (λi h=>h.IsTupleIter it a i) where
 mem:=by simp
 obj:=λi h st b hb=>by
  have e:b=it:=by simpa using hb
  subst e
  obtain ⟨o,e,c,d⟩:=st
  exact ⟨o,e,λv z=>by rw[d] at z; cases z⟩
 keep:=λi h h' st k=>st.at λo e=>k it (by simp) o e
 item:=by
  intro X hP hw hK hc i pins s σ H E I hf st hg
  subst hP hw hK
  obtain ⟨xs,x,hq,hx⟩:=hg
  obtain ⟨its,rv,p,hz⟩:=I.tuple hq
  obtain ⟨u,hu,ru⟩:=rv.get hx
  obtain ⟨f0,f1,f2,f3,f4,f5⟩:=hf it (by simp)
  refine wpAny_pyNext_tuple_item st (show s.heap.IsTuple a its.toArray from p) (x:=u) (by simpa using hu) λh' st' sb=>?_
  have I1:Inv X pins σ H { s with heap:=h' }:=I.turned (t':=s.toks) (λb o hb e=>(sb.2 b hb).trans e) f0 f1 f3 f4 f5
  obtain ⟨o,e,c,d⟩:=id st'
  exact ⟨u,rfl,sZ (s:={ s with heap:=h' }) e c d (by decide) ⟨x,H,I1,ru,⟨rfl,λys hy=>by rw[I.tuple_inj hy hq]; exact hx⟩,st',λb hb=>(hf b hb).1⟩⟩
 done:=by
  intro X hP hw hK hc i pins s σ H E I hf st hg
  subst hP hw hK
  obtain ⟨xs,hq,hx⟩:=hg
  obtain ⟨its,rv,p,hz⟩:=I.tuple hq
  obtain ⟨f0,f1,f2,f3,f4,f5⟩:=hf it (by simp)
  have hl:=rv.length
  exact wpAny_pyNext_tuple_end (I.ok.hd hc) st (show s.heap.IsTuple a its.toArray from p) (by simp; omega) λh' eb=>⟨rfl,I.turned (t':=s.toks) (λb o hb e=>eb b o hb e) f0 f1 f3 f4 f5⟩
 self:=λ_ _ _ _ _ st h=>wpAny_pyIter_tupleiter st h
theorem iU{P:Bx}{w:World}{K:PySem.W.Frag}{tg:Expr}(it:Addr)(lo:Int)(n:Nat):Turn P w K tg (yZ lo n) [it] it (λi h=>IsRangeIter h it (lo+(i:Nat) * 1) ((n:Int) - (i:Nat)) 1) where
 mem:=by simp
 obj:=λi h st b hb=>by
  have e:b=it:=by simpa using hb
  subst e
  exact ⟨_,st,λv z=>by
   have z':Data.fields _=Data.cell v:=z
   cases z'⟩
 keep:=λi h h' st k=>k it (by simp) _ st
 item:=by
  intro X hP hw hK hc i pins s σ H E I hf st hg
  subst hP hw hK
  obtain ⟨f0,f1,f2,f3,f4,f5⟩:=hf it (by simp)
  have W:=Walks.range (prog:=X.prog) (w:=X.w) (I.ok.hd hc) it lo 1 n
  refine W.item i s _ _ hg st λv h' tk hv st' kk=>?_
  obtain ⟨t,rfl⟩:=hv
  have I1:Inv X pins σ H { s with heap:=h',toks:=tk }:=I.turned (λb o hb e=>kk b o (by simpa using hb) e) f0 f1 f3 f4 f5
  refine ⟨_,rfl,sZ (s:={ s with heap:=h',toks:=tk }) (n := "range_iterator") st' rfl rfl (by decide) ⟨.int (lo+i),H,I1,⟨t,?_⟩,⟨rfl,rfl⟩,st',λb hb=>(hf b hb).1⟩⟩
  rw[Int.mul_one]
 done:=by
  intro X hP hw hK hc i pins s σ H E I hf st hg
  subst hP hw hK
  obtain ⟨f0,f1,f2,f3,f4,f5⟩:=hf it (by simp)
  exact wpAny_pyNext_range_end (I.ok.hd hc) st (by have : n<=i:=hg; omega) λh' eb=>⟨rfl,I.turned (t':=s.toks) (λb o hb e=>eb b o hb e) f0 f1 f3 f4 f5⟩
 self:=λ_ _ _ _ _ st h=>wpAny_pyIter_rangeiter st h
section
variable{X:Cx}{tg:Expr}
def N4(K:PySem.W.Frag)(tl:TE):TI:=λσ H R=>tl σ H λx H1=>∃a,x=.ref a/\(∃xs,Rr K H1 a xs)/\R (P7 K a) H1
def T4(K:PySem.W.Frag)(tl:TE):TI:=λσ H R=>tl σ H λx H1=>∃a,x=.ref a/\(∃xs,Qs K H1 a xs)/\R (R0 K a) H1
theorem lR{l:Expr}{tl:TE}(hl:PE X l tl):PI X tg l (N4 X.K tl):=by
 intro pins s σ H R I h
 refine Et (hl pins s σ H _ I h) λv s1 q0_ => ?_
 obtain ⟨x,H1,I1,r1,q1⟩ := q0_
 obtain ⟨a,e,⟨xs,hq⟩,q⟩:=q1
 subst e
 cases r1
 obtain ⟨its,rv,p,hz⟩:=I1.list hq
 refine wpAny_pyIter_list p.isList ?_
 refine ⟨s1.heap.objs.size,[s1.heap.objs.size],_,_,H1,rfl,I1.kept (t':=s1.toks) λb o e=>Ao _ e,nM a _,⟨_,Bn _ rfl,rfl,rfl⟩,λb hb=>?_,q⟩
 have e:b=s1.heap.objs.size:=by simpa using hb
 subst e
 exact I1.fpOk (Ai _) (I1.hok.fresh (Ai _))
theorem b0{l:Expr}{tl:TE}(hl:PE X l tl):PI X tg l (T4 X.K tl):=by
 intro pins s σ H R I h
 refine Et (hl pins s σ H _ I h) λv s1 q0_ => ?_
 obtain ⟨x,H1,I1,r1,q1⟩ := q0_
 obtain ⟨a,e,⟨xs,hq⟩,q⟩:=q1
 subst e
 cases r1
 obtain ⟨its,rv,p,hz⟩:=I1.tuple hq
 refine wpAny_pyIter_tuple (show s1.heap.IsTuple a its.toArray from p) ?_
 refine ⟨s1.heap.objs.size,[s1.heap.objs.size],_,_,H1,rfl,I1.kept (t':=s1.toks) λb o e=>Ao _ e,jT a _,⟨_,Bn _ rfl,rfl,rfl⟩,λb hb=>?_,q⟩
 have e:b=s1.heap.objs.size:=by simpa using hb
 subst e
 exact I1.fpOk (Ai _) (I1.hok.fresh (Ai _))
theorem qZ{pins:List (Addr×Obj)}{σ:St}{H:Hp}{s:Aj}{R:It->Hp->Prop}{E:Value->Aj->Prop}{lo hi:Int}{t u v:Tok}{tk:Nat}(I:Inv X pins σ H s)(h1:-(2 ^ 62)<=lo)(h2:lo<2 ^ 62)(h3:-(2 ^ 62)<=hi)(h4:hi<2 ^ 62)(q:R (yZ lo (hi - lo).toNat) H):wpAny (model X.prog X.w) X.A (pyIter (.ref s.heap.objs.size)) (U9 X pins σ tg R) E { s with heap:=s.heap.push { cls:=.type "range",data:=.fields #[.int lo t,.int hi u,.int 1 v] },toks:=tk }:=by
 refine wpAny_pyIter_range (IsRange.new ..) (small_one h1 h2 h3 h4) ?_
 have I1:Inv X pins σ H { s with heap:=s.heap.push { cls:=.type "range",data:=.fields #[.int lo t,.int hi u,.int 1 v] },toks:=tk }:=I.kept λb o e=>Ao _ e
 refine ⟨(s.heap.push { cls:=.type "range",data:=.fields #[.int lo t,.int hi u,.int 1 v] }).objs.size,[(s.heap.push { cls:=.type "range",data:=.fields #[.int lo t,.int hi u,.int 1 v] }).objs.size],_,_,H,rfl,
  I1.kept (t':=tk) λb o e=>Ao _ e,iU _ lo (hi - lo).toNat,?_,λb hb=>?_,q⟩
 ·have e1:lo+((0:Nat):Int) * 1=lo:=by simp
  have e2:(((hi - lo).toNat:Nat):Int) - ((0:Nat):Int)=Builtin.Range.rangeSize lo hi 1:=by rw[rangeSize_one]; split <;> omega
  show IsRangeIter _ _ (lo+((0:Nat):Int) * 1) ((((hi - lo).toNat:Nat):Int) - ((0:Nat):Int)) 1
  rw[e1,e2]
  exact Bn _ rfl
 ·have e:b=(s.heap.push { cls:=.type "range",data:=.fields #[.int lo t,.int hi u,.int 1 v] }).objs.size:=by simpa using hb
  subst e
  exact I1.fpOk (Ai _) (I1.hok.fresh (Ai _))
def K5(ta:TA):TI:=λσ H R=>ta σ H λvs H1=>∃j:Int,vs=[.int j] /\ -(2 ^ 62)<=j/\j<2 ^ 62/\R (yZ 0 j.toNat) H1
theorem Zn{a:Expr}{ta:TA}{p pos:Pos}(hg:Gl X "range")(hm:X.mg "range" = none)(ha:PA X [a] ta)(hs:Bf [a] X.env=[(false,eval a X.env)]:=by rfl):PI X tg (.Call (.Name "range" p) [a] [] pos) (K5 ta):=by
 intro pins s σ H R I h
 refine Call_ (Of I hg hm boot_range (Kq (Et (ha pos pins s σ H _ I h) λus s1 ⟨vs,H1,I1,r1,q1⟩=>?_) hs rfl))
 obtain ⟨j,e,q1,q2,q⟩:=q1
 subst e
 cases r1 with
 | cons r rr =>
  cases rr
  obtain ⟨t,rfl⟩:=r
  exact call_range_1 (qZ I1 (by omega) (by omega) q1 q2 (by simpa using q))
def T5(wi:TI)(g:TG)(tb:TS):TS:=λD σ H=>wi σ H λJ H1=>∃W:Nat->Nat->St->Hp->Prop,(∃m,W 0 m σ H1)/\∀i m σ H,W i m σ H ->
 (J.stop i H/\D.nx σ H)\/(J.go i H/\∃N:St->Hp->Prop,(∀σ' H',N σ' H'->∃m',m'<m/\W (i+1) m' σ' H')/\∀x H',J.yld i H x H'->g x σ H' λσ2 H2=>tb { D with nx:=N,ct:=N,bk:=D.nx } σ2 H2)
def Lu(fp:List Addr)(h:Heap):List (Addr×Obj):=fp.filterMap λb=>(h.get? b).map λo=>(b,o)
theorem Em{fp:List Addr}{h:Heap}{b:Addr}{o:Obj}(hb:b∈fp)(e:h.get? b=some o):(b,o)∈Lu fp h:=uH.mpr ⟨b,hb,by rw[e]; rfl⟩
theorem nP{fp:List Addr}{h:Heap}{p:Addr×Obj}(hp:p∈Lu fp h):p.1∈fp/\h.get? p.1=some p.2:=by
 obtain ⟨b,hb,e⟩:=List.mem_filterMap.mp hp
 cases q:h.get? b with
 | none=>rw[q] at e; cases e
 | some o =>
  rw[q] at e
  have e':(b,o)=p:=Be e
  subst e'
  exact ⟨hb,q⟩
theorem Inv.pinned{pins:List (Addr×Obj)}{σ:St}{H:Hp}{s:Aj}{fp:List Addr}(I:Inv X pins σ H s)(hf:∀b∈fp,Lh X pins H b)(ho:∀b∈fp,∃o,s.heap.get? b=some o/\∀v,o.data≠.cell v):Inv X (pins++Lu fp s.heap) σ H s :=
 I.pins_of λp hp=>(An.mp hp).elim (λz=>I.pin p (Ad _ z)) λz=>by
  obtain ⟨hb,e⟩:=nP z
  obtain ⟨f0,f1,f2,_⟩:=hf p.1 hb
  obtain ⟨o,e',d⟩:=ho p.1 hb
  rw[e] at e'; cases e'
  exact ⟨e,f0,f1,f2,d⟩
theorem Inv.unpinned{pins pl:List (Addr×Obj)}{σ:St}{H:Hp}{s:Aj}(I:Inv X (pins++pl) σ H s):Inv X pins σ H s:=I.pins_of λp hp=>I.pin p (Ad _ (Ag _ hp))
theorem tI{iter:Expr}{body:List Stmt}{wi:TI}{g:TG}{tb:TS}{pos:Pos}(hp:PassesOwn (model X.prog X.w) X.A X.env X.xe)(hc:X.calm=true)(hi:PI X tg iter wi)(hg:PG X tg g)(hb:jN X body tb)(hs:∀x,Cg iter X.env x=pure x:=by intro _; rfl):PS X (.For tg iter body [] pos) (T5 wi g tb):=by
 intro pins s σ H D I h
 refine wpAny_For (Et (hi pins s σ H _ I h) λv s1 h1=>Et h1 λitv s2 h2=>?_) hs
 obtain ⟨it,fp,tn,J,H2,e,I2,T,st2,f2,W,⟨m0,w0⟩,turn⟩:=h2
 subst e
 -- what stays true of the iterator's objects through the loop
 have stat:∀{H':Hp},(∀b∈fp,H' b=none)->∀b∈fp,Lh X pins H' b:=λhn b hb=>⟨hn b hb,(f2 b hb).2⟩
 refine codeAny_forLoop_any (λn s'=>∃i σ' H',Inv X pins σ' H' s'/\tn i s'.heap/\(∀b∈fp,H' b=none)/\W i n σ' H') ?_ m0 ⟨0,σ,H2,I2,st2,λb hb=>(f2 b hb).1,w0⟩
 (intro n s3 q_; obtain ⟨i,σ3,H3,I3,Oh,fr3,w3⟩ := q_)
 rcases turn i n σ3 H3 w3 with ⟨stop,qn⟩ | ⟨go,N,hN,step⟩
 ·refine Iu hp (Et (T.done X rfl rfl rfl hc i pins s3 σ3 H3 X.xe I3 (stat fr3) Oh stop) λr s4 q0_ => ?_)
  obtain ⟨hr,I4⟩ := q0_
  subst hr
  exact Sz ⟨σ3,H3,I4,qn⟩
 ·refine Iu hp (Et (T.item X rfl rfl rfl hc i pins s3 σ3 H3 X.xe I3 (stat fr3) Oh go) λr s4 q0_ => ?_)
  obtain ⟨u,hr,h4⟩ := q0_
  subst hr
  refine Iu hp (Et h4 λ_ s5 q0_ => ?_)
  obtain ⟨x,H5,I5,r5,y5,st5,fr5⟩ := q0_
  have I5':=I5.pinned (stat fr5) (T.obj _ _ st5)
  refine Iu hp (Et (hg _ s5 σ3 H5 x u _ I5' r5 (step x H5 y5)) λ_ s6 q0_ => ?_)
  obtain ⟨σ6,H6,I6,q6⟩ := q0_
  refine Iu hp (Et (hb _ s6 σ6 H6 _ I6 q6) λf s7 q7=>?_)
  have again:∀{σ7:St} {H7:Hp},Inv X (pins++Lu fp s5.heap) σ7 H7 s7->N σ7 H7->∃m,m<n/\∃i σ' H',Inv X pins σ' H' s7/\tn i s7.heap/\(∀b∈fp,H' b=none)/\W i m σ' H':=λ{σ7 H7} I7 n7=>by
   obtain ⟨m',hm,w7⟩:=hN σ7 H7 n7
   refine ⟨m',hm,i+1,σ7,H7,I7.unpinned,T.keep _ _ _ st5 λb hb o e=>(I7.pin (b,o) (Ad _ (Ad _ (Em hb e)))).1,λb hb=>?_,w7⟩
   obtain ⟨o,e,d⟩:=T.obj _ _ st5 b hb
   exact (I7.pin (b,o) (Ad _ (Ad _ (Em hb e)))).2.1
  cases f with
  | next=>obtain ⟨σ7,H7,I7,n7⟩:=q7; exact again I7 n7
  | cont=>obtain ⟨σ7,H7,I7,n7⟩:=q7; exact again I7 n7
  | brk=>obtain ⟨σ7,H7,I7,q7⟩:=q7; exact ⟨σ7,H7,I7.unpinned,q7⟩
  | ret v=>obtain ⟨x7,σ7,H7,I7,r7,q7⟩:=q7; exact ⟨x7,σ7,H7,I7.unpinned,r7,q7⟩
end
theorem oA{lo:Int}{n:Nat}{g:TG}{tb:TS}{D:Ends}{σ:St}{H:Hp}(Pv:Nat->St->Hp->Prop)(h0:Pv 0 σ H)(hs:∀i σ H,i<n->Pv i σ H->g (.int (lo+i)) σ H λσ2 H2=>tb { D with nx:=Pv (i+1),ct:=Pv (i+1),bk:=D.nx } σ2 H2)(hd:∀σ H,Pv n σ H->D.nx σ H):∃W:Nat->Nat->St->Hp->Prop,(∃m,W 0 m σ H)/\∀i m σ H,W i m σ H->((yZ lo n).stop i H/\D.nx σ H)\/((yZ lo n).go i H/\∃N:St->Hp->Prop,(∀σ' H',N σ' H'->∃m',m'<m/\W (i+1) m' σ' H')/\∀x H',(yZ lo n).yld i H x H'->g x σ H' λσ2 H2=>tb { D with nx:=N,ct:=N,bk:=D.nx } σ2 H2):=by
 refine ⟨λi m σ H=>m=n - i/\i<=n/\Pv i σ H,⟨n,by simp,Dl _,h0⟩,?_⟩
 (intro i m σ H q_; obtain ⟨rfl,hi,p⟩ := q_)
 by_cases hlt:i<n
 ·refine .inr ⟨hlt,Pv (i+1),λσ' H' p'=>⟨n - (i+1),by omega,rfl,hlt,p'⟩,λx H' y=>?_⟩
  obtain ⟨e,y⟩:=y
  subst e y
  exact hs i σ _ hlt p
 ·have e:i=n:=by omega
  subst e
  exact .inl ⟨Ai _,hd σ H p⟩
abbrev R2:=V->V->Hp->VK->Prop
def Va(X:Cx)(f:Value->Value->Sem Value)(r:R2):Prop :=
 ∀(pins:List (Addr×Obj)) (s:Aj) (σ:St) (H:Hp) (x y:V) (v u:Value) (Q:VK),Inv X pins σ H s->RelV x v->RelV y u->r x y H Q ->
  wpAny (model X.prog X.w) X.A (f v u) (EP X pins σ Q) X.xe s
def T8(X:Cx)(f:Value->Sem Value)(r:V->Hp->VK->Prop):Prop :=
 ∀(pins:List (Addr×Obj)) (s:Aj) (σ:St) (H:Hp) (x:V) (v:Value) (Q:VK),Inv X pins σ H s->RelV x v->r x H Q ->
  wpAny (model X.prog X.w) X.A (f v) (EP X pins σ Q) X.xe s
def Nu(X:Cx)(f:Value)(r:List V->Hp->VK->Prop):Prop :=
 ∀(pins:List (Addr×Obj)) (s:Aj) (σ:St) (H:Hp) (xs:List V) (us:List Value) (Q:VK),Inv X pins σ H s->Ey xs us->r xs H Q ->
  wpAny (model X.prog X.w) X.A (call f us) (EP X pins σ Q) X.xe s
def Q5(X:Cx)(r:V->Hp->(Bool->Hp->Prop)->Prop):Prop :=
 ∀(pins:List (Addr×Obj)) (s:Aj) (σ:St) (H:Hp) (x:V) (v:Value) (Q:Bool->Hp->Prop),Inv X pins σ H s->RelV x v->r x H Q ->
  wpAny (model X.prog X.w) X.A (truthy v) (TP X pins σ Q) X.xe s
def O3(r:R2)(ta tb:TE):TE:=λσ H Q=>ta σ H λx H1=>tb σ H1 λy H2=>r x y H2 Q
def X1(r:V->Hp->VK->Prop)(ta:TE):TE:=λσ H Q=>ta σ H λx H1=>r x H1 Q
def rI(C:Int->Int->Prop)(g:Int->Int->V):R2:=λx y H Q=>∃i j,x=.int i/\y=.int j/\C i j/\Q (g i j) H
def zX(g:Int->Int->V):R2:=λx y H Q=>∃i j,x=.int i/\y=.int j/\Q (g i j) H
def rU(g:Int->V):V->Hp->VK->Prop:=λx H Q=>∃i,x=.int i/\Q (g i) H
section
variable{X:Cx}{a b c:Expr}{ta tb tc:TE}{pos:Pos}
theorem x8(ha:PE X a ta)(hb:PE X b tb){pins:List (Addr×Obj)}{s:Aj}{σ:St}{H:Hp}{R:V->V->Hp->Prop}(I:Inv X pins σ H s)(h:ta σ H λx H1=>tb σ H1 λy H2=>R x y H2){Q:Value->Aj->Prop}{f:Value->Value->Sem Value}(hf:∀v u s2 x y H2,Inv X pins σ H2 s2->RelV x v->RelV y u->R x y H2->wpAny (model X.prog X.w) X.A (f v u) Q X.xe s2):wpAny (model X.prog X.w) X.A (eval a X.env) (λv s₁=>wpAny (model X.prog X.w) X.A (eval b X.env) (λu s₂=>wpAny (model X.prog X.w) X.A (f v u) Q X.xe s₂) X.xe s₁) X.xe s:=by
 refine Et (ha pins s σ H _ I h) λv s1 q0_ => ?_
 obtain ⟨x,H1,I1,r1,q1⟩ := q0_
 refine Et (hb pins s1 σ H1 _ I1 q1) λu s2 q0_ => ?_
 obtain ⟨y,H2,I2,r2,q2⟩ := q0_
 exact hf v u s2 x y H2 I2 r1 r2 q2
theorem Ir{op:Operator}{r:R2}(ho:Va X (Kc op) r)(ha:PE X a ta)(hb:PE X b tb):PE X (.BinOp a op b pos) (O3 r ta tb):=by
 intro pins s σ H Q I h
 exact wpAny_BinOp (x8 ha hb I h λv u s2 x y H2 I2 rx ry q=>ho pins s2 σ H2 x y v u Q I2 rx ry q)
theorem F6{op:UnaryOp}{r:V->Hp->VK->Prop}(ho:T8 X (unaryOp op) r)(ha:PE X a ta):PE X (.UnaryOp op a pos) (X1 r ta):=by
 intro pins s σ H Q I h
 exact UnaryOp_ (Et (ha pins s σ H _ I h) λv s1 ⟨x,H1,I1,r1,q1⟩=>ho pins s1 σ H1 x v Q I1 r1 q1)
theorem P9{f:Value->Value->Sem Value}{C:Int->Int->Prop}{g:Int->Int->Int}(rule:∀(i j:Int) (t u:Tok) (s:Aj) (Q:Value->Aj->Prop) (E:Value->Aj->Prop),C i j->Q (.int (g i j) s.toks) { s with toks:=s.toks+1 }->wpAny (model X.prog X.w) X.A (f (.int i t) (.int j u)) Q E s):Va X f (rI C λi j=>.int (g i j)):=by
 intro pins s σ H x y v u Q I rx ry h
 obtain ⟨i,j,rfl,rfl,hc,q⟩:=h
 obtain ⟨t,rfl⟩:=rx
 obtain ⟨t',rfl⟩:=ry
 exact rule i j t t' s _ _ hc ⟨.int (g i j),H,I.tok _,⟨_,rfl⟩,q⟩
theorem R1{f:Value->Value->Sem Value}{g:Int->Int->Int}(rule:∀(i j:Int) (t u:Tok) (s:Aj) (Q:Value->Aj->Prop) (E:Value->Aj->Prop),Q (.int (g i j) s.toks) { s with toks:=s.toks+1 }->wpAny (model X.prog X.w) X.A (f (.int i t) (.int j u)) Q E s):Va X f (zX λi j=>.int (g i j)):=by
 intro pins s σ H x y v u Q I rx ry h
 obtain ⟨i,j,rfl,rfl,q⟩:=h
 obtain ⟨t,rfl⟩:=rx
 obtain ⟨t',rfl⟩:=ry
 exact rule i j t t' s _ _ ⟨.int (g i j),H,I.tok _,⟨_,rfl⟩,q⟩
theorem i9{f:Value->Value->Sem Value}{g:Int->Int->Bool}(rule:∀(i j:Int) (t u:Tok) (s:Aj) (Q:Value->Aj->Prop) (E:Value->Aj->Prop),Q (.bool (g i j)) s->wpAny (model X.prog X.w) X.A (f (.int i t) (.int j u)) Q E s):Va X f (zX λi j=>.bl (g i j)):=by
 intro pins s σ H x y v u Q I rx ry h
 obtain ⟨i,j,rfl,rfl,q⟩:=h
 obtain ⟨t,rfl⟩:=rx
 obtain ⟨t',rfl⟩:=ry
 exact rule i j t t' s _ _ ⟨.bl (g i j),H,I,rfl,q⟩
def t9(i j:Int):Prop:=0<j/\j<1073741824
def T1(i j:Int):Prop:=0<=j/\j<=1000000/\i.natAbs<2 ^ 64
def M5(i j:Int):Prop:=(-(2 ^ 64)<i/\i<2 ^ 64)\/(-(2 ^ 64)<j/\j<2 ^ 64)
theorem M5.ok{i j:Int}(h:M5 i j):IntMulOk i j:=by
 rcases h with ⟨h1,h2⟩ | ⟨h1,h2⟩
 ·exact .of_left (intBits_le_64 h1 h2)
 ·exact .of_right (intBits_le_64 h1 h2)
theorem Xe:Va X (Kc .Add) (zX λi j=>.int (i+j)):=R1 λ_ _ _ _ _ _ _ q=>add_int q
theorem Vy:Va X (Kc .Mult) (rI M5 λi j=>.int (i * j)):=P9 λ_ _ _ _ _ _ _ hc q=>mul_int q hc.ok
theorem bA:Va X (Kc .FloorDiv) (rI t9 λi j=>.int (i / j)):=P9 λi j _ _ _ _ _ hc q=>by
 have h1:(0:Int)<j:=hc.1
 have h2:j<1073741824:=hc.2
 exact floordiv_int (by omega) (by rw[Int.fdiv_eq_ediv_of_nonneg i (by omega)]; exact q) (.inl (PyProof.noPylong_small (by omega)))
theorem Uh:Va X (Kc .Mod) (rI (λ_ j=>0<j) λi j=>.int (i % j)):=P9 λi j _ _ _ _ _ hc q=>by
 have h1:(0:Int)<j:=hc
 exact mod_int' (by omega) (by rw[Int.fmod_eq_emod_of_nonneg i (by omega)]; exact q)
theorem jF:Va X (Kc .Pow) (rI T1 λi j=>.int (i ^ j.toNat)):=P9 λ_ _ _ _ _ _ _ hc q=>pow_int_small hc.1 hc.2.1 hc.2.2 q
theorem Y0{f:Value->Sem Value}{g:Int->Int}(rule:∀(i:Int) (t:Tok) (s:Aj) (Q:Value->Aj->Prop) (E:Value->Aj->Prop),Q (.int (g i) s.toks) { s with toks:=s.toks+1 }->wpAny (model X.prog X.w) X.A (f (.int i t)) Q E s):T8 X f (rU λi=>.int (g i)):=by
 intro pins s σ H x v Q I rx h
 obtain ⟨i,rfl,q⟩:=h
 obtain ⟨t,rfl⟩:=rx
 exact rule i t s _ _ ⟨.int (g i),H,I.tok _,⟨_,rfl⟩,q⟩
theorem w8:T8 X (unaryOp .USub) (rU λi=>.int (-i)):=Y0 λ_ _ _ _ _ q=>neg_int q
end
section
variable{X:Cx}{a b c:Expr}{ta tb tc:TE}{pos:Pos}
theorem K0:Va X (Hb .Lt) (zX λi j=>.bl (decide (i<j))):=i9 λ_ _ _ _ _ _ _ q=>lt_int q
theorem J4:Va X (Hb .Gt) (zX λi j=>.bl (decide (j<i))):=i9 λ_ _ _ _ _ _ _ q=>gt_int q
theorem yF:Va X (Hb .GtE) (zX λi j=>.bl (decide (j<=i))):=i9 λ_ _ _ _ _ _ _ q=>ge_int q
theorem Pb(b:Expr){op:CmpOp}(h:op≠.In:=by decide)(h2:op≠.NotIn:=by decide):Fe op b=false:=by
 have e1:(op == CmpOp.In)=false:=by cases op <;> first | rfl | exact absurd rfl h
 have e2:(op == CmpOp.NotIn)=false:=by cases op <;> first | rfl | exact absurd rfl h2
 cases b <;> simp [Fe,e1,e2]
theorem jZ{op:CmpOp}{r:R2}(ho:Va X (Hb op) r)(ha:PE X a ta)(hb:PE X b tb)(hm:Fe op b=false):PE X (.Compare a [op] [b] pos) (O3 r ta tb):=by
 intro pins s σ H Q I h
 exact wpAny_Compare1 (x8 ha hb I h λv u s2 x y H2 I2 rx ry q=>ho pins s2 σ H2 x y v u Q I2 rx ry q) hm
def L9(t:TE):TT:=λσ H Q=>t σ H λx H'=>∃k,x=.bl k/\Q k H'
theorem vN{op:CmpOp}{r:R2}(ho:Va X (Hb op) r)(ha:PE X a ta)(hb:PE X b tb)(hm:Fe op b=false):PT X (.Compare a [op] [b] pos) (L9 (O3 r ta tb)):=by
 intro pins s σ H Q I h
 refine wpAny_isTrue_Compare1 (Et (ha pins s σ H _ I h) λv s1 ⟨x,H1,I1,r1,q1⟩=>Et (hb pins s1 σ H1 _ I1 q1) λu s2 ⟨y,H2,I2,r2,q2⟩ =>
  Et (ho pins s2 σ H2 x y v u _ I2 r1 r2 q2) λc s3 ⟨z,H3,I3,r3,k,e,q3⟩=>?_) hm
 subst e
 cases r3
 exact Lc ⟨H3,I3,q3⟩
def vD(K:PySem.W.Frag)(x:V)(H:Hp)(k:Bool):Prop :=
 match x with
 | .non=>k=false
 | .bl b=>k=b
 | .int i=>k=(i != 0)
 | .str y=>y.length<=Aq/\k=((y.length:Int) != 0)
 | .byt y=>y.size<=Aq/\k=((y.size:Int) != 0)
 | .ref p=>(∃xs,Rr K H p xs/\k = !xs.isEmpty)\/(∃xs,Qs K H p xs/\k = !xs.isEmpty)\/∃kvs,H p=some (.dK kvs)/\k = !kvs.isEmpty
 | _=>False
theorem iT{κ:Type}{kvs:List (κ×V)}{vs:List (κ×Value)}(r:KV kvs vs):(!vs.isEmpty) = !kvs.isEmpty:=by
 cases r <;> rfl
theorem Xu{xs:List V}{its:List Value}(r:Ey xs its):(!its.toArray.isEmpty) = !xs.isEmpty:=by
 cases r <;> simp
theorem Rq:(Aq:Nat)<2 ^ 63:=by rw[He]; decide
theorem u5:Q5 X (λx H Q=>∃k,vD X.K x H k/\Q k H):=by
 intro pins s σ H x v Q I rx h
 obtain ⟨k,e,q⟩:=h
 have hl:=Rq
 have hs:Aq=16777216:=He
 cases x with
 | non =>
  cases rx
  have e':k=false:=e
  subst e'
  exact truthy_none ⟨H,I,q⟩
 | bl b =>
  cases rx
  have e':k=b:=e
  subst e'
  exact Lc ⟨H,I,q⟩
 | int i =>
  obtain ⟨t,rfl⟩:=rx
  have e':k=(i != 0):=e
  subst e'
  exact PySem.P.truthy_int ⟨H,I,q⟩
 | str y =>
  obtain ⟨t,rfl⟩:=rx
  obtain ⟨hy,e'⟩ : y.length<=Aq/\k=((y.length:Int) != 0):=e
  subst e'
  exact PySem.P.truthy_str (by omega) ⟨H,I.tok _,q⟩
 | byt y =>
  obtain ⟨t,rfl⟩:=rx
  obtain ⟨hy,e'⟩ : y.size<=Aq/\k=((y.size:Int) != 0):=e
  subst e'
  exact PySem.W.truthy_bytes (by omega) ⟨H,I.tok _,q⟩
 | ref p =>
  cases rx
  have e':(∃xs,Rr X.K H p xs/\k = !xs.isEmpty)\/(∃xs,Qs X.K H p xs/\k = !xs.isEmpty)\/∃kvs,H p=some (.dK kvs)/\k = !kvs.isEmpty:=e
  rcases e' with ⟨xs,hx,e'⟩ | ⟨xs,hx,e'⟩ | ⟨kvs,hx,e'⟩
  ·subst e'
   obtain ⟨its,r,pl,hz⟩:=I.list hx
   have hlen:=r.length
   exact wpAny_truthy_list pl.isList (by simp only[Am]; omega) ⟨H,I.tok _,by rw[Xu r]; exact q⟩
  ·subst e'
   obtain ⟨its,r,pl,hz⟩:=I.tuple hx
   have hlen:=r.length
   exact truthy_tuple pl (by simp only[Am]; omega) ⟨H,I.tok _,by rw[Xu r]; exact q⟩
  ·subst e'
   obtain ⟨hz,hS,vs,r,m⟩ : kvs.length<=Aq/\(p == Mc)=false/\∃vs,KV kvs vs/\s.heap.DictOf (Il X.prog X.w) p vs:=I.hok p _ hx
   have hlen:kvs.length=vs.length:=Paired.length r
   exact wpAny_truthy_dict hS m (by omega) ⟨H,I.tok _,by rw[iT r]; exact q⟩
 | _=>exact (show False from e).elim
theorem rF(ha:PE X a ta)(he:∀whole,isTrue a X.env whole=(do let v <- whole; Po a.pos; Vc [v] (truthy v))) :
  PT X a (λσ H Q=>ta σ H λx H'=>∃k,vD X.K x H' k/\Q k H'):=by
 intro pins s σ H Q I h
 exact isTrue_plain (Et (ha pins s σ H _ I h) λv s1 ⟨x,H1,I1,r1,q1⟩=>u5 pins s1 σ H1 x v Q I1 r1 q1) (he _)
theorem vals1{x:V}{us:List Value}(r:Ey [x] us):∃u,us=[u]/\RelV x u:=by
 cases r with
 | cons r1 r2=>cases r2; exact ⟨_,rfl,r1⟩
theorem vals2{x y:V}{us:List Value}(r:Ey [x,y] us):∃u w',us=[u,w']/\RelV x u/\RelV y w':=by
 cases r with
 | cons r1 r2 =>
  cases r2 with
  | cons r3 r4=>cases r4; exact ⟨_,_,rfl,r1,r3⟩
def C0(K:PySem.W.Frag)(x:V)(H:Hp)(n:Nat):Prop :=
 match x with
 | .str y=>y.length<=Aq/\n=y.length
 | .byt y=>y.size<=Aq/\n=y.size
 | .ref p=>(∃xs,Rr K H p xs/\n=xs.length)\/∃xs,Qs K H p xs/\n=xs.length
 | _=>False
theorem Hu:Nu X (.builtin "len") (λxs H Q=>∃x n,xs=[x]/\C0 X.K x H n/\Q (.int n) H):=by
 intro pins s σ H xs us Q I r h
 obtain ⟨x,n,rfl,e,q⟩:=h
 obtain ⟨u,rfl,rx⟩:=vals1 r
 have hl:=Rq
 have hs:Aq=16777216:=He
 cases x with
 | str y =>
  obtain ⟨t,rfl⟩:=rx
  obtain ⟨hy,e'⟩ : y.length<=Aq/\n=y.length:=e
  subst e'
  exact len_str (by omega) ⟨.int _,H,I.tok _,⟨_,rfl⟩,q⟩
 | byt y =>
  obtain ⟨t,rfl⟩:=rx
  obtain ⟨hy,e'⟩ : y.size<=Aq/\n=y.size:=e
  subst e'
  exact PySem.W.len_bytes (by omega) ⟨.int _,H,I.tok _,⟨_,rfl⟩,q⟩
 | ref p =>
  cases rx
  have e':(∃xs,Rr X.K H p xs/\n=xs.length)\/∃xs,Qs X.K H p xs/\n=xs.length:=e
  rcases e' with ⟨xs,hx,e'⟩ | ⟨xs,hx,e'⟩
  ·subst e'
   obtain ⟨its,r',pl,hz⟩:=I.list hx
   have hlen:=r'.length
   exact Calls.call_len_list pl.isList (by simp only[Am]; omega) ⟨.int xs.length,H,I.tok _,⟨_,by simp only[Am]; rw[hlen]⟩,q⟩
  ·subst e'
   obtain ⟨its,r',pl,hz⟩:=I.tuple hx
   have hlen:=r'.length
   exact len_tuple pl (by simp only[Am]; omega) ⟨.int xs.length,H,I.tok _,⟨_,by simp only[Am]; rw[hlen]⟩,q⟩
 | _=>exact (show False from e).elim
end
structure ObjM(h:Heap)(x dx C:Addr)(mA:Str->Option Value):Prop where
 obj:h.get? x=some (PySem.W.instObj C dx)
 ns:h.Ns1 dx mA
 ne:dx≠x
theorem lZ{h:Heap}{dx:Addr}{mA:Str->Option Value}(n:h.Ns1 dx mA):∃od,h.get? dx=some od/\∀name,PySem.W.lookIn name od=some (mA name):=by
 obtain ⟨o,es,ep,ho,hd,hk,_,hm⟩:=n
 refine ⟨o,ho,λname=>?_⟩
 have e:=hm name
 unfold nsFind findBy at e
 rw[<- Array.find?_toList] at e
 unfold PySem.W.lookIn
 rw[hd]
 dsimp only
 split
 ·rename_i y q
  rw[q] at e
  exact congrArg some e
 ·rename_i q
  rw[q] at e
  have a:es.toList.any (·.refKey)=false:=by
   rw[List.any_eq_false]
   intro y hy
   obtain ⟨z,t,hkey⟩:=hk y (Array.mem_toList_iff.mp hy)
   simp [DictEntry.refKey,hkey]
  have a':¬ es.toList.any (·.refKey)=true:=by rw[a]; exact Cb
  rw[if_neg a']
  exact congrArg some e
theorem ObjM.look{h:Heap}{x dx C:Addr}{mA:Str->Option Value}(I:ObjM h x dx C mA):∃od,PySem.W.InstAt h x (PySem.W.instObj C dx) C (some od)/\∀name,PySem.W.lookIn name od=some (mA name) :=
 let ⟨od,ho,hl⟩:=lZ I.ns
 ⟨od,⟨I.obj,rfl,rfl,ho⟩,hl⟩
theorem iV.some_of{v:V}{o:Option Value}(r:iV (some v) o):∃u,o=some u/\RelV v u:=by
 cases o with
 | none=>exact (show False from r).elim
 | some u=>exact ⟨u,rfl,r⟩
section
variable{P:Bx}{w:World}{H H':Hp}{h h':Heap}{a C dx:Addr}{fs fs':List (Str×V)}
theorem xB(hok:Uo P w H h)(e:H a=some (.ins C dx fs)):∃mA,ObjM h a dx C mA/\(∀f,iV (fs.lookup f) (mA f))/\PySem.Within mA (fs.map (·.1))/\fs.length<=1000/\H dx=some (.own a):=by
 obtain ⟨d,z,ne,ob,mA,n,r,q⟩:=(show Hs P w H h a (.ins C dx fs) from hok a _ e)
 exact ⟨mA,⟨ob,n,ne⟩,r,q,z,d⟩
end
structure Cls(K:PySem.W.Frag)(C:Addr):Prop where
 pg:PySem.W.plainGet K C Str.empty=true
 hd:PySem.W.hasDictIn K C=true
 po:PySem.W.plainOver K C=true
 sa:PySem.W.findIn K (.ref C) "__setattr__" = some (some (.builtin "object.__setattr__"))
theorem Cls.get{K:PySem.W.Frag}{C:Addr}(c:Cls K C)(f:Str):PySem.W.plainGet K C f=true:=c.pg
section
variable{X:Cx}{pins:List (Addr×Obj)}{σ:St}{H:Hp}{s:Aj}{A:Cs}{E:Value->Aj->Prop}{Q:Value->Aj->Prop}{c:Value}{b:Bool}
inductive TyOf (K:PySem.W.Frag) (H:Hp):V->Value->Prop where
 | non:TyOf K H .non (.type "NoneType")
 | bl (x:Bool):TyOf K H (.bl x) (.type "bool")
 | int (i:Int):TyOf K H (.int i) (.type "int")
 | str (x:Str):TyOf K H (.str x) (.type "str")
 | flt (x:UInt64):TyOf K H (.flt x) (.type "float")
 | lst {a:Addr} {xs:List V} (e:H a=some (.lst xs)):TyOf K H (.ref a) (.type "list")
 | frz {a:Addr} {o:Obj} {xs:List V} (e:H a=some (.frz o (.lst xs))):TyOf K H (.ref a) (.type "list")
 | tup {a:Addr} {xs:List V} (e:H a=some (.tup xs)):TyOf K H (.ref a) (.type "tuple")
 | dK {a:Addr} {kvs:List (Jj×V)} (e:H a=some (.dK kvs)):TyOf K H (.ref a) (.type "dict")
 | dT {a:Addr} {kvs:List (List Jj×V)} (e:H a=some (.dT kvs)):TyOf K H (.ref a) (.type "dict")
 | ins {a C dx:Addr} {fs:List (Str×V)} (e:H a=some (.ins C dx fs)) (cl:Cls K C) (ha:PySem.W.findIn K (.ref C) "__class__" = some (some (.builtin "object.__class__")))
   (hn:PySem.W.specialIn K (.builtin "object.__class__") "__get__" = some (some (.builtin "getset_descriptor.__get__"))) (htk:PySem.W.takesIn K (.builtin "object.__class__")=some true)
   (hm:PySem.W.mroIn K C (.type "object")=some true):TyOf K H (.ref a) (.ref C)
theorem mV{x:V}{u t:Value}(I:Inv X pins σ H s)(rx:RelV x u)(ty:TyOf X.K H x t)(e:PySem.W.kitOne X.K t c=some b)(h:∀tk,Q (.bool b) { s with toks:=tk }):wpAny (model X.prog X.w) A (call (.builtin "isinstance") [u,c]) Q E s:=by
 cases ty with
 | non=>cases (show u=Tf from rx); exact PySem.W.kia_one PySem.W.kitx_none I.kIn Kx e (λz=>nomatch z) h
 | bl y=>cases (show u=Value.bool y from rx); exact PySem.W.kia_one PySem.W.kitx_bool I.kIn Kx e (λz=>nomatch z) h
 | int i=>obtain ⟨t,q⟩:=(show ∃t,u=Value.int i t from rx); cases q; exact PySem.W.kia_one PySem.W.kitx_int I.kIn Kx e (λz=>nomatch z) h
 | str y=>obtain ⟨t,q⟩:=(show ∃t,u=Value.str y t from rx); cases q; exact PySem.W.kia_one PySem.W.kitx_str I.kIn Kx e (λz=>nomatch z) h
 | flt y=>obtain ⟨t,q⟩:=(show ∃t,u=Value.float y t from rx); cases q; exact PySem.W.kia_one PySem.W.kitx_float I.kIn Kx e (λz=>nomatch z) h
 | @lst a xs ea =>
  cases (show u=Bb a from rx)
  obtain ⟨_,_,n,_,h1⟩:=(show Hs X.prog X.w H s.heap a (.lst xs) from I.hok a _ ea)
  exact PySem.W.kia_one PySem.W.kitx_list I.kIn ⟨_,h1,rfl⟩ e (λz=>nomatch z) h
 | @frz a ob xs ea =>
  cases (show u=Bb a from rx)
  obtain ⟨_,_,_,n,_,h1⟩:=(show Hs X.prog X.w H s.heap a (.frz ob (.lst xs)) from I.hok a _ ea)
  exact PySem.W.kia_one PySem.W.kitx_list I.kIn ⟨_,h1,rfl⟩ e (λz=>nomatch z) h
 | @tup a xs ea =>
  cases (show u=Bb a from rx)
  obtain ⟨_,_,_,p⟩:=(show Hs X.prog X.w H s.heap a (.tup xs) from I.hok a _ ea)
  obtain ⟨o,h1,h2,_⟩:=p
  exact PySem.W.kia_one PySem.W.kitx_tuple I.kIn ⟨o,h1,h2⟩ e (λz=>nomatch z) h
 | @dK a kvs ea =>
  cases (show u=Bb a from rx)
  obtain ⟨_,_,vs,_,p⟩:=(show Hs X.prog X.w H s.heap a (.dK kvs) from I.hok a _ ea)
  obtain ⟨o,es,ep,h1,h2,_⟩:=p
  exact PySem.W.kia_one PySem.W.kitx_dict I.kIn ⟨o,h1,h2.1⟩ e (λz=>nomatch z) h
 | @dT a kvs ea =>
  cases (show u=Bb a from rx)
  obtain ⟨_,_,xs,_,o,es,ep,h1,h2,_⟩:=(show Hs X.prog X.w H s.heap a (.dT kvs) from I.hok a _ ea)
  exact PySem.W.kia_one PySem.W.kitx_dict I.kIn ⟨o,h1,h2.1⟩ e (λz=>nomatch z) h
 | @ins a C dx fs ea cl ha hn htk hm =>
  cases (show u=Bb a from rx)
  obtain ⟨mA,O,_⟩:=xB I.hok ea
  obtain ⟨od,J,_⟩:=O.look
  exact PySem.W.kia_one (PySem.W.kitx_own (cl.get _) cl.hd ha hn htk hm) I.kIn J e (λz=>nomatch z) h
end
structure Room(k:Nat)(A:Cs):Prop where
 hd:A.handled=none
 dp:A.depth+3 * k+5<recursionLimit
 un:A.units+16 * k+200<cLine
 gd:A.guards=some []
theorem Room.mono{j k:Nat}{A:Cs}(r:Room k A)(h:j<=k):Room j A:=⟨r.hd,by have:=r.dp; omega,by have:=r.un; omega,r.gd⟩
theorem Room.deeper{k:Nat}{A:Cs}(r:Room (k+1) A)(env:Env):Room k (A.deeper env) :=
 ⟨r.hd,by have:=r.dp; show A.depth+1+3 * k+5<_; omega,by have:=r.un; show A.units+3+16 * k+200<_; omega,r.gd⟩
theorem Room.depth{k:Nat}{A:Cs}(r:Room k A):A.depth<recursionLimit:=by have:=r.dp; omega
theorem Room.units{k:Nat}{A:Cs}(r:Room k A):A.units+64<cLine:=by have:=r.un; omega
def O4:TA:=λ_ H Q=>Q [] H
def G8(ta:TE)(tr:TA):TA:=λσ H Q=>ta σ H λx H1=>tr σ H1 λxs H2=>Q (x::xs) H2
section
variable{X:Cx}{e:Expr}{es:List Expr}{te:TE}{t:TA}{pos:Pos}
theorem Kv:PA X [] O4:=λ_ _ _ _ H Q I h=>Calls.spliced_nil ⟨[],H,I,.nil,h⟩
theorem Gh(ha:PE X e te)(hr:PA X es t)(hs:Bf (e::es) X.env=(false,eval e X.env)::Bf es X.env:=by rfl):PA X (e::es) (G8 te t):=by
 intro pos pins s σ H Q I h
 rw[hs]
 show wpAny _ _ (spliced ((false,eval e X.env)::Fs pos (Bf es X.env))) _ _ s
 refine Calls.spliced_cons (Et (ha pins s σ H _ I h) λu s1 q0_ => ?_)
 obtain ⟨x,H1,I1,r1,q1⟩ := q0_
 exact Et (hr pos pins s1 σ H1 _ I1 q1) λus s2 ⟨xs,H2,I2,r2,q2⟩=>⟨x::xs,H2,I2,.cons r1 r2,q2⟩
def T3(t:TA):TE:=λσ H Q=>t σ H λxs H1=>xs.length<=Aq/\∀p,H1 p=none->Q (.ref p) (upd H1 p (.tup xs))
def R8(t:TA):TE:=λσ H Q=>t σ H λxs H1=>xs.length<=Aq/\∀p,H1 p=none->Q (.ref p) (upd H1 p (.lst xs))
theorem iG{x1}(h:PA X es t):PE X (.Tuple es x1 pos) (T3 t):=by
 intro pins s σ H Q I hq
 refine wpAny_Tuple_spliced (Et (h pos pins s σ H _ I hq) λus s1 ⟨xs,H1,I1,r,z,q⟩=>⟨by rw[<- r.length]; exact z,?_⟩)
 have hf:H1 s1.heap.objs.size=none:=I1.hok.fresh (Ai _)
 refine ⟨.ref s1.heap.objs.size,upd H1 s1.heap.objs.size (.tup xs),I1.laid (t':=s1.toks) (λb u e=>Ao _ e) (Ai _) ?_,rfl,q _ hf⟩
 exact ⟨z,us,r,⟨_,Bn _ rfl,rfl,_,rfl⟩⟩
theorem gU(h:PA X es t):PE X (.List es pos) (R8 t):=by
 intro pins s σ H Q I hq
 refine wpAny_List_spliced (Et (h pos pins s σ H _ I hq) λus s1 ⟨xs,H1,I1,r,z,q⟩=>⟨by rw[<- r.length]; exact z,?_⟩)
 have hf:H1 s1.heap.objs.size=none:=I1.hok.fresh (Ai _)
 refine ⟨.ref s1.heap.objs.size,upd H1 s1.heap.objs.size (.lst xs),I1.laid (t':=s1.toks) (λb u e=>Ao _ e) (Ai _) ?_,rfl,q _ hf⟩
 exact ⟨z,us,0,r,Bn _ rfl⟩
end
abbrev Sp:=List V->Hp->VK->XK->Prop
abbrev kE:=List Env->Hp->Aj->XK->Value->Aj->Prop
structure Env0(P:Bx)(w:World)(K:PySem.W.Frag)(mg:Str->Option Value)(base:Heap)(A:Cs)(outer:List Env)(s:Aj)(H:Hp):Prop where
 frames:A.frames=some outer
 mod:Mod K mg base
 bs:∀b o,base.get? b=some o->s.heap.get? b=some o/\H b=none
 bsz:base.objs.size<=s.heap.objs.size
 funs:s.heap.FunFrames base outer
 frf:∀b∈oI outer,H b=none
 hok:Uo P w H s.heap
 bare:Pt s.gens
 tab:qT K mg base H
def CE(outer:List Env)(P:Bx)(w:World)(H:Hp)(s:Aj)(Q:VK)(u:Value)(s':Aj):Prop :=
 ∃v H',s'.os=s.os/\Pt s'.gens/\Un (oI outer) [] H H' s.heap s'.heap/\Uo P w H' s'.heap/\RelV v u/\Q v H'
def CR(CX:kE)(outer:List Env)(P:Bx)(w:World)(H:Hp)(s:Aj)(Q:VK)(E:XK)(r:Result)(s':Aj):Prop :=
 match r with
 | .ok (.ret u)=>CE outer P w H s Q u s'
 | .ok _=>False
 | .error e=>CX outer H s E e s'
structure FnOk(P:Bx)(w:World)(K:PySem.W.Frag)(mg:Str->Option Value)(base:Heap)(CX:kE)(k:Nat)(f:Addr)(fd:Cr)(ps:List Str)(sp:Sp):Prop where
 len:∀vs H Q E,sp vs H Q E->vs.length=ps.length
 run:∀(A:Cs) (outer:List Env) (s:Aj) (H:Hp) (args:Args) (us:List Value) (vs:List V) (Q:VK) (E:XK),Room k A->Env0 P w K mg base A outer s H->BindsTo s fd args (ps.zip us)->Ey vs us->sp vs H Q E ->
  Hf (model P w) A (.call (.ref f) args) (CR CX outer P w H s Q E) s
theorem FnOk.imp{P:Bx}{w:World}{K:PySem.W.Frag}{mg:Str->Option Value}{base:Heap}{CX:kE}{k:Nat}{f:Addr}{fd:Cr}{ps:List Str}{sp sp':Sp}(F:FnOk P w K mg base CX k f fd ps sp)(h:∀vs H Q E,sp' vs H Q E->sp vs H Q E):FnOk P w K mg base CX k f fd ps sp' :=
 ⟨λvs H Q E q=>F.len vs H Q E (h _ _ _ _ q),λA outer s H args us vs Q E hr he hb hv hs=>F.run A outer s H args us vs Q E hr he hb hv (h _ _ _ _ hs)⟩
section
variable{X:Cx}{pins:List (Addr×Obj)}{σ:St}{H:Hp}{s s':Aj}
theorem Inv.env0(I:Inv X pins σ H s):Env0 X.prog X.w X.K X.mg X.base X.A X.stack s H :=
 ⟨I.ok.frames,I.ok.mod,I.bs,Bv I.ok.bsz I.sz,I.stack,I.stkFree,I.hok,I.bare,I.ok.tab.un I.base⟩
theorem Inv.after{Q:VK}{u:Value}(I:Inv X pins σ H s)(h:CE X.stack X.prog X.w H s Q u s'):EP X pins σ Q u s':=by
 obtain ⟨v,H',os,bare,un,hok,r,q⟩:=h
 obtain ⟨hh,g,d,t,os'⟩:=s'
 obtain rfl:os'=s.os:=os
 exact ⟨v,H',I.call (h':=hh) (g':=g) (d':=d) (t':=t) (ch:=[]) un hok bare (λb z=>absurd z (by simp)),r,q⟩
end
def yR(sp:Sp)(dvs:List V)(E:XK)(t:TA):TE:=λσ H Q=>t σ H λvs H1=>sp (vs++dvs) H1 Q E
def Binds(K:PySem.W.Frag)(fd:Cr)(ps:List Str)(ds:List Value):Prop :=
 ∀(s:Aj) (us:List Value),K.In s.heap->(us++ds).length=ps.length->BindsTo s fd ⟨us,[]⟩ (ps.zip (us++ds))
theorem Binds.all{K:PySem.W.Frag}{fd:Cr}{ps:List Str}(h:∀us:List Value,us.length=ps.length->bindArgs fd ⟨us,[]⟩=pure (ps.zip us)):Binds K fd ps []:=λs us _ hl=>by
 rw[Ea] at hl ⊢
 exact .of_eq (h us hl)
def Na(CX:kE)(X:Cx)(E:XK):Prop:=∀(pins:List (Addr×Obj)) (σ:St) (H:Hp) (s:Aj) (e:Value) (s':Aj),Inv X pins σ H s->CX X.stack H s E e s'->X.xe e s'
section
variable{X:Cx}{CX:kE}{k:Nat}{f C:Addr}{fd:Cr}{ps:List Str}{sp:Sp}{dvs:List V}{ds:List Value}{E:XK}{x m:Str}{p pos apos:Pos}{e o:Expr}{es:List Expr}{ta:TE}{t:TA}
theorem qE{pins:List (Addr×Obj)}{σ:St}{H:Hp}{s:Aj}{Q:VK}{us:List Value}{vs:List V}(F:FnOk X.prog X.w X.K X.mg X.base CX k f fd ps sp)(hr:Room k X.A)(hb:Binds X.K fd ps ds)(hd:Ey dvs ds)(hx:Na CX X E)(I:Inv X pins σ H s)(r:Ey vs us)(h:sp (vs++dvs) H Q E):wpAny (model X.prog X.w) X.A (call (.ref f) us) (EP X pins σ Q) X.xe s:=by
 have r2:Ey (vs++dvs) (us++ds):=r.append hd
 have hl:(us++ds).length=ps.length:=by rw[<- r2.length]; exact F.len _ _ _ _ h
 refine wpAny_call (aB (F.run X.A X.stack s H ⟨us,[]⟩ (us++ds) (vs++dvs) Q E hr I.env0 (hb s us I.kIn hl) r2 h) λr s' hq=>?_)
 cases r with
 | error e=>exact hx pins σ H s e s' I hq
 | ok fl =>
  cases fl with
  | ret u=>exact I.after hq
  | next=>exact Iv hq
  | brk=>exact Iv hq
  | cont=>exact Iv hq
theorem Sj(F:FnOk X.prog X.w X.K X.mg X.base CX k f fd ps sp)(hr:Room k X.A)(hg:Gl X x)(hm:X.mg x=some (.ref f))(hk:PySem.W.keepIn X.K (.ref f)=true)(hb:Binds X.K fd ps ds)(hd:Ey dvs ds)(hx:Na CX X E)(ha:PA X (e::es) t)(hdb:(x == ("__debug__" : Str))=false:=by decide)(he:Bf (e::es) X.env=(false,eval e X.env)::Bf es X.env:=by rfl)(hpl:(Fs pos (Bf es X.env)).any (·.1)=false:=by rfl):PE X (.Call (.Name x p) (e::es) [] pos) (yR sp dvs E t):=by
 intro pins s σ H Q I h
 refine Hz (lI I hg hm ?_ hdb)
 refine PySem.W.callWith_K (h₀:=X.base) I.ok.mod.kin hk (Et (ha pos pins s σ H _ I h) λus s1 ⟨vs,H1,I1,r,q⟩=>⟨I1.kIn,?_⟩) he hpl
 exact qE F hr hb hd hx I1 r q
theorem tR(F:FnOk X.prog X.w X.K X.mg X.base CX k f fd ps sp)(hr:Room k X.A)(hg:Gl X x)(hm:X.mg x=some (.ref f))(hk:PySem.W.keepIn X.K (.ref f)=true)(hb:Binds X.K fd ps ds)(hd:Ey dvs ds)(hx:Na CX X E)(hdb:(x == ("__debug__" : Str))=false:=by decide):PE X (.Call (.Name x p) [] [] pos) (yR sp dvs E O4):=by
 intro pins s σ H Q I h
 refine Hz (lI I hg hm ?_ hdb)
 exact PySem.W.callWith_K0 I.kIn hk (qE (us:=[]) F hr hb hd hx I .nil h)
end
structure FnScope(N P:List Str)(sc:Scope):Prop where
 kind:sc.kind=.function
 co:sc.isCoroutine=false
 gen:sc.isGenerator=false
 nd:N.Nodup
 pre:N.take P.length=P
 par:∀x∈P,sc.names.lookup x=some .local\/sc.names.lookup x=some .cell
 nofree:∀y∈sc.names,y.2≠.free
theorem Zt{kindOf:Str->Option Mu}{x:Str}:∀{binds:List (Str×Value)} {m:Str->Option Value},(∀v,(x,v)∉binds)->bindL kindOf binds m x=m x
 | [],_,_=>rfl
 | (n,v)::r,m,h=>by
  unfold bindL
  rw[Zt λw hw=>h w (Ae _ hw)]
  split
  ·have : x≠n:=by rintro rfl; exact h v Aa
   simp [this]
  ·rfl
theorem Zh{kindOf:Str->Option Mu}{x:Str}:∀{binds:List (Str×Value)} {m:Str->Option Value},(∀v,(x,v)∉binds)->bindC kindOf binds m x=m x
 | [],_,_=>rfl
 | (n,v)::r,m,h=>by
  unfold bindC
  rw[Zh λw hw=>h w (Ae _ hw)]
  split
  ·rfl
  ·have : x≠n:=by rintro rfl; exact h v Aa
   simp [this]
theorem Yw{kindOf:Str->Option Mu}{x:Str}{v:Value}:∀{P:List Str} {vs:List Value} {i:Nat} {m:Str->Option Value},P.Nodup->P[i]? = some x->vs[i]? = some v->kindOf x=some .local->bindL kindOf (P.zip vs) m x=some v
 | [],_,_,_,_,h,_,_=>by simp at h
 | _::_,[],_,_,_,_,h,_=>by simp at h
 | p::P,w::vs,0,m,nd,h1,h2,hk=>by
  simp at h1 h2; subst h1; subst h2
  show bindL kindOf ((p,w)::P.zip vs) m p=_
  unfold bindL
  rw[Zt λv hv=>(Bt.mp nd).1 (List.of_mem_zip hv).1,if_pos hk]
  simp
 | p::P,w::vs,i+1,m,nd,h1,h2,hk=>by
  show bindL kindOf ((p,w)::P.zip vs) m x=_
  unfold bindL
  exact Yw (i:=i) (Bt.mp nd).2 (by simpa using h1) (by simpa using h2) hk
theorem Yy{kindOf:Str->Option Mu}{x:Str}{v:Value}:∀{P:List Str} {vs:List Value} {i:Nat} {m:Str->Option Value},P.Nodup->P[i]? = some x->vs[i]? = some v->kindOf x≠some .local->bindC kindOf (P.zip vs) m x=some v
 | [],_,_,_,_,h,_,_=>by simp at h
 | _::_,[],_,_,_,_,h,_=>by simp at h
 | p::P,w::vs,0,m,nd,h1,h2,hk=>by
  simp at h1 h2; subst h1; subst h2
  show bindC kindOf ((p,w)::P.zip vs) m p=_
  unfold bindC
  rw[Zh λv hv=>(Bt.mp nd).1 (List.of_mem_zip hv).1,if_neg hk]
  simp
 | p::P,w::vs,i+1,m,nd,h1,h2,hk=>by
  show bindC kindOf ((p,w)::P.zip vs) m x=_
  unfold bindC
  exact Yy (i:=i) (Bt.mp nd).2 (by simpa using h1) (by simpa using h2) hk
def start(N:List Str)(vs:List V):St:=vs.map some++Hj (N.length - vs.length) none
def Mh(CX:kE)(P:Bx)(w:World)(K:PySem.W.Frag)(mg:Str->Option Value)(base:Heap)(N:List Str)(qual:Str)(scope:Scope)(f:Addr)(cd:Value)(A:Cs)(outer:List Env)(s:Aj)(H:Hp)(E:XK):Cx where
 prog:=P
 w:=w
 K:=K
 mg:=mg
 base:=base
 A:=A.deeper (envOfC qual scope s.heap.objs.size f cd)
 N:=N
 s₀:=s
 H₀:=H
 env:=envOfC qual scope s.heap.objs.size f cd
 outer:=outer
 stack:=envOfC qual scope s.heap.objs.size f cd::outer
 ex:=[]
 calm:=true
 fn:=λ_=>true
 pn:=[]
 xe:=λe s'=>wpAny (model P w) (A.deeper (envOfC qual scope s.heap.objs.size f cd)) (leaving (envOfC qual scope s.heap.objs.size f cd) e) (λ_ s''=>CX outer H s E e s'') (λe' s''=>CX outer H s E e' s'') s'
theorem fP{sc:Scope}{n:Nat}{x:Str}(h:sc.names.lookup x=some .cell):∃c,(Dt n sc.names []).lookup x=some c:=by
 have q:=PySem.W.cellsFrom_some sc.names n [] (.inl h)
 exact Nx.mp q
theorem mL{CX:kE}{P:Bx}{w:World}{K:PySem.W.Frag}{mg:Str->Option Value}{base:Heap}{N ps:List Str}{qual:Str}{scope:Scope}{f:Addr}{cd:Value}{A:Cs}{outer:List Env}{s s1:Aj}{H:Hp}{E:XK}{us:List Value}{vs:List V}(S:FnScope N ps scope)(hd:A.handled=none)(e0:Env0 P w K mg base A outer s H)(hl:vs.length=ps.length)(r:Ey vs us)(x:InCallC s s.heap.objs.size (bindL (envOfC qual scope s.heap.objs.size f cd).kindOf (ps.zip us) λ_=>none) (Dt (s.heap.objs.size+1) scope.names []) (bindC (envOfC qual scope s.heap.objs.size f cd).kindOf (ps.zip us) λ_=>none) s1):Inv (Mh CX P w K mg base N qual scope f cd A outer s H E) [] (start N vs) H s1:=by
 have hpl:ps.length<=N.length:=by have:=congrArg Fp S.pre; rw[Cn] at this; omega
 obtain ⟨h1,tk,rfl,hk⟩:=x.done
 have noA:∀b:Addr,b∉(Mh CX P w K mg base N qual scope f cd A outer s H E).ex:=λb z=>absurd (show b∈([]:List Addr) from z) (by simp)
 refine ⟨⟨e0.mod,S.kind,rfl,rfl,Ai _,λy z c h1 h2=>?_,λy hy=>?_,λy c _ h=>?_,λ_=>hd,Around.frames_deeper e0.frames,.inr ⟨rfl,rfl⟩,λb z=>absurd z (noA b),e0.bs,e0.bsz,λb _ _=>noA b,λb z=>absurd z (noA b),e0.funs,e0.frf,e0.tab⟩,
  rfl,e0.bare,Un.kept hk,⟨_,x.toInCall.ns,λi y v h1 h2 h3=>?_⟩,λy c h=>⟨_,x.cell y c h⟩,e0.hok.fresh (Ai _),λy c h=>?_,λp hp=>absurd (show p∈([]:List (Addr×Obj)) from hp) (by simp),e0.hok.kept hk,?_⟩
 ·exact name_of_addr x.apart (PySem.mem_of_lookup h1) (PySem.mem_of_lookup h2)
 ·have hy:scope.names.lookup y=some .cell\/scope.names.lookup y=some .free:=hy
  rcases hy with hy | hy
  ·exact fP hy
  ·exact absurd rfl (S.nofree _ (PySem.mem_of_lookup hy))
 ·exact Qj (x.above y c (PySem.mem_of_lookup h))
 ·have hi:i<vs.length:=by
   unfold start at h2
   by_cases hi:i<vs.length
   ·exact hi
   ·rw[Ex (by simpa using hi)] at h2
    rw[List.getElem?_replicate] at h2
    split at h2 <;> cases h2
  have ha:vs[i]? = some v:=by
   unfold start at h2
   rw[Jf (by simpa using hi),Bg] at h2
   cases e:vs[i]? with
   | none=>rw[e] at h2; cases h2
   | some a=>rw[e] at h2; cases h2; rfl
  obtain ⟨u,hu,rv⟩:=r.get ha
  have hp:ps[i]? = some y:=by
   rw[<- S.pre,Ha (by omega)]; exact h1
  have ndP:ps.Nodup:=by rw[<- S.pre]; exact S.nd.sublist (Ie _ _)
  refine ⟨u,rv,?_⟩
  rcases S.par y (Ar hp) with k | k
  ·exact .inl ⟨k,Yw ndP hp hu k⟩
  ·obtain ⟨c,e⟩:=fP (n:=s.heap.objs.size+1) k
   refine .inr ⟨.inl k,c,e,?_⟩
   have q:=x.cell y c e
   rw[Yy ndP hp hu (by show scope.names.lookup y≠_; rw[k]; decide)] at q
   exact q
 ·exact e0.hok.fresh (Qj (x.above y c (PySem.mem_of_lookup h)))
 ·unfold start
  show _=N.length
  rw[Ay,Af,List.length_replicate]
  omega
theorem N0{CX:kE}{P:Bx}{w:World}{K:PySem.W.Frag}{mg:Str->Option Value}{base:Heap}{k:Nat}{f:Addr}{name qual:Str}{params:Arguments}{body:List Stmt}{scope:Scope}{dV kV doc pm cdv ct oc:Value}{an od:Option Addr}{osl:Array (Option Value)}{N ps:List Str}{sp:Sp}(lk:K.lookup f=some ⟨oc,od,.func (PySem.W.fnOf name qual params body scope dV kV doc pm an cdv ct),osl⟩)(hcd:PySem.W.codeIn K cdv qual=true)(S:FnScope N ps scope)(len:∀vs H Q E,sp vs H Q E->vs.length=ps.length)(hbody:∀(A:Cs) (outer:List Env) (s:Aj) (H:Hp) (vs:List V) (Q:VK) (E:XK),Room k (A.deeper (envOfC qual scope s.heap.objs.size f cdv))->sp vs H Q E->∃t,jN (Mh CX P w K mg base N qual scope f cdv A outer s H E) body t/\t { nx:=λ_ H'=>Q .non H',rt:=Q } (start N vs) H):FnOk P w K mg base CX (k+1) f (PySem.W.fnOf name qual params body scope dV kV doc pm an cdv ct) ps sp:=by
 refine ⟨len,λA outer s H args us vs Q E hr e0 hb r hsp=>?_⟩
 have hl:=len _ _ _ _ hsp
 have KX:K.In s.heap:=e0.mod.kin.keeps λb o e=>(e0.bs b o e).1
 have lim:s.heap.NoLimit:=e0.mod.nolimit.keeps λb o e=>(e0.bs b o e).1
 have hkind:∀y∈ps.zip us,scope.names.lookup y.1=some .local\/(scope.names.lookup y.1=some .cell/\((Dt (s.heap.objs.size+1) scope.names []).lookup y.1).isSome=true):=λ⟨n,v⟩ hy=>by
  rcases S.par n (List.of_mem_zip hy).1 with q | q
  ·exact .inl q
  ·exact .inr ⟨q,PySem.W.cellsFrom_some _ _ _ (.inl q)⟩
 refine codeAny_call_function hr.depth (KX _ _ lk) rfl S.co S.gen rfl (PySem.W.codeRec_of KX hcd) (hb _ _ _ _ ?_)
 refine wpAny_newFunctionEnv_cells S.kind hkind λenv he s1 x=>?_
 subst he
 refine ⟨lim.keeps x.toInCall.keep,codeAny_func ?_⟩
 obtain ⟨t,ht,hq⟩:=hbody A outer s H vs Q E (hr.deeper _) hsp
 have I:Inv (Mh CX P w K mg base N qual scope f cdv A outer s H E) [] (start N vs) H s1:=mL S hr.hd e0 hl r x
 refine Cf (ht [] s1 (start N vs) H _ I hq) (λfl s' hs=>?_) λe s' hs=>hs
 have fin:∀{σ':St} {H':Hp} {v:V} {u:Value},Inv (Mh CX P w K mg base N qual scope f cdv A outer s H E) [] σ' H' s'->RelV v u->Q v H'->CE outer P w H s Q u s' :=
  λ{σ' H' v u} J rv q=>⟨v,H',J.os,J.bare,J.base,J.hok,rv,q⟩
 cases fl with
 | ret u =>
  obtain ⟨v,σ',H',J,rv,q⟩:=hs
  exact fin J rv q
 | next =>
  obtain ⟨σ',H',J,q⟩:=hs
  exact fin (v:=V.non) (u:=Tf) J rfl q
 | brk =>
  obtain ⟨_,_,_,q⟩:=hs
  exact Iv q
 | cont =>
  obtain ⟨_,_,_,q⟩:=hs
  exact Iv q
section
variable{X:Cx}{x:Str}{p pos:Pos}{e:Expr}{es:List Expr}{t:TA}{id T:String}{r:List V->Hp->VK->Prop}
def K3(r:List V->Hp->VK->Prop)(t:TA):TE:=λσ H Q=>t σ H λvs H1=>r vs H1 Q
theorem fH(hc:Nu X (.builtin id) r)(hg:Gl X x)(hm:X.mg x=none)(hv:Ia x=some (.builtin id))(ha:PA X (e::es) t)(hn:x ≠ "__name__" := by decide)(hdb:(x == ("__debug__" : Str))=false:=by decide)(he:Bf (e::es) X.env=(false,eval e X.env)::Bf es X.env:=by rfl)(hpl:(Fs pos (Bf es X.env)).any (·.1)=false:=by rfl):PE X (.Call (.Name x p) (e::es) [] pos) (K3 r t):=by
 intro pins s σ H Q I h
 refine Hz (Of I hg hm hv ?_ hn hdb)
 exact PyProof.Rows.callWith_builtin1 (Et (ha pos pins s σ H _ I h) λus s1 ⟨vs,H1,I1,r1,q1⟩=>hc pins s1 σ H1 vs us Q I1 r1 q1) he hpl
theorem mW(hc:Nu X (.type T) r)(hg:Gl X x)(hm:X.mg x=none)(hv:Ia x=some (.type T))(ha:PA X (e::es) t)(hn:x ≠ "__name__" := by decide)(hdb:(x == ("__debug__" : Str))=false:=by decide)(he:Bf (e::es) X.env=(false,eval e X.env)::Bf es X.env:=by rfl)(hpl:(Fs pos (Bf es X.env)).any (·.1)=false:=by rfl):PE X (.Call (.Name x p) (e::es) [] pos) (K3 r t):=by
 intro pins s σ H Q I h
 refine Hz (Of I hg hm hv ?_ hn hdb)
 exact Kq (Et (ha pos pins s σ H _ I h) λus s1 ⟨vs,H1,I1,r1,q1⟩=>hc pins s1 σ H1 vs us Q I1 r1 q1) he hpl
end
end L2
namespace HT
open PySem PyProof.Rows
def lexLt:List Int->List Int->Bool
 | [],[]=>false
 | [],_::_=>true
 | _::_,[]=>false
 | x::xs,y::ys=>if x=y then lexLt xs ys else decide (x<y)
theorem lexLt_cons(x y:Int)(xs ys:List Int):lexLt (x::xs) (y::ys)=if x=y then lexLt xs ys else decide (x<y):=rfl
theorem lexLt_nil_nil:lexLt [] []=false:=rfl
theorem lexLt_nil_cons(y:Int)(ys:List Int):lexLt [] (y::ys)=true:=rfl
theorem lexLt_cons_nil(x:Int)(xs:List Int):lexLt (x::xs) []=false:=rfl
theorem tJ(A:Cs)(s:Aj)(a:Int)(t:Tok)(c:Int)(u:Tok):∃e,Ks A s (.int a t) (.int c u) e/\(e=true↔a=c) :=
 ⟨(a == c),SeqAt.EqAt.int_int a t c u,by simp⟩
theorem rR(A:Cs)(s:Aj)(a:Int)(t:Tok)(c:Int)(u:Tok)(prog:Bx)(w:World)(E:Value->Aj->Prop)(Q:Value->Aj->Prop)(h:Q (.bool (decide (a<c))) s):wpAny (model prog w) A (richCompare .Lt (.int a t) (.int c u)) Q E s :=
 (PyProof.Rows.lt_int h:wpAny (model prog w) A (Hb .Lt (.int a t) (.int c u)) Q E s)
section
open PySem.SeqAt
open PySem.AutoSeq1 (wpAny_loadPart')
open PySem.MeetsSeq PySem.MeetsSeq2 PySem.MeetsSeq3
theorem tuple_lt_ints(l b:Addr)(items items2:Array Value)(n n2:Nat)(dd dd2:Option Addr)(sl sl2:Array (Option Value))(ns ms:List Int)(hi:Jd items.toList ns)(hj:Jd items2.toList ms):Meets (Builtin.«tuple.__lt__» ⟨[.ref l,.ref b],[]⟩) (λ_ R s=>s.heap.get? l=some { cls:=.type "tuple",dict:=dd,data:=.seq items n,slots:=sl }/\s.heap.get? b=some { cls:=.type "tuple",dict:=dd2,data:=.seq items2 n2,slots:=sl2 }/\R (.ok (.ret (.bool (lexLt ns ms)))) s) :=
 .of_wp λprog w A R s h=>by
  obtain ⟨hp,g,d,tk,os⟩:=s; obtain ⟨hl,hb,h⟩:=h
  have f2:=AutoSeq1.sub_tuple_tuple
  have z1:items.size=ns.length:=by rw[<- hi.length]; simp
  have z2:items2.size=ms.length:=by rw[<- hj.length]; simp
  wp_walk using Sy hl,Sy hb,wpAny_forIn_list _ (λGf b s'=>b.1=none/\s'=⟨hp,g,d,tk,os⟩/\∃(vs ws:List Value) (ns' ms':List Int),Gf=vs.zip ws /\
   Jd vs ns'/\Jd ws ms'/\ns'.length+items2.size=ms'.length+items.size/\R (.ok (.ret (.bool (lexLt ns' ms')))) ⟨hp,g,d,tk,os⟩) _
  case turn =>
   (rintro ⟨y,x⟩ Gf b s' q_; obtain ⟨hb',rfl,vs,ws,ns',ms',hz,hvi,hwi,hlen,hR⟩ := q_)
   cases hvi with
   | nil=>rw[List.zip_nil_left] at hz; cases hz
   | cons a t hvi' =>
    cases hwi with
    | nil=>rw[List.zip_nil_right] at hz; cases hz
    | cons c u hwi' =>
     rw[List.zip_cons_cons] at hz
     injection hz with hyx hrest
     injection hyx with hy hx
     subst hy hx
     rw[lexLt_cons] at hR
     simp only[Bm] at hlen
     obtain ⟨e,he,hiff⟩:=tJ A.in1 ⟨hp,g,d,tk,os⟩ a t c u
     refine Ah (he prog w _ _ ?_)
     cases e with
     | true =>
      rw[if_pos (hiff.mp rfl)] at hR
      wp_walk
      exact ⟨rfl,rfl,_,_,_,_,hrest,hvi',hwi',by omega,hR⟩
     | false =>
      rw[if_neg (λq=>absurd (hiff.mpr q) Cb)] at hR
      have hri:=rR A.in1 ⟨hp,g,d,tk,os⟩ a t c u prog w
      wp_walk using hri
      exact ⟨_,rfl,by simpa using hR⟩
  case fin =>
   (rintro ⟨b1,b2⟩ s' q_; obtain ⟨hb',rfl,vs,ws,ns',ms',hz,hvi,hwi,hlen,hR⟩ := q_)
   simp only at hb'
   subst hb'
   have hv:lexLt ns' ms'=decide (items.size<items2.size):=by
    cases hvi with
    | nil =>
     cases hwi with
     | nil =>
      simp only[Ez] at hlen
      rw[lexLt_nil_nil]
      exact (decide_eq_false (by omega)).symm
     | cons c u hw =>
      simp only[Ez,Bm] at hlen
      rw[lexLt_nil_cons]
      exact (decide_eq_true (by omega)).symm
    | cons a t hv =>
     cases hwi with
     | nil =>
      simp only[Ez,Bm] at hlen
      rw[lexLt_cons_nil]
      exact (decide_eq_false (by omega)).symm
     | cons c u hw =>
      rw[List.zip_cons_cons] at hz
      cases hz
   rw[hv] at hR
   wp_walk
   exact ⟨_,rfl,by simpa [Builtin.Tuple.tupleCompareSizes] using hR⟩
  case h =>
   exact ⟨rfl,rfl,items.toList,items2.toList,ns,ms,rfl,hi,hj,by omega,h⟩
end
section
variable{prog:Bx}{w:World}{A:Cs}{E:Value->Aj->Prop}{s:Aj}
theorem cat_tup{t b:Addr}{vs ws:List Value}{Q:Value->Aj->Prop}(ht:IsTup s.heap t vs.toArray)(hb:IsTup s.heap b ws.toArray)(hv:vs≠[])(h1:ws=[]->Q (.ref t) s)(h2:ws≠[]->Q (.ref s.heap.objs.size) { s with heap:=s.heap.push { cls:=.type "tuple",data:=.seq (vs++ws).toArray } })(hsz:vs.length+ws.length<=Aq):wpAny (model prog w) A (Kc .Add (.ref t) (.ref b)) Q E s:=by
 obtain ⟨⟨cls,dd,data,sl⟩,ho,hc,n,hd⟩:=id ht
 obtain ⟨⟨cls2,dd2,data2,sl2⟩,ho2,hc2,n2,hd2⟩:=id hb
 simp only at hc hd hc2 hd2
 subst hc hd hc2 hd2
 have e:vs.toArray++ws.toArray=(vs++ws).toArray:=by simp
 by_cases hw:ws=[]
 ·exact aA ⟨_,ho,rfl⟩ ⟨_,ho2,rfl⟩ Qw Xx PySem.F.slot_tuple_add PySem.F.entry_tuple_add (PySem.F.args_tuple_add_2 _ _)
   (tuple_addW1 t b vs.toArray ws.toArray n n2 dd dd2 sl sl2 (by simpa using hv) (by simp [hw])) ⟨ho,ho2,h1 hw⟩
 ·refine aA ⟨_,ho,rfl⟩ ⟨_,ho2,rfl⟩ Qw Xx PySem.F.slot_tuple_add PySem.F.entry_tuple_add (PySem.F.args_tuple_add_2 _ _)
   (tuple_addW2 t b vs.toArray ws.toArray n n2 dd dd2 sl sl2 (by simpa using hv) (by simpa using hw) (by rw[Am,Am]; exact hsz)) ⟨ho,ho2,?_⟩
  rw[e]
  exact h2 hw
def sIx(n d:Nat):Option Int->Nat
 | none=>d
 | some v=>if v<0 then (v+(n:Int)).toNat else min v.toNat n
theorem sIx_none(n d:Nat):sIx n d none=d:=rfl
theorem sIx_nat(n d k:Nat):sIx n d (some (k:Int))=min k n:=by
 show (if (k:Int)<0 then ((k:Int)+(n:Int)).toNat else min (k:Int).toNat n)=min k n
 rw[if_neg (by omega),Int.toNat_natCast]
theorem n8(n d:Nat)(hd:d<=n)(o:Option Int):sIx n d o<=n:=by
 cases o with
 | none=>exact hd
 | some v =>
  show (if v<0 then (v+(n:Int)).toNat else min v.toNat n)<=n
  by_cases hv:v<0
  ·rw[if_pos hv]; omega
  ·rw[if_neg hv]; exact Nat.min_le_right _ _
theorem kO(v:Int)(n d:Nat):(if v<0 then max (v+(n:Int)) 0 else min v (n:Int))=((sIx n d (some v):Nat):Int):=by
 show (if v<0 then max (v+(n:Int)) 0 else min v (n:Int))=(((if v<0 then (v+(n:Int)).toNat else min v.toNat n):Nat):Int)
 by_cases hv:v<0
 ·simp only[if_pos hv]; omega
 ·simp only[if_neg hv]; omega
theorem iR(lo hi:Option Int)(n:Nat):Le lo hi 1 (n:Int)=(((sIx n 0 lo:Nat):Int),((sIx n n hi:Nat):Int)):=by
 have h1:¬ ((1:Int)<0):=by omega
 unfold Le
 simp only[h1,if_false]
 refine Prod.ext ?_ ?_
 ·cases lo with
  | none=>rfl
  | some v=>exact kO v n 0
 ·cases hi with
  | none=>rfl
  | some v=>exact kO v n n
theorem hW(i j:Nat):Ht (i:Int) (j:Int) 1=j - i:=by
 unfold Ht
 have h1:(1:Int) > 0:=by omega
 simp only[h1,if_true,Int.ediv_one]
 split <;> omega
theorem Ww{v:Value}{o:Option Int}{Q:Option Int->Aj->Prop}(p:Uu v o)(h:Q o s):wpAny (model prog w) A (Builtin.Slice.slicePartIndex v) Q E s:=by
 cases p with
 | none=>exact slicePart_none h
 | int i t=>exact slicePart_int h
theorem sliceApplied_gen{sl:Addr}{vl vu:Value}{lo hi:Option Int}{n:Nat}{Q:Int×Int×Nat->Aj->Prop}(hs:s.heap.IsSliceOf sl vl vu .none)(pl:Uu vl lo)(pu:Uu vu hi)(h:Q (((sIx n 0 lo:Nat):Int),1,sIx n n hi - sIx n 0 lo) s):wpAny (model prog w) A (Ti (.ref sl) (pure (n:Int))) Q E s:=by
 obtain ⟨os,hos,hcs,hds⟩:=id hs
 unfold Ti Builtin.Slice.sliceFields
 refine Ah (Ah (wpAny_field hos hds (x:=vl) rfl (Ah (wpAny_field hos hds (x:=vu) rfl (Ah (wpAny_field hos hds (x:=.none) rfl (Aw ?_)))))))
 refine Ah (slicePart_none ?_)
 show wpAny _ _ (if ((1:Int) == 0)=true then _ else _) _ _ s
 rw[if_neg (by decide)]
 refine Ah (Ww pl (Ah (Ww pu (Ah (Aw ?_)))))
 show wpAny _ _ (match Le lo hi 1 (n:Int) with | (lo,hi)=>pure (lo,(1:Int),Ht lo hi 1)) _ _ s
 rw[iR lo hi n]
 show wpAny _ _ (pure (((sIx n 0 lo:Nat):Int),(1:Int),Ht ((sIx n 0 lo:Nat):Int) ((sIx n n hi:Nat):Int) 1)) _ _ s
 rw[hW]
 exact Aw h
theorem qF(xs:Array Value)(i k:Nat):((Ew k).filterMap λ(m:Nat)=>xs[((i:Int)+(m:Int) * 1).toNat]?).toArray=((xs.toList.drop i).take k).toArray:=by
 have e:(λ(m:Nat)=>xs[((i:Int)+(m:Int) * 1).toNat]?)=λm=>xs[i+m]?:=by
  funext m
  have : ((i:Int)+(m:Int) * 1).toNat=i+m:=by omega
  rw[this]
 rw[e]
 have:=pick_run xs i k
 rw[List.filterMap_map] at this
 have e2:((λx=>xs[x]?) ∘ λx=>i+x)=λm=>xs[i+m]?:=rfl
 rw[e2] at this
 rw[this]
theorem getItem_tuple_cut{t sl:Addr}{items:Array Value}{vl vu:Value}{lo hi:Option Int}{Q:Value->Aj->Prop}(ht:IsTup s.heap t items)(hs:s.heap.IsSliceOf sl vl vu .none)(pl:Uu vl lo)(pu:Uu vu hi)(hw:¬ (sIx items.size 0 lo=0/\sIx items.size items.size hi=items.size))(h:Q (.ref s.heap.objs.size) { s with heap:=s.heap.push { cls:=.type "tuple",data:=.seq ((items.toList.drop (sIx items.size 0 lo)).take (sIx items.size items.size hi - sIx items.size 0 lo)).toArray } })(hsz:items.size<=Aq):wpAny (model prog w) A (Pp (.ref t) (.ref sl)) Q E s:=by
 have htake:sizeOk (.seq ((items.toList.drop (sIx items.size 0 lo)).take (sIx items.size items.size hi - sIx items.size 0 lo)).toArray):=by
  show ((items.toList.drop (sIx items.size 0 lo)).take (sIx items.size items.size hi - sIx items.size 0 lo)).toArray.size<=Aq
  rw[Am,Cn,Hk,Av]
  omega
 have hj:sIx items.size items.size hi<=items.size:=n8 _ _ (Ai _) hi
 obtain ⟨os,hos,hcs,hds⟩:=id hs
 have hTs:s.TypeIs (.ref sl) "slice" := ⟨os,hos,hcs⟩
 unfold Pp
 try with_reducible refine Ek ?_
 first | refine Ah (Aw ?_) | skip
 refine Ah (wpAny_sequenceKey ht.typeIs (by decide) ?_)
 refine Ah (uG (name:=Km "__getitem__") ht.typeIs Ed
  (Qu Ed ht.typeIs entry_tuple_getitem ?_ (args_tuple_getitem _ _)))
 show wpAny _ _ (Tg (.ref t) >>= _) _ _ s
 refine Ah (tupleItemsOf_ ht ?_)
 refine Ah (Oa hTs ?_)
 rw[if_pos (by decide)]
 refine Ah (sliceApplied_gen hs pl pu ?_)
 have hno:¬ ((((sIx items.size 0 lo:Nat):Int) == 0 && (1:Int) == 1 && (sIx items.size items.size hi - sIx items.size 0 lo) == items.size)=true):=by
  intro q
  rw[Fl,Fl] at q
  have q1:((sIx items.size 0 lo:Nat):Int)=0:=Di q.1.1
  have q2:sIx items.size items.size hi - sIx items.size 0 lo=items.size:=Di q.2
  exact hw ⟨by omega,by omega⟩
 show wpAny _ _ (if (((sIx items.size 0 lo:Nat):Int) == 0 && (1:Int) == 1 && (sIx items.size items.size hi - sIx items.size 0 lo) == items.size)=true then _ else _) _ _ s
 rw[if_neg hno,qF]
 first
  | exact Ah (m:=Ii _) (Eg (Aw ⟨_,rfl,Aw h⟩) htake)
  | exact Ah (m:=Ii _) (Eg (Ah (Aw (Aw ⟨_,rfl,Aw h⟩))) htake)
  | exact Ah (Ah (m:=Ii _) (Eg (Aw (Aw ⟨_,rfl,Aw h⟩)) htake))
  | exact Ah (Ah (m:=Ii _) (Eg (Aw ⟨_,rfl,Aw h⟩) htake))
end
end HT
namespace L2
open PySem PySem.Spec PyProof.Rows
abbrev TO:=St->Hp->(Option Int->Hp->Prop)->Prop
def PO(X:Cx)(e:Option Expr)(t:TO):Prop :=
 ∀(pins:List (Addr×Obj)) (s:Aj) (σ:St) (H:Hp) (Q:Option Int->Hp->Prop),Inv X pins σ H s->t σ H Q ->
  wpAny (model X.prog X.w) X.A (evalPart e X.env) (λu s'=>∃o H',Inv X pins σ H' s'/\Uu u o/\Q o H') X.xe s
def vH:TO:=λ_ H Q=>Q none H
def C5(t:TE):TO:=λσ H Q=>t σ H λx H1=>∃i,x=.int i/\Q (some i) H1
theorem intsAre_of{ns:List Int}:∀{us:List Value},Ey (ns.map V.int) us->Jd us ns:=by
 induction ns with
 | nil=>intro us r; rw[Kh] at r; cases r; exact .nil
 | cons n ns ih =>
  intro us r
  rw[Ap] at r
  cases r with
  | cons r1 r2 =>
   obtain ⟨t,e⟩:=r1
   subst e
   exact .cons n t (ih r2)
section
variable{X:Cx}{e:Expr}{te:TE}{lo hi:Option Expr}{tl th:TO}{pos p2:Pos}
theorem xP:PO X none vH:=by
 intro pins s σ H Q I h
 rw[evalPart_none]
 exact Aw ⟨none,H,I,.none,h⟩
theorem vW(h:PE X e te):PO X (some e) (C5 te):=by
 intro pins s σ H Q I hw
 rw[evalPart_some]
 refine Et (h pins s σ H _ I hw) λu s1 q0_ => ?_
 obtain ⟨x,H1,I1,r1,q1⟩ := q0_
 obtain ⟨i,rfl,q⟩:=q1
 obtain ⟨t,rfl⟩:=r1
 exact ⟨some i,H1,I1,.int i t,q⟩
def x6(X:Cx)(r:V->Option Int->Option Int->Hp->VK->Prop):Prop :=
 ∀(pins:List (Addr×Obj)) (s:Aj) (σ:St) (H:Hp) (x:V) (v vl vu:Value) (lo hi:Option Int) (sl:Addr) (Q:VK),Inv X pins σ H s->RelV x v->s.heap.IsSliceOf sl vl vu .none->Uu vl lo->Uu vu hi->r x lo hi H Q ->
  ∃T id,typeLookup (.type T) "__getitem__" = pure (some (.builtin id))/\s.TypeIs v T/\wpAny (model X.prog X.w) X.A (Pp v (.ref sl)) (EP X pins σ Q) X.xe s
theorem x6.or{r r':V->Option Int->Option Int->Hp->VK->Prop}(h:x6 X r)(h':x6 X r'):x6 X (λx lo hi H Q=>r x lo hi H Q\/r' x lo hi H Q):=by
 intro pins s σ H x v vl vu lo hi sl Q I rx hs pl pu q
 rcases q with q | q
 ·exact h pins s σ H x v vl vu lo hi sl Q I rx hs pl pu q
 ·exact h' pins s σ H x v vl vu lo hi sl Q I rx hs pl pu q
def X3(r:V->Option Int->Option Int->Hp->VK->Prop)(te:TE)(tl th:TO):TE:=λσ H Q=>te σ H λx H1=>tl σ H1 λl H2=>th σ H2 λu H3=>r x l u H3 Q
theorem eJ{r:V->Option Int->Option Int->Hp->VK->Prop}(hr:x6 X r)(he:PE X e te)(hl:PO X lo tl)(hu:PO X hi th):PE X (.Subscript e (.Slice lo hi none p2) pos) (X3 r te tl th):=by
 intro pins s σ H Q I h
 refine Subscript_ (Et (he pins s σ H _ I h) λv s1 q0_ => ?_)
 obtain ⟨x,H1,I1,r1,q1⟩ := q0_
 refine wpAny_Slice (Et (hl pins s1 σ H1 _ I1 q1) λvl s2 ⟨l,H2,I2,pl,q2⟩=>Et (hu pins s2 σ H2 _ I2 q2) λvu s3 q0_ => ?_)
 obtain ⟨u,H3,I3,pu,q3⟩ := q0_
 rw[evalPart_none]
 refine Aw ?_
 have I4:Inv X pins σ H3 { s3 with heap:=s3.heap.push { cls:=.type "slice",data:=.fields #[vl,vu,.none] } }:=I3.kept (t':=s3.toks) λb ob q=>Ao _ q
 obtain ⟨T,id,hT,ht,hg⟩:=hr pins { s3 with heap:=s3.heap.push { cls:=.type "slice",data:=.fields #[vl,vu,.none] } } σ H3 x v vl vu l u s3.heap.objs.size Q I4 r1 (Heap.IsSliceOf.new ..) pl pu q3
 show wpAny (model X.prog X.w) X.A (subscriptTail e (.Slice lo hi none p2) v (.ref s3.heap.objs.size)) (EP X pins σ Q) X.xe { s3 with heap:=s3.heap.push { cls:=.type "slice",data:=.fields #[vl,vu,.none] } }
 exact tail_any (ops:=[.ref s3.heap.objs.size,v]) ht hT hg (by with_unfolding_all rfl)
def Wf(xs:List V)(lo hi:Option Int):List V:=(xs.drop (HT.sIx xs.length 0 lo)).take (HT.sIx xs.length xs.length hi - HT.sIx xs.length 0 lo)
theorem Us(xs:List V)(lo hi:Option Int):(Wf xs lo hi).length<=xs.length:=by
 unfold Wf
 rw[Cn,Hk]
 omega
def Q8(K:PySem.W.Frag):V->Option Int->Option Int->Hp->VK->Prop:=λx lo hi H Q=>∃a xs,x=.ref a/\Qs K H a xs /\
 ¬ (HT.sIx xs.length 0 lo=0/\HT.sIx xs.length xs.length hi=xs.length)/\∀p,H p=none->Q (.ref p) (upd H p (.tup (Wf xs lo hi)))
theorem j6:x6 X (Q8 X.K):=by
 intro pins s σ H x v vl vu lo hi sl Q I rx hs pl pu h
 obtain ⟨a,xs,rfl,hx,hw,q⟩:=h
 cases rx
 obtain ⟨its,r,ht,hz⟩:=I.tuple hx
 have hlen:its.toArray.size=xs.length:=by rw[Am]; exact r.length.symm
 refine ⟨"tuple",_,Ed.lookup,ht.typeIs,?_⟩
 refine HT.getItem_tuple_cut ht hs pl pu (by rw[hlen]; exact hw) ?_ (by rw[hlen]; exact hz)
 rw[hlen]
 refine ⟨.ref s.heap.objs.size,_,I.laid (t':=s.toks) (o:=.tup (Wf xs lo hi)) (λb ob q=>Ao _ q) (Ai _) ?_,rfl,q _ (I.hok.fresh (Ai _))⟩
 exact ⟨Bv (Us xs lo hi) hz,_,(r.drop (HT.sIx xs.length 0 lo)).take (HT.sIx xs.length xs.length hi - HT.sIx xs.length 0 lo),IsTup.new _ _⟩
def J6(K:PySem.W.Frag):R2:=λx y H Q=>∃a b xs ys,x=.ref a/\y=.ref b/\Qs K H a xs/\Qs K H b ys/\xs≠[]/\xs.length+ys.length<=Aq /\
 (ys=[]->Q (.ref a) H)/\(ys≠[]->∀p,H p=none->Q (.ref p) (upd H p (.tup (xs++ys))))
theorem Ey.nil_iff{xs:List V}{us:List Value}(r:Ey xs us):us=[]↔xs=[]:=by
 cases r with
 | nil=>simp
 | cons _ _=>simp
theorem lE:Va X (Kc .Add) (J6 X.K):=by
 intro pins s σ H x y v u Q I rx ry h
 obtain ⟨a,b,xs,ys,rfl,rfl,ha,hb,hx,hz,q1,q2⟩:=h
 cases rx
 cases ry
 obtain ⟨its,r1,p1,_⟩:=I.tuple ha
 obtain ⟨its2,r2,p2,_⟩:=I.tuple hb
 refine HT.cat_tup p1 p2 (λz=>hx (r1.nil_iff.mp z)) (λz=>⟨.ref a,H,I,rfl,q1 (r2.nil_iff.mp z)⟩) (λz=>?_) (by rw[<- r1.length,<- r2.length]; exact hz)
 refine ⟨.ref s.heap.objs.size,_,I.laid (t':=s.toks) (o:=.tup (xs++ys)) (λb ob q=>Ao _ q) (Ai _) ?_,rfl,q2 (λw=>z (r2.nil_iff.mpr w)) _ (I.hok.fresh (Ai _))⟩
 exact ⟨by rw[Ay]; exact hz,_,r1.append r2,IsTup.new _ _⟩
end
def kW(n:Nat)(i:Int):Option Nat:=if 0<=i then (if i<n then some i.toNat else none) else if -(n:Int)<=i then some (i+n).toNat else none
def So{α:Type}(xs:List α)(i:Int):Option α:=(kW xs.length i).bind λj=>xs[j]?
theorem aR{n:Nat}{i:Int}{j:Nat}(h:kW n i=some j):seqIndex? i n=some j/\j<n /\ -(n:Int)<=i/\i<n:=by
 unfold kW at h
 by_cases h0:0<=i
 ·rw[if_pos h0] at h
  by_cases h1:i<n
  ·rw[if_pos h1] at h
   have e:i.toNat=j:=Be h
   exact ⟨by rw[seqIndex_of h0 h1,e],by omega,by omega,h1⟩
  ·rw[if_neg h1] at h; cases h
 ·rw[if_neg h0] at h
  by_cases h1:-(n:Int)<=i
  ·rw[if_pos h1] at h
   have e:(i+n).toNat=j:=Be h
   exact ⟨by rw[seqIndex_neg (by omega) h1,e],by omega,h1,by omega⟩
  ·rw[if_neg h1] at h; cases h
theorem cB{α:Type}{xs:List α}{i:Int}{v:α}(h:So xs i=some v):∃j,seqIndex? i xs.length=some j/\xs[j]? = some v/\j<xs.length /\ -(xs.length:Int)<=i/\i<xs.length:=by
 unfold So at h
 cases e:kW xs.length i with
 | none=>rw[e] at h; cases h
 | some j =>
  rw[e] at h
  obtain ⟨h1,h2,h3,h4⟩:=aR e
  exact ⟨j,h1,h,h2,h3,h4⟩
theorem xI{α:Type}{xs:List α}{j:Nat}{v:α}(h:xs[j]? = some v):So xs (j:Int)=some v:=by
 have hj:j<xs.length:=(Al.mp h).1
 have e:kW xs.length (j:Int)=some j:=by
  unfold kW
  rw[if_pos (by omega),if_pos (by omega)]; simp
 unfold So; rw[e]; exact h
theorem fY{α:Type}(xs:List α)(v:α):So (xs++[v]) (-1)=some v:=by
 have hl:(xs++[v]).length=xs.length+1:=by simp
 have e:kW (xs++[v]).length (-1)=some xs.length:=by
  unfold kW
  rw[hl,if_neg (by decide),if_pos (by omega)]
  congr 1
  omega
 unfold So
 rw[e]
 show (xs++[v])[xs.length]? = some v
 simp
def aQ(b:Expr):Prop:=∀o i,subscripted b false o i=operate [o,i] (Pp o i)
def xC(X:Cx)(r:R2):Prop :=
 ∀(value slice:Expr) (pins:List (Addr×Obj)) (s:Aj) (σ:St) (H:Hp) (x y:V) (v u:Value) (Q:VK),Inv X pins σ H s->RelV x v->RelV y u->r x y H Q ->
  subscripted slice false v u=operate [v,u] (Pp v u)->wpAny (model X.prog X.w) X.A (subscriptTail value slice v u) (EP X pins σ Q) X.xe s
def Y1(X:Cx)(id:String)(r:V->List V->Hp->VK->Prop):Prop :=
 ∀(pins:List (Addr×Obj)) (s:Aj) (σ:St) (H:Hp) (x:V) (xs:List V) (v:Value) (us:List Value) (Q:VK),Inv X pins σ H s->RelV x v->Ey xs us->r x xs H Q ->
  wpAny (model X.prog X.w) X.A (call (.builtin id) (v::us)) (EP X pins σ Q) X.xe s
section
variable{X:Cx}{a b:Expr}{ta tb:TE}{pos:Pos}
theorem xC.or{r r':R2}(h:xC X r)(h':xC X r'):xC X (λx y H Q=>r x y H Q\/r' x y H Q):=by
 intro value slice pins s σ H x y v u Q I rx ry q hs
 rcases q with q | q
 ·exact h value slice pins s σ H x y v u Q I rx ry q hs
 ·exact h' value slice pins s σ H x y v u Q I rx ry q hs
theorem Xh{r:R2}(hr:xC X r)(ha:PE X a ta)(hb:PE X b tb)(hs:aQ b):PE X (.Subscript a b pos) (O3 r ta tb):=by
 intro pins s σ H Q I h
 exact Subscript_ (x8 ha hb I h λv u s2 x y H2 I2 rx ry q=>hr a b pins s2 σ H2 x y v u Q I2 rx ry q (hs _ _))
def K4(K:PySem.W.Frag):R2:=λx y H Q=>∃p xs i v,x=.ref p/\y=.int i/\Rr K H p xs/\So xs i=some v/\Q v H
def L5(K:PySem.W.Frag):R2:=λx y H Q=>∃p xs i v,x=.ref p/\y=.int i/\Qs K H p xs/\So xs i=some v/\Q v H
def M6:R2:=λx y H Q=>∃z i c,x=.str z/\y=.int i/\z.length<=Aq/\So z.cps.toList i=some c/\Q (.str ⟨#[c]⟩) H
theorem Qc:xC X (K4 X.K):=by
 intro value slice pins s σ H x y v u Q I rx ry h hs
 obtain ⟨p,xs,i,z,rfl,rfl,hq,he,q⟩:=h
 cases rx
 obtain ⟨t,rfl⟩:=ry
 obtain ⟨its,r,pl,hz⟩:=I.list hq
 obtain ⟨j,h1,h2,h3,h4,h5⟩:=cB he
 obtain ⟨w,ew,rw'⟩:=r.get h2
 have hl:=r.length
 have hn:=Rq
 have fin:EP X pins σ Q w s:=⟨z,H,I,rw',q⟩
 by_cases h0:0<=i
 ·have hj:i.toNat=j:=by
   rw[seqIndex_of h0 h5] at h1
   exact Be h1
  exact item_listR pl.isList h0 (by omega) (by rw[hj]; simpa using ew) fin hs
 ·have hj:(i+(its.toArray.size:Int)).toNat=j:=by
   rw[seqIndex_neg (by omega) h4] at h1
   rw[Am,<- hl]
   exact Be h1
  exact uK (x:=w) pl.isList.typeIs O8.lookup
   (wpAny_getItem_list_neg (Q:=λr s'=>r=w/\EP X pins σ Q r s') pl.isList (by omega) (by rw[Am] <;> omega) (by omega) (by rw[hj]; simpa using ew) ⟨rfl,fin⟩) hs
theorem U6:xC X (L5 X.K):=by
 intro value slice pins s σ H x y v u Q I rx ry h hs
 obtain ⟨p,xs,i,z,rfl,rfl,hq,he,q⟩:=h
 cases rx
 obtain ⟨t,rfl⟩:=ry
 obtain ⟨its,r,pl,hz⟩:=I.tuple hq
 obtain ⟨j,h1,h2,h3,h4,h5⟩:=cB he
 obtain ⟨w,ew,rw'⟩:=r.get h2
 have hl:=r.length
 have hn:=Rq
 have fin:EP X pins σ Q w s:=⟨z,H,I,rw',q⟩
 exact uK (x:=w) pl.typeIs slot_tuple_getitem.lookup
  (getItem_tuple (j:=j) (Q:=λr s'=>r=w/\EP X pins σ Q r s') pl (by omega) (by omega) (by rw[Am,<- hl]; exact h1) (by simpa using ew) ⟨rfl,fin⟩) hs
theorem zP:xC X M6:=by
 intro value slice pins s σ H x y v u Q I rx ry h hs
 obtain ⟨z,i,c,rfl,rfl,hz,he,q⟩:=h
 obtain ⟨t,rfl⟩:=rx
 obtain ⟨t',rfl⟩:=ry
 obtain ⟨j,h1,h2,h3,h4,h5⟩:=cB he
 have hl:z.cps.toList.length=z.length:=by simp [Str.length]
 rw[hl] at h1 h4 h5
 have hn:=Rq
 exact tail_any (typeIs_str s z t) slot_str_getitem.lookup (getItem_str (c:=c) (by
  have e1:decide (i < -(2 ^ 63:Int))=false:=decide_eq_false (by omega)
  have e2:decide (i ≥ 2 ^ 63)=false:=decide_eq_false (by omega)
  rw[e1,e2,Bool.or_false]) (by rw[h1]; simpa using h2) ⟨.str ⟨#[c]⟩,H,I.tok _,⟨_,rfl⟩,q⟩) hs
def V3(K:PySem.W.Frag):R2:=λx y H Q=>K4 K x y H Q\/L5 K x y H Q\/M6 x y H Q
theorem A6:xC X (V3 X.K):=Qc.or (U6.or zP)
theorem iF(its:List Value)(n j:Nat)(u:Value):Da (·.setIfInBounds j u) { cls:=.type "list",data:=.seq its.toArray n }={ cls:=.type "list",data:=.seq (its.set j u).toArray n }:=by
 simp [Da]
theorem Inv.lst{pins:List (Addr×Obj)}{σ:St}{H:Hp}{s:Aj}{p:Addr}{xs:List V}(I:Inv X pins σ H s)(h:H p=some (.lst xs)):∃(its:List Value) (n:Nat),Ey xs its/\s.heap.get? p=some { cls:=.type "list",data:=.seq its.toArray n }/\xs.length<=Aq:=by
 obtain ⟨z,its,n,r,e⟩:=I.hok p _ h
 exact ⟨its,n,r,e,z⟩
theorem Inv.lstUpd{pins:List (Addr×Obj)}{σ:St}{H:Hp}{s:Aj}{p:Addr}{xs ys:List V}{its its':List Value}{n n':Nat}{f:Obj->Obj}(I:Inv X pins σ H s)(h:H p=some (.lst xs))(ho:s.heap.get? p=some { cls:=.type "list",data:=.seq its.toArray n })(hf:f { cls:=.type "list",data:=.seq its.toArray n }={ cls:=.type "list",data:=.seq its'.toArray n' })(r:Ey ys its')(hz:ys.length<=Aq)(t:Nat):Inv X pins σ (upd H p (.lst ys)) { s with heap:=s.heap.update p f,toks:=t }:=by
 have e:(s.heap.update p f).get? p=some { cls:=.type "list",data:=.seq its'.toArray n' }:=by
  rw[Qq f ho (by rw[hf] <;> rfl),hf]
 refine I.write (x:=p) (e:=p) (by rw[h]; trivial) (.inl rfl) (λb u hb q=>(jW _ _ (Nb hb)).trans q) ⟨_,e⟩ ?_
 exact ⟨hz,its',n',r,e⟩
def N3:V->V->V->Hp->(Hp->Prop)->Prop:=λo i v H Q=>∃p xs k j,o=.ref p/\i=.int k/\H p=some (.lst xs)/\kW xs.length k=some j/\Q (upd H p (.lst (xs.set j v)))
theorem dW:J5 X N3:=by
 intro pins s σ H o i v ov iv u Q I ro ri rv h
 obtain ⟨p,xs,k,j,rfl,rfl,hp,hj,q⟩:=h
 cases ro
 obtain ⟨t,rfl⟩:=ri
 obtain ⟨its,n,r,ho,hz⟩:=I.lst hp
 obtain ⟨h1,h2,h3,h4⟩:=aR hj
 have hl:=r.length
 have hn:=Rq
 have I':Inv X pins σ (upd H p (.lst (xs.set j v))) { s with heap:=s.heap.update p (Da (·.setIfInBounds j u)) } :=
  I.lstUpd hp ho (iF its n j u) (r.set rv j) (by rw[List.length_set]; exact hz) s.toks
 by_cases h0:0<=k
 ·have hk:k.toNat=j:=by
   rw[seqIndex_of h0 h4] at h1
   exact Be h1
  exact PySem.W.ki_setAt ho h0 (by omega) (by rw[Am,<- hl]; exact h4) (by rw[hk]; exact ⟨_,I',q⟩)
 ·have hk:(k+(its.toArray.size:Int)).toNat=j:=by
   rw[seqIndex_neg (by omega) h3] at h1
   rw[Am,<- hl]
   exact Be h1
  exact PySem.W.ki_setBack ho (by omega) (by rw[Am,<- hl]; exact h3) (by omega) (by rw[hk]; exact ⟨_,I',q⟩)
theorem cE(lo hi:Option Int)(n:Nat):(Mt lo hi none n).1=((HT.sIx n 0 lo:Nat):Int)/\(Mt lo hi none n).2.1=((HT.sIx n n hi:Nat):Int)/\(Mt lo hi none n).2.2=1:=by
 refine ⟨?_,?_,rfl⟩
 ·cases lo with
  | none=>simp [Mt,HT.sIx]
  | some i =>
   simp only[Mt,HT.sIx,Option.getD_none,show (1:Int) > 0 by decide,if_true]
   by_cases h:i<0
   ·simp only[h,if_true] <;> omega
   ·simp only[h,if_false] <;> omega
 ·cases hi with
  | none=>simp [Mt,HT.sIx]
  | some i =>
   simp only[Mt,HT.sIx,Option.getD_none,show (1:Int) > 0 by decide,if_true]
   by_cases h:i<0
   ·simp only[h,if_true] <;> omega
   ·simp only[h,if_false] <;> omega
theorem Yv(its:List Value)(lo hi:Option Int):slicePick its.toArray lo hi none=((its.drop (HT.sIx its.length 0 lo)).take (HT.sIx its.length its.length hi - HT.sIx its.length 0 lo)).toArray:=by
 obtain ⟨h1,h2,h3⟩:=cE lo hi its.toArray.size
 unfold slicePick
 rw[h1,h2,h3]
 simp only[sliceRange_one,pick_run,Am] <;> rfl
def A7(K:PySem.W.Frag):V->Option Int->Option Int->Hp->VK->Prop:=λx lo hi H Q=>∃a xs,x=.ref a/\Rr K H a xs/\∀p,H p=none->Q (.ref p) (upd H p (.lst (Wf xs lo hi)))
theorem xO:x6 X (A7 X.K):=by
 intro pins s σ H x v vl vu lo hi sl Q I rx hs pl pu h
 obtain ⟨a,xs,rfl,hx,q⟩:=h
 cases rx
 obtain ⟨its,r,ht,hz⟩:=I.list hx
 have hlen:=r.length
 refine ⟨"list",_,O8.lookup,ht.isList.typeIs,?_⟩
 refine wpAny_getItem_list_slice ht.isList hs pl pu .none (by simp) ?_ (by rw[Am] <;> omega)
 rw[Yv,<- hlen]
 refine ⟨.ref s.heap.objs.size,_,I.laid (t':=s.toks) (o:=.lst (Wf xs lo hi)) (λb ob q=>Ao _ q) (Ai _) ?_,rfl,q _ (I.hok.fresh (Ai _))⟩
 exact ⟨Bv (Us xs lo hi) hz,_,0,(r.drop (HT.sIx xs.length 0 lo)).take (HT.sIx xs.length xs.length hi - HT.sIx xs.length 0 lo),Bn _ rfl⟩
theorem Yl:Nu X (.type "tuple") (λxs H Q=>∃p ys,xs=[.ref p]/\((Rr X.K H p ys/\∀l,H l=none->Q (.ref l) (upd H l (.tup ys)))\/(Qs X.K H p ys/\Q (.ref p) H))):=by
 intro pins s σ H xs us Q I r h
 obtain ⟨p,ys,rfl,h⟩:=h
 obtain ⟨u,rfl,rx⟩:=vals1 r
 cases rx
 rcases h with ⟨hq,q⟩ | ⟨hq,q⟩
 ·obtain ⟨its,r',pl,hz⟩:=I.list hq
  have hlen:=r'.length
  refine call_tuple_list pl.isList (λh' kp=>?_) (by simp only[Am] <;> omega)
  have I1:Inv X pins σ H { s with heap:=h' }:=I.kept (t':=s.toks) kp
  have I2:Inv X pins σ (upd H h'.objs.size (.tup ys)) { s with heap:=h'.push { cls:=.type "tuple",data:=.seq its.toArray } } :=
   I1.laid (t':=s.toks) (λb o e=>Ao _ e) (Ai _) (show Hs X.prog X.w _ _ _ (.tup ys) from ⟨hz,its,r',IsTup.new _ _⟩)
  exact ⟨.ref h'.objs.size,_,I2,rfl,q _ (I1.hok.fresh (Ai _))⟩
 ·obtain ⟨its,r',pl,hz⟩:=I.tuple hq
  exact call_tuple_same pl ⟨.ref p,H,I,rfl,q⟩
def W3(K:PySem.W.Frag)(T:String)(x:V)(H:Hp):Prop:=match x with
 | .str _=>T = "str"
 | .int _=>T = "int"
 | .ref p=>(T = "list" /\ ∃xs,Rr K H p xs)\/(T = "tuple" /\ ∃o,K.lookup p=some o/\o.cls=.type "tuple" /\ o.dict=none) \/
   (T = "dict" /\ ((∃kvs,H p=some (.dK kvs))\/∃kvs,H p=some (.dT kvs)))\/(T = "set" /\ ∃S n,H p=some (.set S n))
 | _=>False
theorem A9{pins:List (Addr×Obj)}{σ:St}{H:Hp}{s:Aj}{T:String}{x:V}{v:Value}(I:Inv X pins σ H s)(r:RelV x v)(ty:W3 X.K T x H):s.TypeIs v T/\∀a,v=.ref a->∃ob,s.heap.get? a=some ob/\ob.dict=none:=by
 cases x with
 | str z =>
  obtain ⟨t,rfl⟩:=r
  cases (show T = "str" from ty)
  exact ⟨typeIs_str s z t,λ_ e=>nomatch e⟩
 | int i =>
  obtain ⟨t,rfl⟩:=r
  cases (show T = "int" from ty)
  exact ⟨typeIs_int s i t,λ_ e=>nomatch e⟩
 | ref p =>
  cases r
  rcases ty with ⟨rfl,xs,hq⟩ | ⟨rfl,o,hk,hc,hd⟩ | ⟨rfl,hk⟩ | ⟨rfl,S,n,hk⟩
  ·obtain ⟨its,_,pl,_⟩:=I.list hq
   refine ⟨pl.isList.typeIs,λa e=>?_⟩
   cases e
   obtain ⟨o,n,e,c,hd,_⟩:=pl
   exact ⟨o,e,hd⟩
  ·refine ⟨⟨o,I.kIn p o hk,hc⟩,λa e=>?_⟩
   cases e
   exact ⟨o,I.kIn _ o hk,hd⟩
  ·have z:∃o,s.heap.get? p=some o/\o.ExactDict:=by
    rcases hk with ⟨kvs,hk⟩ | ⟨kvs,hk⟩
    ·obtain ⟨_,_,_,_,o,_,_,e,ex,_⟩:=I.hok p _ hk
     exact ⟨o,e,ex⟩
    ·obtain ⟨_,_,_,_,o,_,_,e,ex,_⟩:=I.hok p _ hk
     exact ⟨o,e,ex⟩
   obtain ⟨o,e,ex⟩:=z
   refine ⟨⟨o,e,ex.1⟩,λa e2=>?_⟩
   cases e2
   exact ⟨o,e,ex.2.1⟩
  ·obtain ⟨o,_,_,_,e,ex,_⟩:=I.hok p _ hk
   refine ⟨⟨o,e,ex.1⟩,λa e2=>?_⟩
   cases e2
   exact ⟨o,e,ex.2.1⟩
 | _=>exact Iv ty
def Y2(K:PySem.W.Frag)(T:String)(r:V->List V->Hp->VK->Prop)(to:TE)(t:TA):TE:=λσ H Q=>to σ H λx H1=>W3 K T x H1/\t σ H1 λxs H2=>r x xs H2 Q
variable{o e:Expr}{es:List Expr}{to:TE}{t:TA}{name:Str}{apos cpos:Pos}{T id:String}{r:V->List V->Hp->VK->Prop}
theorem cV(pa:PlainAttrs T)(slot:Slot T name id)(hty:typeOf (.builtin id)=pure (.type "method_descriptor"))(hm:Y1 X id r)(ho:PE X o to)(ha:PA X (e::es) t)
  (hbase:Iy o name X.env (eval o X.env)=eval o X.env:=by rfl)
  (hfew:((Fs cpos (Bf (e::es) X.env)).all (λx=>!x.1) && (Qy cpos (Ko [] X.env)).all (λx=>x.1.isSome)
   && decide ((e::es).length+([]:List Jc).length+(if ([]:List Jc).isEmpty then 0 else 1)<30))=true:=by rfl)
  (hline:(apos.endLine == cpos.line)=true:=by rfl) (hs:Bf (e::es) X.env=(false,eval e X.env)::Bf es X.env:=by rfl) (hplain:(Fs cpos (Bf es X.env)).any (·.1)=false:=by rfl) :
  PE X (.Call (.Attribute o name apos) (e::es) [] cpos) (Y2 X.K T r to t):=by
 intro pins s σ H Q I h
 refine wpAny_Call_method_late hbase hfew hline rfl (Et (ho pins s σ H _ I h) λv s1 q0_ => ?_)
 obtain ⟨x,H1,I1,r1,ty,q1⟩ := q0_
 obtain ⟨h1,h2⟩:=A9 I1 r1 ty
 refine ⟨T,id,pa,slot,hty,h1,h2,?_⟩
 have hA:=ha cpos pins s1 σ H1 _ I1 q1
 rw[hs] at hA ⊢
 refine Calls.callWith_builtin (by show (false || (Fs cpos (Bf es X.env)).any (·.1))=false; rw[hplain] <;> rfl) (Calls.evalArgs_plain ?_)
 exact Et hA λus s2 ⟨vs,H2,I2,r2,q2⟩=>hm pins s2 σ H2 x vs v us Q I2 r1 r2 q2
end
def P2(X:Cx)(id:String)(r:V->List V->Hp->VK->Prop):Prop :=
 ∀(pins:List (Addr×Obj)) (s:Aj) (σ:St) (H:Hp) (x:V) (xs:List V) (v:Value) (us:List Value) (Q:VK),Inv X pins σ H s->RelV x v->Ey xs us->r x xs H Q ->
  wpAny (model X.prog X.w) X.A (call (.builtin id) (v::us)) (EP X pins σ Q) X.xe s
theorem Ey.one:∀{x:V} {us:List Value},Ey [x] us->∃u,us=[u]/\RelV x u
 | _,_,.cons r .nil=>⟨_,rfl,r⟩
theorem Ey.two{x y:V}{us:List Value}(h:Ey [x,y] us):∃u v,us=[u,v]/\RelV x u/\RelV y v:=by
 cases h with
 | cons r t =>
  cases t with
  | cons q t =>
   cases t
   exact ⟨_,_,rfl,r,q⟩
theorem Ey.eraseIdx:∀{xs:List V} {us:List Value} (i:Nat),Ey xs us->Ey (xs.eraseIdx i) (us.eraseIdx i)
 | _,_,_,.nil=>.nil
 | _,_,0,.cons _ t=>t
 | _,_,i+1,.cons r t=>.cons r (Ey.eraseIdx i t)
theorem Zm{α:Type}:∀(l:List α) (i:Nat),(l.eraseIdx i).length<=l.length
 | [],_=>Ai _
 | _::_,0=>Ln _
 | _::r,i+1=>Nat.succ_le_succ (Zm r i)
section
variable{X:Cx}{pins:List (Addr×Obj)}{σ:St}{H:Hp}{s:Aj}{l b:Addr}{xs ys zs:List V}
theorem Inv.lset{its its':List Value}{n:Nat}{f:Array Value->Array Value}{t':Nat}(I:Inv X pins σ H s)(hH:H l=some (.lst xs))(e:s.heap.get? l=some { cls:=.type "list",data:=.seq its.toArray n })(hf:f its.toArray=its'.toArray)(hv:Ey ys its')(hz:ys.length<=Aq):Inv X pins σ (upd H l (.lst ys)) { s with heap:=s.heap.update l (Da f),toks:=t' }:=by
 have q:=PySem.IsL.update e f
 rw[hf] at q
 refine I.write (x:=l) (e:=l) (by rw[hH]; exact trivial) (.inl rfl) (λb' u hb hu=>(jW s.heap (Da f) (Nb hb)).trans hu) ⟨_,q⟩ ?_
 exact ⟨hz,its',_,hv,q⟩
theorem Inv.lnew{its:List Value}{t':Nat}(I:Inv X pins σ H s)(hv:Ey ys its)(hz:ys.length<=Aq):Inv X pins σ (upd H s.heap.objs.size (.lst ys)) { s with heap:=s.heap.push { cls:=.type "list",data:=.seq its.toArray },toks:=t' } :=
 I.laid (λ_ _ q=>Ao _ q) (Ai _) ⟨hz,its,0,hv,Bn _ rfl⟩
theorem Inv.fresh(I:Inv X pins σ H s):H s.heap.objs.size=none:=I.hok.fresh (Ai _)
theorem Inv.lstM(I:Inv X pins σ H s)(hH:H l=some (.lst xs)):xs.length<=Aq/\∃(its:List Value) (n:Nat),Ey xs its/\xs.length=its.length/\s.heap.get? l=some { cls:=.type "list",data:=.seq its.toArray n }:=by
 obtain ⟨z,its,n,r,e⟩:=I.hok l _ hH
 exact ⟨z,its,n,r,r.length,e⟩
theorem pI{n:Nat}(h:n<=Aq):Mb n=false:=by
 unfold Mb
 exact decide_eq_false (by omega)
end
section
variable{X:Cx}
def wF:V->List V->Hp->VK->Prop:=λx vs H Q=>∃l xs y,x=.ref l/\vs=[y]/\H l=some (.lst xs)/\xs.length<Aq/\Q .non (upd H l (.lst (xs++[y])))
theorem Lm:P2 X "list.append" wF:=by
 intro pins s σ H x vs v us Q I rx rv h
 obtain ⟨l,xs,y,rfl,rfl,hH,hz,q⟩:=h
 cases rx
 obtain ⟨u,rfl,ru⟩:=rv.one
 obtain ⟨z,its,n,r,hl,e⟩:=I.lstM hH
 refine Yi F.slot_list_append ⟨_,e,rfl⟩ F.entry_list_append (F.args_list_append_2 _ _) (PySem.list_append l its.toArray n u (by rw[Am]; omega)) ⟨e,?_⟩
 refine ⟨.non,_,I.lset (its':=its++[u]) hH e (by simp) (r.append (.cons ru .nil)) ?_,rfl,q⟩
 rw[Ay,Ct]
 omega
def wG:V->List V->Hp->VK->Prop:=λx vs H Q=>∃l b xs zs,x=.ref l/\vs=[.ref b]/\H l=some (.lst xs)/\H b=some (.lst zs)/\xs.length+zs.length<=Aq/\Q .non (upd H l (.lst (xs++zs)))
theorem B7:P2 X "list.extend" wG:=by
 intro pins s σ H x vs v us Q I rx rv h
 obtain ⟨l,b,xs,zs,rfl,rfl,hH,hB,hz,q⟩:=h
 cases rx
 obtain ⟨u,rfl,ru⟩:=rv.one
 cases ru
 obtain ⟨z,its,n,r,hl,e⟩:=I.lstM hH
 obtain ⟨z2,its2,n2,r2,hl2,e2⟩:=I.lstM hB
 have hsz:its.toArray.size+its2.toArray.size<=Aq:=by rw[Am,Am]; omega
 have hlong:¬ (!its.toArray.isEmpty && Mb (its.toArray.size+its2.toArray.size))=true:=by
  rw[pI hsz,Bool.and_false]
  exact Cb
 refine Yi F.slot_list_extend ⟨_,e,rfl⟩ F.entry_list_extend (F.args_list_extend_2 _ _)
  (AutoSeq1.list_extend_list_list_0 l its.toArray n b its2.toArray n2 hlong (by rw[Am]; omega) (by omega)) ⟨e,e2,?_⟩
 refine ⟨.non,_,I.lset (its':=its++its2) hH e (by simp) (r.append r2) ?_,rfl,q⟩
 rw[Ay]
 omega
def r9:V->List V->Hp->VK->Prop:=λx vs H Q=>∃l xs i k y,x=.ref l/\vs=[.int i]/\H l=some (.lst xs) /\ -(2 ^ 63)<=i/\i<2 ^ 63/\seqIndex? i xs.length=some k/\xs[k]? = some y/\Q y (upd H l (.lst (xs.eraseIdx k)))
theorem pF:P2 X "list.pop" r9:=by
 intro pins s σ H x vs v us Q I rx rv h
 obtain ⟨l,xs,i,k,y,rfl,rfl,hH,h1,h2,hk,hy,q⟩:=h
 cases rx
 obtain ⟨u,rfl,ru⟩:=rv.one
 obtain ⟨t,rfl⟩:=ru
 obtain ⟨z,its,n,r,hl,e⟩:=I.lstM hH
 obtain ⟨w,hw,rw'⟩:=r.get hy
 refine Yi F.slot_list_pop ⟨_,e,rfl⟩ F.entry_list_pop (F.args_list_pop_2 _ _)
  (MeetsSeq.list_pop_at l its.toArray n i t k w (fitsIndex_both h1 h2) (by rw[Am,<- hl]; exact hk) (by rw[<- Kr]; exact hw) (by rw[Am]; omega)) ⟨e,?_⟩
 refine ⟨y,_,I.lset (its':=its.eraseIdx k) hH e ?_ (r.eraseIdx k) ?_,rw',q⟩
 ·show its.toArray.eraseIdxIfInBounds k=(its.eraseIdx k).toArray
  rw[List.eraseIdxIfInBounds_toArray]
 ·have:=Zm xs k
  omega
def K9:R2:=λx y H Q=>∃l b xs zs,x=.ref l/\y=.ref b/\H l=some (.lst xs)/\H b=some (.lst zs)/\xs.length+zs.length<=Aq/\∀p,H p=none->Q (.ref p) (upd H p (.lst (xs++zs)))
theorem sQ:Va X (Kc .Add) K9:=by
 intro pins s σ H x y v u Q I rx ry h
 obtain ⟨l,b,xs,zs,rfl,rfl,hH,hB,hz,q⟩:=h
 cases rx
 cases ry
 obtain ⟨z,its,n,r,hl,e⟩:=I.lstM hH
 obtain ⟨z2,its2,n2,r2,hl2,e2⟩:=I.lstM hB
 refine PySem.P.add_list e e2 ?_ (by rw[Am,Am]; omega)
 have ea:its.toArray++its2.toArray=(its++its2).toArray:=by simp
 rw[ea]
 exact ⟨.ref _,_,I.lnew (t':=s.toks) (r.append r2) (by rw[Ay]; omega),rfl,q _ I.fresh⟩
end
end L2
namespace Att
open PySem PySem.W PySem.Calls PyProof.Rows
theorem Uw{P:Params}{h:Heap}:∀(ns:List Int) (vs:List Value),WellAll P h vs (ns.map WData.int)->Jd vs ns:=by
 intro ns
 induction ns with
 | nil =>
  intro vs w
  rw[Kh] at w
  cases w
  exact .nil
 | cons n ns ih =>
  intro vs w
  rw[Ap] at w
  cases w with
  | cons a b =>
   cases a
   exact .cons _ _ (ih _ b)
theorem oQ{l:OpenLaw}{n:Nat}(hn:l.most=some n){P:Params}{h:Heap}{args:List WData}{vals:List Value}(hpre:l.row.toRowW.claim.pre args=true)(hwl:WellAll P h vals args):∃a vs ns,vals=[Bb a]/\args=[WData.list (ns.map WData.int)]/\h.get? a=some { cls:=.type "list",data:=.seq vs.toArray }/\Jd vs ns/\ns.length<=n:=by
 have hsh:WShape.hasAll [] args [.list .int]=true:=(pre_splitW hpre).1
 have hc:l.pre.holds [] { args:=args }=true:=(pre_splitW hpre).2
 obtain ⟨d,r,rfl,h1,h2⟩:=hasAllW_cons hsh
 obtain rfl:=hasAllW_nil h2
 obtain ⟨xs,rfl,h3⟩:=hasW_list h1
 obtain ⟨ns,rfl⟩:=items_int h3
 have hlen:ns.length<=n:=by
  unfold OpenLaw.pre at hc
  have h4:(WTm.not (.lt (.lit (.int (n:Int))) (.len (.arg 0)))).holds [] { args:=[.list (ns.map .int)] }=true:=by
   have h4:=(holds_andW hc).1
   rw[hn] at h4
   exact h4
  have h5:=condW_of h4 (w_not (w_lt w_lit (w_len_list (w_arg rfl))))
  rw[Af] at h5
  refine Nat.le_of_not_lt λq=>?_
  have q':(n:Int)<((ns.length:Nat):Int):=by omega
  first
   | (rw[decide_eq_true q'] at h5; exact absurd h5 (by decide))
   | (simp at h5; omega)
 cases hwl with
 | cons w1 w2 =>
  cases w2
  cases w1 with
  | list ho hall=>exact ⟨_,_,ns,rfl,rfl,ho,Uw ns _ hall,hlen⟩
theorem oE(l:OpenLaw)(args:List WData):l.row.toRowW.claim.post args (.bool true) args=true :=
 postW_of (r:=l.row.toRowW) (X:=(true == true))
  (show WShape.has [] (.bool true) .bool=true by first | rfl | decide | simp [WShape.has,WShape.arms,WShape.armsAll])
  (show (WTm.eq .res (.lit (.bool true))).value [] { args:=args,res:=some (.bool true),after:=args }=some (.bool (true == true)) from w_eq_bool (w_res rfl) w_lit) rfl
theorem attach_call{l:OpenLaw}{n:Nat}{q:Bx}{loose:List Str}{XP:(Str->Option Value)->Heap->Prop}{YP:World->Heap->Prop}{d:DefRec}(hn:l.most=some n)(hdf:d.params.defaults=[])(call:∀(w:World) (s₀ s₁:Aj) (mg mb:Str->Option Value) (fa:Addr) (o:Obj) (pm cd doc:Value) (a:Addr) (vs:List Value) (ns:List Int),Ground q loose [] XP w s₀ mg mb s₁.heap->YP w s₁.heap->s₁.heap.get? fa=some o->o.data=.func (docDef d.name d.params d.body d.scope pm cd doc)->s₁.heap.CodeRec cd d.name->mg d.name=some (.ref fa)->s₁.heap.get? a=some { cls:=.type "list",data:=.seq vs.toArray }->Jd vs ns->ns.length<=n->s₁.gens=#[]->Hf (model l.prog w) Vd (.call (.ref fa) ⟨[.ref a],[]⟩) (λr s'=>r=.ok (.ret (.bool true))/\OldK s₁.heap s'.heap/\s'.os=s₁.os/\Pt s'.gens) s₁):WalkO q loose XP YP l.row.toRowW d [] (λf vs=>PySem.call f vs):=by
 intro w s₀ s₁ mg mb G Y fa o pm cd doc dV kV ho hd hcd hD hmg hg args vals as hpre hlay hrd hwl hlo
 obtain rfl:dV=.none:=Dflts.none hD hdf
 obtain rfl:kV=.none:=Dflts.noKw hD
 obtain ⟨a,vs,ns,rfl,rfl,hobj,hints,hlen⟩:=oQ hn hpre hwl
 refine enter_call (aB (call w s₀ s₁ mg mb fa o pm cd doc a vs ns G Y ho (fd_plain hd) hcd hmg hobj hints hlen hg) λr s' hq=>?_)
 obtain ⟨rfl,h2,h3,h4⟩:=hq
 exact ⟨.inl ⟨.bool true,.bool true,[],rfl,λ_=>rfl,.bool true,oE l _,λ_=>⟨Fh,λ_ hm=>(nomatch hm)⟩⟩,h2,h3,h4⟩
end Att
namespace L2
open PySem PySem.Spec PyProof.Rows
theorem Zb:∀{vs:List Value} {ns:List Int},Jd vs ns->Ey (ns.map V.int) vs
 | _,_,.nil=>.nil
 | _,_,.cons n t h=>.cons ⟨t,rfl⟩ (Zb h)
def Mp(s:Stmt):Arguments:=match s with
 | .FunctionDef _ a _ _ _ _ _ _ _ _=>a
 | _=>{ posonlyargs:=[],args:=[],vararg:=none,kwonlyargs:=[],kw_defaults:=[],kwarg:=none,defaults:=[] }
def Ik(s:Stmt):List Stmt:=match s with
 | .FunctionDef _ _ b _ _ _ _ _ _ _=>b
 | _=>[]
def Cc(s:Stmt):Scope:=match s with
 | .FunctionDef _ _ _ _ _ _ sc _ _ _=>sc
 | _=>{ kind:=.function,names:=[],isGenerator:=false,isCoroutine:=false }
abbrev Jw:kE:=λ_ _ _ _ _ _=>False
abbrev E0:XK:=λ_ _ _=>False
theorem Ky{X:Cx}:Na Jw X E0:=λ_ _ _ _ _ _ _ h=>h.elim
structure Fun(K:PySem.W.Frag)(x qual:Str)(st:Stmt)(f:Addr)(fd:Cr):Prop where
 ex:∃(oc:Value) (od:Option Addr) (kV doc pm:Value) (an:Option Addr) (cdv ct:Value) (osl:Array (Option Value)),
  fd=PySem.W.fnOf x qual (Mp st) (Ik st) (Cc st) .none kV doc pm an cdv ct/\K.lookup f=some ⟨oc,od,.func fd,osl⟩/\PySem.W.codeIn K cdv qual=true
 kp:PySem.W.keepIn K (.ref f)=true
section
variable{P:Bx}{w:World}{K:PySem.W.Frag}{mg:Str->Option Value}{base:Heap}
theorem Fun.ok{x qual:Str}{st:Stmt}{f:Addr}{fd:Cr}{N ps:List Str}{k:Nat}{sp:Sp}(F:Fun K x qual st f fd)(S:FnScope N ps (Cc st))(len:∀vs H Q E,sp vs H Q E->vs.length=ps.length)(hbody:∀(cdv:Value) (A:Cs) (outer:List Env) (s:Aj) (H:Hp) (vs:List V) (Q:VK) (E:XK),Room k (A.deeper (envOfC qual (Cc st) s.heap.objs.size f cdv))->sp vs H Q E->∃t,jN (Mh Jw P w K mg base N qual (Cc st) f cdv A outer s H E).nox (Ik st) t/\t { nx:=λ_ H'=>Q .non H',rt:=Q } (start N vs) H):FnOk P w K mg base Jw (k+1) f fd ps sp:=by
 obtain ⟨oc,od,kV,doc,pm,an,cdv,ct,osl,rfl,lk,hcd⟩:=F.ex
 refine N0 lk hcd S len λA outer s H vs Q E hr hsp=>?_
 obtain ⟨t,h,q⟩:=hbody cdv A outer s H vs Q E hr hsp
 exact ⟨t,h.nox,q⟩
theorem Fun.binds{x qual:Str}{st:Stmt}{f:Addr}{fd:Cr}{ps:List Str}(F:Fun K x qual st f fd)(h:∀(kV doc pm:Value) (an:Option Addr) (cdv ct:Value) (us:List Value),us.length=ps.length->bindArgs (PySem.W.fnOf x qual (Mp st) (Ik st) (Cc st) .none kV doc pm an cdv ct) ⟨us,[]⟩=pure (ps.zip us)):Binds K fd ps []:=by
 obtain ⟨oc,od,kV,doc,pm,an,cdv,ct,osl,rfl,lk,hcd⟩:=F.ex
 exact .all (h kV doc pm an cdv ct)
theorem qQ{x qual:Str}{st:Stmt}{f:Addr}{oc:Value}{od an:Option Addr}{osl:Array (Option Value)}{kV doc pm cdv ct:Value}(l:K.lookup f=some ⟨oc,od,.func (PySem.W.fnOf x qual (Mp st) (Ik st) (Cc st) .none kV doc pm an cdv ct),osl⟩)(c:PySem.W.codeIn K cdv qual=true)(k:PySem.W.keepIn K (.ref f)=true):Fun K x qual st f (PySem.W.fnOf x qual (Mp st) (Ik st) (Cc st) .none kV doc pm an cdv ct):=⟨⟨oc,od,kV,doc,pm,an,cdv,ct,osl,rfl,l,c⟩,k⟩
end
theorem Zg{n:Nat}(h:n<=1000):n<Aq:=Nh h (by decide)
section
variable{X:Cx}
theorem pv(i:Nat){x:Str}{pos:Pos}(hN:X.N[i]? = some x:=by rfl)(hv:P5 X.env.scope x:=by first | exact El rfl | exact Or.inr (El rfl) | exact Or.inr (Or.inr rfl))(hd:(x == ("__debug__" : Str))=false:=by decide)(hcd:(x == ("__classdict__" : Str))=false:=by decide):PE X (.Name x pos) (Tp i):=zY hN hv hd hcd
end
theorem iW{A B:Prop}(h:B):if false=true then A else B:=by
 rw[if_neg Cb]
 exact h
theorem dN{A B:Prop}(h:A):if true=true then A else B:=by
 rw[if_pos rfl]
 exact h
theorem U4{c A B:Prop}[Decidable c](h1:c->A)(h2:¬ c->B):if c then A else B:=by
 by_cases h:c
 ·rw[if_pos h]
  exact h1 h
 ·rw[if_neg h]
  exact h2 h
def Mi(H H':Hp):Prop:=∀b o,H b=some o->H' b=some o
theorem Mi.refl(H:Hp):Mi H H:=λ_ _ h=>h
theorem Mi.trans{H H1 H2:Hp}(a:Mi H H1)(b:Mi H1 H2):Mi H H2:=λc o h=>b c o (a c o h)
theorem Mi.free{H H':Hp}(e:Mi H H'){l:Addr}(h:H' l=Ng):H l=Ng:=by
 cases q:H l with
 | none=>rfl
 | some o =>
  rw[e l o q] at h
  cases h
end L2
namespace Nd
open PySem PySem.Spec PyProof.Rows L2
def Cp(X:Cx)(scope:Scope)(cl:List (Str×Addr))(N:List Str)(fp:List Addr)(s:Aj)(H:Hp):Cx where
 prog:=X.prog
 w:=X.w
 K:=X.K
 mg:=X.mg
 base:=X.base
 A:=X.A
 N:=N
 s₀:=s
 H₀:=H
 env:=Qx scope (Dt (s.heap.objs.size+1) scope.names cl) s.heap.objs.size X.env
 outer:=X.stack
 stack:=X.stack
 ex:=fp
 fn:=λy=>decide (scope.names.lookup y=some Do)
 calm:=X.calm
 pn:=[]
 xe:=λ_ _=>False
section
variable{prog:Bx}{w:World}{A:Cs}{R:Result->Aj->Prop}{s:Aj}
theorem Rc{elt tg iter:Expr}{ifs:List Expr}{scope:Scope}{pos:Pos}{it acc:Value}{env:Env}(J:Nat->Aj->Prop) (turn:∀n s,J n s->wpAny (model prog w) A (pyNext it) (λr s1=>match r with
    | none=>R (.ok .next) s1
    | some v=>wpAny (model prog w) A (Gc tg it v) (λ_ s2=>wpAny (model prog w) A (Ic tg env v) (λ_ s3 =>
      wpAny (model prog w) A (forIn ifs true λc r=>if r=true then (do
        let ok <- isTrue c env (eval c env)
        pure (Ef ok)) else pure (Ef r)) (λok s4 =>
       if ok=true then
        wpAny (model prog w) A (eval elt env) (λx s5=>wpAny (model prog w) A (call (.builtin "list.append") [acc,x]) (λ_ s6=>∃m,m<n/\J m s6) (λ_ _=>False) s5) (λ_ _=>False) s4
       else ∃m,m<n/\J m s4) (λ_ _=>False) s3) (λ_ _=>False) s2) (λ_ _=>False) s1) (λ_ _=>False) s)
  (n:Nat) (h:J n s):Hf (model prog w) A (.compLoop (.ListComp elt [⟨tg,iter,ifs,0⟩] scope pos) 0 it acc env) R s:=by
 refine aC rfl J (λn s hJ=>?_) n h
 show wpAny _ A (Sem.onRaise (compTurn (.ListComp elt [⟨tg,iter,ifs,0⟩] scope pos) 0 it acc env) (λx=>do noteFrame x env; theTreesLotGoes x)) _ _ s
 refine wpAny_noted ?_
 rw[compTurn_list]
 refine Ah (Fd (Ah (Cf (turn n s hJ) (λr s1 h1=>?_) λ_ _ z=>z.elim)))
 cases r with
 | none=>exact Aw h1
 | some v =>
  refine Ah (Cf h1 (λ_ s2 h2=>?_) λ_ _ z=>z.elim)
  refine Ah (Cf h2 (λ_ s3 h3=>?_) λ_ _ z=>z.elim)
  refine Ah (Cf h3 (λok s4 h4=>?_) λ_ _ z=>z.elim)
  cases ok with
  | false=>exact Aw ⟨rfl,h4⟩
  | true =>
   refine Ah (Ah (Cf h4 (λx s5 h5=>?_) λ_ _ z=>z.elim))
   exact Ah (Cf h5 (λ_ s6 h6=>Aw (Aw ⟨rfl,h6⟩)) λ_ _ z=>z.elim)
end
section
variable{X:Cx}{pins:List (Addr×Obj)}{σ:L2.St}{H:Hp}{s:Aj}{scope:Scope}{cl:List (Str×Addr)}{fp:List Addr}{N:List Str}
def dM(scope:Scope)(x:Str):Prop:=scope.names.lookup x=some .local\/scope.names.lookup x=some .cell
structure CompScope(X:Cx)(scope:Scope)(cl:List (Str×Addr))(x:Str)(ys:List Str)(js:List Nat):Prop where
 clos:closureFor scope X.env=pure cl
 oc:(∀y∈scope.names,y.2≠.cell)\/∃z:Str,(∀n,Dt n scope.names []=[(z,n)])/\scope.names.lookup z=some .cell/\∀y∈scope.names,y.2=.cell->y.1=z
 kind:scope.kind=.function
 locs:∀y∈scope.names,y.2=.local->scope.names.lookup y.1=some .local
 own:dM scope x
 sub:∀y c,cl.lookup y=some c->X.env.cells.lookup y=some c
 has_:(scope.names.all λy=>!(y.2 == Dn) || (cl.lookup y.1).isSome)=true
 nd:(x::ys).Nodup
 len:ys.length=js.length
 at_:∀(k:Nat) (y:Str) (j:Nat),ys[k]? = some y->js[k]? = some j->X.N[j]? = some y/\scope.names.lookup y=some .free/\(X.env.kindOf y=some .cell\/X.env.kindOf y=some .free)
theorem CompScope.has{x:Str}{ys:List Str}{js:List Nat}(C:CompScope X scope cl x ys js):∀y∈scope.names,y.2=.free->(cl.lookup y.1).isSome=true:=λy hy e=>by
 have h:=List.all_eq_true.mp C.has_ y hy
 rw[e] at h
 simpa using h
theorem hV{x y:Str}{j:Nat}(clos:closureFor scope X.env=pure cl)(nocell:∀y∈scope.names,y.2≠.cell)(kind:scope.kind=.function)(locs:∀y∈scope.names,y.2=.local->scope.names.lookup y.1=some .local)(own:scope.names.lookup x=some .local)(sub:∀y c,cl.lookup y=some c->X.env.cells.lookup y=some c)(has_:(scope.names.all λy=>!(y.2 == Dn) || (cl.lookup y.1).isSome)=true)(nd:[x,y].Nodup)(hN:X.N[j]? = some y)(hfree:scope.names.lookup y=some .free)(hk:X.env.kindOf y=some .cell):CompScope X scope cl x [y] [j] :=
 ⟨clos,.inl nocell,kind,locs,.inl own,sub,has_,nd,rfl,λk z i e1 e2=>by
  cases k with
  | zero =>
   have h1:y=z:=by simpa using e1
   have h2:j=i:=by simpa using e2
   subst h1 h2
   exact ⟨hN,hfree,.inl hk⟩
  | succ k=>simp at e1⟩
theorem Pn{env:Env}{y:Str}{k:Mu}:∀{names:List (Str×Mu)},
  (names.map λ(n,k)=>if (k == Dn && env.scope.kind == .function && env.kindOf n == some .cell) then (n,Do) else (n,k)).lookup y=some k ->
  ∃k0,names.lookup y=some k0/\(k=k0\/(k0=.free/\k=.cell))
 | [],h=>by simp at h
 | (n,k0)::r,h=>by
  have ih:=@Pn env y k r
  rw[Ap] at h
  by_cases hc:(k0 == Dn && env.scope.kind == .function && env.kindOf n == some .cell)=true
  ·have h':Jx y ((n,Do)::(r.map λ(n,k)=>if (k == Dn && env.scope.kind == .function && env.kindOf n == some .cell) then (n,Do) else (n,k)))=some k:=by
    simpa [hc] using h
   cases hy:y == n with
   | true =>
    rw[By,hy] at h'
    have e:k=Do:=by simpa using h'.symm
    refine ⟨k0,by rw[By,hy],.inr ⟨?_,e⟩⟩
    rw[Fl,Fl] at hc
    exact Di hc.1.1
   | false =>
    rw[By,hy] at h'
    obtain ⟨q,e1,e2⟩:=ih h'
    exact ⟨q,by rw[By,hy]; exact e1,e2⟩
  ·have h':Jx y ((n,k0)::(r.map λ(n,k)=>if (k == Dn && env.scope.kind == .function && env.kindOf n == some .cell) then (n,Do) else (n,k)))=some k:=by
    simpa [hc] using h
   cases hy:y == n with
   | true =>
    rw[By,hy] at h'
    exact ⟨k0,by rw[By,hy],.inl (by simpa using h'.symm)⟩
   | false =>
    rw[By,hy] at h'
    obtain ⟨q,e1,e2⟩:=ih h'
    exact ⟨q,by rw[By,hy]; exact e1,e2⟩
theorem Sn{env:Env}{y:Str}:∀{names:List (Str×Mu)},names.lookup y=some .free ->
  (names.map λ(n,k)=>if (k == Dn && env.scope.kind == .function && env.kindOf n == some .cell) then (n,Do) else (n,k)).lookup y=some .cell \/
  (names.map λ(n,k)=>if (k == Dn && env.scope.kind == .function && env.kindOf n == some .cell) then (n,Do) else (n,k)).lookup y=some .free
 | [],h=>by simp at h
 | (n,k0)::r,h=>by
  have ih:=@Sn env y r
  show Jx y ((if (k0 == Dn && env.scope.kind == .function && env.kindOf n == some .cell)=true then (n,Do) else (n,k0))::_)=_\/Jx y ((if (k0 == Dn && env.scope.kind == .function && env.kindOf n == some .cell)=true then (n,Do) else (n,k0))::_)=_
  by_cases hc:(k0 == Dn && env.scope.kind == .function && env.kindOf n == some .cell)=true
  ·rw[if_pos hc]
   cases hy:y == n with
   | true=>exact .inl (by rw[By,hy])
   | false =>
    rw[By,hy] at h
    simp only[By,hy]
    exact ih h
  ·rw[if_neg hc]
   cases hy:y == n with
   | true =>
    rw[By,hy] at h
    exact .inr (by rw[By,hy]; exact h)
   | false =>
    rw[By,hy] at h
    simp only[By,hy]
    exact ih h
theorem Fb{α β:Type}[BEq α][LawfulBEq α]{y:α}{k:β}:∀{l:List (α×β)},l.lookup y=some k->(y,k)∈l
 | [],h=>by simp at h
 | (n,v)::r,h=>by
  cases hy:y == n with
  | true =>
   rw[By,hy] at h
   have e:=Di hy
   subst e
   have : v=k:=by simpa using h
   subst this
   exact Aa
  | false =>
   rw[By,hy] at h
   exact Ae _ (Fb h)
end
theorem aT{a c:Nat}(h:c<a)(e:c=a+1):False:=by omega
theorem Hn:∀(names:List (Str×Mu)) (n:Nat) (acc:List (Str×Addr)),Dt n names acc=Dt n names []++acc
 | [],_,_=>rfl
 | (x,k)::r,n,acc=>by
  unfold Dt
  by_cases h:(k == Do)=true
  ·rw[if_pos h,if_pos h,Hn r _ ((x,n)::acc),Hn r _ [(x,n)],Br]; rfl
  ·rw[if_neg h,if_neg h]; exact Hn r n acc
theorem Ls:∀(names:List (Str×Mu)) (n:Nat) (acc:List (Str×Addr)),(∀y∈names,y.2≠.cell)->Dt n names acc=acc
 | [],_,_,_=>rfl
 | (x,k)::r,n,acc,h=>by
  unfold Dt
  rw[if_neg (by have:=h (x,k) Aa; simpa using this)]
  exact Ls r n acc λy hy=>h y (Ae _ hy)
theorem Ry{env:Env}{y:Str}:∀{names:List (Str×Mu)},names.lookup y=some .cell->(names.map λ(n,k)=>if (k == Dn && env.scope.kind == .function && env.kindOf n == some .cell) then (n,Do) else (n,k)).lookup y=some .cell
 | [],h=>by simp at h
 | (n,k0)::r,h=>by
  have ih:=@Ry env y r
  show Jx y ((if (k0 == Dn && env.scope.kind == .function && env.kindOf n == some .cell)=true then (n,Do) else (n,k0))::_)=_
  by_cases hc:(k0 == Dn && env.scope.kind == .function && env.kindOf n == some .cell)=true
  ·rw[if_pos hc]
   cases hy:y == n with
   | true=>rw[By,hy]
   | false=>rw[By,hy] at h ⊢; exact ih h
  ·rw[if_neg hc]
   cases hy:y == n with
   | true=>rw[By,hy] at h ⊢; exact h
   | false=>rw[By,hy] at h ⊢; exact ih h
theorem Mn{env:Env}{scope:Scope}{x:Str}(o:dM scope x):Loc (relabel scope env) x:=o.imp lookup_relabel_local Ry
section
variable{X:Cx}{scope:Scope}{cl:List (Str×Addr)}{x y:Str}{ys:List Str}{js:List Nat}{n c:Nat}{N:List Str}{fp:List Addr}{s:Aj}{H:Hp}
theorem Pd(o:dM scope x):(Cp X scope cl N fp s H).fn x=true\/(Cp X scope cl N fp s H).env.scope.names.lookup x=some .local:=by
 rcases o with o | o
 ·exact .inr (lookup_relabel_local o)
 ·exact .inl (decide_eq_true o)
theorem CompScope.split(C:CompScope X scope cl x ys js)(h:(Dt n scope.names cl).lookup y=some c):cl.lookup y=some c\/(c=n/\Dt 0 scope.names []=[(y,0)]/\Dt n scope.names []=[(y,n)]/\scope.names.lookup y=some .cell):=by
 rcases C.oc with o | ⟨z,o1,o2,_⟩
 ·rw[Ls _ _ _ o] at h; exact .inl h
 ·rw[Hn,o1] at h
  have h2:Jx y ((z,n)::cl)=some c:=h
  rw[By] at h2
  cases e:y == z with
  | true =>
   rw[e] at h2
   have ec:c=n:=(Be h2).symm
   have ey:=Di e
   subst ey
   exact .inr ⟨ec,o1 0,o1 n,o2⟩
  | false=>rw[e] at h2; exact .inl h2
theorem CompScope.find(C:CompScope X scope cl x ys js)(h:cl.lookup y=some c)(hy:scope.names.lookup y=some .free):(Dt n scope.names cl).lookup y=some c:=by
 rcases C.oc with o | ⟨z,o1,o2,_⟩
 ·rw[Ls _ _ _ o]; exact h
 ·rw[Hn,o1]
  show Jx y ((z,n)::cl)=some c
  rw[By]
  cases e:y == z with
  | true=>rw[Di e,o2] at hy; cases hy
  | false=>exact h
theorem CompScope.cellAt(C:CompScope X scope cl x ys js)(hy:(y,Do)∈scope.names):(Dt n scope.names cl).lookup y=some n:=by
 rcases C.oc with o | ⟨z,o1,o2,o3⟩
 ·exact absurd rfl (o _ hy)
 ·have ez:y=z:=o3 _ hy rfl
  subst ez
  rw[Hn,o1]
  show Jx y ((y,n)::cl)=some n
  rw[By,beq_self_eq_true]
theorem Nw{M:Model}{A:Cs}{E:Value->Aj->Prop}{Q:Env->Aj->Prop}(C:CompScope X scope cl x ys js)(hQ:∀h4,h4.Ns s.heap.objs.size (λ_=>none)->(∀b u,s.heap.get? b=some u->h4.get? b=some u)->(∀z n,Dt (s.heap.objs.size+1) scope.names []=[(z,n)]->h4.IsCell n none)->Q (newEnv scope s.heap.objs.size X.env.globals (Dt (s.heap.objs.size+1) scope.names cl) X.env.qual none .none (some X.env) Ru) { s with heap:=h4,toks:=s.toks+([]:List (Str×Value)).length }):wpAny M A (Jp scope X.env.globals cl [] X.env.qual none .none (some X.env)) Q E s:=by
 simp only[Jp,Tc,if_true]
 refine Ah (wpAny_alloc (Ah (wpAny_layCells _ (λx k cs=>by cases e:k == Do <;> simp [e]) _ _ _ _ ?_)))
 have hsz:({ s with heap:=s.heap.push { cls:=.type "dict",data:=.dict #[] } }:Aj).heap.objs.size=s.heap.objs.size+1:=Heap.size_push ..
 rw[hsz]
 refine Ah (Aw (Aw (hQ _ ((Heap.Ns.new s.heap (.type "dict")).keeps (pushCells_keeps _ _)) (λb u e=>pushCells_keeps _ _ b u (Ao _ e)) λz n e=>?_)))
 have ok:=(cellsFrom_ok scope.names (s.heap.push { cls:=.type "dict",data:=.dict #[] }) 0 [] ⟨λ_ _ hm=>(nomatch hm),Fh⟩ (Dl _)).empty z n
 rw[show (s.heap.push { cls:=.type "dict",data:=.dict #[] }).objs.size=s.heap.objs.size+1 from hsz,e] at ok
 exact (ok (Ac.mpr rfl)).1
end
section
variable{X:Cx}{pins:List (Addr×Obj)}{σ:L2.St}{H:Hp}{s:Aj}{scope:Scope}{cl:List (Str×Addr)}{fp:List Addr}{N:List Str}
theorem vO{x:Str}{ys:List Str}{js:List Nat}(C:CompScope X scope cl x ys js)(I:Inv X pins σ H s)(hf:∀b∈fp,Lh X pins H b)(ho:∀b∈fp,∃o,s.heap.get? b=some o):(Cp X scope cl N fp s H).Ok where
 mod:=I.ok.mod
 kind:=C.kind
 glob:=I.ok.glob
 blt:=I.ok.blt
 above:=Ai _
 inj:=λy z c h1 h2=>by
  have lt:∀y,cl.lookup y=some c->c<s.heap.objs.size:=λy e=>let ⟨_,q⟩:=I.cell y c (C.sub y c e); q.lt
  rcases C.split h1 with h1 | ⟨e1,a1,_⟩
  ·rcases C.split h2 with h2 | ⟨e2,_⟩
   ·exact I.ok.inj y z c (C.sub y c h1) (C.sub z c h2)
   ·exact (aT (lt y h1) e2).elim
  ·rcases C.split h2 with h2 | ⟨e2,a2,_⟩
   ·exact (aT (lt z h2) e1).elim
   ·rw[a1] at a2
    simpa using a2
 has:=λy hy=>by
  have key:∀k,(k=Do\/k=Dn)->(Qx scope cl s.heap.objs.size X.env).kindOf y=some k->∃c,(Dt (s.heap.objs.size+1) scope.names cl).lookup y=some c:=by
   intro k hk e
   obtain ⟨k0,e0,e1⟩:=Pn (names:=scope.names) (env:=X.env) (y:=y) (k:=k) e
   have m:=Fb e0
   by_cases hk0:k0=.cell
   ·exact ⟨_,C.cellAt (hk0▸m)⟩
   have hfree:k0=.free:=by
    rcases e1 with e1 | e1
    ·subst e1
     rcases hk with hk | hk
     ·exact absurd hk hk0
     ·exact hk
    ·exact e1.1
   obtain ⟨c,hc⟩:=Nx.mp (C.has _ m hfree)
   exact ⟨c,C.find hc (hfree▸e0)⟩
  rcases hy with hy | hy
  ·exact key _ (.inl rfl) hy
  ·exact key _ (.inr rfl) hy
 cab:=λy c h e=>by
  have h:scope.names.lookup y=some .cell:=of_decide_eq_true h
  have:=(C.cellAt (n:=s.heap.objs.size+1) (Fb h)).symm.trans e
  show s.heap.objs.size<=c
  have:=Be this
  omega
 hd:=I.ok.hd
 frames:=I.ok.frames
 stk:=.inl rfl
 exf:=λb hb=>by
  obtain ⟨o,e⟩:=ho b hb
  refine ⟨Cy (Bp e),λy c hc=>?_⟩
  rcases C.split hc with hc | ⟨hc,_⟩
  ·exact (hf b hb).2.2.2.2.1 y c (C.sub y c hc)
  ·exact λz=>aT (Bp e) (z.symm.trans hc)
 bs:=I.bs
 bsz:=Bv I.ok.bsz I.sz
 noex:=λb o e hb=>by
  rcases (hf b hb).2.2.2.1 with z | z
  ·exact I.ok.noex b o e z
  ·exact absurd (Bz (Bp (I.ok.bs b o e).1) z) (Gd _)
 exfs:=λb hb z=>by
  rcases Ak.mp (I.stkSub b z) with e | e
  ·exact (hf b hb).2.1 e
  ·exact (hf b hb).2.2.1 e
 funs:=I.stack
 frf:=I.stkFree
 tab:=I.ok.tab.un I.base
def Dx(σ:L2.St)(js:List Nat):L2.St:=js.map λj=>(σ[j]?).join
theorem Lz{x:Str}{pre ys:List Str}{js:List Nat}{h1:Heap}{tk:Nat}{m1:Str->Option Value}(C:CompScope X scope cl x ys js)(I:Inv X pins σ H s)(hf:∀b∈fp,Lh X pins H b)(ho:∀b∈fp,∃o,s.heap.get? b=some o)(hns:h1.Ns s.heap.objs.size m1)(keep:∀b u,s.heap.get? b=some u->h1.get? b=some u)(new:∀z n,Dt (s.heap.objs.size+1) scope.names []=[(z,n)]->h1.IsCell n none):Inv (Cp X scope cl (pre++ys) fp s H) [] (pre.map (λ_=>none)++Dx σ js) H { s with heap:=h1,toks:=tk }:=by
 have cellK:∀y c,cl.lookup y=some c->∃v,s.heap.IsCell c v/\h1.IsCell c v:=λy c e=>by
  obtain ⟨v,o,q,d⟩:=I.cell y c (C.sub y c e)
  exact ⟨v,⟨o,q,d⟩,o,keep c o q,d⟩
 refine ⟨vO C I hf ho,rfl,I.bare,Un.kept keep,⟨m1,hns,λi y v e1 e2 _=>?_⟩,λy c e=>?_,I.hok.fresh (Ai _),λy c e=>?_,λp hp=>?_,I.hok.kept keep,?_⟩
 ·have e2:(pre.map (λ_=>(none:Option V))++Dx σ js)[i]? = some (some v):=e2
  have e1:(pre++ys)[i]? = some y:=e1
  by_cases hi:i<pre.length
  ·rw[Jf (by rw[Af]; exact hi),Bg] at e2
   cases q:pre[i]? with
   | none=>rw[q] at e2; cases e2
   | some z=>rw[q] at e2; cases e2
  ·rw[Ex (by rw[Af]; omega),Af] at e2
   rw[Ex (by omega)] at e1
   have e1':=e1
   have e2':=e2
   generalize i - pre.length=k at e1' e2'
   unfold Dx at e2'
   rw[Bg] at e2'
   cases ej:js[k]? with
   | none=>rw[ej] at e2'; simp at e2'
   | some j =>
    rw[ej] at e2'
    have e3:(σ[j]?).join=some v:=by simpa using e2'
    have e4:σ[j]? = some (some v):=by
     cases q:σ[j]? with
     | none=>rw[q] at e3; simp at e3
     | some z=>rw[q] at e3; simp at e3; rw[e3]
    obtain ⟨a1,a2,a3⟩:=C.at_ k y j e1' ej
    obtain ⟨m0,_,hl⟩:=I.loc
    have vis:P5 X.env.scope y:=a3.elim (λa3=>.inr (.inl a3)) λa3=>.inr (.inr a3)
    obtain ⟨u,r,l⟩:=hl j y v a1 e4 vis
    refine ⟨u,r,?_⟩
    rcases l with ⟨k1,_⟩ | ⟨_,c,hc,hv⟩
    ·rcases a3 with a3 | a3 <;> rw[k1] at a3 <;> cases a3
    ·obtain ⟨c',hc'⟩:=Nx.mp (C.has _ (Fb a2) rfl)
     have ec:c'=c:=by
      have:=C.sub y c' hc'
      rw[hc] at this
      exact (Be this).symm
     subst ec
     obtain ⟨o,q,d⟩:=hv
     exact .inr ⟨Sn a2,c',C.find hc' a2,o,keep c' o q,d⟩
 ·rcases C.split e with e | ⟨e,_,e',_⟩
  ·obtain ⟨v,_,z⟩:=cellK y c e
   exact ⟨v,z⟩
  ·exact ⟨_,e▸new _ _ e'⟩
 ·rcases C.split e with e | ⟨e,_⟩
  ·exact I.freeC y c (C.sub y c e)
  ·exact I.hok.fresh (by omega)
 ·cases (show p∈([]:List (Addr×Obj)) from hp)
 ·show (pre.map (λ_=>(none:Option V))++Dx σ js).length=(pre++ys).length
  simp [Dx,C.len]
end
section
variable{X:Cx}
def yJ(J:It)(js:List Nat)(tc:TT)(te:TE)(σ:L2.St)(H1:Hp)(Q:VK):Prop:=∀D,H1 D=none->∃W:Nat->Nat->Hp->Prop,(∃m,W 0 m (upd H1 D (.lst [])))/\∀i m H,W i m H ->
 (J.stop i H/\Q (.ref D) H)\/(J.go i H/\∀x H',J.yld i H x H'->∃(N1:Hp->Prop) (N2:VK),(∀H2,N1 H2->∃m',m'<m/\W (i+1) m' H2) /\
  (∀y H3,N2 y H3->∃acc,H3 D=some (.lst acc)/\acc.length<Aq/\∃m',m'<m/\W (i+1) m' (upd H3 D (.lst (acc++[y])))) /\
  tc (some x::Dx σ js) H' λc H2=>if c=true then te (some x::Dx σ js) H2 N2 else N1 H2)
def gH(wi:TI)(js:List Nat)(tc:TT)(te:TE):TE:=λσ H Q=>wi σ H λJ H1=>yJ J js tc te σ H1 Q
def Qa:TT:=λ_ H Q=>Q true H
theorem zZ{σ:L2.St}{H:Hp}{te:TE}{N1:Hp->Prop}{N2:VK}{σ':L2.St}(h:te σ' H N2):Qa σ H λc H2=>if c=true then te σ' H2 N2 else N1 H2:=by
 show if true=true then te σ' H N2 else N1 H
 exact dN h
def gN(X:Cx)(ifs:List Expr)(t:TT):Prop :=
 ∀(pins:List (Addr×Obj)) (s:Aj) (σ:L2.St) (H:Hp) (Q:Bool->Hp->Prop),Inv X pins σ H s->t σ H Q ->
  wpAny (model X.prog X.w) X.A (forIn ifs true λc r=>if r=true then (do
   let ok <- isTrue c X.env (eval c X.env)
   pure (Ef ok)) else pure (Ef r)) (TP X pins σ Q) X.xe s
theorem eV:gN X [] Qa:=λpins s σ H Q I h=>wpAny_tests_nil ⟨H,I,h⟩
theorem vM{c:Expr}{t:TT}(h:PT X c t):gN X [c] t:=λpins s σ H Q I q=>wpAny_tests_one (h pins s σ H Q I q)
theorem Xp{X X':Cx}{pins:List (Addr×Obj)}{σ σ':L2.St}{H3 H6:Hp}{s3 s7:Aj}{scope:Scope}{cl:List (Str×Addr)}{N:List Str}{fp:List Addr}(hX':Cp X scope cl N fp s3 H3=X')(I3:Inv X pins σ H3 s3)(f3:∀b∈fp,Lh X pins H3 b)(I7:Inv X' [] σ' H6 s7):∃m7,s7.heap.Ns s3.heap.objs.size m7/\∀h8,Mj s3.heap.objs.size s7.heap h8->Inv X pins σ H6 { s7 with heap:=h8 }:=by
 have eP:X'.prog=X.prog:=by rw[<- hX']; rfl
 have eW:X'.w=X.w:=by rw[<- hX']; rfl
 obtain ⟨m7,hn7,_⟩:=I7.loc
 have hn7':s7.heap.Ns s3.heap.objs.size m7:=by rw[<- hX'] at hn7; exact hn7
 refine ⟨m7,hn7',λh8 hs8=>?_⟩
 have I7f:H6 s3.heap.objs.size=none:=by have:=I7.free; rw[<- hX'] at this; exact this
 have b7:Un (oI X.stack) fp H3 H6 s3.heap s7.heap:=by have:=I7.base; rw[<- hX'] at this; exact this
 have ne8:∀b o,s3.heap.get? b=some o->b≠s3.heap.objs.size:=λb o q=>Cy (Bp q)
 have u8:Un (oI X.stack) fp H3 H6 s3.heap h8:=by
  refine ⟨λb o q n hb hx=>(hs8.2 b (ne8 b o q)).trans (b7.keep b o q n hb hx),λb o q n hb hx=>?_,b7.free,λb o q hx=>?_,b7.tups,b7.frzs,b7.tbls⟩
  ·obtain ⟨sl,z⟩:=b7.slot b o q n hb hx
   exact ⟨sl,(hs8.2 b (ne8 b o q)).trans z⟩
  ·obtain ⟨o',z⟩:=b7.there b o q hx
   exact ⟨o',(hs8.2 b (ne8 b o q)).trans z⟩
 have hok8:Uo X.prog X.w H6 h8:=λb ob e=>by
  have hk7:=I7.hok
  rw[eP,eW] at hk7
  refine (hk7 b ob e).stay (λc w' hcc q=>(hs8.2 c ?_).trans q) (λ_ q=>q) λ_ _ q=>q
  rintro rfl
  rcases hcc with rfl | hcc
  ·rw[I7f] at e; cases e
  ·rw[I7f] at hcc; cases hcc
 have os7:s7.os=s3.os:=by have:=I7.os; rw[<- hX'] at this; exact this
 exact I3.call' (s':={ s7 with heap:=h8 }) (ch:=fp) os7 u8 hok8 I7.bare (λb hb=>⟨(f3 b hb).2.2.2.1,(f3 b hb).2.1,(f3 b hb).2.2.2.2.1,(f3 b hb).2.2.2.2.2⟩)
theorem Nk{X X':Cx}{σ':L2.St}{H3 H6:Hp}{s3 s7:Aj}{scope:Scope}{cl:List (Str×Addr)}{N:List Str}{fp:List Addr}(hX':Cp X scope cl N fp s3 H3=X')(I4:Inv X' [] σ' H6 s7){H':Hp}(hn:∀b∈fp,H' b=none):∀b∈fp,Lh X' [] H' b:=λb hb=>by
 have ok:=I4.ok
 have hex:b∈X'.ex:=by rw[<- hX']; exact hb
 exact ⟨hn b hb,(ok.exf b hex).1,ok.exfs b hex,.inl hex,(ok.exf b hex).2,λp hp=>by rw[<- hX'] at hp; cases (show p∈([]:List (Addr×Obj)) from hp)⟩
theorem Pc{X X':Cx}{H3:Hp}{s3:Aj}{scope:Scope}{cl:List (Str×Addr)}{N:List Str}{fp:List Addr}(hc:X.calm=true)(hX':Cp X scope cl N fp s3 H3=X'):X'.prog=X.prog/\X'.w=X.w/\X'.K=X.K/\X'.A=X.A/\X'.calm=true:=by
 subst hX'
 exact ⟨rfl,rfl,rfl,rfl,hc⟩
theorem Ub{X X':Cx}{pins:List (Addr×Obj)}{σ σ':L2.St}{H3 H6:Hp}{s3 s7:Aj}{scope:Scope}{cl:List (Str×Addr)}{N:List Str}{fp:List Addr}(hX':Cp X scope cl N fp s3 H3=X')(I3:Inv X pins σ H3 s3)(f3:∀b∈fp,Lh X pins H3 b)(I7:Inv X' [] σ' H6 s7):(∃m7,s7.heap.Ns s3.heap.objs.size m7)/\H6 s3.heap.objs.size=none/\Inv X pins σ H6 s7:=by
 subst hX'
 obtain ⟨m7,hn7,_⟩:=I7.loc
 exact ⟨⟨m7,hn7⟩,I7.free,I3.call' (s':=s7) (ch:=fp) I7.os I7.base I7.hok I7.bare (λb hb=>⟨(f3 b hb).2.2.2.1,(f3 b hb).2.1,(f3 b hb).2.2.2.2.1,(f3 b hb).2.2.2.2.2⟩)⟩
theorem Pa{X:Cx}{pins:List (Addr×Obj)}{σ:L2.St}{H2:Hp}{s2:Aj}{tg:Expr}{J:It}{fp:List Addr}{it:Addr}{tn:Nat->Heap->Prop}(I2:Inv X pins σ H2 s2)(T:Turn X.prog X.w X.K tg J fp it tn)(st2:tn 0 s2.heap)(f2:∀b∈fp,Lh X pins H2 b){ob:Obj}{ho:HO}(I3:Inv X pins σ (upd H2 s2.heap.objs.size ho) { s2 with heap:=s2.heap.push ob }):(∀b∈fp,Lh X pins (upd H2 s2.heap.objs.size ho) b)/\tn 0 (s2.heap.push ob)/\∀b∈fp,∃o,(s2.heap.push ob).get? b=some o:=by
 have Oh:tn 0 (s2.heap.push ob):=T.keep 0 _ _ st2 λb hb o q=>Ao _ q
 refine ⟨λb hb=>⟨?_,(f2 b hb).2⟩,Oh,λb hb=>?_⟩
 ·rw[Dy ?_]
  ·exact (f2 b hb).1
  ·intro z
   obtain ⟨o,q,_⟩:=T.obj _ _ st2 b hb
   have:=Bp q
   rw[z] at this
   exact absurd this (Gd _)
 ·obtain ⟨o,q,_⟩:=T.obj _ _ Oh b hb
  exact ⟨o,q⟩
theorem cA{elt iter:Expr}{x:Str}{px pos:Pos}{ifs:List Expr}{scope:Scope}{cl:List (Str×Addr)}{ys:List Str}{js:List Nat}{wi:TI}{tc:TT}{te:TE}(C:CompScope X scope cl x ys js)(hc:X.calm=true)(hi:PI X (.Name x px) iter wi)(ht:∀fp s H,gN (Cp X scope cl (x::ys) fp s H) ifs tc)(he:∀fp s H,PE (Cp X scope cl (x::ys) fp s H) elt te)(hs:∀x,Cg iter X.env x=pure x:=by intro _; rfl):PE X (.ListComp elt [⟨.Name x px,iter,ifs,0⟩] scope pos) (gH wi js tc te):=by
 intro pins s σ H Q I h
 rw[eval_ListComp]
 refine Hm (use:=none) rfl hs C.clos C.kind C.locs (Et (hi pins s σ H _ I h) λv s1 h1=>Et h1 λitv s2 h2=>?_)
 obtain ⟨it,fp,tn,J,H2,e,I2,T,st2,f2,q2⟩:=h2
 subst e
 have fD:H2 s2.heap.objs.size=none:=I2.hok.fresh (Ai _)
 obtain ⟨W,⟨m0,w0⟩,turn⟩:=q2 s2.heap.objs.size fD
 refine Eg ?_
 have I3:Inv X pins σ (upd H2 s2.heap.objs.size (.lst [])) { s2 with heap:=s2.heap.push { cls:=.type "list",dict:=none,data:=.seq ([]:List Value).toArray } } :=
  I2.laid (t':=s2.toks) (λb u q=>Ao _ q) (Ai _) ⟨Dl _,[],0,.nil,Bn _ rfl⟩
 obtain ⟨f3,st3',o3'⟩:=Pa I2 T st2 f2 I3
 generalize hS3:({ s2 with heap:=s2.heap.push { cls:=.type "list",dict:=none,data:=.seq ([]:List Value).toArray } }:Aj)=s3 at I3
 have Oh:tn 0 s3.heap:=by rw[<- hS3]; exact st3'
 have o3:∀b∈fp,∃o,s3.heap.get? b=some o:=by rw[<- hS3]; exact o3'
 show wpAny _ _ (Jp scope X.env.globals cl [] X.env.qual none .none (some X.env)) _ _ _
 refine Nw C λh4 hns4 keep4 new4=>?_
 have I4:∀tk,Inv (Cp X scope cl (x::ys) fp s3 (upd H2 s2.heap.objs.size (.lst []))) [] (none::Dx σ js) (upd H2 s2.heap.objs.size (.lst [])) { s3 with heap:=h4,toks:=tk }:=λtk=>Lz (pre:=[x]) C I3 f3 o3 hns4 keep4 new4
 have st4:tn 0 h4:=T.keep 0 _ _ Oh λb hb o q=>keep4 b o q
 generalize hX':Cp X scope cl (x::ys) fp s3 (upd H2 s2.heap.objs.size (.lst []))=X' at I4
 obtain ⟨eP,eW,eK,eA,eC⟩:=Pc hc hX'
 have stat:∀{H':Hp},(∀b∈fp,H' b=none)->∀b∈fp,Lh X' [] H' b:=λ{H'} hn=>Nk hX' (I4 0) hn
 have loop:∀s5:Aj,s5={ s3 with heap:=h4,toks:=s3.toks+([]:List (Str×Value)).length } ->
   Hf (model X.prog X.w) X.A (.compLoop (.ListComp elt [⟨.Name x px,iter,ifs,0⟩] scope pos) 0 (.ref it) (.ref s2.heap.objs.size) (Qx scope (Dt (s3.heap.objs.size+1) scope.names cl) s3.heap.objs.size X.env))
    (compPost (model X.prog X.w) X.A X.xe none (EP X pins σ Q) (.ref s2.heap.objs.size) s3.heap.objs.size) s5:=by
  rintro s5 rfl
  refine Rc (λn s'=>∃i o H',Inv X' [] (o::Dx σ js) H' s'/\tn i s'.heap/\(∀b∈fp,H' b=none)/\W i n H') ?_ m0
   ⟨0,none,_,I4 _,st4,λb hb=>(f3 b hb).1,w0⟩
  (intro n s6 q_; obtain ⟨i,o,H6,I6,st6,fr6,w6⟩ := q_)
  rcases turn i n H6 w6 with ⟨stop,qn⟩ | ⟨go,step⟩
  ·have hd:=T.done X' eP eW eK eC i [] s6 _ H6 (λ_ _=>False) I6 (stat fr6) st6 stop
   rw[eA] at hd
   refine Et hd λr s7 q0_ => ?_
   obtain ⟨hr,I7⟩ := q0_
   subst hr
   obtain ⟨m7,hn7,fin7⟩:=Xp hX' I3 f3 I7
   exact ⟨m7,hn7,λh8 hs8=>⟨.ref s2.heap.objs.size,H6,fin7 h8 hs8,rfl,qn⟩⟩
  ·have hit:=T.item X' eP eW eK eC i [] s6 _ H6 (λ_ _=>False) I6 (stat fr6) st6 go
   rw[eA] at hit
   refine Et hit λr s7 q0_ => ?_
   obtain ⟨u,hr,h7⟩ := q0_
   subst hr
   refine Et h7 λ_ s8 q0_ => ?_
   obtain ⟨y,H8,I8,r8,y8,st8,fr8⟩ := q0_
   have I8':=I8.pinned (stat fr8) (T.obj _ _ st8)
   obtain ⟨N1,N2,hN1,hN2,hst⟩:=step y H8 y8
   have again:∀{H9:Hp} {s9:Aj} {m':Nat},Inv X' ([]++Lu fp s8.heap) (some y::Dx σ js) H9 s9->m'<n->W (i+1) m' H9->∃m,m<n/\∃i o H',Inv X' [] (o::Dx σ js) H' s9/\tn i s9.heap/\(∀b∈fp,H' b=none)/\W i m H':=λ{H9 s9 m'} I9 hm w9=>by
    refine ⟨m',hm,i+1,some y,H9,I9.unpinned,T.keep _ _ _ st8 λb hb o e=>(I9.pin (b,o) (Ad _ (Ad _ (Em hb e)))).1,λb hb=>?_,w9⟩
    obtain ⟨o,e,_⟩:=T.obj _ _ st8 b hb
    exact (I9.pin (b,o) (Ad _ (Ad _ (Em hb e)))).2.1
   subst hX'
   refine Et (Ip (i:=0) (x:=x) (pos:=px) C.nd rfl (Mn C.own) (Pd C.own) _ s8 _ H8 y u (λσ' H'=>σ'=some y::Dx σ js/\H'=H8) I8' r8 ⟨rfl,rfl⟩) λ_ s9 q0_ => ?_
   obtain ⟨σ9,H9,I9,e9,e9'⟩ := q0_
   subst e9 e9'
   refine Et (ht fp s3 _ _ s9 _ _ _ I9 hst) λok s10 q0_ => ?_
   obtain ⟨H10,I10,q10⟩ := q0_
   cases ok with
   | false =>
    rw[if_neg Cb] at q10 ⊢
    obtain ⟨m',hm,w10⟩:=hN1 _ q10
    exact again I10 hm w10
   | true =>
    rw[if_pos rfl] at q10 ⊢
    refine Et (he fp s3 _ _ s10 _ _ _ I10 q10) λz s11 q0_ => ?_
    obtain ⟨vz,H11,I11,r11,q11⟩ := q0_
    obtain ⟨acc,ha,hz,m',hm,w11⟩:=hN2 _ _ q11
    refine Et (Lm _ s11 _ H11 (.ref s2.heap.objs.size) [vz] (.ref s2.heap.objs.size) [z] (λ_ H'=>H'=upd H11 s2.heap.objs.size (.lst (acc++[vz]))) I11 rfl (.cons r11 .nil) ⟨_,acc,vz,rfl,rfl,ha,hz,rfl⟩) λ_ s12 q0_ => ?_
    obtain ⟨_,H12,I12,_,e12⟩ := q0_
    subst e12
    exact again I12 hm w11
 exact Ld (loop _ rfl) (T.self X.A 0 _ _ _ st4 (loop _ rfl))
end
structure Walked(J:It)(G:Hp->Prop)(xs:List V):Prop where
 go:∀i H,i<xs.length->G H->J.go i H
 yld:∀i H x H',i<xs.length->G H->J.yld i H x H'->H'=H/\xs[i]? = some x
 stop:∀H,G H->J.stop xs.length H
theorem fL{K:PySem.W.Frag}{a:Addr}{xs:List V}:Walked (P7 K a) (λH=>Rr K H a xs) xs where
 go:=λi H h q=>⟨xs,xs[i],q,by simp [h]⟩
 yld:=λi H x H' _ q y=>⟨y.1,y.2 xs q⟩
 stop:=λH q=>⟨xs,q,Ai _⟩
theorem xD{J:It}{G:Hp->Prop}{xs:List V}{js:List Nat}{tc:TT}{te:TE}{σ:L2.St}{H1:Hp}{Q:VK}(wk:Walked J G xs)(hz:xs.length<=Aq)(Pv:Addr->Nat->List V->Hp->Prop)
  (h0:∀D,H1 D=none->Pv D 0 [] (upd H1 D (.lst []))) (hg:∀D i acc H,Pv D i acc H->G H)
  (hs:∀D i x acc H,H1 D=none->xs[i]? = some x->H D=some (.lst acc)->Pv D i acc H->tc (some x::Dx σ js) H λc H2=>if c=true then te (some x::Dx σ js) H2 λy H3=>H3 D=some (.lst acc)/\Pv D (i+1) (acc++[y]) (upd H3 D (.lst (acc++[y])))
   else H2 D=some (.lst acc)/\Pv D (i+1) acc H2)
  (hd:∀D acc H,H1 D=none->H D=some (.lst acc)->Pv D xs.length acc H->Q (.ref D) H):yJ J js tc te σ H1 Q:=by
 intro D nD
 refine ⟨λi m H=>m=xs.length - i/\i<=xs.length/\∃acc,H D=some (.lst acc)/\acc.length<=i/\Pv D i acc H,⟨xs.length,by simp,Dl _,[],Dd,Ai _,h0 D nD⟩,?_⟩
 (intro i m H q_; obtain ⟨rfl,hi,acc,ha,hl,p⟩ := q_)
 have g:=hg D i acc H p
 by_cases hlt:i<xs.length
 ·refine .inr ⟨wk.go i H hlt g,λx H' y=>?_⟩
  obtain ⟨e,hx⟩:=wk.yld i H x H' hlt g y
  subst e
  refine ⟨λH2=>H2 D=some (.lst acc)/\Pv D (i+1) acc H2,λy H3=>H3 D=some (.lst acc)/\Pv D (i+1) (acc++[y]) (upd H3 D (.lst (acc++[y]))),λH2 q=>?_,λz H3 q=>?_,hs D i x acc _ nD hx ha p⟩
  ·exact ⟨xs.length - (i+1),by omega,rfl,hlt,acc,q.1,by omega,q.2⟩
  ·exact ⟨acc,q.1,by omega,xs.length - (i+1),by omega,rfl,hlt,acc++[z],Dd,by rw[Ay,Ct]; omega,q.2⟩
 ·have e:i=xs.length:=by omega
  subst e
  exact .inl ⟨wk.stop H g,hd D acc H nD ha p⟩
theorem En{H:Hp}{p:Addr}(h:H p=none)(o:HO):Mi H (upd H p o):=λb u q=>by rw[Dy (Ej q h)]; exact q
theorem Iq{α:Type}{xs:List α}{i:Nat}{x:α}(h:xs[i]? = some x):xs.take (i+1)=xs.take i++[x]:=by
 rw[List.take_succ,h]; rfl
mutual
inductive RdV (K:PySem.W.Frag) (H:Hp):V->Ab->Prop
 | non:RdV K H .non .none
 | bl (b:Bool):RdV K H (.bl b) (.bool b)
 | int (i:Int):RdV K H (.int i) (.int i)
 | str (x:Str):RdV K H (.str x) (.str x)
 | lst {a:Addr} {xs:List V} {ds:List Ab}:Rr K H a xs->RdVs K H xs ds->RdV K H (.ref a) (.list ds)
 | tup {a:Addr} {xs:List V} {ds:List Ab}:Qs K H a xs->RdVs K H xs ds->RdV K H (.ref a) (.tuple ds)
inductive RdVs (K:PySem.W.Frag) (H:Hp):List V->List Ab->Prop
 | nil:RdVs K H [] []
 | cons {x:V} {d:Ab} {xs:List V} {ds:List Ab}:RdV K H x d->RdVs K H xs ds->RdVs K H (x::xs) (d::ds)
end
section
variable{X:Cx}{pins:List (Addr×Obj)}{σ:L2.St}{H H':Hp}{s:Aj}{K:PySem.W.Frag}
mutual
theorem RdV.reads(I:Inv X pins σ H s):∀{v:V} {d:Ab} {u:Value},RdV X.K H v d->RelV v u->∃as,Reads s.heap u d as
 | _,_,_,.non,r=>by cases r; exact ⟨_,.none⟩
 | _,_,_,.bl b,r=>by cases r; exact ⟨_,.bool b⟩
 | _,_,_,.int i,r=>by obtain ⟨t,rfl⟩:=r; exact ⟨_,.int i t⟩
 | _,_,_,.str x,r=>by obtain ⟨t,rfl⟩:=r; exact ⟨_,.str x t⟩
 | _,_,_,.lst h hs,r=>by
  cases r
  obtain ⟨its,rv,⟨o,n,e,hc,_,hd⟩,_⟩:=I.list h
  obtain ⟨as,ra⟩:=RdVs.reads I hs rv
  exact ⟨_,.list e hc hd (by simpa using ra)⟩
 | _,_,_,.tup h hs,r=>by
  cases r
  obtain ⟨its,rv,⟨o,e,hc,n,hd⟩,_⟩:=I.tuple h
  obtain ⟨as,ra⟩:=RdVs.reads I hs rv
  exact ⟨_,.tuple e hc hd (by simpa using ra)⟩
theorem RdVs.reads(I:Inv X pins σ H s):∀{vs:List V} {ds:List Ab} {us:List Value},RdVs X.K H vs ds->Ey vs us->∃as,ReadsAll s.heap us ds as
 | _,_,_,.nil,r=>by cases r; exact ⟨_,.nil⟩
 | _,_,_,.cons h hs,r=>by
  cases r with
  | cons r rs =>
   obtain ⟨as,ra⟩:=RdV.reads I h r
   obtain ⟨bs,rb⟩:=RdVs.reads I hs rs
   exact ⟨_,.cons ra rb⟩
end
mutual
theorem RdV.noDict:∀{v:V} {d:Ab},RdV K H v d->d.hasDict=false
 | _,_,.non=>by simp only[Jz]
 | _,_,.bl b=>by simp only[Jz]
 | _,_,.int i=>by simp only[Jz]
 | _,_,.str x=>by simp only[Jz]
 | _,_,.lst h hs=>by simp only[Jz]; exact RdVs.noDict hs
 | _,_,.tup h hs=>by simp only[Jz]; exact RdVs.noDict hs
theorem RdVs.noDict:∀{vs:List V} {ds:List Ab},RdVs K H vs ds->Uj ds=false
 | _,_,.nil=>by simp only[Uj]
 | _,_,.cons h hs=>by simp only[Uj,RdV.noDict h,RdVs.noDict hs,Bool.or_self]
end
end
mutual
def Jt(b:Nat):Ab->Prop
 | .none=>True
 | .bool _=>True
 | .int i=>i.natAbs<10 ^ b
 | .str x=>(reprText x).length<=b
 | .list xs=>Kk b xs
 | .tuple xs=>Kk b xs
 | .dict _=>False
def Kk(b:Nat):List Ab->Prop
 | []=>True
 | x::xs=>Jt b x/\Kk b xs
end
mutual
def Jo:Ab->Nat
 | .list xs=>Gx xs+1
 | .tuple xs=>Gx xs+1
 | _=>1
def Gx:List Ab->Nat
 | []=>0
 | x::xs=>Jo x+Gx xs
end
theorem eX{b:Nat}:∀{xs:List Ab},Kk b xs↔∀x∈xs,Jt b x
 | []=>by simp [Kk]
 | x::xs=>by simp only[Kk,Ak,forall_eq_or_imp,eX (xs:=xs)]
theorem Mq{m:Nat}:∀{xs:List Ab},(∀x∈xs,Jo x<=m)->Gx xs<=m * xs.length
 | [],_=>by simp [Gx]
 | x::xs,h=>by
  have h1:=h x (Aa ..)
  have h2:=Mq (xs:=xs) λy hy=>h y (Ae _ hy)
  simp only[Gx,Bm,Nat.mul_add,Nat.mul_one]
  omega
theorem gT(ns:List Int):Bd (ns.map Bl)=0:=by
 induction ns with
 | nil=>rfl
 | cons n ns ih=>simp only[Ap,Bd,Cq,ih,Nat.max_self]
theorem Jl{m:Nat}:∀{xs:List Ab},(∀x∈xs,x.depth<=m)->Bd xs<=m
 | [],_=>by simp [Bd]
 | x::xs,h=>by
  have h1:=h x (Aa ..)
  have h2:=Jl (xs:=xs) λy hy=>h y (Ae _ hy)
  simp only[Bd]
  omega
theorem dE(ts:List Str):(listText ts).length<=piled ts+2:=by
 cases ts with
 | nil=>rw[listText_nil]; decide
 | cons t r =>
  have h:=textFrom_length_pos r 1 (("[" : Str)++(if (0:Nat) > 0 then ", " else "" : String)++t) (Nat.succ_pos 0)
  have e:((("[" : Str)++(if (0:Nat) > 0 then ", " else "" : String)++t)).length=1+t.length:=by
   rw[Qf,Qf]; rfl
  have hX:(listText (t::r)).length=(textFrom 0 "[" (t::r)).length+1:=by
   show (textFrom 0 "[" (t::r) ++ "]").length=_
   rw[Qf]; rfl
  have hY:(textFrom 0 "[" (t::r)).length=(textFrom 1 (("[" : Str)++(if (0:Nat) > 0 then ", " else "" : String)++t) r).length:=rfl
  rw[hX,hY,h,e,piled_cons]; omega
theorem cH(ts:List Str):(tupleText ts).length<=piled ts+3:=by
 unfold tupleText
 rw[Qf,Qf]
 have e1:((("(" : String):Str)).length=1:=rfl
 have e3:(((if ts.length == 1 then ",)" else ")" : String):Str)).length<=2:=by split <;> decide
 rw[e1]
 by_cases h:ts=[]
 ·subst h
  have : (Str.join ", " []).length=0:=rfl
  omega
 ·have:=join_length_add ts h
  omega
mutual
theorem dJ{b:Nat}:∀{d:Ab},Jt b d->d.shown.length+4<=(b+12) * Jo d
 | .none,_=>by simp only[Ma,Jo]; show 4+4<=_; omega
 | .bool c,_=>by
  simp only[Ma,Jo]
  cases c
  ·show 5+4<=_; omega
  ·show 4+4<=_; omega
 | .int i,h=>by
  simp only[Ma,Jo]
  have h':i.natAbs<10 ^ b:=by simpa only [Jt] using h
  have h2:i.natAbs<10 ^ (b+1):=Bz h' (Ft (by decide) (by omega))
  have h3:(Km (Ut i)).length<=b+2:=by
   have h4:=int_text_length_le10 (a:=i) (k:=b+1) (by omega) h2
   have h5:(Km (Ut i)).length=(Ut i).length:=PySem.ofString_length _
   omega
  have h6:((Ut i:String):Str).length=(Km (Ut i)).length:=rfl
  omega
 | .str x,h=>by
  simp only[Ma,Jo]
  have h':(reprText x).length<=b:=by simpa only [Jt] using h
  omega
 | .list xs,h=>by
  simp only[Ma,Jo]
  have h1:=Pm (b:=b) (xs:=xs) (by simpa only [Jt] using h)
  have h2:=dE (Li xs)
  rw[Nat.mul_add]
  omega
 | .tuple xs,h=>by
  simp only[Ma,Jo]
  have h1:=Pm (b:=b) (xs:=xs) (by simpa only [Jt] using h)
  have h2:=cH (Li xs)
  rw[Nat.mul_add]
  omega
 | .dict kvs,h=>by simp only[Jt] at h
theorem Pm{b:Nat}:∀{xs:List Ab},Kk b xs->piled (Li xs)<=(b+12) * Gx xs
 | [],_=>by simp only[Li,Gx,piled_nil]; omega
 | x::xs,h=>by
  simp only[Kk] at h
  have h1:=dJ h.1
  have h2:=Pm h.2
  simp only[Li,Gx,piled_cons]
  rw[Nat.mul_add]
  omega
end
theorem mP{b i:Nat}(hb:b<=400)(h:i<10 ^ b):i.log2<1920:=by
 have h1:i<2 ^ 1920:=Bz h (Bv (Ft (by decide) hb) (by decide +kernel))
 by_cases z:i=0
 ·subst z; decide
 ·exact (Nat.log2_lt z).mpr h1
mutual
theorem Uq{b:Nat}(hb:b<=400):∀{d:Ab},Jt b d->d.showable=true
 | .none,_=>by simp only[Hq]
 | .bool c,_=>by simp only[Hq]
 | .int i,h=>by
  simp only[Hq]
  exact decide_eq_true (mP hb (by simpa only [Jt] using h))
 | .str x,h=>by simp only[Hq]
 | .list xs,h=>by simp only[Hq]; exact showableAll_of hb (by simpa only [Jt] using h)
 | .tuple xs,h=>by simp only[Hq]; exact showableAll_of hb (by simpa only [Jt] using h)
 | .dict kvs,h=>by simp only[Jt] at h
theorem showableAll_of{b:Nat}(hb:b<=400):∀{xs:List Ab},Kk b xs->Tb xs=true
 | [],_=>by simp only[Tb]
 | x::xs,h=>by
  simp only[Kk] at h
  simp only[Tb,Uq hb h.1,showableAll_of hb h.2,Bool.and_self]
end
def iS:Ab->Str
 | .str x=>x
 | d=>d.shown
structure Tells(K:PySem.W.Frag)(H:Hp)(x:V)(d:Ab):Prop where
 rd:RdV K H x d
 fits:∃b,b<=400/\Jt b d/\(b+12) * Jo d<=Aq
 depth:d.depth<=90
def E7(K:PySem.W.Frag):List V->Hp->VK->Prop:=λxs H Q=>∃x d,xs=[x]/\Tells K H x d/\Q (.str (iS d)) H
theorem Yz{X:Cx}(hg:X.A.guards=some [])(hu:X.A.units+100<cLine):Nu X (.type "str") (E7 X.K):=by
 intro pins s σ H xs us Q I r h
 obtain ⟨x,d,rfl,⟨hr,⟨b,hb,hf,hz⟩,hd⟩,q⟩:=h
 obtain ⟨u,rfl,ru⟩:=vals1 r
 have hs:=Uq hb hf
 have hl:d.shown.length<=Aq:=by have:=dJ hf; omega
 have hnd:=hr.noDict
 obtain ⟨as,rs⟩:=hr.reads I ru
 cases hr with
 | non=>cases ru; exact PySem.P.str_of_none ⟨.str _,H,I.tok _,⟨_,rfl⟩,q⟩
 | bl c=>cases ru; exact PySem.P.str_of_bool ⟨.str _,H,I.tok _,⟨_,rfl⟩,by cases c <;> exact q⟩
 | int i =>
  obtain ⟨t,rfl⟩:=ru
  exact PySem.P.str_of_int (by simpa [Hq] using hs) ⟨.str _,H,I.tok _,⟨_,rfl⟩,q⟩
 | str y =>
  obtain ⟨t,rfl⟩:=ru
  exact PySem.P.str_of_str ⟨.str _,H,I,⟨_,rfl⟩,q⟩
 | lst h1 h2 =>
  cases ru
  exact str_of_reads rs hs (λz=>by rw[hnd] at z; cases z) hg (by omega) (λ_ _ e=>e) (λh' u tk hk=>⟨.str _,H,I.kept hk,⟨_,rfl⟩,q⟩) hl
 | tup h1 h2 =>
  cases ru
  exact str_of_reads rs hs (λz=>by rw[hnd] at z; cases z) hg (by omega) (λ_ _ e=>e) (λh' u tk hk=>⟨.str _,H,I.kept hk,⟨_,rfl⟩,q⟩) hl
theorem pQ{ds:List Ab}{b:Nat}(h:∀d∈ds,Jt b d):Jt b (.tuple ds):=by simpa only [Jt] using eX.mpr h
theorem Wl{ds:List Ab}{b:Nat}(h:∀d∈ds,Jt b d):Jt b (.list ds):=by simpa only [Jt] using eX.mpr h
section
variable{X:Cx}{pins:List (Addr×Obj)}{σ:L2.St}{H:Hp}{s:Aj}{A:Cs}
theorem Tz(A:Cs):A.in1.units<=A.units+1:=by
 first | exact Ai _ | (simp [Around.in1]; done) | (unfold Around.in1; simp)
theorem gB:Nu X (.builtin "isinstance") (λxs H Q=>∃x n t b,xs=[x,.ty n]/\TyOf X.K H x t/\PySem.W.kitOne X.K t (.type n)=some b/\Q (.bl b) H):=by
 intro pins s σ H xs us Q I r h
 obtain ⟨x,n,t,b,rfl,ty,e,q⟩:=h
 obtain ⟨u,v,rfl,ru,rv⟩:=vals2 r
 cases rv
 exact mV I ru ty e λtk=>⟨.bl b,H,I.tok _,rfl,q⟩
end
section
variable{prog:Bx}{w:World}{A:Cs}{E:Value->Aj->Prop}{s:Aj}
theorem Qk{t sl:Addr}{items:Array Value}{vl vu:Value}{lo hi:Option Int}{Q:Value->Aj->Prop}(ht:IsTup s.heap t items)(hs:s.heap.IsSliceOf sl vl vu .none)(pl:Uu vl lo)(pu:Uu vu hi)(hw:HT.sIx items.size 0 lo=0/\HT.sIx items.size items.size hi=items.size)(h:Q (.ref t) s):wpAny (model prog w) A (Pp (.ref t) (.ref sl)) Q E s:=by
 obtain ⟨os,hos,hcs,hds⟩:=id hs
 have hTs:s.TypeIs (.ref sl) "slice" := ⟨os,hos,hcs⟩
 unfold Pp
 try with_reducible refine Ek ?_
 first | refine Ah (Aw ?_) | skip
 refine Ah (wpAny_sequenceKey ht.typeIs (by decide) ?_)
 refine Ah (uG (name:=Km "__getitem__") ht.typeIs Ed
  (Qu Ed ht.typeIs entry_tuple_getitem ?_ (args_tuple_getitem _ _)))
 show wpAny _ _ (Tg (.ref t) >>= _) _ _ s
 refine Ah (tupleItemsOf_ ht ?_)
 refine Ah (Oa hTs ?_)
 rw[if_pos (by decide)]
 refine Ah (HT.sliceApplied_gen hs pl pu ?_)
 rw[hw.1,hw.2]
 have hyes:(((0:Nat):Int) == 0 && (1:Int) == 1 && (items.size - 0) == items.size)=true:=by simp
 show wpAny _ _ (if (((0:Nat):Int) == 0 && (1:Int) == 1 && (items.size - 0) == items.size)=true then _ else _) _ _ s
 rw[if_pos hyes]
 have hex:∀{R:Bool->Aj->Prop},R true s->wpAny (model prog w) A.in1 (Th (.ref t)) R E s:=λ{R} hR=>by
  unfold Th
  refine Ah (Oa ht.typeIs (Aw ?_))
  rw[beq_self_eq_true]
  exact hR
 refine Ah (hex ?_)
 rw[if_pos rfl]
 exact Ah (Rt (Aw ⟨_,rfl,Aw h⟩))
end
mutual
def Dr:Ab->Ab->Bool
 | .none,.none=>true
 | .bool a,.bool b=>a == b
 | .bool a,.int b=>(if a then 1 else 0) == b
 | .int a,.bool b=>a == (if b then 1 else 0)
 | .int a,.int b=>a == b
 | .str a,.str b=>a == b
 | .list xs,.list ys=>Mg xs ys
 | .tuple xs,.tuple ys=>Mg xs ys
 | _,_=>false
def Mg:List Ab->List Ab->Bool
 | [],[]=>true
 | x::xs,y::ys=>Dr x y && Mg xs ys
 | _,_=>false
end
theorem Lw:∀ds es:List Ab,(((Ew (min ds.length es.length)).all λj=>Dr (ds.getD j .none) (es.getD j .none)) && ds.length == es.length)=Mg ds es
 | [],[]=>by simp [Mg]
 | [],_::_=>by simp [Mg]
 | _::_,[]=>by simp [Mg]
 | d::ds,e::es=>by
  have ih:=Lw ds es
  rw[Mg,<- ih]
  have h1:min (d::ds).length (e::es).length=min ds.length es.length+1:=by simp only[Bm]; omega
  rw[h1,List.range_succ_eq_map,List.all_cons,List.all_map]
  have h2:((d::ds).length == (e::es).length)=(ds.length == es.length):=by
   rw[Bool.eq_iff_iff]; simp
  rw[h2,Bool.and_assoc]
  rfl
section
variable{X:Cx}{pins:List (Addr×Obj)}{σ:L2.St}{H:Hp}{s:Aj}{K:PySem.W.Frag}
mutual
theorem RdV.eqD_self:∀{v:V} {d:Ab},RdV K H v d->Dr d d=true
 | _,_,.non=>by simp [Dr]
 | _,_,.bl b=>by simp [Dr]
 | _,_,.int i=>by simp [Dr]
 | _,_,.str x=>by simp [Dr]
 | _,_,.lst _ h=>by rw[Dr]; exact RdVs.eqDs_self h
 | _,_,.tup _ h=>by rw[Dr]; exact RdVs.eqDs_self h
theorem RdVs.eqDs_self:∀{vs:List V} {ds:List Ab},RdVs K H vs ds->Mg ds ds=true
 | _,_,.nil=>by simp [Mg]
 | _,_,.cons h t=>by rw[Mg,RdV.eqD_self h,RdVs.eqDs_self t]; rfl
end
theorem fS(I:Inv X pins σ H s){a:Addr}{xs ys:List V}(h1:Rr X.K H a xs)(h2:Qs X.K H a ys):False:=by
 obtain ⟨us,_,p1,_⟩:=I.list h1
 obtain ⟨vs,_,p2,_⟩:=I.tuple h2
 exact SeqAt.ne_of_list_tuple p1.isList p2 rfl
mutual
theorem RdV.det(I:Inv X pins σ H s):∀{v:V} {d e:Ab},RdV X.K H v d->RdV X.K H v e->d=e
 | _,_,_,.non,h=>by cases h; rfl
 | _,_,_,.bl b,h=>by cases h; rfl
 | _,_,_,.int i,h=>by cases h; rfl
 | _,_,_,.str x,h=>by cases h; rfl
 | _,_,_,.lst q r,h=>by
  cases h with
  | lst q' r' =>
   have e:=I.list_inj q q'
   subst e
   rw[RdVs.det I r r']
  | tup q' r'=>exact (fS I q q').elim
 | _,_,_,.tup q r,h=>by
  cases h with
  | lst q' r'=>exact (fS I q' q).elim
  | tup q' r' =>
   have e:=I.tuple_inj q q'
   subst e
   rw[RdVs.det I r r']
theorem RdVs.det(I:Inv X pins σ H s):∀{vs:List V} {ds es:List Ab},RdVs X.K H vs ds->RdVs X.K H vs es->ds=es
 | _,_,_,.nil,h=>by cases h; rfl
 | _,_,_,.cons r t,h=>by
  cases h with
  | cons r' t'=>rw[RdV.det I r r',RdVs.det I t t']
end
theorem RdVs.length:∀{vs:List V} {ds:List Ab},RdVs K H vs ds->vs.length=ds.length
 | _,_,.nil=>rfl
 | _,_,.cons _ t=>by rw[Bm,Bm,RdVs.length t]
theorem Ue{A:Cs}{n:Nat}(h:A.units+(n+1)<cLine):A.in1.units+n<cLine:=by
 have:=Tz A
 omega
theorem fF{A:Cs}{a b:Addr}{us vs:List Value}{ds es:List Ab}(p1:PlainL s.heap a us.toArray)(p2:PlainL s.heap b vs.toArray)(l1:us.length=ds.length)(l2:vs.length=es.length)(hu:A.units<cLine)(he:∀j (h1:j<us.length) (h2:j<vs.length),Ks A.in1 s us[j] vs[j] (Dr (ds.getD j .none) (es.getD j .none))):SeqAt.RcAt A s (.ref a) (.ref b) (Mg ds es):=by
 rw[<- Lw]
 by_cases hl:ds.length=es.length
 ·have hs:us.toArray.size=vs.toArray.size:=by rw[Am,Am,l1,l2,hl]
  have h:=SeqAt.RcAt.lists (A:=A) (e:=λj=>Dr (ds.getD j .none) (es.getD j .none)) p1.isList p2.isList hs hu (λj h1 h2=>by simpa using he j (by simpa using h1) (by simpa using h2))
  rw[Am,l1] at h
  rw[hl,Nat.min_self,beq_self_eq_true,Bool.and_true,<- hl]
  exact h
 ·have hs:(us.toArray.size != vs.toArray.size)=true:=by rw[Am,Am,l1,l2]; simpa using hl
  have h:=SeqAt.RcAt.lists_lengths (A:=A) p1.isList p2.isList hs hu
  have e0:(ds.length == es.length)=false:=by simpa using hl
  rw[e0,Bool.and_false]
  exact h
theorem Zv{A:Cs}{a b:Addr}{us vs:List Value}{ds es:List Ab}(p1:IsTup s.heap a us.toArray)(p2:IsTup s.heap b vs.toArray)(l1:us.length=ds.length)(l2:vs.length=es.length)(hu:A.units<cLine)(he:∀j (h1:j<us.length) (h2:j<vs.length),Ks A.in1 s us[j] vs[j] (Dr (ds.getD j .none) (es.getD j .none))):SeqAt.RcAt A s (.ref a) (.ref b) (Mg ds es):=by
 rw[<- Lw]
 have h:=SeqAt.RcAt.tuples (A:=A) (e:=λj=>Dr (ds.getD j .none) (es.getD j .none)) (show s.heap.IsTuple a us.toArray from p1) (show s.heap.IsTuple b vs.toArray from p2) hu (λj h1 h2=>by simpa using he j (by simpa using h1) (by simpa using h2))
 rw[Am,Am,l1,l2] at h
 exact h
mutual
theorem pC(I:Inv X pins σ H s):∀{A:Cs} {x y:V} {d e:Ab} {u v:Value},RdV X.K H x d->RdV X.K H y e->RelV x u->RelV y v->A.units+d.depth<cLine->Ks A s u v (Dr d e)
 | A,_,_,_,_,_,_,.non,h,ru,rv,hu=>by
  cases ru
  have hu':A.units<cLine:=by omega
  cases h with
  | non=>cases rv; rw[Dr]; exact SeqAt.EqAt.same _
  | bl b=>cases rv; rw[Dr]; exact SeqAt.EqAt.none_bool b; all_goals simp
  | int b=>obtain ⟨t,rfl⟩:=rv; rw[Dr]; exact SeqAt.EqAt.none_int b t; all_goals simp
  | str b=>obtain ⟨t,rfl⟩:=rv; rw[Dr]; exact SeqAt.EqAt.none_str b t; all_goals simp
  | lst q r=>cases rv; obtain ⟨us,_,p,_⟩:=I.list q; rw[Dr]; exact SeqAt.EqAt.none_list p.isList hu'; all_goals simp
  | tup q r=>cases rv; obtain ⟨us,_,p,_⟩:=I.tuple q; rw[Dr]; exact SeqAt.EqAt.none_tuple p hu'; all_goals simp
 | A,_,_,_,_,_,_,.bl a,h,ru,rv,hu=>by
  cases ru
  have hu':A.units<cLine:=by omega
  cases h with
  | non=>cases rv; rw[Dr]; exact SeqAt.EqAt.bool_none a; all_goals simp
  | bl b=>cases rv; rw[Dr]; exact SeqAt.EqAt.bool_bool a b
  | int b=>obtain ⟨t,rfl⟩:=rv; rw[Dr]; exact SeqAt.EqAt.bool_int a b t
  | str b=>obtain ⟨t,rfl⟩:=rv; rw[Dr]; exact SeqAt.EqAt.bool_str a b t; all_goals simp
  | lst q r=>cases rv; obtain ⟨us,_,p,_⟩:=I.list q; rw[Dr]; exact SeqAt.EqAt.bool_list a p.isList hu'; all_goals simp
  | tup q r=>cases rv; obtain ⟨us,_,p,_⟩:=I.tuple q; rw[Dr]; exact SeqAt.EqAt.bool_tuple a p hu'; all_goals simp
 | A,_,_,_,_,_,_,.int a,h,ru,rv,hu=>by
  obtain ⟨t',rfl⟩:=ru
  have hu':A.units<cLine:=by omega
  cases h with
  | non=>cases rv; rw[Dr]; exact SeqAt.EqAt.int_none a t'; all_goals simp
  | bl b=>cases rv; rw[Dr]; exact SeqAt.EqAt.int_bool a t' b
  | int b=>obtain ⟨t,rfl⟩:=rv; rw[Dr]; exact SeqAt.EqAt.int_int a t' b t
  | str b=>obtain ⟨t,rfl⟩:=rv; rw[Dr]; exact SeqAt.EqAt.int_str a t' b t; all_goals simp
  | lst q r=>cases rv; obtain ⟨us,_,p,_⟩:=I.list q; rw[Dr]; exact SeqAt.EqAt.int_list a t' p.isList hu'; all_goals simp
  | tup q r=>cases rv; obtain ⟨us,_,p,_⟩:=I.tuple q; rw[Dr]; exact SeqAt.EqAt.int_tuple a t' p hu'; all_goals simp
 | A,_,_,_,_,_,_,.str a,h,ru,rv,hu=>by
  obtain ⟨t',rfl⟩:=ru
  have hu':A.units<cLine:=by omega
  cases h with
  | non=>cases rv; rw[Dr]; exact SeqAt.EqAt.str_none a t'; all_goals simp
  | bl b=>cases rv; rw[Dr]; exact SeqAt.EqAt.str_bool a t' b; all_goals simp
  | int b=>obtain ⟨t,rfl⟩:=rv; rw[Dr]; exact SeqAt.EqAt.str_int a t' b t; all_goals simp
  | str b=>obtain ⟨t,rfl⟩:=rv; rw[Dr]; exact SeqAt.EqAt.str_str a t' b t
  | lst q r=>cases rv; obtain ⟨us,_,p,_⟩:=I.list q; rw[Dr]; exact SeqAt.EqAt.str_list a t' p.isList hu'; all_goals simp
  | tup q r=>cases rv; obtain ⟨us,_,p,_⟩:=I.tuple q; rw[Dr]; exact SeqAt.EqAt.str_tuple a t' p hu'; all_goals simp
 | A,_,_,_,_,_,_,@RdV.lst _ _ a xs ds q r,h,ru,rv,hu=>by
  cases ru
  have hu':A.units<cLine:=by omega
  obtain ⟨us,r1,p,_⟩:=I.list q
  cases h with
  | non=>cases rv; rw[Dr]; exact SeqAt.EqAt.list_none p.isList hu'; all_goals simp
  | bl b=>cases rv; rw[Dr]; exact SeqAt.EqAt.list_bool b p.isList hu'; all_goals simp
  | int b=>obtain ⟨t,rfl⟩:=rv; rw[Dr]; exact SeqAt.EqAt.list_int b t p.isList hu'; all_goals simp
  | str b=>obtain ⟨t,rfl⟩:=rv; rw[Dr]; exact SeqAt.EqAt.list_str b t p.isList hu'; all_goals simp
  | @lst b ys es q2 rr2 =>
   cases rv
   obtain ⟨vs,r2,p2,_⟩:=I.list q2
   rw[Dr]
   by_cases hab:a=b
   ·subst hab
    have e:=I.list_inj q q2
    subst e
    rw[<- RdVs.det I r rr2,RdVs.eqDs_self r]
    exact SeqAt.EqAt.same _
   ·refine SeqAt.EqAt.of_refs hab (fF p p2 (r1.length.symm.trans r.length) (r2.length.symm.trans rr2.length) hu' λj h1 h2=>?_)
    exact Oi I r rr2 r1 r2 (Ue (by simpa only [Cq] using hu)) j h1 h2
  | tup q2 rr2=>cases rv; obtain ⟨vs,_,p2,_⟩:=I.tuple q2; rw[Dr]; exact SeqAt.EqAt.list_tuple p.isList p2 hu'; all_goals simp
 | A,_,_,_,_,_,_,@RdV.tup _ _ a xs ds q r,h,ru,rv,hu=>by
  cases ru
  have hu':A.units<cLine:=by omega
  obtain ⟨us,r1,p,_⟩:=I.tuple q
  cases h with
  | non=>cases rv; rw[Dr]; exact SeqAt.EqAt.tuple_none p hu'; all_goals simp
  | bl b=>cases rv; rw[Dr]; exact SeqAt.EqAt.tuple_bool b p hu'; all_goals simp
  | int b=>obtain ⟨t,rfl⟩:=rv; rw[Dr]; exact SeqAt.EqAt.tuple_int b t p hu'; all_goals simp
  | str b=>obtain ⟨t,rfl⟩:=rv; rw[Dr]; exact SeqAt.EqAt.tuple_str b t p hu'; all_goals simp
  | lst q2 rr2=>cases rv; obtain ⟨vs,_,p2,_⟩:=I.list q2; rw[Dr]; exact SeqAt.EqAt.tuple_list p p2.isList hu'; all_goals simp
  | @tup b ys es q2 rr2 =>
   cases rv
   obtain ⟨vs,r2,p2,_⟩:=I.tuple q2
   rw[Dr]
   by_cases hab:a=b
   ·subst hab
    have e:=I.tuple_inj q q2
    subst e
    rw[<- RdVs.det I r rr2,RdVs.eqDs_self r]
    exact SeqAt.EqAt.same _
   ·refine SeqAt.EqAt.of_refs hab (Zv p p2 (r1.length.symm.trans r.length) (r2.length.symm.trans rr2.length) hu' λj h1 h2=>?_)
    exact Oi I r rr2 r1 r2 (Ue (by simpa only [Cq] using hu)) j h1 h2
theorem Oi(I:Inv X pins σ H s):∀{A:Cs} {xs ys:List V} {ds es:List Ab} {us vs:List Value},RdVs X.K H xs ds->RdVs X.K H ys es->Ey xs us->Ey ys vs->A.units+Bd ds<cLine->∀j (h1:j<us.length) (h2:j<vs.length),Ks A s us[j] vs[j] (Dr (ds.getD j .none) (es.getD j .none))
 | _,_,_,_,_,_,_,.nil,_,r1,_,_=>λj h1 h2=>by cases r1; exact absurd h1 (Qm _)
 | A,_,_,_,_,_,_,@RdVs.cons _ _ x d xs ds r t,h,r1,r2,hu=>λj h1 h2=>by
  cases h with
  | nil=>cases r2; exact absurd h2 (Qm _)
  | cons r' t' =>
   cases r1 with
   | cons ra ta =>
    cases r2 with
    | cons rb tb =>
     have hm:A.units+d.depth<cLine/\A.units+Bd ds<cLine:=by
      simp only[Bd] at hu
      omega
     cases j with
     | zero=>simpa using pC I r r' ra rb hm.1
     | succ j=>simpa using Oi I t t' ta tb hm.2 j (by simpa using h1) (by simpa using h2)
end
end
section
variable{X:Cx}{pins:List (Addr×Obj)}{σ:L2.St}{H:Hp}{s:Aj}{K:PySem.W.Frag}
theorem nI{A:Cs}{a b:Addr}{us vs:List Value}{ds es:List Ab}(p1:PlainL s.heap a us.toArray)(p2:PlainL s.heap b vs.toArray)(l1:us.length=ds.length)(l2:vs.length=es.length)(hu:A.units<cLine)(he:∀j (h1:j<us.length) (h2:j<vs.length),Ks A.in1 s us[j] vs[j] (Dr (ds.getD j .none) (es.getD j .none))):SeqAt.RcNeAt A s (.ref a) (.ref b) (!Mg ds es):=by
 rw[<- Lw]
 by_cases hl:ds.length=es.length
 ·have hs:us.toArray.size=vs.toArray.size:=by rw[Am,Am,l1,l2,hl]
  have h:=SeqAt.RcNeAt.lists (A:=A) (e:=λj=>Dr (ds.getD j .none) (es.getD j .none)) p1.isList p2.isList hs hu (λj h1 h2=>by simpa using he j (by simpa using h1) (by simpa using h2))
  rw[Am,l1] at h
  rw[hl,Nat.min_self,beq_self_eq_true,Bool.and_true,<- hl]
  exact h
 ·have hs:(us.toArray.size != vs.toArray.size)=true:=by rw[Am,Am,l1,l2]; simpa using hl
  have h:=SeqAt.RcNeAt.lists_lengths (A:=A) p1.isList p2.isList hs hu
  have e0:(ds.length == es.length)=false:=by simpa using hl
  rw[e0,Bool.and_false]
  exact h
theorem iQ{A:Cs}{a b:Addr}{us vs:List Value}{ds es:List Ab}(p1:IsTup s.heap a us.toArray)(p2:IsTup s.heap b vs.toArray)(l1:us.length=ds.length)(l2:vs.length=es.length)(hu:A.units<cLine)(he:∀j (h1:j<us.length) (h2:j<vs.length),Ks A.in1 s us[j] vs[j] (Dr (ds.getD j .none) (es.getD j .none))):SeqAt.RcNeAt A s (.ref a) (.ref b) (!Mg ds es):=by
 rw[<- Lw]
 have h:=SeqAt.RcNeAt.tuples (A:=A) (e:=λj=>Dr (ds.getD j .none) (es.getD j .none)) (show s.heap.IsTuple a us.toArray from p1) (show s.heap.IsTuple b vs.toArray from p2) hu (λj h1 h2=>by simpa using he j (by simpa using h1) (by simpa using h2))
 rw[Am,Am,l1,l2] at h
 exact h
end
section
variable{X:Cx}
def L7(K:PySem.W.Frag):R2:=λx y H Q=>∃d e,RdV K H x d/\RdV K H y e/\d.depth<=60/\Q (.bl (Dr d e)) H
def E9(K:PySem.W.Frag):R2:=λx y H Q=>∃d e,RdV K H x d/\RdV K H y e/\d.depth<=60/\Q (.bl (!Dr d e)) H
theorem rX(hu:X.A.units+64<cLine):Va X (Hb .Eq) (L7 X.K):=by
 intro pins s σ H x y v u Q I rx ry h
 obtain ⟨d,e,h1,h2,hd,q⟩:=h
 have hu':X.A.units<cLine:=by omega
 cases h1 with
 | non =>
  cases rx
  cases h2 with
  | non=>cases ry; rw[Dr] at q; exact SeqAt.RcAt.none_none _ _ _ _ ⟨.bl _,H,I,rfl,q⟩
  | bl b=>cases ry; rw[Dr] at q; exact SeqAt.RcAt.none_bool b _ _ _ _ ⟨.bl _,H,I,rfl,q⟩; all_goals simp
  | int b=>obtain ⟨t,rfl⟩:=ry; rw[Dr] at q; exact SeqAt.RcAt.none_int b t _ _ _ _ ⟨.bl _,H,I,rfl,q⟩; all_goals simp
  | str b=>obtain ⟨t,rfl⟩:=ry; rw[Dr] at q; exact SeqAt.RcAt.none_str b t _ _ _ _ ⟨.bl _,H,I,rfl,q⟩; all_goals simp
  | @lst b ys es q2 rr2=>cases ry; obtain ⟨vs,r2,p2,_⟩:=I.list q2; rw[Dr] at q; exact SeqAt.RcAt.none_list p2.isList hu' _ _ _ _ ⟨.bl _,H,I,rfl,q⟩; all_goals simp
  | @tup b ys es q2 rr2=>cases ry; obtain ⟨vs,r2,p2,_⟩:=I.tuple q2; rw[Dr] at q; exact SeqAt.RcAt.none_tuple p2 hu' _ _ _ _ ⟨.bl _,H,I,rfl,q⟩; all_goals simp
 | bl a =>
  cases rx
  cases h2 with
  | non=>cases ry; rw[Dr] at q; exact SeqAt.RcAt.bool_none a _ _ _ _ ⟨.bl _,H,I,rfl,q⟩; all_goals simp
  | bl b=>cases ry; rw[Dr] at q; exact SeqAt.RcAt.bool_bool a b _ _ _ _ ⟨.bl _,H,I,rfl,q⟩
  | int b=>obtain ⟨t,rfl⟩:=ry; rw[Dr] at q; exact SeqAt.RcAt.bool_int a b t _ _ _ _ ⟨.bl _,H,I,rfl,q⟩
  | str b=>obtain ⟨t,rfl⟩:=ry; rw[Dr] at q; exact SeqAt.RcAt.bool_str a b t _ _ _ _ ⟨.bl _,H,I,rfl,q⟩; all_goals simp
  | @lst b ys es q2 rr2=>cases ry; obtain ⟨vs,r2,p2,_⟩:=I.list q2; rw[Dr] at q; exact SeqAt.RcAt.bool_list a p2.isList hu' _ _ _ _ ⟨.bl _,H,I,rfl,q⟩; all_goals simp
  | @tup b ys es q2 rr2=>cases ry; obtain ⟨vs,r2,p2,_⟩:=I.tuple q2; rw[Dr] at q; exact SeqAt.RcAt.bool_tuple a p2 hu' _ _ _ _ ⟨.bl _,H,I,rfl,q⟩; all_goals simp
 | int a =>
  obtain ⟨t',rfl⟩:=rx
  cases h2 with
  | non=>cases ry; rw[Dr] at q; exact SeqAt.RcAt.int_none a t' _ _ _ _ ⟨.bl _,H,I,rfl,q⟩; all_goals simp
  | bl b=>cases ry; rw[Dr] at q; exact SeqAt.RcAt.int_bool a t' b _ _ _ _ ⟨.bl _,H,I,rfl,q⟩
  | int b=>obtain ⟨t,rfl⟩:=ry; rw[Dr] at q; exact SeqAt.RcAt.int_int a t' b t _ _ _ _ ⟨.bl _,H,I,rfl,q⟩
  | str b=>obtain ⟨t,rfl⟩:=ry; rw[Dr] at q; exact SeqAt.RcAt.int_str a t' b t _ _ _ _ ⟨.bl _,H,I,rfl,q⟩; all_goals simp
  | @lst b ys es q2 rr2=>cases ry; obtain ⟨vs,r2,p2,_⟩:=I.list q2; rw[Dr] at q; exact SeqAt.RcAt.int_list a t' p2.isList hu' _ _ _ _ ⟨.bl _,H,I,rfl,q⟩; all_goals simp
  | @tup b ys es q2 rr2=>cases ry; obtain ⟨vs,r2,p2,_⟩:=I.tuple q2; rw[Dr] at q; exact SeqAt.RcAt.int_tuple a t' p2 hu' _ _ _ _ ⟨.bl _,H,I,rfl,q⟩; all_goals simp
 | str a =>
  obtain ⟨t',rfl⟩:=rx
  cases h2 with
  | non=>cases ry; rw[Dr] at q; exact SeqAt.RcAt.str_none a t' _ _ _ _ ⟨.bl _,H,I,rfl,q⟩; all_goals simp
  | bl b=>cases ry; rw[Dr] at q; exact SeqAt.RcAt.str_bool a t' b _ _ _ _ ⟨.bl _,H,I,rfl,q⟩; all_goals simp
  | int b=>obtain ⟨t,rfl⟩:=ry; rw[Dr] at q; exact SeqAt.RcAt.str_int a t' b t _ _ _ _ ⟨.bl _,H,I,rfl,q⟩; all_goals simp
  | str b=>obtain ⟨t,rfl⟩:=ry; rw[Dr] at q; exact SeqAt.RcAt.str_str a t' b t _ _ _ _ ⟨.bl _,H,I,rfl,q⟩
  | @lst b ys es q2 rr2=>cases ry; obtain ⟨vs,r2,p2,_⟩:=I.list q2; rw[Dr] at q; exact SeqAt.RcAt.str_list a t' p2.isList hu' _ _ _ _ ⟨.bl _,H,I,rfl,q⟩; all_goals simp
  | @tup b ys es q2 rr2=>cases ry; obtain ⟨vs,r2,p2,_⟩:=I.tuple q2; rw[Dr] at q; exact SeqAt.RcAt.str_tuple a t' p2 hu' _ _ _ _ ⟨.bl _,H,I,rfl,q⟩; all_goals simp
 | @lst a xs ds qa r =>
  cases rx
  obtain ⟨us,r1,p,_⟩:=I.list qa
  cases h2 with
  | non=>cases ry; rw[Dr] at q; exact SeqAt.RcAt.list_none p.isList hu' _ _ _ _ ⟨.bl _,H,I,rfl,q⟩; all_goals simp
  | bl b=>cases ry; rw[Dr] at q; exact SeqAt.RcAt.list_bool b p.isList hu' _ _ _ _ ⟨.bl _,H,I,rfl,q⟩; all_goals simp
  | int b=>obtain ⟨t,rfl⟩:=ry; rw[Dr] at q; exact SeqAt.RcAt.list_int b t p.isList hu' _ _ _ _ ⟨.bl _,H,I,rfl,q⟩; all_goals simp
  | str b=>obtain ⟨t,rfl⟩:=ry; rw[Dr] at q; exact SeqAt.RcAt.list_str b t p.isList hu' _ _ _ _ ⟨.bl _,H,I,rfl,q⟩; all_goals simp
  | @lst b ys es q2 rr2=>cases ry; obtain ⟨vs,r2,p2,_⟩:=I.list q2; rw[Dr] at q; exact fF p p2 (r1.length.symm.trans r.length) (r2.length.symm.trans rr2.length) hu' (λj h1 h2=>Oi I r rr2 r1 r2 (Ue (by simp only[Cq] at hd; omega)) j h1 h2) _ _ _ _ ⟨.bl _,H,I,rfl,q⟩
  | @tup b ys es q2 rr2=>cases ry; obtain ⟨vs,r2,p2,_⟩:=I.tuple q2; rw[Dr] at q; exact SeqAt.RcAt.list_tuple p.isList p2 hu' _ _ _ _ ⟨.bl _,H,I,rfl,q⟩; all_goals simp
 | @tup a xs ds qa r =>
  cases rx
  obtain ⟨us,r1,p,_⟩:=I.tuple qa
  cases h2 with
  | non=>cases ry; rw[Dr] at q; exact SeqAt.RcAt.tuple_none p hu' _ _ _ _ ⟨.bl _,H,I,rfl,q⟩; all_goals simp
  | bl b=>cases ry; rw[Dr] at q; exact SeqAt.RcAt.tuple_bool b p hu' _ _ _ _ ⟨.bl _,H,I,rfl,q⟩; all_goals simp
  | int b=>obtain ⟨t,rfl⟩:=ry; rw[Dr] at q; exact SeqAt.RcAt.tuple_int b t p hu' _ _ _ _ ⟨.bl _,H,I,rfl,q⟩; all_goals simp
  | str b=>obtain ⟨t,rfl⟩:=ry; rw[Dr] at q; exact SeqAt.RcAt.tuple_str b t p hu' _ _ _ _ ⟨.bl _,H,I,rfl,q⟩; all_goals simp
  | @lst b ys es q2 rr2=>cases ry; obtain ⟨vs,r2,p2,_⟩:=I.list q2; rw[Dr] at q; exact SeqAt.RcAt.tuple_list p p2.isList hu' _ _ _ _ ⟨.bl _,H,I,rfl,q⟩; all_goals simp
  | @tup b ys es q2 rr2=>cases ry; obtain ⟨vs,r2,p2,_⟩:=I.tuple q2; rw[Dr] at q; exact Zv p p2 (r1.length.symm.trans r.length) (r2.length.symm.trans rr2.length) hu' (λj h1 h2=>Oi I r rr2 r1 r2 (Ue (by simp only[Cq] at hd; omega)) j h1 h2) _ _ _ _ ⟨.bl _,H,I,rfl,q⟩
theorem sY(hu:X.A.units+64<cLine):Va X (Hb .NotEq) (E9 X.K):=by
 intro pins s σ H x y v u Q I rx ry h
 obtain ⟨d,e,h1,h2,hd,q⟩:=h
 have hu':X.A.units<cLine:=by omega
 cases h1 with
 | non =>
  cases rx
  cases h2 with
  | non=>cases ry; rw[Dr] at q; exact SeqAt.RcNeAt.none_none _ _ _ _ ⟨.bl _,H,I,rfl,q⟩
  | bl b=>cases ry; rw[Dr] at q; exact SeqAt.RcNeAt.none_bool b _ _ _ _ ⟨.bl _,H,I,rfl,q⟩; all_goals simp
  | int b=>obtain ⟨t,rfl⟩:=ry; rw[Dr] at q; exact SeqAt.RcNeAt.none_int b t _ _ _ _ ⟨.bl _,H,I,rfl,q⟩; all_goals simp
  | str b=>obtain ⟨t,rfl⟩:=ry; rw[Dr] at q; exact SeqAt.RcNeAt.none_str b t _ _ _ _ ⟨.bl _,H,I,rfl,q⟩; all_goals simp
  | @lst b ys es q2 rr2=>cases ry; obtain ⟨vs,r2,p2,_⟩:=I.list q2; rw[Dr] at q; exact SeqAt.RcNeAt.none_list p2.isList hu' _ _ _ _ ⟨.bl _,H,I,rfl,q⟩; all_goals simp
  | @tup b ys es q2 rr2=>cases ry; obtain ⟨vs,r2,p2,_⟩:=I.tuple q2; rw[Dr] at q; exact SeqAt.RcNeAt.none_tuple p2 hu' _ _ _ _ ⟨.bl _,H,I,rfl,q⟩; all_goals simp
 | bl a =>
  cases rx
  cases h2 with
  | non=>cases ry; rw[Dr] at q; exact SeqAt.RcNeAt.bool_none a _ _ _ _ ⟨.bl _,H,I,rfl,q⟩; all_goals simp
  | bl b=>cases ry; rw[Dr] at q; exact SeqAt.RcNeAt.bool_bool a b _ _ _ _ ⟨.bl _,H,I,rfl,q⟩
  | int b=>obtain ⟨t,rfl⟩:=ry; rw[Dr] at q; exact SeqAt.RcNeAt.bool_int a b t _ _ _ _ ⟨.bl _,H,I,rfl,q⟩
  | str b=>obtain ⟨t,rfl⟩:=ry; rw[Dr] at q; exact SeqAt.RcNeAt.bool_str a b t _ _ _ _ ⟨.bl _,H,I,rfl,q⟩; all_goals simp
  | @lst b ys es q2 rr2=>cases ry; obtain ⟨vs,r2,p2,_⟩:=I.list q2; rw[Dr] at q; exact SeqAt.RcNeAt.bool_list a p2.isList hu' _ _ _ _ ⟨.bl _,H,I,rfl,q⟩; all_goals simp
  | @tup b ys es q2 rr2=>cases ry; obtain ⟨vs,r2,p2,_⟩:=I.tuple q2; rw[Dr] at q; exact SeqAt.RcNeAt.bool_tuple a p2 hu' _ _ _ _ ⟨.bl _,H,I,rfl,q⟩; all_goals simp
 | int a =>
  obtain ⟨t',rfl⟩:=rx
  cases h2 with
  | non=>cases ry; rw[Dr] at q; exact SeqAt.RcNeAt.int_none a t' _ _ _ _ ⟨.bl _,H,I,rfl,q⟩; all_goals simp
  | bl b=>cases ry; rw[Dr] at q; exact SeqAt.RcNeAt.int_bool a t' b _ _ _ _ ⟨.bl _,H,I,rfl,q⟩
  | int b=>obtain ⟨t,rfl⟩:=ry; rw[Dr] at q; exact SeqAt.RcNeAt.int_int a t' b t _ _ _ _ ⟨.bl _,H,I,rfl,q⟩
  | str b=>obtain ⟨t,rfl⟩:=ry; rw[Dr] at q; exact SeqAt.RcNeAt.int_str a t' b t _ _ _ _ ⟨.bl _,H,I,rfl,q⟩; all_goals simp
  | @lst b ys es q2 rr2=>cases ry; obtain ⟨vs,r2,p2,_⟩:=I.list q2; rw[Dr] at q; exact SeqAt.RcNeAt.int_list a t' p2.isList hu' _ _ _ _ ⟨.bl _,H,I,rfl,q⟩; all_goals simp
  | @tup b ys es q2 rr2=>cases ry; obtain ⟨vs,r2,p2,_⟩:=I.tuple q2; rw[Dr] at q; exact SeqAt.RcNeAt.int_tuple a t' p2 hu' _ _ _ _ ⟨.bl _,H,I,rfl,q⟩; all_goals simp
 | str a =>
  obtain ⟨t',rfl⟩:=rx
  cases h2 with
  | non=>cases ry; rw[Dr] at q; exact SeqAt.RcNeAt.str_none a t' _ _ _ _ ⟨.bl _,H,I,rfl,q⟩; all_goals simp
  | bl b=>cases ry; rw[Dr] at q; exact SeqAt.RcNeAt.str_bool a t' b _ _ _ _ ⟨.bl _,H,I,rfl,q⟩; all_goals simp
  | int b=>obtain ⟨t,rfl⟩:=ry; rw[Dr] at q; exact SeqAt.RcNeAt.str_int a t' b t _ _ _ _ ⟨.bl _,H,I,rfl,q⟩; all_goals simp
  | str b=>obtain ⟨t,rfl⟩:=ry; rw[Dr] at q; exact SeqAt.RcNeAt.str_str a t' b t _ _ _ _ ⟨.bl _,H,I,rfl,q⟩
  | @lst b ys es q2 rr2=>cases ry; obtain ⟨vs,r2,p2,_⟩:=I.list q2; rw[Dr] at q; exact SeqAt.RcNeAt.str_list a t' p2.isList hu' _ _ _ _ ⟨.bl _,H,I,rfl,q⟩; all_goals simp
  | @tup b ys es q2 rr2=>cases ry; obtain ⟨vs,r2,p2,_⟩:=I.tuple q2; rw[Dr] at q; exact SeqAt.RcNeAt.str_tuple a t' p2 hu' _ _ _ _ ⟨.bl _,H,I,rfl,q⟩; all_goals simp
 | @lst a xs ds qa r =>
  cases rx
  obtain ⟨us,r1,p,_⟩:=I.list qa
  cases h2 with
  | non=>cases ry; rw[Dr] at q; exact SeqAt.RcNeAt.list_none p.isList hu' _ _ _ _ ⟨.bl _,H,I,rfl,q⟩; all_goals simp
  | bl b=>cases ry; rw[Dr] at q; exact SeqAt.RcNeAt.list_bool b p.isList hu' _ _ _ _ ⟨.bl _,H,I,rfl,q⟩; all_goals simp
  | int b=>obtain ⟨t,rfl⟩:=ry; rw[Dr] at q; exact SeqAt.RcNeAt.list_int b t p.isList hu' _ _ _ _ ⟨.bl _,H,I,rfl,q⟩; all_goals simp
  | str b=>obtain ⟨t,rfl⟩:=ry; rw[Dr] at q; exact SeqAt.RcNeAt.list_str b t p.isList hu' _ _ _ _ ⟨.bl _,H,I,rfl,q⟩; all_goals simp
  | @lst b ys es q2 rr2=>cases ry; obtain ⟨vs,r2,p2,_⟩:=I.list q2; rw[Dr] at q; exact nI p p2 (r1.length.symm.trans r.length) (r2.length.symm.trans rr2.length) hu' (λj h1 h2=>Oi I r rr2 r1 r2 (Ue (by simp only[Cq] at hd; omega)) j h1 h2) _ _ _ _ ⟨.bl _,H,I,rfl,q⟩
  | @tup b ys es q2 rr2=>cases ry; obtain ⟨vs,r2,p2,_⟩:=I.tuple q2; rw[Dr] at q; exact SeqAt.RcNeAt.list_tuple p.isList p2 hu' _ _ _ _ ⟨.bl _,H,I,rfl,q⟩; all_goals simp
 | @tup a xs ds qa r =>
  cases rx
  obtain ⟨us,r1,p,_⟩:=I.tuple qa
  cases h2 with
  | non=>cases ry; rw[Dr] at q; exact SeqAt.RcNeAt.tuple_none p hu' _ _ _ _ ⟨.bl _,H,I,rfl,q⟩; all_goals simp
  | bl b=>cases ry; rw[Dr] at q; exact SeqAt.RcNeAt.tuple_bool b p hu' _ _ _ _ ⟨.bl _,H,I,rfl,q⟩; all_goals simp
  | int b=>obtain ⟨t,rfl⟩:=ry; rw[Dr] at q; exact SeqAt.RcNeAt.tuple_int b t p hu' _ _ _ _ ⟨.bl _,H,I,rfl,q⟩; all_goals simp
  | str b=>obtain ⟨t,rfl⟩:=ry; rw[Dr] at q; exact SeqAt.RcNeAt.tuple_str b t p hu' _ _ _ _ ⟨.bl _,H,I,rfl,q⟩; all_goals simp
  | @lst b ys es q2 rr2=>cases ry; obtain ⟨vs,r2,p2,_⟩:=I.list q2; rw[Dr] at q; exact SeqAt.RcNeAt.tuple_list p p2.isList hu' _ _ _ _ ⟨.bl _,H,I,rfl,q⟩; all_goals simp
  | @tup b ys es q2 rr2=>cases ry; obtain ⟨vs,r2,p2,_⟩:=I.tuple q2; rw[Dr] at q; exact iQ p p2 (r1.length.symm.trans r.length) (r2.length.symm.trans rr2.length) hu' (λj h1 h2=>Oi I r rr2 r1 r2 (Ue (by simp only[Cq] at hd; omega)) j h1 h2) _ _ _ _ ⟨.bl _,H,I,rfl,q⟩
theorem rZ{z z':V}{v:Value}(h:RelV z v)(h':RelV z' v):z=z':=by
 cases z <;> cases z' <;> simp only[L2.RelV] at h h' <;> first | rfl | (subst h; cases h'; rfl) | (subst h; cases h'; done) | (obtain ⟨t,rfl⟩:=h; obtain ⟨t',e⟩:=h'; cases e; rfl) | (obtain ⟨t,rfl⟩:=h; obtain ⟨t',e⟩:=h'; cases e; done) | (obtain ⟨t,rfl⟩:=h; cases h'; done) | (subst h; obtain ⟨t',e⟩:=h'; cases e)
open Classical in
noncomputable def La(K:PySem.W.Frag)(H:Hp)(d:Ab)(v:Value):Bool:=if h:∃e z,RdV K H z e/\RelV z v then Dr h.choose d else false
theorem fV{pins:List (Addr×Obj)}{σ:L2.St}{H:Hp}{s:Aj}(I:Inv X pins σ H s){d e:Ab}{z:V}{v:Value}(h:RdV X.K H z e)(r:RelV z v):La X.K H d v=Dr e d:=by
 unfold La
 have hx:∃e z,RdV X.K H z e/\RelV z v:=⟨e,z,h,r⟩
 rw[dif_pos hx]
 obtain ⟨z',h',r'⟩:=hx.choose_spec
 have ez:=rZ r' r
 subst ez
 rw[RdV.det I h' h]
theorem Nt{pins:List (Addr×Obj)}{σ:L2.St}{H:Hp}{s:Aj}(I:Inv X pins σ H s){d:Ab}:∀{xs:List V} {ds:List Ab} {us:List Value},RdVs X.K H xs ds->Ey xs us->us.any (La X.K H d)=ds.any λe=>Dr e d
 | _,_,_,.nil,r=>by cases r; rfl
 | _,_,_,.cons h t,r=>by
  cases r with
  | cons r1 r2=>rw[On,On,fV I h r1,Nt I t r2]
theorem Ni{pins:List (Addr×Obj)}{σ:L2.St}{H:Hp}{s:Aj}(I:Inv X pins σ H s){A:Cs}{x:V}{d:Ab}{u:Value}(hx:RdV X.K H x d)(rx:RelV x u):∀{xs:List V} {ds:List Ab} {us:List Value},RdVs X.K H xs ds->Ey xs us->A.units+Bd ds<cLine->∀v∈us,Ks A s v u (La X.K H d v)
 | _,_,_,.nil,r,_=>λv hv=>by cases r; cases hv
 | _,_,_,@RdVs.cons _ _ y e ys es h t,r,hu=>λv hv=>by
  have hm:A.units+e.depth<cLine/\A.units+Bd es<cLine:=by
   simp only[Bd] at hu
   omega
  cases r with
  | cons r1 r2 =>
   rcases Ak.mp hv with rfl | hv
   ·rw[fV I h r1]; exact pC I h hx r1 rx hm.1
   ·exact Ni I hx rx t r2 hm.2 v hv
def t8(K:PySem.W.Frag)(neg:Bool):R2:=λx y H Q=>∃p xs d ds,y=.ref p/\(Rr K H p xs\/Qs K H p xs)/\RdV K H x d/\RdVs K H xs ds/\Bd ds<=60/\Q (.bl (if neg then !(ds.any λe=>Dr e d) else ds.any λe=>Dr e d)) H
theorem o4(hu:X.A.units+64<cLine):Va X (Hb .In) (t8 X.K false):=by
 intro pins s σ H x y v u Q I rx ry h
 obtain ⟨p,xs,d,ds,rfl,hq,hx,hs,hd,q⟩:=h
 cases ry
 have hu1:X.A.in1.units+Bd ds<cLine:=by have:=Tz X.A; omega
 rcases hq with hq | hq
 ·obtain ⟨its,r,pl,hz⟩:=I.list hq
  refine SeqAt.in_listAt (La X.K H d) pl.isList (λw hw=>Ni I hx rx hs r hu1 w (by simpa using hw)) ⟨.bl _,H,I,rfl,?_⟩
  rw[show its.toArray.any (La X.K H d)=its.any (La X.K H d) by simp,Nt I hs r]
  exact q
 ·obtain ⟨its,r,pl,hz⟩:=I.tuple hq
  refine SeqAt.in_tupleAt (La X.K H d) pl (λw hw=>Ni I hx rx hs r hu1 w (by simpa using hw)) ⟨.bl _,H,I,rfl,?_⟩
  rw[show its.toArray.any (La X.K H d)=its.any (La X.K H d) by simp,Nt I hs r]
  exact q
theorem nV(hu:X.A.units+64<cLine):Va X (Hb .NotIn) (t8 X.K true):=by
 intro pins s σ H x y v u Q I rx ry h
 obtain ⟨p,xs,d,ds,rfl,hq,hx,hs,hd,q⟩:=h
 cases ry
 have hu1:X.A.in1.units+Bd ds<cLine:=by have:=Tz X.A; omega
 rcases hq with hq | hq
 ·obtain ⟨its,r,pl,hz⟩:=I.list hq
  refine SeqAt.notIn_listAt (La X.K H d) pl.isList (λw hw=>Ni I hx rx hs r hu1 w (by simpa using hw)) ⟨.bl _,H,I,rfl,?_⟩
  rw[show its.toArray.any (La X.K H d)=its.any (La X.K H d) by simp,Nt I hs r]
  exact q
 ·obtain ⟨its,r,pl,hz⟩:=I.tuple hq
  refine SeqAt.notIn_tupleAt (La X.K H d) pl (λw hw=>Ni I hx rx hs r hu1 w (by simpa using hw)) ⟨.bl _,H,I,rfl,?_⟩
  rw[show its.toArray.any (La X.K H d)=its.any (La X.K H d) by simp,Nt I hs r]
  exact q
end
def U1(K:PySem.W.Frag)(a:Addr):It :=
 ⟨λi H=>∃xs x,Rr K H a xs/\xs[i]? = some x,λi H x H'=>∃p y,x=.ref p/\H p=none/\H'=upd H p (.tup [.int i,y])/\∀xs,Rr K H a xs->xs[i]? = some y,λi H=>∃xs,Rr K H a xs/\xs.length<=i⟩
section
variable{X:Cx}{pins:List (Addr×Obj)}{σ:L2.St}{H:Hp}{s:Aj}{h':Heap}
theorem Se{t':Nat}{fp:List Addr}(I:Inv X pins σ H s)(k:∀b o,b∉fp->s.heap.get? b=some o->h'.get? b=some o)(hf:∀b∈fp,Lh X pins H b):Inv X pins σ H { s with heap:=h',toks:=t' }:=by
 have nit:∀b u,H b=some u->b∉fp:=λb u e z=>by rw[(hf b z).1] at e; cases e
 refine I.step (g':=s.gens) (d':=s.drawn) (ch:=fp) (λb hb=>?_) (λb o _ _ hc e _=>k b o hc e) (λb o _ _ hc e _=>⟨o.slots,k b o hc e⟩) (λ_ _ _ _ n=>n)
  (λb o hc e=>⟨o,k b o hc e⟩) (λ_ _ e=>e) (λ_ _ _ e=>e) (λb ps e=>⟨#[],by rw[e]; simp⟩) (λm hm=>?_) (λb u e=>?_) I.bare
 ·obtain ⟨_,f1,_,f3,f4,f5⟩:=hf b hb
  exact ⟨f3,f1,f4,f5⟩
 ·obtain ⟨o,es,ep,ho,r⟩:=hm
  exact ⟨o,es,ep,k _ o (λz=>(hf _ z).2.1 rfl) ho,r⟩
 ·refine (I.hok b u e).stay (λc v hc q=>k c v ?_ q) (λ_ q=>q) λ_ _ q=>q
  rcases hc with z | z
  ·rw[z]; exact nit b u e
  ·exact nit c _ z
end
theorem oM{P:Bx}{w:World}{K:PySem.W.Frag}{elts:List Expr}{k:Nat}{pos:Pos}(a e it:Addr)(ne:e≠it):Turn P w K (.Tuple elts k pos) (U1 K a) [e,it] e (λi h=>(∃old,IsEnum h e it ((i:Nat):Int) old)/\h.IsListIter it a i) where
 mem:=Aa
 obj:=λi h st b hb=>by
  obtain ⟨⟨old,he⟩,o,e1,c,d⟩:=st
  rcases Ak.mp hb with z | z
  ·subst z
   exact ⟨_,he,λv z=>by cases z⟩
  ·rw[Ac.mp z]
   exact ⟨o,e1,λv z=>by rw[d] at z; cases z⟩
 keep:=λi h h' st kp=>⟨let ⟨old,he⟩:=st.1; ⟨old,kp e Aa _ he⟩,st.2.at λo q=>kp it (Ae _ Aa) o q⟩
 item:=by
  intro X hP hw hK hc i pins s σ H E I hf st hg
  subst hP hw hK
  obtain ⟨xs,x,hq,hx⟩:=hg
  obtain ⟨its,rv,p,hz⟩:=I.list hq
  obtain ⟨u,hu,ru⟩:=rv.get hx
  obtain ⟨⟨old,he⟩,hit⟩:=st
  have el:e<s.heap.objs.size:=Bp he
  have il:it<s.heap.objs.size:=by obtain ⟨_,q,_⟩:=hit; exact Bp q
  refine wpAny_pyNext_enum_item he hit p.isList (x:=u) (by simpa using hu) ne λh1 ho hit1 hT hsz hk=>⟨_,rfl,wpAny_letOwnedTupleGo_enum ho λh2 he2 hs2=>?_⟩
  have hs2':Mj e h1 h2:=hs2
  -- the pair laid,then the iterators turned
  have I1:Inv X pins σ (upd H s.heap.objs.size (.tup [.int i,x])) { s with heap:=s.heap.push { cls:=.type "tuple",data:=.seq #[.int i s.toks,u] } } :=
   I.laid (t':=s.toks) (λb o q=>Ao _ q) (Ai _) ⟨by show 2<=Aq; decide,[.int i s.toks,u],.cons ⟨_,rfl⟩ (.cons ru .nil),_,Bn _ rfl,rfl,0,rfl⟩
  have nT:∀b∈[e,it],b≠s.heap.objs.size:=λb hb=>by
   rcases Ak.mp hb with z | z
   ·rw[z]; exact Cy el
   ·rw[Ac.mp z]; exact Cy il
  have fr:∀b∈[e,it],(upd H s.heap.objs.size (.tup [.int i,x])) b=none:=λb hb=>by rw[Dy (nT b hb)]; exact (hf b hb).1
  refine ⟨.ref s.heap.objs.size,_,Se (fp:=[e,it]) (s:={ s with heap:=s.heap.push { cls:=.type "tuple",data:=.seq #[.int i s.toks,u] } }) (h':=h2) (t':=s.toks+1) I1 (λb o hb q=>?_) (λb hb=>⟨fr b hb,(hf b hb).2⟩),rfl,⟨_,x,rfl,I.hok.fresh (Ai _),rfl,λys hy=>by rw[I.list_inj hy hq]; exact hx⟩,⟨⟨u,?_⟩,?_⟩,fr⟩
  ·have nbe:b≠e:=λz=>hb (by rw[z]; exact Aa)
   have nbi:b≠it:=λz=>hb (by rw[z]; exact Ae _ Aa)
   refine (hs2'.2 b nbe).trans ?_
   by_cases hbT:b=s.heap.objs.size
   ·subst hbT
    have q':=(Bn s.heap (o:={ cls:=.type "tuple",data:=.seq #[.int i s.toks,u] }) rfl).symm.trans q
    rw[hT]
    exact q'
   ·refine hk b o nbe nbi ?_
    have q0:(s.heap.push { cls:=.type "tuple",data:=.seq #[.int i s.toks,u] }).get? b=some o:=q
    rcases Heap.get?_push_cases q0 with z | z
    ·exact absurd z.1 hbT
    ·exact z
  ·have : ((i+1:Nat):Int)=(i:Int)+1:=by omega
   rw[this]
   exact he2
  ·exact hit1.at λo q=>(hs2'.2 it (Nb ne)).trans q
 done:=by
  intro X hP hw hK hc i pins s σ H E I hf st hg
  subst hP hw hK
  obtain ⟨xs,hq,hx⟩:=hg
  obtain ⟨its,rv,p,hz⟩:=I.list hq
  obtain ⟨⟨old,he⟩,hit⟩:=st
  have hl:=rv.length
  exact wpAny_pyNext_enum_end (I.ok.hd hc) he hit p.isList (by simp; omega) λh1 eb=>⟨rfl,Se (fp:=[e,it]) (t':=s.toks) I (λb o hb q=>eb b o (λz=>hb (by rw[z]; exact Ae _ Aa)) q) hf⟩
 self:=λ_ _ _ _ _ st h=>let ⟨_,he⟩:=st.1; wpAny_pyIter_enum he h
section
variable{X:Cx}
def M8(K:PySem.W.Frag)(ta:TA):TI:=λσ H R=>ta σ H λvs H1=>∃a,vs=[.ref a]/\(∃xs,Rr K H1 a xs)/\R (U1 K a) H1
theorem vA{elts:List Expr}{k:Nat}{tp:Pos}{a:Expr}{ta:TA}{p pos:Pos}(hg:Gl X "enumerate")(hm:X.mg "enumerate" = none)(ha:PA X [a] ta)(hs:Bf [a] X.env=[(false,eval a X.env)]:=by rfl):PI X (.Tuple elts k tp) (.Call (.Name "enumerate" p) [a] [] pos) (M8 X.K ta):=by
 intro pins s σ H R I h
 refine Call_ (Of I hg hm (u:=.type "enumerate") (by decide +kernel) (Kq (Et (ha pos pins s σ H _ I h) λus s1 ⟨vs,H1,I1,r1,q1⟩=>?_) hs rfl))
 obtain ⟨l,e,⟨xs,hq⟩,q⟩:=q1
 subst e
 obtain ⟨u,rfl,ru⟩:=vals1 r1
 cases ru
 obtain ⟨its,rv,pl,hz⟩:=I1.list hq
 refine call_enumerate_list pl.isList λh2 he hit hsz hk=>wpAny_pyIter_enum he ?_
 have fr:∀b∈[s1.heap.objs.size+1,s1.heap.objs.size],Lh X pins H1 b:=λb hb=>by
  rcases Ak.mp hb with z | z
  ·rw[z]; exact I1.fpOk (Ln _) (I1.hok.fresh (Ln _))
  ·rw[Ac.mp z]; exact I1.fpOk (Ai _) (I1.hok.fresh (Ai _))
 exact ⟨s1.heap.objs.size+1,[s1.heap.objs.size+1,s1.heap.objs.size],_,_,H1,rfl,I1.kept (t':=s1.toks) hk,oM l _ _ (Nat.succ_ne_self _),⟨⟨_,he⟩,hit⟩,fr,q⟩
end
section
variable{X:Cx}
def zN(K:PySem.W.Frag)(J:It)(js:List Nat)(tc:TT)(te:TE)(σ:L2.St)(H1:Hp)(Q:VK):Prop:=∀D,H1 D=none->∃W:Nat->Nat->Hp->Prop,(∃m,W 0 m (upd H1 D (.lst [])))/\∀i m H,W i m H ->
 (J.stop i H/\Q (.ref D) H)\/(J.go i H/\∀x H',J.yld i H x H'->∃(t:Addr) (w1 w2:V),x=.ref t/\Qs K H' t [w1,w2]/\∃(N1:Hp->Prop) (N2:VK),(∀H2,N1 H2->∃m',m'<m/\W (i+1) m' H2) /\
  (∀y H3,N2 y H3->∃acc,H3 D=some (.lst acc)/\acc.length<Aq/\∃m',m'<m/\W (i+1) m' (upd H3 D (.lst (acc++[y])))) /\
  tc (some w1::some w2::Dx σ js) H' λc H2=>if c=true then te (some w1::some w2::Dx σ js) H2 N2 else N1 H2)
def pU(K:PySem.W.Frag)(wi:TI)(js:List Nat)(tc:TT)(te:TE):TE:=λσ H Q=>wi σ H λJ H1=>zN K J js tc te σ H1 Q
end
section
variable{X:Cx}
theorem bC{elt iter:Expr}{x y0:Str}{px py pos spos:Pos}{i0:Nat}{ifs:List Expr}{scope:Scope}{cl:List (Str×Addr)}{ys:List Str}{js:List Nat}{wi:TI}{tc:TT}{te:TE}(hN:X.N.Nodup)(hi0:X.N[i0]? = some y0)(hy0:X.env.scope.names.lookup y0=some .local)(C:CompScope X scope cl x ys js)(hc:X.calm=true)(hi:PI X (.Name x px) iter wi)(ht:∀fp s H,gN (Cp X scope cl (x::ys) fp s H) ifs tc)(he:∀fp s H,PE (Cp X scope cl (x::ys) fp s H) elt te)(hs:∀x,Cg iter X.env x=pure x:=by intro _; rfl)(hsw:Gj (.ListComp elt [⟨.Name x px,iter,ifs,0⟩] scope pos) (some (.Name y0 py)) spos.line X.env=pure true:=by rfl):PS X (.Assign [.Name y0 py] (.ListComp elt [⟨.Name x px,iter,ifs,0⟩] scope pos) spos) (mI (gH wi js tc te) (Oo i0)):=by
 intro pins s σ H De I h
 have h:gH wi js tc te σ H λv H1=>De.nx (σ.set i0 (some v)) H1:=h
 rw[Te _ _ _ _ hsw]
 refine Ah (Fd (Ah ?_))
 show wpAny _ X.A (do let _ <- Yb (.ListComp elt [⟨.Name x px,iter,ifs,0⟩] scope pos) scope X.env _ (newList []) false (eval iter X.env) (some (Ic (.Name y0 py) X.env))) _ _ s
 refine Ah (Cf (Hm (use:=some (Ic (.Name y0 py) X.env)) (Q:=λ_ s'=>SP X pins De .next s') rfl hs C.clos C.kind C.locs (Et (hi pins s σ H _ I h) λv s1 h1=>Et h1 λitv s2 h2=>?_)) (λ_ s' hq=>Aw (Aw hq)) λ_ _ e=>e)
 obtain ⟨it,fp,tn,J,H2,e,I2,T,st2,f2,q2⟩:=h2
 subst e
 have fD:H2 s2.heap.objs.size=none:=I2.hok.fresh (Ai _)
 obtain ⟨W,⟨m0,w0⟩,turn⟩:=q2 s2.heap.objs.size fD
 refine Eg ?_
 have I3:Inv X pins σ (upd H2 s2.heap.objs.size (.lst [])) { s2 with heap:=s2.heap.push { cls:=.type "list",dict:=none,data:=.seq ([]:List Value).toArray } } :=
  I2.laid (t':=s2.toks) (λb u q=>Ao _ q) (Ai _) ⟨Dl _,[],0,.nil,Bn _ rfl⟩
 obtain ⟨f3,st3',o3'⟩:=Pa I2 T st2 f2 I3
 generalize hS3:({ s2 with heap:=s2.heap.push { cls:=.type "list",dict:=none,data:=.seq ([]:List Value).toArray } }:Aj)=s3 at I3
 have Oh:tn 0 s3.heap:=by rw[<- hS3]; exact st3'
 have o3:∀b∈fp,∃o,s3.heap.get? b=some o:=by rw[<- hS3]; exact o3'
 show wpAny _ _ (Jp scope X.env.globals cl [] X.env.qual none .none (some X.env)) _ _ _
 refine Nw C λh4 hns4 keep4 new4=>?_
 have I4:∀tk,Inv (Cp X scope cl (x::ys) fp s3 (upd H2 s2.heap.objs.size (.lst []))) [] (none::Dx σ js) (upd H2 s2.heap.objs.size (.lst [])) { s3 with heap:=h4,toks:=tk }:=λtk=>Lz (pre:=[x]) C I3 f3 o3 hns4 keep4 new4
 have st4:tn 0 h4:=T.keep 0 _ _ Oh λb hb o q=>keep4 b o q
 generalize hX':Cp X scope cl (x::ys) fp s3 (upd H2 s2.heap.objs.size (.lst []))=X' at I4
 obtain ⟨eP,eW,eK,eA,eC⟩:=Pc hc hX'
 have stat:∀{H':Hp},(∀b∈fp,H' b=none)->∀b∈fp,Lh X' [] H' b:=λ{H'} hn=>Nk hX' (I4 0) hn
 have loop:∀s5:Aj,s5={ s3 with heap:=h4,toks:=s3.toks+([]:List (Str×Value)).length } ->
   Hf (model X.prog X.w) X.A (.compLoop (.ListComp elt [⟨.Name x px,iter,ifs,0⟩] scope pos) 0 (.ref it) (.ref s2.heap.objs.size) (Qx scope (Dt (s3.heap.objs.size+1) scope.names cl) s3.heap.objs.size X.env))
    (compPost (model X.prog X.w) X.A X.xe (some (Ic (.Name y0 py) X.env)) (λ_ s'=>SP X pins De .next s') (.ref s2.heap.objs.size) s3.heap.objs.size) s5:=by
  rintro s5 rfl
  refine Rc (λn s'=>∃i o H',Inv X' [] (o::Dx σ js) H' s'/\tn i s'.heap/\(∀b∈fp,H' b=none)/\W i n H') ?_ m0
   ⟨0,none,_,I4 _,st4,λb hb=>(f3 b hb).1,w0⟩
  (intro n s6 q_; obtain ⟨i,o,H6,I6,st6,fr6,w6⟩ := q_)
  rcases turn i n H6 w6 with ⟨stop,qn⟩ | ⟨go,step⟩
  ·have hd:=T.done X' eP eW eK eC i [] s6 _ H6 (λ_ _=>False) I6 (stat fr6) st6 stop
   rw[eA] at hd
   refine Et hd λr s7 q0_ => ?_
   obtain ⟨hr,I7⟩ := q0_
   subst hr
   obtain ⟨⟨m7,hn7'⟩,I7f,J7⟩:=Ub hX' I3 f3 I7
   have fC:Lh X pins H6 s3.heap.objs.size:=I3.fpOk (Ai _) I7f
   obtain ⟨oC,esC,epC,hoC,rC⟩:=id hn7'
   have J8:Inv X (pins++[(s3.heap.objs.size,oC)]) σ H6 s7:=J7.pins_of λp hp=>by
    rcases An.mp hp with z | z
    ·have q:=J7.pin p (Ad _ z)
     exact q
    ·rw[Ac.mp z]
     exact ⟨hoC,I7f,fC.2.1,fC.2.2.1,λv hv=>by rw[rC.1] at hv; cases hv⟩
   refine Et (Ip (X:=X) (i:=i0) (x:=y0) (pos:=py) hN hi0 (.inl hy0) (.inr hy0) (pins++[(s3.heap.objs.size,oC)]) s7 σ H6 (.ref s2.heap.objs.size) (.ref s2.heap.objs.size) (λσ' H'=>σ'=σ.set i0 (some (.ref s2.heap.objs.size))/\H'=H6) J8 rfl ⟨rfl,rfl⟩) λ_ s9 q0_ => ?_
   obtain ⟨σ9,H9,I9,e9,e9'⟩ := q0_
   subst e9 e9'
   have hoC9:=(I9.pin (s3.heap.objs.size,oC) (Ad _ (Ad _ Aa))).1
   have I9':Inv X pins (σ.set i0 (some (.ref s2.heap.objs.size))) H9 s9:=I9.pins_of λp hp=>I9.pin p (Ad _ (Ag _ hp))
   refine ⟨m7,hn7'.at λo e=>by rw[hoC] at e; cases e; exact hoC9,λh10 hs10=>?_⟩
   exact ⟨_,H9,Se (t':=s9.toks) (fp:=[s3.heap.objs.size]) I9' (λb o hb e=>(hs10.2 b (λz=>hb (by rw[z]; exact Aa))).trans e) (λb hb=>by rw[Ac.mp hb]; exact fC),qn⟩
  ·have hit:=T.item X' eP eW eK eC i [] s6 _ H6 (λ_ _=>False) I6 (stat fr6) st6 go
   rw[eA] at hit
   refine Et hit λr s7 q0_ => ?_
   obtain ⟨u,hr,h7⟩ := q0_
   subst hr
   refine Et h7 λ_ s8 q0_ => ?_
   obtain ⟨y,H8,I8,r8,y8,st8,fr8⟩ := q0_
   have I8':=I8.pinned (stat fr8) (T.obj _ _ st8)
   obtain ⟨N1,N2,hN1,hN2,hst⟩:=step y H8 y8
   have again:∀{H9:Hp} {s9:Aj} {m':Nat},Inv X' ([]++Lu fp s8.heap) (some y::Dx σ js) H9 s9->m'<n->W (i+1) m' H9->∃m,m<n/\∃i o H',Inv X' [] (o::Dx σ js) H' s9/\tn i s9.heap/\(∀b∈fp,H' b=none)/\W i m H':=λ{H9 s9 m'} I9 hm w9=>by
    refine ⟨m',hm,i+1,some y,H9,I9.unpinned,T.keep _ _ _ st8 λb hb o e=>(I9.pin (b,o) (Ad _ (Ad _ (Em hb e)))).1,λb hb=>?_,w9⟩
    obtain ⟨o,e,_⟩:=T.obj _ _ st8 b hb
    exact (I9.pin (b,o) (Ad _ (Ad _ (Em hb e)))).2.1
   subst hX'
   refine Et (Ip (i:=0) (x:=x) (pos:=px) C.nd rfl (Mn C.own) (Pd C.own) _ s8 _ H8 y u (λσ' H'=>σ'=some y::Dx σ js/\H'=H8) I8' r8 ⟨rfl,rfl⟩) λ_ s9 q0_ => ?_
   obtain ⟨σ9,H9,I9,e9,e9'⟩ := q0_
   subst e9 e9'
   refine Et (ht fp s3 _ _ s9 _ _ _ I9 hst) λok s10 q0_ => ?_
   obtain ⟨H10,I10,q10⟩ := q0_
   cases ok with
   | false =>
    rw[if_neg Cb] at q10 ⊢
    obtain ⟨m',hm,w10⟩:=hN1 _ q10
    exact again I10 hm w10
   | true =>
    rw[if_pos rfl] at q10 ⊢
    refine Et (he fp s3 _ _ s10 _ _ _ I10 q10) λz s11 q0_ => ?_
    obtain ⟨vz,H11,I11,r11,q11⟩ := q0_
    obtain ⟨acc,ha,hz,m',hm,w11⟩:=hN2 _ _ q11
    refine Et (Lm _ s11 _ H11 (.ref s2.heap.objs.size) [vz] (.ref s2.heap.objs.size) [z] (λ_ H'=>H'=upd H11 s2.heap.objs.size (.lst (acc++[vz]))) I11 rfl (.cons r11 .nil) ⟨_,acc,vz,rfl,rfl,ha,hz,rfl⟩) λ_ s12 q0_ => ?_
    obtain ⟨_,H12,I12,_,e12⟩ := q0_
    subst e12
    exact again I12 hm w11
 exact Ld (loop _ rfl) (T.self X.A 0 _ _ _ st4 (loop _ rfl))
end
end Nd
namespace Nd
open PySem L2
def yQ(K:PySem.W.Frag):R2:=λx y H Q=>∃a b xs ys,x=.ref a/\y=.ref b/\Qs K H a xs/\Qs K H b ys/\xs.length+ys.length<=Aq/\(xs=[]->Q (.ref b) H)/\(ys=[]->Q (.ref a) H)/\(∀p,H p=none->Q (.ref p) (upd H p (.tup (xs++ys))))
open PyProof.Rows in
theorem wR{X:Cx}:Va X (Kc .Add) (yQ X.K):=by
 intro pins s σ H x y v u Q I rx ry h
 obtain ⟨a,b,xs,ys,rfl,rfl,ha,hb,hz,q1,q3,q2⟩:=h
 by_cases hx:xs=[]
 ·cases rx
  cases ry
  obtain ⟨its,r1,p1,_⟩:=I.tuple ha
  obtain ⟨its2,r2,p2,_⟩:=I.tuple hb
  have e1:its=[]:=r1.nil_iff.mpr hx
  subst e1
  obtain ⟨⟨c1,d1,dt1,sl1⟩,g1,k1,n1,e1⟩:=id p1
  obtain ⟨⟨c2,d2,dt2,sl2⟩,g2,k2,n2,e2⟩:=id p2
  simp only at k1 e1 k2 e2
  subst k1 e1 k2 e2
  exact aA ⟨_,g1,rfl⟩ ⟨_,g2,rfl⟩ Qw Xx PySem.F.slot_tuple_add PySem.F.entry_tuple_add (PySem.F.args_tuple_add_2 _ _)
   (tuple_addW0 a b _ _ n1 n2 d1 d2 sl1 sl2 rfl) ⟨g1,g2,⟨.ref b,H,I,rfl,q1 hx⟩⟩
 ·exact lE pins s σ H (.ref a) (.ref b) v u Q I rx ry ⟨a,b,xs,ys,rfl,rfl,ha,hb,hx,hz,q3,λ_=>q2⟩
theorem Zw:∀{l:List Int},l.Nodup->l.Pairwise (·<=·)->l.Pairwise (· < ·)
 | [],_,_=>.nil
 | a::l,n,p=>by
  obtain ⟨h1,q1⟩:=Ax.mp p
  obtain ⟨m1,n1⟩:=Bt.mp n
  refine Ax.mpr ⟨λb hb=>?_,Zw n1 q1⟩
  have:=h1 b hb
  have : a≠b:=λz=>m1 (by rw[z]; exact hb)
  omega
end Nd
namespace Nd
open PySem PySem.Spec PyProof.Rows L2
end Nd
namespace Nd
open PySem L2
def V2(K:PySem.W.Frag):List V->Hp->VK->Prop:=λxs H Q=>∃x n t b,xs=[x,.ty n]/\TyOf K H x t/\PySem.W.kitOne K t (.type n)=some b/\Q (.bl b) H
theorem jH{X:Cx}:Nu X (.builtin "isinstance") (V2 X.K):=gB
theorem j3{K:PySem.W.Frag}{T:String}:PySem.W.kitOne K (.type T) (.type T)=some true:=by
 unfold PySem.W.kitOne
 rw[if_pos (by simp)]
theorem compScope0{X:Cx}{scope:Scope}{x:Str}(clos:closureFor scope X.env=pure [])(nocell:∀y∈scope.names,y.2≠.cell)(kind:scope.kind=.function)(locs:∀y∈scope.names,y.2=.local->scope.names.lookup y.1=some .local)(own:scope.names.lookup x=some .local)(has_:(scope.names.all λy=>!(y.2 == Dn) || (([]:List (Str×Addr)).lookup y.1).isSome)=true):CompScope X scope [] x [] [] :=
 ⟨clos,.inl nocell,kind,locs,.inl own,λ_ _ h=>by simp at h,has_,Bt.mpr ⟨Bq,Cw⟩,rfl,λk y j e1 _=>by simp at e1⟩
theorem sz{n:Nat}(h:n<=1000:=by first | decide | simp | (simp; omega)):n<=Aq:=Qj (Zg h)
end Nd
namespace Nd
open PySem PySem.Spec PyProof.Rows L2
theorem zS{K:PySem.W.Frag}{T n:String}{b:Bool}(h1:(Fw T == Fw n)=false)(h2:PySem.W.kitMeta n=true)(h3:(fastBuiltinMro T).map (λx=>x.contains (Fw n))=some b):PySem.W.kitOne K (.type T) (.type n)=some b:=by
 unfold PySem.W.kitOne PySem.W.kitCls
 rw[h1,if_neg (by decide)]
 dsimp only
 rw[if_pos h2]
 exact h3
theorem yC:∀{vs:List Value} {ns:List Int},Jd vs ns->Ey (ns.map V.int) vs
 | _,_,.nil=>.nil
 | _,_,.cons n t h=>.cons ⟨t,rfl⟩ (yC h)
end Nd
namespace NdS
open PySem
def st(m i:Nat):Nat:=(i * 5+1) % m
def it(m:Nat):Nat->Nat->Nat
 | 0,i=>i
 | t+1,i=>it m t (st m i)
theorem bS(m:Nat):∀(a b i:Nat),it m (a+b) i=it m b (it m a i)
 | 0,b,i=>by rw[Qi]; rfl
 | a+1,b,i=>by rw[Nat.add_right_comm]; exact bS m a b (st m i)
def T7(m:Nat):Nat->Nat->List Nat
 | 0,_=>[]
 | f+1,i=>i::T7 m f (st m i)
theorem bF{m:Nat}:∀{f i e:Nat},e∈T7 m f i->∃t,t<f/\it m t i=e
 | 0,_,_,h=>by cases h
 | f+1,i,e,h=>by
  rcases Ak.mp h with z | z
  ·exact ⟨0,Nat.succ_pos _,z.symm⟩
  ·obtain ⟨t,h1,h2⟩:=bF z
   exact ⟨t+1,Nat.succ_lt_succ h1,h2⟩
def yW(m:Nat):Prop:=0<m/\it m m 0=0/\∀e,e<m->e∈T7 m m 0
theorem cover{m:Nat}(g:yW m){i e:Nat}(hi:i<m)(he:e<m):∃t,t<m/\it m t i=e:=by
 obtain ⟨h0,h1,h2⟩:=g
 obtain ⟨a,ha,ea⟩:=bF (h2 i hi)
 obtain ⟨b,hb,eb⟩:=bF (h2 e he)
 by_cases hab:a<=b
 ·refine ⟨b - a,by omega,?_⟩
  rw[<- ea,<- bS,Nat.add_sub_cancel' hab]
  exact eb
 ·refine ⟨b+m - a,by omega,?_⟩
  rw[<- ea,<- bS,show a+(b+m - a)=m+b by omega,bS,h1]
  exact eb
def lp(m:Nat):Nat->Nat->Nat->Nat×Nat
 | 0,i,p=>(i,p)
 | t+1,i,p=>lp m t ((i * 5+1+p / 32) % m) (p / 32)
abbrev Q6(p:Array Nat):Prop:=p.toList.Pairwise (· < ·)
structure TabOk(n:Nat)(t:SetTable):Prop where
 good:yW (t.mask+1)
 dum:t.dummies=#[]
 plain:t.plain=true
 rise:Q6 t.place
 Rj:∀j∈t.place.toList,j<=t.mask
 size:t.place.size=n
structure Tab(n:Nat)(t:SetTable):Prop extends TabOk n t where
 room:n * 5<t.mask * 3
abbrev bt(w:World):Bool:=w.params.followText "set-order"
def N8:Int×Value->Int
 | (_,.int k _)=>k
 | _=>0
def L1(e:Int×Value):Prop:=∃k tk,e=(hashInt k,Value.int k tk)
abbrev uM(es:Array (Int×Value)):List Int:=es.toList.map N8
abbrev j5(es:Array (Int×Value))(ep:Nat)(t:SetTable):Obj:={ cls:=.type "set",dict:=none,data:=.set es ep t }
structure SetS(w:World)(h:Heap)(a:Addr)(es:Array (Int×Value))(ep:Nat)(t:SetTable):Prop where
 obj:h.get? a=some (j5 es ep t)
 ent:∀e∈es.toList,L1 e
 nd:(uM es).Nodup
 tab:Tab es.size t
 led:bt w=false->t.led=true
 few:es.size<64
def ins(k:Int)(l:List Int):List Int:=if k∈l then l else k::l
theorem yN{n:Nat}(h:n<64):n<=Aq:=by rw[He]; omega
theorem Fn{α:Type}:∀{l:List α} {i:Nat} (h:i<l.length),(l[i]::l.eraseIdx i).Perm l
 | [],_,h=>absurd h (Qm _)
 | a::l,0,h=>Gw _
 | a::l,i+1,h=>by
  have:=Fn (l:=l) (i:=i) (by simpa using h)
  exact (Dv a _ _).trans (Lo a this)
theorem len_leI:∀{l1 l2:List Int},l1.Nodup->(∀e∈l1,e∈l2)->l1.length<=l2.length
 | [],_,_,_=>Dl _
 | a::l1,l2,nd,h=>by
  have nd':=Bt.mp nd
  have ha:=h a (Aa ..)
  have:=len_leI (l2:=l2.erase a) nd'.2 λe he=>(List.mem_erase_of_ne (show e≠a from λz=>nd'.1 (by rw[<- z]; exact he))).mpr (h e (Ae _ he))
  rw[gL ha] at this
  have p:0<l2.length:=Pq ha
  rw[Bm]
  omega
end NdS
namespace NdS
open PySem PyProof.Rows
def arrOf(w:World)(a:Addr)(ep:Nat)(es:Array (Int×Value)):Array (Int×Value):=if bt w then pickOrder (w.params.setOrder a ep) es else es
end NdS
namespace Nd
open PySem PySem.Spec PyProof.Rows L2 NdS
def G9(w:World)(a:Addr)(ks:List Int)(h:Heap):Prop:=∃es ep t,SetS w h a es ep t/\∀x,x∈uM es↔x∈ks
abbrev Q4(w:World)(a:Addr)(ks:List Int):HO:=.ext (G9 w a ks)
end Nd
namespace Nd
open PySem L2
def Qt(d:Addr)(H H':Hp):Prop:=∀b o,b≠d->H b=some o->H' b=some o
theorem Qt.trans{d:Addr}{H H1 H2:Hp}(a:Qt d H H1)(b:Qt d H1 H2):Qt d H H2:=λc o n h=>b c o n (a c o n h)
theorem Qt.upd{d:Addr}{H:Hp}{o:HO}:Qt d H (upd H d o):=λb o n h=>by rw[Dy n]; exact h
theorem yN{n:Nat}(h:n<=1000):n<=Aq:=Qj (Zg h)
theorem cO{n:Nat}(h:n<=1000000):n<=Aq:=by rw[He]; omega
theorem Vl(a b:Int)(h:0<b):0<=a % b/\a % b<b:=⟨Int.emod_nonneg _ (by omega),Int.emod_lt_of_pos _ h⟩
def Fc(h:Int)(ns:List Int):Prop:=ns.Pairwise (· < ·)/\∀x∈ns,0<=x/\x<h
theorem Fc.nil(h:Int):Fc h []:=⟨Fh,λx hx=>by cases hx⟩
theorem Fc.more{h:Int}{ns:List Int}(r:Fc h ns)(h0:0<=h):Fc (h+1) (ns++[h]) :=
 ⟨Bk.mpr ⟨r.1,Co _ _,λa ha b hb=>by rw[Ac.mp hb]; exact (r.2 a ha).2⟩,λx hx=>by
  rcases An.mp hx with z | z
  ·have:=r.2 x z; omega
  ·have:=Ac.mp z; omega⟩
theorem Fc.up{h h':Int}{ns:List Int}(r:Fc h ns)(l:h<=h'):Fc h' ns:=⟨r.1,λx hx=>by have:=r.2 x hx; omega⟩
def Sw(H:Hp)(d:Addr)(c k:Int)(f:Bool):Prop:=H d=some (.lst [.int c,.int k,.bl f])
def lU:Sp:=λvs H Q _=>∃c:Int,vs=[.int c]/\∀(p:Addr) (f:Bool) (H':Hp),H p=none->Sw H' p c 0 f->Mi H H'->Q (.ref p) H'
def sP:Sp:=λvs H Q _=>∃(d:Addr) (c k:Int) (f:Bool),vs=[.ref d]/\Sw H d c k f/\0<=k/\k<=1000000/\∀(r c':Int) (H':Hp),Sw H' d c' (k+1) f->Qt d H H'->Q (.int r) H'
def Ca(ns:List Int):Ab:=.tuple (ns.map Bl)
theorem jD(ns:List Int):(Ca ns).depth<=1:=by
 have : (Ca ns).depth<=Bd (ns.map Bl)+1:=by simp [Ca,Cq]
 rw[gT] at this
 exact this
def X5:List Int:=(Ew 60).map λi:Nat=>(i:Int)
theorem wD{x:Int}(h0:0<=x)(h1:x<60):x∈X5:=Ce.mpr ⟨x.toNat,cK.mpr (by omega),by omega⟩
theorem vI(TD:List Ab):Dr (.list TD) (.list [])=TD.isEmpty:=by cases TD <;> simp [Dr,Mg]
theorem Uc:∀{l1 l2:List Int},l1.Pairwise (· < ·)->l2.Pairwise (· < ·)->(∀x,x∈l1↔x∈l2)->l1=l2
 | [],[],_,_,_=>rfl
 | [],b::l,_,_,h=>by have:=(h b).mpr Aa; cases this
 | a::l,[],_,_,h=>by have:=(h a).mp Aa; cases this
 | a::l1,b::l2,p1,p2,h=>by
  obtain ⟨h1,q1⟩:=Ax.mp p1
  obtain ⟨h2,q2⟩:=Ax.mp p2
  have e:a=b:=by
   rcases Ak.mp ((h a).mp Aa) with z | z
   ·exact z
   ·rcases Ak.mp ((h b).mpr Aa) with y | y
    ·exact y.symm
    ·have:=h1 b y; have:=h2 a z; omega
  subst e
  rw[Uc q1 q2 λx=>⟨λhx=>?_,λhx=>?_⟩]
  ·rcases Ak.mp ((h x).mp (Ae _ hx)) with z | z
   ·have:=h1 x hx; omega
   ·exact z
  ·rcases Ak.mp ((h x).mpr (Ae _ hx)) with z | z
   ·have:=h2 x hx; omega
   ·exact z
def qR(b:Bool):Str:=if b=true then "back" else "front"
def order{α:Type}(a b:α)(l:List α):Option Bool->List α
 | none=>l
 | some true=>[a,b]
 | some false=>[b,a]
structure TD(K:PySem.W.Frag)(H:Hp)(x:V)(d:Ab)(n m:Nat):Prop where
 rd:RdV K H x d
 fits:Jt 22 d
 nd:Jo d<=n
 dp:d.depth<=m
abbrev yA(K:PySem.W.Frag):List V->Hp->VK->Prop:=λxs H Q=>∃p ys,xs=[V.ref p]/\((Rr K H p ys/\∀l,H l=none->Q (.ref l) (upd H l (.tup ys)))\/(Qs K H p ys/\Q (.ref p) H))
theorem uA{X:Cx}:Nu X (.type "tuple") (yA X.K):=Yl
end Nd
namespace DL
open PySem L2 Nd
def KL(K:PySem.W.Frag)(H:Hp)(a:Addr)(xs:List V):Prop :=
 (∃o,H a=some (.frz o (.lst xs)))\/∃(its:Array Value) (n:Nat),K.lookup a=some { cls:=.type "list",data:=.seq its n }/\its.size<=Aq/\Ey xs its.toList
def Xm:Nat->Ab
 | 0=>.none
 | n+1=>.tuple [Xm n]
def cN(ks:List (List Int×Ab)):List (Ab×Ab):=(Xm 100,.none)::ks.map λp=>(Ca p.1,p.2)
def R5(ks:List (Int×Ab)):List (Ab×Ab):=(Xm 100,.bool true)::ks.map λp=>(.int p.1,p.2)
def S9:List (Ab×Ab)->Bool
 | (_,.none)::_=>true
 | _=>false
def p6(a:Addr)(ks:List (List Int×Ab)):List (Ab×Ab):=(Xm 100,.int a)::ks.map λp=>(Ca p.1,p.2)
def Kg(w:List Int):List Jj:=w.map Qh
mutual
inductive RdF (K:PySem.W.Frag) (H:Hp):V->Ab->List Addr->Prop
 | non:RdF K H .non .none []
 | bl (b:Bool):RdF K H (.bl b) (.bool b) []
 | int (i:Int):RdF K H (.int i) (.int i) []
 | str (x:Str):RdF K H (.str x) (.str x) []
 | lst {a:Addr} {xs:List V} {ds:List Ab} {F:List Addr}:H a=some (.lst xs)->ds.length<=Aq->RdFs K H xs ds F->RdF K H (.ref a) (.list ds) (a::F)
 | tup {a:Addr} {xs:List V} {ds:List Ab} {F:List Addr}:H a=some (.tup xs)->ds.length<=Aq->RdFs K H xs ds F->RdF K H (.ref a) (.tuple ds) F
 | dic {a:Addr} {kv:List (List Jj×V)} {ks:List (List Int×Ab)}:H a=some (.dT kv)->kv.map (·.1)=ks.map (λp=>Kg p.1)->RdFs K H (kv.map (·.2)) (ks.map (·.2)) []->RdF K H (.ref a) (.dict (cN ks)) [a]
 | dik {a:Addr} {kv:List (Jj×V)} {ks:List (Int×Ab)}:H a=some (.dK kv)->kv.map (·.1)=ks.map (λp=>(Qh p.1:Jj))->RdFs K H (kv.map (·.2)) (ks.map (·.2)) []->RdF K H (.ref a) (.dict (R5 ks)) [a]
 | dnm {a:Addr} {kv:List (List Jj×V)} {ks:List (List Int×Ab)}:H a=some (.dT kv)->kv.map (·.1)=ks.map (λp=>Kg p.1)->RdFs K H (kv.map (·.2)) (ks.map (·.2)) []->RdF K H (.ref a) (.dict (p6 a ks)) [a]
inductive RdFs (K:PySem.W.Frag) (H:Hp):List V->List Ab->List Addr->Prop
 | nil:RdFs K H [] [] []
 | cons {x:V} {d:Ab} {xs:List V} {ds:List Ab} {F G:List Addr}:RdF K H x d F->RdFs K H xs ds G->RdFs K H (x::xs) (d::ds) (F++G)
end
def X0(o:HO):Prop:=(∃xs,o=.tup xs)\/∃ob u,o=.frz ob u
def Kp(F:List Addr)(H H':Hp):Prop:=∀b o,H b=some o->(b∈F\/X0 o)->H' b=some o
theorem Kp.of{F:List Addr}{H H':Hp}(s:Mi H H'):Kp F H H':=λb o e _=>s b o e
theorem Kp.sub{F G:List Addr}{H H':Hp}(k:Kp F H H')(h:∀a∈G,a∈F):Kp G H H':=λb o e z=>k b o e (z.imp (h b) id)
section
variable{K:PySem.W.Frag}{H H':Hp}
theorem KL.kp{a:Addr}{xs:List V}{F:List Addr}(h:KL K H a xs)(k:Kp F H H'):KL K H' a xs:=by
 rcases h with ⟨o,h⟩ | h
 ·exact .inl ⟨o,k _ _ h (.inr (.inr ⟨_,_,rfl⟩))⟩
 ·exact .inr h
theorem KL.sq{a:Addr}{xs:List V}(h:KL K H a xs):Rr K H a xs:=by
 rcases h with ⟨o,h⟩ | ⟨its,n,h,hz,r⟩
 ·exact .inl (.inr ⟨o,h⟩)
 ·exact .inr ⟨_,its,n,h,rfl,rfl,rfl,hz,r⟩
mutual
theorem RdF.kp:∀{v:V} {d:Ab} {F:List Addr},RdF K H v d F->Kp F H H'->RdF K H' v d F
 | _,_,_,.non,_=>.non
 | _,_,_,.bl b,_=>.bl b
 | _,_,_,.int i,_=>.int i
 | _,_,_,.str x,_=>.str x
 | _,_,_,.lst h l hs,k=>.lst (k _ _ h (.inl Aa)) l (RdFs.kp hs (k.sub λ_ z=>Ae _ z))
 | _,_,_,.tup h l hs,k=>.tup (k _ _ h (.inr (.inl ⟨_,rfl⟩))) l (RdFs.kp hs k)
 | _,_,_,.dic h e hs,k=>.dic (k _ _ h (.inl Aa)) e (RdFs.kp hs (k.sub λ_ z=>nomatch z))
 | _,_,_,.dik h e hs,k=>.dik (k _ _ h (.inl Aa)) e (RdFs.kp hs (k.sub λ_ z=>nomatch z))
 | _,_,_,.dnm h e hs,k=>.dnm (k _ _ h (.inl Aa)) e (RdFs.kp hs (k.sub λ_ z=>nomatch z))
theorem RdFs.kp:∀{v:List V} {d:List Ab} {F:List Addr},RdFs K H v d F->Kp F H H'->RdFs K H' v d F
 | _,_,_,.nil,_=>.nil
 | _,_,_,.cons h hs,k=>.cons (RdF.kp h (k.sub λ_ z=>Ag _ z)) (RdFs.kp hs (k.sub λ_ z=>Ad _ z))
end
theorem Mm:∀n,(Xm n).depth=n
 | 0=>by simp [Xm,Cq]
 | n+1=>by
  have:=Mm n
  simp only[Xm,Cq,Bd,this]
  omega
theorem rP{ks:List (Int×Ab)}:100<=(PyData.dict (R5 ks)).depth:=by
 have:=Mm 100
 simp only[R5,Cq,PyData.depthKv,this]
 omega
theorem tE{a:Addr}{ks:List (List Int×Ab)}:100<=(PyData.dict (p6 a ks)).depth:=by
 have:=Mm 100
 simp only[p6,Cq,PyData.depthKv,this]
 omega
theorem rD{ks:List (List Int×Ab)}:100<=(PyData.dict (cN ks)).depth:=by
 have:=Mm 100
 simp only[cN,Cq,PyData.depthKv,this]
 omega
mutual
theorem RdF.rd:∀{v:V} {d:Ab} {F:List Addr},RdF K H v d F->d.depth<=90->RdV K H v d
 | _,_,_,.non,_=>.non
 | _,_,_,.bl b,_=>.bl b
 | _,_,_,.int i,_=>.int i
 | _,_,_,.str x,_=>.str x
 | _,_,_,.lst h l hs,z=>.lst (Rr.of h) (RdFs.rd hs (by simp only[Cq] at z; omega))
 | _,_,_,.tup h l hs,z=>.tup (Qs.of h) (RdFs.rd hs (by simp only[Cq] at z; omega))
 | _,_,_,.dic h e hs,z=>absurd (Bv rD z) (by decide)
 | _,_,_,.dik h e hs,z=>absurd (Bv rP z) (by decide)
 | _,_,_,.dnm h e hs,z=>absurd (Bv tE z) (by decide)
theorem RdFs.rd:∀{v:List V} {d:List Ab} {F:List Addr},RdFs K H v d F->Bd d<=90->RdVs K H v d
 | _,_,_,.nil,_=>.nil
 | _,_,_,.cons h hs,z=>.cons (RdF.rd h (by simp only[Bd] at z; omega)) (RdFs.rd hs (by simp only[Bd] at z; omega))
end
mutual
theorem RdF.dom:∀{v:V} {d:Ab} {F:List Addr},RdF K H v d F->∀a∈F,∃o,H a=some o
 | _,_,_,.non,_,z=>nomatch z
 | _,_,_,.bl b,_,z=>nomatch z
 | _,_,_,.int i,_,z=>nomatch z
 | _,_,_,.str x,_,z=>nomatch z
 | _,_,_,.lst h l hs,b,z=>by
  rcases Ak.mp z with rfl | z
  ·exact ⟨_,h⟩
  ·exact RdFs.dom hs b z
 | _,_,_,.tup h l hs,b,z=>RdFs.dom hs b z
 | _,_,_,.dic h e hs,b,z=>⟨_,Ac.mp z▸h⟩
 | _,_,_,.dik h e hs,b,z=>⟨_,Ac.mp z▸h⟩
 | _,_,_,.dnm h e hs,b,z=>⟨_,Ac.mp z▸h⟩
theorem RdFs.dom:∀{v:List V} {d:List Ab} {F:List Addr},RdFs K H v d F->∀a∈F,∃o,H a=some o
 | _,_,_,.nil,_,z=>nomatch z
 | _,_,_,.cons h hs,b,z=>by
  rcases An.mp z with z | z
  ·exact RdF.dom h b z
  ·exact RdFs.dom hs b z
end
theorem RdFs.len:∀{v:List V} {d:List Ab} {F:List Addr},RdFs K H v d F->v.length=d.length
 | _,_,_,.nil=>rfl
 | _,_,_,.cons _ t=>by rw[Bm,Bm,RdFs.len t]
theorem RdFs.get:∀{v:List V} {d:List Ab} {F:List Addr} {i:Nat} {e:Ab},RdFs K H v d F->d[i]? = some e->∃x G,v[i]? = some x/\RdF K H x e G/\G.Sublist F
 | _,_,_,_,_,.nil,z=>by simp at z
 | _,_,_,0,_,.cons h _,z=>by
  simp at z
  subst z
  exact ⟨_,_,rfl,h,List.sublist_append_left _ _⟩
 | _,_,_,i+1,e,.cons _ t,z=>by
  obtain ⟨x,G,h1,h2,h3⟩:=RdFs.get (i:=i) (e:=e) t (by simpa using z)
  exact ⟨x,G,by simpa using h1,h2,h3.trans (Bj _ _)⟩
theorem RdFs.app:∀{v w:List V} {d e:List Ab} {F G:List Addr},RdFs K H v d F->RdFs K H w e G->RdFs K H (v++w) (d++e) (F++G)
 | _,_,_,_,_,_,.nil,h=>h
 | _,_,_,_,_,_,.cons a t,h=>by
  rw[Br]
  exact .cons a (RdFs.app t h)
theorem RdFs.snoc{v:List V}{d:List Ab}{F G:List Addr}{x:V}{e:Ab}(t:RdFs K H v d F)(h:RdF K H x e G):RdFs K H (v++[x]) (d++[e]) (F++G):=by
 have:=t.app (.cons h .nil)
 rw[Ea] at this
 exact this
end
mutual
def imm:Ab->Bool
 | .list _=>false
 | .dict _=>false
 | .tuple xs=>Dj xs
 | _=>true
def Dj:List Ab->Bool
 | []=>true
 | x::xs=>imm x && Dj xs
end
theorem iK:∀{xs:List Ab},Dj xs=true↔∀x∈xs,imm x=true
 | []=>by simp [Dj]
 | x::xs=>by simp [Dj,iK (xs:=xs)]
theorem Rg{α:Type}{f:α->Ab}(h:∀a,imm (f a)=true)(l:List α):Dj (l.map f)=true:=iK.mpr λx hx=>by
 obtain ⟨a,_,rfl⟩:=Ce.mp hx
 exact h a
theorem sU(ns:List Int):imm (Ca ns)=true:=by
 unfold Ca
 rw[imm]
 exact Rg (λ_=>by simp [imm]) ns
section
variable{K:PySem.W.Frag}{H H':Hp}
mutual
theorem RdF.imm:∀{v:V} {d:Ab} {F:List Addr},RdF K H v d F->DL.imm d=true->F=[]
 | _,_,_,.non,_=>rfl
 | _,_,_,.bl b,_=>rfl
 | _,_,_,.int i,_=>rfl
 | _,_,_,.str x,_=>rfl
 | _,_,_,.lst h l hs,k=>by simp [DL.imm] at k
 | _,_,_,.tup h l hs,k=>RdFs.imm hs (by simpa [DL.imm] using k)
 | _,_,_,.dic h e hs,k=>by simp [DL.imm] at k
 | _,_,_,.dik h e hs,k=>by simp [DL.imm] at k
 | _,_,_,.dnm h e hs,k=>by simp [DL.imm] at k
theorem RdFs.imm:∀{v:List V} {d:List Ab} {F:List Addr},RdFs K H v d F->Dj d=true->F=[]
 | _,_,_,.nil,_=>rfl
 | _,_,_,.cons h hs,k=>by
  rw[Dj,Fl] at k
  rw[RdF.imm h k.1,RdFs.imm hs k.2]
  rfl
end
end
inductive Md where
 | pk | sh | tp | ow
 deriving DecidableEq
inductive DV where
 | un
 | dat (m:Md) (d:Ab)
 | drw
 | dT (kvs:List (List Jj×Ab))
 | val (v:V)
 | scr (ns:List Int)
 | acc (ds:List Ab)
 | grd (Hc:Hp)
 | tpl (xs:List V)
structure DS where
 sl:List DV
 n:Nat
structure Ent where
 v:Option V
 x:DV
 F:List Addr
def Lv:DV->Bool
 | .dat .pk _=>true
 | _=>false
def E6:DV->Bool
 | .drw=>true
 | _=>false
def A8:DV->Bool
 | .drw=>true
 | .acc _=>true
 | .dT _=>true
 | .grd _=>true
 | _=>false
def cells(e:Ent):List Addr:=match e.x with
 | .dat .ow _=>e.F
 | .dat .tp _=>e.F.take 1
 | .drw=>e.F
 | .dT _=>e.F
 | .acc _=>e.F.take 1
 | .grd _=>e.F
 | _=>[]
theorem Ep(e:Ent):∀a∈cells e,a∈e.F:=by
 obtain ⟨v,x,F⟩:=e
 intro a h
 cases x with
 | un=>exact nomatch h
 | val _=>exact nomatch h
 | scr _=>exact nomatch h
 | drw=>exact h
 | dT _=>exact h
 | grd _=>exact h
 | tpl _=>exact nomatch h
 | acc _=>exact (Ie _ _).subset h
 | dat m d =>
  cases m with
  | pk=>exact nomatch h
  | sh=>exact nomatch h
  | tp=>exact (Ie _ _).subset h
  | ow=>exact h
def Sr(e f:Ent):Prop:=((Lv f.x=false\/A8 e.x=true)->∀a∈cells e,a∉f.F)/\((Lv e.x=false\/A8 f.x=true)->∀a∈cells f,a∉e.F)
theorem Sr.symm{e f:Ent}(h:Sr e f):Sr f e:=⟨h.2,h.1⟩
def Ga(K:PySem.W.Frag)(H:Hp)(n:Nat)(e:Ent):Prop:=match e.x with
 | .un=>e.F=[]
 | .dat m d=>∃v,e.v=some v/\RdF K H v d e.F/\(m=.ow->e.F.Nodup)/\(m=.tp->∀a l,e.F=a::l->a∉l)
 | .drw=>∃dr c k f,e.v=some (.ref dr)/\e.F=[dr]/\Sw H dr c k f/\0<=k/\k<=(n:Int)
 | .dT kvs=>∃a ks,e.v=some (.ref a)/\e.F=[a]/\H a=some (.dT ks)/\ks.map (·.1)=kvs.map (·.1)/\RdFs K H (ks.map (·.2)) (kvs.map (·.2)) []
 | .val v=>e.v=some v/\e.F=[]
 | .scr ns=>∃a,e.v=some (.ref a)/\e.F=[]/\KL K H a (ns.map V.int)/\ns.length<=63
 | .acc ds=>∃a xs G,e.v=some (.ref a)/\e.F=a::G/\H a=some (.lst xs)/\RdFs K H xs ds G/\ds.length<=Aq/\a∉G
 | .grd Hc=>∀a∈e.F,∃o,Hc a=some o/\H a=some o
 | .tpl xs=>∃t,e.v=some (.ref t)/\H t=some (.tup xs)/\e.F=[]
structure At(K:PySem.W.Frag)(H0:Hp)(X:Addr->Prop)(n:Nat)(E:List Ent)(H:Hp):Prop where
 ok:∀e∈E,Ga K H n e
 sep:E.Pairwise Sr
 new:∀e∈E,∀a∈cells e,H0 a=none\/(X a/\E6 e.x=true)
 same:∀b o,¬ X b->H0 b=some o->H b=some o
 dom:∀b o,H0 b=some o->∃o',H b=some o'
 xd:∀b,X b->H0 b≠none/\∃c k f,Sw H b c k f/\0<=k/\k<=(n:Int)
section
variable{K:PySem.W.Frag}{H0 H H':Hp}{X:Addr->Prop}{n n':Nat}{E E' S T:List Ent}{e f:Ent}
theorem At.perm(h:At K H0 X n E H)(p:E.Perm E'):At K H0 X n E' H :=
 ⟨λe he=>h.ok e (p.mem_iff.mpr he),(p.pairwise_iff λ{a b}=>Sr.symm).mp h.sep,λe he=>h.new e (p.mem_iff.mpr he),h.same,h.dom,h.xd⟩
theorem At.sub(h:At K H0 X n E H)(p:E'.Sublist E):At K H0 X n E' H :=
 ⟨λe he=>h.ok e (p.subset he),h.sep.sublist p,λe he=>h.new e (p.subset he),h.same,h.dom,h.xd⟩
theorem At.drop(h:At K H0 X n (S++e::T) H):At K H0 X n (S++T) H:=h.sub ((Ci S).append (Ck _ _))
theorem tS:(S++e::T).Perm (e::(S++T)):=Dg
theorem At.mid(h:At K H0 X n (S++e::T) H):At K H0 X n (e::(S++T)) H:=h.perm tS
theorem At.tomid(h:At K H0 X n (e::(S++T)) H):At K H0 X n (S++e::T) H:=h.perm tS.symm
theorem Ga.dom(h:Ga K H n e):∀a∈e.F,∃o,H a=some o:=by
 obtain ⟨v,x,F⟩:=e
 intro a ha
 cases x with
 | un=>rw[show F=[] from h] at ha; cases ha
 | val _=>rw[show F=[] from h.2] at ha; cases ha
 | scr _ =>
  obtain ⟨_,_,hF,_⟩:=h
  rw[show F=[] from hF] at ha; cases ha
 | dat m d =>
  obtain ⟨w,_,h,_⟩:=h
  obtain ⟨xs,z⟩:=h.dom a ha
  exact ⟨_,z⟩
 | drw =>
  obtain ⟨dr,c,k,f,_,hF,h,_⟩:=h
  rw[show F=[dr] from hF] at ha
  rw[Ac.mp ha]
  exact ⟨_,h⟩
 | grd Hc =>
  obtain ⟨o,_,z⟩:=h a ha
  exact ⟨o,z⟩
 | tpl xs =>
  obtain ⟨_,_,_,hF⟩:=h
  rw[show F=[] from hF] at ha; cases ha
 | dT kvs =>
  obtain ⟨b,ks,_,hF,h,_⟩:=h
  rw[show F=[b] from hF] at ha
  rw[Ac.mp ha]
  exact ⟨_,h⟩
 | acc ds =>
  obtain ⟨b,ks,G,_,hF,h,hr,_⟩:=h
  rw[show F=b::G from hF] at ha
  rcases Ak.mp ha with rfl | ha
  ·exact ⟨_,h⟩
  ·obtain ⟨xs,z⟩:=hr.dom a ha
   exact ⟨_,z⟩
theorem Ga.kp(h:Ga K H n e)(k:Kp e.F H H')(hn:n<=n'):Ga K H' n' e:=by
 obtain ⟨v,x,F⟩:=e
 cases x with
 | un=>exact h
 | val _=>exact h
 | scr _ =>
  obtain ⟨a,h1,h2,h3,h4⟩:=h
  exact ⟨a,h1,h2,h3.kp k,h4⟩
 | dat m d =>
  obtain ⟨w,h1,h2,h3⟩:=h
  exact ⟨w,h1,h2.kp k,h3⟩
 | drw =>
  obtain ⟨dr,c,kk,f,h1,hF,h2,h3,h4⟩:=h
  have hF':F=[dr]:=hF
  subst hF'
  exact ⟨dr,c,kk,f,h1,rfl,k _ _ h2 (.inl Aa),h3,by omega⟩
 | tpl xs =>
  obtain ⟨t,h1,h2,h3⟩:=h
  exact ⟨t,h1,k _ _ h2 (.inr (.inl ⟨_,rfl⟩)),h3⟩
 | grd Hc =>
  intro a ha
  obtain ⟨o,h1,h2⟩:=h a ha
  exact ⟨o,h1,k _ _ h2 (.inl ha)⟩
 | dT kvs =>
  obtain ⟨b,ks,h1,hF,h2,h3,h4⟩:=h
  have hF':F=[b]:=hF
  subst hF'
  exact ⟨b,ks,h1,rfl,k _ _ h2 (.inl Aa),h3,h4.kp (k.sub λ_ z=>nomatch z)⟩
 | acc ds =>
  obtain ⟨b,ks,G,h1,hF,h2,h3,h4⟩:=h
  have hF':F=b::G:=hF
  subst hF'
  exact ⟨b,ks,G,h1,rfl,k _ _ h2 (.inl Aa),h3.kp (k.sub λ_ z=>Ae _ z),h4⟩
theorem At.grow(h:At K H0 X n E H)(s:Mi H H')(hn:n<=n'):At K H0 X n' E H' :=
 ⟨λe he=>(h.ok e he).kp (Kp.of s) hn,h.sep,h.new,λb o nx e=>s _ _ (h.same b o nx e),λb o e=>let ⟨o',q⟩:=h.dom b o e; ⟨o',s _ _ q⟩,λb hb=>let ⟨z,c,k,f,h1,h2,h3⟩:=h.xd b hb; ⟨z,c,k,f,s _ _ h1,h2,by omega⟩⟩
theorem At.free(h:At K H0 X n E H){a:Addr}(ha:H a=none):∀e∈E,a∉e.F:=λe he z=>by
 obtain ⟨o,q⟩:=(h.ok e he).dom a z
 rw[ha] at q; cases q
theorem At.push(h:At K H0 X n E H)(ok:Ga K H n e)(sep:∀f∈E,Sr e f)(new:∀a∈cells e,H0 a=none\/(X a/\E6 e.x=true)):At K H0 X n (e::E) H :=
 ⟨λg hg=>by
  rcases Ak.mp hg with rfl | hg
  ·exact ok
  ·exact h.ok g hg,Ax.mpr ⟨sep,h.sep⟩,λg hg=>by
  rcases Ak.mp hg with rfl | hg
  ·exact new
  ·exact h.new g hg,h.same,h.dom,h.xd⟩
theorem At.new0(h:At K H0 X n E H){p:Addr}(hp:H p=none):H0 p=none:=by
 cases q:H0 p with
 | none=>rfl
 | some o =>
  obtain ⟨o',z⟩:=h.dom p o q
  rw[hp] at z; cases z
theorem vB{v:Option V}{m:Md}{d:Ab}:Sr ⟨v,.dat m d,[]⟩ f:=by
 refine ⟨λ_ a ha=>?_,λ_ a _=>Bq⟩
 have:=Ep _ a ha
 cases this
theorem At.pushI(h:At K H0 X n (S++T) H){v:V}{m:Md}{d:Ab}(r:RdF K H v d []):At K H0 X n (S++⟨some v,.dat m d,[]⟩::T) H :=
 (h.push (e:=⟨some v,.dat m d,[]⟩) ⟨v,rfl,r,λ_=>Cw,λ_ a l z=>nomatch z⟩ (λf _=>vB) (λa ha=>nomatch Ep _ a ha)).tomid
def wk:Md->Md->Bool
 | _,.pk=>true
 | .pk,_=>false
 | _,.sh=>true
 | .sh,_=>false
 | _,.tp=>true
 | .tp,.ow=>false
 | .ow,.ow=>true
theorem fE{v:Option V}{m m':Md}{d:Ab}{F:List Addr}(w:wk m m'=true):∀a∈cells ⟨v,.dat m' d,F⟩,a∈cells ⟨v,.dat m d,F⟩:=by
 intro a ha
 cases m <;> cases m' <;> first | exact absurd w (by decide) | exact ha | exact absurd ha Bq | exact (Ie 1 F).subset ha
theorem oK{α:Type}{F:List α}(h:F.Nodup):∀a l,F=a::l->a∉l:=λa l e=>by
 subst e
 exact (Bt.mp h).1
theorem Ga.wk{v:Option V}{m m':Md}{d:Ab}{F:List Addr}(w:wk m m'=true)(h:Ga K H n ⟨v,.dat m d,F⟩):Ga K H n ⟨v,.dat m' d,F⟩:=by
 obtain ⟨u,h1,h2,h3,h4⟩:=h
 refine ⟨u,h1,h2,λe=>?_,λe=>?_⟩
 ·subst e
  cases m <;> first | exact absurd w (by decide) | exact h3 rfl
 ·subst e
  cases m <;> first | exact absurd w (by decide) | exact h4 rfl | exact oK (h3 rfl)
theorem Sr.wk{v:Option V}{m m':Md}{d:Ab}{F:List Addr}(w:wk m m'=true)(h:Sr ⟨v,.dat m d,F⟩ f):Sr ⟨v,.dat m' d,F⟩ f:=by
 refine ⟨λhp a ha=>?_,λhp a ha=>?_⟩
 ·rcases hp with hp | hp
  ·exact h.1 (.inl hp) a (fE w a ha)
  ·cases hp
 ·rcases hp with hp | hp
  ·refine h.2 (.inl ?_) a ha
   cases m <;> cases m' <;> first | rfl | exact absurd w (by decide) | exact absurd hp (by show ¬ (true=false); decide)
  ·exact h.2 (.inr hp) a ha
theorem At.wk{v:Option V}{m m':Md}{d:Ab}{F:List Addr}(w:wk m m'=true)(h:At K H0 X n (⟨v,.dat m d,F⟩::E) H):At K H0 X n (⟨v,.dat m' d,F⟩::E) H:=by
 have hs:=Ax.mp h.sep
 refine (h.sub (Ck _ _)).push ((h.ok _ Aa).wk w) (λf hf=>(hs.1 f hf).wk w) λa ha=>?_
 rcases h.new _ Aa a (fE w a ha) with z | z
 ·exact .inl z
 ·cases z.2
end
abbrev DE:=DS->(DV->DS->Prop)->Prop
abbrev DT:=DS->(Bool->DS->Prop)->Prop
abbrev DA:=DS->(List DV->DS->Prop)->Prop
structure DEnds where
 nx:DS->Prop
 rt:DV->DS->Prop
 bk:DS->Prop:=λ_=>False
 ct:DS->Prop:=λ_=>False
abbrev DB:=DEnds->DS->Prop
abbrev DG:=DV->DS->(DS->Prop)->Prop
abbrev uJ:=List DV->DS->(DS->Prop)->Prop
def vs(S:List Ent):L2.St:=S.map Ent.v
def Sl(S:List Ent)(δ:DS):Prop:=S.map Ent.x=δ.sl
section
variable(K:PySem.W.Frag)
def LE(de:DE):TE:=λσ H Q=>∃(H0:Hp) (X:Addr->Prop) (S T:List Ent) (δ:DS) (P:DV->DS->Prop),vs S=σ/\Sl S δ/\At K H0 X δ.n (S++T) H/\de δ P /\
 ∀x δ' v F S' H',vs S'=σ->Sl S' δ'->At K H0 X δ'.n (S'++⟨some v,x,F⟩::T) H'->P x δ'->Q v H'
def LT(dt:DT):TT:=λσ H Q=>∃(H0:Hp) (X:Addr->Prop) (S T:List Ent) (δ:DS) (P:Bool->DS->Prop),vs S=σ/\Sl S δ/\At K H0 X δ.n (S++T) H/\dt δ P /\
 ∀b δ' S' H',vs S'=σ->Sl S' δ'->At K H0 X δ'.n (S'++T) H'->P b δ'->Q b H'
def LA(da:DA):TA:=λσ H Q=>∃(H0:Hp) (X:Addr->Prop) (S T:List Ent) (δ:DS) (P:List DV->DS->Prop),vs S=σ/\Sl S δ/\At K H0 X δ.n (S++T) H/\da δ P /\
 ∀xs δ' As us S' H',vs S'=σ->Sl S' δ'->As.map Ent.x=xs->As.map Ent.v=us.map some->At K H0 X δ'.n (S'++(As++T)) H'->P xs δ'->Q us H'
def LS(db:DB):TS:=λD σ H=>∃(H0:Hp) (X:Addr->Prop) (S T:List Ent) (δ:DS) (P:DEnds),vs S=σ/\Sl S δ/\(∀e∈T,Lv e.x=false)/\At K H0 X δ.n (S++T) H/\db P δ /\
 (∀δ' S' H',Sl S' δ'->At K H0 X δ'.n (S'++T) H'->P.nx δ'->D.nx (vs S') H') /\
 (∀x δ' v F S' H',Sl S' δ'->At K H0 X δ'.n (S'++⟨some v,x,F⟩::T) H'->P.rt x δ'->D.rt v H') /\
 (∀δ' S' H',Sl S' δ'->At K H0 X δ'.n (S'++T) H'->P.bk δ'->D.bk (vs S') H') /\
 (∀δ' S' H',Sl S' δ'->At K H0 X δ'.n (S'++T) H'->P.ct δ'->D.ct (vs S') H')
def LG(dg:DG):TG:=λv σ H Q=>∃(H0:Hp) (X:Addr->Prop) (S T:List Ent) (δ:DS) (x:DV) (F:List Addr) (P:DS->Prop),vs S=σ/\Sl S δ/\At K H0 X δ.n (S++⟨some v,x,F⟩::T) H/\dg x δ P /\
 ∀δ' S' H',Sl S' δ'->At K H0 X δ'.n (S'++T) H'->P δ'->Q (vs S') H'
def X9(dg:uJ):vC:=λus σ H Q=>∃(H0:Hp) (X:Addr->Prop) (S T As:List Ent) (δ:DS) (P:DS->Prop),vs S=σ/\Sl S δ/\As.map Ent.v=us.map some/\At K H0 X δ.n (S++(As++T)) H/\dg (As.map Ent.x) δ P /\
 ∀δ' S' H',Sl S' δ'->At K H0 X δ'.n (S'++T) H'->P δ'->Q (vs S') H'
end
abbrev Ff(X:Cx)(e:Expr)(de:DE):Prop:=PE X e (LE X.K de)
abbrev Ye(X:Cx)(e:Expr)(dt:DT):Prop:=PT X e (LT X.K dt)
abbrev A3(X:Cx)(e:Expr)(dt:DT):Prop:=PW X e (LT X.K dt)
abbrev iO(X:Cx)(es:List Expr)(da:DA):Prop:=PA X es (LA X.K da)
abbrev dI(X:Cx)(st:Stmt)(db:DB):Prop:=PS X st (LS X.K db)
abbrev Uv(X:Cx)(st:List Stmt)(db:DB):Prop:=jN X st (LS X.K db)
abbrev E8(X:Cx)(tg:Expr)(dg:DG):Prop:=PG X tg (LG X.K dg)
abbrev xH(X:Cx)(tg:List Expr)(dg:uJ):Prop:=zL X tg (X9 X.K dg)
theorem PE.imp{X:Cx}{e:Expr}{t t':TE}(h:PE X e t)(k:∀σ H Q,t' σ H Q->t σ H Q):PE X e t':=λpins s σ H Q I q=>h pins s σ H Q I (k σ H Q q)
theorem PT.imp{X:Cx}{e:Expr}{t t':TT}(h:PT X e t)(k:∀σ H Q,t' σ H Q->t σ H Q):PT X e t':=λpins s σ H Q I q=>h pins s σ H Q I (k σ H Q q)
theorem PW.imp{X:Cx}{e:Expr}{t t':TT}(h:PW X e t)(k:∀σ H Q,t' σ H Q->t σ H Q):PW X e t':=λwh pins s σ H Q I q=>h wh pins s σ H Q I (k σ H Q q)
theorem PA.imp{X:Cx}{e:List Expr}{t t':TA}(h:PA X e t)(k:∀σ H Q,t' σ H Q->t σ H Q):PA X e t':=λpos pins s σ H Q I q=>h pos pins s σ H Q I (k σ H Q q)
theorem PG.imp{X:Cx}{e:Expr}{t t':TG}(h:PG X e t)(k:∀v σ H Q,t' v σ H Q->t v σ H Q):PG X e t':=λpins s σ H v u Q I r q=>h pins s σ H v u Q I r (k v σ H Q q)
theorem zL.imp{X:Cx}{e:List Expr}{t t':vC}(h:zL X e t)(k:∀v σ H Q,t' v σ H Q->t v σ H Q):zL X e t':=λpins s σ H v u Q I r q=>h pins s σ H v u Q I r (k v σ H Q q)
section
variable{K:PySem.W.Frag}{H:Hp}{v:V}{F:List Addr}
theorem RdF.int_inv{i:Int}(h:RdF K H v (.int i) F):v=.int i/\F=[]:=by cases h; exact ⟨rfl,rfl⟩
theorem RdF.bl_inv{i:Bool}(h:RdF K H v (.bool i) F):v=.bl i/\F=[]:=by cases h; exact ⟨rfl,rfl⟩
theorem RdF.str_inv{i:Str}(h:RdF K H v (.str i) F):v=.str i/\F=[]:=by cases h; exact ⟨rfl,rfl⟩
theorem RdF.list_inv{ds:List Ab}(h:RdF K H v (.list ds) F):∃a xs G,v=.ref a/\H a=some (.lst xs)/\RdFs K H xs ds G/\F=a::G/\ds.length<=Aq:=by
 cases h with
 | lst h l hs=>exact ⟨_,_,_,rfl,h,hs,rfl,l⟩
theorem RdF.tup_inv{ds:List Ab}(h:RdF K H v (.tuple ds) F):∃a xs,v=.ref a/\H a=some (.tup xs)/\RdFs K H xs ds F/\ds.length<=Aq:=by
 cases h with
 | tup h l hs=>exact ⟨_,_,rfl,h,hs,l⟩
end
section
variable{K:PySem.W.Frag}{H0 H H':Hp}{X:Addr->Prop}{n:Nat}{E S T:List Ent}{v:V}{m:Md}{d:Ab}{F:List Addr}
theorem At.told(h:At K H0 X n E H)(he:⟨some v,.dat m d,F⟩∈E):RdF K H v d F:=by
 obtain ⟨w,e1,h1,_⟩:=h.ok _ he
 cases e1
 exact h1
theorem mem_mid{e:Ent}:e∈S++e::T:=Ad _ Aa
theorem Fi{e f:Ent}:f∈S++e::f::T:=Ad _ (Ae _ Aa)
theorem At.drop2{e f:Ent}(h:At K H0 X n (S++e::f::T) H):At K H0 X n (S++T) H:=h.drop.drop
theorem At.dropL{As:List Ent}(h:At K H0 X n (S++(As++T)) H):At K H0 X n (S++T) H:=h.sub ((Ci S).append (Bj As T))
end
def dD:Md->Md
 | .ow=>.pk
 | .tp=>.pk
 | m=>m
def zI(i:Nat):DE:=λδ P=>match δ.sl[i]? with
 | some (.dat m d)=>P (.dat (dD m) d) δ
 | _=>False
def dC(d:Ab):DE:=λδ P=>P (.dat .ow d) δ
theorem Gg{S:List Ent}{δ:DS}{i:Nat}{x:DV}(h:Sl S δ)(e:δ.sl[i]? = some x):∃ent,S[i]? = some ent/\ent.x=x:=by
 unfold Sl at h
 rw[<- h,Bg] at e
 cases q:S[i]? with
 | none=>rw[q] at e; cases e
 | some ent=>rw[q] at e; exact ⟨ent,rfl,Be e⟩
theorem Jb{S:List Ent}{i:Nat}{e:Ent}(h:S[i]? = some e):(vs S)[i]? = some e.v:=by
 unfold vs
 rw[Bg,h]
 rfl
theorem At.look{K:PySem.W.Frag}{H0 H:Hp}{X:Addr->Prop}{n:Nat}{S T:List Ent}{u:Option V}{v:V}{m:Md}{d:Ab}{F:List Addr}(h:At K H0 X n (S++T) H)(he:⟨u,.dat m d,F⟩∈S)(hu:u=some v):At K H0 X n (S++⟨some v,.dat (dD m) d,F⟩::T) H:=by
 subst hu
 obtain ⟨S1,S2,rfl⟩:=List.append_of_mem he
 have hp:((S1++⟨some v,.dat m d,F⟩::S2)++T).Perm (⟨some v,.dat m d,F⟩::(S1++(S2++T))):=by
  rw[Br,Ec]
  exact Dg
 have h2:=h.perm hp
 have hs:=Ax.mp h2.sep
 refine (h.push (e:=⟨some v,.dat (dD m) d,F⟩) ?_ (λf hf=>?_) λa ha=>?_).tomid
 ·obtain ⟨w,e1,h1,_⟩:=h2.ok _ Aa
  refine ⟨w,e1,h1,λz=>?_,λz=>?_⟩ <;> cases m <;> cases z
 ·refine ⟨λ_ a ha=>?_,λhq a ha=>?_⟩
  ·cases m <;> exact nomatch ha
  ·rcases Ak.mp (hp.mem_iff.mp hf) with rfl | hf
   ·rcases hq with hq | hq
    ·cases m <;> first | cases hq; done | exact nomatch ha
    ·cases hq
   ·refine (hs.1 f hf).2 ?_ a ha
    rcases hq with hq | hq
    ·refine .inl ?_
     cases m <;> first | rfl | exact hq
    ·exact .inr hq
 ·cases m <;> exact nomatch ha
section
variable{X:Cx}{e:Expr}
theorem Bh{i:Nat}(h:PE X e (Tp i)):Ff X e (zI i):=by
 refine PE.imp h λσ H Q h=>?_
 obtain ⟨H0,Y,S,T,δ,P,rfl,hS,hA,hd,k⟩:=h
 unfold zI at hd
 split at hd
 ·rename_i m d e1
  obtain ⟨ent,e2,e3⟩:=Gg hS e1
  have hm:ent∈S:=Ar e2
  obtain ⟨u,x,F⟩:=ent
  subst e3
  obtain ⟨v,hv,_⟩:=hA.ok _ (Ag _ hm)
  refine ⟨v,by rw[Jb e2]; exact congrArg some hv,k _ δ v F S H rfl hS (hA.look hm hv) hd⟩
 ·exact hd.elim
theorem tW{v:V}{d:Ab}(h:PE X e (tC v))(r:∀H,RdF X.K H v d []):Ff X e (dC d):=by
 refine PE.imp h λσ H Q h=>?_
 obtain ⟨H0,Y,S,T,δ,P,rfl,hS,hA,hd,k⟩:=h
 exact k _ δ v [] S H rfl hS (hA.pushI (r H)) hd
theorem Fj{i j pos}:Ff X (.Constant (.int i) j pos) (dC (.int i)):=tW Fm λ_=>.int i
theorem dG{i j pos}:Ff X (.Constant (.bool i) j pos) (dC (.bool i)):=tW M4 λ_=>.bl i
end
def L8(de:DE):DE:=λδ P=>de δ λx δ'=>match x with
 | .dat _ d=>imm d=true/\P (.dat .ow d) δ'
 | _=>False
theorem Rp{X:Cx}{e:Expr}{de:DE}(h:Ff X e de):Ff X e (L8 de):=by
 refine PE.imp h λσ H Q h=>?_
 obtain ⟨H0,Y,S,T,δ,P,rfl,hS,hA,hd,k⟩:=h
 refine ⟨H0,Y,S,T,δ,_,rfl,hS,hA,hd,λx δ' v F S' H' e1 e2 hA' p=>?_⟩
 cases x with
 | dat m d =>
  have r:=hA'.told mem_mid
  obtain rfl:=r.imm p.1
  exact k _ δ' v [] S' H' e1 e2 (hA'.drop.pushI r) p.2
 | _=>exact p.elim
def pO(i:Nat):DE:=λδ P=>match δ.sl[i]? with
 | some (.dat m d)=>P (.dat m d) ⟨δ.sl.set i .un,δ.n⟩
 | _=>False
theorem Sq{α:Type}:∀{l:List α} {i:Nat} {x y:α},l[i]? = some x->(y::l).Perm (x::l.set i y)
 | [],i,x,y,h=>by simp at h
 | z::l,0,x,y,h=>by
  simp at h
  subst h
  exact Dv _ _ _
 | z::l,i+1,x,y,h=>by
  have ih:=Sq (l:=l) (i:=i) (x:=x) (y:=y) (by simpa using h)
  rw[List.set_cons_succ]
  exact (Dv z y l).trans ((ih.cons z).trans (Dv x z _))
theorem kC{X:Cx}{e:Expr}{i:Nat}(h:PE X e (Tp i)):Ff X e (pO i):=by
 refine PE.imp h λσ H Q h=>?_
 obtain ⟨H0,Y,S,T,δ,P,rfl,hS,hA,hd,k⟩:=h
 unfold pO at hd
 split at hd
 ·rename_i m d e1
  obtain ⟨ent,e2,e3⟩:=Gg hS e1
  have hm:ent∈S:=Ar e2
  obtain ⟨u,x,F⟩:=ent
  subst e3
  obtain ⟨v,hv,hv2⟩:=hA.ok _ (Ag _ hm)
  have hv':u=some v:=hv
  subst hv'
  refine ⟨v,by rw[Jb e2],k _ _ v F (S.set i ⟨some v,.un,[]⟩) H ?_ ?_ ?_ hd⟩
  ·unfold vs
   rw[Gq]
   apply Gu
   intro j
   rw[Gs]
   split
   ·rename_i hij
    subst hij
    rw[Bg,e2]
    split
    ·rfl
    ·rename_i hj
     rw[Af] at hj
     exact absurd (Al.mp e2).1 hj
   ·rfl
  ·unfold Sl at hS ⊢
   rw[Gq,hS]
  ·have hp:=hA.push (e:=⟨some v,.un,[]⟩) (show Ga X.K H δ.n ⟨some v,.un,[]⟩ from rfl) (λf _=>⟨λ_ a ha=>(nomatch ha),λ_ a _=>Bq⟩) (λa ha=>(nomatch ha))
   have p1:(⟨some v,.un,[]⟩::(S++T)).Perm ((S.set i ⟨some v,.un,[]⟩)++⟨some v,.dat m d,F⟩::T):=by
    rw[<- Ec]
    exact ((Sq (y:=(⟨some v,.un,[]⟩ : Ent)) e2).append_right T).trans (by rw[Ec]; exact List.perm_middle.symm)
   exact hp.perm p1
 ·exact hd.elim
abbrev D2:=DV->DV->(DV->Prop)->Prop
def jB(K:PySem.W.Frag)(r:R2)(rd:D2):Prop:=∀(H0:Hp) (X:Addr->Prop) (n:Nat) (S T:List Ent) (x y:DV) (v w:V) (F G:List Addr) (H:Hp) (Q:VK) (P:DV->Prop),
 At K H0 X n (S++⟨some w,y,G⟩::⟨some v,x,F⟩::T) H->rd x y P->(∀z u F' H',At K H0 X n (S++⟨some u,z,F'⟩::T) H'->P z->Q u H')->r v w H Q
def Xi(rd:D2)(da db:DE):DE:=λδ P=>da δ λx δ1=>db δ1 λy δ2=>rd x y λz=>P z δ2
theorem Zd{K:PySem.W.Frag}{r:R2}{rd:D2}{da db:DE}(o:jB K r rd):∀σ H Q,LE K (Xi rd da db) σ H Q->O3 r (LE K da) (LE K db) σ H Q:=by
 intro σ H Q h
 obtain ⟨H0,Y,S,T,δ,P,rfl,hS,hA,hd,k⟩:=h
 refine ⟨H0,Y,S,T,δ,_,rfl,hS,hA,hd,λx δ1 v F S1 H1 e1 e2 hA1 p1=>?_⟩
 refine ⟨H0,Y,S1,⟨some v,x,F⟩::T,δ1,_,e1,e2,hA1,p1,λy δ2 w G S2 H2 e3 e4 hA2 p2=>?_⟩
 exact o H0 Y δ2.n S2 T x y v w F G H2 Q _ hA2 p2 λz u F' H' hA3 p3=>k z δ2 u F' S2 H' e3 e4 hA3 p3
section
variable{X:Cx}{a b:Expr}{da db:DE}{pos:Pos}{r:R2}{rd:D2}
theorem eE{op:Operator}(ho:Va X (Kc op) r)(o:jB X.K r rd)(ha:Ff X a da)(hb:Ff X b db):Ff X (.BinOp a op b pos) (Xi rd da db):=PE.imp (Ir ho ha hb) (Zd o)
theorem tN{op:CmpOp}(ho:Va X (Hb op) r)(o:jB X.K r rd)(ha:Ff X a da)(hb:Ff X b db)(hm:Fe op b=false):Ff X (.Compare a [op] [b] pos) (Xi rd da db):=PE.imp (jZ ho ha hb hm) (Zd o)
theorem O1(ho:xC X r)(o:jB X.K r rd)(ha:Ff X a da)(hb:Ff X b db)(hs:aQ b):Ff X (.Subscript a b pos) (Xi rd da db):=PE.imp (Xh ho ha hb hs) (Zd o)
end
def K6(C:Int->Int->Prop)(g:Int->Int->Ab):D2:=λx y P=>match x,y with
 | .dat _ (.int i),.dat _ (.int j)=>C i j/\P (.dat .ow (g i j))
 | _,_=>False
def jG(g:Int->Int->Ab):D2:=λx y P=>match x,y with
 | .dat _ (.int i),.dat _ (.int j)=>P (.dat .ow (g i j))
 | _,_=>False
section
variable{K:PySem.W.Frag}
theorem L6{C:Int->Int->Prop}{g:Int->Int->V}{g':Int->Int->Ab}(h:∀i j H,RdF K H (g i j) (g' i j) []):jB K (rI C g) (K6 C g'):=by
 intro H0 X n S T x y v w F G H Q P hA hd k
 unfold K6 at hd
 split at hd
 ·obtain ⟨rfl,_⟩:=(hA.told Fi).int_inv
  obtain ⟨rfl,_⟩:=(hA.told mem_mid).int_inv
  exact ⟨_,_,rfl,rfl,hd.1,k _ _ [] H (hA.drop2.pushI (h _ _ H)) hd.2⟩
 ·exact hd.elim
theorem kF{g:Int->Int->V}{g':Int->Int->Ab}(h:∀i j H,RdF K H (g i j) (g' i j) []):jB K (zX g) (jG g'):=by
 intro H0 X n S T x y v w F G H Q P hA hd k
 unfold jG at hd
 split at hd
 ·obtain ⟨rfl,_⟩:=(hA.told Fi).int_inv
  obtain ⟨rfl,_⟩:=(hA.told mem_mid).int_inv
  exact ⟨_,_,rfl,rfl,k _ _ [] H (hA.drop2.pushI (h _ _ H)) hd⟩
 ·exact hd.elim
end
abbrev rdAdd:D2:=jG λi j=>.int (i+j)
abbrev rdDiv:D2:=K6 t9 λi j=>.int (i / j)
abbrev rdMod:D2:=K6 (λ_ j=>0<j) λi j=>.int (i % j)
abbrev rdLt:D2:=jG λi j=>.bool (decide (i<j))
abbrev rdGt:D2:=jG λi j=>.bool (decide (j<i))
abbrev rdGe:D2:=jG λi j=>.bool (decide (j<=i))
section
variable{X:Cx}{a b:Expr}{da db:DE}{pos:Pos}
theorem Wc(ha:Ff X a da)(hb:Ff X b db):Ff X (.BinOp a .Add b pos) (Xi rdAdd da db):=eE Xe (kF λ_ _ _=>.int _) ha hb
theorem r6(ha:Ff X a da)(hb:Ff X b db):Ff X (.BinOp a .FloorDiv b pos) (Xi rdDiv da db):=eE bA (L6 λ_ _ _=>.int _) ha hb
theorem Ri(ha:Ff X a da)(hb:Ff X b db):Ff X (.BinOp a .Mod b pos) (Xi rdMod da db):=eE Uh (L6 λ_ _ _=>.int _) ha hb
end
def Yr(ne:Bool):D2:=λx y P=>match x,y with
 | .dat _ d,.dat _ e=>d.depth<=60/\e.depth<=60/\P (.dat .ow (.bool (match ne with | true=>!Dr d e | false=>Dr d e)))
 | _,_=>False
def nC(ne:Bool):D2:=λx y P=>match x,y with
 | .dat _ d,.dat _ (.list es)=>Bd es<=60/\d.depth<=60/\P (.dat .ow (.bool (match ne with | true=>!(es.any λe=>Dr e d) | false=>es.any λe=>Dr e d)))
 | .dat _ d,.dat _ (.tuple es)=>Bd es<=60/\d.depth<=60/\P (.dat .ow (.bool (match ne with | true=>!(es.any λe=>Dr e d) | false=>es.any λe=>Dr e d)))
 | _,_=>False
section
variable{K:PySem.W.Frag}
theorem zA:jB K (L7 K) (Yr false):=by
 intro H0 X n S T x y v w F G H Q P hA hd k
 unfold Yr at hd
 split at hd
 ·exact ⟨_,_,(hA.told Fi).rd (Bv hd.1 (by decide)),(hA.told mem_mid).rd (Bv hd.2.1 (by decide)),hd.1,k _ _ [] H (hA.drop2.pushI (.bl _)) hd.2.2⟩
 ·exact hd.elim
theorem yY:jB K (E9 K) (Yr true):=by
 intro H0 X n S T x y v w F G H Q P hA hd k
 unfold Yr at hd
 split at hd
 ·exact ⟨_,_,(hA.told Fi).rd (Bv hd.1 (by decide)),(hA.told mem_mid).rd (Bv hd.2.1 (by decide)),hd.1,k _ _ [] H (hA.drop2.pushI (.bl _)) hd.2.2⟩
 ·exact hd.elim
theorem yS{ne:Bool}:jB K (t8 K ne) (nC ne):=by
 intro H0 X n S T x y v w F G H Q P hA hd k
 unfold nC at hd
 split at hd
 ·obtain ⟨a,xs,G',rfl,hq,hs,_,_⟩:=(hA.told mem_mid).list_inv
  refine ⟨a,xs,_,_,rfl,.inl (Rr.of hq),(hA.told Fi).rd (Bv hd.2.1 (by decide)),hs.rd (Bv hd.1 (by decide)),hd.1,?_⟩
  cases ne with
  | true=>exact k _ _ [] H (hA.drop2.pushI (.bl _)) hd.2.2
  | false=>exact k _ _ [] H (hA.drop2.pushI (.bl _)) hd.2.2
 ·obtain ⟨a,xs,rfl,hq,hs,_⟩:=(hA.told mem_mid).tup_inv
  refine ⟨a,xs,_,_,rfl,.inr (Qs.of hq),(hA.told Fi).rd (Bv hd.2.1 (by decide)),hs.rd (Bv hd.1 (by decide)),hd.1,?_⟩
  cases ne with
  | true=>exact k _ _ [] H (hA.drop2.pushI (.bl _)) hd.2.2
  | false=>exact k _ _ [] H (hA.drop2.pushI (.bl _)) hd.2.2
 ·exact hd.elim
end
section
variable{X:Cx}{a b:Expr}{da db:DE}{pos:Pos}
theorem G7(hu:X.A.units+64<cLine)(ha:Ff X a da)(hb:Ff X b db):Ff X (.Compare a [.Eq] [b] pos) (Xi (Yr false) da db):=tN (rX hu) zA ha hb (Pb _)
theorem O6(hu:X.A.units+64<cLine)(ha:Ff X a da)(hb:Ff X b db):Ff X (.Compare a [.NotEq] [b] pos) (Xi (Yr true) da db):=tN (sY hu) yY ha hb (Pb _)
end
def Ly:Md->Md
 | .ow=>.ow
 | .tp=>.sh
 | m=>m
theorem At.part{K:PySem.W.Frag}{H0 H:Hp}{X:Addr->Prop}{n:Nat}{S T:List Ent}{v w:V}{m:Md}{d e:Ab}{F G:List Addr}(h:At K H0 X n (S++⟨some v,.dat m d,F⟩::T) H)(r:RdF K H w e G)(hG:G.Sublist F):At K H0 X n (S++⟨some w,.dat (Ly m) e,G⟩::T) H:=by
 have h2:=h.mid
 have hs:=Ax.mp h2.sep
 obtain ⟨v',e1,h1,hn,ht⟩:=h2.ok _ Aa
 have cs:∀a∈cells ⟨some w,.dat (Ly m) e,G⟩,a∈cells ⟨some v,.dat m d,F⟩:=λa ha=>by
  cases m with
  | ow=>exact hG.subset ha
  | tp=>exact nomatch ha
  | sh=>exact nomatch ha
  | pk=>exact nomatch ha
 refine (h.drop.push (e:=⟨some w,.dat (Ly m) e,G⟩) ⟨w,rfl,r,λz=>?_,λz=>?_⟩ (λf hf=>?_) λa ha=>?_).tomid
 ·cases m with
  | ow=>exact (hn rfl).sublist hG
  | _=>cases z
 ·cases m <;> cases z
 ·refine ⟨λhp a ha=>(hs.1 f hf).1 ?_ a (cs a ha),λhp a ha z=>(hs.1 f hf).2 ?_ a ha (hG.subset z)⟩
  ·rcases hp with hp | hp
   ·exact .inl hp
   ·cases hp
  ·rcases hp with hp | hp
   ·refine .inl ?_
    cases m <;> first | rfl | exact hp
   ·exact .inr hp
 ·rcases h2.new _ Aa a (cs a ha) with z | z
  ·exact .inl z
  ·cases z.2
def qS:D2:=λx y P=>match x,y with
 | .dat m (.list ds),.dat _ (.int i)=>∃d,So ds i=some d/\P (.dat (Ly m) d)
 | .dat m (.tuple ds),.dat _ (.int i)=>∃d,So ds i=some d/\P (.dat (Ly m) d)
 | .dat _ (.str z),.dat _ (.int i)=>z.length<=Aq/\∃c,So z.cps.toList i=some c/\P (.dat .ow (.str ⟨#[c]⟩))
 | _,_=>False
theorem qU{K:PySem.W.Frag}{H:Hp}{xs:List V}{ds:List Ab}{F:List Addr}{i:Int}{d:Ab}(r:RdFs K H xs ds F)(h:So ds i=some d):∃x G,So xs i=some x/\RdF K H x d G/\G.Sublist F:=by
 unfold So at h ⊢
 rw[r.len]
 cases e:kW ds.length i with
 | none=>rw[e] at h; cases h
 | some j =>
  rw[e] at h
  exact r.get h
theorem L4{K:PySem.W.Frag}:jB K (V3 K) qS:=by
 intro H0 X n S T x y v w F G H Q P hA hd k
 unfold qS at hd
 split at hd
 ·obtain ⟨d,hi,p⟩:=hd
  obtain ⟨rfl,_⟩:=(hA.told mem_mid).int_inv
  have r:=hA.told Fi
  have hA':=hA.drop
  obtain ⟨a,xs,G0,rfl,hq,hs,hG,_⟩:=r.list_inv
  obtain ⟨x,G',h1,h2,h3⟩:=qU hs hi
  subst hG
  exact .inl ⟨_,_,_,_,rfl,rfl,Rr.of hq,h1,k _ _ G' H (hA'.part h2 (h3.trans (Ck _ _))) p⟩
 ·obtain ⟨d,hi,p⟩:=hd
  obtain ⟨rfl,_⟩:=(hA.told mem_mid).int_inv
  have r:=hA.told Fi
  have hA':=hA.drop
  obtain ⟨a,xs,rfl,hq,hs,_⟩:=r.tup_inv
  obtain ⟨x,G',h1,h2,h3⟩:=qU hs hi
  exact .inr (.inl ⟨_,_,_,_,rfl,rfl,Qs.of hq,h1,k _ _ G' H (hA'.part h2 h3) p⟩)
 ·obtain ⟨hz,c,hi,p⟩:=hd
  obtain ⟨rfl,_⟩:=(hA.told mem_mid).int_inv
  obtain ⟨rfl,_⟩:=(hA.told Fi).str_inv
  exact .inr (.inr ⟨_,_,_,rfl,rfl,hz,hi,k _ _ [] H (hA.drop2.pushI (.str _)) p⟩)
 ·exact hd.elim
theorem Mw{X:Cx}{a b:Expr}{da db:DE}{pos:Pos}(ha:Ff X a da)(hb:Ff X b db)(hs:aQ b:=by intro _ _; rfl):Ff X (.Subscript a b pos) (Xi qS da db):=O1 A6 L4 ha hb hs
def kI:Md->Md
 | .ow=>.ow
 | .pk=>.pk
 | _=>.tp
def We(i:Bool)(m:Md)(ds:List Ab)(P:DV->Prop):Prop:=match i with
 | true=>Dj ds=true/\P (.dat .ow (.list ds))
 | false=>P (.dat (kI m) (.list ds))
def aN(i:Bool)(m:Md)(ds:List Ab)(P:DV->Prop):Prop:=match i with
 | true=>Dj ds=true/\P (.dat .ow (.tuple ds))
 | false=>P (.dat (Ly m) (.tuple ds))
section
variable{K:PySem.W.Frag}{H0 H:Hp}{X:Addr->Prop}{n:Nat}{S T:List Ent}{v w:V}{m:Md}{d e:Ab}{F G:List Addr}{p:Addr}{xs:List V}{ds:List Ab}{P:DV->Prop}{i:Bool}
theorem At.newI(h:At K H0 X n (S++T) H)(r:RdFs K H xs ds G)(hi:Dj ds=true)(hz:ds.length<=Aq)(hp:H p=none)(m:Md):At K H0 X n (S++⟨some (.ref p),.dat m (.list ds),[p]⟩::T) (upd H p (.lst xs)):=by
 obtain rfl:=r.imm hi
 have s1:=En hp (.lst xs)
 have h1:=h.grow (n':=n) s1 (Ai _)
 refine (h1.push (e:=⟨some (.ref p),.dat m (.list ds),[p]⟩) ⟨_,rfl,.lst Dd hz (r.kp (Kp.of s1)),λ_=>Bt.mpr ⟨Bq,Cw⟩,λ_ a l z=>by cases z; exact Bq⟩ (λf hf=>?_) λa ha=>?_).tomid
 ·have nf:=h.free hp f hf
  refine ⟨λ_ a ha z=>?_,λ_ a ha z=>?_⟩
  ·have:=Ep _ a ha
   rw[Ac.mp this] at z
   exact nf z
  ·rw[Ac.mp z] at ha
   exact nf (Ep _ _ ha)
 ·have:=Ep _ a ha
  rw[Ac.mp this]
  exact .inl (h.new0 hp)
theorem At.newL(h:At K H0 X n (S++⟨some v,.dat m d,F⟩::T) H)(r:RdFs K H xs ds G)(hG:G.Sublist F)(hz:ds.length<=Aq)(hp:H p=none)(q:We i m ds P):∃z F',At K H0 X n (S++⟨some (.ref p),z,F'⟩::T) (upd H p (.lst xs))/\P z:=by
 cases i with
 | true=>exact ⟨_,_,h.drop.newI r q.1 hz hp .ow,q.2⟩
 | false =>
  have q:P (.dat (kI m) (.list ds)):=q
  refine ⟨_,p::G,?_,q⟩
  have s1:=En hp (.lst xs)
  have h2:=h.mid
  have hs:=Ax.mp h2.sep
  obtain ⟨v',e1,_,hn,_⟩:=h2.ok _ Aa
  have h1:=h.drop.grow (n':=n) s1 (Ai _)
  have npF:p∉F:=h2.free hp _ Aa
  have npG:p∉G:=λz=>npF (hG.subset z)
  have cs:∀a∈cells ⟨some (.ref p),.dat (kI m) (.list ds),p::G⟩,a=p\/(a∈cells ⟨some v,.dat m d,F⟩):=λa ha=>by
   cases m with
   | ow =>
    rcases Ak.mp ha with z | z
    ·exact .inl z
    ·exact .inr (hG.subset z)
   | tp=>exact .inl (Ac.mp ha)
   | sh=>exact .inl (Ac.mp ha)
   | pk=>exact nomatch ha
  refine (h1.push (e:=⟨some (.ref p),.dat (kI m) (.list ds),p::G⟩) ⟨_,rfl,.lst Dd hz (r.kp (Kp.of s1)),λz=>?_,λz a l e=>?_⟩ (λf hf=>?_) λa ha=>?_).tomid
  ·cases m with
   | ow=>exact Bt.mpr ⟨npG,(hn rfl).sublist hG⟩
   | _=>cases z
  ·cases e
   exact npG
  ·have nf:=h2.free hp f (Ae _ hf)
   refine ⟨λhq a ha z=>?_,λhq a ha z=>?_⟩
   ·rcases cs a ha with rfl | hc
    ·exact nf z
    ·refine (hs.1 f hf).1 ?_ a hc z
     rcases hq with hq | hq
     ·exact .inl hq
     ·cases hq
   ·rcases Ak.mp z with rfl | z
    ·exact nf (Ep _ _ ha)
    ·refine (hs.1 f hf).2 ?_ a ha (hG.subset z)
     rcases hq with hq | hq
     ·refine .inl ?_
      cases m <;> first | rfl | exact hq
     ·exact .inr hq
  ·rcases cs a ha with rfl | hc
   ·exact .inl (h2.new0 hp)
   ·rcases h2.new _ Aa a hc with z | z
    ·exact .inl z
    ·cases z.2
theorem At.newT(h:At K H0 X n (S++⟨some v,.dat m d,F⟩::T) H)(r:RdFs K H xs ds G)(hG:G.Sublist F)(hz:ds.length<=Aq)(hp:H p=none)(q:aN i m ds P):∃z F',At K H0 X n (S++⟨some (.ref p),z,F'⟩::T) (upd H p (.tup xs))/\P z:=by
 have s1:=En hp (.tup xs)
 have h1:=h.grow (n':=n) s1 (Ai _)
 cases i with
 | true =>
  obtain rfl:=r.imm q.1
  exact ⟨_,[],h1.drop.pushI (.tup Dd hz (r.kp (Kp.of s1))),q.2⟩
 | false=>exact ⟨_,G,h1.part (.tup Dd hz (r.kp (Kp.of s1))) hG,q⟩
theorem At.oldT{t:Addr}(h:At K H0 X n (S++⟨some v,.dat m d,F⟩::T) H)(r:RdFs K H xs ds G)(hG:G.Sublist F)(hz:ds.length<=Aq)(ht:H t=some (.tup xs))(q:aN i m ds P):∃z F',At K H0 X n (S++⟨some (.ref t),z,F'⟩::T) H/\P z:=by
 cases i with
 | true =>
  obtain rfl:=r.imm q.1
  exact ⟨_,[],h.drop.pushI (.tup ht hz r),q.2⟩
 | false=>exact ⟨_,G,h.part (.tup ht hz r) hG,q⟩
end
def o8:DA:=λδ P=>P [] δ
def xX(de:DE)(da:DA):DA:=λδ P=>de δ λx δ1=>da δ1 λxs δ2=>P (x::xs) δ2
section
variable{X:Cx}{e:Expr}{es:List Expr}{de:DE}{da:DA}
theorem Bw:iO X [] o8:=by
 refine PA.imp Kv λσ H Q h=>?_
 obtain ⟨H0,Y,S,T,δ,P,rfl,hS,hA,hd,k⟩:=h
 exact k [] δ [] [] S H rfl hS rfl rfl hA hd
theorem Bi(ha:Ff X e de)(hr:iO X es da)(hs:Bf (e::es) X.env=(false,eval e X.env)::Bf es X.env:=by rfl):iO X (e::es) (xX de da):=by
 refine PA.imp (Gh ha hr hs) λσ H Q h=>?_
 obtain ⟨H0,Y,S,T,δ,P,rfl,hS,hA,hd,k⟩:=h
 refine ⟨H0,Y,S,T,δ,_,rfl,hS,hA,hd,λx δ1 v F S1 H1 e1 e2 hA1 p1=>?_⟩
 refine ⟨H0,Y,S1,⟨some v,x,F⟩::T,δ1,_,e1,e2,hA1,p1,λxs δ2 As us S2 H2 e3 e4 ex eu hA2 p2=>?_⟩
 refine k (x::xs) δ2 (⟨some v,x,F⟩::As) (v::us) S2 H2 e3 e4 (by rw[Ap,ex]) (by rw[Ap,Ap,eu]) (hA2.perm ((Gw S2).append ?_)) p2
 exact Dg
end
def allOw:List DV->Bool
 | []=>true
 | .dat .ow _::xs=>allOw xs
 | _=>false
def noPk:List DV->Bool
 | []=>true
 | .dat .pk _::_=>false
 | .dat _ _::xs=>noPk xs
 | _=>false
def datas:List DV->Option (List Ab)
 | []=>some []
 | .dat _ d::xs=>(datas xs).map (d::·)
 | _=>none
def pkMd(Rj:Md)(xs:List DV):Md:=if allOw xs=true then .ow else if noPk xs=true then Rj else .pk
section
variable{K:PySem.W.Frag}{H0 H:Hp}{X:Addr->Prop}{n:Nat}{S T As:List Ent}
theorem Ss:∀{As:List Ent} {us:List V} {ds:List Ab},As.map Ent.v=us.map some->datas (As.map Ent.x)=some ds->(∀e∈As,Ga K H n e)->RdFs K H us ds (As.flatMap Ent.F)
 | [],us,ds,e,h,_=>by
  cases us with
  | nil=>cases h; exact .nil
  | cons _ _=>cases e
 | ent::As,us,ds,e,h,ok=>by
  cases us with
  | nil=>cases e
  | cons u us =>
   rw[Ap,Ap] at e
   obtain ⟨e1,e2⟩:=Fz e
   obtain ⟨v,x,F⟩:=ent
   have e1':v=some u:=e1
   subst e1'
   rw[Ap] at h
   cases x with
   | dat m d =>
    rw[show datas (DV.dat m d::As.map Ent.x)=(datas (As.map Ent.x)).map (d::·) from rfl] at h
    cases q:datas (As.map Ent.x) with
    | none=>rw[q] at h; cases h
    | some es =>
     rw[q] at h
     cases h
     obtain ⟨w,ew,rw',_⟩:=ok _ Aa
     cases ew
     rw[Ki]
     exact .cons rw' (Ss e2 q λf hf=>ok f (Ae _ hf))
   | _=>cases h
theorem Nl:∀{As:List Ent},allOw (As.map Ent.x)=true->∀e∈As,∃d,e.x=.dat .ow d
 | [],_,_,h=>nomatch h
 | ⟨v,x,F⟩::As,h,e,he=>by
  rw[Ap] at h
  have hx:(∃d,x=.dat .ow d)/\allOw (As.map Ent.x)=true:=by
   cases x with
   | dat m d=>cases m <;> first | exact ⟨⟨d,rfl⟩,h⟩ | cases h
   | _=>cases h
  rcases Ak.mp he with rfl | he
  ·exact hx.1
  ·exact Nl hx.2 e he
theorem eI:∀{As:List Ent},noPk (As.map Ent.x)=true->∀e∈As,Lv e.x=false
 | [],_,_,h=>nomatch h
 | ⟨v,x,F⟩::As,h,e,he=>by
  rw[Ap] at h
  have hx:Lv x=false/\noPk (As.map Ent.x)=true:=by
   cases x with
   | dat m d=>cases m <;> first | exact ⟨rfl,h⟩ | cases h
   | _=>cases h
  rcases Ak.mp he with rfl | he
  ·exact hx.1
  ·exact eI hx.2 e he
theorem Wp:∀{As:List Ent},(∀e∈As,∃d,e.x=.dat .ow d)->(∀e∈As,Ga K H n e)->As.Pairwise Sr->(As.flatMap Ent.F).Nodup
 | [],_,_,_=>Cw
 | ent::As,ho,ok,hs=>by
  rw[Ki]
  have hc:=Ax.mp hs
  obtain ⟨v,x,F⟩:=ent
  obtain ⟨d,hd⟩:=ho _ Aa
  have hd':x=.dat .ow d:=hd
  subst hd'
  obtain ⟨w,_,_,hn,_⟩:=ok _ Aa
  refine Dh.mpr ⟨hn rfl,Wp (λe he=>ho e (Ae _ he)) (λe he=>ok e (Ae _ he)) hc.2,λa ha b hb z=>?_⟩
  subst z
  obtain ⟨f,hf,hb⟩:=Bu.mp hb
  obtain ⟨d',hd'⟩:=ho f (Ae _ hf)
  exact (hc.1 f hf).1 (.inl (by rw[hd']; rfl)) a ha hb
theorem At.pack{v:V}{d:Ab}{N:List Addr}{H':Hp}{Rj:Md}(h:At K H0 X n (S++(As++T)) H)(s:Mi H H')(hN:∀a∈N,H a=none)(ndN:N.Nodup)(htop:(Rj=.tp/\N.length=1)\/(Rj=.sh/\N=[]))(r:RdF K H' v d (N++As.flatMap Ent.F)):At K H0 X n (S++⟨some v,.dat (pkMd Rj (As.map Ent.x)) d,N++As.flatMap Ent.F⟩::T) H':=by
 have hp:(S++(As++T)).Perm (As++(S++T)):=by
  rw[<- Br,<- Br]
  exact Fg.append_right T
 have h2:=h.perm hp
 have hs:=Bk.mp h2.sep
 have h1:=(h.dropL).grow (n':=n) s (Ai _)
 have nN:∀a∈N,∀f∈As++(S++T),a∉f.F:=λa ha f hf=>h2.free (hN a ha) f hf
 have nFlat:∀a∈N,a∉As.flatMap Ent.F:=λa ha z=>by
  obtain ⟨f,hf,z⟩:=Bu.mp z
  exact nN a ha f (Ag _ hf) z
 have cs:∀a∈cells ⟨some v,.dat (pkMd Rj (As.map Ent.x)) d,N++As.flatMap Ent.F⟩,a∈N\/(allOw (As.map Ent.x)=true/\∃f∈As,a∈cells f):=λa ha=>by
  unfold pkMd at ha
  by_cases hw:allOw (As.map Ent.x)=true
  ·rw[if_pos hw] at ha
   rcases An.mp ha with z | z
   ·exact .inl z
   ·obtain ⟨f,hf,z⟩:=Bu.mp z
    obtain ⟨d',hd'⟩:=Nl hw f hf
    refine .inr ⟨hw,f,hf,?_⟩
    unfold cells
    rw[hd']
    exact z
  ·rw[if_neg hw] at ha
   by_cases hk:noPk (As.map Ent.x)=true
   ·rw[if_pos hk] at ha
    rcases htop with ⟨rfl,h1⟩ | ⟨rfl,rfl⟩
    ·match N,h1,ha with
     | [b],_,ha=>exact .inl ha
    ·exact nomatch ha
   ·rw[if_neg hk] at ha
    exact nomatch ha
 refine (h1.push (e:=⟨some v,.dat (pkMd Rj (As.map Ent.x)) d,N++As.flatMap Ent.F⟩) ⟨_,rfl,r,λz=>?_,λz a l e=>?_⟩ (λf hf=>?_) λa ha=>?_).tomid
 ·have hw:allOw (As.map Ent.x)=true:=by
   unfold pkMd at z
   by_cases hw:allOw (As.map Ent.x)=true
   ·exact hw
   ·rw[if_neg hw] at z
    split at z
    ·rcases htop with ⟨rfl,_⟩ | ⟨rfl,_⟩ <;> cases z
    ·cases z
  refine Dh.mpr ⟨ndN,Wp (Nl hw) (λe he=>h2.ok e (Ag _ he)) hs.1,λa ha b hb e=>?_⟩
  subst e
  exact nFlat a ha hb
 ·have ht:Rj=.tp:=by
   unfold pkMd at z
   split at z
   ·cases z
   ·split at z
    ·exact z
    ·cases z
  subst ht
  rcases htop with ⟨_,h1⟩ | ⟨h1,_⟩
  ·match N,h1,e,nFlat with
   | [b],_,e,nFlat =>
    cases e
    exact nFlat a Aa
  ·cases h1
 ·have hf':f∈As++(S++T):=Ad _ hf
  refine ⟨λhq a ha z=>?_,λhq a ha z=>?_⟩
  ·rcases cs a ha with hn | ⟨_,g,hg,hc⟩
   ·exact nN a hn f hf' z
   ·refine (hs.2.2 g hg f hf).1 ?_ a hc z
    rcases hq with hq | hq
    ·exact .inl hq
    ·cases hq
  ·rcases An.mp z with z | z
   ·exact nN a z f hf' (Ep _ _ ha)
   ·obtain ⟨g,hg,z⟩:=Bu.mp z
    refine (hs.2.2 g hg f hf).2 ?_ a ha z
    rcases hq with hq | hq
    ·refine .inl ?_
     have hq':Lv (.dat (pkMd Rj (As.map Ent.x)) d)=false:=hq
     unfold pkMd at hq'
     by_cases hw:allOw (As.map Ent.x)=true
     ·obtain ⟨d',hd'⟩:=Nl hw g hg
      rw[hd']
      rfl
     ·rw[if_neg hw] at hq'
      by_cases hk:noPk (As.map Ent.x)=true
      ·exact eI hk g hg
      ·rw[if_neg hk] at hq'
       cases hq'
    ·exact .inr hq
 ·rcases cs a ha with hn | ⟨_,g,hg,hc⟩
  ·exact .inl (h2.new0 (hN a hn))
  ·rcases h2.new g (Ag _ hg) a hc with z | z
   ·exact .inl z
   ·obtain ⟨d',hd'⟩:=Nl (by assumption) g hg
    rw[hd'] at z
    cases z.2
end
def K7(da:DA):DE:=λδ P=>da δ λxs δ'=>match datas xs with
 | some ds=>ds.length<=1000/\P (.dat (pkMd .sh xs) (.tuple ds)) δ'
 | none=>False
def E2(da:DA):DE:=λδ P=>da δ λxs δ'=>match datas xs with
 | some ds=>ds.length<=1000/\P (.dat (pkMd .tp xs) (.list ds)) δ'
 | none=>False
section
variable{X:Cx}{es:List Expr}{da:DA}{pos:Pos}
theorem Ro{x1}(h:iO X es da):Ff X (.Tuple es x1 pos) (K7 da):=by
 refine PE.imp (iG h) λσ H Q h=>?_
 obtain ⟨H0,Y,S,T,δ,P,rfl,hS,hA,hd,k⟩:=h
 refine ⟨H0,Y,S,T,δ,_,rfl,hS,hA,hd,λxs δ' As us S' H' e1 e2 ex eu hA' p=>?_⟩
 cases q:datas xs with
 | none=>rw[q] at p; exact p.elim
 | some ds =>
  rw[q] at p
  subst ex
  have r:=Ss eu q λe he=>hA'.ok e (Ad _ (Ag _ he))
  have hl:=r.len
  have hz:ds.length<=Aq:=sz p.1
  refine ⟨by omega,λt ht=>?_⟩
  have s1:=En ht (.tup us)
  exact k _ δ' _ _ S' _ e1 e2 (hA'.pack (N:=[]) s1 (λ_ z=>nomatch z) Cw (.inr ⟨rfl,rfl⟩) (.tup Dd hz (r.kp (Kp.of s1)))) p.2
theorem Gz(h:iO X es da):Ff X (.List es pos) (E2 da):=by
 refine PE.imp (gU h) λσ H Q h=>?_
 obtain ⟨H0,Y,S,T,δ,P,rfl,hS,hA,hd,k⟩:=h
 refine ⟨H0,Y,S,T,δ,_,rfl,hS,hA,hd,λxs δ' As us S' H' e1 e2 ex eu hA' p=>?_⟩
 cases q:datas xs with
 | none=>rw[q] at p; exact p.elim
 | some ds =>
  rw[q] at p
  subst ex
  have r:=Ss eu q λe he=>hA'.ok e (Ad _ (Ag _ he))
  have hl:=r.len
  have hz:ds.length<=Aq:=sz p.1
  refine ⟨by omega,λt ht=>?_⟩
  have s1:=En ht (.lst us)
  exact k _ δ' _ _ S' _ e1 e2 (hA'.pack (N:=[t]) s1 (λa z=>by rw[Ac.mp z]; exact ht) (Bt.mpr ⟨Bq,Cw⟩) (.inl ⟨rfl,rfl⟩) (.lst Dd hz (r.kp (Kp.of s1)))) p.2
end
end DL
namespace Nd
open PySem PySem.Spec PyProof.Rows L2
section
variable{X:Cx}
def zB:V->Option Int->Option Int->Hp->VK->Prop:=λx lo hi H Q=>∃a xs,x=.ref a/\H a=some (.tup xs)/\∀p H',H' p=some (.tup (Wf xs lo hi))->Mi H H'->Q (.ref p) H'
theorem wZ:x6 X zB:=by
 intro pins s σ H x v vl vu lo hi sl Q I rx hs pl pu h
 obtain ⟨a,xs,rfl,hx',q⟩:=h
 have hx:Qs X.K H a xs:=Qs.of hx'
 cases rx
 by_cases hw:HT.sIx xs.length 0 lo=0/\HT.sIx xs.length xs.length hi=xs.length
 ·obtain ⟨its,r,ht,hz⟩:=I.tuple hx
  have hlen:its.toArray.size=xs.length:=by rw[Am]; exact r.length.symm
  refine ⟨"tuple",_,Ed.lookup,ht.typeIs,?_⟩
  refine Qk ht hs pl pu (by rw[hlen]; exact hw) ⟨.ref a,H,I,rfl,q a H ?_ (Mi.refl _)⟩
  unfold Wf
  rw[hw.1,hw.2,Hl,Nat.sub_zero,Dq]
  exact hx'
 ·exact j6 pins s σ H (.ref a) (.ref a) vl vu lo hi sl Q I rfl hs pl pu ⟨a,xs,rfl,hx,hw,λp np=>q p _ Dd (En np _)⟩
end
end Nd
namespace Ts
open PySem PyProof.Rows
def Pw:Bool->Keyed->Array Keyed->Nat->Nat->Nat->StateT Bo Sem (Option Nat):=sortPriv% PySem.Builtin.gallop
structure Cmp(prog:Bx)(w:World)(A:Cs)(s:Aj)(kd:Kd)(Ok:Keyed->Prop)(blt:Keyed->Keyed->Bool):Prop where
 run:∀(x y:Keyed) (Q:Bool->Aj->Prop) (E:Value->Aj->Prop),Ok x->Ok y->Q (blt x y) s->wpAny (model prog w) A (keyLt' kd x.1 y.1) Q E s
 irr:∀x,blt x x=false
 tr:∀x y z,blt x y=true->blt y z=true->blt x z=true
 neg:∀x y z,blt x z=true->blt x y=true\/blt y z=true
def le(blt:Keyed->Keyed->Bool)(x y:Keyed):Prop:=blt y x=false
section
variable{prog:Bx}{w:World}{A:Cs}{s:Aj}{kd:Kd}{Ok:Keyed->Prop}{blt:Keyed->Keyed->Bool}
theorem Cmp.refl(C:Cmp prog w A s kd Ok blt)(x:Keyed):le blt x x:=C.irr x
theorem Cmp.ofLt(C:Cmp prog w A s kd Ok blt){x y:Keyed}(h:blt x y=true):le blt x y:=by
 unfold le
 cases q:blt y x with
 | false=>rfl
 | true=>have:=C.tr _ _ _ h q; rw[C.irr] at this; cases this
theorem Cmp.trans(C:Cmp prog w A s kd Ok blt){x y z:Keyed}(h1:le blt x y)(h2:le blt y z):le blt x z:=by
 unfold le at *
 cases q:blt z x with
 | false=>rfl
 | true =>
  rcases C.neg _ y _ q with h | h
  ·rw[h2] at h; cases h
  ·rw[h1] at h; cases h
theorem Cmp.ltLe(C:Cmp prog w A s kd Ok blt){x y z:Keyed}(h1:blt x y=true)(h2:le blt y z):blt x z=true:=by
 unfold le at h2
 rcases C.neg _ z _ h1 with h | h
 ·exact h
 ·rw[h2] at h; cases h
theorem Cmp.leLt(C:Cmp prog w A s kd Ok blt){x y z:Keyed}(h1:le blt x y)(h2:blt y z=true):blt x z=true:=by
 unfold le at h1
 rcases C.neg _ x _ h2 with h | h
 ·rw[h1] at h; cases h
 ·exact h
variable{E:Value->Aj->Prop}
structure Kept(st st':Bo):Prop where
 kind:kindOf st'=kindOf st
 arr:arrOf st'=arrOf st
 pend:Ba st'=Ba st
 fail:Kb st'=Kb st
theorem Kept.refl(st:Bo):Kept st st:=⟨rfl,rfl,rfl,rfl⟩
theorem Kept.trans{a b c:Bo}(h:Kept a b)(k:Kept b c):Kept a c:=⟨k.kind.trans h.kind,k.arr.trans h.arr,k.pend.trans h.pend,k.fail.trans h.fail⟩
theorem fG(C:Cmp prog w A s kd Ok blt){st:Bo}{x y:Keyed}{Q:Option Bool->Bo->Prop}(hk:kindOf st=kd)(ox:Ok x)(oy:Ok y)(h:Q (some (blt x y)) st):wpS (model prog w) A E s (lt' x y) Q st:=by
 rw[lt'_eq]
 refine Au (Lb ?_)
 rw[hk]
 exact Au (wpS_lift (wpAny_attempt (C.run x y _ _ ox oy ⟨rfl,Bc h⟩)))
theorem Eo{st:Bo}{xs:Array Keyed}{i:Nat}{p:Keyed}{Q:Keyed->Bo->Prop}(h:xs[i]? = some p)(q:Q p st):wpS (model prog w) A E s (elem' xs i) Q st:=by
 rw[elem'_eq,h]
 exact Bc q
def Pz(left:Bool)(key:Keyed)(arr:Array Keyed)(base i:Nat):StateT Bo Sem (Option Bool):=do
 let x <- elem' arr (base+i)
 if left then lt' x key else return (<- lt' key x).map (!·)
def kR(left:Bool)(key:Keyed)(arr:Array Keyed)(base n lo0 hi0:Nat):StateT Bo Sem (Option Nat):=do
 let mut lo:=lo0
 let mut hi:=hi0
 for _ in [0:n] do
  if lo ≥ hi then break
  let mid:=lo+(hi - lo) / 2
  let some up <- Pz left key arr base mid | return none
  if up then lo:=mid+1 else hi:=mid
 return some hi
theorem jO(left:Bool)(key:Keyed)(arr:Array Keyed)(base n hint:Nat):Pw left key arr base n hint=(do
  let some right <- Pz left key arr base hint | return none
  let mut last:=0
  let mut ofs:=1
  if right then
   let Rj:=n - hint
   for _ in [0:n] do
    if ofs ≥ Rj then break
    let some up <- Pz left key arr base (hint+ofs) | return none
    if !up then break
    last:=ofs
    ofs:=2 * ofs+1
   kR left key arr base n (hint+last+1) (hint+min ofs Rj)
  else
   let Rj:=hint+1
   for _ in [0:n] do
    if ofs ≥ Rj then break
    let some got <- Pz left key arr base (hint - ofs) | return none
    if got then break
    last:=ofs
    ofs:=2 * ofs+1
   kR left key arr base n (hint+1 - min ofs Rj) (hint - last)):=rfl
def Fx(blt:Keyed->Keyed->Bool)(left:Bool)(key x:Keyed):Bool:=if left then blt x key else !blt key x
structure Row(Ok:Keyed->Prop)(arr:Array Keyed)(base n:Nat)(el:Nat->Keyed):Prop where
 at_:∀i,i<n->arr[base+i]? = some (el i)
 ok:∀i,i<n->Ok (el i)
theorem Qb(C:Cmp prog w A s kd Ok blt){st:Bo}{left:Bool}{key:Keyed}{arr:Array Keyed}{base n i:Nat}{el:Nat->Keyed}(R:Row Ok arr base n el)(ok:Ok key)(hk:kindOf st=kd)(hi:i<n){Q:Option Bool->Bo->Prop}(h:Q (some (Fx blt left key (el i))) st):wpS (model prog w) A E s (Pz left key arr base i) Q st:=by
 unfold Pz
 refine Au (Eo (R.at_ i hi) ?_)
 cases left with
 | true =>
  rw[if_pos rfl]
  exact fG C hk (R.ok i hi) ok h
 | false =>
  rw[if_neg Cb]
  exact Au (fG C hk ok (R.ok i hi) (Bc h))
theorem kM(C:Cmp prog w A s kd Ok blt){st:Bo}{left:Bool}{key:Keyed}{arr:Array Keyed}{base n lo hi:Nat}{el:Nat->Keyed}(R:Row Ok arr base n el)(ok:Ok key)(hk:kindOf st=kd)(mono:∀i j,i<=j->j<n->Fx blt left key (el j)=true->Fx blt left key (el i)=true)(h1:lo<=hi)(h2:hi<=n)(t1:∀i,i<lo->Fx blt left key (el i)=true)(t2:∀i,hi<=i->i<n->Fx blt left key (el i)=false){Q:Option Nat->Bo->Prop}(h:∀k,k<=n->(∀i,i<k->Fx blt left key (el i)=true)->(∀i,k<=i->i<n->Fx blt left key (el i)=false)->Q (some k) st):wpS (model prog w) A E s (kR left key arr base n lo hi) Q st:=by
 unfold kR
 refine Au (Ge (Eb (I:=λx c st'=>∃l r,c=(none,l,r)/\st'=st/\l<=r/\r<=n/\r - l+x<=n/\(∀i,i<l->Fx blt left key (el i)=true)/\(∀i,r<=i->i<n->Fx blt left key (el i)=false))
  (Q:=λc st'=>∃r,c=(none,r,r)/\st'=st/\r<=n/\(∀i,i<r->Fx blt left key (el i)=true)/\(∀i,r<=i->i<n->Fx blt left key (el i)=false)) ?_ ?_ ⟨lo,hi,rfl,rfl,h1,h2,by omega,t1,t2⟩) ?_)
 ·(intro x c st' _ hx q_; obtain ⟨l,r,rfl,rfl,a1,a2,a3,b1,b2⟩ := q_)
  dsimp only
  by_cases hlr:l ≥ r
  ·rw[if_pos hlr]
   have e:l=r:=by omega
   subst e
   exact Bc ⟨l,rfl,rfl,a2,b1,b2⟩
  ·rw[if_neg hlr]
   have hm:l+(r - l) / 2<n:=by omega
   refine Au (Qb C R ok hk hm ?_)
   dsimp only
   cases hb:Fx blt left key (el (l+(r - l) / 2)) with
   | true =>
    rw[if_pos rfl]
    exact Bc ⟨l+(r - l) / 2+1,r,rfl,rfl,by omega,a2,by omega,λi hi=>mono i _ (by omega) hm hb,b2⟩
   | false =>
    rw[if_neg Cb]
    refine Bc ⟨l,l+(r - l) / 2,rfl,rfl,by omega,by omega,by omega,b1,λi hi hn=>?_⟩
    cases q:Fx blt left key (el i) with
    | false=>rfl
    | true=>rw[mono _ i hi hn q] at hb; cases hb
 ·(intro c st' q_; obtain ⟨l,r,rfl,rfl,a1,a2,a3,b1,b2⟩ := q_)
  have e:l=r:=by
   have : max 0 n=n:=by omega
   rw[this] at a3
   omega
  subst e
  exact ⟨l,rfl,rfl,a2,b1,b2⟩
 ·(intro c st' q_; obtain ⟨r,rfl,rfl,a2,b1,b2⟩ := q_)
  exact Bc (h r a2 b1 b2)
theorem Ll(C:Cmp prog w A s kd Ok blt){st:Bo}{left:Bool}{key:Keyed}{arr:Array Keyed}{base n hint:Nat}{el:Nat->Keyed}(R:Row Ok arr base n el)(ok:Ok key)(hk:kindOf st=kd)(hh:hint<n)(mono:∀i j,i<=j->j<n->Fx blt left key (el j)=true->Fx blt left key (el i)=true){Q:Option Nat->Bo->Prop}(h:∀k,k<=n->(∀i,i<k->Fx blt left key (el i)=true)->(∀i,k<=i->i<n->Fx blt left key (el i)=false)->Q (some k) st):wpS (model prog w) A E s (Pw left key arr base n hint) Q st:=by
 have anti:∀i j,i<=j->j<n->Fx blt left key (el i)=false->Fx blt left key (el j)=false:=λi j hij hj q=>by
  cases z:Fx blt left key (el j) with
  | false=>rfl
  | true=>rw[mono i j hij hj z] at q; cases q
 rw[jO]
 refine Au (Qb C R ok hk hh ?_)
 dsimp only
 cases hb:Fx blt left key (el hint) with
 | true =>
  rw[if_pos rfl]
  refine Au (Ge (Eb (I:=λx c st'=>∃la o,c=(none,la,o)/\st'=st/\la<o/\x+1<=o/\hint+la<n/\Fx blt left key (el (hint+la))=true)
   (Q:=λc st'=>∃la o,c=(none,la,o)/\st'=st/\la<o/\hint+la<n/\Fx blt left key (el (hint+la))=true/\(o ≥ n - hint\/(hint+o<n/\Fx blt left key (el (hint+o))=false))) ?_ ?_
   ⟨0,1,rfl,rfl,by omega,by omega,by omega,hb⟩) ?_)
  ·(intro x c st' _ hx q_; obtain ⟨la,o,rfl,rfl,a1,a2,a3,b1⟩ := q_)
   dsimp only
   by_cases ho:o ≥ n - hint
   ·rw[if_pos ho]
    exact Bc ⟨la,o,rfl,rfl,a1,a3,b1,.inl ho⟩
   ·rw[if_neg ho]
    have hm:hint+o<n:=by omega
    refine Au (Qb C R ok hk hm ?_)
    dsimp only
    cases hb2:Fx blt left key (el (hint+o)) with
    | true =>
     simp only[Bool.not_true,Cz,if_false]
     exact Bc ⟨o,2 * o+1,rfl,rfl,by omega,by omega,hm,hb2⟩
    | false =>
     simp only[Bool.not_false,if_true]
     exact Bc ⟨la,o,rfl,rfl,a1,a3,b1,.inr ⟨hm,hb2⟩⟩
  ·(intro c st' q_; obtain ⟨la,o,rfl,rfl,a1,a2,a3,b1⟩ := q_)
   have : max 0 n=n:=by omega
   rw[this] at a2
   exact ⟨la,o,rfl,rfl,a1,a3,b1,.inl (by omega)⟩
  ·(intro c st' q_; obtain ⟨la,o,rfl,rfl,a1,a3,b1,b2⟩ := q_)
   dsimp only
   refine kM C R ok hk mono (by omega) (by omega) (λi hi=>mono i _ (by omega) a3 b1) (λi hi hn=>?_) h
   rcases b2 with b2 | ⟨b2,b3⟩
   ·exfalso; omega
   ·exact anti _ i (by omega) hn b3
 | false =>
  rw[if_neg Cb]
  refine Au (Ge (Eb (I:=λx c st'=>∃la o,c=(none,la,o)/\st'=st/\la<o/\x+1<=o/\la<=hint/\Fx blt left key (el (hint - la))=false)
   (Q:=λc st'=>∃la o,c=(none,la,o)/\st'=st/\la<o/\la<=hint/\Fx blt left key (el (hint - la))=false/\(o ≥ hint+1\/(o<=hint/\Fx blt left key (el (hint - o))=true))) ?_ ?_
   ⟨0,1,rfl,rfl,by omega,by omega,by omega,hb⟩) ?_)
  ·(intro x c st' _ hx q_; obtain ⟨la,o,rfl,rfl,a1,a2,a3,b1⟩ := q_)
   dsimp only
   by_cases ho:o ≥ hint+1
   ·rw[if_pos ho]
    exact Bc ⟨la,o,rfl,rfl,a1,a3,b1,.inl ho⟩
   ·rw[if_neg ho]
    have hm:hint - o<n:=by omega
    refine Au (Qb C R ok hk hm ?_)
    dsimp only
    cases hb2:Fx blt left key (el (hint - o)) with
    | true =>
     rw[if_pos rfl]
     exact Bc ⟨la,o,rfl,rfl,a1,a3,b1,.inr ⟨by omega,hb2⟩⟩
    | false =>
     rw[if_neg Cb]
     exact Bc ⟨o,2 * o+1,rfl,rfl,by omega,by omega,by omega,hb2⟩
  ·(intro c st' q_; obtain ⟨la,o,rfl,rfl,a1,a2,a3,b1⟩ := q_)
   have : max 0 n=n:=by omega
   rw[this] at a2
   exact ⟨la,o,rfl,rfl,a1,a3,b1,.inl (by omega)⟩
  ·(intro c st' q_; obtain ⟨la,o,rfl,rfl,a1,a3,b1,b2⟩ := q_)
   dsimp only
   refine kM C R ok hk mono (by omega) (by omega) (λi hi=>?_) (λi hi hn=>anti _ i hi hn b1) h
   rcases b2 with b2 | ⟨b2,b3⟩
   ·exfalso; omega
   ·exact mono i _ (by omega) (by omega) b3
end
structure MI{α:Type}(R:α->α->Prop)(xs ys out:List α)(i j:Nat):Prop where
 perm:out.Perm (xs.take i++ys.take j)
 srt:out.Pairwise R
 lx:∀o∈out,∀z∈xs.drop i,R o z
 ly:∀o∈out,∀z∈ys.drop j,R o z
section
variable{α:Type}{R:α->α->Prop}{xs ys out:List α}{i j:Nat}
theorem Za{l:List α}{n:Nat}{a:α}(h:l[n]? = some a):l.drop n=a::l.drop (n+1):=by
 obtain ⟨hn,e⟩:=Al.mp h
 rw[cR hn,e]
theorem take_snoc{l:List α}{n:Nat}{a:α}(h:l[n]? = some a):l.take (n+1)=l.take n++[a]:=by
 rw[List.take_succ,h]; rfl
theorem MI.pushY(M:MI R xs ys out i j)(sy:ys.Pairwise R){y:α}(hy:ys[j]? = some y)(hx:∀z∈xs.drop i,R y z):MI R xs ys (out++[y]) i (j+1):=by
 have dy:=Za hy
 have sd:(y::ys.drop (j+1)).Pairwise R:=by rw[<- dy]; exact Hg (Gv _ _) sy
 obtain ⟨s1,s2⟩:=Ax.mp sd
 refine ⟨?_,?_,λo ho z hz=>?_,λo ho z hz=>?_⟩
 ·rw[take_snoc hy,<- Br]
  exact M.perm.append_right _
 ·refine Bk.mpr ⟨M.srt,Co _ _,λo ho z hz=>?_⟩
  have e:z=y:=by simpa using hz
  rw[e]
  exact M.ly o ho y (by rw[dy]; exact Aa)
 ·rcases An.mp ho with ho | ho
  ·exact M.lx o ho z hz
  ·have e:o=y:=by simpa using ho
   rw[e]; exact hx z hz
 ·rcases An.mp ho with ho | ho
  ·exact M.ly o ho z (by rw[dy]; exact Ae _ hz)
  ·have e:o=y:=by simpa using ho
   rw[e]; exact s1 z hz
theorem MI.pushX(M:MI R xs ys out i j)(sx:xs.Pairwise R){x:α}(hx:xs[i]? = some x)(hy:∀z∈ys.drop j,R x z):MI R xs ys (out++[x]) (i+1) j:=by
 have dx:=Za hx
 have sd:(x::xs.drop (i+1)).Pairwise R:=by rw[<- dx]; exact Hg (Gv _ _) sx
 obtain ⟨s1,s2⟩:=Ax.mp sd
 refine ⟨?_,?_,λo ho z hz=>?_,λo ho z hz=>?_⟩
 ·rw[take_snoc hx]
  have p1:(out++[x]).Perm ((xs.take i++ys.take j)++[x]):=M.perm.append_right _
  refine p1.trans ?_
  rw[Br,Br]
  exact Ka _ Fg
 ·refine Bk.mpr ⟨M.srt,Co _ _,λo ho z hz=>?_⟩
  have e:z=x:=by simpa using hz
  rw[e]
  exact M.lx o ho x (by rw[dx]; exact Aa)
 ·rcases An.mp ho with ho | ho
  ·exact M.lx o ho z (by rw[dx]; exact Ae _ hz)
  ·have e:o=x:=by simpa using ho
   rw[e]; exact s1 z hz
 ·rcases An.mp ho with ho | ho
  ·exact M.ly o ho z hz
  ·have e:o=x:=by simpa using ho
   rw[e]; exact hy z hz
theorem Ow{l:List α}{n k:Nat}{a:α}(h:l[n+k]? = some a):(l.drop n).take (k+1)=(l.drop n).take k++[a]:=take_snoc (by rw[Uk]; exact h)
theorem MI.blockX(M:MI R xs ys out i j)(sx:xs.Pairwise R):∀k,i+k<=xs.length->(∀m,m<k->∀x,xs[i+m]? = some x->∀z∈ys.drop j,R x z)->MI R xs ys (out++(xs.drop i).take k) (i+k) j
 | 0,_,_=>by simpa using M
 | k+1,hk,h=>by
  have ih:=MI.blockX M sx k (by omega) λm hm=>h m (by omega)
  obtain ⟨x,hx⟩ : ∃x,xs[i+k]? = some x:=⟨xs[i+k],by simp⟩
  rw[Ow hx,<- Br]
  exact ih.pushX sx hx (h k (by omega) x hx)
theorem MI.blockY(M:MI R xs ys out i j)(sy:ys.Pairwise R):∀k,j+k<=ys.length->(∀m,m<k->∀y,ys[j+m]? = some y->∀z∈xs.drop i,R y z)->MI R xs ys (out++(ys.drop j).take k) i (j+k)
 | 0,_,_=>by simpa using M
 | k+1,hk,h=>by
  have ih:=MI.blockY M sy k (by omega) λm hm=>h m (by omega)
  obtain ⟨y,hy⟩ : ∃y,ys[j+k]? = some y:=⟨ys[j+k],by simp⟩
  rw[Ow hy,<- Br]
  exact ih.pushY sy hy (h k (by omega) y hy)
theorem MI.endX(M:MI R xs ys out i j)(sx:xs.Pairwise R)(hj:ys.length<=j):(out++xs.drop i++ys.drop j).Perm (xs++ys)/\(out++xs.drop i++ys.drop j).Pairwise R:=by
 rw[jV hj,Ea]
 constructor
 ·have p1:(out++xs.drop i).Perm ((xs.take i++ys.take j)++xs.drop i):=M.perm.append_right _
  refine p1.trans ?_
  rw[Eu hj]
  have p2:(xs.take i++ys++xs.drop i).Perm (xs.take i++(xs.drop i++ys)):=by
   rw[Br]
   exact Ka _ Fg
  refine p2.trans ?_
  rw[<- Br,Ee]
 ·exact Bk.mpr ⟨M.srt,Hg (Gv _ _) sx,M.lx⟩
theorem MI.endYX(M:MI R xs ys out i j)(sx:xs.Pairwise R)(sy:ys.Pairwise R)(h:∀y∈ys.drop j,∀x∈xs.drop i,R y x):(out++ys.drop j++xs.drop i).Perm (xs++ys)/\(out++ys.drop j++xs.drop i).Pairwise R:=by
 constructor
 ·have p1:(out++(ys.drop j++xs.drop i)).Perm ((xs.take i++ys.take j)++(ys.drop j++xs.drop i)):=M.perm.append_right _
  rw[Br]
  refine p1.trans ?_
  rw[Br,<- Br (ys.take j),Ee]
  have p2:(xs.take i++(ys++xs.drop i)).Perm (xs.take i++(xs.drop i++ys)):=Ka _ Fg
  refine p2.trans ?_
  rw[<- Br,Ee]
 ·refine Bk.mpr ⟨Bk.mpr ⟨M.srt,Hg (Gv _ _) sy,M.ly⟩,Hg (Gv _ _) sx,λa ha b hb=>?_⟩
  rcases An.mp ha with ha | ha
  ·exact M.lx a ha b hb
  ·exact h a ha b hb
end
def dA:Array Keyed->Array Keyed->StateT Bo Sem (Array Keyed):=sortPriv% PySem.Builtin.mergeLo
def Vp:Nat->StateT Bo Sem Unit:=sortPriv% PySem.Builtin.setMinGallop
abbrev i6(st:Bo)(g:Nat):Bo:=SortSt.mk' (kindOf st) (arrOf st) (Ba st) g (Kb st)
theorem iP(g:Nat):Vp g=modify λst=>i6 st g:=rfl
theorem Vi(p:Array Keyed)(i:Nat):(p.extract i p.size).toList=p.toList.drop i:=by
 rw[Lf,Jg,Eu]
 rw[Hk,Av]
 exact Ai _
theorem Sa(p:Array Keyed)(i k:Nat):(p.extract i (i+k)).toList=(p.toList.drop i).take k:=by
 rw[Lf,Jg,Nat.add_sub_cancel_left]
abbrev dn(p q out:Array Keyed)(i j:Nat):Array Keyed:=out++p.extract i p.size++q.extract j q.size
abbrev lst(p q out:Array Keyed)(i j:Nat):Array Keyed:=out++q.extract j q.size++p.extract i p.size
theorem vJ(p q out:Array Keyed)(i j:Nat):(dn p q out i j).toList=out.toList++p.toList.drop i++q.toList.drop j:=by
 rw[Dc,Dc,Vi,Vi]
theorem rT(p q out:Array Keyed)(i j:Nat):(lst p q out i j).toList=out.toList++q.toList.drop j++p.toList.drop i:=by
 rw[Dc,Dc,Vi,Vi]
abbrev wC:=Option (Array Keyed)×Array Keyed×Nat×Nat×Nat×Nat×Nat
def vY(p q out:Array Keyed)(i j g ac k:Nat):StateT Bo Sem (ForInStep wC):=do
 let x <- elem' p i
 if (i+1+1 == p.size)=true then pure (Cj (some (lst p q (out.push x) (i+1) j),out.push x,i+1,j,g,ac,k))
 else if (decide (ac<7) && decide (k<7))=true then pure (Cj (none,out.push x,i+1,j,g,ac,k))
 else pure (Ef (none,out.push x,i+1,j,g,ac,k))
def wL(p q out:Array Keyed)(i j g ac bc:Nat):StateT Bo Sem (ForInStep wC):=do
 let y <- elem' q j
 if (j+1 == q.size)=true then pure (Cj (some (dn p q (out.push y) i (j+1)),out.push y,i,j+1,g,ac,bc))
 else do
  let x <- elem' p i
  let some k <- Pw true x q (j+1) (q.size - (j+1)) 0 | pure (Cj (some (dn p q (out.push y) i (j+1)),out.push y,i,j+1,g,ac,bc))
  if k > 0 then
   if (j+1+k == q.size)=true then pure (Cj (some (dn p q (out.push y++q.extract (j+1) (j+1+k)) i (j+1+k)),out.push y++q.extract (j+1) (j+1+k),i,j+1+k,g,ac,k))
   else vY p q (out.push y++q.extract (j+1) (j+1+k)) i (j+1+k) g ac k
  else vY p q (out.push y) i (j+1) g ac k
def x9(p q out:Array Keyed)(i j g ac bc:Nat):StateT Bo Sem (ForInStep wC):=do
 Vp g
 let y <- elem' q j
 let some k <- Pw false y p i (p.size - i) 0 | pure (Cj (some (dn p q out i j),out,i,j,g,ac,bc))
 if k > 0 then
  if (i+k+1 == p.size)=true then pure (Cj (some (lst p q (out++p.extract i (i+k)) (i+k) j),out++p.extract i (i+k),i+k,j,g,k,bc))
  else if (i+k == p.size)=true then pure (Cj (some (dn p q (out++p.extract i (i+k)) (i+k) j),out++p.extract i (i+k),i+k,j,g,k,bc))
  else wL p q (out++p.extract i (i+k)) (i+k) j g k bc
 else wL p q out i j g k bc
section
variable{prog:Bx}{w:World}{A:Cs}{s:Aj}{kd:Kd}{Ok:Keyed->Prop}{blt:Keyed->Keyed->Bool}{E:Value->Aj->Prop}
theorem Px{st:Bo}{x:String}{Q:Unit->Bo->Prop}(h:Q () st):wpS (model prog w) A E s (liftM (rule x):StateT Bo Sem Unit) Q st:=wpS_lift (Rt ⟨rfl,h⟩)
theorem Py{st:Bo}{g:Nat}{Q:Unit->Bo->Prop}(h:∀st',Kept st st'->Q () st'):wpS (model prog w) A E s (Vp g) Q st:=by
 rw[iP]
 exact Hy (h _ ⟨rfl,rfl,rfl,rfl⟩)
structure Two(Ok:Keyed->Prop)(blt:Keyed->Keyed->Bool)(p q:Array Keyed)(x0 y0 xl:Keyed):Prop where
 op:∀x∈p.toList,Ok x
 oq:∀x∈q.toList,Ok x
 sp:p.toList.Pairwise (le blt)
 sq:q.toList.Pairwise (le blt)
 hx0:p[0]? = some x0
 hy0:q[0]? = some y0
 hxl:p[p.size - 1]? = some xl
 first:blt y0 x0=true
 last:∀y∈q.toList,blt y xl=true
abbrev jK(blt:Keyed->Keyed->Bool)(p q r:Array Keyed):Prop:=r.toList.Perm (p.toList++q.toList)/\r.toList.Pairwise (le blt)
theorem Dz{p:Array Keyed}{i:Nat}{x:Keyed}(h:p[i]? = some x):p.toList[i]? = some x:=by simpa using h
theorem Es{p:Array Keyed}{i:Nat}(h:i<p.size):∃x,p[i]? = some x:=⟨p[i],by simp [h]⟩
theorem Hv{p:Array Keyed}{i:Nat}{x:Keyed}(h:p[i]? = some x):x∈p.toList:=Ar (Dz h)
theorem cW{α:Type}{l:List α}{i:Nat}{z:α}(h:z∈l.drop i):∃k,l[i+k]? = some z:=by
 obtain ⟨k,hk,e⟩:=Gp.mp h
 exact ⟨k,by rw[<- Uk,Bs hk,e]⟩
theorem Jn(C:Cmp prog w A s kd Ok blt){l:List Keyed}(sl:l.Pairwise (le blt)){i j:Nat}{x y:Keyed}(hij:i<=j)(hx:l[i]? = some x)(hy:l[j]? = some y):le blt x y:=by
 by_cases e:i=j
 ·subst e
  rw[hx] at hy
  cases hy
  exact C.refl x
 ·obtain ⟨hi,ex⟩:=Al.mp hx
  obtain ⟨hj,ey⟩:=Al.mp hy
  have:=List.pairwise_iff_getElem.mp sl i j hi hj (by omega)
  rw[ex,ey] at this
  exact this
theorem Mr(C:Cmp prog w A s kd Ok blt){l:List Keyed}(sl:l.Pairwise (le blt)){i:Nat}{x y:Keyed}(hx:l[i]? = some x)(h:le blt y x):∀z∈l.drop i,le blt y z:=λz hz=>by
 obtain ⟨k,hk⟩:=cW hz
 exact C.trans h (Jn C sl (Nat.le_add_right i k) hx hk)
abbrev LI(blt:Keyed->Keyed->Bool)(p q out:Array Keyed)(i j:Nat):Prop:=MI (le blt) p.toList q.toList out.toList i j
theorem Lk(out:Array Keyed)(x:Keyed):(out.push x).toList=out.toList++[x]:=by simp
theorem Two.last_end(C:Cmp prog w A s kd Ok blt){p q out:Array Keyed}{x0 y0 xl:Keyed}(T:Two Ok blt p q x0 y0 xl){i j:Nat}(M:LI blt p q out i j)(hi:i+1=p.size):jK blt p q (lst p q out i j):=by
 have h:=M.endYX T.sp T.sq (λy hy x hx=>?_)
 ·rw[<- rT] at h
  exact h
 ·obtain ⟨k,hk⟩:=cW hx
  have : k=0:=by
   have:=(Al.mp hk).1
   rw[Av] at this
   omega
  subst this
  have e:x=xl:=by
   have:=Dz T.hxl
   rw[show p.size - 1=i+0 by omega,hk] at this
   exact Be this
  rw[e]
  exact C.ofLt (T.last y (List.mem_of_mem_drop hy))
theorem Two.done_end{p q out:Array Keyed}{x0 y0 xl:Keyed}(T:Two Ok blt p q x0 y0 xl){i j:Nat}(M:LI blt p q out i j)(hj:q.size<=j):jK blt p q (dn p q out i j):=by
 have h:=M.endX T.sp (by rw[Av]; exact hj)
 rw[<- vJ] at h
 exact h
def O2(blt:Keyed->Keyed->Bool)(p q:Array Keyed)(st:Bo)(n:Nat)(r:ForInStep wC)(st':Bo):Prop:=Kept st st'/\match r with
 | .done (some r,_)=>jK blt p q r
 | .done (none,out,i,j,_)=>LI blt p q out i j/\i+1<p.size/\j<q.size/\n<i+j
 | .yield (none,out,i,j,_)=>LI blt p q out i j/\i+1<p.size/\j<q.size/\n<i+j
 | .yield (some _,_)=>False
theorem kZ(C:Cmp prog w A s kd Ok blt){p q out:Array Keyed}{x0 y0 xl:Keyed}(T:Two Ok blt p q x0 y0 xl){i j g ac k n:Nat}{st0 st:Bo}(kp:Kept st0 st)(M:LI blt p q out i j)(hi:i+1<p.size)(hj:j<q.size)(hn:n<=i+j){x:Keyed}(hx:p[i]? = some x)(hq:∀z∈q.toList.drop j,le blt x z):wpS (model prog w) A E s (vY p q out i j g ac k) (O2 blt p q st0 n) st:=by
 unfold vY
 refine Au (Eo hx ?_)
 have M1:LI blt p q (out.push x) (i+1) j:=by
  have:=M.pushX T.sp (Dz hx) hq
  rw[<- Lk] at this
  exact this
 by_cases h1:i+1+1=p.size
 ·rw[if_pos (by rw[h1]; exact beq_self_eq_true _)]
  exact Bc ⟨kp,T.last_end C M1 h1⟩
 ·rw[if_neg (λz=>h1 (Di z))]
  by_cases h2:(decide (ac<7) && decide (k<7))=true
  ·rw[if_pos h2]
   exact Bc ⟨kp,M1,by omega,hj,by omega⟩
  ·rw[if_neg h2]
   exact Bc ⟨kp,M1,by omega,hj,by omega⟩
theorem kA(C:Cmp prog w A s kd Ok blt){p q out:Array Keyed}{x0 y0 xl:Keyed}(T:Two Ok blt p q x0 y0 xl){i j g ac bc n:Nat}{st0 st:Bo}(kp:Kept st0 st)(hk:kindOf st=kd)(M:LI blt p q out i j)(hi:i+1<p.size)(hj:j<q.size)(hn:n<=i+j){x y:Keyed}(hx:p[i]? = some x)(hy:q[j]? = some y)(hyx:blt y x=true):wpS (model prog w) A E s (wL p q out i j g ac bc) (O2 blt p q st0 n) st:=by
 unfold wL
 refine Au (Eo hy ?_)
 have M1:LI blt p q (out.push y) i (j+1):=by
  have:=M.pushY T.sq (Dz hy) (Mr C T.sp (Dz hx) (C.ofLt hyx))
  rw[<- Lk] at this
  exact this
 by_cases h1:j+1=q.size
 ·rw[if_pos (by rw[h1]; exact beq_self_eq_true _)]
  exact Bc ⟨kp,T.done_end M1 (by omega)⟩
 ·rw[if_neg (λz=>h1 (Di z))]
  refine Au (Eo hx ?_)
  have R:Row Ok q (j+1) (q.size - (j+1)) (λm=>q.getD (j+1+m) y):=⟨λm hm=>?_,λm hm=>?_⟩
  ·refine Au (Ll C R (T.op x (Hv hx)) hk (by omega) (λa b hab hb q1=>?_) λk hk1 t1 t2=>?_)
   ·obtain ⟨ya,ea⟩:=Es (p:=q) (i:=j+1+a) (by omega)
    obtain ⟨yb,eb⟩:=Es (p:=q) (i:=j+1+b) (by omega)
    have ga:q.getD (j+1+a) y=ya:=by simp [Dk,ea]
    have gb:q.getD (j+1+b) y=yb:=by simp [Dk,eb]
    simp only[ga,gb,Fx,if_true] at q1 ⊢
    exact C.leLt (Jn C T.sq (by omega) (Dz ea) (Dz eb)) q1
   ·dsimp only
    have val:∀m yy,q[j+1+m]? = some yy->q.getD (j+1+m) y=yy:=λm yy e=>by simp [Dk,e]
    have M2:LI blt p q (out.push y++q.extract (j+1) (j+1+k)) i (j+1+k):=by
     have:=M1.blockY T.sq k (by rw[Av]; omega) (λm hm yy ey=>by
      have ey':q[j+1+m]? = some yy:=by simpa using ey
      have:=t1 m hm
      rw[val m yy ey'] at this
      simp only[Fx,if_true] at this
      exact Mr C T.sp (Dz hx) (C.ofLt this))
     rw[<- Sa,<- Dc] at this
     exact this
    by_cases h2:k > 0
    ·rw[if_pos h2]
     by_cases h3:j+1+k=q.size
     ·rw[if_pos (by rw[h3]; exact beq_self_eq_true _)]
      exact Bc ⟨kp,T.done_end M2 (by omega)⟩
     ·rw[if_neg (λz=>h3 (Di z))]
      obtain ⟨yk,ek⟩:=Es (p:=q) (i:=j+1+k) (by omega)
      refine kZ C T kp M2 hi (by omega) (by omega) hx (Mr C T.sq (Dz ek) ?_)
      have:=t2 k (Ai _) (by omega)
      rw[val k yk ek] at this
      have z:blt yk x=false:=by simpa only [Fx,if_true] using this
      exact z
    ·rw[if_neg h2]
     have hk0:k=0:=by omega
     subst hk0
     obtain ⟨yk,ek⟩:=Es (p:=q) (i:=j+1) (by omega)
     refine kZ C T kp M1 hi (by omega) (by omega) hx (Mr C T.sq (Dz ek) ?_)
     have:=t2 0 (Ai _) (by omega)
     rw[val 0 yk ek] at this
     have z:blt yk x=false:=by simpa only [Fx,if_true] using this
     exact z
  ·obtain ⟨ya,ea⟩:=Es (p:=q) (i:=j+1+m) (by omega)
   rw[ea]
   simp [Dk,ea]
  ·obtain ⟨ya,ea⟩:=Es (p:=q) (i:=j+1+m) (by omega)
   have : q.getD (j+1+m) y=ya:=by simp [Dk,ea]
   rw[this]
   exact T.oq ya (Hv ea)
theorem vX(C:Cmp prog w A s kd Ok blt){p q out:Array Keyed}{x0 y0 xl:Keyed}(T:Two Ok blt p q x0 y0 xl){i j g ac bc n:Nat}{st0 st:Bo}(kp:Kept st0 st)(hk:kindOf st=kd)(M:LI blt p q out i j)(hi:i+1<p.size)(hj:j<q.size)(hn:n<=i+j):wpS (model prog w) A E s (x9 p q out i j g ac bc) (O2 blt p q st0 n) st:=by
 unfold x9
 refine Au (Py λst1 kp1=>?_)
 have kp':=kp.trans kp1
 have hk':kindOf st1=kd:=kp1.kind.trans hk
 obtain ⟨y,hy⟩:=Es (p:=q) hj
 refine Au (Eo hy ?_)
 have val:∀m xx,p[i+m]? = some xx->p.getD (i+m) y=xx:=λm xx e=>by simp [Dk,e]
 have R:Row Ok p i (p.size - i) (λm=>p.getD (i+m) y):=⟨λm hm=>by
  obtain ⟨xa,ea⟩:=Es (p:=p) (i:=i+m) (by omega)
  rw[val m xa ea,ea],λm hm=>by
  obtain ⟨xa,ea⟩:=Es (p:=p) (i:=i+m) (by omega)
  show Ok (p.getD (i+m) y)
  rw[val m xa ea]
  exact T.op xa (Hv ea)⟩
 refine Au (Ll C R (T.oq y (Hv hy)) hk' (by omega) (λa b hab hb q1=>?_) λk hk1 t1 t2=>?_)
 ·obtain ⟨xa,ea⟩:=Es (p:=p) (i:=i+a) (by omega)
  obtain ⟨xb,eb⟩:=Es (p:=p) (i:=i+b) (by omega)
  simp only[val a xa ea,val b xb eb,Fx,Cz,if_false,Ij] at q1 ⊢
  exact C.trans (Jn C T.sp (by omega) (Dz ea) (Dz eb)) q1
 ·dsimp only
  -- the last one is beyond y: so k does not reach it
  have hkl:i+k+1<=p.size:=by
   rcases Nat.lt_or_ge (i+k) p.size with z | z
   ·omega
   ·exfalso
    have:=t1 (p.size - 1 - i) (by omega)
    have e:p[i+(p.size - 1 - i)]? = some xl:=by
     rw[show i+(p.size - 1 - i)=p.size - 1 by omega]
     exact T.hxl
    rw[val _ xl e] at this
    simp only[Fx,Cz,if_false,T.last y (Hv hy),Bool.not_true] at this
  have M1:LI blt p q (out++p.extract i (i+k)) (i+k) j:=by
   have:=M.blockX T.sp k (by rw[Av]; omega) (λm hm xx ex=>by
    have ex':p[i+m]? = some xx:=by simpa using ex
    have:=t1 m hm
    rw[val m xx ex'] at this
    simp only[Fx,Cz,if_false,Ij] at this
    exact Mr C T.sq (Dz hy) this)
   rw[<- Sa,<- Dc] at this
   exact this
  obtain ⟨xk,ek⟩:=Es (p:=p) (i:=i+k) (by omega)
  have hyx:blt y xk=true:=by
   have:=t2 k (Ai _) (by omega)
   rw[val k xk ek] at this
   simpa only [Fx,Cz,if_false,Um] using this
  by_cases h2:k > 0
  ·rw[if_pos h2]
   by_cases h3:i+k+1=p.size
   ·rw[if_pos (by rw[h3]; exact beq_self_eq_true _)]
    exact Bc ⟨kp',T.last_end C M1 h3⟩
   ·rw[if_neg (λz=>h3 (Di z)),if_neg (λz=>by have:=Di z; omega)]
    exact kA C T kp' hk' M1 (by omega) hj (by omega) ek hy hyx
  ·rw[if_neg h2]
   have hk0:k=0:=by omega
   subst hk0
   exact kA C T kp' hk' M hi hj hn ek hy hyx
theorem gY(C:Cmp prog w A s kd Ok blt){p q:Array Keyed}{x0 y0 xl:Keyed}(T:Two Ok blt p q x0 y0 xl){st:Bo}(hk:kindOf st=kd){Q:Array Keyed->Bo->Prop}(h:∀r st',Kept st st'->jK blt p q r->Q r st'):wpS (model prog w) A E s (dA p q) Q st:=by
 have p0:0<p.size:=by
  have:=(Iw.mp T.hx0).1
  exact this
 have q0:0<q.size:=by
  have:=(Iw.mp T.hy0).1
  exact this
 have M0:LI blt p q #[y0] 0 1:=by
  have m:LI blt p q #[] 0 0:=⟨by simp,by simp,λo ho=>by simp at ho,λo ho=>by simp at ho⟩
  have:=m.pushY T.sq (Dz T.hy0) (Mr C T.sp (Dz T.hx0) (C.ofLt T.first))
  simpa using this
 unfold dA
 refine Au (Px ?_)
 refine Au (Eo T.hy0 ?_)
 dsimp only
 by_cases h1:1=q.size
 ·rw[if_pos (by rw[<- h1]; rfl)]
  exact Bc (h _ _ (Kept.refl _) (T.done_end M0 (by omega)))
 rw[if_neg (λz=>h1 (Di z))]
 by_cases h2:0+1=p.size
 ·rw[if_pos (by rw[<- h2]; rfl)]
  exact Bc (h _ _ (Kept.refl _) (T.last_end C M0 (by omega)))
 rw[if_neg (λz=>h2 (Di z))]
 refine Au (Lb ?_)
 refine Au (Ge (Eb
  (I:=λx c st'=>Kept st st'/\∃out i j g,c=(none,out,i,j,g)/\LI blt p q out i j/\i+1<p.size/\j<q.size/\x+1<=i+j)
  (Q:=λc st'=>Kept st st'/\∃r Gf,c=(some r,Gf)/\jK blt p q r) ?_ ?_ ⟨Kept.refl _,_,0,1,_,rfl,M0,by omega,by omega,by omega⟩) ?_)
 ·(intro x c st1 _ hx q_; obtain ⟨kp1,out,i,j,g,rfl,M,hi,hj,hn⟩ := q_)
  dsimp only
  -- one by one
  refine Au (Ge (Eb
   (I:=λ_ c st'=>st'=st1/\∃out i j ac bc,c=(none,out,i,j,ac,bc)/\LI blt p q out i j/\i+1<p.size/\j<q.size/\x+1<=i+j)
   (Q:=λc st'=>st'=st1/\((∃r Gf,c=(some r,Gf)/\jK blt p q r)\/∃out i j ac bc,c=(none,out,i,j,ac,bc)/\LI blt p q out i j/\i+1<p.size/\j<q.size/\x+1<=i+j)) ?_ ?_ ⟨rfl,out,i,j,0,0,rfl,M,hi,hj,hn⟩) ?_)
  ·(intro z c st2 _ hz q_; obtain ⟨rfl,out,i,j,ac,bc,rfl,M,hi,hj,hn⟩ := q_)
   dsimp only
   obtain ⟨yy,hy⟩:=Es (p:=q) hj
   obtain ⟨xx,hx⟩:=Es (p:=p) (i:=i) (by omega)
   refine Au (Eo hy ?_)
   refine Au (Eo hx ?_)
   refine Au (fG C (kp1.kind.trans hk) (T.oq yy (Hv hy)) (T.op xx (Hv hx)) ?_)
   dsimp only
   cases hb:blt yy xx with
   | true =>
    rw[if_pos rfl]
    refine Au (Eo hy ?_)
    have M1:LI blt p q (out.push yy) i (j+1):=by
     have:=M.pushY T.sq (Dz hy) (Mr C T.sp (Dz hx) (C.ofLt hb))
     rw[<- Lk] at this
     exact this
    by_cases e1:j+1=q.size
    ·rw[if_pos (by rw[e1]; exact beq_self_eq_true _)]
     exact Bc ⟨rfl,.inl ⟨_,_,rfl,T.done_end M1 (by omega)⟩⟩
    ·rw[if_neg (λz=>e1 (Di z))]
     split
     ·exact Bc ⟨rfl,.inr ⟨_,_,_,_,_,rfl,M1,hi,by omega,by omega⟩⟩
     ·exact Bc ⟨rfl,_,_,_,_,_,rfl,M1,hi,by omega,by omega⟩
   | false =>
    rw[if_neg Cb]
    refine Au (Eo hx ?_)
    have M1:LI blt p q (out.push xx) (i+1) j:=by
     have:=M.pushX T.sp (Dz hx) (Mr C T.sq (Dz hy) hb)
     rw[<- Lk] at this
     exact this
    by_cases e1:i+1+1=p.size
    ·rw[if_pos (by rw[e1]; exact beq_self_eq_true _)]
     exact Bc ⟨rfl,.inl ⟨_,_,rfl,T.last_end C M1 (by omega)⟩⟩
    ·rw[if_neg (λz=>e1 (Di z))]
     split
     ·exact Bc ⟨rfl,.inr ⟨_,_,_,_,_,rfl,M1,by omega,hj,by omega⟩⟩
     ·exact Bc ⟨rfl,_,_,_,_,_,rfl,M1,by omega,hj,by omega⟩
  ·(intro c st2 q_; obtain ⟨rfl,out,i,j,ac,bc,rfl,M⟩ := q_)
   exact ⟨rfl,.inr ⟨out,i,j,ac,bc,rfl,M⟩⟩
  ·rintro c st2 ⟨rfl,hc⟩
   rcases hc with hc | hc
   ·obtain ⟨r,Gf,rfl,hr⟩:=hc
    exact Bc ⟨kp1,r,_,rfl,hr⟩
   ·obtain ⟨out,i,j,ac,bc,rfl,M,hi,hj,hn⟩:=hc
    dsimp only
    refine Au (Px ?_)
    -- the gallop
    refine Au (Ge (Eb
     (I:=λy c st'=>Kept st st'/\∃out i j g ac bc,c=(none,out,i,j,g,ac,bc)/\LI blt p q out i j/\i+1<p.size/\j<q.size/\(if y=0 then x+1<=i+j else x+2<=i+j))
     (Q:=λc st'=>Kept st st'/\((∃r Gf,c=(some r,Gf)/\jK blt p q r)\/∃out i j g ac bc,c=(none,out,i,j,g,ac,bc)/\LI blt p q out i j/\i+1<p.size/\j<q.size/\x+2<=i+j)) ?_ ?_
     ⟨kp1,out,i,j,_,ac,bc,rfl,M,hi,hj,by rw[if_pos rfl]; exact hn⟩) ?_)
    ·(intro y c Oh _ hy q_; obtain ⟨kp3,out,i,j,g,ac,bc,rfl,M,hi,hj,hn⟩ := q_)
     have hn':x+1<=i+j:=by split at hn <;> omega
     have key:∀g',wpS (model prog w) A E s (x9 p q out i j g' ac bc) (O2 blt p q st (x+1)) Oh:=λg'=>vX C T kp3 (kp3.kind.trans hk) M hi hj hn'
     dsimp only
     refine Ge (?_:wpS (model prog w) A E s _ (O2 blt p q st (x+1)) Oh) λr st4 hr=>?_
     ·by_cases hg:g > 1
      ·rw[if_pos hg]
       exact key _
      ·rw[if_neg hg]
       exact key _
     ·obtain ⟨kp4,hr⟩:=hr
      match r,hr with
      | .done (some r,Gf),hr=>exact ⟨kp4,.inl ⟨r,Gf,rfl,hr⟩⟩
      | .done (none,out,i,j,g,ac,bc),hr=>exact ⟨kp4,.inr ⟨out,i,j,g,ac,bc,rfl,hr.1,hr.2.1,hr.2.2.1,by have:=hr.2.2.2; omega⟩⟩
      | .yield (none,out,i,j,g,ac,bc),hr=>exact ⟨kp4,out,i,j,g,ac,bc,rfl,hr.1,hr.2.1,hr.2.2.1,by rw[if_neg (by omega)]; have:=hr.2.2.2; omega⟩
    ·(intro c Oh q_; obtain ⟨kp3,out,i,j,g,ac,bc,rfl,M,hi,hj,hn⟩ := q_)
     rw[if_neg (by omega)] at hn
     exact ⟨kp3,.inr ⟨out,i,j,g,ac,bc,rfl,M,hi,hj,hn⟩⟩
    ·rintro c Oh ⟨kp3,hc⟩
     rcases hc with hc | hc
     ·obtain ⟨r,Gf,rfl,hr⟩:=hc
      exact Bc ⟨kp3,r,_,rfl,hr⟩
     ·obtain ⟨out,i,j,g,ac,bc,rfl,M,hi,hj,hn⟩:=hc
      dsimp only
      refine Au (Py λst4 kp4=>?_)
      exact Bc ⟨kp3.trans kp4,out,i,j,_,rfl,M,hi,hj,by omega⟩
 ·(intro c st1 q_; obtain ⟨kp1,out,i,j,g,rfl,M,hi,hj,hn⟩ := q_)
  exfalso
  have : max 0 (p.size+q.size)=p.size+q.size:=by omega
  rw[this] at hn
  omega
 ·(intro c st1 q_; obtain ⟨kp1,r,Gf,rfl,hr⟩ := q_)
  exact Bc (h r st1 kp1 hr)
end
def fJ:Array Keyed->Array Keyed->StateT Bo Sem (Array Keyed):=sortPriv% PySem.Builtin.mergeHi
abbrev i5(p q out:Array Keyed)(m n:Nat):Array Keyed:=p.extract 0 m++q.extract 0 n++out.reverse
abbrev P8(p q out:Array Keyed)(m n:Nat):Array Keyed:=q.extract 0 n++p.extract 0 m++out.reverse
abbrev uN:=Option (Array Keyed)×Nat×Nat×Array Keyed×Nat×Nat×Nat
def wQ(p q out:Array Keyed)(m n g ac k:Nat):StateT Bo Sem (ForInStep uN):=do
 let x <- elem' p (m - 1)
 if (m - 1 == 0)=true then pure (Cj (some (i5 p q (out.push x) (m - 1) n),m - 1,n,out.push x,g,ac,k))
 else if (decide (ac<7) && decide (k<7))=true then pure (Cj (none,m - 1,n,out.push x,g,ac,k))
 else pure (Ef (none,m - 1,n,out.push x,g,ac,k))
def wW(p q out:Array Keyed)(m n g ac bc:Nat):StateT Bo Sem (ForInStep uN):=do
 let y <- elem' q (n - 1)
 if (n - 1 == 1)=true then pure (Cj (some (P8 p q (out.push y) m (n - 1)),m,n - 1,out.push y,g,ac,bc))
 else do
  let x <- elem' p (m - 1)
  let some t <- Pw true x q 0 (n - 1) (n - 1 - 1) | pure (Cj (some (i5 p q (out.push y) m (n - 1)),m,n - 1,out.push y,g,ac,bc))
  if n - 1 - t > 0 then
   if (t == 1)=true then pure (Cj (some (P8 p q (out.push y++(q.extract t (n - 1)).reverse) m t),m,t,out.push y++(q.extract t (n - 1)).reverse,g,ac,n - 1 - t))
   else if (t == 0)=true then pure (Cj (some (i5 p q (out.push y++(q.extract t (n - 1)).reverse) m t),m,t,out.push y++(q.extract t (n - 1)).reverse,g,ac,n - 1 - t))
   else wQ p q (out.push y++(q.extract t (n - 1)).reverse) m t g ac (n - 1 - t)
  else wQ p q (out.push y) m (n - 1) g ac (n - 1 - t)
def zK(p q out:Array Keyed)(m n g ac bc:Nat):StateT Bo Sem (ForInStep uN):=do
 Vp g
 let y <- elem' q (n - 1)
 let some t <- Pw false y p 0 m (m - 1) | pure (Cj (some (i5 p q out m n),m,n,out,g,ac,bc))
 if m - t > 0 then
  if (t == 0)=true then pure (Cj (some (i5 p q (out++(p.extract t m).reverse) t n),t,n,out++(p.extract t m).reverse,g,m - t,bc))
  else wW p q (out++(p.extract t m).reverse) t n g (m - t) bc
 else wW p q out m n g (m - t) bc
section
variable{α:Type}{R:α->α->Prop}{xs ys out:List α}{i j:Nat}
theorem MI.swap(M:MI R xs ys out i j):MI R ys xs out j i:=⟨M.perm.trans Fg,M.srt,M.ly,M.lx⟩
theorem MI.endXY(M:MI R xs ys out i j)(sx:xs.Pairwise R)(sy:ys.Pairwise R)(h:∀x∈xs.drop i,∀y∈ys.drop j,R x y):(out++xs.drop i++ys.drop j).Perm (xs++ys)/\(out++xs.drop i++ys.drop j).Pairwise R:=by
 have:=M.swap.endYX sy sx h
 exact ⟨this.1.trans Fg,this.2⟩
end
abbrev ge(blt:Keyed->Keyed->Bool)(x y:Keyed):Prop:=le blt y x
abbrev HI(blt:Keyed->Keyed->Bool)(p q out:Array Keyed)(m n:Nat):Prop:=MI (ge blt) p.toList.reverse q.toList.reverse out.toList (p.size - m) (q.size - n)
theorem Hw(p:Array Keyed){m:Nat}(h:m<=p.size):p.toList.reverse.drop (p.size - m)=(p.toList.take m).reverse:=by
 rw[List.drop_reverse,Av]
 congr 2
 omega
theorem tO{p:Array Keyed}{m:Nat}{x:Keyed}(h0:0<m)(h:m<=p.size)(e:p[m - 1]? = some x):p.toList.reverse[p.size - m]? = some x:=by
 rw[Qo (by rw[Av]; omega),Av,show p.size - 1 - (p.size - m)=m - 1 by omega]
 exact Dz e
theorem uY(p:Array Keyed)(m:Nat):(p.extract 0 m).toList=p.toList.take m:=by
 rw[Lf,Jg,Hl,Nat.sub_zero]
theorem B9(p:Array Keyed){t m:Nat}(h1:t<=m)(h2:m<=p.size):(p.extract t m).reverse.toList=(p.toList.reverse.drop (p.size - m)).take (m - t):=by
 rw[Hw p h2,List.take_reverse,Rb,Lf,Jg,Cn,Av,List.drop_take]
 congr 2
 ·omega
 ·congr 1
  omega
section
variable{prog:Bx}{w:World}{A:Cs}{s:Aj}{kd:Kd}{Ok:Keyed->Prop}{blt:Keyed->Keyed->Bool}{E:Value->Aj->Prop}
theorem Hx{l:List Keyed}(h:l.Pairwise (le blt)):l.reverse.Pairwise (ge blt):=Qn.mpr h
theorem Two.dn_end{p q out:Array Keyed}{x0 y0 xl:Keyed}(T:Two Ok blt p q x0 y0 xl){m n:Nat}(M:HI blt p q out m n)(hm:m<=p.size)(hn:n<=q.size)(h:m=0\/n=0):jK blt p q (i5 p q out m n):=by
 have h1:=M.endYX (Hx T.sp) (Hx T.sq) (λy hy x hx=>by
  rw[Hw p hm] at hx
  rw[Hw q hn] at hy
  rcases h with h | h
  ·subst h; simp at hx
  ·subst h; simp at hy)
 rw[Hw p hm,Hw q hn] at h1
 have e:(i5 p q out m n).toList=(out.toList++(q.toList.take n).reverse++(p.toList.take m).reverse).reverse:=by
  rw[Dc,Dc,uY,uY,Rb]
  simp
 refine ⟨?_,?_⟩
 ·rw[e]
  refine (Ih _).trans (h1.1.trans ?_)
  exact List.Perm.append (Ih _) (Ih _)
 ·rw[e]
  exact Qn.mpr h1.2
theorem Two.fs_end(C:Cmp prog w A s kd Ok blt){p q out:Array Keyed}{x0 y0 xl:Keyed}(T:Two Ok blt p q x0 y0 xl){m n:Nat}(M:HI blt p q out m n)(hm:m<=p.size)(hn:n=1)(hq:1<=q.size):jK blt p q (P8 p q out m n):=by
 subst hn
 have h1:=M.endXY (Hx T.sp) (Hx T.sq) (λx hx y hy=>by
  rw[Hw p hm] at hx
  rw[Hw q hq] at hy
  have ey:y=y0:=by
   have : y∈q.toList.take 1:=Oq.mp hy
   obtain ⟨k,hk,e⟩:=Gp.mp this
   have hk0:k=0:=by
    rw[Cn] at hk
    omega
   subst hk0
   have e2:q.toList[0]? = some y:=by
    rw[<- e,<- Bs hk,Ha (by omega)]
   rw[Dz T.hy0] at e2
   exact (Be e2).symm
  rw[ey]
  have hx':x∈p.toList:=List.mem_of_mem_take (Oq.mp hx)
  obtain ⟨k,hk,e⟩:=Gp.mp hx'
  have e2:p.toList[k]? = some x:=by rw[<- e,Bs hk]
  exact C.trans (C.ofLt T.first) (Jn C T.sp (Dl k) (Dz T.hx0) e2))
 rw[Hw p hm,Hw q hq] at h1
 have e:(P8 p q out m 1).toList=(out.toList++(p.toList.take m).reverse++(q.toList.take 1).reverse).reverse:=by
  rw[Dc,Dc,uY,uY,Rb]
  simp
 refine ⟨?_,?_⟩
 ·rw[e]
  refine (Ih _).trans (h1.1.trans ?_)
  exact List.Perm.append (Ih _) (Ih _)
 ·rw[e]
  exact Qn.mpr h1.2
theorem Pu(C:Cmp prog w A s kd Ok blt){p:Array Keyed}(sp:p.toList.Pairwise (le blt)){m:Nat}{x y:Keyed}(h0:0<m)(hm:m<=p.size)(hx:p[m - 1]? = some x)(h:le blt x y):∀z∈p.toList.reverse.drop (p.size - m),ge blt y z:=λz hz=>by
 rw[Hw p hm] at hz
 obtain ⟨k,hk,e⟩:=Gp.mp (Oq.mp hz)
 have e2:p.toList[k]? = some z:=by
  rw[Cn] at hk
  rw[<- e,<- Bs (by rw[Cn]; exact hk),Ha (by omega)]
 rw[Cn] at hk
 exact C.trans (Jn C sp (by omega) e2 (Dz hx)) h
theorem HI.pushX(C:Cmp prog w A s kd Ok blt){p q out:Array Keyed}{x0 y0 xl:Keyed}(T:Two Ok blt p q x0 y0 xl){m n:Nat}(M:HI blt p q out m n)(h0:0<m)(hm:m<=p.size){x:Keyed}(hx:p[m - 1]? = some x)(h:∀z∈q.toList.reverse.drop (q.size - n),ge blt x z):HI blt p q (out.push x) (m - 1) n:=by
 have:=MI.pushX M (Hx T.sp) (tO h0 hm hx) h
 rw[<- Lk,show p.size - m+1=p.size - (m - 1) by omega] at this
 exact this
theorem HI.pushY(C:Cmp prog w A s kd Ok blt){p q out:Array Keyed}{x0 y0 xl:Keyed}(T:Two Ok blt p q x0 y0 xl){m n:Nat}(M:HI blt p q out m n)(h0:0<n)(hn:n<=q.size){y:Keyed}(hy:q[n - 1]? = some y)(h:∀z∈p.toList.reverse.drop (p.size - m),ge blt y z):HI blt p q (out.push y) m (n - 1):=by
 have:=MI.pushY M (Hx T.sq) (tO h0 hn hy) h
 rw[<- Lk,show q.size - n+1=q.size - (n - 1) by omega] at this
 exact this
def K2(blt:Keyed->Keyed->Bool)(p q:Array Keyed)(st:Bo)(b:Nat)(r:ForInStep uN)(st':Bo):Prop:=Kept st st'/\match r with
 | .done (some r,_)=>jK blt p q r
 | .done (none,m,n,out,_)=>HI blt p q out m n/\0<m/\m<=p.size/\1<n/\n<=q.size/\m+n<b
 | .yield (none,m,n,out,_)=>HI blt p q out m n/\0<m/\m<=p.size/\1<n/\n<=q.size/\m+n<b
 | .yield (some _,_)=>False
theorem lD(C:Cmp prog w A s kd Ok blt){p q out:Array Keyed}{x0 y0 xl:Keyed}(T:Two Ok blt p q x0 y0 xl){m n g ac k b:Nat}{st0 st:Bo}(kp:Kept st0 st)(M:HI blt p q out m n)(m0:0<m)(hm:m<=p.size)(n0:1<n)(hn:n<=q.size)(hb:m+n<=b){x:Keyed}(hx:p[m - 1]? = some x)(hq:∀z∈q.toList.reverse.drop (q.size - n),ge blt x z):wpS (model prog w) A E s (wQ p q out m n g ac k) (K2 blt p q st0 b) st:=by
 unfold wQ
 refine Au (Eo hx ?_)
 have M1:=HI.pushX C T M m0 hm hx hq
 by_cases h1:m - 1=0
 ·rw[if_pos (by rw[h1]; rfl)]
  exact Bc ⟨kp,T.dn_end M1 (by omega) hn (.inl h1)⟩
 ·rw[if_neg (λz=>h1 (Di z))]
  by_cases h2:(decide (ac<7) && decide (k<7))=true
  ·rw[if_pos h2]
   exact Bc ⟨kp,M1,by omega,by omega,n0,hn,by omega⟩
  ·rw[if_neg h2]
   exact Bc ⟨kp,M1,by omega,by omega,n0,hn,by omega⟩
theorem lV(C:Cmp prog w A s kd Ok blt){p q out:Array Keyed}{x0 y0 xl:Keyed}(T:Two Ok blt p q x0 y0 xl){m n g ac bc b:Nat}{st0 st:Bo}(kp:Kept st0 st)(hk:kindOf st=kd)(M:HI blt p q out m n)(m0:0<m)(hm:m<=p.size)(n0:1<n)(hn:n<=q.size)(hb:m+n<=b){x y:Keyed}(hx:p[m - 1]? = some x)(hy:q[n - 1]? = some y)(hxy:le blt x y):wpS (model prog w) A E s (wW p q out m n g ac bc) (K2 blt p q st0 b) st:=by
 unfold wW
 refine Au (Eo hy ?_)
 have M1:=HI.pushY C T M (by omega) hn hy (Pu C T.sp m0 hm hx hxy)
 by_cases h1:n - 1=1
 ·rw[if_pos (by rw[h1]; rfl)]
  exact Bc ⟨kp,T.fs_end C M1 hm h1 (by omega)⟩
 rw[if_neg (λz=>h1 (Di z))]
 refine Au (Eo hx ?_)
 have val:∀i yy,q[i]? = some yy->q.getD (0+i) y=yy:=λi yy e=>by rw[Qi]; simp [Dk,e]
 have R:Row Ok q 0 (n - 1) (λi=>q.getD (0+i) y):=⟨λi hi=>by
  obtain ⟨ya,ea⟩:=Es (p:=q) (i:=i) (by omega)
  rw[val i ya ea,Qi,ea],λi hi=>by
  obtain ⟨ya,ea⟩:=Es (p:=q) (i:=i) (by omega)
  show Ok (q.getD (0+i) y)
  rw[val i ya ea]
  exact T.oq ya (Hv ea)⟩
 refine Au (Ll C R (T.op x (Hv hx)) hk (by omega) (λa c hab hc q1=>?_) λt ht t1 t2=>?_)
 ·obtain ⟨ya,ea⟩:=Es (p:=q) (i:=a) (by omega)
  obtain ⟨yc,ec⟩:=Es (p:=q) (i:=c) (by omega)
  simp only[val a ya ea,val c yc ec,Fx,if_true] at q1 ⊢
  exact C.leLt (Jn C T.sq hab (Dz ea) (Dz ec)) q1
 dsimp only
 have M2:HI blt p q (out.push y++(q.extract t (n - 1)).reverse) m t:=by
  have:=MI.blockY M1 (Hx T.sq) (n - 1 - t) (by rw[List.length_reverse,Av]; omega) (λi hi yy ey=>by
   have e1:q[n - 1 - i - 1]? = some yy:=by
    rw[Qo (by rw[Av]; omega),Av,show q.size - 1 - (q.size - (n - 1)+i)=n - 1 - i - 1 by omega] at ey
    simpa using ey
   have:=t2 (n - 1 - i - 1) (by omega) (by omega)
   rw[val _ yy e1] at this
   have z:blt yy x=false:=by simpa only [Fx,if_true] using this
   exact Pu C T.sp m0 hm hx z)
  rw[<- B9 q (by omega) (by omega),<- Dc,show q.size - (n - 1)+(n - 1 - t)=q.size - t by omega] at this
  exact this
 -- what is left of q is below x
 have below:∀z∈q.toList.reverse.drop (q.size - t),ge blt x z:=λz hz=>by
  rw[Hw q (by omega)] at hz
  obtain ⟨k,hk',e⟩:=Gp.mp (Oq.mp hz)
  rw[Cn] at hk'
  have e2:q.toList[k]? = some z:=by
   rw[<- e,<- Bs (by rw[Cn]; exact hk'),Ha (by omega)]
  have e3:q[k]? = some z:=by simpa using e2
  have:=t1 k (by omega)
  rw[val k z e3] at this
  exact C.ofLt (by simpa only [Fx,if_true] using this)
 by_cases h2:n - 1 - t > 0
 ·rw[if_pos h2]
  by_cases h3:t=1
  ·rw[if_pos (by rw[h3]; rfl)]
   exact Bc ⟨kp,T.fs_end C M2 hm h3 (by omega)⟩
  ·rw[if_neg (λz=>h3 (Di z))]
   by_cases h4:t=0
   ·rw[if_pos (by rw[h4]; rfl)]
    exact Bc ⟨kp,T.dn_end M2 hm (by omega) (.inr h4)⟩
   ·rw[if_neg (λz=>h4 (Di z))]
    exact lD C T kp M2 m0 hm (by omega) (by omega) (by omega) hx below
 ·rw[if_neg h2]
  have et:t=n - 1:=by omega
  rw[et] at below
  exact lD C T kp M1 m0 hm (by omega) (by omega) (by omega) hx below
theorem wV(C:Cmp prog w A s kd Ok blt){p q out:Array Keyed}{x0 y0 xl:Keyed}(T:Two Ok blt p q x0 y0 xl){m n g ac bc b:Nat}{st0 st:Bo}(kp:Kept st0 st)(hk:kindOf st=kd)(M:HI blt p q out m n)(m0:0<m)(hm:m<=p.size)(n0:1<n)(hn:n<=q.size)(hb:m+n<=b):wpS (model prog w) A E s (zK p q out m n g ac bc) (K2 blt p q st0 b) st:=by
 unfold zK
 refine Au (Py λst1 kp1=>?_)
 have kp':=kp.trans kp1
 have hk':kindOf st1=kd:=kp1.kind.trans hk
 obtain ⟨y,hy⟩:=Es (p:=q) (i:=n - 1) (by omega)
 refine Au (Eo hy ?_)
 have val:∀i xx,p[i]? = some xx->p.getD (0+i) y=xx:=λi xx e=>by rw[Qi]; simp [Dk,e]
 have R:Row Ok p 0 m (λi=>p.getD (0+i) y):=⟨λi hi=>by
  obtain ⟨xa,ea⟩:=Es (p:=p) (i:=i) (by omega)
  rw[val i xa ea,Qi,ea],λi hi=>by
  obtain ⟨xa,ea⟩:=Es (p:=p) (i:=i) (by omega)
  show Ok (p.getD (0+i) y)
  rw[val i xa ea]
  exact T.op xa (Hv ea)⟩
 refine Au (Ll C R (T.oq y (Hv hy)) hk' (by omega) (λa c hab hc q1=>?_) λt ht t1 t2=>?_)
 ·obtain ⟨xa,ea⟩:=Es (p:=p) (i:=a) (by omega)
  obtain ⟨xc,ec⟩:=Es (p:=p) (i:=c) (by omega)
  simp only[val a xa ea,val c xc ec,Fx,Cz,if_false,Ij] at q1 ⊢
  exact C.trans (Jn C T.sp hab (Dz ea) (Dz ec)) q1
 dsimp only
 have M1:HI blt p q (out++(p.extract t m).reverse) t n:=by
  have:=MI.blockX M (Hx T.sp) (m - t) (by rw[List.length_reverse,Av]; omega) (λi hi xx ex=>by
   have e1:p[m - i - 1]? = some xx:=by
    rw[Qo (by rw[Av]; omega),Av,show p.size - 1 - (p.size - m+i)=m - i - 1 by omega] at ex
    simpa using ex
   have:=t2 (m - i - 1) (by omega) (by omega)
   rw[val _ xx e1] at this
   have z:blt y xx=true:=by simpa only [Fx,Cz,if_false,Um] using this
   exact Pu C T.sq (by omega) hn hy (C.ofLt z))
  rw[<- B9 p (by omega) hm,<- Dc,show p.size - m+(m - t)=p.size - t by omega] at this
  exact this
 have below:∀x,0<t->p[t - 1]? = some x->le blt x y:=λx h0 hx=>by
  have:=t1 (t - 1) (by omega)
  rw[val _ x hx] at this
  have z:blt y x=false:=by simpa only [Fx,Cz,if_false,Ij] using this
  exact z
 by_cases h2:m - t > 0
 ·rw[if_pos h2]
  by_cases h3:t=0
  ·rw[if_pos (by rw[h3]; rfl)]
   exact Bc ⟨kp',T.dn_end M1 (by omega) hn (.inl h3)⟩
  ·rw[if_neg (λz=>h3 (Di z))]
   obtain ⟨x,hx⟩:=Es (p:=p) (i:=t - 1) (by omega)
   exact lV C T kp' hk' M1 (by omega) (by omega) n0 hn (by omega) hx hy (below x (by omega) hx)
 ·rw[if_neg h2]
  have et:t=m:=by omega
  subst et
  obtain ⟨x,hx⟩:=Es (p:=p) (i:=t - 1) (by omega)
  exact lV C T kp' hk' M m0 hm n0 hn hb hx hy (below x m0 hx)
theorem gX(C:Cmp prog w A s kd Ok blt){p q:Array Keyed}{x0 y0 xl:Keyed}(T:Two Ok blt p q x0 y0 xl){st:Bo}(hk:kindOf st=kd){Q:Array Keyed->Bo->Prop}(h:∀r st',Kept st st'->jK blt p q r->Q r st'):wpS (model prog w) A E s (fJ p q) Q st:=by
 have p0:0<p.size:=(Iw.mp T.hx0).1
 have q0:0<q.size:=(Iw.mp T.hy0).1
 obtain ⟨yl,hyl⟩:=Es (p:=q) (i:=q.size - 1) (by omega)
 have M0:HI blt p q #[xl] (p.size - 1) q.size:=by
  have m:HI blt p q #[] p.size q.size:=⟨by simp,by simp,λo ho=>by simp at ho,λo ho=>by simp at ho⟩
  have:=HI.pushX C T m p0 (Ai _) T.hxl (Pu C T.sq q0 (Ai _) hyl (C.ofLt (T.last yl (Hv hyl))))
  simpa using this
 unfold fJ
 refine Au (Px ?_)
 refine Au (Eo T.hxl ?_)
 dsimp only
 by_cases h1:p.size - 1=0
 ·rw[if_pos (by rw[h1]; rfl)]
  exact Bc (h _ _ (Kept.refl _) (T.dn_end M0 (by omega) (by omega) (.inl h1)))
 rw[if_neg (λz=>h1 (Di z))]
 by_cases h2:q.size=1
 ·rw[if_pos (by rw[h2]; rfl)]
  exact Bc (h _ _ (Kept.refl _) (T.fs_end C M0 (by omega) h2 (by omega)))
 rw[if_neg (λz=>h2 (Di z))]
 refine Au (Lb ?_)
 refine Au (Ge (Eb
  (I:=λx c st'=>Kept st st'/\∃m n out g,c=(none,m,n,out,g)/\HI blt p q out m n/\0<m/\m<=p.size/\1<n/\n<=q.size/\m+n+x+1<=p.size+q.size)
  (Q:=λc st'=>Kept st st'/\∃r Gf,c=(some r,Gf)/\jK blt p q r) ?_ ?_ ⟨Kept.refl _,_,_,_,_,rfl,M0,by omega,by omega,by omega,by omega,by omega⟩) ?_)
 ·(intro x c st1 _ hx q_; obtain ⟨kp1,m,n,out,g,rfl,M,m0,hm,n0,hn,hb⟩ := q_)
  dsimp only
  -- one by one
  refine Au (Ge (Eb
   (I:=λ_ c st'=>st'=st1/\∃m n out ac bc,c=(none,m,n,out,ac,bc)/\HI blt p q out m n/\0<m/\m<=p.size/\1<n/\n<=q.size/\m+n+x+1<=p.size+q.size)
   (Q:=λc st'=>st'=st1/\((∃r Gf,c=(some r,Gf)/\jK blt p q r)\/∃m n out ac bc,c=(none,m,n,out,ac,bc)/\HI blt p q out m n/\0<m/\m<=p.size/\1<n/\n<=q.size/\m+n+x+1<=p.size+q.size)) ?_ ?_ ⟨rfl,m,n,out,0,0,rfl,M,m0,hm,n0,hn,hb⟩) ?_)
  ·(intro z c st2 _ hz q_; obtain ⟨rfl,m,n,out,ac,bc,rfl,M,m0,hm,n0,hn,hb⟩ := q_)
   dsimp only
   obtain ⟨yy,hy⟩:=Es (p:=q) (i:=n - 1) (by omega)
   obtain ⟨xx,hx⟩:=Es (p:=p) (i:=m - 1) (by omega)
   refine Au (Eo hy ?_)
   refine Au (Eo hx ?_)
   refine Au (fG C (kp1.kind.trans hk) (T.oq yy (Hv hy)) (T.op xx (Hv hx)) ?_)
   dsimp only
   cases hlt:blt yy xx with
   | true =>
    rw[if_pos rfl]
    refine Au (Eo hx ?_)
    have M1:=HI.pushX C T M m0 hm hx (Pu C T.sq (by omega) hn hy (C.ofLt hlt))
    by_cases e1:m - 1=0
    ·rw[if_pos (by rw[e1]; rfl)]
     exact Bc ⟨rfl,.inl ⟨_,_,rfl,T.dn_end M1 (by omega) hn (.inl e1)⟩⟩
    ·rw[if_neg (λz=>e1 (Di z))]
     split
     ·exact Bc ⟨rfl,.inr ⟨_,_,_,_,_,rfl,M1,by omega,by omega,n0,hn,by omega⟩⟩
     ·exact Bc ⟨rfl,_,_,_,_,_,rfl,M1,by omega,by omega,n0,hn,by omega⟩
   | false =>
    rw[if_neg Cb]
    refine Au (Eo hy ?_)
    have M1:=HI.pushY C T M (by omega) hn hy (Pu C T.sp m0 hm hx hlt)
    by_cases e1:n - 1=1
    ·rw[if_pos (by rw[e1]; rfl)]
     exact Bc ⟨rfl,.inl ⟨_,_,rfl,T.fs_end C M1 hm e1 (by omega)⟩⟩
    ·rw[if_neg (λz=>e1 (Di z))]
     split
     ·exact Bc ⟨rfl,.inr ⟨_,_,_,_,_,rfl,M1,m0,hm,by omega,by omega,by omega⟩⟩
     ·exact Bc ⟨rfl,_,_,_,_,_,rfl,M1,m0,hm,by omega,by omega,by omega⟩
  ·(intro c st2 q_; obtain ⟨rfl,m,n,out,ac,bc,rfl,M⟩ := q_)
   exact ⟨rfl,.inr ⟨m,n,out,ac,bc,rfl,M⟩⟩
  ·rintro c st2 ⟨rfl,hc⟩
   rcases hc with hc | hc
   ·obtain ⟨r,Gf,rfl,hr⟩:=hc
    exact Bc ⟨kp1,r,_,rfl,hr⟩
   ·obtain ⟨m,n,out,ac,bc,rfl,M,m0,hm,n0,hn,hb⟩:=hc
    dsimp only
    refine Au (Px ?_)
    -- the gallop
    refine Au (Ge (Eb
     (I:=λy c st'=>Kept st st'/\∃m n out g ac bc,c=(none,m,n,out,g,ac,bc)/\HI blt p q out m n/\0<m/\m<=p.size/\1<n/\n<=q.size/\(if y=0 then m+n+x+1<=p.size+q.size else m+n+x+2<=p.size+q.size))
     (Q:=λc st'=>Kept st st'/\((∃r Gf,c=(some r,Gf)/\jK blt p q r)\/∃m n out g ac bc,c=(none,m,n,out,g,ac,bc)/\HI blt p q out m n/\0<m/\m<=p.size/\1<n/\n<=q.size/\m+n+x+2<=p.size+q.size)) ?_ ?_
     ⟨kp1,m,n,out,_,ac,bc,rfl,M,m0,hm,n0,hn,by rw[if_pos rfl]; exact hb⟩) ?_)
    ·(intro y c Oh _ hy q_; obtain ⟨kp3,m,n,out,g,ac,bc,rfl,M,m0,hm,n0,hn,hb⟩ := q_)
     have hb':m+n+x+1<=p.size+q.size:=by split at hb <;> omega
     have key:∀g',wpS (model prog w) A E s (zK p q out m n g' ac bc) (K2 blt p q st (m+n)) Oh:=λg'=>wV C T kp3 (kp3.kind.trans hk) M m0 hm n0 hn (Ai _)
     dsimp only
     refine Ge (?_:wpS (model prog w) A E s _ (K2 blt p q st (m+n)) Oh) λr st4 hr=>?_
     ·by_cases hg:g > 1
      ·rw[if_pos hg]
       exact key _
      ·rw[if_neg hg]
       exact key _
     ·obtain ⟨kp4,hr⟩:=hr
      match r,hr with
      | .done (some r,Gf),hr=>exact ⟨kp4,.inl ⟨r,Gf,rfl,hr⟩⟩
      | .done (none,m',n',out',g',ac',bc'),hr=>exact ⟨kp4,.inr ⟨m',n',out',g',ac',bc',rfl,hr.1,hr.2.1,hr.2.2.1,hr.2.2.2.1,hr.2.2.2.2.1,by have:=hr.2.2.2.2.2; omega⟩⟩
      | .yield (none,m',n',out',g',ac',bc'),hr=>exact ⟨kp4,m',n',out',g',ac',bc',rfl,hr.1,hr.2.1,hr.2.2.1,hr.2.2.2.1,hr.2.2.2.2.1,by rw[if_neg (by omega)]; have:=hr.2.2.2.2.2; omega⟩
    ·(intro c Oh q_; obtain ⟨kp3,m,n,out,g,ac,bc,rfl,M,m0,hm,n0,hn,hb⟩ := q_)
     rw[if_neg (by omega)] at hb
     exact ⟨kp3,.inr ⟨m,n,out,g,ac,bc,rfl,M,m0,hm,n0,hn,hb⟩⟩
    ·rintro c Oh ⟨kp3,hc⟩
     rcases hc with hc | hc
     ·obtain ⟨r,Gf,rfl,hr⟩:=hc
      exact Bc ⟨kp3,r,_,rfl,hr⟩
     ·obtain ⟨m,n,out,g,ac,bc,rfl,M,m0,hm,n0,hn,hb⟩:=hc
      dsimp only
      refine Au (Py λst4 kp4=>?_)
      exact Bc ⟨kp3.trans kp4,m,n,out,_,rfl,M,m0,hm,n0,hn,by omega⟩
 ·(intro c st1 q_; obtain ⟨kp1,m,n,out,g,rfl,M,m0,hm,n0,hn,hb⟩ := q_)
  exfalso
  have : max 0 (p.size+q.size)=p.size+q.size:=by omega
  rw[this] at hb
  omega
 ·(intro c st1 q_; obtain ⟨kp1,r,Gf,rfl,hr⟩ := q_)
  exact Bc (h r st1 kp1 hr)
end
def Ze:Nat->Nat->StateT Bo Sem (Option Nat):=sortPriv% PySem.Builtin.countRun
def Up:Nat->Nat->Nat->StateT Bo Sem Bool:=sortPriv% PySem.Builtin.binarySort
def X(xs:Array Keyed)(i:Nat):Keyed:=xs[i]?.getD (Tf,Tf)
theorem Uy{xs:Array Keyed}{i:Nat}(h:i<xs.size):xs[i]? = some (X xs i):=by
 unfold X
 rw[getElem?_pos xs i h]
 rfl
theorem Om{xs ys:Array Keyed}{i j:Nat}(h:xs[i]? = ys[j]?):X xs i=X ys j:=by unfold X; rw[h]
theorem Pl{xs:Array Keyed}{i j:Nat}(hj:j<=xs.size)(k:Nat):X (mirror xs i j ((j - i) / 2)) k=if i<=k/\k<j then X xs (i+j - 1 - k) else X xs k:=by
 have e:=getElem?_mirror_all (i:=i) hj k
 by_cases h:i<=k/\k<j
 ·rw[if_pos h] at e ⊢; exact Om e
 ·rw[if_neg h] at e ⊢; exact Om e
theorem sD{xs:Array Keyed}{src d:Nat}(hs:src<xs.size)(hd:d<=src)(k:Nat):X (bubble xs src d) k=if k=src - d then X xs src else if src - d<k/\k<=src then X xs (k - 1) else X xs k:=by
 have e:=getElem?_bubble hs d hd k
 by_cases h1:k=src - d
 ·rw[if_pos h1] at e ⊢; exact Om e
 ·rw[if_neg h1] at e ⊢
  by_cases h2:src - d<k/\k<=src
  ·rw[if_pos h2] at e ⊢; exact Om e
  ·rw[if_neg h2] at e ⊢; exact Om e
def Oy(blt:Keyed->Keyed->Bool)(xs:Array Keyed)(a b:Nat):Prop:=∀i j,a<=i->i<=j->j<b->le blt (X xs i) (X xs j)
def oT(blt:Keyed->Keyed->Bool)(xs:Array Keyed)(a b:Nat):Prop:=∀i j,a<=i->i<=j->j<b->le blt (X xs j) (X xs i)
structure Good(kd:Kd)(a₀:Array Keyed)(pend:Array (Nat×Nat×Nat))(st:Bo):Prop where
 kind:kindOf st=kd
 fail:Kb st=none
 perm:(arrOf st).Perm a₀
 pd:Ba st=pend
def cP(xs ys:Array Keyed)(a b:Nat):Prop:=∀i,(i<a\/b<=i)->X ys i=X xs i
theorem cP.refl(xs:Array Keyed)(a b:Nat):cP xs xs a b:=λ_ _=>rfl
theorem cP.trans{xs ys zs:Array Keyed}{a b:Nat}(h:cP xs ys a b)(k:cP ys zs a b):cP xs zs a b:=λi hi=>(k i hi).trans (h i hi)
section
variable{prog:Bx}{w:World}{A:Cs}{s:Aj}{kd:Kd}{Ok:Keyed->Prop}{blt:Keyed->Keyed->Bool}{E:Value->Aj->Prop}{a₀:Array Keyed}{pend:Array (Nat×Nat×Nat)}
theorem Good.size{st:Bo}(g:Good kd a₀ pend st):(arrOf st).size=a₀.size:=g.perm.size_eq
theorem Good.okX{st:Bo}(g:Good kd a₀ pend st)(h0:∀x∈a₀.toList,Ok x){i:Nat}(hi:i<a₀.size):Ok (X (arrOf st) i):=by
 have e:=Uy (xs:=arrOf st) (i:=i) (by rw[g.size]; exact hi)
 exact h0 _ ((Mv.mp g.perm).mem_iff.mp (Hv e))
theorem Good.set{st:Bo}(g:Good kd a₀ pend st){xs:Array Keyed}(h:xs.Perm (arrOf st)):Good kd a₀ pend (setArr st xs):=⟨g.kind,g.fail,h.trans g.perm,g.pd⟩
theorem Sh(C:Cmp prog w A s kd Ok blt){st:Bo}(g:Good kd a₀ pend st)(h0:∀x∈a₀.toList,Ok x){i j:Nat}(hi:i<a₀.size)(hj:j<a₀.size){Q:Option Bool->Bo->Prop}(h:Q (some (blt (X (arrOf st) i) (X (arrOf st) j))) st):wpS (model prog w) A E s (ltAt' i j) Q st:=by
 rw[ltAt'_eq]
 refine Au (Lb ?_)
 refine Au (Eo (Uy (by rw[g.size]; exact hi)) ?_)
 refine Au (Eo (Uy (by rw[g.size]; exact hj)) ?_)
 exact fG C g.kind (g.okX h0 hi) (g.okX h0 hj) h
theorem Oe{st:Bo}{i j:Nat}{Q:Unit->Bo->Prop}(h:Q () (setArr st (mirror (arrOf st) i j ((j - i) / 2)))):wpS (model prog w) A E s (Qg i j) Q st:=by
 rw[reverseSlice'_eq]
 exact Hy h
def O5(lo a b:Nat):StateT Bo Sem (Option (Option Nat)×Nat) :=
 forIn [a:b] ((none,a):Option (Option Nat)×Nat) λ_ c=>do
  let some fZ <- ltAt' (lo+c.2) (lo+c.2 - 1) | pure (Cj (some none,c.2))
  if fZ=true then pure (Cj (none,c.2)) else pure (Ef (none,c.2+1))
theorem sG(C:Cmp prog w A s kd Ok blt){st:Bo}(g:Good kd a₀ pend st)(h0:∀x∈a₀.toList,Ok x){lo a b:Nat}(hb:lo+b<=a₀.size)(ha:1<=a)(hab:a<=b)(h1:Oy blt (arrOf st) lo (lo+a)){Q:Option (Option Nat)×Nat->Bo->Prop}(h:∀n,a<=n->n<=b->Oy blt (arrOf st) lo (lo+n)->(n=b\/blt (X (arrOf st) (lo+n)) (X (arrOf st) (lo+n - 1))=true)->Q (none,n) st):wpS (model prog w) A E s (O5 lo a b) Q st:=by
 unfold O5
 refine Eb (I:=λx c st'=>st'=st/\c=(none,x)/\Oy blt (arrOf st) lo (lo+x)) ?_ ?_ ⟨rfl,rfl,h1⟩
 ·(intro x c st' hx1 hx2 q_; obtain ⟨rfl,rfl,hs⟩ := q_)
  dsimp only
  refine Au (Sh C g h0 (by omega) (by omega) ?_)
  dsimp only
  cases hl:blt (X (arrOf st') (lo+x)) (X (arrOf st') (lo+x - 1)) with
  | true =>
   rw[if_pos rfl]
   exact Bc (h x hx1 (by omega) hs (.inr hl))
  | false =>
   rw[if_neg Cb]
   refine Bc ⟨rfl,rfl,λi j hi hij hj=>?_⟩
   by_cases hjx:j<lo+x
   ·exact hs i j hi hij hjx
   ·have ej:j=lo+x:=by omega
    subst ej
    by_cases hi':i=lo+x
    ·subst hi'; exact C.refl _
    ·exact C.trans (hs i (lo+x - 1) hi (by omega) (by omega)) hl
 ·(intro c st' q_; obtain ⟨rfl,rfl,hs⟩ := q_)
  rw[show max a b=b by omega] at hs ⊢
  exact h b hab (Ai _) hs (.inl rfl)
theorem iB{xs:Array Keyed}{lo n:Nat}(hn:lo+n<=xs.size)(h:oT blt xs lo (lo+n)):Oy blt (mirror xs lo (lo+n) ((lo+n - lo) / 2)) lo (lo+n):=λi j hi hij hj=>by
 rw[Pl hn,Pl hn,if_pos (by omega),if_pos (by omega)]
 exact h _ _ (by omega) (by omega) (by omega)
theorem Tv{xs:Array Keyed}{lo n b e:Nat}(hn:lo+n<=xs.size)(he:e<=lo+n)(hb:lo<=b)(h:oT blt xs lo (lo+n))(eqv:∀i j,b<=i->i<e->b<=j->j<e->le blt (X xs i) (X xs j)):oT blt (mirror xs b e ((e - b) / 2)) lo (lo+n):=λi j hi hij hj=>by
 rw[Pl (by omega),Pl (by omega)]
 by_cases h1:b<=j/\j<e
 ·rw[if_pos h1]
  by_cases h2:b<=i/\i<e
  ·rw[if_pos h2]
   exact eqv _ _ (by omega) (by omega) (by omega) (by omega)
  ·rw[if_neg h2]
   exact h _ _ hi (by omega) (by omega)
 ·rw[if_neg h1]
  by_cases h2:b<=i/\i<e
  ·rw[if_pos h2]
   exact h _ _ (by omega) (by omega) (by omega)
  ·rw[if_neg h2]
   exact h i j hi hij hj
theorem Oj{xs:Array Keyed}{a b i j:Nat}(h1:a<=i)(h2:j<=b)(h3:j<=xs.size):cP xs (mirror xs i j ((j - i) / 2)) a b:=λk hk=>by
 rw[Pl h3,if_neg (by omega)]
def sC(lo n b:Nat):StateT Bo Sem (Option Nat):=do
 Qg lo (lo+n)
 let mut m:=n
 for _ in [n:b] do
  let some fZ <- ltAt' (lo+m) (lo+m - 1) | return none
  if fZ then break
  m:=m+1
 return some m
theorem kY(C:Cmp prog w A s kd Ok blt){st:Bo}(g:Good kd a₀ pend st)(h0:∀x∈a₀.toList,Ok x){lo n b:Nat}(hb:lo+b<=a₀.size)(hn:1<=n)(hnb:n<=b)(h1:oT blt (arrOf st) lo (lo+n)){Q:Option Nat->Bo->Prop}(h:∀m st',Good kd a₀ pend st'->1<=m->m<=b->Oy blt (arrOf st') lo (lo+m)->cP (arrOf st) (arrOf st') lo (lo+b)->Q (some m) st'):wpS (model prog w) A E s (sC lo n b) Q st:=by
 unfold sC
 have hsz:lo+n<=(arrOf st).size:=by rw[g.size]; omega
 refine Au (Oe ?_)
 have g':Good kd a₀ pend (setArr st (mirror (arrOf st) lo (lo+n) ((lo+n - lo) / 2))):=g.set (mirror_perm _ _ _ _)
 refine Au (sG C g' h0 hb hn hnb (iB hsz h1) λm hm1 hm2 hs _=>?_)
 exact Bc (h m _ g' (by omega) hm2 hs (Oj (Ai _) (by omega) hsz))
abbrev o6:=Option (Option Nat)×Nat×Nat
def C9(lo a b:Nat):StateT Bo Sem o6 :=
 forIn [a:b] ((none,a,0):o6) λ_ c=>do
  let some fZ <- ltAt' (lo+c.2.1) (lo+c.2.1 - 1) | pure (Cj (some none,c.2.1,c.2.2))
  if fZ=true then
   if c.2.2 > 0 then do
    Qg (lo+c.2.1 - (c.2.2+1)) (lo+c.2.1)
    pure (Ef (none,c.2.1+1,0))
   else pure (Ef (none,c.2.1+1,0))
  else do
   let some more <- ltAt' (lo+c.2.1 - 1) (lo+c.2.1) | pure (Cj (some none,c.2.1,c.2.2))
   if more=true then pure (Cj (none,c.2.1,c.2.2)) else pure (Ef (none,c.2.1+1,c.2.2+1))
def vR(blt:Keyed->Keyed->Bool)(xs:Array Keyed)(lo n e:Nat):Prop:=e+1<=n/\∀i j,lo+n - (e+1)<=i->i<lo+n->lo+n - (e+1)<=j->j<lo+n->le blt (X xs i) (X xs j)
theorem oY(C:Cmp prog w A s kd Ok blt){xs:Array Keyed}{lo n:Nat}(h:1<=n):vR blt xs lo n 0:=⟨by omega,λi j i1 i2 j1 j2=>by
 have e:i=j:=by omega
 subst e
 exact C.refl _⟩
theorem Rz(C:Cmp prog w A s kd Ok blt){xs:Array Keyed}{lo n:Nat}(hn:1<=n)(h:oT blt xs lo (lo+n))(hl:le blt (X xs (lo+n)) (X xs (lo+n - 1))):oT blt xs lo (lo+(n+1)):=λi j hi hij hj=>by
 by_cases hjx:j<lo+n
 ·exact h i j hi hij hjx
 ·have ej:j=lo+n:=by omega
  subst ej
  by_cases hi':i=lo+n
  ·subst hi'; exact C.refl _
  ·exact C.trans hl (h i (lo+n - 1) hi (by omega) (by omega))
theorem wH(C:Cmp prog w A s kd Ok blt){st:Bo}(g:Good kd a₀ pend st)(h0:∀x∈a₀.toList,Ok x){lo a b:Nat}(hb:lo+b<=a₀.size)(ha:1<=a)(hab:a<=b)(h1:oT blt (arrOf st) lo (lo+a)){Q:o6->Bo->Prop}(h:∀n e st',Good kd a₀ pend st'->a<=n->n<=b->oT blt (arrOf st') lo (lo+n)->vR blt (arrOf st') lo n e->cP (arrOf st) (arrOf st') lo (lo+b)->Q (none,n,e) st'):wpS (model prog w) A E s (C9 lo a b) Q st:=by
 unfold C9
 refine Eb (I:=λx c st'=>∃e,c=(none,x,e)/\Good kd a₀ pend st'/\oT blt (arrOf st') lo (lo+x)/\vR blt (arrOf st') lo x e/\cP (arrOf st) (arrOf st') lo (lo+b)) ?_ ?_
  ⟨0,rfl,g,h1,oY C ha,cP.refl _ _ _⟩
 ·(intro x c st' hx1 hx2 q_; obtain ⟨e,rfl,g',hs,lk,ou⟩ := q_)
  have hsz:(arrOf st').size=a₀.size:=g'.size
  dsimp only
  refine Au (Sh C g' h0 (by omega) (by omega) ?_)
  dsimp only
  cases hl:blt (X (arrOf st') (lo+x)) (X (arrOf st') (lo+x - 1)) with
  | true =>
   rw[if_pos rfl]
   have d1:=Rz C (by omega) hs (C.ofLt hl)
   have one:∀ys:Array Keyed,vR blt ys lo (x+1) 0:=λys=>⟨by omega,λi j i1 i2 j1 j2=>by
    have : i=j:=by omega
    subst this
    exact C.refl _⟩
   by_cases he:e > 0
   ·rw[if_pos he]
    refine Au (Oe ?_)
    refine Bc ⟨0,rfl,g'.set (mirror_perm _ _ _ _),?_,one _,ou.trans (Oj (by have:=lk.1; omega) (by omega) (by omega))⟩
    exact Tv (by omega) (by omega) (by have:=lk.1; omega) d1 λi j i1 i2 j1 j2=>lk.2 i j i1 i2 j1 j2
   ·rw[if_neg he]
    exact Bc ⟨0,rfl,g',d1,one _,ou⟩
  | false =>
   rw[if_neg Cb]
   refine Au (Sh C g' h0 (by omega) (by omega) ?_)
   dsimp only
   cases hm:blt (X (arrOf st') (lo+x - 1)) (X (arrOf st') (lo+x)) with
   | true =>
    rw[if_pos rfl]
    exact Bc (h x e st' g' hx1 (by omega) hs lk ou)
   | false =>
    rw[if_neg Cb]
    refine Bc ⟨e+1,rfl,g',Rz C (by omega) hs hm,⟨by have:=lk.1; omega,λi j i1 i2 j1 j2=>?_⟩,ou⟩
    have l1:le blt (X (arrOf st') (lo+x - 1)) (X (arrOf st') (lo+x)):=hl
    have l2:le blt (X (arrOf st') (lo+x)) (X (arrOf st') (lo+x - 1)):=hm
    by_cases ei:i=lo+x
    ·by_cases ej:j=lo+x
     ·rw[ei,ej]; exact C.refl _
     ·rw[ei]
      exact C.trans l2 (lk.2 (lo+x - 1) j (by omega) (by omega) (by omega) (by omega))
    ·by_cases ej:j=lo+x
     ·rw[ej]
      exact C.trans (lk.2 i (lo+x - 1) (by omega) (by omega) (by omega) (by omega)) l1
     ·exact lk.2 i j (by omega) (by omega) (by omega) (by omega)
 ·(intro c st' q_; obtain ⟨e,rfl,g',hs,lk,ou⟩ := q_)
  rw[show max a b=b by omega] at hs lk ⊢
  exact h b e st' g' hab (Ai _) hs lk ou
def xT(lo n b:Nat):StateT Bo Sem (Option Nat):=do
 liftM (rule "list.sort.descending-run")
 let mut m:=n+1
 let mut e:=0
 for _ in [m:b] do
  let some fZ <- ltAt' (lo+m) (lo+m - 1) | return none
  if fZ then
   if e > 0 then Qg (lo+m - (e+1)) (lo+m)
   e:=0
  else
   let some more <- ltAt' (lo+m - 1) (lo+m) | return none
   if more then break
   e:=e+1
  m:=m+1
 if e > 0 then Qg (lo+m - (e+1)) (lo+m)
 sC lo m b
theorem lH(C:Cmp prog w A s kd Ok blt){st:Bo}(g:Good kd a₀ pend st)(h0:∀x∈a₀.toList,Ok x){lo n b:Nat}(hb:lo+b<=a₀.size)(hnb:n+1<=b)(h1:oT blt (arrOf st) lo (lo+(n+1))){Q:Option Nat->Bo->Prop}(h:∀m st',Good kd a₀ pend st'->1<=m->m<=b->Oy blt (arrOf st') lo (lo+m)->cP (arrOf st) (arrOf st') lo (lo+b)->Q (some m) st'):wpS (model prog w) A E s (xT lo n b) Q st:=by
 unfold xT
 refine Au (Px ?_)
 refine Au (wH C g h0 hb (by omega) hnb h1 λk e st1 g1 k1 k2 d1 lk ou=>?_)
 dsimp only
 have hsz:(arrOf st1).size=a₀.size:=g1.size
 by_cases he:e > 0
 ·rw[if_pos he]
  refine Au (Oe ?_)
  refine kY C (g1.set (mirror_perm _ _ _ _)) h0 hb (by omega) k2 (Tv (by omega) (by omega) (by have:=lk.1; omega) d1 λi j i1 i2 j1 j2=>lk.2 i j i1 i2 j1 j2) λm st2 g2 m1 m2 as ou2=>?_
  exact h m st2 g2 m1 m2 as ((ou.trans (Oj (by have:=lk.1; omega) (by omega) (by omega))).trans ou2)
 ·rw[if_neg he]
  exact kY C g1 h0 hb (by omega) k2 d1 λm st2 g2 m1 m2 as ou2=>h m st2 g2 m1 m2 as (ou.trans ou2)
theorem rB(C:Cmp prog w A s kd Ok blt){st:Bo}(g:Good kd a₀ pend st)(h0:∀x∈a₀.toList,Ok x){lo b:Nat}(hb:lo+b<=a₀.size)(b1:1<=b){Q:Option Nat->Bo->Prop}(h:∀m st',Good kd a₀ pend st'->1<=m->m<=b->Oy blt (arrOf st') lo (lo+m)->cP (arrOf st) (arrOf st') lo (lo+b)->Q (some m) st'):wpS (model prog w) A E s (Ze lo b) Q st:=by
 unfold Ze
 have hsz:(arrOf st).size=a₀.size:=g.size
 refine Au (sG C g h0 hb (Ai _) b1 (λi j i1 i2 j1=>by
  have : i=j:=by omega
  subst this
  exact C.refl _) λn n1 n2 hs hor=>?_)
 dsimp only
 by_cases e:n=b
 ·rw[if_pos (by rw[e]; exact beq_self_eq_true _)]
  exact Bc (h n st g n1 n2 hs (cP.refl _ _ _))
 rw[if_neg (λz=>e (Di z))]
 have hlt:blt (X (arrOf st) (lo+n)) (X (arrOf st) (lo+n - 1))=true:=hor.resolve_left e
 by_cases hg:n > 1
 ·rw[if_pos hg]
  refine Au (Sh C g h0 (by omega) (by omega) ?_)
  dsimp only
  cases hr:blt (X (arrOf st) lo) (X (arrOf st) (lo+n - 1)) with
  | true =>
   rw[if_pos rfl]
   exact Bc (h n st g n1 n2 hs (cP.refl _ _ _))
  | false =>
   rw[if_neg Cb]
   refine Au (Oe ?_)
   -- all of it are alike
   have like:∀i j,lo<=i->i<lo+n->lo<=j->j<lo+n->le blt (X (arrOf st) i) (X (arrOf st) j):=λi j i1 i2 j1 j2 =>
    C.trans (hs i (lo+n - 1) i1 (by omega) (by omega)) (C.trans hr (hs lo j (Ai _) j1 j2))
   have d1:oT blt (arrOf st) lo (lo+(n+1)):=Rz C n1 (λi j i1 i2 j1=>like j i (by omega) j1 i1 (by omega)) (C.ofLt hlt)
   exact lH C (g.set (mirror_perm _ _ _ _)) h0 hb (by omega) (Tv (by omega) (by omega) (Ai _) d1 like) λm st2 g2 m1 m2 as ou2=>h m st2 g2 m1 m2 as ((Oj (Ai _) (by omega) (by omega)).trans ou2)
 ·rw[if_neg hg]
  have en:n=1:=by omega
  subst en
  have d1:oT blt (arrOf st) lo (lo+(1+1)):=Rz C (Ai _) (λi j i1 i2 j1=>by
   have : i=j:=by omega
   subst this
   exact C.refl _) (C.ofLt hlt)
  exact lH C g h0 hb (by omega) d1 h
end
def Sx:Nat->StateT Bo Sem Bool:=sortPriv% PySem.Builtin.mergeAt
section
variable{prog:Bx}{w:World}{A:Cs}{s:Aj}{kd:Kd}{Ok:Keyed->Prop}{blt:Keyed->Keyed->Bool}{E:Value->Aj->Prop}{a₀:Array Keyed}{pend:Array (Nat×Nat×Nat)}
theorem dH{st:Bo}{i j:Nat}{Q:Unit->Bo->Prop}(h:Q () (setArr st (bubble (arrOf st) i (i - j)))):wpS (model prog w) A E s (moveDown' i j) Q st:=by
 rw[moveDown'_eq]
 exact Hy h
theorem nU(C:Cmp prog w A s kd Ok blt){st:Bo}(g:Good kd a₀ pend st)(h0:∀x∈a₀.toList,Ok x){lo n ok:Nat}(hb:lo+n<=a₀.size)(h1:Oy blt (arrOf st) lo (lo+ok))(hok:ok<=n){Q:Bool->Bo->Prop}(h:∀st',Good kd a₀ pend st'->Oy blt (arrOf st') lo (lo+n)->cP (arrOf st) (arrOf st') lo (lo+n)->Q true st'):wpS (model prog w) A E s (Up lo n ok) Q st:=by
 unfold Up
 refine Au (Ge (Eb
  (I:=λk c st'=>c=(none,())/\Good kd a₀ pend st'/\Oy blt (arrOf st') lo (lo+k)/\cP (arrOf st) (arrOf st') lo (lo+n))
  (Q:=λc st'=>c=(none,())/\Good kd a₀ pend st'/\Oy blt (arrOf st') lo (lo+n)/\cP (arrOf st) (arrOf st') lo (lo+n)) ?_ ?_ ⟨rfl,g,?_,cP.refl _ _ _⟩) ?_)
 ·(intro k c st1 hk1 hk2 q_; obtain ⟨rfl,g1,hs,ou⟩ := q_)
  have hsz:(arrOf st1).size=a₀.size:=g1.size
  dsimp only
  refine Au (Ge (Eb
   (I:=λy c st'=>st'=st1/\∃l r,c=(none,l,r)/\l<=r/\r<=k/\r - l+y<=k/\(∀i,i<l->le blt (X (arrOf st1) (lo+i)) (X (arrOf st1) (lo+k)))/\(∀i,r<=i->i<k->blt (X (arrOf st1) (lo+k)) (X (arrOf st1) (lo+i))=true))
   (Q:=λc st'=>st'=st1/\∃l,c=(none,l,l)/\l<=k/\(∀i,i<l->le blt (X (arrOf st1) (lo+i)) (X (arrOf st1) (lo+k)))/\(∀i,l<=i->i<k->blt (X (arrOf st1) (lo+k)) (X (arrOf st1) (lo+i))=true)) ?_ ?_
   ⟨rfl,0,k,rfl,by omega,by omega,by omega,λi hi=>by omega,λi h1 h2=>by omega⟩) ?_)
  ·(intro y c st2 _ hy q_; obtain ⟨rfl,l,r,rfl,a1,a2,a3,b1,b2⟩ := q_)
   dsimp only
   by_cases hlr:l ≥ r
   ·rw[if_pos hlr]
    have e:l=r:=by omega
    subst e
    exact Bc ⟨rfl,l,rfl,a2,b1,b2⟩
   ·rw[if_neg hlr]
    refine Au (Sh C g1 h0 (by omega) (by omega) ?_)
    dsimp only
    cases hl:blt (X (arrOf st2) (lo+k)) (X (arrOf st2) (lo+(l+r) / 2)) with
    | true =>
     rw[if_pos rfl]
     exact Bc ⟨rfl,l,(l+r) / 2,rfl,by omega,by omega,by omega,b1,λi i1 i2=>C.ltLe hl (hs _ _ (by omega) (by omega) (by omega))⟩
    | false =>
     rw[if_neg Cb]
     exact Bc ⟨rfl,(l+r) / 2+1,r,rfl,by omega,a2,by omega,λi hi=>C.trans (hs _ _ (by omega) (by omega) (by omega)) hl,b2⟩
  ·(intro c st2 q_; obtain ⟨rfl,l,r,rfl,a1,a2,a3,b1,b2⟩ := q_)
   have : max 0 k=k:=by omega
   rw[this] at a3
   have e:l=r:=by omega
   subst e
   exact ⟨rfl,l,rfl,a2,b1,b2⟩
  ·(intro c st2 q_; obtain ⟨rfl,l,rfl,a2,b1,b2⟩ := q_)
   dsimp only
   refine Au (dH ?_)
   have xb:=λi=>sD (xs:=arrOf st2) (src:=lo+k) (d:=lo+k - (lo+l)) (by omega) (by omega) i
   have ed:lo+k - (lo+k - (lo+l))=lo+l:=by omega
   refine Bc ⟨rfl,g1.set (bubble_perm _ _ _),λi j i1 i2 j1=>?_,ou.trans λi hi=>?_⟩
   ·show le blt (X (bubble (arrOf st2) (lo+k) (lo+k - (lo+l))) i) (X (bubble (arrOf st2) (lo+k) (lo+k - (lo+l))) j)
    rw[xb,xb,ed]
    by_cases e1:i=lo+l
    ·rw[if_pos e1]
     by_cases e2:j=lo+l
     ·rw[if_pos e2]; exact C.refl _
     ·rw[if_neg e2]
      by_cases e3:lo+l<j/\j<=lo+k
      ·rw[if_pos e3]
       have:=b2 (j - 1 - lo) (by omega) (by omega)
       rw[show lo+(j - 1 - lo)=j - 1 by omega] at this
       exact C.ofLt this
      ·exfalso; omega
    ·rw[if_neg e1]
     by_cases e2:j=lo+l
     ·rw[if_pos e2,if_neg (by omega)]
      have:=b1 (i - lo) (by omega)
      rw[show lo+(i - lo)=i by omega] at this
      exact this
     ·rw[if_neg e2]
      by_cases e3:lo+l<i/\i<=lo+k
      ·rw[if_pos e3,if_pos (by omega)]
       exact hs _ _ (by omega) (by omega) (by omega)
      ·rw[if_neg e3]
       by_cases e4:lo+l<j/\j<=lo+k
       ·rw[if_pos e4]
        exact hs _ _ (by omega) (by omega) (by omega)
       ·rw[if_neg e4]
        exact hs _ _ (by omega) (by omega) (by omega)
   ·show X (bubble (arrOf st2) (lo+k) (lo+k - (lo+l))) i=X (arrOf st2) i
    rw[xb,ed,if_neg (by omega),if_neg (by omega)]
 ·(intro c st1 q_; obtain ⟨rfl,g1,hs,ou⟩ := q_)
  refine ⟨rfl,g1,λi j i1 i2 j1=>hs i j i1 i2 (by omega),ou⟩
 ·intro i j i1 i2 j1
  by_cases e:i=j
  ·subst e; exact C.refl _
  ·exact h1 i j i1 i2 (by omega)
 ·(intro c st1 q_; obtain ⟨rfl,g1,hs,ou⟩ := q_)
  exact Bc (h st1 g1 hs ou)
end
abbrev Lr(xs:Array Keyed)(b:Nat)(l:List (Keyed×Nat)):Array Keyed:=l.foldl (λa x=>match x with | (p,j)=>a.setIfInBounds (b+j) p) xs
theorem Xr(b:Nat):∀(l:List Keyed) (o:Nat) (xs:Array Keyed),b+o+l.length<=xs.size->(Lr xs b (l.zipIdx o)).size=xs.size/\∀i:Nat,(Lr xs b (l.zipIdx o))[i]? = if b+o<=i/\i<b+o+l.length then l[i - (b+o)]? else xs[i]?
 | [],o,xs,_=>⟨rfl,λi=>by rw[if_neg (by rw[Ez]; omega)]; rfl⟩
 | x::l,o,xs,h=>by
  rw[Bm] at h
  have ih:=Xr b l (o+1) (xs.setIfInBounds (b+o) x) (by rw[cS]; omega)
  have e:Lr xs b ((x::l).zipIdx o)=Lr (xs.setIfInBounds (b+o) x) b (l.zipIdx (o+1)):=by
   rw[List.zipIdx_cons]
   rfl
  rw[e]
  refine ⟨ih.1.trans (cS),λi=>?_⟩
  rw[ih.2 i,Bm]
  by_cases h1:b+(o+1)<=i/\i<b+(o+1)+l.length
  ·rw[if_pos h1,if_pos (by omega)]
   rw[show i - (b+o)=(i - (b+(o+1)))+1 by omega,gP]
  ·rw[if_neg h1]
   by_cases h2:i=b+o
   ·subst h2
    rw[if_pos (by omega),Array.getElem?_setIfInBounds_self_of_lt (by omega),Nat.sub_self]
    rfl
   ·rw[if_neg (by omega),Array.getElem?_setIfInBounds_ne (by omega)]
theorem jS{xs m:Array Keyed}{b n:Nat}(hb:b+n<=xs.size)(hn:m.size=n)(hp:m.toList.Perm ((xs.toList.drop b).take n)):(Lr xs b m.toList.zipIdx).Perm xs:=by
 have ha:=Xr b m.toList 0 xs (by rw[Av]; omega)
 have e:(Lr xs b m.toList.zipIdx).toList=xs.toList.take b++(m.toList++xs.toList.drop (b+n)):=by
  apply Gu
  intro i
  have h1:=ha.2 i
  rw[Av,hn] at h1
  have h2:(Lr xs b m.toList.zipIdx).toList[i]? = (Lr xs b m.toList.zipIdx)[i]?:=by simp
  rw[h2,h1]
  have lt:(xs.toList.take b).length=b:=by rw[Cn,Av]; omega
  by_cases c1:i<b
  ·rw[if_neg (by omega),Jf (by omega),Ha c1]
   simp
  ·rw[Ex (by omega),lt]
   by_cases c2:i<b+n
   ·rw[if_pos (by omega),Jf (by rw[Av]; omega)]
    congr 1
   ·rw[if_neg (by omega),Ex (by rw[Av]; omega),Uk,Av]
    rw[show b+n+(i - b - m.size)=i by omega]
    simp
 refine Array.perm_iff_toList_perm.mpr ?_
 rw[e]
 have e2:xs.toList=xs.toList.take b++((xs.toList.drop b).take n++xs.toList.drop (b+n)):=by
  conv=>lhs; rw[<- Ee b xs.toList]
  congr 1
  conv=>lhs; rw[<- Ee n (xs.toList.drop b)]
  rw[List.drop_drop]
 conv=>rhs; rw[e2]
 exact Ka _ (List.Perm.append_right _ hp)
theorem To{xs:Array Keyed}{a n:Nat}(h:a+n<=xs.size){i:Nat}(hi:i<n):(xs.extract a (a+n))[i]? = some (X xs (a+i)):=by
 rw[Array.getElem?_extract,if_pos (by omega)]
 exact Uy (by omega)
theorem Ph{xs:Array Keyed}{a n:Nat}(h:a+n<=xs.size):(xs.extract a (a+n)).size=n:=by
 rw[Array.size_extract]
 omega
theorem Rx{xs:Array Keyed}{a n:Nat}(h:a+n<=xs.size){x:Keyed}(hx:x∈(xs.extract a (a+n)).toList):∃i,i<n/\x=X xs (a+i):=by
 obtain ⟨i,hi,e⟩:=Gp.mp hx
 rw[Av,Ph h] at hi
 refine ⟨i,hi,?_⟩
 have h1:=To h hi
 have h2:(xs.extract a (a+n)).toList[i]? = some x:=by rw[<- e,<- Bs]
 rw[Kr,h1] at h2
 exact (Be h2).symm
section
variable{prog:Bx}{w:World}{A:Cs}{s:Aj}{kd:Kd}{Ok:Keyed->Prop}{blt:Keyed->Keyed->Bool}{E:Value->Aj->Prop}{a₀:Array Keyed}{pend:Array (Nat×Nat×Nat)}
theorem Vv(C:Cmp prog w A s kd Ok blt){xs:Array Keyed}{a n c d:Nat}(h:a+n<=xs.size)(hs:Oy blt xs c d)(h1:c<=a)(h2:a+n<=d):(xs.extract a (a+n)).toList.Pairwise (le blt):=by
 rw[cQ]
 intro i j hi hj hij
 rw[Av,Ph h] at hi hj
 have e1:(xs.extract a (a+n)).toList[i]? = some (X xs (a+i)):=by rw[Kr]; exact To h hi
 have e2:(xs.extract a (a+n)).toList[j]? = some (X xs (a+j)):=by rw[Kr]; exact To h hj
 obtain ⟨_,f1⟩:=Al.mp e1
 obtain ⟨_,f2⟩:=Al.mp e2
 rw[f1,f2]
 exact hs _ _ (by omega) (by omega) (by omega)
theorem fB(C:Cmp prog w A s kd Ok blt){xs:Array Keyed}{a b c:Nat}(hab:a<b)(h1:Oy blt xs a b)(h2:Oy blt xs b c)(h:le blt (X xs (b - 1)) (X xs b)):Oy blt xs a c:=λi j i1 i2 j1=>by
 by_cases e1:j<b
 ·exact h1 i j i1 i2 e1
 ·by_cases e2:b<=i
  ·exact h2 i j e2 i2 j1
  ·exact C.trans (h1 i (b - 1) i1 (by omega) (by omega)) (C.trans h (h2 b j (Ai _) (by omega) j1))
structure Good0(kd:Kd)(a₀:Array Keyed)(st:Bo):Prop where
 kind:kindOf st=kd
 fail:Kb st=none
 perm:(arrOf st).Perm a₀
theorem Good0.size{st:Bo}(g:Good0 kd a₀ st):(arrOf st).size=a₀.size:=g.perm.size_eq
theorem Good0.okX{st:Bo}(g:Good0 kd a₀ st)(h0:∀x∈a₀.toList,Ok x){i:Nat}(hi:i<a₀.size):Ok (X (arrOf st) i):=by
 have e:=Uy (xs:=arrOf st) (i:=i) (by rw[g.size]; exact hi)
 exact h0 _ ((Mv.mp g.perm).mem_iff.mp (Hv e))
theorem tZ{st:Bo}(g:Good0 kd a₀ st)(h0:∀x∈a₀.toList,Ok x){b n:Nat}(h:b+n<=a₀.size):Row Ok (arrOf st) b n (λi=>X (arrOf st) (b+i)) :=
 ⟨λi hi=>Uy (by rw[g.size]; omega),λi hi=>g.okX h0 (by omega)⟩
theorem B3{st st':Bo}{Q:Unit->Bo->Prop}(h:Q () st'):wpS (model prog w) A E s (set st':StateT Bo Sem Unit) Q st:=by
 unfold wpS
 rw[StateT.run_set]
 exact Aw ⟨rfl,h⟩
theorem gZ(C:Cmp prog w A s kd Ok blt){st:Bo}(g:Good0 kd a₀ st)(h0:∀x∈a₀.toList,Ok x){i sa na pa sb nb pb:Nat}(hi:(Ba st)[i]? = some (sa,na,pa))(hj:(Ba st)[i+1]? = some (sb,nb,pb))(e1:sb=sa+na)(n1:1<=na)(n2:1<=nb)(hz:sb+nb<=a₀.size)(s1:Oy blt (arrOf st) sa sb)(s2:Oy blt (arrOf st) sb (sb+nb)){Q:Bool->Bo->Prop}(h:∀st',Good0 kd a₀ st'->Ba st'=((Ba st).setIfInBounds i (sa,na+nb,pa)).eraseIdxIfInBounds (i+1)->Oy blt (arrOf st') sa (sb+nb)->cP (arrOf st) (arrOf st') sa (sb+nb)->Q true st'):wpS (model prog w) A E s (Sx i) Q st:=by
 have hsz:(arrOf st).size=a₀.size:=g.size
 unfold Sx
 refine Au (Lb ?_)
 rw[hi,hj]
 dsimp only
 refine Au (B3 ?_)
 refine Au (Eo (Uy (xs:=arrOf st) (i:=sb) (by rw[hsz]; omega)) ?_)
 show wpS (model prog w) A E s _ _ (SortSt.mk' (kindOf st) (arrOf st) (((Ba st).setIfInBounds i (sa,na+nb,pa)).eraseIdxIfInBounds (i+1)) (gallopOf st) (Kb st))
 generalize hst1:SortSt.mk' (kindOf st) (arrOf st) (((Ba st).setIfInBounds i (sa,na+nb,pa)).eraseIdxIfInBounds (i+1)) (gallopOf st) (Kb st)=st1
 have k1:kindOf st1=kd:=by rw[<- hst1]; exact g.kind
 have ar1:arrOf st1=arrOf st:=by rw[<- hst1]
 have pd1:Ba st1=((Ba st).setIfInBounds i (sa,na+nb,pa)).eraseIdxIfInBounds (i+1):=by rw[<- hst1]
 have fl1:Kb st1=none:=by rw[<- hst1]; exact g.fail
 have g1:Good0 kd a₀ st1:=⟨k1,fl1,by rw[ar1]; exact g.perm⟩
 have same:Good0 kd a₀ st1->Oy blt (arrOf st) sa (sb+nb)->Q true st1:=λgg as=>h st1 gg pd1 (by rw[ar1]; exact as) (by rw[ar1]; exact cP.refl _ _ _)
 refine Au (Ll C (hint:=0) (n:=na) (tZ g h0 (b:=sa) (n:=na) (by omega)) (g.okX h0 (i:=sb) (by omega)) k1 (by omega) (λa c hac hc q1=>?_) λk kn t1 t2=>?_)
 ·simp only[Fx,Cz,if_false,Ij] at q1 ⊢
  exact C.trans (s1 _ _ (by omega) (by omega) (by omega)) q1
 dsimp only
 have f1:∀m,m<k->le blt (X (arrOf st) (sa+m)) (X (arrOf st) sb):=λm hm=>by
  have:=t1 m hm
  have z:blt (X (arrOf st) sb) (X (arrOf st) (sa+m))=false:=by simpa only [Fx,Cz,if_false,Ij] using this
  exact z
 by_cases c1:na - k=0
 ·rw[if_pos (by rw[c1]; rfl)]
  refine Bc (same g1 (fB C (by omega) s1 s2 ?_))
  have:=f1 (na - 1) (by omega)
  rw[show sa+(na - 1)=sb - 1 by omega] at this
  exact this
 rw[if_neg (λz=>c1 (Di z))]
 have f2:blt (X (arrOf st) sb) (X (arrOf st) (sa+k))=true:=by
  have:=t2 k (Ai _) (by omega)
  simpa only [Fx,Cz,if_false,Um] using this
 have el:sa+k+(na - k) - 1=sb - 1:=by omega
 rw[el]
 refine Au (Eo (Uy (xs:=arrOf st) (i:=sb - 1) (by rw[hsz]; omega)) ?_)
 refine Au (Ll C (hint:=nb - 1) (n:=nb) (tZ g h0 (b:=sb) (n:=nb) (by omega)) (g.okX h0 (i:=sb - 1) (by omega)) k1 (by omega) (λa c hac hc q1=>?_) λl ln u1 u2=>?_)
 ·simp only[Fx,if_true] at q1 ⊢
  exact C.leLt (s2 _ _ (by omega) (by omega) (by omega)) q1
 dsimp only
 have f3:∀m,m<l->blt (X (arrOf st) (sb+m)) (X (arrOf st) (sb - 1))=true:=λm hm=>by
  have:=u1 m hm
  simpa only [Fx,if_true] using this
 have f4:∀m,l<=m->m<nb->le blt (X (arrOf st) (sb - 1)) (X (arrOf st) (sb+m)):=λm h1 h2=>by
  have:=u2 m h1 h2
  have z:blt (X (arrOf st) (sb+m)) (X (arrOf st) (sb - 1))=false:=by simpa only [Fx,if_true] using this
  exact z
 by_cases c2:l=0
 ·rw[if_pos (by rw[c2]; rfl)]
  subst c2
  exact Bc (same g1 (fB C (by omega) s1 s2 (f4 0 (Ai _) (by omega))))
 rw[if_neg (λz=>c2 (Di z))]
 have ep:(arrOf st).extract (sa+k) sb=(arrOf st).extract (sa+k) (sa+k+(na - k)):=by rw[show sa+k+(na - k)=sb by omega]
 rw[ep]
 have hp:sa+k+(na - k)<=(arrOf st).size:=by omega
 have hq:sb+l<=(arrOf st).size:=by omega
 have T:Two Ok blt ((arrOf st).extract (sa+k) (sa+k+(na - k))) ((arrOf st).extract sb (sb+l)) (X (arrOf st) (sa+k)) (X (arrOf st) sb) (X (arrOf st) (sb - 1)):=by
  refine ⟨λx hx=>?_,λx hx=>?_,Vv C hp s1 (by omega) (by omega),Vv C hq s2 (by omega) (by omega),?_,?_,?_,f2,λy hy=>?_⟩
  ·obtain ⟨m,hm,rfl⟩:=Rx hp hx
   exact g.okX h0 (by omega)
  ·obtain ⟨m,hm,rfl⟩:=Rx hq hx
   exact g.okX h0 (by omega)
  ·exact To hp (by omega)
  ·exact To hq (by omega)
  ·rw[Ph hp,To hp (by omega),show sa+k+(na - k - 1)=sb - 1 by omega]
  ·obtain ⟨m,hm,rfl⟩:=Rx hq hy
   exact f3 m hm
 -- jI the merge
 have fin:∀(r:Array Keyed) (st2:Bo),Kept st1 st2->jK blt ((arrOf st).extract (sa+k) (sa+k+(na - k))) ((arrOf st).extract sb (sb+l)) r ->
   Q (Kb (setArr st2 (Lr (arrOf st2) (sa+k) r.toList.zipIdx))).isNone (setArr st2 (Lr (arrOf st2) (sa+k) r.toList.zipIdx)):=by
  intro r st2 kp hr
  have ar2:arrOf st2=arrOf st:=kp.arr.trans ar1
  have fl2:Kb st2=none:=kp.fail.trans fl1
  have rsz:r.size=na - k+l:=by
   have:=hr.1.length_eq
   rw[Ay,Av,Av,Av,Ph hp,Ph hq] at this
   exact this
  have seg:((arrOf st).toList.drop (sa+k)).take (na - k+l)=((arrOf st).extract (sa+k) (sa+k+(na - k))).toList++((arrOf st).extract sb (sb+l)).toList:=by
   rw[Sa,Sa,List.take_add,List.drop_drop,show sa+k+(na - k)=sb by omega]
  have pa':=Xr (sa+k) r.toList 0 (arrOf st) (by rw[Av]; omega)
  have xat:∀m,X (Lr (arrOf st) (sa+k) r.toList.zipIdx) m=if sa+k<=m/\m<sb+l then X r (m - (sa+k)) else X (arrOf st) m:=λm=>by
   have:=pa'.2 m
   rw[Av,rsz,Nat.add_zero] at this
   by_cases hm:sa+k<=m/\m<sb+l
   ·rw[if_pos hm]
    rw[if_pos (by omega)] at this
    refine Om (this.trans ?_)
    simp
   ·rw[if_neg hm]
    rw[if_neg (by omega)] at this
    exact Om this
  -- each thing of the merged is one of the two runs'
  have from2:∀m,m<na - k+l->(∃c,sa+k<=c/\c<sb/\X r m=X (arrOf st) c)\/(∃c,sb<=c/\c<sb+l/\X r m=X (arrOf st) c):=λm hm=>by
   have hx:=Hv (Uy (xs:=r) (i:=m) (by omega))
   rcases An.mp (hr.1.mem_iff.mp hx) with z | z
   ·obtain ⟨c,hc,e⟩:=Rx hp z
    exact .inl ⟨sa+k+c,by omega,by omega,e⟩
   ·obtain ⟨c,hc,e⟩:=Rx hq z
    exact .inr ⟨sb+c,by omega,by omega,e⟩
  have rs:∀m n,m<=n->n<na - k+l->le blt (X r m) (X r n):=λm n hmn hn=>Jn C hr.2 hmn (Dz (Uy (by omega))) (Dz (Uy (by omega)))
  have e3:Kb (setArr st2 (Lr (arrOf st2) (sa+k) r.toList.zipIdx))=none:=fl2
  rw[e3]
  refine h _ ⟨kp.kind.trans k1,e3,?_⟩ (kp.pend.trans pd1) ?_ ?_
  ·show (Lr (arrOf st2) (sa+k) r.toList.zipIdx).Perm a₀
   rw[ar2]
   refine (jS (by omega) rsz ?_).trans g.perm
   rw[seg]
   exact hr.1
  ·show Oy blt (Lr (arrOf st2) (sa+k) r.toList.zipIdx) sa (sb+nb)
   rw[ar2]
   intro c d c1 cd d1
   rw[xat,xat]
   by_cases zc:sa+k<=c/\c<sb+l
   ·rw[if_pos zc]
    by_cases zd:sa+k<=d/\d<sb+l
    ·rw[if_pos zd]
     exact rs _ _ (by omega) (by omega)
    ·rw[if_neg zd]
     rcases from2 (c - (sa+k)) (by omega) with ⟨b,b1,b2,e⟩ | ⟨b,b1,b2,e⟩
     ·rw[e]
      refine C.trans (s1 b (sb - 1) (by omega) (by omega) (by omega)) ?_
      have:=f4 (d - sb) (by omega) (by omega)
      rw[show sb+(d - sb)=d by omega] at this
      exact this
     ·rw[e]
      exact s2 b d b1 (by omega) (by omega)
   ·rw[if_neg zc]
    by_cases zd:sa+k<=d/\d<sb+l
    ·rw[if_pos zd]
     rcases from2 (d - (sa+k)) (by omega) with ⟨b,b1,b2,e⟩ | ⟨b,b1,b2,e⟩
     ·rw[e]
      exact s1 c b c1 (by omega) b2
     ·rw[e]
      have:=f1 (c - sa) (by omega)
      rw[show sa+(c - sa)=c by omega] at this
      exact C.trans this (s2 sb b (Ai _) b1 (by omega))
    ·rw[if_neg zd]
     by_cases y1:d<sb
     ·exact s1 c d c1 cd y1
     ·by_cases y2:sb<=c
      ·exact s2 c d y2 cd d1
      ·have:=f1 (c - sa) (by omega)
       rw[show sa+(c - sa)=c by omega] at this
       exact C.trans this (s2 sb d (Ai _) (by omega) d1)
  ·show cP (arrOf st) (Lr (arrOf st2) (sa+k) r.toList.zipIdx) sa (sb+nb)
   rw[ar2]
   intro m hm
   rw[xat,if_neg (by omega)]
 by_cases c3:na - k<=l
 ·rw[if_pos c3]
  refine Au (gY C T k1 λr st2 kp hr=>?_)
  exact Au (Hy (Au (Lb (Bc (fin r st2 kp hr)))))
 ·rw[if_neg c3]
  refine Au (gX C T k1 λr st2 kp hr=>?_)
  exact Au (Hy (Au (Lb (Bc (fin r st2 kp hr)))))
end
def Yx:StateT Bo Sem Unit:=sortPriv% PySem.Builtin.sortRuns
def Runs(blt:Keyed->Keyed->Bool)(xs:Array Keyed):List (Nat×Nat×Nat)->Nat->Nat->Prop
 | [],a,b=>a=b
 | (s,n,_)::r,a,b=>s=a/\1<=n/\Oy blt xs a (a+n)/\Runs blt xs r (a+n) b
variable{blt:Keyed->Keyed->Bool}
theorem Runs.len{xs:Array Keyed}:∀{l:List (Nat×Nat×Nat)} {a b:Nat},Runs blt xs l a b->a+l.length<=b
 | [],a,b,h=>by
  have e:a=b:=h
  rw[Ez]
  omega
 | (s,n,p)::r,a,b,h=>by
  have:=Runs.len h.2.2.2
  have:=h.2.1
  rw[Bm]
  omega
theorem Oy.out{xs ys:Array Keyed}{a b c d:Nat}(h:Oy blt xs a b)(o:cP xs ys c d)(e:b<=c\/d<=a):Oy blt ys a b:=λi j i1 i2 j1=>by
 rw[o i (by omega),o j (by omega)]
 exact h i j i1 i2 j1
theorem Runs.out{xs ys:Array Keyed}{c d:Nat}(o:cP xs ys c d):∀{l:List (Nat×Nat×Nat)} {a b:Nat},(b<=c\/d<=a)->Runs blt xs l a b->Runs blt ys l a b
 | [],_,_,_,h=>h
 | (s,n,p)::r,a,b,e,h=>by
  have hl:=Runs.len h.2.2.2
  exact ⟨h.1,h.2.1,h.2.2.1.out o (by omega),Runs.out o (by omega) h.2.2.2⟩
theorem Runs.push{xs:Array Keyed}{m q:Nat}(hm:1<=m):∀{l:List (Nat×Nat×Nat)} {a b:Nat},Runs blt xs l a b->Oy blt xs b (b+m)->Runs blt xs (l++[(b,m,q)]) a (b+m)
 | [],a,b,h,hs=>by
  have e:a=b:=h
  subst e
  exact ⟨rfl,hm,hs,rfl⟩
 | (s,n,p)::r,a,b,h,hs=>⟨h.1,h.2.1,h.2.2.1,Runs.push hm h.2.2.2 hs⟩
theorem Runs.power{xs:Array Keyed}{pw:Nat}:∀{l:List (Nat×Nat×Nat)} {a b:Nat} (k:Nat),Runs blt xs l a b->Runs blt xs (l.modify k λx=>(x.1,x.2.1,pw)) a b
 | [],_,_,k,h=>by simpa using h
 | (s,n,p)::r,a,b,0,h=>by
  rw[List.modify_zero_cons]
  exact h
 | (s,n,p)::r,a,b,k+1,h=>by
  rw[List.modify_succ_cons]
  exact ⟨h.1,h.2.1,h.2.2.1,Runs.power k h.2.2.2⟩
theorem Runs.two{xs:Array Keyed}:∀{l:List (Nat×Nat×Nat)} {a b i sa na pa sb nb pb:Nat},Runs blt xs l a b->l[i]? = some (sa,na,pa)->l[i+1]? = some (sb,nb,pb)->sb=sa+na/\1<=na/\1<=nb/\a<=sa/\sb+nb<=b/\Oy blt xs sa sb/\Oy blt xs sb (sb+nb)
 | [],_,_,_,_,_,_,_,_,_,_,h,_=>by simp at h
 | (s,n,p)::r,a,b,0,sa,na,pa,sb,nb,pb,h,h1,h2=>by
  obtain ⟨e,hn,hs,hr⟩:=h
  have q:s=sa/\n=na/\p=pa:=by simpa using h1
  obtain ⟨q1,q2,q3⟩:=q
  subst q1 q2 q3
  subst e
  cases r with
  | nil=>simp at h2
  | cons y r' =>
   obtain ⟨s',n',p'⟩:=y
   have q':s'=sb/\n'=nb/\p'=pb:=by simpa using h2
   obtain ⟨q1,q2,q3⟩:=q'
   subst q1 q2 q3
   obtain ⟨e',hn',hs',hr'⟩:=hr
   have:=Runs.len hr'
   exact ⟨e',hn,hn',Ai _,by omega,by rw[e']; exact hs,by rw[e']; exact hs'⟩
 | (s,n,p)::r,a,b,i+1,sa,na,pa,sb,nb,pb,h,h1,h2=>by
  have:=Runs.two h.2.2.2 (by simpa using h1) (by simpa using h2)
  exact ⟨this.1,this.2.1,this.2.2.1,by have:=this.2.2.2.1; have:=h.2.1; omega,this.2.2.2.2.1,this.2.2.2.2.2⟩
theorem Runs.merge{xs ys:Array Keyed}:∀{l:List (Nat×Nat×Nat)} {a b i sa na pa sb nb pb:Nat},Runs blt xs l a b->l[i]? = some (sa,na,pa)->l[i+1]? = some (sb,nb,pb)->cP xs ys sa (sb+nb)->Oy blt ys sa (sb+nb)->Runs blt ys ((l.set i (sa,na+nb,pa)).eraseIdx (i+1)) a b
 | [],_,_,_,_,_,_,_,_,_,_,h,_,_,_=>by simp at h
 | (s,n,p)::r,a,b,0,sa,na,pa,sb,nb,pb,h,h1,h2,o,as=>by
  have tw:=Runs.two h h1 h2
  obtain ⟨e,hn,hs,hr⟩:=h
  have q:s=sa/\n=na/\p=pa:=by simpa using h1
  obtain ⟨q1,q2,q3⟩:=q
  subst q1 q2 q3
  subst e
  cases r with
  | nil=>simp at h2
  | cons y r' =>
   obtain ⟨s',n',p'⟩:=y
   have q':s'=sb/\n'=nb/\p'=pb:=by simpa using h2
   obtain ⟨q1,q2,q3⟩:=q'
   subst q1 q2 q3
   obtain ⟨e',hn',hs',hr'⟩:=hr
   rw[List.set_cons_zero,Ot,List.eraseIdx_cons_zero]
   refine ⟨rfl,by omega,?_,?_⟩
   ·rw[show s+(n+n')=s'+n' by omega]
    exact as
   ·rw[show s+(n+n')=s+n+n' by omega]
    exact Runs.out o (.inr (by omega)) hr'
 | (s,n,p)::r,a,b,i+1,sa,na,pa,sb,nb,pb,h,h1,h2,o,as=>by
  have tw:=Runs.two (i:=i) h.2.2.2 (by simpa using h1) (by simpa using h2)
  rw[List.set_cons_succ,Ot]
  exact ⟨h.1,h.2.1,h.2.2.1.out o (.inl tw.2.2.2.1),Runs.merge h.2.2.2 (by simpa using h1) (by simpa using h2) o as⟩
theorem Zu(P:Array (Nat×Nat×Nat))(i:Nat)(v:Nat×Nat×Nat):((P.setIfInBounds i v).eraseIdxIfInBounds (i+1)).toList=(P.toList.set i v).eraseIdx (i+1):=by
 rw[Array.toList_eraseIdxIfInBounds,Array.toList_setIfInBounds]
section
variable{prog:Bx}{w:World}{A:Cs}{s:Aj}{kd:Kd}{Ok:Keyed->Prop}{E:Value->Aj->Prop}{a₀:Array Keyed}
theorem Ml{α:Type}{c:Prop}[Decidable c]{p q:StateT Bo Sem α}{Q:α->Bo->Prop}{st:Bo}(h1:c->wpS (model prog w) A E s p Q st)(h2:¬ c->wpS (model prog w) A E s q Q st):wpS (model prog w) A E s (if c then p else q) Q st:=by
 by_cases h:c
 ·rw[if_pos h]; exact h1 h
 ·rw[if_neg h]; exact h2 h
theorem bN(C:Cmp prog w A s kd Ok blt){st:Bo}(g:Good0 kd a₀ st)(h0:∀x∈a₀.toList,Ok x){lo i:Nat}(hlo:lo<=a₀.size)(rn:Runs blt (arrOf st) (Ba st).toList 0 lo)(hi:i+1<(Ba st).size){Q:Bool->Bo->Prop}(h:∀st',Good0 kd a₀ st'->Runs blt (arrOf st') (Ba st').toList 0 lo->(Ba st').size+1=(Ba st).size->(∀c d,lo<=c->Oy blt (arrOf st) c d->Oy blt (arrOf st') c d)->Q true st'):wpS (model prog w) A E s (Sx i) Q st:=by
 obtain ⟨⟨sa,na,pa⟩,ha⟩ : ∃x,(Ba st)[i]? = some x:=⟨(Ba st)[i],by simp⟩
 obtain ⟨⟨sb,nb,pb⟩,hb⟩ : ∃x,(Ba st)[i+1]? = some x:=⟨(Ba st)[i+1],by simp⟩
 have la:(Ba st).toList[i]? = some (sa,na,pa):=by simpa using ha
 have lb:(Ba st).toList[i+1]? = some (sb,nb,pb):=by simpa using hb
 obtain ⟨t1,t2,t3,t4,t5,t6,t7⟩:=rn.two la lb
 refine gZ C g h0 ha hb t1 t2 t3 (by omega) t6 t7 λst' g' pd as ou=>?_
 refine h st' g' ?_ ?_ λc d hc hs=>hs.out ou (.inr (by omega))
 ·rw[pd,Zu]
  exact rn.merge la lb ou as
 ·have : (Ba st').toList.length+1=(Ba st).toList.length:=by
   rw[pd,Zu,List.length_eraseIdx,List.length_set,Av,if_pos hi]
   omega
  simpa using this
theorem wX{st:Bo}(g:Good0 kd a₀ st):Good kd a₀ (Ba st) st:=⟨g.kind,g.fail,g.perm,rfl⟩
theorem eU{st:Bo}{p:Array (Nat×Nat×Nat)}(g:Good kd a₀ p st):Good0 kd a₀ st:=⟨g.kind,g.fail,g.perm⟩
theorem mJ(C:Cmp prog w A s kd Ok blt){st:Bo}(g:Good0 kd a₀ st)(h0:∀x∈a₀.toList,Ok x)(hp:Ba st=#[])(hz:1<=a₀.size){Q:Unit->Bo->Prop}(h:∀st',Good0 kd a₀ st'->Oy blt (arrOf st') 0 a₀.size->Q () st'):wpS (model prog w) A E s Yx Q st:=by
 unfold Yx
 refine Au (Lb ?_)
 have hsz:(arrOf st).size=a₀.size:=g.size
 dsimp only
 rw[hsz]
 generalize (sortPriv% PySem.Builtin.minRun) a₀.size a₀.size 0=mr
 refine Au (Ge (Eb
  (I:=λx c st'=>∃lo,c=(none,lo)/\Good0 kd a₀ st'/\Runs blt (arrOf st') (Ba st').toList 0 lo/\lo<=a₀.size/\x<=lo)
  (Q:=λc st'=>c=(none,a₀.size)/\Good0 kd a₀ st'/\Runs blt (arrOf st') (Ba st').toList 0 a₀.size) ?_ ?_ ⟨0,rfl,g,by rw[hp]; exact rfl,by omega,by omega⟩) ?_)
 ·(intro x c st1 _ hx q_; obtain ⟨lo,rfl,g1,rn,hlo,hxl⟩ := q_)
  dsimp only
  by_cases hge:lo ≥ a₀.size
  ·rw[if_pos hge]
   have e:lo=a₀.size:=by omega
   subst e
   exact Bc ⟨rfl,g1,rn⟩
  rw[if_neg hge]
  refine Au (rB C (wX g1) h0 (lo:=lo) (b:=a₀.size - lo) (by omega) (by omega) λm st2 g2 m1 m2 as ou=>?_)
  dsimp only
  have rn2:Runs blt (arrOf st2) (Ba st2).toList 0 lo:=by
   rw[g2.pd]
   exact rn.out ou (.inl (Ai _))
  have g2':=eU g2
  clear rn g1
  refine Ml (λhmin=>?_) (λhmin=>?_)
  ·refine Au (Px ?_)
   refine Au (nU C g2 h0 (lo:=lo) (n:=min (a₀.size - lo) mr) (ok:=m) (by omega) as (by omega) λOh g3 as3 ou3=>?_)
   refine Ml (λz=>absurd z (by decide)) (λ_=>?_)
   have n1:1<=min (a₀.size - lo) mr:=by omega
   have n2:lo+min (a₀.size - lo) mr<=a₀.size:=by omega
   have rn3:Runs blt (arrOf Oh) (Ba Oh).toList 0 lo:=by
    rw[g3.pd,<- g2.pd]
    exact rn2.out ou3 (.inl (Ai _))
   have g3':=eU g3
   generalize min (a₀.size - lo) mr=n at as3 n1 n2
   clear g2 g2' rn2 as ou ou3 g3 m1 m2 hmin
   refine Au (Lb ?_)
   cases hb:(Ba Oh).back? with
   | none =>
    dsimp only
    refine Au (Hy ?_)
    refine Bc ⟨lo+n,rfl,⟨g3'.kind,g3'.fail,g3'.perm⟩,?_,n2,by omega⟩
    show Runs blt (arrOf Oh) ((Ba Oh).push (lo,n,0)).toList 0 (lo+n)
    rw[Nz]
    exact rn3.push n1 as3
   | some y =>
    obtain ⟨s1,l1,p1⟩:=y
    dsimp only
    refine Au (Ge (Eb
     (I:=λ_ c st'=>c=(none,())/\Good0 kd a₀ st'/\Runs blt (arrOf st') (Ba st').toList 0 lo/\Oy blt (arrOf st') lo (lo+n))
     (Q:=λc st'=>c=(none,())/\Good0 kd a₀ st'/\Runs blt (arrOf st') (Ba st').toList 0 lo/\Oy blt (arrOf st') lo (lo+n)) ?_ (λ_ _ z=>z) ⟨rfl,g3',rn3,as3⟩) ?_)
    ·(intro z c st4 _ _ q_; obtain ⟨rfl,g4,rn4,as4⟩ := q_)
     refine Au (Lb ?_)
     by_cases hs1:(Ba st4).size > 1
     ·rw[if_pos hs1]
      obtain ⟨⟨a1,b1,older⟩,ho⟩ : ∃x,(Ba st4)[(Ba st4).size - 2]? = some x:=⟨(Ba st4)[(Ba st4).size - 2],by simp⟩
      rw[ho]
      dsimp only
      refine Ml (λ_=>Bc ⟨rfl,g4,rn4,as4⟩) (λ_=>?_)
      refine Au (bN C g4 h0 hlo rn4 (i:=(Ba st4).size - 2) (show (Ba st4).size - 2+1<(Ba st4).size by omega) λst5 g5 rn5 _ keep=>?_)
      refine Ml (λz=>absurd z (by decide)) (λ_=>?_)
      exact Bc ⟨rfl,g5,rn5,keep _ _ (Ai _) as4⟩
     ·rw[if_neg hs1]
      exact Bc ⟨rfl,g4,rn4,as4⟩
    ·(intro c st4 q_; obtain ⟨rfl,g4,rn4,as4⟩ := q_)
     dsimp only
     refine Au (Hy ?_)
     refine Au (Hy ?_)
     refine Bc ⟨lo+n,rfl,⟨g4.kind,g4.fail,g4.perm⟩,?_,n2,by omega⟩
     show Runs blt (arrOf st4) (((Ba st4).modify ((Ba st4).size - 1) _).push (lo,n,0)).toList 0 (lo+n)
     rw[Nz,Array.toList_modify]
     exact (rn4.power _).push n1 as4
  ·have n2:lo+m<=a₀.size:=by omega
   refine Au (Lb ?_)
   cases hb:(Ba st2).back? with
   | none =>
    dsimp only
    refine Au (Hy ?_)
    refine Bc ⟨lo+m,rfl,⟨g2'.kind,g2'.fail,g2'.perm⟩,?_,n2,by omega⟩
    show Runs blt (arrOf st2) ((Ba st2).push (lo,m,0)).toList 0 (lo+m)
    rw[Nz]
    exact rn2.push m1 as
   | some y =>
    obtain ⟨s1,l1,p1⟩:=y
    dsimp only
    refine Au (Ge (Eb
     (I:=λ_ c st'=>c=(none,())/\Good0 kd a₀ st'/\Runs blt (arrOf st') (Ba st').toList 0 lo/\Oy blt (arrOf st') lo (lo+m))
     (Q:=λc st'=>c=(none,())/\Good0 kd a₀ st'/\Runs blt (arrOf st') (Ba st').toList 0 lo/\Oy blt (arrOf st') lo (lo+m)) ?_ (λ_ _ z=>z) ⟨rfl,g2',rn2,as⟩) ?_)
    ·(intro z c st4 _ _ q_; obtain ⟨rfl,g4,rn4,as4⟩ := q_)
     refine Au (Lb ?_)
     by_cases hs1:(Ba st4).size > 1
     ·rw[if_pos hs1]
      obtain ⟨⟨a1,b1,older⟩,ho⟩ : ∃x,(Ba st4)[(Ba st4).size - 2]? = some x:=⟨(Ba st4)[(Ba st4).size - 2],by simp⟩
      rw[ho]
      dsimp only
      refine Ml (λ_=>Bc ⟨rfl,g4,rn4,as4⟩) (λ_=>?_)
      refine Au (bN C g4 h0 hlo rn4 (i:=(Ba st4).size - 2) (show (Ba st4).size - 2+1<(Ba st4).size by omega) λst5 g5 rn5 _ keep=>?_)
      refine Ml (λz=>absurd z (by decide)) (λ_=>?_)
      exact Bc ⟨rfl,g5,rn5,keep _ _ (Ai _) as4⟩
     ·rw[if_neg hs1]
      exact Bc ⟨rfl,g4,rn4,as4⟩
    ·(intro c st4 q_; obtain ⟨rfl,g4,rn4,as4⟩ := q_)
     dsimp only
     refine Au (Hy ?_)
     refine Au (Hy ?_)
     refine Bc ⟨lo+m,rfl,⟨g4.kind,g4.fail,g4.perm⟩,?_,n2,by omega⟩
     show Runs blt (arrOf st4) (((Ba st4).modify ((Ba st4).size - 1) _).push (lo,m,0)).toList 0 (lo+m)
     rw[Nz,Array.toList_modify]
     exact (rn4.power _).push m1 as4
 ·(intro c st1 q_; obtain ⟨lo,rfl,g1,rn,hlo,hxl⟩ := q_)
  have : max 0 a₀.size=a₀.size:=by omega
  rw[this] at hxl
  have e:lo=a₀.size:=by omega
  subst e
  exact ⟨rfl,g1,rn⟩
 ·(intro c st1 q_; obtain ⟨rfl,g1,rn⟩ := q_)
  dsimp only
  have len0:=Runs.len rn
  rw[Av] at len0
  refine Au (Ge (Eb
   (I:=λx c st'=>c=(none,())/\Good0 kd a₀ st'/\Runs blt (arrOf st') (Ba st').toList 0 a₀.size/\((Ba st').size<=1\/(Ba st').size+x<=a₀.size))
   (Q:=λc st'=>c=(none,())/\Good0 kd a₀ st'/\Runs blt (arrOf st') (Ba st').toList 0 a₀.size/\(Ba st').size<=1) ?_ ?_ ⟨rfl,g1,rn,.inr (by omega)⟩) ?_)
  ·(intro x c st2 _ hx q_; obtain ⟨rfl,g2,rn2,hs⟩ := q_)
   refine Au (Lb ?_)
   refine Ml (λh1=>Bc ⟨rfl,g2,rn2,h1⟩) (λh1=>?_)
   have h1':¬ (Ba st2).size<=1:=h1
   generalize hB:Option.any _ _=bb
   have key:∀i,i+1<(Ba st2).size->wpS (model prog w) A E s (Sx i) (λr Oh=>r=true/\Good0 kd a₀ Oh/\Runs blt (arrOf Oh) (Ba Oh).toList 0 a₀.size/\(Ba Oh).size+1=(Ba st2).size) st2 :=
    λi hi=>bN C g2 h0 (Ai _) rn2 hi λOh g3 rn3 sz _=>⟨rfl,g3,rn3,sz⟩
   refine Au (Ge (key _ ?_) λr Oh ⟨er,g3,rn3,sz⟩=>?_)
   ·cases bb with
    | true=>show (Ba st2).size - 2 - 1+1<(Ba st2).size; omega
    | false=>show (Ba st2).size - 2+1<(Ba st2).size; omega
   subst er
   refine Ml (λz=>absurd z (by decide)) (λ_=>?_)
   exact Bc ⟨rfl,g3,rn3,.inr (by omega)⟩
  ·(intro c st2 q_; obtain ⟨rfl,g2,rn2,hs⟩ := q_)
   have : max 0 a₀.size=a₀.size:=by omega
   rw[this] at hs
   exact ⟨rfl,g2,rn2,by omega⟩
  ·(intro c st2 q_; obtain ⟨rfl,g2,rn2,hs⟩ := q_)
   dsimp only
   refine Bc (h st2 g2 ?_)
   generalize hl:(Ba st2).toList=l at rn2
   have hll:l.length<=1:=by rw[<- hl,Av]; exact hs
   match l,rn2,hll with
   | [],rn2,_ =>
    have e:0=a₀.size:=rn2
    omega
   | [(s1,n1,p1)],rn2,_ =>
    obtain ⟨_,_,as,e⟩:=rn2
    have e':0+n1=a₀.size:=e
    rw[e'] at as
    exact as
end
end Ts
namespace Ts
open PySem PyProof.Rows L2
theorem lQ:∀l:List Int,HT.lexLt l l=false
 | []=>rfl
 | x::r=>by rw[HT.lexLt_cons,if_pos rfl]; exact lQ r
theorem gV:∀{a b c:List Int},HT.lexLt a b=true->HT.lexLt b c=true->HT.lexLt a c=true
 | [],[],_,h,_=>by rw[HT.lexLt_nil_nil] at h; cases h
 | [],_::_,[],_,h=>by rw[HT.lexLt_cons_nil] at h; cases h
 | [],_::_,_::_,_,_=>HT.lexLt_nil_cons _ _
 | _::_,[],_,h,_=>by rw[HT.lexLt_cons_nil] at h; cases h
 | _::_,_::_,[],_,h=>by rw[HT.lexLt_cons_nil] at h; cases h
 | x::a,y::b,z::c,h1,h2=>by
  rw[HT.lexLt_cons] at h1 h2 ⊢
  by_cases e1:x=y
  ·subst e1
   rw[if_pos rfl] at h1
   by_cases e2:x=z
   ·subst e2
    rw[if_pos rfl] at h2 ⊢
    exact gV h1 h2
   ·rw[if_neg e2] at h2 ⊢
    exact h2
  ·rw[if_neg e1] at h1
   have l1:x<y:=of_decide_eq_true h1
   by_cases e2:y=z
   ·subst e2
    rw[if_neg e1]
    exact h1
   ·rw[if_neg e2] at h2
    have l2:y<z:=of_decide_eq_true h2
    rw[if_neg (by omega)]
    exact decide_eq_true (by omega)
theorem kU:∀{a b:List Int},HT.lexLt a b=false->HT.lexLt b a=false->a=b
 | [],[],_,_=>rfl
 | [],_::_,h,_=>by rw[HT.lexLt_nil_cons] at h; cases h
 | _::_,[],_,h=>by rw[HT.lexLt_nil_cons] at h; cases h
 | x::a,y::b,h1,h2=>by
  rw[HT.lexLt_cons] at h1 h2
  by_cases e:x=y
  ·subst e
   rw[if_pos rfl] at h1 h2
   rw[kU h1 h2]
  ·rw[if_neg e] at h1
   rw[if_neg (Nb e)] at h2
   have l1:=of_decide_eq_false h1
   have l2:=of_decide_eq_false h2
   omega
theorem wA{a b c:List Int}(h:HT.lexLt a c=true):HT.lexLt a b=true\/HT.lexLt b c=true:=by
 cases h1:HT.lexLt a b with
 | true=>exact .inl rfl
 | false =>
  cases h2:HT.lexLt b a with
  | true=>exact .inr (gV h2 h)
  | false =>
   rw[<- kU h1 h2]
   exact .inr h
def U7(c:Addr->List Int)(x:Keyed):List Int:=match x.1 with
 | .ref a=>c a
 | _=>[]
def V1(c:Addr->List Int)(x y:Keyed):Bool:=HT.lexLt (U7 c x) (U7 c y)
def mE(c:Addr->List Int)(rs:List Addr)(h:Heap):Prop:=∀r∈rs,∃its:List Value,Jd its (c r)/\IsTup h r its.toArray
section
variable{prog:Bx}{w:World}{A:Cs}{E:Value->Aj->Prop}{s:Aj}{c:Addr->List Int}{rs:List Addr}
theorem nQ(hH:mE c rs s.heap)(hu:A.units<cLine){a b:Addr}(ha:a∈rs)(hb:b∈rs){Q:Bool->Aj->Prop}(h:Q (HT.lexLt (c a) (c b)) s):wpAny (model prog w) A (oneLt' true (.ref a) (.ref b)) Q E s:=by
 obtain ⟨i1,t1,⟨c1,d1,dt1,sl1⟩,g1,k1,n1,e1⟩:=hH a ha
 obtain ⟨i2,t2,⟨c2,d2,dt2,sl2⟩,g2,k2,n2,e2⟩:=hH b hb
 simp only at k1 e1 k2 e2
 subst k1 e1 k2 e2
 rw[oneLt'_eq]
 simp only[if_true]
 refine Ah (wpAny_cRoomFor hu (Ah (wpAny_callSpecialIfBound?_slot ⟨_,g1,rfl⟩ PySem.F.slot_tuple_lt ?_)))
 refine Yi PySem.F.slot_tuple_lt ⟨_,g1,rfl⟩ PySem.F.entry_tuple_lt (PySem.F.args_tuple_lt_2 _ _) (HT.tuple_lt_ints a b _ _ n1 n2 d1 d2 sl1 sl2 (c a) (c b) (by simpa using t1) (by simpa using t2)) ⟨g1,g2,?_⟩
 exact Lc h
theorem uZ(hH:mE c rs s.heap)(hu:A.units<cLine):Cmp prog w A s oneType' (λx=>∃r∈rs,x.1=.ref r) (V1 c) where
 run:=λx y Q E ⟨r,hr,ex⟩ ⟨r',hr',ey⟩ h=>by
  obtain ⟨x1,x2⟩:=x
  obtain ⟨y1,y2⟩:=y
  simp only at ex ey
  subst ex ey
  rw[keyLt'_oneType]
  exact nQ hH hu hr hr' h
 irr:=λx=>lQ _
 tr:=λx y z h1 h2=>gV h1 h2
 neg:=λx y z h=>wA h
theorem Xo:∀{l:List Addr} {Q:List (Option Value)->Aj->Prop},(∀r∈l,∃its:List Value,Jd its (c r)/\IsTup s.heap r its.toArray)->(∀fs:List (Option Value),fs.length=l.length->(∀(i:Nat) (r:Addr),l[i]? = some r->∃f,fs[i]? = some f/\(f.isSome=true↔c r≠[]))->Q fs s)->wpAny (model prog w) A ((l.map Bb).mapM Xz) Q E s
 | [],Q,_,h=>by
  rw[Kh,List.mapM_nil]
  exact Aw (h [] rfl λi r e=>by simp at e)
 | r::l,Q,hH,h=>by
  obtain ⟨its,ti,o,g,k,n,e⟩:=hH r Aa
  rw[Ap,List.mapM_cons]
  have one:∀{R:Option Value->Aj->Prop},R its.toArray[0]? s->wpAny (model prog w) A (Xz (.ref r)) R E s:=λ{R} hR=>by
   unfold Xz
   refine Ah (Oa (T := "tuple") ⟨o,g,k⟩ ?_)
   rw[if_neg (by simp)]
   exact Ah (Zz g e (Aw hR))
  refine Ah (one (Ah (Xo (λr' hr'=>hH r' (Ae _ hr')) λfs hl hf=>Aw (h _ (by rw[Bm,Bm,hl]) λi r' er=>?_))))
  cases i with
  | zero =>
   have e':r=r':=by simpa using er
   subst e'
   refine ⟨_,rfl,?_⟩
   have hlen:=ti.length
   cases its with
   | nil =>
    cases hc:c r with
    | nil=>simp
    | cons _ _=>rw[hc] at hlen; simp at hlen
   | cons a b =>
    cases hc:c r with
    | nil=>rw[hc] at hlen; simp at hlen
    | cons _ _=>simp
  | succ i =>
   obtain ⟨f,h1,h2⟩:=hf i r' (by simpa using er)
   exact ⟨f,by simpa using h1,h2⟩
theorem Zp:∀{l:List Addr} {Q:List Value->Aj->Prop},(∀r∈l,∃its:List Value,Jd its (c r)/\IsTup s.heap r its.toArray)->Q (l.map λ_=>Fw "tuple") s->wpAny (model prog w) A ((l.map Bb).mapM typeOf) Q E s
 | [],Q,_,h=>by
  rw[Kh,List.mapM_nil]
  exact Aw h
 | r::l,Q,hH,h=>by
  obtain ⟨its,ti,o,g,k,n,e⟩:=hH r Aa
  rw[Ap,List.mapM_cons]
  exact Ah (Oa (T := "tuple") ⟨o,g,k⟩ (Ah (Zp (λr' hr'=>hH r' (Ae _ hr')) (Aw h))))
theorem sN{r:Addr}{l:List Addr}(hH:mE c (r::l) s.heap)(h0:c r=[]){Q:Kd->Aj->Prop}(h:Q oneType' s):wpAny (model prog w) A (keyKind' ((r::l).map Bb).toArray) Q E s:=by
 rw[keyKind'_eq,List.mapM_toArray]
 refine Ah ?_
 show wpAny (model prog w) A (List.toArray <$> ((r::l).map Bb).mapM Xz) _ E s
 rw[map_eq_pure_bind]
 refine Ah (Xo hH λfs hl hf=>Aw ?_)
 obtain ⟨f,h1,h2⟩:=hf 0 r rfl
 have fn:f=none:=by
  cases f with
  | none=>rfl
  | some v=>exact absurd h0 (h2.mp rfl)
 subst fn
 have na:¬ (fs.toArray.all λx=>x.isSome)=true:=by
  intro z
  have:=Array.all_eq_true'.mp z none (by
   have:=Ar h1
   simpa using this)
  simp at this
 have n0:¬ (fs.toArray[0]?.bind id).isSome=true:=by
  rw[List.getElem?_toArray,h1]
  simp
 rw[if_neg na,if_neg n0,oneTypeOnly'_eq,List.mapM_toArray]
 refine Ah (Ah ?_)
 show wpAny (model prog w) A (List.toArray <$> ((r::l).map Bb).mapM typeOf) _ E s
 rw[map_eq_pure_bind]
 refine Ah (Zp hH (Aw ?_))
 have e0:((r::l).map λ_=>Fw "tuple").toArray[0]? = some (Fw "tuple"):=by simp
 have ea:(((r::l).map λ_=>Fw "tuple").toArray.all λx=>x == Fw "tuple")=true:=by
  simp only[List.all_toArray,List.all_map,List.all_eq_true]
  intro _ _
  rfl
 rw[e0]
 dsimp only
 rw[ea,if_pos rfl]
 exact Aw (Aw h)
theorem mB{a:Addr}{n:Nat}{P:Fin->Aj->Prop}(hl:s.heap.get? a=some (Ds "list" (rs.map Bb).toArray n))(hH:mE c rs s.heap)(h0:∀r l,rs=r::l->c r=[])(hu:A.units<cLine)(hz:rs.length<=Aq)(h:∀rs':List Addr,rs'.Perm rs->rs'.Pairwise (λx y=>HT.lexLt (c y) (c x)=false)->P (.done (.ret .none)) { s with heap:=sortedHeap s.heap a (rs.map Bb) (rs'.map Bb).toArray }):wpAny (model prog w) A (Builtin.«list.sort» ⟨[.ref a],[]⟩) P E s:=by
 have lt:=Bp hl
 have hsz:(rs.map Bb).toArray.size=rs.length:=by simp
 rw[list_sort_plain]
 refine Ah (Zz hl rfl (Ah (Xy hl rfl ?_ (by rw[hsz]; exact hz))))
 obtain ⟨ep,hl1⟩ : ∃ep,(s.heap.update a (Da λ_=>#[])).get? a=some (Ds "list" #[] ep):=⟨_,Ta hl (λ_=>#[])⟩
 refine Ah (seqEpoch_at hl1 rfl (Ah (wpAny_newTuple (Ah (Xw (Ek ?_)) ))))
 have hl2:(((s.heap.update a (Da λ_=>#[])).push (Ds "tuple" (rs.map Bb).toArray 0)).push (Ds "list" #[] 0)).get? a=some (Ds "list" #[] ep):=by
  rw[Heap.get?_push_ne _ _ _ (by rw[Yg,Je]; exact Cy (Vs lt)),
   Heap.get?_push_ne _ _ _ (by rw[Je]; exact Cy lt)]
  exact hl1
 have kept:∀b o,b≠a->s.heap.get? b=some o->(((s.heap.update a (Da λ_=>#[])).push (Ds "tuple" (rs.map Bb).toArray 0)).push (Ds "list" #[] 0)).get? b=some o:=λb o hb e=>by
  refine Ao _ (Ao _ ?_)
  exact ((Dw s.heap a _).2 b hb).trans e
 have hH2:mE c rs (((s.heap.update a (Da λ_=>#[])).push (Ds "tuple" (rs.map Bb).toArray 0)).push (Ds "list" #[] 0)):=λr hr=>by
  obtain ⟨its,t1,o,g1,k1,m1,e1⟩:=hH r hr
  refine ⟨its,t1,o,kept r o ?_ g1,k1,m1,e1⟩
  rintro rfl
  rw[hl] at g1
  cases g1
  exact absurd k1 (by simp)
 show wpAny (model prog w) A _ P E { s with heap:=((s.heap.update a (Da λ_=>#[])).push (Ds "tuple" (rs.map Bb).toArray 0)).push (Ds "list" #[] 0) }
 dsimp only
 -- what is left jI the runs
 have fin:∀(out:Array Value) (rs':List Addr),out=(rs'.map Bb).toArray->rs'.Perm rs->rs'.Pairwise (λx y=>HT.lexLt (c y) (c x)=false) ->
   P (.done (.ret .none)) { s with heap:=sortedHeap s.heap a (rs.map Bb) out }:=λout rs' e p1 p2=>by rw[e]; exact h rs' p1 p2
 by_cases h2:(rs.map Bb).toArray.size<2
 ·rw[if_pos h2,if_pos h2]
  refine Ah (Aw ?_)
  rw[StateT.run_pure]
  refine Ah (Aw (Ah (seqEpoch_at hl2 rfl (Ah (Xy hl2 rfl ?_ (by simp) ?_)))))
  ·simp only[bne_self_eq_false,Cz,if_false]
   refine Aw (fin _ rs ?_ (Gw _) ?_)
   ·show Array.map (λx=>x.2) ((rs.map Bb).toArray.zip (rs.map Bb).toArray)=_
    apply Array.ext'
    simp [List.map_snd_zip]
   ·rw[hsz] at h2
    match rs,h2 with
    | [],_=>exact Fh
    | [_],_=>exact Co _ _
    | _::_::_,h2=>simp only[Bm] at h2; omega
  ·show (Array.map (λx:Keyed=>x.2) ((rs.map Bb).toArray.zip (rs.map Bb).toArray)).size<=Aq+1
   rw[Array.size_map,Array.size_zip,hsz]
   omega
 ·rw[if_neg h2,if_neg h2]
  rw[hsz] at h2
  obtain ⟨r0,Gf,e0⟩ : ∃r l,rs=r::l:=by
   cases rs with
   | nil=>simp at h2
   | cons r l=>exact ⟨r,l,rfl⟩
  have hk:∀{R:Kd->Aj->Prop},R oneType' { s with heap:=((s.heap.update a (Da λ_=>#[])).push (Ds "tuple" (rs.map Bb).toArray 0)).push (Ds "list" #[] 0) } ->
    wpAny (model prog w) A (keyKind' (rs.map Bb).toArray) R E { s with heap:=((s.heap.update a (Da λ_=>#[])).push (Ds "tuple" (rs.map Bb).toArray 0)).push (Ds "list" #[] 0) }:=λ{R} hR=>by
   have hH3:=hH2
   rw[e0] at hH3 hR ⊢
   exact sN hH3 (h0 r0 Gf e0) hR
  refine Ah (hk ?_)
  have C:=uZ (prog:=prog) (w:=w) (A:=A) (s:={ s with heap:=((s.heap.update a (Da λ_=>#[])).push (Ds "tuple" (rs.map Bb).toArray 0)).push (Ds "list" #[] 0) }) hH2 hu
  have a0:(pairsOf (rs.map Bb)).size=rs.length:=by rw[pairsOf_size,Af]
  refine Ah (Cf (mJ C (a₀:=pairsOf (rs.map Bb)) (st:=SortSt.mk' oneType' ((rs.map Bb).toArray.zip (rs.map Bb).toArray) #[] 7 none) (E:=E)
   (Q:=λ_ st'=>Good0 oneType' (pairsOf (rs.map Bb)) st'/\Oy (V1 c) (arrOf st') 0 (pairsOf (rs.map Bb)).size)
   ⟨rfl,rfl,Array.Perm.refl _⟩ (λx hx=>?_) rfl (by rw[a0]; omega) λst' g as=>⟨g,as⟩) ?_ λ_ _ z=>z)
  ·rw[pairsOf_toList] at hx
   obtain ⟨_,hm⟩:=mem_zip_self hx
   obtain ⟨r,hr,e⟩:=Ce.mp hm
   exact ⟨r,hr,e.symm⟩
  ·(rintro ⟨⟨⟩,st'⟩ s' q_; obtain ⟨rfl,g,as⟩ := q_)
   dsimp only
   -- the things of the new order
   have pl:(arrOf st').toList.Perm ((rs.map Bb).zip (rs.map Bb)):=by rw[<- pairsOf_toList]; exact Mv.mp g.perm
   have each:∀x∈(arrOf st').toList,∃r∈rs,x=(Bb r,Bb r):=λx hx=>by
    obtain ⟨e,hm⟩:=mem_zip_self (pl.mem_iff.mp hx)
    obtain ⟨r,hr,e2⟩:=Ce.mp hm
    refine ⟨r,hr,?_⟩
    obtain ⟨x1,x2⟩:=x
    simp only at e e2
    rw[<- e,e2]
   have ex:∀l:List Keyed,(∀x∈l,∃r∈rs,x=(Bb r,Bb r))->∃rs':List Addr,l=rs'.map λr=>(Bb r,Bb r):=by
    intro l
    induction l with
    | nil=>intro _; exact ⟨[],rfl⟩
    | cons x l ih =>
     intro hx
     obtain ⟨r,_,e⟩:=hx x Aa
     obtain ⟨rs',e'⟩:=ih λy hy=>hx y (Ae _ hy)
     exact ⟨r::rs',by rw[Ap,e,e']⟩
   obtain ⟨rs',ers⟩:=ex _ each
   have zz:(rs.map Bb).zip (rs.map Bb)=rs.map λr=>(Bb r,Bb r):=by
    rw[List.zip_map',]
   rw[ers,zz] at pl
   have inj:∀x:Keyed,∃a:Addr,True:=λ_=>⟨0,trivial⟩
   have pr:rs'.Perm rs:=by
    have:=pl.map (λx:Keyed=>match x.1 with | .ref a=>a | _=>0)
    rw[Eh,Eh] at this
    simpa [Function.comp_def] using this
   have so:rs'.Pairwise (λx y=>HT.lexLt (c y) (c x)=false):=by
    rw[cQ]
    intro i j hi hj hij
    have ls:(arrOf st').size=rs'.length:=by
     have:=congrArg Fp ers
     rw[Av,Af] at this
     exact this
    have xe:∀k (hk:k<rs'.length),X (arrOf st') k=(Bb rs'[k],Bb rs'[k]):=λk hk=>by
     have e1:=Dz (Uy (xs:=arrOf st') (i:=k) (by omega))
     rw[ers,Bg,Bs hk] at e1
     exact (Be e1).symm
    have:=as i j (Dl _) (by omega) (by rw[a0,<- pr.length_eq]; exact hj)
    rw[xe i hi,xe j hj] at this
    exact this
   refine Ah (seqEpoch_at hl2 rfl (Ah (Xy hl2 rfl ?_ (by simp) ?_)))
   ·have fl:Kb st'=none:=g.fail
    rw[fl]
    simp only[bne_self_eq_false,Cz,if_false]
    refine Aw (fin _ rs' ?_ pr so)
    apply Array.ext'
    rw[Array.toList_map,ers,Eh]
    rfl
   ·show (Array.map (λx:Keyed=>x.2) (arrOf st')).size<=Aq+1
    rw[Array.size_map,g.size,a0]
    omega
end
theorem Zi:∀{rs:List Addr} {us:List Value},Ey (rs.map V.ref) us->us=rs.map Bb
 | [],_,r=>by cases r; rfl
 | a::l,_,r=>by
  rw[Ap] at r
  cases r with
  | cons r1 r2 =>
   cases r1
   rw[Zi r2]
   rfl
theorem Zx:∀rs:List Addr,Ey (rs.map V.ref) (rs.map Bb)
 | []=>.nil
 | _::l=>.cons rfl (Zx l)
section
variable{prog:Bx}{w:World}{A:Cs}{E:Value->Aj->Prop}{s:Aj}{c:Addr->List Int}{rs:List Addr}
theorem eO{l:Addr}{Q:Value->Aj->Prop}(hl:s.heap.IsList l (rs.map Bb).toArray)(hH:mE c rs s.heap)(h0:∀r l,rs=r::l->c r=[])(hu:A.units+2<cLine)(hz:rs.length<=Aq)(h:∀rs':List Addr,rs'.Perm rs->rs'.Pairwise (λx y=>HT.lexLt (c y) (c x)=false)->Q (.ref (s.heap.objs.size+1)) { s with heap:=Vb s.heap (rs.map Bb) (rs'.map Bb).toArray }):wpAny (model prog w) A (call (.builtin "sorted") [.ref l]) Q E s:=by
 refine cM (by exact kind_sorted) plain_sorted entry_sorted (args_sorted1 _) ?_
 unfold Builtin.«sorted»
 refine Ah (m:=checkCount "sorted" 1 1 _) (Aw (Ah (collect_list hl (Ah (Xw ?_)) (by rw[Af]; exact hz))))
 have z1:((s.heap.push (Ds "list" #[] 0)).update s.heap.objs.size (Da (·++(rs.map Bb).toArray))).objs.size=s.heap.objs.size+1:=by rw[Je,Yg]
 have g1:(((s.heap.push (Ds "list" #[] 0)).update s.heap.objs.size (Da (·++(rs.map Bb).toArray))).push (Ds "list" (rs.map Bb).toArray 0)).get? (s.heap.objs.size+1)=some (Ds "list" (rs.map Bb).toArray 0):=by
  rw[<- z1]
  exact Bn _ rfl
 have kept:∀b o,s.heap.get? b=some o->(((s.heap.push (Ds "list" #[] 0)).update s.heap.objs.size (Da (·++(rs.map Bb).toArray))).push (Ds "list" (rs.map Bb).toArray 0)).get? b=some o:=λb o e=>by
  refine Ao _ (((Dw _ _ _).2 b (Cy (Bp e))).trans (Ao _ e))
 show wpAny _ _ _ _ _ { s with heap:=((s.heap.push (Ds "list" #[] 0)).update s.heap.objs.size (Da (·++(rs.map Bb).toArray))).push (Ds "list" (rs.map Bb).toArray 0) }
 rw[z1]
 refine Ah (Ek (Qu slot_list_sort ⟨_,g1,rfl⟩ entry_list_sort (mB g1 (λr hr=>?_) h0 ?_ hz λrs' p1 p2=>⟨_,rfl,?_⟩) (args_list_sort _)))
 ·obtain ⟨its,t1,o,q1,k1,m1,e1⟩:=hH r hr
  exact ⟨its,t1,o,kept r o q1,k1,m1,e1⟩
 ·first | exact Nh (by show A.units+2<=A.units+2; exact Ai _) hu | exact Nh (Nat.le_add_right _ 2) hu | (show A.units+1<cLine; omega) | trace_state
 ·exact Aw ⟨_,rfl,h rs' p1 p2⟩
theorem Ux{h:Heap}{vs:List Value}{out:Array Value}{b:Addr}{o:Obj}(e:h.get? b=some o):(Vb h vs out).get? b=some o:=by
 have lt:=Bp e
 unfold Vb sortedHeap
 have z1:((h.push (Ds "list" #[] 0)).update h.objs.size (Da (·++vs.toArray))).objs.size=h.objs.size+1:=by rw[Je,Yg]
 have n1:b≠h.objs.size+1:=Cy (Vs lt)
 refine ((Dw _ _ _).2 b n1).trans (Ao _ (Ao _ (((Dw _ _ _).2 b n1).trans (Ao _ ?_))))
 exact ((Dw _ _ _).2 b (Cy lt)).trans (Ao _ e)
theorem Yo{h:Heap}{vs:List Value}{out:Array Value}:∃n,(Vb h vs out).get? (h.objs.size+1)=some (Ds "list" out n):=by
 unfold Vb sortedHeap
 have z1:((h.push (Ds "list" #[] 0)).update h.objs.size (Da (·++vs.toArray))).objs.size=h.objs.size+1:=by rw[Je,Yg]
 have g1:(((h.push (Ds "list" #[] 0)).update h.objs.size (Da (·++vs.toArray))).push (Ds "list" vs.toArray 0)).get? (h.objs.size+1)=some (Ds "list" vs.toArray 0):=by
  rw[<- z1]
  exact Bn _ rfl
 have g2:=Ta g1 (λ_=>#[])
 have g3:=Ao (Ds "list" #[] 0) (Ao (Ds "tuple" vs.toArray 0) g2)
 exact ⟨_,Ta g3 (λ_=>out)⟩
end
section
variable{X:Cx}
theorem call_sorted(hu:X.A.units+2<cLine):Nu X (.builtin "sorted") (λxs H Q=>∃(a:Addr) (rs:List Addr) (c:Addr->List Int),xs=[.ref a]/\Rr X.K H a (rs.map V.ref)/\(∀r∈rs,Qs X.K H r ((c r).map V.int))/\(∀r l,rs=r::l->c r=[])/\∀(p:Addr) (rs':List Addr),H p=none->rs'.Perm rs->rs'.Pairwise (λx y=>HT.lexLt (c y) (c x)=false)->Q (.ref p) (upd H p (.lst (rs'.map V.ref)))):=by
 intro pins s σ H xs us Q I r h
 obtain ⟨a,rs,c,rfl,hl,hc,h0,q⟩:=h
 obtain ⟨u,rfl,ru⟩:=vals1 r
 cases ru
 obtain ⟨its,rv,pl,hz⟩:=I.list hl
 have e:=Zi rv
 subst e
 rw[Af] at hz
 refine eO (c:=c) pl.isList (λr hr=>?_) h0 hu hz λrs' p1 p2=>?_
 ·obtain ⟨ti,t1,t2,_⟩:=I.tuple (hc r hr)
  exact ⟨ti,intsAre_of t1,t2⟩
 ·obtain ⟨n,hn⟩:=Yo (h:=s.heap) (vs:=rs.map Bb) (out:=(rs'.map Bb).toArray)
  refine ⟨.ref (s.heap.objs.size+1),upd H (s.heap.objs.size+1) (.lst (rs'.map V.ref)),I.laid (t':=s.toks) (λb o e=>Ux e) (Ln _) ⟨?_,_,n,Zx rs',hn⟩,rfl,q _ rs' (I.hok.fresh (Ln _)) p1 p2⟩
  rw[Af,p1.length_eq]
  exact hz
end
end Ts
namespace DL
open PySem L2 Nd
def Ke{α:Type}(xs:List α)(lo hi:Option Int):List α:=(xs.drop (HT.sIx xs.length 0 lo)).take (HT.sIx xs.length xs.length hi - HT.sIx xs.length 0 lo)
theorem gE{α β:Type}(f:α->β)(xs:List α)(lo hi:Option Int):Ke (xs.map f) lo hi=(Ke xs lo hi).map f:=by
 unfold Ke
 rw[Af,List.map_take,List.map_drop]
theorem Wj{α:Type}(xs:List α)(lo hi:Option Int):(Ke xs lo hi).Sublist xs:=(Ie _ _).trans (Gv _ _)
theorem mF{α:Type}(xs:List α)(k:Nat):Ke xs none (some (k:Int))=xs.take k:=by
 unfold Ke
 rw[HT.sIx_none,HT.sIx_nat,Hl,Nat.sub_zero]
 by_cases h:k<=xs.length
 ·rw[Nat.min_eq_left h]
 ·rw[Nat.min_eq_right (by omega),Dq,Eu (by omega)]
section
variable{K:PySem.W.Frag}{H:Hp}
theorem RdFs.drop:∀(n:Nat) {xs:List V} {ds:List Ab} {F:List Addr},RdFs K H xs ds F->∃G,RdFs K H (xs.drop n) (ds.drop n) G/\G.Sublist F
 | 0,_,_,F,h=>⟨F,h,Ci _⟩
 | n+1,_,_,_,.nil=>⟨[],.nil,Ci _⟩
 | n+1,_,_,_,.cons _ t=>by
  obtain ⟨G,h1,h2⟩:=RdFs.drop n t
  exact ⟨G,h1,h2.trans (Bj _ _)⟩
theorem RdFs.take:∀(n:Nat) {xs:List V} {ds:List Ab} {F:List Addr},RdFs K H xs ds F->∃G,RdFs K H (xs.take n) (ds.take n) G/\G.Sublist F
 | 0,_,_,F,h=>⟨[],.nil,Yd _⟩
 | n+1,_,_,_,.nil=>⟨[],.nil,Ci _⟩
 | n+1,_,_,_,.cons a t=>by
  obtain ⟨G,h1,h2⟩:=RdFs.take n t
  exact ⟨_,.cons a h1,(Ci _).append h2⟩
theorem RdFs.cut{xs:List V}{ds:List Ab}{F:List Addr}(h:RdFs K H xs ds F)(lo hi:Option Int):∃G,RdFs K H (Wf xs lo hi) (Ke ds lo hi) G/\G.Sublist F:=by
 unfold Wf Ke
 rw[h.len]
 obtain ⟨G,h1,h2⟩:=h.drop (HT.sIx ds.length 0 lo)
 obtain ⟨G',h3,h4⟩:=h1.take (HT.sIx ds.length ds.length hi - HT.sIx ds.length 0 lo)
 exact ⟨G',h3,h4.trans h2⟩
theorem RdFs.ints:∀ns:List Int,RdFs K H (ns.map V.int) (ns.map Bl) []
 | []=>.nil
 | n::ns=>RdFs.cons (F:=[]) (.int n) (RdFs.ints ns)
theorem RdFs.ints_inv:∀{ns:List Int} {xs:List V} {F:List Addr},RdFs K H xs (ns.map Bl) F->xs=ns.map V.int/\F=[]
 | [],_,_,h=>by cases h; exact ⟨rfl,rfl⟩
 | n::ns,_,_,h=>by
  rw[Ap] at h
  cases h with
  | cons a t =>
   obtain ⟨rfl,rfl⟩:=a.int_inv
   obtain ⟨rfl,rfl⟩:=RdFs.ints_inv t
   exact ⟨rfl,rfl⟩
end
theorem Xc{a b:List Ab}:Dj (a++b)=(Dj a && Dj b):=by
 induction a with
 | nil=>simp [Dj]
 | cons x a ih=>simp [Dj,ih,Bool.and_assoc]
theorem Ov(ns:List Int):Dj (ns.map Bl)=true:=Rg (λ_=>by simp [imm]) ns
def kQ:D2:=λx y P=>match x,y with
 | .dat _ (.list ds),.dat _ (.list es)=>Dj ds=true/\Dj es=true/\ds.length+es.length<=1000000/\P (.dat .ow (.list (ds++es)))
 | _,_=>False
def aJ:D2:=λx y P=>match x,y with
 | .dat _ (.tuple ds),.dat _ (.tuple es)=>Dj ds=true/\Dj es=true/\ds.length+es.length<=1000000/\P (.dat .ow (.tuple (ds++es)))
 | _,_=>False
def V0:D2:=λx y P=>match x,y with
 | .dat _ (.list ds),.dat _ (.int k)=>Dj ds=true /\ -1000000<=k/\k<=1000000/\ds.length * k.toNat<=1000000/\P (.dat .ow (.list (Hj k.toNat ds).flatten))
 | _,_=>False
section
variable{K:PySem.W.Frag}
theorem j7:jB K K9 kQ:=by
 intro H0 X n S T x y v w F G H Q P hA hd k
 unfold kQ at hd
 split at hd
 ·obtain ⟨i1,i2,hz,p⟩:=hd
  obtain ⟨b,ys,G1,rfl,hb,rb,_,_⟩:=(hA.told mem_mid).list_inv
  obtain ⟨a,xs,G2,rfl,ha,ra,_,_⟩:=(hA.told Fi).list_inv
  have l1:=ra.len
  have l2:=rb.len
  refine ⟨a,b,xs,ys,rfl,rfl,ha,hb,cO (by omega),λq hq=>?_⟩
  exact k _ _ _ _ (hA.drop2.newI (ra.app rb) (by rw[Xc,i1,i2]; rfl) (by rw[Ay]; exact cO (by omega)) hq .ow) p
 ·exact hd.elim
theorem wI:jB K (yQ K) aJ:=by
 intro H0 X n S T x y v w F G H Q P hA hd k
 unfold aJ at hd
 split at hd
 ·obtain ⟨i1,i2,hz,p⟩:=hd
  obtain ⟨b,ys,rfl,hb,rb,zb⟩:=(hA.told mem_mid).tup_inv
  obtain ⟨a,xs,rfl,ha,ra,za⟩:=(hA.told Fi).tup_inv
  have l1:=ra.len
  have l2:=rb.len
  obtain rfl:=ra.imm i1
  obtain rfl:=rb.imm i2
  refine ⟨a,b,xs,ys,rfl,rfl,Qs.of ha,Qs.of hb,cO (by omega),λe=>?_,λe=>?_,λq hq=>?_⟩
  ·subst e
   obtain rfl:=Jy.mp (l1.symm.trans rfl)
   exact k _ _ [] _ (hA.drop2.pushI (.tup hb zb rb)) p
  ·subst e
   obtain rfl:=Jy.mp (l2.symm.trans rfl)
   rw[Ea] at p
   exact k _ _ [] _ (hA.drop2.pushI (.tup ha za ra)) p
  ·have s1:=En hq (.tup (xs++ys))
   exact k _ _ [] _ ((hA.drop2.grow s1 (Ai _)).pushI (.tup Dd (by rw[Ay]; exact cO (by omega)) ((ra.app rb).kp (Kp.of s1)))) p
 ·exact hd.elim
end
section
variable{X:Cx}{a b:Expr}{da db:DE}{pos:Pos}
theorem hZ(ha:Ff X a da)(hb:Ff X b db):Ff X (.BinOp a .Add b pos) (Xi kQ da db):=eE sQ j7 ha hb
theorem bX(ha:Ff X a da)(hb:Ff X b db):Ff X (.BinOp a .Add b pos) (Xi aJ da db):=eE wR wI ha hb
end
abbrev DO:=DS->(Option Int->DS->Prop)->Prop
def LO(K:PySem.W.Frag)(do_:DO):TO:=λσ H Q=>∃(H0:Hp) (X:Addr->Prop) (S T:List Ent) (δ:DS) (P:Option Int->DS->Prop),vs S=σ/\Sl S δ/\At K H0 X δ.n (S++T) H/\do_ δ P /\
 ∀o δ' S' H',vs S'=σ->Sl S' δ'->At K H0 X δ'.n (S'++T) H'->P o δ'->Q o H'
abbrev B8(X:Cx)(e:Option Expr)(d:DO):Prop:=PO X e (LO X.K d)
theorem PO.imp{X:Cx}{e:Option Expr}{t t':TO}(h:PO X e t)(k:∀σ H Q,t' σ H Q->t σ H Q):PO X e t':=λpins s σ H Q I q=>h pins s σ H Q I (k σ H Q q)
def kS:DO:=λδ P=>P none δ
def yE(de:DE):DO:=λδ P=>de δ λx δ'=>match x with
 | .dat _ (.int i)=>P (some i) δ'
 | _=>False
section
variable{X:Cx}{e:Expr}{de:DE}{lo hi:Option Expr}{dl dh:DO}{pos p2:Pos}
theorem Nj:B8 X none kS:=by
 refine PO.imp xP λσ H Q h=>?_
 obtain ⟨H0,Y,S,T,δ,P,rfl,hS,hA,hd,k⟩:=h
 exact k _ δ S H rfl hS hA hd
theorem Nr(h:Ff X e de):B8 X (some e) (yE de):=by
 refine PO.imp (vW h) λσ H Q h=>?_
 obtain ⟨H0,Y,S,T,δ,P,rfl,hS,hA,hd,k⟩:=h
 refine ⟨H0,Y,S,T,δ,_,rfl,hS,hA,hd,λx δ' v F S' H' e1 e2 hA' p=>?_⟩
 split at p
 ·obtain ⟨rfl,_⟩:=(hA'.told mem_mid).int_inv
  exact ⟨_,rfl,k _ δ' S' H' e1 e2 hA'.drop p⟩
 ·exact p.elim
def W4(i:Bool)(de:DE)(dl dh:DO):DE:=λδ P=>de δ λx δ1=>dl δ1 λl δ2=>dh δ2 λh δ3=>match x with
 | .dat m (.list ds)=>We i m (Ke ds l h) λz=>P z δ3
 | .dat m (.tuple ds)=>aN i m (Ke ds l h) λz=>P z δ3
 | _=>False
def Q1(K:PySem.W.Frag):V->Option Int->Option Int->Hp->VK->Prop:=λx lo hi H Q=>A7 K x lo hi H Q\/zB x lo hi H Q
theorem Pe{i:Bool}(he:Ff X e de)(hl:B8 X lo dl)(hh:B8 X hi dh):Ff X (.Subscript e (.Slice lo hi none p2) pos) (W4 i de dl dh):=by
 refine PE.imp (eJ (r:=Q1 X.K) (xO.or wZ) he hl hh) λσ H Q h=>?_
 obtain ⟨H0,Y,S,T,δ,P,rfl,hS,hA,hd,k⟩:=h
 refine ⟨H0,Y,S,T,δ,_,rfl,hS,hA,hd,λx δ1 v F S1 H1 e1 e2 hA1 p1=>?_⟩
 refine ⟨H0,Y,S1,⟨some v,x,F⟩::T,δ1,_,e1,e2,hA1,p1,λl δ2 S2 H2 e3 e4 hA2 p2=>?_⟩
 refine ⟨H0,Y,S2,⟨some v,x,F⟩::T,δ2,_,e3,e4,hA2,p2,λh δ3 S3 H3 e5 e6 hA3 p3=>?_⟩
 split at p3
 ·obtain ⟨a,xs,G,rfl,ha,ra,rfl,hz⟩:=(hA3.told mem_mid).list_inv
  refine .inl ⟨a,xs,rfl,Rr.of ha,λp hp=>?_⟩
  obtain ⟨G',h1,h2⟩:=ra.cut l h
  obtain ⟨z,F',hA4,p4⟩:=hA3.newL h1 (h2.trans (Ck _ _)) (Bv (Wj _ _ _).length_le hz) hp p3
  exact k z δ3 _ F' S3 _ e5 e6 hA4 p4
 ·obtain ⟨a,xs,rfl,ha,ra,hz⟩:=(hA3.told mem_mid).tup_inv
  refine .inr ⟨a,xs,rfl,ha,λp H' hp s1=>?_⟩
  obtain ⟨G',h1,h2⟩:=ra.cut l h
  obtain ⟨z,F',hA4,p4⟩:=(hA3.grow s1 (Ai _)).oldT (h1.kp (Kp.of s1)) h2 (Bv (Wj _ _ _).length_le hz) hp p3
  exact k z δ3 _ F' S3 _ e5 e6 hA4 p4
 ·exact p3.elim
end
end DL
namespace NdS
open PySem PyProof.Rows
end NdS
namespace Nd
open PySem PySem.Spec PyProof.Rows L2 NdS
end Nd
namespace DL
open PySem L2 Nd
def qB(x:Int):List Int->List Int
 | []=>[x]
 | y::l=>if x<y then x::y::l else if x=y then y::l else y::qB x l
def J9(ns:List Int):List Int:=ns.foldr qB []
theorem pR{x z:Int}:∀{l:List Int},z∈qB x l↔z=x\/z∈l
 | []=>by simp [qB]
 | y::l=>by
  unfold qB
  split
  ·simp
  ·split
   ·rename_i h1 h2
    subst h2
    simp
   ·simp only[Ak,pR (l:=l)]
    constructor
    ·rintro (h | h | h) <;> simp [h]
    ·rintro (h | h | h) <;> simp [h]
theorem Xd:∀{l m:List Int},l.Perm m->l.Pairwise (·<=·)->m.Pairwise (·<=·)->l=m
 | [],m,p,_,_=>(List.nil_perm.mp p).symm
 | a::l,[],p,_,_=>(List.perm_nil.mp p)
 | a::l,b::m,p,h1,h2=>by
  obtain ⟨q1,r1⟩:=Ax.mp h1
  obtain ⟨q2,r2⟩:=Ax.mp h2
  have e:a=b:=by
   rcases Ak.mp (p.mem_iff.mp Aa) with z | z
   ·exact z
   ·rcases Ak.mp (p.mem_iff.mpr Aa) with y | y
    ·exact y.symm
    ·have:=q2 a z; have:=q1 b y; omega
  subst e
  rw[Xd (List.perm_cons _ |>.mp p) r1 r2]
def mC(x:Int):List Int->List Int
 | []=>[x]
 | y::l=>if x<=y then x::y::l else y::mC x l
def Wa(ns:List Int):List Int:=ns.foldr mC []
theorem mT{x:Int}:∀{l:List Int},(mC x l).Perm (x::l)
 | []=>Gw _
 | y::l=>by
  unfold mC
  split
  ·exact Gw _
  ·exact ((mT (l:=l)).cons y).trans (Dv _ _ _)
theorem Lq:∀ns:List Int,(Wa ns).Perm ns
 | []=>Gw _
 | n::ns=>mT.trans ((Lq ns).cons n)
theorem jY{x:Int}:∀{l:List Int},l.Pairwise (·<=·)->(mC x l).Pairwise (·<=·)
 | [],_=>Co _ _
 | y::l,h=>by
  obtain ⟨h1,h2⟩:=Ax.mp h
  unfold mC
  split
  ·rename_i hx
   refine Ax.mpr ⟨λz hz=>?_,h⟩
   rcases Ak.mp hz with rfl | hz
   ·exact hx
   ·exact Int.le_trans hx (h1 z hz)
  ·refine Ax.mpr ⟨λz hz=>?_,jY h2⟩
   rcases Ak.mp (mT.mem_iff.mp hz) with rfl | hz
   ·omega
   ·exact h1 z hz
theorem Xv:∀ns:List Int,(Wa ns).Pairwise (·<=·)
 | []=>Fh
 | n::ns=>jY (Xv ns)
theorem pX{l ns:List Int}(p:l.Perm ns)(h:l.Pairwise (·<=·)):l=Wa ns:=Xd (p.trans (Lq ns).symm) h (Xv ns)
theorem oP(ns:List Int):(Wa ns).length=ns.length:=(Lq ns).length_eq
abbrev DC:=List DV->(DV->Prop)->Prop
def Qr(K:PySem.W.Frag)(r:List V->Hp->VK->Prop)(rd:DC):Prop:=∀(H0:Hp) (X:Addr->Prop) (n:Nat) (S T As:List Ent) (us:List V) (H:Hp) (Q:VK) (P:DV->Prop),
 As.map Ent.v=us.map some->At K H0 X n (S++(As++T)) H->rd (As.map Ent.x) P->(∀z u F' H',At K H0 X n (S++⟨some u,z,F'⟩::T) H'->P z->Q u H')->r us H Q
def L3(rd:DC)(da:DA):DE:=λδ P=>da δ λxs δ1=>rd xs λz=>P z δ1
section
variable{X:Cx}{x:Str}{p pos:Pos}{e:Expr}{es:List Expr}{da:DA}{id T:String}{r:List V->Hp->VK->Prop}{rd:DC}
theorem tH{K:PySem.W.Frag}(o:Qr K r rd):∀σ H Q,LE K (L3 rd da) σ H Q->K3 r (LA K da) σ H Q:=by
 intro σ H Q h
 obtain ⟨H0,Y,S,T,δ,P,rfl,hS,hA,hd,k⟩:=h
 refine ⟨H0,Y,S,T,δ,_,rfl,hS,hA,hd,λxs δ' As us S' H' e1 e2 ex eu hA' p=>?_⟩
 subst ex
 exact o H0 Y δ'.n S' T As us H' Q _ eu hA' p λz u F' H'' hA3 p3=>k z δ' u F' S' H'' e1 e2 hA3 p3
theorem Fu(hc:Nu X (.builtin id) r)(o:Qr X.K r rd)(hg:Gl X x)(hm:X.mg x=none)(hv:Ia x=some (.builtin id))(ha:iO X (e::es) da)(hn:x ≠ "__name__" := by decide)(hdb:(x == ("__debug__" : Str))=false:=by decide)(he:Bf (e::es) X.env=(false,eval e X.env)::Bf es X.env:=by rfl)(hpl:(Fs pos (Bf es X.env)).any (·.1)=false:=by rfl):Ff X (.Call (.Name x p) (e::es) [] pos) (L3 rd da) :=
 PE.imp (fH hc hg hm hv ha hn hdb he hpl) (tH o)
theorem Tx(hc:Nu X (.type T) r)(o:Qr X.K r rd)(hg:Gl X x)(hm:X.mg x=none)(hv:Ia x=some (.type T))(ha:iO X (e::es) da)(hn:x ≠ "__name__" := by decide)(hdb:(x == ("__debug__" : Str))=false:=by decide)(he:Bf (e::es) X.env=(false,eval e X.env)::Bf es X.env:=by rfl)(hpl:(Fs pos (Bf es X.env)).any (·.1)=false:=by rfl):Ff X (.Call (.Name x p) (e::es) [] pos) (L3 rd da) :=
 PE.imp (mW hc hg hm hv ha hn hdb he hpl) (tH o)
end
theorem zQ{α β:Type}{f:α->β}{l:List α}{x:β}(h:l.map f=[x]):∃a,l=[a]/\f a=x:=by
 cases l with
 | nil=>cases h
 | cons a t =>
  obtain ⟨h1,h2⟩:=Fz h
  exact ⟨a,by rw[oU.mp h2],h1⟩
theorem D0{α β:Type}{f:α->β}{l:List α}{x y:β}(h:l.map f=[x,y]):∃a b,l=[a,b]/\f a=x/\f b=y:=by
 cases l with
 | nil=>cases h
 | cons a t =>
  obtain ⟨h1,h2⟩:=Fz h
  obtain ⟨b,rfl,h3⟩:=zQ h2
  exact ⟨a,b,rfl,h1,h3⟩
theorem Jr{K:PySem.W.Frag}{H0 H:Hp}{X:Addr->Prop}{n:Nat}{S T As:List Ent}{us:List V}{x:DV}(eu:As.map Ent.v=us.map some)(hA:At K H0 X n (S++(As++T)) H)(ex:As.map Ent.x=[x]):∃v F,us=[v]/\At K H0 X n (S++⟨some v,x,F⟩::T) H:=by
 obtain ⟨⟨v,y,F⟩,rfl,h1⟩:=zQ ex
 obtain ⟨u,rfl,h2⟩:=zQ eu.symm
 have h1':y=x:=h1
 have h2':some u=v:=h2
 subst h1' h2'
 exact ⟨u,F,rfl,hA⟩
theorem tQ{K:PySem.W.Frag}{H0 H:Hp}{X:Addr->Prop}{n:Nat}{S T As:List Ent}{us:List V}{x y:DV}(eu:As.map Ent.v=us.map some)(hA:At K H0 X n (S++(As++T)) H)(ex:As.map Ent.x=[x,y]):∃v F w G,us=[v,w]/\At K H0 X n (S++⟨some v,x,F⟩::⟨some w,y,G⟩::T) H:=by
 obtain ⟨⟨v,x',F⟩,⟨w,y',G⟩,rfl,h1,h2⟩:=D0 ex
 obtain ⟨u,u',rfl,h3,h4⟩:=D0 eu.symm
 have h1':x'=x:=h1
 have h2':y'=y:=h2
 have h3':some u=v:=h3
 have h4':some u'=w:=h4
 subst h1' h2' h3' h4'
 exact ⟨u,F,u',G,rfl,hA⟩
def lP:DC:=λxs P=>match xs with
 | [.dat _ (.list ds)]=>P (.dat .ow (.int ds.length))
 | [.dat _ (.tuple ds)]=>P (.dat .ow (.int ds.length))
 | [.dat _ (.str z)]=>z.length<=1000000/\P (.dat .ow (.int z.length))
 | _=>False
def S5(i:Bool):DC:=λxs P=>match xs with
 | [.dat m (.list ds)]=>We i m ds P
 | [.dat m (.tuple ds)]=>We i m ds P
 | _=>False
def aZ(i:Bool):DC:=λxs P=>match xs with
 | [.dat m (.list ds)]=>aN i m ds P
 | [.dat m (.tuple ds)]=>P (.dat m (.tuple ds))
 | _=>False
def yB:Ab->String
 | .none => "NoneType"
 | .bool _ => "bool"
 | .int _ => "int"
 | .str _ => "str"
 | .list _ => "list"
 | .tuple _ => "tuple"
 | .dict _ => "dict"
def Ym(d:Ab)(n:String):Bool:=yB d == n || (yB d == "bool" && n == "int")
def rG:DC:=λxs P=>match xs with
 | [.dat _ d,.val (.ty n)]=>(n = "int" \/ n = "bool" \/ n = "str" \/ n = "list" \/ n = "tuple")/\P (.dat .ow (.bool (Ym d n)))
 | _=>False
def rH:DC:=λxs P=>match xs with
 | [.dat _ d]=>(∃b,b<=400/\Jt b d/\(b+12) * Jo d<=Aq)/\d.depth<=90/\P (.dat .ow (.str (iS d)))
 | _=>False
section
variable{K:PySem.W.Frag}
theorem Lx:Qr K (λxs H Q=>∃x n,xs=[x]/\C0 K x H n/\Q (.int n) H) lP:=by
 intro H0 X n S T As us H Q P eu hA hd k
 unfold lP at hd
 split at hd
 ·rename_i ex
  obtain ⟨v,F,rfl,hA⟩:=Jr eu hA ex
  obtain ⟨a,xs,G,rfl,ha,ra,_,_⟩:=(hA.told mem_mid).list_inv
  exact ⟨_,_,rfl,.inl ⟨xs,Rr.of ha,ra.len.symm⟩,k _ _ [] H (hA.drop.pushI (.int _)) hd⟩
 ·rename_i ex
  obtain ⟨v,F,rfl,hA⟩:=Jr eu hA ex
  obtain ⟨a,xs,rfl,ha,ra,_⟩:=(hA.told mem_mid).tup_inv
  exact ⟨_,_,rfl,.inr ⟨xs,Qs.of ha,ra.len.symm⟩,k _ _ [] H (hA.drop.pushI (.int _)) hd⟩
 ·rename_i ex
  obtain ⟨v,F,rfl,hA⟩:=Jr eu hA ex
  obtain ⟨rfl,_⟩:=(hA.told mem_mid).str_inv
  exact ⟨_,_,rfl,⟨cO hd.1,rfl⟩,k _ _ [] H (hA.drop.pushI (.int _)) hd.2⟩
 ·exact hd.elim
theorem qG{i:Bool}:Qr K (yA K) (aZ i):=by
 intro H0 X n S T As us H Q P eu hA hd k
 unfold aZ at hd
 split at hd
 ·rename_i ex
  obtain ⟨v,F,rfl,hA⟩:=Jr eu hA ex
  obtain ⟨a,xs,G,rfl,ha,ra,rfl,hz⟩:=(hA.told mem_mid).list_inv
  refine ⟨a,xs,rfl,.inl ⟨Rr.of ha,λl hl=>?_⟩⟩
  obtain ⟨z,F',h1,h2⟩:=hA.newT ra (Ck _ _) hz hl hd
  exact k _ _ _ _ h1 h2
 ·rename_i ex
  obtain ⟨v,F,rfl,hA⟩:=Jr eu hA ex
  obtain ⟨a,xs,rfl,ha,ra,hz⟩:=(hA.told mem_mid).tup_inv
  exact ⟨a,xs,rfl,.inr ⟨Qs.of ha,k _ _ F H hA hd⟩⟩
 ·exact hd.elim
theorem xN{T n:String}{b:Bool}(h1:(Fw T == Fw n)=false)(h2:PySem.W.kitMeta n=true)(h3:(fastBuiltinMro T).map (λx=>x.contains (Fw n))=some b):PySem.W.kitOne K (.type T) (.type n)=some b:=zS h1 h2 h3
theorem wU{d:Ab}{n:String}(hn:n = "int" \/ n = "bool" \/ n = "str" \/ n = "list" \/ n = "tuple"):PySem.W.kitOne K (.type (yB d)) (.type n)=some (Ym d n):=by
 have main:∀T:String,(T = "NoneType" \/ T = "bool" \/ T = "int" \/ T = "str" \/ T = "list" \/ T = "tuple" \/ T = "dict")->PySem.W.kitOne K (.type T) (.type n)=some (T == n || (T == "bool" && n == "int")):=by
  intro T hT
  rcases hT with rfl | rfl | rfl | rfl | rfl | rfl | rfl <;> rcases hn with rfl | rfl | rfl | rfl | rfl <;> first | exact j3 | exact xN (by decide +kernel) (by decide +kernel) (by decide +kernel)
 unfold Ym
 refine main _ ?_
 cases d <;> simp [yB]
theorem jQ:Qr K (V2 K) rG:=by
 intro H0 X n S T As us H Q P eu hA hd k
 unfold rG at hd
 split at hd
 ·rename_i ex
  obtain ⟨v,F,w,G,rfl,hA⟩:=tQ eu hA ex
  have hw:w=.ty _:=Be (hA.ok _ Fi).1
  subst hw
  have r:=hA.told mem_mid
  refine ⟨v,_,.type (yB _),_,rfl,?_,wU hd.1,k _ _ [] H (hA.drop2.pushI (.bl _)) hd.2⟩
  ·cases r with
   | non=>exact .non
   | bl b=>exact .bl b
   | int i=>exact .int i
   | str x=>exact .str x
   | lst h l hs=>exact .lst h
   | tup h l hs=>exact .tup h
   | dic h e hs=>exact .dT h
   | dik h e hs=>exact .dK h
   | dnm h e hs=>exact .dT h
 ·exact hd.elim
theorem qJ:Qr K (E7 K) rH:=by
 intro H0 X n S T As us H Q P eu hA hd k
 unfold rH at hd
 split at hd
 ·rename_i ex
  obtain ⟨v,F,rfl,hA⟩:=Jr eu hA ex
  exact ⟨_,_,rfl,⟨(hA.told mem_mid).rd hd.2.1,hd.1,hd.2.1⟩,k _ _ [] H (hA.drop.pushI (.str _)) hd.2.2⟩
 ·exact hd.elim
end
def dV(v:V):DE:=λδ P=>P (.val v) δ
section
variable{X:Cx}{e:Expr}
theorem u0{v:V}(h:PE X e (tC v)):Ff X e (dV v):=by
 refine PE.imp h λσ H Q h=>?_
 obtain ⟨H0,Y,S,T,δ,P,rfl,hS,hA,hd,k⟩:=h
 exact k _ δ v [] S H rfl hS ((hA.push (e:=⟨some v,.val v,[]⟩) ⟨rfl,rfl⟩ (λf _=>⟨λ_ a ha=>(nomatch ha),λ_ a _=>Bq⟩) (λa ha=>(nomatch ha))).tomid) hd
theorem uD{x:Str}{n:String}{pos:Pos}(hg:Gl X x)(hm:X.mg x=none)(hv:Ia x=some (.type n))(hn:x ≠ "__name__" := by decide)(hd:(x == ("__debug__" : Str))=false:=by decide):Ff X (.Name x pos) (dV (.ty n)):=u0 (uP hg hm hv rfl hn hd)
end
end DL
namespace Nd
open PySem PySem.Spec PyProof.Rows L2
end Nd
namespace Nd
open PySem PySem.Spec PyProof.Rows L2
open AutoSeq1 (wpAny_loadPart')
end Nd
namespace DL
open PySem L2 Nd
def dB(de:DE):DT:=λδ P=>de δ λx δ'=>match x with
 | .dat _ (.bool b)=>P b δ'
 | _=>False
def uV:Ab->Bool
 | .none=>false
 | .bool b=>b
 | .int i=>i != 0
 | .str s=>(s.length:Int) != 0
 | .list ds=>!ds.isEmpty
 | .tuple ds=>!ds.isEmpty
 | .dict _=>true
def G3:Ab->Prop
 | .str s=>s.length<=1000000
 | .dict _=>False
 | _=>True
def n6(de:DE):DT:=λδ P=>de δ λx δ'=>match x with
 | .dat _ d=>G3 d/\P (uV d) δ'
 | _=>False
def xW(dt:DT):DT:=λδ P=>dt δ λb δ'=>P (!b) δ'
def yV(dt du:DT):DT:=λδ P=>dt δ λb δ'=>match b with
 | true=>du δ' P
 | false=>P false δ'
def E3(dt du:DT):DT:=λδ P=>dt δ λb δ'=>match b with
 | true=>P true δ'
 | false=>du δ' P
def L0(dt:DT)(da db:DE):DE:=λδ P=>dt δ λb δ'=>match b with
 | true=>da δ' P
 | false=>db δ' P
def N5(de:DE):DE:=λδ P=>de δ λx δ'=>match x with
 | .dat _ (.int i)=>P (.dat .ow (.int (-i))) δ'
 | _=>False
section
variable{K:PySem.W.Frag}{de:DE}
theorem zC:∀σ H Q,LT K (dB de) σ H Q->LE K de σ H λx H'=>∃k,x=.bl k/\Q k H':=by
 intro σ H Q h
 obtain ⟨H0,Y,S,T,δ,P,rfl,hS,hA,hd,k⟩:=h
 refine ⟨H0,Y,S,T,δ,_,rfl,hS,hA,hd,λx δ1 v F S1 H1 e1 e2 hA1 p1=>?_⟩
 split at p1
 ·obtain ⟨rfl,_⟩:=(hA1.told mem_mid).bl_inv
  exact ⟨_,rfl,k _ δ1 S1 H1 e1 e2 hA1.drop p1⟩
 ·exact p1.elim
theorem i8{H:Hp}{v:V}{d:Ab}{F:List Addr}(r:RdF K H v d F)(h:G3 d):vD K v H (uV d):=by
 cases r with
 | non=>rfl
 | bl b=>rfl
 | int i=>rfl
 | str x=>exact ⟨cO h,rfl⟩
 | lst e l hs =>
  refine .inl ⟨_,Rr.of e,?_⟩
  have:=hs.len
  rename_i xs ds G
  cases xs <;> cases ds <;> first | rfl | cases this
 | tup e l hs =>
  refine .inr (.inl ⟨_,Qs.of e,?_⟩)
  have:=hs.len
  rename_i xs ds
  cases xs <;> cases ds <;> first | rfl | cases this
 | dic _ _ _=>exact h.elim
 | dik _ _ _=>exact h.elim
 | dnm _ _ _=>exact h.elim
theorem h9:∀σ H Q,LT K (n6 de) σ H Q->LE K de σ H λx H'=>∃k,vD K x H' k/\Q k H':=by
 intro σ H Q h
 obtain ⟨H0,Y,S,T,δ,P,rfl,hS,hA,hd,k⟩:=h
 refine ⟨H0,Y,S,T,δ,_,rfl,hS,hA,hd,λx δ1 v F S1 H1 e1 e2 hA1 p1=>?_⟩
 split at p1
 ·exact ⟨_,i8 (hA1.told mem_mid) p1.1,k _ δ1 S1 H1 e1 e2 hA1.drop p1.2⟩
 ·exact p1.elim
end
section
variable{X:Cx}{a b c e:Expr}{da db de:DE}{dt du:DT}{pos:Pos}{Gf:List Expr}
theorem Wx(h:Ff X e de)(he:∀whole,isTrue e X.env whole=(do let v <- whole; Po e.pos; Vc [v] (truthy v)):=by intro _; rfl):Ye X e (dB de):=PT.imp (qN h he) zC
theorem Rf{op:CmpOp}{r:R2}{rd:D2}(ho:Va X (Hb op) r)(o:jB X.K r rd)(ha:Ff X a da)(hb:Ff X b db)(hm:Fe op b=false):Ye X (.Compare a [op] [b] pos) (dB (Xi rd da db)):=by
 refine PT.imp (vN ho ha hb hm) λσ H Q h=>?_
 exact Zd o _ _ _ (zC σ H Q h)
theorem yD(ha:Ff X a da)(hb:Ff X b db):Ye X (.Compare a [.Lt] [b] pos) (dB (Xi rdLt da db)):=Rf K0 (kF λ_ _ _=>.bl _) ha hb (Pb _)
theorem pZ(ha:Ff X a da)(hb:Ff X b db):Ye X (.Compare a [.Gt] [b] pos) (dB (Xi rdGt da db)):=Rf J4 (kF λ_ _ _=>.bl _) ha hb (Pb _)
theorem C7(ha:Ff X a da)(hb:Ff X b db):Ye X (.Compare a [.GtE] [b] pos) (dB (Xi rdGe da db)):=Rf yF (kF λ_ _ _=>.bl _) ha hb (Pb _)
theorem xV(hu:X.A.units+64<cLine)(ha:Ff X a da)(hb:Ff X b db):Ye X (.Compare a [.Eq] [b] pos) (dB (Xi (Yr false) da db)):=Rf (rX hu) zA ha hb (Pb _)
theorem qO(hu:X.A.units+64<cLine)(ha:Ff X a da)(hb:Ff X b db):Ye X (.Compare a [.NotEq] [b] pos) (dB (Xi (Yr true) da db)):=Rf (sY hu) yY ha hb (Pb _)
theorem xY(hu:X.A.units+64<cLine)(ha:Ff X a da)(hb:Ff X b db)(hm:Fe .In b=false:=by with_unfolding_all rfl):Ye X (.Compare a [.In] [b] pos) (dB (Xi (nC false) da db)):=Rf (o4 hu) yS ha hb hm
theorem sJ(hu:X.A.units+64<cLine)(ha:Ff X a da)(hb:Ff X b db)(hm:Fe .NotIn b=false:=by with_unfolding_all rfl):Ye X (.Compare a [.NotIn] [b] pos) (dB (Xi (nC true) da db)):=Rf (nV hu) yS ha hb hm
theorem tX(ha:Ff X a da)(he:∀whole,isTrue a X.env whole=(do let v <- whole; Po a.pos; Vc [v] (truthy v)):=by intro _; rfl):Ye X a (n6 da):=PT.imp (rF ha he) h9
theorem aY(h:Ye X a dt):Ye X (.UnaryOp .Not a pos) (xW dt):=by
 refine PT.imp (p9 h) λσ H Q h=>?_
 obtain ⟨H0,Y,S,T,δ,P,rfl,hS,hA,hd,k⟩:=h
 exact ⟨H0,Y,S,T,δ,_,rfl,hS,hA,hd,λb δ' S' H' e1 e2 hA' p=>k _ δ' S' H' e1 e2 hA' p⟩
theorem bT(h:Ye X a dt):A3 X (.BoolOp .And [a] pos) dt:=uL h
theorem jL(h:Ye X a dt):A3 X (.BoolOp .Or [a] pos) dt:=A0 h
theorem iC(h:Ye X a dt)(hb:A3 X (.BoolOp .And (b::Gf) pos) du):A3 X (.BoolOp .And (a::b::Gf) pos) (yV dt du):=by
 refine PW.imp (u6 h hb) λσ H Q h=>?_
 obtain ⟨H0,Y,S,T,δ,P,rfl,hS,hA,hd,k⟩:=h
 refine ⟨H0,Y,S,T,δ,_,rfl,hS,hA,hd,λb δ' S' H' e1 e2 hA' p=>?_⟩
 cases b with
 | true=>exact dN ⟨H0,Y,S',T,δ',P,e1,e2,hA',p,k⟩
 | false=>exact iW (k _ δ' S' H' e1 e2 hA' p)
theorem Zy(h:Ye X a dt)(hb:A3 X (.BoolOp .Or (b::Gf) pos) du):A3 X (.BoolOp .Or (a::b::Gf) pos) (E3 dt du):=by
 refine PW.imp (C8 h hb) λσ H Q h=>?_
 obtain ⟨H0,Y,S,T,δ,P,rfl,hS,hA,hd,k⟩:=h
 refine ⟨H0,Y,S,T,δ,_,rfl,hS,hA,hd,λb δ' S' H' e1 e2 hA' p=>?_⟩
 cases b with
 | true=>exact dN (k _ δ' S' H' e1 e2 hA' p)
 | false=>exact iW ⟨H0,Y,S',T,δ',P,e1,e2,hA',p,k⟩
theorem nJ(h:A3 X a dt):Ye X a dt:=PW.pt h
theorem bG(h:Ff X a da):Ff X (.UnaryOp .USub a pos) (N5 da):=by
 refine PE.imp (F6 w8 h) λσ H Q h=>?_
 obtain ⟨H0,Y,S,T,δ,P,rfl,hS,hA,hd,k⟩:=h
 refine ⟨H0,Y,S,T,δ,_,rfl,hS,hA,hd,λx δ1 v F S1 H1 e1 e2 hA1 p1=>?_⟩
 split at p1
 ·obtain ⟨rfl,_⟩:=(hA1.told mem_mid).int_inv
  exact ⟨_,rfl,k _ δ1 _ [] S1 H1 e1 e2 (hA1.drop.pushI (.int _)) p1⟩
 ·exact p1.elim
theorem i4(hc:Ye X c dt)(ha:Ff X a da)(hb:Ff X b db):Ff X (.IfExp c a b pos) (L0 dt da db):=by
 refine PE.imp (pJ hc ha hb) λσ H Q h=>?_
 obtain ⟨H0,Y,S,T,δ,P,rfl,hS,hA,hd,k⟩:=h
 refine ⟨H0,Y,S,T,δ,_,rfl,hS,hA,hd,λb δ' S' H' e1 e2 hA' p=>?_⟩
 cases b with
 | true=>exact dN ⟨H0,Y,S',T,δ',P,e1,e2,hA',p,k⟩
 | false=>exact iW ⟨H0,Y,S',T,δ',P,e1,e2,hA',p,k⟩
end
theorem PS.impD{X:Cx}{st:Stmt}{t t':TS}(h:PS X st t)(k:∀D σ H,t' D σ H->t D σ H):PS X st t':=λpins s σ H D I q=>h pins s σ H D I (k D σ H q)
theorem jN.impD{X:Cx}{st:List Stmt}{t t':TS}(h:jN X st t)(k:∀D σ H,t' D σ H->t D σ H):jN X st t':=λpins s σ H D I q=>h pins s σ H D I (k D σ H q)
def yL:DB:=λD δ=>D.nx δ
def I0(t u:DB):DB:=λD δ=>t { D with nx:=λδ'=>u D δ' } δ
def E5(de:DE):DB:=λD δ=>de δ D.rt
def V7(dt:DT)(t u:DB):DB:=λD δ=>dt δ λb δ'=>match b with
 | true=>t D δ'
 | false=>u D δ'
def bO(de:DE)(dg:DG):DB:=λD δ=>de δ λx δ'=>dg x δ' D.nx
section
variable{X:Cx}{st:Stmt}{e tg c:Expr}{t u:DB}{Gf:List Stmt}{de:DE}{dg:DG}{dt:DT}{pos:Pos}
theorem Ud:Uv X [] yL:=by
 refine jN.impD lT λD σ H h=>?_
 obtain ⟨H0,Y,S,T,δ,P,rfl,hS,hT,hA,hd,k1,k2,k3,k4⟩:=h
 exact k1 δ S H hS hA hd
theorem Df(h1:dI X st t)(h2:Uv X Gf u):Uv X (st::Gf) (I0 t u):=by
 refine jN.impD (Iz h1 h2) λD σ H h=>?_
 obtain ⟨H0,Y,S,T,δ,P,rfl,hS,hT,hA,hd,k1,k2,k3,k4⟩:=h
 exact ⟨H0,Y,S,T,δ,_,rfl,hS,hT,hA,hd,λδ' S' H' e2 hA' p=>⟨H0,Y,S',T,δ',P,rfl,e2,hT,hA',p,k1,k2,k3,k4⟩,k2,k3,k4⟩
theorem Gb(h1:dI X st t):Uv X [st] t:=Qd h1
theorem Ku(he:Ff X e de):dI X (.Return (some e) pos) (E5 de):=by
 refine PS.impD (Wz he) λD σ H h=>?_
 obtain ⟨H0,Y,S,T,δ,P,rfl,hS,hT,hA,hd,k1,k2,k3,k4⟩:=h
 exact ⟨H0,Y,S,T,δ,_,rfl,hS,hA,hd,λx δ' v F S' H' e1 e2 hA' p=>k2 x δ' v F S' H' e2 hA' p⟩
theorem Zr{a b:List Stmt}(hc:Ye X c dt)(ha:Uv X a t)(hb:Uv X b u):dI X (.If c a b pos) (V7 dt t u):=by
 refine PS.impD (yK hc ha hb) λD σ H h=>?_
 obtain ⟨H0,Y,S,T,δ,P,rfl,hS,hT,hA,hd,k1,k2,k3,k4⟩:=h
 refine ⟨H0,Y,S,T,δ,_,rfl,hS,hA,hd,λb δ' S' H' e1 e2 hA' p=>?_⟩
 cases b with
 | true=>exact dN ⟨H0,Y,S',T,δ',P,e1,e2,hT,hA',p,k1,k2,k3,k4⟩
 | false=>exact iW ⟨H0,Y,S',T,δ',P,e1,e2,hT,hA',p,k1,k2,k3,k4⟩
theorem Rn{K:PySem.W.Frag}{te:TE}{g:TG}(h1:∀σ H Q,LE K de σ H Q->te σ H Q)(h2:∀v σ H Q,LG K dg v σ H Q->g v σ H Q):∀D σ H,LS K (bO de dg) D σ H->mI te g D σ H:=by
 intro D σ H h
 obtain ⟨H0,Y,S,T,δ,P,rfl,hS,hT,hA,hd,k1,k2,k3,k4⟩:=h
 refine h1 _ _ _ ⟨H0,Y,S,T,δ,_,rfl,hS,hA,hd,λx δ' v F S' H' e1 e2 hA' p=>?_⟩
 exact h2 _ _ _ _ ⟨H0,Y,S',T,δ',x,F,P.nx,e1,e2,hA',p,λδ2 S2 H2 e3 hA2 q=>k1 δ2 S2 H2 e3 hA2 q⟩
theorem B0(he:Ff X e de)(hg:E8 X tg dg)(hs:swapsWithSole [tg] e pos.line X.env=pure false:=by rfl)(hw:swappedStores [tg] e X.env=pure none:=by rfl)(h1:(Ib [tg] X.env).map (·.2)=[Ic tg X.env]:=by rfl):dI X (.Assign [tg] e pos) (bO de dg):=PS.impD (gR he hg hs hw h1) (Rn (λ_ _ _ h=>h) λ_ _ _ _ h=>h)
end
def Mx(i:Nat):DG:=λx δ P=>match x with
 | .dat .pk _=>False
 | .dat _ d=>P ⟨δ.sl.set i (.dat .sh d),δ.n⟩
 | .val v=>P ⟨δ.sl.set i (.val v),δ.n⟩
 | .drw=>P ⟨δ.sl.set i .drw,δ.n⟩
 | .dT kvs=>P ⟨δ.sl.set i (.dT kvs),δ.n⟩
 | _=>False
def fN(i:Nat):DG:=λx δ P=>match x with
 | .dat .ow d=>P ⟨δ.sl.set i (.dat .ow d),δ.n⟩
 | .dat .tp d=>P ⟨δ.sl.set i (.dat .tp d),δ.n⟩
 | _=>False
theorem At.store{K:PySem.W.Frag}{H0 H:Hp}{X:Addr->Prop}{n:Nat}{S T:List Ent}{e:Ent}{i:Nat}(h:At K H0 X n (S++e::T) H):At K H0 X n (S.set i e++T) H:=by
 by_cases hi:i<S.length
 ·have hx:S[i]? = some S[i]:=by simp [hi]
  have p:(S++e::T).Perm (S[i]::(S.set i e++T)):=by
   refine Dg.trans ?_
   rw[<- Ec,<- Ec]
   exact (Sq hx).append_right T
  exact (h.perm p).sub (Ck _ _)
 ·rw[List.set_eq_of_length_le (by omega)]
  exact h.drop
theorem aO{S:List Ent}{i:Nat}{v:V}{x:DV}{F:List Addr}:vs (S.set i ⟨some v,x,F⟩)=(vs S).set i (some v):=by
 unfold vs
 rw[Gq]
theorem bR{S:List Ent}{δ:DS}{i n:Nat}{v:V}{x:DV}{F:List Addr}(h:Sl S δ):Sl (S.set i ⟨some v,x,F⟩) ⟨δ.sl.set i x,n⟩:=by
 unfold Sl at h ⊢
 rw[Gq,h]
theorem bI{K:PySem.W.Frag}{i:Nat}:∀v σ H Q,LG K (Mx i) v σ H Q->Oo i v σ H Q:=by
 intro v σ H Q h
 obtain ⟨H0,Y,S,T,δ,x,F,P,rfl,hS,hA,hd,k⟩:=h
 show Q ((vs S).set i (some v)) H
 have fin:∀y,At K H0 Y δ.n (S++⟨some v,y,F⟩::T) H->P ⟨δ.sl.set i y,δ.n⟩->Q ((vs S).set i (some v)) H:=λy hA' p=>by
  rw[<- aO (x:=y) (F:=F)]
  exact k _ _ H (bR hS) hA'.store p
 unfold Mx at hd
 split at hd
 ·exact hd.elim
 ·rename_i m d hm
  refine fin _ ?_ hd
  refine (hA.mid.wk ?_).tomid
  cases m <;> first | rfl | exact (hm rfl).elim
 ·exact fin _ hA hd
 ·exact fin _ hA hd
 ·exact fin _ hA hd
 ·exact hd.elim
theorem rJ{K:PySem.W.Frag}{i:Nat}:∀v σ H Q,LG K (fN i) v σ H Q->Oo i v σ H Q:=by
 intro v σ H Q h
 obtain ⟨H0,Y,S,T,δ,x,F,P,rfl,hS,hA,hd,k⟩:=h
 show Q ((vs S).set i (some v)) H
 have fin:∀y,At K H0 Y δ.n (S++⟨some v,y,F⟩::T) H->P ⟨δ.sl.set i y,δ.n⟩->Q ((vs S).set i (some v)) H:=λy hA' p=>by
  rw[<- aO (x:=y) (F:=F)]
  exact k _ _ H (bR hS) hA'.store p
 unfold fN at hd
 split at hd
 ·exact fin _ hA hd
 ·exact fin _ hA hd
 ·exact hd.elim
section
variable{X:Cx}{pos:Pos}
theorem Kl{i:Nat}{x:Str}(hN:X.N.Nodup)(hi:X.N[i]? = some x)(hx:Loc X.env.scope x)(hf:X.fn x=true\/X.env.scope.names.lookup x=some .local:=by first | exact .inl rfl | exact .inr rfl | assumption):E8 X (.Name x pos) (Mx i):=PG.imp (Ip hN hi hx hf) bI
theorem Ji{i:Nat}{x:Str}{e:Expr}{de:DE}{pos':Pos}(hN:X.N.Nodup)(hi:X.N[i]? = some x)(hx:Loc X.env.scope x)(he:Ff X e de)(hs:Gj e (some (.Name x pos')) pos.line X.env=pure false:=by rfl)(hf:X.fn x=true\/X.env.scope.names.lookup x=some .local:=by first | exact .inl rfl | exact .inr rfl | assumption):dI X (.Assign [.Name x pos'] e pos) (bO de (Mx i)):=PS.impD (Pi hN hi hx he hs hf) (Rn (λ_ _ _ h=>h) bI)
theorem Sv{i:Nat}{x:Str}{e:Expr}{de:DE}{pos':Pos}(hN:X.N.Nodup)(hi:X.N[i]? = some x)(hx:Loc X.env.scope x)(he:Ff X e de)(hs:Gj e (some (.Name x pos')) pos.line X.env=pure false:=by rfl)(hf:X.fn x=true\/X.env.scope.names.lookup x=some .local:=by first | exact .inl rfl | exact .inr rfl | assumption):dI X (.Assign [.Name x pos'] e pos) (bO de (fN i)):=PS.impD (Pi hN hi hx he hs hf) (Rn (λ_ _ _ h=>h) rJ)
end
def pT:uJ:=λxs δ P=>match xs with
 | []=>P δ
 | _=>False
def kX(g:DG)(gs:uJ):uJ:=λxs δ P=>match xs with
 | x::r=>g x δ λδ'=>gs r δ' P
 | []=>False
def sV(n:Nat)(gs:uJ):DG:=λx δ P=>match x with
 | .dat m (.tuple ds)=>ds.length=n/\gs (ds.map λd=>.dat (Ly m) d) δ P
 | _=>False
theorem At.unpack{K:PySem.W.Frag}{H0 H:Hp}{X:Addr->Prop}{n:Nat}{m:Md}:∀{us:List V} {ds:List Ab} {F:List Addr} {E:List Ent},RdFs K H us ds F->(m=.ow->F.Nodup)->(∀f∈E,Sr ⟨none,.dat (Ly m) .none,F⟩ f)->(∀a∈cells ⟨none,.dat (Ly m) .none,F⟩,H0 a=none)->At K H0 X n E H->∃As:List Ent,As.map Ent.v=us.map some/\As.map Ent.x=ds.map (λd=>.dat (Ly m) d)/\(∀e∈As,∀a∈e.F,a∈F)/\At K H0 X n (As++E) H
 | _,_,_,_,.nil,_,_,_,h=>⟨[],rfl,rfl,λ_ z=>(nomatch z),h⟩
 | _,_,_,E,.cons (x:=x) (d:=d) (F:=F1) (G:=G1) a t,hn,hs,hnew,h=>by
  have cs:∀{G:List Addr} {u:Option V} {d':Ab},(∀b∈G,b∈F1++G1)->∀b∈cells ⟨u,.dat (Ly m) d',G⟩,b∈cells ⟨none,.dat (Ly m) .none,F1++G1⟩:=λ{G u d'} hG b hb=>by
   cases m with
   | ow=>exact hG b hb
   | _=>exact nomatch hb
  have sub:∀{G:List Addr} {u:Option V} {d':Ab} {f:Ent},(∀b∈G,b∈F1++G1)->Sr ⟨none,.dat (Ly m) .none,F1++G1⟩ f->Sr ⟨u,.dat (Ly m) d',G⟩ f:=λ{G u d' f} hG q=>by
   refine ⟨λhp b hb=>q.1 ?_ b (cs hG b hb),λhp b hb z=>q.2 ?_ b hb (hG b z)⟩
   ·rcases hp with hp | hp
    ·exact .inl hp
    ·cases hp
   ·rcases hp with hp | hp
    ·refine .inl ?_
     cases m <;> exact hp
    ·exact .inr hp
  obtain ⟨As,h1,h2,h3,h4⟩:=At.unpack (m:=m) t (λz=>(Dh.mp (hn z)).2.1) (λf hf=>sub (λb hb=>Ad _ hb) (hs f hf)) (λb hb=>hnew b (cs (λb hb=>Ad _ hb) b hb)) h
  refine ⟨⟨some x,.dat (Ly m) d,F1⟩::As,by rw[Ap,Ap,h1],by rw[Ap,Ap,h2],λe he b hb=>?_,?_⟩
  ·rcases Ak.mp he with rfl | he
   ·exact Ag _ hb
   ·exact Ad _ (h3 e he b hb)
  ·refine h4.push ⟨x,rfl,a,λz=>?_,λz=>?_⟩ (λf hf=>?_) λb hb=>.inl (hnew b (cs (λb hb=>Ag _ hb) b hb))
   ·cases m with
    | ow=>exact (Dh.mp (hn rfl)).1
    | _=>cases z
   ·cases m <;> cases z
   ·rcases An.mp hf with hf | hf
    ·have hx:f.x∈As.map Ent.x:=Ce.mpr ⟨f,hf,rfl⟩
     rw[h2] at hx
     obtain ⟨d',_,ed⟩:=Ce.mp hx
     refine ⟨λhp b hb z=>?_,λhp b hb z=>?_⟩
     ·cases m with
      | ow=>exact (Dh.mp (hn rfl)).2.2 b hb b (h3 f hf b z) rfl
      | _=>exact nomatch hb
     ·cases m with
      | ow=>exact (Dh.mp (hn rfl)).2.2 b z b (h3 f hf b (Ep _ _ hb)) rfl
      | _ =>
       unfold cells at hb
       rw[<- ed] at hb
       exact nomatch hb
    ·exact sub (λb hb=>Ag _ hb) (hs f hf)
section
variable{X:Cx}{pos:Pos}
theorem vT:xH X [] pT:=by
 refine zL.imp aE λus σ H Q h=>?_
 obtain ⟨H0,Y,S,T,As,δ,P,rfl,hS,eu,hA,hd,k⟩:=h
 match As,hA,hd,eu with
 | [],hA,hd,eu =>
  cases us with
  | nil=>exact ⟨rfl,k δ S H hS hA hd⟩
  | cons _ _=>cases eu
 | _::_,hA,hd,eu=>exact hd.elim
theorem dS{e:Expr}{es:List Expr}{g:DG}{gs:uJ}(h1:E8 X e g)(h2:xH X es gs)(hs:(Ib (e::es) X.env).map (·.2)=Ic e X.env::(Ib es X.env).map (·.2):=by rfl):xH X (e::es) (kX g gs):=by
 refine zL.imp (Pg h1 h2 hs) λus σ H Q h=>?_
 obtain ⟨H0,Y,S,T,As,δ,P,rfl,hS,eu,hA,hd,k⟩:=h
 match As,hA,hd,eu with
 | [],hA,hd,eu=>exact hd.elim
 | ⟨v,x,F⟩::As,hA,hd,eu =>
  cases us with
  | nil=>cases eu
  | cons u us =>
   rw[Ap,Ap] at eu
   obtain ⟨e1,e2⟩:=Fz eu
   have e1':v=some u:=e1
   subst e1'
   refine ⟨u,us,rfl,H0,Y,S,As++T,δ,x,F,_,rfl,hS,hA,hd,λδ' S' H' e3 hA' p=>?_⟩
   exact ⟨H0,Y,S',T,As,δ',P,rfl,e3,e2,hA',p,k⟩
theorem zM{es:List Expr}{kk:Nat}{gs:uJ}{n:Nat}(hc:X.calm=true)(h:xH X es gs)(hn:(Ib es X.env).length=n:=by rfl)(hst:(Ib es X.env).findIdx? (·.1)=none:=by rfl):E8 X (.Tuple es kk pos) (sV n gs):=by
 refine PG.imp (iZ hc h hn hst) λv σ H Q h=>?_
 obtain ⟨H0,Y,S,T,δ,x,F,P,rfl,hS,hA,hd,k⟩:=h
 unfold sV at hd
 split at hd
 ·rename_i m ds
  obtain ⟨a,xs,rfl,ha,ra,hz⟩:=(hA.told mem_mid).tup_inv
  have hm:=hA.mid
  have hp:=Ax.mp hm.sep
  obtain ⟨w,_,_,hnd,_⟩:=hm.ok _ Aa
  have cs:∀b∈cells ⟨none,.dat (Ly m) .none,F⟩,b∈cells ⟨some (.ref a),.dat m (.tuple ds),F⟩:=λb hb=>by
   cases m with
   | ow=>exact hb
   | _=>exact nomatch hb
  obtain ⟨As,h1,h2,h3,h4⟩:=At.unpack (m:=m) (E:=S++T) ra hnd (λf hf=>by
   refine ⟨λhq b hb=>(hp.1 f hf).1 ?_ b (cs b hb),λhq b hb=>(hp.1 f hf).2 ?_ b hb⟩
   ·rcases hq with hq | hq
    ·exact .inl hq
    ·cases hq
   ·rcases hq with hq | hq
    ·refine .inl ?_
     cases m <;> first | rfl | exact hq
    ·exact .inr hq) (λb hb=>by
   rcases hm.new _ Aa b (cs b hb) with z | z
   ·exact z
   ·cases z.2) hA.drop
  refine ⟨a,xs,rfl,Qs.of ha,by rw[ra.len]; exact hd.1,H0,Y,S,T,As,δ,P,rfl,hS,h1,h4.perm ?_,by rw[h2]; exact hd.2,k⟩
  rw[<- Br,<- Br]
  exact Fg.append_right T
 ·exact hd.elim
end
theorem jE{K:PySem.W.Frag}{H0 H:Hp}{X:Addr->Prop}{n:Nat}{E:List Ent}(h:At K H0 X n E H):∀{e f:Ent},e∈E->f∈E->e=f\/Sr e f:=by
 have main:∀{E:List Ent},E.Pairwise Sr->∀{e f:Ent},e∈E->f∈E->e=f\/Sr e f:=by
  intro E
  induction E with
  | nil=>intro _ e f he; cases he
  | cons g E ih =>
   intro hp e f he hf
   have hc:=Ax.mp hp
   rcases Ak.mp he with he | he
   ·subst he
    rcases Ak.mp hf with hf | hf
    ·exact .inl hf.symm
    ·exact .inr (hc.1 f hf)
   ·rcases Ak.mp hf with hf | hf
    ·rw[hf]
     exact .inr (hc.1 e he).symm
    ·exact ih hc.2 he hf
 intro e f he hf
 exact main h.sep he hf
abbrev DI:=DS->(Md->List Ab->DS->Prop)->Prop
structure IterOk(K:PySem.W.Frag)(J:It)(hid:List Ent)(m:Md)(ds:List Ab):Prop where
 md:m=.sh\/m=.pk
 hd:∀e∈hid,cells e=[]
 np:m=.sh->∀e∈hid,Lv e.x=false
 go:∀H n i,(∀e∈hid,Ga K H n e)->i<ds.length->J.go i H
 yld:∀H n i x H',(∀e∈hid,Ga K H n e)->i<ds.length->J.yld i H x H'->Mi H H'/\∃d F,ds[i]? = some d/\RdF K H' x d F/\∀a∈F,∃e∈hid,a∈e.F
 stop:∀H n,(∀e∈hid,Ga K H n e)->J.stop ds.length H
def LI(K:PySem.W.Frag)(di:DI):TI:=λσ H R=>∃(H0:Hp) (X:Addr->Prop) (S T:List Ent) (δ:DS) (P:Md->List Ab->DS->Prop),vs S=σ/\Sl S δ/\At K H0 X δ.n (S++T) H/\di δ P /\
 ∀m ds δ' J hid S' H',vs S'=σ->Sl S' δ'->At K H0 X δ'.n (S'++(hid++T)) H'->IterOk K J hid m ds->ds.length<=Aq->P m ds δ'->R J H'
abbrev oS(X:Cx)(tg iter:Expr)(di:DI):Prop:=PI X tg iter (LI X.K di)
theorem PI.imp{X:Cx}{tg e:Expr}{t t':TI}(h:PI X tg e t)(k:∀σ H Q,t' σ H Q->t σ H Q):PI X tg e t':=λpins s σ H Q I q=>h pins s σ H Q I (k σ H Q q)
def Ja:Md->Md
 | .pk=>.pk
 | _=>.sh
theorem bW(m:Md):wk m (Ja m)=true:=by cases m <;> rfl
theorem At.item{K:PySem.W.Frag}{H0 H H':Hp}{X:Addr->Prop}{n:Nat}{S T hid:List Ent}{m:Md}{v:V}{d:Ab}{F:List Addr}(h:At K H0 X n (S++(hid++T)) H)(s:Mi H H')(r:RdF K H' v d F)(hF:∀a∈F,∃e∈hid,a∈e.F)(md:m=.sh\/m=.pk)(hh:∀e∈hid,cells e=[])(np:m=.sh->∀e∈hid,Lv e.x=false):At K H0 X n (S++⟨some v,.dat m d,F⟩::(hid++T)) H':=by
 have h1:=h.grow (n':=n) s (Ai _)
 have c0:∀a,a∉cells ⟨some v,.dat m d,F⟩:=λa ha=>by
  rcases md with rfl | rfl <;> exact nomatch ha
 refine (h1.push (e:=⟨some v,.dat m d,F⟩) ⟨v,rfl,r,λz=>?_,λz=>?_⟩ (λf hf=>⟨λ_ a ha=>absurd ha (c0 a),λhq a ha z=>?_⟩) λa ha=>absurd ha (c0 a)).tomid
 ·rcases md with rfl | rfl <;> cases z
 ·rcases md with rfl | rfl <;> cases z
 ·obtain ⟨e,he,ze⟩:=hF a z
  have he':e∈S++(hid++T):=Ad _ (Ag _ he)
  rcases jE h he' hf with rfl | q
  ·rw[hh e he] at ha
   cases ha
  ·refine q.2 ?_ a ha ze
   rcases hq with hq | hq
   ·refine .inl (np ?_ e he)
    rcases md with rfl | rfl
    ·rfl
    ·cases hq
   ·exact .inr hq
def W7(de:DE):DI:=λδ P=>de δ λx δ'=>match x with
 | .dat m (.list ds)=>P (Ja m) ds δ'
 | .dat m (.tuple ds)=>P (Ja m) ds δ'
 | _=>False
def gI(da:DA):DI:=λδ P=>da δ λxs δ'=>match xs with
 | [.dat _ (.int j)]=>-1000000<=j/\j<=1000000/\P .sh ((Ew j.toNat).map λi:Nat=>.int i) δ'
 | _=>False
def rM(da:DA):DI:=λδ P=>da δ λxs δ'=>match xs with
 | [.dat m (.list ds)]=>P (Ja m) (ds.zipIdx.map λp=>.tuple [.int p.2,p.1]) δ'
 | _=>False
def P1(da:DA):DI:=λδ P=>da δ λxs δ'=>match xs with
 | [.dat m (.tuple ds)]=>P (Ja m) (ds.zipIdx.map λp=>.tuple [.int p.2,p.1]) δ'
 | _=>False
section
variable{K:PySem.W.Frag}
theorem Lg{H:Hp}{n:Nat}{v:V}{m:Md}{d:Ab}{F:List Addr}{hid:List Ent}(h:∀e∈hid,Ga K H n e)(he:⟨some v,.dat m d,F⟩∈hid):RdF K H v d F:=by
 obtain ⟨w,e1,h1,_⟩:=h _ he
 cases e1
 exact h1
theorem tM{v:Option V}{m:Md}{d:Ab}{F:List Addr}:cells ⟨v,.dat (Ja m) d,F⟩=[]:=by cases m <;> rfl
theorem iE{v:Option V}{m:Md}{d:Ab}{F:List Addr}:∀e∈[(⟨v,.dat (Ja m) d,F⟩ : Ent)],cells e=[]:=λe he=>by
 rw[Ac.mp he]
 exact tM
theorem rA{v:Option V}{m:Md}{d:Ab}{F:List Addr}:Ja m=.sh->∀e∈[(⟨v,.dat (Ja m) d,F⟩ : Ent)],Lv e.x=false:=λz e he=>by
 rw[Ac.mp he]
 show Lv (.dat (Ja m) d)=false
 rw[z]
 rfl
theorem aS(m:Md):Ja m=.sh\/Ja m=.pk:=by cases m <;> simp [Ja]
theorem mD{a:Addr}{m:Md}{ds:List Ab}{F:List Addr}:IterOk K (P7 K a) [⟨some (.ref a),.dat (Ja m) (.list ds),F⟩] (Ja m) ds where
 md:=aS m
 hd:=iE
 np:=rA
 go:=λH n i h hi=>by
  obtain ⟨b,xs,G,e,hb,rb,_,_⟩:=(Lg h Aa).list_inv
  cases e
  have hl:=rb.len
  exact ⟨xs,xs[i],Rr.of hb,by simp [show i<xs.length by omega]⟩
 yld:=λH n i x H' h hi y=>by
  obtain ⟨b,xs,G,e,hb,rb,rfl,_⟩:=(Lg h Aa).list_inv
  cases e
  obtain ⟨rfl,y⟩:=y
  have hx:=y xs (Rr.of hb)
  obtain ⟨x',F',h1,h2,h3⟩:=rb.get (i:=i) (e:=ds[i]) (by simp [hi])
  rw[hx] at h1
  cases h1
  exact ⟨Mi.refl _,ds[i],F',by simp [hi],h2,λc hc=>⟨_,Aa,Ae _ (h3.subset hc)⟩⟩
 stop:=λH n h=>by
  obtain ⟨b,xs,G,e,hb,rb,_,_⟩:=(Lg h Aa).list_inv
  cases e
  exact ⟨xs,Rr.of hb,by rw[rb.len]; exact Ai _⟩
theorem rK{a:Addr}{m:Md}{ds:List Ab}{F:List Addr}:IterOk K (R0 K a) [⟨some (.ref a),.dat (Ja m) (.tuple ds),F⟩] (Ja m) ds where
 md:=aS m
 hd:=iE
 np:=rA
 go:=λH n i h hi=>by
  obtain ⟨b,xs,e,hb,rb,_⟩:=(Lg h Aa).tup_inv
  cases e
  have hl:=rb.len
  exact ⟨xs,xs[i],Qs.of hb,by simp [show i<xs.length by omega]⟩
 yld:=λH n i x H' h hi y=>by
  obtain ⟨b,xs,e,hb,rb,_⟩:=(Lg h Aa).tup_inv
  cases e
  obtain ⟨rfl,y⟩:=y
  have hx:=y xs (Qs.of hb)
  obtain ⟨x',F',h1,h2,h3⟩:=rb.get (i:=i) (e:=ds[i]) (by simp [hi])
  rw[hx] at h1
  cases h1
  exact ⟨Mi.refl _,ds[i],F',by simp [hi],h2,λc hc=>⟨_,Aa,h3.subset hc⟩⟩
 stop:=λH n h=>by
  obtain ⟨b,xs,e,hb,rb,_⟩:=(Lg h Aa).tup_inv
  cases e
  exact ⟨xs,Qs.of hb,by rw[rb.len]; exact Ai _⟩
theorem jJ{lo:Int}{n:Nat}:IterOk K (yZ lo n) [] .sh ((Ew n).map λi:Nat=>.int (lo+i)) where
 md:=.inl rfl
 hd:=λ_ z=>nomatch z
 np:=λ_ _ z=>nomatch z
 go:=λH k i h hi=>by
  show i<n
  simpa using hi
 yld:=λH k i x H' h hi y=>by
  obtain ⟨rfl,rfl⟩:=y
  rw[Af,Gr] at hi
  exact ⟨Mi.refl _,.int (lo+i),[],by simp [hi],.int _,λ_ z=>nomatch z⟩
 stop:=λH k h=>by simp [yZ]
theorem mZ{a:Addr}{m:Md}{ds:List Ab}{F:List Addr}:IterOk K (U1 K a) [⟨some (.ref a),.dat (Ja m) (.list ds),F⟩] (Ja m) (ds.zipIdx.map λp=>.tuple [.int p.2,p.1]) where
 md:=aS m
 hd:=iE
 np:=rA
 go:=λH n i h hi=>by
  obtain ⟨b,xs,G,e,hb,rb,_,_⟩:=(Lg h Aa).list_inv
  cases e
  have hl:=rb.len
  rw[Af,Jv] at hi
  exact ⟨xs,xs[i],Rr.of hb,by simp [show i<xs.length by omega]⟩
 yld:=λH n i x H' h hi y=>by
  obtain ⟨b,xs,G,e,hb,rb,rfl,_⟩:=(Lg h Aa).list_inv
  cases e
  rw[Af,Jv] at hi
  obtain ⟨t,z,rfl,nt,rfl,y⟩:=y
  have hx:=y xs (Rr.of hb)
  obtain ⟨x',F',h1,h2,h3⟩:=rb.get (i:=i) (e:=ds[i]) (by simp [hi])
  rw[hx] at h1
  cases h1
  have s1:=En nt (.tup [.int i,z])
  refine ⟨s1,.tuple [.int i,ds[i]],F',by simp [hi],.tup Dd (by simp [He]) ?_,λc hc=>⟨_,Aa,Ae _ (h3.subset hc)⟩⟩
  have:=RdFs.cons (F:=[]) (.int (i:Int)) (RdFs.cons (h2.kp (Kp.of s1)) RdFs.nil)
  rw[Ea] at this
  exact this
 stop:=λH n h=>by
  obtain ⟨b,xs,G,e,hb,rb,_,_⟩:=(Lg h Aa).list_inv
  cases e
  exact ⟨xs,Rr.of hb,by rw[Af,Jv,rb.len]; exact Ai _⟩
end
section
variable{X:Cx}{tg e:Expr}{de:DE}{di:DI}
def dL(de:DE):DI:=λδ P=>de δ λx δ'=>match x with
 | .dat m (.list ds)=>P (Ja m) ds δ'
 | _=>False
def V4(de:DE):DI:=λδ P=>de δ λx δ'=>match x with
 | .dat m (.tuple ds)=>P (Ja m) ds δ'
 | _=>False
theorem nK(h:Ff X e de):oS X tg e (dL de):=by
 refine PI.imp (lR h) λσ H R h=>?_
 obtain ⟨H0,Y,S,T,δ,P,rfl,hS,hA,hd,k⟩:=h
 refine ⟨H0,Y,S,T,δ,_,rfl,hS,hA,hd,λx δ1 v F S1 H1 e1 e2 hA1 p1=>?_⟩
 split at p1
 ·obtain ⟨a,xs,G,rfl,ha,ra,rfl,hz⟩:=(hA1.told mem_mid).list_inv
  exact ⟨a,rfl,⟨xs,Rr.of ha⟩,k _ _ δ1 _ [_] S1 H1 e1 e2 ((hA1.mid.wk (bW _)).tomid) mD hz p1⟩
 ·exact p1.elim
theorem V5(h:Ff X e de):oS X tg e (V4 de):=by
 refine PI.imp (b0 h) λσ H R h=>?_
 obtain ⟨H0,Y,S,T,δ,P,rfl,hS,hA,hd,k⟩:=h
 refine ⟨H0,Y,S,T,δ,_,rfl,hS,hA,hd,λx δ1 v F S1 H1 e1 e2 hA1 p1=>?_⟩
 split at p1
 ·obtain ⟨a,xs,rfl,ha,ra,hz⟩:=(hA1.told mem_mid).tup_inv
  exact ⟨a,rfl,⟨xs,Qs.of ha⟩,k _ _ δ1 _ [_] S1 H1 e1 e2 ((hA1.mid.wk (bW _)).tomid) rK hz p1⟩
 ·exact p1.elim
variable{es:List Expr}{da:DA}{a b:Expr}{p pos tp:Pos}{elts:List Expr}{kt:Nat}
theorem Ug(hg:Gl X "range")(hm:X.mg "range" = none)(ha:iO X [a] da)(hs:Bf [a] X.env=[(false,eval a X.env)]:=by rfl):oS X tg (.Call (.Name "range" p) [a] [] pos) (gI da):=by
 refine PI.imp (Zn hg hm ha hs) λσ H R h=>?_
 obtain ⟨H0,Y,S,T,δ,P,rfl,hS,hA,hd,k⟩:=h
 refine ⟨H0,Y,S,T,δ,_,rfl,hS,hA,hd,λxs δ' As us S' H' e1 e2 ex eu hA' p=>?_⟩
 split at p
 ·obtain ⟨v,F,rfl,hA2⟩:=Jr eu hA' ex
  obtain ⟨rfl,_⟩:=(hA2.told mem_mid).int_inv
  obtain ⟨j0,j1,pp⟩:=p
  refine ⟨_,rfl,by omega,by omega,k _ _ δ' _ [] S' H' e1 e2 hA2.drop jJ (by rw[Af,Gr]; exact cO (by omega)) ?_⟩
  simpa using pp
 ·exact p.elim
theorem xE(hg:Gl X "enumerate")(hm:X.mg "enumerate" = none)(ha:iO X [a] da)(hs:Bf [a] X.env=[(false,eval a X.env)]:=by rfl):oS X (.Tuple elts kt tp) (.Call (.Name "enumerate" p) [a] [] pos) (rM da):=by
 refine PI.imp (vA hg hm ha hs) λσ H R h=>?_
 obtain ⟨H0,Y,S,T,δ,P,rfl,hS,hA,hd,k⟩:=h
 refine ⟨H0,Y,S,T,δ,_,rfl,hS,hA,hd,λxs δ' As us S' H' e1 e2 ex eu hA' p=>?_⟩
 split at p
 ·obtain ⟨v,F,rfl,hA2⟩:=Jr eu hA' ex
  obtain ⟨a,xs,G,rfl,ha,ra,rfl,hz⟩:=(hA2.told mem_mid).list_inv
  exact ⟨a,rfl,⟨xs,Rr.of ha⟩,k _ _ δ' _ [_] S' H' e1 e2 ((hA2.mid.wk (bW _)).tomid) mZ (by rw[Af,Jv]; exact hz) p⟩
 ·exact p.elim
end
def G6(di:DI)(dg:DG)(db:DB):DB:=λD δ=>di δ λm ds δ1=>m=.sh/\∃I:Nat->DS->Prop,I 0 δ1 /\
 (∀i d δ',ds[i]? = some d->I i δ'->dg (.dat .sh d) δ' λδ2=>db { D with nx:=I (i+1),ct:=I (i+1),bk:=D.nx } δ2)/\∀δ',I ds.length δ'->D.nx δ'
section
variable{X:Cx}{tg iter:Expr}{di:DI}{dg:DG}{db:DB}{body:List Stmt}{pos:Pos}
theorem At.dropH{K:PySem.W.Frag}{H0 H:Hp}{X:Addr->Prop}{n:Nat}{S T hid:List Ent}{e:Ent}(h:At K H0 X n (S++e::(hid++T)) H):At K H0 X n (S++e::T) H:=h.sub ((Ci S).append ((Bj hid T).cons₂ e))
theorem Oz(hp:PassesOwn (model X.prog X.w) X.A X.env X.xe)(hc:X.calm=true)(hi:oS X tg iter di)(hg:E8 X tg dg)(hb:Uv X body db)(hs:∀x,Cg iter X.env x=pure x:=by intro _; rfl):dI X (.For tg iter body [] pos) (G6 di dg db):=by
 refine PS.impD (tI hp hc hi hg hb hs) λD σ H h=>?_
 obtain ⟨H0,Y,S,T,δ,P,rfl,hS,hT,hA,hd,k1,k2,k3,k4⟩:=h
 refine ⟨H0,Y,S,T,δ,_,rfl,hS,hA,hd,λm ds δ1 J hid S1 H1 e1 e2 hA1 it hz p1=>?_⟩
 obtain ⟨rfl,I,h0,hs,hf⟩:=p1
 rw[<- e1]
 have hT':∀e∈hid++T,Lv e.x=false:=λe he=>by
  rcases An.mp he with he | he
  ·exact it.np rfl e he
  ·exact hT e he
 refine ⟨λi q σ H=>q=ds.length - i/\i<=ds.length/\∃S δ,vs S=σ/\Sl S δ/\At X.K H0 Y δ.n (S++(hid++T)) H/\I i δ,⟨ds.length,by simp,Dl _,S1,δ1,rfl,e2,hA1,h0⟩,?_⟩
 (intro i q σ H q_; obtain ⟨rfl,hi,S2,δ2,rfl,e3,hA2,hI⟩ := q_)
 have hid_ok:∀e∈hid,Ga X.K H δ2.n e:=λe he=>hA2.ok e (Ad _ (Ag _ he))
 by_cases hlt:i<ds.length
 ·refine .inr ⟨it.go H δ2.n i hid_ok hlt,λσ' H'=>∃S δ,vs S=σ'/\Sl S δ/\At X.K H0 Y δ.n (S++(hid++T)) H'/\I (i+1) δ,λσ' H' q=>⟨ds.length - (i+1),by omega,rfl,hlt,q⟩,λx H' y=>?_⟩
  obtain ⟨s1,d,F,h1,h2,h3⟩:=it.yld H δ2.n i x H' hid_ok hlt y
  refine ⟨H0,Y,S2,hid++T,δ2,.dat .sh d,F,_,rfl,e3,hA2.item s1 h2 h3 it.md it.hd it.np,hs i d δ2 h1 hI,λδ3 S3 H3 e4 hA3 p3=>?_⟩
  refine ⟨H0,Y,S3,hid++T,δ3,_,rfl,e4,hT',hA3,p3,λδ4 S4 H4 e5 hA4 p4=>⟨S4,δ4,rfl,e5,hA4,p4⟩,λx δ4 v F S4 H4 e5 hA4 p4=>k2 x δ4 v F S4 H4 e5 hA4.dropH p4,
   λδ4 S4 H4 e5 hA4 p4=>k1 δ4 S4 H4 e5 hA4.dropL p4,λδ4 S4 H4 e5 hA4 p4=>⟨S4,δ4,rfl,e5,hA4,p4⟩⟩
 ·have e:i=ds.length:=by omega
  subst e
  exact .inl ⟨it.stop H δ2.n hid_ok,k1 δ2 S2 H e3 hA2.dropL (hf δ2 hI)⟩
end
def uE(dt:DT)(db:DB):DB:=λD δ=>∃(I:DS->Prop) (μ:DS->Nat),I δ/\∀δ',I δ'->dt δ' λb δ2=>match b with
 | true=>db { D with nx:=λδ3=>I δ3/\μ δ3<μ δ',ct:=λδ3=>I δ3/\μ δ3<μ δ',bk:=D.nx } δ2
 | false=>D.nx δ2
end DL
namespace Nd
open PySem PySem.Spec PyProof.Rows L2
theorem Yn(elt t1 i1 t2 i2:Expr)(scope:Scope)(pos:Pos)(it acc:Value)(env:Env) :
  compTurn (.ListComp elt [⟨t1,i1,[],0⟩,⟨t2,i2,[],0⟩] scope pos) 0 it acc env=(do
   Po i1.pos
   match <- pyNext it with
   | none=>pure (.done .next)
   | some v =>
    Gc t1 it v
    Ic t1 env v
    let x <- eval i2 env
    Po i2.pos
    let x <- Cg i2 env x
    let it2 <- Vc [x] (pyIter x)
    let _ <- runOwn (.compStart (.ListComp elt [⟨t1,i1,[],0⟩,⟨t2,i2,[],0⟩] scope pos) 1 it2 acc env) env
    again (.compLoop (.ListComp elt [⟨t1,i1,[],0⟩,⟨t2,i2,[],0⟩] scope pos) 0 it acc env)):=by rfl
theorem Yu(elt t1 i1 t2 i2:Expr)(scope:Scope)(pos:Pos)(it acc:Value)(env:Env) :
  compTurn (.ListComp elt [⟨t1,i1,[],0⟩,⟨t2,i2,[],0⟩] scope pos) 1 it acc env=(do
   Po i2.pos
   match <- pyNext it with
   | none=>pure (.done .next)
   | some v =>
    Gc t2 it v
    Ic t2 env v
    (do let _ <- call (.builtin "list.append") [acc,<- eval elt env])
    again (.compLoop (.ListComp elt [⟨t1,i1,[],0⟩,⟨t2,i2,[],0⟩] scope pos) 1 it acc env)):=by rfl
section
variable{prog:Bx}{w:World}{A:Cs}{R:Result->Aj->Prop}{s:Aj}
theorem Yt{elt:Expr}{g:Comprehension}{t2 i2:Expr}{scope:Scope}{pos:Pos}{it acc:Value}{env:Env}(h0:Hf (model prog w) A (.compLoop (.ListComp elt [g,⟨t2,i2,[],0⟩] scope pos) 1 it acc env) R s)(h:wpAny (model prog w) A (pyIter it) (λit' s'=>Hf (model prog w) A (.compLoop (.ListComp elt [g,⟨t2,i2,[],0⟩] scope pos) 1 it' acc env) R s') (λ_ _=>False) s):Hf (model prog w) A (.compStart (.ListComp elt [g,⟨t2,i2,[],0⟩] scope pos) 1 it acc env) R s:=by
 refine codeAny_of_tree ?_
 show wpAny _ _ ((compStart (.ListComp elt [g,⟨t2,i2,[],0⟩] scope pos) 1 it acc env).onRaise (λx=>do noteFrame x env; Po theWindowsPlace)) _ _ s
 refine wpAny_notedAt ?_
 unfold compStart
 show wpAny _ _ (ask >>= _) _ _ s
 refine Ah (wpAny_askSetting (wpAny_ite ?_))
 split
 ·first
   | exact Ah (Aw (Aw (And.intro rfl h0)))
   | exact Aw (And.intro rfl h0)
 ·first
   | exact Ah (Rt (Ah (Fd (Ah (Cf h (λit' s' h'=>Aw (And.intro rfl h')) λ_ _ x=>x.elim)))))
   | (refine Ah (Rt ?_); show wpAny _ _ (Po i2.pos >>= _) _ _ s; exact Ah (Fd (Ah (Cf h (λit' s' h'=>Aw (And.intro rfl h')) λ_ _ x=>x.elim))))
theorem fU{elt t1 i1 t2 i2:Expr}{scope:Scope}{pos:Pos}{it acc:Value}{env:Env}(hs2:∀x,Cg i2 env x=pure x)(J:Nat->Aj->Prop) (turn:∀n s,J n s->wpAny (model prog w) A (pyNext it) (λr s1=>match r with
    | none=>R (.ok .next) s1
    | some v=>wpAny (model prog w) A (Gc t1 it v) (λ_ s2=>wpAny (model prog w) A (Ic t1 env v) (λ_ s3 =>
      wpAny (model prog w) A (eval i2 env) (λx s4=>wpAny (model prog w) A (pyIter x) (λit2 s5 =>
       Hf (model prog w) A (.compStart (.ListComp elt [⟨t1,i1,[],0⟩,⟨t2,i2,[],0⟩] scope pos) 1 it2 acc env) (λr s6=>match r with | .ok _=>∃m,m<n/\J m s6 | .error _=>False) s5) (λ_ _=>False) s4) (λ_ _=>False) s3) (λ_ _=>False) s2) (λ_ _=>False) s1) (λ_ _=>False) s)
  (n:Nat) (h:J n s):Hf (model prog w) A (.compLoop (.ListComp elt [⟨t1,i1,[],0⟩,⟨t2,i2,[],0⟩] scope pos) 0 it acc env) R s:=by
 refine aC rfl J (λn s hJ=>?_) n h
 show wpAny _ A (Sem.onRaise (compTurn (.ListComp elt [⟨t1,i1,[],0⟩,⟨t2,i2,[],0⟩] scope pos) 0 it acc env) (λx=>do noteFrame x env; theTreesLotGoes x)) _ _ s
 refine wpAny_noted ?_
 rw[Yn]
 refine Ah (Fd (Ah (Cf (turn n s hJ) (λr s1 h1=>?_) λ_ _ z=>z.elim)))
 cases r with
 | none=>exact Aw h1
 | some v =>
  refine Ah (Cf h1 (λ_ s2 h2=>?_) λ_ _ z=>z.elim)
  refine Ah (Cf h2 (λ_ s3 h3=>?_) λ_ _ z=>z.elim)
  refine Ah (Cf h3 (λx s4 h4=>?_) λ_ _ z=>z.elim)
  refine Ah (Fd (Ah (wpAny_of_eq (hs2 x) (Ah (Ek (Cf h4 (λit2 s5 h5=>?_) λ_ _ z=>z.elim))))))
  refine Ah (wpAny_runOwn ?_)
  refine aB h5 λr s6 h6=>?_
  cases r with
  | ok f=>exact Aw ⟨rfl,h6⟩
  | error e=>exact h6.elim
theorem fM{elt t1 i1 t2 i2:Expr}{scope:Scope}{pos:Pos}{it acc:Value}{env:Env}(J:Nat->Aj->Prop) (turn:∀n s,J n s->wpAny (model prog w) A (pyNext it) (λr s1=>match r with
    | none=>R (.ok .next) s1
    | some v=>wpAny (model prog w) A (Gc t2 it v) (λ_ s2=>wpAny (model prog w) A (Ic t2 env v) (λ_ s3 =>
      wpAny (model prog w) A (eval elt env) (λx s5=>wpAny (model prog w) A (call (.builtin "list.append") [acc,x]) (λ_ s6=>∃m,m<n/\J m s6) (λ_ _=>False) s5) (λ_ _=>False) s3) (λ_ _=>False) s2) (λ_ _=>False) s1) (λ_ _=>False) s)
  (n:Nat) (h:J n s):Hf (model prog w) A (.compLoop (.ListComp elt [⟨t1,i1,[],0⟩,⟨t2,i2,[],0⟩] scope pos) 1 it acc env) R s:=by
 refine aC rfl J (λn s hJ=>?_) n h
 show wpAny _ A (Sem.onRaise (compTurn (.ListComp elt [⟨t1,i1,[],0⟩,⟨t2,i2,[],0⟩] scope pos) 1 it acc env) (λx=>do noteFrame x env; theTreesLotGoes x)) _ _ s
 refine wpAny_noted ?_
 rw[Yu]
 refine Ah (Fd (Ah (Cf (turn n s hJ) (λr s1 h1=>?_) λ_ _ z=>z.elim)))
 cases r with
 | none=>exact Aw h1
 | some v =>
  refine Ah (Cf h1 (λ_ s2 h2=>?_) λ_ _ z=>z.elim)
  refine Ah (Cf h2 (λ_ s3 h3=>?_) λ_ _ z=>z.elim)
  refine Ah (Ah (Cf h3 (λx s5 h5=>?_) λ_ _ z=>z.elim))
  exact Ah (Cf h5 (λ_ s6 h6=>Aw (Aw ⟨rfl,h6⟩)) λ_ _ z=>z.elim)
end
section
variable{X:Cx}
def A5(J:It)(js:List Nat)(wi2:TI)(te:TE)(σ:L2.St)(H1:Hp)(Q:VK):Prop:=∀D,H1 D=none->∃W:Nat->Nat->Hp->Prop,(∃m,W 0 m (upd H1 D (.lst [])))/\∀i m H,W i m H ->
 (J.stop i H/\Q (.ref D) H)\/(J.go i H/\∀x H',J.yld i H x H'->∀o:Option V,wi2 (some x::o::Dx σ js) H' λJ2 H2=>∃W2:Nat->Nat->Hp->Prop,(∃m2,W2 0 m2 H2)/\∀i2 m2 H3,W2 i2 m2 H3 ->
  (J2.stop i2 H3/\∃m',m'<m/\W (i+1) m' H3)\/(J2.go i2 H3/\∀y H4,J2.yld i2 H3 y H4->te (some x::some y::Dx σ js) H4 λz H5=>∃acc,H5 D=some (.lst acc)/\acc.length<Aq/\∃m2',m2'<m2/\W2 (i2+1) m2' (upd H5 D (.lst (acc++[z])))))
def iL(wi:TI)(js:List Nat)(wi2:TI)(te:TE):TE:=λσ H Q=>wi σ H λJ H1=>A5 J js wi2 te σ H1 Q
end
section
variable{X:Cx}
theorem E1{elt iter:Expr}{x x2 y0:Str}{px px2 pt py pos spos:Pos}{kt:Nat}{i0:Nat}{ifs:List Expr}{scope:Scope}{cl:List (Str×Addr)}{ys:List Str}{js:List Nat}{wi:TI}{tc:TT}{te:TE}(hN:X.N.Nodup)(hi0:X.N[i0]? = some y0)(hy0:X.env.scope.names.lookup y0=some .local)(C:CompScope X scope cl x ys js)(own2:dM scope x2)(nd2:(x::x2::ys).Nodup)(hc:X.calm=true)(hi:PI X (.Tuple [.Name x px,.Name x2 px2] kt pt) iter wi)(ht:∀fp s H,gN (Cp X scope cl (x::x2::ys) fp s H) ifs tc)(he:∀fp s H,PE (Cp X scope cl (x::x2::ys) fp s H) elt te)(hs:∀x,Cg iter X.env x=pure x:=by intro _; rfl)(hsw:Gj (.ListComp elt [⟨.Tuple [.Name x px,.Name x2 px2] kt pt,iter,ifs,0⟩] scope pos) (some (.Name y0 py)) spos.line X.env=pure true:=by rfl):PS X (.Assign [.Name y0 py] (.ListComp elt [⟨.Tuple [.Name x px,.Name x2 px2] kt pt,iter,ifs,0⟩] scope pos) spos) (mI (pU X.K wi js tc te) (Oo i0)):=by
 intro pins s σ H De I h
 have h:pU X.K wi js tc te σ H λv H1=>De.nx (σ.set i0 (some v)) H1:=h
 rw[Te _ _ _ _ hsw]
 refine Ah (Fd (Ah ?_))
 show wpAny _ X.A (do let _ <- Yb (.ListComp elt [⟨.Tuple [.Name x px,.Name x2 px2] kt pt,iter,ifs,0⟩] scope pos) scope X.env _ (newList []) false (eval iter X.env) (some (Ic (.Name y0 py) X.env))) _ _ s
 refine Ah (Cf (Hm (use:=some (Ic (.Name y0 py) X.env)) (Q:=λ_ s'=>SP X pins De .next s') rfl hs C.clos C.kind C.locs (Et (hi pins s σ H _ I h) λv s1 h1=>Et h1 λitv s2 h2=>?_)) (λ_ s' hq=>Aw (Aw hq)) λ_ _ e=>e)
 obtain ⟨it,fp,tn,J,H2,e,I2,T,st2,f2,q2⟩:=h2
 subst e
 have fD:H2 s2.heap.objs.size=none:=I2.hok.fresh (Ai _)
 obtain ⟨W,⟨m0,w0⟩,turn⟩:=q2 s2.heap.objs.size fD
 refine Eg ?_
 have I3:Inv X pins σ (upd H2 s2.heap.objs.size (.lst [])) { s2 with heap:=s2.heap.push { cls:=.type "list",dict:=none,data:=.seq ([]:List Value).toArray } } :=
  I2.laid (t':=s2.toks) (λb u q=>Ao _ q) (Ai _) ⟨Dl _,[],0,.nil,Bn _ rfl⟩
 obtain ⟨f3,st3',o3'⟩:=Pa I2 T st2 f2 I3
 generalize hS3:({ s2 with heap:=s2.heap.push { cls:=.type "list",dict:=none,data:=.seq ([]:List Value).toArray } }:Aj)=s3 at I3
 have Oh:tn 0 s3.heap:=by rw[<- hS3]; exact st3'
 have o3:∀b∈fp,∃o,s3.heap.get? b=some o:=by rw[<- hS3]; exact o3'
 show wpAny _ _ (Jp scope X.env.globals cl [] X.env.qual none .none (some X.env)) _ _ _
 refine Nw C λh4 hns4 keep4 new4=>?_
 have I4:∀tk,Inv (Cp X scope cl (x::x2::ys) fp s3 (upd H2 s2.heap.objs.size (.lst []))) [] (none::none::Dx σ js) (upd H2 s2.heap.objs.size (.lst [])) { s3 with heap:=h4,toks:=tk }:=λtk=>Lz (pre:=[x,x2]) C I3 f3 o3 hns4 keep4 new4
 have st4:tn 0 h4:=T.keep 0 _ _ Oh λb hb o q=>keep4 b o q
 generalize hX':Cp X scope cl (x::x2::ys) fp s3 (upd H2 s2.heap.objs.size (.lst []))=X' at I4
 obtain ⟨eP,eW,eK,eA,eC⟩:=Pc hc hX'
 have stat:∀{H':Hp},(∀b∈fp,H' b=none)->∀b∈fp,Lh X' [] H' b:=λ{H'} hn=>Nk hX' (I4 0) hn
 have loop:∀s5:Aj,s5={ s3 with heap:=h4,toks:=s3.toks+([]:List (Str×Value)).length } ->
   Hf (model X.prog X.w) X.A (.compLoop (.ListComp elt [⟨.Tuple [.Name x px,.Name x2 px2] kt pt,iter,ifs,0⟩] scope pos) 0 (.ref it) (.ref s2.heap.objs.size) (Qx scope (Dt (s3.heap.objs.size+1) scope.names cl) s3.heap.objs.size X.env))
    (compPost (model X.prog X.w) X.A X.xe (some (Ic (.Name y0 py) X.env)) (λ_ s'=>SP X pins De .next s') (.ref s2.heap.objs.size) s3.heap.objs.size) s5:=by
  rintro s5 rfl
  refine Rc (λn s'=>∃i o o2 H',Inv X' [] (o::o2::Dx σ js) H' s'/\tn i s'.heap/\(∀b∈fp,H' b=none)/\W i n H') ?_ m0
   ⟨0,none,none,_,I4 _,st4,λb hb=>(f3 b hb).1,w0⟩
  (intro n s6 q_; obtain ⟨i,o,o2,H6,I6,st6,fr6,w6⟩ := q_)
  rcases turn i n H6 w6 with ⟨stop,qn⟩ | ⟨go,step⟩
  ·have hd:=T.done X' eP eW eK eC i [] s6 _ H6 (λ_ _=>False) I6 (stat fr6) st6 stop
   rw[eA] at hd
   refine Et hd λr s7 q0_ => ?_
   obtain ⟨hr,I7⟩ := q0_
   subst hr
   obtain ⟨⟨m7,hn7'⟩,I7f,J7⟩:=Ub hX' I3 f3 I7
   have fC:Lh X pins H6 s3.heap.objs.size:=I3.fpOk (Ai _) I7f
   obtain ⟨oC,esC,epC,hoC,rC⟩:=id hn7'
   have J8:Inv X (pins++[(s3.heap.objs.size,oC)]) σ H6 s7:=J7.pins_of λp hp=>by
    rcases An.mp hp with z | z
    ·have q:=J7.pin p (Ad _ z)
     exact q
    ·rw[Ac.mp z]
     exact ⟨hoC,I7f,fC.2.1,fC.2.2.1,λv hv=>by rw[rC.1] at hv; cases hv⟩
   refine Et (Ip (X:=X) (i:=i0) (x:=y0) (pos:=py) hN hi0 (.inl hy0) (.inr hy0) (pins++[(s3.heap.objs.size,oC)]) s7 σ H6 (.ref s2.heap.objs.size) (.ref s2.heap.objs.size) (λσ' H'=>σ'=σ.set i0 (some (.ref s2.heap.objs.size))/\H'=H6) J8 rfl ⟨rfl,rfl⟩) λ_ s9 q0_ => ?_
   obtain ⟨σ9,H9,I9,e9,e9'⟩ := q0_
   subst e9 e9'
   have hoC9:=(I9.pin (s3.heap.objs.size,oC) (Ad _ (Ad _ Aa))).1
   have I9':Inv X pins (σ.set i0 (some (.ref s2.heap.objs.size))) H9 s9:=I9.pins_of λp hp=>I9.pin p (Ad _ (Ag _ hp))
   refine ⟨m7,hn7'.at λo e=>by rw[hoC] at e; cases e; exact hoC9,λh10 hs10=>?_⟩
   exact ⟨_,H9,Se (t':=s9.toks) (fp:=[s3.heap.objs.size]) I9' (λb o hb e=>(hs10.2 b (λz=>hb (by rw[z]; exact Aa))).trans e) (λb hb=>by rw[Ac.mp hb]; exact fC),qn⟩
  ·have hit:=T.item X' eP eW eK eC i [] s6 _ H6 (λ_ _=>False) I6 (stat fr6) st6 go
   rw[eA] at hit
   refine Et hit λr s7 q0_ => ?_
   obtain ⟨u,hr,h7⟩ := q0_
   subst hr
   refine Et h7 λ_ s8 q0_ => ?_
   obtain ⟨y,H8,I8,r8,y8,st8,fr8⟩ := q0_
   have I8':=I8.pinned (stat fr8) (T.obj _ _ st8)
   obtain ⟨tp,w1,w2,ey,hsq,N1,N2,hN1,hN2,hst⟩:=step y H8 y8
   have again:∀{H9:Hp} {s9:Aj} {m':Nat},Inv X' ([]++Lu fp s8.heap) (some w1::some w2::Dx σ js) H9 s9->m'<n->W (i+1) m' H9->∃m,m<n/\∃i o o2 H',Inv X' [] (o::o2::Dx σ js) H' s9/\tn i s9.heap/\(∀b∈fp,H' b=none)/\W i m H':=λ{H9 s9 m'} I9 hm w9=>by
    refine ⟨m',hm,i+1,some w1,some w2,H9,I9.unpinned,T.keep _ _ _ st8 λb hb o e=>(I9.pin (b,o) (Ad _ (Ad _ (Em hb e)))).1,λb hb=>?_,w9⟩
    obtain ⟨o,e,_⟩:=T.obj _ _ st8 b hb
    exact (I9.pin (b,o) (Ad _ (Ad _ (Em hb e)))).2.1
   subst hX'
   have g1:PG (Cp X scope cl (x::x2::ys) fp s3 (upd H2 s2.heap.objs.size (.lst []))) (.Tuple [.Name x px,.Name x2 px2] kt pt) (zF X.K 2 (gC (Oo 0) (gC (Oo 1) B2))) :=
    iZ (X:=Cp X scope cl (x::x2::ys) fp s3 (upd H2 s2.heap.objs.size (.lst []))) hc (Pg (Ip (i:=0) (x:=x) nd2 rfl (Mn C.own) (Pd C.own)) (Pg (Ip (i:=1) (x:=x2) nd2 rfl (Mn own2) (Pd own2)) aE))
   refine Et (g1 _ s8 _ H8 y u (λσ' H'=>σ'=some w1::some w2::Dx σ js/\H'=H8) I8' r8 ⟨tp,[w1,w2],ey,hsq,rfl,_,_,rfl,_,_,rfl,rfl,rfl,rfl⟩) λ_ s9 q0_ => ?_
   obtain ⟨σ9,H9,I9,e9,e9'⟩ := q0_
   subst e9 e9'
   refine Et (ht fp s3 _ _ s9 _ _ _ I9 hst) λok s10 q0_ => ?_
   obtain ⟨H10,I10,q10⟩ := q0_
   cases ok with
   | false =>
    rw[if_neg Cb] at q10 ⊢
    obtain ⟨m',hm,w10⟩:=hN1 _ q10
    exact again I10 hm w10
   | true =>
    rw[if_pos rfl] at q10 ⊢
    refine Et (he fp s3 _ _ s10 _ _ _ I10 q10) λz s11 q0_ => ?_
    obtain ⟨vz,H11,I11,r11,q11⟩ := q0_
    obtain ⟨acc,ha,hz,m',hm,w11⟩:=hN2 _ _ q11
    refine Et (Lm _ s11 _ H11 (.ref s2.heap.objs.size) [vz] (.ref s2.heap.objs.size) [z] (λ_ H'=>H'=upd H11 s2.heap.objs.size (.lst (acc++[vz]))) I11 rfl (.cons r11 .nil) ⟨_,acc,vz,rfl,rfl,ha,hz,rfl⟩) λ_ s12 q0_ => ?_
    obtain ⟨_,H12,I12,_,e12⟩ := q0_
    subst e12
    exact again I12 hm w11
 exact Ld (loop _ rfl) (T.self X.A 0 _ _ _ st4 (loop _ rfl))
theorem sE{elt iter iter2:Expr}{x x2 y0:Str}{px px2 py pos spos:Pos}{i0:Nat}{scope:Scope}{cl:List (Str×Addr)}{ys:List Str}{js:List Nat}{wi wi2:TI}{te:TE}(hN:X.N.Nodup)(hi0:X.N[i0]? = some y0)(hy0:X.env.scope.names.lookup y0=some .local)(C:CompScope X scope cl x ys js)(own2:dM scope x2)(nd2:(x::x2::ys).Nodup)(hc:X.calm=true)(hi:PI X (.Name x px) iter wi)(hi2:∀fp s H,PI (Cp X scope cl (x::x2::ys) fp s H) (.Name x2 px2) iter2 wi2)(he:∀fp s H,PE (Cp X scope cl (x::x2::ys) fp s H) elt te)(hs:∀x,Cg iter X.env x=pure x:=by intro _; rfl)(hs2:∀fp s H v,Cg iter2 (Cp X scope cl (x::x2::ys) fp s H).env v=pure v:=by intro _ _ _ _; rfl)(hsw:Gj (.ListComp elt [⟨.Name x px,iter,[],0⟩,⟨.Name x2 px2,iter2,[],0⟩] scope pos) (some (.Name y0 py)) spos.line X.env=pure true:=by rfl):PS X (.Assign [.Name y0 py] (.ListComp elt [⟨.Name x px,iter,[],0⟩,⟨.Name x2 px2,iter2,[],0⟩] scope pos) spos) (mI (iL wi js wi2 te) (Oo i0)):=by
 intro pins s σ H De I h
 have h:iL wi js wi2 te σ H λv H1=>De.nx (σ.set i0 (some v)) H1:=h
 rw[Te _ _ _ _ hsw]
 refine Ah (Fd (Ah ?_))
 show wpAny _ X.A (do let _ <- Yb (.ListComp elt [⟨.Name x px,iter,[],0⟩,⟨.Name x2 px2,iter2,[],0⟩] scope pos) scope X.env _ (newList []) false (eval iter X.env) (some (Ic (.Name y0 py) X.env))) _ _ s
 refine Ah (Cf (Hm (use:=some (Ic (.Name y0 py) X.env)) (Q:=λ_ s'=>SP X pins De .next s') rfl hs C.clos C.kind C.locs (Et (hi pins s σ H _ I h) λv s1 h1=>Et h1 λitv s2 h2=>?_)) (λ_ s' hq=>Aw (Aw hq)) λ_ _ e=>e)
 obtain ⟨it,fp,tn,J,H2,e,I2,T,st2,f2,q2⟩:=h2
 subst e
 have fD:H2 s2.heap.objs.size=none:=I2.hok.fresh (Ai _)
 obtain ⟨W,⟨m0,w0⟩,turn⟩:=q2 s2.heap.objs.size fD
 refine Eg ?_
 have I3:Inv X pins σ (upd H2 s2.heap.objs.size (.lst [])) { s2 with heap:=s2.heap.push { cls:=.type "list",dict:=none,data:=.seq ([]:List Value).toArray } } :=
  I2.laid (t':=s2.toks) (λb u q=>Ao _ q) (Ai _) ⟨Dl _,[],0,.nil,Bn _ rfl⟩
 obtain ⟨f3,st3',o3'⟩:=Pa I2 T st2 f2 I3
 generalize hS3:({ s2 with heap:=s2.heap.push { cls:=.type "list",dict:=none,data:=.seq ([]:List Value).toArray } }:Aj)=s3 at I3
 have Oh:tn 0 s3.heap:=by rw[<- hS3]; exact st3'
 have o3:∀b∈fp,∃o,s3.heap.get? b=some o:=by rw[<- hS3]; exact o3'
 show wpAny _ _ (Jp scope X.env.globals cl [] X.env.qual none .none (some X.env)) _ _ _
 refine Nw C λh4 hns4 keep4 new4=>?_
 have I4:∀tk,Inv (Cp X scope cl (x::x2::ys) fp s3 (upd H2 s2.heap.objs.size (.lst []))) [] (none::none::Dx σ js) (upd H2 s2.heap.objs.size (.lst [])) { s3 with heap:=h4,toks:=tk }:=λtk=>Lz (pre:=[x,x2]) C I3 f3 o3 hns4 keep4 new4
 have st4:tn 0 h4:=T.keep 0 _ _ Oh λb hb o q=>keep4 b o q
 generalize hX':Cp X scope cl (x::x2::ys) fp s3 (upd H2 s2.heap.objs.size (.lst []))=X' at I4
 obtain ⟨eP,eW,eK,eA,eC⟩:=Pc hc hX'
 have stat:∀{H':Hp},(∀b∈fp,H' b=none)->∀b∈fp,Lh X' [] H' b:=λ{H'} hn=>Nk hX' (I4 0) hn
 have loop:∀s5:Aj,s5={ s3 with heap:=h4,toks:=s3.toks+([]:List (Str×Value)).length } ->
   Hf (model X.prog X.w) X.A (.compLoop (.ListComp elt [⟨.Name x px,iter,[],0⟩,⟨.Name x2 px2,iter2,[],0⟩] scope pos) 0 (.ref it) (.ref s2.heap.objs.size) (Qx scope (Dt (s3.heap.objs.size+1) scope.names cl) s3.heap.objs.size X.env))
    (compPost (model X.prog X.w) X.A X.xe (some (Ic (.Name y0 py) X.env)) (λ_ s'=>SP X pins De .next s') (.ref s2.heap.objs.size) s3.heap.objs.size) s5:=by
  rintro s5 rfl
  refine fU (λv=>hs2 fp s3 (upd H2 s2.heap.objs.size (.lst [])) v) (λn s'=>∃i o o2 H',Inv X' [] (o::o2::Dx σ js) H' s'/\tn i s'.heap/\(∀b∈fp,H' b=none)/\W i n H') ?_ m0
   ⟨0,none,none,_,I4 _,st4,λb hb=>(f3 b hb).1,w0⟩
  (intro n s6 q_; obtain ⟨i,o,o2,H6,I6,st6,fr6,w6⟩ := q_)
  rcases turn i n H6 w6 with ⟨stop,qn⟩ | ⟨go,step⟩
  ·have hd:=T.done X' eP eW eK eC i [] s6 _ H6 (λ_ _=>False) I6 (stat fr6) st6 stop
   rw[eA] at hd
   refine Et hd λr s7 q0_ => ?_
   obtain ⟨hr,I7⟩ := q0_
   subst hr
   obtain ⟨⟨m7,hn7'⟩,I7f,J7⟩:=Ub hX' I3 f3 I7
   have fC:Lh X pins H6 s3.heap.objs.size:=I3.fpOk (Ai _) I7f
   obtain ⟨oC,esC,epC,hoC,rC⟩:=id hn7'
   have J8:Inv X (pins++[(s3.heap.objs.size,oC)]) σ H6 s7:=J7.pins_of λp hp=>by
    rcases An.mp hp with z | z
    ·have q:=J7.pin p (Ad _ z)
     exact q
    ·rw[Ac.mp z]
     exact ⟨hoC,I7f,fC.2.1,fC.2.2.1,λv hv=>by rw[rC.1] at hv; cases hv⟩
   refine Et (Ip (X:=X) (i:=i0) (x:=y0) (pos:=py) hN hi0 (.inl hy0) (.inr hy0) (pins++[(s3.heap.objs.size,oC)]) s7 σ H6 (.ref s2.heap.objs.size) (.ref s2.heap.objs.size) (λσ' H'=>σ'=σ.set i0 (some (.ref s2.heap.objs.size))/\H'=H6) J8 rfl ⟨rfl,rfl⟩) λ_ s9 q0_ => ?_
   obtain ⟨σ9,H9,I9,e9,e9'⟩ := q0_
   subst e9 e9'
   have hoC9:=(I9.pin (s3.heap.objs.size,oC) (Ad _ (Ad _ Aa))).1
   have I9':Inv X pins (σ.set i0 (some (.ref s2.heap.objs.size))) H9 s9:=I9.pins_of λp hp=>I9.pin p (Ad _ (Ag _ hp))
   refine ⟨m7,hn7'.at λo e=>by rw[hoC] at e; cases e; exact hoC9,λh10 hs10=>?_⟩
   exact ⟨_,H9,Se (t':=s9.toks) (fp:=[s3.heap.objs.size]) I9' (λb o hb e=>(hs10.2 b (λz=>hb (by rw[z]; exact Aa))).trans e) (λb hb=>by rw[Ac.mp hb]; exact fC),qn⟩
  ·have hit:=T.item X' eP eW eK eC i [] s6 _ H6 (λ_ _=>False) I6 (stat fr6) st6 go
   rw[eA] at hit
   refine Et hit λr s7 q0_ => ?_
   obtain ⟨u,hr,h7⟩ := q0_
   subst hr
   refine Et h7 λ_ s8 q0_ => ?_
   obtain ⟨y,H8,I8,r8,y8,st8,fr8⟩ := q0_
   have I8':=I8.pinned (stat fr8) (T.obj _ _ st8)
   have stp:=step y H8 y8 o2
   have again:∀{H9:Hp} {s9:Aj} {m':Nat} {o9:Option V},Inv X' ([]++Lu fp s8.heap) (some y::o9::Dx σ js) H9 s9->m'<n->W (i+1) m' H9->∃m,m<n/\∃i o o2 H',Inv X' [] (o::o2::Dx σ js) H' s9/\tn i s9.heap/\(∀b∈fp,H' b=none)/\W i m H':=λ{H9 s9 m' o9} I9 hm w9=>by
    refine ⟨m',hm,i+1,some y,o9,H9,I9.unpinned,T.keep _ _ _ st8 λb hb o e=>(I9.pin (b,o) (Ad _ (Ad _ (Em hb e)))).1,λb hb=>?_,w9⟩
    obtain ⟨o,e,_⟩:=T.obj _ _ st8 b hb
    exact (I9.pin (b,o) (Ad _ (Ad _ (Em hb e)))).2.1
   subst hX'
   refine Et (Ip (i:=0) (x:=x) (pos:=px) nd2 rfl (Mn C.own) (Pd C.own) _ s8 _ H8 y u (λσ' H'=>σ'=some y::o2::Dx σ js/\H'=H8) I8' r8 ⟨rfl,rfl⟩) λ_ s9 q0_ => ?_
   obtain ⟨σ9,H9,I9,e9,e9'⟩ := q0_
   subst e9 e9'
   refine Et (hi2 fp s3 _ _ s9 _ _ _ I9 stp) λv2 s10 h10=>Et h10 λitv2 s11 h11=>?_
   obtain ⟨it2,fp2,tn2,J2,H11,e11,I11,T2,st11,f11,W2,⟨m20,w20⟩,turn2⟩:=h11
   subst e11
   have stat2:∀{H':Hp},(∀b∈fp2,H' b=none)->∀b∈fp2,Lh (Cp X scope cl (x::x2::ys) fp s3 (upd H2 s2.heap.objs.size (.lst []))) ([]++Lu fp s8.heap) H' b:=λhn b hb=>⟨hn b hb,(f11 b hb).2⟩
   have loop2:Hf (model X.prog X.w) X.A (.compLoop (.ListComp elt [⟨.Name x px,iter,[],0⟩,⟨.Name x2 px2,iter2,[],0⟩] scope pos) 1 (.ref it2) (.ref s2.heap.objs.size) (Qx scope (Dt (s3.heap.objs.size+1) scope.names cl) s3.heap.objs.size X.env))
     (λr s6=>match r with | .ok _=>∃m,m<n/\∃i o o2 H',Inv (Cp X scope cl (x::x2::ys) fp s3 (upd H2 s2.heap.objs.size (.lst []))) [] (o::o2::Dx σ js) H' s6/\tn i s6.heap/\(∀b∈fp,H' b=none)/\W i m H' | .error _=>False) s11:=by
    refine fM (λn2 s'=>∃i2 o2 H',Inv (Cp X scope cl (x::x2::ys) fp s3 (upd H2 s2.heap.objs.size (.lst []))) ([]++Lu fp s8.heap) (some y::o2::Dx σ js) H' s'/\tn2 i2 s'.heap/\(∀b∈fp2,H' b=none)/\W2 i2 n2 H') ?_ m20
     ⟨0,o2,H11,I11,st11,λb hb=>(f11 b hb).1,w20⟩
    (intro n2 s12 q_; obtain ⟨i2,p2,H12,I12,st12,fr12,w12⟩ := q_)
    rcases turn2 i2 n2 H12 w12 with ⟨stop2,m',hm',w'⟩ | ⟨go2,step2⟩
    ·have hd:=T2.done _ rfl rfl rfl hc i2 _ s12 _ H12 (λ_ _=>False) I12 (stat2 fr12) st12 stop2
     refine Et hd λr s13 q0_ => ?_
     obtain ⟨hr,I13⟩ := q0_
     subst hr
     exact again I13 hm' w'
    ·have hit2:=T2.item _ rfl rfl rfl hc i2 _ s12 _ H12 (λ_ _=>False) I12 (stat2 fr12) st12 go2
     refine Et hit2 λr s13 q0_ => ?_
     obtain ⟨u2,hr,h13⟩ := q0_
     subst hr
     refine Et h13 λ_ s14 q0_ => ?_
     obtain ⟨z,H14,I14,r14,y14,st14,fr14⟩ := q0_
     have I14':=I14.pinned (stat2 fr14) (T2.obj _ _ st14)
     refine Et (Ip (i:=1) (x:=x2) (pos:=px2) nd2 rfl (Mn own2) (Pd own2) _ s14 _ H14 z u2 (λσ' H'=>σ'=some y::some z::Dx σ js/\H'=H14) I14' r14 ⟨rfl,rfl⟩) λ_ s15 q0_ => ?_
     obtain ⟨σ15,H15,I15,e15,e15'⟩ := q0_
     subst e15 e15'
     refine Et (he fp s3 _ _ s15 _ _ _ I15 (step2 z H15 y14)) λzv s16 q0_ => ?_
     obtain ⟨vz,H16,I16,r16,q16⟩ := q0_
     obtain ⟨acc,ha,hz,m2',hm2,w16⟩:=q16
     refine Et (Lm _ s16 _ H16 (.ref s2.heap.objs.size) [vz] (.ref s2.heap.objs.size) [zv] (λ_ H'=>H'=upd H16 s2.heap.objs.size (.lst (acc++[vz]))) I16 rfl (.cons r16 .nil) ⟨_,acc,vz,rfl,rfl,ha,hz,rfl⟩) λ_ s17 q0_ => ?_
     obtain ⟨_,H17,I17,_,e17⟩ := q0_
     subst e17
     refine ⟨m2',hm2,i2+1,some z,_,I17.unpinned,T2.keep _ _ _ st14 λb hb o e=>(I17.pin (b,o) (Ad _ (Ad _ (Em hb e)))).1,λb hb=>?_,w16⟩
     obtain ⟨o,e,_⟩:=T2.obj _ _ st14 b hb
     exact (I17.pin (b,o) (Ad _ (Ad _ (Em hb e)))).2.1
   exact Yt loop2 (T2.self X.A 0 _ _ _ st11 loop2)
 exact Ld (loop _ rfl) (T.self X.A 0 _ _ _ st4 (loop _ rfl))
end
end Nd
namespace DL
open PySem L2 Nd
def al(e:Ent):Ent:=match e.x with
 | .dat m d=>⟨e.v,.dat (dD m) d,e.F⟩
 | .val _=>e
 | .scr _=>e
 | _=>⟨e.v,.un,[]⟩
def alD:DV->DV
 | .dat m d=>.dat (dD m) d
 | .val v=>.val v
 | .scr ns=>.scr ns
 | _=>.un
def qA(S:List Ent)(j:Nat):Ent:=match S[j]? with
 | some e=>al e
 | none=>⟨none,.un,[]⟩
def Tr(S:List Ent)(js:List Nat):List Ent:=js.map (qA S)
def frD1(sl:List DV)(j:Nat):DV:=match sl[j]? with
 | some x=>alD x
 | none=>.un
def frD(sl:List DV)(js:List Nat):List DV:=js.map (frD1 sl)
theorem R4(e:Ent):(al e).v=e.v:=by
 obtain ⟨v,x,F⟩:=e
 cases x <;> rfl
theorem R9(e:Ent):(al e).x=alD e.x:=by
 obtain ⟨v,x,F⟩:=e
 cases x <;> rfl
theorem dQ(S:List Ent)(js:List Nat):vs (Tr S js)=Dx (vs S) js:=by
 unfold vs Tr Dx
 rw[Eh]
 refine Me λj _=>?_
 rw[Bg]
 simp only[Qz,qA]
 cases S[j]? with
 | none=>rfl
 | some e=>exact R4 e
theorem fQ{S:List Ent}{δ:DS}(h:Sl S δ)(js:List Nat):(Tr S js).map Ent.x=frD δ.sl js:=by
 unfold Sl at h
 unfold Tr frD
 rw[Eh]
 refine Me λj _=>?_
 simp only[Qz,qA,frD1]
 rw[<- h,Bg]
 cases S[j]? with
 | none=>rfl
 | some e=>exact R9 e
section
variable{K:PySem.W.Frag}{H0 H H':Hp}{X:Addr->Prop}{n:Nat}{E S T:List Ent}
theorem eD(e:Ent):cells (al e)=[]:=by
 obtain ⟨v,x,F⟩:=e
 cases x with
 | dat m d=>cases m <;> rfl
 | _=>rfl
theorem At.view1(h:At K H0 X n E H){e:Ent}(he:e∈E):At K H0 X n (al e::E) H:=by
 refine h.push ?_ (λf hf=>⟨λ_ a ha=>(by rw[eD] at ha; cases ha),λhq a ha z=>?_⟩) λa ha=>(by rw[eD] at ha; cases ha)
 ·have:=h.ok e he
  obtain ⟨v,x,F⟩:=e
  cases x with
  | dat m d =>
   obtain ⟨w,h1,h2,_⟩:=this
   exact ⟨w,h1,h2,λz=>(by cases m <;> cases z),λz=>(by cases m <;> cases z)⟩
  | val v=>exact this
  | scr ns=>exact this
  | _=>exact (rfl:([]:List Addr)=[])
 ·obtain ⟨v,x,F⟩:=e
  cases x with
  | dat m d =>
   rcases jE h he hf with rfl | q
   ·rcases hq with hq | hq
    ·cases m <;> first | cases hq; done | exact nomatch ha
    ·cases hq
   ·refine q.2 ?_ a ha z
    rcases hq with hq | hq
    ·refine .inl ?_
     cases m <;> first | rfl | exact hq
    ·exact .inr hq
  | val v =>
   rw[show F=[] from (h.ok _ he).2] at z
   cases z
  | scr ns =>
   obtain ⟨_,_,hF,_⟩:=h.ok _ he
   rw[show F=[] from hF] at z
   cases z
  | _=>exact nomatch z
theorem At.blank(h:At K H0 X n E H){v:Option V}:At K H0 X n (⟨v,.un,[]⟩::E) H :=
 h.push (rfl:([]:List Addr)=[]) (λf _=>⟨λ_ a ha=>(nomatch ha),λ_ a _=>Bq⟩) (λa ha=>(nomatch ha))
theorem At.view(h:At K H0 X n E H)(hS:∀e∈S,e∈E):∀js:List Nat,At K H0 X n (Tr S js++E) H
 | []=>h
 | j::js=>by
  have ih:=At.view h hS js
  show At K H0 X n (qA S j::(Tr S js++E)) H
  unfold qA
  cases e:S[j]? with
  | none=>exact ih.blank
  | some x=>exact ih.view1 (Ad _ (hS x (Ar e)))
theorem At.accNew(h:At K H0 X n E H){D:Addr}(hD:H D=Ng):At K H0 X n (⟨some (.ref D),.acc [],[D]⟩::E) (upd H D (.lst [])):=by
 have s1:=En hD (.lst [])
 refine (h.grow (n':=n) s1 (Ai _)).push ⟨D,[],[],rfl,rfl,Dd,.nil,Dl _,Bq⟩ (λf hf=>?_) λa ha=>?_
 ·have nf:=h.free hD f hf
  refine ⟨λ_ a ha z=>?_,λ_ a ha z=>?_⟩
  ·rw[Ac.mp ha] at z
   exact nf z
  ·rw[Ac.mp z] at ha
   exact nf (Ep _ _ ha)
 ·rw[Ac.mp ha]
  exact .inl (h.new0 hD)
theorem At.accPutG{D:Addr}{ds:List Ab}{v:V}{m:Md}{e:Ab}{F G:List Addr}(h:At K H0 X n (⟨some (.ref D),.acc ds,D::G⟩::⟨some v,.dat m e,F⟩::E) H)(hm:m≠.pk)(hz:ds.length+1<=Aq):∃xs,H D=some (.lst xs)/\xs.length=ds.length/\At K H0 X n (⟨some (.ref D),.acc (ds++[e]),D::(G++F)⟩::E) (upd H D (.lst (xs++[v]))):=by
 obtain ⟨a,xs,G',e1,e0,ha,ra,_,nG⟩:=h.ok _ Aa
 have e1':some (V.ref D)=some (V.ref a):=e1
 cases e1'
 have e0':D::G=D::G':=e0
 cases e0'
 have r:RdF K H v e F:=h.told (Ae _ Aa)
 have hs:=Ax.mp h.sep
 have hs2:=Ax.mp hs.2
 have h1:=(h.sub (Ck _ _)).sub (Ck _ _)
 have npk:Lv (.dat m e)=false:=by cases m <;> first | rfl | exact absurd rfl hm
 have nF:D∉F:=(hs.1 _ Aa).1 (.inr rfl) D Aa
 have kp:∀{F:List Addr},D∉F->Kp F H (upd H D (.lst (xs++[v]))):=λ{F} hF b o q z=>by
  have : b≠D:=by
   rintro rfl
   rw[ha] at q
   cases q
   rcases z with z | z
   ·exact hF z
   ·rcases z with ⟨_,z⟩ | ⟨_,_,z⟩ <;> cases z
  rw[Dy this]
  exact q
 have nD:H0 D=Ng:=by
  rcases h.new _ Aa D Aa with z | z
  ·exact z
  ·cases z.2
 refine ⟨xs,ha,ra.len,?_⟩
 refine ⟨λf hf=>?_,?_,λf hf=>?_,λb o nx q=>?_,λb o q=>?_,λb hb=>?_⟩
 rotate_right
 ·obtain ⟨z,c,k,f,h1,h2⟩:=h.xd b hb
  refine ⟨z,c,k,f,(Dy ?_).trans h1,h2⟩
  rintro rfl
  exact z nD
 ·rcases Ak.mp hf with rfl | hf
  ·exact ⟨D,xs++[v],G++F,rfl,rfl,Dd,(ra.kp (kp nG)).snoc (r.kp (kp nF)),by rw[Ay]; exact hz,λz=>(An.mp z).elim nG nF⟩
  ·exact (h1.ok f hf).kp (kp ((hs.1 f (Ae _ hf)).1 (.inr rfl) D Aa)) (Ai _)
 ·refine Ax.mpr ⟨λf hf=>⟨λhq a ha'=>(hs.1 f (Ae _ hf)).1 (.inr rfl) a ha',λhq a ha' z=>?_⟩,hs2.2⟩
  have z1:=(hs.1 f (Ae _ hf)).2 (.inl rfl) a ha'
  rcases Ak.mp z with z | z
  ·exact z1 (z▸Aa)
  ·rcases An.mp z with z | z
   ·exact z1 (Ae _ z)
   ·exact (hs2.1 f hf).2 (.inl npk) a ha' z
 ·rcases Ak.mp hf with rfl | hf
  ·intro a ha'
   rw[Ac.mp ha']
   exact .inl nD
  ·exact h1.new f hf
 ·rw[Dy (Ej q nD)]
  exact h.same b o nx q
 ·rw[Dy (Ej q nD)]
  exact h.dom b o q
theorem At.accPut{D:Addr}{ds:List Ab}{v:V}{e:Ab}(h:At K H0 X n (⟨some (.ref D),.acc ds,[D]⟩::E) H)(r:RdF K H v e [])(hz:ds.length+1<=Aq):∃xs,H D=some (.lst xs)/\xs.length=ds.length/\At K H0 X n (⟨some (.ref D),.acc (ds++[e]),[D]⟩::E) (upd H D (.lst (xs++[v]))) :=
 At.accPutG (m:=.ow) (At.pushI (S:=[⟨some (.ref D),.acc ds,[D]⟩]) h r) (by decide) hz
def Rw:Bool->Md
 | true=>.ow
 | false=>.tp
theorem At.accGetG{D:Addr}{ds:List Ab}{b:Bool}{G:List Addr}(h:At K H0 X n (⟨some (.ref D),.acc ds,D::G⟩::E) H)(hb:b=true->G=[]):At K H0 X n (⟨some (.ref D),.dat (Rw b) (.list ds),D::G⟩::E) H:=by
 obtain ⟨a,xs,G',e1,e0,ha,ra,hz,nG⟩:=h.ok _ Aa
 have e1':some (V.ref D)=some (V.ref a):=e1
 cases e1'
 have e0':D::G=D::G':=e0
 cases e0'
 have hs:=Ax.mp h.sep
 have cs:∀a∈cells ⟨some (.ref D),.dat (Rw b) (.list ds),D::G⟩,a=D:=λa ha'=>by
  cases b with
  | true=>rw[hb rfl] at ha'; exact Ac.mp ha'
  | false=>exact Ac.mp ha'
 refine (h.sub (Ck _ _)).push ⟨_,rfl,.lst ha hz ra,λz=>?_,λ_ a l e=>?_⟩ (λf hf=>⟨λhq a ha'=>?_,λhq a ha'=>(hs.1 f hf).2 (.inl rfl) a ha'⟩) λa ha'=>?_
 ·cases b with
  | true=>rw[hb rfl]; exact Bt.mpr ⟨Bq,Cw⟩
  | false=>cases z
 ·have e:D::G=a::l:=e
  cases e
  exact nG
 ·rw[cs a ha']
  exact (hs.1 f hf).1 (.inr rfl) D Aa
 ·rw[cs a ha']
  rcases h.new _ Aa D Aa with z | z
  ·exact .inl z
  ·cases z.2
theorem At.accGet{D:Addr}{ds:List Ab}(h:At K H0 X n (⟨some (.ref D),.acc ds,[D]⟩::E) H):At K H0 X n (⟨some (.ref D),.dat .ow (.list ds),[D]⟩::E) H:=At.accGetG (b:=true) h λ_=>rfl
end
def Ol:DT:=λδ P=>P true δ
def x4(b:Bool)(m:Md)(e:Ab):Prop:=match b with
 | true=>imm e=true
 | false=>m≠.pk
def Ho(b:Bool)(dc:DT)(de:DE)(δ:DS)(yes:Ab->Nat->Prop)(no:Nat->Prop):Prop:=dc δ λc δ2=>match c with
 | true=>de δ2 λy δ3=>match y with
  | .dat m e=>x4 b m e/\yes e δ3.n
  | _=>False
 | false=>no δ2.n
def iY(b:Bool)(di:DI)(js:List Nat)(dc:DT)(de:DE):DE:=λδ P=>di δ λm ds δ1=>∃I:Nat->List Ab->Nat->Prop,I 0 [] δ1.n /\
 (∀i d acc n,ds[i]? = some d->I i acc n->Ho b dc de ⟨.dat m d::frD δ1.sl js,n⟩ (λe n'=>I (i+1) (acc++[e]) n') (λn'=>I (i+1) acc n')) /\
 ∀acc n,I ds.length acc n->P (.dat (Rw b) (.list acc)) ⟨δ1.sl,n⟩
def Sd:DT->DE->DS->(Ab->Nat->Prop)->(Nat->Prop)->Prop:=Ho true
def pA:DI->List Nat->DT->DE->DE:=iY true
def gW:DI->List Nat->DT->DE->DE:=iY false
section
variable{K:PySem.W.Frag}{H0 H H':Hp}{Y:Addr->Prop}{n:Nat}{E S T:List Ent}
theorem fW{b:Bool}{dc:DT}{de:DE}{δ:DS}{yes:Ab->Nat->Prop}{no:Nat->Prop}{D:Addr}{G:List Addr}{acc:List Ab}{N1:Hp->Prop}{N2:VK}(hS:Sl S δ)(hb:b=true->G=[])(hA:At K H0 Y δ.n (S++⟨some (.ref D),.acc acc,D::G⟩::T) H)(h:Ho b dc de δ yes no)(hz:acc.length+1<=Aq)(k1:∀n' H',At K H0 Y n' (⟨some (.ref D),.acc acc,D::G⟩::T) H'->no n'->N1 H')(k2:∀e n' v H' G',(b=true->G'=[])->(∃xs,H' D=some (.lst xs)/\xs.length=acc.length/\At K H0 Y n' (⟨some (.ref D),.acc (acc++[e]),D::G'⟩::T) (upd H' D (.lst (xs++[v]))))->yes e n'->N2 v H'):LT K dc (vs S) H λc H2=>if c=true then LE K de (vs S) H2 N2 else N1 H2:=by
 refine ⟨H0,Y,S,⟨some (.ref D),.acc acc,D::G⟩::T,δ,_,rfl,hS,hA,h,λc δ2 S2 H2 e1 e2 hA2 p2=>?_⟩
 cases c with
 | false=>exact iW (k1 _ _ (hA2.sub (Bj _ _)) p2)
 | true =>
  refine dN ⟨H0,Y,S2,⟨some (.ref D),.acc acc,D::G⟩::T,δ2,_,e1,e2,hA2,p2,λy δ3 v F S3 H3 e3 e4 hA3 p3=>?_⟩
  split at p3
  ·rename_i m e
   have r:=hA3.told mem_mid
   cases b with
   | true =>
    obtain rfl:=r.imm p3.1
    obtain rfl:=hb rfl
    exact k2 _ _ _ _ [] (λ_=>rfl) ((hA3.drop.sub (Bj _ _)).accPut r hz) p3.2
   | false =>
    have hA4:At K H0 Y δ3.n (⟨some v,.dat m e,F⟩::⟨some (.ref D),.acc acc,D::G⟩::T) H3:=hA3.sub (Bj _ _)
    exact k2 _ _ _ _ (G++F) (λz=>nomatch z) ((hA4.perm (Dv _ _ _)).accPutG p3.1 hz) p3.2
  ·exact p3.elim
theorem Zl{dt:TT}:∀σ H Q,LT K Ol σ H Q->Qa σ H Q:=by
 intro σ H Q h
 obtain ⟨H0,Y,S,T,δ,P,rfl,hS,hA,hd,k⟩:=h
 exact k true δ S H rfl hS hA hd
theorem gN.imp{X:Cx}{e:List Expr}{t t':TT}(h:gN X e t)(k:∀σ H Q,t' σ H Q->t σ H Q):gN X e t':=λpins s σ H Q I q=>h pins s σ H Q I (k σ H Q q)
theorem Vh{b:Bool}{di:DI}{js:List Nat}{dc:DT}{de:DE}:∀σ H Q,LE K (iY b di js dc de) σ H Q->gH (LI K di) js (LT K dc) (LE K de) σ H Q:=by
 intro σ H Q h
 obtain ⟨H0,Y,S,T,δ,P,rfl,hS,hA,hd,k⟩:=h
 refine ⟨H0,Y,S,T,δ,_,rfl,hS,hA,hd,λm ds δ1 J hid S1 H1 e1 e2 hA1 it hz p1=>?_⟩
 obtain ⟨I,h0,hs,hf⟩:=p1
 rw[<- e1]
 intro D hD
 refine ⟨λi q H=>q=ds.length - i/\i<=ds.length/\∃acc n G,(b=true->G=[])/\At K H0 Y n (⟨some (.ref D),.acc acc,D::G⟩::(S1++(hid++T))) H/\acc.length<=i/\I i acc n,⟨ds.length,by simp,Dl _,[],δ1.n,[],λ_=>rfl,hA1.accNew hD,Ai _,h0⟩,?_⟩
 (intro i q H q_; obtain ⟨rfl,hi,acc,n,G,hG,hA2,hl,hI⟩ := q_)
 have hid_ok:∀e∈hid,Ga K H n e:=λe he=>hA2.ok e (Ae _ (Ad _ (Ag _ he)))
 by_cases hlt:i<ds.length
 ·refine .inr ⟨it.go H n i hid_ok hlt,λx H' y=>?_⟩
  obtain ⟨s1,d,F,h1,h2,h3⟩:=it.yld H n i x H' hid_ok hlt y
  have hA3:At K H0 Y n ((⟨some (.ref D),.acc acc,D::G⟩::S1)++⟨some x,.dat m d,F⟩::(hid++T)) H':=At.item (S:=⟨some (.ref D),.acc acc,D::G⟩::S1) hA2 s1 h2 h3 it.md it.hd it.np
  have hA4:=hA3.mid
  have hA5:=At.view (S:=S1) hA4 (λe he=>Ae _ (Ag _ (Ae _ he))) js
  have hA6:At K H0 Y n ((⟨some x,.dat m d,F⟩::Tr S1 js)++⟨some (.ref D),.acc acc,D::G⟩::(S1++(hid++T))) H':=hA5.mid
  have hS6:Sl (⟨some x,.dat m d,F⟩::Tr S1 js) ⟨.dat m d::frD δ1.sl js,n⟩:=by
   unfold Sl
   rw[Ap,fQ e2]
  have hv:vs (⟨some x,.dat m d,F⟩::Tr S1 js)=some x::Dx (vs S1) js:=by
   rw[<- dQ]
   rfl
  refine ⟨λH2=>∃m',m'<ds.length - i/\_,λy H3=>∃acc,H3 D=some (.lst acc)/\acc.length<Aq/\∃m',m'<ds.length - i/\_,λH2 q=>q,λy H3 q=>q,?_⟩
  rw[<- hv]
  refine fW hS6 hG hA6 (hs i d acc n h1 hI) (by omega) (λn' H2 hA7 p=>?_) (λe n' v H2 G' hG' hA7 p=>?_)
  ·exact ⟨ds.length - (i+1),by omega,rfl,hlt,acc,n',G,hG,hA7,by omega,p⟩
  ·obtain ⟨xs,g1,g2,g3⟩:=hA7
   exact ⟨xs,g1,by omega,ds.length - (i+1),by omega,rfl,hlt,acc++[e],n',G',hG',g3,by rw[Ay]; simp; omega,p⟩
 ·have e:i=ds.length:=by omega
  subst e
  refine .inl ⟨it.stop H n hid_ok,k _ ⟨δ1.sl,n⟩ _ (D::G) S1 H e1 e2 ?_ (hf acc n hI)⟩
  have hA3:=hA2.accGetG hG
  have hA4:At K H0 Y n (⟨some (.ref D),.dat (Rw b) (.list acc),D::G⟩::(S1++T)) H:=hA3.sub (((Ci S1).append (Bj hid T)).cons₂ _)
  exact hA4.tomid
end
section
variable{X:Cx}{elt iter c:Expr}{x x2 y0:Str}{px px2 pt py pos spos:Pos}{kt i0:Nat}{ifs:List Expr}{scope:Scope}{cl:List (Str×Addr)}{ys:List Str}{js:List Nat}{di:DI}{dc:DT}{de:DE}
theorem Pf:gN X [] (LT X.K Ol):=gN.imp eV (Zl (dt:=Qa))
theorem Vn(h:Ye X c dc):gN X [c] (LT X.K dc):=vM h
theorem bU(C:CompScope X scope cl x ys js)(hc:X.calm=true)(hi:oS X (.Name x px) iter di)(ht:∀fp s H,gN (Cp X scope cl (x::ys) fp s H) ifs (LT X.K dc))(he:∀fp s H,Ff (Cp X scope cl (x::ys) fp s H) elt de)(hs:∀x,Cg iter X.env x=pure x:=by intro _; rfl):Ff X (.ListComp elt [⟨.Name x px,iter,ifs,0⟩] scope pos) (pA di js dc de):=PE.imp (cA C hc hi ht he hs) Vh
def B5(o:Bool)(i:Nat):DG:=match o with
 | true=>fN i
 | false=>Mx i
theorem wM{K:PySem.W.Frag}{o:Bool}{i:Nat}:∀v σ H Q,LG K (B5 o i) v σ H Q->Oo i v σ H Q:=by
 cases o with
 | true=>exact rJ
 | false=>exact bI
theorem lO{o:Bool}(hN:X.N.Nodup)(hi0:X.N[i0]? = some y0)(hy0:X.env.scope.names.lookup y0=some .local)(C:CompScope X scope cl x ys js)(hc:X.calm=true)(hi:oS X (.Name x px) iter di)(ht:∀fp s H,gN (Cp X scope cl (x::ys) fp s H) ifs (LT X.K dc))(he:∀fp s H,Ff (Cp X scope cl (x::ys) fp s H) elt de)(hs:∀x,Cg iter X.env x=pure x:=by intro _; rfl)(hsw:Gj (.ListComp elt [⟨.Name x px,iter,ifs,0⟩] scope pos) (some (.Name y0 py)) spos.line X.env=pure true:=by rfl):dI X (.Assign [.Name y0 py] (.ListComp elt [⟨.Name x px,iter,ifs,0⟩] scope pos) spos) (bO (pA di js dc de) (B5 o i0)):=PS.impD (bC hN hi0 hy0 C hc hi ht he hs hsw) (Rn Vh wM)
theorem uB(C:CompScope X scope cl x ys js)(hc:X.calm=true)(hi:oS X (.Name x px) iter di)(ht:∀fp s H,gN (Cp X scope cl (x::ys) fp s H) ifs (LT X.K dc))(he:∀fp s H,Ff (Cp X scope cl (x::ys) fp s H) elt de)(hs:∀x,Cg iter X.env x=pure x:=by intro _; rfl):Ff X (.ListComp elt [⟨.Name x px,iter,ifs,0⟩] scope pos) (gW di js dc de):=PE.imp (cA C hc hi ht he hs) Vh
theorem qY{o:Bool}(hN:X.N.Nodup)(hi0:X.N[i0]? = some y0)(hy0:X.env.scope.names.lookup y0=some .local)(C:CompScope X scope cl x ys js)(hc:X.calm=true)(hi:oS X (.Name x px) iter di)(ht:∀fp s H,gN (Cp X scope cl (x::ys) fp s H) ifs (LT X.K dc))(he:∀fp s H,Ff (Cp X scope cl (x::ys) fp s H) elt de)(hs:∀x,Cg iter X.env x=pure x:=by intro _; rfl)(hsw:Gj (.ListComp elt [⟨.Name x px,iter,ifs,0⟩] scope pos) (some (.Name y0 py)) spos.line X.env=pure true:=by rfl):dI X (.Assign [.Name y0 py] (.ListComp elt [⟨.Name x px,iter,ifs,0⟩] scope pos) spos) (bO (gW di js dc de) (B5 o i0)):=PS.impD (bC hN hi0 hy0 C hc hi ht he hs hsw) (Rn Vh wM)
end
end DL
namespace DL
open PySem PySem.Spec PyProof.Rows L2 Nd
section
variable{K:PySem.W.Frag}{H0 H H':Hp}{X:Addr->Prop}{n n':Nat}{E S T:List Ent}
theorem At.pushF(h:At K H0 X n E H){v:V}{d:Ab}{F:List Addr}(r:RdF K H v d F)(nd:F.Nodup)(fr:∀a∈F,∀f∈E,a∉f.F)(f0:∀a∈F,H0 a=none):At K H0 X n (⟨some v,.dat .ow d,F⟩::E) H:=by
 refine h.push ⟨v,rfl,r,λ_=>nd,λz=>nomatch z⟩ (λf hf=>⟨λ_ a ha z=>fr a ha f hf z,λ_ a ha z=>fr a z f hf (Ep _ _ ha)⟩) λa ha=>.inl (f0 a ha)
theorem At.drawn(h:At K H0 X n E H){e:Ent}{dr:Addr}(he:e∈E)(hx:e.x=.drw)(hv:e.v=some (.ref dr))(s:Qt dr H H')(hd:∃c k f,Sw H' dr c k f/\0<=k/\k<=(n':Int))(hn:n<=n'):At K H0 X n' E H':=by
 obtain ⟨v,x,F⟩:=e
 have hx':x=.drw:=hx
 subst hx'
 obtain ⟨dr',c0,k0,f0,hv',hF,hd0,_⟩:=h.ok _ he
 have e1:some (V.ref dr)=some (V.ref dr'):=hv.symm.trans hv'
 cases e1
 have hF':F=[dr]:=hF
 subst hF'
 refine ⟨λf hf=>?_,h.sep,h.new,λb o nx q=>?_,λb o q=>?_,λb hb=>?_⟩
 rotate_right
 ·obtain ⟨z,c,k,f,h1,h2,h3⟩:=h.xd b hb
  by_cases hbd:b=dr
  ·subst hbd
   exact ⟨z,hd⟩
  ·exact ⟨z,c,k,f,s _ _ hbd h1,h2,by omega⟩
 ·rcases jE h he hf with rfl | q
  ·obtain ⟨c,k,fl,h1,h2,h3⟩:=hd
   exact ⟨dr,c,k,fl,hv',rfl,h1,h2,h3⟩
  ·have nf:dr∉f.F:=q.1 (.inr rfl) dr Aa
   refine (h.ok f hf).kp (λb o eb z=>?_) hn
   by_cases hb:b=dr
   ·subst hb
    rcases z with z | z
    ·exact absurd z nf
    ·have hd0':H b=some (.lst _):=hd0
     rw[eb] at hd0'
     cases hd0'
     rcases z with ⟨_,z⟩ | ⟨_,_,z⟩ <;> cases z
   ·exact s b o hb eb
 ·have hb:b≠dr:=by
   rintro rfl
   rcases h.new _ he b Aa with z | z
   ·rw[z] at q; cases q
   ·exact nx z.1
  exact s b o hb (h.same b o nx q)
 ·by_cases hb:b=dr
  ·subst hb
   obtain ⟨c,k,fl,h1,_⟩:=hd
   exact ⟨_,h1⟩
  ·obtain ⟨o',z⟩:=h.dom b o q
   exact ⟨o',s b o' hb z⟩
end
abbrev PF:=List Ab->(Ab->Prop)->Prop
abbrev DF:=List Ab->Nat->(Ab->Nat->Prop)->Prop
def nW(K:PySem.W.Frag)(pf:PF):Sp:=λus H Q _=>∃(As:List Ent) (n:Nat) (ds:List Ab) (R:Ab->Prop),As.map Ent.v=us.map some/\(∀e∈As,Ga K H n e)/\datas (As.map Ent.x)=some ds/\pf ds R /\
 ∀v d F H',R d->RdF K H' v d F->F.Nodup->(∀a∈F,H a=none)->Mi H H'->Q v H'
def o7(K:PySem.W.Frag)(df:DF):Sp:=λus H Q _=>∃(dr:Addr) (ws:List V) (As:List Ent) (n:Nat) (ds:List Ab) (R:Ab->Nat->Prop),us=.ref dr::ws/\As.map Ent.v=ws.map some/\(∀e∈As,Ga K H n e)/\(∀e∈As,dr∉e.F)/\(∃c k f,Sw H dr c k f/\0<=k/\k<=(n:Int))/\datas (As.map Ent.x)=some ds/\df ds n R /\
 ∀v d F n' H',n<=n'->R d n'->RdF K H' v d F->F.Nodup->(∀a∈F,H a=none)->(∃c k f,Sw H' dr c k f/\0<=k/\k<=(n':Int))->Qt dr H H'->Q v H'
def sM(pf:PF)(da:DA):DE:=λδ P=>da δ λxs δ1=>match datas xs with
 | some ds=>pf ds λd=>P (.dat .ow d) δ1
 | none=>False
def jC(i:Nat)(df:DF)(da:DA):DE:=λδ P=>match δ.sl[i]? with
 | some .drw=>da δ λxs δ1=>match δ1.sl[i]? with
  | some .drw=>match datas xs with
   | some ds=>df ds δ1.n λd n'=>P (.dat .ow d) ⟨δ1.sl,n'⟩
   | none=>False
  | _=>False
 | _=>False
section
variable{X:Cx}{CX:kE}{k:Nat}{f:Addr}{fd:Cr}{ps:List Str}{pf:PF}{df:DF}{E:XK}{x:Str}{p pos:Pos}{e e0:Expr}{es:List Expr}{da:DA}
theorem Vk(F:FnOk X.prog X.w X.K X.mg X.base CX k f fd ps (nW X.K pf))(hr:Room k X.A)(hg:Gl X x)(hm:X.mg x=some (.ref f))(hk:PySem.W.keepIn X.K (.ref f)=true)(hb:Binds X.K fd ps [])(hx:Na CX X E)(ha:iO X (e::es) da)(hdb:(x == ("__debug__" : Str))=false:=by decide)(he:Bf (e::es) X.env=(false,eval e X.env)::Bf es X.env:=by rfl)(hpl:(Fs pos (Bf es X.env)).any (·.1)=false:=by rfl):Ff X (.Call (.Name x p) (e::es) [] pos) (sM pf da):=by
 refine PE.imp (Sj F hr hg hm hk hb .nil hx ha hdb he hpl) λσ H Q h=>?_
 obtain ⟨H0,Y,S,T,δ,P,rfl,hS,hA,hd,kk⟩:=h
 refine ⟨H0,Y,S,T,δ,_,rfl,hS,hA,hd,λxs δ' As us S' H' e1 e2 ex eu hA' p=>?_⟩
 subst ex
 cases q:datas (As.map Ent.x) with
 | none=>rw[q] at p; exact p.elim
 | some ds =>
  rw[q] at p
  rw[Ea]
  refine ⟨As,δ'.n,ds,_,eu,λe he=>hA'.ok e (Ad _ (Ag _ he)),q,p,λv d F H'' r rd nd fr s=>?_⟩
  exact kk _ δ' v F S' H'' e1 e2 (((hA'.dropL.grow s (Ai _)).pushF rd nd (λa ha=>hA'.dropL.free (fr a ha)) (λa ha=>hA'.new0 (fr a ha))).tomid) r
theorem O0(F:FnOk X.prog X.w X.K X.mg X.base CX k f fd ps (nW X.K pf))(hr:Room k X.A)(hg:Gl X x)(hm:X.mg x=some (.ref f))(hk:PySem.W.keepIn X.K (.ref f)=true)(hb:Binds X.K fd ps [])(hx:Na CX X E)(hdb:(x == ("__debug__" : Str))=false:=by decide):Ff X (.Call (.Name x p) [] [] pos) (sM pf o8):=by
 refine PE.imp (tR F hr hg hm hk hb .nil hx hdb) λσ H Q h=>?_
 obtain ⟨H0,Y,S,T,δ,P,rfl,hS,hA,hd,kk⟩:=h
 show nW X.K pf [] H Q E
 refine ⟨[],δ.n,[],_,rfl,λe he=>(nomatch he),rfl,hd,λv d F H'' r rd nd fr s=>?_⟩
 exact kk _ δ v F S H'' rfl hS (((hA.grow s (Ai _)).pushF rd nd (λa ha=>hA.free (fr a ha)) (λa ha=>hA.new0 (fr a ha))).tomid) r
theorem Np{i:Nat}(F:FnOk X.prog X.w X.K X.mg X.base CX k f fd ps (o7 X.K df))(hr:Room k X.A)(hg:Gl X x)(hm:X.mg x=some (.ref f))(hk:PySem.W.keepIn X.K (.ref f)=true)(hb:Binds X.K fd ps [])(hx:Na CX X E)(h0:PE X e0 (Tp i))(ha:iO X es da)(hdb:(x == ("__debug__" : Str))=false:=by decide)(he:Bf (e0::es) X.env=(false,eval e0 X.env)::Bf es X.env:=by rfl)(hpl:(Fs pos (Bf es X.env)).any (·.1)=false:=by rfl):Ff X (.Call (.Name x p) (e0::es) [] pos) (jC i df da):=by
 refine PE.imp (Sj F hr hg hm hk hb .nil hx (Gh h0 ha he) hdb he hpl) λσ H Q h=>?_
 obtain ⟨H0,Y,S,T,δ,P,rfl,hS,hA,hd,kk⟩:=h
 unfold jC at hd
 split at hd
 case h_2=>exact hd.elim
 rename_i hsl0
 have main:∀w,(vs S)[i]? = some (some w)->LA X.K da (vs S) H λxs H2=>o7 X.K df ((w::xs)++[]) H2 Q E:=λw hw=>by
  refine ⟨H0,Y,S,T,δ,_,rfl,hS,hA,hd,λxs δ' As us S' H' e1 e2 ex eu hA' p=>?_⟩
  subst ex
  split at p
  ·rename_i hsl
   obtain ⟨ent,s1,s2⟩:=Gg e2 hsl
   have hm':ent∈S':=Ar s1
   have hv:ent.v=some w:=by
    have:=Jb s1
    rw[e1,hw] at this
    exact (Be this).symm
   obtain ⟨u,z,F⟩:=ent
   have s2':z=.drw:=s2
   subst s2'
   have hE:(⟨u,.drw,F⟩ : Ent)∈S'++(As++T):=Ag _ hm'
   obtain ⟨dr,c0,k0,f0,hv0,hF0,hd0,hk0,hk1⟩:=hA'.ok _ hE
   have ew:some w=some (V.ref dr):=hv.symm.trans hv0
   cases ew
   have hF':F=[dr]:=hF0
   subst hF'
   cases q:datas (As.map Ent.x) with
   | none=>rw[q] at p; exact p.elim
   | some ds =>
    rw[q] at p
    rw[Ea]
    refine ⟨dr,us,As,δ'.n,ds,_,rfl,eu,λe he=>hA'.ok e (Ad _ (Ag _ he)),λe he=>?_,⟨c0,k0,f0,hd0,hk0,hk1⟩,q,p,λv d F n' H'' hn r rd nd fr hdr s=>?_⟩
    ·obtain ⟨_,_,hp⟩ := Bk.mp hA'.sep
     exact (hp _ hm' e (Ag _ he)).1 (.inr rfl) dr Aa
    ·have hA2:=hA'.dropL.drawn (Ag _ hm') rfl hv s hdr hn
     exact kk _ ⟨δ'.sl,n'⟩ v F S' H'' e1 e2 ((hA2.pushF rd nd (λa ha=>hA'.dropL.free (fr a ha)) (λa ha=>hA'.new0 (fr a ha))).tomid) r
  ·exact p.elim
 obtain ⟨ent,s1,s2⟩:=Gg hS hsl0
 have hm':ent∈S:=Ar s1
 obtain ⟨u,z,F⟩:=ent
 have s2':z=.drw:=s2
 subst s2'
 obtain ⟨dr,c0,k0,f0,hv0,_⟩:=hA.ok _ (Ag _ hm')
 have hw:(vs S)[i]? = some (some (.ref dr)):=(Jb s1).trans (congrArg some hv0)
 exact ⟨_,hw,main _ hw⟩
def Sk:Sp:=λvs H Q _=>∃c:Int,vs=[.int c]/\∀(p:Addr) (c':Int) (f:Bool) (H':Hp),H p=none->Sw H' p c' 0 f->Mi H H'->Q (.ref p) H'
def rO(da:DA):DE:=λδ P=>da δ λxs δ1=>match xs with
 | [.dat _ (.int _)]=>P .drw δ1
 | _=>False
theorem rY(F:FnOk X.prog X.w X.K X.mg X.base CX k f fd ps Sk)(hr:Room k X.A)(hg:Gl X x)(hm:X.mg x=some (.ref f))(hk:PySem.W.keepIn X.K (.ref f)=true)(hb:Binds X.K fd ps [])(hx:Na CX X E)(ha:iO X (e::es) da)(hdb:(x == ("__debug__" : Str))=false:=by decide)(he:Bf (e::es) X.env=(false,eval e X.env)::Bf es X.env:=by rfl)(hpl:(Fs pos (Bf es X.env)).any (·.1)=false:=by rfl):Ff X (.Call (.Name x p) (e::es) [] pos) (rO da):=by
 refine PE.imp (Sj F hr hg hm hk hb .nil hx ha hdb he hpl) λσ H Q h=>?_
 obtain ⟨H0,Y,S,T,δ,P,rfl,hS,hA,hd,kk⟩:=h
 refine ⟨H0,Y,S,T,δ,_,rfl,hS,hA,hd,λxs δ' As us S' H' e1 e2 ex eu hA' p=>?_⟩
 split at p
 ·obtain ⟨v,F,rfl,hA2⟩:=Jr eu hA' ex
  obtain ⟨rfl,_⟩:=(hA2.told mem_mid).int_inv
  refine ⟨_,rfl,λq c' fl H'' nq hdr s=>?_⟩
  have h3:=hA2.drop.grow (n':=δ'.n) s (Ai _)
  refine kk _ δ' _ [q] S' H'' e1 e2 ((h3.push (e:=⟨some (.ref q),.drw,[q]⟩) ⟨q,_,0,fl,rfl,rfl,hdr,by decide,by omega⟩ (λf hf=>?_) λa ha=>?_).tomid) p
  ·have nf:=hA2.drop.free nq f hf
   refine ⟨λ_ a ha z=>?_,λ_ a ha z=>?_⟩
   ·rw[Ac.mp ha] at z
    exact nf z
   ·rw[Ac.mp z] at ha
    exact nf (Ep _ _ ha)
  ·rw[Ac.mp ha]
   exact .inl (hA2.new0 nq)
 ·exact p.elim
end
def args0(ds:List Ab)(k:Nat):List DV:=ds.map (λd=>.dat .sh d)++Hj k .un
def Wy(e:Ent):Ent:=match e.x with
 | .dat _ d=>⟨e.v,.dat .sh d,e.F⟩
 | _=>e
theorem Jm:∀{xs:List DV} {ds:List Ab},datas xs=some ds->xs.length=ds.length
 | [],ds,h=>by cases h; rfl
 | x::xs,ds,h=>by
  cases x with
  | dat m d =>
   cases q:datas xs with
   | none=>simp [datas,q] at h
   | some es =>
    simp [datas,q] at h
    subst h
    rw[Bm,Bm,Jm q]
  | _=>cases h
theorem Sf:∀{As:List Ent} {ds:List Ab},datas (As.map Ent.x)=some ds->(As.map Wy).map Ent.x=ds.map (λd=>.dat .sh d)
 | [],ds,h=>by cases h; rfl
 | ⟨v,x,F⟩::As,ds,h=>by
  rw[Ap] at h
  cases x with
  | dat m d =>
   cases q:datas (As.map Ent.x) with
   | none=>simp [datas,q] at h
   | some es =>
    simp [datas,q] at h
    subst h
    rw[Ap,Ap,Ap,Sf q]
    rfl
  | _=>cases h
theorem Tu:∀{As:List Ent} {ds:List Ab},datas (As.map Ent.x)=some ds->∀e∈As,∃m d,e.x=.dat m d
 | [],ds,h,e,he=>nomatch he
 | ⟨v,x,F⟩::As,ds,h,e,he=>by
  rw[Ap] at h
  cases x with
  | dat m d =>
   cases q:datas (As.map Ent.x) with
   | none=>simp [datas,q] at h
   | some es =>
    rcases Ak.mp he with rfl | he
    ·exact ⟨m,d,rfl⟩
    ·exact Tu q e he
  | _=>cases h
theorem j8(As:List Ent):(As.map Wy).map Ent.v=As.map Ent.v:=by
 rw[Eh]
 refine Me λe _=>?_
 obtain ⟨v,x,F⟩:=e
 cases x <;> rfl
def Hh(k:Nat):List Ent:=Hj k ⟨none,.un,[]⟩
theorem bJ{As:List Ent}{ds:List Ab}(q:datas (As.map Ent.x)=some ds)(k:Nat):∀e∈As.map Wy++Hh k,cells e=[]/\A8 e.x=false:=λe he=>by
 rcases An.mp he with he | he
 ·obtain ⟨f,hf,rfl⟩:=Ce.mp he
  obtain ⟨m,d,hx⟩:=Tu q f hf
  obtain ⟨v,x,F⟩:=f
  have hx':x=.dat m d:=hx
  subst hx'
  exact ⟨rfl,rfl⟩
 ·rw[(Ju.mp he).2]
  exact ⟨rfl,rfl⟩
theorem Pk{α:Type}{R:α->α->Prop}:∀{l:List α},(∀a∈l,∀b∈l,R a b)->l.Pairwise R
 | [],_=>Fh
 | a::l,h=>Ax.mpr ⟨λb hb=>h a Aa b (Ae _ hb),Pk λx hx y hy=>h x (Ae _ hx) y (Ae _ hy)⟩
theorem pP{K:PySem.W.Frag}{H:Hp}{n:Nat}{As:List Ent}{ds:List Ab}(q:datas (As.map Ent.x)=some ds)(ok:∀e∈As,Ga K H n e)(k:Nat):∀e∈As.map Wy++Hh k,Ga K H n e:=λe he=>by
 rcases An.mp he with he | he
 ·obtain ⟨f,hf,rfl⟩:=Ce.mp he
  obtain ⟨m,d,hx⟩:=Tu q f hf
  have o:=ok f hf
  obtain ⟨v,x,F⟩:=f
  have hx':x=.dat m d:=hx
  subst hx'
  obtain ⟨w,h1,h2,_⟩:=o
  exact ⟨w,h1,h2,λz=>(nomatch z),λz=>(nomatch z)⟩
 ·rw[(Ju.mp he).2]
  exact (rfl:([]:List Addr)=[])
theorem Ms{α β:Type}(f:α->β)(k:Nat)(a:α):(Hj k a).map f=Hj k (f a):=by
 rw[List.map_replicate]
def retE(R:Ab->Prop):DEnds where
 nx:=λ_=>R .none
 rt:=λx _=>∃d,x=.dat .ow d/\R d
section
variable{P:Bx}{w:World}{K:PySem.W.Frag}{mg:Str->Option Value}{base:Heap}
theorem aM{x qual:Str}{st:Stmt}{f:Addr}{fd:Cr}{N ps:List Str}{k:Nat}{pf:PF}{db:DB}(F:Fun K x qual st f fd)(S:FnScope N ps (Cc st))(hb:∀(cdv:Value) (A:Cs) (outer:List Env) (s:Aj) (H:Hp) (E:XK),Room k (A.deeper (envOfC qual (Cc st) s.heap.objs.size f cdv))->Uv (Mh Jw P w K mg base N qual (Cc st) f cdv A outer s H E).nox (Ik st) db)(h:∀ds R,pf ds R->ds.length=ps.length/\db (retE R) ⟨args0 ds (N.length - ps.length),0⟩):FnOk P w K mg base Jw (k+1) f fd ps (nW K pf):=by
 refine F.ok S (λvs H Q E z=>?_) λcdv A outer s H us Q E hr z=>?_
 ·obtain ⟨As,n,ds,R,eu,ok,q,hp,_⟩:=z
  have l1:=(h ds R hp).1
  have l2:=Jm q
  rw[Af] at l2
  have l3:=congrArg Fp eu
  rw[Af,Af] at l3
  omega
 ·obtain ⟨As,n,ds,R,eu,ok,q,hp,k1⟩:=z
  obtain ⟨l1,hd⟩:=h ds R hp
  have l2:=Jm q
  rw[Af] at l2
  have l3:=congrArg Fp eu
  rw[Af,Af] at l3
  refine ⟨_,hb cdv A outer s H E hr,H,λ_=>False,As.map Wy++Hh (N.length - ps.length),[],⟨args0 ds (N.length - ps.length),0⟩,retE R,?_,?_,λ_ z=>(nomatch z),?_,hd,λδ' S' H' e1 hA p=>?_,λx δ' v F' S' H' e1 hA p=>?_,λ_ _ _ _ _ p=>p.elim,λ_ _ _ _ _ p=>p.elim⟩
  ·unfold vs L2.start Hh
   rw[Az,j8,eu,Ms,show us.length=ps.length by omega]
  ·unfold Sl args0 Hh
   rw[Az,Sf q,Ms]
  ·rw[Ea]
   have hs:=bJ q (N.length - ps.length)
   refine ⟨λe he=>?_,Pk λa ha b hb'=>⟨λhq c hc=>?_,λhq c hc=>?_⟩,λe he a ha=>?_,λb o _ e=>e,λb o e=>⟨o,e⟩,λb hb=>hb.elim⟩
   ·have:=pP q ok (N.length - ps.length) e he
    obtain ⟨v,x,F⟩:=e
    cases x with
    | drw=>exact absurd (hs _ he).2 (by show ¬ (true=false); decide)
    | _=>exact this
   ·rw[(hs a ha).1] at hc; cases hc
   ·rw[(hs b hb').1] at hc; cases hc
   ·rw[(hs e he).1] at ha; cases ha
  ·exact k1 .non .none [] H' p .non Cw (λ_ z=>(nomatch z)) λb o e=>hA.same b o (λz=>z) e
  ·obtain ⟨d,rfl,r⟩:=p
   rw[show S'++[(⟨some v,.dat .ow d,F'⟩ : Ent)]=S'++⟨some v,.dat .ow d,F'⟩::[] from rfl] at hA
   obtain ⟨u,e2,rd,nd,_⟩:=hA.ok _ mem_mid
   cases e2
   refine k1 v d F' H' r rd (nd rfl) (λa ha=>?_) λb o e=>hA.same b o (λz=>z) e
   rcases hA.new _ mem_mid a ha with z | z
   ·exact z
   ·exact z.1.elim
end
end DL
namespace L2
open PySem PySem.Spec PyProof.Rows
def tG(H:Hp):Prop:=∀b,H b=none\/(∃o xs,H b=some (.frz o (.lst xs)))\/∃ps,H b=some (.tbl ps)
def dF(tabs:List (Addr×Addr×Str))(H:Hp):Hp:=λb=>match tabs.find? (λr=>r.2.1 == b) with | some t=>some (.tbl #[.str t.2.2 0]) | none=>H b
theorem Rk{tabs:List (Addr×Addr×Str)}{H:Hp}{b:Addr}{t:Addr×Addr×Str}(h:tabs.find? (λr=>r.2.1 == b)=some t):dF tabs H b=some (.tbl #[.str t.2.2 0]):=by unfold dF; rw[h]
theorem Kf{tabs:List (Addr×Addr×Str)}{H:Hp}{b:Addr}(h:tabs.find? (λr=>r.2.1 == b)=none):dF tabs H b=H b:=by unfold dF; rw[h]
def bZ(q:Bx)(K:PySem.W.Frag):Prop:=∃tabs:List (Addr×Addr×Str),(∀t∈tabs,∃x d,(recsOf q).find? (λe=>e.name == x)=some d/\PySem.W.tabIn K x=some (t.1,t.2.1))/\(∀t∈tabs,∀t'∈tabs,t.2.1=t'.2.1->t=t') /\
 (∀x∈Rv,∀c P,PySem.W.tabIn K x=some (c,P)->(c,P,zJ x)∈tabs)/\∀t∈tabs,K.lookup t.2.1=none
theorem xG{x:Str}(hx:x∈Rv):x = "often" \/ x = "cut_by" := by
 rcases Ak.mp hx with h | hx
 ·exact .inl h
 ·exact .inr (Ac.mp hx)
theorem nE{q:Bx}{K:PySem.W.Frag}(h1:PySem.W.tabIn K "often" = none)(h2:PySem.W.tabIn K "cut_by" = none):bZ q K:=by
 refine ⟨[],λ_ z=>(nomatch z),λ_ z=>(nomatch z),λx hx c P e=>?_,λ_ z=>(nomatch z)⟩
 rcases xG hx with rfl | rfl
 ·rw[h1] at e; cases e
 ·rw[h2] at e; cases e
theorem oO{P:Bx}{w:World}{K:PySem.W.Frag}{mg mb:Str->Option Value}{CX:kE}{k:Nat}{fa a:Addr}{fd:Cr}{x:Str}{sp:Sp}{s₁:Aj}{vs:List Value}{ns:List Int}(tabs:List (Addr×Addr×Str))(hT:∀t∈tabs,PySem.W.CodeHd s₁.heap t.1 t.2.1/\s₁.heap.get? t.2.1=some (PySem.W.tabObj #[]))(hu:∀t∈tabs,∀t'∈tabs,t.2.1=t'.2.1->t=t')(hL:∀x∈Rv,∀c P,PySem.W.tabIn K x=some (c,P)->(c,P,zJ x)∈tabs)(hnt:∀t∈tabs,K.lookup t.2.1=none)(hbm:∃bm ob,mg "__builtins__" = some (.ref bm)/\bm≠Ru/\s₁.heap.get? bm=some ob/\ob.cls=.type "module" /\ ob.dict=some Ru/\ob.data=.plain)(KX:K.In s₁.heap)(hns:s₁.heap.Ns Cm mg)(hb:s₁.heap.Ns Ru mb)(hbb:∀x:Str,x ≠ "__name__" -> mb x=Ia x)(hlim:s₁.heap.NoLimit)(hg:s₁.gens=#[])(ha:s₁.heap.get? a=some { cls:=.type "list",data:=.seq vs.toArray })(hi:Jd vs ns)(hl:ns.length<=Aq)(hr:Room k Vd)(F:∀base:Heap,K.In base->base.Ns Cm mg->FnOk P w K mg base CX k fa fd [x] sp)(hbind:∀(s:Aj) (u:Value),BindsTo s fd ⟨[u],[]⟩ [(x,u)])(hsp:∀H:Hp,tG H->DL.KL K H a (ns.map V.int)->sp [.ref a] H (λv _=>v=.bl true) λ_ _ _=>False)(hCX:∀H e s',CX [] H s₁ (λ_ _ _=>False) e s'->False):Hf (model P w) Vd (.call (.ref fa) ⟨[.ref a],[]⟩) (λr s'=>r=.ok (.ret (.bool true))/\OldK s₁.heap s'.heap/\s'.os=s₁.os/\Pt s'.gens) s₁:=by
 have rv:=Zb hi
 have lenV:=hi.length
 -- from an abstract heap in which nothing but the script may be tracked
 have core:∀H:Hp,tG H->DL.KL K H a (ns.map V.int)->Uo P w H s₁.heap->(∀b,H b≠none->b=a\/∃t∈tabs,b=t.2.1)->(H a≠none->K.lookup a=none)->(∀t∈tabs,yU H t.2.1 t.2.2) ->
   Hf (model P w) Vd (.call (.ref fa) ⟨[.ref a],[]⟩) (λr s'=>r=.ok (.ret (.bool true))/\OldK s₁.heap s'.heap/\s'.os=s₁.os/\Pt s'.gens) s₁:=by
  intro H hO hS hok hA hK hTH
  have base_of:∀{b:Addr} {o:Obj},s₁.heap.get? b=some o->H b=none->(Yp s₁.heap H).get? b=some o:=λe n=>sI e n
  have noA:∀{b:Addr} {o:Obj} {es:Array DictEntry} {ep:Nat},s₁.heap.get? b=some o->o.data=.dict es ep->H b=none:=λ{b o es ep} e d=>by
   cases q:H b with
   | none=>rfl
   | some u =>
    rcases hA b (by rw[q]; simp) with e' | ⟨t,ht,e'⟩
    ·subst e'
     rw[ha] at e; cases e
     have d':Data.seq vs.toArray _=Data.dict es ep:=d
     cases d'
    ·rw[e',(hT t ht).2] at e; cases e
     cases d
  have nsK:∀{b:Addr} {m:Str->Option Value},s₁.heap.Ns b m->(Yp s₁.heap H).Ns b m:=λ{b m} ⟨o,es,ep,e,d,r⟩=>⟨o,es,ep,base_of e (noA e d),d,r⟩
  have hKb:K.In (Yp s₁.heap H):=λb o e=>base_of (KX b o e) (by
   cases q:H b with
   | none=>rfl
   | some u =>
    rcases hA b (by rw[q]; simp) with e' | ⟨t,ht,e'⟩
    ·subst e'
     rw[hK (by rw[q]; simp)] at e; cases e
    ·rw[e',hnt t ht] at e; cases e)
  have noC:∀{b:Addr} {o:Obj},s₁.heap.get? b=some o->o.cls≠.none->o.cls≠.type "list" -> H b=none:=λ{b o} e d d2=>by
   cases q:H b with
   | none=>rfl
   | some u =>
    rcases hA b (by rw[q]; simp) with e' | ⟨t,ht,e'⟩
    ·subst e'
     rw[ha] at e; cases e
     exact absurd rfl d2
    ·rw[e',(hT t ht).2] at e; cases e
     exact absurd rfl d
  have hTb:qT K mg (Yp s₁.heap H) H:=λx hx c P e=>by
   have ht:=hL x hx c P e
   obtain ⟨bm,ob,b1,b2,b3,b4,b5,b6⟩:=hbm
   obtain ⟨⟨o,us,file,tf,flags,tg,inF,text,tt,e1,r1,r2⟩,hP⟩:=hT _ ht
   refine ⟨⟨o,us,file,tf,flags,tg,inF,text,tt,base_of e1 (noC e1 (by rw[r1]; nofun) (by rw[r1]; simp)),r1,r2⟩,⟨bm,ob,b1,b2,λz=>?_,λz=>?_,base_of b3 (noC b3 (by rw[b4]; nofun) (by rw[b4]; simp)),b4,b5,b6⟩,hTH _ ht⟩
   ·obtain ⟨o',es,ep,e',d,_⟩:=hns
    rw[<- z,b3] at e'; cases e'; rw[b6] at d; cases d
   ·have hP:s₁.heap.get? P=_:=hP
    rw[<- z,b3] at hP; cases hP; cases b4
  have hM:Mod K mg (Yp s₁.heap H):=⟨hKb,nsK hns,⟨mb,nsK hb,hbb⟩,let ⟨mc,h1,h2⟩:=hlim; ⟨mc,nsK h1,h2⟩⟩
  have e0:Env0 P w K mg (Yp s₁.heap H) Vd [] s₁ H:=⟨rfl,hM,λb o e=>vQ e,Nat.le_of_eq (mU _ _),trivial,λb hb=>absurd (show b∈([]:List Addr) from hb) (by simp),hok,.of_eq hg,hTb⟩
  refine aB ((F _ hKb (nsK hns)).run Vd [] s₁ H ⟨[.ref a],[]⟩ [.ref a] [.ref a] _ _ hr e0 (hbind s₁ (.ref a)) (.cons rfl .nil) (hsp H hO hS)) λr s' h=>?_
  cases r with
  | error e=>exact (hCX H e s' h).elim
  | ok fl =>
   cases fl with
   | next=>exact Iv h
   | brk=>exact Iv h
   | cont=>exact Iv h
   | ret u =>
    obtain ⟨v,H',os,bare,un,hok',r',q⟩:=h
    have q':v=.bl true:=q
    subst q'
    obtain rfl:u=Value.bool true:=r'
    have old:∀b o,s₁.heap.get? b=some o->s'.heap.get? b=some o\/∃t∈tabs,b=t.2.1:=λb o e=>by
     cases q:H b with
     | none=>exact .inl (un.keep b o e q (by intro z; exact absurd (show b∈([]:List Addr) from z) (by simp)) (by simp))
     | some u =>
      rcases hO b with z | ⟨ob,xs,z⟩ | ⟨ps,z⟩
      ·rw[q] at z; cases z
      ·have z2:=un.frzs b ob _ z
       obtain ⟨e1,_⟩:=hok b _ z
       obtain ⟨e2,_⟩:=hok' b _ z2
       rw[e] at e1; cases e1
       exact .inl e2
      ·rcases hA b (by rw[q]; simp) with e' | h'
       ·obtain ⟨_,e1,_⟩:=hok b _ z
        rw[e',ha] at e1; cases e1
       ·exact .inr h'
    have grown:∀t∈tabs,∃ps,s'.heap.get? t.2.1=some (PySem.W.tabObj ps):=λt ht=>by
     obtain ⟨ps,t0,h3,_⟩:=hTH t ht
     obtain ⟨more,h5⟩:=un.tbls _ _ h3
     obtain ⟨qs,e1,_⟩:=hok' _ _ h5
     exact ⟨qs,e1⟩
    refine ⟨rfl,⟨λb o e=>?_,λb o e=>?_⟩,os,bare⟩
    ·rcases old b o e with z | ⟨t,ht,rfl⟩
     ·exact .inl z
     ·obtain ⟨ps,hP⟩:=grown t ht
      have e2:=(hT t ht).2
      rw[e] at e2
      cases e2
      exact .inr (.inl ⟨((hT t ht).1.tab (hT t ht).2).isCodeTable,rfl,#[],ps,rfl,by rw[Array.empty_append]; exact hP⟩)
    ·rcases old b o e with z | ⟨t,ht,rfl⟩
     ·exact ⟨_,z⟩
     ·obtain ⟨ps,hP⟩:=grown t ht
      exact ⟨_,hP⟩
 have tabH:∀(t:Addr×Addr×Str),t∈tabs->tabs.find? (λr=>r.2.1 == t.2.1)=some t:=λt ht=>by
  cases q:tabs.find? (λr=>r.2.1 == t.2.1) with
  | none=>exact absurd (List.find?_eq_none.mp q t ht) (by simp)
  | some r=>exact congrArg some (hu r (Ny q) t ht (by have:=List.find?_some q; simpa using this))
 have neA:∀t∈tabs,t.2.1≠a:=λt ht z=>by
  have e:=(hT t ht).2
  rw[z,ha] at e; cases e
 have all:∀H:Hp,(∀b,H b=none\/∃o xs,H b=some (.frz o (.lst xs)))->(∀b,H b≠none->b=a)->(H a≠none->K.lookup a=none)->DL.KL K H a (ns.map V.int)->Uo P w H s₁.heap ->
   Hf (model P w) Vd (.call (.ref fa) ⟨[.ref a],[]⟩) (λr s'=>r=.ok (.ret (.bool true))/\OldK s₁.heap s'.heap/\s'.os=s₁.os/\Pt s'.gens) s₁:=by
  intro H h1 h2 h3 h4 h5
  refine core (dF tabs H) (λb=>?_) ?_ (λb u z=>?_) (λb z=>?_) (λz=>?_) λt ht=>?_
  ·cases q:tabs.find? (λr=>r.2.1 == b) with
   | some t=>exact .inr (.inr ⟨_,Rk q⟩)
   | none =>
    rcases h1 b with z | ⟨o,xs,z⟩
    ·exact .inl (by rw[Kf q]; exact z)
    ·exact .inr (.inl ⟨o,xs,by rw[Kf q]; exact z⟩)
  ·have na:tabs.find? (λr=>r.2.1 == a)=none:=uI.mpr λt ht z=>neA t ht (by simpa using z)
   rcases h4 with ⟨o,h⟩ | h
   ·exact .inl ⟨o,by rw[Kf na]; exact h⟩
   ·exact .inr h
  ·cases q:tabs.find? (λr=>r.2.1 == b) with
   | some t =>
    rw[Rk q] at z
    cases z
    have eb:t.2.1=b:=by have:=List.find?_some q; simpa using this
    exact ⟨#[],by rw[<- eb]; exact (hT t (Ny q)).2,by simp [TriplesOk],λpos v y=>by simp [codeAmong] at y⟩
   | none =>
    rw[Kf q] at z
    rcases h1 b with y | ⟨o,xs,y⟩
    ·rw[z] at y; cases y
    ·rw[z] at y
     cases y
     exact h5 b _ z
  ·cases q:tabs.find? (λr=>r.2.1 == b) with
   | some t=>exact .inr ⟨t,Ny q,by have:=List.find?_some q; exact (by simpa using this : t.2.1=b).symm⟩
   | none =>
    rw[Kf q] at z
    exact .inl (h2 b z)
  ·have na:tabs.find? (λr=>r.2.1 == a)=none:=uI.mpr λt ht z=>neA t ht (by simpa using z)
   rw[Kf na] at z
   exact h3 z
  ·exact ⟨#[.str t.2.2 0],0,Rk (tabH t ht),rfl⟩
 cases hk:K.lookup a with
 | some o =>
  -- the script is one of the module's own objects
  have e:=KX a o hk
  rw[ha] at e
  cases e
  exact all (λ_=>none) (λ_=>.inl rfl) (λb z=>absurd rfl z) (λz=>absurd rfl z) (.inr ⟨vs.toArray,_,hk,by rw[Am,lenV]; exact hl,by simpa using rv⟩) (λb u z=>by have z':(none:Option HO)=some u:=z; cases z')
 | none =>
  refine all (λb=>if b=a then some (.frz { cls:=.type "list",data:=.seq vs.toArray } (.lst (ns.map V.int))) else none) (λb=>?_) (λb z=>?_) (λ_=>hk) (.inl ⟨{ cls:=.type "list",data:=.seq vs.toArray },if_pos rfl⟩) (λb u z=>?_)
  ·by_cases hb:b=a
   ·exact .inr ⟨_,_,if_pos hb⟩
   ·exact .inl (if_neg hb)
  ·by_cases hb:b=a
   ·exact hb
   ·exact absurd (if_neg hb) z
  ·by_cases hb:b=a
   ·have z':=(if_pos hb).symm.trans z
    cases z'
    subst hb
    exact ⟨ha,by rw[Af]; exact hl,vs,_,rv,ha⟩
   ·have z':=(if_neg hb).symm.trans z
    cases z'
theorem walk_ofD{l:PySem.W.OpenLaw}{n k:Nat}{q:Bx}{loose:List Str}{XP:(Str->Option Value)->Heap->Prop}{YP:World->Heap->Prop}{d:DefRec}{K:Params->PySem.W.Frag}{CX:World->kE}{sp:World->Sp}{x:Str}(hn:l.most=some n)(hn2:n<=Aq)(hdf:d.params.defaults=[])(hr:Room k Vd)(hY:∀(w:World) (h:Heap),YP w h->(K w.params).In h)(F:∀(w:World) (mg:Str->Option Value) (fa:Addr) (h:Heap),(K w.params).In h->h.Ns Cm mg->mg d.name=some (.ref fa)->(bZ q (K w.params))/\∃fd:Cr,(∀(s:Aj) (u:Value),BindsTo s fd ⟨[u],[]⟩ [(x,u)])/\∀base:Heap,(K w.params).In base->base.Ns Cm mg->FnOk l.prog w (K w.params) mg base (CX w) k fa fd [x] (sp w))(hsp:∀(w:World) (H:Hp) (a:Addr) (ns:List Int),ns.length<=n->tG H->DL.KL (K w.params) H a (ns.map V.int)->sp w [.ref a] H (λv _=>v=.bl true) λ_ _ _=>False)(hCX:∀(w:World) (H:Hp) (s:Aj) (e:Value) (s':Aj),CX w [] H s (λ_ _ _=>False) e s'->False):PySem.W.WalkO q loose XP YP l.row.toRowW d [] (λf vs=>PySem.call f vs):=by
 refine Att.attach_call hn hdf λw s₀ s₁ mg mb fa o pm cd doc a vs ns G Y ho hd hcd hmg hobj hints hlen hg=>?_
 have KX:=hY w _ Y
 obtain ⟨⟨tabs,t1,t2,t3,t4⟩,fd,hb,hF⟩:=F w mg fa _ KX G.T.g hmg
 exact oO tabs (λt ht=>by
  obtain ⟨x,d,h1,h2⟩:=t1 t ht
  exact PySem.W.tab_of G.T KX h1 h2) t2 t3 t4 G.T.bmain KX G.T.g G.T.b G.T.builtins G.T.nolimit hg hobj hints (Bv hlen hn2) hr hF hb (λH hO hS=>hsp w H a ns hlen hO hS) λH e s'=>hCX w H s₁ e s'
end L2
namespace DL
open PySem PySem.Spec PyProof.Rows L2 Nd
def npk:List DV->Bool
 | []=>true
 | .dat .pk _::_=>false
 | _::xs=>npk xs
theorem aW:∀{S:List Ent} {sl:List DV},S.map Ent.x=sl->npk sl=true->∀e∈S,Lv e.x=false
 | [],_,_,_,e,he=>nomatch he
 | ⟨v,x,F⟩::S,_,h,hn,e,he=>by
  subst h
  rw[Ap] at hn
  have : Lv x=false/\npk (S.map Ent.x)=true:=by
   cases x with
   | dat m d=>cases m <;> first | exact ⟨rfl,hn⟩ | cases hn
   | _=>exact ⟨rfl,hn⟩
  rcases Ak.mp he with rfl | he
  ·exact this.1
  ·exact aW rfl this.2 e he
def own1:Md->Bool
 | .ow=>true
 | .tp=>true
 | _=>false
section
variable{K:PySem.W.Frag}{H0 H:Hp}{X:Addr->Prop}{n:Nat}{E:List Ent}
theorem At.write{v:Option V}{m:Md}{ds es:List Ab}{a:Addr}{F G:List Addr}{ys:List V}(h:At K H0 X n (⟨v,.dat m (.list ds),a::F⟩::E) H)(ho:own1 m=true)(hv:v=some (.ref a))(np:∀e∈E,Lv e.x=false)(r:RdFs K H ys es G)(hG:G.Sublist F)(hz:es.length<=Aq):At K H0 X n (⟨v,.dat m (.list es),a::G⟩::E) (upd H a (.lst ys)):=by
 obtain ⟨w,e1,rd,hn,ht⟩:=h.ok _ Aa
 obtain ⟨b,xs,G0,e2,ha,ra,eF,_⟩:=rd.list_inv
 have eF':a::F=b::G0:=eF
 cases eF'
 have hs:=Ax.mp h.sep
 have naF:a∉F:=by
  cases m with
  | ow=>exact (Bt.mp (hn rfl)).1
  | tp=>exact ht rfl a F rfl
  | sh=>cases ho
  | pk=>cases ho
 have ca:a∈cells ⟨v,.dat m (.list ds),a::F⟩:=by
  cases m <;> first | exact Aa | cases ho
 have kp:∀{F':List Addr},a∉F'->Kp F' H (upd H a (.lst ys)):=λ{F'} hF b o q z=>by
  have : b≠a:=by
   rintro rfl
   rw[ha] at q
   cases q
   rcases z with z | z
   ·exact hF z
   ·rcases z with ⟨_,z⟩ | ⟨_,_,z⟩ <;> cases z
  rw[Dy this]
  exact q
 have n0:H0 a=none:=by
  rcases h.new _ Aa a ca with z | z
  ·exact z
  ·cases z.2
 have cs:∀c∈cells ⟨v,.dat m (.list es),a::G⟩,c∈cells ⟨v,.dat m (.list ds),a::F⟩:=λc hc=>by
  cases m with
  | ow =>
   rcases Ak.mp hc with z | z
   ·exact Ak.mpr (.inl z)
   ·exact Ak.mpr (.inr (hG.subset z))
  | tp=>exact hc
  | sh=>cases ho
  | pk=>cases ho
 have hsub:∀c∈a::G,c∈a::F:=λc hc=>by
  rcases Ak.mp hc with z | z
  ·exact Ak.mpr (.inl z)
  ·exact Ak.mpr (.inr (hG.subset z))
 have naG:a∉G:=λz=>naF (hG.subset z)
 refine ⟨λf hf=>?_,?_,λf hf=>?_,λb o nx q=>?_,λb o q=>?_,λb hb=>?_⟩
 ·rcases Ak.mp hf with rfl | hf
  ·refine ⟨.ref a,hv,.lst Dd hz (r.kp (kp naG)),λz=>?_,λz c l e=>?_⟩
   ·exact Bt.mpr ⟨naG,(Bt.mp (hn z)).2.sublist hG⟩
   ·cases e
    exact naG
  ·exact (h.ok f (Ae _ hf)).kp (kp ((hs.1 f hf).1 (.inl (np f hf)) a ca)) (Ai _)
 ·refine Ax.mpr ⟨λf hf=>⟨λhq c hc=>(hs.1 f hf).1 (.inl (np f hf)) c (cs c hc),λhq c hc z=>(hs.1 f hf).2 (.inl ?_) c hc (hsub c z)⟩,hs.2⟩
  cases m <;> first | rfl | cases ho
 ·rcases Ak.mp hf with rfl | hf
  ·exact λc hc=>h.new _ Aa c (cs c hc)
  ·exact h.new f (Ae _ hf)
 ·rw[Dy (Ej q n0)]
  exact h.same b o nx q
 ·rw[Dy (Ej q n0)]
  exact h.dom b o q
 ·obtain ⟨z,c,k,f,h1,h2⟩:=h.xd b hb
  refine ⟨z,c,k,f,(Dy ?_).trans h1,h2⟩
  rintro rfl
  exact z n0
end
theorem Fn{α:Type}:∀{l:List α} {i:Nat} {x:α},l[i]? = some x->l.Perm (x::l.eraseIdx i)
 | [],i,x,h=>by simp at h
 | z::l,0,x,h=>by
  simp at h
  subst h
  exact Gw _
 | z::l,i+1,x,h=>by
  have ih:=Fn (l:=l) (i:=i) (x:=x) (by simpa using h)
  rw[Ot]
  exact (ih.cons z).trans (Dv x z _)
theorem Qe{α:Type}{l:List α}{i:Nat}{x y:α}(h:l[i]? = some x):(l.set i y).Perm (y::l.eraseIdx i):=by
 have hlt:=(Al.mp h).1
 have q:=Fn (l:=l.set i y) (i:=i) (x:=y) (by rw[Gs]; simp [hlt])
 rw[List.eraseIdx_set_eq] at q
 exact q
theorem Rh{K:PySem.W.Frag}{H0 H:Hp}{X:Addr->Prop}{S T:List Ent}{δ:DS}{i:Nat}{m:Md}{ds es:List Ab}(hS:Sl S δ)(hT:∀e∈T,Lv e.x=false)(hA:At K H0 X δ.n (S++T) H)(hi:δ.sl[i]? = some (.dat m (.list ds)))(ho:own1 m=true)(np:npk δ.sl=true):∃a xs G,(vs S)[i]? = some (some (.ref a))/\H a=some (.lst xs)/\RdFs K H xs ds G/\ds.length<=Aq/\∀ys G',RdFs K H ys es G'->G'.Sublist G->es.length<=Aq->∃S',vs S'=vs S/\Sl S' ⟨δ.sl.set i (.dat m (.list es)),δ.n⟩/\At K H0 X δ.n (S'++T) (upd H a (.lst ys)):=by
 obtain ⟨ent,e2,e3⟩:=Gg hS hi
 have hm:ent∈S:=Ar e2
 obtain ⟨u,x,F⟩:=ent
 have e3':x=.dat m (.list ds):=e3
 subst e3'
 obtain ⟨v,hv,rd,_⟩:=hA.ok _ (Ag _ hm)
 obtain ⟨a,xs,G,rfl,ha,ra,eF,hz⟩:=rd.list_inv
 have eF':F=a::G:=eF
 subst eF'
 refine ⟨a,xs,G,by rw[Jb e2]; exact congrArg some hv,ha,ra,hz,λys G' r hG hz'=>?_⟩
 have hn:=aW hS np
 have pm:(S++T).Perm (⟨u,.dat m (.list ds),a::G⟩::(S.eraseIdx i++T)):=by
  exact (Fn e2).append_right T
 have h1:=(hA.perm pm).write (es:=es) (ys:=ys) ho hv (λe he=>?_) r hG hz'
 ·refine ⟨S.set i ⟨u,.dat m (.list es),a::G'⟩,?_,?_,h1.perm ?_⟩
  ·unfold vs
   rw[Gq]
   apply Gu
   intro j
   rw[Gs]
   split
   ·rename_i hij
    subst hij
    rw[Bg,e2]
    split
    ·rfl
    ·rename_i hj
     rw[Af] at hj
     exact absurd (Al.mp e2).1 hj
   ·rfl
  ·unfold Sl at hS ⊢
   rw[Gq,hS]
  ·exact ((Qe e2).append_right T).symm
 ·rcases An.mp he with he | he
  ·exact hn e ((Qp S i).subset he)
  ·exact hT e he
def O9(i:Nat)(de:DE):DB:=λD δ=>match δ.sl[i]? with
 | some (.dat _ (.list _))=>de δ λy δ1=>match δ1.sl[i]?,y with
  | some (.dat m (.list ds)),.dat _ e=>own1 m=true/\npk δ1.sl=true/\imm e=true/\ds.length<1000000/\D.nx ⟨δ1.sl.set i (.dat m (.list (ds++[e]))),δ1.n⟩
  | _,_=>False
 | _=>False
def bK(i:Nat):DE:=λδ P=>match δ.sl[i]? with
 | some (.dat .pk _)=>False
 | some (.dat _ d)=>P (.dat .sh d) ⟨δ.sl.set i (.dat .sh d),δ.n⟩
 | _=>False
theorem nO{X:Cx}{e:Expr}{i:Nat}(h:PE X e (Tp i)):Ff X e (bK i):=by
 refine PE.imp h λσ H Q h=>?_
 obtain ⟨H0,Y,S,T,δ,P,rfl,hS,hA,hd,k⟩:=h
 unfold bK at hd
 split at hd
 ·exact hd.elim
 ·rename_i m d hm e1
  obtain ⟨ent,e2,e3⟩:=Gg hS e1
  have hme:ent∈S:=Ar e2
  obtain ⟨u,x,F⟩:=ent
  have e3':x=.dat m d:=e3
  subst e3'
  obtain ⟨v,hv,hv2⟩:=hA.ok _ (Ag _ hme)
  have hv':u=some v:=hv
  subst hv'
  -- the same entry,shared
  obtain ⟨hlt,he⟩:=Al.mp e2
  have q1:=Fn e2
  have q2:=Qe (y:=(⟨some v,.dat .sh d,F⟩ : Ent)) e2
  have hA1:At X.K H0 Y δ.n (S.set i ⟨some v,.dat .sh d,F⟩++T) H:=by
   refine At.perm (At.wk (m:=m) ?_ (hA.perm (q1.append_right T))) (q2.append_right T).symm
   cases m <;> first | rfl | exact (hm rfl).elim
  refine ⟨v,by rw[Jb e2],k _ ⟨δ.sl.set i (.dat .sh d),δ.n⟩ v F (S.set i ⟨some v,.dat .sh d,F⟩) H ?_ ?_ (hA1.look (m:=.sh) (List.mem_set hlt _) rfl) hd⟩
  ·rw[aO]
   apply Gu
   intro j
   rw[Gs]
   split
   ·rename_i hij
    subst hij
    rw[Jb e2]
    split
    ·rfl
    ·rename_i hj
     unfold vs at hj
     rw[Af] at hj
     exact absurd hlt hj
   ·rfl
  ·exact bR hS
 ·exact hd.elim
def spLawD(K:PySem.W.Frag):Sp:=λus H Q _=>∃(a:Addr) (ns:List Int),us=[.ref a]/\KL K H a (ns.map V.int)/\ns.length<=63/\∀H',Q (.bl true) H'
def retL:DEnds where
 nx:=λ_=>False
 rt:=λx _=>∃m,x=.dat m (.bool true)
section
variable{P:Bx}{w:World}{K:PySem.W.Frag}{mg:Str->Option Value}{base:Heap}
theorem zR{x qual p0:Str}{st:Stmt}{f:Addr}{fd:Cr}{N:List Str}{k:Nat}{db:DB}(F:Fun K x qual st f fd)(S:FnScope N [p0] (Cc st))(hb:∀(cdv:Value) (A:Cs) (outer:List Env) (s:Aj) (H:Hp) (E:XK),Room k (A.deeper (envOfC qual (Cc st) s.heap.objs.size f cdv))->Uv (Mh Jw P w K mg base N qual (Cc st) f cdv A outer s H E).nox (Ik st) db)(h:∀ns:List Int,ns.length<=63->db retL ⟨.scr ns::Hj (N.length - 1) .un,0⟩):FnOk P w K mg base Jw (k+1) f fd [p0] (spLawD K):=by
 refine F.ok S (λvs H Q E z=>?_) λcdv A outer s H us Q E hr z=>?_
 ·obtain ⟨a,ns,rfl,_⟩:=z
  rfl
 ·obtain ⟨a,ns,rfl,hK,h63,k1⟩:=z
  refine ⟨_,hb cdv A outer s H E hr,H,λ_=>False,⟨some (.ref a),.scr ns,[]⟩::Hh (N.length - 1),[],⟨.scr ns::Hj (N.length - 1) .un,0⟩,retL,?_,?_,λ_ z=>(nomatch z),?_,h ns h63,λδ' S' H' e1 hA p=>p.elim,λx δ' v F' S' H' e1 hA p=>?_,λ_ _ _ _ _ p=>p.elim,λ_ _ _ _ _ p=>p.elim⟩
  ·unfold vs L2.start Hh
   rw[Ap,Ms]
   rfl
  ·unfold Sl Hh
   rw[Ap,Ms]
  ·rw[Ea]
   have hc:∀e∈(⟨some (.ref a),.scr ns,[]⟩::Hh (N.length - 1):List Ent),cells e=[]:=λe he=>by
    rcases Ak.mp he with rfl | he
    ·rfl
    ·rw[(Ju.mp he).2]
     rfl
   refine ⟨λe he=>?_,Pk λa ha b hb'=>⟨λhq c z=>?_,λhq c z=>?_⟩,λe he a ha=>?_,λb o _ e=>e,λb o e=>⟨o,e⟩,λb hb=>hb.elim⟩
   ·rcases Ak.mp he with rfl | he
    ·exact ⟨a,rfl,rfl,hK,h63⟩
    ·rw[(Ju.mp he).2]
     exact (rfl:([]:List Addr)=[])
   ·rw[hc a ha] at z; cases z
   ·rw[hc b hb'] at z; cases z
   ·rw[hc e he] at ha; cases ha
  ·obtain ⟨m,rfl⟩:=p
   rw[show S'++[(⟨some v,.dat m (.bool true),F'⟩ : Ent)]=S'++⟨some v,.dat m (.bool true),F'⟩::[] from rfl] at hA
   obtain ⟨rfl,_⟩:=(hA.told mem_mid).bl_inv
   exact k1 H'
end
def iH(i:Nat)(dl dh:DO):DE:=λδ P=>match δ.sl[i]? with
 | some (.scr ns)=>dl δ λl δ2=>dh δ2 λh δ3=>P (.dat .ow (.list ((Ke ns l h).map Bl))) δ3
 | _=>False
def P0(i:Nat)(de:DE):DE:=λδ P=>match δ.sl[i]? with
 | some (.scr ns)=>de δ λy δ1=>match y with
  | .dat _ (.list es)=>Dj es=true/\ns.length+es.length<=1000000/\P (.dat .ow (.list (ns.map Bl++es))) δ1
  | _=>False
 | _=>False
section
variable{X:Cx}{e b:Expr}{de:DE}{lo hi:Option Expr}{dl dh:DO}{pos p2:Pos}{i:Nat}
theorem z0{K:PySem.W.Frag}{H0 H:Hp}{Y:Addr->Prop}{S T:List Ent}{δ:DS}{ns:List Int}(hS:Sl S δ)(hA:At K H0 Y δ.n (S++T) H)(hi:δ.sl[i]? = some (.scr ns)):∃a,(vs S)[i]? = some (some (.ref a))/\(⟨some (.ref a),.scr ns,[]⟩ : Ent)∈S/\KL K H a (ns.map V.int)/\ns.length<=63:=by
 obtain ⟨ent,e2,e3⟩:=Gg hS hi
 have hm:ent∈S:=Ar e2
 obtain ⟨u,x,F⟩:=ent
 have e3':x=.scr ns:=e3
 subst e3'
 obtain ⟨a,h1,h2,h3⟩:=hA.ok _ (Ag _ hm)
 have h1':u=some (.ref a):=h1
 have h2':F=[]:=h2
 subst h1' h2'
 exact ⟨a,by rw[Jb e2],hm,h3⟩
theorem rQ(he:PE X e (Tp i))(hl:B8 X lo dl)(hh:B8 X hi dh):Ff X (.Subscript e (.Slice lo hi none p2) pos) (iH i dl dh):=by
 refine PE.imp (eJ (r:=A7 X.K) xO he hl hh) λσ H Q h=>?_
 obtain ⟨H0,Y,S,T,δ,P,rfl,hS,hA,hd,k⟩:=h
 unfold iH at hd
 split at hd
 case h_2=>exact hd.elim
 rename_i ns hsl
 obtain ⟨a,ha,hm,hK,h63⟩:=z0 hS hA hsl
 have hA0:At X.K H0 Y δ.n (S++⟨some (.ref a),.scr ns,[]⟩::T) H:=(At.view1 hA (Ag _ hm)).tomid
 refine ⟨.ref a,ha,H0,Y,S,⟨some (.ref a),.scr ns,[]⟩::T,δ,_,rfl,hS,hA0,hd,λl δ2 S2 H2 e3 e4 hA2 p2=>?_⟩
 refine ⟨H0,Y,S2,⟨some (.ref a),.scr ns,[]⟩::T,δ2,_,e3,e4,hA2,p2,λh δ3 S3 H3 e5 e6 hA3 p3=>?_⟩
 obtain ⟨a',h1,_,hK3,_⟩:=hA3.ok _ mem_mid
 cases h1
 refine ⟨a,_,rfl,hK3.sq,λp hp=>?_⟩
 have : Wf (ns.map V.int) l h=(Ke ns l h).map V.int:=by
  rw[<- gE]; rfl
 rw[this]
 refine k _ δ3 _ _ S3 _ e5 e6 (hA3.drop.newI (RdFs.ints _) (Ov _) ?_ hp .ow) p3
 rw[Af]
 have l1:=(Wj ns l h).length_le
 exact sz (by omega)
end
def Nv(p:Nat)(dc:DT)(de:DE)(δ:DS)(yes:Ab->Nat->Prop)(no:Nat->Prop):Prop:=dc δ λb δ2=>match b with
 | true=>de δ2 λy δ3=>match y with
  | .dat _ e=>imm e=true/\δ3.sl[p]? = some .drw/\yes e δ3.n
  | _=>False
 | false=>δ2.sl[p]? = some .drw/\no δ2.n
def gS(di:DI)(js1:List Nat)(j0:Nat)(js2:List Nat)(dc:DT)(de:DE):DE:=λδ P=>di δ λm ds δ1=>δ1.sl[j0]? = some .drw/\∃I:Nat->List Ab->Nat->Prop,I 0 [] δ1.n /\
 (∀i d acc n,ds[i]? = some d->I i acc n->Nv (js1.length+1) dc de ⟨.dat m d::(frD (δ1.sl.set j0 .un) js1++.drw::frD (δ1.sl.set j0 .un) js2),n⟩ (λe n'=>I (i+1) (acc++[e]) n') (λn'=>I (i+1) acc n')) /\
 ∀acc n,I ds.length acc n->P (.dat .ow (.list acc)) ⟨δ1.sl,n⟩
section
variable{K:PySem.W.Frag}{H0 H H':Hp}{Y:Addr->Prop}{n n':Nat}{E S T:List Ent}
theorem At.re(h:At K H0 Y n E H)(ok:∀e∈E,Ga K H' n' e)(s:∀b o,¬ Y b->H0 b=some o->H' b=some o)(dm:∀b o,H0 b=some o->∃o',H' b=some o')(xd:∀b,Y b->H0 b≠none/\∃c k f,Sw H' b c k f/\0<=k/\k<=(n':Int)):At K H0 Y n' E H':=⟨ok,h.sep,h.new,s,dm,xd⟩
theorem uF{S':List Ent}{δ:DS}{p:Nat}{dr:Addr}(hA:At K H0 Y n E H)(hE:∀e∈S',e∈E)(hS:Sl S' δ)(hp:δ.sl[p]? = some .drw)(hv:(vs S')[p]? = some (some (.ref dr))):Ga K H n ⟨some (.ref dr),.drw,[dr]⟩:=by
 obtain ⟨ent,e2,e3⟩:=Gg hS hp
 have hm:ent∈S':=Ar e2
 rw[Jb e2] at hv
 obtain ⟨u,x,F⟩:=ent
 have e3':x=.drw:=e3
 subst e3'
 have hu:u=some (.ref dr):=Be hv
 subst hu
 obtain ⟨dr',c,k,f,h1,h2,h3⟩:=hA.ok _ (hE _ hm)
 have h1':some (V.ref dr)=some (V.ref dr'):=h1
 cases h1'
 exact ⟨dr,c,k,f,rfl,rfl,h3⟩
theorem sA{p:Nat}{dr:Addr}{dc:DT}{de:DE}{δ:DS}{yes:Ab->Nat->Prop}{no:Nat->Prop}{D:Addr}{acc:List Ab}{N1:Hp->Prop}{N2:VK}(hS:Sl S δ)(hA:At K H0 Y δ.n (S++⟨some (.ref D),.acc acc,[D]⟩::T) H)(hp:(vs S)[p]? = some (some (.ref dr)))(h:Nv p dc de δ yes no)(k1:∀n' H',At K H0 Y n' (⟨some (.ref D),.acc acc,[D]⟩::T) H'->Ga K H' n' ⟨some (.ref dr),.drw,[dr]⟩->no n'->N1 H')(k2:∀e n' v H',At K H0 Y n' (⟨some (.ref D),.acc acc,[D]⟩::T) H'->Ga K H' n' ⟨some (.ref dr),.drw,[dr]⟩->RdF K H' v e []->yes e n'->N2 v H'):LT K dc (vs S) H λc H2=>if c=true then LE K de (vs S) H2 N2 else N1 H2:=by
 refine ⟨H0,Y,S,⟨some (.ref D),.acc acc,[D]⟩::T,δ,_,rfl,hS,hA,h,λb δ2 S2 H2 e1 e2 hA2 p2=>?_⟩
 cases b with
 | false=>exact iW (k1 _ _ (hA2.sub (Bj _ _)) (uF hA2 (λe he=>Ag _ he) e2 p2.1 (by rw[e1]; exact hp)) p2.2)
 | true =>
  refine dN ⟨H0,Y,S2,⟨some (.ref D),.acc acc,[D]⟩::T,δ2,_,e1,e2,hA2,p2,λy δ3 v F S3 H3 e3 e4 hA3 p3=>?_⟩
  split at p3
  ·have r:=hA3.told mem_mid
   obtain rfl:=r.imm p3.1
   exact k2 _ _ _ _ (hA3.drop.sub (Bj _ _)) (uF hA3 (λe he=>Ag _ he) e4 p3.2.1 (by rw[e3]; exact hp)) r p3.2.2
  ·exact p3.elim
theorem qK{di:DI}{js1 js2:List Nat}{j0:Nat}{dc:DT}{de:DE}:∀σ H Q,LE K (gS di js1 j0 js2 dc de) σ H Q->gH (LI K di) (js1++j0::js2) (LT K dc) (LE K de) σ H Q:=by
 intro σ H Q h
 obtain ⟨H0,Y,S,T,δ,P,rfl,hS,hA,hd,k⟩:=h
 refine ⟨H0,Y,S,T,δ,_,rfl,hS,hA,hd,λm ds δ1 J hid S1 H1 e1 e2 hA1 it hz p1=>?_⟩
 obtain ⟨hj,I,h0,hs,hf⟩:=p1
 rw[<- e1]
 obtain ⟨ent,s1,s2⟩:=Gg e2 hj
 have hm':ent∈S1:=Ar s1
 obtain ⟨u,x,F0⟩:=ent
 have s2':x=.drw:=s2
 subst s2'
 obtain ⟨dr,_,_,_,hv0,hF0,_⟩:=hA1.ok _ (Ag _ hm')
 have hv0':u=some (.ref dr):=hv0
 have hF0':F0=[dr]:=hF0
 subst hv0' hF0'
 intro D hD
 refine ⟨λi q H=>q=ds.length - i/\i<=ds.length/\∃acc n,At K H0 Y n (⟨some (.ref D),.acc acc,[D]⟩::(S1++(hid++T))) H/\acc.length<=i/\I i acc n,⟨ds.length,by simp,Dl _,[],δ1.n,hA1.accNew hD,Ai _,h0⟩,?_⟩
 (intro i q H q_; obtain ⟨rfl,hi,acc,n,hA2,hl,hI⟩ := q_)
 have hid_ok:∀e∈hid,Ga K H n e:=λe he=>hA2.ok e (Ae _ (Ad _ (Ag _ he)))
 by_cases hlt:i<ds.length
 ·refine .inr ⟨it.go H n i hid_ok hlt,λx H' y=>?_⟩
  obtain ⟨s1',d,F,h1,h2,h3⟩:=it.yld H n i x H' hid_ok hlt y
  have hA3:At K H0 Y n ((⟨some (.ref D),.acc acc,[D]⟩::S1)++⟨some x,.dat m d,F⟩::(hid++T)) H':=At.item (S:=⟨some (.ref D),.acc acc,[D]⟩::S1) hA2 s1' h2 h3 it.md it.hd it.np
  -- the draws are taken out of their slot
  have hA4:At K H0 Y n (⟨some (.ref dr),.drw,[dr]⟩::⟨some x,.dat m d,F⟩::⟨some (.ref D),.acc acc,[D]⟩::(S1.set j0 ⟨some (.ref dr),.un,[]⟩++(hid++T))) H':=by
   have q:=hA3.mid.blank (v:=some (.ref dr))
   refine q.perm ?_
   have pS:(⟨some (.ref dr),.un,[]⟩::S1:List Ent).Perm (⟨some (.ref dr),.drw,[dr]⟩::S1.set j0 ⟨some (.ref dr),.un,[]⟩):=Sq s1
   have p2:=pS.append_right (hid++T)
   -- un::x::D::S1.. ~ x::D::un::S1..
   have a1:((⟨some (.ref dr),.un,[]⟩ : Ent)::⟨some x,.dat m d,F⟩::((⟨some (.ref D),.acc acc,[D]⟩::S1)++(hid++T))).Perm (⟨some x,.dat m d,F⟩::⟨some (.ref D),.acc acc,[D]⟩::⟨some (.ref dr),.un,[]⟩::(S1++(hid++T))) :=
    (Dv _ _ _).trans ((Dv _ _ _).cons _)
   have a2:((⟨some x,.dat m d,F⟩ : Ent)::⟨some (.ref D),.acc acc,[D]⟩::⟨some (.ref dr),.drw,[dr]⟩::(S1.set j0 ⟨some (.ref dr),.un,[]⟩++(hid++T))).Perm (⟨some (.ref dr),.drw,[dr]⟩::⟨some x,.dat m d,F⟩::⟨some (.ref D),.acc acc,[D]⟩::(S1.set j0 ⟨some (.ref dr),.un,[]⟩++(hid++T))) :=
    ((Dv _ _ _).cons _).trans (Dv _ _ _)
   exact a1.trans (((p2.cons _).cons _).trans a2)
  have e2':Sl (S1.set j0 ⟨some (.ref dr),.un,[]⟩) ⟨δ1.sl.set j0 .un,n⟩:=bR e2
  have vS:vs (S1.set j0 ⟨some (.ref dr),.un,[]⟩)=vs S1:=by
   rw[aO]
   apply Gu
   intro j
   rw[Gs]
   split
   ·rename_i hij
    subst hij
    rw[Jb s1]
    split
    ·rfl
    ·rename_i hj'
     unfold vs at hj'
     rw[Af] at hj'
     exact absurd (Al.mp s1).1 hj'
   ·rfl
  have hsub:∀e∈S1.set j0 ⟨some (.ref dr),.un,[]⟩,e∈(⟨some (.ref dr),.drw,[dr]⟩::⟨some x,.dat m d,F⟩::⟨some (.ref D),.acc acc,[D]⟩::(S1.set j0 ⟨some (.ref dr),.un,[]⟩++(hid++T)):List Ent):=λe he=>Ae _ (Ae _ (Ae _ (Ag _ he)))
  have hA5:=At.view (S:=S1.set j0 ⟨some (.ref dr),.un,[]⟩) hA4 hsub js2
  have hA5':=At.view (S:=S1.set j0 ⟨some (.ref dr),.un,[]⟩) hA5 (λe he=>Ad _ (hsub e he)) js1
  have hA6:At K H0 Y n ((⟨some x,.dat m d,F⟩::(Tr (S1.set j0 ⟨some (.ref dr),.un,[]⟩) js1++⟨some (.ref dr),.drw,[dr]⟩::Tr (S1.set j0 ⟨some (.ref dr),.un,[]⟩) js2))++⟨some (.ref D),.acc acc,[D]⟩::(S1.set j0 ⟨some (.ref dr),.un,[]⟩++(hid++T))) H':=by
   refine hA5'.perm ?_
   generalize Tr (S1.set j0 ⟨some (.ref dr),.un,[]⟩) js1=A1
   generalize Tr (S1.set j0 ⟨some (.ref dr),.un,[]⟩) js2=A2
   generalize (⟨some (.ref D),.acc acc,[D]⟩::(S1.set j0 ⟨some (.ref dr),.un,[]⟩++(hid++T)):List Ent)=R
   have b1:(A2++((⟨some (.ref dr),.drw,[dr]⟩ : Ent)::⟨some x,.dat m d,F⟩::R)).Perm ((⟨some x,.dat m d,F⟩ : Ent)::⟨some (.ref dr),.drw,[dr]⟩::(A2++R)) :=
    (Dg.trans ((Dg).cons _)).trans (Dv _ _ _)
   have b2:=b1.append_left A1
   refine b2.trans (Dg.trans ?_)
   rw[Ec,Br,Ec]
  have hS6:Sl (⟨some x,.dat m d,F⟩::(Tr (S1.set j0 ⟨some (.ref dr),.un,[]⟩) js1++⟨some (.ref dr),.drw,[dr]⟩::Tr (S1.set j0 ⟨some (.ref dr),.un,[]⟩) js2)) ⟨.dat m d::(frD (δ1.sl.set j0 .un) js1++.drw::frD (δ1.sl.set j0 .un) js2),n⟩:=by
   unfold Sl
   rw[Ap,Az,Ap,fQ e2',fQ e2']
  have hv:vs (⟨some x,.dat m d,F⟩::(Tr (S1.set j0 ⟨some (.ref dr),.un,[]⟩) js1++⟨some (.ref dr),.drw,[dr]⟩::Tr (S1.set j0 ⟨some (.ref dr),.un,[]⟩) js2))=some x::Dx (vs S1) (js1++j0::js2):=by
   have f1:=dQ (S1.set j0 ⟨some (.ref dr),.un,[]⟩) js1
   have f2:=dQ (S1.set j0 ⟨some (.ref dr),.un,[]⟩) js2
   rw[vS] at f1 f2
   unfold vs at f1 f2 ⊢
   rw[Ap,Az,Ap,f1,f2]
   unfold Dx
   rw[Az,Ap,Bg,s1]
   rfl
  have hp6:(vs (⟨some x,.dat m d,F⟩::(Tr (S1.set j0 ⟨some (.ref dr),.un,[]⟩) js1++⟨some (.ref dr),.drw,[dr]⟩::Tr (S1.set j0 ⟨some (.ref dr),.un,[]⟩) js2)))[js1.length+1]? = some (some (.ref dr)):=by
   unfold vs
   rw[Ap,gP,Az,Ex (by rw[Af]; unfold Tr; rw[Af]; exact Ai _)]
   rw[Af]
   unfold Tr
   rw[Af,Nat.sub_self]
   rfl
  -- back to the outer names
  have back:∀{n':Nat} {H2:Hp},At K H0 Y n' (⟨some (.ref D),.acc acc,[D]⟩::(S1.set j0 ⟨some (.ref dr),.un,[]⟩++(hid++T))) H2->Ga K H2 n' ⟨some (.ref dr),.drw,[dr]⟩->At K H0 Y n' (⟨some (.ref D),.acc acc,[D]⟩::(S1++(hid++T))) H2:=λ{n' H2} hB hd'=>by
   refine hA2.re (λe he=>?_) hB.same hB.dom hB.xd
   rcases Ak.mp he with rfl | he
   ·exact hB.ok _ Aa
   ·rcases An.mp he with he | he
    ·obtain ⟨j,hj1⟩:=List.getElem?_of_mem he
     by_cases hjj:j=j0
     ·subst hjj
      rw[s1] at hj1
      cases hj1
      exact hd'
     ·refine hB.ok e (Ae _ (Ag _ (Ar (i:=j) ?_)))
      rw[Lj (Nb hjj)]
      exact hj1
    ·exact hB.ok e (Ae _ (Ad _ he))
  refine ⟨λH2=>∃m',m'<ds.length - i/\_,λy H3=>∃acc,H3 D=some (.lst acc)/\acc.length<Aq/\∃m',m'<ds.length - i/\_,λH2 q=>q,λy H3 q=>q,?_⟩
  rw[<- hv]
  refine sA hS6 hA6 hp6 (hs i d acc n h1 hI) (λn' H2 hA7 hd7 p=>?_) (λe n' v H2 hA7 hd7 r7 p=>?_)
  ·exact ⟨ds.length - (i+1),by omega,rfl,hlt,acc,n',back hA7 hd7,by omega,p⟩
  ·obtain ⟨xs,g1,g2,g3⟩:=(back hA7 hd7).accPut r7 (by omega)
   exact ⟨xs,g1,by omega,ds.length - (i+1),by omega,rfl,hlt,acc++[e],n',g3,by rw[Ay]; simp; omega,p⟩
 ·have e:i=ds.length:=by omega
  subst e
  refine .inl ⟨it.stop H n hid_ok,k _ ⟨δ1.sl,n⟩ _ [D] S1 H e1 e2 ?_ (hf acc n hI)⟩
  have hA3:=hA2.accGet
  have hA4:At K H0 Y n (⟨some (.ref D),.dat .ow (.list acc),[D]⟩::(S1++T)) H:=hA3.sub (((Ci S1).append (Bj hid T)).cons₂ _)
  exact hA4.tomid
end
section
variable{X:Cx}{elt iter c:Expr}{x y0:Str}{px py pos spos:Pos}{i0:Nat}{ifs:List Expr}{scope:Scope}{cl:List (Str×Addr)}{ys:List Str}{js1 js2:List Nat}{j0:Nat}{di:DI}{dc:DT}{de:DE}
theorem pD{o:Bool}(hN:X.N.Nodup)(hi0:X.N[i0]? = some y0)(hy0:X.env.scope.names.lookup y0=some .local)(C:CompScope X scope cl x ys (js1++j0::js2))(hc:X.calm=true)(hi:oS X (.Name x px) iter di)(ht:∀fp s H,gN (Cp X scope cl (x::ys) fp s H) ifs (LT X.K dc))(he:∀fp s H,Ff (Cp X scope cl (x::ys) fp s H) elt de)(hs:∀x,Cg iter X.env x=pure x:=by intro _; rfl)(hsw:Gj (.ListComp elt [⟨.Name x px,iter,ifs,0⟩] scope pos) (some (.Name y0 py)) spos.line X.env=pure true:=by rfl):dI X (.Assign [.Name y0 py] (.ListComp elt [⟨.Name x px,iter,ifs,0⟩] scope pos) spos) (bO (gS di js1 j0 js2 dc de) (B5 o i0)):=PS.impD (bC hN hi0 hy0 C hc hi ht he hs hsw) (Rn qK wM)
end
theorem qX{X:Cx}{c:Expr}{body:List Stmt}{dt:DT}{db:DB}{pos:Pos}(hp:PassesOwn (model X.prog X.w) X.A X.env X.xe)(hc:Ye X c dt)(hb:Uv X body db):dI X (.While c body [] pos) (uE dt db):=by
 refine PS.impD (qH hp hc hb) λD σ H h=>?_
 obtain ⟨H0,Y,S,T,δ,P,rfl,hS,hT,hA,hd,k1,k2,k3,k4⟩:=h
 obtain ⟨I,μ,h0,hs⟩:=hd
 refine ⟨λq σ H=>∃S δ,vs S=σ/\Sl S δ/\At X.K H0 Y δ.n (S++T) H/\I δ/\q=μ δ,⟨_,S,δ,rfl,hS,hA,h0,rfl⟩,?_⟩
 (intro q σ H q_; obtain ⟨S1,δ1,rfl,e1,hA1,hI,rfl⟩ := q_)
 refine ⟨H0,Y,S1,T,δ1,_,rfl,e1,hA1,hs δ1 hI,λb δ2 S2 H2 e2 e3 hA2 p2=>?_⟩
 cases b with
 | true =>
  refine ⟨λσ' H'=>∃S δ,vs S=σ'/\Sl S δ/\At X.K H0 Y δ.n (S++T) H'/\I δ/\μ δ<μ δ1,λσ' H' ⟨S,δ,z1,z2,z3,z4,z5⟩=>⟨_,z5,S,δ,z1,z2,z3,z4,rfl⟩,?_⟩
  exact ⟨H0,Y,S2,T,δ2,_,e2,e3,hT,hA2,p2,λδ4 S4 H4 e5 hA4 p4=>⟨S4,δ4,rfl,e5,hA4,p4⟩,k2,λδ4 S4 H4 e5 hA4 p4=>k1 δ4 S4 H4 e5 hA4 p4,λδ4 S4 H4 e5 hA4 p4=>⟨S4,δ4,rfl,e5,hA4,p4⟩⟩
 | false =>
  rw[<- e2]
  exact k1 δ2 S2 H2 e3 hA2 p2
theorem qW{P:Bx}{w:World}{K:PySem.W.Frag}{mg:Str->Option Value}{base:Heap}{k:Nat}{f:Addr}{fd:Cr}{ps:List Str}(F:FnOk P w K mg base Jw k f fd ps lU):FnOk P w K mg base Jw k f fd ps Sk:=by
 refine F.imp λus H Q E h=>?_
 obtain ⟨c,rfl,h⟩:=h
 exact ⟨c,rfl,λp f H'=>h p c f H'⟩
def Wo:DF:=λds n R=>ds=[]/\n<=100000/\∀r:Int,R (.int r) (n+1)
theorem vZ{P:Bx}{w:World}{K:PySem.W.Frag}{mg:Str->Option Value}{base:Heap}{k:Nat}{f:Addr}{fd:Cr}{ps:List Str}(F:FnOk P w K mg base Jw k f fd ps sP):FnOk P w K mg base Jw k f fd ps (o7 K Wo):=by
 refine F.imp λus H Q E h=>?_
 obtain ⟨dr,ws,As,n,ds,R,rfl,eu,ok,nd,⟨c,kk,fl,hdr,h0,h1⟩,q,hp,k1⟩:=h
 obtain ⟨rfl,hn,hR⟩:=hp
 have hAs:As=[]:=by
  have:=Jm q
  rw[Af] at this
  exact Jy.mp this
 subst hAs
 have hws:ws=[]:=by
  cases ws with
  | nil=>rfl
  | cons _ _=>cases eu
 subst hws
 refine ⟨dr,c,kk,fl,rfl,hdr,h0,by omega,λr c' H' hd' s=>?_⟩
 exact k1 (.int r) (.int r) [] (n+1) H' (by omega) (hR r) (.int r) Cw (λ_ z=>(nomatch z)) ⟨c',kk+1,fl,hd',by omega,by omega⟩ s
theorem Zk{α β:Type}{f:α->β}:∀(l:List α) (i:Nat),(l.map f).eraseIdx i=(l.eraseIdx i).map f
 | [],_=>rfl
 | _::_,0=>rfl
 | a::l,i+1=>by simp [Zk l i]
theorem Rm{ns:List Int}(r:Fc 60 ns):ns.length<=60:=Bv (NdS.len_leI (r.1.imp λ{x y} h=>Int.ne_of_lt h) λe he=>wD (r.2 e he).1 (r.2 e he).2) (by decide)
theorem uT{K:PySem.W.Frag}{H:Hp}{a:Addr}{ns:List Int}(h:H a=some (.tup (ns.map V.int)))(l:ns.length<=1000000):RdF K H (.ref a) (Ca ns) []:=.tup h (by rw[Af]; exact cO l) (RdFs.ints ns)
theorem rN{K:PySem.W.Frag}{H:Hp}{n:Nat}{As:List Ent}{us:List V}{d1:Ab}(eu:As.map Ent.v=us.map some)(ok:∀e∈As,Ga K H n e)(q:datas (As.map Ent.x)=some [d1]):∃v1 F1,us=[v1]/\RdF K H v1 d1 F1:=by
 have r:=Ss eu q ok
 generalize As.flatMap Ent.F=G0 at r
 cases r with
 | cons a t =>
  cases t
  exact ⟨_,_,rfl,a⟩
def Hd{α:Type}(xs:List α)(k:Nat)(y:α):List α:=xs.take k++y::xs.drop k
def wY:V->List V->Hp->VK->Prop:=λx us H Q=>∃(l:Addr) (xs:List V) (k:Int) (y:V),x=.ref l/\us=[.int k,y]/\H l=some (.lst xs)/\xs.length<Aq/\0<=k/\k<=1000000/\Q .non (upd H l (.lst (Hd xs k.toNat y)))
theorem jA{k:Int}(h0:0<=k)(h1:k<=1000000):Ul k=true:=by
 unfold Ul
 simp
 omega
theorem nY{α:Type}(xs:List α)(k:Nat)(y:α):Hd xs (min k xs.length) y=Hd xs k y:=by
 unfold Hd
 by_cases h:k<=xs.length
 ·rw[Nat.min_eq_left h]
 ·rw[Nat.min_eq_right (by omega),Dq,List.drop_length,Eu (by omega),jV (by omega)]
theorem Nq{α:Type}(xs:List α)(k:Nat)(y:α):(Hd xs k y).length=xs.length+1:=by
 unfold Hd
 rw[Ay,Bm,Cn,Hk]
 omega
section
variable{X:Cx}
theorem Zc:P2 X "list.insert" wY:=by
 intro pins s σ H x vs v us Q I rx rv h
 obtain ⟨l,xs,k,y,rfl,rfl,hH,hz,k0,k1,q⟩:=h
 cases rx
 obtain ⟨u1,u2,rfl,r1,r2⟩:=rv.two
 obtain ⟨t,rfl⟩:=r1
 obtain ⟨z,its,n,r,hl,e⟩:=I.lstM hH
 refine Yi Vu ⟨_,e,rfl⟩ F.entry_list_insert (F.args_list_insert_3 _ _ _)
  (AutoSeq1.list_insert_list_int_val_1 l its.toArray n k t u2 (by simp [jA k0 k1]) (by rw[Am]; omega)) ⟨e,?_⟩
 refine ⟨.non,_,I.lset (its':=Hd its k.toNat u2) hH e ?_ ?_ ?_,rfl,q⟩
 ·show (its.toArray.extract 0 (if k<0 then (k+(its.toArray.size:Int)).toNat else min k.toNat its.toArray.size)).push u2++its.toArray.extract (if k<0 then (k+(its.toArray.size:Int)).toNat else min k.toNat its.toArray.size)=(Hd its k.toNat u2).toArray
  rw[if_neg (by omega),Am,<- nY]
  unfold Hd
  simp
  exact Eu (by rw[Hk]; omega)
 ·exact (r.take _).append (.cons r2 (r.drop _))
 ·rw[Nq]
  omega
end
def insB(i:Nat)(z y:DV)(δ:DS)(D:DEnds):Prop:=match δ.sl[i]?,z,y with
 | some (.dat m (.list ds)),.dat _ (.int k),.dat _ e=>own1 m=true/\npk δ.sl=true/\imm e=true/\Dj ds=true/\ds.length<1000000/\0<=k/\k<=1000000/\D.nx ⟨δ.sl.set i (.dat m (.list (Hd ds k.toNat e))),δ.n⟩
 | _,_,_=>False
def aP(i:Nat)(dk de:DE):DB:=λD δ=>match δ.sl[i]? with
 | some (.dat _ (.list _))=>dk δ λz δ1=>de δ1 λy δ2=>insB i z y δ2 D
 | _=>False
theorem RdFs.takeI{K:PySem.W.Frag}{H:Hp}{xs:List V}{ds:List Ab}{F:List Addr}(h:RdFs K H xs ds F)(hi:Dj ds=true)(k:Nat):RdFs K H (xs.take k) (ds.take k) []:=by
 induction k generalizing xs ds F with
 | zero=>exact .nil
 | succ k ih =>
  cases h with
  | nil=>exact .nil
  | cons a t =>
   rw[Dj,Fl] at hi
   obtain rfl:=a.imm hi.1
   exact RdFs.cons (F:=[]) a (ih t hi.2)
theorem RdFs.dropI{K:PySem.W.Frag}{H:Hp}{xs:List V}{ds:List Ab}{F:List Addr}(h:RdFs K H xs ds F)(hi:Dj ds=true)(k:Nat):RdFs K H (xs.drop k) (ds.drop k) []:=by
 induction k generalizing xs ds F with
 | zero=>rw[Hl,Hl]; exact (h.imm hi)▸h
 | succ k ih =>
  cases h with
  | nil=>exact .nil
  | cons a t =>
   rw[Dj,Fl] at hi
   exact ih t hi.2
section
variable{X:Cx}{o e ke:Expr}{de dk:DE}{apos cpos pos:Pos}{i:Nat}
theorem oF(ho:PE X o (Tp i))(hk:Ff X ke dk)(he:Ff X e de)(hbase:Iy o "insert" X.env (eval o X.env)=eval o X.env:=by rfl)
  (hfew:((Fs cpos (Bf [ke,e] X.env)).all (λx=>!x.1) && (Qy cpos (Ko [] X.env)).all (λx=>x.1.isSome)
   && decide (([ke,e]:List Expr).length+([]:List Jc).length+(if ([]:List Jc).isEmpty then 0 else 1)<30))=true:=by rfl)
  (hline:(apos.endLine == cpos.line)=true:=by rfl) (hs0:Bf [ke,e] X.env=(false,eval ke X.env)::Bf [e] X.env:=by rfl) (hs:Bf [e] X.env=(false,eval e X.env)::Bf [] X.env:=by rfl) (hplain:(Fs cpos (Bf [e] X.env)).any (·.1)=false:=by rfl)
  (hsw:Gj (.Call (.Attribute o "insert" apos) [ke,e] [] cpos) none pos.line X.env=pure false:=by rfl) :
  dI X (.Expr (.Call (.Attribute o "insert" apos) [ke,e] [] cpos) pos) (aP i dk de):=by
 refine PS.impD (Vo (cV PySem.F.plainAttrs_list Vu F.type_list_insert Zc ho (Gh hk (Gh he Kv hs) hs0) hbase hfew hline hs0 hplain) hsw) λD σ H h=>?_
 obtain ⟨H0,Y,S,T,δ,P,rfl,hS,hT,hA,hd,k1,k2,k3,k4⟩:=h
 unfold aP at hd
 split at hd
 case h_2=>exact hd.elim
 rename_i m0 ds0 hsl
 obtain ⟨ent,e2,e3⟩:=Gg hS hsl
 have hm:ent∈S:=Ar e2
 obtain ⟨u,x,F⟩:=ent
 have e3':x=.dat m0 (.list ds0):=e3
 subst e3'
 obtain ⟨v,hv,rd,_⟩:=hA.ok _ (Ag _ hm)
 obtain ⟨a,xs,G,rfl,ha,ra,eF,hz⟩:=rd.list_inv
 refine ⟨.ref a,by rw[Jb e2]; exact congrArg some hv,.inl ⟨rfl,xs,Rr.of ha⟩,H0,Y,S,T,δ,_,rfl,hS,hA,hd,λz δ1 w F1 S1 H1 e4 e5 hA1 p1=>?_⟩
 refine ⟨H0,Y,S1,⟨some w,z,F1⟩::T,δ1,_,e4,e5,hA1,p1,λy δ2 w2 F2 S2 H2 e6 e7 hA2 p2=>?_⟩
 unfold insB at p2
 split at p2
 ·rename_i m ds mz k my e' hsl2
  obtain ⟨q1,q2,q3,q4,q5,q6,q7,q8⟩:=p2
  obtain ⟨rfl,_⟩:=(hA2.told Fi).int_inv
  have r:=hA2.told mem_mid
  obtain rfl:=r.imm q3
  obtain ⟨b,xs1,G1,g1,g2,g3,g4,g5⟩:=Rh (es:=Hd ds k.toNat e') e7 hT hA2.drop2 hsl2 q1 q2
  rw[e6,Jb e2] at g1
  have : some (V.ref b)=some (V.ref a):=(Be g1).symm.trans hv
  cases this
  have hl:=g3.len
  obtain ⟨S3,h1,h2,h3⟩:=g5 (Hd xs1 k.toNat w2) [] ((g3.takeI q4 _).app (RdFs.cons (F:=[]) r (g3.dropI q4 _))) (Yd _) (by rw[Nq]; exact cO (by omega))
  refine ⟨a,xs1,k,w2,rfl,rfl,g2,Bz (by omega) (cO (n:=1000000) (Ai _)),q6,q7,?_⟩
  rw[<- e6,<- h1]
  exact k1 ⟨_,_⟩ S3 _ h2 h3 q8
 ·exact p2.elim
end
def mmd:Md->Md->Md
 | .ow,.ow=>.ow
 | _,_=>.tp
section
variable{K:PySem.W.Frag}{H0 H:Hp}{X:Addr->Prop}{n:Nat}{E:List Ent}
theorem At.merge{v:Option V}{w:V}{m my:Md}{ds es:List Ab}{e:Ab}{a:Addr}{F Fy G:List Addr}{ys:List V}(h:At K H0 X n (⟨v,.dat m (.list ds),a::F⟩::⟨some w,.dat my e,Fy⟩::E) H)(ho:own1 m=true)(hy:my≠.pk)(hv:v=some (.ref a))(np:∀e∈E,Lv e.x=false)(r:RdFs K H ys es G)(hG:∀c∈G,c∈F\/c∈Fy)(hnd:(F++Fy).Nodup->G.Nodup)(hz:es.length<=Aq):At K H0 X n (⟨v,.dat (mmd m my) (.list es),a::G⟩::E) (upd H a (.lst ys)):=by
 obtain ⟨w1,e1,rd,hn,ht⟩:=h.ok _ Aa
 obtain ⟨w2,e2',rdy,hny,hty⟩:=h.ok _ (Ae _ Aa)
 obtain ⟨b,xs,G0,e2,ha,ra,eF,_⟩:=rd.list_inv
 have eF':a::F=b::G0:=eF
 cases eF'
 have hs:=Ax.mp h.sep
 have hs2:=Ax.mp hs.2
 have s12:=hs.1 _ Aa
 have pk2:Lv (DV.dat my e)=false:=by cases my <;> first | rfl | exact absurd rfl hy
 have pk1:Lv (DV.dat m (.list ds))=false:=by cases m <;> first | rfl | cases ho
 have naF:a∉F:=by
  cases m with
  | ow=>exact (Bt.mp (hn rfl)).1
  | tp=>exact ht rfl a F rfl
  | sh=>cases ho
  | pk=>cases ho
 have ca:a∈cells ⟨v,.dat m (.list ds),a::F⟩:=by
  cases m <;> first | exact Aa | cases ho
 have naY:a∉Fy:=s12.1 (.inl pk2) a ca
 have naG:a∉G:=λz=>(hG a z).elim naF naY
 have kp:∀{F':List Addr},a∉F'->Kp F' H (upd H a (.lst ys)):=λ{F'} hF b o q z=>by
  have : b≠a:=by
   rintro rfl
   rw[ha] at q
   cases q
   rcases z with z | z
   ·exact hF z
   ·rcases z with ⟨_,z⟩ | ⟨_,_,z⟩ <;> cases z
  rw[Dy this]
  exact q
 have n0:H0 a=none:=by
  rcases h.new _ Aa a ca with z | z
  ·exact z
  ·cases z.2
 have cs:∀c∈cells ⟨v,.dat (mmd m my) (.list es),a::G⟩,c∈cells ⟨v,.dat m (.list ds),a::F⟩\/c∈cells ⟨some w,.dat my e,Fy⟩:=λc hc=>by
  by_cases hm:m=.ow/\my=.ow
  ·obtain ⟨rfl,rfl⟩:=hm
   rcases Ak.mp (show c∈a::G from hc) with z | z
   ·rw[z]; exact .inl ca
   ·rcases hG c z with z | z
    ·exact .inl (Ae _ z)
    ·exact .inr z
  ·have hc':c∈[a]:=by
    cases m <;> cases my <;> first | exact hc | exact absurd ⟨rfl,rfl⟩ hm
   rw[Ac.mp hc']; exact .inl ca
 refine ⟨λf hf=>?_,?_,λf hf=>?_,λb o nx q=>?_,λb o q=>?_,λb hb=>?_⟩
 ·rcases Ak.mp hf with rfl | hf
  ·refine ⟨.ref a,hv,.lst Dd hz (r.kp (kp naG)),λz=>?_,λz c l e=>?_⟩
   ·have hm:m=.ow/\my=.ow:=by
     cases m <;> cases my <;> first | exact ⟨rfl,rfl⟩ | cases z
    obtain ⟨rfl,rfl⟩:=hm
    refine Bt.mpr ⟨naG,hnd (Dh.mpr ⟨(Bt.mp (hn rfl)).2,hny rfl,λx hx y hy' e=>?_⟩)⟩
    subst e
    exact s12.1 (.inl pk2) x (Ae _ hx) hy'
   ·cases e
    exact naG
  ·have f1:=Ae (⟨some w,.dat my e,Fy⟩ : Ent) hf
   exact (h.ok f (Ae _ f1)).kp (kp ((hs.1 f f1).1 (.inl (np f hf)) a ca)) (Ai _)
 ·refine Ax.mpr ⟨λf hf=>?_,hs2.2⟩
  have f1:=Ae (⟨some w,.dat my e,Fy⟩ : Ent) hf
  refine ⟨λhq c hc=>?_,λhq c hc z=>?_⟩
  ·rcases cs c hc with z | z
   ·exact (hs.1 f f1).1 (.inl (np f hf)) c z
   ·exact (hs2.1 f hf).1 (.inl (np f hf)) c z
  ·rcases Ak.mp z with z | z
   ·exact (hs.1 f f1).2 (.inl pk1) c hc (by rw[z]; exact Aa)
   ·rcases hG c z with z | z
    ·exact (hs.1 f f1).2 (.inl pk1) c hc (Ae _ z)
    ·exact (hs2.1 f hf).2 (.inl pk2) c hc z
 ·rcases Ak.mp hf with rfl | hf
  ·intro c hc
   rcases cs c hc with z | z
   ·rcases h.new _ Aa c z with z | z
    ·exact .inl z
    ·cases z.2
   ·rcases h.new _ (Ae _ Aa) c z with z | z
    ·exact .inl z
    ·cases z.2
  ·exact h.new f (Ae _ (Ae _ hf))
 ·rw[Dy (Ej q n0)]
  exact h.same b o nx q
 ·rw[Dy (Ej q n0)]
  exact h.dom b o q
 ·obtain ⟨z,c,k,f,h1,h2⟩:=h.xd b hb
  refine ⟨z,c,k,f,(Dy ?_).trans h1,h2⟩
  rintro rfl
  exact z n0
end
theorem gQ{K:PySem.W.Frag}{H0 H:Hp}{X:Addr->Prop}{S T:List Ent}{δ:DS}{i:Nat}{m my:Md}{ds:List Ab}{e:Ab}{w:V}{Fy:List Addr}(hS:Sl S δ)(hT:∀e∈T,Lv e.x=false)(hA:At K H0 X δ.n (S++⟨some w,.dat my e,Fy⟩::T) H)(hi:δ.sl[i]? = some (.dat m (.list ds)))(ho:own1 m=true)(hy:my≠.pk)(np:npk δ.sl=true)(hl:ds.length<1000000):∃a xs,(vs S)[i]? = some (some (.ref a))/\H a=some (.lst xs)/\xs.length=ds.length/\∃S',vs S'=vs S/\Sl S' ⟨δ.sl.set i (.dat (mmd m my) (.list (ds++[e]))),δ.n⟩/\At K H0 X δ.n (S'++T) (upd H a (.lst (xs++[w]))):=by
 obtain ⟨ent,e2,e3⟩:=Gg hS hi
 have hm:ent∈S:=Ar e2
 obtain ⟨u,x,F⟩:=ent
 have e3':x=.dat m (.list ds):=e3
 subst e3'
 obtain ⟨v,hv,rd,_⟩:=hA.ok _ (Ag _ hm)
 obtain ⟨a,xs,G,rfl,ha,ra,eF,hz⟩:=rd.list_inv
 have eF':F=a::G:=eF
 subst eF'
 have rw_:=hA.told mem_mid
 refine ⟨a,xs,by rw[Jb e2]; exact congrArg some hv,ha,ra.len,?_⟩
 have hn:=aW hS np
 have pm:(S++⟨some w,.dat my e,Fy⟩::T).Perm (⟨u,.dat m (.list ds),a::G⟩::⟨some w,.dat my e,Fy⟩::(S.eraseIdx i++T)):=by
  refine ((Fn e2).append_right _).trans ?_
  rw[Ec]
  exact Lo _ Dg
 have h1:=(hA.perm pm).merge (es:=ds++[e]) (ys:=xs++[w]) (G:=G++Fy) ho hy hv (λf hf=>?_) (ra.snoc rw_) (λc hc=>An.mp hc) (λz=>z) (by rw[Ay]; exact cO (by simp; omega))
 ·refine ⟨S.set i ⟨u,.dat (mmd m my) (.list (ds++[e])),a::(G++Fy)⟩,?_,?_,h1.perm ?_⟩
  ·unfold vs
   rw[Gq]
   apply Gu
   intro j
   rw[Gs]
   split
   ·rename_i hij
    subst hij
    rw[Bg,e2]
    split
    ·rfl
    ·rename_i hj
     rw[Af] at hj
     exact absurd (Al.mp e2).1 hj
   ·rfl
  ·unfold Sl at hS ⊢
   rw[Gq,hS]
  ·exact ((Qe e2).append_right T).symm
 ·rcases An.mp hf with hf | hf
  ·exact hn f ((Qp S i).subset hf)
  ·exact hT f hf
def appOB(i:Nat)(y:DV)(δ:DS)(D:DEnds):Prop:=match δ.sl[i]?,y with
 | some (.dat m (.list ds)),.dat my e=>own1 m=true/\npk δ.sl=true/\my≠.pk/\ds.length<1000000/\D.nx ⟨δ.sl.set i (.dat (mmd m my) (.list (ds++[e]))),δ.n⟩
 | _,_=>False
def Xq(i:Nat)(de:DE):DB:=λD δ=>match δ.sl[i]? with
 | some (.dat _ (.list _))=>de δ λy δ1=>appOB i y δ1 D
 | _=>False
section
variable{X:Cx}{o e:Expr}{de:DE}{apos cpos pos:Pos}{i:Nat}
theorem Xb(ho:PE X o (Tp i))(he:Ff X e de)(hbase:Iy o "append" X.env (eval o X.env)=eval o X.env:=by rfl)
  (hfew:((Fs cpos (Bf [e] X.env)).all (λx=>!x.1) && (Qy cpos (Ko [] X.env)).all (λx=>x.1.isSome)
   && decide (([e]:List Expr).length+([]:List Jc).length+(if ([]:List Jc).isEmpty then 0 else 1)<30))=true:=by rfl)
  (hline:(apos.endLine == cpos.line)=true:=by rfl) (hs:Bf [e] X.env=(false,eval e X.env)::Bf [] X.env:=by rfl) (hplain:(Fs cpos (Bf [] X.env)).any (·.1)=false:=by rfl)
  (hsw:Gj (.Call (.Attribute o "append" apos) [e] [] cpos) none pos.line X.env=pure false:=by rfl) :
  dI X (.Expr (.Call (.Attribute o "append" apos) [e] [] cpos) pos) (Xq i de):=by
 refine PS.impD (Vo (cV PySem.F.plainAttrs_list PySem.F.slot_list_append PySem.F.type_list_append Lm ho (Gh he Kv hs) hbase hfew hline hs hplain) hsw) λD σ H h=>?_
 obtain ⟨H0,Y,S,T,δ,P,rfl,hS,hT,hA,hd,k1,k2,k3,k4⟩:=h
 unfold Xq at hd
 split at hd
 case h_2=>exact hd.elim
 rename_i m0 ds0 hsl
 obtain ⟨ent,e2,e3⟩:=Gg hS hsl
 have hm:ent∈S:=Ar e2
 obtain ⟨u,x,F⟩:=ent
 have e3':x=.dat m0 (.list ds0):=e3
 subst e3'
 obtain ⟨v,hv,rd,_⟩:=hA.ok _ (Ag _ hm)
 obtain ⟨a,xs,G,rfl,ha,ra,eF,hz⟩:=rd.list_inv
 refine ⟨.ref a,by rw[Jb e2]; exact congrArg some hv,.inl ⟨rfl,xs,Rr.of ha⟩,H0,Y,S,T,δ,_,rfl,hS,hA,hd,λy δ1 w F1 S1 H1 e4 e5 hA1 p1=>?_⟩
 unfold appOB at p1
 split at p1
 ·rename_i m ds my e' hsl1
  obtain ⟨p1,p2,p3,p4,p5⟩:=p1
  obtain ⟨b,xs1,g1,g2,g3,S2,h1,h2,h3⟩:=gQ e5 hT hA1 hsl1 p1 p3 p2 p4
  rw[e4,Jb e2] at g1
  have : some (V.ref b)=some (V.ref a):=(Be g1).symm.trans hv
  cases this
  refine ⟨a,xs1,w,rfl,rfl,g2,Bz (by omega) (cO (n:=1000000) (Ai _)),?_⟩
  rw[<- e4,<- h1]
  exact k1 ⟨_,_⟩ S2 _ h2 h3 p5
 ·exact p1.elim
end
end DL
namespace Nd
open PySem PySem.Spec PyProof.Rows L2
end Nd
namespace DL
open PySem PySem.Spec PyProof.Rows L2 Nd
section
variable{X:Cx}{pins:List (Addr×Obj)}{σ:List (Option V)}{H:Hp}{s:Aj}{h':Heap}{m:Str->Option Value}
theorem M9{more:List (Addr×Obj)}(I:Inv X pins σ H s)(F:Fr X.base X.env.locals h' m)(N:News X.base X.env.locals h' (Mo X.base s.heap X.env.locals++more)):∀b o,b≠X.env.locals->s.heap.get? b=some o->h'.get? b=some o:=λb o hb e=>by
 cases q:X.base.get? b with
 | some u =>
  have z:=I.bk b u q
  rw[e] at z; cases z
  exact F.keep b _ q
 | none=>exact (N (b,o) (Ag _ (cT hb q e))).1
theorem kJ(I:Inv X pins σ H s)(F:Fr X.base X.env.locals h' m)(N:News X.base X.env.locals h' (Mo X.base s.heap X.env.locals)):∀b o,b≠X.env.locals->s.heap.get? b=some o->h'.get? b=some o:=M9 (more:=[]) I F (by rw[Ea]; exact N)
theorem Inv.framed{t':Nat}(I:Inv X pins σ H s)(k:∀b o,b≠X.env.locals->s.heap.get? b=some o->h'.get? b=some o)(n0:s.heap.Ns X.env.locals m)(n1:h'.Ns X.env.locals m):Inv X pins σ H { s with heap:=h',toks:=t' }:=by
 have nit:∀b u,H b=some u->b≠X.env.locals:=λb u e z=>by rw[z,I.free] at e; cases e
 refine I.step (g':=s.gens) (d':=s.drawn) (ch:=[]) (λ_ z=>nomatch z) (λb o hb _ _ e _=>k b o hb e) (λb o hb _ _ e _=>⟨o.slots,k b o hb e⟩) (λ_ _ _ _ n=>n) (λb o _ e=>?_) (λ_ _ e=>e) (λ_ _ _ e=>e) (λb ps e=>⟨#[],by rw[e]; simp⟩) (λm' hm=>?_) (λb u e=>?_) I.bare
 ·by_cases z:b=X.env.locals
  ·obtain ⟨o',_,_,ho',_⟩:=n1
   exact ⟨o',z▸ho'⟩
  ·exact ⟨o,k b o z e⟩
 ·obtain ⟨o1,es1,ep1,a1,b1,c1,d1⟩:=hm
  obtain ⟨o2,es2,ep2,a2,b2,c2,d2⟩:=n0
  rw[a1] at a2; cases a2
  rw[b1] at b2; cases b2
  have : m'=m:=funext λx=>(d1 x).symm.trans (d2 x)
  exact this▸n1
 ·refine (I.hok b u e).stay (λc v hc q=>k c v ?_ q) (λ_ q=>q) λ_ _ q=>q
  rcases hc with z | z
  ·rw[z]; exact nit b u e
  ·exact nit c _ z
end
def Wr(K:PySem.W.Frag)(le lt:Nat->Nat->Prop):V->Hp->VK->Prop:=λx H Q=>∃(p:Addr) (xs:List V) (kf:Nat->Nat),x=.ref p/\Rr K H p xs/\xs≠[]/\(∀i v,xs[i]? = some v->∃q ys,v=.ref q/\(Rr K H q ys\/Qs K H q ys)/\ys.length=kf i) /\
 ∀i v,xs[i]? = some v->(∀j,j<xs.length->le (kf i) (kf j)/\(j<i->lt (kf i) (kf j)))->Q v H
section
variable{X:Cx}{pins:List (Addr×Obj)}{σ:List (Option V)}{H:Hp}{s:Aj}
theorem aU{a:Addr}{o:Obj}{xs:Array Value}{n:Nat}{m:Str->Option Value}{h:Heap}(hn:h.Ns a m){b:Addr}(hb:h.get? b=some o)(hd:o.data=.seq xs n):b≠a:=λz=>by
 obtain ⟨o1,es1,ep1,a1,b1,_⟩:=hn
 rw[z,a1] at hb; cases hb
 rw[b1] at hd; cases hd
theorem dO{own:List (Addr×Obj)}{h:Heap}{tk:Nat}{m:Str->Option Value}{q:Addr}{ys:List V}(hc:X.calm=true)(I:Inv X pins σ H s)(n0:s.heap.Ns X.env.locals m)(F:Fr X.base X.env.locals h m)(N:News X.base X.env.locals h (Mo X.base s.heap X.env.locals++own))(hq:Rr X.K H q ys\/Qs X.K H q ys):wpAny (model X.prog X.w) X.A.in1 (call (.builtin "len") [.ref q]) (KskEnd X.base X.env.locals m (Mo X.base s.heap X.env.locals++own) (ys.length:Nat) { s with heap:=h,toks:=tk }) (λ_ _=>False) { s with heap:=h,toks:=tk }:=by
 have hl:=Rq
 have hs:Aq=16777216:=He
 have k:=M9 I F N
 rcases hq with hq | hq
 ·obtain ⟨its,r',pl,hz⟩:=I.list hq
  have hlen:=r'.length
  obtain ⟨o,ho,hcl,nn,hd⟩:=pl.isList
  have hil:Heap.IsList h q its.toArray:=⟨o,k q o (aU n0 ho hd) ho,hcl,nn,hd⟩
  refine Calls.call_len_list hil (by simp only[Am]; omega) ?_
  simp only[Am]
  rw[hlen]
  exact KskEnd.intro F N λp hp=>hp
 ·obtain ⟨its,r',pl,hz⟩:=I.tuple hq
  have hlen:=r'.length
  obtain ⟨o,ho,hcl,nn,hd⟩:=pl
  have hil:IsTup h q its.toArray:=⟨o,k q o (aU n0 ho hd) ho,hcl,nn,hd⟩
  refine len_tuple hil (by simp only[Am]; omega) ?_
  simp only[Am]
  rw[hlen]
  exact KskEnd.intro F N λp hp=>hp
theorem nR(hc:X.calm=true){x:V}{u:Value}{Q:VK}(I:Inv X pins σ H s)(ru:RelV x u)(h:Wr X.K (λa b=>a<=b) (λa b=>a<b) x H Q):wpAny (model X.prog X.w) X.A (call (.builtin "min") [u] [(Km "key",.builtin "len")]) (EP X pins σ Q) X.xe s:=by
 obtain ⟨p,xs,kf,rfl,hp,ne,hx,q⟩:=h
 cases ru
 obtain ⟨m,F0⟩:=I.fr
 have n0:=F0.ns
 obtain ⟨its,rv,pl,_⟩:=I.list hp
 obtain ⟨o,ho,hcl,nn,hd⟩:=pl.isList
 have hlen:=rv.length
 refine PyProof.Rows.kmb_min (λi=>(kf i:Int)) (I.ok.hd hc) F0 (fX (h:=s.heap)) (vs:=its) (λh F N=>?_) ?_ (λi v hv h tk own F N=>?_) λi v h' tk' hv hb F N=>?_
 ·exact ⟨o,kJ I F N p o (aU n0 ho hd) ho,hcl,nn,hd⟩
 ·rw[<- hlen]; exact Jk.mpr ne
 ·have hi:i<xs.length:=by rw[hlen]; exact (Al.mp hv).1
  obtain ⟨y,hy⟩ : ∃y,xs[i]? = some y:=⟨_,Bs hi⟩
  obtain ⟨u',h1,h2⟩:=rv.get hy
  rw[hv] at h1; cases h1
  obtain ⟨q',ys,rfl,hq,e⟩:=hx i y hy
  cases h2
  rw[<- e]
  exact dO hc I n0 F N hq
 ·have hi:i<xs.length:=by rw[hlen]; exact (Al.mp hv).1
  obtain ⟨y,hy⟩ : ∃y,xs[i]? = some y:=⟨_,Bs hi⟩
  obtain ⟨u',h1,h2⟩:=rv.get hy
  rw[hv] at h1; cases h1
  refine ⟨y,H,Inv.framed I (kJ I F N) n0 F.ns,h2,q i y hy λj hj=>?_⟩
  have:=hb j (by rw[<- hlen]; exact hj)
  refine ⟨by have:=this.1; omega,λz=>?_⟩
  have:=this.2 z
  omega
theorem mQ(hc:X.calm=true){x:V}{u:Value}{Q:VK}(I:Inv X pins σ H s)(ru:RelV x u)(h:Wr X.K (λa b=>a ≥ b) (λa b=>a > b) x H Q):wpAny (model X.prog X.w) X.A (call (.builtin "max") [u] [(Km "key",.builtin "len")]) (EP X pins σ Q) X.xe s:=by
 obtain ⟨p,xs,kf,rfl,hp,ne,hx,q⟩:=h
 cases ru
 obtain ⟨m,F0⟩:=I.fr
 have n0:=F0.ns
 obtain ⟨its,rv,pl,_⟩:=I.list hp
 obtain ⟨o,ho,hcl,nn,hd⟩:=pl.isList
 have hlen:=rv.length
 refine PyProof.Rows.kmb_max (λi=>(kf i:Int)) (I.ok.hd hc) F0 (fX (h:=s.heap)) (vs:=its) (λh F N=>?_) ?_ (λi v hv h tk own F N=>?_) λi v h' tk' hv hb F N=>?_
 ·exact ⟨o,kJ I F N p o (aU n0 ho hd) ho,hcl,nn,hd⟩
 ·rw[<- hlen]; exact Jk.mpr ne
 ·have hi:i<xs.length:=by rw[hlen]; exact (Al.mp hv).1
  obtain ⟨y,hy⟩ : ∃y,xs[i]? = some y:=⟨_,Bs hi⟩
  obtain ⟨u',h1,h2⟩:=rv.get hy
  rw[hv] at h1; cases h1
  obtain ⟨q',ys,rfl,hq,e⟩:=hx i y hy
  cases h2
  rw[<- e]
  exact dO hc I n0 F N hq
 ·have hi:i<xs.length:=by rw[hlen]; exact (Al.mp hv).1
  obtain ⟨y,hy⟩ : ∃y,xs[i]? = some y:=⟨_,Bs hi⟩
  obtain ⟨u',h1,h2⟩:=rv.get hy
  rw[hv] at h1; cases h1
  refine ⟨y,H,Inv.framed I (kJ I F N) n0 F.ns,h2,q i y hy λj hj=>?_⟩
  have:=hb j (by rw[<- hlen]; exact hj)
  refine ⟨by have:=this.1; omega,λz=>?_⟩
  have:=this.2 z
  omega
variable{e:Expr}{t:TA}{da:DA}{p1 p2 kp pos:Pos}
theorem P4(hc:X.calm=true)(hg:Gl X "min")(hm:X.mg "min" = none)(hg2:Gl X "len")(hm2:X.mg "len" = none)(ha:PA X [e] t)(hs:Bf [e] X.env=[(false,eval e X.env)]:=by rfl):PE X (.Call (.Name "min" p1) [e] [⟨some "key",.Name "len" p2,kp⟩] pos) (K3 (λxs H Q=>∃x,xs=[x]/\Wr X.K (λa b=>a<=b) (λa b=>a<b) x H Q) t):=by
 intro pins s σ H Q I h
 refine Hz (Of I hg hm (u:=.builtin "min") (by decide +kernel) ?_)
 refine Ve (Et (ha pos pins s σ H _ I h) λus s1 ⟨vs,H1,I1,r1,q1⟩=>?_) (by rw[hs]; rfl) (by rw[hs]; rfl)
 obtain ⟨x,rfl,q⟩:=q1
 obtain ⟨u,rfl,ru⟩:=vals1 r1
 refine kws_cons (Of I1 hg2 hm2 (u:=.builtin "len") (by decide +kernel) (kws_nil ?_))
 exact nR hc I1 ru q
theorem uU(hc:X.calm=true)(hg:Gl X "max")(hm:X.mg "max" = none)(hg2:Gl X "len")(hm2:X.mg "len" = none)(ha:PA X [e] t)(hs:Bf [e] X.env=[(false,eval e X.env)]:=by rfl):PE X (.Call (.Name "max" p1) [e] [⟨some "key",.Name "len" p2,kp⟩] pos) (K3 (λxs H Q=>∃x,xs=[x]/\Wr X.K (λa b=>a ≥ b) (λa b=>a > b) x H Q) t):=by
 intro pins s σ H Q I h
 refine Hz (Of I hg hm (u:=.builtin "max") (by decide +kernel) ?_)
 refine Ve (Et (ha pos pins s σ H _ I h) λus s1 ⟨vs,H1,I1,r1,q1⟩=>?_) (by rw[hs]; rfl) (by rw[hs]; rfl)
 obtain ⟨x,rfl,q⟩:=q1
 obtain ⟨u,rfl,ru⟩:=vals1 r1
 refine kws_cons (Of I1 hg2 hm2 (u:=.builtin "len") (by decide +kernel) (kws_nil ?_))
 exact mQ hc I1 ru q
end
def u4:Ab->Option Nat
 | .tuple ds=>some ds.length
 | .list ds=>some ds.length
 | _=>none
def Vq(le lt:Nat->Nat->Prop):DC:=λxs P=>match xs with
 | [.dat m (.list ds)]=>∃kf:Nat->Nat,ds≠[]/\(∀i d,ds[i]? = some d->u4 d=some (kf i))/\∀i d,ds[i]? = some d->(∀j,j<ds.length->le (kf i) (kf j)/\(j<i->lt (kf i) (kf j)))->P (.dat (Ly m) d)
 | _=>False
section
variable{K:PySem.W.Frag}
theorem qC{le lt:Nat->Nat->Prop}:Qr K (λxs H Q=>∃x,xs=[x]/\Wr K le lt x H Q) (Vq le lt):=by
 intro H0 X n S T As us H Q P eu hA hd k
 unfold Vq at hd
 split at hd
 ·rename_i m ds ex
  obtain ⟨v,F,rfl,hA⟩:=Jr eu hA ex
  obtain ⟨kf,ne,hk,hp⟩:=hd
  obtain ⟨a,xs,G,rfl,ha,ra,rfl,hz⟩:=(hA.told mem_mid).list_inv
  refine ⟨_,rfl,a,xs,kf,rfl,Rr.of ha,λz=>?_,λi v hv=>?_,λi v hv hb=>?_⟩
  ·have:=ra.len; rw[z] at this; exact ne (Jy.mp this.symm)
  ·have hi:=(Al.mp hv).1
   rw[ra.len] at hi
   obtain ⟨x,G',h1,h2,h3⟩:=ra.get (Bs hi)
   rw[hv] at h1; cases h1
   have hl:=hk i _ (Bs hi)
   generalize ds[i]=d at h2 hl
   cases d with
   | tuple es =>
    obtain ⟨b,ys,rfl,hb,rb,_⟩:=h2.tup_inv
    exact ⟨b,ys,rfl,.inr (Qs.of hb),by rw[rb.len]; exact Be hl⟩
   | list es =>
    obtain ⟨b,ys,_,rfl,hb,rb,_,_⟩:=h2.list_inv
    exact ⟨b,ys,rfl,.inl (Rr.of hb),by rw[rb.len]; exact Be hl⟩
   | _=>cases hl
  ·have hi:=(Al.mp hv).1
   rw[ra.len] at hi
   obtain ⟨x,G',h1,h2,h3⟩:=ra.get (Bs hi)
   rw[hv] at h1; cases h1
   exact k _ _ G' H (hA.part h2 (h3.trans (Ck _ _))) (hp i _ (Bs hi) λj hj=>hb j (by rw[ra.len]; exact hj))
 ·exact hd.elim
end
section
variable{X:Cx}{e:Expr}{da:DA}{p1 p2 kp pos:Pos}
theorem xJ(hc:X.calm=true)(hg:Gl X "max")(hm:X.mg "max" = none)(hg2:Gl X "len")(hm2:X.mg "len" = none)(ha:iO X [e] da)(hs:Bf [e] X.env=[(false,eval e X.env)]:=by rfl):Ff X (.Call (.Name "max" p1) [e] [⟨some "key",.Name "len" p2,kp⟩] pos) (L3 (Vq (λa b=>a ≥ b) (λa b=>a > b)) da):=PE.imp (uU hc hg hm hg2 hm2 ha hs) (tH qC)
end
end DL
namespace Nd
open PySem PySem.Spec PyProof.Rows
section
variable{prog:Bx}{w:World}{κ:Type}[DecidableEq κ](knd:HeapKind prog w κ)
def DictE(h:Heap)(d:Addr)(xs:List (κ×Addr×Value)):Prop :=
 ∃(o:Obj) (es:Array DictEntry) (ep:Nat),h.get? d=some o/\o.ExactDict/\o.data=.dict es ep/\es.toList=xs.map (Yh knd)/\(∀x∈xs,knd.is h x.1 x.2.1)/\(xs.map (·.1)).Nodup/\ep=es.size
variable{knd}
variable{A:Cs}{E:Value->Aj->Prop}{s:Aj}{d a:Addr}{xs:List (κ×Addr×Value)}{k:κ}{v:Value}
theorem oD{xs:List (κ×Addr×Value)}{k:κ}{a:Addr}{v:Value}(hn:(xs.map (·.1)).Nodup)(hk:k∉xs.map (·.1)):((xs++[(k,a,v)]).map (·.1)).Nodup:=by
 rw[Az,List.nodup_append]
 refine ⟨hn,by simp,λx hx y hy e=>hk ?_⟩
 rw[Ap,Kh,Ac] at hy
 have hy:y=k:=hy
 rw[<- hy,<- e]
 exact hx
theorem qM{o:Obj}{es:Array DictEntry}{ep:Nat}{h:Heap}(ho:h.get? d=some o)(hc:o.ExactDict)(hd:o.data=.dict es ep)(he:es.toList=xs.map (Yh knd))(his:∀x∈xs,knd.is h x.1 x.2.1)(hn:(xs.map (·.1)).Nodup)(hep:ep=es.size)(hkey:knd.is h k a)(ha:atKey xs k=none)(hk:k∉xs.map (·.1)):DictE knd (h.update d (Obj.mapDictKeys λes=>es.push ⟨knd.hash k,.ref a,v⟩)) d (storedH xs k a v):=by
 rw[storedH_new ha]
 refine ⟨_,_,ep+1,Qq _ ho (Obj.isFreed_of_dict (Obj.data_mapDictKeys hd _)),hc.mapDictKeys _,Obj.data_mapDictKeys hd _,by simp [he,Yh],λx hx=>?_,oD hn hk,by rw[hep,Array.size_push]⟩
 rcases An.mp hx with z | z
 ·exact knd.keeps (his x z) ho hd (Dw ..)
 ·rw[Ac.mp z]
  exact knd.keeps hkey ho hd (Dw ..)
theorem pK{Q:Unit->Aj->Prop}(hu:knd.room A)(hkey:knd.is s.heap k a)(hm:DictE knd s.heap d xs)(q:∀h',DictE knd h' d (storedH xs k a v)->Mj d s.heap h'->Q () { s with heap:=h',toks:=s.toks+knd.draws k })(hz:xs.length<=Aq):wpAny (model prog w) A (dictSet d (.ref a) v) Q E s:=by
 obtain ⟨o,es,ep,ho,hc,hd,he,his,hn,hep⟩:=hm
 unfold dictSet
 try with_reducible refine Ek ?_
 refine Ah (knd.pyHash hu hkey ?_)
 unfold dictSetHashed
 try with_reducible refine Ek ?_
 refine Ah (wpAny_dictFind_heap (s:={ s with toks:=s.toks+knd.draws k }) hu hkey ho hd he his hn (λno=>?_) λj p hj=>?_)
 ·exact Ah (Rt (wpAny_updateDictKeys (hz:=by have e:=size_of_entries he; omega) (s:={ s with toks:=s.toks+knd.draws k }) ho hd (q _ (qM ho hc hd he his hn hep hkey (atKey_none_of_get no) (not_mem_keys_of_get no)) (Dw ..))))
 ·refine Ah (Rt (Ah (wpAny_updateDict (s:={ s with toks:=s.toks+knd.draws k }) ho hd (wpAny_point (q _ ?_ (Dw ..))))))
  rw[storedH_old (atKey_of_get hn hj)]
  refine ⟨_,_,ep,Qq _ ho (Obj.isFreed_of_dict (Obj.data_mapDict hd _)),hc.mapDict _,Obj.data_mapDict hd _,?_,λx hx=>?_,by rw[keys_map_putAt]; exact hn,by rw[hep]; simp⟩
  ·have e1:=modify_map_putAt (Yh knd) (λe:DictEntry=>{ e with val:=v }) k v (λ_ _=>rfl) hn hj
   rw[<- he] at e1
   obtain ⟨l⟩:=es
   simpa using e1
  ·obtain ⟨y,hy,rfl⟩:=Ce.mp hx
   unfold putAt
   split <;> exact knd.keeps (his y hy) ho hd (Dw ..)
end
end Nd
namespace L2
open PySem PySem.Spec PyProof.Rows
section
variable{κ:Type}[DecidableEq κ]
def Tq(kvs:List (κ×V))(k:κ):Option V:=(kvs.find? λkv=>decide (kv.1=k)).map (·.2)
def Wv(kvs:List (κ×V))(k:κ)(v:V):List (κ×V) :=
 if (kvs.any λkv=>decide (kv.1=k))=true then kvs.map (λkv=>if kv.1=k then (kv.1,v) else kv) else kvs++[(k,v)]
theorem Sm{p:κ×V}{r:List (κ×V)}{k:κ}(e:p.1=k):Tq (p::r) k=some p.2:=by simp [Tq,Jq,e]
theorem Sb{p:κ×V}{r:List (κ×V)}{k:κ}(e:¬ p.1=k):Tq (p::r) k=Tq r k:=by simp [Tq,Jq,e]
theorem eB(k:κ):∀kvs:List (κ×V),(kvs.any λkv=>decide (kv.1=k))=(Tq kvs k).isSome
 | []=>rfl
 | p::r=>by
  rw[On]
  by_cases e:p.1=k
  ·simp only[Sm e,decide_eq_true e,Bool.true_or,Tc]
  ·rw[Sb e,decide_eq_false e,Bool.false_or]; exact eB k r
theorem eZ(kvs:List (κ×V))(k:κ)(v:V):(Wv kvs k v).length<=kvs.length+1:=by
 unfold Wv
 split
 ·rw[Af]; omega
 ·rw[Ay,Bm,Ez]; omega
theorem iV.isSome_eq{o:Option V}{u:Option Value}(r:iV o u):o.isSome=u.isSome:=by
 cases o with
 | none=>cases u with
  | none=>rfl
  | some _=>exact (show False from r).elim
 | some _=>cases u with
  | none=>exact (show False from r).elim
  | some _=>rfl
theorem KV.val{kvs:List (κ×V)}{vs:List (κ×Value)}(r:KV kvs vs)(k:κ):iV (Tq kvs k) (valueAt vs k):=by
 unfold KV at r
 induction r with
 | nil=>exact Kx
 | @cons p q ps qs h t ih =>
  obtain ⟨h1,h2⟩:=h
  by_cases e:p.1=k
  ·have e':q.1=k:=h1.symm.trans e
   have b:valueAt (q::qs) k=some q.2:=by simp [valueAt,Jq,e']
   rw[Sm e,b]; exact h2
  ·have e':¬ q.1=k:=λz=>e (h1.trans z)
   have b:valueAt (q::qs) k=valueAt qs k:=by simp [valueAt,Jq,e']
   rw[Sb e,b]; exact ih
end
theorem rW{P:Bx}{w:World}{k:Jj}{u:Value}(r:RelV (kV k) u):(Il P w).is k u=true:=by
 cases k with
 | inl i=>obtain ⟨t,e⟩:=(show ∃t,u=Value.int i t from r); subst e; exact fO P w i t
 | inr x=>obtain ⟨t,e⟩:=(show ∃t,u=Value.str x t from r); subst e; exact eY P w x t
theorem Zf{P:Bx}{w:World}:∀{ks:List Jj} {us:List Value},Ey (ks.map kV) us->ItemsAre (Il P w) ks us
 | [],_,r=>by rw[Kh] at r; cases r; exact .nil
 | k::ks,_,r=>by
  rw[Ap] at r
  cases r with
  | cons h t=>exact .cons (rW h) (Zf t)
abbrev KT(H:Hp):List (List Jj×V)->List (List Jj×Addr×Value)->Prop:=Paired λp q=>p.1=q.1/\H q.2.1=some (.tup (p.1.map kV))/\RelV p.2 q.2.2
theorem KT.val{H:Hp}{kvs:List (List Jj×V)}{xs:List (List Jj×Addr×Value)}(r:KT H kvs xs)(k:List Jj):iV (Tq kvs k) ((atKey xs k).map (·.2)):=by
 induction r with
 | nil=>exact Kx
 | @cons p q ps qs h t ih =>
  obtain ⟨h1,_,h2⟩:=h
  by_cases e:p.1=k
  ·have e':q.1=k:=h1.symm.trans e
   have b:atKey (q::qs) k=some q.2:=by simp [atKey,Jq,e']
   rw[Sm e,b]; exact h2
  ·have e':¬ q.1=k:=λz=>e (h1.trans z)
   have b:atKey (q::qs) k=atKey qs k:=by simp [atKey,Jq,e']
   rw[Sb e,b]; exact ih
theorem KT.repl{H:Hp}{kvs:List (List Jj×V)}{xs:List (List Jj×Addr×Value)}(r:KT H kvs xs)(k:List Jj){y:V}{u:Value}(ry:RelV y u):KT H (kvs.map λkv=>if kv.1=k then (kv.1,y) else kv) (xs.map (putAt k u)):=by
 induction r with
 | nil=>exact .nil
 | @cons p q ps qs h t ih =>
  rw[Ap,Ap]
  refine .cons ?_ ih
  obtain ⟨h1,h2,h3⟩:=h
  unfold putAt
  by_cases e:p.1=k
  ·rw[if_pos e,if_pos (h1.symm.trans e)]; exact ⟨h1,h2,ry⟩
  ·rw[if_neg e,if_neg (λz=>e (h1.trans z))]; exact ⟨h1,h2,h3⟩
theorem KT.put{H:Hp}{kvs:List (List Jj×V)}{xs:List (List Jj×Addr×Value)}(r:KT H kvs xs)(k:List Jj){b:Addr}{y:V}{u:Value}(hb:H b=some (.tup (k.map kV)))(ry:RelV y u):KT H (Wv kvs k y) (storedH xs k b u):=by
 have e:(kvs.any λkv=>decide (kv.1=k))=(atKey xs k).isSome:=by
  rw[eB,(r.val k).isSome_eq,Option.isSome_map]
 unfold Wv storedH
 rw[e]
 by_cases q:(atKey xs k).isSome=true
 ·rw[if_pos q,if_pos q]; exact r.repl k ry
 ·rw[if_neg q,if_neg q]; exact Paired.snoc r ⟨rfl,hb,ry⟩
theorem KT.keeps{H H':Hp}{kvs:List (List Jj×V)}{xs:List (List Jj×Addr×Value)}(r:KT H kvs xs)(ht:∀b ys,H b=some (.tup ys)->H' b=some (.tup ys)):KT H' kvs xs :=
 Paired.mapP r λ_ _ z=>⟨z.1,ht _ _ z.2.1,z.2.2⟩
section
variable{P:Bx}{w:World}{H:Hp}{h:Heap}{a:Addr}
theorem sL{u:HO}(ok:Uo P w H h)(e:Rd H a u):Hs P w H h a u:=e.ok ok
theorem sR{kvs:List (Jj×V)}(ok:Uo P w H h)(e:Rd H a (.dK kvs)):kvs.length<=Aq/\(a == Mc)=false/\∃vs,KV kvs vs/\h.DictOf (Il P w) a vs :=
 show Hs P w H h a (.dK kvs) from sL ok e
theorem Vz{ks:List Jj}(ok:Uo P w H h)(e:H a=some (.tup (ks.map kV))):(Qv (Il P w)).is h ks a:=by
 obtain ⟨_,its,r,o,h1,h2,n,h3⟩:=(show Hs P w H h a (.tup (ks.map kV)) from ok a _ e)
 exact ⟨o,its.toArray,n,h1,h2,h3,by simpa using Zf r⟩
theorem oW{kvs:List (List Jj×V)}(ok:Uo P w H h)(e:Rd H a (.dT kvs)):kvs.length<=Aq/\(a == Mc)=false/\∃xs,KT H kvs xs/\h.DictOfH (Qv (Il P w)) a xs:=by
 obtain ⟨z,y,xs,r,o,es,ep,h1,h2,h3,h4,h5,h6⟩:=(show Hs P w H h a (.dT kvs) from sL ok e)
 refine ⟨z,y,xs,r,o,es,ep,h1,h2,h3,h4,λx hx=>?_,h5⟩
 have all:∀{l:List (List Jj×V)} {m:List (List Jj×Addr×Value)},KT H l m->∀x∈m,(Qv (Il P w)).is h x.1 x.2.1:=by
  intro l m q
  induction q with
  | nil=>intro x hx; exact nomatch hx
  | @cons p q ps qs hq t ih =>
   intro x hx
   rcases Ak.mp hx with e | hx
   ·subst e
    exact Vz ok (by rw[<- hq.1]; exact hq.2.1)
   ·exact ih x hx
 exact all r x hx
theorem l0{kvs:List (List Jj×V)}(ok:Uo P w H h)(e:Rd H a (.dT kvs)):kvs.length<=Aq/\(a == Mc)=false/\∃xs,KT H kvs xs/\Nd.DictE (Qv (Il P w)) h a xs:=by
 obtain ⟨z,y,xs,r,o,es,ep,h1,h2,h3,h4,h5,h6⟩:=(show Hs P w H h a (.dT kvs) from sL ok e)
 refine ⟨z,y,xs,r,o,es,ep,h1,h2,h3,h4,λx hx=>?_,h5,h6⟩
 have all:∀{l:List (List Jj×V)} {m:List (List Jj×Addr×Value)},KT H l m->∀x∈m,(Qv (Il P w)).is h x.1 x.2.1:=by
  intro l m q
  induction q with
  | nil=>intro x hx; exact nomatch hx
  | @cons p q ps qs hq t ih =>
   intro x hx
   rcases Ak.mp hx with e | hx
   ·subst e
    exact Vz ok (by rw[<- hq.1]; exact hq.2.1)
   ·exact ih x hx
 exact all r x hx
end
def fA(H:Hp)(a:Addr)(y:V)(r:Option V):Prop :=
 (∃kvs k,Rd H a (.dK kvs)/\y=kV k/\r=Tq kvs k)\/∃kvs k b,Rd H a (.dT kvs)/\y=.ref b/\H b=some (.tup (k.map kV))/\r=Tq kvs k
theorem fA.t{H:Hp}{a b:Addr}{kvs:List (List Jj×V)}{k:List Jj}(e:H a=some (.dT kvs))(eb:H b=some (.tup (k.map kV))):fA H a (.ref b) (Tq kvs k):=.inr ⟨kvs,k,b,.inl e,rfl,eb,rfl⟩
section
variable{X:Cx}{pins:List (Addr×Obj)}{σ:St}{H:Hp}{s:Aj}{a:Addr}{y v:V}{u r:Value}{o:Option V}{A:Cs}{E:Value->Aj->Prop}
theorem Inv.big(I:Inv X pins σ H s):Mc<s.heap.objs.size:=by
 have h:Cm<s.heap.objs.size:=(I.mod.glob.keeps I.bk).lt
 exact Nat.lt_trans (by decide) h
theorem nH{Q:Value->Aj->Prop}(hu:A.units+1<cLine)(I:Inv X pins σ H s)(g:fA H a y (some v))(ry:RelV y u)(h:∀w' s',Inv X pins σ H s'->RelV v w'->Q w' s'):wpAny (model X.prog X.w) A (Pp (.ref a) u) Q E s:=by
 rcases g with ⟨kvs,k,e,ey,l⟩ | ⟨kvs,k,b,e,ey,eb,l⟩
 ·subst ey
  obtain ⟨z,hd,vs,rel,dd⟩:=sR I.hok e
  obtain ⟨w',hw,rw'⟩:=iV.some_of (v:=v) (o:=valueAt vs k) (by rw[l]; exact rel.val k)
  exact wpAny_getItem_of (rW ry) dd.mapOf hw (h w' _ (I.tok _) rw')
 ·subst ey
  cases (show u=Bb b from ry)
  obtain ⟨z,hd,xs,rel,dd⟩:=oW I.hok e
  obtain ⟨w',hw,rw'⟩:=iV.some_of (v:=v) (o:=(atKey xs k).map (·.2)) (by rw[l]; exact rel.val k)
  obtain ⟨p,hp,hp2⟩:=Option.map_eq_some_iff.mp hw
  refine wpAny_getItem_heap (tupleKind_room_in1 hu) (Vz I.hok eb) dd hp ?_
  rw[hp2]
  exact h w' _ (I.tok _) rw'
theorem R6{Q:Value->Aj->Prop}(hu:A.units+1<cLine)(I:Inv X pins σ H s)(g:fA H a y o)(ry:RelV y u)(h:∀s',Inv X pins σ H s'->Q (.bool o.isSome) s'):wpAny (model X.prog X.w) A (Hb .In u (.ref a)) Q E s:=by
 rcases g with ⟨kvs,k,e,ey,l⟩ | ⟨kvs,k,b,e,ey,eb,l⟩
 ·subst ey
  obtain ⟨z,hd,vs,rel,dd⟩:=sR I.hok e
  refine wpAny_in_of (rW ry) hd dd.mapOf ?_
  rw[<- (rel.val k).isSome_eq,<- l]
  exact h _ (I.tok _)
 ·subst ey
  cases (show u=Bb b from ry)
  obtain ⟨z,hd,xs,rel,dd⟩:=oW I.hok e
  refine wpAny_in_heap (tupleKind_room_in1 hu) (Vz I.hok eb) hd dd ?_
  have q:=(rel.val k).isSome_eq
  rw[Option.isSome_map] at q
  rw[<- q,<- l]
  exact h _ (I.tok _)
theorem uR{h':Heap}{t':Nat}{ob:HO}(I:Inv X pins σ H s)(mu:M7 (H a))(hs:Mj a s.heap h')(he:∃q,h'.get? a=some q)(new:Hs X.prog X.w (upd H a ob) h' a ob):Inv X pins σ (upd H a ob) { s with heap:=h',toks:=t' } :=
 I.write (x:=a) (e:=a) mu (.inl rfl) (λb q hb z=>(hs.2 b hb).trans z) he new
end
def x5(i:Expr):Prop:=∀ov iv,subscripted i false ov iv=operate [ov,iv] (Pp ov iv)
theorem xA{prog:Bx}{w:World}{A:Cs}{E:Value->Aj->Prop}{s:Aj}{env:Env}{value slice:Expr}{pos:Pos}{T id:String}{Q:Value->Aj->Prop}(hl:typeLookup (.type T) "__getitem__" = pure (some (.builtin id)))(hs:x5 slice)(h:wpAny (model prog w) A (eval value env) (λo s₁=>wpAny (model prog w) A (eval slice env) (λi s₂=>s₂.TypeIs o T/\wpAny (model prog w) A (Pp o i) Q E s₂) E s₁) E s):wpAny (model prog w) A (eval (.Subscript value slice pos) env) Q E s:=by
 refine Subscript_ (Cf h (λo s₁ h₁=>Cf h₁ (λi s₂ h₂=>?_) λ_ _ x=>x) λ_ _ x=>x)
 obtain ⟨hT,h₂⟩:=h₂
 unfold subscriptTail
 refine Ah ?_
 rw[getitemInPython_of_ne hT.not_modules]
 refine Ah (wpAny_specialOf hT hl ?_)
 have fin:wpAny (model prog w) A (subscripted slice false o i) (λr s₃=>wpAny (model prog w) A (letTemporaryGo value o r >>= λ_=>pure r) Q E s₃) E s₂:=by
  rw[hs o i]
  exact wpAny_operating (Cf h₂ (λr s₃ h₃=>Ah (wpAny_letTemporaryGo (Aw h₃))) λ_ _ x=>x)
 first
  | exact Aw (Ah fin)
  | exact Ah (Aw (Ah fin))
  | exact Ah fin
theorem cU{X:Cx}{pins:List (Addr×Obj)}{σ:St}{H:Hp}{s:Aj}{a:Addr}{y:V}{o:Option V}(I:Inv X pins σ H s)(g:fA H a y o):s.TypeIs (.ref a) "dict" := by
 rcases g with ⟨kvs,k,e,_,_⟩ | ⟨kvs,k,b,e,_,_,_⟩
 ·obtain ⟨_,_,vs,_,dd⟩:=sR I.hok e
  exact dd.typeIs
 ·obtain ⟨_,_,xs,_,dd⟩:=oW I.hok e
  exact dd.typeIs
def G5(td ty:TE):TE:=λσ H Q=>td σ H λx H1=>ty σ H1 λy H2=>∃a v,x=.ref a/\fA H2 a y (some v)/\Q v H2
def S8(ty td:TE):TE:=λσ H Q=>ty σ H λy H1=>td σ H1 λx H2=>∃a o,x=.ref a/\fA H2 a y o/\Q (.bl o.isSome) H2
section
variable{X:Cx}{o i e value:Expr}{pos pos' tpos:Pos}{td ty tv:TE}
theorem uS(hu:X.A.units+1<cLine)(ho:PE X o td)(hi:PE X i ty)(hs:x5 i):PE X (.Subscript o i pos) (G5 td ty):=by
 intro pins s σ H Q I h
 refine xA PySem.F.slot_dict_getitem.lookup hs (Et (ho pins s σ H _ I h) λu s1 ⟨x,H1,I1,rx,q1⟩=>Et (hi pins s1 σ H1 _ I1 q1) λiv s2 q0_ => ?_)
 obtain ⟨y,H2,I2,ry,a,v,ex,g,q2⟩ := q0_
 subst ex
 obtain rfl:u=Bb a:=rx
 exact ⟨cU I2 g,nH hu I2 g ry λw' s3 I3 rw'=>⟨v,H2,I3,rw',q2⟩⟩
theorem e8(hu:X.A.units+1<cLine)(hi:PE X i ty)(ho:PE X o td):PC X .In i o (S8 ty td):=by
 intro pins s σ H Q I h
 refine Et (hi pins s σ H _ I h) λiv s1 ⟨y,H1,I1,ry,q1⟩=>Et (ho pins s1 σ H1 _ I1 q1) λu s2 q0_ => ?_
 obtain ⟨x,H2,I2,rx,a,ov,ex,g,q2⟩ := q0_
 subst ex
 obtain rfl:u=Bb a:=rx
 exact R6 hu I2 g ry λs3 I3=>⟨.bl ov.isSome,H2,I3,rfl,q2⟩
end
theorem qD{P:Bx}{w:World}{H:Hp}(h:Heap)(hb:Mc<h.objs.size):Hs P w H (h.push { cls:=.type "dict",data:=.dict #[] }) h.objs.size (.dT []) :=
 ⟨Dl _,beq_eq_false_iff_ne.mpr (Nb (Cy hb)),[],.nil,_,#[],0,Bn _ rfl,⟨rfl,rfl,rfl⟩,rfl,rfl,Cw,rfl⟩
structure M1(X:Cx)(o:Expr)(m:Str)(apos:Pos)(e:Expr)(cpos:Pos):Prop where
 base:Iy o m X.env (eval o X.env)=eval o X.env
 few:((Fs cpos (Bf [e] X.env)).all (λx=>!x.1) && (Qy cpos (Ko [] X.env)).all (λx=>x.1.isSome)
  && decide (([e]:List Expr).length+([]:List Jc).length+(if ([]:List Jc).isEmpty then 0 else 1)<30))=true
 line:(apos.endLine == cpos.line)=true
 trees:Fs cpos (Bf [e] X.env)=[(false,eval e X.env)]
structure M2(X:Cx)(o:Expr)(m:Str)(apos:Pos)(e f:Expr)(cpos:Pos):Prop where
 base:Iy o m X.env (eval o X.env)=eval o X.env
 few:((Fs cpos (Bf [e,f] X.env)).all (λx=>!x.1) && (Qy cpos (Ko [] X.env)).all (λx=>x.1.isSome)
  && decide (([e,f]:List Expr).length+([]:List Jc).length+(if ([]:List Jc).isEmpty then 0 else 1)<30))=true
 line:(apos.endLine == cpos.line)=true
 trees:Fs cpos (Bf [e,f] X.env)=[(false,eval e X.env),(false,eval f X.env)]
end L2
namespace Nd
open PySem PySem.Spec PyProof.Rows L2
end Nd
namespace DL
open PySem PySem.Spec PyProof.Rows L2 Nd
def Pj(ks:List (List Int×Ab))(w:List Int):Option Ab:=(ks.find? λp=>decide (p.1=w)).map (·.2)
def Yj(ks:List (List Int×Ab))(w:List Int)(d:Ab):List (List Int×Ab) :=
 if (ks.any λp=>decide (p.1=w))=true then ks.map (λp=>if p.1=w then (p.1,d) else p) else ks++[(w,d)]
theorem Si{α β:Type}{f:α->β}(hf:∀a b,f a=f b->a=b):∀{l m:List α},l.map f=m.map f->l=m
 | [],[],_=>rfl
 | [],_::_,h=>by cases h
 | _::_,[],h=>by cases h
 | a::l,b::m,h=>by
  obtain ⟨h1,h2⟩:=Fz h
  rw[hf a b h1,Si hf h2]
theorem Nn{a b:List Int}(h:Ca a=Ca b):a=b:=Si (λx y e=>by cases e; rfl) (PyData.tuple.inj h)
theorem Vm{a b:List (List Int×Ab)}(h:cN a=cN b):a=b:=Si (λx y e=>by
 obtain ⟨e1,e2⟩:=Prod.mk.inj e
 exact Prod.ext (Nn e1) e2) (Fz h).2
theorem Vx{a b:List Int}(h:Kg a=Kg b):a=b:=Si (λx y e=>by cases e; rfl) h
theorem vK(w:List Int):(Kg w).map kV=w.map V.int:=by
 unfold Kg
 rw[Eh]
 rfl
section
variable{K:PySem.W.Frag}{H H':Hp}
structure DRel(K:PySem.W.Frag)(H:Hp)(kv:List (List Jj×V))(ks:List (List Int×Ab)):Prop where
 key:kv.map (·.1)=ks.map λp=>Kg p.1
 val:RdFs K H (kv.map (·.2)) (ks.map (·.2)) []
theorem RdF.dict_inv{v:V}{X:List (Ab×Ab)}{F:List Addr}(h:RdF K H v (.dict X) F)(hX:S9 X=true:=by first | rfl | assumption):∃a kv ks,v=.ref a/\X=cN ks/\H a=some (.dT kv)/\DRel K H kv ks/\F=[a]:=by
 cases h with
 | dic h e hs=>exact ⟨_,_,_,rfl,rfl,h,⟨e,hs⟩,rfl⟩
 | dik h e hs=>cases hX
 | dnm h e hs=>cases hX
theorem RdFs.cons_nil{x:V}{d:Ab}{xs:List V}{ds:List Ab}{F:List Addr}(h:RdFs K H (x::xs) (d::ds) F)(hF:F=[]):RdF K H x d []/\RdFs K H xs ds []:=by
 cases h with
 | cons a t =>
  obtain ⟨rfl,rfl⟩:=List.append_eq_nil_iff.mp hF
  exact ⟨a,t⟩
theorem pH{kv:List (List Jj×V)}{ks:List (List Int×Ab)}(r:DRel K H kv ks):kv.length=ks.length:=by
 have:=congrArg Fp r.key
 simpa using this
theorem Vw(w:List Int):∀{kv:List (List Jj×V)} {ks:List (List Int×Ab)},DRel K H kv ks->(Tq kv (Kg w)=none/\Pj ks w=none)\/∃v d,Tq kv (Kg w)=some v/\Pj ks w=some d/\RdF K H v d []
 | [],[],_=>.inl ⟨rfl,rfl⟩
 | [],_::_,r=>by cases r.key
 | _::_,[],r=>by cases r.key
 | (k,v)::kv,(u,d)::ks,r=>by
  obtain ⟨e1,e2⟩:=Fz r.key
  have e1:k=Kg u:=e1
  obtain ⟨r1,r2⟩:=RdFs.cons_nil r.val rfl
  by_cases h:u=w
  ·subst h e1
   refine .inr ⟨v,d,Sm rfl,by simp [Pj],r1⟩
  ·have hk:¬ k=Kg w:=λz=>h (Vx (e1.symm.trans z))
   rw[Sb hk,show Pj ((u,d)::ks) w=Pj ks w by simp [Pj,h]]
   exact Vw w ⟨e2,r2⟩
theorem pN(w:List Int){kv:List (List Jj×V)}{ks:List (List Int×Ab)}(r:DRel K H kv ks):(kv.any λp=>decide (p.1=Kg w))=(ks.any λp=>decide (p.1=w)):=by
 have h1:(kv.any λp=>decide (p.1=Kg w))=((kv.map (·.1)).any λk=>decide (k=Kg w)):=by rw[Pr]; rfl
 rw[h1,r.key,Pr]
 congr 1
 funext p
 exact decide_eq_decide.mpr ⟨λz=>Vx z,λz=>by show Kg p.1=Kg w; rw[z]⟩
theorem Zj(w:List Int){v:V}{d:Ab}(rv:RdF K H v d []):∀{kv:List (List Jj×V)} {ks:List (List Int×Ab)},DRel K H kv ks->DRel K H (kv.map λp=>if p.1=Kg w then (p.1,v) else p) (ks.map λp=>if p.1=w then (p.1,d) else p)
 | [],[],r=>r
 | [],_::_,r=>by cases r.key
 | _::_,[],r=>by cases r.key
 | (k,v')::kv,(u,d')::ks,r=>by
  obtain ⟨e1,e2⟩:=Fz r.key
  have e1:k=Kg u:=e1
  obtain ⟨r1,r2⟩:=RdFs.cons_nil r.val rfl
  have ih:=Zj w rv (kv:=kv) (ks:=ks) ⟨e2,r2⟩
  rw[Ap,Ap]
  by_cases h:u=w
  ·rw[if_pos (show k=Kg w by rw[e1,h]),if_pos h]
   exact ⟨by rw[Ap,Ap,ih.key]; exact congrArg (·::_) e1,RdFs.cons (F:=[]) (G:=[]) rv ih.val⟩
  ·have hk:¬ k=Kg w:=λz=>h (Vx (e1.symm.trans z))
   rw[if_neg (show ¬ (k,v').1=Kg w from hk),if_neg (show ¬ (u,d').1=w from h)]
   exact ⟨by rw[Ap,Ap,ih.key]; exact congrArg (·::_) e1,RdFs.cons (F:=[]) (G:=[]) r1 ih.val⟩
theorem rE(w:List Int){v:V}{d:Ab}(rv:RdF K H v d []){kv:List (List Jj×V)}{ks:List (List Int×Ab)}(r:DRel K H kv ks):DRel K H (Wv kv (Kg w) v) (Yj ks w d):=by
 unfold Wv Yj
 rw[pN w r]
 split
 ·exact Zj w rv r
 ·refine ⟨by rw[Az,Az,r.key]; rfl,?_⟩
  rw[Az,Az]
  exact r.val.snoc rv
theorem DRel.kp{kv:List (List Jj×V)}{ks:List (List Int×Ab)}(r:DRel K H kv ks)(k:Kp [] H H'):DRel K H' kv ks:=⟨r.key,r.val.kp k⟩
end
def M3:R2:=λx y H Q=>∃a v,x=.ref a/\fA H a y (some v)/\Q v H
def J0(ne:Bool):R2:=λy x H Q=>∃a o,x=.ref a/\fA H a y o/\Q (.bl (match ne with | true=>!o.isSome | false=>o.isSome)) H
def cG:D2:=λx y P=>match x,y with
 | .dat _ (.dict X),.dat _ k=>∃ks w d,X=cN ks/\k=Ca w/\Pj ks w=some d/\P (.dat .ow d)
 | _,_=>False
def kT(ne:Bool):D2:=λy x P=>match y,x with
 | .dat _ k,.dat _ (.dict X)=>∃ks w,X=cN ks/\k=Ca w/\P (.dat .ow (.bool (match ne with | true=>!(Pj ks w).isSome | false=>(Pj ks w).isSome)))
 | _,_=>False
section
variable{K:PySem.W.Frag}
theorem aK{H:Hp}{v:V}{w:List Int}{F:List Addr}(r:RdF K H v (Ca w) F):∃b,v=.ref b/\H b=some (.tup ((Kg w).map kV)):=by
 obtain ⟨b,xs,rfl,hb,rb,_⟩:=r.tup_inv
 obtain ⟨rfl,_⟩:=rb.ints_inv
 exact ⟨b,rfl,by rw[vK]; exact hb⟩
theorem vV:jB K M3 cG:=by
 intro H0 X n S T x y v w F G H Q P hA hd k
 unfold cG at hd
 split at hd
 ·obtain ⟨ks,u,d,rfl,rfl,hg,p⟩:=hd
  obtain ⟨b,rfl,hb⟩:=aK (hA.told mem_mid)
  obtain ⟨a,kv,ks',rfl,ek,ha,rel,_⟩:=(hA.told Fi).dict_inv
  obtain rfl:=Vm ek
  rcases Vw u rel with ⟨_,z⟩ | ⟨v',d',h1,h2,h3⟩
  ·rw[z] at hg; cases hg
  ·rw[h2] at hg; cases hg
   exact ⟨a,v',rfl,h1▸fA.t ha hb,k _ _ [] H (hA.drop2.pushI h3) p⟩
 ·exact hd.elim
theorem zH{ne:Bool}:jB K (J0 ne) (kT ne):=by
 intro H0 X n S T x y v w F G H Q P hA hd k
 unfold kT at hd
 split at hd
 ·obtain ⟨ks,u,rfl,rfl,p⟩:=hd
  obtain ⟨b,rfl,hb⟩:=aK (hA.told Fi)
  obtain ⟨a,kv,ks',rfl,ek,ha,rel,_⟩:=(hA.told mem_mid).dict_inv
  obtain rfl:=Vm ek
  refine ⟨a,_,rfl,fA.t ha hb,?_⟩
  rcases Vw u rel with ⟨h1,h2⟩ | ⟨v',d',h1,h2,h3⟩
  ·rw[h1]
   rw[h2] at p
   cases ne <;> exact k _ _ [] H (hA.drop2.pushI (.bl _)) p
  ·rw[h1]
   rw[h2] at p
   cases ne <;> exact k _ _ [] H (hA.drop2.pushI (.bl _)) p
 ·exact hd.elim
end
section
variable{X:Cx}{a b:Expr}{da db:DE}{pos:Pos}
theorem S0{n:Nat}(hu:n+64<cLine):n+1<cLine:=by omega
theorem xK(hu:X.A.units+64<cLine)(ha:Ff X a da)(hb:Ff X b db)(hs:x5 b:=by intro _ _; rfl):Ff X (.Subscript a b pos) (Xi cG da db):=PE.imp (uS (S0 hu) ha hb hs) (Zd vV)
theorem zO(hu:X.A.units+64<cLine)(ha:Ff X a da)(hb:Ff X b db)(hm:Fe .In b=false:=by with_unfolding_all rfl):Ye X (.Compare a [.In] [b] pos) (dB (Xi (kT false) da db)):=PT.imp (u7 (e8 (S0 hu) ha hb) hm) λσ H Q h=>Zd (r:=J0 false) zH _ _ _ (zC σ H Q h)
end
def W1(i:Nat)(y z:DV)(δ:DS)(D:DEnds):Prop:=match δ.sl[i]?,y,z with
 | some (.dat .ow (.dict X)),.dat _ e,.dat _ k=>npk δ.sl=true/\imm e=true/\∃ks w,X=cN ks/\k=Ca w/\ks.length<1000000/\D.nx ⟨δ.sl.set i (.dat .ow (.dict (cN (Yj ks w e)))),δ.n⟩
 | _,_,_=>False
def X2(i:Nat)(z:DV)(δ:DS)(D:DEnds):Prop:=match δ.sl[i]?,z with
 | some (.dat m (.list ds)),.dat _ (.int k)=>own1 m=true/\npk δ.sl=true/\Dj ds=true/\0<=k/\k<ds.length/\k<=1000000/\D.nx ⟨δ.sl.set i (.dat m (.list (ds.eraseIdx k.toNat))),δ.n⟩
 | _,_=>False
def isLst:Option DV->Bool
 | some (.dat _ (.list _))=>true
 | _=>false
theorem RdFs.erase{K:PySem.W.Frag}{H:Hp}{xs:List V}{ds:List Ab}(j:Nat)(r:RdFs K H xs ds []):RdFs K H (xs.eraseIdx j) (ds.eraseIdx j) []:=by
 rw[Vt,Vt]
 obtain ⟨G1,r1,s1⟩:=r.take j
 obtain ⟨G2,r2,s2⟩:=r.drop (j+1)
 obtain rfl:=Yc.mp s1
 obtain rfl:=Yc.mp s2
 exact r1.app r2
end DL
namespace Nd
open PySem PySem.Spec PyProof.Rows L2
section
variable{prog:Bx}{w:World}{A:Cs}{R:Result->Aj->Prop}{s:Aj}
theorem cY{kx vx tg iter:Expr}{ifs:List Expr}{scope:Scope}{pos:Pos}{it:Value}{D:Addr}{env:Env}(J:Nat->Aj->Prop) (turn:∀n s,J n s->wpAny (model prog w) A (pyNext it) (λr s1=>match r with
    | none=>R (.ok .next) s1
    | some v=>wpAny (model prog w) A (Gc tg it v) (λ_ s2=>wpAny (model prog w) A (Ic tg env v) (λ_ s3 =>
      wpAny (model prog w) A (forIn ifs true λc r=>if r=true then (do
        let ok <- isTrue c env (eval c env)
        pure (Ef ok)) else pure (Ef r)) (λok s4 =>
       if ok=true then
        wpAny (model prog w) A (eval kx env) (λk s5=>wpAny (model prog w) A (eval vx env) (λy s6=>wpAny (model prog w) A (dictSet D k y) (λ_ s7=>∃m,m<n/\J m s7) (λ_ _=>False) s6) (λ_ _=>False) s5) (λ_ _=>False) s4
       else ∃m,m<n/\J m s4) (λ_ _=>False) s3) (λ_ _=>False) s2) (λ_ _=>False) s1) (λ_ _=>False) s)
  (n:Nat) (h:J n s):Hf (model prog w) A (.compLoop (.DictComp kx vx [⟨tg,iter,ifs,0⟩] scope pos) 0 it (.ref D) env) R s:=by
 refine aC rfl J (λn s hJ=>wpAny_noted ?_) n h
 rw[compTurn_dict]
 refine Ah (Fd (Ah (Cf (turn n s hJ) (λr s1 h1=>?_) λ_ _ z=>z.elim)))
 cases r with
 | none=>exact Aw h1
 | some v =>
  refine Ah (Cf h1 (λ_ s2 h2=>Ah (Cf h2 (λ_ s3 h3=>Ah (Cf h3 (λok s4 h4=>?_) λ_ _ z=>z.elim)) λ_ _ z=>z.elim)) λ_ _ z=>z.elim)
  cases ok with
  | false=>exact Aw ⟨rfl,h4⟩
  | true =>
   refine Ah (Ah (Cf h4 (λk s5 h5=>Ah (Ek (Cf h5 (λy s6 h6=>?_) λ_ _ z=>z.elim))) λ_ _ z=>z.elim))
   exact Ah (Fd (Ek (Cf h6 (λ_ s7 h7=>Aw ⟨rfl,h7⟩) λ_ _ z=>z.elim)))
end
section
variable{X:Cx}{pins:List (Addr×Obj)}{σ:L2.St}{H:Hp}{s:Aj}{a b:Addr}{v:V}{r:Value}{A:Cs}{E:Value->Aj->Prop}{kvs:List (List Jj×V)}{k:List Jj}
theorem mX{Q:Unit->Aj->Prop}(hu:A.units+1<cLine)(I:Inv X pins σ H s)(e:H a=some (.dT kvs))(eb:H b=some (.tup (k.map kV)))(l:kvs.length<Aq)(rv:RelV v r)(h:∀s',Inv X pins σ (upd H a (.dT (Wv kvs k v))) s'->Q () s'):wpAny (model X.prog X.w) A (dictSet a (.ref b) r) Q E s:=by
 obtain ⟨z,hd,xs,rel,dd⟩:=l0 I.hok (.inl e)
 have hz:xs.length<=Aq:=by rw[<- Paired.length rel]; exact z
 have hl:(Wv kvs k v).length<=Aq:=by have:=eZ kvs k v; omega
 refine pK (hz:=hz) (show (Qv _).room A from Nat.lt_of_succ_lt hu) (Vz I.hok eb) dd λh' dd' hs=>h _ ?_
 obtain ⟨q,es,ep,hq,h2,h3,h4,_,h5⟩:=dd'
 refine uR I (by rw[e]; exact Kx) hs ⟨q,hq⟩ ⟨hl,hd,_,(rel.put k eb rv).keeps λc ys ec=>(Dy (yT ec e (λz=>nomatch z))).trans ec,q,es,ep,hq,h2,h3,h4,h5⟩
end
section
variable{X:Cx}
def wK(K:PySem.W.Frag)(J:It)(js:List Nat)(tc:TT)(tk tv:TE)(σ:L2.St)(H1:Hp)(Q:VK):Prop:=∀D,H1 D=none->∃W:Nat->Nat->Hp->Prop,(∃m,W 0 m (upd H1 D (.dT [])))/\∀i m H,W i m H ->
 (J.stop i H/\Q (.ref D) H)\/(J.go i H/\∀x H',J.yld i H x H'->∃(t:Addr) (w1 w2:V),x=.ref t/\Qs K H' t [w1,w2]/\∃(N1:Hp->Prop) (N2:V->VK),(∀H2,N1 H2->∃m',m'<m/\W (i+1) m' H2) /\
  (∀kv vv H3,N2 kv vv H3->∃kvs k b,H3 D=some (.dT kvs)/\kv=.ref b/\H3 b=some (.tup (k.map kV))/\kvs.length<Aq/\∃m',m'<m/\W (i+1) m' (upd H3 D (.dT (Wv kvs k vv)))) /\
  tc (some w1::some w2::Dx σ js) H' λc H2=>if c=true then tk (some w1::some w2::Dx σ js) H2 (λkv H3=>tv (some w1::some w2::Dx σ js) H3 (N2 kv)) else N1 H2)
def lA(K:PySem.W.Frag)(wi:TI)(js:List Nat)(tc:TT)(tk tv:TE):TE:=λσ H Q=>wi σ H λJ H1=>wK K J js tc tk tv σ H1 Q
theorem nS{kx vx iter:Expr}{x x2:Str}{px px2 pt pos:Pos}{kt:Nat}{ifs:List Expr}{scope:Scope}{cl:List (Str×Addr)}{ys:List Str}{js:List Nat}{wi:TI}{tc:TT}{tk tv:TE}(C:CompScope X scope cl x ys js)(own2:dM scope x2)(nd2:(x::x2::ys).Nodup)(hc:X.calm=true)(hu:X.A.units+1<cLine)(hi:PI X (.Tuple [.Name x px,.Name x2 px2] kt pt) iter wi)(ht:∀fp s H,gN (Cp X scope cl (x::x2::ys) fp s H) ifs tc)(hk:∀fp s H,PE (Cp X scope cl (x::x2::ys) fp s H) kx tk)(hv:∀fp s H,PE (Cp X scope cl (x::x2::ys) fp s H) vx tv)(hs:∀x,Cg iter X.env x=pure x:=by intro _; rfl):PE X (.DictComp kx vx [⟨.Tuple [.Name x px,.Name x2 px2] kt pt,iter,ifs,0⟩] scope pos) (lA X.K wi js tc tk tv):=by
 intro pins s σ H Q I h
 rw[arm_eval_DictComp]
 show wpAny _ _ (Yb _ scope X.env _ newDict false (eval iter X.env) none) _ _ s
 refine Hm (use:=none) rfl hs C.clos C.kind C.locs (Et (hi pins s σ H _ I h) λv s1 h1=>Et h1 λitv s2 h2=>?_)
 obtain ⟨it,fp,tn,J,H2,e,I2,T,st2,f2,q2⟩:=h2
 subst e
 have fD:H2 s2.heap.objs.size=none:=I2.hok.fresh (Ai _)
 obtain ⟨W,⟨m0,w0⟩,turn⟩:=q2 s2.heap.objs.size fD
 refine Eg ?_
 have I3:Inv X pins σ (upd H2 s2.heap.objs.size (.dT [])) { s2 with heap:=s2.heap.push { cls:=.type "dict",data:=.dict #[] } } :=
  I2.laid (t':=s2.toks) (λb u q=>Ao _ q) (Ai _) (qD s2.heap I2.big)
 obtain ⟨f3,st3',o3'⟩:=Pa I2 T st2 f2 I3
 generalize hS3:({ s2 with heap:=s2.heap.push { cls:=.type "dict",data:=.dict #[] } }:Aj)=s3 at I3
 have Oh:tn 0 s3.heap:=by rw[<- hS3]; exact st3'
 have o3:∀b∈fp,∃o,s3.heap.get? b=some o:=by rw[<- hS3]; exact o3'
 show wpAny _ _ (Jp scope X.env.globals cl [] X.env.qual none .none (some X.env)) _ _ _
 refine Nw C λh4 hns4 keep4 new4=>?_
 have I4:∀tk,Inv (Cp X scope cl (x::x2::ys) fp s3 (upd H2 s2.heap.objs.size (.dT []))) [] (none::none::Dx σ js) (upd H2 s2.heap.objs.size (.dT [])) { s3 with heap:=h4,toks:=tk }:=λtk=>Lz (pre:=[x,x2]) C I3 f3 o3 hns4 keep4 new4
 have st4:tn 0 h4:=T.keep 0 _ _ Oh λb hb o q=>keep4 b o q
 generalize hX':Cp X scope cl (x::x2::ys) fp s3 (upd H2 s2.heap.objs.size (.dT []))=X' at I4
 obtain ⟨eP,eW,eK,eA,eC⟩:=Pc hc hX'
 have stat:∀{H':Hp},(∀b∈fp,H' b=none)->∀b∈fp,Lh X' [] H' b:=λ{H'} hn=>Nk hX' (I4 0) hn
 have loop:∀s5:Aj,s5={ s3 with heap:=h4,toks:=s3.toks+([]:List (Str×Value)).length } ->
   Hf (model X.prog X.w) X.A (.compLoop (.DictComp kx vx [⟨.Tuple [.Name x px,.Name x2 px2] kt pt,iter,ifs,0⟩] scope pos) 0 (.ref it) (.ref s2.heap.objs.size) (Qx scope (Dt (s3.heap.objs.size+1) scope.names cl) s3.heap.objs.size X.env))
    (compPost (model X.prog X.w) X.A X.xe none (EP X pins σ Q) (.ref s2.heap.objs.size) s3.heap.objs.size) s5:=by
  rintro s5 rfl
  refine cY (λn s'=>∃i o o2 H',Inv X' [] (o::o2::Dx σ js) H' s'/\tn i s'.heap/\(∀b∈fp,H' b=none)/\W i n H') ?_ m0
   ⟨0,none,none,_,I4 _,st4,λb hb=>(f3 b hb).1,w0⟩
  (intro n s6 q_; obtain ⟨i,o,o2,H6,I6,st6,fr6,w6⟩ := q_)
  rcases turn i n H6 w6 with ⟨stop,qn⟩ | ⟨go,step⟩
  ·have hd:=T.done X' eP eW eK eC i [] s6 _ H6 (λ_ _=>False) I6 (stat fr6) st6 stop
   rw[eA] at hd
   refine Et hd λr s7 q0_ => ?_
   obtain ⟨hr,I7⟩ := q0_
   subst hr
   obtain ⟨m7,hn7,fin7⟩:=Xp hX' I3 f3 I7
   exact ⟨m7,hn7,λh8 hs8=>⟨.ref s2.heap.objs.size,H6,fin7 h8 hs8,rfl,qn⟩⟩
  ·have hit:=T.item X' eP eW eK eC i [] s6 _ H6 (λ_ _=>False) I6 (stat fr6) st6 go
   rw[eA] at hit
   refine Et hit λr s7 q0_ => ?_
   obtain ⟨u,hr,h7⟩ := q0_
   subst hr
   refine Et h7 λ_ s8 q0_ => ?_
   obtain ⟨y,H8,I8,r8,y8,st8,fr8⟩ := q0_
   have I8':=I8.pinned (stat fr8) (T.obj _ _ st8)
   obtain ⟨tp,w1,w2,ey,hsq,N1,N2,hN1,hN2,hst⟩:=step y H8 y8
   have again:∀{H9:Hp} {s9:Aj} {m':Nat},Inv X' ([]++Lu fp s8.heap) (some w1::some w2::Dx σ js) H9 s9->m'<n->W (i+1) m' H9->∃m,m<n/\∃i o o2 H',Inv X' [] (o::o2::Dx σ js) H' s9/\tn i s9.heap/\(∀b∈fp,H' b=none)/\W i m H':=λ{H9 s9 m'} I9 hm w9=>by
    refine ⟨m',hm,i+1,some w1,some w2,H9,I9.unpinned,T.keep _ _ _ st8 λb hb o e=>(I9.pin (b,o) (Ad _ (Ad _ (Em hb e)))).1,λb hb=>?_,w9⟩
    obtain ⟨o,e,_⟩:=T.obj _ _ st8 b hb
    exact (I9.pin (b,o) (Ad _ (Ad _ (Em hb e)))).2.1
   subst hX'
   have g1:PG (Cp X scope cl (x::x2::ys) fp s3 (upd H2 s2.heap.objs.size (.dT []))) (.Tuple [.Name x px,.Name x2 px2] kt pt) (zF X.K 2 (gC (Oo 0) (gC (Oo 1) B2))) :=
    iZ (X:=Cp X scope cl (x::x2::ys) fp s3 (upd H2 s2.heap.objs.size (.dT []))) hc (Pg (Ip (i:=0) (x:=x) nd2 rfl (Mn C.own) (Pd C.own)) (Pg (Ip (i:=1) (x:=x2) nd2 rfl (Mn own2) (Pd own2)) aE))
   refine Et (g1 _ s8 _ H8 y u (λσ' H'=>σ'=some w1::some w2::Dx σ js/\H'=H8) I8' r8 ⟨tp,[w1,w2],ey,hsq,rfl,_,_,rfl,_,_,rfl,rfl,rfl,rfl⟩) λ_ s9 q0_ => ?_
   obtain ⟨σ9,H9,I9,e9,e9'⟩ := q0_
   subst e9 e9'
   refine Et (ht fp s3 _ _ s9 _ _ _ I9 hst) λok s10 q0_ => ?_
   obtain ⟨H10,I10,q10⟩ := q0_
   cases ok with
   | false =>
    rw[if_neg Cb] at q10 ⊢
    obtain ⟨m',hm,w10⟩:=hN1 _ q10
    exact again I10 hm w10
   | true =>
    rw[if_pos rfl] at q10 ⊢
    refine Et (hk fp s3 _ _ s10 _ _ _ I10 q10) λzk s11 q0_ => ?_
    obtain ⟨vk,H11,I11,r11,q11⟩ := q0_
    refine Et (hv fp s3 _ _ s11 _ _ _ I11 q11) λzv s12 q0_ => ?_
    obtain ⟨vv,H12,I12,r12,q12⟩ := q0_
    obtain ⟨kvs,kk,b,ha,eb,hb,hz,m',hm,w12⟩:=hN2 _ _ _ q12
    subst eb
    cases (show zk=Bb b from r11)
    exact mX (X:=Cp X scope cl (x::x2::ys) fp s3 (upd H2 s2.heap.objs.size (.dT []))) (A:=X.A) hu I12 ha hb hz r12 λs13 I13=>again I13 hm w12
 exact codeAny_compStart_dict (loop _ rfl) (T.self X.A 0 _ _ _ st4 (loop _ rfl))
end
end Nd
namespace DL
open PySem PySem.Spec PyProof.Rows L2 Nd
def S6(de:DE):DI:=λδ P=>de δ λx δ'=>match x with
 | .dat m (.dict X)=>∃ks,X=cN ks/\ks.length<=1000000/\P (Ja m) (ks.map λp=>Ca p.1) δ'
 | _=>False
def Ys(ks:List (List Int×Ab)):List (List Jj×Ab):=ks.map λp=>(Kg p.1,p.2)
section
variable{K:PySem.W.Frag}{H0 H H':Hp}{X:Addr->Prop}{n:Nat}{E S T:List Ent}
theorem oZ{kv:List (List Jj×V)}{ks:List (List Int×Ab)}(h1:kv.map (·.1)=(Ys ks).map (·.1))(h2:RdFs K H (kv.map (·.2)) ((Ys ks).map (·.2)) []):DRel K H kv ks:=by
 unfold Ys at h1 h2
 rw[Eh] at h1 h2
 exact ⟨h1,h2⟩
theorem i7{kv:List (List Jj×V)}{ks:List (List Int×Ab)}(r:DRel K H kv ks):kv.map (·.1)=(Ys ks).map (·.1)/\RdFs K H (kv.map (·.2)) ((Ys ks).map (·.2)) []:=by
 unfold Ys
 rw[Eh,Eh]
 exact ⟨r.key,r.val⟩
theorem At.dNew(h:At K H0 X n E H){D:Addr}(hD:H D=Ng):At K H0 X n (⟨some (.ref D),.dT (Ys []),[D]⟩::E) (upd H D (.dT [])):=by
 have s1:=En hD (.dT [])
 refine (h.grow (n':=n) s1 (Ai _)).push ⟨D,[],rfl,rfl,Dd,rfl,.nil⟩ (λf hf=>?_) λa ha=>?_
 ·have nf:=h.free hD f hf
  refine ⟨λ_ a ha z=>?_,λ_ a ha z=>?_⟩
  ·rw[Ac.mp ha] at z
   exact nf z
  ·rw[Ac.mp z] at ha
   exact nf (Ep _ _ ha)
 ·rw[Ac.mp ha]
  exact .inl (h.new0 hD)
theorem At.dPut{D:Addr}{ks:List (List Int×Ab)}{w:List Int}{v:V}{e:Ab}(h:At K H0 X n (⟨some (.ref D),.dT (Ys ks),[D]⟩::E) H)(r:RdF K H v e []):∃kv,H D=some (.dT kv)/\kv.length=ks.length/\At K H0 X n (⟨some (.ref D),.dT (Ys (Yj ks w e)),[D]⟩::E) (upd H D (.dT (Wv kv (Kg w) v))):=by
 obtain ⟨a,kv,e1,e0,ha,h1,h2⟩:=h.ok _ Aa
 have e1':some (V.ref D)=some (V.ref a):=e1
 cases e1'
 have rel:=oZ h1 h2
 have hs:=Ax.mp h.sep
 have hE:=h.sub (Ck _ _)
 have kp:∀{F:List Addr},D∉F->Kp F H (upd H D (.dT (Wv kv (Kg w) v))):=λ{F} hF b o q z=>by
  have : b≠D:=by
   rintro rfl
   rw[ha] at q
   cases q
   rcases z with z | z
   ·exact hF z
   ·rcases z with ⟨_,z⟩ | ⟨_,_,z⟩ <;> cases z
  rw[Dy this]
  exact q
 have nD:H0 D=Ng:=by
  rcases h.new _ Aa D Aa with z | z
  ·exact z
  ·cases z.2
 have rel':=(rE w r rel).kp (kp Bq)
 obtain ⟨g1,g2⟩:=i7 rel'
 refine ⟨kv,ha,pH rel,?_⟩
 refine ⟨λf hf=>?_,Ax.mpr ⟨λf hf=>⟨λhq a ha'=>(hs.1 f hf).1 hq a ha',λhq a ha'=>(hs.1 f hf).2 (hq.imp id id) a ha'⟩,hs.2⟩,λf hf=>?_,λb o nx q=>?_,λb o q=>?_,λb hb=>?_⟩
 rotate_right
 ·obtain ⟨z,c,k,f,h1,h2⟩:=h.xd b hb
  refine ⟨z,c,k,f,(Dy ?_).trans h1,h2⟩
  rintro rfl
  exact z nD
 ·rcases Ak.mp hf with rfl | hf
  ·exact ⟨D,_,rfl,rfl,Dd,g1,g2⟩
  ·exact (hE.ok f hf).kp (kp ((hs.1 f hf).1 (.inr rfl) D Aa)) (Ai _)
 ·rcases Ak.mp hf with rfl | hf
  ·intro a ha'
   rw[Ac.mp ha']
   exact .inl nD
  ·exact hE.new f hf
 ·rw[Dy (Ej q nD)]
  exact h.same b o nx q
 ·rw[Dy (Ej q nD)]
  exact h.dom b o q
theorem At.dGot{D:Addr}{ks:List (List Int×Ab)}(h:At K H0 X n (⟨some (.ref D),.dT (Ys ks),[D]⟩::E) H):At K H0 X n (⟨some (.ref D),.dat .ow (.dict (cN ks)),[D]⟩::E) H:=by
 obtain ⟨a,kv,e1,e0,ha,h1,h2⟩:=h.ok _ Aa
 have e1':some (V.ref D)=some (V.ref a):=e1
 cases e1'
 have rel:=oZ h1 h2
 have hs:=Ax.mp h.sep
 refine (h.sub (Ck _ _)).push ⟨_,rfl,.dic ha rel.key rel.val,λ_=>Bt.mpr ⟨Bq,Cw⟩,λz=>nomatch z⟩ (λf hf=>⟨λhq a ha'=>(hs.1 f hf).1 (.inr rfl) a ha',λhq a ha'=>(hs.1 f hf).2 (.inl rfl) a ha'⟩) λa ha'=>?_
 rcases h.new _ Aa a ha' with z | z
 ·exact .inl z
 ·cases z.2
end
def fR(yes:List Int->Ab->Nat->Prop)(y z:DV)(δ:DS):Prop:=match y,z with
 | .dat _ k,.dat _ e=>∃w,k=Ca w/\imm e=true/\yes w e δ.n
 | _,_=>False
def aX(dc:DT)(dk dv:DE)(δ:DS)(yes:List Int->Ab->Nat->Prop)(no:Nat->Prop):Prop:=dc δ λc δ2=>match c with
 | true=>dk δ2 λy δ3=>dv δ3 λz δ4=>fR yes y z δ4
 | false=>no δ2.n
def bE(di:DI)(js:List Nat)(dc:DT)(dk dv:DE):DE:=λδ P=>di δ λm ds δ1=>ds.length<=1000000/\∃I:Nat->List (List Int×Ab)->Nat->Prop,I 0 [] δ1.n /\
 (∀i d acc n,ds[i]? = some d->I i acc n->∃d1 d2,d=.tuple [d1,d2]/\aX dc dk dv ⟨.dat m d1::.dat m d2::frD δ1.sl js,n⟩ (λw e n'=>I (i+1) (Yj acc w e) n') (λn'=>I (i+1) acc n')) /\
 ∀acc n,I ds.length acc n->P (.dat .ow (.dict (cN acc))) ⟨δ1.sl,n⟩
theorem rS(ks:List (List Int×Ab))(w:List Int)(d:Ab):(Yj ks w d).length<=ks.length+1:=by
 unfold Yj
 split
 ·rw[Af]; omega
 ·rw[Ay]; simp
section
variable{K:PySem.W.Frag}{H0 H H':Hp}{Y:Addr->Prop}{n:Nat}{E S T:List Ent}
theorem oR{di:DI}{js:List Nat}{dc:DT}{dk dv:DE}:∀σ H Q,LE K (bE di js dc dk dv) σ H Q->lA K (LI K di) js (LT K dc) (LE K dk) (LE K dv) σ H Q:=by
 intro σ H Q h
 obtain ⟨H0,Y,S,T,δ,P,rfl,hS,hA,hd,k⟩:=h
 refine ⟨H0,Y,S,T,δ,_,rfl,hS,hA,hd,λm ds δ1 J hid S1 H1 e1 e2 hA1 it hz p1=>?_⟩
 obtain ⟨hz1,I,h0,hs,hf⟩:=p1
 have hz2:=cO (n:=1000000) (Ai _)
 rw[<- e1]
 intro D hD
 refine ⟨λi q H=>q=ds.length - i/\i<=ds.length/\∃acc n,At K H0 Y n (⟨some (.ref D),.dT (Ys acc),[D]⟩::(S1++(hid++T))) H/\acc.length<=i/\I i acc n,⟨ds.length,by simp,Dl _,[],δ1.n,hA1.dNew hD,Ai _,h0⟩,?_⟩
 (intro i q H q_; obtain ⟨rfl,hi,acc,n,hA2,hl,hI⟩ := q_)
 have hid_ok:∀e∈hid,Ga K H n e:=λe he=>hA2.ok e (Ae _ (Ad _ (Ag _ he)))
 by_cases hlt:i<ds.length
 ·refine .inr ⟨it.go H n i hid_ok hlt,λx H' y=>?_⟩
  obtain ⟨s1,d,F,h1,h2,h3⟩:=it.yld H n i x H' hid_ok hlt y
  obtain ⟨d1,d2,rfl,hst⟩:=hs i d acc n h1 hI
  obtain ⟨t,xs,rfl,ht,rt,_⟩:=h2.tup_inv
  cases rt with
  | @cons w1 _ xs _ F1 _ r1 rt =>
   cases rt with
   | @cons w2 _ xs _ F2 G r2 rt =>
    cases rt
    have hA3:At K H0 Y n ((⟨some (.ref D),.dT (Ys acc),[D]⟩::S1)++⟨some w1,.dat m d1,F1⟩::(hid++T)) H':=At.item (S:=⟨some (.ref D),.dT (Ys acc),[D]⟩::S1) hA2 s1 r1 (λa ha=>h3 a (Ag _ ha)) it.md it.hd it.np
    have hA3':At K H0 Y n ((⟨some w1,.dat m d1,F1⟩::⟨some (.ref D),.dT (Ys acc),[D]⟩::S1)++(hid++T)) H':=hA3.mid
    have hA3'':At K H0 Y n ((⟨some w1,.dat m d1,F1⟩::⟨some (.ref D),.dT (Ys acc),[D]⟩::S1)++⟨some w2,.dat m d2,F2⟩::(hid++T)) H':=At.item hA3' (Mi.refl _) r2 (λa ha=>h3 a (Ad _ (Ag _ ha))) it.md it.hd it.np
    have hA4:At K H0 Y n (⟨some w1,.dat m d1,F1⟩::⟨some w2,.dat m d2,F2⟩::⟨some (.ref D),.dT (Ys acc),[D]⟩::(S1++(hid++T))) H':=hA3''.mid.perm (Dv _ _ _)
    have hA5:=At.view (S:=S1) hA4 (λe he=>Ae _ (Ae _ (Ae _ (Ag _ he)))) js
    have hA6:At K H0 Y n ((⟨some w1,.dat m d1,F1⟩::⟨some w2,.dat m d2,F2⟩::Tr S1 js)++⟨some (.ref D),.dT (Ys acc),[D]⟩::(S1++(hid++T))) H':=by
     have z:=hA5.mid
     refine z.perm ?_
     exact (Dg).cons _
    have hS6:Sl (⟨some w1,.dat m d1,F1⟩::⟨some w2,.dat m d2,F2⟩::Tr S1 js) ⟨.dat m d1::.dat m d2::frD δ1.sl js,n⟩:=by
     unfold Sl
     rw[Ap,Ap,fQ e2]
    have hv:vs (⟨some w1,.dat m d1,F1⟩::⟨some w2,.dat m d2,F2⟩::Tr S1 js)=some w1::some w2::Dx (vs S1) js:=by
     rw[<- dQ]
     rfl
    refine ⟨t,w1,w2,rfl,Qs.of ht,λH2=>∃m',m'<ds.length - i/\_,λkx vx H3=>∃(kvs:List (List Jj×V)) (k:List Jj) (b:Addr),H3 D=some (.dT kvs)/\kx=.ref b/\H3 b=some (.tup (k.map kV))/\kvs.length<Aq/\∃m',m'<ds.length - i/\_,λH2 q=>q,λkx vx H3 q=>q,?_⟩
    rw[<- hv]
    refine ⟨H0,Y,_,⟨some (.ref D),.dT (Ys acc),[D]⟩::(S1++(hid++T)),_,_,rfl,hS6,hA6,hst,λc δ2 S2 H2 f1 f2 hA7 p2=>?_⟩
    cases c with
    | false=>exact iW ⟨ds.length - (i+1),by omega,rfl,hlt,acc,δ2.n,hA7.sub (Bj _ _),by omega,p2⟩
    | true =>
     refine dN ⟨H0,Y,S2,⟨some (.ref D),.dT (Ys acc),[D]⟩::(S1++(hid++T)),δ2,_,f1,f2,hA7,p2,λyk δ3 vk Fk S3 H3 f3 f4 hA8 p3=>?_⟩
     refine ⟨H0,Y,S3,⟨some vk,yk,Fk⟩::⟨some (.ref D),.dT (Ys acc),[D]⟩::(S1++(hid++T)),δ3,_,f3,f4,hA8,p3,λyv δ4 vv Fv S4 H4 f5 f6 hA9 p4=>?_⟩
     unfold fR at p4
     split at p4
     ·rename_i mk dk0 mv dv0
      obtain ⟨w,rfl,im,p5⟩:=p4
      obtain ⟨b,rfl,hb⟩:=aK (hA9.told Fi)
      have r:=hA9.told mem_mid
      obtain rfl:=r.imm im
      have hA10:At K H0 Y δ4.n (⟨some (.ref D),.dT (Ys acc),[D]⟩::(S1++(hid++T))) H4:=hA9.drop2.sub (Bj _ _)
      obtain ⟨kv,g1,g2,g3⟩:=hA10.dPut (w:=w) r
      have:=rS acc w dv0
      exact ⟨kv,Kg w,b,g1,rfl,hb,by omega,ds.length - (i+1),by omega,rfl,hlt,Yj acc w dv0,δ4.n,g3,by omega,p5⟩
     ·exact p4.elim
 ·have e:i=ds.length:=by omega
  subst e
  refine .inl ⟨it.stop H n hid_ok,k _ ⟨δ1.sl,n⟩ _ [D] S1 H e1 e2 ?_ (hf acc n hI)⟩
  have hA4:At K H0 Y n (⟨some (.ref D),.dat .ow (.dict (cN acc)),[D]⟩::(S1++T)) H:=hA2.dGot.sub (((Ci S1).append (Bj hid T)).cons₂ _)
  exact hA4.tomid
end
section
variable{X:Cx}{kx vx iter:Expr}{x x2:Str}{px px2 pt pos:Pos}{kt:Nat}{ifs:List Expr}{scope:Scope}{cl:List (Str×Addr)}{ys:List Str}{js:List Nat}{di:DI}{dc:DT}{dk dv:DE}
theorem mK(hu:X.A.units+64<cLine)(C:CompScope X scope cl x ys js)(own2:dM scope x2)(nd2:(x::x2::ys).Nodup)(hc:X.calm=true)(hi:oS X (.Tuple [.Name x px,.Name x2 px2] kt pt) iter di)(ht:∀fp s H,gN (Cp X scope cl (x::x2::ys) fp s H) ifs (LT X.K dc))(hk:∀fp s H,Ff (Cp X scope cl (x::x2::ys) fp s H) kx dk)(hv:∀fp s H,Ff (Cp X scope cl (x::x2::ys) fp s H) vx dv)(hs:∀x,Cg iter X.env x=pure x:=by intro _; rfl):Ff X (.DictComp kx vx [⟨.Tuple [.Name x px,.Name x2 px2] kt pt,iter,ifs,0⟩] scope pos) (bE di js dc dk dv):=PE.imp (nS C own2 nd2 hc (S0 hu) hi ht hk hv hs) oR
end
end DL
namespace Nd
open PySem PySem.Spec PySem.Calls PyProof.Rows PyProof.V L2
end Nd
namespace DL
open PySem PySem.Spec PyProof.Rows L2 Nd
def B6(K:PySem.W.Frag)(pf:PF):Sp:=λus H Q _=>∃(As:List Ent) (n:Nat) (ds:List Ab) (R:Ab->Prop) (C:List Addr),As.map Ent.v=us.map some/\(∀e∈As,Ga K H n e)/\datas (As.map Ent.x)=some ds/\pf ds R/\(∀a∈C,H a≠none/\∀e∈As,a∉e.F) /\
 ∀v d F H',R d->RdF K H' v d F->(∀a∈F,a∉C)->Mi H H'->Q v H'
def retA(R:Ab->Prop):DEnds where
 nx:=λ_=>R .none
 rt:=λx _=>∃m d,x=.dat m d/\m≠.pk/\R d
section
variable{K:PySem.W.Frag}{H0 H H':Hp}{X:Addr->Prop}{n:Nat}{E S T:List Ent}
theorem At.pushS(h:At K H0 X n E H){v:V}{d:Ab}{F:List Addr}(r:RdF K H v d F)(fr:∀f∈E,∀a∈cells f,a∉F):At K H0 X n (⟨some v,.dat .sh d,F⟩::E) H :=
 h.push ⟨v,rfl,r,λz=>(nomatch z),λz=>(nomatch z)⟩ (λf hf=>⟨λ_ a ha=>(nomatch ha),λ_ a ha=>fr f hf a ha⟩) λa ha=>(nomatch ha)
end
section
variable{P:Bx}{w:World}{K:PySem.W.Frag}{mg:Str->Option Value}{base:Heap}
theorem F4{As:List Ent}{k:Nat}:∀e∈As.map Wy++Hh k,∀a∈e.F,∃f∈As,a∈f.F:=λe he a ha=>by
 rcases An.mp he with he | he
 ·obtain ⟨f,hf,rfl⟩:=Ce.mp he
  refine ⟨f,hf,?_⟩
  obtain ⟨v,x,F⟩:=f
  cases x <;> exact ha
 ·rw[(Ju.mp he).2] at ha
  exact nomatch ha
theorem fK{x qual:Str}{st:Stmt}{f:Addr}{fd:Cr}{N ps:List Str}{k:Nat}{pf:PF}{db:DB}(F:Fun K x qual st f fd)(S:FnScope N ps (Cc st))(hb:∀(cdv:Value) (A:Cs) (outer:List Env) (s:Aj) (H:Hp) (E:XK),Room k (A.deeper (envOfC qual (Cc st) s.heap.objs.size f cdv))->Uv (Mh Jw P w K mg base N qual (Cc st) f cdv A outer s H E).nox (Ik st) db)(h:∀ds R,pf ds R->ds.length=ps.length/\db (retA R) ⟨args0 ds (N.length - ps.length),0⟩):FnOk P w K mg base Jw (k+1) f fd ps (B6 K pf):=by
 refine F.ok S (λvs H Q E z=>?_) λcdv A outer s H us Q E hr z=>?_
 ·obtain ⟨As,n,ds,R,C,eu,ok,q,hp,_⟩:=z
  have l1:=(h ds R hp).1
  have l2:=Jm q
  rw[Af] at l2
  have l3:=congrArg Fp eu
  rw[Af,Af] at l3
  omega
 ·obtain ⟨As,n,ds,R,C,eu,ok,q,hp,hG,k1⟩:=z
  obtain ⟨l1,hd⟩:=h ds R hp
  have l2:=Jm q
  rw[Af] at l2
  have l3:=congrArg Fp eu
  rw[Af,Af] at l3
  let H0:Hp:=λa=>open Classical in if a∈C then none else H a
  have h0n:∀{a},a∈C->H0 a=none:=λz=>if_pos z
  have h0s:∀{a},a∉C->H0 a=H a:=λz=>if_neg z
  -- what holds at the end
  have ends:∀{E':List Ent} {n':Nat} {H':Hp},At K H0 (λ_=>False) n' (E'++[⟨none,.grd H,C⟩]) H'->Mi H H':=λ{E' n' H'} hA b o e=>by
   by_cases hb:b∈C
   ·obtain ⟨o',g1,g2⟩:=hA.ok _ (Ad _ Aa) b hb
    rw[e] at g1
    cases g1
    exact g2
   ·exact hA.same b o (λz=>z) (by rw[h0s hb]; exact e)
  refine ⟨_,hb cdv A outer s H E hr,H0,λ_=>False,As.map Wy++Hh (N.length - ps.length),[⟨none,.grd H,C⟩],⟨args0 ds (N.length - ps.length),0⟩,retA R,?_,?_,λe z=>?_,?_,hd,λδ' S' H' e1 hA p=>?_,λx δ' v F' S' H' e1 hA p=>?_,λ_ _ _ _ _ p=>p.elim,λ_ _ _ _ _ p=>p.elim⟩
  ·unfold vs L2.start Hh
   rw[Az,j8,eu,Ms,show us.length=ps.length by omega]
  ·unfold Sl args0 Hh
   rw[Az,Sf q,Ms]
  ·rw[Ac.mp z]; rfl
  ·have hs:=bJ q (N.length - ps.length)
   have hF:=F4 (As:=As) (k:=N.length - ps.length)
   have gF:∀e∈As.map Wy++Hh (N.length - ps.length),∀a∈C,a∉e.F:=λe he a ha z=>by
    obtain ⟨f,hf,zf⟩:=hF e he a z
    exact (hG _ ha).2 f hf zf
   refine ⟨λe he=>?_,Bk.mpr ⟨Pk λa ha b hb'=>⟨λhq c hc=>?_,λhq c hc=>?_⟩,Co _ _,λa ha b hb'=>⟨λhq c hc=>?_,λhq c hc=>?_⟩⟩,λe he a ha=>?_,λb o _ e=>?_,λb o e=>?_,λb hb=>hb.elim⟩
   ·rcases An.mp he with he | he
    ·have:=pP q ok (N.length - ps.length) e he
     obtain ⟨v,x,F⟩:=e
     cases x with
     | drw=>exact absurd (hs _ he).2 (by show ¬ (true=false); decide)
     | _=>exact this
    ·rw[Ac.mp he]
     intro a ha
     have:=(hG _ ha).1
     cases q:H a with
     | none=>exact absurd q this
     | some o=>exact ⟨o,by first | rfl | exact q,by first | rfl | exact q⟩
   ·rw[(hs a ha).1] at hc; cases hc
   ·rw[(hs b hb').1] at hc; cases hc
   ·rw[(hs a ha).1] at hc; cases hc
   ·rw[Ac.mp hb'] at hc
    exact gF a ha c hc
   ·rcases An.mp he with he | he
    ·rw[(hs e he).1] at ha; cases ha
    ·rw[Ac.mp he] at ha
     exact .inl (h0n ha)
   ·by_cases hb:b∈C
    ·rw[h0n hb] at e; cases e
    ·rw[h0s hb] at e; exact e
   ·by_cases hb:b∈C
    ·rw[h0n hb] at e; cases e
    ·rw[h0s hb] at e; exact ⟨o,e⟩
  ·exact k1 .non .none [] H' p .non (λ_ z=>(nomatch z)) (ends hA)
  ·obtain ⟨m,d,rfl,hm,r⟩:=p
   obtain ⟨u,e2,rd,_⟩:=hA.ok _ mem_mid
   cases e2
   have hA2:At K H0 (λ_=>False) δ'.n ((S'++[⟨some v,.dat m d,F'⟩])++[⟨none,.grd H,C⟩]) H':=by rw[Br]; exact hA
   refine k1 v d F' H' r rd (λa ha=>?_) (ends hA2)
   have sp:=(Bk.mp hA2.sep).2.2 _ (Ad _ Aa) _ Aa
   exact λz=>sp.2 (.inr rfl) a z ha
end
def tV(pf:PF)(da:DA):DE:=λδ P=>da δ λxs δ1=>noPk xs=true/\match datas xs with
 | some ds=>pf ds λd=>P (.dat .sh d) δ1
 | none=>False
theorem Xf:∀{As:List Ent},noPk (As.map Ent.x)=true->∀e∈As,Lv e.x=false
 | [],_,e,he=>nomatch he
 | ⟨v,x,F⟩::As,h,e,he=>by
  rw[Ap] at h
  have hh:Lv x=false/\noPk (As.map Ent.x)=true:=by
   cases x with
   | dat m d=>cases m <;> first | exact ⟨rfl,h⟩ | (simp [noPk] at h)
   | _=>exact ⟨rfl,by simpa [noPk] using h⟩
  rcases Ak.mp he with rfl | he
  ·exact hh.1
  ·exact Xf hh.2 e he
section
variable{X:Cx}{CX:kE}{k:Nat}{f:Addr}{fd:Cr}{ps:List Str}{pf:PF}{E:XK}{x:Str}{p pos:Pos}{e:Expr}{es:List Expr}{da:DA}
theorem cZ(F:FnOk X.prog X.w X.K X.mg X.base CX k f fd ps (B6 X.K pf))(hr:Room k X.A)(hg:Gl X x)(hm:X.mg x=some (.ref f))(hk:PySem.W.keepIn X.K (.ref f)=true)(hb:Binds X.K fd ps [])(hx:Na CX X E)(ha:iO X (e::es) da)(hdb:(x == ("__debug__" : Str))=false:=by decide)(he:Bf (e::es) X.env=(false,eval e X.env)::Bf es X.env:=by rfl)(hpl:(Fs pos (Bf es X.env)).any (·.1)=false:=by rfl):Ff X (.Call (.Name x p) (e::es) [] pos) (tV pf da):=by
 refine PE.imp (Sj F hr hg hm hk hb .nil hx ha hdb he hpl) λσ H Q h=>?_
 obtain ⟨H0,Y,S,T,δ,P,rfl,hS,hA,hd,kk⟩:=h
 refine ⟨H0,Y,S,T,δ,_,rfl,hS,hA,hd,λxs δ' As us S' H' e1 e2 ex eu hA' p=>?_⟩
 subst ex
 obtain ⟨np,p⟩:=p
 cases q:datas (As.map Ent.x) with
 | none=>rw[q] at p; exact p.elim
 | some ds =>
  rw[q] at p
  rw[Ea]
  have hAs:=Xf np
  have hE:=hA'.dropL
  refine ⟨As,δ'.n,ds,_,(S'++T).flatMap cells,eu,λe he=>hA'.ok e (Ad _ (Ag _ he)),q,p,λa ha=>?_,λv d F H'' r rd fr s=>?_⟩
  ·obtain ⟨g,hg1,hg2⟩:=Bu.mp ha
   refine ⟨λz=>?_,λe he=>?_⟩
   ·obtain ⟨o,q⟩:=(hE.ok g hg1).dom a (Ep _ _ hg2)
    rw[z] at q; cases q
   ·obtain ⟨_,hp2,hp⟩ := Bk.mp hA'.sep
    rcases An.mp hg1 with hg1 | hg1
    ·exact (hp g hg1 e (Ag _ he)).1 (.inl (hAs e he)) a hg2
    ·exact ((Bk.mp hp2).2.2 e he g hg1).2 (.inl (hAs e he)) a hg2
  ·refine kk _ δ' v F S' H'' e1 e2 (((hE.grow s (Ai _)).pushS rd λf hf a ha z=>fr a z (Bu.mpr ⟨f,hf,ha⟩)).tomid) r
end
def iM(K:PySem.W.Frag)(df:DF):Sp:=λus H Q _=>∃(dr:Addr) (ws:List V) (As:List Ent) (n:Nat) (ds:List Ab) (R:Ab->Nat->Prop) (C:List Addr),us=.ref dr::ws/\As.map Ent.v=ws.map some/\(∀e∈As,Ga K H n e)/\(∀e∈As,dr∉e.F)/\(∃c k f,Sw H dr c k f/\0<=k/\k<=(n:Int))/\datas (As.map Ent.x)=some ds/\df ds n R /\
 dr∉C/\(∀a∈C,H a≠none/\∀e∈As,a∉e.F) /\
 ∀v d F n' H',n<=n'->R d n'->RdF K H' v d F->(∀a∈F,a∉C)->Qt dr H H'->(∃c k f,Sw H' dr c k f/\0<=k/\k<=(n':Int))->Q v H'
def retWT(n:Nat)(R:Ab->Nat->Prop):DEnds where
 nx:=λδ=>n<=δ.n/\R .none δ.n
 rt:=λx δ=>n<=δ.n/\∃m d,x=.dat m d/\m≠.pk/\R d δ.n
section
variable{P:Bx}{w:World}{K:PySem.W.Frag}{mg:Str->Option Value}{base:Heap}
theorem gD{x qual:Str}{st:Stmt}{f:Addr}{fd:Cr}{N ps:List Str}{p0:Str}{k:Nat}{df:DF}{db:DB}(F:Fun K x qual st f fd)(S:FnScope N (p0::ps) (Cc st))(hb:∀(cdv:Value) (A:Cs) (outer:List Env) (s:Aj) (H:Hp) (E:XK),Room k (A.deeper (envOfC qual (Cc st) s.heap.objs.size f cdv))->Uv (Mh Jw P w K mg base N qual (Cc st) f cdv A outer s H E).nox (Ik st) db)(h:∀ds n R,df ds n R->ds.length=ps.length/\db (retWT n R) ⟨.drw::args0 ds (N.length - (p0::ps).length),n⟩):FnOk P w K mg base Jw (k+1) f fd (p0::ps) (iM K df):=by
 refine F.ok S (λvs H Q E z=>?_) λcdv A outer s H us Q E hr z=>?_
 ·obtain ⟨dr,ws,As,n,ds,R,C,rfl,eu,ok,nd,hdr,q,hp,_⟩:=z
  have l1:=(h ds n R hp).1
  have l2:=Jm q
  rw[Af] at l2
  have l3:=congrArg Fp eu
  rw[Af,Af] at l3
  rw[Bm,Bm]
  omega
 ·obtain ⟨dr,ws,As,n,ds,R,C,rfl,eu,ok,ndr,hdr,q,hp,hC,hG,k1⟩:=z
  obtain ⟨l1,hd⟩:=h ds n R hp
  have l2:=Jm q
  rw[Af] at l2
  have l3:=congrArg Fp eu
  rw[Af,Af] at l3
  let H0:Hp:=λa=>open Classical in if a∈C then none else H a
  have h0n:∀{a},a∈C->H0 a=none:=λz=>if_pos z
  have h0s:∀{a},a∉C->H0 a=H a:=λz=>if_neg z
  have ends:∀{E':List Ent} {n':Nat} {H':Hp},At K H0 (·=dr) n' (E'++[⟨none,.grd H,C⟩]) H'->Qt dr H H':=λ{E' n' H'} hA b o nb e=>by
   by_cases hb:b∈C
   ·obtain ⟨o',g1,g2⟩:=hA.ok _ (Ad _ Aa) b hb
    rw[e] at g1
    cases g1
    exact g2
   ·exact hA.same b o nb (by rw[h0s hb]; exact e)
  refine ⟨_,hb cdv A outer s H E hr,H0,(·=dr),⟨some (.ref dr),.drw,[dr]⟩::(As.map Wy++Hh (N.length - (p0::ps).length)),[⟨none,.grd H,C⟩],⟨.drw::args0 ds (N.length - (p0::ps).length),n⟩,retWT n R,?_,?_,λe z=>?_,?_,hd,λδ' S' H' e1 hA p=>?_,λx δ' v F' S' H' e1 hA p=>?_,λ_ _ _ _ _ p=>p.elim,λ_ _ _ _ _ p=>p.elim⟩
  ·unfold vs L2.start Hh
   rw[Ap,Az,j8,eu,Ms,Bm,Bm,show ws.length=ps.length by omega]
   rfl
  ·unfold Sl args0 Hh
   rw[Ap,Az,Sf q,Ms]
  ·rw[Ac.mp z]; rfl
  ·have hs:=bJ q (N.length - (p0::ps).length)
   have hF:=F4 (As:=As) (k:=N.length - (p0::ps).length)
   have gF:∀e∈As.map Wy++Hh (N.length - (p0::ps).length),∀a∈C,a∉e.F:=λe he a ha z=>by
    obtain ⟨f,hf,zf⟩:=hF e he a z
    exact (hG a ha).2 f hf zf
   have hsub:∀e∈As.map Wy++Hh (N.length - (p0::ps).length),dr∉e.F:=λe he z=>by
    obtain ⟨f,hf,zf⟩:=hF e he dr z
    exact ndr f hf zf
   have dom0:H0 dr≠none:=by
    rw[h0s hC]
    obtain ⟨c,kk,fl,z1,z2⟩:=hdr
    exact λz=>(by rw[show H dr=some _ from z1] at z; cases z)
   refine ⟨λe he=>?_,Ax.mpr ⟨λb hb'=>?_,Bk.mpr ⟨Pk λa ha b hb'=>⟨λhq c hc=>?_,λhq c hc=>?_⟩,Co _ _,λa ha b hb'=>⟨λhq c hc=>?_,λhq c hc=>?_⟩⟩⟩,λe he a ha=>?_,λb o _ e=>?_,λb o e=>?_,λb hb=>?_⟩
   ·rcases Ak.mp he with rfl | he
    ·obtain ⟨c,kk,fl,z1,z2,z3⟩:=hdr
     exact ⟨dr,c,kk,fl,rfl,rfl,z1,z2,z3⟩
    ·rcases An.mp he with he | he
     ·exact pP q ok _ e he
     ·rw[Ac.mp he]
      intro a ha
      have:=(hG a ha).1
      cases q:H a with
      | none=>exact absurd q this
      | some o=>exact ⟨o,by first | rfl | exact q,by first | rfl | exact q⟩
   ·rcases An.mp hb' with hb' | hb'
    ·refine ⟨λhq c hc=>?_,λhq c hc=>?_⟩
     ·rw[Ac.mp hc]; exact hsub b hb'
     ·rw[(hs b hb').1] at hc; cases hc
    ·rw[Ac.mp hb']
     refine ⟨λhq c hc=>?_,λhq c hc z=>?_⟩
     ·rw[Ac.mp hc]; exact hC
     ·rw[Ac.mp z] at hc; exact hC hc
   ·rw[(hs a ha).1] at hc; cases hc
   ·rw[(hs b hb').1] at hc; cases hc
   ·rw[(hs a ha).1] at hc; cases hc
   ·rw[Ac.mp hb'] at hc
    exact gF a ha c hc
   ·rcases Ak.mp he with rfl | he
    ·rw[Ac.mp ha]
     exact .inr ⟨rfl,rfl⟩
    ·rcases An.mp he with he | he
     ·rw[(hs e he).1] at ha; cases ha
     ·rw[Ac.mp he] at ha
      exact .inl (h0n ha)
   ·by_cases hb:b∈C
    ·rw[h0n hb] at e; cases e
    ·rw[h0s hb] at e; exact e
   ·by_cases hb:b∈C
    ·rw[h0n hb] at e; cases e
    ·rw[h0s hb] at e; exact ⟨o,e⟩
   ·subst hb
    obtain ⟨c,kk,fl,z1,z2⟩:=hdr
    exact ⟨dom0,c,kk,fl,z1,z2⟩
  ·exact k1 .non .none [] δ'.n H' p.1 p.2 .non (λ_ z=>(nomatch z)) (ends hA) (hA.xd dr rfl).2
  ·obtain ⟨hn,m,d,rfl,hm,r⟩:=p
   obtain ⟨u,e2,rd,_⟩:=hA.ok _ mem_mid
   cases e2
   have hA2:At K H0 (·=dr) δ'.n ((S'++[⟨some v,.dat m d,F'⟩])++[⟨none,.grd H,C⟩]) H':=by rw[Br]; exact hA
   refine k1 v d F' δ'.n H' hn r rd (λa ha=>?_) (ends hA2) (hA.xd dr rfl).2
   have sp:=(Bk.mp hA2.sep).2.2 _ (Ad _ Aa) _ Aa
   exact λz=>sp.2 (.inr rfl) a z ha
end
abbrev PX:=List Ab->(Ab->Prop)->(Addr->Prop)->Prop
end DL
namespace Nd
open PySem PySem.Spec PyProof.Rows L2
end Nd
namespace DL
open PySem PySem.Spec PyProof.Rows L2 Nd
def iI(b:Bool)(di:DI)(js:List Nat)(di2:DI)(de:DE):DE:=λδ P=>di δ λm ds δ1=>∃I:Nat->List Ab->Nat->Prop,I 0 [] δ1.n /\
 (∀i d acc n,ds[i]? = some d->I i acc n->di2 ⟨.dat m d::.un::frD δ1.sl js,n⟩ λm2 es δ2=>∃I2:Nat->List Ab->Nat->Prop,I2 0 acc δ2.n /\
  (∀i2 e acc' n',es[i2]? = some e->I2 i2 acc' n'->acc'.length+1<=Aq/\Ho b Ol de ⟨.dat m d::.dat m2 e::frD δ1.sl js,n'⟩ (λz n2=>I2 (i2+1) (acc'++[z]) n2) (λ_=>False)) /\
  ∀acc' n',I2 es.length acc' n'->I (i+1) acc' n') /\
 ∀acc n,I ds.length acc n->P (.dat (Rw b) (.list acc)) ⟨δ1.sl,n⟩
theorem vP{v:Option V}{m:Md}{d:Ab}{F:List Addr}(h:m=.sh\/m=.pk):al ⟨v,.dat m d,F⟩=⟨v,.dat m d,F⟩:=by
 rcases h with rfl | rfl <;> rfl
section
variable{K:PySem.W.Frag}
theorem pB{b:Bool}{di di2:DI}{js:List Nat}{de:DE}:∀σ H Q,LE K (iI b di js di2 de) σ H Q->iL (LI K di) js (LI K di2) (LE K de) σ H Q:=by
 intro σ H Q h
 obtain ⟨H0,Y,S,T,δ,P,rfl,hS,hA,hd,k⟩:=h
 refine ⟨H0,Y,S,T,δ,_,rfl,hS,hA,hd,λm ds δ1 J hid S1 H1 e1 e2 hA1 it hz p1=>?_⟩
 obtain ⟨I,h0,hs,hf⟩:=p1
 rw[<- e1]
 intro D hD
 refine ⟨λi q H=>q=ds.length - i/\i<=ds.length/\∃acc n G,(b=true->G=[])/\At K H0 Y n (⟨some (.ref D),.acc acc,D::G⟩::(S1++(hid++T))) H/\I i acc n,⟨ds.length,by simp,Dl _,[],δ1.n,[],λ_=>rfl,hA1.accNew hD,h0⟩,?_⟩
 (intro i q H q_; obtain ⟨rfl,hi,acc,n,G,hG,hA2,hI⟩ := q_)
 have hid_ok:∀e∈hid,Ga K H n e:=λe he=>hA2.ok e (Ae _ (Ad _ (Ag _ he)))
 by_cases hlt:i<ds.length
 ·refine .inr ⟨it.go H n i hid_ok hlt,λx H' y o=>?_⟩
  obtain ⟨s1,d,F,h1,h2,h3⟩:=it.yld H n i x H' hid_ok hlt y
  have hA3:At K H0 Y n ((⟨some (.ref D),.acc acc,D::G⟩::S1)++⟨some x,.dat m d,F⟩::(hid++T)) H':=At.item (S:=⟨some (.ref D),.acc acc,D::G⟩::S1) hA2 s1 h2 h3 it.md it.hd it.np
  have hA4:At K H0 Y n (⟨some (.ref D),.acc acc,D::G⟩::⟨some x,.dat m d,F⟩::(S1++(hid++T))) H':=(hA3.mid).perm (Dv _ _ _)
  have view:∀{n:Nat} {H:Hp} {e0:Ent} {hid2:List Ent} (o2:Ent),At K H0 Y n (o2::e0::⟨some x,.dat m d,F⟩::(S1++hid2)) H->At K H0 Y n ((⟨some x,.dat m d,F⟩::o2::Tr S1 js)++e0::⟨some x,.dat m d,F⟩::(S1++hid2)) H:=λ{n H e0 hid2} o2 h=>by
   have g1:=At.view (S:=S1) h (λe he=>Ae _ (Ae _ (Ae _ (Ag _ he)))) js
   have g2:=g1.view1 (e:=⟨some x,.dat m d,F⟩) (Ad _ (Ae _ (Ae _ Aa)))
   rw[vP it.md] at g2
   refine g2.perm ?_
   rw[Ec,Ec]
   exact (Dg).cons _
  have hS6:∀(o2:Ent) (n:Nat),Sl (⟨some x,.dat m d,F⟩::o2::Tr S1 js) ⟨.dat m d::o2.x::frD δ1.sl js,n⟩:=λo2 n=>by
   unfold Sl
   rw[Ap,Ap,fQ e2]
  have hv:∀(o2:Ent),vs (⟨some x,.dat m d,F⟩::o2::Tr S1 js)=some x::o2.v::Dx (vs S1) js:=λo2=>by
   rw[<- dQ]
   rfl
  have hB:=view (hid2:=hid++T) ⟨o,.un,[]⟩ hA4.blank
  refine ⟨H0,Y,_,_,⟨.dat m d::.un::frD δ1.sl js,n⟩,_,hv ⟨o,.un,[]⟩,hS6 ⟨o,.un,[]⟩ n,hB,hs i d acc n h1 hI,λm2 es δ2 J2 hid2 S2 H2 f1 f2 hA5 it2 hz2 p2=>?_⟩
  obtain ⟨I2,g0,gs,gf⟩:=p2
  have hA6:At K H0 Y δ2.n (⟨some (.ref D),.acc acc,D::G⟩::(⟨some x,.dat m d,F⟩::(S1++(hid2++(hid++T))))) H2:=by
   have z:=hA5.sub (Bj S2 _)
   refine z.perm ?_
   refine Dg.trans (Lo _ ?_)
   refine Dg.trans (Lo _ ?_)
   exact List.perm_append_comm_assoc _ _ _
  refine ⟨λi2 q2 H=>q2=es.length - i2/\i2<=es.length/\∃acc n G,(b=true->G=[])/\At K H0 Y n (⟨some (.ref D),.acc acc,D::G⟩::(⟨some x,.dat m d,F⟩::(S1++(hid2++(hid++T))))) H/\I2 i2 acc n,⟨es.length,by simp,Dl _,acc,δ2.n,G,hG,hA6,g0⟩,?_⟩
  (intro i2 q2 H3 q_; obtain ⟨rfl,hi2,acc2,n2,G2,hG2,hA7,hI2⟩ := q_)
  have hid2_ok:∀e∈hid2,Ga K H3 n2 e:=λe he=>hA7.ok e (Ae _ (Ae _ (Ad _ (Ag _ he))))
  by_cases hlt2:i2<es.length
  ·refine .inr ⟨it2.go H3 n2 i2 hid2_ok hlt2,λy2 H4 yy=>?_⟩
   obtain ⟨s2,d2,F2,k1,k2,k3⟩:=it2.yld H3 n2 i2 y2 H4 hid2_ok hlt2 yy
   obtain ⟨lz,st⟩:=gs i2 d2 acc2 n2 k1 hI2
   have hA8:At K H0 Y n2 ((⟨some (.ref D),.acc acc2,D::G2⟩::⟨some x,.dat m d,F⟩::S1)++⟨some y2,.dat m2 d2,F2⟩::(hid2++(hid++T))) H4:=At.item (S:=⟨some (.ref D),.acc acc2,D::G2⟩::⟨some x,.dat m d,F⟩::S1) hA7 s2 k2 k3 it2.md it2.hd it2.np
   have hA9:=view (hid2:=hid2++(hid++T)) ⟨some y2,.dat m2 d2,F2⟩ hA8.mid
   have z:=fW (dc:=Ol) (N1:=λ_=>False) (N2:=λv H5=>∃acc,H5 D=some (.lst acc)/\acc.length<Aq/\∃m2',m2'<es.length - i2/\(m2'=es.length - (i2+1)/\i2+1<=es.length/\∃acc3 n G,(b=true->G=[])/\At K H0 Y n (⟨some (.ref D),.acc acc3,D::G⟩::(⟨some x,.dat m d,F⟩::(S1++(hid2++(hid++T))))) (upd H5 D (.lst (acc++[v])))/\I2 (i2+1) acc3 n)) (hS6 ⟨some y2,.dat m2 d2,F2⟩ n2) hG2 hA9 st lz (λ_ _ _ z=>z) (λe n' v H5 G' hG' hA10 p=>?_)
   ·rw[hv] at z
    have w:=Zl (dt:=Qa) _ _ _ z
    unfold Qa at w
    dsimp only at w
    rw[if_pos rfl] at w
    exact w
   ·obtain ⟨xs,l1,l2,l3⟩:=hA10
    exact ⟨xs,l1,by omega,es.length - (i2+1),by omega,rfl,hlt2,acc2++[e],n',G',hG',l3,p⟩
  ·have e:i2=es.length:=by omega
   subst e
   refine .inl ⟨it2.stop H3 n2 hid2_ok,ds.length - (i+1),by omega,rfl,hlt,acc2,n2,G2,hG2,?_,gf acc2 n2 hI2⟩
   refine hA7.sub (List.Sublist.cons₂ _ (List.Sublist.cons _ ?_))
   exact (Ci S1).append (Bj hid2 _)
 ·have e:i=ds.length:=by omega
  subst e
  refine .inl ⟨it.stop H n hid_ok,k _ ⟨δ1.sl,n⟩ _ (D::G) S1 H e1 e2 ?_ (hf acc n hI)⟩
  have hA3:=hA2.accGetG hG
  have hA4:At K H0 Y n (⟨some (.ref D),.dat (Rw b) (.list acc),D::G⟩::(S1++T)) H:=hA3.sub (((Ci S1).append (Bj hid T)).cons₂ _)
  exact hA4.tomid
end
def zW(b:Bool)(de:DE)(pre post:List DV)(acc:List Ab)(fin:List Ab->Nat->Prop)(m2:Md)(es:List Ab)(δ2:DS):Prop:=∃I2:Nat->List Ab->Nat->Prop,I2 0 acc δ2.n /\
 (∀i2 e acc' n',es[i2]? = some e->I2 i2 acc' n'->acc'.length+1<=Aq/\Ho b Ol de ⟨pre++.dat m2 e::post,n'⟩ (λz n2=>I2 (i2+1) (acc'++[z]) n2) (λ_=>False)) /\
 ∀acc' n',I2 es.length acc' n'->fin acc' n'
def G4(b:Bool)(js:List Nat)(di2:DI)(de:DE)(P:DV->DS->Prop)(m:Md)(ds:List Ab)(δ1:DS):Prop:=∃I:Nat->List Ab->Nat->Prop,I 0 [] δ1.n /\
 (∀i d acc n,ds[i]? = some d->I i acc n->di2 ⟨.dat m d::.un::frD δ1.sl js,n⟩ (zW b de [.dat m d] (frD δ1.sl js) acc (I (i+1)))) /\
 ∀acc n,I ds.length acc n->P (.dat (Rw b) (.list acc)) ⟨δ1.sl,n⟩
section
variable{b:Bool}{js:List Nat}{di di2:DI}{de:DE}{P:DV->DS->Prop}{δ δ1 δ2:DS}{m m2:Md}{ds es:List Ab}
theorem Q9{β:Type}{l:List β}{g:β->Ab}{pre post:List DV}{acc:List Ab}{fin:List Ab->Nat->Prop}(e:es=l.map g)(f:β->Ab)(hz:acc.length+l.length<=Aq)(hs:∀y∈l,∀yes:Ab->Nat->Prop,yes (f y) δ2.n->Ho b Ol de ⟨pre++.dat m2 (g y)::post,δ2.n⟩ yes (λ_=>False))(hf:fin (acc++l.map f) δ2.n):zW b de pre post acc fin m2 es δ2:=by
 subst e
 refine ⟨λi a n=>a=acc++(l.take i).map f/\n=δ2.n,⟨by simp,rfl⟩,?_,?_⟩
 ·rintro i d _ _ hd ⟨rfl,rfl⟩
  rw[Bg] at hd
  cases hy:l[i]? with
  | none=>rw[hy] at hd; cases hd
  | some y =>
   rw[hy] at hd
   obtain rfl:g y=d:=Be hd
   have hi:=(Al.mp hy).1
   refine ⟨?_,hs y (Ar hy) _ ⟨?_,rfl⟩⟩
   ·rw[Ay,Af,Cn]
    omega
   ·rw[Iq hy,Az,Br]
    rfl
 ·rintro _ _ ⟨rfl,rfl⟩
  rw[Af,Dq]
  exact hf
theorem qI{α β:Type}(r:α->List β){l:List α}{i:Nat}{a:α}(h:l[i]? = some a):((l.take i).flatMap r).length+(r a).length<=(l.flatMap r).length:=by
 have e:l.take (i+1)=l.take i++[a]:=Iq h
 have : ((l.take (i+1)).flatMap r).length<=(l.flatMap r).length:=by
  conv=>rhs; rw[<- Ee (i+1) l,Mf,Ay]
  omega
 rw[e,Mf,Ay] at this
 simpa using this
theorem Q2{α:Type}{l:List α}{g:α->Ab}(e:ds=l.map g)(r:α->List Ab)(hz:(l.flatMap r).length<=Aq)(hs:∀a∈l,∀(acc:List Ab) (fin:List Ab->Nat->Prop),acc.length+(r a).length<=Aq->fin (acc++r a) δ1.n->di2 ⟨.dat m (g a)::.un::frD δ1.sl js,δ1.n⟩ (zW b de [.dat m (g a)] (frD δ1.sl js) acc fin))(hP:P (.dat (Rw b) (.list (l.flatMap r))) ⟨δ1.sl,δ1.n⟩):G4 b js di2 de P m ds δ1:=by
 subst e
 refine ⟨λi a n=>a=(l.take i).flatMap r/\n=δ1.n,⟨by simp,rfl⟩,?_,?_⟩
 ·rintro i d _ _ hd ⟨rfl,rfl⟩
  rw[Bg] at hd
  cases hy:l[i]? with
  | none=>rw[hy] at hd; cases hd
  | some y =>
   rw[hy] at hd
   obtain rfl:g y=d:=Be hd
   refine hs y (Ar hy) _ _ (Bv (qI r hy) hz) ⟨?_,rfl⟩
   rw[Iq hy,Mf]
   simp
 ·rintro _ _ ⟨rfl,rfl⟩
  rw[Af,Dq]
  exact hP
end
end DL
namespace Nd
open PySem PySem.Spec PyProof.Rows L2
end Nd
namespace Nd
open PySem PySem.Spec
end Nd
namespace Nd
open PySem PySem.Spec PyProof.Rows L2
end Nd
namespace DL
open PySem PySem.Spec PyProof.Rows L2 Nd
end DL
namespace Nd
open PySem PySem.Spec PyProof.Rows L2
end Nd
namespace DL
open PySem PySem.Spec PyProof.Rows L2 Nd
end DL
namespace Nd
open PySem PySem.Spec PyProof.Rows L2
section
variable{prog:Bx}{w:World}{A:Cs}{E:Value->Aj->Prop}{s:Aj}
theorem dY{l:Addr}{o:Obj}{n:Nat}{vs:List Value}{Q:List Value->Aj->Prop}(ho:s.heap.get? l=some o)(hc:o.cls=.type "tuple")(hd:o.data=.seq vs.toArray n)(h:Q vs { s with heap:=(s.heap.push (Ds "list" #[] 0)).update s.heap.objs.size (Da (·++vs.toArray)) })(hsz:vs.length<=Aq):wpAny (model prog w) A (collect (.ref l)) Q E s:=by
 unfold collect
 refine Ah (wpAny_runValue (codeAny_builtin entry_proto_collect' ?_))
 show wpAny _ _ (bind (newList []) λq=>again (.builtin "list.__iadd__" ⟨[q,.ref l],[]⟩)) _ _ s
 refine Ah (Xw (Aw ⟨Code.quiet_builtin _ (by decide +kernel),codeAny_builtin entry_list_iadd' ?_⟩))
 show wpAny _ _ (Tj (.ref s.heap.objs.size) (.ref l) (.ref s.heap.objs.size)) _ _ { s with heap:=s.heap.push (Ds "list" #[] 0) }
 unfold Tj
 have g:(s.heap.push (Ds "list" #[] 0)).get? l=some o:=Ao _ ho
 refine Ah (Oa (T := "tuple") ⟨o,g,hc⟩ ?_)
 rw[if_pos (by rw[show (Fw "tuple" == Fw "tuple")=true from rfl,Bool.or_true])]
 refine Ah (Zz g hd (Ah (Zz (xs:=#[]) (n:=0) (Bn _ rfl) rfl ?_)))
 rw[if_neg (by simp)]
 refine Ah (Xy (xs:=#[]) (n:=0) (Bn _ rfl) rfl (Aw ?_) (Dl _) (by show (#[]++vs.toArray).size<=Aq+1; simp only[Array.size_append,Am,Ez]; omega))
 have g2:((s.heap.push (Ds "list" #[] 0)).update s.heap.objs.size (Da (·++vs.toArray))).get? s.heap.objs.size=some _:=Ta (Bn _ rfl) _
 refine Ah (wpAny_load g2 ?_)
 show wpAny _ _ (pure ((#[]:Array Value)++vs.toArray).toList) Q E _
 rw[show ((#[]:Array Value)++vs.toArray).toList=vs by simp]
 exact Aw h
theorem hU{l:Addr}{o:Obj}{n:Nat}{vs:List Value}{ns:List Int}{Q:Value->Aj->Prop}(ho:s.heap.get? l=some o)(hc:o.cls=.type "tuple")(hd:o.data=.seq vs.toArray n)(hI:Jd vs ns)(h64:vs.length<64)(h:∀(out:Array Value) (ms:List Int),Jd out.toList ms->ms.Perm ns->ms.Pairwise (·<=·)->Q (.ref (s.heap.objs.size+1)) { s with heap:=Vb s.heap vs out }):wpAny (model prog w) A (call (.builtin "sorted") [.ref l]) Q E s:=by
 refine cM kind_sorted plain_sorted entry_sorted (args_sorted1 _) ?_
 unfold Builtin.«sorted»
 refine Ah (m:=checkCount "sorted" 1 1 _) (Aw (Ah (dY ho hc hd (Ah (Xw ?_)) (by rw[He]; omega))))
 have z:((s.heap.push (Ds "list" #[] 0)).update s.heap.objs.size (Da (·++vs.toArray))).objs.size=s.heap.objs.size+1:=by
  rw[Je,Yg]
 have g:(((s.heap.push (Ds "list" #[] 0)).update s.heap.objs.size (Da (·++vs.toArray))).push (Ds "list" vs.toArray 0)).get? (s.heap.objs.size+1)=some (Ds "list" vs.toArray 0):=by
  rw[<- z]; exact Bn _ rfl
 show wpAny _ _ _ _ _ { s with heap:=((s.heap.push (Ds "list" #[] 0)).update s.heap.objs.size (Da (·++vs.toArray))).push (Ds "list" vs.toArray 0) }
 rw[z]
 refine Ah (Ek (Qu slot_list_sort ⟨_,g,rfl⟩ entry_list_sort (list_sort_tree g hI h64 λout ms a1 a2 a3=>⟨_,rfl,?_⟩) (args_list_sort _)))
 exact Aw ⟨_,rfl,h out ms a1 a2 a3⟩
end
section
variable{X:Cx}
def eH(K:PySem.W.Frag):List V->Hp->VK->Prop:=λxs H Q=>∃(a:Addr) (ns:List Int),xs=[.ref a]/\H a=some (.tup (ns.map V.int))/\ns.length<64 /\
 ∀(p:Addr) (ms:List Int),H p=none->ms.Perm ns->ms.Pairwise (·<=·)->Q (.ref p) (upd H p (.lst (ms.map V.int)))
theorem bD:Nu X (.builtin "sorted") (eH X.K):=by
 intro pins s σ H xs us Q I r h
 obtain ⟨a,ns,rfl,hs,hl,q⟩:=h
 obtain ⟨u,rfl,ru⟩:=vals1 r
 cases ru
 obtain ⟨_,its,rv,o,ho,hc,n,hd⟩:=I.hok a _ hs
 have len:its.length<64:=by rw[<- rv.length,Af]; exact hl
 refine hU ho hc hd (intsAre_of rv) len λout ms a1 a2 a3=>?_
 obtain ⟨e,he⟩:=sortedAll_at s.heap its out
 have ml:ms.length<64:=by rw[a2.length_eq]; exact hl
 exact ⟨.ref (s.heap.objs.size+1),_,I.laid (t':=s.toks) (o:=.lst (ms.map V.int)) (λ_ _=>sortedAll_old) (Ln _) ⟨by rw[Af,He]; omega,out.toList,e,yC a1,by simpa using he⟩,rfl,q _ ms (I.hok.fresh (Ln _)) a2 a3⟩
end
end Nd
namespace DL
open PySem PySem.Spec PyProof.Rows L2 Nd
def bY:DC:=λxs P=>match xs with
 | [.dat _ (.tuple ds)]=>∃ns:List Int,ds=ns.map Bl/\ns.length<64/\P (.dat .ow (.list ((Wa ns).map Bl)))
 | _=>False
theorem tD{K:PySem.W.Frag}:Qr K (eH K) bY:=by
 intro H0 X n S T As us H Q P eu hA hd k
 unfold bY at hd
 split at hd
 ·rename_i ex
  obtain ⟨v,F,rfl,hA⟩:=Jr eu hA ex
  obtain ⟨ns,rfl,h0,h1⟩:=hd
  obtain ⟨a,xs,rfl,ha,ra,_⟩:=(hA.told mem_mid).tup_inv
  obtain ⟨rfl,_⟩:=ra.ints_inv
  refine ⟨a,ns,rfl,ha,h0,λq us nq pe pw=>?_⟩
  rw[pX pe pw]
  exact k _ _ _ _ (hA.drop.newI (RdFs.ints _) (Ov _) (by rw[Af,oP]; exact sz (by omega)) nq .ow) h1
 ·exact hd.elim
end DL
namespace Ts
open PySem PyProof.Rows L2
end Ts
namespace DL
open PySem PySem.Spec PyProof.Rows L2 Nd Ts
end DL
namespace DL
open PySem PySem.Spec PyProof.Rows L2 Nd
end DL
namespace Nd
open PySem PySem.Spec PyProof.Rows L2
end Nd
namespace DL
open PySem PySem.Spec PyProof.Rows L2 Nd
theorem vF{a b:Addr}{x y:List (List Int×Ab)}(h:p6 a x=p6 b y):a=b/\x=y:=by
 obtain ⟨h1,h2⟩:=Fz h
 refine ⟨Int.ofNat.inj (PyData.int.inj (Prod.mk.inj h1).2),?_⟩
 refine Si (λx y e=>?_) h2
 obtain ⟨e1,e2⟩:=Prod.mk.inj e
 exact Prod.ext (Nn e1) e2
def vU:D2:=λx y P=>match x,y with
 | .dat _ (.dict X),.dat _ k=>∃a ks w d,X=p6 a ks/\k=Ca w/\Pj ks w=some d/\P (.dat .ow d)
 | _,_=>False
end DL
namespace Nd
open PySem PySem.Spec PySem.Calls PyProof.Rows PyProof.V L2 Ts
end Nd
namespace DL
open PySem PySem.Spec PyProof.Rows L2 Nd Ts
theorem tab_no{K:PySem.W.Frag}{x:Str}(nm:PySem.W.nsIn K Cm x=some none):PySem.W.tabIn K x=none:=by
 unfold PySem.W.tabIn
 rw[nm]
end DL
namespace HT
open PySem PyProof.Rows
end HT
namespace Nd
open PySem PySem.Spec PySem.Calls PyProof.Rows PyProof.V L2 Ts
end Nd
namespace DL
open PySem PySem.Spec PyProof.Rows L2 Nd Ts
end DL
namespace DL
open PySem PySem.Spec PyProof.Rows L2 Nd
end DL
namespace DL
open PySem L2 Nd
section
variable{X:Cx}{elt iter iter2:Expr}{x x2 y0:Str}{px px2 py pos spos:Pos}{i0:Nat}{scope:Scope}{cl:List (Str×Addr)}{ys:List Str}{js:List Nat}{di di2:DI}{de:DE}
theorem tK{o b:Bool}(hN:X.N.Nodup)(hi0:X.N[i0]? = some y0)(hy0:X.env.scope.names.lookup y0=some .local)(C:CompScope X scope cl x ys js)(own2:dM scope x2)(nd2:(x::x2::ys).Nodup)(hc:X.calm=true)(hi:oS X (.Name x px) iter di)(hi2:∀fp s H,oS (Cp X scope cl (x::x2::ys) fp s H) (.Name x2 px2) iter2 di2)(he:∀fp s H,Ff (Cp X scope cl (x::x2::ys) fp s H) elt de)(hs:∀x,Cg iter X.env x=pure x:=by intro _; rfl)(hs2:∀fp s H v,Cg iter2 (Cp X scope cl (x::x2::ys) fp s H).env v=pure v:=by intro _ _ _ _; rfl)(hsw:Gj (.ListComp elt [⟨.Name x px,iter,[],0⟩,⟨.Name x2 px2,iter2,[],0⟩] scope pos) (some (.Name y0 py)) spos.line X.env=pure true:=by rfl):dI X (.Assign [.Name y0 py] (.ListComp elt [⟨.Name x px,iter,[],0⟩,⟨.Name x2 px2,iter2,[],0⟩] scope pos) spos) (bO (iI b di js di2 de) (B5 o i0)):=PS.impD (sE hN hi0 hy0 C own2 nd2 hc hi hi2 he hs hs2 hsw) (Rn pB wM)
end
end DL
namespace Nd
open PySem PySem.Spec PyProof.Rows L2
theorem oH(a b c:Value):argsOk "min" ⟨[a,b,c],[]⟩:=by unfold argsOk; kernel_rfl
section
variable{prog:Bx}{w:World}{A:Cs}{E:Value->Aj->Prop}{s:Aj}
theorem call_min_three{a b c:Value}{Q:Value->Aj->Prop}(h:wpAny (model prog w) A.in1 (pyIter (.ref s.heap.objs.size)) (λit s₂=>∃I fp wr n P St bt,it=.ref I/\Walks prog w A.in1 I fp wr n P St/\St 0 s₂.heap/\(∀b∈fp,b<s₂.heap.objs.size)/\0<n/\CmpOf prog w A.in1 .Lt P bt/\∀v h' tk,P (argBest bt (n - 1)) v->(∀b o,b∉wr->s₂.heap.get? b=some o->h'.get? b=some o)->Q v { s₂ with heap:=h',toks:=tk }) E { s with heap:=s.heap.push { cls:=.type "tuple",data:=.seq #[a,b,c] } }):wpAny (model prog w) A (call (.builtin "min") [a,b,c]) Q E s:=by
 have hname:(Ut "min" ++ Ut ".loop" : String) = "min.loop" := by decide
 refine call_function_tree F.kind_min F.plain_min F.entry_min (oH _ _ _) ?_
 show wpAny _ A.in1 (Ra "min" ["key", "default"] 0 ⟨[],[]⟩ >>= _) _ _ s
 refine Ah (wpAny_of_eq (show Ra "min" ["key", "default"] 0 ⟨[],[]⟩=pure [none,none] from rfl) ?_)
 show wpAny _ A.in1 (newTuple [a,b,c] >>= _) _ _ s
 refine Ah (Eg ?_)
 refine Ah (Cf h (λit s₂ h₂=>?_) λ_ _ e=>e)
 obtain ⟨I,fp,wr,n,P,St,bt,rfl,W,hst,hfp,hn,hcmp,hQ⟩:=h₂
 refine Ah (Eg ?_)
 have hSf:s₂.heap.objs.size∉fp:=λhm=>Gd _ (hfp _ hm)
 rw[hname]
 refine Aw ⟨plainId_quiet F.plain_min_loop _,codeAny_min_loop_first W bt hcmp s₂.heap.objs.size hSf hn (W.frame _ _ _ hst λb _ o e=>Ao _ e) (Bn _ rfl) λv h' tk hP hk=>?_⟩
 exact hQ v h' tk hP λb o hbw e=>hk b o hbw (Cy (Bp e)) (Ao _ e)
theorem min_three_ints{a b c:Int}{t u x:Tok}{Q:Value->Aj->Prop}(hh:A.handled=none)(h:∀tm h' tk,(∀c o,s.heap.get? c=some o->h'.get? c=some o)->Q (.int (min a (min b c)) tm) { s with heap:=h',toks:=tk }):wpAny (model prog w) A (call (.builtin "min") [.int a t,.int b u,.int c x]) Q E s:=by
 have hT:(s.heap.push { cls:=.type "tuple",data:=.seq #[.int a t,.int b u,.int c x] }).IsTuple s.heap.objs.size (intItems #[(a,t),(b,u),(c,x)]):=⟨_,Bn _ rfl,rfl,0,by simp [intItems]⟩
 refine call_min_three (wpAny_pyIter_tuple hT ?_)
 have hsz:(s.heap.push { cls:=.type "tuple",data:=.seq #[.int a t,.int b u,.int c x] }).objs.size=s.heap.objs.size+1:=Heap.size_push ..
 refine ⟨_,[_,s.heap.objs.size],[_],_,_,_,_,rfl,Walks.tuple (A:=A.in1) hh _ s.heap.objs.size (by rw[hsz]; exact Cy (Ou _)) (intItems #[(a,t),(b,u),(c,x)]),
  ⟨⟨_,Bn _ rfl,rfl,rfl⟩,hT.push _⟩,λc hc=>?_,by simp [intItems],CmpOf.ints_lt (numAt #[(a,t),(b,u),(c,x)]) (λ_ _=>intItems_at),λv h' tk hP hk=>?_⟩
 ·show c<((s.heap.push _).push _).objs.size
  rw[Heap.size_push,hsz]
  rcases Ak.mp hc with rfl | hc
  ·rw[hsz]; exact Ou _
  ·rcases Ak.mp hc with rfl | hc
   ·exact Vs (Ou _)
   ·cases hc
 ·have hold:∀c o,s.heap.get? c=some o->h'.get? c=some o:=λc o e=>by
   refine hk c o (λhm=>?_) (Ao _ (Ao _ e))
   rcases Ak.mp hm with e1 | hm
   ·have:=Bp e; rw[e1,hsz] at this; exact Gd _ (Nat.lt_of_succ_lt this)
   ·cases hm
  have hsz2:(intItems #[(a,t),(b,u),(c,x)]).size - 1=2:=by simp [intItems]
  rw[hsz2] at hP
  obtain ⟨tm,rfl⟩:=intItems_at hP
  obtain ⟨b1,b2⟩:=argBest_lt (numAt #[(a,t),(b,u),(c,x)]) 2
  generalize argBest (λi j=>decide (numAt #[(a,t),(b,u),(c,x)] i<numAt #[(a,t),(b,u),(c,x)] j)) 2=k at b1 b2 hP ⊢
  have n0:numAt #[(a,t),(b,u),(c,x)] 0=a:=by simp [numAt]
  have n1:numAt #[(a,t),(b,u),(c,x)] 1=b:=by simp [numAt]
  have n2:numAt #[(a,t),(b,u),(c,x)] 2=c:=by simp [numAt]
  have h0:=b2 0 (by omega)
  have h1:=b2 1 (by omega)
  have h2:=b2 2 (by omega)
  rw[n0] at h0
  rw[n1] at h1
  rw[n2] at h2
  have e:numAt #[(a,t),(b,u),(c,x)] k=min a (min b c):=by
   rcases (by omega:k=0\/k=1\/k=2) with rfl | rfl | rfl
   ·rw[n0] at *; omega
   ·rw[n1] at *; omega
   ·rw[n2] at *; omega
  rw[e]
  exact h tm h' tk hold
end
theorem oJ{X:Cx}(hc:X.calm=true):Nu X (.builtin "min") (λxs H Q=>∃i j k,xs=[.int i,.int j,.int k]/\Q (.int (min i (min j k))) H):=by
 intro pins s σ H xs us Q I r h
 obtain ⟨i,j,k,rfl,q⟩:=h
 cases r with
 | cons r1 r =>
 cases r with
 | cons r2 r =>
 cases r with
 | cons r3 r =>
 cases r
 obtain ⟨t1,rfl⟩:=r1
 obtain ⟨t2,rfl⟩:=r2
 obtain ⟨t3,rfl⟩:=r3
 exact min_three_ints (I.ok.hd hc) λtm h' tk k=>⟨.int _,H,I.kept k,⟨tm,rfl⟩,q⟩
end Nd
namespace DL
open PySem PySem.Spec PyProof.Rows L2 Nd
def jP:DC:=λxs P=>match xs with
 | [.dat _ (.int i),.dat _ (.int j),.dat _ (.int k)]=>P (.dat .ow (.int (min i (min j k))))
 | _=>False
theorem C6{α β:Type}{f:α->β}{l:List α}{a b c:β}(h:l.map f=[a,b,c]):∃x y z,l=[x,y,z]/\f x=a/\f y=b/\f z=c:=by
 match l,h with
 | [x,y,z],h =>
  simp only[Ap,Kh,List.cons.injEq,and_true] at h
  exact ⟨x,y,z,rfl,h.1,h.2.1,h.2.2⟩
section
variable{K:PySem.W.Frag}
theorem vG:Qr K (λxs H Q=>∃i j k,xs=[V.int i,V.int j,V.int k]/\Q (.int (min i (min j k))) H) jP:=by
 intro H0 X n S T As us H Q P eu hA hd k
 unfold jP at hd
 split at hd
 ·rename_i ex
  obtain ⟨⟨v1,x1,F1⟩,⟨v2,x2,F2⟩,⟨v3,x3,F3⟩,rfl,h1,h2,h3⟩:=C6 ex
  have h1:x1=_:=h1
  have h2:x2=_:=h2
  have h3:x3=_:=h3
  subst h1 h2 h3
  obtain ⟨u1,u2,u3,rfl,g1,g2,g3⟩:=C6 eu.symm
  have g1:some u1=v1:=g1
  have g2:some u2=v2:=g2
  have g3:some u3=v3:=g3
  subst g1 g2 g3
  have t1:=hA.told (v:=u1) (d:=.int _) (Ad _ Aa)
  have t2:=hA.told (v:=u2) (d:=.int _) (Ad _ (Ae _ Aa))
  have t3:=hA.told (v:=u3) (d:=.int _) (Ad _ (Ae _ (Ae _ Aa)))
  obtain ⟨rfl,_⟩:=t1.int_inv
  obtain ⟨rfl,_⟩:=t2.int_inv
  obtain ⟨rfl,_⟩:=t3.int_inv
  exact ⟨_,_,_,rfl,k _ _ [] H (hA.dropL.pushI (.int _)) hd⟩
 ·exact hd.elim
end
def xQ(i j:Nat)(z:DV)(δ:DS)(D:DEnds):Prop:=match δ.sl[i]?,δ.sl[j]?,z with
 | some (.dat mi (.list es)),some (.dat mj (.list ds)),.dat _ (.int k)=>own1 mi=true/\own1 mj=true/\npk δ.sl=true/\npk (δ.sl.set j (.dat mj (.list (ds.eraseIdx k.toNat))))=true/\i≠j/\Dj ds=true/\0<=k/\k<ds.length/\k<=1000000/\es.length<1000000 /\
  ∀d,ds[k.toNat]? = some d->D.nx ⟨(δ.sl.set j (.dat mj (.list (ds.eraseIdx k.toNat)))).set i (.dat mi (.list (es++[d]))),δ.n⟩
 | _,_,_=>False
def lG(i j:Nat)(dk:DE):DB:=λD δ=>isLst δ.sl[i]? = true/\isLst δ.sl[j]? = true/\dk δ λz δ1=>xQ i j z δ1 D
theorem sX{K:PySem.W.Frag}{H0 H:Hp}{X:Addr->Prop}{S T:List Ent}{δ:DS}{i:Nat}(hS:Sl S δ)(hA:At K H0 X δ.n (S++T) H)(h:isLst δ.sl[i]? = true):∃a xs,(vs S)[i]? = some (some (.ref a))/\H a=some (.lst xs):=by
 cases q:δ.sl[i]? with
 | none=>rw[q] at h; cases h
 | some x =>
  rw[q] at h
  obtain ⟨ent,e2,e3⟩:=Gg hS q
  obtain ⟨u,y,F⟩:=ent
  have e3':y=x:=e3
  subst e3'
  have hm:(⟨u,y,F⟩ : Ent)∈S:=Ar e2
  match y,h with
  | .dat m (.list ds),_ =>
   obtain ⟨v,hv,rd,_⟩:=hA.ok _ (Ag _ hm)
   obtain ⟨a,xs,G,rfl,ha,_⟩:=rd.list_inv
   exact ⟨a,xs,by rw[Jb e2]; exact congrArg some hv,ha⟩
section
variable{X:Cx}{o o2 ke:Expr}{dk:DE}{apos apos2 cpos cpos2 pos:Pos}{i j:Nat}
theorem nB(ho:PE X o (Tp i))(ho2:PE X o2 (Tp j))(hk:Ff X ke dk)(hbase:Iy o "append" X.env (eval o X.env)=eval o X.env:=by rfl)(hbase2:Iy o2 "pop" X.env (eval o2 X.env)=eval o2 X.env:=by rfl)
  (hfew:((Fs cpos (Bf [.Call (.Attribute o2 "pop" apos2) [ke] [] cpos2] X.env)).all (λx=>!x.1) && (Qy cpos (Ko [] X.env)).all (λx=>x.1.isSome)
   && decide (([.Call (.Attribute o2 "pop" apos2) [ke] [] cpos2]:List Expr).length+([]:List Jc).length+(if ([]:List Jc).isEmpty then 0 else 1)<30))=true:=by rfl)
  (hfew2:((Fs cpos2 (Bf [ke] X.env)).all (λx=>!x.1) && (Qy cpos2 (Ko [] X.env)).all (λx=>x.1.isSome)
   && decide (([ke]:List Expr).length+([]:List Jc).length+(if ([]:List Jc).isEmpty then 0 else 1)<30))=true:=by rfl)
  (hline:(apos.endLine == cpos.line)=true:=by rfl) (hline2:(apos2.endLine == cpos2.line)=true:=by rfl)
  (hs:Bf [.Call (.Attribute o2 "pop" apos2) [ke] [] cpos2] X.env=(false,eval (.Call (.Attribute o2 "pop" apos2) [ke] [] cpos2) X.env)::Bf [] X.env:=by rfl) (hs2:Bf [ke] X.env=(false,eval ke X.env)::Bf [] X.env:=by rfl)
  (hplain:(Fs cpos (Bf [] X.env)).any (·.1)=false:=by rfl) (hplain2:(Fs cpos2 (Bf [] X.env)).any (·.1)=false:=by rfl)
  (hsw:Gj (.Call (.Attribute o "append" apos) [.Call (.Attribute o2 "pop" apos2) [ke] [] cpos2] [] cpos) none pos.line X.env=pure false:=by rfl) :
  dI X (.Expr (.Call (.Attribute o "append" apos) [.Call (.Attribute o2 "pop" apos2) [ke] [] cpos2] [] cpos) pos) (lG i j dk):=by
 refine PS.impD (Vo (cV PySem.F.plainAttrs_list PySem.F.slot_list_append PySem.F.type_list_append Lm ho (Gh (cV PySem.F.plainAttrs_list PySem.F.slot_list_pop PySem.F.type_list_pop pF ho2 (Gh hk Kv hs2) hbase2 hfew2 hline2 hs2 hplain2) Kv hs) hbase hfew hline hs hplain) hsw) λD σ H h=>?_
 obtain ⟨H0,Y,S,T,δ,P,rfl,hS,hT,hA,⟨hd0,hd1,hd⟩,k1,k2,k3,k4⟩:=h
 obtain ⟨a,xs,hv,ha⟩:=sX hS hA hd0
 obtain ⟨b,ys,hv2,hb⟩:=sX hS hA hd1
 refine ⟨.ref a,hv,.inl ⟨rfl,xs,Rr.of ha⟩,.ref b,hv2,.inl ⟨rfl,ys,Rr.of hb⟩,H0,Y,S,T,δ,_,rfl,hS,hA,hd,λz δ1 w F1 S1 H1 e4 e5 hA1 p1=>?_⟩
 unfold xQ at p1
 split at p1
 ·rename_i mi es mj ds mz k hsi hsj
  obtain ⟨q1,q2,q3,q3',q4,q5,q6,q7,q8,q9,q10⟩:=p1
  obtain ⟨rfl,_⟩:=(hA1.told mem_mid).int_inv
  obtain ⟨b',xs1,G1,g1,g2,g3,g4,g5⟩:=Rh (es:=ds.eraseIdx k.toNat) e5 hT hA1.drop hsj q2 q3
  obtain rfl:=g3.imm q5
  have eb:some (V.ref b')=some (V.ref b):=Be (by rw[<- g1,e4]; exact hv2)
  cases eb
  have hkl:k.toNat<ds.length:=by omega
  obtain ⟨d,hdk⟩ : ∃d,ds[k.toNat]? = some d:=⟨_,Bs hkl⟩
  obtain ⟨y,Gy,hy,ry,sy⟩:=g3.get hdk
  obtain rfl:=Yc.mp sy
  have hl:=g3.len
  obtain ⟨S2,h1,h2,h3⟩:=g5 (xs1.eraseIdx k.toNat) [] (RdFs.erase _ g3) (Yd _) (Bv (List.length_eraseIdx_le _ _) g4)
  have hsi':(δ1.sl.set j (.dat mj (.list (ds.eraseIdx k.toNat))))[i]? = some (.dat mi (.list es)):=by
   rw[Lj (Nb q4)]
   exact hsi
  obtain ⟨a',xs2,G2,f1,f2,f3,f4,f5⟩:=Rh (δ:=⟨δ1.sl.set j (.dat mj (.list (ds.eraseIdx k.toNat))),δ1.n⟩) (es:=es++[d]) h2 hT h3 hsi' q1 q3'
  have ea:some (V.ref a')=some (V.ref a):=Be (by rw[<- f1,h1,e4]; exact hv)
  cases ea
  have ry':RdF X.K (upd H1 b (.lst (xs1.eraseIdx k.toNat))) y d []:=ry.kp λc o' e z=>by
   by_cases hc:c=b
   ·subst hc
    rw[g2] at e
    cases e
    rcases z with z | z
    ·cases z
    ·rcases z with ⟨_,z⟩ | ⟨_,_,z⟩ <;> cases z
   ·rw[Dy hc]; exact e
  obtain ⟨S3,i1,i2,i3⟩:=f5 (xs2++[y]) (G2++[]) (f3.snoc ry') (by rw[Ea]; exact Ci _) (by rw[Ay]; exact cO (by simp; omega))
  have hl2:=f3.len
  refine ⟨b,xs1,k,k.toNat,y,rfl,rfl,g2,by omega,by omega,?_,hy,?_⟩
  ·have hx:kW xs1.length k=some k.toNat:=by unfold kW; rw[if_pos q6,if_pos (by omega)]
   exact (aR hx).1
  ·refine ⟨a,xs2,y,rfl,rfl,f2,Bz (by omega) (cO (n:=1000000) (Ai _)),?_⟩
   rw[<- e4,<- h1,<- i1]
   exact k1 ⟨_,_⟩ S3 _ i2 i3 (q10 d hdk)
 ·exact p1.elim
end
theorem RdFs.part{K:PySem.W.Frag}{H:Hp}:∀(k:Nat) {xs:List V} {ds:List Ab} {F:List Addr},RdFs K H xs ds F->∃G1 G2,F=G1++G2/\RdFs K H (xs.take k) (ds.take k) G1/\RdFs K H (xs.drop k) (ds.drop k) G2
 | 0,_,_,F,h=>⟨[],F,rfl,.nil,by rw[Hl,Hl]; exact h⟩
 | _+1,_,_,_,.nil=>⟨[],[],rfl,.nil,.nil⟩
 | k+1,_,_,_,.cons a t=>by
  obtain ⟨G1,G2,rfl,h1,h2⟩:=RdFs.part k t
  exact ⟨_++G1,G2,(Br ..).symm,.cons a h1,h2⟩
theorem dX{K:PySem.W.Frag}{H0 H:Hp}{X:Addr->Prop}{S T:List Ent}{δ:DS}{i:Nat}{m my:Md}{ds:List Ab}{e:Ab}{w:V}{Fy:List Addr}(k:Nat)(hS:Sl S δ)(hT:∀e∈T,Lv e.x=false)(hA:At K H0 X δ.n (S++⟨some w,.dat my e,Fy⟩::T) H)(hi:δ.sl[i]? = some (.dat m (.list ds)))(ho:own1 m=true)(hy:my≠.pk)(np:npk δ.sl=true)(hl:ds.length<1000000):∃a xs,(vs S)[i]? = some (some (.ref a))/\H a=some (.lst xs)/\xs.length=ds.length/\∃S',vs S'=vs S/\Sl S' ⟨δ.sl.set i (.dat (mmd m my) (.list (Hd ds k e))),δ.n⟩/\At K H0 X δ.n (S'++T) (upd H a (.lst (Hd xs k w))):=by
 obtain ⟨ent,e2,e3⟩:=Gg hS hi
 have hm:ent∈S:=Ar e2
 obtain ⟨u,x,F⟩:=ent
 have e3':x=.dat m (.list ds):=e3
 subst e3'
 obtain ⟨v,hv,rd,_⟩:=hA.ok _ (Ag _ hm)
 obtain ⟨a,xs,G,rfl,ha,ra,eF,hz⟩:=rd.list_inv
 have eF':F=a::G:=eF
 subst eF'
 have rw_:=hA.told mem_mid
 refine ⟨a,xs,by rw[Jb e2]; exact congrArg some hv,ha,ra.len,?_⟩
 have hn:=aW hS np
 have pm:(S++⟨some w,.dat my e,Fy⟩::T).Perm (⟨u,.dat m (.list ds),a::G⟩::⟨some w,.dat my e,Fy⟩::(S.eraseIdx i++T)):=by
  refine ((Fn e2).append_right _).trans ?_
  rw[Ec]
  exact Lo _ Dg
 obtain ⟨G1,G2,eG,r1,r2⟩:=ra.part k
 have gp:(G1++(Fy++G2)).Perm (G++Fy):=by
  rw[eG,Br]
  exact List.perm_append_comm.append_left G1
 have h1:=(hA.perm pm).merge (es:=Hd ds k e) (ys:=Hd xs k w) (G:=G1++(Fy++G2)) ho hy hv (λf hf=>?_) (r1.app (.cons rw_ r2)) (λc hc=>An.mp (gp.mem_iff.mp hc)) (λz=>gp.nodup_iff.mpr z) (by rw[Nq]; exact cO (by omega))
 ·refine ⟨S.set i ⟨u,.dat (mmd m my) (.list (Hd ds k e)),a::(G1++(Fy++G2))⟩,?_,?_,h1.perm ?_⟩
  ·unfold vs
   rw[Gq]
   apply Gu
   intro j
   rw[Gs]
   split
   ·rename_i hij
    subst hij
    rw[Bg,e2]
    split
    ·rfl
    ·rename_i hj
     rw[Af] at hj
     exact absurd (Al.mp e2).1 hj
   ·rfl
  ·unfold Sl at hS ⊢
   rw[Gq,hS]
  ·exact ((Qe e2).append_right T).symm
 ·rcases An.mp hf with hf | hf
  ·exact hn f ((Qp S i).subset hf)
  ·exact hT f hf
def kG(i:Nat)(z y:DV)(δ:DS)(D:DEnds):Prop:=match δ.sl[i]?,z,y with
 | some (.dat m (.list ds)),.dat _ (.int k),.dat my e=>own1 m=true/\npk δ.sl=true/\my≠.pk/\ds.length<1000000/\0<=k/\k<=1000000/\D.nx ⟨δ.sl.set i (.dat (mmd m my) (.list (Hd ds k.toNat e))),δ.n⟩
 | _,_,_=>False
def Wg(i:Nat)(dk de:DE):DB:=λD δ=>match δ.sl[i]? with
 | some (.dat _ (.list _))=>dk δ λz δ1=>de δ1 λy δ2=>kG i z y δ2 D
 | _=>False
section
variable{X:Cx}{o e ke:Expr}{de dk:DE}{apos cpos pos:Pos}{i:Nat}
theorem iX(ho:PE X o (Tp i))(hk:Ff X ke dk)(he:Ff X e de)(hbase:Iy o "insert" X.env (eval o X.env)=eval o X.env:=by rfl)
  (hfew:((Fs cpos (Bf [ke,e] X.env)).all (λx=>!x.1) && (Qy cpos (Ko [] X.env)).all (λx=>x.1.isSome)
   && decide (([ke,e]:List Expr).length+([]:List Jc).length+(if ([]:List Jc).isEmpty then 0 else 1)<30))=true:=by rfl)
  (hline:(apos.endLine == cpos.line)=true:=by rfl) (hs0:Bf [ke,e] X.env=(false,eval ke X.env)::Bf [e] X.env:=by rfl) (hs:Bf [e] X.env=(false,eval e X.env)::Bf [] X.env:=by rfl) (hplain:(Fs cpos (Bf [e] X.env)).any (·.1)=false:=by rfl)
  (hsw:Gj (.Call (.Attribute o "insert" apos) [ke,e] [] cpos) none pos.line X.env=pure false:=by rfl) :
  dI X (.Expr (.Call (.Attribute o "insert" apos) [ke,e] [] cpos) pos) (Wg i dk de):=by
 refine PS.impD (Vo (cV PySem.F.plainAttrs_list Vu F.type_list_insert Zc ho (Gh hk (Gh he Kv hs) hs0) hbase hfew hline hs0 hplain) hsw) λD σ H h=>?_
 obtain ⟨H0,Y,S,T,δ,P,rfl,hS,hT,hA,hd,k1,k2,k3,k4⟩:=h
 unfold Wg at hd
 split at hd
 case h_2=>exact hd.elim
 rename_i m0 ds0 hsl
 obtain ⟨ent,e2,e3⟩:=Gg hS hsl
 have hm:ent∈S:=Ar e2
 obtain ⟨u,x,F⟩:=ent
 have e3':x=.dat m0 (.list ds0):=e3
 subst e3'
 obtain ⟨v,hv,rd,_⟩:=hA.ok _ (Ag _ hm)
 obtain ⟨a,xs,G,rfl,ha,ra,eF,hz⟩:=rd.list_inv
 refine ⟨.ref a,by rw[Jb e2]; exact congrArg some hv,.inl ⟨rfl,xs,Rr.of ha⟩,H0,Y,S,T,δ,_,rfl,hS,hA,hd,λz δ1 w F1 S1 H1 e4 e5 hA1 p1=>?_⟩
 refine ⟨H0,Y,S1,⟨some w,z,F1⟩::T,δ1,_,e4,e5,hA1,p1,λy δ2 w2 F2 S2 H2 e6 e7 hA2 p2=>?_⟩
 unfold kG at p2
 split at p2
 ·rename_i m ds mz k my e' hsl2
  obtain ⟨q1,q2,q3,q5,q6,q7,q8⟩:=p2
  obtain ⟨rfl,_⟩:=(hA2.told Fi).int_inv
  have hA3:=hA2.sub (E':=S2++⟨some w2,.dat my e',F2⟩::T) ((Ci S2).append ((Ck _ T).cons₂ _))
  obtain ⟨b,xs1,g1,g2,g3,S3,h1,h2,h3⟩:=dX k.toNat e7 hT hA3 hsl2 q1 q3 q2 q5
  rw[e6,Jb e2] at g1
  have : some (V.ref b)=some (V.ref a):=(Be g1).symm.trans hv
  cases this
  refine ⟨a,xs1,k,w2,rfl,rfl,g2,Bz (by omega) (cO (n:=1000000) (Ai _)),q6,q7,?_⟩
  rw[<- e6,<- h1]
  exact k1 ⟨_,_⟩ S3 _ h2 h3 q8
 ·exact p2.elim
end
def W6:List Ab->Bool
 | [.int _,.int _,.bool _]=>true
 | _=>false
mutual
def Rl:Ab->Bool
 | .list ds=>!W6 ds && Wt ds
 | .tuple ds=>Wt ds
 | .dict _=>false
 | _=>true
def Wt:List Ab->Bool
 | []=>true
 | d::ds=>Rl d && Wt ds
end
theorem Tn{α:Type}{g:α->Ab}{l:List α}(h:∀a∈l,Rl (g a)=true):Wt (l.map g)=true:=by
 induction l with
 | nil=>rfl
 | cons a l ih=>rw[Ap,Wt,h a Aa,ih λb hb=>h b (Ae _ hb)]; rfl
theorem RdFs.drs{K:PySem.W.Frag}{H:Hp}{c k:Int}{f:Bool}{ds:List Ab}{F:List Addr}(r:RdFs K H [.int c,.int k,.bl f] ds F):W6 ds=true:=by
 cases r with
 | cons a t =>
 cases a with
 | int =>
 cases t with
 | cons a t =>
 cases a with
 | int =>
 cases t with
 | cons a t =>
 cases a with
 | bl =>
 cases t with
 | nil=>rfl
section
variable{K:PySem.W.Frag}{H:Hp}{dr:Addr}{c k:Int}{f:Bool}
mutual
theorem RdF.nodr:∀{v:V} {d:Ab} {F:List Addr},Sw H dr c k f->RdF K H v d F->Rl d=true->dr∉F
 | _,_,_,_,.non,_=>λz=>(nomatch z)
 | _,_,_,_,.bl b,_=>λz=>(nomatch z)
 | _,_,_,_,.int i,_=>λz=>(nomatch z)
 | _,_,_,_,.str x,_=>λz=>(nomatch z)
 | _,_,_,hd,.lst ha hz r,hn=>by
  rw[Rl,Fl] at hn
  intro z
  rcases Ak.mp z with z | z
  ·rw[<- z,show H dr=_ from hd] at ha
   cases ha
   rw[r.drs] at hn
   cases hn.1
  ·exact RdFs.nodr hd r hn.2 z
 | _,_,_,hd,.tup ha hz r,hn=>RdFs.nodr hd r (by rw[Rl] at hn; exact hn)
 | _,_,_,hd,.dic ..,hn=>by rw[Rl] at hn; cases hn
 | _,_,_,hd,.dik ..,hn=>by rw[Rl] at hn; cases hn
 | _,_,_,hd,.dnm ..,hn=>by rw[Rl] at hn; cases hn
theorem RdFs.nodr:∀{vs:List V} {ds:List Ab} {F:List Addr},Sw H dr c k f->RdFs K H vs ds F->Wt ds=true->dr∉F
 | _,_,_,_,.nil,_=>λz=>(nomatch z)
 | _,_,_,hd,.cons a t,hn=>by
  rw[Wt,Fl] at hn
  intro z
  rcases An.mp z with z | z
  ·exact RdF.nodr hd a hn.1 z
  ·exact RdFs.nodr hd t hn.2 z
end
end
def cJ(i:Nat)(df:DF)(xs:List DV)(δ:DS)(P:DV->DS->Prop):Prop:=match δ.sl[i]?,datas xs with
 | some .drw,some ds=>noPk xs=true/\df ds δ.n λd n'=>Rl d=true/\P (.dat .sh d) ⟨δ.sl,n'⟩
 | _,_=>False
def bP(i:Nat)(df:DF)(da:DA):DE:=λδ P=>match δ.sl[i]? with
 | some .drw=>da δ λxs δ1=>cJ i df xs δ1 P
 | _=>False
section
variable{X:Cx}{CX:kE}{k:Nat}{f:Addr}{fd:Cr}{ps:List Str}{df:DF}{E:XK}{x:Str}{p pos:Pos}{e0:Expr}{es:List Expr}{da:DA}
theorem Ua{i:Nat}(F:FnOk X.prog X.w X.K X.mg X.base CX k f fd ps (iM X.K df))(hr:Room k X.A)(hg:Gl X x)(hm:X.mg x=some (.ref f))(hk:PySem.W.keepIn X.K (.ref f)=true)(hb:Binds X.K fd ps [])(hx:Na CX X E)(h0:PE X e0 (Tp i))(ha:iO X es da)(hdb:(x == ("__debug__" : Str))=false:=by decide)(he:Bf (e0::es) X.env=(false,eval e0 X.env)::Bf es X.env:=by rfl)(hpl:(Fs pos (Bf es X.env)).any (·.1)=false:=by rfl):Ff X (.Call (.Name x p) (e0::es) [] pos) (bP i df da):=by
 refine PE.imp (Sj F hr hg hm hk hb .nil hx (Gh h0 ha he) hdb he hpl) λσ H Q h=>?_
 obtain ⟨H0,Y,S,T,δ,P,rfl,hS,hA,hd,kk⟩:=h
 unfold bP at hd
 split at hd
 case h_2=>exact hd.elim
 rename_i hsl0
 have main:∀w,(vs S)[i]? = some (some w)->LA X.K da (vs S) H λxs H2=>iM X.K df ((w::xs)++[]) H2 Q E:=λw hw=>by
  refine ⟨H0,Y,S,T,δ,_,rfl,hS,hA,hd,λxs δ' As us S' H' e1 e2 ex eu hA' p=>?_⟩
  subst ex
  unfold cJ at p
  split at p
  ·rename_i ds hsl q
   obtain ⟨np,p⟩:=p
   have hAs:=Xf np
   obtain ⟨ent,s1,s2⟩:=Gg e2 hsl
   have hm':ent∈S':=Ar s1
   have hv:ent.v=some w:=by
    have:=Jb s1
    rw[e1,hw] at this
    exact (Be this).symm
   obtain ⟨u,z,F⟩:=ent
   have s2':z=.drw:=s2
   subst s2'
   have hE:(⟨u,.drw,F⟩ : Ent)∈S'++(As++T):=Ag _ hm'
   obtain ⟨dr,c0,k0,f0,hv0,hF0,hd0,hk0,hk1⟩:=hA'.ok _ hE
   have ew:some w=some (V.ref dr):=hv.symm.trans hv0
   cases ew
   have hF':F=[dr]:=hF0
   subst hF'
   have pm:(S'++(As++T)).Perm (⟨u,.drw,[dr]⟩::(S'.eraseIdx i++(As++T))):=((Fn s1).append_right _)
   have hM:=hA'.perm pm
   have hMs:=Ax.mp hM.sep
   have hE0:At X.K H0 Y δ'.n (S'.eraseIdx i++T) H':=hM.sub (((Ci _).append (Bj As T)).cons _)
   rw[Ea]
   refine ⟨dr,us,As,δ'.n,ds,_,(S'.eraseIdx i++T).flatMap cells,rfl,eu,λe he=>hA'.ok e (Ad _ (Ag _ he)),λe he=>?_,⟨c0,k0,f0,hd0,hk0,hk1⟩,q,p,λz=>?_,λa ha=>?_,λv d F n' H'' hn r rd fr s hdr=>?_⟩
   ·exact (hMs.1 e (Ad _ (Ag _ he))).1 (.inr rfl) dr Aa
   ·obtain ⟨g,hg1,hg2⟩:=Bu.mp z
    refine (hMs.1 g ?_).1 (.inr rfl) dr Aa (Ep _ _ hg2)
    rcases An.mp hg1 with h | h
    ·exact Ag _ h
    ·exact Ad _ (Ad _ h)
   ·obtain ⟨g,hg1,hg2⟩:=Bu.mp ha
    refine ⟨λz=>?_,λe he=>?_⟩
    ·obtain ⟨o,q⟩:=(hE0.ok g hg1).dom a (Ep _ _ hg2)
     rw[z] at q; cases q
    ·obtain ⟨_,hp2,hp⟩ := Bk.mp hMs.2
     rcases An.mp hg1 with hg1 | hg1
     ·exact (hp g hg1 e (Ag _ he)).1 (.inl (hAs e he)) a hg2
     ·exact ((Bk.mp hp2).2.2 e he g hg1).2 (.inl (hAs e he)) a hg2
   ·obtain ⟨c1,k1,f1,hD,_⟩:=id hdr
    have nF:=RdF.nodr hD rd r.1
    have hA2:=hM.drawn Aa rfl hv0 s hdr hn
    have hA3:At X.K H0 Y n' (⟨u,.drw,[dr]⟩::(S'.eraseIdx i++T)) H'':=hA2.sub (((Ci _).append (Bj As T)).cons₂ _)
    have hA4:At X.K H0 Y n' (S'++T) H'':=hA3.perm (((Fn s1).append_right T).symm)
    refine kk _ ⟨δ'.sl,n'⟩ v F S' H'' e1 e2 ((hA4.pushS rd λg hg a ha z=>?_).tomid) r.2
    have hg':g∈(⟨u,.drw,[dr]⟩ : Ent)::(S'.eraseIdx i++T):=((Fn s1).append_right T).mem_iff.mp hg
    rcases Ak.mp hg' with rfl | hg'
    ·rw[Ac.mp (Ep _ _ ha)] at z
     exact nF z
    ·exact fr a z (Bu.mpr ⟨g,hg',ha⟩)
  ·exact p.elim
 obtain ⟨ent,s1,s2⟩:=Gg hS hsl0
 have hm':ent∈S:=Ar s1
 obtain ⟨u,z,F⟩:=ent
 have s2':z=.drw:=s2
 subst s2'
 obtain ⟨dr,c0,k0,f0,hv0,_⟩:=hA.ok _ (Ag _ hm')
 have hw:(vs S)[i]? = some (some (.ref dr)):=(Jb s1).trans (congrArg some hv0)
 exact ⟨_,hw,main _ hw⟩
end
def W5(db:DB)(D:DEnds)(I:DS->Prop)(μ:DS->Nat)(δ':DS)(b:Bool)(δ2:DS):Prop:=match b with
 | true=>db { D with nx:=λδ3=>I δ3/\μ δ3<μ δ',ct:=λδ3=>I δ3/\μ δ3<μ δ',bk:=D.nx } δ2
 | false=>D.nx δ2
theorem n9{dt:DT}{db:DB}{D:DEnds}{δ:DS}(I:DS->Prop)(μ:DS->Nat)(h0:I δ)(h:∀δ',I δ'->dt δ' (W5 db D I μ δ')):uE dt db D δ:=⟨I,μ,h0,h⟩
theorem N7{db:DB}{D:DEnds}{I:DS->Prop}{μ:DS->Nat}{δ' δ2:DS}{b:Bool}(h1:b=true->db { D with nx:=λδ3=>I δ3/\μ δ3<μ δ',ct:=λδ3=>I δ3/\μ δ3<μ δ',bk:=D.nx } δ2)(h2:b=false->D.nx δ2):W5 db D I μ δ' b δ2:=by
 cases b with
 | true=>exact h1 rfl
 | false=>exact h2 rfl
def F8(t u:DB)(D:DEnds)(b:Bool)(δ:DS):Prop:=match b with
 | true=>t D δ
 | false=>u D δ
def N6(x:DV)(δ:DS)(P:DV->DS->Prop):Prop:=match x with
 | .dat _ d=>imm d=true/\P (.dat .ow d) δ
 | _=>False
def K1(i:Nat)(s:Option DV)(δ:DS)(P:DV->DS->Prop):Prop:=match s with
 | some (.dat .pk _)=>False
 | some (.dat _ d)=>P (.dat .sh d) ⟨δ.sl.set i (.dat .sh d),δ.n⟩
 | _=>False
def tupB(xs:List DV)(δ:DS)(P:DV->DS->Prop):Prop:=match datas xs with
 | some ds=>ds.length<=1000/\P (.dat (pkMd .sh xs) (.tuple ds)) δ
 | none=>False
def lstB(xs:List DV)(δ:DS)(P:DV->DS->Prop):Prop:=match datas xs with
 | some ds=>ds.length<=1000/\P (.dat (pkMd .tp xs) (.list ds)) δ
 | none=>False
def xZ(x:DV)(δ:DS)(P:Option Int->DS->Prop):Prop:=match x with
 | .dat _ (.int i)=>P (some i) δ
 | _=>False
def V9(i:Bool)(x:DV)(l h:Option Int)(δ:DS)(P:DV->DS->Prop):Prop:=match x with
 | .dat m (.list ds)=>We i m (Ke ds l h) λz=>P z δ
 | .dat m (.tuple ds)=>aN i m (Ke ds l h) λz=>P z δ
 | _=>False
def Y4(xs:List DV)(δ:DS)(P:DV->DS->Prop):Prop:=match xs with
 | [.dat _ (.list ds)]=>∃ns:List Int,ds=ns.map Bl/\(∀x∈ns,0<=x/\x<60)/\P (.dat .ow (.list ((J9 ns).map Bl))) δ
 | [.dat _ (.tuple ds)]=>∃ns:List Int,ds=ns.map Bl/\(∀x∈ns,0<=x/\x<60)/\P (.dat .ow (.list ((J9 ns).map Bl))) δ
 | _=>False
def bB(x:DV)(δ:DS)(P:Bool->DS->Prop):Prop:=match x with
 | .dat _ (.bool b)=>P b δ
 | _=>False
def F5(x:DV)(δ:DS)(P:Bool->DS->Prop):Prop:=match x with
 | .dat _ d=>G3 d/\P (uV d) δ
 | _=>False
def p8(du:DT)(b:Bool)(δ:DS)(P:Bool->DS->Prop):Prop:=match b with
 | true=>du δ P
 | false=>P false δ
def U8(du:DT)(b:Bool)(δ:DS)(P:Bool->DS->Prop):Prop:=match b with
 | true=>P true δ
 | false=>du δ P
def V6(da db:DE)(b:Bool)(δ:DS)(P:DV->DS->Prop):Prop:=match b with
 | true=>da δ P
 | false=>db δ P
def C1(x:DV)(δ:DS)(P:DV->DS->Prop):Prop:=match x with
 | .dat _ (.int i)=>P (.dat .ow (.int (-i))) δ
 | _=>False
def lB(x:DV)(δ:DS)(P:Md->List Ab->DS->Prop):Prop:=match x with
 | .dat m (.list ds)=>P (Ja m) ds δ
 | _=>False
def Q3(x:DV)(δ:DS)(P:Md->List Ab->DS->Prop):Prop:=match x with
 | .dat m (.tuple ds)=>P (Ja m) ds δ
 | _=>False
def xS(xs:List DV)(δ:DS)(P:Md->List Ab->DS->Prop):Prop:=match xs with
 | [.dat _ (.int j)]=>-1000000<=j/\j<=1000000/\P .sh ((Ew j.toNat).map λi:Nat=>.int i) δ
 | _=>False
def yP(xs:List DV)(δ:DS)(P:Md->List Ab->DS->Prop):Prop:=match xs with
 | [.dat m (.list ds)]=>P (Ja m) (ds.zipIdx.map λp=>.tuple [.int p.2,p.1]) δ
 | _=>False
def F9(dg:DG)(db:DB)(D:DEnds)(m:Md)(ds:List Ab)(δ1:DS):Prop:=m=.sh/\∃I:Nat->DS->Prop,I 0 δ1 /\
 (∀i d δ',ds[i]? = some d->I i δ'->dg (.dat .sh d) δ' λδ2=>db { D with nx:=I (i+1),ct:=I (i+1),bk:=D.nx } δ2)/\∀δ',I ds.length δ'->D.nx δ'
def pM(js:List Nat)(dc:DT)(de:DE)(P:DV->DS->Prop)(m:Md)(ds:List Ab)(δ1:DS):Prop:=∃I:Nat->List Ab->Nat->Prop,I 0 [] δ1.n /\
 (∀i d acc n,ds[i]? = some d->I i acc n->Sd dc de ⟨.dat m d::frD δ1.sl js,n⟩ (λe n'=>I (i+1) (acc++[e]) n') (λn'=>I (i+1) acc n')) /\
 ∀acc n,I ds.length acc n->P (.dat .ow (.list acc)) ⟨δ1.sl,n⟩
def iJ(js:List Nat)(dc:DT)(de:DE)(P:DV->DS->Prop)(m:Md)(ds:List Ab)(δ1:DS):Prop:=∃I:Nat->List Ab->Nat->Prop,I 0 [] δ1.n /\
 (∀i d acc n,ds[i]? = some d->I i acc n->Ho false dc de ⟨.dat m d::frD δ1.sl js,n⟩ (λe n'=>I (i+1) (acc++[e]) n') (λn'=>I (i+1) acc n')) /\
 ∀acc n,I ds.length acc n->P (.dat .tp (.list acc)) ⟨δ1.sl,n⟩
def tY(js1:List Nat)(j0:Nat)(js2:List Nat)(dc:DT)(de:DE)(P:DV->DS->Prop)(m:Md)(ds:List Ab)(δ1:DS):Prop:=δ1.sl[j0]? = some .drw/\∃I:Nat->List Ab->Nat->Prop,I 0 [] δ1.n /\
 (∀i d acc n,ds[i]? = some d->I i acc n->Nv (js1.length+1) dc de ⟨.dat m d::(frD (δ1.sl.set j0 .un) js1++.drw::frD (δ1.sl.set j0 .un) js2),n⟩ (λe n'=>I (i+1) (acc++[e]) n') (λn'=>I (i+1) acc n')) /\
 ∀acc n,I ds.length acc n->P (.dat .ow (.list acc)) ⟨δ1.sl,n⟩
def vL(yes:Ab->Nat->Prop)(y:DV)(δ:DS):Prop:=match y with
 | .dat _ e=>imm e=true/\yes e δ.n
 | _=>False
def lM(de:DE)(yes:Ab->Nat->Prop)(no:Nat->Prop)(b:Bool)(δ:DS):Prop:=match b with
 | true=>de δ λy δ3=>vL yes y δ3
 | false=>no δ.n
def lX(yes:Ab->Nat->Prop)(y:DV)(δ:DS):Prop:=match y with
 | .dat m e=>m≠.pk/\yes e δ.n
 | _=>False
def jM(de:DE)(yes:Ab->Nat->Prop)(no:Nat->Prop)(b:Bool)(δ:DS):Prop:=match b with
 | true=>de δ λy δ3=>lX yes y δ3
 | false=>no δ.n
def sW(p:Nat)(yes:Ab->Nat->Prop)(y:DV)(δ:DS):Prop:=match y with
 | .dat _ e=>imm e=true/\δ.sl[p]? = some .drw/\yes e δ.n
 | _=>False
def pE(p:Nat)(de:DE)(yes:Ab->Nat->Prop)(no:Nat->Prop)(b:Bool)(δ:DS):Prop:=match b with
 | true=>de δ λy δ3=>sW p yes y δ3
 | false=>δ.sl[p]? = some .drw/\no δ.n
def callB(pf:PF)(xs:List DV)(δ:DS)(P:DV->DS->Prop):Prop:=match datas xs with
 | some ds=>pf ds λd=>P (.dat .ow d) δ
 | none=>False
def callBW(i:Nat)(df:DF)(xs:List DV)(δ:DS)(P:DV->DS->Prop):Prop:=match δ.sl[i]? with
 | some .drw=>match datas xs with
  | some ds=>df ds δ.n λd n'=>P (.dat .ow d) ⟨δ.sl,n'⟩
  | none=>False
 | _=>False
def sF(xs:List DV)(δ:DS)(P:DV->DS->Prop):Prop:=match xs with
 | [.dat _ (.int _)]=>P .drw δ
 | _=>False
def callAB(pf:PF)(xs:List DV)(δ:DS)(P:DV->DS->Prop):Prop:=match datas xs with
 | some ds=>pf ds λd=>P (.dat .sh d) δ
 | none=>False
def V8(dk dv:DE)(yes:List Int->Ab->Nat->Prop)(no:Nat->Prop)(c:Bool)(δ:DS):Prop:=match c with
 | true=>dk δ λy δ3=>dv δ3 λz δ4=>fR yes y z δ4
 | false=>no δ.n
def lS(js:List Nat)(dc:DT)(dk dv:DE)(P:DV->DS->Prop)(m:Md)(ds:List Ab)(δ1:DS):Prop:=ds.length<=1000000/\∃I:Nat->List (List Int×Ab)->Nat->Prop,I 0 [] δ1.n /\
 (∀i d acc n,ds[i]? = some d->I i acc n->∃d1 d2,d=.tuple [d1,d2]/\aX dc dk dv ⟨.dat m d1::.dat m d2::frD δ1.sl js,n⟩ (λw e n'=>I (i+1) (Yj acc w e) n') (λn'=>I (i+1) acc n')) /\
 ∀acc n,I ds.length acc n->P (.dat .ow (.dict (cN acc))) ⟨δ1.sl,n⟩
theorem e_min3{i j k:Int}{m m2 m3:Md}{P:DV->Prop}:jP [.dat m (.int i),.dat m2 (.int j),.dat m3 (.int k)] P=(P (.dat .ow (.int (min i (min j k))))):=rfl
theorem e_insertO{i:Nat}{dk de:DE}{D:DEnds}{δ:DS}:Wg i dk de D δ=(match δ.sl[i]? with | some (.dat _ (.list _))=>dk δ λz δ1=>de δ1 λy δ2=>kG i z y δ2 D | _=>False):=rfl
theorem e_insOB{i:Nat}{z y:DV}{D:DEnds}{δ:DS}:kG i z y δ D=(match δ.sl[i]?,z,y with | some (.dat m (.list ds)),.dat _ (.int k),.dat my e=>own1 m=true/\npk δ.sl=true/\my≠.pk/\ds.length<1000000/\0<=k/\k<=1000000/\D.nx ⟨δ.sl.set i (.dat (mmd m my) (.list (Hd ds k.toNat e))),δ.n⟩ | _,_,_=>False):=rfl
theorem e_callWV{i:Nat}{df:DF}{da:DA}{δ:DS}{P:DV->DS->Prop}:bP i df da δ P=(match δ.sl[i]? with | some .drw=>da δ λxs δ1=>cJ i df xs δ1 P | _=>False):=rfl
theorem e_callWVB{i:Nat}{df:DF}{xs:List DV}{δ:DS}{P:DV->DS->Prop}:cJ i df xs δ P=(match δ.sl[i]?,datas xs with | some .drw,some ds=>noPk xs=true/\df ds δ.n λd n'=>Rl d=true/\P (.dat .sh d) ⟨δ.sl,n'⟩ | _,_=>False):=rfl
theorem e_appPop{i j:Nat}{dk:DE}{D:DEnds}{δ:DS}:lG i j dk D δ=(isLst (δ.sl[i]?)=true/\isLst (δ.sl[j]?)=true/\dk δ λz δ1=>xQ i j z δ1 D):=rfl
theorem e_popB{i j:Nat}{z:DV}{D:DEnds}{δ:DS}:xQ i j z δ D=(match δ.sl[i]?,δ.sl[j]?,z with | some (.dat mi (.list es)),some (.dat mj (.list ds)),.dat _ (.int k)=>own1 mi=true/\own1 mj=true/\npk δ.sl=true/\npk (δ.sl.set j (.dat mj (.list (ds.eraseIdx k.toNat))))=true/\i≠j/\Dj ds=true/\0<=k/\k<ds.length/\k<=1000000/\es.length<1000000/\∀d,ds[k.toNat]? = some d->D.nx ⟨(δ.sl.set j (.dat mj (.list (ds.eraseIdx k.toNat)))).set i (.dat mi (.list (es++[d]))),δ.n⟩ | _,_,_=>False):=rfl
theorem e_seq{t u:DB}{D:DEnds}{δ:DS}:I0 t u D δ=(t { D with nx:=λδ'=>u D δ' } δ):=rfl
theorem e_skip{D:DEnds}{δ:DS}:yL D δ=(D.nx δ):=rfl
theorem e_ret{de:DE}{D:DEnds}{δ:DS}:E5 de D δ=(de δ D.rt):=rfl
theorem e_if{dt:DT}{t u:DB}{D:DEnds}{δ:DS}:V7 dt t u D δ=(dt δ (F8 t u D)):=rfl
theorem e_asg{de:DE}{dg:DG}{D:DEnds}{δ:DS}:bO de dg D δ=(de δ λx δ'=>dg x δ' D.nx):=rfl
theorem e_name{i:Nat}{m:Md}{d:Ab}{δ:DS}{Q:DS->Prop}:Mx i (.dat .ow d) δ Q=(Q ⟨δ.sl.set i (.dat .sh d),δ.n⟩):=rfl
theorem e_name2{i:Nat}{m:Md}{d:Ab}{δ:DS}{Q:DS->Prop}:Mx i (.dat .sh d) δ Q=(Q ⟨δ.sl.set i (.dat .sh d),δ.n⟩):=rfl
theorem e_name3{i:Nat}{m:Md}{d:Ab}{δ:DS}{Q:DS->Prop}:Mx i (.dat .tp d) δ Q=(Q ⟨δ.sl.set i (.dat .sh d),δ.n⟩):=rfl
theorem e_name4{i:Nat}{δ:DS}{Q:DS->Prop}:Mx i .drw δ Q=(Q ⟨δ.sl.set i .drw,δ.n⟩):=rfl
theorem e_own{i:Nat}{d:Ab}{δ:DS}{Q:DS->Prop}:fN i (.dat .ow d) δ Q=(Q ⟨δ.sl.set i (.dat .ow d),δ.n⟩):=rfl
theorem e_nF{i:Nat}{x:DV}{δ:DS}{Q:DS->Prop}:B5 false i x δ Q=(Mx i x δ Q):=rfl
theorem e_gtup{n:Nat}{gs:uJ}{m:Md}{ds:List Ab}{δ:DS}{Q:DS->Prop}:sV n gs (.dat m (.tuple ds)) δ Q=(ds.length=n/\gs (ds.map λd=>.dat (Ly m) d) δ Q):=rfl
theorem e_gsn{δ:DS}{Q:DS->Prop}:pT [] δ Q=(Q δ):=rfl
theorem e_gsc{g:DG}{gs:uJ}{x:DV}{r:List DV}{δ:DS}{Q:DS->Prop}:kX g gs (x::r) δ Q=(g x δ λδ'=>gs r δ' Q):=rfl
theorem e_op{rd:D2}{da db:DE}{δ:DS}{P:DV->DS->Prop}:Xi rd da db δ P=(da δ λx δ1=>db δ1 λy δ2=>rd x y λz=>P z δ2):=rfl
theorem e_var{i:Nat}{δ:DS}{P:DV->DS->Prop}:zI i δ P=(match δ.sl[i]? with | some (.dat m d)=>P (.dat (dD m) d) δ | _=>False):=rfl
theorem e_c{d:Ab}{δ:DS}{P:DV->DS->Prop}:dC d δ P=(P (.dat .ow d) δ):=rfl
theorem e_imm{de:DE}{δ:DS}{P:DV->DS->Prop}:L8 de δ P=(de δ λx δ'=>N6 x δ' P):=rfl
theorem e_immB{m:Md}{d:Ab}{δ:DS}{P:DV->DS->Prop}:N6 (.dat m d) δ P=(imm d=true/\P (.dat .ow d) δ):=rfl
theorem e_take{i:Nat}{δ:DS}{P:DV->DS->Prop}:pO i δ P=(match δ.sl[i]? with | some (.dat m d)=>P (.dat m d) ⟨δ.sl.set i .un,δ.n⟩ | _=>False):=rfl
theorem e_frz{i:Nat}{δ:DS}{P:DV->DS->Prop}:bK i δ P=(K1 i (δ.sl[i]?) δ P):=rfl
theorem e_frzo{i:Nat}{d:Ab}{δ:DS}{P:DV->DS->Prop}:K1 i (some (.dat .ow d)) δ P=(P (.dat .sh d) ⟨δ.sl.set i (.dat .sh d),δ.n⟩):=rfl
theorem e_I{C:Int->Int->Prop}{g:Int->Int->Ab}{i j:Int}{m m':Md}{P:DV->Prop}:K6 C g (.dat m (.int i)) (.dat m' (.int j)) P=(C i j/\P (.dat .ow (g i j))):=rfl
theorem e_I0{g:Int->Int->Ab}{i j:Int}{m m':Md}{P:DV->Prop}:jG g (.dat m (.int i)) (.dat m' (.int j)) P=(P (.dat .ow (g i j))):=rfl
theorem e_bestK{le lt:Nat->Nat->Prop}{m:Md}{ds:List Ab}{P:DV->Prop}:Vq le lt [.dat m (.list ds)] P=(∃kf:Nat->Nat,ds≠[]/\(∀i d,ds[i]? = some d->u4 d=some (kf i))/\∀i d,ds[i]? = some d->(∀j,j<ds.length->le (kf i) (kf j)/\(j<i->lt (kf i) (kf j)))->P (.dat (Ly m) d)):=rfl
theorem e_eqF{d e:Ab}{m m':Md}{P:DV->Prop}:Yr false (.dat m d) (.dat m' e) P=(d.depth<=60/\e.depth<=60/\P (.dat .ow (.bool (Dr d e)))):=rfl
theorem e_eqT{d e:Ab}{m m':Md}{P:DV->Prop}:Yr true (.dat m d) (.dat m' e) P=(d.depth<=60/\e.depth<=60/\P (.dat .ow (.bool (!Dr d e)))):=rfl
theorem e_inFl{d:Ab}{es:List Ab}{m m':Md}{P:DV->Prop}:nC false (.dat m d) (.dat m' (.list es)) P=(Bd es<=60/\d.depth<=60/\P (.dat .ow (.bool (es.any λe=>Dr e d)))):=rfl
theorem e_inTt_w1{nes:List Int}{d:Ab}{es:List Ab}{m m':Md}{P:DV->Prop}:nC true (.dat m d) (.dat m' (Ca nes)) P=(Bd (nes.map Bl)<=60/\d.depth<=60/\P (.dat .ow (.bool (!((nes.map Bl).any λe=>Dr e d))))):=rfl
theorem e_ixl{ds:List Ab}{i:Int}{m m':Md}{P:DV->Prop}:qS (.dat m (.list ds)) (.dat m' (.int i)) P=(∃d,So ds i=some d/\P (.dat (Ly m) d)):=rfl
theorem e_ixt{ds:List Ab}{i:Int}{m m':Md}{P:DV->Prop}:qS (.dat m (.tuple ds)) (.dat m' (.int i)) P=(∃d,So ds i=some d/\P (.dat (Ly m) d)):=rfl
theorem e_cat{ds es:List Ab}{m m':Md}{P:DV->Prop}:kQ (.dat m (.list ds)) (.dat m' (.list es)) P=(Dj ds=true/\Dj es=true/\ds.length+es.length<=1000000/\P (.dat .ow (.list (ds++es)))):=rfl
theorem e_catT_w1{nds:List Int}{ds es:List Ab}{m m':Md}{P:DV->Prop}:aJ (.dat m (Ca nds)) (.dat m' (.tuple es)) P=(Dj (nds.map Bl)=true/\Dj es=true/\(nds.map Bl).length+es.length<=1000000/\P (.dat .ow (.tuple ((nds.map Bl)++es)))):=rfl
theorem e_nlT{m:Md}{ds:List Ab}{P:DV->Prop}:We true m ds P=(Dj ds=true/\P (.dat .ow (.list ds))):=rfl
theorem e_ntT{m:Md}{ds:List Ab}{P:DV->Prop}:aN true m ds P=(Dj ds=true/\P (.dat .ow (.tuple ds))):=rfl
theorem e_pkOfsh  : dD .sh=(Md.sh):=rfl
theorem e_pkOfow  : dD .ow=(Md.pk):=rfl
theorem e_mdInsh  : Ly .sh=(Md.sh):=rfl
theorem e_mdInow  : Ly .ow=(Md.ow):=rfl
theorem e_mdItsh  : Ja .sh=(Md.sh):=rfl
theorem e_mdIttp  : Ja .tp=(Md.sh):=rfl
theorem e_mdItow  : Ja .ow=(Md.sh):=rfl
theorem e_nil{δ:DS}{P:List DV->DS->Prop}:o8 δ P=(P [] δ):=rfl
theorem e_cons{de:DE}{da:DA}{δ:DS}{P:List DV->DS->Prop}:xX de da δ P=(de δ λx δ1=>da δ1 λxs δ2=>P (x::xs) δ2):=rfl
theorem e_tup{da:DA}{δ:DS}{P:DV->DS->Prop}:K7 da δ P=(da δ λxs δ'=>tupB xs δ' P):=rfl
theorem e_lst{da:DA}{δ:DS}{P:DV->DS->Prop}:E2 da δ P=(da δ λxs δ'=>lstB xs δ' P):=rfl
theorem e_noPart{δ:DS}{P:Option Int->DS->Prop}:kS δ P=(P none δ):=rfl
theorem e_part{de:DE}{δ:DS}{P:Option Int->DS->Prop}:yE de δ P=(de δ λx δ'=>xZ x δ' P):=rfl
theorem e_partB{m:Md}{i:Int}{δ:DS}{P:Option Int->DS->Prop}:xZ (.dat m (.int i)) δ P=(P (some i) δ):=rfl
theorem e_sl{i:Bool}{de:DE}{dl dh:DO}{δ:DS}{P:DV->DS->Prop}:W4 i de dl dh δ P=(de δ λx δ1=>dl δ1 λl δ2=>dh δ2 λh δ3=>V9 i x l h δ3 P):=rfl
theorem e_slBl{i:Bool}{m:Md}{ds:List Ab}{l h:Option Int}{δ:DS}{P:DV->DS->Prop}:V9 i (.dat m (.list ds)) l h δ P=(We i m (Ke ds l h) λz=>P z δ):=rfl
theorem e_cb{rd:DC}{da:DA}{δ:DS}{P:DV->DS->Prop}:L3 rd da δ P=(da δ λxs δ1=>rd xs λz=>P z δ1):=rfl
theorem e_lenl{ds:List Ab}{m m':Md}{P:DV->Prop}:lP [.dat m (.list ds)] P=(P (.dat .ow (.int ds.length))):=rfl
theorem e_lent{ds:List Ab}{m m':Md}{P:DV->Prop}:lP [.dat m (.tuple ds)] P=(P (.dat .ow (.int ds.length))):=rfl
theorem e_tuplel{i:Bool}{ds:List Ab}{m m':Md}{P:DV->Prop}:aZ i [.dat m (.list ds)] P=(aN i m ds P):=rfl
theorem e_sortT{ds:List Ab}{m m':Md}{P:DV->Prop}:bY [.dat m (.tuple ds)] P=(∃ns:List Int,ds=ns.map Bl/\ns.length<64/\P (.dat .ow (.list ((Wa ns).map Bl)))):=rfl
theorem e_isi{d:Ab}{n:String}{m m':Md}{P:DV->Prop}:rG [.dat m d,.val (.ty n)] P=((n = "int" \/ n = "bool" \/ n = "str" \/ n = "list" \/ n = "tuple")/\P (.dat .ow (.bool (Ym d n)))):=rfl
theorem e_str{d:Ab}{m m':Md}{P:DV->Prop}:rH [.dat m d] P=((∃b,b<=400/\Jt b d/\(b+12) * Jo d<=Aq)/\d.depth<=90/\P (.dat .ow (.str (iS d)))):=rfl
theorem e_v{v:V}{δ:DS}{P:DV->DS->Prop}:dV v δ P=(P (.val v) δ):=rfl
theorem e_b{de:DE}{δ:DS}{P:Bool->DS->Prop}:dB de δ P=(de δ λx δ'=>bB x δ' P):=rfl
theorem e_bB{m:Md}{b:Bool}{δ:DS}{P:Bool->DS->Prop}:bB (.dat m (.bool b)) δ P=(P b δ):=rfl
theorem e_tru{de:DE}{δ:DS}{P:Bool->DS->Prop}:n6 de δ P=(de δ λx δ'=>F5 x δ' P):=rfl
theorem e_truB{m:Md}{d:Ab}{δ:DS}{P:Bool->DS->Prop}:F5 (.dat m d) δ P=(G3 d/\P (uV d) δ):=rfl
theorem e_notT{dt:DT}{δ:DS}{P:Bool->DS->Prop}:xW dt δ P=(dt δ λb δ'=>P (!b) δ'):=rfl
theorem e_andT{dt du:DT}{δ:DS}{P:Bool->DS->Prop}:yV dt du δ P=(dt δ λb δ'=>p8 du b δ' P):=rfl
theorem e_orT{dt du:DT}{δ:DS}{P:Bool->DS->Prop}:E3 dt du δ P=(dt δ λb δ'=>U8 du b δ' P):=rfl
theorem e_orTf{du:DT}{δ:DS}{P:Bool->DS->Prop}:U8 du false δ P=(du δ P):=rfl
theorem e_ifE{dt:DT}{da db:DE}{δ:DS}{P:DV->DS->Prop}:L0 dt da db δ P=(dt δ λb δ'=>V6 da db b δ' P):=rfl
theorem e_neg{de:DE}{δ:DS}{P:DV->DS->Prop}:N5 de δ P=(de δ λx δ'=>C1 x δ' P):=rfl
theorem e_negB{m:Md}{i:Int}{δ:DS}{P:DV->DS->Prop}:C1 (.dat m (.int i)) δ P=(P (.dat .ow (.int (-i))) δ):=rfl
theorem e_dL{de:DE}{δ:DS}{P:Md->List Ab->DS->Prop}:dL de δ P=(de δ λx δ'=>lB x δ' P):=rfl
theorem e_dTp{de:DE}{δ:DS}{P:Md->List Ab->DS->Prop}:V4 de δ P=(de δ λx δ'=>Q3 x δ' P):=rfl
theorem e_lB{m:Md}{ds:List Ab}{δ:DS}{P:Md->List Ab->DS->Prop}:lB (.dat m (.list ds)) δ P=(P (Ja m) ds δ):=rfl
theorem e_tpB{m:Md}{ds:List Ab}{δ:DS}{P:Md->List Ab->DS->Prop}:Q3 (.dat m (.tuple ds)) δ P=(P (Ja m) ds δ):=rfl
theorem e_tpB_w1{nds:List Int}{m:Md}{ds:List Ab}{δ:DS}{P:Md->List Ab->DS->Prop}:Q3 (.dat m (Ca nds)) δ P=(P (Ja m) (nds.map Bl) δ):=rfl
theorem e_range1{da:DA}{δ:DS}{P:Md->List Ab->DS->Prop}:gI da δ P=(da δ λxs δ'=>xS xs δ' P):=rfl
theorem e_rng1B{m:Md}{j:Int}{δ:DS}{P:Md->List Ab->DS->Prop}:xS [.dat m (.int j)] δ P=(-1000000<=j/\j<=1000000/\P .sh ((Ew j.toNat).map λi:Nat=>.int i) δ):=rfl
theorem e_enum{da:DA}{δ:DS}{P:Md->List Ab->DS->Prop}:rM da δ P=(da δ λxs δ'=>yP xs δ' P):=rfl
theorem e_enumB{m:Md}{ds:List Ab}{δ:DS}{P:Md->List Ab->DS->Prop}:yP [.dat m (.list ds)] δ P=(P (Ja m) (ds.zipIdx.map λp=>.tuple [.int p.2,p.1]) δ):=rfl
theorem e_for{di:DI}{dg:DG}{db:DB}{D:DEnds}{δ:DS}:G6 di dg db D δ=(di δ (F9 dg db D)):=rfl
theorem e_comp{di:DI}{js:List Nat}{dc:DT}{de:DE}{δ:DS}{P:DV->DS->Prop}:pA di js dc de δ P=(di δ (pM js dc de P)):=rfl
theorem e_compL{di:DI}{js:List Nat}{dc:DT}{de:DE}{δ:DS}{P:DV->DS->Prop}:gW di js dc de δ P=(di δ (iJ js dc de P)):=rfl
theorem e_stepL{dc:DT}{de:DE}{δ:DS}{yes:Ab->Nat->Prop}{no:Nat->Prop}:Ho false dc de δ yes no=(dc δ λb δ2=>jM de yes no b δ2):=rfl
theorem e_stepLT{de:DE}{δ:DS}{yes:Ab->Nat->Prop}{no:Nat->Prop}:jM de yes no true δ=(de δ λy δ3=>lX yes y δ3):=rfl
theorem e_stepLF{de:DE}{δ:DS}{yes:Ab->Nat->Prop}{no:Nat->Prop}:jM de yes no false δ=(no δ.n):=rfl
theorem e_compD{di:DI}{js1 js2:List Nat}{j0:Nat}{dc:DT}{de:DE}{δ:DS}{P:DV->DS->Prop}:gS di js1 j0 js2 dc de δ P=(di δ (tY js1 j0 js2 dc de P)):=rfl
theorem e_noTest{δ:DS}{P:Bool->DS->Prop}:Ol δ P=(P true δ):=rfl
theorem e_step{dc:DT}{de:DE}{δ:DS}{yes:Ab->Nat->Prop}{no:Nat->Prop}:Sd dc de δ yes no=(dc δ λb δ2=>lM de yes no b δ2):=rfl
theorem e_stepT{de:DE}{δ:DS}{yes:Ab->Nat->Prop}{no:Nat->Prop}:lM de yes no true δ=(de δ λy δ3=>vL yes y δ3):=rfl
theorem e_stepF{de:DE}{δ:DS}{yes:Ab->Nat->Prop}{no:Nat->Prop}:lM de yes no false δ=(no δ.n):=rfl
theorem e_yesB{m:Md}{e:Ab}{δ:DS}{yes:Ab->Nat->Prop}:vL yes (.dat m e) δ=(imm e=true/\yes e δ.n):=rfl
theorem e_stepD{p:Nat}{dc:DT}{de:DE}{δ:DS}{yes:Ab->Nat->Prop}{no:Nat->Prop}:Nv p dc de δ yes no=(dc δ λb δ2=>pE p de yes no b δ2):=rfl
theorem e_stepDT{p:Nat}{de:DE}{δ:DS}{yes:Ab->Nat->Prop}{no:Nat->Prop}:pE p de yes no true δ=(de δ λy δ3=>sW p yes y δ3):=rfl
theorem e_yesBD{p:Nat}{m:Md}{e:Ab}{δ:DS}{yes:Ab->Nat->Prop}:sW p yes (.dat m e) δ=(imm e=true/\δ.sl[p]? = some .drw/\yes e δ.n):=rfl
theorem e_call{pf:PF}{da:DA}{δ:DS}{P:DV->DS->Prop}:sM pf da δ P=(da δ λxs δ1=>callB pf xs δ1 P):=rfl
theorem e_callW{i:Nat}{df:DF}{da:DA}{δ:DS}{P:DV->DS->Prop}:jC i df da δ P=(match δ.sl[i]? with | some .drw=>da δ λxs δ1=>callBW i df xs δ1 P | _=>False):=rfl
theorem e_draws{da:DA}{δ:DS}{P:DV->DS->Prop}:rO da δ P=(da δ λxs δ1=>sF xs δ1 P):=rfl
theorem e_drawsB{m:Md}{i:Int}{δ:DS}{P:DV->DS->Prop}:sF [.dat m (.int i)] δ P=(P .drw δ):=rfl
theorem e_insert{i:Nat}{dk de:DE}{D:DEnds}{δ:DS}:aP i dk de D δ=(match δ.sl[i]? with | some (.dat _ (.list _))=>dk δ λz δ1=>de δ1 λy δ2=>insB i z y δ2 D | _=>False):=rfl
theorem e_appendO{i:Nat}{de:DE}{D:DEnds}{δ:DS}:Xq i de D δ=(match δ.sl[i]? with | some (.dat _ (.list _))=>de δ λy δ1=>appOB i y δ1 D | _=>False):=rfl
theorem e_scrSl{i:Nat}{dl dh:DO}{δ:DS}{P:DV->DS->Prop}:iH i dl dh δ P=(match δ.sl[i]? with | some (.scr ns)=>dl δ λl δ2=>dh δ2 λh δ3=>P (.dat .ow (.list ((Ke ns l h).map Bl))) δ3 | _=>False):=rfl
theorem e_dcomp2{di:DI}{js:List Nat}{dc:DT}{dk dv:DE}{δ:DS}{P:DV->DS->Prop}:bE di js dc dk dv δ P=(di δ (lS js dc dk dv P)):=rfl
theorem e_dcStep{dc:DT}{dk dv:DE}{δ:DS}{yes:List Int->Ab->Nat->Prop}{no:Nat->Prop}:aX dc dk dv δ yes no=(dc δ λc δ2=>V8 dk dv yes no c δ2):=rfl
theorem e_dcBT{dk dv:DE}{δ:DS}{yes:List Int->Ab->Nat->Prop}{no:Nat->Prop}:V8 dk dv yes no true δ=(dk δ λy δ3=>dv δ3 λz δ4=>fR yes y z δ4):=rfl
theorem e_dcYes{m m':Md}{k e:Ab}{δ:DS}{yes:List Int->Ab->Nat->Prop}:fR yes (.dat m k) (.dat m' e) δ=(∃w,k=Ca w/\imm e=true/\yes w e δ.n):=rfl
theorem e_compN{b:Bool}{di di2:DI}{js:List Nat}{de:DE}{δ:DS}{P:DV->DS->Prop}:iI b di js di2 de δ P=(di δ λm ds δ1=>G4 b js di2 de P m ds δ1):=rfl
theorem e_callA{pf:PF}{da:DA}{δ:DS}{P:DV->DS->Prop}:tV pf da δ P=(da δ λxs δ1=>noPk xs=true/\callAB pf xs δ1 P):=rfl
section
variable{t u:DB}{D:DEnds}{δ δ1:DS}
theorem dR{α:Type}{dg:DG}{db:DB}{ds:List Ab}{l:List α}{g:α->Ab}(e:ds=l.map g)(I:Nat->DS->Prop)(h0:I 0 δ1)(hs:∀i a δ',l[i]? = some a->I i δ'->dg (.dat .sh (g a)) δ' λδ2=>db { D with nx:=I (i+1),ct:=I (i+1),bk:=D.nx } δ2)(hf:∀δ',I l.length δ'->D.nx δ'):F9 dg db D .sh ds δ1:=by
 subst e
 refine ⟨rfl,I,h0,λi d δ' hd hI=>?_,λδ' h=>hf δ' (by rw[Af] at h; exact h)⟩
 rw[Bg] at hd
 cases q:l[i]? with
 | none=>rw[q] at hd; cases hd
 | some a=>rw[q] at hd; cases hd; exact hs i a δ' q hI
end
section
variable{js:List Nat}{dc:DT}{de:DE}{P:DV->DS->Prop}{m:Md}{ds:List Ab}{δ1:DS}{α:Type}
theorem kN{l:List α}{g:α->Ab}(e:ds=l.map g)(p:α->Bool)(f:α->Ab)(h:∀a∈l,∀(yes:Ab->Nat->Prop) (no:Nat->Prop),(p a=true->yes (f a) δ1.n)->(p a=false->no δ1.n)->Sd dc de ⟨.dat m (g a)::frD δ1.sl js,δ1.n⟩ yes no)(q:P (.dat .ow (.list ((l.filter p).map f))) δ1):pM js dc de P m ds δ1:=by
 subst e
 refine ⟨λi acc n=>n=δ1.n/\acc=((l.take i).filter p).map f,⟨rfl,by simp⟩,λi d acc n hd ⟨hn,ha⟩=>?_,λacc n ⟨hn,ha⟩=>?_⟩
 ·subst hn ha
  rw[Bg] at hd
  cases q:l[i]? with
  | none=>rw[q] at hd; cases hd
  | some a =>
   rw[q] at hd
   cases hd
   refine h a (Ar q) _ _ (λhp=>⟨rfl,?_⟩) (λhp=>⟨rfl,?_⟩)
   ·rw[Iq q,Nf,Az]; simp [hp]
   ·rw[Iq q,Nf,Az]; simp [hp]
 ·subst hn ha
  rw[Af,Dq]
  exact q
theorem xR{l:List α}{g:α->Ab}(e:ds=l.map g)(f:α->Ab)(h:∀a∈l,∀(yes:Ab->Nat->Prop) (no:Nat->Prop),yes (f a) δ1.n->Sd dc de ⟨.dat m (g a)::frD δ1.sl js,δ1.n⟩ yes no)(q:P (.dat .ow (.list (l.map f))) δ1):pM js dc de P m ds δ1:=by
 refine kN e (λ_=>true) f (λa ha yes no hy _=>h a ha yes no (hy rfl)) ?_
 rw[oV.mpr λ_ _=>rfl]
 exact q
theorem tP{l:List α}{g:α->Ab}(e:ds=l.map g)(p:α->Bool)(f:α->Ab)(h:∀a∈l,∀(yes:Ab->Nat->Prop) (no:Nat->Prop),(p a=true->yes (f a) δ1.n)->(p a=false->no δ1.n)->Ho false dc de ⟨.dat m (g a)::frD δ1.sl js,δ1.n⟩ yes no)(q:P (.dat .tp (.list ((l.filter p).map f))) δ1):iJ js dc de P m ds δ1:=by
 subst e
 refine ⟨λi acc n=>n=δ1.n/\acc=((l.take i).filter p).map f,⟨rfl,by simp⟩,λi d acc n hd ⟨hn,ha⟩=>?_,λacc n ⟨hn,ha⟩=>?_⟩
 ·subst hn ha
  rw[Bg] at hd
  cases q:l[i]? with
  | none=>rw[q] at hd; cases hd
  | some a =>
   rw[q] at hd
   cases hd
   refine h a (Ar q) _ _ (λhp=>⟨rfl,?_⟩) (λhp=>⟨rfl,?_⟩)
   ·rw[Iq q,Nf,Az]; simp [hp]
   ·rw[Iq q,Nf,Az]; simp [hp]
 ·subst hn ha
  rw[Af,Dq]
  exact q
theorem j9{l:List α}{g:α->Ab}(e:ds=l.map g)(f:α->Ab)(h:∀a∈l,∀(yes:Ab->Nat->Prop) (no:Nat->Prop),yes (f a) δ1.n->Ho false dc de ⟨.dat m (g a)::frD δ1.sl js,δ1.n⟩ yes no)(q:P (.dat .tp (.list (l.map f))) δ1):iJ js dc de P m ds δ1:=by
 refine tP e (λ_=>true) f (λa ha yes no hy _=>h a ha yes no (hy rfl)) ?_
 rw[oV.mpr λ_ _=>rfl]
 exact q
theorem xM{js1 js2:List Nat}{j0:Nat}{l:List α}{g:α->Ab}(e:ds=l.map g)(hj:δ1.sl[j0]? = some .drw)(I:Nat->List Ab->Nat->Prop)(h0:I 0 [] δ1.n)(h:∀i a acc n,l[i]? = some a->I i acc n->Nv (js1.length+1) dc de ⟨.dat m (g a)::(frD (δ1.sl.set j0 .un) js1++.drw::frD (δ1.sl.set j0 .un) js2),n⟩ (λe n'=>I (i+1) (acc++[e]) n') (λn'=>I (i+1) acc n'))(q:∀acc n,I l.length acc n->P (.dat .ow (.list acc)) ⟨δ1.sl,n⟩):tY js1 j0 js2 dc de P m ds δ1:=by
 subst e
 refine ⟨hj,I,h0,λi d acc n hd hI=>?_,λacc n hI=>q acc n (by rw[Af] at hI; exact hI)⟩
 rw[Bg] at hd
 cases q:l[i]? with
 | none=>rw[q] at hd; cases hd
 | some a=>rw[q] at hd; cases hd; exact h i a acc n q hI
end
theorem yG{t u:DB}{D:DEnds}{b:Bool}{δ:DS}(h1:b=true->t D δ)(h2:b=false->u D δ):F8 t u D b δ:=by
 cases b with
 | true=>exact h1 rfl
 | false=>exact h2 rfl
theorem J1{da db:DE}{b:Bool}{δ:DS}{P:DV->DS->Prop}(h1:b=true->da δ P)(h2:b=false->db δ P):V6 da db b δ P:=by
 cases b with
 | true=>exact h1 rfl
 | false=>exact h2 rfl
theorem iA{du:DT}{b:Bool}{δ:DS}{P:Bool->DS->Prop}(h1:b=true->du δ P)(h2:b=false->P false δ):p8 du b δ P:=by
 cases b with
 | true=>exact h1 rfl
 | false=>exact h2 rfl
theorem wN{de:DE}{yes:Ab->Nat->Prop}{no:Nat->Prop}{b:Bool}{δ:DS}(h1:b=true->de δ λy δ3=>vL yes y δ3)(h2:b=false->no δ.n):lM de yes no b δ:=by
 cases b with
 | true=>exact h1 rfl
 | false=>exact h2 rfl
class Im (d:Ab):Prop where
 h:imm d=true
class ImA (ds:List Ab):Prop where
 h:Dj ds=true
theorem im{d:Ab}[h:Im d]:imm d=true:=h.h
theorem X8{ds:List Ab}[h:ImA ds]:Dj ds=true:=h.h
instance {i:Int}:Im (.int i):=⟨by simp [imm]⟩
instance {i:Bool}:Im (.bool i):=⟨by simp [imm]⟩
instance {i:Str}:Im (.str i):=⟨by simp [imm]⟩
instance:Im .none:=⟨by simp [imm]⟩
instance {ds:List Ab} [h:ImA ds]:Im (.tuple ds):=⟨by rw[imm]; exact h.h⟩
instance {ns:List Int}:Im (Ca ns):=⟨sU ns⟩
instance:ImA []:=⟨by simp [Dj]⟩
instance {d:Ab} {ds:List Ab} [h:Im d] [t:ImA ds]:ImA (d::ds):=⟨by rw[Dj,h.h,t.h]; rfl⟩
instance {α:Type} {f:α->Ab} {l:List α} [h:∀a,Im (f a)]:ImA (l.map f):=⟨Rg (λa=>(h a).h) l⟩
instance {a b:List Ab} [h:ImA a] [k:ImA b]:ImA (a++b):=⟨by rw[Xc,h.h,k.h]; rfl⟩
class Dp (d:Ab) (k:outParam Nat):Prop where
 h:d.depth<=k
class DpA (ds:List Ab) (k:outParam Nat):Prop where
 h:Bd ds<=k
theorem dp{d:Ab}{k:Nat}[h:Dp d k](hk:k<=60:=by decide):d.depth<=60:=Bv h.h hk
instance {i:Int}:Dp (.int i) 0:=⟨by simp [Cq]⟩
instance {i:Bool}:Dp (.bool i) 0:=⟨by simp [Cq]⟩
instance {i:Str}:Dp (.str i) 0:=⟨by simp [Cq]⟩
instance:Dp .none 0:=⟨by simp [Cq]⟩
instance {ds:List Ab} {k:Nat} [h:DpA ds k]:Dp (.tuple ds) (k+1):=⟨by have:=h.h; simp only[Cq]; omega⟩
instance {ds:List Ab} {k:Nat} [h:DpA ds k]:Dp (.list ds) (k+1):=⟨by have:=h.h; simp only[Cq]; omega⟩
instance {ns:List Int}:Dp (Ca ns) 1:=⟨jD ns⟩
instance:DpA [] 0:=⟨by simp [Bd]⟩
instance {d:Ab} {ds:List Ab} {k j:Nat} [h:Dp d k] [t:DpA ds j]:DpA (d::ds) (k+j):=⟨by have:=h.h; have:=t.h; simp only[Bd]; omega⟩
instance {α:Type} {f:α->Ab} {l:List α} {k:Nat} [h:∀a,Dp (f a) k]:DpA (l.map f) k:=⟨Jl λx hx=>by
 obtain ⟨a,_,rfl⟩:=Ce.mp hx
 exact (h a).h⟩
theorem bH{a b:List Ab}:Bd (a++b)<=Bd a+Bd b:=by
 induction a with
 | nil=>simp [Bd]
 | cons x a ih=>simp only[Ec,Bd]; omega
instance {a b:List Ab} {k j:Nat} [h:DpA a k] [t:DpA b j]:DpA (a++b) (k+j):=⟨by have:=h.h; have:=t.h; have:=bH (a:=a) (b:=b); omega⟩
theorem eqD_str(i j:Str):Dr (.str i) (.str j)=(i == j):=by simp [Dr]
theorem uW(a b:List Ab):Dr (.tuple a) (.tuple b)=Mg a b:=by simp [Dr]
theorem eN{α:Type}[DecidableEq α]{f:α->Ab}(h:∀a b,Dr (f a) (f b)=decide (a=b)):∀l m:List α,Mg (l.map f) (m.map f)=decide (l=m)
 | [],[]=>by simp [Mg]
 | [],_::_=>by simp [Mg]
 | _::_,[]=>by simp [Mg]
 | a::l,b::m=>by simp [Mg,h,eN h l m]
theorem eqD_intd(i j:Int):Dr (.int i) (.int j)=decide (i=j):=by simp [Dr]; rfl
theorem tL(a b:List Int):Dr (Ca a) (Ca b)=decide (a=b):=by
 unfold Ca
 rw[uW,eN eqD_intd]
def wordsD(ws:List (List Int)):Ab:=.list (ws.map Ca)
instance {ws:List (List Int)}:Dp (wordsD ws) 2:=⟨(inferInstance:Dp (.list (ws.map Ca)) 2).h⟩
def K8(ns:List Int):Ab:=.list (ns.map Bl)
instance {ns:List Int}:Dp (K8 ns) 1:=⟨(inferInstance:Dp (.list (ns.map Bl)) 1).h⟩
theorem any_int(ns:List Int)(i:Int):((ns.map Bl).any λe=>Dr e (.int i))=decide (i∈ns):=by
 rw[Pr]
 induction ns with
 | nil=>rfl
 | cons n ns ih =>
  rw[On,ih]
  simp only[Qz,eqD_intd,Ak]
  by_cases h:n=i
  ·subst h; simp
  ·have : ¬ i=n:=λz=>h z.symm
   simp [h,this]
theorem any_map{α:Type}[DecidableEq α]{f:α->Ab}(h:∀a b,Dr (f a) (f b)=decide (a=b))(l:List α)(a:α):((l.map f).any λe=>Dr e (f a))=decide (a∈l):=by
 rw[Pr]
 induction l with
 | nil=>rfl
 | cons n ns ih =>
  rw[On,ih]
  simp only[Qz,h,Ak]
  by_cases h:n=a
  ·subst h; simp
  ·have : ¬ a=n:=λz=>h z.symm
   simp [h,this]
theorem any_word(ws:List (List Int))(a:List Int):((ws.map Ca).any λe=>Dr e (Ca a))=decide (a∈ws):=(any_map tL ws a).trans (decide_eq_decide.mpr Iff.rfl)
theorem vE{α β:Type}(f:α->β)(l:List α):(l.map f).zipIdx=l.zipIdx.map λp=>(f p.1,p.2):=by
 rw[List.zipIdx_map]
 rfl
theorem wJ{α β:Type}(f:α->β)(l:List α)(i:Int):So (l.map f) i=(So l i).map f:=by
 unfold So
 rw[Af]
 cases kW l.length i with
 | none=>rfl
 | some j=>simp
theorem dU{α:Type}{l:List α}{i:Int}(h0:0<=i)(h1:i<l.length):∃a,l[i.toNat]? = some a/\So l i=some a/\a∈l:=by
 have hk:i.toNat<l.length:=by omega
 refine ⟨l[i.toNat],by simp [hk],?_,List.getElem_mem hk⟩
 have q:So l ((i.toNat:Nat):Int)=some l[i.toNat]:=xI (by simp [hk])
 rwa [show ((i.toNat:Nat):Int)=i by omega] at q
theorem im_e{d:Ab}[h:Im d]:(imm d=true)=True:=eq_true h.h
theorem ima_e{ds:List Ab}[h:ImA ds]:(Dj ds=true)=True:=eq_true h.h
theorem dp_e{d:Ab}{k:Nat}[h:Dp d k](hk:k<=60):(d.depth<=60)=True:=eq_true (Bv h.h hk)
theorem dpa_e{ds:List Ab}{k:Nat}[h:DpA ds k](hk:k<=60):(Bd ds<=60)=True:=eq_true (Bv h.h hk)
theorem eqD_l0(a:List Ab):Dr (.list a) (.list [])=a.isEmpty:=vI a
theorem ow_e{d:Ab}{R:Ab->Prop}:(∃e,DV.dat .ow d=.dat .ow e/\R e)=R d:=by
 apply propext
 constructor
 ·(intro q_; obtain ⟨e,h,r⟩ := q_); cases h; exact r
 ·intro r; exact ⟨d,rfl,r⟩
theorem tt_e{m:Md}{b:Bool}:(∃m',DV.dat m (.bool b)=.dat m' (.bool true))=(b=true):=by
 apply propext
 constructor
 ·rintro ⟨e,h⟩; cases h; rfl
 ·intro r; subst r; exact ⟨m,rfl⟩
theorem cdiv_e{i j:Int}:t9 i j=(0<j/\j<1073741824):=rfl
theorem eQ{sl sl':List DV}{n n':Nat}(h:sl=sl')(h':n=n'):(⟨sl,n⟩ : DS)=⟨sl',n'⟩:=by subst h h'; rfl
theorem Xg{j i a:Nat}(h:(Ew j)[i]? = some a):a=i/\i<j:=by
 obtain ⟨h1,h2⟩:=Al.mp h
 rw[Gr] at h1
 rw[List.getElem_range] at h2
 exact ⟨h2.symm,h1⟩
def NP(v:DV):Prop:=∀l,npk (v::l)=npk l
theorem Js:NP .un:=λ_=>rfl
theorem Kz{d:Ab}:NP (.dat .sh d):=λ_=>rfl
theorem xU{d:Ab}:NP (.dat .ow d):=λ_=>rfl
theorem A4:NP .drw:=λ_=>rfl
theorem E4{t u:DB}{D:DEnds}(X:(Bool->DS->Prop)->Prop)(J:DS->Prop)(h:∀N:DS->Prop,(∀δ',J δ'->N δ')->X (F8 t u { D with nx:=N }))(k:∀δ',J δ'->D.nx δ'):X (F8 t u D):=h D.nx k
theorem fold_w(w:List Int):PyData.tuple (List.map Bl w)=Ca w:=rfl
theorem isi_tt(ds:List Ab):Ym (.tuple ds) "tuple" = true:=by simp [Ym,yB]
theorem isi_ib(i:Int):Ym (.int i) "bool" = false:=by simp [Ym,yB]
theorem isi_ii(i:Int):Ym (.int i) "int" = true:=by simp [Ym,yB]
theorem F7{ns:List Int}(k:Nat):(Ke ns none (some (k:Int))).length<=k:=by
 rw[mF,Cn]
 exact Nat.min_le_left _ _
theorem ifB_lf{t u:DB}{D:DEnds}{δ:DS}:F8 t u D false δ=u D δ:=rfl
theorem str_self(s:Str):(s == s)=true:=by simp
theorem jX{α:Type}{l:List α}{i:Nat}{a:α}(h:l[i]? = some a):So l (i:Int)=some a:=by
 obtain ⟨b,e1,e2,_⟩:=dU (l:=l) (i:=(i:Int)) (by omega) (by have:=(Al.mp h).1; omega)
 rw[e2,<- e1,<- h]; rfl
theorem okT_l{ds:List Ab}:G3 (.list ds)=True:=rfl
theorem yesL_ow{e:Ab}{δ:DS}{yes:Ab->Nat->Prop}:lX yes (.dat .ow e) δ=yes e δ.n:=propext ⟨λh=>h.2,λh=>⟨by decide,h⟩⟩
theorem yesL_sh{e:Ab}{δ:DS}{yes:Ab->Nat->Prop}:lX yes (.dat .sh e) δ=yes e δ.n:=propext ⟨λh=>h.2,λh=>⟨by decide,h⟩⟩
theorem fY{α:Type}{l:List α}(h:l≠[]):∃a∈l,So l (-1)=some a/\l.getLast? = some a:=by
 have hp:=Jk.mpr h
 refine ⟨l[l.length - 1],List.getElem_mem _,?_,?_⟩
 ·unfold So kW
  rw[if_neg (by decide),if_pos (by omega),show ((-1:Int)+l.length).toNat=l.length - 1 by omega]
  simp [hp]
 ·rw[List.getLast?_eq_getElem?]; simp [hp]
theorem atI_0{α:Type}(x:α)(l:List α):So (x::l) 0=some x:=jX (i:=0) rfl
theorem atI_1{α:Type}(x y:α)(l:List α):So (x::y::l) 1=some y:=jX (i:=1) rfl
theorem some_e{α:Type}{a:α}{R:α->Prop}:(∃d,some a=some d/\R d)=R a:=propext ⟨λ⟨_,e,h⟩=>by cases e; exact h,λh=>⟨a,rfl,h⟩⟩
theorem P3{a:Addr}{ks:List (List Int×Ab)}{w:List Int}{m m':Md}{P:DV->Prop}:vU (.dat m (.dict (p6 a ks))) (.dat m' (Ca w)) P=∃d,Pj ks w=some d/\P (.dat .ow d):=propext ⟨λ⟨a',ks',w',d,e1,e2,h⟩=>by obtain ⟨_,rfl⟩:=vF e1; cases Nn e2; exact ⟨d,h⟩,λ⟨d,h⟩=>⟨a,ks,w,d,rfl,rfl,h⟩⟩
theorem dget_e{ks:List (List Int×Ab)}{w:List Int}{m m':Md}{P:DV->Prop}:cG (.dat m (.dict (cN ks))) (.dat m' (Ca w)) P=∃d,Pj ks w=some d/\P (.dat .ow d):=propext ⟨λ⟨ks',w',d,e1,e2,h⟩=>by cases Vm e1; cases Nn e2; exact ⟨d,h⟩,λ⟨d,h⟩=>⟨ks,w,d,rfl,rfl,h⟩⟩
theorem dinF_e{ks:List (List Int×Ab)}{w:List Int}{m m':Md}{P:DV->Prop}:kT false (.dat m' (Ca w)) (.dat m (.dict (cN ks))) P=P (.dat .ow (.bool (Pj ks w).isSome)):=propext ⟨λ⟨ks',w',e1,e2,h⟩=>by cases Vm e1; cases Nn e2; exact h,λh=>⟨ks,w,rfl,rfl,h⟩⟩
theorem wd_e{k:List Int}{R:List Int->Prop}:(∃w,Ca k=Ca w/\R w)=R k:=by
 apply propext
 constructor
 ·(intro q_; obtain ⟨w,h,r⟩ := q_); rw[Nn h]; exact r
 ·intro r; exact ⟨k,rfl,r⟩
theorem wB{js:List Nat}{dc:DT}{dk dv:DE}{P:DV->DS->Prop}{m:Md}{ds:List Ab}{δ1:DS}{α:Type}{l:List α}{g1 g2:α->Ab}(e:ds=l.map λa=>.tuple [g1 a,g2 a])(hl:l.length<=1000000)(kf:α->List Int)(vf:α->Ab)(nd:(l.map kf).Nodup)(h:∀a∈l,∀(yes:List Int->Ab->Nat->Prop) (no:Nat->Prop),yes (kf a) (vf a) δ1.n->aX dc dk dv ⟨.dat m (g1 a)::.dat m (g2 a)::frD δ1.sl js,δ1.n⟩ yes no)(q:P (.dat .ow (.dict (cN (l.map λa=>(kf a,vf a))))) δ1):lS js dc dk dv P m ds δ1:=by
 subst e
 refine ⟨by rw[Af]; exact hl,λi acc n=>n=δ1.n/\acc=(l.take i).map λa=>(kf a,vf a),⟨rfl,by simp⟩,λi d acc n hd ⟨hn,ha⟩=>?_,λacc n ⟨hn,ha⟩=>?_⟩
 ·subst hn ha
  rw[Bg] at hd
  cases q:l[i]? with
  | none=>rw[q] at hd; cases hd
  | some a =>
   rw[q] at hd
   cases hd
   refine ⟨_,_,rfl,h a (Ar q) _ _ ⟨rfl,?_⟩⟩
   rw[Iq q,Az]
   unfold Yj
   rw[if_neg]
   ·rfl
   ·rw[Pr,List.any_eq_true]
    (intro q_; obtain ⟨x,hx,hxe⟩ := q_)
    have hxe:kf x=kf a:=of_decide_eq_true hxe
    obtain ⟨hi,hqa⟩:=Al.mp q
    obtain ⟨j,hj⟩:=lY.mp hx
    have hj':=(Al.mp hj).1
    rw[Cn] at hj'
    rw[List.getElem?_take,if_pos (by omega)] at hj
    have z:=(List.getElem?_inj (l:=l.map kf) (i:=j) (j:=i) (by rw[Af]; omega) nd).mp (by rw[Bg,Bg,hj,q]; exact congrArg some hxe)
    omega
 ·subst hn ha
  rw[Af,Dq]
  exact q
theorem retA_sh{d:Ab}{R:Ab->Prop}:(∃m d',DV.dat .sh d=.dat m d'/\m≠.pk/\R d')=R d:=propext ⟨λ⟨m,d',e,_,h⟩=>by cases e; exact h,λh=>⟨_,_,rfl,by decide,h⟩⟩
theorem retA_tp{d:Ab}{R:Ab->Prop}:(∃m d',DV.dat .tp d=.dat m d'/\m≠.pk/\R d')=R d:=propext ⟨λ⟨m,d',e,_,h⟩=>by cases e; exact h,λh=>⟨_,_,rfl,by decide,h⟩⟩
theorem ow_npk:(Md.ow≠Md.pk)=True:=eq_true (by decide)
end DL
namespace K16
open PySem L2 Nd DL
def Rj(i:Nat):Stmt:=PySem.Challenge.pw_needledeck_k16_two_words_in_a_chain.main.body.getD i (.Pass ⟨0,0,0,0⟩)
abbrev Vj:Stmt:=Rj 1
abbrev Su:Stmt:=Rj 2
abbrev Nm:Stmt:=Rj 3
abbrev cF:Stmt:=Rj 5
abbrev lF:Stmt:=Rj 6
abbrev Kj:Stmt:=Rj 7
abbrev Lp:Stmt:=Rj 8
abbrev Kn:Stmt:=Rj 9
abbrev My:Stmt:=Rj 10
abbrev Hi:Stmt:=Rj 11
abbrev cD:Stmt:=Rj 12
section
variable{P:Bx}{w:World}{K:PySem.W.Frag}{mg:Str->Option Value}{base:Heap}
theorem W8:FnScope ["_law_cell"] ["_law_cell"] (Cc cF):=⟨rfl,rfl,rfl,by decide +kernel,rfl,by decide +kernel,by decide +kernel⟩
theorem sH{f:Addr}{fd:Cr}(F:Fun K "_law_draws" "_law_draws" cF f fd):FnOk P w K mg base Jw 1 f fd ["_law_cell"] lU:=by
 refine F.ok W8 (λvs H Q E h=>?_) (λcdv A outer s H vs Q E hr h=>?_)
 ·obtain ⟨c,rfl,_⟩:=h
  rfl
 obtain ⟨c,rfl,q⟩:=h
 refine ⟨_,Qd (Wz (gU (Gh (pv 0) (Gh Fm (Gh (jZ yF (pv 0) (Ir jF Fm Fm) (Pb _)) Kv))))),?_⟩
 refine ⟨_,rfl,_,rfl,10,18,rfl,rfl,⟨by decide,by decide,by decide⟩,_,_,rfl,rfl,(by show 3<=Aq; decide),λp hp=>?_⟩
 exact q p _ _ hp Dd (En hp _)
theorem X6:FnScope ["_law_draws_here", "_law_k", "_law_number"] ["_law_draws_here"] (Cc lF):=⟨rfl,rfl,rfl,by decide +kernel,rfl,by decide +kernel,by decide +kernel⟩
theorem uX{f:Addr}{fd:Cr}(F:Fun K "_law_next" "_law_next" lF f fd):FnOk P w K mg base Jw 1 f fd ["_law_draws_here"] sP:=by
 refine F.ok X6 (λvs H Q E h=>?_) (λcdv A outer s H vs Q E hr h=>?_)
 ·obtain ⟨d,c,k,fl,rfl,_⟩:=h
  rfl
 obtain ⟨d,c,k,fl,rfl,hd,h0,h1,q⟩:=h
 refine ⟨_,Iz (gR (Ir Xe (Xh Qc (pv 0) Fm (λ_ _=>rfl)) Fm) (qP (pv 0) Fm dW))
  (Iz (Pi (i:=1) X6.nd rfl (El rfl) (Xh Qc (pv 0) Fm (λ_ _=>rfl)))
  (Iz (yK (qN (Xh Qc (pv 0) Fm (λ_ _=>rfl)))
   (Iz (Pi (i:=2) X6.nd rfl (El rfl) (Ir Uh (Xh Qc (pv 0) Fm (λ_ _=>rfl)) (Ir jF Fm Fm)))
    (Iz (gR (Ir bA (Xh Qc (pv 0) Fm (λ_ _=>rfl)) (Ir jF Fm Fm)) (qP (pv 0) Fm dW))
    (Qd (Wz (pv 2))))) lT)
  (Iz (Pi (i:=2) X6.nd rfl (El rfl) (Ir Uh (Ir Vy (Ir Xe (Ir Xe (Ir Uh (Xh Qc (pv 0) Fm (λ_ _=>rfl)) Fm) (Ir Vy (Ir Vy (pv 1) (pv 1)) Fm)) (pv 1)) Fm) Fm))
  (Iz (Pi (i:=2) X6.nd rfl (El rfl) (Ir Uh (Ir Vy (pv 2) (pv 2)) Fm))
  (Qd (Wz (Ir bA (Ir Uh (Ir Vy (pv 2) (Ir Xe (pv 2) Fm)) Fm) Fm))))))),?_⟩
 -- draws[1]=draws[1]+1
 refine ⟨_,rfl,d,_,1,_,rfl,rfl,Rr.of hd,rfl,_,_,rfl,rfl,_,rfl,d,_,1,1,rfl,rfl,hd,rfl,?_⟩
 have e1:(upd H d (.lst ([V.int c,V.int k,V.bl fl].set 1 (V.int (k+1))))) d=some (.lst [.int c,.int (k+1),.bl fl]):=Dd
 generalize hH1:upd H d (.lst ([V.int c,V.int k,V.bl fl].set 1 (V.int (k+1))))=H1 at e1
 have s1:Qt d H H1:=by rw[<- hH1]; exact Qt.upd
 -- k=draws[1]; if draws[2]
 refine ⟨_,rfl,d,_,1,_,rfl,rfl,Rr.of e1,rfl,_,rfl,d,_,2,_,rfl,rfl,Rr.of e1,rfl,_,rfl,?_⟩
 refine U4 (λ_=>?_) (λ_=>?_)
 ·refine ⟨_,rfl,d,_,0,_,rfl,rfl,Rr.of e1,rfl,10,6,rfl,rfl,⟨by decide,by decide,by decide⟩,_,_,rfl,rfl,(by show (0:Int)<10 ^ (6:Int).toNat; decide),?_⟩
  refine ⟨_,rfl,d,_,0,_,rfl,rfl,Rr.of e1,rfl,10,6,rfl,rfl,⟨by decide,by decide,by decide⟩,_,_,rfl,rfl,⟨by decide,by decide⟩,_,rfl,d,_,0,0,rfl,rfl,e1,rfl,_,rfl,?_⟩
  exact q _ _ _ Dd (s1.trans Qt.upd)
 ·have m1:=Vl c 1000003 (by decide)
  have b1:=Vl ((c % 1000003+(k+1) * (k+1) * 7919+(k+1)) * 48271) 2147483629 (by decide)
  refine ⟨_,rfl,d,_,0,_,rfl,rfl,Rr.of e1,rfl,_,_,rfl,rfl,(by show (0:Int)<1000003; decide),_,rfl,_,rfl,_,_,rfl,rfl,.inl ⟨by omega,by omega⟩,_,_,rfl,rfl,.inr ⟨by decide,by decide⟩,_,_,rfl,rfl,_,rfl,_,_,rfl,rfl,
   _,_,rfl,rfl,.inr ⟨by decide,by decide⟩,_,_,rfl,rfl,(by show (0:Int)<2147483629; decide),?_⟩
  generalize ((c % 1000003+(k+1) * (k+1) * 7919+(k+1)) * 48271) % 2147483629=x at b1
  have b2:=Vl (x * x) 2147483587 (by decide)
  refine ⟨_,rfl,_,rfl,_,_,rfl,rfl,.inl ⟨by omega,by omega⟩,_,_,rfl,rfl,(by show (0:Int)<2147483587; decide),?_⟩
  generalize (x * x) % 2147483587=y at b2
  refine ⟨_,rfl,_,rfl,_,_,rfl,rfl,_,_,rfl,rfl,.inl ⟨by omega,by omega⟩,_,_,rfl,rfl,(by show (0:Int)<2147483579; decide),_,_,rfl,rfl,⟨by decide,by decide⟩,?_⟩
  exact q _ _ _ e1 s1
theorem oB{f:Addr}{fd:Cr}(F:Fun K "_law_draws" "_law_draws" cF f fd):FnOk P w K mg base Jw 1 f fd ["_law_cell"] Sk:=qW (sH F)
theorem tT{f:Addr}{fd:Cr}(F:Fun K "_law_next" "_law_next" lF f fd):FnOk P w K mg base Jw 1 f fd ["_law_draws_here"] (o7 K Wo):=vZ (uX F)
end
end K16
namespace DL
open PySem L2 Nd
def sub(a b:List Int):Bool:=a.all λi=>decide (i∈b)
def fZ(a b:List Int):List Int:=a.filter λi=>decide (i∉b)
theorem Tt(a:Int){b:Int}(h:0<b):0<=a % b/\a % b<b:=Vl a b h
end DL
namespace Nd
open PySem L2 Ts
def yO(K:PySem.W.Frag):R2:=λx y H Q=>∃a b xs ys,x=.ref a/\y=.ref b/\Qs K H a xs/\Qs K H b ys/\ys≠[]/\xs.length+ys.length<=Aq/\(xs=[]->Q (.ref b) H)/\(xs≠[]->∀p,H p=none->Q (.ref p) (upd H p (.tup (xs++ys))))
open PyProof.Rows in
theorem xF{X:Cx}:Va X (Kc .Add) (yO X.K):=by
 intro pins s σ H x y v u Q I rx ry h
 obtain ⟨a,b,xs,ys,rfl,rfl,ha,hb,hy,hz,q1,q2⟩:=h
 by_cases hx:xs=[]
 ·cases rx
  cases ry
  obtain ⟨its,r1,p1,_⟩:=I.tuple ha
  obtain ⟨its2,r2,p2,_⟩:=I.tuple hb
  have e1:its=[]:=r1.nil_iff.mpr hx
  subst e1
  obtain ⟨⟨c1,d1,dt1,sl1⟩,g1,k1,n1,e1⟩:=id p1
  obtain ⟨⟨c2,d2,dt2,sl2⟩,g2,k2,n2,e2⟩:=id p2
  simp only at k1 e1 k2 e2
  subst k1 e1 k2 e2
  exact aA ⟨_,g1,rfl⟩ ⟨_,g2,rfl⟩ Qw Xx PySem.F.slot_tuple_add PySem.F.entry_tuple_add (PySem.F.args_tuple_add_2 _ _)
   (tuple_addW0 a b _ _ n1 n2 d1 d2 sl1 sl2 rfl) ⟨g1,g2,⟨.ref b,H,I,rfl,q1 hx⟩⟩
 ·exact lE pins s σ H (.ref a) (.ref b) v u Q I rx ry ⟨a,b,xs,ys,rfl,rfl,ha,hb,hx,hz,λz=>absurd z hy,λ_=>q2 hx⟩
def Ei:Nat->List (List Int)
 | 0=>[[]]
 | n+1=>Ei n++(Ei n).map (·++[(n:Int)])
theorem Xj:∀n,(Ei n).length=2 ^ n
 | 0=>rfl
 | n+1=>by
  show (Ei n++(Ei n).map (·++[(n:Int)])).length=2 ^ (n+1)
  rw[Ay,Af,Xj n,Vr]
  omega
theorem Sg{n:Nat}(h:n<=10):(Ei n).length<=1024:=by
 rw[Xj]
 exact Ft (by decide) h
theorem Mk:∀n,∀w∈Ei n,w.length<=n
 | 0,w,h=>by
  have : w=[]:=by simpa [Ei] using h
  rw[this]
  exact Ai _
 | n+1,w,h=>by
  rcases An.mp (show w∈Ei n++(Ei n).map (·++[(n:Int)]) from h) with h | h
  ·exact Nat.le_succ_of_le (Mk n w h)
  ·obtain ⟨v,hv,e⟩:=Ce.mp h
   rw[<- e,Ay,Ct]
   exact Nat.succ_le_succ (Mk n v hv)
theorem Ur:∀n,∃r,Ei n=[]::r
 | 0=>⟨[],rfl⟩
 | n+1=>by
  obtain ⟨r,e⟩:=Ur n
  refine ⟨r++(Ei n).map (·++[(n:Int)]),?_⟩
  show Ei n++(Ei n).map (·++[(n:Int)])=_
  conv=>lhs; lhs; rw[e]
  rfl
def Ord(l:List (List Int)):Prop:=l.Pairwise λx y=>HT.lexLt y x=false
def Ws(H:Hp)(ws:List (Addr×List Int)):Prop:=∀p∈ws,H p.1=some (.tup (p.2.map V.int))
def w5(H:Hp)(a:Addr):List Int:=match H a with
 | some (.tup xs)=>xs.filterMap λx=>match x with | .int i=>some i | _=>none
 | _=>[]
theorem aG{H:Hp}{a:Addr}{w:List Int}(h:H a=some (.tup (w.map V.int))):w5 H a=w:=by
 unfold w5
 rw[h]
 show (w.map V.int).filterMap _=w
 rw[List.filterMap_map]
 exact List.filterMap_some
theorem Ws.c{H:Hp}{ws:List (Addr×List Int)}(h:Ws H ws):(ws.map (·.1)).map (w5 H)=ws.map (·.2):=by
 rw[Eh]
 exact Me λp hp=>aG (h p hp)
def lJ:Sp:=λvs H Q _=>∃h:Int,vs=[.int h]/\0<=h/\h<=10 /\
 ∀(p:Addr) (rs:List Addr) (L:List (List Int)) (H':Hp),H p=none->H' p=some (.lst (rs.map V.ref))->(∀(i:Nat) (r:Addr) (w:List Int),rs[i]? = some r->L[i]? = some w->H' r=some (.tup (w.map V.int)))->rs.length=L.length->L.Perm (Ei h.toNat)->Ord L->Mi H H'->Q (.ref p) H'
end Nd
namespace Nd
open PySem L2
def ch:Nat->Nat->Nat
 | _,0=>1
 | 0,_+1=>0
 | n+1,k+1=>ch n k+ch n (k+1)
theorem kH(n k:Nat):ch (n+1) (k+1)=ch n k+ch n (k+1):=rfl
theorem Wq:∀{n k:Nat},n<k->ch n k=0
 | 0,0,h=>absurd h (Gd _)
 | 0,k+1,_=>rfl
 | n+1,0,h=>absurd h (Qm _)
 | n+1,k+1,h=>by rw[kH,Wq (by omega:n<k),Wq (by omega:n<k+1)]
theorem uO:∀n:Nat,ch n n=1
 | 0=>rfl
 | n+1=>by rw[kH,uO n,Wq (Ou n)]
def cw:Nat->Int->Nat->List (List Int)
 | _,_,0=>[[]]
 | 0,_,_+1=>[]
 | d+1,p,m+1=>(cw d (p+1) m).map (p::·)++cw d (p+1) (m+1)
def jI(Rj:Int):Nat->List Int->Nat
 | _,[]=>0
 | m,x::w=>ch (Rj - 1 - x).toNat m+jI Rj (m - 1) w
theorem Xs:∀{n:Nat} {w:List Int},w∈Ei n↔Fc n w
 | 0,w=>by
  show w∈[[]]↔_
  rw[Ac]
  constructor
  ·rintro rfl; exact Fc.nil _
  ·rintro ⟨_,h⟩
   match w with
   | []=>rfl
   | x::w=>have:=h x Aa; omega
 | n+1,w=>by
  show w∈Ei n++(Ei n).map (·++[(n:Int)])↔_
  rw[List.mem_append,List.mem_map,Xs]
  constructor
  ·rintro (h | ⟨v,hv,rfl⟩)
   ·exact h.up (by omega)
   ·have:=(Xs.mp hv).more (by omega)
    exact this.up (by omega)
  ·intro h
   by_cases hn:(n:Int)∈w
   ·refine .inr ⟨w.dropLast,Xs.mpr ?_,?_⟩
    ·have hne:w≠[]:=λz=>by rw[z] at hn; cases hn
     have hl:w.getLast hne=n:=by
      have h1:=h.2 _ (Os hne)
      by_cases e:w.getLast hne=n
      ·exact e
      ·exfalso
       have hd:=Cu hne
       rw[<- hd] at hn
       rcases An.mp hn with z | z
       ·have hp:=h.1
        rw[<- hd] at hp
        have:=(Bk.mp hp).2.2 _ z _ (Ac.mpr rfl)
        omega
       ·exact e (Ac.mp z).symm
     have hd:=Cu hne
     have hp:=h.1
     rw[<- hd,hl] at hp
     obtain ⟨p1,_,p3⟩:=Bk.mp hp
     exact ⟨p1,λx hx=>⟨(h.2 x (Fq w hx)).1,p3 x hx _ (Ac.mpr rfl)⟩⟩
    ·have hne:w≠[]:=λz=>by rw[z] at hn; cases hn
     have hl:w.getLast hne=n:=by
      have h1:=h.2 _ (Os hne)
      by_cases e:w.getLast hne=n
      ·exact e
      ·exfalso
       have hd:=Cu hne
       rw[<- hd] at hn
       rcases An.mp hn with z | z
       ·have hp:=h.1
        rw[<- hd] at hp
        have:=(Bk.mp hp).2.2 _ z _ (Ac.mpr rfl)
        omega
       ·exact e (Ac.mp z).symm
     rw[<- hl]
     exact Cu hne
   ·refine .inl ⟨h.1,λx hx=>?_⟩
    have:=h.2 x hx
    have : x≠n:=λz=>hn (by rw[<- z]; exact hx)
    omega
theorem Od:∀n:Nat,(Ei n).Nodup
 | 0=>Bt.mpr ⟨Bq,Cw⟩
 | n+1=>by
  show (Ei n++(Ei n).map (·++[(n:Int)])).Nodup
  refine Dh.mpr ⟨Od n,?_,λx hx y hy e=>?_⟩
  ·exact List.Pairwise.map _ (λa b h e=>h (gM e)) (Od n)
  ·subst e
   obtain ⟨v,_,rfl⟩:=Ce.mp hy
   have:=(Xs.mp hx).2 n (Ad _ (Ac.mpr rfl))
   omega
end Nd
namespace DL
open PySem L2 Nd
def aH:PF:=λds R=>∃h:Int,ds=[.int h]/\0<=h/\h<=10/\∀L:List (List Int),L.Perm (Ei h.toNat)->Ord L->R (wordsD L)
theorem eR{K:PySem.W.Frag}{H:Hp}:∀{rs:List Addr} {L:List (List Int)},(∀(i:Nat) (r:Addr) (w:List Int),rs[i]? = some r->L[i]? = some w->H r=some (.tup (w.map V.int)))->rs.length=L.length->(∀w∈L,w.length<=1000000)->RdFs K H (rs.map V.ref) (L.map Ca) []
 | [],[],_,_,_=>.nil
 | r::rs,w::L,h,l,hw=>by
  have a:=uT (K:=K) (h 0 r w rfl rfl) (hw w (Aa ..))
  have t:=eR (K:=K) (rs:=rs) (L:=L) (λi r' w' e1 e2=>h (i+1) r' w' e1 e2) (by simpa using l) (λw' z=>hw w' (Ae _ z))
  exact RdFs.cons a t
 | [],_::_,_,l,_=>by simp at l
 | _::_,[],_,l,_=>by simp at l
theorem Zo{L:List (List Int)}{n:Nat}(hn:n<=10)(p:L.Perm (Ei n)):L.length<=1024/\∀w∈L,Fc n w/\w.length<=10:=⟨by rw[p.length_eq]; exact Sg hn,λw hw=>⟨Xs.mp (p.mem_iff.mp hw),Bv (Mk n w (p.mem_iff.mp hw)) hn⟩⟩
section
variable{P:Bx}{w:World}{K:PySem.W.Frag}{mg:Str->Option Value}{base:Heap}{k:Nat}{f:Addr}{fd:Cr}{ps:List Str}
theorem qV(F:FnOk P w K mg base Jw k f fd ps lJ):FnOk P w K mg base Jw k f fd ps (nW K aH):=by
 refine F.imp λus H Q E h=>?_
 obtain ⟨As,n,ds,R,eu,ok,q,hp,k1⟩:=h
 obtain ⟨h,rfl,h0,h1,hR⟩:=hp
 obtain ⟨v1,F1,rfl,r1⟩:=rN eu ok q
 obtain ⟨rfl,_⟩:=r1.int_inv
 refine ⟨h,rfl,h0,h1,λp rs L H' np ep hr hl hp ho s=>?_⟩
 obtain ⟨l1,l2⟩:=Zo (n:=h.toNat) (by omega) hp
 refine k1 (.ref p) _ [p] H' (hR L hp ho) (RdF.lst ep (by rw[Af]; exact cO (by omega)) (eR hr hl λw hw=>by have:=(l2 w hw).2; omega)) (Bt.mpr ⟨Bq,Cw⟩) (λa ha=>?_) s
 rw[Ac.mp ha]; exact np
end
def pairD(p:Nat×Nat):Ab:=.tuple [.int p.1,.int p.2]
instance {p:Nat×Nat}:Im (pairD p):=⟨(inferInstance:Im (.tuple [.int p.1,.int p.2])).h⟩
instance {p:Nat×Nat}:Dp (pairD p) 1:=⟨(inferInstance:Dp (.tuple [.int p.1,.int p.2]) 1).h⟩
def yX(p:Nat×Nat×List Int):Ab:=.tuple [.int p.1,.int p.2.1,Ca p.2.2]
instance {p:Nat×Nat×List Int}:Im (yX p):=⟨(inferInstance:Im (.tuple [.int p.1,.int p.2.1,Ca p.2.2])).h⟩
instance {p:Nat×Nat×List Int}:Dp (yX p) 2:=⟨(inferInstance:Dp (.tuple [.int p.1,.int p.2.1,Ca p.2.2]) 2).h⟩
def U5(L:List (List Int))(f:List Int->Int):Ab:=.list ((L.map f).map Bl)
instance {L:List (List Int)} {f:List Int->Int}:Dp (U5 L f) 1:=⟨(inferInstance:Dp (.list ((L.map f).map Bl)) 1).h⟩
theorem eT{L:List (List Int)}{n:Nat}(p:L.Perm (Ei n)):L.Nodup:=p.nodup_iff.mpr (Od n)
theorem mH{L:List (List Int)}{n:Nat}(p:L.Perm (Ei n)){w:List Int}:w∈L↔Fc n w:=p.mem_iff.trans Xs
end DL
namespace DL
open PySem PySem.Spec PyProof.Rows L2 Nd
end DL
namespace DRow
open PySem L2 Nd DL
abbrev Cd:=List Int
def Uz(w u:List Int):Bool:=w.all λi=>decide (i∈u)
def u9(n1 n2:List Int)(ps:List (List Int×Bool)):Option Bool:=ps.foldl (λst p=>if Uz p.1 n1=Uz p.1 n2 then st else some (Uz p.1 n1 == !p.2)) none
theorem uQ(n1 n2:List Int)(ps:List (List Int×Bool))(p:List Int×Bool):u9 n1 n2 (ps++[p])=if Uz p.1 n1=Uz p.1 n2 then u9 n1 n2 ps else some (Uz p.1 n1 == !p.2):=by
 unfold u9
 rw[List.foldl_append]
 rfl
def Wd(ps:List (List Int×Bool))(n:List Int):List Int:=ps.reverse.map λp=>if Uz p.1 n=p.2 then 1 else 0
theorem Zs(ps:List (List Int×Bool))(p:List Int×Bool)(n:List Int):Wd (ps++[p]) n=(if Uz p.1 n=p.2 then 1 else 0)::Wd ps n:=by
 unfold Wd
 rw[List.reverse_append,Az]
 rfl
theorem tF{α:Type}{P:List α->Prop}(h0:P [])(h1:∀l x,P l->P (l++[x]))(l:List α):P l:=by
 have : ∀m:List α,P m.reverse:=λm=>by
  induction m with
  | nil=>exact h0
  | cons x m ih=>rw[List.reverse_cons]; exact h1 _ _ ih
 have:=this l.reverse
 rwa [List.reverse_reverse] at this
theorem tU(n1 n2:List Int)(ps:List (List Int×Bool)):(u9 n1 n2 ps=none↔Wd ps n1=Wd ps n2)/\(u9 n1 n2 ps=some true↔HT.lexLt (Wd ps n1) (Wd ps n2)=true):=by
 induction ps using tF with
 | h0=>exact ⟨⟨λ_=>rfl,λ_=>rfl⟩,⟨λh=>(by cases h),λh=>(by cases h)⟩⟩
 | h1 l p ih =>
  rw[uQ,Zs,Zs,HT.lexLt_cons]
  by_cases h:Uz p.1 n1=Uz p.1 n2
  ·rw[if_pos h,h,if_pos rfl]
   refine ⟨ih.1.trans ⟨λe=>by rw[e],λe=>(Fz e).2⟩,ih.2⟩
  ·rw[if_neg h]
   cases h1:Uz p.1 n1 <;> cases h2:Uz p.1 n2 <;> cases h3:p.2 <;> rw[h1,h2] at h <;> first | exact absurd rfl h | simp
theorem Oh(x y:List Int)(ps:List (List Int×Bool)):u9 x y ps=some false↔(¬ Wd ps x=Wd ps y/\¬ HT.lexLt (Wd ps x) (Wd ps y)=true):=by
 rw[<- (tU x y ps).1,<- (tU x y ps).2]
 cases u9 x y ps with
 | none=>simp
 | some b=>cases b <;> simp
def two(x y:Cd):Cd->Bool:=λr=>decide (r=x) || decide (r=y)
abbrev Ps:=List Int×Bool
def yM(p:Ps):Ab:=.tuple [Ca p.1,.str (qR p.2)]
instance {p:Ps}:Im (yM p):=⟨(inferInstance:Im (.tuple [Ca p.1,.str (qR p.2)])).h⟩
instance {p:Ps}:Dp (yM p) 2:=⟨(inferInstance:Dp (.tuple [Ca p.1,.str (qR p.2)]) _).h⟩
instance {α:Type} {f:α->Ab} {l:List α} {lo hi:Option Int} [h:∀a,Im (f a)]:ImA (Ke (l.map f) lo hi):=⟨by rw[gE]; exact X8⟩
end DRow
namespace DL
open PySem PySem.Spec PyProof.Rows L2 Nd DRow
theorem Xn{α β:Type}{f:α->β}:∀{l:List α},l.Nodup->(∀a∈l,∀b∈l,f a=f b->a=b)->(l.map f).Nodup
 | [],_,_=>Cw
 | x::l,nd,h=>by
  have nd':=Bt.mp nd
  rw[Ap,List.nodup_cons]
  refine ⟨λz=>?_,Xn nd'.2 λa ha b hb=>h a (Ae _ ha) b (Ae _ hb)⟩
  obtain ⟨y,hy,e⟩:=Ce.mp z
  have:=h y (Ae _ hy) x Aa e
  rw[this] at hy
  exact nd'.1 hy
end DL
namespace K16
open PySem L2 Nd DL
local macro_rules | `(tactic| array_get_dec) => do
  let ids:=(("e_min3 e_insertO e_insOB e_callWV e_callWVB e_appPop e_popB e_seq e_skip e_ret e_if e_asg e_name e_name2 e_name3 e_name4 e_own e_nF e_gtup e_gsn e_gsc e_op e_var e_c e_imm e_immB e_take e_frz e_frzo e_I e_I0 e_bestK e_eqF e_eqT e_inFl e_inTt_w1 e_ixl e_ixt e_cat e_catT_w1 e_nlT e_ntT e_pkOfsh e_pkOfow e_mdInsh e_mdInow e_mdItsh e_mdIttp e_mdItow e_nil e_cons e_tup e_lst e_noPart e_part e_partB e_sl e_slBl e_cb e_lenl e_lent e_tuplel e_sortT e_isi e_str e_v e_b e_bB e_tru e_truB e_notT e_andT e_orT e_orTf e_ifE e_neg e_negB e_dL e_dTp e_lB e_tpB e_tpB_w1 e_range1 e_rng1B e_enum e_enumB e_for e_comp e_compL e_stepL e_stepLT e_stepLF e_compD e_noTest e_step e_stepT e_stepF e_yesB e_stepD e_stepDT e_yesBD e_call e_callW e_draws e_drawsB e_insert e_appendO e_scrSl e_dcomp2 e_dcStep e_dcBT e_dcYes e_compN e_callA ow_npk retWT callAB retA retA_sh retA_tp wd_e isLst dget_e dinF_e wordsD callB callBW tupB lstB datas pkMd allOw noPk appOB mmd insB own1 npk retE retL args0 frD frD1 alD List.map_cons List.map_nil List.replicate List.getElem?_cons_zero List.getElem?_cons_succ List.set_cons_zero List.set_cons_succ List.cons_append List.nil_append Option.map_some List.length_cons List.length_nil List.append_nil rdAdd rdDiv rdMod rdLt rdGt rdGe if_true if_false Bool.false_eq_true List.append_assoc Nat.reduceAdd Nat.reduceSub Nat.reduceLeDiff true_and im_e ima_e dp_e dpa_e any_int any_word eqD_intd eqD_str eqD_l0 ow_e tt_e cdiv_e Int.reduceLT Int.reduceNeg and_self fold_w isi_tt isi_ib isi_ii Bool.not_true decide_true String.reduceEq or_true true_or List.isEmpty_nil ifB_lf str_self Int.cast_ofNat_Int atI_0 atI_1 some_e okT_l yesL_ow yesL_sh" : String).splitOn " ").toArray.map λ(x:String)=>Lean.mkIdent x.toName
  `(tactic| try simp only [$[$ids:ident],*])
def Cv(c:List (List Int)):Ab:=.list (c.map Ca)
def Dm(C:List (List (List Int))):Ab:=.list (C.map Cv)
def gO(w u:List Int):Bool:=w.all λi=>decide (i∈u)
theorem Q0{w u:List Int}:gO w u=true↔∀i∈w,i∈u:=by
 unfold gO
 rw[List.all_eq_true]
 simp
def Kw(c:List (List Int)):List Int:=c.getLastD []
def mN(c:List (List Int))(p:Int):List (List Int):=c.dropLast.map λw=>w++[p]
def Jh(c:List (List Int))(p:Int):List (List (List Int)):=if mN c p=[] then [c++[Kw c++[p]]] else [c++[Kw c++[p]],mN c p]
def Hr:Nat->List (List (List Int))
 | 0=>[[[]]]
 | n+1=>(Hr n).flatMap λc=>Jh c n
structure Cov(h:Nat)(C:List (List (List Int))):Prop where
 cover:∀w,Fc h w->∃c∈C,w∈c
 chain:∀c∈C,c.Pairwise λx y=>gO x y=true
 words:∀c∈C,∀w∈c,Fc h w
 ne:∀c∈C,c≠[]
 len:∀c∈C,c.length<=h+1
 nd:∀c∈C,c.Nodup
theorem bV{c:List (List Int)}{w:List Int}(h:w∈c):w=Kw c\/w∈c.dropLast:=by
 have ne:c≠[]:=λz=>by rw[z] at h; cases h
 have e:=Cu ne
 rw[<- e] at h
 rcases An.mp h with h | h
 ·exact .inr h
 ·refine .inl ?_
  unfold Kw
  rw[Gk,Du ne]
  exact Ac.mp h
theorem cI{c:List (List Int)}(ne:c≠[]):Kw c∈c:=by
 unfold Kw
 rw[Gk,Du ne]
 exact Os ne
theorem dP{c:List (List Int)}(hp:c.Pairwise λx y=>gO x y=true){w:List Int}(h:w∈c):gO w (Kw c)=true:=by
 rcases bV h with rfl | hd
 ·exact Q0.mpr λ_ z=>z
 have ne:c≠[]:=λz=>by rw[z] at h; cases h
 have e:=Cu ne
 rw[<- e] at hp
 have:=(Bk.mp hp).2.2 w hd _ (Ac.mpr rfl)
 have e2:Kw c=c.getLast ne:=by
  unfold Kw
  rw[Gk,Du ne]
  rfl
 rw[e2]
 exact this
theorem kP{x y:List Int}{p:Int}(h:gO x y=true):gO x (y++[p])=true/\gO (x++[p]) (y++[p])=true:=by
 have h:=Q0.mp h
 refine ⟨Q0.mpr λi hi=>Ag _ (h i hi),Q0.mpr λi hi=>?_⟩
 rcases An.mp hi with hi | hi
 ·exact Ag _ (h i hi)
 ·exact Ad _ hi
theorem Ui{n:Nat}{w:List Int}(h:Fc n w):Fc ((n+1:Nat):Int) w/\Fc ((n+1:Nat):Int) (w++[(n:Int)]):=by
 refine ⟨⟨h.1,λi hi=>by have:=h.2 i hi; omega⟩,Bk.mpr ⟨h.1,Co ..,λa ha b hb=>?_⟩,λi hi=>?_⟩
 ·rw[Ac.mp hb]; exact (h.2 a ha).2
 ·rcases An.mp hi with hi | hi
  ·have:=h.2 i hi; omega
  ·rw[Ac.mp hi]; omega
theorem sS{n:Nat}{w:List Int}(h:Fc ((n+1:Nat):Int) w):Fc n w\/∃u,Fc n u/\w=u++[(n:Int)]:=by
 by_cases z:(n:Int)∈w
 ·right
  have ne:w≠[]:=λe=>by rw[e] at z; cases z
  have e:=Cu ne
  have hp:=h.1
  rw[<- e] at hp
  obtain ⟨p1,_,p3⟩:=Bk.mp hp
  have el:w.getLast ne=(n:Int):=by
   have m:=Os ne
   have b:=h.2 _ m
   rw[<- e] at z
   rcases An.mp z with z | z
   ·have:=p3 _ z _ (Ac.mpr rfl); omega
   ·exact (Ac.mp z).symm
  refine ⟨w.dropLast,⟨p1,λi hi=>?_⟩,by rw[<- el]; exact e.symm⟩
  have:=p3 i hi _ (Ac.mpr rfl)
  rw[el] at this
  exact ⟨(h.2 i (Fq _ hi)).1,this⟩
 ·left
  refine ⟨h.1,λi hi=>?_⟩
  have:=h.2 i hi
  have : i≠(n:Int):=λq=>z (by rw[<- q]; exact hi)
  omega
theorem uC{n:Nat}{C:List (List (List Int))}(h:Cov n C):Cov (n+1) (C.flatMap λc=>Jh c n):=by
 have two:∀c∈C,∀d,d∈Jh c n↔d=c++[Kw c++[(n:Int)]]\/(d=mN c n/\mN c n≠[]):=λc _ d=>by
  unfold Jh
  by_cases z:mN c n=[]
  ·rw[if_pos z]
   simp [z]
  ·rw[if_neg z]
   simp [z]
 refine ⟨λw hw=>?_,λd hd=>?_,λd hd w hw=>?_,λd hd=>?_,λd hd=>?_,λd hd=>?_⟩
 ·rcases sS hw with hw | ⟨u,hu,rfl⟩
  ·obtain ⟨c,hc,hwc⟩:=h.cover w hw
   exact ⟨_,Bu.mpr ⟨c,hc,(two c hc _).mpr (.inl rfl)⟩,Ag _ hwc⟩
  ·obtain ⟨c,hc,huc⟩:=h.cover u hu
   rcases bV huc with rfl | hd
   ·exact ⟨_,Bu.mpr ⟨c,hc,(two c hc _).mpr (.inl rfl)⟩,Ad _ (Ac.mpr rfl)⟩
   ·have hm:u++[(n:Int)]∈mN c n:=List.mem_map_of_mem hd
    exact ⟨_,Bu.mpr ⟨c,hc,(two c hc _).mpr (.inr ⟨rfl,λz=>by rw[z] at hm; cases hm⟩)⟩,hm⟩
 ·obtain ⟨c,hc,hd⟩:=Bu.mp hd
  rcases (two c hc d).mp hd with rfl | ⟨rfl,_⟩
  ·refine Bk.mpr ⟨h.chain c hc,Co ..,λx hx y hy=>?_⟩
   rw[Ac.mp hy]
   exact (kP (dP (h.chain c hc) hx)).1
  ·refine Vf.mpr (((h.chain c hc).sublist (Kt c)).imp λq=>(kP q).2)
 ·obtain ⟨c,hc,hd⟩:=Bu.mp hd
  rcases (two c hc d).mp hd with rfl | ⟨rfl,_⟩
  ·rcases An.mp hw with hw | hw
   ·exact (Ui (h.words c hc w hw)).1
   ·rw[Ac.mp hw]
    exact (Ui (h.words c hc _ (cI (h.ne c hc)))).2
  ·obtain ⟨u,hu,rfl⟩:=Ce.mp hw
   exact (Ui (h.words c hc u (Fq _ hu))).2
 ·obtain ⟨c,hc,hd⟩:=Bu.mp hd
  rcases (two c hc d).mp hd with rfl | ⟨rfl,z⟩
  ·simp
  ·exact z
 ·obtain ⟨c,hc,hd⟩:=Bu.mp hd
  have:=h.len c hc
  rcases (two c hc d).mp hd with rfl | ⟨rfl,z⟩
  ·rw[Ay,Ct]; omega
  ·unfold mN; rw[Af,Fo]; omega
 ·obtain ⟨c,hc,hd⟩:=Bu.mp hd
  rcases (two c hc d).mp hd with rfl | ⟨rfl,z⟩
  ·refine Dh.mpr ⟨h.nd c hc,Bt.mpr ⟨Bq,Cw⟩,λx hx y hy e=>?_⟩
   rw[Ac.mp hy] at e
   have:=(h.words c hc x hx).2 (n:Int) (by rw[e]; exact Ad _ (Ac.mpr rfl))
   omega
  ·exact Xn ((h.nd c hc).sublist (Kt c)) λx _ y _ e=>gM e
theorem Re:∀n,Cov n (Hr n)
 | 0=>by
  refine ⟨λw hw=>⟨[[]],Ac.mpr rfl,?_⟩,λc hc=>?_,λc hc w hw=>?_,λc hc=>?_,λc hc=>?_,λc hc=>?_⟩
  ·cases w with
   | nil=>exact Ac.mpr rfl
   | cons x w=>have:=hw.2 x Aa; omega
  all_goals rw[Ac.mp hc] at *
  ·exact Co ..
  ·rw[Ac.mp hw]; exact ⟨Fh,λ_ z=>(nomatch z)⟩
  ·simp
  ·simp
  ·simp
 | n+1=>uC (Re n)
theorem Og:∀n,(Hr n).length<=2 ^ n
 | 0=>by simp [Hr]
 | n+1=>by
  have ih:=Og n
  have : ∀C:List (List (List Int)),(C.flatMap λc=>Jh c n).length<=2 * C.length:=by
   intro C
   induction C with
   | nil=>simp
   | cons c C ihc =>
    rw[Ki,Ay,Bm]
    have : (Jh c n).length<=2:=by
     unfold Jh
     split <;> simp
    omega
  have:=this (Hr n)
  show ((Hr n).flatMap λc=>Jh c n).length<=_
  rw[Vr]
  omega
theorem pW{α:Type}(xs:List α):Ke xs none (some (-1))=xs.dropLast:=by
 unfold Ke HT.sIx
 rw[List.dropLast_eq_take]
 simp only[Hl]
 congr 1
 by_cases z:xs.length=0
 ·simp [z]
 ·have : ¬ ((xs.length:Int) + -1<0):=by omega
  simp
  omega
theorem zD{c:List (List Int)}(ne:c≠[]):c.map Ca=c.dropLast.map Ca++[Ca (Kw c)]:=by
 have e:=Cu ne
 have e2:Kw c=c.getLast ne:=by
  unfold Kw
  rw[Gk,Du ne]
  rfl
 rw[e2]
 conv=>lhs; rw[<- e]
 rw[Az]
 rfl
def lW:PF:=λds R=>∃(c:List (List Int)) (p:Int),ds=[Cv c,.int p]/\c≠[]/\c.length<=100/\(∀w∈c,w.length<=100)/\R (Dm (Jh c p))
def fI:PF:=λds R=>∃h:Int,ds=[.int h]/\0<=h/\h<=7/\R (Dm (Hr h.toNat))
section
variable{P:Bx}{w:World}{K:PySem.W.Frag}{mg:Str->Option Value}{base:Heap}
theorem rV:FnScope ["chain", "place", "longer", "shorter"] ["chain", "place"] (Cc Vj):=⟨rfl,rfl,rfl,by decide +kernel,rfl,by decide +kernel,by decide +kernel⟩
theorem qL{f   : Addr}{fd  : Cr}(F:Fun K "grown" "grown" Vj f fd):FnOk P w K mg base Jw 1 f fd ["chain", "place"] (B6 K (lW)):=by
 refine' fK (k:=0) F rV (λcdv A outer s H E hr=>?hb) ?h
 case hb =>
  have hu64:=hr.units
  have CS1:∀{scope:Scope} (h:scope={ kind:=.function,names:=[(".0",.local),("word",.local),("place",.free)],isGenerator:=false,isCoroutine:=false }),
    CompScope (Mh Jw P w K mg base ["chain", "place", "longer", "shorter"] "grown" (Cc Vj) f cdv A outer s H E).nox scope [("place",s.heap.objs.size+1)] "word" ["place"] [1]:=by
   rintro scope rfl
   refine ⟨by rfl,.inl (by decide +kernel),by rfl,by decide +kernel,.inl rfl,λy c h=>?_,by rfl,by decide +kernel,rfl,λk y j e1 e2=>?_⟩
   ·have z:=Fb h
    simp only[Ak,Bq,or_false,Gm] at z
    obtain ⟨rfl,rfl⟩:=z; rfl
   ·match k,e1,e2 with
    | 0,e1,e2=>cases e1; cases e2; exact ⟨rfl,rfl,by first | exact .inl rfl | exact .inr rfl⟩
    | k+1,e1,e2=>cases e1
  exact Df (Ji (i:=2) rV.nd rfl (El rfl) (hZ (Bh (pv 0)) (Gz (Bi (bX (Mw (Bh (pv 0)) (bG Fj)) (Ro (Bi (Rp (Bh (pv 1))) Bw))) Bw))))
   (Df (lO (o:=false) (i0:=3) rV.nd rfl rfl (CS1 rfl) rfl (nK (Pe (i:=true) (Bh (pv 0)) Nj (Nr (bG Fj)))) (λ_ _ _=>Pf) (λ_ _ _=>bX (Bh (pv 0)) (Ro (Bi (Rp (Bh (pv 1))) Bw))))
   (Gb (Ku (i4 (tX (Bh (pv 3))) (Gz (Bi (Bh (pv 2)) (Bi (Bh (pv 3)) Bw))) (Gz (Bi (Bh (pv 2)) Bw))))))
 case h =>
  (intro ds R q_; obtain ⟨c,p,rfl,ne,lc,lw,hR⟩ := q_)
  refine ⟨rfl,?_⟩
  unfold Cv
  array_get_dec
  refine ⟨Ca (Kw c),by rw[zD ne]; exact fY _ _,?_⟩
  array_get_dec
  rw[pW]
  have lt:=lw _ (cI ne)
  refine ⟨by rw[Af]; omega,by rw[Af]; omega,?_⟩
  refine xR (l:=c.dropLast) (g:=Ca) (by rw[Oc]) (λw=>Ca (w++[p])) (λw hw yes no hy=>?_) ?_
  ·have:=lw w (Fq _ hw)
   array_get_dec
   refine ⟨by rw[Af]; omega,?_⟩
   rw[show PyData.tuple (w.map Bl++[.int p])=Ca (w++[p]) by unfold Ca; rw[Az]; rfl]
   exact hy
  array_get_dec
  have eL:Ql (c.map Ca++[.tuple ((Kw c).map Bl++[.int p])])=Cv (c++[Kw c++[p]]):=by
   unfold Cv Ca
   rw[Az,Ap,Az]
   rfl
  have eS:Ql (c.dropLast.map λw=>Ca (w++[p]))=Cv (mN c p):=by
   unfold Cv mN
   rw[Eh]
   rfl
  rw[eL,eS]
  refine J1 (λhb=>?_) (λhb=>?_)
  ·have ne2:mN c p≠[]:=λz=>by rw[z] at hb; cases hb
   have e:Jh c p=[c++[Kw c++[p]],mN c p]:=if_neg ne2
   rw[e] at hR
   array_get_dec
   exact hR
  ·have e2:mN c p=[]:=by
    cases q:mN c p with
    | nil=>rfl
    | cons x l=>rw[q] at hb; cases hb
   have e:Jh c p=[c++[Kw c++[p]]]:=if_pos e2
   rw[e] at hR
   array_get_dec
   exact hR
theorem oG:FnScope ["holes", "told", "place"] ["holes"] (Cc Su):=⟨rfl,rfl,rfl,by decide +kernel,rfl,by decide +kernel,by decide +kernel⟩
theorem nZ{f f_grown  : Addr}{fd d_grown:Cr}(F:Fun K "chains" "chains" Su f fd)(G_grown:FnOk P w K mg base Jw 1 f_grown d_grown ["chain", "place"] (B6 K (lW)))(b_grown:Binds K d_grown ["chain", "place"] [])(k_grown:PySem.W.keepIn K (.ref f_grown)=true)(m_grown:mg "grown" = some (.ref f_grown))(mz_range:mg "range" = none):FnOk P w K mg base Jw 2 f fd ["holes"] (B6 K (fI)):=by
 refine' fK (k:=1) F oG (λcdv A outer s H E hr=>?hb) ?h
 case hb =>
  have hr1:Room 1 _:=hr.mono (by decide)
  have hu64:=hr.units
  have CS1:∀{scope:Scope} (h:scope={ kind:=.function,names:=[(".0",.local),("old",.local),("chain",.local),("grown",.globalImplicit),("place",.free)],isGenerator:=false,isCoroutine:=false }),
    CompScope (Mh Jw P w K mg base ["holes", "told", "place"] "chains" (Cc Su) f cdv A outer s H E).nox scope [("place",s.heap.objs.size+1)] "old" ["place"] [2]:=by
   rintro scope rfl
   refine ⟨by rfl,.inl (by decide +kernel),by rfl,by decide +kernel,.inl rfl,λy c h=>?_,by rfl,by decide +kernel,rfl,λk y j e1 e2=>?_⟩
   ·have z:=Fb h
    simp only[Ak,Bq,or_false,Gm] at z
    obtain ⟨rfl,rfl⟩:=z; rfl
   ·match k,e1,e2 with
    | 0,e1,e2=>cases e1; cases e2; exact ⟨rfl,rfl,by first | exact .inl rfl | exact .inr rfl⟩
    | k+1,e1,e2=>cases e1
  exact Df (Ji (i:=1) oG.nd rfl (El rfl) (Gz (Bi (Gz (Bi (Ro Bw) Bw)) Bw)))
   (Df (Oz Er rfl (Ug rfl mz_range (Bi (Bh (pv 0)) Bw)) (Kl (i:=2) oG.nd rfl (Or.inr rfl))
   (Gb (tK (o:=false) (i0:=1) oG.nd rfl rfl (b:=false) (CS1 rfl) (.inl rfl) (by decide +kernel) rfl (nK (Bh (pv 1))) (λ_ _ _=>nK (cZ G_grown hr1 rfl m_grown k_grown b_grown Ky (Bi (Bh (pv 0)) (Bi (Bh (pv 2)) Bw)))) (λ_ _ _=>Bh (pv 1)))))
   (Gb (Ku (Bh (pv 1)))))
 case h =>
  (intro ds R q_; obtain ⟨h,rfl,h0,h1,hR⟩ := q_)
  refine ⟨rfl,?_⟩
  array_get_dec
  refine ⟨by omega,by omega,?_⟩
  refine dR (l:=Ew h.toNat) (g:=λi:Nat=>.int i) rfl (λi δ=>∃v2:DV,δ=⟨[.dat .sh (.int h),.dat .sh (Dm (Hr i)),v2],0⟩/\NP v2) ?_ ?_ ?_
  ·exact ⟨_,rfl,Js⟩
  ·(intro i a _ ha q_; obtain ⟨v2,rfl,hv2⟩ := q_)
   obtain ⟨rfl,hi⟩:=Xg ha
   have cv:=Re a
   have cl:=Og a
   have p2:2 ^ a<=2 ^ 7:=Ft (by decide) (by omega)
   unfold Dm
   array_get_dec
   have c2:=Og (a+1)
   have p3:2 ^ (a+1)<=2 ^ 7:=Ft (by decide) (by omega)
   have ef:(Hr a).flatMap (λc=>(Jh c a).map Cv)=(Hr (a+1)).map Cv:=by
    show _=((Hr a).flatMap λc=>Jh c a).map Cv
    rw[List.map_flatMap]
   refine Q2 (l:=Hr a) (g:=Cv) rfl (λc=>(Jh c a).map Cv) (by rw[ef,Af,He]; omega) (λc hc acc fin hz hfin=>?_) ?_
   ·have hl:=cv.len c hc
    array_get_dec
    refine ⟨c,a,rfl,cv.ne c hc,by omega,λw hw=>?_,?_⟩
    ·have:=Rm ((cv.words c hc w hw).up (show ((a:Nat):Int)<=60 by omega))
     omega
    unfold Dm
    array_get_dec
    refine Q9 (l:=Jh c a) (g:=Cv) rfl Cv (by rw[Af] at hz; exact hz) (λd hd yes hy=>?_) hfin
    array_get_dec
    exact hy
   ·rw[ef,show Rw false=.tp from rfl]
    array_get_dec
    exact ⟨_,rfl,Kz⟩
  ·(intro _ q_; obtain ⟨v2,rfl,hv2⟩ := q_)
   rw[Gr]
   array_get_dec
   exact hR
end
def aF(cde c:List (List Int)):List Int:=(c.filter λw=>decide (w∈cde)).map λw=>(cde.idxOf w:Nat)
structure CodeOk(h:Nat)(C:List (List (List Int)))(cde:List (List Int)):Prop where
 cov:Cov h C
 nd:cde.Nodup
 rise:∀w∈cde,Fc h w
 more:C.length<cde.length
 lc:cde.length<=200
 lC:C.length<=300
 hh:h<=7
theorem Wb:∀{l m:List (List Int)},l.Nodup->(∀x∈l,x∈m)->l.length<=m.length
 | [],_,_,_=>Dl _
 | x::l,m,nd,h=>by
  obtain ⟨n1,n2⟩:=Bt.mp nd
  have hx:=h x Aa
  have ih:=Wb (m:=m.erase x) n2 λy hy=>(List.mem_erase_of_ne (show y≠x from λz=>n1 (by rw[<- z]; exact hy))).mpr (h y (Ae _ hy))
  rw[gL hx] at ih
  have:=Pq hx
  rw[Bm]
  omega
theorem zU{h:Nat}{C:List (List (List Int))}{cde:List (List Int)}(k:CodeOk h C cde):∃c∈C,2<=(aF cde c).length:=Classical.byContradiction λz=>by
 have all:∀c∈C,(c.filter λw=>decide (w∈cde)).length<=1:=λc hc=>by
  by_cases q:2<=(aF cde c).length
  ·exact absurd ⟨c,hc,q⟩ z
  ·unfold aF at q
   rw[Af] at q
   omega
 have h1:=Wb (m:=C.flatMap λc=>c.filter λw=>decide (w∈cde)) k.nd λw hw=>by
  obtain ⟨c,hc,hwc⟩:=k.cov.cover w (k.rise w hw)
  exact Bu.mpr ⟨c,hc,Gn.mpr ⟨hwc,by simpa using hw⟩⟩
 have h2:∀D:List (List (List Int)),(∀c∈D,(c.filter λw=>decide (w∈cde)).length<=1)->(D.flatMap λc=>c.filter λw=>decide (w∈cde)).length<=D.length:=by
  intro D
  induction D with
  | nil=>intro _; simp
  | cons c D ih =>
   intro hD
   rw[Ki,Ay,Bm]
   have:=hD c Aa
   have:=ih λd hd=>hD d (Ae _ hd)
   omega
 have:=h2 C all
 have:=k.more
 omega
theorem Vg{cde:List (List Int)}{w:List Int}(hw:w∈cde):cde[cde.idxOf w]? = some w:=by
 have hl:=List.idxOf_lt_length_iff.mpr hw
 rw[Bs hl,List.getElem_idxOf hl]
theorem sO{cde:List (List Int)}{w:List Int}:∀(n:Nat),Pj ((cde.zipIdx n).map λp=>(p.1,Bl (p.2:Nat))) w=if w∈cde then some (.int ((cde.idxOf w+n:Nat))) else none:=by
 induction cde with
 | nil=>intro n; rfl
 | cons x cde ih =>
  intro n
  rw[List.zipIdx_cons,Ap]
  unfold Pj
  by_cases e:x=w
  ·subst e
   rw[List.find?_cons_of_pos (by simp),if_pos Aa,List.idxOf_cons_self]
   simp
  ·rw[List.find?_cons_of_neg (by simpa using e)]
   have:=ih (n+1)
   unfold Pj at this
   rw[this]
   have e':¬ w=x:=λz=>e z.symm
   by_cases m:w∈cde
   ·have e5:(x::cde).idxOf w=cde.idxOf w+1:=by rw[List.idxOf_cons,show (x == w)=false by simpa using e]; rfl
    rw[if_pos m,if_pos (Ae _ m),e5]
    congr 3
    omega
   ·rw[if_neg m,if_neg (by simp [e',m])]
def yI:PF:=λds R=>∃(h:Nat) (C:List (List (List Int))) (cde:List (List Int)),ds=[.list (cde.map Ca),Dm C]/\CodeOk h C cde /\
 ∀(p q:Nat) (u v:List Int) (c:List (List Int)),c∈C->cde[p]? = some u->cde[q]? = some v->u∈c->v∈c->p≠q->gO u v=true->R (.tuple [.int p,.int q])
section
variable{P:Bx}{w:World}{K:PySem.W.Frag}{mg:Str->Option Value}{base:Heap}
theorem oN:FnScope ["code", "some", "numbers", "found", "fullest"] ["code", "some"] (Cc Nm):=⟨rfl,rfl,rfl,by decide +kernel,rfl,by decide +kernel,by decide +kernel⟩
theorem mM{f   : Addr}{fd  : Cr}(F:Fun K "two_in" "two_in" Nm f fd)(mz_enumerate:mg "enumerate" = none)(mz_max:mg "max" = none)(mz_len:mg "len" = none):FnOk P w K mg base Jw 1 f fd ["code", "some"] (nW K (yI)):=by
 refine' aM (k:=0) F oN (λcdv A outer s H E hr=>?hb) ?h
 case hb =>
  have hu64:=hr.units
  have CS1:∀{scope:Scope} (h:scope={ kind:=.function,names:=[(".0",.local),("number",.local),("word",.local)],isGenerator:=false,isCoroutine:=false }),
    CompScope (Mh Jw P w K mg base ["code", "some", "numbers", "found", "fullest"] "two_in" (Cc Nm) f cdv A outer s H E).nox scope [] "number" [] []:=by
   rintro scope rfl
   exact Nd.compScope0 (by rfl) (by decide +kernel) (by rfl) (by decide +kernel) (by rfl) (by rfl)
  have CS2:∀{scope:Scope} (h:scope={ kind:=.function,names:=[(".0",.local),("chain",.local),("numbers",.free)],isGenerator:=false,isCoroutine:=false }),
    CompScope (Mh Jw P w K mg base ["code", "some", "numbers", "found", "fullest"] "two_in" (Cc Nm) f cdv A outer s H E).nox scope [("numbers",s.heap.objs.size+1)] "chain" ["numbers"] [2]:=by
   rintro scope rfl
   refine ⟨by rfl,.inl (by decide +kernel),by rfl,by decide +kernel,.inl rfl,λy c h=>?_,by rfl,by decide +kernel,rfl,λk y j e1 e2=>?_⟩
   ·have z:=Fb h
    simp only[Ak,Bq,or_false,Gm] at z
    obtain ⟨rfl,rfl⟩:=z; rfl
   ·match k,e1,e2 with
    | 0,e1,e2=>cases e1; cases e2; exact ⟨rfl,rfl,by first | exact .inl rfl | exact .inr rfl⟩
    | k+1,e1,e2=>cases e1
  have CS3:∀{scope:Scope} (h:scope={ kind:=.function,names:=[(".0",.local),("word",.local),("numbers",.free)],isGenerator:=false,isCoroutine:=false }) (fp0:List Addr) (s0:Aj) (H0:Hp),
    CompScope (Cp (Mh Jw P w K mg base ["code", "some", "numbers", "found", "fullest"] "two_in" (Cc Nm) f cdv A outer s H E).nox { kind:=.function,names:=[(".0",.local),("chain",.local),("numbers",.free)],isGenerator:=false,isCoroutine:=false } [("numbers",s.heap.objs.size+1)] ["chain", "numbers"] fp0 s0 H0) scope [("numbers",s.heap.objs.size+1)] "word" ["numbers"] [1]:=by
   rintro scope rfl fp0 s0 H0
   refine ⟨by rfl,.inl (by decide +kernel),by rfl,by decide +kernel,.inl rfl,λy c h=>?_,by rfl,by decide +kernel,rfl,λk y j e1 e2=>?_⟩
   ·have z:=Fb h
    simp only[Ak,Bq,or_false,Gm] at z
    obtain ⟨rfl,rfl⟩:=z; rfl
   ·match k,e1,e2 with
    | 0,e1,e2=>cases e1; cases e2; exact ⟨rfl,rfl,by first | exact .inl rfl | exact .inr rfl⟩
    | k+1,e1,e2=>cases e1
  exact Df (Ji (i:=2) oN.nd rfl (Or.inr rfl) (mK hu64 (CS1 rfl) (.inl rfl) (by decide +kernel) rfl (xE rfl mz_enumerate (Bi (Bh (pv 0)) Bw)) (λ_ _ _=>Pf) (λ_ _ _=>Bh (pv 1)) (λ_ _ _=>Bh (pv 0))))
   (Df (qY (o:=false) (i0:=3) oN.nd rfl rfl (CS2 rfl) rfl (nK (Bh (pv 1))) (λ_ _ _=>Pf) (λ_ _ _=>bU (CS3 rfl _ _ _) rfl (nK (Bh (pv 0))) (λ_ _ _=>Vn (zO hu64 (Bh (pv 0)) (Bh (pv 1)))) (λ_ _ _=>xK hu64 (Bh (pv 1)) (Bh (pv 0)))))
   (Df (Ji (i:=4) oN.nd rfl (El rfl) (xJ rfl rfl mz_max rfl mz_len (Bi (Bh (pv 3)) Bw)))
   (Gb (Ku (Ro (Bi (Rp (Mw (Bh (pv 4)) Fj)) (Bi (Rp (Mw (Bh (pv 4)) Fj)) Bw)))))))
 case h =>
  (intro ds R q_; obtain ⟨h,C,cde,rfl,k,hR⟩ := q_)
  refine ⟨rfl,?_⟩
  unfold Dm
  array_get_dec
  have lc:=k.lc
  refine wB (l:=cde.zipIdx) (g1:=λp=>.int p.2) (g2:=λp=>Ca p.1) (by rw[vE,Eh]; rfl) (by rw[Jv]; omega) (λp=>p.1) (λp=>.int p.2) (by rw[List.zipIdx_map_fst]; exact k.nd) (λp hp yes no hy=>?_) ?_
  ·array_get_dec
   exact hy
  array_get_dec
  have gK:∀w,Pj (cde.zipIdx.map λp=>(p.1,Bl (p.2:Nat))) w=if w∈cde then some (.int (cde.idxOf w:Nat)) else none:=λw=>sO 0
  have lC:=k.lC
  refine j9 (l:=C) (g:=Cv) rfl (λc=>.list ((aF cde c).map Bl)) (λc hc yes no hy=>?_) ?_
  ·unfold Cv
   array_get_dec
   refine kN (l:=c) (g:=Ca) rfl (λw=>decide (w∈cde)) (λw=>.int (cde.idxOf w:Nat)) (λw hw yes' no' hy' hn'=>?_) ?_
   ·array_get_dec
    rw[gK]
    by_cases m:w∈cde
    ·rw[if_pos m,Tc]
     array_get_dec
     refine ⟨_,by rw[gK,if_pos m],?_⟩
     array_get_dec
     exact hy' (by simpa using m)
    ·rw[if_neg m,Option.isSome_none]
     array_get_dec
     exact hn' (by simpa using m)
   ·array_get_dec
    rw[show (c.filter λw=>decide (w∈cde)).map (λw=>Bl (cde.idxOf w:Nat))=(aF cde c).map Bl by unfold aF; rw[Eh]; rfl]
    exact hy
  array_get_dec
  obtain ⟨cb,hcb,hb2⟩:=zU k
  obtain ⟨jb,hjb⟩:=lY.mp hcb
  refine ⟨λi=>(aF cde (C.getD i [])).length,λz=>?_,λi d hd=>?_,λi d hd hmax=>?_⟩
  ·rw[oU.mp z] at hcb; cases hcb
  ·rw[Bg] at hd
   cases hc:C[i]? with
   | none=>rw[hc] at hd; cases hd
   | some c =>
    rw[hc] at hd
    cases hd
    simp [u4,Nc,hc]
  ·rw[Bg] at hd
   cases hc:C[i]? with
   | none=>rw[hc] at hd; cases hd
   | some c =>
   rw[hc] at hd
   cases hd
   have cC:=Ar hc
   have l2:2<=(aF cde c).length:=by
    have:=(hmax jb (by rw[Af]; exact (Al.mp hjb).1)).1
    dsimp only at this
    rw[Nc,Nc,hc,hjb] at this
    exact Bv hb2 this
   have hsub:(c.filter λw=>decide (w∈cde)).Sublist c:=List.filter_sublist
   have hmem:∀w∈c.filter (λw=>decide (w∈cde)),w∈cde:=λw hw=>by simpa using (Gn.mp hw).2
   have pw:=(k.cov.chain c cC).sublist hsub
   have nd:=(k.cov.nd c cC).sublist hsub
   array_get_dec
   unfold aF at l2 ⊢
   generalize (c.filter λw=>decide (w∈cde))=F at l2 hsub hmem pw nd ⊢
   match F,l2 with
   | a::b::F,_ =>
   have ma:=hmem a Aa
   have mb:=hmem b (Ae _ Aa)
   have nab:a≠b:=λz=>(Bt.mp nd).1 (by rw[z]; exact Aa)
   have fin:=hR (cde.idxOf a) (cde.idxOf b) a b c cC (Vg ma) (Vg mb) (hsub.subset Aa) (hsub.subset (Ae _ Aa)) (λz=>nab (by
    have h1:=Vg ma
    rw[z,Vg mb] at h1
    exact (Be h1).symm)) ((Ax.mp pw).1 b Aa)
   exact ⟨_,atI_0 ..,rfl,_,atI_1 ..,rfl,fin⟩
end
def Mz(p:Int)(w:List Int):List Int:=Wa (w++[p])
theorem Xa{p:Int}{w:List Int}{i:Int}:i∈Mz p w↔i∈w\/i=p:=by
 unfold Mz
 rw[(Lq _).mem_iff,List.mem_append,Ac]
theorem gJ{h:Nat}{p:Int}{w:List Int}(r:Fc h w)(np:p∉w)(p0:0<=p)(p1:p<h):Fc h (Mz p w):=by
 refine ⟨Zw ((Lq _).nodup_iff.mpr (Dh.mpr ⟨r.1.imp λ{x y} q=>Int.ne_of_lt q,Bt.mpr ⟨Bq,Cw⟩,λx hx y hy e=>np (by rw[<- Ac.mp hy,<- e]; exact hx)⟩)) (Xv _),λx hx=>?_⟩
 rcases Xa.mp hx with hx | hx
 ·exact r.2 x hx
 ·rw[hx]; exact ⟨p0,p1⟩
theorem pY{p:Int}{x y:List Int}(h:gO x y=true):gO x (Mz p y)=true/\gO (Mz p x) (Mz p y)=true:=by
 have h:=Q0.mp h
 refine ⟨Q0.mpr λi hi=>Xa.mpr (.inl (h i hi)),Q0.mpr λi hi=>?_⟩
 rcases Xa.mp hi with hi | hi
 ·exact Xa.mpr (.inl (h i hi))
 ·exact Xa.mpr (.inr hi)
structure CovP(h:Nat)(O:List Int)(C:List (List (List Int))):Prop where
 cover:∀w,Fc h w->(∀i∈w,i∈O)->∃c∈C,w∈c
 chain:∀c∈C,c.Pairwise λx y=>gO x y=true
 words:∀c∈C,∀w∈c,Fc h w/\∀i∈w,i∈O
 ne:∀c∈C,c≠[]
 len:∀c∈C,c.length<=O.length+1
 nd:∀c∈C,c.Nodup
def Io(p:Int)(c:List (List Int)):List (List (List Int)):=if 1<c.length then [c++[Mz p (Kw c)],(c.map (Mz p)).dropLast] else [c++[Mz p (Kw c)]]
theorem nA{h:Nat}{O:List Int}{C:List (List (List Int))}{p:Int}(k:CovP h O C)(np:p∉O)(p0:0<=p)(p1:p<h):CovP h (O++[p]) (C.flatMap (Io p)):=by
 have two:∀c,∀d,d∈Io p c↔d=c++[Mz p (Kw c)]\/(d=(c.dropLast).map (Mz p)/\1<c.length):=λc d=>by
  unfold Io
  rw[<- Oc]
  by_cases z:1<c.length
  ·rw[if_pos z]
   simp [z]
  ·rw[if_neg z]
   simp [z]
 have npw:∀c∈C,∀w∈c,p∉w:=λc hc w hw q=>np ((k.words c hc w hw).2 p q)
 refine ⟨λw hw hO=>?_,λd hd=>?_,λd hd w hw=>?_,λd hd=>?_,λd hd=>?_,λd hd=>?_⟩
 ·by_cases z:p∈w
  ·have hu:Fc h (w.filter λi=>decide (i≠p)):=⟨hw.1.sublist List.filter_sublist,λi hi=>hw.2 i (Gn.mp hi).1⟩
   obtain ⟨c,hc,huc⟩:=k.cover _ hu λi hi=>by
    obtain ⟨q1,q2⟩:=Gn.mp hi
    rcases An.mp (hO i q1) with q | q
    ·exact q
    ·exact absurd (Ac.mp q) (by simpa using q2)
   have eu:Mz p (w.filter λi=>decide (i≠p))=w:=by
    refine Uc (gJ hu (npw c hc _ huc) p0 p1).1 hw.1 λi=>?_
    rw[Xa,List.mem_filter]
    by_cases e:i=p
    ·simp [e,z]
    ·simp [e]
   rcases bV huc with e | hd
   ·refine ⟨_,Bu.mpr ⟨c,hc,(two c _).mpr (.inl rfl)⟩,Ad _ (Ac.mpr ?_)⟩
    rw[<- e]
    exact eu.symm
   ·refine ⟨_,Bu.mpr ⟨c,hc,(two c _).mpr (.inr ⟨rfl,?_⟩)⟩,Ce.mpr ⟨_,hd,eu⟩⟩
    have:=Pq hd
    rw[Fo] at this
    omega
  ·obtain ⟨c,hc,huc⟩:=k.cover w hw λi hi=>by
    rcases An.mp (hO i hi) with q | q
    ·exact q
    ·exact absurd (by rw[<- Ac.mp q]; exact hi) z
   exact ⟨_,Bu.mpr ⟨c,hc,(two c _).mpr (.inl rfl)⟩,Ag _ huc⟩
 ·obtain ⟨c,hc,hd⟩:=Bu.mp hd
  rcases (two c d).mp hd with rfl | ⟨rfl,_⟩
  ·refine Bk.mpr ⟨k.chain c hc,Co ..,λx hx y hy=>?_⟩
   rw[Ac.mp hy]
   exact (pY (dP (k.chain c hc) hx)).1
  ·refine Vf.mpr (((k.chain c hc).sublist (Kt c)).imp λq=>(pY q).2)
 ·obtain ⟨c,hc,hd⟩:=Bu.mp hd
  have one:∀u∈c,Fc h (Mz p u)/\∀i∈Mz p u,i∈O++[p]:=λu hu=>⟨gJ (k.words c hc u hu).1 (npw c hc u hu) p0 p1,λi hi=>by
   rcases Xa.mp hi with q | q
   ·exact Ag _ ((k.words c hc u hu).2 i q)
   ·exact Ad _ (Ac.mpr q)⟩
  rcases (two c d).mp hd with rfl | ⟨rfl,_⟩
  ·rcases An.mp hw with hw | hw
   ·exact ⟨(k.words c hc w hw).1,λi hi=>Ag _ ((k.words c hc w hw).2 i hi)⟩
   ·rw[Ac.mp hw]
    exact one _ (cI (k.ne c hc))
  ·obtain ⟨u,hu,rfl⟩:=Ce.mp hw
   exact one u (Fq _ hu)
 ·obtain ⟨c,hc,hd⟩:=Bu.mp hd
  rcases (two c d).mp hd with rfl | ⟨rfl,z⟩
  ·simp
  ·intro e
   have:=congrArg Fp e
   rw[Af,Fo,Ez] at this
   omega
 ·obtain ⟨c,hc,hd⟩:=Bu.mp hd
  have:=k.len c hc
  rw[Ay,Ct]
  rcases (two c d).mp hd with rfl | ⟨rfl,z⟩
  ·rw[Ay,Ct]; omega
  ·rw[Af,Fo]; omega
 ·obtain ⟨c,hc,hd⟩:=Bu.mp hd
  rcases (two c d).mp hd with rfl | ⟨rfl,z⟩
  ·refine Dh.mpr ⟨k.nd c hc,Bt.mpr ⟨Bq,Cw⟩,λx hx y hy e=>?_⟩
   rw[Ac.mp hy] at e
   exact npw c hc x hx (by rw[e]; exact Xa.mpr (.inr rfl))
  ·refine Xn ((k.nd c hc).sublist (Kt c)) λx hx y hy e=>?_
   have hx:=Fq _ hx
   have hy:=Fq _ hy
   refine Uc (k.words c hc x hx).1.1 (k.words c hc y hy).1.1 λi=>?_
   have q:i∈Mz p x↔i∈Mz p y:=by rw[e]
   rw[Xa,Xa] at q
   have nx:=npw c hc x hx
   have ny:=npw c hc y hy
   constructor
   ·intro hi
    rcases q.mp (.inl hi) with z | z
    ·exact z
    ·rw[z] at hi; exact absurd hi nx
   ·intro hi
    rcases q.mpr (.inl hi) with z | z
    ·exact z
    ·rw[z] at hi; exact absurd hi ny
theorem Wh(p:Int):∀D:List (List (List Int)),(D.flatMap (Io p)).length<=2 * D.length:=by
 intro D
 induction D with
 | nil=>simp
 | cons c D ihc =>
  rw[Ki,Ay,Bm]
  have : (Io p c).length<=2:=by
   unfold Io
   split <;> simp
  omega
theorem zG(h:Nat):CovP h [] [[[]]]:=by
 refine ⟨λw hw hO=>⟨[[]],Ac.mpr rfl,?_⟩,λc hc=>?_,λc hc w hw=>?_,λc hc=>?_,λc hc=>?_,λc hc=>?_⟩
 ·cases w with
  | nil=>exact Ac.mpr rfl
  | cons x w=>exact nomatch hO x Aa
 all_goals rw[Ac.mp hc] at *
 ·exact Co ..
 ·rw[Ac.mp hw]; exact ⟨⟨Fh,λ_ z=>(nomatch z)⟩,λ_ z=>(nomatch z)⟩
 ·simp
 ·simp
 ·simp
theorem sT{h:Nat}{O:List Int}{C:List (List (List Int))}(k:CovP h O C)(hO:∀i:Int,0<=i->i<h->i∈O)(hl:O.length=h):Cov h C :=
 ⟨λw hw=>k.cover w hw λi hi=>hO i (hw.2 i hi).1 (hw.2 i hi).2,k.chain,λc hc w hw=>(k.words c hc w hw).1,k.ne,λc hc=>by have:=k.len c hc; omega,k.nd⟩
theorem gA{α:Type}(xs:List α)(k:Nat)(y:α):(Hd xs k y).Perm (y::xs):=by
 unfold Hd
 refine Dg.trans ?_
 rw[Ee]
theorem kK{α β:Type}(f:α->β)(xs:List α)(k:Nat)(y:α):Hd (xs.map f) k (f y)=(Hd xs k y).map f:=by
 unfold Hd
 rw[Az,Ap,List.map_take,List.map_drop]
theorem oX{α:Type}{xs:List α}{a:α}(h:xs.getLast? = some a):Ke xs (some (-1)) none=[a]:=by
 have ne:xs≠[]:=λz=>by rw[z] at h; cases h
 have e:=Cu ne
 have ea:xs.getLast ne=a:=by
  rw[Du ne] at h
  exact Be h
 have lp:=Jk.mpr ne
 unfold Ke HT.sIx
 have q:¬ ((xs.length:Int) + -1<0):=by omega
 have q2:((xs.length:Int) + -1).toNat=xs.dropLast.length:=by rw[Fo]; omega
 have q3:(-1+(xs.length:Int)).toNat=xs.dropLast.length:=by rw[Fo]; omega
 simp [q]
 have d1:xs.drop xs.dropLast.length=[a]:=by
  conv=>lhs; rw[<- e]
  rw[List.dropLast_concat,List.drop_left,ea]
 rw[q3,d1]
 refine Eu ?_
 rw[Fo,Ct]
 omega
def pV:DF:=λds n R=>∃h:Int,ds=[.int h]/\1<=h/\h<=7/\n<=90000/\∀(C:List (List (List Int))) (n':Nat),n<=n'->n'<=n+7->Cov h.toNat C->C.length<=2 ^ h.toNat->R (Dm C) n'
section
variable{P:Bx}{w:World}{K:PySem.W.Frag}{mg:Str->Option Value}{base:Heap}
theorem bQ:FnScope ["_law_draws_here", "_law_holes", "_law_k", "_law_turn", "_law_order", "_law_told", "_law_place", "_law_more", "_law_chain", "_law_up"] ["_law_draws_here", "_law_holes"] (Cc Kn):=⟨rfl,rfl,rfl,by decide +kernel,rfl,by decide +kernel,by decide +kernel⟩
theorem aV{f f_L_next  : Addr}{fd d_L_next:Cr}(F:Fun K "_law_made" "_law_made" Kn f fd)(G_L_next:FnOk P w K mg base Jw 1 f_L_next d_L_next ["_law_draws_here"] (o7 K Wo))(b_L_next:Binds K d_L_next ["_law_draws_here"] [])(k_L_next:PySem.W.keepIn K (.ref f_L_next)=true)(m_L_next:mg "_law_next" = some (.ref f_L_next))(mz_range:mg "range" = none)(mz_sorted:mg "sorted" = none)(mz_tuple:mg "tuple" = none)(mz_len:mg "len" = none):FnOk P w K mg base Jw 2 f fd ["_law_draws_here", "_law_holes"] (iM K (pV)):=by
 refine' gD (k:=1) F bQ (λcdv A outer s H E hr=>?hb) ?h
 case hb =>
  have hr1:Room 1 _:=hr.mono (by decide)
  have hu64:=hr.units
  have CS1:∀{scope:Scope} (h:scope={ kind:=.function,names:=[(".0",.local),("_law_k",.local),("_law_next",.globalImplicit),("_law_draws_here",.free)],isGenerator:=false,isCoroutine:=false }),
    CompScope (Mh Jw P w K mg base ["_law_draws_here", "_law_holes", "_law_k", "_law_turn", "_law_order", "_law_told", "_law_place", "_law_more", "_law_chain", "_law_up"] "_law_made" (Cc Kn) f cdv A outer s H E).nox scope [("_law_draws_here",s.heap.objs.size+1)] "_law_k" ["_law_draws_here"] [0]:=by
   rintro scope rfl
   refine ⟨by rfl,.inl (by decide +kernel),by rfl,by decide +kernel,.inl rfl,λy c h=>?_,by rfl,by decide +kernel,rfl,λk y j e1 e2=>?_⟩
   ·have z:=Fb h
    simp only[Ak,Bq,or_false,Gm] at z
    obtain ⟨rfl,rfl⟩:=z; rfl
   ·match k,e1,e2 with
    | 0,e1,e2=>cases e1; cases e2; exact ⟨rfl,rfl,by first | exact .inl rfl | exact .inr rfl⟩
    | k+1,e1,e2=>cases e1
  have CS2:∀{scope:Scope} (h:scope={ kind:=.function,names:=[(".0",.local),("_law_word",.local),("tuple",.globalImplicit),("sorted",.globalImplicit),("_law_place",.free)],isGenerator:=false,isCoroutine:=false }),
    CompScope (Mh Jw P w K mg base ["_law_draws_here", "_law_holes", "_law_k", "_law_turn", "_law_order", "_law_told", "_law_place", "_law_more", "_law_chain", "_law_up"] "_law_made" (Cc Kn) f cdv A outer s H E).nox scope [("_law_place",s.heap.objs.size+2)] "_law_word" ["_law_place"] [6]:=by
   rintro scope rfl
   refine ⟨by rfl,.inl (by decide +kernel),by rfl,by decide +kernel,.inl rfl,λy c h=>?_,by rfl,by decide +kernel,rfl,λk y j e1 e2=>?_⟩
   ·have z:=Fb h
    simp only[Ak,Bq,or_false,Gm] at z
    obtain ⟨rfl,rfl⟩:=z; rfl
   ·match k,e1,e2 with
    | 0,e1,e2=>cases e1; cases e2; exact ⟨rfl,rfl,by first | exact .inl rfl | exact .inr rfl⟩
    | k+1,e1,e2=>cases e1
  exact Df (pD (o:=false) (i0:=3) bQ.nd rfl rfl (js1:=[]) (j0:=0) (js2:=[]) (CS1 rfl) rfl (Ug rfl mz_range (Bi (Bh (pv 1)) Bw)) (λ_ _ _=>Pf) (λ_ _ _=>Ri (Np G_L_next hr1 rfl m_L_next k_L_next b_L_next Ky (pv 1) Bw) (Wc (Bh (pv 0)) Fj)))
   (Df (Sv (i:=4) bQ.nd rfl (El rfl) (Gz Bw))
   (Df (Oz Er rfl (Ug rfl mz_range (Bi (Bh (pv 1)) Bw)) (Kl (i:=2) bQ.nd rfl (El rfl))
   (Gb (oF (pv 4) (Mw (Bh (pv 3)) (Bh (pv 2))) (Bh (pv 2)))))
   (Df (Ji (i:=5) bQ.nd rfl (El rfl) (Gz (Bi (Gz (Bi (Ro Bw) Bw)) Bw)))
   (Df (Oz Er rfl (nK (nO (pv 4))) (Kl (i:=6) bQ.nd rfl (Or.inr rfl))
   (Df (Sv (i:=7) bQ.nd rfl (El rfl) (Gz Bw))
    (Df (Oz Er rfl (nK (Bh (pv 5))) (Kl (i:=8) bQ.nd rfl (El rfl))
    (Df (lO (o:=false) (i0:=9) bQ.nd rfl rfl (CS2 rfl) rfl (nK (Bh (pv 8))) (λ_ _ _=>Pf) (λ_ _ _=>Tx uA (qG (i:=true)) rfl mz_tuple (by decide +kernel) (Bi (Fu bD tD rfl mz_sorted (by decide +kernel) (Bi (bX (Bh (pv 0)) (Ro (Bi (Rp (Bh (pv 1))) Bw))) Bw)) Bw)))
     (Df (Xb (pv 7) (hZ (Bh (pv 8)) (Pe (i:=true) (Bh (pv 9)) (Nr (bG Fj)) Nj)))
     (Gb (Zr (pZ (Fu Hu Lx rfl mz_len (by decide +kernel) (Bi (Bh (pv 8)) Bw)) Fj)
     (Gb (Xb (pv 7) (Pe (i:=true) (Bh (pv 9)) Nj (Nr (bG Fj))))) Ud)))))
    (Gb (Ji (i:=5) bQ.nd rfl (El rfl) (kC (pv 7)))))))
   (Gb (Ku (Bh (pv 5))))))))
 case h =>
  (intro ds n R q_; obtain ⟨h,rfl,h0,h1,hn,hR⟩ := q_)
  refine ⟨rfl,?_⟩
  array_get_dec
  refine ⟨by omega,by omega,?_⟩
  refine xM (l:=Ew h.toNat) (g:=λi:Nat=>.int i) rfl rfl (λj acc m=>(∃zs:List Int,acc=zs.map Bl/\zs.length=j/\∀x∈zs,0<=x/\x<20)/\m=n+j) ⟨⟨[],rfl,rfl,λ_ z=>(nomatch z)⟩,rfl⟩ (λj a acc m ha ⟨⟨zs,q1,q3,q4⟩,q2⟩=>?_) (λacc m ⟨⟨ts,q1,q3,q4⟩,q2⟩=>?_)
  ·obtain ⟨rfl,hi⟩:=Xg ha
   array_get_dec
   refine ⟨rfl,by omega,λr=>?_⟩
   array_get_dec
   have b:=Tt r (b:=(a:Int)+1) (by omega)
   refine ⟨by omega,⟨zs++[r % ((a:Int)+1)],by rw[q1,Az]; rfl,by rw[Ay,q3]; rfl,λx hx=>?_⟩,by omega⟩
   rcases An.mp hx with hx | hx
   ·exact q4 x hx
   ·rw[Ac.mp hx]; omega
  subst q1 q2
  rw[Gr] at q3
  array_get_dec
  refine ⟨by omega,by omega,?_⟩
  refine dR (l:=Ew h.toNat) (g:=λi:Nat=>.int i) rfl (λi δ=>∃(O:List Int) (v2:DV),δ=⟨[.drw,.dat .sh (.int h),v2,.dat .sh (.list (ts.map Bl)),.dat .ow (.list (O.map Bl)),.un,.un,.un,.un,.un],n+(Ew h.toNat).length⟩/\O.Nodup/\O.length=i/\(∀x:Int,x∈O↔0<=x/\x<i)/\NP v2) ?_ ?_ ?_
  ·exact ⟨[],_,rfl,Cw,rfl,λx=>⟨λz=>(nomatch z),λz=>absurd z.2 (by omega)⟩,Js⟩
  ·(intro i a _ ha q_; obtain ⟨O,v2,rfl,nd,ol,om,hv2⟩ := q_)
   obtain ⟨rfl,hi⟩:=Xg ha
   array_get_dec
   obtain ⟨t,ht,ht2,ht3⟩:=dU (l:=ts) (i:=(a:Int)) (by omega) (by omega)
   have bt:=q4 t ht3
   refine ⟨.int t,by rw[wJ,ht2]; rfl,?_⟩
   array_get_dec
   have pm:=gA O t.toNat (a:Int)
   refine ⟨by rw[Af]; omega,by omega,by omega,Hd O t.toNat (a:Int),_,eQ (by rw[kK]) rfl,pm.nodup_iff.mpr (Bt.mpr ⟨λz=>?_,nd⟩),by rw[Nq,ol],λx=>?_,Kz⟩
   ·have:=(om _).mp z
    omega
   ·rw[pm.mem_iff,Ak,om x]
    omega
  ·(intro _ q_; obtain ⟨O,v2,rfl,nd,ol,om,hv2⟩ := q_)
   rw[Gr] at ol om
   array_get_dec
   refine dR (l:=O) (g:=Bl) rfl (λi δ=>∃(C:List (List (List Int))) (v6 v7 v8 v9:DV),δ=⟨[.drw,.dat .sh (.int h),v2,.dat .sh (.list (ts.map Bl)),.dat .sh (.list (O.map Bl)),.dat .sh (Dm C),v6,v7,v8,v9],n+(Ew h.toNat).length⟩/\CovP h.toNat (O.take i) C/\C.length<=2 ^ i/\NP v6/\NP v7/\NP v8/\NP v9) ?_ ?_ ?_
   ·exact ⟨[[[]]],_,_,_,_,rfl,zG _,by simp,Js,Js,Js,Js⟩
   ·(intro i p _ hp q_; obtain ⟨C,v6,v7,v8,v9,rfl,cv,cl,hv6,hv7,hv8,hv9⟩ := q_)
    have hi:i<O.length:=(Al.mp hp).1
    have p2:2 ^ (i+1)<=2 ^ 7:=Ft (by decide) (by omega)
    rw[Vr] at p2
    have hpO:=(om p).mp (Ar hp)
    have et:O.take (i+1)=O.take i++[p]:=by rw[Ig,hp]; rfl
    have npt:p∉O.take i:=λz=>by
     have nd2:=(Ee i O).symm▸nd
     rw[cR hi] at nd2
     have:=(Dh.mp nd2).2.2 p z _ Aa
     exact this (Al.mp hp).2.symm
    unfold Dm
    array_get_dec
    refine dR (l:=C) (g:=Cv) rfl (λj δ=>∃(v8 v9:DV),δ=⟨[.drw,.dat .sh (.int h),v2,.dat .sh (.list (ts.map Bl)),.dat .sh (.list (O.map Bl)),.dat .sh (Dm C),.dat .sh (.int p),.dat .ow (Dm ((C.take j).flatMap (Io p))),v8,v9],n+(Ew h.toNat).length⟩/\NP v8/\NP v9) ?_ ?_ ?_
    ·exact ⟨_,_,rfl,hv8,hv9⟩
    ·(intro j c _ hc q_; obtain ⟨v8,v9,rfl,hv8,hv9⟩ := q_)
     have cC:=Ar hc
     unfold Dm Cv
     array_get_dec
     have lc:=cv.len c cC
     have lt:(O.take i).length<=7:=by rw[Cn]; omega
     have lw:∀w∈c,w.length<=60:=λw hw=>Rm ((cv.words c cC w hw).1.up (show ((h.toNat:Nat):Int)<=60 by omega))
     refine xR (l:=c) (g:=Ca) rfl (λw=>Ca (Mz p w)) (λw hw yes no hy=>?_) ?_
     ·have:=lw w hw
      array_get_dec
      refine ⟨by rw[Af]; omega,w++[p],by rw[Az]; rfl,by rw[Ay,Ct]; omega,?_⟩
      array_get_dec
      exact hy
     array_get_dec
     have nec:=cv.ne c cC
     have gl:(c.map λw=>Ca (Mz p w)).getLast? = some (Ca (Mz p (Kw c))):=by
      rw[List.getLast?_map,Du nec]
      unfold Kw
      rw[Gk,Du nec]
      rfl
     rw[oX gl]
     have fl:∀D:List (List (List Int)),(D.flatMap (Io p)).length<=2 * D.length:=Wh p
     have lf:=fl (C.take j)
     rw[Cn] at lf
     have e1:Ql (c.map Ca++[Ca (Mz p (Kw c))])=Cv (c++[Mz p (Kw c)]):=by
      unfold Cv
      rw[Az]
      rfl
     have ej:(C.take (j+1)).flatMap (Io p)=(C.take j).flatMap (Io p)++Io p c:=by
      rw[Ig,hc,Mf]
      simp
     refine ⟨by simp; omega,by simp [npk,hv2 _],by rw[Af]; omega,?_⟩
     rw[e1]
     refine yG (λhb=>?_) (λhb=>?_)
     ·have hb':1<c.length:=by
       have:=of_decide_eq_true hb
       rw[Af] at this
       omega
      array_get_dec
      rw[pW]
      refine ⟨by simp [npk,hv2 _],by rw[Ay,Af,Ct]; omega,_,_,eQ (by rw[ej,Io,if_pos hb',Az,<- Oc,<- Oc]; unfold Cv; simp [Function.comp_def]; exact ⟨rfl,rfl⟩) rfl,Kz,Kz⟩
     ·have hb':¬ 1<c.length:=by
       have:=of_decide_eq_false hb
       rw[Af] at this
       omega
      array_get_dec
      refine ⟨_,_,eQ (by rw[ej,Io,if_neg hb',Az]; rfl) rfl,Kz,Kz⟩
    ·(intro _ q_; obtain ⟨v8,v9,rfl,hv8,hv9⟩ := q_)
     rw[Dq]
     unfold Dm
     array_get_dec
     refine ⟨_,_,_,_,_,rfl,?_,?_,Kz,Js,hv8,hv9⟩
     ·rw[et]
      exact nA cv npt hpO.1 hpO.2
     ·have:=Wh p C
      rw[Vr]
      omega
   ·(intro _ q_; obtain ⟨C,v6,v7,v8,v9,rfl,cv,cl,hv6,hv7,hv8,hv9⟩ := q_)
    array_get_dec
    rw[Dq] at cv
    rw[ol] at cl
    exact ⟨by omega,hR _ _ (by omega) (by rw[Gr]; omega) (sT cv (λi i0 i1=>(om i).mpr ⟨i0,i1⟩) ol) cl⟩
end
def bM(c:List (List Int))(P:List (List (List Int))):Prop:=P.length<=2/\(∀w∈c,∃d∈P,w∈d)/\∀d∈P,d.Sublist c/\d≠[]
theorem kD{c:List (List Int)}(ne:c≠[]):bM c [c]:=⟨by simp,λw hw=>⟨c,Ac.mpr rfl,hw⟩,λd hd=>by rw[Ac.mp hd]; exact ⟨Ci _,ne⟩⟩
theorem wO{c:List (List Int)}{k:Nat}(k0:0<k)(k1:k<c.length):bM c [c.take k,c.drop k]:=by
 refine ⟨by simp,λw hw=>?_,λd hd=>?_⟩
 ·rw[<- Ee k c] at hw
  rcases An.mp hw with q | q
  ·exact ⟨_,Aa,q⟩
  ·exact ⟨_,Ae _ Aa,q⟩
 ·rcases Ak.mp hd with rfl | hd
  ·refine ⟨Ie ..,λz=>?_⟩
   have:=congrArg Fp z
   rw[Cn,Ez] at this
   omega
  ·rw[Ac.mp hd]
   refine ⟨Gv ..,λz=>?_⟩
   have:=congrArg Fp z
   rw[Hk,Ez] at this
   omega
def lN(C D:List (List (List Int))):Prop:=(∀c∈C,∀w∈c,∃d∈D,w∈d)/\∀d∈D,∃c∈C,d.Sublist c/\d≠[]
theorem nX{h:Nat}{C D:List (List (List Int))}(k:Cov h C)(s:lN C D):Cov h D:=by
 refine ⟨λw hw=>?_,λd hd=>?_,λd hd w hw=>?_,λd hd=>?_,λd hd=>?_,λd hd=>?_⟩
 ·obtain ⟨c,hc,hwc⟩:=k.cover w hw
  exact s.1 c hc w hwc
 all_goals obtain ⟨c,hc,q1,q2⟩:=s.2 d hd
 ·exact (k.chain c hc).sublist q1
 ·exact k.words c hc w (q1.subset hw)
 ·exact q2
 ·exact Bv q1.length_le (k.len c hc)
 ·exact (k.nd c hc).sublist q1
theorem d0{α:Type}{xs:List α}{k:Int}(k0:0<=k)(k1:k<=xs.length):Ke xs none (some k)=xs.take k.toNat/\Ke xs (some k) none=xs.drop k.toNat:=by
 unfold Ke HT.sIx
 have q:¬ (k<0):=by omega
 have q2:¬ ((xs.length:Int)<k):=by omega
 simp [q]
 rw[Nat.min_eq_left (by omega)]
 exact Eu (by rw[Hk]; omega)
def dZ:DF:=λds n R=>∃(h:Nat) (C:List (List (List Int))),ds=[Dm C]/\h<=7/\Cov h C/\C.length<=128/\n<=90000/\∀(D:List (List (List Int))) (n':Nat),n<=n'->n'<=n+500->Cov h D->D.length<=256->R (Dm D) n'
section
variable{P:Bx}{w:World}{K:PySem.W.Frag}{mg:Str->Option Value}{base:Heap}
theorem Xk:FnScope ["_law_draws_here", "_law_made_here", "_law_told", "_law_chain", "_law_pick", "_law_at", "_law_parts", "_law_part"] ["_law_draws_here", "_law_made_here"] (Cc My):=⟨rfl,rfl,rfl,by decide +kernel,rfl,by decide +kernel,by decide +kernel⟩
theorem Wk{f f_L_next  : Addr}{fd d_L_next:Cr}(F:Fun K "_law_parted" "_law_parted" My f fd)(G_L_next:FnOk P w K mg base Jw 1 f_L_next d_L_next ["_law_draws_here"] (o7 K Wo))(b_L_next:Binds K d_L_next ["_law_draws_here"] [])(k_L_next:PySem.W.keepIn K (.ref f_L_next)=true)(m_L_next:mg "_law_next" = some (.ref f_L_next))(mz_len:mg "len" = none):FnOk P w K mg base Jw 2 f fd ["_law_draws_here", "_law_made_here"] (iM K (dZ)):=by
 refine' gD (k:=1) F Xk (λcdv A outer s H E hr=>?hb) ?h
 case hb =>
  have hr1:Room 1 _:=hr.mono (by decide)
  have hu64:=hr.units
  exact Df (Sv (i:=2) Xk.nd rfl (El rfl) (Gz Bw))
   (Df (Oz Er rfl (nK (Bh (pv 1))) (Kl (i:=3) Xk.nd rfl (El rfl))
   (Df (Ji (i:=4) Xk.nd rfl (El rfl) (Np G_L_next hr1 rfl m_L_next k_L_next b_L_next Ky (pv 0) Bw))
    (Df (Ji (i:=5) Xk.nd rfl (El rfl) (Ri (r6 (Bh (pv 4)) Fj) (Fu Hu Lx rfl mz_len (by decide +kernel) (Bi (Bh (pv 3)) Bw))))
    (Df (Ji (i:=6) Xk.nd rfl (El rfl) (Gz (Bi (Bh (pv 3)) Bw)))
    (Df (Zr (nJ (iC (xV hu64 (Ri (Bh (pv 4)) Fj) Fj) (bT (pZ (Bh (pv 5)) Fj))))
    (Gb (Ji (i:=6) Xk.nd rfl (El rfl) (Gz (Bi (Pe (i:=true) (Bh (pv 3)) Nj (Nr (Bh (pv 5)))) (Bi (Pe (i:=true) (Bh (pv 3)) (Nr (Bh (pv 5))) Nj) Bw))))) Ud)
    (Gb (Oz Er rfl (nK (Bh (pv 6))) (Kl (i:=7) Xk.nd rfl (El rfl))
    (Gb (iX (pv 2) (Ri (Np G_L_next hr1 rfl m_L_next k_L_next b_L_next Ky (pv 0) Bw) (Wc (Fu Hu Lx rfl mz_len (by decide +kernel) (Bi (Bh (pv 2)) Bw)) Fj)) (Bh (pv 7)))))))))))
   (Gb (Ku (kC (pv 2)))))
 case h =>
  (intro ds n R q_; obtain ⟨h,C,rfl,hh,cv,cl,hn,hR⟩ := q_)
  refine ⟨rfl,?_⟩
  unfold Dm
  array_get_dec
  refine dR (l:=C) (g:=Cv) rfl (λi δ=>∃(D:List (List (List Int))) (m:Md) (v3 v4 v5 v6 v7:DV) (n':Nat),δ=⟨[.drw,.dat .sh (Dm C),.dat m (Dm D),v3,v4,v5,v6,v7],n'⟩/\(m=.ow\/m=.tp)/\n<=n'/\n'<=n+3 * i/\D.length<=2 * i/\lN (C.take i) D/\NP v3/\NP v4/\NP v5/\NP v6/\NP v7) ?_ ?_ ?_
  ·exact ⟨[],_,_,_,_,_,_,_,rfl,.inl rfl,Ai _,Ai _,Ai _,⟨λ_ z=>(nomatch z),λ_ z=>(nomatch z)⟩,Js,Js,Js,Js,Js⟩
  ·(intro i c _ hc q_; obtain ⟨D,m,v3,v4,v5,v6,v7,n',rfl,hm,q1,q2,dl,so,hv3,hv4,hv5,hv6,hv7⟩ := q_)
   have cC:=Ar hc
   have nec:=cv.ne c cC
   have cpos:=Jk.mpr nec
   have hi:=(Al.mp hc).1
   unfold Dm
   rw[show Cv c=.list (c.map Ca) from rfl]
   array_get_dec
   refine ⟨rfl,by omega,λr=>?_⟩
   array_get_dec
   have bm:=Tt (r / 3) (b:=((c.map Ca).length:Int)) (by rw[Af]; omega)
   have cl2:=cv.len c cC
   refine ⟨by rw[Af]; omega,?_⟩
   refine E4 (λP=>p8 _ _ _ P) (λδ=>∃P:List (List (List Int)),δ=⟨[.drw,.dat .sh (.list (C.map Cv)),.dat m (.list (D.map Cv)),.dat .sh (.list (c.map Ca)),.dat .sh (.int r),.dat .sh (.int (r / 3 % ((c.map Ca).length:Nat))),.dat .sh (.list (P.map Cv)),v7],n'+1⟩/\bM c P) (λN hN=>?_) ?_
   ·refine iA (λhb=>?_) (λhb=>?_)
    ·array_get_dec
     refine yG (λhb=>?_) (λhb=>?_)
     ·array_get_dec
      have hb:=of_decide_eq_true hb
      obtain ⟨k1,k2⟩:=d0 (xs:=c.map Ca) bm.1 (by omega)
      rw[k1,k2,<- List.map_take,<- List.map_drop]
      refine hN _ ⟨[c.take _,c.drop _],rfl,wO ?_ ?_⟩
      ·omega
      ·have:=Af (as:=c) Ca
       omega
     ·array_get_dec
      exact hN _ ⟨[c],rfl,kD nec⟩
    ·array_get_dec
     exact hN _ ⟨[c],rfl,kD nec⟩
   ·(intro _ q_; obtain ⟨P,rfl,po⟩ := q_)
    array_get_dec
    refine dR (l:=P) (g:=Cv) rfl (λj δ=>∃(D':List (List (List Int))) (m:Md) (v7:DV),δ=⟨[.drw,.dat .sh (.list (C.map Cv)),.dat m (.list (D'.map Cv)),.dat .sh (.list (c.map Ca)),.dat .sh (.int r),.dat .sh (.int (r / 3 % ((c.map Ca).length:Nat))),.dat .sh (.list (P.map Cv)),v7],n'+1+j⟩/\(m=.ow\/m=.tp)/\D'.length=D.length+j/\(∀d∈D,d∈D')/\(∀d∈P.take j,d∈D')/\(∀d∈D',d∈D\/d∈P)/\NP v7) ?_ ?_ ?_
    ·exact ⟨D,_,_,rfl,hm,rfl,λ_ z=>z,λ_ z=>(nomatch z),λ_ z=>.inl z,hv7⟩
    ·(intro j p _ hp q_; obtain ⟨D',m,v7,rfl,hm,dl',g1,g2,g3,hv7⟩ := q_)
     have hj:=(Al.mp hp).1
     have pl:=po.1
     array_get_dec
     refine ⟨rfl,by omega,λr2=>?_⟩
     array_get_dec
     have b2:=Tt r2 (b:=((D'.map Cv).length:Int)+1) (by omega)
     have pm:=gA D' (r2 % (((D'.map Cv).length:Int)+1)).toNat p
     have dl2:(D'.map Cv).length<=300:=by rw[Af]; omega
     have hm':own1 m=true:=by rcases hm with rfl | rfl <;> rfl
     have hnp:NP (.dat m (.list (D'.map Cv))):=by rcases hm with rfl | rfl <;> exact λ_=>rfl
     refine ⟨by omega,hm',by rw[hnp]; simp [npk],by decide,by omega,b2.1,by omega,Hd D' _ p,_,_,eQ (by rw[kK]) (by omega),.inr rfl,by rw[Nq]; omega,λd hd=>pm.mem_iff.mpr (Ae _ (g1 d hd)),λd hd=>?_,λd hd=>?_,Kz⟩
     ·rw[Ig,hp] at hd
      rcases An.mp hd with hd | hd
      ·exact pm.mem_iff.mpr (Ae _ (g2 d hd))
      ·obtain rfl:d=p:=by simpa using hd
       exact pm.mem_iff.mpr Aa
     ·rcases Ak.mp (pm.mem_iff.mp hd) with rfl | hd
      ·exact .inr (Ar hp)
      ·exact g3 d hd
    ·(intro _ q_; obtain ⟨D',m,v7,rfl,hm,dl',g1,g2,g3,hv7⟩ := q_)
     have pl:=po.1
     rw[Dq] at g2
     refine ⟨D',m,_,_,_,_,_,_,rfl,hm,by omega,by omega,by omega,⟨λd hd w hw=>?_,λd hd=>?_⟩,Kz,Kz,Kz,Kz,hv7⟩
     ·rw[Ig,hc] at hd
      rcases An.mp hd with hd | hd
      ·obtain ⟨e,he,hwe⟩:=so.1 d hd w hw
       exact ⟨e,g1 e he,hwe⟩
      ·obtain rfl:d=c:=by simpa using hd
       obtain ⟨e,he,hwe⟩:=po.2.1 w hw
       exact ⟨e,g2 e he,hwe⟩
     ·rcases g3 d hd with z | z
      ·obtain ⟨e,he,hwe⟩:=so.2 d z
       exact ⟨e,by rw[Ig]; exact Ag _ he,hwe⟩
      ·exact ⟨c,by rw[Ig,hc]; exact Ad _ (by simp),po.2.2 d z⟩
  ·(intro _ q_; obtain ⟨D,m,v3,v4,v5,v6,v7,n',rfl,hm,q1,q2,dl,so,hv3,hv4,hv5,hv6,hv7⟩ := q_)
   rw[Dq] at so
   have fin:=hR D n' q1 (by omega) (nX cv so) (by omega)
   array_get_dec
   exact ⟨q1,m,_,rfl,by rcases hm with rfl | rfl <;> decide,fin⟩
end
def yH:PF:=λds R=>∃u v:List Int,ds=[Ca u,Ca v]/\R (.bool (gO u v))
section
variable{P:Bx}{w:World}{K:PySem.W.Frag}{mg:Str->Option Value}{base:Heap}
theorem Xl:FnScope ["_law_one", "_law_other"] ["_law_one", "_law_other"] (Cc Kj):=⟨rfl,rfl,rfl,by decide +kernel,rfl,by decide +kernel,by decide +kernel⟩
theorem Wi{f   : Addr}{fd  : Cr}(F:Fun K "_law_within" "_law_within" Kj f fd):FnOk P w K mg base Jw 1 f fd ["_law_one", "_law_other"] (nW K (yH)):=by
 refine' aM (k:=0) F Xl (λcdv A outer s H E hr=>?hb) ?h
 case hb =>
  have hu64:=hr.units
  have CS1:∀{scope:Scope} (h:scope={ kind:=.function,names:=[(".0",.local),("_law_place",.local),("_law_other",.free)],isGenerator:=false,isCoroutine:=false }),
    CompScope (Mh Jw P w K mg base ["_law_one", "_law_other"] "_law_within" (Cc Kj) f cdv A outer s H E).nox scope [("_law_other",s.heap.objs.size+1)] "_law_place" ["_law_other"] [1]:=by
   rintro scope rfl
   refine ⟨by rfl,.inl (by decide +kernel),by rfl,by decide +kernel,.inl rfl,λy c h=>?_,by rfl,by decide +kernel,rfl,λk y j e1 e2=>?_⟩
   ·have z:=Fb h
    simp only[Ak,Bq,or_false,Gm] at z
    obtain ⟨rfl,rfl⟩:=z; rfl
   ·match k,e1,e2 with
    | 0,e1,e2=>cases e1; cases e2; exact ⟨rfl,rfl,by first | exact .inl rfl | exact .inr rfl⟩
    | k+1,e1,e2=>cases e1
  exact Gb (Ku (G7 hu64 (bU (CS1 rfl) rfl (V5 (Bh (pv 0))) (λ_ _ _=>Vn (sJ hu64 (Bh (pv 0)) (Bh (pv 1)))) (λ_ _ _=>Bh (pv 0))) (Gz Bw)))
 case h =>
  (intro ds R q_; obtain ⟨u,v,rfl,hR⟩ := q_)
  refine ⟨rfl,?_⟩
  array_get_dec
  refine kN (l:=u) (g:=Bl) rfl (λi=>decide (i∉v)) (λi=>.int i) (λi _ yes no hy hn=>?_) ?_
  ·array_get_dec
   refine wN (λh=>?_) (λh=>?_)
   ·array_get_dec
    exact hy (by simpa using h)
   ·exact hn (by simpa using h)
  ·array_get_dec
   have e:(List.map (λi=>Bl i) (List.filter (λi=>decide (i∉v)) u)).isEmpty=gO u v:=by
    unfold gO
    rw[Bool.eq_iff_iff]
    simp
   rw[e]
   exact hR
end
theorem Wm{h:Nat}{w:List Int}(hh:h<=7)(r:Fc h w):Jt 12 (Ca w)/\Jo (Ca w)<=61/\(Ca w).depth<=1:=by
 have r60:=r.up (show ((h:Nat):Int)<=60 by omega)
 have hl:=Rm r60
 refine ⟨pQ λd hd=>?_,?_,?_⟩
 ·obtain ⟨i,hi,rfl⟩:=Ce.mp hd
  have:=r.2 i hi
  rw[Jt]
  omega
 ·have:=Mq (m:=1) (xs:=w.map Bl) λx hx=>by
   obtain ⟨i,_,rfl⟩:=Ce.mp hx
   simp [Jo]
  rw[Af] at this
  show Gx _+1<=61
  omega
 ·have:=Jl (m:=0) (xs:=w.map Bl) λx hx=>by
   obtain ⟨i,_,rfl⟩:=Ce.mp hx
   simp [Cq]
  show Bd _+1<=1
  omega
theorem Tw{h:Nat}{c:List (List Int)}{n:Nat}(hh:h<=7)(r:∀w∈c,Fc h w)(hc:c.length<=n):Jt 12 (.list (c.map Ca))/\Jo (.list (c.map Ca))<=61 * n+1/\(Ql (c.map Ca)).depth<=2:=by
 refine ⟨Wl λd hd=>?_,?_,?_⟩
 ·obtain ⟨i,hi,rfl⟩:=Ce.mp hd
  exact (Wm hh (r i hi)).1
 ·have:=Mq (m:=61) (xs:=c.map Ca) λx hx=>by
   obtain ⟨i,hi,rfl⟩:=Ce.mp hx
   exact (Wm hh (r i hi)).2.1
  rw[Af] at this
  show Gx _+1<=61 * n+1
  omega
 ·have:=Jl (m:=1) (xs:=c.map Ca) λx hx=>by
   obtain ⟨i,hi,rfl⟩:=Ce.mp hx
   exact (Wm hh (r i hi)).2.2
  show Bd _+1<=2
  omega
theorem jR{h:Nat}{C:List (List (List Int))}{n:Nat}(hh:h<=7)(k:Cov h C)(hc:C.length<=n):Jt 12 (Dm C)/\Jo (Dm C)<=489 * n+1/\(Dm C).depth<=3:=by
 have one:∀c∈C,Jt 12 (Cv c)/\Jo (Cv c)<=489/\(Cv c).depth<=2:=λc hc=>Tw hh (k.words c hc) (n:=8) (by have:=k.len c hc; omega)
 refine ⟨Wl λd hd=>?_,?_,?_⟩
 ·obtain ⟨i,hi,rfl⟩:=Ce.mp hd
  exact (one i hi).1
 ·have:=Mq (m:=489) (xs:=C.map Cv) λx hx=>by
   obtain ⟨i,hi,rfl⟩:=Ce.mp hx
   exact (one i hi).2.1
  rw[Af] at this
  show Gx _+1<=489 * n+1
  omega
 ·have:=Jl (m:=2) (xs:=C.map Cv) λx hx=>by
   obtain ⟨i,hi,rfl⟩:=Ce.mp hx
   exact (one i hi).2.2
  show Bd _+1<=3
  omega
theorem iD{h:Nat}{C:List (List (List Int))}{cde:List (List Int)}(k:CodeOk h C cde):(∃b,b<=400/\Jt b (.list [.list (cde.map Ca),Dm C])/\(b+12) * Jo (.list [.list (cde.map Ca),Dm C])<=Aq)/\(Ql [.list (cde.map Ca),Dm C]).depth<=90:=by
 obtain ⟨a1,a2,a3⟩:=Tw k.hh k.rise k.lc
 obtain ⟨b1,b2,b3⟩:=jR k.hh k.cov k.lC
 refine ⟨⟨12,by decide,Wl λd hd=>?_,?_⟩,?_⟩
 ·rcases Ak.mp hd with rfl | hd
  ·exact a1
  ·rw[Ac.mp hd]; exact b1
 ·rw[He]
  simp only[Jo,Gx] at a2 b2 ⊢
  omega
 ·simp only[Cq,Bd] at a3 b3 ⊢
  omega
def kB:PF:=λds R=>∃(h:Nat) (C:List (List (List Int))) (cde:List (List Int)),ds=[.list (cde.map Ca),Dm C]/\CodeOk h C cde/\R (.bool true)
section
variable{P:Bx}{w:World}{K:PySem.W.Frag}{mg:Str->Option Value}{base:Heap}
theorem Yq:FnScope ["_law_code", "_law_some", "_law_kept", "_law_told", "_law_one", "_law_other"] ["_law_code", "_law_some"] (Cc Hi):=⟨rfl,rfl,rfl,by decide +kernel,rfl,by decide +kernel,by decide +kernel⟩
theorem Yk{f f_two_in f_L_within  : Addr}{fd d_two_in d_L_within:Cr}(F:Fun K "_law_right" "_law_right" Hi f fd)(G_two_in:FnOk P w K mg base Jw 1 f_two_in d_two_in ["code", "some"] (nW K (yI)))(b_two_in:Binds K d_two_in ["code", "some"] [])(k_two_in:PySem.W.keepIn K (.ref f_two_in)=true)(m_two_in:mg "two_in" = some (.ref f_two_in))(G_L_within:FnOk P w K mg base Jw 1 f_L_within d_L_within ["_law_one", "_law_other"] (nW K (yH)))(b_L_within:Binds K d_L_within ["_law_one", "_law_other"] [])(k_L_within:PySem.W.keepIn K (.ref f_L_within)=true)(m_L_within:mg "_law_within" = some (.ref f_L_within))(mz_str:mg "str" = none)(mz_len:mg "len" = none)(mz_tuple:mg "tuple" = none)(mz_isinstance:mg "isinstance" = none)(mz_bool:mg "bool" = none)(mz_int:mg "int" = none):FnOk P w K mg base Jw 2 f fd ["_law_code", "_law_some"] (nW K (kB)):=by
 refine' aM (k:=1) F Yq (λcdv A outer s H E hr=>?hb) ?h
 case hb =>
  have hr1:Room 1 _:=hr.mono (by decide)
  have hu64:=hr.units
  have hrx:Room 1 (Mh Jw P w K mg base ["_law_code", "_law_some", "_law_kept", "_law_told", "_law_one", "_law_other"] "_law_right" (Cc Hi) f cdv A outer s H E).nox.A:=hr
  have hu100:(Mh Jw P w K mg base ["_law_code", "_law_some", "_law_kept", "_law_told", "_law_one", "_law_other"] "_law_right" (Cc Hi) f cdv A outer s H E).nox.A.units+100<cLine:=by have:=hrx.un; omega
  have CS1:∀{scope:Scope} (h:scope={ kind:=.function,names:=[(".0",.local),("_law_k",.local),("isinstance",.globalImplicit),("int",.globalImplicit),("bool",.globalImplicit),("len",.globalImplicit),("_law_code",.free)],isGenerator:=false,isCoroutine:=false }),
    CompScope (Mh Jw P w K mg base ["_law_code", "_law_some", "_law_kept", "_law_told", "_law_one", "_law_other"] "_law_right" (Cc Hi) f cdv A outer s H E).nox scope [("_law_code",s.heap.objs.size+1)] "_law_k" ["_law_code"] [0]:=by
   rintro scope rfl
   refine ⟨by rfl,.inl (by decide +kernel),by rfl,by decide +kernel,.inl rfl,λy c h=>?_,by rfl,by decide +kernel,rfl,λk y j e1 e2=>?_⟩
   ·have z:=Fb h
    simp only[Ak,Bq,or_false,Gm] at z
    obtain ⟨rfl,rfl⟩:=z; rfl
   ·match k,e1,e2 with
    | 0,e1,e2=>cases e1; cases e2; exact ⟨rfl,rfl,by first | exact .inl rfl | exact .inr rfl⟩
    | k+1,e1,e2=>cases e1
  have CS2:∀{scope:Scope} (h:scope={ kind:=.function,names:=[(".0",.local),("_law_chain",.local),("_law_one",.free),("_law_other",.free)],isGenerator:=false,isCoroutine:=false }),
    CompScope (Mh Jw P w K mg base ["_law_code", "_law_some", "_law_kept", "_law_told", "_law_one", "_law_other"] "_law_right" (Cc Hi) f cdv A outer s H E).nox scope [("_law_other",s.heap.objs.size+3),("_law_one",s.heap.objs.size+2)] "_law_chain" ["_law_one", "_law_other"] [4,5]:=by
   rintro scope rfl
   refine ⟨by rfl,.inl (by decide +kernel),by rfl,by decide +kernel,.inl rfl,λy c h=>?_,by rfl,by decide +kernel,rfl,λk y j e1 e2=>?_⟩
   ·have z:=Fb h
    simp only[Ak,Bq,or_false,Gm] at z
    rcases z with ⟨rfl,rfl⟩ | ⟨rfl,rfl⟩ <;> rfl
   ·match k,e1,e2 with
    | 0,e1,e2=>cases e1; cases e2; exact ⟨rfl,rfl,by first | exact .inl rfl | exact .inr rfl⟩
    | 1,e1,e2=>cases e1; cases e2; exact ⟨rfl,rfl,by first | exact .inl rfl | exact .inr rfl⟩
    | k+2,e1,e2=>cases e1
  exact Df (Ji (i:=2) Yq.nd rfl (El rfl) (Tx (Yz hr.gd hu100) qJ rfl mz_str (by decide +kernel) (Bi (Gz (Bi (Bh (pv 0)) (Bi (Bh (pv 1)) Bw))) Bw)))
   (Df (Ji (i:=3) Yq.nd rfl (El rfl) (Vk G_two_in hr1 rfl m_two_in k_two_in b_two_in Ky (Bi (Bh (pv 0)) (Bi (Bh (pv 1)) Bw))))
   (Df (Zr (nJ (Zy (qO hu64 (Tx (Yz hr.gd hu100) qJ rfl mz_str (by decide +kernel) (Bi (Gz (Bi (Bh (pv 0)) (Bi (Bh (pv 1)) Bw))) Bw)) (Bh (pv 2))) (Zy (aY (Wx (Fu jH jQ rfl mz_isinstance (by decide +kernel) (Bi (Bh (pv 3)) (Bi (uD (n := "tuple") rfl mz_tuple (by decide +kernel)) Bw))))) (jL (qO hu64 (Fu Hu Lx rfl mz_len (by decide +kernel) (Bi (Bh (pv 3)) Bw)) Fj)))))
   (Gb (Ku dG)) Ud)
   (Df (Zr (qO hu64 (bU (CS1 rfl) rfl (V5 (Bh (pv 3))) (λ_ _ _=>Vn (nJ (Zy (aY (Wx (Fu jH jQ rfl mz_isinstance (by decide +kernel) (Bi (Bh (pv 0)) (Bi (uD (n := "int") rfl mz_int (by decide +kernel)) Bw))))) (Zy (Wx (Fu jH jQ rfl mz_isinstance (by decide +kernel) (Bi (Bh (pv 0)) (Bi (uD (n := "bool") rfl mz_bool (by decide +kernel)) Bw)))) (Zy (yD (Bh (pv 0)) Fj) (jL (C7 (Bh (pv 0)) (Fu Hu Lx rfl mz_len (by decide +kernel) (Bi (Bh (pv 1)) Bw))))))))) (λ_ _ _=>Bh (pv 0))) (Gz Bw))
   (Gb (Ku dG)) Ud)
   (Df (B0 (Ro (Bi (Rp (Mw (Bh (pv 0)) (Mw (Bh (pv 3)) Fj))) (Bi (Rp (Mw (Bh (pv 0)) (Mw (Bh (pv 3)) Fj))) Bw))) (zM (n:=2) rfl (dS (Kl (i:=4) Yq.nd rfl (Or.inr rfl)) (dS (Kl (i:=5) Yq.nd rfl (Or.inr rfl)) vT))))
   (Df (Zr (nJ (Zy (xV hu64 (Mw (Bh (pv 3)) Fj) (Mw (Bh (pv 3)) Fj)) (jL (aY (Wx (Vk G_L_within hr1 rfl m_L_within k_L_within b_L_within Ky (Bi (Bh (pv 4)) (Bi (Bh (pv 5)) Bw))))))))
   (Gb (Ku dG)) Ud)
   (Gb (Ku (O6 hu64 (uB (CS2 rfl) rfl (nK (Bh (pv 1))) (λ_ _ _=>Vn (nJ (iC (xY hu64 (Bh (pv 1)) (Bh (pv 0))) (bT (xY hu64 (Bh (pv 2)) (Bh (pv 0))))))) (λ_ _ _=>Bh (pv 0))) (Gz Bw)))))))))
 case h =>
  (intro ds R q_; obtain ⟨h,C,cde,rfl,k,hR⟩ := q_)
  refine ⟨rfl,?_⟩
  have tx:=iD k
  array_get_dec
  refine ⟨tx.1,tx.2,h,C,cde,rfl,k,λp q u v c cC hp hq hu hv npq huv=>?_⟩
  array_get_dec
  refine ⟨tx.1,tx.2,?_⟩
  array_get_dec
  refine kN (l:=[(p:Int),(q:Int)]) (g:=Bl) rfl (λ_=>false) (λi=>.int i) (λi hi yes no hy hn=>?_) ?_
  ·array_get_dec
   have bi:0<=i/\i<cde.length:=by
    rcases Ak.mp hi with rfl | hi
    ·have:=(Al.mp hp).1; omega
    ·rw[Ac.mp hi]
     have:=(Al.mp hq).1; omega
   rw[show decide (i<0)=false from decide_eq_false (by omega)]
   array_get_dec
   rw[show decide (((cde.map Ca).length:Int)<=i)=false from decide_eq_false (by rw[Af]; omega)]
   array_get_dec
   exact hn rfl
  rw[show ([(p:Int),(q:Int)].filter λ_=>false)=[] from rfl]
  array_get_dec
  have ap:So (cde.map Ca) (p:Int)=some (Ca u):=jX (by rw[Bg,hp]; rfl)
  have aq:So (cde.map Ca) (q:Int)=some (Ca v):=jX (by rw[Bg,hq]; rfl)
  have im:∀w:List Int,imm (Ca w)=true:=λw=>by unfold Ca; rw[imm]; exact Ov _
  refine ⟨_,ap,im _,?_⟩
  array_get_dec
  refine ⟨_,aq,im _,?_⟩
  array_get_dec
  rw[show decide ((p:Int)=(q:Int))=false from decide_eq_false (by omega)]
  array_get_dec
  refine ⟨u,v,rfl,?_⟩
  rw[huv]
  array_get_dec
  unfold Dm
  array_get_dec
  refine tP (l:=C) (g:=Cv) rfl (λd=>decide (u∈d) && decide (v∈d)) Cv (λd hd yes no hy hn=>?_) ?_
  ·rw[show Cv d=.list (d.map Ca) from rfl]
   array_get_dec
   refine iA (λh1=>?_) (λh1=>?_)
   ·array_get_dec
    cases h2:decide (v∈d) with
    | true=>array_get_dec; exact hy (by rw[h1,h2]; rfl)
    | false=>array_get_dec; exact hn (by rw[h1,h2]; rfl)
   ·array_get_dec
    exact hn (by rw[h1]; rfl)
  array_get_dec
  have hf:c∈C.filter λd=>decide (u∈d) && decide (v∈d):=Gn.mpr ⟨cC,by simp [hu,hv]⟩
  refine ⟨?_,?_⟩
  ·have:=Jl (m:=2) (xs:=(C.filter λd=>decide (u∈d) && decide (v∈d)).map Cv) λx hx=>by
    obtain ⟨e,he,rfl⟩:=Ce.mp hx
    exact (Tw k.hh (k.cov.words e (Gn.mp he).1) (Ai _)).2.2
   show Bd _+1<=60
   omega
  ·have e:((C.filter λd=>decide (u∈d) && decide (v∈d)).map Cv).isEmpty=false:=by
    cases q:C.filter λd=>decide (u∈d) && decide (v∈d) with
    | nil=>rw[q] at hf; cases hf
    | cons x l=>rfl
   rw[e]
   exact hR
theorem Wu:FnScope ["_law_holes", "_law_told", "_law_place"] ["_law_holes"] (Cc Lp):=⟨rfl,rfl,rfl,by decide +kernel,rfl,by decide +kernel,by decide +kernel⟩
theorem aI{f:Addr}{fd:Cr}(F:Fun K "_law_all" "_law_all" Lp f fd)(mR:mg "range" = none)(mS:mg "sorted" = none):FnOk P w K mg base Jw 1 f fd ["_law_holes"] lJ:=by
 refine F.ok Wu (λvs H Q E h=>?_) (λcdv A outer s H vs Q E hr h=>?_)
 ·obtain ⟨h,rfl,_⟩:=h
  rfl
 obtain ⟨h,rfl,h0,h1,q⟩:=h
 have hu2:(A.deeper (PyProof.Rows.envOfC "_law_all" (Cc Lp) s.heap.objs.size f cdv)).units+2<cLine:=Nh (Nat.add_le_add_left (by decide:2<=64) _) hr.units
 refine ⟨_,Iz (Pi (i:=1) Wu.nd rfl (El rfl) (gU (Gh (iG Kv) Kv)))
  (Iz (tI Er rfl (Zn rfl mR (Gh (pv 0) Kv)) (Ip (i:=2) Wu.nd rfl (Or.inr rfl))
   (Qd (Pi (i:=1) Wu.nd rfl (El rfl) (Ir sQ (pv 1)
    (cA (hV (x := "_law_word") (y := "_law_place") (j:=2) (cl:=[("_law_place",s.heap.objs.size+1)]) (by rfl) (by decide +kernel) (by rfl) (by decide +kernel) (by rfl) (λ_ _ h=>h) (by rfl) (by decide +kernel) (by rfl) (by rfl) (by rfl)) rfl (lR (pv 1)) (λ_ _ _=>eV)
     (λ_ _ _=>Ir (r:=yO K) xF (pv 0) (iG (Gh (pv 1) Kv))))))))
  (Qd (Wz (fH (Ts.call_sorted hu2) rfl mS (by decide +kernel) (Gh (pv 1) Kv))))),?_⟩
 refine ⟨(by show 0<=Aq; decide),λe ne=>⟨(by show 1<=Aq; decide),λl nl=>?_⟩⟩
 have s1:=(En ne (.tup [])).trans (En nl (.lst [V.ref e]))
 have b1:(upd (upd H e (.tup [])) l (.lst [V.ref e])) l=some (.lst (([(e,[])].map λp:Addr×List Int=>p.1).map V.ref)):=Dd
 have b2:Ws (upd (upd H e (.tup [])) l (.lst [V.ref e])) [(e,[])]:=λp hp=>by
  have : p=(e,[]):=by simpa using hp
  rw[this]
  exact En nl _ _ _ Dd
 refine ⟨_,rfl,h,rfl,by omega,by omega,oA (lo:=0) (n:=h.toNat) (λi σ H2=>∃(l:Addr) (ws:List (Addr×List Int)) (pl:Option V),σ=[some (.int h),some (.ref l),pl]/\H2 l=some (.lst ((ws.map λp:Addr×List Int=>p.1).map V.ref))/\Ws H2 ws/\(ws.map λp:Addr×List Int=>p.2)=Ei i/\Mi H H2)
  ⟨l,[(e,[])],none,rfl,b1,b2,rfl,s1⟩ ?_ ?_⟩
 ·(intro i σ H2 hi q_; obtain ⟨l,ws,pl,rfl,e1,hw,ew,sm⟩ := q_)
  have i10:i<=10:=by omega
  have lw:ws.length=(Ei i).length:=by rw[<- ew,Af]
  have lz:=Sg i10
  have hz:((ws.map λp:Addr×List Int=>p.1).map V.ref).length=(Ei i).length:=by rw[Af,Af,lw]
  refine ⟨_,rfl,_,rfl,l,rfl,⟨_,Rr.of e1⟩,xD (fL (xs:=(ws.map λp:Addr×List Int=>p.1).map V.ref)) (by rw[hz]; exact Bv lz (by decide))
   (λD j acc H3=>∃vs:List (Addr×List Int),acc=((vs.map λp:Addr×List Int=>p.1).map V.ref)/\Ws H3 vs/\(vs.map λp:Addr×List Int=>p.2)=((Ei i).take j).map (·++[(i:Int)])/\Mi H2 H3)
   (λD nD=>⟨[],rfl,λp hp=>(nomatch hp),by simp,En nD _⟩) (λD j acc H3 ⟨_,_,_,_,s3⟩=>Rr.of (s3 _ _ e1)) ?_ ?_⟩
  ·(intro D j x acc H3 nD hx ha q_; obtain ⟨vs,rfl,wv,ev,s3⟩ := q_)
   refine zZ ?_
   rw[Eh,Bg] at hx
   cases hj:ws[j]? with
   | none=>rw[hj] at hx; cases hx
   | some pr =>
    obtain ⟨a,wd⟩:=pr
    rw[hj] at hx
    have ex:V.ref a=x:=Be hx
    subst ex
    have ha2:H3 a=some (.tup (wd.map V.int)):=s3 _ _ (hw (a,wd) (Ar hj))
    have ewd:(Ei i)[j]? = some wd:=by
     rw[<- ew,Bg,hj]
     rfl
    have lwd:wd.length<=10:=Bv (Mk i wd (Ar ewd)) i10
    -- the new word stands at r
    have fin:∀(r:Addr) (H4:Hp),Mi H3 H4->H4 r=some (.tup ((wd++[(i:Int)]).map V.int))->H4 D=some (.lst ((vs.map λp:Addr×List Int=>p.1).map V.ref)) /\
      ∃vs':List (Addr×List Int),(vs.map λp:Addr×List Int=>p.1).map V.ref++[V.ref r]=(vs'.map λp:Addr×List Int=>p.1).map V.ref/\Ws (upd H4 D (.lst ((vs.map λp:Addr×List Int=>p.1).map V.ref++[V.ref r]))) vs' /\
       (vs'.map λp:Addr×List Int=>p.2)=((Ei i).take (j+1)).map (·++[(i:Int)])/\Mi H2 (upd H4 D (.lst ((vs.map λp:Addr×List Int=>p.1).map V.ref++[V.ref r]))):=λr H4 s4 hr4=>by
     have hD4:=s4 _ _ ha
     refine ⟨hD4,vs++[(r,wd++[(i:Int)])],by simp,λp hp=>?_,?_,λb o z=>?_⟩
     ·have hp4:H4 p.1=some (.tup (p.2.map V.int)):=by
       rcases An.mp hp with hp | hp
       ·exact s4 _ _ (wv p hp)
       ·have : p=(r,wd++[(i:Int)]):=by simpa using hp
        rw[this]
        exact hr4
      rw[Dy (yT hp4 hD4 (by intro z; cases z))]
      exact hp4
     ·rw[Az,ev,Iq ewd,Az]
      rfl
     ·rw[Dy (Ej z nD)]
      exact s4 _ _ (s3 _ _ z)
    refine ⟨_,rfl,_,rfl,(by show 1<=Aq; decide),λp1 np1=>?_⟩
    have s4:=En np1 (.tup [V.int (0+(i:Int))])
    refine ⟨a,p1,_,_,rfl,rfl,Qs.of (s4 _ _ ha2),Qs.of Dd,(λz=>nomatch z),?_,λz=>?_,λz p2 np2=>?_⟩
    ·rw[Af]
     show wd.length+1<=Aq
     exact yN (by omega)
    ·have e0:wd=[]:=by simpa using z
     subst e0
     exact fin p1 _ s4 (by rw[Dd,Int.zero_add]; rfl)
    ·refine fin p2 _ (s4.trans (En np2 _)) ?_
     rw[Dd,Az,Int.zero_add]
     rfl
  ·(intro D acc H3 nD ha q_; obtain ⟨vs,rfl,wv,ev,s3⟩ := q_)
   rw[hz,Dq] at ev
   have lv:vs.length=(Ei i).length:=by
    have:=congrArg Fp ev
    rw[Af,Af] at this
    exact this
   refine ⟨l,D,_,_,rfl,rfl,s3 _ _ e1,ha,?_,λp np=>?_⟩
   ·rw[Af,Af,Af,Af,lw,lv]
    exact Bv (by omega:_<=2048) (by decide)
   ·have s4:=En np (.lst ((ws.map λp:Addr×List Int=>p.1).map V.ref++(vs.map λp:Addr×List Int=>p.1).map V.ref))
    refine ⟨p,ws++vs,_,rfl,?_,λx hx=>?_,?_,(sm.trans s3).trans s4⟩
    ·rw[Dd,Az,Az]
    ·rcases An.mp hx with hx | hx
     ·exact s4 _ _ (s3 _ _ (hw x hx))
     ·exact s4 _ _ (wv x hx)
    ·rw[Az,ew,ev]
     rfl
 ·(intro σ H2 q_; obtain ⟨l,ws,pl,rfl,e1,hw,ew,sm⟩ := q_)
  have ec:=hw.c
  refine ⟨_,rfl,l,ws.map (λp:Addr×List Int=>p.1),w5 H2,rfl,Rr.of e1,λr hr'=>?_,λr Gf er=>?_,λp rs' np pr so=>?_⟩
  ·obtain ⟨x,hx,e⟩:=Ce.mp hr'
   subst e
   rw[aG (hw x hx)]
   exact Qs.of (hw x hx)
  ·obtain ⟨tl,et⟩:=Ur h.toNat
   rw[<- ew] at et
   cases ws with
   | nil=>cases er
   | cons x ws' =>
    have e1:x.1=r:=by
     have:=congrArg List.head? er
     simpa using this
    have e2:x.2=[]:=by
     have:=congrArg List.head? et
     simpa using this
    rw[<- e1,aG (hw x Aa),e2]
  ·have s3:=En np (.lst (rs'.map V.ref))
   refine q p rs' (rs'.map (w5 H2)) _ (sm.free np) Dd (λi r wd h1 h2=>?_) (by rw[Af]) ?_ ?_ (sm.trans s3)
   ·rw[Bg,h1] at h2
    have e2:w5 H2 r=wd:=Be h2
    obtain ⟨x,hx,e⟩:=Ce.mp (pr.mem_iff.mp (Ar h1))
    have hx':=hw x hx
    have e':x.1=r:=e
    rw[<- e2,<- e',aG hx']
    exact s3 _ _ hx'
   ·have:=pr.map (w5 H2)
    rw[ec,ew] at this
    exact this
   ·exact Vf.mpr so
theorem gG{f:Addr}{fd:Cr}(F:Fun K "_law_all" "_law_all" Lp f fd)(mR:mg "range" = none)(mS:mg "sorted" = none):FnOk P w K mg base Jw 1 f fd ["_law_holes"] (nW K aH):=qV (aI F mR mS)
end
theorem iN(c:List (List Int)):Rl (Cv c)=true:=by
 unfold Cv
 rw[Rl,Tn λw _=>?_]
 ·cases c with
  | nil=>rfl
  | cons w c=>rfl
 ·unfold Ca
  rw[Rl]
  exact Tn λi _=>rfl
theorem Ox(C:List (List (List Int))):Rl (Dm C)=true:=by
 unfold Dm
 rw[Rl,Tn λw _=>iN w]
 cases C with
 | nil=>rfl
 | cons w c=>rfl
section
variable{P:Bx}{w:World}{K:PySem.W.Frag}{mg:Str->Option Value}{base:Heap}
theorem p7:FnScope ["_law_script", "_law_cell", "_law_draws_here", "_law_holes", "_law_some", "_law_left", "_law_many", "_law_code"] ["_law_script"] (Cc cD):=⟨rfl,rfl,rfl,by decide +kernel,rfl,by decide +kernel,by decide +kernel⟩
theorem zT{f f_chains f_L_draws f_L_next f_L_all f_L_made f_L_parted f_L_right  : Addr}{fd d_chains d_L_draws d_L_next d_L_all d_L_made d_L_parted d_L_right:Cr}(F:Fun K "law" "law" cD f fd)(G_chains:FnOk P w K mg base Jw 2 f_chains d_chains ["holes"] (B6 K (fI)))(b_chains:Binds K d_chains ["holes"] [])(k_chains:PySem.W.keepIn K (.ref f_chains)=true)(m_chains:mg "chains" = some (.ref f_chains))(G_L_draws:FnOk P w K mg base Jw 1 f_L_draws d_L_draws ["_law_cell"] (Sk))(b_L_draws:Binds K d_L_draws ["_law_cell"] [])(k_L_draws:PySem.W.keepIn K (.ref f_L_draws)=true)(m_L_draws:mg "_law_draws" = some (.ref f_L_draws))(G_L_next:FnOk P w K mg base Jw 1 f_L_next d_L_next ["_law_draws_here"] (o7 K Wo))(b_L_next:Binds K d_L_next ["_law_draws_here"] [])(k_L_next:PySem.W.keepIn K (.ref f_L_next)=true)(m_L_next:mg "_law_next" = some (.ref f_L_next))(G_L_all:FnOk P w K mg base Jw 1 f_L_all d_L_all ["_law_holes"] (nW K aH))(b_L_all:Binds K d_L_all ["_law_holes"] [])(k_L_all:PySem.W.keepIn K (.ref f_L_all)=true)(m_L_all:mg "_law_all" = some (.ref f_L_all))(G_L_made:FnOk P w K mg base Jw 2 f_L_made d_L_made ["_law_draws_here", "_law_holes"] (iM K (pV)))(b_L_made:Binds K d_L_made ["_law_draws_here", "_law_holes"] [])(k_L_made:PySem.W.keepIn K (.ref f_L_made)=true)(m_L_made:mg "_law_made" = some (.ref f_L_made))(G_L_parted:FnOk P w K mg base Jw 2 f_L_parted d_L_parted ["_law_draws_here", "_law_made_here"] (iM K (dZ)))(b_L_parted:Binds K d_L_parted ["_law_draws_here", "_law_made_here"] [])(k_L_parted:PySem.W.keepIn K (.ref f_L_parted)=true)(m_L_parted:mg "_law_parted" = some (.ref f_L_parted))(G_L_right:FnOk P w K mg base Jw 2 f_L_right d_L_right ["_law_code", "_law_some"] (nW K (kB)))(b_L_right:Binds K d_L_right ["_law_code", "_law_some"] [])(k_L_right:PySem.W.keepIn K (.ref f_L_right)=true)(m_L_right:mg "_law_right" = some (.ref f_L_right))(mz_len:mg "len" = none)(mz_min:mg "min" = none):FnOk P w K mg base Jw 3 f fd ["_law_script"] (spLawD K):=by
 refine' zR (k:=2) F p7 (λcdv A outer s H E hr=>?hb) ?h
 case hb =>
  have hr1:Room 1 _:=hr.mono (by decide)
  have hr2:Room 2 _:=hr.mono (by decide)
  have hu64:=hr.units
  exact Df (Oz Er rfl (nK (hZ (rQ (pv 0) Nj (Nr Fj)) (Gz (Bi Fj Bw)))) (Kl (i:=1) p7.nd rfl (El rfl))
   (Df (Ji (i:=2) p7.nd rfl (El rfl) (rY G_L_draws hr1 rfl m_L_draws k_L_draws b_L_draws Ky (Bi (Bh (pv 1)) Bw)))
    (Df (Ji (i:=3) p7.nd rfl (El rfl) (Wc Fj (Ri (Np G_L_next hr1 rfl m_L_next k_L_next b_L_next Ky (pv 2) Bw) Fj)))
    (Gb (Oz Er rfl (nK (Gz (Bi (cZ G_chains hr2 rfl m_chains k_chains b_chains Ky (Bi (Bh (pv 3)) Bw)) (Bi (Ua G_L_made hr2 rfl m_L_made k_L_made b_L_made Ky (pv 2) (Bi (Bh (pv 3)) Bw)) (Bi (Ua G_L_parted hr2 rfl m_L_parted k_L_parted b_L_parted Ky (pv 2) (Bi (Ua G_L_made hr2 rfl m_L_made k_L_made b_L_made Ky (pv 2) (Bi (Bh (pv 3)) Bw)) Bw)) Bw))))) (Kl (i:=4) p7.nd rfl (El rfl))
    (Df (Sv (i:=5) p7.nd rfl (El rfl) (Vk G_L_all hr1 rfl m_L_all k_L_all b_L_all Ky (Bi (Bh (pv 3)) Bw)))
     (Df (Ji (i:=6) p7.nd rfl (El rfl) (Fu (oJ rfl) vG rfl mz_min (by decide +kernel) (Bi (Fu Hu Lx rfl mz_len (by decide +kernel) (Bi (Bh (pv 5)) Bw)) (Bi (Wc (Wc (Fu Hu Lx rfl mz_len (by decide +kernel) (Bi (Bh (pv 4)) Bw)) Fj) (Ri (Np G_L_next hr1 rfl m_L_next k_L_next b_L_next Ky (pv 2) Bw) Fj)) (Bi Fj Bw)))))
     (Df (Sv (i:=7) p7.nd rfl (El rfl) (Gz Bw))
     (Df (qX Er (yD (Fu Hu Lx rfl mz_len (by decide +kernel) (Bi (Bh (pv 7)) Bw)) (Bh (pv 6)))
     (Gb (nB (pv 7) (pv 5) (Ri (Np G_L_next hr1 rfl m_L_next k_L_next b_L_next Ky (pv 2) Bw) (Fu Hu Lx rfl mz_len (by decide +kernel) (Bi (Bh (pv 5)) Bw))))))
     (Gb (Zr (nJ (iC (pZ (Fu Hu Lx rfl mz_len (by decide +kernel) (Bi (Bh (pv 7)) Bw)) (Fu Hu Lx rfl mz_len (by decide +kernel) (Bi (Bh (pv 4)) Bw))) (bT (aY (Wx (Vk G_L_right hr2 rfl m_L_right k_L_right b_L_right Ky (Bi (Bh (pv 7)) (Bi (Bh (pv 4)) Bw))))))))
     (Gb (Ku dG)) Ud)))))))))))
   (Gb (Ku dG))
 case h =>
  intro ns h63
  array_get_dec
  have lc:(Ke ns none (some 4)).length<=4:=F7 4
  refine ⟨by rw[Af]; omega,?_⟩
  refine dR (l:=Ke ns none (some 4)++[0]) (g:=Bl) (by rw[Az]; rfl) (λi δ=>∃(v1 v2 v3 v4 v5 v6 v7:DV) (n':Nat),δ=⟨[.scr ns,v1,v2,v3,v4,v5,v6,v7],n'⟩/\NP v1/\NP v2/\NP v3/\NP v4/\NP v5/\NP v6/\NP v7/\n'<=10000 * i) ?_ ?_ ?_
  ·exact ⟨_,_,_,_,_,_,_,_,rfl,Js,Js,Js,Js,Js,Js,Js,by omega⟩
  ·(intro i c _ hc q_; obtain ⟨v1,v2,v3,v4,v5,v6,v7,n0,rfl,hv1,hv2,hv3,hv4,hv5,hv6,hv7,hn⟩ := q_)
   have hi:i<5:=by
    have:=(Al.mp hc).1
    rw[Ay,Ct] at this
    omega
   array_get_dec
   refine ⟨rfl,by omega,λr1=>?_⟩
   array_get_dec
   have b7:=Tt r1 (b:=7) (by decide)
   refine ⟨1+r1 % 7,rfl,by omega,by omega,?_⟩
   have hp7:2 ^ (1+r1 % 7).toNat<=2 ^ 7:=Ft (by decide) (by omega)
   array_get_dec
   refine ⟨1+r1 % 7,rfl,by omega,by omega,by omega,λC2 n2 g1 g2 cv2 cl2=>⟨Ox _,?_⟩⟩
   array_get_dec
   refine ⟨1+r1 % 7,rfl,by omega,by omega,by omega,λC3 n3 g3 g4 cv3 cl3=>⟨Ox _,?_⟩⟩
   array_get_dec
   refine ⟨(1+r1 % 7).toNat,C3,rfl,by omega,cv3,by omega,by omega,λC4 n4 g5 g6 cv4 cl4=>⟨Ox _,?_⟩⟩
   array_get_dec
   have hN:(((1+r1 % 7).toNat:Nat):Int)=1+r1 % 7:=by omega
   have allC:∀C∈[Hr (1+r1 % 7).toNat,C2,C4],Cov (1+r1 % 7).toNat C/\C.length<=256:=λC hC=>by
    rcases Ak.mp hC with rfl | hC
    ·have:=Og (1+r1 % 7).toNat
     exact ⟨Re _,by omega⟩
    rcases Ak.mp hC with rfl | hC
    ·exact ⟨cv2,by omega⟩
    rw[Ac.mp hC]
    exact ⟨cv4,cl4⟩
   refine dR (l:=[Hr (1+r1 % 7).toNat,C2,C4]) (g:=Dm) rfl (λj δ=>∃(v4 v5 v6 v7:DV) (n':Nat),δ=⟨[.scr ns,.dat .sh (.int c),.drw,.dat .sh (.int (1+r1 % 7)),v4,v5,v6,v7],n'⟩/\NP v4/\NP v5/\NP v6/\NP v7/\n4<=n'/\n'<=n4+100 * j) ?_ ?_ ?_
   ·exact ⟨_,_,_,_,_,rfl,hv4,hv5,hv6,hv7,by omega,by omega⟩
   ·(intro j C _ hj q_; obtain ⟨v4,v5,v6,v7,n5,rfl,hv4,hv5,hv6,hv7,g7,g8⟩ := q_)
    obtain ⟨cvC,clC⟩:=allC C (Ar hj)
    have hj3:j<3:=(Al.mp hj).1
    unfold Dm
    array_get_dec
    refine ⟨1+r1 % 7,rfl,by omega,by omega,λL pL oL=>?_⟩
    have nL:=eT pL
    have rL:∀w∈L,Fc (1+r1 % 7).toNat w:=λw hw=>(mH pL).mp hw
    have lL:=(Zo (by omega) pL).1
    array_get_dec
    refine ⟨rfl,by omega,λr2=>?_⟩
    array_get_dec
    have b3:=Tt r2 (b:=3) (by decide)
    obtain ⟨M,eM,M1,M2⟩ : ∃M:Int,min ((L.map Ca).length:Int) (min (((C.map Cv).length:Int)+1+r2 % 3) 40)=M/\M<=L.length/\M<=40:=⟨_,rfl,by rw[Af]; omega,by omega⟩
    rw[eM]
    clear eM
    refine n9 (λδ=>∃(K L':List (List Int)),δ=⟨[.scr ns,.dat .sh (.int c),.drw,.dat .sh (.int (1+r1 % 7)),.dat .sh (.list (C.map Cv)),.dat .ow (.list (L'.map Ca)),.dat .sh (.int M),.dat .ow (.list (K.map Ca))],n5+1+K.length⟩/\(K++L').Perm L/\K.length<=40) (λδ=>n5+100 - δ.n) ⟨[],L,rfl,Gw _,by simp⟩ ?_
    (intro _ q_; obtain ⟨K,L',rfl,pm,lK⟩ := q_)
    have lm:K.length+L'.length=L.length:=by rw[<- Ay,pm.length_eq]
    array_get_dec
    refine N7 (λhb=>?_) (λhb=>?_)
    ·have hb:=of_decide_eq_true hb
     rw[Af] at hb
     array_get_dec
     refine ⟨rfl,by omega,λr3=>?_⟩
     array_get_dec
     have eL:(L'.map Ca).length=L'.length:=Af ..
     rw[eL]
     have bL:=Tt r3 (b:=(L'.length:Int)) (by omega)
     refine ⟨by omega,by decide,bL.1,bL.2,by omega,by rw[Af]; omega,λd hd=>?_⟩
     rw[Bg] at hd
     cases hk:L'[(r3 % (L'.length:Int)).toNat]? with
     | none=>rw[hk] at hd; cases hd
     | some w =>
      rw[hk] at hd
      cases hd
      refine ⟨⟨K++[w],L'.eraseIdx (r3 % (L'.length:Int)).toNat,eQ (by rw[Az,Zk]; rfl) (by rw[Ay,Ct]; omega),?_,by rw[Ay,Ct]; omega⟩,by omega⟩
      refine List.Perm.trans ?_ pm
      rw[Br]
      exact ((Fn hk).symm).append_left K
    ·have hb:=of_decide_eq_false hb
     rw[Af] at hb
     array_get_dec
     have fin:∃v4 v5 v6 v7 n',(⟨[.scr ns,.dat .sh (.int c),.drw,.dat .sh (.int (1+r1 % 7)),.dat .sh (.list (C.map Cv)),.dat .ow (.list (L'.map Ca)),.dat .sh (.int M),.dat .ow (.list (K.map Ca))],n5+1+K.length⟩ : DS)=⟨[.scr ns,.dat .sh (.int c),.drw,.dat .sh (.int (1+r1 % 7)),v4,v5,v6,v7],n'⟩/\NP v4/\NP v5/\NP v6/\NP v7/\n4<=n'/\n'<=n4+100 * (j+1):=⟨_,_,_,_,_,rfl,Kz,xU,Kz,xU,by omega,by omega⟩
     refine iA (λh1=>?_) (λh1=>?_)
     ·have h1:=of_decide_eq_true h1
      rw[Af,Af] at h1
      have ok:CodeOk (1+r1 % 7).toNat C K:=⟨cvC,(Dh.mp (pm.nodup_iff.mpr nL)).1,λw hw=>rL w (pm.mem_iff.mp (Ag _ hw)),by omega,by omega,by omega,by omega⟩
      array_get_dec
      refine ⟨_,C,K,rfl,ok,?_⟩
      array_get_dec
      exact fin
     ·array_get_dec
      exact fin
   ·(intro _ q_; obtain ⟨v4,v5,v6,v7,n5,rfl,hv4,hv5,hv6,hv7,g7,g8⟩ := q_)
    exact ⟨_,_,_,_,_,_,_,_,rfl,Kz,A4,Kz,hv4,hv5,hv6,hv7,by simp at g8; omega⟩
  ·(intro _ q_; obtain ⟨v1,v2,v3,v4,v5,v6,v7,n0,rfl,hv1,hv2,hv3,hv4,hv5,hv6,hv7,hn⟩ := q_)
   array_get_dec
end
structure Def(K:PySem.W.Frag)(x:Str)(st:Stmt)(f:Addr)(fd:Cr):Prop where
 nm:PySem.W.nsIn K Cm x=some (some (.ref f))
 fn:Fun K x x st f fd
theorem def_mk{K:PySem.W.Frag}{x:Str}{st:Stmt}{f:Addr}{od an:Option Addr}{sl:Array (Option Value)}{oc kV dc pm cd ct:Value}(a:PySem.W.nsIn K Cm x=some (some (.ref f)))(l:K.lookup f=some ⟨oc,od,.func (PySem.W.fnOf x x (Mp st) (Ik st) (Cc st) .none kV dc pm an cd ct),sl⟩)(c:PySem.W.codeIn K cd x=true)(k:PySem.W.keepIn K (.ref f)=true):Def K x st f (PySem.W.fnOf x x (Mp st) (Ik st) (Cc st) .none kV dc pm an cd ct):=⟨a,qQ l c k⟩
theorem X7{P:List Value->Prop}(h:P []):∀us:List Value,us.length=0->P us
 | [],_=>h
theorem W0{P:List Value->Prop}{n:Nat}(h:∀a (us:List Value),us.length=n->P (a::us)):∀us:List Value,us.length=n+1->P us
 | a::us,e=>h a us (Nat.succ.inj e)
theorem O7{P:List Value->Prop}(h:∀a0,P [a0]):∀us:List Value,us.length=1->P us:=W0 λa us e=>X7 (P:=λus=>P (a::us)) (h a) us e
theorem B4{P:List Value->Prop}(h:∀a0 a1,P [a0,a1]):∀us:List Value,us.length=2->P us:=W0 λa us e=>O7 (P:=λus=>P (a::us)) (h a) us e
theorem all_mk{l:PySem.W.OpenLaw}{q:Bx}{w:World}{K:PySem.W.Frag}{h:Heap}{mg:Str->Option Value}{fa f1 f2 f3 f4 f5 f6 f7 f8 f9 f10 f11:Addr}{d1 d2 d3 d4 d5 d6 d7 d8 d9 d10:Cr}(X:K.In h)(G:h.Ns Cm mg)(hfa:mg "law" = some (.ref fa)){od an:Option Addr}{sl:Array (Option Value)}{oc kV dc pm cd ct:Value}(D1:Def K "_law_draws" cF f1 d1)(D2:Def K "_law_next" lF f2 d2)(D3:Def K "grown" Vj f3 d3)(D4:Def K "chains" Su f4 d4)(D5:Def K "two_in" Nm f5 d5)(D6:Def K "_law_made" Kn f6 d6)(D7:Def K "_law_parted" My f7 d7)(D8:Def K "_law_within" Kj f8 d8)(D9:Def K "_law_right" Hi f9 d9)(D10:Def K "_law_all" Lp f10 d10)(aL:PySem.W.nsIn K Cm "law" = some (some (.ref f11)))(lL:K.lookup f11=some ⟨oc,od,.func (PySem.W.fnOf "law" "law" (Mp cD) (Ik cD) (Cc cD) .none kV dc pm an cd ct),sl⟩)(cL:PySem.W.codeIn K cd "law" = true)(kL:PySem.W.keepIn K (.ref f11)=true)(z1:PySem.W.nsIn K Cm "range" = some none)(z2:PySem.W.nsIn K Cm "enumerate" = some none)(z3:PySem.W.nsIn K Cm "max" = some none)(z4:PySem.W.nsIn K Cm "len" = some none)(z5:PySem.W.nsIn K Cm "sorted" = some none)(z6:PySem.W.nsIn K Cm "tuple" = some none)(z7:PySem.W.nsIn K Cm "str" = some none)(z8:PySem.W.nsIn K Cm "isinstance" = some none)(z9:PySem.W.nsIn K Cm "bool" = some none)(z10:PySem.W.nsIn K Cm "int" = some none)(z11:PySem.W.nsIn K Cm "min" = some none)(tz_often:PySem.W.nsIn K Cm "often" = some none)(tz_cut_by:PySem.W.nsIn K Cm "cut_by" = some none):bZ q K/\∃fd:Cr,(∀(s:Aj) (v:Value),BindsTo s fd ⟨[v],[]⟩ [("_law_script",v)])/\∀base:Heap,K.In base->base.Ns Cm mg->FnOk l.prog w K mg base Jw 3 fa fd ["_law_script"] (DL.spLawD K):=by
 have e:=hfa.symm.trans (PySem.W.mg_of X G aL)
 cases e
 have FL:=qQ (st:=cD) lL cL kL
 have b1:=D1.fn.binds (ps:=["_law_cell"]) λ_ _ _ _ _ _=>O7 (λ_=>rfl)
 have b2:=D2.fn.binds (ps:=["_law_draws_here"]) λ_ _ _ _ _ _=>O7 (λ_=>rfl)
 have b3:=D3.fn.binds (ps:=["chain", "place"]) λ_ _ _ _ _ _=>B4 (λ_ _=>rfl)
 have b4:=D4.fn.binds (ps:=["holes"]) λ_ _ _ _ _ _=>O7 (λ_=>rfl)
 have b5:=D5.fn.binds (ps:=["code", "some"]) λ_ _ _ _ _ _=>B4 (λ_ _=>rfl)
 have b6:=D6.fn.binds (ps:=["_law_draws_here", "_law_holes"]) λ_ _ _ _ _ _=>B4 (λ_ _=>rfl)
 have b7:=D7.fn.binds (ps:=["_law_draws_here", "_law_made_here"]) λ_ _ _ _ _ _=>B4 (λ_ _=>rfl)
 have b8:=D8.fn.binds (ps:=["_law_one", "_law_other"]) λ_ _ _ _ _ _=>B4 (λ_ _=>rfl)
 have b9:=D9.fn.binds (ps:=["_law_code", "_law_some"]) λ_ _ _ _ _ _=>B4 (λ_ _=>rfl)
 have b10:=D10.fn.binds (ps:=["_law_holes"]) λ_ _ _ _ _ _=>O7 (λ_=>rfl)
 have m1:=PySem.W.mg_of X G D1.nm
 have m2:=PySem.W.mg_of X G D2.nm
 have m3:=PySem.W.mg_of X G D3.nm
 have m4:=PySem.W.mg_of X G D4.nm
 have m5:=PySem.W.mg_of X G D5.nm
 have m6:=PySem.W.mg_of X G D6.nm
 have m7:=PySem.W.mg_of X G D7.nm
 have m8:=PySem.W.mg_of X G D8.nm
 have m9:=PySem.W.mg_of X G D9.nm
 have m10:=PySem.W.mg_of X G D10.nm
 have y1:=PySem.W.mg_none_of X G z1
 have y2:=PySem.W.mg_none_of X G z2
 have y3:=PySem.W.mg_none_of X G z3
 have y4:=PySem.W.mg_none_of X G z4
 have y5:=PySem.W.mg_none_of X G z5
 have y6:=PySem.W.mg_none_of X G z6
 have y7:=PySem.W.mg_none_of X G z7
 have y8:=PySem.W.mg_none_of X G z8
 have y9:=PySem.W.mg_none_of X G z9
 have y10:=PySem.W.mg_none_of X G z10
 have y11:=PySem.W.mg_none_of X G z11
 have tn_often:=DL.tab_no tz_often
 have tn_cut_by:=DL.tab_no tz_cut_by
 refine ⟨nE tn_often tn_cut_by,PySem.W.fnOf "law" "law" (Mp cD) (Ik cD) (Cc cD) .none kV dc pm an cd ct,λs v=>.of_eq rfl,λbase _ _=>?_⟩
 have g1:=oB (P:=l.prog) (w:=w) (mg:=mg) (base:=base) D1.fn
 have g2:=tT (P:=l.prog) (w:=w) (mg:=mg) (base:=base) D2.fn
 have g3:=qL (P:=l.prog) (w:=w) (mg:=mg) (base:=base) D3.fn
 have g4:=nZ (P:=l.prog) (w:=w) (mg:=mg) (base:=base) D4.fn g3 b3 D3.fn.kp m3 y1
 have g5:=mM (P:=l.prog) (w:=w) (mg:=mg) (base:=base) D5.fn y2 y3 y4
 have g6:=aV (P:=l.prog) (w:=w) (mg:=mg) (base:=base) D6.fn g2 b2 D2.fn.kp m2 y1 y5 y6 y4
 have g7:=Wk (P:=l.prog) (w:=w) (mg:=mg) (base:=base) D7.fn g2 b2 D2.fn.kp m2 y4
 have g8:=Wi (P:=l.prog) (w:=w) (mg:=mg) (base:=base) D8.fn
 have g9:=Yk (P:=l.prog) (w:=w) (mg:=mg) (base:=base) D9.fn g5 b5 D5.fn.kp m5 g8 b8 D8.fn.kp m8 y7 y4 y6 y8 y9 y10
 have g10:=gG (P:=l.prog) (w:=w) (mg:=mg) (base:=base) D10.fn y1 y5
 exact zT FL g4 b4 D4.fn.kp m4 g1 b1 D1.fn.kp m1 g2 b2 D2.fn.kp m2 g10 b10 D10.fn.kp m10 g6 b6 D6.fn.kp m6 g7 b7 D7.fn.kp m7 g9 b9 D9.fn.kp m9 y4 y11
theorem walk{l:PySem.W.OpenLaw}{q:Bx}{loose:List Str}{XP:(Str->Option Value)->Heap->Prop}{YP:World->Heap->Prop}{d:DefRec}{K:Params->PySem.W.Frag}(hn:l.most=some 63)(hdf:d.params.defaults=[])(hY:∀(w:World) (h:Heap),YP w h->(K w.params).In h)(F:∀(w:World) (mg:Str->Option Value) (fa:Addr) (h:Heap),(K w.params).In h->h.Ns Cm mg->mg d.name=some (.ref fa)->bZ q (K w.params)/\∃fd:Cr,(∀(s:Aj) (u:Value),BindsTo s fd ⟨[u],[]⟩ [("_law_script",u)])/\∀base:Heap,(K w.params).In base->base.Ns Cm mg->FnOk l.prog w (K w.params) mg base Jw 3 fa fd ["_law_script"] (DL.spLawD (K w.params))):PySem.W.WalkO q loose XP YP l.row.toRowW d [] (λf vs=>PySem.call f vs) :=
 L2.walk_ofD (n:=63) (k:=3) (x := "_law_script") (CX:=λ_=>Jw) (sp:=λw=>DL.spLawD (K w.params)) hn (by decide) hdf ⟨rfl,by decide,by decide,rfl⟩ hY F (λ_ _ a ns hl _ hS=>⟨a,ns,rfl,hS,hl,λ_=>rfl⟩) λ_ _ _ _ _ z=>z
end K16
open PySem PySem.W PyProof.Rows
local macro_rules | `(tactic| refine $h:ident (q := $q) (loose := $l) (Xt := $a) (XP := $b) (Yf := $c) (Ya := $d) (YP := $e) (N := $n) ?hl $y*) => `(tactic| refine $h:ident (q := $q) (loose := $l) (Xt := $a) (XP := $b) (Yf := $c) (Ya := $d) (YP := $e) (N := $n) (fun _ => by kernel_rfl) $y*)
set_option maxRecDepth 100000 in
set_option maxHeartbeats 0 in
theorem PySem.Challenge.cw_needledeck_k16_two_words_in_a_chain_holds : PySem.Challenge.rw_needledeck_k16_two_words_in_a_chain.Holds := by
 w_on; refine holds_law (by kernel_rfl) λsaid=>?_; k_head; (case hw=>w_witness2)
 k_fill
 refine K16.walk (l:=PySem.Challenge.rw_needledeck_k16_two_words_in_a_chain) rfl rfl (λw h Y=>PySem.W.kIn_of Y) ?F
 case F =>
  intro w mg fa h KX G hmg
  refine' K16.all_mk KX G hmg (K16.def_mk ?a1 ?l1 ?c1 ?k1) (K16.def_mk ?a2 ?l2 ?c2 ?k2) (K16.def_mk ?a3 ?l3 ?c3 ?k3) (K16.def_mk ?a4 ?l4 ?c4 ?k4) (K16.def_mk ?a5 ?l5 ?c5 ?k5) (K16.def_mk ?a6 ?l6 ?c6 ?k6) (K16.def_mk ?a7 ?l7 ?c7 ?k7) (K16.def_mk ?a8 ?l8 ?c8 ?k8) (K16.def_mk ?a9 ?l9 ?c9 ?k9) (K16.def_mk ?a10 ?l10 ?c10 ?k10) ?aL ?lL ?cL ?kL ?z1 ?z2 ?z3 ?z4 ?z5 ?z6 ?z7 ?z8 ?z9 ?z10 ?z11 ?tz_often ?tz_cut_by
  (case a1=>k_is); (case l1=>k_is); (case c1=>k_is); (case k1=>k_is)
  (case a2=>k_is); (case l2=>k_is); (case c2=>k_is); (case k2=>k_is)
  (case a3=>k_is); (case l3=>k_is); (case c3=>k_is); (case k3=>k_is)
  (case a4=>k_is); (case l4=>k_is); (case c4=>k_is); (case k4=>k_is)
  (case a5=>k_is); (case l5=>k_is); (case c5=>k_is); (case k5=>k_is)
  (case a6=>k_is); (case l6=>k_is); (case c6=>k_is); (case k6=>k_is)
  (case a7=>k_is); (case l7=>k_is); (case c7=>k_is); (case k7=>k_is)
  (case a8=>k_is); (case l8=>k_is); (case c8=>k_is); (case k8=>k_is)
  (case a9=>k_is); (case l9=>k_is); (case c9=>k_is); (case k9=>k_is)
  (case a10=>k_is); (case l10=>k_is); (case c10=>k_is); (case k10=>k_is)
  (case aL=>k_is); (case lL=>k_is); (case cL=>k_is); (case kL=>k_is)
  (case z1=>k_is); (case z2=>k_is); (case z3=>k_is); (case z4=>k_is); (case z5=>k_is); (case z6=>k_is); (case z7=>k_is); (case z8=>k_is); (case z9=>k_is); (case z10=>k_is); (case z11=>k_is)
  (case tz_often=>k_is)
  (case tz_cut_by=>k_is)