import PyProof.Rows.All
import KE.KLam
import Wide.All
import OpenK.AllK
import Wide.FinOn
import Lean
import PyProof.EqAt
import PyProof.EqKinds
import PyProof.TupleCall
import PyProof.FactsAll.set
import PyProof.FactsAll.subtypes
import KE.KTupSum
import KE.KMinBuiltin
import PyProof.Draws
import PyProof.DictWalks
import PyProof.DictCompW
import PyProof.IsiH_tuple
import PyProof.FactsAll.zip
import KE.KDictOf
import PyProof.DictValues
import KE.KSortKey
import PySem.Challenge.RW_needledeck_k32_how_often
set_option Elab.async false
set_option linter.all false
set_option maxRecDepth 100000
set_option maxHeartbeats 4000000
set_option genSizeOf false
local macro_rules|`(tactic|omega)=>`(tactic|first|lia|omega +splitDisjunctions)
theorem e0a2{A B:Prop}{G:Prop}(k:A→B→G)(h:A∧B):G:=k h.1 h.2
theorem e0a3{A B C:Prop}{G:Prop}(k:A→B→C→G)(h:A∧B∧C):G:=k h.1 h.2.1 h.2.2
theorem e0a4{A B C D:Prop}{G:Prop}(k:A→B→C→D→G)(h:A∧B∧C∧D):G:=k h.1 h.2.1 h.2.2.1 h.2.2.2
theorem e0a5{A B C D E:Prop}{G:Prop}(k:A→B→C→D→E→G)(h:A∧B∧C∧D∧E):G:=k h.1 h.2.1 h.2.2.1 h.2.2.2.1 h.2.2.2.2
theorem e0a6{A B C D E F:Prop}{G:Prop}(k:A→B→C→D→E→F→G)(h:A∧B∧C∧D∧E∧F):G:=k h.1 h.2.1 h.2.2.1 h.2.2.2.1 h.2.2.2.2.1 h.2.2.2.2.2
theorem e1a1{t0:Type}{A:t0→Prop}{G:Prop}(k:∀x,A x→G)(h:∃x,A x):G:=h.elim λx h=>k x h
theorem e1a2{t0:Type}{A B:t0→Prop}{G:Prop}(k:∀x,A x→B x→G)(h:∃x,A x∧B x):G:=h.elim λx h=>k x h.1 h.2
theorem e1a3{t0:Type}{A B C:t0→Prop}{G:Prop}(k:∀x,A x→B x→C x→G)(h:∃x,A x∧B x∧C x):G:=h.elim λx h=>k x h.1 h.2.1 h.2.2
theorem e1a4{t0:Type}{A B C D:t0→Prop}{G:Prop}(k:∀x,A x→B x→C x→D x→G)(h:∃x,A x∧B x∧C x∧D x):G:=h.elim λx h=>k x h.1 h.2.1 h.2.2.1 h.2.2.2
theorem e2a1{t0 t1:Type}{A:t0→t1→Prop}{G:Prop}(k:∀x y,A x y→G)(h:∃x y,A x y):G:=h.elim λx h=>h.elim λy h=>k x y h
theorem e2a2{t0 t1:Type}{A B:t0→t1→Prop}{G:Prop}(k:∀x y,A x y→B x y→G)(h:∃x y,A x y∧B x y):G:=h.elim λx h=>h.elim λy h=>k x y h.1 h.2
theorem e2a3{t0 t1:Type}{A B C:t0→t1→Prop}{G:Prop}(k:∀x y,A x y→B x y→C x y→G)(h:∃x y,A x y∧B x y∧C x y):G:=h.elim λx h=>h.elim λy h=>k x y h.1 h.2.1 h.2.2
theorem e2a4{t0 t1:Type}{A B C D:t0→t1→Prop}{G:Prop}(k:∀x y,A x y→B x y→C x y→D x y→G)(h:∃x y,A x y∧B x y∧C x y∧D x y):G:=h.elim λx h=>h.elim λy h=>k x y h.1 h.2.1 h.2.2.1 h.2.2.2
theorem e3a1{t0 t1 t2:Type}{A:t0→t1→t2→Prop}{G:Prop}(k:∀x y z,A x y z→G)(h:∃x y z,A x y z):G:=h.elim λx h=>h.elim λy h=>h.elim λz h=>k x y z h
theorem e3a3{t0 t1 t2:Type}{A B C:t0→t1→t2→Prop}{G:Prop}(k:∀x y z,A x y z→B x y z→C x y z→G)(h:∃x y z,A x y z∧B x y z∧C x y z):G:=h.elim λx h=>h.elim λy h=>h.elim λz h=>k x y z h.1 h.2.1 h.2.2
theorem e3a4{t0 t1 t2:Type}{A B C D:t0→t1→t2→Prop}{G:Prop}(k:∀x y z,A x y z→B x y z→C x y z→D x y z→G)(h:∃x y z,A x y z∧B x y z∧C x y z∧D x y z):G:=h.elim λx h=>h.elim λy h=>h.elim λz h=>k x y z h.1 h.2.1 h.2.2.1 h.2.2.2
theorem e3a5{t0 t1 t2:Type}{A B C D E:t0→t1→t2→Prop}{G:Prop}(k:∀x y z,A x y z→B x y z→C x y z→D x y z→E x y z→G)(h:∃x y z,A x y z∧B x y z∧C x y z∧D x y z∧E x y z):G:=h.elim λx h=>h.elim λy h=>h.elim λz h=>k x y z h.1 h.2.1 h.2.2.1 h.2.2.2.1 h.2.2.2.2
theorem e4a1{t0 t1 t2 t3:Type}{A:t0→t1→t2→t3→Prop}{G:Prop}(k:∀x y z w,A x y z w→G)(h:∃x y z w,A x y z w):G:=h.elim λx h=>h.elim λy h=>h.elim λz h=>h.elim λw h=>k x y z w h
theorem e4a2{t0 t1 t2 t3:Type}{A B:t0→t1→t2→t3→Prop}{G:Prop}(k:∀x y z w,A x y z w→B x y z w→G)(h:∃x y z w,A x y z w∧B x y z w):G:=h.elim λx h=>h.elim λy h=>h.elim λz h=>h.elim λw h=>k x y z w h.1 h.2
theorem e5a2{t0 t1 t2 t3 t4:Type}{A B:t0→t1→t2→t3→t4→Prop}{G:Prop}(k:∀x y z w u,A x y z w u→B x y z w u→G)(h:∃x y z w u,A x y z w u∧B x y z w u):G:=h.elim λx h=>h.elim λy h=>h.elim λz h=>h.elim λw h=>h.elim λu h=>k x y z w u h.1 h.2
theorem e4a5{t0 t1 t2 t3:Type}{A B C D E:t0→t1→t2→t3→Prop}{G:Prop}(k:∀x y z w,A x y z w→B x y z w→C x y z w→D x y z w→E x y z w→G)(h:∃x y z w,A x y z w∧B x y z w∧C x y z w∧D x y z w∧E x y z w):G:=h.elim λx h=>h.elim λy h=>h.elim λz h=>h.elim λw h=>k x y z w h.1 h.2.1 h.2.2.1 h.2.2.2.1 h.2.2.2.2
theorem e5a5{t0 t1 t2 t3 t4:Type}{A B C D E:t0→t1→t2→t3→t4→Prop}{G:Prop}(k:∀x y z w u,A x y z w u→B x y z w u→C x y z w u→D x y z w u→E x y z w u→G)(h:∃x y z w u,A x y z w u∧B x y z w u∧C x y z w u∧D x y z w u∧E x y z w u):G:=h.elim λx h=>h.elim λy h=>h.elim λz h=>h.elim λw h=>h.elim λu h=>k x y z w u h.1 h.2.1 h.2.2.1 h.2.2.2.1 h.2.2.2.2
theorem e6a5{t0 t1 t2 t3 t4 t5:Type}{A B C D E:t0→t1→t2→t3→t4→t5→Prop}{G:Prop}(k:∀x y z w u v,A x y z w u v→B x y z w u v→C x y z w u v→D x y z w u v→E x y z w u v→G)(h:∃x y z w u v,A x y z w u v∧B x y z w u v∧C x y z w u v∧D x y z w u v∧E x y z w u v):G:=h.elim λx h=>h.elim λy h=>h.elim λz h=>h.elim λw h=>h.elim λu h=>h.elim λv h=>k x y z w u v h.1 h.2.1 h.2.2.1 h.2.2.2.1 h.2.2.2.2
theorem e4a7{t0 t1 t2 t3:Type}{A B C D E F H:t0→t1→t2→t3→Prop}{G:Prop}(k:∀x y z w,A x y z w→B x y z w→C x y z w→D x y z w→E x y z w→F x y z w→H x y z w→G)(h:∃x y z w,A x y z w∧B x y z w∧C x y z w∧D x y z w∧E x y z w∧F x y z w∧H x y z w):G:=h.elim λx h=>h.elim λy h=>h.elim λz h=>h.elim λw h=>k x y z w h.1 h.2.1 h.2.2.1 h.2.2.2.1 h.2.2.2.2.1 h.2.2.2.2.2.1 h.2.2.2.2.2.2
theorem e5a7{t0 t1 t2 t3 t4:Type}{A B C D E F H:t0→t1→t2→t3→t4→Prop}{G:Prop}(k:∀x y z w u,A x y z w u→B x y z w u→C x y z w u→D x y z w u→E x y z w u→F x y z w u→H x y z w u→G)(h:∃x y z w u,A x y z w u∧B x y z w u∧C x y z w u∧D x y z w u∧E x y z w u∧F x y z w u∧H x y z w u):G:=h.elim λx h=>h.elim λy h=>h.elim λz h=>h.elim λw h=>h.elim λu h=>k x y z w u h.1 h.2.1 h.2.2.1 h.2.2.2.1 h.2.2.2.2.1 h.2.2.2.2.2.1 h.2.2.2.2.2.2
theorem e6a7{t0 t1 t2 t3 t4 t5:Type}{A B C D E F H:t0→t1→t2→t3→t4→t5→Prop}{G:Prop}(k:∀x y z w u v,A x y z w u v→B x y z w u v→C x y z w u v→D x y z w u v→E x y z w u v→F x y z w u v→H x y z w u v→G)(h:∃x y z w u v,A x y z w u v∧B x y z w u v∧C x y z w u v∧D x y z w u v∧E x y z w u v∧F x y z w u v∧H x y z w u v):G:=h.elim λx h=>h.elim λy h=>h.elim λz h=>h.elim λw h=>h.elim λu h=>h.elim λv h=>k x y z w u v h.1 h.2.1 h.2.2.1 h.2.2.2.1 h.2.2.2.2.1 h.2.2.2.2.2.1 h.2.2.2.2.2.2
local macro_rules|`(tactic|obtain $p:rcasesPatMed:=$v:term)=>do
 let c s:=((p.raw.reprint.getD "").splitOn s).length
 if c ","<3||c "|">1||c ":">1 then Lean.Macro.throwUnsupported
 let T (a:Lean.Syntax):Lean.TSyntax `Lean.Parser.Tactic.rcasesPatMed:=⟨a⟩
 let q:=p.raw
 let x:=q[0][0]
 let l:=x[1].getSepArgs
 let mut a:Array (Lean.TSyntax ``Lean.Parser.Tactic.tacticSeq):=#[]
 let mut y:Array Lean.Term:=#[]
 let mut z:Array (Array (Lean.TSyntax `tactic)):=#[]
 for o in l do
  let u:=o[0][0][0]
  let f:=Lean.mkIdent (←Lean.Macro.addMacroScope (.mkSimple s!"f{y.size}"))
  if u[0].getId==`rfl then
   y:=y.push f
   z:=z.push #[←`(tactic|subst $f:term)]
  else if u[0].isIdent then
   y:=y.push ⟨u[0]⟩
   z:=z.push #[]
  else if u[1].isMissing then
   y:=y.push (←`(_))
   z:=z.push #[]
  else
   y:=y.push f
   z:=z.push #[←`(tactic|obtain $(T o[0]):rcasesPatMed:=$f)]
 for j in [0:l.size] do
  if j==1 then continue
  let n:=l.size-j
  let mut i:=y.extract 0 n
  let mut w:=(z.extract 0 n).flatten
  if j>0 then
   i:=i.push (←`(r_))
   w:=w.push (←`(tactic|obtain $(T (q.setArg 0 (q[0].setArg 0 (x.setArg 1 (Lean.mkNullNode (Lean.mkSepArray (l.extract n l.size) (Lean.mkAtom ","))))))):rcasesPatMed:=r_))
  for k in [0:i.size] do
   let m:=Lean.mkIdent (.mkSimple s!"e{k}a{i.size-k}")
   let g←if v.raw.isIdent then `(tactic|(revert $(⟨v⟩):ident;refine $m fun $i*=>?_)) else `(tactic|refine $m (fun $i*=>?_) $v)
   a:=a.push (←`(Lean.Parser.Tactic.tacticSeq| $g:tactic;$[$w];*))
  if j==0&& !v.raw.isIdent then
   a:=a.push (←`(Lean.Parser.Tactic.tacticSeq| have h_ := $v; obtain $p := h_))
   break
 a:=a.push (←`(Lean.Parser.Tactic.tacticSeq| rcases $v:term with $p))
 `(tactic|first $[| $a]*)
open Array renaming length_toList → Ay, toList_append → Cw, getD_eq_getD_getElem? → Dk, getElem?_eq_some_iff → Gf, toList_push → Ko, getElem?_toList → Le, toList_extract → Lv, perm_iff_toList_perm → Nh, toList_reverse → Rt, forIn_toList → Ue, getElem?_eq_getElem → dS, size_setIfInBounds → dZ, getElem?_eq_none → iB
open Bool renaming false_ne_true → Bm, false_eq_true → Bq, and_eq_true → Dq, not_eq_true' → Iu, not_eq_false' → Vd
open Classical renaming byContradiction → Yz
open False renaming elim → Iy
open ForInStep renaming done → Cp, yield → Er
open Int renaming toNat_natCast → Ez, le_refl → Hq, toNat_of_nonneg → Ms, zero_add → Wp
open LawfulBEq renaming eq_of_beq → Ds
open List renaming mem_cons_self → Ab, length_map → Ac, mem_cons_of_mem → Af, mem_singleton → Ah, mem_cons → Ak, getElem?_eq_some_iff → Al, size_toArray → Am, getElem?_eq_getElem → An, mem_append_right → Ao, mem_of_getElem? → Aq, map_cons → Au, mem_append_left → Av, getElem?_map → Aw, not_mem_nil → Az, pairwise_cons → Bd, mem_append → Bi, map_append → Bj, length_cons → Bs, mem_map → Bt, lookup_cons → Bv, map_map → Bw, nodup_cons → Bx, replicate → Cb, length_append → Cc, mem_filter → Ce, append_assoc → Cj, nodup_nil → Cs, range → Cu, length_take → Cv, pairwise_iff_getElem → Df, sublist_cons_self → Dg, pairwise_append → Dh, getElem?_take_of_lt → Dj, map_congr_left → Dl, sublist_append_right → Dt, append_nil → Ea, take_of_length_le → Ed, mem_iff_getElem? → Eg, map_set → Ek, replicate_succ → Ey, length → Fl, length_range → Fp, ext_getElem? → Fq, take_length → Fw, cons_append → Fz, getElem?_append_right → Gh, getD_eq_getElem?_getD → Gi, reverse_perm → Gs, mem_iff_getElem → Gu, flatten_cons → Gv, length_reverse → Hd, mem_replicate → Ho, find?_cons → Hu, dropLast_concat_getLast → Hv, any_cons → Hw, take_append_drop → Ii, perm_append_comm → Ij, take_add_one → Io, pairwise_map → Ip, getElem?_set → Iq, drop_sublist → Ir, mem_range → Jf, map_nil → Ji, getElem?_append_left → Jn, extract_eq_take_drop → Jo, length_nil → Jy, filter_append → Kg, pairwise_singleton → Kh, lookup → Ki, take_sublist → Ku, append_eq_nil_iff → Kv, pairwise_reverse → Lg, length_singleton → Lh, getElem?_eq_none → Li, mem_reverse → Ln, filterMap_cons → Mm, set_cons_succ → Nm, length_zipIdx → Nn, mem_of_find?_eq_some → Of, reverse_cons → Oh, take_subset → Pj, perm_middle → Pk, mem_flatMap → Pl, eraseIdx_cons_succ → Pm, any_map → Qm, nil_append → Rj, forIn_cons → Rk, getElem?_reverse → Rm, eraseIdx_sublist → Rn, getElem?_set_ne → Sf, forIn_nil → Sg, getElem?_range → Ua, zip_cons_cons → Vb, getElem?_drop → Vc, nodup_append → Wa, all_map → Wb, zipIdx_cons → Yx, all_eq_true → Yy, length_erase_of_mem → hU, mem_singleton_self → hV, length_eq_zero_iff → hZ, length_pos_of_mem → kH, getElem?_set_self → kI, find?_eq_none → vO
open List.Pairwise renaming sublist → He, nil → Jp
open List.Perm renaming swap → Jz, append_left → Kj
open List.Sublist renaming refl → Eb
open List.cons renaming inj → Dx
open Nat renaming le_refl → Ai, ne_of_lt → Br, le_trans → Ca, lt_of_lt_of_le → Cd, zero_le → Ct, lt_irrefl → Ew, lt_of_le_of_lt → Ht, le_of_lt → Jl, le_add_right → Jm, zero_add → Nc, le_succ → Sr, lt_succ_of_lt → Wo
open Ne renaming symm → Ld
open Option renaming none → Nr, isSome_iff_exists → Oe
open Option.some renaming inj → Bk
open Or renaming inl → Ej, inr → Tz
open Prod.mk renaming injEq → Hm
open PyProof.Rows renaming wpS_bind → Bc, pendingOf → Be, wpS_pure → Bf, SortSt → Bn, seqObj → Ci, wpS_forRange → Dy, callWith_type1 → Ef, wpS_mono → Ge, wpS_modify → Ik, get?_update_seq → Iw, listUpdate_at → Jd, IntsAre → Jj, failedOf → Jv, SortKind → Kn, wpS_get → Ls, callWith_kw → Mk, size_push' → Pd, seqEpoch_at → Qk, AllBare → Qo, reverseSlice' → Ri, oneType' → Rq, callWith_builtin1 → Se, listItems_at → Sn, subscriptTail → Yu, firstOfTuple' → Yv, Subscript_ → Zg, subscriptTail_builtinR → vQ, call_function_entry_kw → vR
open PyProof.Rows.SortSt renaming mk' → Tx
open PySem renaming wpAny_bind → Aa, PyData → Ad, Shared → Ag, wpAny_pure → Aj, sizeLine → Ap, Program → Bo, starEach → Bp, mainGlobals → Bz, FuncData → Cm, Around → Co, wpAny_holding → Cz, cellsFrom → Ec, wpAny_mono → Eh, wpAny_newObj_type → Ei, IsPair → Ep, wpAny_callSpecial?_slot → Es, wpAny_seqItems → Fc, sysModules → Fd, foldedSetIterable → Fe, wpAny_field → Fg, wpAny_call_entry → Fm, wpAny_Call_Name_kw → Fn, behindInMarks → Fo, rawInt → Gj, wpAny_setField_rec → Gr, DictEntry → Ha, wpAny_truthy_bool → Hb, wpAny_attempt → Hh, backTo → Hi, binaryOp → Hs, wpAny_typeNameOfWhole_keyiter → Ic, unsetMember → Ie, sliceBounds → Ig, sizeLine_eq → Ih, bootBuiltins → Il, pyNext → Ju, compareOp → Jx, wpAny_typeNameOf_keyiter → Kl, plainId_quiet → Km, codeAny_builtin → Kt, wpAny_rule → Kx, wpAny_letGo → Lb, swapsWith → Lc, intItems → Lu, wpAny_isInstance → Ml, wpAny_newList → Mq, codeAny → Mr, NameKind → Nf, wpAny_passesOwn → Nq, tupleKind → Oy, codeAmong → Oz, wpAny_newTuple → Pc, newFunctionEnv → Pe, assignEach → Pf, ZipApart → Pg, holding → Ql, wpAny_comprehension_free → Rh, Arguments → Ru, wpAny_typeOf → Sk, wpAny_nextOf_list_item → Sm, codeAny_compStart_list → So, builtinsNs → Sq, wpAny_loadPart' → Tv, letOwnedTupleGo → Tw, wpAny_notOrdered_dict → Uc, wpAny_updateSeq_pair → Vl, wpAny_tryCatch → Vm, recursionLimit → Vn, firstArgMember → Vo, assign → Vp, callerA → Vz, Keyword → Wc, wpAny_onRaise → Yt, attributeBase → Yw, wpAny_load → Za, wpAny_Name → Zb, tupleKind_room_in1 → Zc, entryOfKey → Zd, closureFor → Ze, call_meets → Zf, wpAny_pyIter_list → bI, wpAny_dictEntries → bJ, slot_list_getitem → bK, codeAny_mono → bL, wpAny_pyIter_zip → dW, noFill_tuple_add → dX, wpAny_getItem_list_slice → pK
open PySem.Around renaming under_plainId → Gp
open PySem.Builtin renaming sorted → Ud
open PySem.Builtin.Builtins renaming bindParams → Rr
open PySem.Builtin.Dict renaming updateFrom → Wq
open PySem.Builtin.Dict_items renaming ownsTuple → Qn
open PySem.Builtin.List renaming listTooLong → Iv
open PySem.Builtin.Range renaming rangeSize → Wd
open PySem.Builtin.SmallTypes renaming ownedTupleIsFree → Cq, nextOf → Cy, ownedTupleHandOut → Np
open PySem.Calls renaming spliced_cons → Ka, Name_function_global → Ng, spliced_nil → Og, loadGlobal_builtin → dY, callWith_builtin → iA
open PySem.F renaming slot_zip_next → Si
open PySem.Heap renaming get?_push_of_some → Ae, get?_push_size → Ar, lt_size → Ba, SameBut → Dd, get?_update_other → Ex, get?_update_self → Ff, size_update → Ga, size_push → Hg, get?_none_of_le → Sh
open PySem.Heap.SameBut renaming update → Cg
open PySem.NameKind renaming free → Dm, cell → Dn
open PySem.Obj renaming mapSeq → By
open PySem.PassesOwn renaming never → Fj
open PySem.PyData renaming int → Bb, depthAll → Bl, depth → Dc
open PySem.SeqAt renaming EqAt → Lf
open PySem.Str renaming ofString → El
open PySem.Value renaming ref → Ax, type → Gx, none → Hl, int → Ph
open Sum renaming inl → Pa
open True renaming intro → Je
namespace L2
open PySem PySem.Spec PyProof.Rows
abbrev Gn:=Sum Int Str
def bH:Gn->Value->Bool
 | .inl k,v=>Value.isInt k v
 | .inr x,v=>Value.isStrOf x v
def Y1(w:World):Gn->Int
 | .inl k=>hashInt k
 | .inr x=>hashStr w x
theorem Gk:∀{k:Gn} {v:Value},bH k v=true->(∃i t,k=Pa i/\v=Ph i t)\/(∃x t,k=Sum.inr x/\v=Value.str x t)
 | .inl i,v,h=>by
  obtain ⟨t,e⟩:=Value.isInt_shape (k:=i) (v:=v) h
  exact .inl ⟨i,t,rfl,e⟩
 | .inr x,v,h=>by
  obtain ⟨t,e⟩:=Value.isStrOf_shape (x:=x) (v:=v) h
  exact .inr ⟨x,t,rfl,e⟩
theorem nY(i:Int)(t:Tok):bH (.inl i) (.int i t)=true:=by simp [bH,Value.isInt]
theorem nR(x:Str)(t:Tok):bH (.inr x) (.str x t)=true:=by simp [bH,Value.isStrOf]
theorem K0(a b:Int):decide ((Pa a:Gn)=Pa b)=(a == b):=by
 by_cases e:a=b
 ·subst e; simp
 ·have h:¬ (Pa a:Gn)=Pa b:=λq=>e (Sum.inl.inj q)
  rw[decide_eq_false h]
  exact (beq_eq_false_iff_ne.mpr e).symm
theorem B7(a b:Str):decide ((Sum.inr a:Gn)=Sum.inr b)=decide (a=b):=by
 by_cases e:a=b
 ·subst e; simp
 ·have h:¬ (Sum.inr a:Gn)=Sum.inr b:=λq=>e (Sum.inr.inj q)
  rw[decide_eq_false h,decide_eq_false e]
theorem K1(a:Int)(b:Str):decide ((Pa a:Gn)=Sum.inr b)=false:=decide_eq_false (λq=>nomatch q)
theorem C5(a:Str)(b:Int):decide ((Sum.inr a:Gn)=Pa b)=false:=decide_eq_false (λq=>nomatch q)
def Gm(prog:Bo)(w:World):PySem.KeyKind prog w Gn where
 is:=bH
 hash:=Y1 w
 inj:=λv a b ha hb=>by
  rcases Gk ha with ⟨i,t,rfl,rfl⟩ | ⟨x,t,rfl,rfl⟩
  ·rcases Gk hb with ⟨j,u,rfl,e⟩ | ⟨y,u,rfl,e⟩
   ·injection e with e1 _; rw[e1]
   ·exact nomatch e
  ·rcases Gk hb with ⟨j,u,rfl,e⟩ | ⟨y,u,rfl,e⟩
   ·exact nomatch e
   ·injection e with e1 _; rw[e1]
 byValue:=λk v h=>by
  rcases Gk h with ⟨i,t,rfl,rfl⟩ | ⟨x,t,rfl,rfl⟩ <;> rfl
 pyHash:=λhv h=>by
  rcases Gk hv with ⟨i,t,rfl,rfl⟩ | ⟨x,t,rfl,rfl⟩
  ·exact wpAny_pyHash_int h
  ·exact wpAny_pyHash_str h
 eqBool:=λhu hv h=>by
  rcases Gk hu with ⟨i,t,rfl,rfl⟩ | ⟨x,t,rfl,rfl⟩
  ·rcases Gk hv with ⟨j,u,rfl,rfl⟩ | ⟨y,u,rfl,rfl⟩
   ·rw[K0] at h; exact wpAny_eqBool_int h
   ·rw[K1] at h; exact SeqAt.EqAt.int_str i t y u _ _ _ _ h
  ·rcases Gk hv with ⟨j,u,rfl,rfl⟩ | ⟨y,u,rfl,rfl⟩
   ·rw[C5] at h; exact SeqAt.EqAt.str_int x t j u _ _ _ _ h
   ·rw[B7] at h; exact wpAny_eqBool_str h
 «strs»:=λk x t v h=>by
  rcases Gk h with ⟨i,u,rfl,e⟩ | ⟨y,u,rfl,e⟩
  ·exact nomatch e
  ·injection e with e1 _
   subst e1
   cases v <;> rfl
theorem eI(prog:Bo)(w:World)(i:Int)(t:Tok):(Gm prog w).is (.inl i) (.int i t)=true:=nY i t
theorem eR(prog:Bo)(w:World)(x:Str)(t:Tok):(Gm prog w).is (.inr x) (.str x t)=true:=nR x t
inductive V where
 | non | bl (b:Bool) | int (i:Int) | str (x:Str) | byt (b:Array UInt8) | flt (b:UInt64) | ref (a:Addr) | ty (n:String)
 deriving DecidableEq
def RelV:V->Value->Prop
 | .non,u=>u=Hl
 | .bl b,u=>u=Value.bool b
 | .int i,u=>∃t,u=Ph i t
 | .str x,u=>∃t,u=Value.str x t
 | .byt b,u=>∃t,u=Value.bytes b t
 | .flt b,u=>∃t,u=Value.float b t
 | .ref a,u=>u=Ax a
 | .ty n,u=>u=Gx n
abbrev En:List V->List Value->Prop:=Paired RelV
theorem En.length{xs:List V}{us:List Value}(r:En xs us):xs.length=us.length:=Paired.length r
theorem En.get:∀{xs:List V} {us:List Value} {i:Nat} {x:V},En xs us->xs[i]? = some x->∃u,us[i]? = some u/\RelV x u
 | _,_,_,_,.nil,e=>by simp at e
 | _,_,0,_,.cons r _,e=>by simp at e; subst e; exact ⟨_,rfl,r⟩
 | _,_,i+1,x,.cons _ t,e=>by
  obtain ⟨u,h1,h2⟩:=En.get (i:=i) (x:=x) t (by simpa using e)
  exact ⟨u,by simpa using h1,h2⟩
theorem En.set{x:V}{u:Value}(r:RelV x u):∀{xs:List V} {us:List Value} (i:Nat),En xs us->En (xs.set i x) (us.set i u)
 | _,_,_,.nil=>.nil
 | _,_,0,.cons _ t=>.cons r t
 | _,_,i+1,.cons q t=>.cons q (En.set r i t)
theorem En.append:∀{xs ys:List V} {us ws:List Value},En xs us->En ys ws->En (xs++ys) (us++ws)
 | _,_,_,_,.nil,s=>s
 | _,_,_,_,.cons r t,s=>.cons r (En.append t s)
theorem En.take:∀{xs:List V} {us:List Value} (n:Nat),En xs us->En (xs.take n) (us.take n)
 | _,_,0,_=>.nil
 | _,_,_+1,.nil=>.nil
 | _,_,n+1,.cons r t=>.cons r (En.take n t)
theorem En.drop:∀{xs:List V} {us:List Value} (n:Nat),En xs us->En (xs.drop n) (us.drop n)
 | _,_,0,r=>r
 | _,_,_+1,.nil=>.nil
 | _,_,n+1,.cons _ t=>En.drop n t
def eG:Option V->Option Value->Prop
 | some v,some u=>RelV v u
 | none,none=>True
 | _,_=>False
def KV{κ:Type}:List (κ×V)->List (κ×Value)->Prop:=Paired λ(p:κ×V) (q:κ×Value)=>p.1=q.1/\RelV p.2 q.2
def kV:Gn->V
 | .inl i=>.int i
 | .inr x=>.str x
inductive HO where
 /-- a list -/
 | lst (xs:List V)
 /-- a tuple (never changes) -/
 | tup (xs:List V)
 /-- a dict whose keys are ints and texts; one whose keys are tuples of ints and texts (the empty one is both) -/
 | dK (kvs:List (Gn×V)) | dT (kvs:List (List Gn×V))
 /-- a set of ints: its members,its size -/
 | set (S:Int->Bool) (n:Nat)
 /-- an instance of the class at C,its dict at dx,its attributes -/
 | ins (C dx:Addr) (fs:List (Str×V))
 /-- the dict of the instance at x -/
 | own (x:Addr)
 /-- the dict of an exception -/
 | xd (fs:List (Str×V))
 /-- a bound method,f of x -/
 | met (f x:Addr)
 /-- a range object lo,lo+1,.. below hi -/
 | rng (lo hi:Int)
 /-- a thing that is known to the object (the script; a dict while a loop walks it): read,never written while it is so -/
 | frz (o:Obj) (u:HO)
 /-- a code object's table -/
 | tbl (ps:Array Value)
 /-- any other thing,by what is true of its one object (a def of one's own: X4 a S n:=HO.ext λh=>..) -/
 | ext (φ:Heap->Prop)
abbrev Hp:=Addr->Option HO
def upd(H:Hp)(a:Addr)(o:HO):Hp:=λb=>if b=a then some o else H b
theorem Cr{H:Hp}{a:Addr}{o:HO}:upd H a o a=some o:=by unfold upd; rw[if_pos rfl]
theorem Cn{H:Hp}{a b:Addr}{o:HO}(h:b≠a):upd H a o b=H b:=by unfold upd; rw[if_neg h]
theorem lA{H:Hp}{a b:Addr}{o u:HO}(h:H a=some o)(h':H b=some u)(d:o≠u):a≠b:=by
 intro e; subst e; rw[h] at h'; exact d (Bk h')
theorem Da{H:Hp}{a b:Addr}{o:HO}(h:H a=some o)(h':H b=none):a≠b:=by
 intro e; subst e; rw[h] at h'; cases h'
section
variable(P:Bo)(w:World)
def Gd(H:Hp)(h:Heap)(a:Addr):HO->Prop
 | .lst xs=>xs.length<=Ap/\∃(its:List Value) (n:Nat),En xs its/\h.get? a=some { cls:=.type "list",data:=.seq its.toArray n }
 | .tup xs=>xs.length<=Ap/\∃its:List Value,En xs its/\IsTup h a its.toArray
 | .dK kvs=>kvs.length<=Ap/\(a == Fd)=false/\∃vs,KV kvs vs/\h.DictOf (Gm P w) a vs
 | .dT kvs=>kvs.length<=Ap/\(a == Fd)=false/\∃xs:List (List Gn×Addr×Value),
   Paired (λ(p:List Gn×V) (q:List Gn×Addr×Value)=>p.1=q.1/\H q.2.1=some (.tup (p.1.map kV))/\RelV p.2 q.2.2) kvs xs /\
   ∃o es ep,h.get? a=some o/\o.ExactDict/\o.data=.dict es ep/\es.toList=xs.map (Zd (Oy (Gm P w)))/\(xs.map (·.1)).Nodup/\ep=es.size
 | .set S n=>h.SetOf (intKind P w) a S n
 | .ins C dx fs=>H dx=some (.own a)/\fs.length<=1000/\dx≠a/\h.get? a=some (PySem.W.instObj C dx) /\
   ∃mA,h.Ns1 dx mA/\(∀f,eG (fs.lookup f) (mA f))/\PySem.Within mA (fs.map (·.1))
 | .own _=>∃o,h.get? a=some o
 | .xd fs=>∃mA,h.Ns1 a mA/\∀f,eG (fs.lookup f) (mA f)
 | .rng lo hi=>∃t u v,h.get? a=some { cls:=.type "range",data:=.fields #[.int lo t,.int hi u,.int 1 v] }
 | .frz o u=>h.get? a=some o/\Gd H h a u
 | .tbl ps=>∃qs:Array Value,h.get? a=some { cls:=.none,data:=.fields qs }/\TriplesOk qs.toList/\∀(pos:Pos) (v:Value),Oz pos qs.toList=some v->∃(c:Addr) (oc:Obj) (us:Array Value) (q:Str) (t t0:Tok),v=.ref c/\H c=some (.own a)/\h.get? c=some oc/\oc.data=.fields us/\us[1]? = some (.str q t)/\ps[0]? = some (.str q t0)
 | .met f x=>h.get? a=some (PySem.W.methodObj (.ref f) (.ref x))
 | .ext φ=>φ h/\(∃o,h.get? a=some o)/\∀h1 h2:Heap,φ h1->(∀o,h1.get? a=some o->h2.get? a=some o)->φ h2
def Ss(H:Hp)(h:Heap):Prop:=∀a o,H a=some o->Gd P w H h a o
end
section
variable{P:Bo}{w:World}{H H':Hp}{h h':Heap}{a:Addr}{o:HO}
theorem Gd.lt(x:Gd P w H h a o):a<h.objs.size:=by
 cases o with
 | lst xs=>obtain ⟨_,_,_,_,e⟩:=x; exact Ba e
 | tup xs=>obtain ⟨_,_,_,p⟩:=x; exact p.lt
 | dK kvs=>obtain ⟨_,_,_,_,o,_,_,e,_⟩:=x; exact Ba e
 | dT kvs=>obtain ⟨_,_,_,_,o,_,_,e,_⟩:=x; exact Ba e
 | set S n=>obtain ⟨o,_,_,_,e,_⟩:=x; exact Ba e
 | ins C dx fs=>obtain ⟨_,_,_,e,_⟩:=x; exact Ba e
 | own y=>obtain ⟨_,e⟩:=x; exact Ba e
 | xd fs=>obtain ⟨_,⟨_,_,_,e,_⟩,_⟩:=x; exact Ba e
 | rng lo hi=>obtain ⟨_,_,_,e⟩:=x; exact Ba e
 | frz ob u=>obtain ⟨e,_⟩:=x; exact Ba e
 | tbl ps=>obtain ⟨_,e,_⟩:=x; exact Ba e
 | met f y=>exact Ba (show h.get? a=some _ from x)
 | ext φ=>obtain ⟨_,⟨_,e⟩,_⟩:=x; exact Ba e
theorem Paired.mapP{α β:Type}{F G:α->β->Prop}:∀{l₁:List α} {l₂:List β},Paired F l₁ l₂->(∀a b,F a b->G a b)->Paired G l₁ l₂
 | _,_,.nil,_=>.nil
 | _,_,.cons r t,f=>.cons (f _ _ r) (Paired.mapP t f)
theorem Gd.stay(x:Gd P w H h a o)(k:∀b u,(b=a\/H b=some (.own a))->h.get? b=some u->h'.get? b=some u)(ho:∀b,H b=some (.own a)->H' b=some (.own a))(ht:∀b xs,H b=some (.tup xs)->H' b=some (.tup xs)):Gd P w H' h' a o:=by
 induction o with
 | lst xs=>obtain ⟨z,its,n,r,e⟩:=x; exact ⟨z,its,n,r,k _ _ (.inl rfl) e⟩
 | tup xs=>obtain ⟨z,its,r,ob,e,c⟩:=x; exact ⟨z,its,r,ob,k _ _ (.inl rfl) e,c⟩
 | dK kvs=>obtain ⟨z,y,vs,r,ob,es,ep,e,c⟩:=x; exact ⟨z,y,vs,r,ob,es,ep,k _ _ (.inl rfl) e,c⟩
 | dT kvs =>
  obtain ⟨z,y,xs,r,ob,es,ep,e,c⟩:=x
  exact ⟨z,y,xs,Paired.mapP r λp q z=>⟨z.1,ht _ _ z.2.1,z.2.2⟩,ob,es,ep,k _ _ (.inl rfl) e,c⟩
 | set S n=>obtain ⟨ob,es,ep,t,e,c⟩:=x; exact ⟨ob,es,ep,t,k _ _ (.inl rfl) e,c⟩
 | ins C dx fs =>
  obtain ⟨d,z,ne,e,mA,⟨od,es,ep,e2,c⟩,r⟩:=x
  exact ⟨ho _ d,z,ne,k _ _ (.inl rfl) e,mA,⟨od,es,ep,k _ _ (.inr d) e2,c⟩,r⟩
 | own y=>obtain ⟨ob,e⟩:=x; exact ⟨ob,k _ _ (.inl rfl) e⟩
 | xd fs=>obtain ⟨mA,⟨od,es,ep,e,c⟩,r⟩:=x; exact ⟨mA,⟨od,es,ep,k _ _ (.inl rfl) e,c⟩,r⟩
 | rng lo hi=>obtain ⟨t,u,v,e⟩:=x; exact ⟨t,u,v,k _ _ (.inl rfl) e⟩
 | frz ob u ih=>obtain ⟨e,q⟩:=x; exact ⟨k _ _ (.inl rfl) e,ih q⟩
 | tbl ps =>
  obtain ⟨qs,e,t,z⟩:=x
  exact ⟨qs,k _ _ (.inl rfl) e,t,λpos v y=>by
   obtain ⟨c,oc,us,q,t,t0,h1,h2,h3,h4⟩:=z pos v y
   exact ⟨c,oc,us,q,t,t0,h1,ho _ h2,k _ _ (.inr h2) h3,h4⟩⟩
 | met f y =>
  have e:h.get? a=some (PySem.W.methodObj (.ref f) (.ref y)):=x
  show h'.get? a=some (PySem.W.methodObj (.ref f) (.ref y))
  exact k a _ (.inl rfl) e
 | ext φ=>obtain ⟨p,⟨o,e⟩,st⟩:=x; exact ⟨st _ _ p λo q=>k _ _ (.inl rfl) q,⟨o,k _ _ (.inl rfl) e⟩,st⟩
theorem Ss.lt(x:Ss P w H h)(e:H a=some o):a<h.objs.size:=(x a o e).lt
theorem Ss.fresh(x:Ss P w H h)(e:h.objs.size<=a):H a=none:=by
 cases q:H a with
 | none=>rfl
 | some u=>exact absurd (Cd (x.lt q) e) (Ew _)
theorem Ss.kept(x:Ss P w H h)(k:∀b u,h.get? b=some u->h'.get? b=some u):Ss P w H h':=λa o e =>
 (x a o e).stay (λb u _ q=>k b u q) (λ_ q=>q) λ_ _ q=>q
theorem Ss.laid(x:Ss P w H h)(k:∀b u,h.get? b=some u->h'.get? b=some u)(hp:h.objs.size<=a)(new:Gd P w (upd H a o) h' a o):Ss P w (upd H a o) h':=λb u e=>by
 have hn:=x.fresh hp
 by_cases hb:b=a
 ·subst hb; rw[Cr] at e; cases e; exact new
 ·rw[Cn hb] at e
  exact (x b u e).stay (λc v _ q=>k c v q) (λc q=>by rw[Cn (Da q hn)]; exact q) λc xs q=>by rw[Cn (Da q hn)]; exact q
end
def Rd(H:Hp)(a:Addr)(u:HO):Prop:=H a=some u\/∃o,H a=some (.frz o u)
theorem Rd.ok{P:Bo}{w:World}{H:Hp}{h:Heap}{a:Addr}{u:HO}(r:Rd H a u)(x:Ss P w H h):Gd P w H h a u:=by
 rcases r with r | ⟨o,r⟩
 ·exact x a u r
 ·obtain ⟨_,q⟩:=x a _ r
  exact q
def M6:Option HO->Prop
 | some (.lst _)=>True
 | some (.dK _)=>True
 | some (.dT _)=>True
 | some (.set _ _)=>True
 | some (.ins _ _ _)=>True
 | some (.ext _)=>True
 | _=>False
section
variable{P:Bo}{w:World}{H:Hp}{h h':Heap}{x e:Addr}{o':HO}
theorem Ss.write(ok:Ss P w H h)(mu:M6 (H x))(he:e=x\/H e=some (.own x))(k:∀b u,b≠e->h.get? b=some u->h'.get? b=some u)(heo:∃u,h'.get? e=some u)(new:Gd P w (upd H x o') h' x o'):Ss P w (upd H x o') h':=λb u q=>by
 have nown:∀c y,H c=some (.own y)->c≠x:=λc y r z=>by subst z; rw[r] at mu; exact mu
 have S8:∀c xs,H c=some (.tup xs)->c≠x:=λc xs r z=>by subst z; rw[r] at mu; exact mu
 by_cases hb:b=x
 ·subst hb; rw[Cr] at q; cases q; exact new
 ·rw[Cn hb] at q
  by_cases hbe:b=e
  ·have q':H b=some (.own x):=by
    rcases he with z | z
    ·exact absurd (hbe.trans z) hb
    ·rw[hbe]; exact z
   rw[q] at q'; cases q'
   obtain ⟨v,hv⟩:=heo
   exact ⟨v,by rw[hbe]; exact hv⟩
  ·refine (ok b u q).stay (λc v hc r=>k c v ?_ r) (λc r=>by rw[Cn (nown c b r)]; exact r) λc xs r=>by rw[Cn (S8 c xs r)]; exact r
   rcases hc with rfl | hc
   ·exact hbe
   ·rintro rfl
    rcases he with z | z
    ·exact nown c b hc z
    ·rw[hc] at z; cases z; exact hb rfl
end
structure Un(fs ex:List Addr)(H H':Hp)(h h':Heap):Prop where
 keep:∀b o,h.get? b=some o->H b=none->b∉fs->b∉ex->h'.get? b=some o
 slot:∀b o,h.get? b=some o->H b=none->b∈fs->b∉ex->∃sl,h'.get? b=some { o with slots:=sl }
 free:∀b o,h.get? b=some o->H b=none->b∉ex->H' b=none
 there:∀b o,h.get? b=some o->b∉ex->∃o',h'.get? b=some o'
 tups:∀b xs,H b=some (.tup xs)->H' b=some (.tup xs)
 frzs:∀b o u,H b=some (.frz o u)->H' b=some (.frz o u)
 tbls:∀b ps,H b=some (.tbl ps)->∃more,H' b=some (.tbl (ps++more))
section
variable{fs fs' ex ex':List Addr}{H H1 H2:Hp}{h h1 h2 h':Heap}{a x e:Addr}{o:HO}
theorem Un.any(u:Un fs ex H H1 h h1){b:Addr}{ob:Obj}(q:h.get? b=some ob)(n:H b=none)(hx:b∉ex):∃sl,h1.get? b=some { ob with slots:=sl }:=by
 by_cases hb:b∈fs
 ·exact u.slot b ob q n hb hx
 ·exact ⟨ob.slots,u.keep b ob q n hb hx⟩
theorem Un.kept(k:∀b u,h.get? b=some u->h'.get? b=some u):Un fs ex H H h h' :=
 ⟨λb ob q _ _ _=>k b ob q,λb ob q _ _ _=>⟨ob.slots,k b ob q⟩,λ_ _ _ n _=>n,λb ob q _=>⟨ob,k b ob q⟩,λ_ _ q=>q,λ_ _ _ q=>q,λ_ ps q=>⟨#[],by rw[q]; simp⟩⟩
theorem Un.refl:Un fs ex H H h h:=Un.kept λ_ _ q=>q
theorem Un.laid(k:∀b u,h.get? b=some u->h'.get? b=some u)(hp:h.objs.size<=a)(hn:H a=none):Un fs ex H (upd H a o) h h' where
 keep:=λb u q _ _ _=>k b u q
 slot:=λb u q _ _ _=>⟨u.slots,k b u q⟩
 free:=λb u q n _=>by rw[Cn (Br (Cd (Ba q) hp))]; exact n
 there:=λb u q _=>⟨u,k b u q⟩
 tups:=λb xs q=>by rw[Cn (Da q hn)]; exact q
 frzs:=λb u xs q=>by rw[Cn (Da q hn)]; exact q
 tbls:=λb ps q=>⟨#[],by rw[Cn (Da q hn),q]; simp⟩
theorem Un.write(mu:M6 (H x))(he:e=x\/H e=some (.own x))(k:∀b u,b≠e->h.get? b=some u->h'.get? b=some u)(heo:∃u,h'.get? e=some u):Un fs ex H (upd H x o) h h':=by
 have hx:∀b,H b=none->b≠x:=λb n z=>by subst z; rw[n] at mu; exact mu
 have hb:∀b,H b=none->b≠e:=λb n z=>by
  subst z
  rcases he with r | r
  ·exact hx b n r
  ·rw[n] at r; cases r
 have hm:∀b u,H b=some u->¬ M6 (some u)->b≠x:=λb u q nm z=>by subst z; rw[q] at mu; exact nm mu
 refine ⟨λb u q n _ _=>k b u (hb b n) q,λb u q n _ _=>⟨u.slots,k b u (hb b n) q⟩,λb u q n _=>by rw[Cn (hx b n)]; exact n,λb u q _=>?_,
  λb xs q=>by rw[Cn (hm b _ q λz=>z)]; exact q,λb u xs q=>by rw[Cn (hm b _ q λz=>z)]; exact q,λb ps q=>⟨#[],by rw[Cn (hm b _ q λz=>z),q]; simp⟩⟩
 by_cases hbe:b=e
 ·subst hbe; exact heo
 ·exact ⟨u,k b u hbe q⟩
end
def V5(h:Heap)(H:Hp):List Addr:=(Cu h.objs.size).filter λa=>(H a).isSome
def Zi(h:Heap)(H:Hp):Heap:=PySem.W.hideAll h (V5 h H)
theorem mU(h:Heap)(H:Hp):(Zi h H).objs.size=h.objs.size:=PySem.W.hideAll_size _ _
theorem qE{h:Heap}{H:Hp}{b:Addr}{o:Obj}(e:h.get? b=some o)(n:H b=none):(Zi h H).get? b=some o :=
 PySem.W.hideAll_get _ e λhm=>by
  have q:(H b).isSome=true:=(Ce.mp hm).2
  rw[n] at q; simp at q
theorem wJ{h:Heap}{H:Hp}{b:Addr}{o:Obj}(e:(Zi h H).get? b=some o):h.get? b=some o/\H b=none:=by
 have e':h.get? b=some o:=PySem.W.of_hideAll (V5 h H) e
 refine ⟨e',?_⟩
 cases q:H b with
 | none=>rfl
 | some x =>
  have hm:b∈V5 h H:=Ce.mpr ⟨Jf.mpr (Ba e'),by simp [q]⟩
  have z:(Zi h H).get? b=none:=PySem.W.hideAll_none (V5 h H) hm
  rw[z] at e; cases e
def xQ(g h:Heap)(L:Addr):List (Addr×Obj):=(Cu h.objs.size).filterMap λa=>if a=L\/(g.get? a).isSome=true then none else (h.get? a).map λo=>(a,o)
def Fv(g h:Heap)(L d:Addr):List (Addr×Obj):=(xQ g h L).filter λp=>decide (p.1≠d)
structure Mod(K:PySem.W.Frag)(mg:Str->Option Value)(base:Heap):Prop where
 kin:K.In base
 glob:base.Ns Bz mg
 blt:∃mb,base.Ns Sq mb/\∀x:Str,x ≠ "__name__" -> mb x=Il x
 nolimit:base.NoLimit
def Nx:List Str:=["often", "cut_by"]
def Zs(x:Str):Str:=x ++ ".<locals>." ++ "<lambda>"
def zJ(H:Hp)(P:Addr)(q:Str):Prop:=∃(ps:Array Value) (t0:Tok),H P=some (.tbl ps)/\ps[0]? = some (.str q t0)
def tT(K:PySem.W.Frag)(mg:Str->Option Value)(base:Heap)(H:Hp):Prop:=∀x∈Nx,∀c P,PySem.W.tabIn K x=some (c,P)->PySem.W.CodeHd base c P/\base.BuiltinsAt mg P/\zJ H P (Zs x)
theorem tT.un{K:PySem.W.Frag}{mg:Str->Option Value}{base:Heap}{fs ex:List Addr}{H H':Hp}{h h':Heap}(t:tT K mg base H)(u:Un fs ex H H' h h'):tT K mg base H':=λx hx c P e=>by
 obtain ⟨h1,h2,ps,t0,h3,h4⟩:=t x hx c P e
 obtain ⟨more,h5⟩:=u.tbls P ps h3
 refine ⟨h1,h2,ps++more,t0,h5,?_⟩
 have hl:0<ps.size:=by
  rcases Nat.eq_zero_or_pos ps.size with z | z
  ·rw[iB (by omega)] at h4; cases h4
  ·exact z
 rw[Array.getElem?_append_left hl]
 exact h4
structure Cx where
 prog:Bo
 w:World
 K:PySem.W.Frag
 mg:Str->Option Value
 base:Heap
 A:Co
 N:List Str
 s₀:Ag
 H₀:Hp
 env:Env
 outer:List Env
 stack:List Env
 ex:List Addr
 fn:Str->Bool
 calm:Bool
 pn:List (Addr×Obj)
 xe:Value->Ag->Prop
def oX(l:List Env):List Addr:=l.filterMap (·.frame)
abbrev Cx.fs(X:Cx):List Addr:=oX X.outer
def U7(sc:Scope)(x:Str):Prop:=sc.names.lookup x=some .local\/sc.names.lookup x=some .cell\/sc.names.lookup x=some .free
def Loc(sc:Scope)(x:Str):Prop:=sc.names.lookup x=some .local\/sc.names.lookup x=some .cell
def X2(env:Env)(h:Heap)(m:Str->Option Value)(x:Str)(u:Value):Prop :=
 (env.kindOf x=some .local/\m x=some u)\/((env.kindOf x=some .cell\/env.kindOf x=some .free)/\∃c,env.cells.lookup x=some c/\h.IsCell c (some u))
structure Cx.Ok(X:Cx):Prop where
 mod:Mod X.K X.mg X.base
 kind:X.env.scope.kind=.function
 glob:X.env.globals=Bz
 blt:X.env.builtins=Sq
 above:X.s₀.heap.objs.size<=X.env.locals
 inj:∀x y c,X.env.cells.lookup x=some c->X.env.cells.lookup y=some c->x=y
 has:∀x,(X.env.kindOf x=some .cell\/X.env.kindOf x=some .free)->∃c,X.env.cells.lookup x=some c
 cab:∀x c,X.fn x=true->X.env.cells.lookup x=some c->X.s₀.heap.objs.size<=c
 hd:X.calm=true->X.A.handled=none
 frames:X.A.frames=some X.stack
 stk:X.stack=X.outer\/(X.stack=X.env::X.outer/\X.env.frame=some X.env.locals)
 exf:∀b∈X.ex,b≠X.env.locals/\∀x c,X.env.cells.lookup x=some c->c≠b
 bs:∀b o,X.base.get? b=some o->X.s₀.heap.get? b=some o/\X.H₀ b=none
 bsz:X.base.objs.size<=X.s₀.heap.objs.size
 noex:∀b o,X.base.get? b=some o->b∉X.ex
 exfs:∀b∈X.ex,b∉X.fs
 funs:X.s₀.heap.FunFrames X.base X.outer
 frf:∀b∈X.fs,X.H₀ b=none
 tab:tT X.K X.mg X.base X.H₀
structure Inv(X:Cx)(pins:List (Addr×Obj))(σ:List (Option V))(H:Hp)(s:Ag):Prop where
 ok:X.Ok
 os:s.os=X.s₀.os
 bare:Qo s.gens
 base:Un X.fs X.ex X.H₀ H X.s₀.heap s.heap
 loc:∃m,s.heap.Ns X.env.locals m/\∀(i:Nat) (x:Str) (v:V),X.N[i]? = some x->σ[i]? = some (some v)->U7 X.env.scope x->∃u,RelV v u/\X2 X.env s.heap m x u
 cell:∀x c,X.env.cells.lookup x=some c->∃v,s.heap.IsCell c v
 free:H X.env.locals=none
 freeC:∀x c,X.env.cells.lookup x=some c->H c=none
 pin:∀p∈X.pn++pins,s.heap.get? p.1=some p.2/\H p.1=none/\p.1≠X.env.locals/\p.1∉X.fs/\∀v,p.2.data≠.cell v
 hok:Ss X.prog X.w H s.heap
 len:σ.length=X.N.length
section
variable{X:Cx}{pins:List (Addr×Obj)}{σ:List (Option V)}{H H':Hp}{s:Ag}{h':Heap}
theorem Cx.Ok.nofr(ok:X.Ok){b:Addr}{o:Obj}(e:X.base.get? b=some o):b∉X.fs:=λhb=>by
 have:=(ok.funs.mem hb).1
 rw[e] at this; cases this
theorem Inv.bs(I:Inv X pins σ H s):∀b o,X.base.get? b=some o->s.heap.get? b=some o/\H b=none:=λb o e =>
 ⟨I.base.keep b o (I.ok.bs b o e).1 (I.ok.bs b o e).2 (I.ok.nofr e) (I.ok.noex b o e),I.base.free b o (I.ok.bs b o e).1 (I.ok.bs b o e).2 (I.ok.noex b o e)⟩
theorem Inv.bk(I:Inv X pins σ H s):∀b o,X.base.get? b=some o->s.heap.get? b=some o:=λb o e=>(I.bs b o e).1
theorem Inv.mod(I:Inv X pins σ H s):Mod X.K X.mg X.base:=I.ok.mod
theorem Inv.kIn(I:Inv X pins σ H s):X.K.In s.heap:=I.ok.mod.kin.keeps I.bk
theorem Inv.nolimit(I:Inv X pins σ H s):s.heap.NoLimit:=I.ok.mod.nolimit.keeps I.bk
theorem Inv.lt(I:Inv X pins σ H s):X.env.locals<s.heap.objs.size:=let ⟨_,hn,_⟩:=I.loc; hn.lt
theorem Inv.sz(I:Inv X pins σ H s):X.s₀.heap.objs.size<=s.heap.objs.size:=Ca I.ok.above (Jl I.lt)
theorem Inv.nofs(I:Inv X pins σ H s){a:Addr}(h:s.heap.objs.size<=a):a∉X.fs:=λhb=>by
 obtain ⟨_,o,ho,_⟩:=I.ok.funs.mem hb
 exact absurd (Cd (Ba ho) (Ca I.sz h)) (Ew _)
theorem Inv.cne(I:Inv X pins σ H s):∀x c,X.env.cells.lookup x=some c->c≠X.env.locals:=λx c e z=>by
 obtain ⟨v,o,ho,hd⟩:=I.cell x c e
 obtain ⟨m,⟨o',es,ep,ho',hd',_⟩,_⟩:=I.loc
 rw[z,ho'] at ho; cases ho; rw[hd'] at hd; cases hd
theorem Inv.funs(I:Inv X pins σ H s):s.heap.FunFrames X.base X.outer:=by
 have all:∀(l:List Env),(∀b∈oX l,b∈X.fs)->X.s₀.heap.FunFrames X.base l->s.heap.FunFrames X.base l:=by
  intro l
  induction l with
  | nil=>intro _ _; trivial
  | cons env r ih =>
   intro hs hl
   obtain ⟨hk,⟨L,o,hf,hn,ho,hd⟩,hr⟩:=hl
   have hL:L∈X.fs:=hs L (by unfold oX; rw[Mm,hf]; exact Ab)
   obtain ⟨sl,e⟩:=I.base.slot L o ho (I.ok.frf L hL) hL λz=>I.ok.exfs L z hL
   exact ⟨hk,⟨L,_,hf,hn,e,hd⟩,ih (λb hb=>hs b (by unfold oX; rw[Mm,hf]; exact Af _ hb)) hr⟩
 exact all X.outer (λ_ hb=>hb) I.ok.funs
theorem Inv.stack(I:Inv X pins σ H s):s.heap.FunFrames X.base X.stack:=by
 rcases I.ok.stk with e | ⟨e,hf⟩
 ·rw[e]; exact I.funs
 ·rw[e]
  obtain ⟨m,hn,_⟩:=I.loc
  refine .cons (by rw[I.ok.kind]; decide) hf hn ?_ I.funs
  exact Sh (Ca I.ok.bsz I.ok.above)
theorem Inv.stkSub(I:Inv X pins σ H s):∀b∈oX X.stack,b∈X.env.locals::X.fs:=λb hb=>by
 rcases I.ok.stk with e | ⟨e,hf⟩
 ·rw[e] at hb; exact Af _ hb
 ·rw[e] at hb
  unfold oX at hb
  rw[Mm,hf] at hb
  exact hb
theorem Inv.stkFree(I:Inv X pins σ H s):∀b∈oX X.stack,H b=none:=λb hb=>by
 rcases Ak.mp (I.stkSub b hb) with e | hb
 ·rw[e]; exact I.free
 ·obtain ⟨_,o,ho,_⟩:=I.ok.funs.mem hb
  exact I.base.free b o ho (I.ok.frf b hb) λz=>I.ok.exfs b z hb
theorem Inv.step{g':Array GenState}{t':Nat}{d':Drawn}{ch:List Addr}(I:Inv X pins σ H s)(hch:∀b∈ch,(b∈X.ex\/X.s₀.heap.objs.size<=b)/\b≠X.env.locals/\(∀x c,X.env.cells.lookup x=some c->c≠b)/\∀p∈X.pn++pins,p.1≠b)(keep:∀b o,b≠X.env.locals->b∉X.fs->b∉ch->s.heap.get? b=some o->H b=none->h'.get? b=some o)(slot:∀b o,b≠X.env.locals->b∈X.fs->b∉ch->s.heap.get? b=some o->H b=none->∃sl,h'.get? b=some { o with slots:=sl })(free:∀b o,b∉ch->s.heap.get? b=some o->H b=none->H' b=none)(there:∀b o,b∉ch->s.heap.get? b=some o->∃o',h'.get? b=some o')(tups:∀b xs,H b=some (.tup xs)->H' b=some (.tup xs))(frzs:∀b o u,H b=some (.frz o u)->H' b=some (.frz o u))(tbls:∀b ps,H b=some (.tbl ps)->∃more,H' b=some (.tbl (ps++more)))(ns:∀m,s.heap.Ns X.env.locals m->h'.Ns X.env.locals m)(hok:Ss X.prog X.w H' h')(hg:Qo g'):Inv X pins σ H' { s with heap:=h',gens:=g',drawn:=d',toks:=t' }:=by
 have neL:∀b o,X.s₀.heap.get? b=some o->b≠X.env.locals:=λb o e=>Br (Cd (Ba e) I.ok.above)
 have neC:∀b o,X.s₀.heap.get? b=some o->b∉X.ex->b∉ch:=λb o e hx hb=>by
  rcases (hch b hb).1 with z | z
  ·exact hx z
  ·exact absurd (Cd (Ba e) z) (Ew _)
 have cellK:∀x c,X.env.cells.lookup x=some c->∀v,s.heap.IsCell c v->h'.IsCell c v:=λx c e v ⟨o,ho,hd⟩=>by
  have nch:c∉ch:=λz=>(hch c z).2.2.1 x c e rfl
  by_cases hc:c∈X.fs
  ·obtain ⟨sl,q⟩:=slot c o (I.cne x c e) hc nch ho (I.freeC x c e)
   exact ⟨_,q,hd⟩
  ·exact ⟨o,keep c o (I.cne x c e) hc nch ho (I.freeC x c e),hd⟩
 refine ⟨I.ok,I.os,hg,⟨λb o e n hb hx=>?_,λb o e n hb hx=>?_,λb o e n hx=>?_,λb o e hx=>?_,λb xs e=>tups b xs (I.base.tups b xs e),λb o xs e=>frzs b o xs (I.base.frzs b o xs e),λb ps e=>?_⟩,?_,λx c e=>?_,?_,λx c e=>?_,λp hp=>?_,hok,I.len⟩
 ·exact keep b o (neL b o e) hb (neC b o e hx) (I.base.keep b o e n hb hx) (I.base.free b o e n hx)
 ·obtain ⟨sl,e1⟩:=I.base.slot b o e n hb hx
  obtain ⟨sl',e2⟩:=slot b _ (neL b o e) hb (neC b o e hx) e1 (I.base.free b o e n hx)
  exact ⟨sl',e2⟩
 ·obtain ⟨o',e1⟩:=I.base.there b o e hx
  exact free b o' (neC b o e hx) e1 (I.base.free b o e n hx)
 ·obtain ⟨o',e1⟩:=I.base.there b o e hx
  exact there b o' (neC b o e hx) e1
 ·obtain ⟨m1,e1⟩:=I.base.tbls b ps e
  obtain ⟨m2,e2⟩:=tbls b _ e1
  exact ⟨m1++m2,by rw[e2,Array.append_assoc]⟩
 ·obtain ⟨m,hn,hl⟩:=I.loc
  refine ⟨m,ns m hn,λi x v e1 e2 e3=>?_⟩
  obtain ⟨u,r,l⟩:=hl i x v e1 e2 e3
  refine ⟨u,r,?_⟩
  rcases l with l | ⟨k,c,e,z⟩
  ·exact .inl l
  ·exact .inr ⟨k,c,e,cellK x c e _ z⟩
 ·obtain ⟨v,z⟩:=I.cell x c e
  exact ⟨v,cellK x c e v z⟩
 ·obtain ⟨m,⟨o,_,_,ho,_⟩,_⟩:=I.loc
  exact free _ o (λz=>(hch _ z).2.1 rfl) ho I.free
 ·obtain ⟨v,o,ho,hd⟩:=I.cell x c e
  exact free c o (λz=>(hch c z).2.2.1 x c e rfl) ho (I.freeC x c e)
 ·obtain ⟨e,n,ne,nf,d⟩:=I.pin p hp
  have nch:p.1∉ch:=λz=>(hch p.1 z).2.2.2 p hp rfl
  exact ⟨keep p.1 p.2 ne nf nch e n,free p.1 p.2 nch e n,ne,nf,d⟩
theorem Inv.un{t':Nat}(I:Inv X pins σ H s)(u:Un X.fs [] H H' s.heap h')(hok:Ss X.prog X.w H' h'):Inv X pins σ H' { s with heap:=h',toks:=t' }:=by
 obtain ⟨m,⟨o,es,ep,ho,r⟩,_⟩:=id I.loc
 obtain ⟨sl,hL⟩:=u.any ho I.free (by simp)
 exact I.step (g':=s.gens) (d':=s.drawn) (ch:=[]) (λ_ z=>nomatch z) (λb o _ hb _ e n=>u.keep b o e n hb (by simp)) (λb o _ hb _ e n=>u.slot b o e n hb (by simp)) (λb o _ e n=>u.free b o e n (by simp)) (λb o _ e=>u.there b o e (by simp)) u.tups u.frzs u.tbls (λm' hm=>by
  obtain ⟨o',es',ep',ho',r'⟩:=hm
  rw[ho] at ho'; cases ho'
  exact ⟨_,es',ep',hL,r'⟩) hok I.bare
theorem Inv.call{g':Array GenState}{t':Nat}{d':Drawn}{ch:List Addr}(I:Inv X pins σ H s)(u:Un (oX X.stack) ch H H' s.heap h')(hok:Ss X.prog X.w H' h')(hg:Qo g')(hch:∀b∈ch,(b∈X.ex\/X.s₀.heap.objs.size<=b)/\b≠X.env.locals/\(∀x c,X.env.cells.lookup x=some c->c≠b)/\∀p∈X.pn++pins,p.1≠b):Inv X pins σ H' { s with heap:=h',gens:=g',drawn:=d',toks:=t' }:=by
 obtain ⟨m,⟨o,es,ep,ho,r⟩,_⟩:=id I.loc
 obtain ⟨sl,hL⟩:=u.any ho I.free λz=>(hch _ z).2.1 rfl
 exact I.step (ch:=ch) hch (λb o hL hb hc e n=>u.keep b o e n (λz=>(Ak.mp (I.stkSub b z)).elim hL hb) hc) (λb o _ _ hc e n=>u.any e n hc) (λb o hc e n=>u.free b o e n hc) (λb o hc e=>u.there b o e hc) u.tups u.frzs u.tbls (λm' hm=>by
  obtain ⟨o',es',ep',ho',r'⟩:=hm
  rw[ho] at ho'; cases ho'
  exact ⟨_,es',ep',hL,r'⟩) hok hg
theorem Inv.turned{t':Nat}{it:Addr}(I:Inv X pins σ H s)(k:∀b o,b≠it->s.heap.get? b=some o->h'.get? b=some o)(hn:H it=none)(hL:it≠X.env.locals)(h1:it∈X.ex\/X.s₀.heap.objs.size<=it)(h2:∀x c,X.env.cells.lookup x=some c->c≠it)(h3:∀p∈X.pn++pins,p.1≠it):Inv X pins σ H { s with heap:=h',toks:=t' }:=by
 have nit:∀b u,H b=some u->b≠it:=λb u e z=>by rw[z,hn] at e; cases e
 refine I.step (g':=s.gens) (d':=s.drawn) (ch:=[it]) (λb hb=>?_) (λb o _ _ hc e _=>k b o (λz=>hc (by simp [z])) e) (λb o _ _ hc e _=>⟨o.slots,k b o (λz=>hc (by simp [z])) e⟩) (λ_ _ _ _ n=>n)
  (λb o hc e=>⟨o,k b o (λz=>hc (by simp [z])) e⟩) (λ_ _ e=>e) (λ_ _ _ e=>e) (λb ps e=>⟨#[],by rw[e]; simp⟩) (λm hm=>?_) (λb u e=>?_) I.bare
 ·have e:b=it:=by simpa using hb
  subst e
  exact ⟨h1,hL,h2,h3⟩
 ·obtain ⟨o,es,ep,ho,r⟩:=hm
  exact ⟨o,es,ep,k _ o (Ld hL) ho,r⟩
 ·refine (I.hok b u e).stay (λc v hc q=>k c v ?_ q) (λ_ q=>q) λ_ _ q=>q
  rcases hc with z | z
  ·rw[z]; exact nit b u e
  ·exact nit c _ z
theorem Inv.tok(I:Inv X pins σ H s)(t:Nat):Inv X pins σ H { s with toks:=t }:=I.un (h':=s.heap) (t':=t) Un.refl I.hok
theorem Inv.kept{t':Nat}(I:Inv X pins σ H s)(k:∀b u,s.heap.get? b=some u->h'.get? b=some u):Inv X pins σ H { s with heap:=h',toks:=t' }:=I.un (Un.kept k) (I.hok.kept k)
theorem Inv.laid{a:Addr}{o:HO}{t':Nat}(I:Inv X pins σ H s)(k:∀b u,s.heap.get? b=some u->h'.get? b=some u)(hp:s.heap.objs.size<=a)(new:Gd X.prog X.w (upd H a o) h' a o):Inv X pins σ (upd H a o) { s with heap:=h',toks:=t' }:=I.un (Un.laid k hp (I.hok.fresh hp)) (I.hok.laid k hp new)
theorem Inv.write{x e:Addr}{o:HO}{t':Nat}(I:Inv X pins σ H s)(mu:M6 (H x))(he:e=x\/H e=some (.own x))(k:∀b u,b≠e->s.heap.get? b=some u->h'.get? b=some u)(heo:∃u,h'.get? e=some u)(new:Gd X.prog X.w (upd H x o) h' x o):Inv X pins σ (upd H x o) { s with heap:=h',toks:=t' }:=I.un (Un.write mu he k heo) (I.hok.write mu he k heo new)
theorem Inv.pins_of{pins':List (Addr×Obj)}(I:Inv X pins σ H s)(h:∀p∈pins',s.heap.get? p.1=some p.2/\H p.1=none/\p.1≠X.env.locals/\p.1∉X.fs/\∀v,p.2.data≠.cell v):Inv X pins' σ H s :=
 ⟨I.ok,I.os,I.bare,I.base,I.loc,I.cell,I.free,I.freeC,λp hp=>(Bi.mp hp).elim (λz=>I.pin p (Av _ z)) (h p),I.hok,I.len⟩
theorem eM{N:List Str}(hN:N.Nodup){i j:Nat}{x:Str}(a:N[i]? = some x)(b:N[j]? = some x):i=j:=by
 obtain ⟨h1,e1⟩:=Al.mp a
 obtain ⟨h2,e2⟩:=Al.mp b
 exact (List.getElem_inj hN).mp (e1.trans e2.symm)
theorem nZ{M:Model}{A:Co}{E:Value->Ag->Prop}{i:Nat}{x:Str}{v:V}{u:Value}{Q:Unit->Ag->Prop}(I:Inv X pins σ H s)(hN:X.N.Nodup)(hi:X.N[i]? = some x)(hx:Loc X.env.scope x)(r:RelV v u)(h:∀s',Inv X pins (σ.set i (some v)) H s'->(∃a,Dd a s.heap s'.heap/\(a=X.env.locals\/X.env.cells.lookup x=some a))->Q () s')(hf:X.fn x=true\/X.env.scope.names.lookup x=some .local:=by first | exact .inl rfl | exact .inr rfl | assumption):wpAny M A (storeName X.env x u) Q E s:=by
 obtain ⟨m,hn,hl⟩:=id I.loc
 have hcls:(X.env.scope.kind == .class || (X.env.scope.kind == .module && X.env.locals != X.env.globals))=false:=by rw[I.ok.kind]; rfl
 have hiσ:i<σ.length:=by rw[I.len]; exact (Al.mp hi).1
 have cne:=I.cne
 have tracked:∀{a:Addr} {h':Heap},(∃o,s.heap.get? a=some o/\H a=none)->Dd a s.heap h'->Ss X.prog X.w H h':=λ{a h'} ha hs b ob e=>by
  obtain ⟨_,_,hfree⟩:=ha
  refine (I.hok b ob e).stay (λc w' hc q=>(hs.2 c ?_).trans q) (λ_ q=>q) λ_ _ q=>q
  rintro rfl
  rcases hc with rfl | hc
  ·rw[hfree] at e; cases e
  ·rw[hfree] at hc; cases hc
 rcases hx with hk | hk
 ·refine wpAny_storeName_local hk hn (λh' hn' hs=>?_) hcls
  obtain ⟨oL,_,_,hoL,_⟩:=id hn
  refine h _ ⟨I.ok,I.os,I.bare,⟨λb o e n hb hx=>?_,λb o e n hb hx=>?_,I.base.free,λb o e hx=>?_,I.base.tups,I.base.frzs,I.base.tbls⟩,⟨_,hn',λj y v' e1 e2 e3=>?_⟩,λy c e=>?_,I.free,I.freeC,λp hp=>?_,tracked ⟨oL,hoL,I.free⟩ hs,by simpa using I.len⟩ ⟨_,hs,.inl rfl⟩
  ·exact (hs.2 b (Br (Cd (Ba e) I.ok.above))).trans (I.base.keep b o e n hb hx)
  ·obtain ⟨sl,e1⟩:=I.base.slot b o e n hb hx
   exact ⟨sl,(hs.2 b (Br (Cd (Ba e) I.ok.above))).trans e1⟩
  ·obtain ⟨o',e1⟩:=I.base.there b o e hx
   exact ⟨o',(hs.2 b (Br (Cd (Ba e) I.ok.above))).trans e1⟩
  ·by_cases hj:j=i
   ·subst hj
    rw[hi] at e1; cases e1
    rw[kI hiσ] at e2
    cases e2
    exact ⟨u,r,.inl ⟨hk,by simp⟩⟩
   ·rw[Sf (Ld hj)] at e2
    obtain ⟨u',r',q⟩:=hl j y v' e1 e2 e3
    refine ⟨u',r',?_⟩
    rcases q with ⟨k,e⟩ | ⟨k,c,e,z⟩
    ·refine .inl ⟨k,?_⟩
     have : y≠x:=λe=>hj (eM hN e1 (e▸hi))
     simp [this,e]
    ·exact .inr ⟨k,c,e,z.sameBut hs (cne y c e)⟩
  ·obtain ⟨w',z⟩:=I.cell y c e
   exact ⟨w',z.sameBut hs (cne y c e)⟩
  ·obtain ⟨e,n,ne,nf,d⟩:=I.pin p hp
   exact ⟨(hs.2 p.1 ne).trans e,n,ne,nf,d⟩
 ·have hfn:X.fn x=true:=by
   rcases hf with z | z
   ·exact z
   ·rw[z] at hk; cases hk
  obtain ⟨c,hc⟩:=I.ok.has x (.inl hk)
  obtain ⟨w',z⟩:=I.cell x c hc
  refine wpAny_storeName_cell I.ok.kind hk hc z (λh' hc' hs=>?_)
  obtain ⟨oc,hoc,hocd⟩:=id z
  refine h { s with heap:=h' } ⟨I.ok,I.os,I.bare,⟨λb o e n hb hx=>?_,λb o e n hb hx=>?_,I.base.free,λb o e hx=>?_,I.base.tups,I.base.frzs,I.base.tbls⟩,⟨m,hn.sameBut hs (Ld (cne x c hc)),λj y v' e1 e2 e3=>?_⟩,λy c' e=>?_,I.free,I.freeC,λp hp=>?_,tracked ⟨oc,hoc,I.freeC x c hc⟩ hs,by simpa using I.len⟩ ⟨c,hs,.inr hc⟩
  ·exact (hs.2 b (Br (Cd (Ba e) (I.ok.cab x c hfn hc)))).trans (I.base.keep b o e n hb hx)
  ·obtain ⟨sl,e1⟩:=I.base.slot b o e n hb hx
   exact ⟨sl,(hs.2 b (Br (Cd (Ba e) (I.ok.cab x c hfn hc)))).trans e1⟩
  ·obtain ⟨o',e1⟩:=I.base.there b o e hx
   exact ⟨o',(hs.2 b (Br (Cd (Ba e) (I.ok.cab x c hfn hc)))).trans e1⟩
  ·by_cases hj:j=i
   ·subst hj
    rw[hi] at e1; cases e1
    rw[kI hiσ] at e2
    cases e2
    exact ⟨u,r,.inr ⟨.inl hk,c,hc,hc'⟩⟩
   ·rw[Sf (Ld hj)] at e2
    obtain ⟨u',r',q⟩:=hl j y v' e1 e2 e3
    refine ⟨u',r',?_⟩
    rcases q with q | ⟨k,c',e,z'⟩
    ·exact .inl q
    ·refine .inr ⟨k,c',e,z'.sameBut hs ?_⟩
     rintro rfl
     exact hj (eM hN e1 (I.ok.inj _ _ _ e hc▸hi))
  ·by_cases hcc:c'=c
   ·subst hcc; exact ⟨_,hc'⟩
   ·obtain ⟨w2,z2⟩:=I.cell y c' e
    exact ⟨w2,z2.sameBut hs hcc⟩
  ·obtain ⟨e,n,ne,nf,d⟩:=I.pin p hp
   refine ⟨(hs.2 p.1 ?_).trans e,n,ne,nf,d⟩
   intro q
   rw[q,hoc] at e
   have q':oc=p.2:=Bk e
   exact d w' (by rw[<- q']; exact hocd)
theorem fO{M:Model}{A:Co}{E:Value->Ag->Prop}{i:Nat}{x:Str}{v:V}{u:Value}{Q:Unit->Ag->Prop}(I:Inv X pins σ H s)(hN:X.N.Nodup)(hi:X.N[i]? = some x)(hx:Loc X.env.scope x)(r:RelV v u)(h:∀s',Inv X pins (σ.set i (some v)) H s'->Q () s')(hf:X.fn x=true\/X.env.scope.names.lookup x=some .local:=by first | exact .inl rfl | exact .inr rfl | assumption):wpAny M A (storeName X.env x u) Q E s :=
 nZ I hN hi hx r (λs' I' _=>h s' I') hf
theorem Inv.call'{s':Ag}{ch:List Addr}(I:Inv X pins σ H s)(ho:s'.os=s.os)(u:Un (oX X.stack) ch H H' s.heap s'.heap)(hok:Ss X.prog X.w H' s'.heap)(hg:Qo s'.gens)(hch:∀b∈ch,(b∈X.ex\/X.s₀.heap.objs.size<=b)/\b≠X.env.locals/\(∀x c,X.env.cells.lookup x=some c->c≠b)/\∀p∈X.pn++pins,p.1≠b):Inv X pins σ H' s':=by
 obtain ⟨h',g',d',t',o'⟩:=s'
 have e:o'=s.os:=ho
 subst e
 exact I.call (g':=g') (t':=t') (d':=d') u hok hg hch
end
abbrev XK:=Value->Option Addr->Hp->Prop
abbrev St:=List (Option V)
abbrev VK:=V->Hp->Prop
abbrev TE:=St->Hp->VK->Prop
abbrev TT:=St->Hp->(Bool->Hp->Prop)->Prop
abbrev TA:=St->Hp->(List V->Hp->Prop)->Prop
structure Ends where
 nx:St->Hp->Prop
 rt:VK
 bk:St->Hp->Prop:=λ_ _=>False
 ct:St->Hp->Prop:=λ_ _=>False
abbrev TS:=Ends->St->Hp->Prop
def EP(X:Cx)(pins:List (Addr×Obj))(σ:St)(Q:VK)(u:Value)(s':Ag):Prop:=∃v H',Inv X pins σ H' s'/\RelV v u/\Q v H'
def TP(X:Cx)(pins:List (Addr×Obj))(σ:St)(Q:Bool->Hp->Prop)(b:Bool)(s':Ag):Prop:=∃H',Inv X pins σ H' s'/\Q b H'
def AP(X:Cx)(pins:List (Addr×Obj))(σ:St)(Q:List V->Hp->Prop)(us:List Value)(s':Ag):Prop:=∃vs H',Inv X pins σ H' s'/\En vs us/\Q vs H'
def SP(X:Cx)(pins:List (Addr×Obj))(D:Ends)(f:Flow)(s':Ag):Prop :=
 match f with
 | .next=>∃σ' H',Inv X pins σ' H' s'/\D.nx σ' H'
 | .brk=>∃σ' H',Inv X pins σ' H' s'/\D.bk σ' H'
 | .cont=>∃σ' H',Inv X pins σ' H' s'/\D.ct σ' H'
 | .ret u=>∃v σ' H',Inv X pins σ' H' s'/\RelV v u/\D.rt v H'
def PE(X:Cx)(e:Expr)(t:TE):Prop :=
 ∀(pins:List (Addr×Obj)) (s:Ag) (σ:St) (H:Hp) (Q:VK),Inv X pins σ H s->t σ H Q->wpAny (model X.prog X.w) X.A (eval e X.env) (EP X pins σ Q) X.xe s
def PT(X:Cx)(e:Expr)(t:TT):Prop :=
 ∀(pins:List (Addr×Obj)) (s:Ag) (σ:St) (H:Hp) (Q:Bool->Hp->Prop),Inv X pins σ H s->t σ H Q->wpAny (model X.prog X.w) X.A (isTrue e X.env (eval e X.env)) (TP X pins σ Q) X.xe s
def PW(X:Cx)(e:Expr)(t:TT):Prop :=
 ∀(whole:Sem Value) (pins:List (Addr×Obj)) (s:Ag) (σ:St) (H:Hp) (Q:Bool->Hp->Prop),Inv X pins σ H s->t σ H Q->wpAny (model X.prog X.w) X.A (isTrue e X.env whole) (TP X pins σ Q) X.xe s
theorem PW.pt{X:Cx}{e:Expr}{t:TT}(h:PW X e t):PT X e t:=h _
def PA(X:Cx)(es:List Expr)(t:TA):Prop :=
 ∀(pos:Pos) (pins:List (Addr×Obj)) (s:Ag) (σ:St) (H:Hp) (Q:List V->Hp->Prop),Inv X pins σ H s->t σ H Q->wpAny (model X.prog X.w) X.A (spliced (Hi pos (Bp es X.env))) (AP X pins σ Q) X.xe s
def PS(X:Cx)(st:Stmt)(t:TS):Prop :=
 ∀(pins:List (Addr×Obj)) (s:Ag) (σ:St) (H:Hp) (D:Ends),Inv X pins σ H s->t D σ H->wpAny (model X.prog X.w) X.A (exec st X.env) (SP X pins D) X.xe s
def jB(X:Cx)(st:List Stmt)(t:TS):Prop :=
 ∀(pins:List (Addr×Obj)) (s:Ag) (σ:St) (H:Hp) (D:Ends),Inv X pins σ H s->t D σ H->wpAny (model X.prog X.w) X.A (execs st X.env) (SP X pins D) X.xe s
theorem Fu{α:Type}{t:Sem α}{Q Q':α->Ag->Prop}{M:Model}{A:Co}{E:Value->Ag->Prop}{s:Ag}(h:wpAny M A t Q E s)(hQ:∀a s,Q a s->Q' a s):wpAny M A t Q' E s:=Eh h hQ λ_ _ x=>x
section
variable{X:Cx}
theorem BD{a b:Expr}{ta tb:TE}(ha:PE X a ta)(hb:PE X b tb){pins:List (Addr×Obj)}{s:Ag}{σ:St}{H:Hp}{R:V->V->Hp->Prop}(I:Inv X pins σ H s)(h:ta σ H λx H1=>tb σ H1 λy H2=>R x y H2){α:Type}{Q:α->Ag->Prop}{f:Value->Value->Sem α}(hf:∀v u s2 x y H2,Inv X pins σ H2 s2->RelV x v->RelV y u->R x y H2->wpAny (model X.prog X.w) X.A (f v u) Q X.xe s2):wpAny (model X.prog X.w) X.A (eval a X.env) (λv s₁=>wpAny (model X.prog X.w) X.A (eval b X.env) (λu s₂=>wpAny (model X.prog X.w) X.A (f v u) Q X.xe s₂) X.xe s₁) X.xe s:=by
 refine Fu (ha pins s σ H _ I h) λv s1 q0_ => ?_
 obtain ⟨x,H1,I1,r1,q1⟩ := q0_
 refine Fu (hb pins s1 σ H1 _ I1 q1) λu s2 q0_ => ?_
 obtain ⟨y,H2,I2,r2,q2⟩ := q0_
 exact hf v u s2 x y H2 I2 r1 r2 q2
def Xy(i:Nat):TE:=λσ H Q=>∃v,σ[i]? = some (some v)/\Q v H
def tC(v:V):TE:=λ_ H Q=>Q v H
theorem G5{i:Nat}{x:Str}{pos:Pos}(hN:X.N[i]? = some x)(hv:U7 X.env.scope x)(hd:(x == ("__debug__" : Str))=false:=by decide)(hcd:(x == ("__classdict__" : Str))=false:=by decide):PE X (.Name x pos) (Xy i):=by
 intro pins s σ H Q I h
 obtain ⟨v,e,h⟩:=h
 obtain ⟨m,hn,hl⟩:=I.loc
 obtain ⟨u,r,l⟩:=hl i x v hN e hv
 have fin:EP X pins σ Q u s:=⟨v,H,I,r,h⟩
 rcases l with ⟨hk,hm⟩ | ⟨hk,c,hc,hcell⟩
 ·exact Zb (wpAny_loadName_local I.ok.kind hk hn hm fin) hd
 ·rcases hk with hk | hk
  ·exact Zb (wpAny_loadName_cell I.ok.kind hk hc hcell fin) hd
  ·exact Zb (wpAny_loadName_free I.ok.kind hk hc hcell fin hcd) hd
theorem Em{i j pos}:PE X (.Constant (.int i) j pos) (tC (.int i)):=λ_ _ _ H _ I h=>wpAny_Constant_int ⟨.int i,H,I.tok _,⟨_,rfl⟩,h⟩
theorem qM{b j pos}:PE X (.Constant (.bool b) j pos) (tC (.bl b)):=λ_ _ _ H _ I h=>Constant_bool ⟨.bl b,H,I,rfl,h⟩
theorem G4{j pos}:PE X (.Constant .none j pos) (tC .non):=λ_ _ _ H _ I h=>Constant_none ⟨.non,H,I,rfl,h⟩
def Gl(X:Cx)(x:Str):Prop:=X.env.kindOf x=some .globalImplicit
theorem lT{E:Value->Ag->Prop}{pins:List (Addr×Obj)}{s:Ag}{σ:St}{H:Hp}{x:Str}{u:Value}{pos:Pos}{Q:Value->Ag->Prop}(I:Inv X pins σ H s)(hg:Gl X x)(hm:X.mg x=some u)(h:Q u s)(hd:(x == ("__debug__" : Str))=false:=by decide):wpAny (model X.prog X.w) X.A (eval (.Name x pos) X.env) Q E s :=
 Ng I.ok.kind hg (Calls.loadGlobal_global (by rw[I.ok.glob]; exact I.mod.glob.keeps I.bk) hm h) hd
theorem Ll{E:Value->Ag->Prop}{pins:List (Addr×Obj)}{s:Ag}{σ:St}{H:Hp}{x:Str}{u:Value}{pos:Pos}{Q:Value->Ag->Prop}(I:Inv X pins σ H s)(hg:Gl X x)(hm:X.mg x=none)(hv:Il x=some u)(h:Q u s)(hn:x ≠ "__name__" := by decide)(hd:(x == ("__debug__" : Str))=false:=by decide):wpAny (model X.prog X.w) X.A (eval (.Name x pos) X.env) Q E s:=by
 obtain ⟨mb,h1,h2⟩:=I.mod.blt
 exact Ng I.ok.kind hg (dY (by rw[I.ok.glob]; exact I.mod.glob.keeps I.bk) hm (by rw[I.ok.blt]; exact h1.keeps I.bk) ((h2 x hn).trans hv) h) hd
theorem xT{x:Str}{v:V}{u:Value}{pos:Pos}(hg:Gl X x)(hm:X.mg x=none)(hv:Il x=some u)(r:RelV v u)(hn:x ≠ "__name__" := by decide)(hd:(x == ("__debug__" : Str))=false:=by decide):PE X (.Name x pos) (tC v) :=
 λ_ _ _ H _ I h=>Ll I hg hm hv ⟨v,H,I,r,h⟩ hn hd
variable{a b:Expr}{ta tb:TE}{pos:Pos}
def PC(X:Cx)(op:CmpOp)(a b:Expr)(t:TE):Prop :=
 ∀(pins:List (Addr×Obj)) (s:Ag) (σ:St) (H:Hp) (Q:VK),Inv X pins σ H s->t σ H Q ->
  wpAny (model X.prog X.w) X.A (eval a X.env) (λv s₁=>wpAny (model X.prog X.w) X.A (eval b X.env) (λu s₂=>wpAny (model X.prog X.w) X.A (Jx op v u) (EP X pins σ Q) X.xe s₂) X.xe s₁) X.xe s
theorem vD(b:Expr){op:CmpOp}(h:op≠.In)(h2:op≠.NotIn):Fo op b=false:=by
 have e1:(op == CmpOp.In)=false:=by cases op <;> first | rfl | exact absurd rfl h
 have e2:(op == CmpOp.NotIn)=false:=by cases op <;> first | rfl | exact absurd rfl h2
 cases b <;> simp [Fo,e1,e2]
def tB(t:TE):TT:=λσ H Q=>t σ H λx H1=>∃c,x=.bl c/\Q c H1
theorem Z0{op:CmpOp}{t:TE}(h:PC X op a b t)(h1:Fo op b=false:=by first | exact vD _ (by decide) (by decide) | rfl):PT X (.Compare a [op] [b] pos) (tB t):=by
 intro pins s σ H Q I hw
 refine wpAny_isTrue_Compare1 (Fu (h pins s σ H _ I hw) λv s1 h1=>Fu h1 λu s2 h2=>Fu h2 λc s3 ⟨x,H1,I1,r1,q1⟩=>?_) h1
 obtain ⟨d,rfl,q⟩:=q1
 cases r1
 exact Hb ⟨H1,I1,q⟩
theorem uK{e:Expr}{t:TE}(h:PE X e t)(he:∀whole,isTrue e X.env whole=(do let v <- whole; standAt e.pos; Ql [v] (truthy v)):=by intro _; rfl):PT X e (tB t):=by
 intro pins s σ H Q I hw
 refine isTrue_plain (Fu (h pins s σ H _ I hw) λv s1 ⟨x,H1,I1,r1,q1⟩=>?_) (he _)
 obtain ⟨d,rfl,q⟩:=q1
 cases r1
 exact Hb ⟨H1,I1,q⟩
variable{tA tB':TT}{Fv:List Expr}
def W4(t u:TT):TT:=λσ H Q=>t σ H λc H1=>if c=true then u σ H1 Q else Q false H1
def AZ(t u:TT):TT:=λσ H Q=>t σ H λc H1=>if c=true then Q true H1 else u σ H1 Q
def X6(t:TT):TT:=λσ H Q=>t σ H λc H1=>Q (!c) H1
theorem xN(ha:PT X a tA):PW X (.BoolOp .And [a] pos) tA:=by
 intro wh pins s σ H Q I h
 refine isTrue_and (Fu (ha pins s σ H Q I h) λc s1 e=>?_)
 cases c with
 | true=>exact isTrue_and_nil e
 | false=>exact e
theorem F6(ha:PT X a tA):PW X (.BoolOp .Or [a] pos) tA:=by
 intro wh pins s σ H Q I h
 refine isTrue_or (Fu (ha pins s σ H Q I h) λc s1 e=>?_)
 cases c with
 | false=>exact isTrue_or_nil e
 | true=>exact e
theorem G7(ha:PT X a tA)(hb:PW X (.BoolOp .And (b::Fv) pos) tB'):PW X (.BoolOp .And (a::b::Fv) pos) (W4 tA tB'):=by
 intro wh pins s σ H Q I h
 refine isTrue_and (Fu (ha pins s σ H _ I h) λc s1 q0_ => ?_)
 obtain ⟨H1,I1,q1⟩ := q0_
 cases c with
 | true=>exact hb wh pins s1 σ H1 Q I1 q1
 | false=>exact ⟨H1,I1,q1⟩
theorem N8(ha:PT X a tA)(hb:PW X (.BoolOp .Or (b::Fv) pos) tB'):PW X (.BoolOp .Or (a::b::Fv) pos) (AZ tA tB'):=by
 intro wh pins s σ H Q I h
 refine isTrue_or (Fu (ha pins s σ H _ I h) λc s1 q0_ => ?_)
 obtain ⟨H1,I1,q1⟩ := q0_
 cases c with
 | true=>exact ⟨H1,I1,q1⟩
 | false=>exact hb wh pins s1 σ H1 Q I1 q1
theorem A0(ha:PT X a tA):PT X (.UnaryOp .Not a pos) (X6 tA):=by
 intro pins s σ H Q I h
 exact isTrue_not (ha pins s σ H (λc H1=>Q (!c) H1) I h)
end
def Kq(K:PySem.W.Frag)(H:Hp)(a:Addr)(xs:List V):Prop :=
 Rd H a (.lst xs) \/
  ∃(o:Obj) (its:Array Value) (n:Nat),K.lookup a=some o/\o.cls=.type "list" /\ o.dict=none/\o.data=.seq its n/\its.size<=Ap/\En xs its.toList
def Sj(K:PySem.W.Frag)(H:Hp)(a:Addr)(xs:List V):Prop :=
 Rd H a (.tup xs) \/
  ∃(o:Obj) (its:Array Value) (n:Nat),K.lookup a=some o/\o.cls=.type "tuple" /\ o.data=.seq its n/\its.size<=Ap/\En xs its.toList
def Y2:Value->Option V
 | .none=>some .non
 | .bool b=>some (.bl b)
 | .int i _=>some (.int i)
 | .str x _=>some (.str x)
 | .bytes b _=>some (.byt b)
 | .float b _=>some (.flt b)
 | .ref a=>some (.ref a)
 | .type n=>some (.ty n)
 | _=>none
theorem RelV.abs{x:V}{u:Value}(r:RelV x u):Y2 u=some x:=by
 cases x with
 | non=>cases r; rfl
 | bl _=>cases r; rfl
 | int _=>obtain ⟨t,rfl⟩:=r; rfl
 | str _=>obtain ⟨t,rfl⟩:=r; rfl
 | byt _=>obtain ⟨t,rfl⟩:=r; rfl
 | flt _=>obtain ⟨t,rfl⟩:=r; rfl
 | ref _=>cases r; rfl
 | ty _=>cases r; rfl
theorem RelV.inj{x y:V}{u:Value}(r:RelV x u)(q:RelV y u):x=y:=Bk (r.abs.symm.trans q.abs)
theorem En.inj:∀{xs ys:List V} {us:List Value},En xs us->En ys us->xs=ys
 | _,_,_,.nil,.nil=>rfl
 | _,_,_,.cons r t,.cons r' t'=>by rw[r.inj r',En.inj t t']
section
variable{X:Cx}{pins:List (Addr×Obj)}{σ:St}{H:Hp}{s:Ag}{a:Addr}{xs ys:List V}
theorem Kq.of{K:PySem.W.Frag}(h:H a=some (.lst xs)):Kq K H a xs:=.inl (.inl h)
theorem Sj.of{K:PySem.W.Frag}(h:H a=some (.tup xs)):Sj K H a xs:=.inl (.inl h)
theorem Inv.list(I:Inv X pins σ H s)(h:Kq X.K H a xs):∃its:List Value,En xs its/\PlainL s.heap a its.toArray/\xs.length<=Ap:=by
 rcases h with h | ⟨o,its,n,hk,hc,hd,hs,hz,r⟩
 ·obtain ⟨z,its,n,r,e⟩:=h.ok I.hok
  exact ⟨its,r,⟨_,n,e,rfl,rfl,rfl⟩,z⟩
 ·refine ⟨its.toList,r,⟨o,n,I.kIn a o hk,hc,hd,by simpa using hs⟩,?_⟩
  have e:=r.length
  simp only[Ay] at e
  omega
theorem Inv.tuple(I:Inv X pins σ H s)(h:Sj X.K H a xs):∃its:List Value,En xs its/\IsTup s.heap a its.toArray/\xs.length<=Ap:=by
 rcases h with h | ⟨o,its,n,hk,hc,hs,hz,r⟩
 ·obtain ⟨z,its,r,p⟩:=h.ok I.hok
  exact ⟨its,r,p,z⟩
 ·refine ⟨its.toList,r,⟨o,I.kIn a o hk,hc,n,by simpa using hs⟩,?_⟩
  have e:=r.length
  simp only[Ay] at e
  omega
theorem Inv.list_inj(I:Inv X pins σ H s)(h:Kq X.K H a xs)(h':Kq X.K H a ys):xs=ys:=by
 obtain ⟨its,r,⟨o,n,e,_,_,d⟩,_⟩:=I.list h
 obtain ⟨its',r',⟨o',n',e',_,_,d'⟩,_⟩:=I.list h'
 rw[e] at e'; cases e'
 rw[d] at d'
 injection d' with d1 _
 have : its=its':=by simpa using congrArg Array.toList d1
 subst this
 exact r.inj r'
theorem Inv.tuple_inj(I:Inv X pins σ H s)(h:Sj X.K H a xs)(h':Sj X.K H a ys):xs=ys:=by
 obtain ⟨its,r,⟨o,e,_,n,d⟩,_⟩:=I.tuple h
 obtain ⟨its',r',⟨o',e',_,n',d'⟩,_⟩:=I.tuple h'
 rw[e] at e'; cases e'
 rw[d] at d'
 injection d' with d1 _
 have : its=its':=by simpa using congrArg Array.toList d1
 subst this
 exact r.inj r'
end
abbrev Cx.wish(X:Cx)(E:Value->Ag->Prop):Cx:={ X with xe:=E }
abbrev Cx.nox(X:Cx):Cx:=X.wish λ_ _=>False
theorem Cx.Ok.wish{X:Cx}(ok:X.Ok)(E:Value->Ag->Prop):(X.wish E).Ok :=
 ⟨ok.mod,ok.kind,ok.glob,ok.blt,ok.above,ok.inj,ok.has,ok.cab,ok.hd,ok.frames,ok.stk,ok.exf,ok.bs,ok.bsz,ok.noex,ok.exfs,ok.funs,ok.frf,ok.tab⟩
theorem Cx.Ok.unwish{X:Cx}{E:Value->Ag->Prop}(ok:(X.wish E).Ok):X.Ok :=
 ⟨ok.mod,ok.kind,ok.glob,ok.blt,ok.above,ok.inj,ok.has,ok.cab,ok.hd,ok.frames,ok.stk,ok.exf,ok.bs,ok.bsz,ok.noex,ok.exfs,ok.funs,ok.frf,ok.tab⟩
section
variable{X:Cx}{pins:List (Addr×Obj)}{σ:St}{H:Hp}{s:Ag}{E:Value->Ag->Prop}
theorem Inv.wish(I:Inv X pins σ H s)(E:Value->Ag->Prop):Inv (X.wish E) pins σ H s:=⟨I.ok.wish E,I.os,I.bare,I.base,I.loc,I.cell,I.free,I.freeC,I.pin,I.hok,I.len⟩
theorem Inv.unwish(I:Inv (X.wish E) pins σ H s):Inv X pins σ H s:=⟨I.ok.unwish,I.os,I.bare,I.base,I.loc,I.cell,I.free,I.freeC,I.pin,I.hok,I.len⟩
theorem SP.unwish{D:Ends}{f:Flow}{s':Ag}(h:SP (X.wish E) pins D f s'):SP X pins D f s':=by
 cases f with
 | next=>obtain ⟨σ',H',I,q⟩:=h; exact ⟨σ',H',I.unwish,q⟩
 | brk=>obtain ⟨σ',H',I,q⟩:=h; exact ⟨σ',H',I.unwish,q⟩
 | cont=>obtain ⟨σ',H',I,q⟩:=h; exact ⟨σ',H',I.unwish,q⟩
 | ret u=>obtain ⟨v,σ',H',I,r,q⟩:=h; exact ⟨v,σ',H',I.unwish,r,q⟩
theorem jB.nox{st:List Stmt}{t:TS}(h:jB X.nox st t):jB X st t:=λpins s σ H D I hw =>
 Eh (h pins s σ H D (I.wish _) hw) (λ_ _ q=>q.unwish) λ_ _ z=>Iy z
end
section
variable{X:Cx}{st:Stmt}{Fv:List Stmt}{t u:TS}{e:Expr}{te:TE}{pos:Pos}
def N3:TS:=λD σ H=>D.nx σ H
def Z4(t u:TS):TS:=λD σ H=>t { D with nx:=u D } σ H
theorem dH:jB X [] N3:=λ_ _ σ H _ I h=>wpAny_execs_nil ⟨σ,H,I,h⟩
theorem Gy(h1:PS X st t)(h2:jB X Fv u):jB X (st::Fv) (Z4 t u):=by
 intro pins s σ H D I h
 refine wpAny_execs_cons (Fu (h1 pins s σ H { D with nx:=u D } I h) λf s1 q=>?_)
 cases f with
 | next =>
  obtain ⟨σ',H',I',q⟩:=q
  exact h2 pins s1 σ' H' D I' q
 | ret v=>exact q
 | brk=>exact q
 | cont=>exact q
theorem Lw(h1:PS X st t):jB X [st] t:=by
 intro pins s σ H D I h
 refine wpAny_execs_cons (Fu (h1 pins s σ H D I h) λf s1 q=>?_)
 cases f with
 | next=>exact wpAny_execs_nil q
 | ret v=>exact q
 | brk=>exact q
 | cont=>exact q
theorem Inv.quiet{pins:List (Addr×Obj)}{σ:St}{H:Hp}{s:Ag}(I:Inv X pins σ H s):interactive X.env=false:=by simp [interactive,I.ok.kind]
def P0(te:TE):TS:=λD σ H=>te σ H λ_ H1=>D.nx σ H1
theorem wQ(he:PE X e te)(hs:Lc e none pos.line X.env=pure false:=by rfl):PS X (.Expr e pos) (P0 te):=by
 intro pins s σ H D I h
 exact wpAny_Expr_any (Fu (he pins s σ H _ I h) λv s1 ⟨x,H1,I1,r1,q1⟩=>⟨σ,H1,I1,q1⟩) I.quiet hs
def Z5(te:TE):TS:=λD σ H=>te σ H D.rt
theorem Rv(he:PE X e te):PS X (.Return (some e) pos) (Z5 te):=by
 intro pins s σ H D I h
 exact wpAny_Return_some (Fu (he pins s σ H _ I h) λv s1 ⟨x,H1,I1,r1,q1⟩=>⟨x,σ,H1,I1,r1,q1⟩)
def W7(c:TT)(t u:TS):TS:=λD σ H=>c σ H λb H1=>if b=true then t D σ H1 else u D σ H1
theorem qG{c:Expr}{a b:List Stmt}{tc:TT}(hc:PT X c tc)(ha:jB X a t)(hb:jB X b u):PS X (.If c a b pos) (W7 tc t u):=by
 intro pins s σ H D I h
 refine wpAny_If (Fu (hc pins s σ H _ I h) λd s1 q0_ => ?_)
 obtain ⟨H1,I1,q1⟩ := q0_
 cases d with
 | true=>exact ha pins s1 σ H1 D I1 q1
 | false=>exact hb pins s1 σ H1 D I1 q1
end
abbrev TG:=V->St->Hp->(St->Hp->Prop)->Prop
abbrev J6:=List V->St->Hp->(St->Hp->Prop)->Prop
def PG(X:Cx)(target:Expr)(t:TG):Prop :=
 ∀(pins:List (Addr×Obj)) (s:Ag) (σ:St) (H:Hp) (v:V) (u:Value) (Q:St->Hp->Prop),Inv X pins σ H s->RelV v u->t v σ H Q ->
  wpAny (model X.prog X.w) X.A (Vp target X.env u) (λ_ s'=>∃σ' H',Inv X pins σ' H' s'/\Q σ' H') X.xe s
def V0(X:Cx)(ts:List Expr)(t:J6):Prop :=
 ∀(pins:List (Addr×Obj)) (s:Ag) (σ:St) (H:Hp) (vs:List V) (us:List Value) (Q:St->Hp->Prop),Inv X pins σ H s->En vs us->t vs σ H Q ->
  wpAny (model X.prog X.w) X.A (assignInOrder ((Pf ts X.env).map (·.2)) us) (λ_ s'=>∃σ' H',Inv X pins σ' H' s'/\Q σ' H') X.xe s
abbrev q8:=V->V->V->Hp->(Hp->Prop)->Prop
def O5(X:Cx)(t:q8):Prop :=
 ∀(pins:List (Addr×Obj)) (s:Ag) (σ:St) (H:Hp) (o i v:V) (ov iv u:Value) (Q:Hp->Prop),Inv X pins σ H s->RelV o ov->RelV i iv->RelV v u->t o i v H Q ->
  wpAny (model X.prog X.w) X.A (setItem ov iv u) (λ_ s'=>∃H',Inv X pins σ H' s'/\Q H') X.xe s
section
variable{X:Cx}{pos:Pos}
def Vj(i:Nat):TG:=λv σ H Q=>Q (σ.set i (some v)) H
theorem Mu{i:Nat}{x:Str}(hN:X.N.Nodup)(hi:X.N[i]? = some x)(hx:Loc X.env.scope x)(hf:X.fn x=true\/X.env.scope.names.lookup x=some .local:=by first | exact .inl rfl | exact .inr rfl | assumption):PG X (.Name x pos) (Vj i):=by
 intro pins s σ H v u Q I r h
 exact wpAny_assign_Name (fO I hN hi hx r (λs' I'=>⟨_,H,I',h⟩) hf)
def T8:J6:=λvs σ H Q=>vs=[]/\Q σ H
def pS(t:TG)(u:J6):J6:=λvs σ H Q=>∃v r,vs=v::r/\t v σ H λσ' H'=>u r σ' H' Q
theorem wI:V0 X [] T8:=by
 intro pins s σ H vs us Q I r h
 obtain ⟨e,h⟩:=h
 subst e
 cases r
 exact assignInOrder_nil ⟨σ,H,I,h⟩
theorem fE{e:Expr}{es:List Expr}{t:TG}{u:J6}(h1:PG X e t)(h2:V0 X es u)(hs:(Pf (e::es) X.env).map (·.2)=Vp e X.env::(Pf es X.env).map (·.2):=by rfl):V0 X (e::es) (pS t u):=by
 intro pins s σ H vs us Q I r h
 obtain ⟨v,vr,e1,h⟩:=h
 subst e1
 cases r with
 | cons r rr =>
  rw[hs]
  refine assignInOrder_cons (Fu (h1 pins s σ H _ _ _ I r h) λ_ s1 q0_ => ?_)
  obtain ⟨σ1,H1,I1,q1⟩ := q0_
  exact h2 pins s1 σ1 H1 _ _ Q I1 rr q1
def M4(K:PySem.W.Frag)(n:Nat)(t:J6):TG:=λv σ H Q=>∃a xs,v=.ref a/\Sj K H a xs/\xs.length=n/\t xs σ H Q
theorem B4{es:List Expr}{k:Nat}{t:J6}{n:Nat}(hc:X.calm=true)(h:V0 X es t)(hn:(Pf es X.env).length=n:=by rfl)(hst:(Pf es X.env).findIdx? (·.1)=none:=by rfl):PG X (.Tuple es k pos) (M4 X.K n t):=by
 intro pins s σ H v u Q I r hw
 obtain ⟨a,xs,e1,hq,hl,hw⟩:=hw
 subst e1
 cases r
 obtain ⟨its,rv,ht,hz⟩:=I.tuple hq
 refine assign_Tuple_tuple (I.ok.hd hc) ht (by simp [hn,<- hl,rv.length]) hst λh' hx=>?_
 have I1:Inv X pins σ H { s with heap:=h' }:=I.kept (t':=s.toks) λb o e=>hx b o (Br (Ba e)) e
 exact h pins _ σ H xs _ Q I1 (by simpa using rv) hw
def Y6(to ti:TE)(t:q8):TG:=λv σ H Q=>to σ H λo H1=>ti σ H1 λi H2=>t o i v H2 λH3=>Q σ H3
theorem iU{o i:Expr}{to ti:TE}{t:q8}(ho:PE X o to)(hi:PE X i ti)(hs:O5 X t)
  (ha:∀v,Vp (.Subscript o i pos) X.env v=(do
   let ov <- Ql [v] (eval o X.env)
   let iv <- Ql [v,ov] (eval i X.env)
   standAt pos
   Ql [v,ov,iv] (setItem ov iv v)
   release [v,ov,iv] []):=by intro _; rfl):PG X (.Subscript o i pos) (Y6 to ti t):=by
 intro pins s σ H v u Q I r h
 rw[ha]
 refine Aa (Cz (Fu (ho pins s σ H _ I h) λov s1 q0_ => ?_))
 obtain ⟨x,H1,I1,r1,q1⟩ := q0_
 refine Aa (Cz (Fu (hi pins s1 σ H1 _ I1 q1) λiv s2 q0_ => ?_))
 obtain ⟨y,H2,I2,r2,q2⟩ := q0_
 refine Aa (wpAny_standAt (Aa (Cz (Fu (hs pins s2 σ H2 x y v ov iv u _ I2 r1 r2 r q2) λ_ s3 q0_ => ?_))))
 obtain ⟨H3,I3,q3⟩ := q0_
 exact wpAny_release ⟨σ,H3,I3,q3⟩
def xU(te:TE)(g:TG):TS:=λD σ H=>te σ H λx H1=>g x σ H1 D.nx
theorem jD{tg e:Expr}{te:TE}{g:TG}(he:PE X e te)(hg:PG X tg g)(hs:swapsWithSole [tg] e pos.line X.env=pure false:=by rfl)(hw:swappedStores [tg] e X.env=pure none:=by rfl)(h1:(Pf [tg] X.env).map (·.2)=[Vp tg X.env]:=by rfl):PS X (.Assign [tg] e pos) (xU te g):=by
 intro pins s σ H D I h
 refine wpAny_Assign_stores (Fu (he pins s σ H _ I h) λv s1 ⟨x,H1,I1,r1,q1⟩=>?_) hs hw
 rw[h1]
 exact Fu (hg pins s1 σ H1 x v _ I1 r1 q1) λ_ s2 q=>q
theorem Nk{i:Nat}{x:Str}{e:Expr}{te:TE}{pos':Pos}(hN:X.N.Nodup)(hi:X.N[i]? = some x)(hx:Loc X.env.scope x)(he:PE X e te)(hs:Lc e (some (.Name x pos')) pos.line X.env=pure false:=by rfl)(hf:X.fn x=true\/X.env.scope.names.lookup x=some .local:=by first | exact .inl rfl | exact .inr rfl | assumption):PS X (.Assign [.Name x pos'] e pos) (xU te (Vj i)):=by
 intro pins s σ H D I h
 refine wpAny_Assign_Name (Fu (he pins s σ H _ I h) λv s1 ⟨y,H1,I1,r1,q1⟩=>?_) hs
 exact fO I1 hN hi hx r1 (λs2 I2=>⟨_,H1,I2,q1⟩) hf
end
structure It where
 go:Nat->Hp->Prop
 yld:Nat->Hp->V->Hp->Prop
 stop:Nat->Hp->Prop
def Lk(X:Cx)(pins:List (Addr×Obj))(H:Hp)(b:Addr):Prop :=
 H b=none/\b≠X.env.locals/\b∉X.fs/\(b∈X.ex\/X.s₀.heap.objs.size<=b)/\(∀x c,X.env.cells.lookup x=some c->c≠b)/\∀p∈X.pn++pins,p.1≠b
theorem Inv.fpOk{X:Cx}{pins:List (Addr×Obj)}{σ:St}{H H':Hp}{s:Ag}{b:Addr}(I:Inv X pins σ H s)(hb:s.heap.objs.size<=b)(hn:H' b=none):Lk X pins H' b:=by
 refine ⟨hn,Nat.ne_of_gt (Cd I.lt hb),I.nofs hb,.inr (Ca I.sz hb),λx c e z=>?_,λp hp z=>?_⟩
 ·obtain ⟨v,q⟩:=I.cell x c e
  exact absurd (Cd q.lt (by rw[z]; exact hb)) (Ew _)
 ·exact absurd (Cd (Ba (I.pin p hp).1) (by rw[z]; exact hb)) (Ew _)
structure Turn(P:Bo)(w:World)(K:PySem.W.Frag)(tg:Expr)(J:It)(fp:List Addr)(it:Addr)(tn:Nat->Heap->Prop):Prop where
 mem:it∈fp
 obj:∀i h,tn i h->∀b∈fp,∃o,h.get? b=some o/\∀v,o.data≠.cell v
 keep:∀i h h',tn i h->(∀b∈fp,∀o,h.get? b=some o->h'.get? b=some o)->tn i h'
 item:∀(X:Cx),X.prog=P->X.w=w->X.K=K->X.calm=true->∀(i:Nat) (pins:List (Addr×Obj)) (s:Ag) (σ:St) (H:Hp) (E:Value->Ag->Prop),Inv X pins σ H s->(∀b∈fp,Lk X pins H b)->tn i s.heap->J.go i H ->
  wpAny (model P w) X.A (Ju (.ref it)) (λr s1=>∃u,r=some u /\
   wpAny (model P w) X.A (Tw tg (.ref it) u) (λ_ s2=>∃x H',Inv X pins σ H' s2/\RelV x u/\J.yld i H x H'/\tn (i+1) s2.heap/\∀b∈fp,H' b=none) E s1) E s
 done:∀(X:Cx),X.prog=P->X.w=w->X.K=K->X.calm=true->∀(i:Nat) (pins:List (Addr×Obj)) (s:Ag) (σ:St) (H:Hp) (E:Value->Ag->Prop),Inv X pins σ H s->(∀b∈fp,Lk X pins H b)->tn i s.heap->J.stop i H ->
  wpAny (model P w) X.A (Ju (.ref it)) (λr s1=>r=none/\Inv X pins σ H s1) E s
 self:∀(A:Co) (i:Nat) (s:Ag) (Q:Value->Ag->Prop) (E:Value->Ag->Prop),tn i s.heap->Q (.ref it) s->wpAny (model P w) A (pyIter (.ref it)) Q E s
abbrev TI:=St->Hp->(It->Hp->Prop)->Prop
def AC(X:Cx)(pins:List (Addr×Obj))(σ:St)(tg:Expr)(R:It->Hp->Prop)(itv:Value)(s2:Ag):Prop :=
 ∃(it:Addr) (fp:List Addr) (tn:Nat->Heap->Prop) (J:It) (H':Hp),itv=.ref it/\Inv X pins σ H' s2/\Turn X.prog X.w X.K tg J fp it tn/\tn 0 s2.heap/\(∀b∈fp,Lk X pins H' b)/\R J H'
def PI(X:Cx)(tg iter:Expr)(wi:TI):Prop :=
 ∀(pins:List (Addr×Obj)) (s:Ag) (σ:St) (H:Hp) (R:It->Hp->Prop),Inv X pins σ H s->wi σ H R ->
  wpAny (model X.prog X.w) X.A (eval iter X.env) (λv s1=>wpAny (model X.prog X.w) X.A (pyIter v) (AC X pins σ tg R) X.xe s1) X.xe s
theorem mI{M:Model}{A:Co}{E:Value->Ag->Prop}{s:Ag}{tg:Expr}{it:Addr}{u:Value}{o:Obj}{n:String}{vs:Array Value}{Q:Unit->Ag->Prop}(ho:s.heap.get? it=some o)(hc:o.cls=.type n)(hd:o.data=.fields vs)(hn:["enumerate", "zip", "dict_itemiterator", "dict_reverseitemiterator", "odict_iterator", "itertools.zip_longest", "itertools.pairwise"].contains n=false)(hQ:Q () s):wpAny M A (Tw tg (.ref it) u) Q E s:=by
  unfold Tw
  cases tg <;> first
    | exact Aj hQ
    | (cases u <;> first
        | exact Aj hQ
        | (refine Aa (Za ho ?_)
           rw[hc,hd]
           show wpAny M A (if (["enumerate", "zip", "dict_itemiterator", "dict_reverseitemiterator", "odict_iterator", "itertools.zip_longest", "itertools.pairwise"].contains n && vs[0]? == some (Gj _))=true then _ else _) Q E s
           rw[if_neg (by intro h; rw[hn,Bool.false_and] at h; cases h)]
           exact Aj hQ))
def V7(K:PySem.W.Frag)(a:Addr):It :=
 ⟨λi H=>∃xs x,Kq K H a xs/\xs[i]? = some x,λi H x H'=>H'=H/\∀xs,Kq K H a xs->xs[i]? = some x,λi H=>∃xs,Kq K H a xs/\xs.length<=i⟩
def W9(K:PySem.W.Frag)(a:Addr):It :=
 ⟨λi H=>∃xs x,Sj K H a xs/\xs[i]? = some x,λi H x H'=>H'=H/\∀xs,Sj K H a xs->xs[i]? = some x,λi H=>∃xs,Sj K H a xs/\xs.length<=i⟩
def o4(lo:Int)(n:Nat):It:=⟨λi _=>i<n,λi H x H'=>H'=H/\x=.int (lo+i),λi _=>n<=i⟩
theorem oV{P:Bo}{w:World}{K:PySem.W.Frag}{tg:Expr}(a it:Addr):Turn P w K tg (V7 K a) [it] it (λi h=>h.IsListIter it a i) where
 mem:=by simp
 obj:=λi h st b hb=>by
  have e:b=it:=by simpa using hb
  subst e
  obtain ⟨o,e,c,d⟩:=st
  exact ⟨o,e,λv z=>by rw[d] at z; cases z⟩
 keep:=λi h h' st k=>st.at λo e=>k it (by simp) o e
 item:=by
  intro X hP hw hK hc i pins s σ H E I hf st hg
  subst hP hw hK
  obtain ⟨xs,x,hq,hx⟩:=hg
  obtain ⟨its,rv,p,hz⟩:=I.list hq
  obtain ⟨u,hu,ru⟩:=rv.get hx
  obtain ⟨f0,f1,f2,f3,f4,f5⟩:=hf it (by simp)
  refine wpAny_pyNext_list_item st p.isList (x:=u) (by simpa using hu) λh' st' sb=>?_
  have I1:Inv X pins σ H { s with heap:=h' }:=I.turned (t':=s.toks) (λb o hb e=>(sb.2 b hb).trans e) f0 f1 f3 f4 f5
  obtain ⟨o,e,c,d⟩:=id st'
  exact ⟨u,rfl,mI (s:={ s with heap:=h' }) e c d (by decide) ⟨x,H,I1,ru,⟨rfl,λys hy=>by rw[I.list_inj hy hq]; exact hx⟩,st',λb hb=>(hf b hb).1⟩⟩
 done:=by
  intro X hP hw hK hc i pins s σ H E I hf st hg
  subst hP hw hK
  obtain ⟨xs,hq,hx⟩:=hg
  obtain ⟨its,rv,p,hz⟩:=I.list hq
  obtain ⟨f0,f1,f2,f3,f4,f5⟩:=hf it (by simp)
  have hl:=rv.length
  exact wpAny_pyNext_list_end (I.ok.hd hc) st p.isList (by simp; omega) λh' eb=>⟨rfl,I.turned (t':=s.toks) (λb o hb e=>eb b o hb e) f0 f1 f3 f4 f5⟩
 self:=λ_ _ _ _ _ st h=>wpAny_pyIter_listiter st h
theorem jP{P:Bo}{w:World}{K:PySem.W.Frag}{tg:Expr}(a it:Addr):Turn P w K tg (W9 K a) [it] it (λi h=>h.IsTupleIter it a i) where
 mem:=by simp
 obj:=λi h st b hb=>by
  have e:b=it:=by simpa using hb
  subst e
  obtain ⟨o,e,c,d⟩:=st
  exact ⟨o,e,λv z=>by rw[d] at z; cases z⟩
 keep:=λi h h' st k=>st.at λo e=>k it (by simp) o e
 item:=by
  intro X hP hw hK hc i pins s σ H E I hf st hg
  subst hP hw hK
  obtain ⟨xs,x,hq,hx⟩:=hg
  obtain ⟨its,rv,p,hz⟩:=I.tuple hq
  obtain ⟨u,hu,ru⟩:=rv.get hx
  obtain ⟨f0,f1,f2,f3,f4,f5⟩:=hf it (by simp)
  refine wpAny_pyNext_tuple_item st (show s.heap.IsTuple a its.toArray from p) (x:=u) (by simpa using hu) λh' st' sb=>?_
  have I1:Inv X pins σ H { s with heap:=h' }:=I.turned (t':=s.toks) (λb o hb e=>(sb.2 b hb).trans e) f0 f1 f3 f4 f5
  obtain ⟨o,e,c,d⟩:=id st'
  exact ⟨u,rfl,mI (s:={ s with heap:=h' }) e c d (by decide) ⟨x,H,I1,ru,⟨rfl,λys hy=>by rw[I.tuple_inj hy hq]; exact hx⟩,st',λb hb=>(hf b hb).1⟩⟩
 done:=by
  intro X hP hw hK hc i pins s σ H E I hf st hg
  subst hP hw hK
  obtain ⟨xs,hq,hx⟩:=hg
  obtain ⟨its,rv,p,hz⟩:=I.tuple hq
  obtain ⟨f0,f1,f2,f3,f4,f5⟩:=hf it (by simp)
  have hl:=rv.length
  exact wpAny_pyNext_tuple_end (I.ok.hd hc) st (show s.heap.IsTuple a its.toArray from p) (by simp; omega) λh' eb=>⟨rfl,I.turned (t':=s.toks) (λb o hb e=>eb b o hb e) f0 f1 f3 f4 f5⟩
 self:=λ_ _ _ _ _ st h=>wpAny_pyIter_tupleiter st h
theorem iO{P:Bo}{w:World}{K:PySem.W.Frag}{tg:Expr}(it:Addr)(lo:Int)(n:Nat):Turn P w K tg (o4 lo n) [it] it (λi h=>IsRangeIter h it (lo+(i:Nat) * 1) ((n:Int) - (i:Nat)) 1) where
 mem:=by simp
 obj:=λi h st b hb=>by
  have e:b=it:=by simpa using hb
  subst e
  exact ⟨_,st,λv z=>by
   have z':Data.fields _=Data.cell v:=z
   cases z'⟩
 keep:=λi h h' st k=>k it (by simp) _ st
 item:=by
  intro X hP hw hK hc i pins s σ H E I hf st hg
  subst hP hw hK
  obtain ⟨f0,f1,f2,f3,f4,f5⟩:=hf it (by simp)
  have W:=Walks.range (prog:=X.prog) (w:=X.w) (I.ok.hd hc) it lo 1 n
  refine W.item i s _ _ hg st λv h' tk hv st' kk=>?_
  obtain ⟨t,rfl⟩:=hv
  have I1:Inv X pins σ H { s with heap:=h',toks:=tk }:=I.turned (λb o hb e=>kk b o (by simpa using hb) e) f0 f1 f3 f4 f5
  refine ⟨_,rfl,mI (s:={ s with heap:=h',toks:=tk }) (n := "range_iterator") st' rfl rfl (by decide) ⟨.int (lo+i),H,I1,⟨t,?_⟩,⟨rfl,rfl⟩,st',λb hb=>(hf b hb).1⟩⟩
  rw[Int.mul_one]
 done:=by
  intro X hP hw hK hc i pins s σ H E I hf st hg
  subst hP hw hK
  obtain ⟨f0,f1,f2,f3,f4,f5⟩:=hf it (by simp)
  exact wpAny_pyNext_range_end (I.ok.hd hc) st (by have : n<=i:=hg; omega) λh' eb=>⟨rfl,I.turned (t':=s.toks) (λb o hb e=>eb b o hb e) f0 f1 f3 f4 f5⟩
 self:=λ_ _ _ _ _ st h=>wpAny_pyIter_rangeiter st h
section
variable{X:Cx}{tg:Expr}
def R5(K:PySem.W.Frag)(tl:TE):TI:=λσ H R=>tl σ H λx H1=>∃a,x=.ref a/\(∃xs,Kq K H1 a xs)/\R (V7 K a) H1
def V9(K:PySem.W.Frag)(tl:TE):TI:=λσ H R=>tl σ H λx H1=>∃a,x=.ref a/\(∃xs,Sj K H1 a xs)/\R (W9 K a) H1
theorem cE{l:Expr}{tl:TE}(hl:PE X l tl):PI X tg l (R5 X.K tl):=by
 intro pins s σ H R I h
 refine Fu (hl pins s σ H _ I h) λv s1 q0_ => ?_
 obtain ⟨x,H1,I1,r1,q1⟩ := q0_
 obtain ⟨a,e,⟨xs,hq⟩,q⟩:=q1
 subst e
 cases r1
 obtain ⟨its,rv,p,hz⟩:=I1.list hq
 refine bI p.isList ?_
 refine ⟨s1.heap.objs.size,[s1.heap.objs.size],_,_,H1,rfl,I1.kept (t':=s1.toks) λb o e=>Ae _ e,oV a _,⟨_,Ar _ rfl,rfl,rfl⟩,λb hb=>?_,q⟩
 have e:b=s1.heap.objs.size:=by simpa using hb
 subst e
 exact I1.fpOk (Ai _) (I1.hok.fresh (Ai _))
theorem B3{l:Expr}{tl:TE}(hl:PE X l tl):PI X tg l (V9 X.K tl):=by
 intro pins s σ H R I h
 refine Fu (hl pins s σ H _ I h) λv s1 q0_ => ?_
 obtain ⟨x,H1,I1,r1,q1⟩ := q0_
 obtain ⟨a,e,⟨xs,hq⟩,q⟩:=q1
 subst e
 cases r1
 obtain ⟨its,rv,p,hz⟩:=I1.tuple hq
 refine wpAny_pyIter_tuple (show s1.heap.IsTuple a its.toArray from p) ?_
 refine ⟨s1.heap.objs.size,[s1.heap.objs.size],_,_,H1,rfl,I1.kept (t':=s1.toks) λb o e=>Ae _ e,jP a _,⟨_,Ar _ rfl,rfl,rfl⟩,λb hb=>?_,q⟩
 have e:b=s1.heap.objs.size:=by simpa using hb
 subst e
 exact I1.fpOk (Ai _) (I1.hok.fresh (Ai _))
theorem vA{pins:List (Addr×Obj)}{σ:St}{H:Hp}{s:Ag}{R:It->Hp->Prop}{E:Value->Ag->Prop}{lo hi:Int}{t u v:Tok}{tk:Nat}(I:Inv X pins σ H s)(h1:-(2 ^ 62)<=lo)(h2:lo<2 ^ 62)(h3:-(2 ^ 62)<=hi)(h4:hi<2 ^ 62)(q:R (o4 lo (hi - lo).toNat) H):wpAny (model X.prog X.w) X.A (pyIter (.ref s.heap.objs.size)) (AC X pins σ tg R) E { s with heap:=s.heap.push { cls:=.type "range",data:=.fields #[.int lo t,.int hi u,.int 1 v] },toks:=tk }:=by
 refine wpAny_pyIter_range (IsRange.new ..) (small_one h1 h2 h3 h4) ?_
 have I1:Inv X pins σ H { s with heap:=s.heap.push { cls:=.type "range",data:=.fields #[.int lo t,.int hi u,.int 1 v] },toks:=tk }:=I.kept λb o e=>Ae _ e
 refine ⟨(s.heap.push { cls:=.type "range",data:=.fields #[.int lo t,.int hi u,.int 1 v] }).objs.size,[(s.heap.push { cls:=.type "range",data:=.fields #[.int lo t,.int hi u,.int 1 v] }).objs.size],_,_,H,rfl,
  I1.kept (t':=tk) λb o e=>Ae _ e,iO _ lo (hi - lo).toNat,?_,λb hb=>?_,q⟩
 ·have e1:lo+((0:Nat):Int) * 1=lo:=by simp
  have e2:(((hi - lo).toNat:Nat):Int) - ((0:Nat):Int)=Wd lo hi 1:=by rw[rangeSize_one]; split <;> omega
  show IsRangeIter _ _ (lo+((0:Nat):Int) * 1) ((((hi - lo).toNat:Nat):Int) - ((0:Nat):Int)) 1
  rw[e1,e2]
  exact Ar _ rfl
 ·have e:b=(s.heap.push { cls:=.type "range",data:=.fields #[.int lo t,.int hi u,.int 1 v] }).objs.size:=by simpa using hb
  subst e
  exact I1.fpOk (Ai _) (I1.hok.fresh (Ai _))
def U5(ta:TA):TI:=λσ H R=>ta σ H λvs H1=>∃j:Int,vs=[.int j] /\ -(2 ^ 62)<=j/\j<2 ^ 62/\R (o4 0 j.toNat) H1
theorem Ut{a:Expr}{ta:TA}{p pos:Pos}(hg:Gl X "range")(hm:X.mg "range" = none)(ha:PA X [a] ta)(hs:Bp [a] X.env=[(false,eval a X.env)]:=by rfl):PI X tg (.Call (.Name "range" p) [a] [] pos) (U5 ta):=by
 intro pins s σ H R I h
 refine Call_ (Ll I hg hm boot_range (Ef (Fu (ha pos pins s σ H _ I h) λus s1 ⟨vs,H1,I1,r1,q1⟩=>?_) hs rfl))
 obtain ⟨j,e,q1,q2,q⟩:=q1
 subst e
 cases r1 with
 | cons r rr =>
  cases rr
  obtain ⟨t,rfl⟩:=r
  exact call_range_1 (vA I1 (by omega) (by omega) q1 q2 (by simpa using q))
def Y9(wi:TI)(g:TG)(tb:TS):TS:=λD σ H=>wi σ H λJ H1=>∃W:Nat->Nat->St->Hp->Prop,(∃m,W 0 m σ H1)/\∀i m σ H,W i m σ H ->
 (J.stop i H/\D.nx σ H)\/(J.go i H/\∃N:St->Hp->Prop,(∀σ' H',N σ' H'->∃m',m'<m/\W (i+1) m' σ' H')/\∀x H',J.yld i H x H'->g x σ H' λσ2 H2=>tb { D with nx:=N,ct:=N,bk:=D.nx } σ2 H2)
def Rx(fp:List Addr)(h:Heap):List (Addr×Obj):=fp.filterMap λb=>(h.get? b).map λo=>(b,o)
theorem Hz{fp:List Addr}{h:Heap}{b:Addr}{o:Obj}(hb:b∈fp)(e:h.get? b=some o):(b,o)∈Rx fp h:=List.mem_filterMap.mpr ⟨b,hb,by rw[e]; rfl⟩
theorem mP{fp:List Addr}{h:Heap}{p:Addr×Obj}(hp:p∈Rx fp h):p.1∈fp/\h.get? p.1=some p.2:=by
 obtain ⟨b,hb,e⟩:=List.mem_filterMap.mp hp
 cases q:h.get? b with
 | none=>rw[q] at e; cases e
 | some o =>
  rw[q] at e
  have e':(b,o)=p:=Bk e
  subst e'
  exact ⟨hb,q⟩
theorem Inv.pinned{pins:List (Addr×Obj)}{σ:St}{H:Hp}{s:Ag}{fp:List Addr}(I:Inv X pins σ H s)(hf:∀b∈fp,Lk X pins H b)(ho:∀b∈fp,∃o,s.heap.get? b=some o/\∀v,o.data≠.cell v):Inv X (pins++Rx fp s.heap) σ H s :=
 I.pins_of λp hp=>(Bi.mp hp).elim (λz=>I.pin p (Ao _ z)) λz=>by
  obtain ⟨hb,e⟩:=mP z
  obtain ⟨f0,f1,f2,_⟩:=hf p.1 hb
  obtain ⟨o,e',d⟩:=ho p.1 hb
  rw[e] at e'; cases e'
  exact ⟨e,f0,f1,f2,d⟩
theorem Inv.unpinned{pins pl:List (Addr×Obj)}{σ:St}{H:Hp}{s:Ag}(I:Inv X (pins++pl) σ H s):Inv X pins σ H s:=I.pins_of λp hp=>I.pin p (Ao _ (Av _ hp))
theorem cN{iter:Expr}{body:List Stmt}{wi:TI}{g:TG}{tb:TS}{pos:Pos}(hp:PassesOwn (model X.prog X.w) X.A X.env X.xe)(hc:X.calm=true)(hi:PI X tg iter wi)(hg:PG X tg g)(hb:jB X body tb)(hs:∀x,Fe iter X.env x=pure x:=by intro _; rfl):PS X (.For tg iter body [] pos) (Y9 wi g tb):=by
 intro pins s σ H D I h
 refine wpAny_For (Fu (hi pins s σ H _ I h) λv s1 h1=>Fu h1 λitv s2 h2=>?_) hs
 obtain ⟨it,fp,tn,J,H2,e,I2,T,st2,f2,W,⟨m0,w0⟩,turn⟩:=h2
 subst e
 -- what stays true of the iterator's objects through the loop
 have stat:∀{H':Hp},(∀b∈fp,H' b=none)->∀b∈fp,Lk X pins H' b:=λhn b hb=>⟨hn b hb,(f2 b hb).2⟩
 refine codeAny_forLoop_any (λn s'=>∃i σ' H',Inv X pins σ' H' s'/\tn i s'.heap/\(∀b∈fp,H' b=none)/\W i n σ' H') ?_ m0 ⟨0,σ,H2,I2,st2,λb hb=>(f2 b hb).1,w0⟩
 (intro n s3 q_; obtain ⟨i,σ3,H3,I3,st3,fr3,w3⟩ := q_)
 rcases turn i n σ3 H3 w3 with ⟨stop,qn⟩ | ⟨go,N,hN,step⟩
 ·refine Nq hp (Fu (T.done X rfl rfl rfl hc i pins s3 σ3 H3 X.xe I3 (stat fr3) st3 stop) λr s4 q0_ => ?_)
  obtain ⟨hr,I4⟩ := q0_
  subst hr
  exact wpAny_execs_nil ⟨σ3,H3,I4,qn⟩
 ·refine Nq hp (Fu (T.item X rfl rfl rfl hc i pins s3 σ3 H3 X.xe I3 (stat fr3) st3 go) λr s4 q0_ => ?_)
  obtain ⟨u,hr,h4⟩ := q0_
  subst hr
  refine Nq hp (Fu h4 λ_ s5 q0_ => ?_)
  obtain ⟨x,H5,I5,r5,y5,st5,fr5⟩ := q0_
  have I5':=I5.pinned (stat fr5) (T.obj _ _ st5)
  refine Nq hp (Fu (hg _ s5 σ3 H5 x u _ I5' r5 (step x H5 y5)) λ_ s6 q0_ => ?_)
  obtain ⟨σ6,H6,I6,q6⟩ := q0_
  refine Nq hp (Fu (hb _ s6 σ6 H6 _ I6 q6) λf s7 q7=>?_)
  have again:∀{σ7:St} {H7:Hp},Inv X (pins++Rx fp s5.heap) σ7 H7 s7->N σ7 H7->∃m,m<n/\∃i σ' H',Inv X pins σ' H' s7/\tn i s7.heap/\(∀b∈fp,H' b=none)/\W i m σ' H':=λ{σ7 H7} I7 n7=>by
   obtain ⟨m',hm,w7⟩:=hN σ7 H7 n7
   refine ⟨m',hm,i+1,σ7,H7,I7.unpinned,T.keep _ _ _ st5 λb hb o e=>(I7.pin (b,o) (Ao _ (Ao _ (Hz hb e)))).1,λb hb=>?_,w7⟩
   obtain ⟨o,e,d⟩:=T.obj _ _ st5 b hb
   exact (I7.pin (b,o) (Ao _ (Ao _ (Hz hb e)))).2.1
  cases f with
  | next=>obtain ⟨σ7,H7,I7,n7⟩:=q7; exact again I7 n7
  | cont=>obtain ⟨σ7,H7,I7,n7⟩:=q7; exact again I7 n7
  | brk=>obtain ⟨σ7,H7,I7,q7⟩:=q7; exact ⟨σ7,H7,I7.unpinned,q7⟩
  | ret v=>obtain ⟨x7,σ7,H7,I7,r7,q7⟩:=q7; exact ⟨x7,σ7,H7,I7.unpinned,r7,q7⟩
end
theorem aZ{lo:Int}{n:Nat}{g:TG}{tb:TS}{D:Ends}{σ:St}{H:Hp}(Pv:Nat->St->Hp->Prop)(h0:Pv 0 σ H)(hs:∀i σ H,i<n->Pv i σ H->g (.int (lo+i)) σ H λσ2 H2=>tb { D with nx:=Pv (i+1),ct:=Pv (i+1),bk:=D.nx } σ2 H2)(hd:∀σ H,Pv n σ H->D.nx σ H):∃W:Nat->Nat->St->Hp->Prop,(∃m,W 0 m σ H)/\∀i m σ H,W i m σ H->((o4 lo n).stop i H/\D.nx σ H)\/((o4 lo n).go i H/\∃N:St->Hp->Prop,(∀σ' H',N σ' H'->∃m',m'<m/\W (i+1) m' σ' H')/\∀x H',(o4 lo n).yld i H x H'->g x σ H' λσ2 H2=>tb { D with nx:=N,ct:=N,bk:=D.nx } σ2 H2):=by
 refine ⟨λi m σ H=>m=n - i/\i<=n/\Pv i σ H,⟨n,by simp,Ct _,h0⟩,?_⟩
 (intro i m σ H q_; obtain ⟨rfl,hi,p⟩ := q_)
 by_cases hlt:i<n
 ·refine .inr ⟨hlt,Pv (i+1),λσ' H' p'=>⟨n - (i+1),by omega,rfl,hlt,p'⟩,λx H' y=>?_⟩
  obtain ⟨e,y⟩:=y
  subst e y
  exact hs i σ _ hlt p
 ·have e:i=n:=by omega
  subst e
  exact .inl ⟨Ai _,hd σ H p⟩
abbrev R2:=V->V->Hp->VK->Prop
def Vk(X:Cx)(f:Value->Value->Sem Value)(r:R2):Prop :=
 ∀(pins:List (Addr×Obj)) (s:Ag) (σ:St) (H:Hp) (x y:V) (v u:Value) (Q:VK),Inv X pins σ H s->RelV x v->RelV y u->r x y H Q ->
  wpAny (model X.prog X.w) X.A (f v u) (EP X pins σ Q) X.xe s
def X7(X:Cx)(f:Value->Sem Value)(r:V->Hp->VK->Prop):Prop :=
 ∀(pins:List (Addr×Obj)) (s:Ag) (σ:St) (H:Hp) (x:V) (v:Value) (Q:VK),Inv X pins σ H s->RelV x v->r x H Q ->
  wpAny (model X.prog X.w) X.A (f v) (EP X pins σ Q) X.xe s
def Lr(X:Cx)(f:Value)(r:List V->Hp->VK->Prop):Prop :=
 ∀(pins:List (Addr×Obj)) (s:Ag) (σ:St) (H:Hp) (xs:List V) (us:List Value) (Q:VK),Inv X pins σ H s->En xs us->r xs H Q ->
  wpAny (model X.prog X.w) X.A (call f us) (EP X pins σ Q) X.xe s
def X3(X:Cx)(r:V->Hp->(Bool->Hp->Prop)->Prop):Prop :=
 ∀(pins:List (Addr×Obj)) (s:Ag) (σ:St) (H:Hp) (x:V) (v:Value) (Q:Bool->Hp->Prop),Inv X pins σ H s->RelV x v->r x H Q ->
  wpAny (model X.prog X.w) X.A (truthy v) (TP X pins σ Q) X.xe s
def L8(r:R2)(ta tb:TE):TE:=λσ H Q=>ta σ H λx H1=>tb σ H1 λy H2=>r x y H2 Q
def BA(r:V->Hp->VK->Prop)(ta:TE):TE:=λσ H Q=>ta σ H λx H1=>r x H1 Q
def rI(C:Int->Int->Prop)(g:Int->Int->V):R2:=λx y H Q=>∃i j,x=.int i/\y=.int j/\C i j/\Q (g i j) H
def F9(g:Int->Int->V):R2:=λx y H Q=>∃i j,x=.int i/\y=.int j/\Q (g i j) H
def rU(g:Int->V):V->Hp->VK->Prop:=λx H Q=>∃i,x=.int i/\Q (g i) H
section
variable{X:Cx}{a b c:Expr}{ta tb tc:TE}{pos:Pos}
theorem J2(ha:PE X a ta)(hb:PE X b tb){pins:List (Addr×Obj)}{s:Ag}{σ:St}{H:Hp}{R:V->V->Hp->Prop}(I:Inv X pins σ H s)(h:ta σ H λx H1=>tb σ H1 λy H2=>R x y H2){Q:Value->Ag->Prop}{f:Value->Value->Sem Value}(hf:∀v u s2 x y H2,Inv X pins σ H2 s2->RelV x v->RelV y u->R x y H2->wpAny (model X.prog X.w) X.A (f v u) Q X.xe s2):wpAny (model X.prog X.w) X.A (eval a X.env) (λv s₁=>wpAny (model X.prog X.w) X.A (eval b X.env) (λu s₂=>wpAny (model X.prog X.w) X.A (f v u) Q X.xe s₂) X.xe s₁) X.xe s:=by
 refine Fu (ha pins s σ H _ I h) λv s1 q0_ => ?_
 obtain ⟨x,H1,I1,r1,q1⟩ := q0_
 refine Fu (hb pins s1 σ H1 _ I1 q1) λu s2 q0_ => ?_
 obtain ⟨y,H2,I2,r2,q2⟩ := q0_
 exact hf v u s2 x y H2 I2 r1 r2 q2
theorem Gz{op:Operator}{r:R2}(ho:Vk X (Hs op) r)(ha:PE X a ta)(hb:PE X b tb):PE X (.BinOp a op b pos) (L8 r ta tb):=by
 intro pins s σ H Q I h
 exact wpAny_BinOp (J2 ha hb I h λv u s2 x y H2 I2 rx ry q=>ho pins s2 σ H2 x y v u Q I2 rx ry q)
theorem U0{op:UnaryOp}{r:V->Hp->VK->Prop}(ho:X7 X (unaryOp op) r)(ha:PE X a ta):PE X (.UnaryOp op a pos) (BA r ta):=by
 intro pins s σ H Q I h
 exact UnaryOp_ (Fu (ha pins s σ H _ I h) λv s1 ⟨x,H1,I1,r1,q1⟩=>ho pins s1 σ H1 x v Q I1 r1 q1)
theorem T4{f:Value->Value->Sem Value}{C:Int->Int->Prop}{g:Int->Int->Int}(rule:∀(i j:Int) (t u:Tok) (s:Ag) (Q:Value->Ag->Prop) (E:Value->Ag->Prop),C i j->Q (.int (g i j) s.toks) { s with toks:=s.toks+1 }->wpAny (model X.prog X.w) X.A (f (.int i t) (.int j u)) Q E s):Vk X f (rI C λi j=>.int (g i j)):=by
 intro pins s σ H x y v u Q I rx ry h
 obtain ⟨i,j,rfl,rfl,hc,q⟩:=h
 obtain ⟨t,rfl⟩:=rx
 obtain ⟨t',rfl⟩:=ry
 exact rule i j t t' s _ _ hc ⟨.int (g i j),H,I.tok _,⟨_,rfl⟩,q⟩
theorem E4{f:Value->Value->Sem Value}{g:Int->Int->Int}(rule:∀(i j:Int) (t u:Tok) (s:Ag) (Q:Value->Ag->Prop) (E:Value->Ag->Prop),Q (.int (g i j) s.toks) { s with toks:=s.toks+1 }->wpAny (model X.prog X.w) X.A (f (.int i t) (.int j u)) Q E s):Vk X f (F9 λi j=>.int (g i j)):=by
 intro pins s σ H x y v u Q I rx ry h
 obtain ⟨i,j,rfl,rfl,q⟩:=h
 obtain ⟨t,rfl⟩:=rx
 obtain ⟨t',rfl⟩:=ry
 exact rule i j t t' s _ _ ⟨.int (g i j),H,I.tok _,⟨_,rfl⟩,q⟩
theorem W6{f:Value->Value->Sem Value}{g:Int->Int->Bool}(rule:∀(i j:Int) (t u:Tok) (s:Ag) (Q:Value->Ag->Prop) (E:Value->Ag->Prop),Q (.bool (g i j)) s->wpAny (model X.prog X.w) X.A (f (.int i t) (.int j u)) Q E s):Vk X f (F9 λi j=>.bl (g i j)):=by
 intro pins s σ H x y v u Q I rx ry h
 obtain ⟨i,j,rfl,rfl,q⟩:=h
 obtain ⟨t,rfl⟩:=rx
 obtain ⟨t',rfl⟩:=ry
 exact rule i j t t' s _ _ ⟨.bl (g i j),H,I,rfl,q⟩
def x6(i j:Int):Prop:=0<j/\j<1073741824
def B6(i j:Int):Prop:=0<=j/\j<=1000000/\i.natAbs<2 ^ 64
def r9(i j:Int):Prop:=(-(2 ^ 64)<i/\i<2 ^ 64)\/(-(2 ^ 64)<j/\j<2 ^ 64)
theorem r9.ok{i j:Int}(h:r9 i j):IntMulOk i j:=by
 rcases h with ⟨h1,h2⟩ | ⟨h1,h2⟩
 ·exact .of_left (intBits_le_64 h1 h2)
 ·exact .of_right (intBits_le_64 h1 h2)
theorem Wx:Vk X (Hs .Add) (F9 λi j=>.int (i+j)):=E4 λ_ _ _ _ _ _ _ q=>add_int q
theorem J0:Vk X (Hs .Sub) (F9 λi j=>.int (i - j)):=E4 λ_ _ _ _ _ _ _ q=>sub_int q
theorem Uq:Vk X (Hs .Mult) (rI r9 λi j=>.int (i * j)):=T4 λ_ _ _ _ _ _ _ hc q=>mul_int q hc.ok
theorem dR:Vk X (Hs .FloorDiv) (rI x6 λi j=>.int (i / j)):=T4 λi j _ _ _ _ _ hc q=>by
 have h1:(0:Int)<j:=hc.1
 have h2:j<1073741824:=hc.2
 exact floordiv_int (by omega) (by rw[Int.fdiv_eq_ediv_of_nonneg i (by omega)]; exact q) (.inl (PyProof.noPylong_small (by omega)))
theorem Sd:Vk X (Hs .Mod) (rI (λ_ j=>0<j) λi j=>.int (i % j)):=T4 λi j _ _ _ _ _ hc q=>by
 have h1:(0:Int)<j:=hc
 exact mod_int' (by omega) (by rw[Int.fmod_eq_emod_of_nonneg i (by omega)]; exact q)
theorem Yh:Vk X (Hs .Pow) (rI B6 λi j=>.int (i ^ j.toNat)):=T4 λ_ _ _ _ _ _ _ hc q=>pow_int_small hc.1 hc.2.1 hc.2.2 q
theorem o9:Vk X (Hs .BitXor) (F9 λi j=>.int (Builtin.bitXor i j)):=E4 λ_ _ _ _ _ _ _ q=>xor_int q
theorem AO{f:Value->Sem Value}{g:Int->Int}(rule:∀(i:Int) (t:Tok) (s:Ag) (Q:Value->Ag->Prop) (E:Value->Ag->Prop),Q (.int (g i) s.toks) { s with toks:=s.toks+1 }->wpAny (model X.prog X.w) X.A (f (.int i t)) Q E s):X7 X f (rU λi=>.int (g i)):=by
 intro pins s σ H x v Q I rx h
 obtain ⟨i,rfl,q⟩:=h
 obtain ⟨t,rfl⟩:=rx
 exact rule i t s _ _ ⟨.int (g i),H,I.tok _,⟨_,rfl⟩,q⟩
theorem u4:X7 X (unaryOp .USub) (rU λi=>.int (-i)):=AO λ_ _ _ _ _ q=>neg_int q
end
section
variable{X:Cx}{a b c:Expr}{ta tb tc:TE}{pos:Pos}
theorem P3:Vk X (Jx .GtE) (F9 λi j=>.bl (decide (j<=i))):=W6 λ_ _ _ _ _ _ _ q=>ge_int q
theorem cH(b:Expr){op:CmpOp}(h:op≠.In:=by decide)(h2:op≠.NotIn:=by decide):Fo op b=false:=by
 have e1:(op == CmpOp.In)=false:=by cases op <;> first | rfl | exact absurd rfl h
 have e2:(op == CmpOp.NotIn)=false:=by cases op <;> first | rfl | exact absurd rfl h2
 cases b <;> simp [Fo,e1,e2]
theorem vW{op:CmpOp}{r:R2}(ho:Vk X (Jx op) r)(ha:PE X a ta)(hb:PE X b tb)(hm:Fo op b=false):PE X (.Compare a [op] [b] pos) (L8 r ta tb):=by
 intro pins s σ H Q I h
 exact wpAny_Compare1 (J2 ha hb I h λv u s2 x y H2 I2 rx ry q=>ho pins s2 σ H2 x y v u Q I2 rx ry q) hm
def L7(t:TE):TT:=λσ H Q=>t σ H λx H'=>∃k,x=.bl k/\Q k H'
theorem lG{op:CmpOp}{r:R2}(ho:Vk X (Jx op) r)(ha:PE X a ta)(hb:PE X b tb)(hm:Fo op b=false):PT X (.Compare a [op] [b] pos) (L7 (L8 r ta tb)):=by
 intro pins s σ H Q I h
 refine wpAny_isTrue_Compare1 (Fu (ha pins s σ H _ I h) λv s1 ⟨x,H1,I1,r1,q1⟩=>Fu (hb pins s1 σ H1 _ I1 q1) λu s2 ⟨y,H2,I2,r2,q2⟩ =>
  Fu (ho pins s2 σ H2 x y v u _ I2 r1 r2 q2) λc s3 ⟨z,H3,I3,r3,k,e,q3⟩=>?_) hm
 subst e
 cases r3
 exact Hb ⟨H3,I3,q3⟩
def Y0(K:PySem.W.Frag)(x:V)(H:Hp)(k:Bool):Prop :=
 match x with
 | .non=>k=false
 | .bl b=>k=b
 | .int i=>k=(i != 0)
 | .str y=>y.length<=Ap/\k=((y.length:Int) != 0)
 | .byt y=>y.size<=Ap/\k=((y.size:Int) != 0)
 | .ref p=>(∃xs,Kq K H p xs/\k = !xs.isEmpty)\/(∃xs,Sj K H p xs/\k = !xs.isEmpty)\/∃kvs,H p=some (.dK kvs)/\k = !kvs.isEmpty
 | _=>False
theorem jS{κ:Type}{kvs:List (κ×V)}{vs:List (κ×Value)}(r:KV kvs vs):(!vs.isEmpty) = !kvs.isEmpty:=by
 cases r <;> rfl
theorem Xz{xs:List V}{its:List Value}(r:En xs its):(!its.toArray.isEmpty) = !xs.isEmpty:=by
 cases r <;> simp
theorem Uw:(Ap:Nat)<2 ^ 63:=by rw[Ih]; decide
theorem X5:X3 X (λx H Q=>∃k,Y0 X.K x H k/\Q k H):=by
 intro pins s σ H x v Q I rx h
 obtain ⟨k,e,q⟩:=h
 have hl:=Uw
 have hs:Ap=16777216:=Ih
 cases x with
 | non =>
  cases rx
  have e':k=false:=e
  subst e'
  exact truthy_none ⟨H,I,q⟩
 | bl b =>
  cases rx
  have e':k=b:=e
  subst e'
  exact Hb ⟨H,I,q⟩
 | int i =>
  obtain ⟨t,rfl⟩:=rx
  have e':k=(i != 0):=e
  subst e'
  exact PySem.P.truthy_int ⟨H,I,q⟩
 | str y =>
  obtain ⟨t,rfl⟩:=rx
  obtain ⟨hy,e'⟩ : y.length<=Ap/\k=((y.length:Int) != 0):=e
  subst e'
  exact PySem.P.truthy_str (by omega) ⟨H,I.tok _,q⟩
 | byt y =>
  obtain ⟨t,rfl⟩:=rx
  obtain ⟨hy,e'⟩ : y.size<=Ap/\k=((y.size:Int) != 0):=e
  subst e'
  exact PySem.W.truthy_bytes (by omega) ⟨H,I.tok _,q⟩
 | ref p =>
  cases rx
  have e':(∃xs,Kq X.K H p xs/\k = !xs.isEmpty)\/(∃xs,Sj X.K H p xs/\k = !xs.isEmpty)\/∃kvs,H p=some (.dK kvs)/\k = !kvs.isEmpty:=e
  rcases e' with ⟨xs,hx,e'⟩ | ⟨xs,hx,e'⟩ | ⟨kvs,hx,e'⟩
  ·subst e'
   obtain ⟨its,r,pl,hz⟩:=I.list hx
   have hlen:=r.length
   exact wpAny_truthy_list pl.isList (by simp only[Am]; omega) ⟨H,I.tok _,by rw[Xz r]; exact q⟩
  ·subst e'
   obtain ⟨its,r,pl,hz⟩:=I.tuple hx
   have hlen:=r.length
   exact truthy_tuple pl (by simp only[Am]; omega) ⟨H,I.tok _,by rw[Xz r]; exact q⟩
  ·subst e'
   obtain ⟨hz,hS,vs,r,m⟩ : kvs.length<=Ap/\(p == Fd)=false/\∃vs,KV kvs vs/\s.heap.DictOf (Gm X.prog X.w) p vs:=I.hok p _ hx
   have hlen:kvs.length=vs.length:=Paired.length r
   exact wpAny_truthy_dict hS m (by omega) ⟨H,I.tok _,by rw[jS r]; exact q⟩
 | _=>exact (show False from e).elim
theorem vals1{x:V}{us:List Value}(r:En [x] us):∃u,us=[u]/\RelV x u:=by
 cases r with
 | cons r1 r2=>cases r2; exact ⟨_,rfl,r1⟩
theorem vals2{x y:V}{us:List Value}(r:En [x,y] us):∃u w',us=[u,w']/\RelV x u/\RelV y w':=by
 cases r with
 | cons r1 r2 =>
  cases r2 with
  | cons r3 r4=>cases r4; exact ⟨_,_,rfl,r1,r3⟩
theorem aN(hc:X.calm=true):Lr X (.builtin "max") (λxs H Q=>∃i j,xs=[.int i,.int j]/\Q (.int (if j > i then j else i)) H):=by
 intro pins s σ H xs us Q I r h
 obtain ⟨i,j,rfl,q⟩:=h
 obtain ⟨u,w',rfl,⟨t,rfl⟩,⟨t',rfl⟩⟩:=vals2 r
 refine max_two_ints (I.ok.hd hc) λh' tk k=>⟨_,H,I.kept k,?_,q⟩
 by_cases hj:j > i
 ·rw[if_pos hj,if_pos hj]; exact ⟨_,rfl⟩
 ·rw[if_neg hj,if_neg hj]; exact ⟨_,rfl⟩
theorem bC:Lr X (.type "int") (λxs H Q=>(∃i,xs=[.int i]/\Q (.int i) H)\/∃k,xs=[.bl k]/\Q (.int (if k then 1 else 0)) H):=by
 intro pins s σ H xs us Q I r h
 rcases h with ⟨i,rfl,q⟩ | ⟨k,rfl,q⟩
 ·obtain ⟨u,rfl,t,rfl⟩:=vals1 r
  exact call_int_int ⟨.int i,H,I,⟨_,rfl⟩,q⟩
 ·obtain ⟨u,rfl,r1⟩:=vals1 r
  cases r1
  exact call_int_bool ⟨.int (if k then 1 else 0),H,I.tok _,⟨_,rfl⟩,q⟩
def R1(K:PySem.W.Frag)(x:V)(H:Hp)(n:Nat):Prop :=
 match x with
 | .str y=>y.length<=Ap/\n=y.length
 | .byt y=>y.size<=Ap/\n=y.size
 | .ref p=>(∃xs,Kq K H p xs/\n=xs.length)\/∃xs,Sj K H p xs/\n=xs.length
 | _=>False
theorem Tc:Lr X (.builtin "len") (λxs H Q=>∃x n,xs=[x]/\R1 X.K x H n/\Q (.int n) H):=by
 intro pins s σ H xs us Q I r h
 obtain ⟨x,n,rfl,e,q⟩:=h
 obtain ⟨u,rfl,rx⟩:=vals1 r
 have hl:=Uw
 have hs:Ap=16777216:=Ih
 cases x with
 | str y =>
  obtain ⟨t,rfl⟩:=rx
  obtain ⟨hy,e'⟩ : y.length<=Ap/\n=y.length:=e
  subst e'
  exact len_str (by omega) ⟨.int _,H,I.tok _,⟨_,rfl⟩,q⟩
 | byt y =>
  obtain ⟨t,rfl⟩:=rx
  obtain ⟨hy,e'⟩ : y.size<=Ap/\n=y.size:=e
  subst e'
  exact PySem.W.len_bytes (by omega) ⟨.int _,H,I.tok _,⟨_,rfl⟩,q⟩
 | ref p =>
  cases rx
  have e':(∃xs,Kq X.K H p xs/\n=xs.length)\/∃xs,Sj X.K H p xs/\n=xs.length:=e
  rcases e' with ⟨xs,hx,e'⟩ | ⟨xs,hx,e'⟩
  ·subst e'
   obtain ⟨its,r',pl,hz⟩:=I.list hx
   have hlen:=r'.length
   exact Calls.call_len_list pl.isList (by simp only[Am]; omega) ⟨.int xs.length,H,I.tok _,⟨_,by simp only[Am]; rw[hlen]⟩,q⟩
  ·subst e'
   obtain ⟨its,r',pl,hz⟩:=I.tuple hx
   have hlen:=r'.length
   exact len_tuple pl (by simp only[Am]; omega) ⟨.int xs.length,H,I.tok _,⟨_,by simp only[Am]; rw[hlen]⟩,q⟩
 | _=>exact (show False from e).elim
end
structure ObjM(h:Heap)(x dx C:Addr)(mA:Str->Option Value):Prop where
 obj:h.get? x=some (PySem.W.instObj C dx)
 ns:h.Ns1 dx mA
 ne:dx≠x
theorem oM{h:Heap}{dx:Addr}{mA:Str->Option Value}(n:h.Ns1 dx mA):∃od,h.get? dx=some od/\∀name,PySem.W.lookIn name od=some (mA name):=by
 obtain ⟨o,es,ep,ho,hd,hk,_,hm⟩:=n
 refine ⟨o,ho,λname=>?_⟩
 have e:=hm name
 unfold nsFind findBy at e
 rw[<- Array.find?_toList] at e
 unfold PySem.W.lookIn
 rw[hd]
 dsimp only
 split
 ·rename_i y q
  rw[q] at e
  exact congrArg some e
 ·rename_i q
  rw[q] at e
  have a:es.toList.any (·.refKey)=false:=by
   rw[List.any_eq_false]
   intro y hy
   obtain ⟨z,t,hkey⟩:=hk y (Array.mem_toList_iff.mp hy)
   simp [DictEntry.refKey,hkey]
  have a':¬ es.toList.any (·.refKey)=true:=by rw[a]; exact Bm
  rw[if_neg a']
  exact congrArg some e
theorem ObjM.look{h:Heap}{x dx C:Addr}{mA:Str->Option Value}(I:ObjM h x dx C mA):∃od,PySem.W.InstAt h x (PySem.W.instObj C dx) C (some od)/\∀name,PySem.W.lookIn name od=some (mA name) :=
 let ⟨od,ho,hl⟩:=oM I.ns
 ⟨od,⟨I.obj,rfl,rfl,ho⟩,hl⟩
theorem eG.some_of{v:V}{o:Option Value}(r:eG (some v) o):∃u,o=some u/\RelV v u:=by
 cases o with
 | none=>exact (show False from r).elim
 | some u=>exact ⟨u,rfl,r⟩
section
variable{P:Bo}{w:World}{H H':Hp}{h h':Heap}{a C dx:Addr}{fs fs':List (Str×V)}
theorem yJ(hok:Ss P w H h)(e:H a=some (.ins C dx fs)):∃mA,ObjM h a dx C mA/\(∀f,eG (fs.lookup f) (mA f))/\PySem.Within mA (fs.map (·.1))/\fs.length<=1000/\H dx=some (.own a):=by
 obtain ⟨d,z,ne,ob,mA,n,r,q⟩:=(show Gd P w H h a (.ins C dx fs) from hok a _ e)
 exact ⟨mA,⟨ob,n,ne⟩,r,q,z,d⟩
end
structure Cls(K:PySem.W.Frag)(C:Addr):Prop where
 pg:PySem.W.plainGet K C Str.empty=true
 hd:PySem.W.hasDictIn K C=true
 po:PySem.W.plainOver K C=true
 sa:PySem.W.findIn K (.ref C) "__setattr__" = some (some (.builtin "object.__setattr__"))
theorem Cls.get{K:PySem.W.Frag}{C:Addr}(c:Cls K C)(f:Str):PySem.W.plainGet K C f=true:=c.pg
section
variable{X:Cx}{pins:List (Addr×Obj)}{σ:St}{H:Hp}{s:Ag}{A:Co}{E:Value->Ag->Prop}{Q:Value->Ag->Prop}{c:Value}{b:Bool}
inductive TyOf (K:PySem.W.Frag) (H:Hp):V->Value->Prop where
 | non:TyOf K H .non (.type "NoneType")
 | bl (x:Bool):TyOf K H (.bl x) (.type "bool")
 | int (i:Int):TyOf K H (.int i) (.type "int")
 | str (x:Str):TyOf K H (.str x) (.type "str")
 | flt (x:UInt64):TyOf K H (.flt x) (.type "float")
 | lst {a:Addr} {xs:List V} (e:H a=some (.lst xs)):TyOf K H (.ref a) (.type "list")
 | frz {a:Addr} {o:Obj} {xs:List V} (e:H a=some (.frz o (.lst xs))):TyOf K H (.ref a) (.type "list")
 | tup {a:Addr} {xs:List V} (e:H a=some (.tup xs)):TyOf K H (.ref a) (.type "tuple")
 | dK {a:Addr} {kvs:List (Gn×V)} (e:H a=some (.dK kvs)):TyOf K H (.ref a) (.type "dict")
 | dT {a:Addr} {kvs:List (List Gn×V)} (e:H a=some (.dT kvs)):TyOf K H (.ref a) (.type "dict")
 | ins {a C dx:Addr} {fs:List (Str×V)} (e:H a=some (.ins C dx fs)) (cl:Cls K C) (ha:PySem.W.findIn K (.ref C) "__class__" = some (some (.builtin "object.__class__")))
   (hn:PySem.W.specialIn K (.builtin "object.__class__") "__get__" = some (some (.builtin "getset_descriptor.__get__"))) (htk:PySem.W.takesIn K (.builtin "object.__class__")=some true)
   (hm:PySem.W.mroIn K C (.type "object")=some true):TyOf K H (.ref a) (.ref C)
theorem oZ{x:V}{u t:Value}(I:Inv X pins σ H s)(rx:RelV x u)(ty:TyOf X.K H x t)(e:PySem.W.kitOne X.K t c=some b)(h:∀tk,Q (.bool b) { s with toks:=tk }):wpAny (model X.prog X.w) A (call (.builtin "isinstance") [u,c]) Q E s:=by
 cases ty with
 | non=>cases (show u=Hl from rx); exact PySem.W.kia_one PySem.W.kitx_none I.kIn Je e (λz=>nomatch z) h
 | bl y=>cases (show u=Value.bool y from rx); exact PySem.W.kia_one PySem.W.kitx_bool I.kIn Je e (λz=>nomatch z) h
 | int i=>obtain ⟨t,q⟩:=(show ∃t,u=Ph i t from rx); cases q; exact PySem.W.kia_one PySem.W.kitx_int I.kIn Je e (λz=>nomatch z) h
 | str y=>obtain ⟨t,q⟩:=(show ∃t,u=Value.str y t from rx); cases q; exact PySem.W.kia_one PySem.W.kitx_str I.kIn Je e (λz=>nomatch z) h
 | flt y=>obtain ⟨t,q⟩:=(show ∃t,u=Value.float y t from rx); cases q; exact PySem.W.kia_one PySem.W.kitx_float I.kIn Je e (λz=>nomatch z) h
 | @lst a xs ea =>
  cases (show u=Ax a from rx)
  obtain ⟨_,_,n,_,h1⟩:=(show Gd X.prog X.w H s.heap a (.lst xs) from I.hok a _ ea)
  exact PySem.W.kia_one PySem.W.kitx_list I.kIn ⟨_,h1,rfl⟩ e (λz=>nomatch z) h
 | @frz a ob xs ea =>
  cases (show u=Ax a from rx)
  obtain ⟨_,_,_,n,_,h1⟩:=(show Gd X.prog X.w H s.heap a (.frz ob (.lst xs)) from I.hok a _ ea)
  exact PySem.W.kia_one PySem.W.kitx_list I.kIn ⟨_,h1,rfl⟩ e (λz=>nomatch z) h
 | @tup a xs ea =>
  cases (show u=Ax a from rx)
  obtain ⟨_,_,_,p⟩:=(show Gd X.prog X.w H s.heap a (.tup xs) from I.hok a _ ea)
  obtain ⟨o,h1,h2,_⟩:=p
  exact PySem.W.kia_one PySem.W.kitx_tuple I.kIn ⟨o,h1,h2⟩ e (λz=>nomatch z) h
 | @dK a kvs ea =>
  cases (show u=Ax a from rx)
  obtain ⟨_,_,vs,_,p⟩:=(show Gd X.prog X.w H s.heap a (.dK kvs) from I.hok a _ ea)
  obtain ⟨o,es,ep,h1,h2,_⟩:=p
  exact PySem.W.kia_one PySem.W.kitx_dict I.kIn ⟨o,h1,h2.1⟩ e (λz=>nomatch z) h
 | @dT a kvs ea =>
  cases (show u=Ax a from rx)
  obtain ⟨_,_,xs,_,o,es,ep,h1,h2,_⟩:=(show Gd X.prog X.w H s.heap a (.dT kvs) from I.hok a _ ea)
  exact PySem.W.kia_one PySem.W.kitx_dict I.kIn ⟨o,h1,h2.1⟩ e (λz=>nomatch z) h
 | @ins a C dx fs ea cl ha hn htk hm =>
  cases (show u=Ax a from rx)
  obtain ⟨mA,O,_⟩:=yJ I.hok ea
  obtain ⟨od,J,_⟩:=O.look
  exact PySem.W.kia_one (PySem.W.kitx_own (cl.get _) cl.hd ha hn htk hm) I.kIn J e (λz=>nomatch z) h
end
structure Room(k:Nat)(A:Co):Prop where
 hd:A.handled=none
 dp:A.depth+3 * k+5<Vn
 un:A.units+16 * k+200<cLine
 gd:A.guards=some []
theorem Room.mono{j k:Nat}{A:Co}(r:Room k A)(h:j<=k):Room j A:=⟨r.hd,by have:=r.dp; omega,by have:=r.un; omega,r.gd⟩
theorem Room.deeper{k:Nat}{A:Co}(r:Room (k+1) A)(env:Env):Room k (A.deeper env) :=
 ⟨r.hd,by have:=r.dp; show A.depth+1+3 * k+5<_; omega,by have:=r.un; show A.units+3+16 * k+200<_; omega,r.gd⟩
theorem Room.depth{k:Nat}{A:Co}(r:Room k A):A.depth<Vn:=by have:=r.dp; omega
theorem Room.units{k:Nat}{A:Co}(r:Room k A):A.units+64<cLine:=by have:=r.un; omega
def U4:TA:=λ_ H Q=>Q [] H
def R7(ta:TE)(tr:TA):TA:=λσ H Q=>ta σ H λx H1=>tr σ H1 λxs H2=>Q (x::xs) H2
section
variable{X:Cx}{e:Expr}{es:List Expr}{te:TE}{t:TA}{pos:Pos}
theorem Jc:PA X [] U4:=λ_ _ _ _ H Q I h=>Og ⟨[],H,I,.nil,h⟩
theorem Fs(ha:PE X e te)(hr:PA X es t)(hs:Bp (e::es) X.env=(false,eval e X.env)::Bp es X.env:=by rfl):PA X (e::es) (R7 te t):=by
 intro pos pins s σ H Q I h
 rw[hs]
 show wpAny _ _ (spliced ((false,eval e X.env)::Hi pos (Bp es X.env))) _ _ s
 refine Ka (Fu (ha pins s σ H _ I h) λu s1 q0_ => ?_)
 obtain ⟨x,H1,I1,r1,q1⟩ := q0_
 exact Fu (hr pos pins s1 σ H1 _ I1 q1) λus s2 ⟨xs,H2,I2,r2,q2⟩=>⟨x::xs,H2,I2,.cons r1 r2,q2⟩
def W8(t:TA):TE:=λσ H Q=>t σ H λxs H1=>xs.length<=Ap/\∀p,H1 p=none->Q (.ref p) (upd H1 p (.tup xs))
def Y7(t:TA):TE:=λσ H Q=>t σ H λxs H1=>xs.length<=Ap/\∀p,H1 p=none->Q (.ref p) (upd H1 p (.lst xs))
theorem Xr{x1}(h:PA X es t):PE X (.Tuple es x1 pos) (W8 t):=by
 intro pins s σ H Q I hq
 refine wpAny_Tuple_spliced (Fu (h pos pins s σ H _ I hq) λus s1 ⟨xs,H1,I1,r,z,q⟩=>⟨by rw[<- r.length]; exact z,?_⟩)
 have hf:H1 s1.heap.objs.size=none:=I1.hok.fresh (Ai _)
 refine ⟨.ref s1.heap.objs.size,upd H1 s1.heap.objs.size (.tup xs),I1.laid (t':=s1.toks) (λb u e=>Ae _ e) (Ai _) ?_,rfl,q _ hf⟩
 exact ⟨z,us,r,⟨_,Ar _ rfl,rfl,_,rfl⟩⟩
theorem Wy(h:PA X es t):PE X (.List es pos) (Y7 t):=by
 intro pins s σ H Q I hq
 refine wpAny_List_spliced (Fu (h pos pins s σ H _ I hq) λus s1 ⟨xs,H1,I1,r,z,q⟩=>⟨by rw[<- r.length]; exact z,?_⟩)
 have hf:H1 s1.heap.objs.size=none:=I1.hok.fresh (Ai _)
 refine ⟨.ref s1.heap.objs.size,upd H1 s1.heap.objs.size (.lst xs),I1.laid (t':=s1.toks) (λb u e=>Ae _ e) (Ai _) ?_,rfl,q _ hf⟩
 exact ⟨z,us,0,r,Ar _ rfl⟩
end
abbrev Sp:=List V->Hp->VK->XK->Prop
abbrev pF:=List Env->Hp->Ag->XK->Value->Ag->Prop
structure Env0(P:Bo)(w:World)(K:PySem.W.Frag)(mg:Str->Option Value)(base:Heap)(A:Co)(outer:List Env)(s:Ag)(H:Hp):Prop where
 frames:A.frames=some outer
 mod:Mod K mg base
 bs:∀b o,base.get? b=some o->s.heap.get? b=some o/\H b=none
 bsz:base.objs.size<=s.heap.objs.size
 funs:s.heap.FunFrames base outer
 frf:∀b∈oX outer,H b=none
 hok:Ss P w H s.heap
 bare:Qo s.gens
 tab:tT K mg base H
def CE(outer:List Env)(P:Bo)(w:World)(H:Hp)(s:Ag)(Q:VK)(u:Value)(s':Ag):Prop :=
 ∃v H',s'.os=s.os/\Qo s'.gens/\Un (oX outer) [] H H' s.heap s'.heap/\Ss P w H' s'.heap/\RelV v u/\Q v H'
def CR(CX:pF)(outer:List Env)(P:Bo)(w:World)(H:Hp)(s:Ag)(Q:VK)(E:XK)(r:Result)(s':Ag):Prop :=
 match r with
 | .ok (.ret u)=>CE outer P w H s Q u s'
 | .ok _=>False
 | .error e=>CX outer H s E e s'
structure FnOk(P:Bo)(w:World)(K:PySem.W.Frag)(mg:Str->Option Value)(base:Heap)(CX:pF)(k:Nat)(f:Addr)(fd:Cm)(ps:List Str)(sp:Sp):Prop where
 len:∀vs H Q E,sp vs H Q E->vs.length=ps.length
 run:∀(A:Co) (outer:List Env) (s:Ag) (H:Hp) (args:Args) (us:List Value) (vs:List V) (Q:VK) (E:XK),Room k A->Env0 P w K mg base A outer s H->BindsTo s fd args (ps.zip us)->En vs us->sp vs H Q E ->
  Mr (model P w) A (.call (.ref f) args) (CR CX outer P w H s Q E) s
theorem FnOk.imp{P:Bo}{w:World}{K:PySem.W.Frag}{mg:Str->Option Value}{base:Heap}{CX:pF}{k:Nat}{f:Addr}{fd:Cm}{ps:List Str}{sp sp':Sp}(F:FnOk P w K mg base CX k f fd ps sp)(h:∀vs H Q E,sp' vs H Q E->sp vs H Q E):FnOk P w K mg base CX k f fd ps sp' :=
 ⟨λvs H Q E q=>F.len vs H Q E (h _ _ _ _ q),λA outer s H args us vs Q E hr he hb hv hs=>F.run A outer s H args us vs Q E hr he hb hv (h _ _ _ _ hs)⟩
section
variable{X:Cx}{pins:List (Addr×Obj)}{σ:St}{H:Hp}{s s':Ag}
theorem Inv.env0(I:Inv X pins σ H s):Env0 X.prog X.w X.K X.mg X.base X.A X.stack s H :=
 ⟨I.ok.frames,I.ok.mod,I.bs,Ca I.ok.bsz I.sz,I.stack,I.stkFree,I.hok,I.bare,I.ok.tab.un I.base⟩
theorem Inv.after{Q:VK}{u:Value}(I:Inv X pins σ H s)(h:CE X.stack X.prog X.w H s Q u s'):EP X pins σ Q u s':=by
 obtain ⟨v,H',os,bare,un,hok,r,q⟩:=h
 obtain ⟨hh,g,d,t,os'⟩:=s'
 obtain rfl:os'=s.os:=os
 exact ⟨v,H',I.call (h':=hh) (g':=g) (d':=d) (t':=t) (ch:=[]) un hok bare (λb z=>absurd z (by simp)),r,q⟩
end
def zL(sp:Sp)(dvs:List V)(E:XK)(t:TA):TE:=λσ H Q=>t σ H λvs H1=>sp (vs++dvs) H1 Q E
def Binds(K:PySem.W.Frag)(fd:Cm)(ps:List Str)(ds:List Value):Prop :=
 ∀(s:Ag) (us:List Value),K.In s.heap->(us++ds).length=ps.length->BindsTo s fd ⟨us,[]⟩ (ps.zip (us++ds))
theorem Binds.all{K:PySem.W.Frag}{fd:Cm}{ps:List Str}(h:∀us:List Value,us.length=ps.length->bindArgs fd ⟨us,[]⟩=pure (ps.zip us)):Binds K fd ps []:=λs us _ hl=>by
 rw[Ea] at hl ⊢
 exact .of_eq (h us hl)
def Pq(CX:pF)(X:Cx)(E:XK):Prop:=∀(pins:List (Addr×Obj)) (σ:St) (H:Hp) (s:Ag) (e:Value) (s':Ag),Inv X pins σ H s->CX X.stack H s E e s'->X.xe e s'
section
variable{X:Cx}{CX:pF}{k:Nat}{f C:Addr}{fd:Cm}{ps:List Str}{sp:Sp}{dvs:List V}{ds:List Value}{E:XK}{x m:Str}{p pos apos:Pos}{e o:Expr}{es:List Expr}{ta:TE}{t:TA}
theorem qX{pins:List (Addr×Obj)}{σ:St}{H:Hp}{s:Ag}{Q:VK}{us:List Value}{vs:List V}(F:FnOk X.prog X.w X.K X.mg X.base CX k f fd ps sp)(hr:Room k X.A)(hb:Binds X.K fd ps ds)(hd:En dvs ds)(hx:Pq CX X E)(I:Inv X pins σ H s)(r:En vs us)(h:sp (vs++dvs) H Q E):wpAny (model X.prog X.w) X.A (call (.ref f) us) (EP X pins σ Q) X.xe s:=by
 have r2:En (vs++dvs) (us++ds):=r.append hd
 have hl:(us++ds).length=ps.length:=by rw[<- r2.length]; exact F.len _ _ _ _ h
 refine wpAny_call (bL (F.run X.A X.stack s H ⟨us,[]⟩ (us++ds) (vs++dvs) Q E hr I.env0 (hb s us I.kIn hl) r2 h) λr s' hq=>?_)
 cases r with
 | error e=>exact hx pins σ H s e s' I hq
 | ok fl =>
  cases fl with
  | ret u=>exact I.after hq
  | next=>exact Iy hq
  | brk=>exact Iy hq
  | cont=>exact Iy hq
theorem dM(F:FnOk X.prog X.w X.K X.mg X.base CX k f fd ps sp)(hr:Room k X.A)(hg:Gl X x)(hm:X.mg x=some (.ref f))(hk:PySem.W.keepIn X.K (.ref f)=true)(hb:Binds X.K fd ps ds)(hd:En dvs ds)(hx:Pq CX X E)(ha:PA X (e::es) t)(hdb:(x == ("__debug__" : Str))=false:=by decide)(he:Bp (e::es) X.env=(false,eval e X.env)::Bp es X.env:=by rfl)(hpl:(Hi pos (Bp es X.env)).any (·.1)=false:=by rfl):PE X (.Call (.Name x p) (e::es) [] pos) (zL sp dvs E t):=by
 intro pins s σ H Q I h
 refine Fn (lT I hg hm ?_ hdb)
 refine PySem.W.callWith_K (h₀:=X.base) I.ok.mod.kin hk (Fu (ha pos pins s σ H _ I h) λus s1 ⟨vs,H1,I1,r,q⟩=>⟨I1.kIn,?_⟩) he hpl
 exact qX F hr hb hd hx I1 r q
theorem vB(F:FnOk X.prog X.w X.K X.mg X.base CX k f fd ps sp)(hr:Room k X.A)(hg:Gl X x)(hm:X.mg x=some (.ref f))(hk:PySem.W.keepIn X.K (.ref f)=true)(hb:Binds X.K fd ps ds)(hd:En dvs ds)(hx:Pq CX X E)(hdb:(x == ("__debug__" : Str))=false:=by decide):PE X (.Call (.Name x p) [] [] pos) (zL sp dvs E U4):=by
 intro pins s σ H Q I h
 refine Fn (lT I hg hm ?_ hdb)
 exact PySem.W.callWith_K0 I.kIn hk (qX (us:=[]) F hr hb hd hx I .nil h)
end
structure FnScope(N P:List Str)(sc:Scope):Prop where
 kind:sc.kind=.function
 co:sc.isCoroutine=false
 gen:sc.isGenerator=false
 nd:N.Nodup
 pre:N.take P.length=P
 par:∀x∈P,sc.names.lookup x=some .local\/sc.names.lookup x=some .cell
 nofree:∀y∈sc.names,y.2≠.free
theorem aI{kindOf:Str->Option Nf}{x:Str}:∀{binds:List (Str×Value)} {m:Str->Option Value},(∀v,(x,v)∉binds)->bindL kindOf binds m x=m x
 | [],_,_=>rfl
 | (n,v)::r,m,h=>by
  unfold bindL
  rw[aI λw hw=>h w (Af _ hw)]
  split
  ·have : x≠n:=by rintro rfl; exact h v Ab
   simp [this]
  ·rfl
theorem aR{kindOf:Str->Option Nf}{x:Str}:∀{binds:List (Str×Value)} {m:Str->Option Value},(∀v,(x,v)∉binds)->bindC kindOf binds m x=m x
 | [],_,_=>rfl
 | (n,v)::r,m,h=>by
  unfold bindC
  rw[aR λw hw=>h w (Af _ hw)]
  split
  ·rfl
  ·have : x≠n:=by rintro rfl; exact h v Ab
   simp [this]
theorem aV{kindOf:Str->Option Nf}{x:Str}{v:Value}:∀{P:List Str} {vs:List Value} {i:Nat} {m:Str->Option Value},P.Nodup->P[i]? = some x->vs[i]? = some v->kindOf x=some .local->bindL kindOf (P.zip vs) m x=some v
 | [],_,_,_,_,h,_,_=>by simp at h
 | _::_,[],_,_,_,_,h,_=>by simp at h
 | p::P,w::vs,0,m,nd,h1,h2,hk=>by
  simp at h1 h2; subst h1; subst h2
  show bindL kindOf ((p,w)::P.zip vs) m p=_
  unfold bindL
  rw[aI λv hv=>(Bx.mp nd).1 (List.of_mem_zip hv).1,if_pos hk]
  simp
 | p::P,w::vs,i+1,m,nd,h1,h2,hk=>by
  show bindL kindOf ((p,w)::P.zip vs) m x=_
  unfold bindL
  exact aV (i:=i) (Bx.mp nd).2 (by simpa using h1) (by simpa using h2) hk
theorem aD{kindOf:Str->Option Nf}{x:Str}{v:Value}:∀{P:List Str} {vs:List Value} {i:Nat} {m:Str->Option Value},P.Nodup->P[i]? = some x->vs[i]? = some v->kindOf x≠some .local->bindC kindOf (P.zip vs) m x=some v
 | [],_,_,_,_,h,_,_=>by simp at h
 | _::_,[],_,_,_,_,h,_=>by simp at h
 | p::P,w::vs,0,m,nd,h1,h2,hk=>by
  simp at h1 h2; subst h1; subst h2
  show bindC kindOf ((p,w)::P.zip vs) m p=_
  unfold bindC
  rw[aR λv hv=>(Bx.mp nd).1 (List.of_mem_zip hv).1,if_neg hk]
  simp
 | p::P,w::vs,i+1,m,nd,h1,h2,hk=>by
  show bindC kindOf ((p,w)::P.zip vs) m x=_
  unfold bindC
  exact aD (i:=i) (Bx.mp nd).2 (by simpa using h1) (by simpa using h2) hk
def start(N:List Str)(vs:List V):St:=vs.map some++Cb (N.length - vs.length) none
def Nz(CX:pF)(P:Bo)(w:World)(K:PySem.W.Frag)(mg:Str->Option Value)(base:Heap)(N:List Str)(qual:Str)(scope:Scope)(f:Addr)(cd:Value)(A:Co)(outer:List Env)(s:Ag)(H:Hp)(E:XK):Cx where
 prog:=P
 w:=w
 K:=K
 mg:=mg
 base:=base
 A:=A.deeper (envOfC qual scope s.heap.objs.size f cd)
 N:=N
 s₀:=s
 H₀:=H
 env:=envOfC qual scope s.heap.objs.size f cd
 outer:=outer
 stack:=envOfC qual scope s.heap.objs.size f cd::outer
 ex:=[]
 calm:=true
 fn:=λ_=>true
 pn:=[]
 xe:=λe s'=>wpAny (model P w) (A.deeper (envOfC qual scope s.heap.objs.size f cd)) (leaving (envOfC qual scope s.heap.objs.size f cd) e) (λ_ s''=>CX outer H s E e s'') (λe' s''=>CX outer H s E e' s'') s'
theorem eO{sc:Scope}{n:Nat}{x:Str}(h:sc.names.lookup x=some .cell):∃c,(Ec n sc.names []).lookup x=some c:=by
 have q:=PySem.W.cellsFrom_some sc.names n [] (.inl h)
 exact Oe.mp q
theorem nS{CX:pF}{P:Bo}{w:World}{K:PySem.W.Frag}{mg:Str->Option Value}{base:Heap}{N ps:List Str}{qual:Str}{scope:Scope}{f:Addr}{cd:Value}{A:Co}{outer:List Env}{s s1:Ag}{H:Hp}{E:XK}{us:List Value}{vs:List V}(S:FnScope N ps scope)(hd:A.handled=none)(e0:Env0 P w K mg base A outer s H)(hl:vs.length=ps.length)(r:En vs us)(x:InCallC s s.heap.objs.size (bindL (envOfC qual scope s.heap.objs.size f cd).kindOf (ps.zip us) λ_=>none) (Ec (s.heap.objs.size+1) scope.names []) (bindC (envOfC qual scope s.heap.objs.size f cd).kindOf (ps.zip us) λ_=>none) s1):Inv (Nz CX P w K mg base N qual scope f cd A outer s H E) [] (start N vs) H s1:=by
 have hpl:ps.length<=N.length:=by have:=congrArg Fl S.pre; rw[Cv] at this; omega
 obtain ⟨h1,tk,rfl,hk⟩:=x.done
 have noA:∀b:Addr,b∉(Nz CX P w K mg base N qual scope f cd A outer s H E).ex:=λb z=>absurd (show b∈([]:List Addr) from z) (by simp)
 refine ⟨⟨e0.mod,S.kind,rfl,rfl,Ai _,λy z c h1 h2=>?_,λy hy=>?_,λy c _ h=>?_,λ_=>hd,Around.frames_deeper e0.frames,.inr ⟨rfl,rfl⟩,λb z=>absurd z (noA b),e0.bs,e0.bsz,λb _ _=>noA b,λb z=>absurd z (noA b),e0.funs,e0.frf,e0.tab⟩,
  rfl,e0.bare,Un.kept hk,⟨_,x.toInCall.ns,λi y v h1 h2 h3=>?_⟩,λy c h=>⟨_,x.cell y c h⟩,e0.hok.fresh (Ai _),λy c h=>?_,λp hp=>absurd (show p∈([]:List (Addr×Obj)) from hp) (by simp),e0.hok.kept hk,?_⟩
 ·exact name_of_addr x.apart (PySem.mem_of_lookup h1) (PySem.mem_of_lookup h2)
 ·have hy:scope.names.lookup y=some .cell\/scope.names.lookup y=some .free:=hy
  rcases hy with hy | hy
  ·exact eO hy
  ·exact absurd rfl (S.nofree _ (PySem.mem_of_lookup hy))
 ·exact Jl (x.above y c (PySem.mem_of_lookup h))
 ·have hi:i<vs.length:=by
   unfold start at h2
   by_cases hi:i<vs.length
   ·exact hi
   ·rw[Gh (by simpa using hi)] at h2
    rw[List.getElem?_replicate] at h2
    split at h2 <;> cases h2
  have ha:vs[i]? = some v:=by
   unfold start at h2
   rw[Jn (by simpa using hi),Aw] at h2
   cases e:vs[i]? with
   | none=>rw[e] at h2; cases h2
   | some a=>rw[e] at h2; cases h2; rfl
  obtain ⟨u,hu,rv⟩:=r.get ha
  have hp:ps[i]? = some y:=by
   rw[<- S.pre,Dj (by omega)]; exact h1
  have ndP:ps.Nodup:=by rw[<- S.pre]; exact S.nd.sublist (Ku _ _)
  refine ⟨u,rv,?_⟩
  rcases S.par y (Aq hp) with k | k
  ·exact .inl ⟨k,aV ndP hp hu k⟩
  ·obtain ⟨c,e⟩:=eO (n:=s.heap.objs.size+1) k
   refine .inr ⟨.inl k,c,e,?_⟩
   have q:=x.cell y c e
   rw[aD ndP hp hu (by show scope.names.lookup y≠_; rw[k]; decide)] at q
   exact q
 ·exact e0.hok.fresh (Jl (x.above y c (PySem.mem_of_lookup h)))
 ·unfold start
  show _=N.length
  rw[Cc,Ac,List.length_replicate]
  omega
theorem i6{CX:pF}{P:Bo}{w:World}{K:PySem.W.Frag}{mg:Str->Option Value}{base:Heap}{k:Nat}{f:Addr}{name qual:Str}{params:Ru}{body:List Stmt}{scope:Scope}{dV kV doc pm cdv ct oc:Value}{an od:Option Addr}{osl:Array (Option Value)}{N ps:List Str}{sp:Sp}(lk:K.lookup f=some ⟨oc,od,.func (PySem.W.fnOf name qual params body scope dV kV doc pm an cdv ct),osl⟩)(hcd:PySem.W.codeIn K cdv qual=true)(S:FnScope N ps scope)(len:∀vs H Q E,sp vs H Q E->vs.length=ps.length)(hbody:∀(A:Co) (outer:List Env) (s:Ag) (H:Hp) (vs:List V) (Q:VK) (E:XK),Room k (A.deeper (envOfC qual scope s.heap.objs.size f cdv))->sp vs H Q E->∃t,jB (Nz CX P w K mg base N qual scope f cdv A outer s H E) body t/\t { nx:=λ_ H'=>Q .non H',rt:=Q } (start N vs) H):FnOk P w K mg base CX (k+1) f (PySem.W.fnOf name qual params body scope dV kV doc pm an cdv ct) ps sp:=by
 refine ⟨len,λA outer s H args us vs Q E hr e0 hb r hsp=>?_⟩
 have hl:=len _ _ _ _ hsp
 have KX:K.In s.heap:=e0.mod.kin.keeps λb o e=>(e0.bs b o e).1
 have lim:s.heap.NoLimit:=e0.mod.nolimit.keeps λb o e=>(e0.bs b o e).1
 have hkind:∀y∈ps.zip us,scope.names.lookup y.1=some .local\/(scope.names.lookup y.1=some .cell/\((Ec (s.heap.objs.size+1) scope.names []).lookup y.1).isSome=true):=λ⟨n,v⟩ hy=>by
  rcases S.par n (List.of_mem_zip hy).1 with q | q
  ·exact .inl q
  ·exact .inr ⟨q,PySem.W.cellsFrom_some _ _ _ (.inl q)⟩
 refine codeAny_call_function hr.depth (KX _ _ lk) rfl S.co S.gen rfl (PySem.W.codeRec_of KX hcd) (hb _ _ _ _ ?_)
 refine wpAny_newFunctionEnv_cells S.kind hkind λenv he s1 x=>?_
 subst he
 refine ⟨lim.keeps x.toInCall.keep,codeAny_func ?_⟩
 obtain ⟨t,ht,hq⟩:=hbody A outer s H vs Q E (hr.deeper _) hsp
 have I:Inv (Nz CX P w K mg base N qual scope f cdv A outer s H E) [] (start N vs) H s1:=nS S hr.hd e0 hl r x
 refine Eh (ht [] s1 (start N vs) H _ I hq) (λfl s' hs=>?_) λe s' hs=>hs
 have fin:∀{σ':St} {H':Hp} {v:V} {u:Value},Inv (Nz CX P w K mg base N qual scope f cdv A outer s H E) [] σ' H' s'->RelV v u->Q v H'->CE outer P w H s Q u s' :=
  λ{σ' H' v u} J rv q=>⟨v,H',J.os,J.bare,J.base,J.hok,rv,q⟩
 cases fl with
 | ret u =>
  obtain ⟨v,σ',H',J,rv,q⟩:=hs
  exact fin J rv q
 | next =>
  obtain ⟨σ',H',J,q⟩:=hs
  exact fin (v:=V.non) (u:=Hl) J rfl q
 | brk =>
  obtain ⟨_,_,_,q⟩:=hs
  exact Iy q
 | cont =>
  obtain ⟨_,_,_,q⟩:=hs
  exact Iy q
section
variable{X:Cx}{x:Str}{p pos:Pos}{e:Expr}{es:List Expr}{t:TA}{id T:String}{r:List V->Hp->VK->Prop}
def Q4(r:List V->Hp->VK->Prop)(t:TA):TE:=λσ H Q=>t σ H λvs H1=>r vs H1 Q
theorem Wu(hc:Lr X (.builtin id) r)(hg:Gl X x)(hm:X.mg x=none)(hv:Il x=some (.builtin id))(ha:PA X (e::es) t)(hn:x ≠ "__name__" := by decide)(hdb:(x == ("__debug__" : Str))=false:=by decide)(he:Bp (e::es) X.env=(false,eval e X.env)::Bp es X.env:=by rfl)(hpl:(Hi pos (Bp es X.env)).any (·.1)=false:=by rfl):PE X (.Call (.Name x p) (e::es) [] pos) (Q4 r t):=by
 intro pins s σ H Q I h
 refine Fn (Ll I hg hm hv ?_ hn hdb)
 exact Se (Fu (ha pos pins s σ H _ I h) λus s1 ⟨vs,H1,I1,r1,q1⟩=>hc pins s1 σ H1 vs us Q I1 r1 q1) he hpl
theorem bF(hc:Lr X (.type T) r)(hg:Gl X x)(hm:X.mg x=none)(hv:Il x=some (.type T))(ha:PA X (e::es) t)(hn:x ≠ "__name__" := by decide)(hdb:(x == ("__debug__" : Str))=false:=by decide)(he:Bp (e::es) X.env=(false,eval e X.env)::Bp es X.env:=by rfl)(hpl:(Hi pos (Bp es X.env)).any (·.1)=false:=by rfl):PE X (.Call (.Name x p) (e::es) [] pos) (Q4 r t):=by
 intro pins s σ H Q I h
 refine Fn (Ll I hg hm hv ?_ hn hdb)
 exact Ef (Fu (ha pos pins s σ H _ I h) λus s1 ⟨vs,H1,I1,r1,q1⟩=>hc pins s1 σ H1 vs us Q I1 r1 q1) he hpl
end
end L2
namespace HT
open PySem PyProof.Rows
def lexLt:List Int->List Int->Bool
 | [],[]=>false
 | [],_::_=>true
 | _::_,[]=>false
 | x::xs,y::ys=>if x=y then lexLt xs ys else decide (x<y)
theorem lexLt_cons(x y:Int)(xs ys:List Int):lexLt (x::xs) (y::ys)=if x=y then lexLt xs ys else decide (x<y):=rfl
theorem lexLt_nil_nil:lexLt [] []=false:=rfl
theorem lexLt_nil_cons(y:Int)(ys:List Int):lexLt [] (y::ys)=true:=rfl
theorem lexLt_cons_nil(x:Int)(xs:List Int):lexLt (x::xs) []=false:=rfl
theorem sZ(A:Co)(s:Ag)(a:Int)(t:Tok)(c:Int)(u:Tok):∃e,Lf A s (.int a t) (.int c u) e/\(e=true↔a=c) :=
 ⟨(a == c),SeqAt.EqAt.int_int a t c u,by simp⟩
theorem rK(A:Co)(s:Ag)(a:Int)(t:Tok)(c:Int)(u:Tok)(prog:Bo)(w:World)(E:Value->Ag->Prop)(Q:Value->Ag->Prop)(h:Q (.bool (decide (a<c))) s):wpAny (model prog w) A (richCompare .Lt (.int a t) (.int c u)) Q E s :=
 (PyProof.Rows.lt_int h:wpAny (model prog w) A (Jx .Lt (.int a t) (.int c u)) Q E s)
section
open PySem.SeqAt
open PySem.AutoSeq1 (wpAny_loadPart')
open PySem.MeetsSeq PySem.MeetsSeq2 PySem.MeetsSeq3
theorem tuple_lt_ints(l b:Addr)(items items2:Array Value)(n n2:Nat)(dd dd2:Option Addr)(sl sl2:Array (Option Value))(ns ms:List Int)(hi:Jj items.toList ns)(hj:Jj items2.toList ms):Meets (Builtin.«tuple.__lt__» ⟨[.ref l,.ref b],[]⟩) (λ_ R s=>s.heap.get? l=some { cls:=.type "tuple",dict:=dd,data:=.seq items n,slots:=sl }/\s.heap.get? b=some { cls:=.type "tuple",dict:=dd2,data:=.seq items2 n2,slots:=sl2 }/\R (.ok (.ret (.bool (lexLt ns ms)))) s) :=
 .of_wp λprog w A R s h=>by
  obtain ⟨hp,g,d,tk,os⟩:=s; obtain ⟨hl,hb,h⟩:=h
  have f2:=AutoSeq1.sub_tuple_tuple
  have z1:items.size=ns.length:=by rw[<- hi.length]; simp
  have z2:items2.size=ms.length:=by rw[<- hj.length]; simp
  wp_walk using Tv hl,Tv hb,wpAny_forIn_list _ (λFv b s'=>b.1=none/\s'=⟨hp,g,d,tk,os⟩/\∃(vs ws:List Value) (ns' ms':List Int),Fv=vs.zip ws /\
   Jj vs ns'/\Jj ws ms'/\ns'.length+items2.size=ms'.length+items.size/\R (.ok (.ret (.bool (lexLt ns' ms')))) ⟨hp,g,d,tk,os⟩) _
  case turn =>
   (rintro ⟨y,x⟩ Fv b s' q_; obtain ⟨hb',rfl,vs,ws,ns',ms',hz,hvi,hwi,hlen,hR⟩ := q_)
   cases hvi with
   | nil=>rw[List.zip_nil_left] at hz; cases hz
   | cons a t hvi' =>
    cases hwi with
    | nil=>rw[List.zip_nil_right] at hz; cases hz
    | cons c u hwi' =>
     rw[Vb] at hz
     injection hz with hyx hrest
     injection hyx with hy hx
     subst hy hx
     rw[lexLt_cons] at hR
     simp only[Bs] at hlen
     obtain ⟨e,he,hiff⟩:=sZ A.in1 ⟨hp,g,d,tk,os⟩ a t c u
     refine Aa (he prog w _ _ ?_)
     cases e with
     | true =>
      rw[if_pos (hiff.mp rfl)] at hR
      wp_walk
      exact ⟨rfl,rfl,_,_,_,_,hrest,hvi',hwi',by omega,hR⟩
     | false =>
      rw[if_neg (λq=>absurd (hiff.mpr q) Bm)] at hR
      have hri:=rK A.in1 ⟨hp,g,d,tk,os⟩ a t c u prog w
      wp_walk using hri
      exact ⟨_,rfl,by simpa using hR⟩
  case fin =>
   (rintro ⟨b1,b2⟩ s' q_; obtain ⟨hb',rfl,vs,ws,ns',ms',hz,hvi,hwi,hlen,hR⟩ := q_)
   simp only at hb'
   subst hb'
   have hv:lexLt ns' ms'=decide (items.size<items2.size):=by
    cases hvi with
    | nil =>
     cases hwi with
     | nil =>
      simp only[Jy] at hlen
      rw[lexLt_nil_nil]
      exact (decide_eq_false (by omega)).symm
     | cons c u hw =>
      simp only[Jy,Bs] at hlen
      rw[lexLt_nil_cons]
      exact (decide_eq_true (by omega)).symm
    | cons a t hv =>
     cases hwi with
     | nil =>
      simp only[Jy,Bs] at hlen
      rw[lexLt_cons_nil]
      exact (decide_eq_false (by omega)).symm
     | cons c u hw =>
      rw[Vb] at hz
      cases hz
   rw[hv] at hR
   wp_walk
   exact ⟨_,rfl,by simpa [Builtin.Tuple.tupleCompareSizes] using hR⟩
  case h =>
   exact ⟨rfl,rfl,items.toList,items2.toList,ns,ms,rfl,hi,hj,by omega,h⟩
end
section
variable{prog:Bo}{w:World}{A:Co}{E:Value->Ag->Prop}{s:Ag}
theorem cat_tup{t b:Addr}{vs ws:List Value}{Q:Value->Ag->Prop}(ht:IsTup s.heap t vs.toArray)(hb:IsTup s.heap b ws.toArray)(hv:vs≠[])(h1:ws=[]->Q (.ref t) s)(h2:ws≠[]->Q (.ref s.heap.objs.size) { s with heap:=s.heap.push { cls:=.type "tuple",data:=.seq (vs++ws).toArray } })(hsz:vs.length+ws.length<=Ap):wpAny (model prog w) A (Hs .Add (.ref t) (.ref b)) Q E s:=by
 obtain ⟨⟨cls,dd,data,sl⟩,ho,hc,n,hd⟩:=id ht
 obtain ⟨⟨cls2,dd2,data2,sl2⟩,ho2,hc2,n2,hd2⟩:=id hb
 simp only at hc hd hc2 hd2
 subst hc hd hc2 hd2
 have e:vs.toArray++ws.toArray=(vs++ws).toArray:=by simp
 by_cases hw:ws=[]
 ·exact concat_meets ⟨_,ho,rfl⟩ ⟨_,ho2,rfl⟩ dX seq_tuple_add PySem.F.slot_tuple_add PySem.F.entry_tuple_add (PySem.F.args_tuple_add_2 _ _)
   (tuple_addW1 t b vs.toArray ws.toArray n n2 dd dd2 sl sl2 (by simpa using hv) (by simp [hw])) ⟨ho,ho2,h1 hw⟩
 ·refine concat_meets ⟨_,ho,rfl⟩ ⟨_,ho2,rfl⟩ dX seq_tuple_add PySem.F.slot_tuple_add PySem.F.entry_tuple_add (PySem.F.args_tuple_add_2 _ _)
   (tuple_addW2 t b vs.toArray ws.toArray n n2 dd dd2 sl sl2 (by simpa using hv) (by simpa using hw) (by rw[Am,Am]; exact hsz)) ⟨ho,ho2,?_⟩
  rw[e]
  exact h2 hw
def sIx(n d:Nat):Option Int->Nat
 | none=>d
 | some v=>if v<0 then (v+(n:Int)).toNat else min v.toNat n
theorem sIx_none(n d:Nat):sIx n d none=d:=rfl
theorem sIx_nat(n d k:Nat):sIx n d (some (k:Int))=min k n:=by
 show (if (k:Int)<0 then ((k:Int)+(n:Int)).toNat else min (k:Int).toNat n)=min k n
 rw[if_neg (by omega),Ez]
end
end HT
namespace L2
open PySem PySem.Spec PyProof.Rows
abbrev TO:=St->Hp->(Option Int->Hp->Prop)->Prop
def PO(X:Cx)(e:Option Expr)(t:TO):Prop :=
 ∀(pins:List (Addr×Obj)) (s:Ag) (σ:St) (H:Hp) (Q:Option Int->Hp->Prop),Inv X pins σ H s->t σ H Q ->
  wpAny (model X.prog X.w) X.A (evalPart e X.env) (λu s'=>∃o H',Inv X pins σ H' s'/\IsPart u o/\Q o H') X.xe s
def vZ:TO:=λ_ H Q=>Q none H
def P4(t:TE):TO:=λσ H Q=>t σ H λx H1=>∃i,x=.int i/\Q (some i) H1
theorem intsAre_of{ns:List Int}:∀{us:List Value},En (ns.map V.int) us->Jj us ns:=by
 induction ns with
 | nil=>intro us r; rw[Ji] at r; cases r; exact .nil
 | cons n ns ih =>
  intro us r
  rw[Au] at r
  cases r with
  | cons r1 r2 =>
   obtain ⟨t,e⟩:=r1
   subst e
   exact .cons n t (ih r2)
section
variable{X:Cx}{e:Expr}{te:TE}{lo hi:Option Expr}{tl th:TO}{pos p2:Pos}
theorem zH:PO X none vZ:=by
 intro pins s σ H Q I h
 rw[evalPart_none]
 exact Aj ⟨none,H,I,.none,h⟩
theorem yD(h:PE X e te):PO X (some e) (P4 te):=by
 intro pins s σ H Q I hw
 rw[evalPart_some]
 refine Fu (h pins s σ H _ I hw) λu s1 q0_ => ?_
 obtain ⟨x,H1,I1,r1,q1⟩ := q0_
 obtain ⟨i,rfl,q⟩:=q1
 obtain ⟨t,rfl⟩:=r1
 exact ⟨some i,H1,I1,.int i t,q⟩
def AE(X:Cx)(r:V->Option Int->Option Int->Hp->VK->Prop):Prop :=
 ∀(pins:List (Addr×Obj)) (s:Ag) (σ:St) (H:Hp) (x:V) (v vl vu:Value) (lo hi:Option Int) (sl:Addr) (Q:VK),Inv X pins σ H s->RelV x v->s.heap.IsSliceOf sl vl vu .none->IsPart vl lo->IsPart vu hi->r x lo hi H Q ->
  ∃T id,typeLookup (.type T) "__getitem__" = pure (some (.builtin id))/\s.TypeIs v T/\wpAny (model X.prog X.w) X.A (getItem v (.ref sl)) (EP X pins σ Q) X.xe s
def BB(r:V->Option Int->Option Int->Hp->VK->Prop)(te:TE)(tl th:TO):TE:=λσ H Q=>te σ H λx H1=>tl σ H1 λl H2=>th σ H2 λu H3=>r x l u H3 Q
theorem vH{r:V->Option Int->Option Int->Hp->VK->Prop}(hr:AE X r)(he:PE X e te)(hl:PO X lo tl)(hu:PO X hi th):PE X (.Subscript e (.Slice lo hi none p2) pos) (BB r te tl th):=by
 intro pins s σ H Q I h
 refine Zg (Fu (he pins s σ H _ I h) λv s1 q0_ => ?_)
 obtain ⟨x,H1,I1,r1,q1⟩ := q0_
 refine wpAny_Slice (Fu (hl pins s1 σ H1 _ I1 q1) λvl s2 ⟨l,H2,I2,pl,q2⟩=>Fu (hu pins s2 σ H2 _ I2 q2) λvu s3 q0_ => ?_)
 obtain ⟨u,H3,I3,pu,q3⟩ := q0_
 rw[evalPart_none]
 refine Aj ?_
 have I4:Inv X pins σ H3 { s3 with heap:=s3.heap.push { cls:=.type "slice",data:=.fields #[vl,vu,.none] } }:=I3.kept (t':=s3.toks) λb ob q=>Ae _ q
 obtain ⟨T,id,hT,ht,hg⟩:=hr pins { s3 with heap:=s3.heap.push { cls:=.type "slice",data:=.fields #[vl,vu,.none] } } σ H3 x v vl vu l u s3.heap.objs.size Q I4 r1 (Heap.IsSliceOf.new ..) pl pu q3
 show wpAny (model X.prog X.w) X.A (Yu e (.Slice lo hi none p2) v (.ref s3.heap.objs.size)) (EP X pins σ Q) X.xe { s3 with heap:=s3.heap.push { cls:=.type "slice",data:=.fields #[vl,vu,.none] } }
 exact tail_any (ops:=[.ref s3.heap.objs.size,v]) ht hT hg (by with_unfolding_all rfl)
def sV(xs:List V)(lo hi:Option Int):List V:=(xs.drop (HT.sIx xs.length 0 lo)).take (HT.sIx xs.length xs.length hi - HT.sIx xs.length 0 lo)
theorem fF(xs:List V)(lo hi:Option Int):(sV xs lo hi).length<=xs.length:=by
 unfold sV
 rw[Cv,List.length_drop]
 omega
def M5(K:PySem.W.Frag):R2:=λx y H Q=>∃a b xs ys,x=.ref a/\y=.ref b/\Sj K H a xs/\Sj K H b ys/\xs≠[]/\xs.length+ys.length<=Ap /\
 (ys=[]->Q (.ref a) H)/\(ys≠[]->∀p,H p=none->Q (.ref p) (upd H p (.tup (xs++ys))))
theorem En.nil_iff{xs:List V}{us:List Value}(r:En xs us):us=[]↔xs=[]:=by
 cases r with
 | nil=>simp
 | cons _ _=>simp
theorem wC:Vk X (Hs .Add) (M5 X.K):=by
 intro pins s σ H x y v u Q I rx ry h
 obtain ⟨a,b,xs,ys,rfl,rfl,ha,hb,hx,hz,q1,q2⟩:=h
 cases rx
 cases ry
 obtain ⟨its,r1,p1,_⟩:=I.tuple ha
 obtain ⟨its2,r2,p2,_⟩:=I.tuple hb
 refine HT.cat_tup p1 p2 (λz=>hx (r1.nil_iff.mp z)) (λz=>⟨.ref a,H,I,rfl,q1 (r2.nil_iff.mp z)⟩) (λz=>?_) (by rw[<- r1.length,<- r2.length]; exact hz)
 refine ⟨.ref s.heap.objs.size,_,I.laid (t':=s.toks) (o:=.tup (xs++ys)) (λb ob q=>Ae _ q) (Ai _) ?_,rfl,q2 (λw=>z (r2.nil_iff.mpr w)) _ (I.hok.fresh (Ai _))⟩
 exact ⟨by rw[Cc]; exact hz,_,r1.append r2,IsTup.new _ _⟩
end
def pH(n:Nat)(i:Int):Option Nat:=if 0<=i then (if i<n then some i.toNat else none) else if -(n:Int)<=i then some (i+n).toNat else none
def Ub{α:Type}(xs:List α)(i:Int):Option α:=(pH xs.length i).bind λj=>xs[j]?
theorem kZ{n:Nat}{i:Int}{j:Nat}(h:pH n i=some j):seqIndex? i n=some j/\j<n /\ -(n:Int)<=i/\i<n:=by
 unfold pH at h
 by_cases h0:0<=i
 ·rw[if_pos h0] at h
  by_cases h1:i<n
  ·rw[if_pos h1] at h
   have e:i.toNat=j:=Bk h
   exact ⟨by rw[seqIndex_of h0 h1,e],by omega,by omega,h1⟩
  ·rw[if_neg h1] at h; cases h
 ·rw[if_neg h0] at h
  by_cases h1:-(n:Int)<=i
  ·rw[if_pos h1] at h
   have e:(i+n).toNat=j:=Bk h
   exact ⟨by rw[seqIndex_neg (by omega) h1,e],by omega,h1,by omega⟩
  ·rw[if_neg h1] at h; cases h
theorem bO{α:Type}{xs:List α}{i:Int}{v:α}(h:Ub xs i=some v):∃j,seqIndex? i xs.length=some j/\xs[j]? = some v/\j<xs.length /\ -(xs.length:Int)<=i/\i<xs.length:=by
 unfold Ub at h
 cases e:pH xs.length i with
 | none=>rw[e] at h; cases h
 | some j =>
  rw[e] at h
  obtain ⟨h1,h2,h3,h4⟩:=kZ e
  exact ⟨j,h1,h,h2,h3,h4⟩
theorem wB{α:Type}{xs:List α}{j:Nat}{v:α}(h:xs[j]? = some v):Ub xs (j:Int)=some v:=by
 have hj:j<xs.length:=(Al.mp h).1
 have e:pH xs.length (j:Int)=some j:=by
  unfold pH
  rw[if_pos (by omega),if_pos (by omega)]; simp
 unfold Ub; rw[e]; exact h
def cU(b:Expr):Prop:=∀o i,subscripted b false o i=operate [o,i] (getItem o i)
def wG(X:Cx)(r:R2):Prop :=
 ∀(value slice:Expr) (pins:List (Addr×Obj)) (s:Ag) (σ:St) (H:Hp) (x y:V) (v u:Value) (Q:VK),Inv X pins σ H s->RelV x v->RelV y u->r x y H Q ->
  subscripted slice false v u=operate [v,u] (getItem v u)->wpAny (model X.prog X.w) X.A (Yu value slice v u) (EP X pins σ Q) X.xe s
def AU(X:Cx)(id:String)(r:V->List V->Hp->VK->Prop):Prop :=
 ∀(pins:List (Addr×Obj)) (s:Ag) (σ:St) (H:Hp) (x:V) (xs:List V) (v:Value) (us:List Value) (Q:VK),Inv X pins σ H s->RelV x v->En xs us->r x xs H Q ->
  wpAny (model X.prog X.w) X.A (call (.builtin id) (v::us)) (EP X pins σ Q) X.xe s
section
variable{X:Cx}{a b:Expr}{ta tb:TE}{pos:Pos}
theorem wG.or{r r':R2}(h:wG X r)(h':wG X r'):wG X (λx y H Q=>r x y H Q\/r' x y H Q):=by
 intro value slice pins s σ H x y v u Q I rx ry q hs
 rcases q with q | q
 ·exact h value slice pins s σ H x y v u Q I rx ry q hs
 ·exact h' value slice pins s σ H x y v u Q I rx ry q hs
theorem Xf{r:R2}(hr:wG X r)(ha:PE X a ta)(hb:PE X b tb)(hs:cU b):PE X (.Subscript a b pos) (L8 r ta tb):=by
 intro pins s σ H Q I h
 exact Zg (J2 ha hb I h λv u s2 x y H2 I2 rx ry q=>hr a b pins s2 σ H2 x y v u Q I2 rx ry q (hs _ _))
def P7(K:PySem.W.Frag):R2:=λx y H Q=>∃p xs i v,x=.ref p/\y=.int i/\Kq K H p xs/\Ub xs i=some v/\Q v H
def O4(K:PySem.W.Frag):R2:=λx y H Q=>∃p xs i v,x=.ref p/\y=.int i/\Sj K H p xs/\Ub xs i=some v/\Q v H
def U2:R2:=λx y H Q=>∃z i c,x=.str z/\y=.int i/\z.length<=Ap/\Ub z.cps.toList i=some c/\Q (.str ⟨#[c]⟩) H
theorem Rf:wG X (P7 X.K):=by
 intro value slice pins s σ H x y v u Q I rx ry h hs
 obtain ⟨p,xs,i,z,rfl,rfl,hq,he,q⟩:=h
 cases rx
 obtain ⟨t,rfl⟩:=ry
 obtain ⟨its,r,pl,hz⟩:=I.list hq
 obtain ⟨j,h1,h2,h3,h4,h5⟩:=bO he
 obtain ⟨w,ew,rw'⟩:=r.get h2
 have hl:=r.length
 have hn:=Uw
 have fin:EP X pins σ Q w s:=⟨z,H,I,rw',q⟩
 by_cases h0:0<=i
 ·have hj:i.toNat=j:=by
   rw[seqIndex_of h0 h5] at h1
   exact Bk h1
  exact item_listR pl.isList h0 (by omega) (by rw[hj]; simpa using ew) fin hs
 ·have hj:(i+(its.toArray.size:Int)).toNat=j:=by
   rw[seqIndex_neg (by omega) h4] at h1
   rw[Am,<- hl]
   exact Bk h1
  exact vQ (x:=w) pl.isList.typeIs bK.lookup
   (wpAny_getItem_list_neg (Q:=λr s'=>r=w/\EP X pins σ Q r s') pl.isList (by omega) (by rw[Am] <;> omega) (by omega) (by rw[hj]; simpa using ew) ⟨rfl,fin⟩) hs
theorem Y8:wG X (O4 X.K):=by
 intro value slice pins s σ H x y v u Q I rx ry h hs
 obtain ⟨p,xs,i,z,rfl,rfl,hq,he,q⟩:=h
 cases rx
 obtain ⟨t,rfl⟩:=ry
 obtain ⟨its,r,pl,hz⟩:=I.tuple hq
 obtain ⟨j,h1,h2,h3,h4,h5⟩:=bO he
 obtain ⟨w,ew,rw'⟩:=r.get h2
 have hl:=r.length
 have hn:=Uw
 have fin:EP X pins σ Q w s:=⟨z,H,I,rw',q⟩
 exact vQ (x:=w) pl.typeIs slot_tuple_getitem.lookup
  (getItem_tuple (j:=j) (Q:=λr s'=>r=w/\EP X pins σ Q r s') pl (by omega) (by omega) (by rw[Am,<- hl]; exact h1) (by simpa using ew) ⟨rfl,fin⟩) hs
theorem J3:wG X U2:=by
 intro value slice pins s σ H x y v u Q I rx ry h hs
 obtain ⟨z,i,c,rfl,rfl,hz,he,q⟩:=h
 obtain ⟨t,rfl⟩:=rx
 obtain ⟨t',rfl⟩:=ry
 obtain ⟨j,h1,h2,h3,h4,h5⟩:=bO he
 have hl:z.cps.toList.length=z.length:=by simp [Str.length]
 rw[hl] at h1 h4 h5
 have hn:=Uw
 exact tail_any (typeIs_str s z t) slot_str_getitem.lookup (getItem_str (c:=c) (by
  have e1:decide (i < -(2 ^ 63:Int))=false:=decide_eq_false (by omega)
  have e2:decide (i ≥ 2 ^ 63)=false:=decide_eq_false (by omega)
  rw[e1,e2,Bool.or_false]) (by rw[h1]; simpa using h2) ⟨.str ⟨#[c]⟩,H,I.tok _,⟨_,rfl⟩,q⟩) hs
def Z9(K:PySem.W.Frag):R2:=λx y H Q=>P7 K x y H Q\/O4 K x y H Q\/U2 x y H Q
theorem x3:wG X (Z9 X.K):=Rf.or (Y8.or J3)
theorem jL(its:List Value)(n j:Nat)(u:Value):By (·.setIfInBounds j u) { cls:=.type "list",data:=.seq its.toArray n }={ cls:=.type "list",data:=.seq (its.set j u).toArray n }:=by
 simp [By]
theorem Inv.lst{pins:List (Addr×Obj)}{σ:St}{H:Hp}{s:Ag}{p:Addr}{xs:List V}(I:Inv X pins σ H s)(h:H p=some (.lst xs)):∃(its:List Value) (n:Nat),En xs its/\s.heap.get? p=some { cls:=.type "list",data:=.seq its.toArray n }/\xs.length<=Ap:=by
 obtain ⟨z,its,n,r,e⟩:=I.hok p _ h
 exact ⟨its,n,r,e,z⟩
theorem Inv.lstUpd{pins:List (Addr×Obj)}{σ:St}{H:Hp}{s:Ag}{p:Addr}{xs ys:List V}{its its':List Value}{n n':Nat}{f:Obj->Obj}(I:Inv X pins σ H s)(h:H p=some (.lst xs))(ho:s.heap.get? p=some { cls:=.type "list",data:=.seq its.toArray n })(hf:f { cls:=.type "list",data:=.seq its.toArray n }={ cls:=.type "list",data:=.seq its'.toArray n' })(r:En ys its')(hz:ys.length<=Ap)(t:Nat):Inv X pins σ (upd H p (.lst ys)) { s with heap:=s.heap.update p f,toks:=t }:=by
 have e:(s.heap.update p f).get? p=some { cls:=.type "list",data:=.seq its'.toArray n' }:=by
  rw[Ff f ho (by rw[hf] <;> rfl),hf]
 refine I.write (x:=p) (e:=p) (by rw[h]; trivial) (.inl rfl) (λb u hb q=>(Ex _ _ (Ld hb)).trans q) ⟨_,e⟩ ?_
 exact ⟨hz,its',n',r,e⟩
def U1:V->V->V->Hp->(Hp->Prop)->Prop:=λo i v H Q=>∃p xs k j,o=.ref p/\i=.int k/\H p=some (.lst xs)/\pH xs.length k=some j/\Q (upd H p (.lst (xs.set j v)))
theorem Xp:O5 X U1:=by
 intro pins s σ H o i v ov iv u Q I ro ri rv h
 obtain ⟨p,xs,k,j,rfl,rfl,hp,hj,q⟩:=h
 cases ro
 obtain ⟨t,rfl⟩:=ri
 obtain ⟨its,n,r,ho,hz⟩:=I.lst hp
 obtain ⟨h1,h2,h3,h4⟩:=kZ hj
 have hl:=r.length
 have hn:=Uw
 have I':Inv X pins σ (upd H p (.lst (xs.set j v))) { s with heap:=s.heap.update p (By (·.setIfInBounds j u)) } :=
  I.lstUpd hp ho (jL its n j u) (r.set rv j) (by rw[List.length_set]; exact hz) s.toks
 by_cases h0:0<=k
 ·have hk:k.toNat=j:=by
   rw[seqIndex_of h0 h4] at h1
   exact Bk h1
  exact PySem.W.ki_setAt ho h0 (by omega) (by rw[Am,<- hl]; exact h4) (by rw[hk]; exact ⟨_,I',q⟩)
 ·have hk:(k+(its.toArray.size:Int)).toNat=j:=by
   rw[seqIndex_neg (by omega) h3] at h1
   rw[Am,<- hl]
   exact Bk h1
  exact PySem.W.ki_setBack ho (by omega) (by rw[Am,<- hl]; exact h3) (by omega) (by rw[hk]; exact ⟨_,I',q⟩)
theorem dN(lo hi:Option Int)(n:Nat):(Ig lo hi none n).1=((HT.sIx n 0 lo:Nat):Int)/\(Ig lo hi none n).2.1=((HT.sIx n n hi:Nat):Int)/\(Ig lo hi none n).2.2=1:=by
 refine ⟨?_,?_,rfl⟩
 ·cases lo with
  | none=>simp [Ig,HT.sIx]
  | some i =>
   simp only[Ig,HT.sIx,Option.getD_none,show (1:Int) > 0 by decide,if_true]
   by_cases h:i<0
   ·simp only[h,if_true] <;> omega
   ·simp only[h,if_false] <;> omega
 ·cases hi with
  | none=>simp [Ig,HT.sIx]
  | some i =>
   simp only[Ig,HT.sIx,Option.getD_none,show (1:Int) > 0 by decide,if_true]
   by_cases h:i<0
   ·simp only[h,if_true] <;> omega
   ·simp only[h,if_false] <;> omega
theorem Zk(its:List Value)(lo hi:Option Int):slicePick its.toArray lo hi none=((its.drop (HT.sIx its.length 0 lo)).take (HT.sIx its.length its.length hi - HT.sIx its.length 0 lo)).toArray:=by
 obtain ⟨h1,h2,h3⟩:=dN lo hi its.toArray.size
 unfold slicePick
 rw[h1,h2,h3]
 simp only[sliceRange_one,pick_run,Am] <;> rfl
def N5(K:PySem.W.Frag):V->Option Int->Option Int->Hp->VK->Prop:=λx lo hi H Q=>∃a xs,x=.ref a/\Kq K H a xs/\∀p,H p=none->Q (.ref p) (upd H p (.lst (sV xs lo hi)))
theorem xF:AE X (N5 X.K):=by
 intro pins s σ H x v vl vu lo hi sl Q I rx hs pl pu h
 obtain ⟨a,xs,rfl,hx,q⟩:=h
 cases rx
 obtain ⟨its,r,ht,hz⟩:=I.list hx
 have hlen:=r.length
 refine ⟨"list",_,bK.lookup,ht.isList.typeIs,?_⟩
 refine pK ht.isList hs pl pu .none (by simp) ?_ (by rw[Am] <;> omega)
 rw[Zk,<- hlen]
 refine ⟨.ref s.heap.objs.size,_,I.laid (t':=s.toks) (o:=.lst (sV xs lo hi)) (λb ob q=>Ae _ q) (Ai _) ?_,rfl,q _ (I.hok.fresh (Ai _))⟩
 exact ⟨Ca (fF xs lo hi) hz,_,0,(r.drop (HT.sIx xs.length 0 lo)).take (HT.sIx xs.length xs.length hi - HT.sIx xs.length 0 lo),Ar _ rfl⟩
theorem bR:Lr X (.type "list") (λxs H Q=>∃p ys,xs=[.ref p]/\(Kq X.K H p ys\/Sj X.K H p ys)/\∀l,H l=none->Q (.ref l) (upd H l (.lst ys))):=by
 intro pins s σ H xs us Q I r h
 obtain ⟨p,ys,rfl,hq,q⟩:=h
 obtain ⟨u,rfl,rx⟩:=vals1 r
 cases rx
 have fin:∀(its:List Value),En ys its->ys.length<=Ap->∀(h':Heap) (c':Nat),(∀b o',s.heap.get? b=some o'->h'.get? b=some o') ->
   h'.get? s.heap.objs.size=some { cls:=.type "list",dict:=none,data:=.seq its.toArray c',slots:=#[] }->EP X pins σ Q (.ref s.heap.objs.size) { s with heap:=h' }:=λits r' hz h' c' kp e =>
  ⟨.ref s.heap.objs.size,_,I.laid (t':=s.toks) kp (Ai _) (show Gd X.prog X.w _ h' _ (.lst ys) from ⟨hz,its,c',r',e⟩),rfl,q _ (I.hok.fresh (Ai _))⟩
 rcases hq with hq | hq
 ·obtain ⟨its,r',pl,hz⟩:=I.list hq
  have hlen:=r'.length
  obtain ⟨o,ho,hc,n,hd⟩:=pl.isList
  exact call_list_seq p (.inl rfl) ho hc hd (λh' c' kp e=>fin its r' hz h' c' kp e) (by simp only[Am] <;> omega)
 ·obtain ⟨its,r',pl,hz⟩:=I.tuple hq
  have hlen:=r'.length
  obtain ⟨o,ho,hc,n,hd⟩:=pl
  exact call_list_seq p (.inr rfl) ho hc hd (λh' c' kp e=>fin its r' hz h' c' kp e) (by simp only[Am] <;> omega)
def AK(K:PySem.W.Frag)(T:String)(x:V)(H:Hp):Prop:=match x with
 | .str _=>T = "str"
 | .int _=>T = "int"
 | .ref p=>(T = "list" /\ ∃xs,Kq K H p xs)\/(T = "tuple" /\ ∃o,K.lookup p=some o/\o.cls=.type "tuple" /\ o.dict=none) \/
   (T = "dict" /\ ((∃kvs,H p=some (.dK kvs))\/∃kvs,H p=some (.dT kvs)))\/(T = "set" /\ ∃S n,H p=some (.set S n))
 | _=>False
theorem C7{pins:List (Addr×Obj)}{σ:St}{H:Hp}{s:Ag}{T:String}{x:V}{v:Value}(I:Inv X pins σ H s)(r:RelV x v)(ty:AK X.K T x H):s.TypeIs v T/\∀a,v=.ref a->∃ob,s.heap.get? a=some ob/\ob.dict=none:=by
 cases x with
 | str z =>
  obtain ⟨t,rfl⟩:=r
  cases (show T = "str" from ty)
  exact ⟨typeIs_str s z t,λ_ e=>nomatch e⟩
 | int i =>
  obtain ⟨t,rfl⟩:=r
  cases (show T = "int" from ty)
  exact ⟨typeIs_int s i t,λ_ e=>nomatch e⟩
 | ref p =>
  cases r
  rcases ty with ⟨rfl,xs,hq⟩ | ⟨rfl,o,hk,hc,hd⟩ | ⟨rfl,hk⟩ | ⟨rfl,S,n,hk⟩
  ·obtain ⟨its,_,pl,_⟩:=I.list hq
   refine ⟨pl.isList.typeIs,λa e=>?_⟩
   cases e
   obtain ⟨o,n,e,c,hd,_⟩:=pl
   exact ⟨o,e,hd⟩
  ·refine ⟨⟨o,I.kIn p o hk,hc⟩,λa e=>?_⟩
   cases e
   exact ⟨o,I.kIn _ o hk,hd⟩
  ·have z:∃o,s.heap.get? p=some o/\o.ExactDict:=by
    rcases hk with ⟨kvs,hk⟩ | ⟨kvs,hk⟩
    ·obtain ⟨_,_,_,_,o,_,_,e,ex,_⟩:=I.hok p _ hk
     exact ⟨o,e,ex⟩
    ·obtain ⟨_,_,_,_,o,_,_,e,ex,_⟩:=I.hok p _ hk
     exact ⟨o,e,ex⟩
   obtain ⟨o,e,ex⟩:=z
   refine ⟨⟨o,e,ex.1⟩,λa e2=>?_⟩
   cases e2
   exact ⟨o,e,ex.2.1⟩
  ·obtain ⟨o,_,_,_,e,ex,_⟩:=I.hok p _ hk
   refine ⟨⟨o,e,ex.1⟩,λa e2=>?_⟩
   cases e2
   exact ⟨o,e,ex.2.1⟩
 | _=>exact Iy ty
def AR(K:PySem.W.Frag)(T:String)(r:V->List V->Hp->VK->Prop)(to:TE)(t:TA):TE:=λσ H Q=>to σ H λx H1=>AK K T x H1/\t σ H1 λxs H2=>r x xs H2 Q
variable{o e:Expr}{es:List Expr}{to:TE}{t:TA}{name:Str}{apos cpos:Pos}{T id:String}{r:V->List V->Hp->VK->Prop}
theorem N4(pa:PlainAttrs T)(slot:Slot T name id)(hty:typeOf (.builtin id)=pure (.type "method_descriptor"))(hm:AU X id r)(ho:PE X o to)(ha:PA X (e::es) t)
  (hbase:Yw o name X.env (eval o X.env)=eval o X.env:=by rfl)
  (hfew:((Hi cpos (Bp (e::es) X.env)).all (λx=>!x.1) && (backToKw cpos (keywordEach [] X.env)).all (λx=>x.1.isSome)
   && decide ((e::es).length+([]:List Wc).length+(if ([]:List Wc).isEmpty then 0 else 1)<30))=true:=by rfl)
  (hline:(apos.endLine == cpos.line)=true:=by rfl) (hs:Bp (e::es) X.env=(false,eval e X.env)::Bp es X.env:=by rfl) (hplain:(Hi cpos (Bp es X.env)).any (·.1)=false:=by rfl) :
  PE X (.Call (.Attribute o name apos) (e::es) [] cpos) (AR X.K T r to t):=by
 intro pins s σ H Q I h
 refine wpAny_Call_method_late hbase hfew hline rfl (Fu (ho pins s σ H _ I h) λv s1 q0_ => ?_)
 obtain ⟨x,H1,I1,r1,ty,q1⟩ := q0_
 obtain ⟨h1,h2⟩:=C7 I1 r1 ty
 refine ⟨T,id,pa,slot,hty,h1,h2,?_⟩
 have hA:=ha cpos pins s1 σ H1 _ I1 q1
 rw[hs] at hA ⊢
 refine iA (by show (false || (Hi cpos (Bp es X.env)).any (·.1))=false; rw[hplain] <;> rfl) (Calls.evalArgs_plain ?_)
 exact Fu hA λus s2 ⟨vs,H2,I2,r2,q2⟩=>hm pins s2 σ H2 x vs v us Q I2 r1 r2 q2
end
def AD(X:Cx)(id:String)(r:V->List V->Hp->VK->Prop):Prop :=
 ∀(pins:List (Addr×Obj)) (s:Ag) (σ:St) (H:Hp) (x:V) (xs:List V) (v:Value) (us:List Value) (Q:VK),Inv X pins σ H s->RelV x v->En xs us->r x xs H Q ->
  wpAny (model X.prog X.w) X.A (call (.builtin id) (v::us)) (EP X pins σ Q) X.xe s
theorem En.one:∀{x:V} {us:List Value},En [x] us->∃u,us=[u]/\RelV x u
 | _,_,.cons r .nil=>⟨_,rfl,r⟩
theorem En.reverse{xs:List V}{us:List Value}(h:En xs us):En xs.reverse us.reverse:=by
 induction h with
 | nil=>exact .nil
 | cons r t ih=>rw[Oh,Oh]; exact En.append ih (.cons r .nil)
theorem En.rep{xs:List V}{us:List Value}(h:En xs us):∀k:Nat,En (Cb k xs).flatten (Cb k us).flatten
 | 0=>.nil
 | k+1=>by
  rw[Ey,Ey,Gv,Gv]
  exact En.append h (En.rep h k)
theorem foldl_rep(its:List Value):∀(k:Nat) (acc:List Value),List.foldl (λx1 x2=>x1++x2) acc.toArray (Cb k its.toArray)=(acc++(Cb k its).flatten).toArray
 | 0,acc=>by simp
 | k+1,acc=>by
  have e:acc.toArray++its.toArray=(acc++its).toArray:=by simp
  have e2:(acc++its)++(Cb k its).flatten=acc++(Cb (k+1) its).flatten:=by
   rw[Ey,Gv,Cj]
  rw[<- e2,<- foldl_rep its k (acc++its),<- e,Ey,List.foldl_cons]
section
variable{X:Cx}{pins:List (Addr×Obj)}{σ:St}{H:Hp}{s:Ag}{l b:Addr}{xs ys zs:List V}
theorem Inv.lset{its its':List Value}{n:Nat}{f:Array Value->Array Value}{t':Nat}(I:Inv X pins σ H s)(hH:H l=some (.lst xs))(e:s.heap.get? l=some { cls:=.type "list",data:=.seq its.toArray n })(hf:f its.toArray=its'.toArray)(hv:En ys its')(hz:ys.length<=Ap):Inv X pins σ (upd H l (.lst ys)) { s with heap:=s.heap.update l (By f),toks:=t' }:=by
 have q:=PySem.IsL.update e f
 rw[hf] at q
 refine I.write (x:=l) (e:=l) (by rw[hH]; exact trivial) (.inl rfl) (λb' u hb hu=>(Ex s.heap (By f) (Ld hb)).trans hu) ⟨_,q⟩ ?_
 exact ⟨hz,its',_,hv,q⟩
theorem Inv.lnew{its:List Value}{t':Nat}(I:Inv X pins σ H s)(hv:En ys its)(hz:ys.length<=Ap):Inv X pins σ (upd H s.heap.objs.size (.lst ys)) { s with heap:=s.heap.push { cls:=.type "list",data:=.seq its.toArray },toks:=t' } :=
 I.laid (λ_ _ q=>Ae _ q) (Ai _) ⟨hz,its,0,hv,Ar _ rfl⟩
theorem Inv.fresh(I:Inv X pins σ H s):H s.heap.objs.size=none:=I.hok.fresh (Ai _)
theorem Inv.lstM(I:Inv X pins σ H s)(hH:H l=some (.lst xs)):xs.length<=Ap/\∃(its:List Value) (n:Nat),En xs its/\xs.length=its.length/\s.heap.get? l=some { cls:=.type "list",data:=.seq its.toArray n }:=by
 obtain ⟨z,its,n,r,e⟩:=I.hok l _ hH
 exact ⟨z,its,n,r,r.length,e⟩
theorem fJ{n:Nat}(h:n<=Ap):Iv n=false:=by
 unfold Iv
 exact decide_eq_false (by omega)
end
section
variable{X:Cx}
def xR:V->List V->Hp->VK->Prop:=λx vs H Q=>∃l xs y,x=.ref l/\vs=[y]/\H l=some (.lst xs)/\xs.length<Ap/\Q .non (upd H l (.lst (xs++[y])))
theorem Qp:AD X "list.append" xR:=by
 intro pins s σ H x vs v us Q I rx rv h
 obtain ⟨l,xs,y,rfl,rfl,hH,hz,q⟩:=h
 cases rx
 obtain ⟨u,rfl,ru⟩:=rv.one
 obtain ⟨z,its,n,r,hl,e⟩:=I.lstM hH
 refine Zf F.slot_list_append ⟨_,e,rfl⟩ F.entry_list_append (F.args_list_append_2 _ _) (PySem.list_append l its.toArray n u (by rw[Am]; omega)) ⟨e,?_⟩
 refine ⟨.non,_,I.lset (its':=its++[u]) hH e (by simp) (r.append (.cons ru .nil)) ?_,rfl,q⟩
 rw[Cc,Lh]
 omega
def xM:V->List V->Hp->VK->Prop:=λx vs H Q=>∃l b xs zs,x=.ref l/\vs=[.ref b]/\H l=some (.lst xs)/\H b=some (.lst zs)/\xs.length+zs.length<=Ap/\Q .non (upd H l (.lst (xs++zs)))
theorem K3:AD X "list.extend" xM:=by
 intro pins s σ H x vs v us Q I rx rv h
 obtain ⟨l,b,xs,zs,rfl,rfl,hH,hB,hz,q⟩:=h
 cases rx
 obtain ⟨u,rfl,ru⟩:=rv.one
 cases ru
 obtain ⟨z,its,n,r,hl,e⟩:=I.lstM hH
 obtain ⟨z2,its2,n2,r2,hl2,e2⟩:=I.lstM hB
 have hsz:its.toArray.size+its2.toArray.size<=Ap:=by rw[Am,Am]; omega
 have hlong:¬ (!its.toArray.isEmpty && Iv (its.toArray.size+its2.toArray.size))=true:=by
  rw[fJ hsz,Bool.and_false]
  exact Bm
 refine Zf F.slot_list_extend ⟨_,e,rfl⟩ F.entry_list_extend (F.args_list_extend_2 _ _)
  (AutoSeq1.list_extend_list_list_0 l its.toArray n b its2.toArray n2 hlong (by rw[Am]; omega) (by omega)) ⟨e,e2,?_⟩
 refine ⟨.non,_,I.lset (its':=its++its2) hH e (by simp) (r.append r2) ?_,rfl,q⟩
 rw[Cc]
 omega
def M7:R2:=λx y H Q=>∃l b xs zs,x=.ref l/\y=.ref b/\H l=some (.lst xs)/\H b=some (.lst zs)/\xs.length+zs.length<=Ap/\∀p,H p=none->Q (.ref p) (upd H p (.lst (xs++zs)))
theorem iJ:Vk X (Hs .Add) M7:=by
 intro pins s σ H x y v u Q I rx ry h
 obtain ⟨l,b,xs,zs,rfl,rfl,hH,hB,hz,q⟩:=h
 cases rx
 cases ry
 obtain ⟨z,its,n,r,hl,e⟩:=I.lstM hH
 obtain ⟨z2,its2,n2,r2,hl2,e2⟩:=I.lstM hB
 refine PySem.P.add_list e e2 ?_ (by rw[Am,Am]; omega)
 have ea:its.toArray++its2.toArray=(its++its2).toArray:=by simp
 rw[ea]
 exact ⟨.ref _,_,I.lnew (t':=s.toks) (r.append r2) (by rw[Cc]; omega),rfl,q _ I.fresh⟩
def K7:R2:=λx y H Q=>∃l k xs,x=.ref l/\y=.int k/\H l=some (.lst xs) /\ -(2 ^ 63)<=k/\k<2 ^ 63/\xs.length * k.toNat<=Ap /\
 ∀p,H p=none->Q (.ref p) (upd H p (.lst (Cb k.toNat xs).flatten))
theorem kM{α:Type}(xs:List α)(k:Nat):(Cb k xs).flatten.length=k * xs.length:=by
 induction k with
 | zero=>simp
 | succ k ih=>rw[Ey,Gv,Cc,ih,Nat.succ_mul,Nat.add_comm]
theorem u0:Vk X (Hs .Mult) K7:=by
 intro pins s σ H x y v u Q I rx ry h
 obtain ⟨l,k,xs,rfl,rfl,hH,h1,h2,hz,q⟩:=h
 cases rx
 obtain ⟨t,rfl⟩:=ry
 obtain ⟨z,its,n,r,hl,e⟩:=I.lstM hH
 have hlen:its.toArray.size * k.toNat<=Ap:=by rw[Am,<- hl]; exact hz
 have hcap:¬ its.toArray.size * k.toNat > (2 ^ 63 - 1) / 8:=by
  have : (Ap:Nat)<=(2 ^ 63 - 1) / 8:=by decide
  omega
 have hfit:¬ (!Builtin.List.listFitsIndex k)=true:=by
  rw[fitsIndex_both h1 h2]
  exact Bm
 have hlong:¬ Iv (its.toArray.size * k.toNat)=true:=by
  rw[fJ hlen]
  exact Bm
 have hnew:List.foldl (λx1 x2=>x1++x2) #[] (Cb (if its.toArray.isEmpty=true then 0 else k.toNat) its.toArray)=(Cb k.toNat its).flatten.toArray:=by
  have f0:∀m:Nat,List.foldl (λx1 x2=>x1++x2) #[] (Cb m its.toArray)=(Cb m its).flatten.toArray:=λm=>by
   have:=foldl_rep its m []
   rw[Rj] at this
   exact this
  rw[f0]
  cases its with
  | nil=>simp
  | cons a r'=>rw[if_neg (by simp)]
 refine wpAny_binaryOp_repeat_ref (T := "list") (U := "int") (by decide) ⟨_,e,rfl⟩ (λs'=>typeIs_int s' k t) noFill_list_mul F.fills_int_mul F.slot_int_rmul repeat_list F.slot_int_index.lookup
  (Zf F.slot_int_rmul (typeIs_int s k t) F.entry_int_rmul (F.args_int_rmul_2 _ _) (int___rmul___int_list k t l its.toArray n)
   ⟨e,rfl,⟨_,e,rfl⟩,Zf F.slot_list_mul ⟨_,e,rfl⟩ F.entry_list_mul (F.args_list_mul_2 _ _) (AutoListH.list___mul___list_int_3 l its.toArray n k t hfit hcap hlong) ⟨e,?_⟩⟩)
 rw[hnew]
 exact ⟨.ref _,_,I.lnew (t':=s.toks) (r.rep k.toNat) (by rw[kM,Nat.mul_comm]; exact hz),rfl,q _ I.fresh⟩
end
end L2
namespace Att
open PySem PySem.W PySem.Calls PyProof.Rows
theorem Vu{P:Params}{h:Heap}:∀(ns:List Int) (vs:List Value),WellAll P h vs (ns.map WData.int)->Jj vs ns:=by
 intro ns
 induction ns with
 | nil =>
  intro vs w
  rw[Ji] at w
  cases w
  exact .nil
 | cons n ns ih =>
  intro vs w
  rw[Au] at w
  cases w with
  | cons a b =>
   cases a
   exact .cons _ _ (ih _ b)
theorem nA{l:OpenLaw}{n:Nat}(hn:l.most=some n){P:Params}{h:Heap}{args:List WData}{vals:List Value}(hpre:l.row.toRowW.claim.pre args=true)(hwl:WellAll P h vals args):∃a vs ns,vals=[Ax a]/\args=[WData.list (ns.map WData.int)]/\h.get? a=some { cls:=.type "list",data:=.seq vs.toArray }/\Jj vs ns/\ns.length<=n:=by
 have hsh:WShape.hasAll [] args [.list .int]=true:=(pre_splitW hpre).1
 have hc:l.pre.holds [] { args:=args }=true:=(pre_splitW hpre).2
 obtain ⟨d,r,rfl,h1,h2⟩:=hasAllW_cons hsh
 obtain rfl:=hasAllW_nil h2
 obtain ⟨xs,rfl,h3⟩:=hasW_list h1
 obtain ⟨ns,rfl⟩:=items_int h3
 have hlen:ns.length<=n:=by
  unfold OpenLaw.pre at hc
  have h4:(WTm.not (.lt (.lit (.int (n:Int))) (.len (.arg 0)))).holds [] { args:=[.list (ns.map .int)] }=true:=by
   have h4:=(holds_andW hc).1
   rw[hn] at h4
   exact h4
  have h5:=condW_of h4 (w_not (w_lt w_lit (w_len_list (w_arg rfl))))
  rw[Ac] at h5
  refine Nat.le_of_not_lt λq=>?_
  have q':(n:Int)<((ns.length:Nat):Int):=by omega
  first
   | (rw[decide_eq_true q'] at h5; exact absurd h5 (by decide))
   | (simp at h5; omega)
 cases hwl with
 | cons w1 w2 =>
  cases w2
  cases w1 with
  | list ho hall=>exact ⟨_,_,ns,rfl,rfl,ho,Vu ns _ hall,hlen⟩
theorem nP(l:OpenLaw)(args:List WData):l.row.toRowW.claim.post args (.bool true) args=true :=
 postW_of (r:=l.row.toRowW) (X:=(true == true))
  (show WShape.has [] (.bool true) .bool=true by first | rfl | decide | simp [WShape.has,WShape.arms,WShape.armsAll])
  (show (WTm.eq .res (.lit (.bool true))).value [] { args:=args,res:=some (.bool true),after:=args }=some (.bool (true == true)) from w_eq_bool (w_res rfl) w_lit) rfl
theorem attach_call{l:OpenLaw}{n:Nat}{q:Bo}{loose:List Str}{XP:(Str->Option Value)->Heap->Prop}{YP:World->Heap->Prop}{d:DefRec}(hn:l.most=some n)(hdf:d.params.defaults=[])(call:∀(w:World) (s₀ s₁:Ag) (mg mb:Str->Option Value) (fa:Addr) (o:Obj) (pm cd doc:Value) (a:Addr) (vs:List Value) (ns:List Int),Ground q loose [] XP w s₀ mg mb s₁.heap->YP w s₁.heap->s₁.heap.get? fa=some o->o.data=.func (docDef d.name d.params d.body d.scope pm cd doc)->s₁.heap.CodeRec cd d.name->mg d.name=some (.ref fa)->s₁.heap.get? a=some { cls:=.type "list",data:=.seq vs.toArray }->Jj vs ns->ns.length<=n->s₁.gens=#[]->Mr (model l.prog w) Vz (.call (.ref fa) ⟨[.ref a],[]⟩) (λr s'=>r=.ok (.ret (.bool true))/\OldK s₁.heap s'.heap/\s'.os=s₁.os/\Qo s'.gens) s₁):WalkO q loose XP YP l.row.toRowW d [] (λf vs=>PySem.call f vs):=by
 intro w s₀ s₁ mg mb G Y fa o pm cd doc dV kV ho hd hcd hD hmg hg args vals as hpre hlay hrd hwl hlo
 obtain rfl:dV=.none:=Dflts.none hD hdf
 obtain rfl:kV=.none:=Dflts.noKw hD
 obtain ⟨a,vs,ns,rfl,rfl,hobj,hints,hlen⟩:=nA hn hpre hwl
 refine enter_call (bL (call w s₀ s₁ mg mb fa o pm cd doc a vs ns G Y ho (fd_plain hd) hcd hmg hobj hints hlen hg) λr s' hq=>?_)
 obtain ⟨rfl,h2,h3,h4⟩:=hq
 exact ⟨.inl ⟨.bool true,.bool true,[],rfl,λ_=>rfl,.bool true,nP l _,λ_=>⟨Jp,λ_ hm=>(nomatch hm)⟩⟩,h2,h3,h4⟩
end Att
namespace L2
open PySem PySem.Spec PyProof.Rows
theorem aX:∀{vs:List Value} {ns:List Int},Jj vs ns->En (ns.map V.int) vs
 | _,_,.nil=>.nil
 | _,_,.cons n t h=>.cons ⟨t,rfl⟩ (aX h)
def Mt(s:Stmt):Ru:=match s with
 | .FunctionDef _ a _ _ _ _ _ _ _ _=>a
 | _=>{ posonlyargs:=[],args:=[],vararg:=none,kwonlyargs:=[],kw_defaults:=[],kwarg:=none,defaults:=[] }
def Hr(s:Stmt):List Stmt:=match s with
 | .FunctionDef _ _ b _ _ _ _ _ _ _=>b
 | _=>[]
def Bu(s:Stmt):Scope:=match s with
 | .FunctionDef _ _ _ _ _ _ sc _ _ _=>sc
 | _=>{ kind:=.function,names:=[],isGenerator:=false,isCoroutine:=false }
abbrev Jg:pF:=λ_ _ _ _ _ _=>False
abbrev E0:XK:=λ_ _ _=>False
theorem Kk{X:Cx}:Pq Jg X E0:=λ_ _ _ _ _ _ _ h=>h.elim
structure Fun(K:PySem.W.Frag)(x qual:Str)(st:Stmt)(f:Addr)(fd:Cm):Prop where
 ex:∃(oc:Value) (od:Option Addr) (kV doc pm:Value) (an:Option Addr) (cdv ct:Value) (osl:Array (Option Value)),
  fd=PySem.W.fnOf x qual (Mt st) (Hr st) (Bu st) .none kV doc pm an cdv ct/\K.lookup f=some ⟨oc,od,.func fd,osl⟩/\PySem.W.codeIn K cdv qual=true
 kp:PySem.W.keepIn K (.ref f)=true
section
variable{P:Bo}{w:World}{K:PySem.W.Frag}{mg:Str->Option Value}{base:Heap}
theorem Fun.ok{x qual:Str}{st:Stmt}{f:Addr}{fd:Cm}{N ps:List Str}{k:Nat}{sp:Sp}(F:Fun K x qual st f fd)(S:FnScope N ps (Bu st))(len:∀vs H Q E,sp vs H Q E->vs.length=ps.length)(hbody:∀(cdv:Value) (A:Co) (outer:List Env) (s:Ag) (H:Hp) (vs:List V) (Q:VK) (E:XK),Room k (A.deeper (envOfC qual (Bu st) s.heap.objs.size f cdv))->sp vs H Q E->∃t,jB (Nz Jg P w K mg base N qual (Bu st) f cdv A outer s H E).nox (Hr st) t/\t { nx:=λ_ H'=>Q .non H',rt:=Q } (start N vs) H):FnOk P w K mg base Jg (k+1) f fd ps sp:=by
 obtain ⟨oc,od,kV,doc,pm,an,cdv,ct,osl,rfl,lk,hcd⟩:=F.ex
 refine i6 lk hcd S len λA outer s H vs Q E hr hsp=>?_
 obtain ⟨t,h,q⟩:=hbody cdv A outer s H vs Q E hr hsp
 exact ⟨t,h.nox,q⟩
theorem Fun.binds{x qual:Str}{st:Stmt}{f:Addr}{fd:Cm}{ps:List Str}(F:Fun K x qual st f fd)(h:∀(kV doc pm:Value) (an:Option Addr) (cdv ct:Value) (us:List Value),us.length=ps.length->bindArgs (PySem.W.fnOf x qual (Mt st) (Hr st) (Bu st) .none kV doc pm an cdv ct) ⟨us,[]⟩=pure (ps.zip us)):Binds K fd ps []:=by
 obtain ⟨oc,od,kV,doc,pm,an,cdv,ct,osl,rfl,lk,hcd⟩:=F.ex
 exact .all (h kV doc pm an cdv ct)
theorem uU{x qual:Str}{st:Stmt}{f:Addr}{oc:Value}{od an:Option Addr}{osl:Array (Option Value)}{kV doc pm cdv ct:Value}(l:K.lookup f=some ⟨oc,od,.func (PySem.W.fnOf x qual (Mt st) (Hr st) (Bu st) .none kV doc pm an cdv ct),osl⟩)(c:PySem.W.codeIn K cdv qual=true)(k:PySem.W.keepIn K (.ref f)=true):Fun K x qual st f (PySem.W.fnOf x qual (Mt st) (Hr st) (Bu st) .none kV doc pm an cdv ct):=⟨⟨oc,od,kV,doc,pm,an,cdv,ct,osl,rfl,l,c⟩,k⟩
end
theorem aH{n:Nat}(h:n<=1000):n<Ap:=Ht h (by decide)
section
variable{X:Cx}
theorem pv(i:Nat){x:Str}{pos:Pos}(hN:X.N[i]? = some x:=by rfl)(hv:U7 X.env.scope x:=by first | exact Ej rfl | exact Tz (Ej rfl) | exact Tz (Tz rfl))(hd:(x == ("__debug__" : Str))=false:=by decide)(hcd:(x == ("__classdict__" : Str))=false:=by decide):PE X (.Name x pos) (Xy i):=G5 hN hv hd hcd
end
theorem xD{A B:Prop}(h:B):if false=true then A else B:=by
 rw[if_neg Bm]
 exact h
theorem tQ{A B:Prop}(h:A):if true=true then A else B:=by
 rw[if_pos rfl]
 exact h
theorem T6{c A B:Prop}[Decidable c](h1:c->A)(h2:¬ c->B):if c then A else B:=by
 by_cases h:c
 ·rw[if_pos h]
  exact h1 h
 ·rw[if_neg h]
  exact h2 h
def La(H H':Hp):Prop:=∀b o,H b=some o->H' b=some o
theorem La.refl(H:Hp):La H H:=λ_ _ h=>h
theorem La.trans{H H1 H2:Hp}(a:La H H1)(b:La H1 H2):La H H2:=λc o h=>b c o (a c o h)
theorem La.free{H H':Hp}(e:La H H'){l:Addr}(h:H' l=Nr):H l=Nr:=by
 cases q:H l with
 | none=>rfl
 | some o =>
  rw[e l o q] at h
  cases h
end L2
namespace Nd
open PySem PySem.Spec PyProof.Rows L2
def Et(X:Cx)(scope:Scope)(cl:List (Str×Addr))(N:List Str)(fp:List Addr)(s:Ag)(H:Hp):Cx where
 prog:=X.prog
 w:=X.w
 K:=X.K
 mg:=X.mg
 base:=X.base
 A:=X.A
 N:=N
 s₀:=s
 H₀:=H
 env:=compEnvC scope (Ec (s.heap.objs.size+1) scope.names cl) s.heap.objs.size X.env
 outer:=X.stack
 stack:=X.stack
 ex:=fp
 fn:=λy=>decide (scope.names.lookup y=some Dn)
 calm:=X.calm
 pn:=[]
 xe:=λ_ _=>False
section
variable{prog:Bo}{w:World}{A:Co}{R:Result->Ag->Prop}{s:Ag}
theorem Rw{elt tg iter:Expr}{ifs:List Expr}{scope:Scope}{pos:Pos}{it acc:Value}{env:Env}(J:Nat->Ag->Prop) (turn:∀n s,J n s->wpAny (model prog w) A (Ju it) (λr s1=>match r with
    | none=>R (.ok .next) s1
    | some v=>wpAny (model prog w) A (Tw tg it v) (λ_ s2=>wpAny (model prog w) A (Vp tg env v) (λ_ s3 =>
      wpAny (model prog w) A (forIn ifs true λc r=>if r=true then (do
        let ok <- isTrue c env (eval c env)
        pure (Er ok)) else pure (Er r)) (λok s4 =>
       if ok=true then
        wpAny (model prog w) A (eval elt env) (λx s5=>wpAny (model prog w) A (call (.builtin "list.append") [acc,x]) (λ_ s6=>∃m,m<n/\J m s6) (λ_ _=>False) s5) (λ_ _=>False) s4
       else ∃m,m<n/\J m s4) (λ_ _=>False) s3) (λ_ _=>False) s2) (λ_ _=>False) s1) (λ_ _=>False) s)
  (n:Nat) (h:J n s):Mr (model prog w) A (.compLoop (.ListComp elt [⟨tg,iter,ifs,0⟩] scope pos) 0 it acc env) R s:=by
 refine codeAny_loop rfl J (λn s hJ=>?_) n h
 show wpAny _ A (Sem.onRaise (compTurn (.ListComp elt [⟨tg,iter,ifs,0⟩] scope pos) 0 it acc env) (λx=>do noteFrame x env; theTreesLotGoes x)) _ _ s
 refine wpAny_noted ?_
 rw[compTurn_list]
 refine Aa (wpAny_standAt (Aa (Eh (turn n s hJ) (λr s1 h1=>?_) λ_ _ z=>z.elim)))
 cases r with
 | none=>exact Aj h1
 | some v =>
  refine Aa (Eh h1 (λ_ s2 h2=>?_) λ_ _ z=>z.elim)
  refine Aa (Eh h2 (λ_ s3 h3=>?_) λ_ _ z=>z.elim)
  refine Aa (Eh h3 (λok s4 h4=>?_) λ_ _ z=>z.elim)
  cases ok with
  | false=>exact Aj ⟨rfl,h4⟩
  | true =>
   refine Aa (Aa (Eh h4 (λx s5 h5=>?_) λ_ _ z=>z.elim))
   exact Aa (Eh h5 (λ_ s6 h6=>Aj (Aj ⟨rfl,h6⟩)) λ_ _ z=>z.elim)
end
section
variable{X:Cx}{pins:List (Addr×Obj)}{σ:L2.St}{H:Hp}{s:Ag}{scope:Scope}{cl:List (Str×Addr)}{fp:List Addr}{N:List Str}
def pV(scope:Scope)(x:Str):Prop:=scope.names.lookup x=some .local\/scope.names.lookup x=some .cell
structure CompScope(X:Cx)(scope:Scope)(cl:List (Str×Addr))(x:Str)(ys:List Str)(js:List Nat):Prop where
 clos:Ze scope X.env=pure cl
 oc:(∀y∈scope.names,y.2≠.cell)\/∃z:Str,(∀n,Ec n scope.names []=[(z,n)])/\scope.names.lookup z=some .cell/\∀y∈scope.names,y.2=.cell->y.1=z
 kind:scope.kind=.function
 locs:∀y∈scope.names,y.2=.local->scope.names.lookup y.1=some .local
 own:pV scope x
 sub:∀y c,cl.lookup y=some c->X.env.cells.lookup y=some c
 has_:(scope.names.all λy=>!(y.2 == Dm) || (cl.lookup y.1).isSome)=true
 nd:(x::ys).Nodup
 len:ys.length=js.length
 at_:∀(k:Nat) (y:Str) (j:Nat),ys[k]? = some y->js[k]? = some j->X.N[j]? = some y/\scope.names.lookup y=some .free/\(X.env.kindOf y=some .cell\/X.env.kindOf y=some .free)
theorem CompScope.has{x:Str}{ys:List Str}{js:List Nat}(C:CompScope X scope cl x ys js):∀y∈scope.names,y.2=.free->(cl.lookup y.1).isSome=true:=λy hy e=>by
 have h:=List.all_eq_true.mp C.has_ y hy
 rw[e] at h
 simpa using h
theorem Xh{x y:Str}{j:Nat}(clos:Ze scope X.env=pure cl)(nocell:∀y∈scope.names,y.2≠.cell)(kind:scope.kind=.function)(locs:∀y∈scope.names,y.2=.local->scope.names.lookup y.1=some .local)(own:scope.names.lookup x=some .local)(sub:∀y c,cl.lookup y=some c->X.env.cells.lookup y=some c)(has_:(scope.names.all λy=>!(y.2 == Dm) || (cl.lookup y.1).isSome)=true)(nd:[x,y].Nodup)(hN:X.N[j]? = some y)(hfree:scope.names.lookup y=some .free)(hk:X.env.kindOf y=some .cell):CompScope X scope cl x [y] [j] :=
 ⟨clos,.inl nocell,kind,locs,.inl own,sub,has_,nd,rfl,λk z i e1 e2=>by
  cases k with
  | zero =>
   have h1:y=z:=by simpa using e1
   have h2:j=i:=by simpa using e2
   subst h1 h2
   exact ⟨hN,hfree,.inl hk⟩
  | succ k=>simp at e1⟩
theorem Qb{env:Env}{y:Str}{k:Nf}:∀{names:List (Str×Nf)},
  (names.map λ(n,k)=>if (k == Dm && env.scope.kind == .function && env.kindOf n == some .cell) then (n,Dn) else (n,k)).lookup y=some k ->
  ∃k0,names.lookup y=some k0/\(k=k0\/(k0=.free/\k=.cell))
 | [],h=>by simp at h
 | (n,k0)::r,h=>by
  have ih:=@Qb env y k r
  rw[Au] at h
  by_cases hc:(k0 == Dm && env.scope.kind == .function && env.kindOf n == some .cell)=true
  ·have h':Ki y ((n,Dn)::(r.map λ(n,k)=>if (k == Dm && env.scope.kind == .function && env.kindOf n == some .cell) then (n,Dn) else (n,k)))=some k:=by
    simpa [hc] using h
   cases hy:y == n with
   | true =>
    rw[Bv,hy] at h'
    have e:k=Dn:=by simpa using h'.symm
    refine ⟨k0,by rw[Bv,hy],.inr ⟨?_,e⟩⟩
    rw[Dq,Dq] at hc
    exact Ds hc.1.1
   | false =>
    rw[Bv,hy] at h'
    obtain ⟨q,e1,e2⟩:=ih h'
    exact ⟨q,by rw[Bv,hy]; exact e1,e2⟩
  ·have h':Ki y ((n,k0)::(r.map λ(n,k)=>if (k == Dm && env.scope.kind == .function && env.kindOf n == some .cell) then (n,Dn) else (n,k)))=some k:=by
    simpa [hc] using h
   cases hy:y == n with
   | true =>
    rw[Bv,hy] at h'
    exact ⟨k0,by rw[Bv,hy],.inl (by simpa using h'.symm)⟩
   | false =>
    rw[Bv,hy] at h'
    obtain ⟨q,e1,e2⟩:=ih h'
    exact ⟨q,by rw[Bv,hy]; exact e1,e2⟩
theorem Te{env:Env}{y:Str}:∀{names:List (Str×Nf)},names.lookup y=some .free ->
  (names.map λ(n,k)=>if (k == Dm && env.scope.kind == .function && env.kindOf n == some .cell) then (n,Dn) else (n,k)).lookup y=some .cell \/
  (names.map λ(n,k)=>if (k == Dm && env.scope.kind == .function && env.kindOf n == some .cell) then (n,Dn) else (n,k)).lookup y=some .free
 | [],h=>by simp at h
 | (n,k0)::r,h=>by
  have ih:=@Te env y r
  show Ki y ((if (k0 == Dm && env.scope.kind == .function && env.kindOf n == some .cell)=true then (n,Dn) else (n,k0))::_)=_\/Ki y ((if (k0 == Dm && env.scope.kind == .function && env.kindOf n == some .cell)=true then (n,Dn) else (n,k0))::_)=_
  by_cases hc:(k0 == Dm && env.scope.kind == .function && env.kindOf n == some .cell)=true
  ·rw[if_pos hc]
   cases hy:y == n with
   | true=>exact .inl (by rw[Bv,hy])
   | false =>
    rw[Bv,hy] at h
    simp only[Bv,hy]
    exact ih h
  ·rw[if_neg hc]
   cases hy:y == n with
   | true =>
    rw[Bv,hy] at h
    exact .inr (by rw[Bv,hy]; exact h)
   | false =>
    rw[Bv,hy] at h
    simp only[Bv,hy]
    exact ih h
theorem Fk{α β:Type}[BEq α][LawfulBEq α]{y:α}{k:β}:∀{l:List (α×β)},l.lookup y=some k->(y,k)∈l
 | [],h=>by simp at h
 | (n,v)::r,h=>by
  cases hy:y == n with
  | true =>
   rw[Bv,hy] at h
   have e:=Ds hy
   subst e
   have : v=k:=by simpa using h
   subst this
   exact Ab
  | false =>
   rw[Bv,hy] at h
   exact Af _ (Fk h)
end
theorem cX{a c:Nat}(h:c<a)(e:c=a+1):False:=by omega
theorem Hk:∀(names:List (Str×Nf)) (n:Nat) (acc:List (Str×Addr)),Ec n names acc=Ec n names []++acc
 | [],_,_=>rfl
 | (x,k)::r,n,acc=>by
  unfold Ec
  by_cases h:(k == Dn)=true
  ·rw[if_pos h,if_pos h,Hk r _ ((x,n)::acc),Hk r _ [(x,n)],Cj]; rfl
  ·rw[if_neg h,if_neg h]; exact Hk r n acc
theorem Mj:∀(names:List (Str×Nf)) (n:Nat) (acc:List (Str×Addr)),(∀y∈names,y.2≠.cell)->Ec n names acc=acc
 | [],_,_,_=>rfl
 | (x,k)::r,n,acc,h=>by
  unfold Ec
  rw[if_neg (by have:=h (x,k) Ab; simpa using this)]
  exact Mj r n acc λy hy=>h y (Af _ hy)
theorem To{env:Env}{y:Str}:∀{names:List (Str×Nf)},names.lookup y=some .cell->(names.map λ(n,k)=>if (k == Dm && env.scope.kind == .function && env.kindOf n == some .cell) then (n,Dn) else (n,k)).lookup y=some .cell
 | [],h=>by simp at h
 | (n,k0)::r,h=>by
  have ih:=@To env y r
  show Ki y ((if (k0 == Dm && env.scope.kind == .function && env.kindOf n == some .cell)=true then (n,Dn) else (n,k0))::_)=_
  by_cases hc:(k0 == Dm && env.scope.kind == .function && env.kindOf n == some .cell)=true
  ·rw[if_pos hc]
   cases hy:y == n with
   | true=>rw[Bv,hy]
   | false=>rw[Bv,hy] at h ⊢; exact ih h
  ·rw[if_neg hc]
   cases hy:y == n with
   | true=>rw[Bv,hy] at h ⊢; exact h
   | false=>rw[Bv,hy] at h ⊢; exact ih h
theorem Wg{env:Env}{scope:Scope}{x:Str}(o:pV scope x):Loc (relabel scope env) x:=o.imp lookup_relabel_local To
section
variable{X:Cx}{scope:Scope}{cl:List (Str×Addr)}{x y:Str}{ys:List Str}{js:List Nat}{n c:Nat}{N:List Str}{fp:List Addr}{s:Ag}{H:Hp}
theorem dF(o:pV scope x):(Et X scope cl N fp s H).fn x=true\/(Et X scope cl N fp s H).env.scope.names.lookup x=some .local:=by
 rcases o with o | o
 ·exact .inr (lookup_relabel_local o)
 ·exact .inl (decide_eq_true o)
theorem CompScope.split(C:CompScope X scope cl x ys js)(h:(Ec n scope.names cl).lookup y=some c):cl.lookup y=some c\/(c=n/\Ec 0 scope.names []=[(y,0)]/\Ec n scope.names []=[(y,n)]/\scope.names.lookup y=some .cell):=by
 rcases C.oc with o | ⟨z,o1,o2,_⟩
 ·rw[Mj _ _ _ o] at h; exact .inl h
 ·rw[Hk,o1] at h
  have h2:Ki y ((z,n)::cl)=some c:=h
  rw[Bv] at h2
  cases e:y == z with
  | true =>
   rw[e] at h2
   have ec:c=n:=(Bk h2).symm
   have ey:=Ds e
   subst ey
   exact .inr ⟨ec,o1 0,o1 n,o2⟩
  | false=>rw[e] at h2; exact .inl h2
theorem CompScope.find(C:CompScope X scope cl x ys js)(h:cl.lookup y=some c)(hy:scope.names.lookup y=some .free):(Ec n scope.names cl).lookup y=some c:=by
 rcases C.oc with o | ⟨z,o1,o2,_⟩
 ·rw[Mj _ _ _ o]; exact h
 ·rw[Hk,o1]
  show Ki y ((z,n)::cl)=some c
  rw[Bv]
  cases e:y == z with
  | true=>rw[Ds e,o2] at hy; cases hy
  | false=>exact h
theorem CompScope.cellAt(C:CompScope X scope cl x ys js)(hy:(y,Dn)∈scope.names):(Ec n scope.names cl).lookup y=some n:=by
 rcases C.oc with o | ⟨z,o1,o2,o3⟩
 ·exact absurd rfl (o _ hy)
 ·have ez:y=z:=o3 _ hy rfl
  subst ez
  rw[Hk,o1]
  show Ki y ((y,n)::cl)=some n
  rw[Bv,beq_self_eq_true]
theorem Ug{M:Model}{A:Co}{E:Value->Ag->Prop}{Q:Env->Ag->Prop}(C:CompScope X scope cl x ys js)(hQ:∀h4,h4.Ns s.heap.objs.size (λ_=>none)->(∀b u,s.heap.get? b=some u->h4.get? b=some u)->(∀z n,Ec (s.heap.objs.size+1) scope.names []=[(z,n)]->h4.IsCell n none)->Q (newEnv scope s.heap.objs.size X.env.globals (Ec (s.heap.objs.size+1) scope.names cl) X.env.qual none .none (some X.env) Sq) { s with heap:=h4,toks:=s.toks+([]:List (Str×Value)).length }):wpAny M A (Pe scope X.env.globals cl [] X.env.qual none .none (some X.env)) Q E s:=by
 simp only[Pe,Option.isSome_some,if_true]
 refine Aa (wpAny_alloc (Aa (wpAny_layCells _ (λx k cs=>by cases e:k == Dn <;> simp [e]) _ _ _ _ ?_)))
 have hsz:({ s with heap:=s.heap.push { cls:=.type "dict",data:=.dict #[] } }:Ag).heap.objs.size=s.heap.objs.size+1:=Hg ..
 rw[hsz]
 refine Aa (Aj (Aj (hQ _ ((Heap.Ns.new s.heap (.type "dict")).keeps (pushCells_keeps _ _)) (λb u e=>pushCells_keeps _ _ b u (Ae _ e)) λz n e=>?_)))
 have ok:=(cellsFrom_ok scope.names (s.heap.push { cls:=.type "dict",data:=.dict #[] }) 0 [] ⟨λ_ _ hm=>(nomatch hm),Jp⟩ (Ct _)).empty z n
 rw[show (s.heap.push { cls:=.type "dict",data:=.dict #[] }).objs.size=s.heap.objs.size+1 from hsz,e] at ok
 exact (ok (Ah.mpr rfl)).1
end
section
variable{X:Cx}{pins:List (Addr×Obj)}{σ:L2.St}{H:Hp}{s:Ag}{scope:Scope}{cl:List (Str×Addr)}{fp:List Addr}{N:List Str}
theorem yR{x:Str}{ys:List Str}{js:List Nat}(C:CompScope X scope cl x ys js)(I:Inv X pins σ H s)(hf:∀b∈fp,Lk X pins H b)(ho:∀b∈fp,∃o,s.heap.get? b=some o):(Et X scope cl N fp s H).Ok where
 mod:=I.ok.mod
 kind:=C.kind
 glob:=I.ok.glob
 blt:=I.ok.blt
 above:=Ai _
 inj:=λy z c h1 h2=>by
  have lt:∀y,cl.lookup y=some c->c<s.heap.objs.size:=λy e=>let ⟨_,q⟩:=I.cell y c (C.sub y c e); q.lt
  rcases C.split h1 with h1 | ⟨e1,a1,_⟩
  ·rcases C.split h2 with h2 | ⟨e2,_⟩
   ·exact I.ok.inj y z c (C.sub y c h1) (C.sub z c h2)
   ·exact (cX (lt y h1) e2).elim
  ·rcases C.split h2 with h2 | ⟨e2,a2,_⟩
   ·exact (cX (lt z h2) e1).elim
   ·rw[a1] at a2
    simpa using a2
 has:=λy hy=>by
  have key:∀k,(k=Dn\/k=Dm)->(compEnvC scope cl s.heap.objs.size X.env).kindOf y=some k->∃c,(Ec (s.heap.objs.size+1) scope.names cl).lookup y=some c:=by
   intro k hk e
   obtain ⟨k0,e0,e1⟩:=Qb (names:=scope.names) (env:=X.env) (y:=y) (k:=k) e
   have m:=Fk e0
   by_cases hk0:k0=.cell
   ·exact ⟨_,C.cellAt (hk0▸m)⟩
   have hfree:k0=.free:=by
    rcases e1 with e1 | e1
    ·subst e1
     rcases hk with hk | hk
     ·exact absurd hk hk0
     ·exact hk
    ·exact e1.1
   obtain ⟨c,hc⟩:=Oe.mp (C.has _ m hfree)
   exact ⟨c,C.find hc (hfree▸e0)⟩
  rcases hy with hy | hy
  ·exact key _ (.inl rfl) hy
  ·exact key _ (.inr rfl) hy
 cab:=λy c h e=>by
  have h:scope.names.lookup y=some .cell:=of_decide_eq_true h
  have:=(C.cellAt (n:=s.heap.objs.size+1) (Fk h)).symm.trans e
  show s.heap.objs.size<=c
  have:=Bk this
  omega
 hd:=I.ok.hd
 frames:=I.ok.frames
 stk:=.inl rfl
 exf:=λb hb=>by
  obtain ⟨o,e⟩:=ho b hb
  refine ⟨Br (Ba e),λy c hc=>?_⟩
  rcases C.split hc with hc | ⟨hc,_⟩
  ·exact (hf b hb).2.2.2.2.1 y c (C.sub y c hc)
  ·exact λz=>cX (Ba e) (z.symm.trans hc)
 bs:=I.bs
 bsz:=Ca I.ok.bsz I.sz
 noex:=λb o e hb=>by
  rcases (hf b hb).2.2.2.1 with z | z
  ·exact I.ok.noex b o e z
  ·exact absurd (Cd (Ba (I.ok.bs b o e).1) z) (Ew _)
 exfs:=λb hb z=>by
  rcases Ak.mp (I.stkSub b z) with e | e
  ·exact (hf b hb).2.1 e
  ·exact (hf b hb).2.2.1 e
 funs:=I.stack
 frf:=I.stkFree
 tab:=I.ok.tab.un I.base
def Gc(σ:L2.St)(js:List Nat):L2.St:=js.map λj=>(σ[j]?).join
theorem Sb{x:Str}{pre ys:List Str}{js:List Nat}{h1:Heap}{tk:Nat}{m1:Str->Option Value}(C:CompScope X scope cl x ys js)(I:Inv X pins σ H s)(hf:∀b∈fp,Lk X pins H b)(ho:∀b∈fp,∃o,s.heap.get? b=some o)(hns:h1.Ns s.heap.objs.size m1)(keep:∀b u,s.heap.get? b=some u->h1.get? b=some u)(new:∀z n,Ec (s.heap.objs.size+1) scope.names []=[(z,n)]->h1.IsCell n none):Inv (Et X scope cl (pre++ys) fp s H) [] (pre.map (λ_=>none)++Gc σ js) H { s with heap:=h1,toks:=tk }:=by
 have cellK:∀y c,cl.lookup y=some c->∃v,s.heap.IsCell c v/\h1.IsCell c v:=λy c e=>by
  obtain ⟨v,o,q,d⟩:=I.cell y c (C.sub y c e)
  exact ⟨v,⟨o,q,d⟩,o,keep c o q,d⟩
 refine ⟨yR C I hf ho,rfl,I.bare,Un.kept keep,⟨m1,hns,λi y v e1 e2 _=>?_⟩,λy c e=>?_,I.hok.fresh (Ai _),λy c e=>?_,λp hp=>?_,I.hok.kept keep,?_⟩
 ·have e2:(pre.map (λ_=>(none:Option V))++Gc σ js)[i]? = some (some v):=e2
  have e1:(pre++ys)[i]? = some y:=e1
  by_cases hi:i<pre.length
  ·rw[Jn (by rw[Ac]; exact hi),Aw] at e2
   cases q:pre[i]? with
   | none=>rw[q] at e2; cases e2
   | some z=>rw[q] at e2; cases e2
  ·rw[Gh (by rw[Ac]; omega),Ac] at e2
   rw[Gh (by omega)] at e1
   have e1':=e1
   have e2':=e2
   generalize i - pre.length=k at e1' e2'
   unfold Gc at e2'
   rw[Aw] at e2'
   cases ej:js[k]? with
   | none=>rw[ej] at e2'; simp at e2'
   | some j =>
    rw[ej] at e2'
    have e3:(σ[j]?).join=some v:=by simpa using e2'
    have e4:σ[j]? = some (some v):=by
     cases q:σ[j]? with
     | none=>rw[q] at e3; simp at e3
     | some z=>rw[q] at e3; simp at e3; rw[e3]
    obtain ⟨a1,a2,a3⟩:=C.at_ k y j e1' ej
    obtain ⟨m0,_,hl⟩:=I.loc
    have vis:U7 X.env.scope y:=a3.elim (λa3=>.inr (.inl a3)) λa3=>.inr (.inr a3)
    obtain ⟨u,r,l⟩:=hl j y v a1 e4 vis
    refine ⟨u,r,?_⟩
    rcases l with ⟨k1,_⟩ | ⟨_,c,hc,hv⟩
    ·rcases a3 with a3 | a3 <;> rw[k1] at a3 <;> cases a3
    ·obtain ⟨c',hc'⟩:=Oe.mp (C.has _ (Fk a2) rfl)
     have ec:c'=c:=by
      have:=C.sub y c' hc'
      rw[hc] at this
      exact (Bk this).symm
     subst ec
     obtain ⟨o,q,d⟩:=hv
     exact .inr ⟨Te a2,c',C.find hc' a2,o,keep c' o q,d⟩
 ·rcases C.split e with e | ⟨e,_,e',_⟩
  ·obtain ⟨v,_,z⟩:=cellK y c e
   exact ⟨v,z⟩
  ·exact ⟨_,e▸new _ _ e'⟩
 ·rcases C.split e with e | ⟨e,_⟩
  ·exact I.freeC y c (C.sub y c e)
  ·exact I.hok.fresh (by omega)
 ·cases (show p∈([]:List (Addr×Obj)) from hp)
 ·show (pre.map (λ_=>(none:Option V))++Gc σ js).length=(pre++ys).length
  simp [Gc,C.len]
end
section
variable{X:Cx}
def zZ(J:It)(js:List Nat)(tc:TT)(te:TE)(σ:L2.St)(H1:Hp)(Q:VK):Prop:=∀D,H1 D=none->∃W:Nat->Nat->Hp->Prop,(∃m,W 0 m (upd H1 D (.lst [])))/\∀i m H,W i m H ->
 (J.stop i H/\Q (.ref D) H)\/(J.go i H/\∀x H',J.yld i H x H'->∃(N1:Hp->Prop) (N2:VK),(∀H2,N1 H2->∃m',m'<m/\W (i+1) m' H2) /\
  (∀y H3,N2 y H3->∃acc,H3 D=some (.lst acc)/\acc.length<Ap/\∃m',m'<m/\W (i+1) m' (upd H3 D (.lst (acc++[y])))) /\
  tc (some x::Gc σ js) H' λc H2=>if c=true then te (some x::Gc σ js) H2 N2 else N1 H2)
def mJ(wi:TI)(js:List Nat)(tc:TT)(te:TE):TE:=λσ H Q=>wi σ H λJ H1=>zZ J js tc te σ H1 Q
def Wm:TT:=λ_ H Q=>Q true H
theorem rW{σ:L2.St}{H:Hp}{te:TE}{N1:Hp->Prop}{N2:VK}{σ':L2.St}(h:te σ' H N2):Wm σ H λc H2=>if c=true then te σ' H2 N2 else N1 H2:=by
 show if true=true then te σ' H N2 else N1 H
 exact tQ h
def pG(X:Cx)(ifs:List Expr)(t:TT):Prop :=
 ∀(pins:List (Addr×Obj)) (s:Ag) (σ:L2.St) (H:Hp) (Q:Bool->Hp->Prop),Inv X pins σ H s->t σ H Q ->
  wpAny (model X.prog X.w) X.A (forIn ifs true λc r=>if r=true then (do
   let ok <- isTrue c X.env (eval c X.env)
   pure (Er ok)) else pure (Er r)) (TP X pins σ Q) X.xe s
theorem Yj:pG X [] Wm:=λpins s σ H Q I h=>wpAny_tests_nil ⟨H,I,h⟩
theorem yT{c:Expr}{t:TT}(h:PT X c t):pG X [c] t:=λpins s σ H Q I q=>wpAny_tests_one (h pins s σ H Q I q)
theorem Yp{X X':Cx}{pins:List (Addr×Obj)}{σ σ':L2.St}{H3 H6:Hp}{s3 s7:Ag}{scope:Scope}{cl:List (Str×Addr)}{N:List Str}{fp:List Addr}(hX':Et X scope cl N fp s3 H3=X')(I3:Inv X pins σ H3 s3)(f3:∀b∈fp,Lk X pins H3 b)(I7:Inv X' [] σ' H6 s7):∃m7,s7.heap.Ns s3.heap.objs.size m7/\∀h8,Dd s3.heap.objs.size s7.heap h8->Inv X pins σ H6 { s7 with heap:=h8 }:=by
 have eP:X'.prog=X.prog:=by rw[<- hX']; rfl
 have eW:X'.w=X.w:=by rw[<- hX']; rfl
 obtain ⟨m7,hn7,_⟩:=I7.loc
 have hn7':s7.heap.Ns s3.heap.objs.size m7:=by rw[<- hX'] at hn7; exact hn7
 refine ⟨m7,hn7',λh8 hs8=>?_⟩
 have I7f:H6 s3.heap.objs.size=none:=by have:=I7.free; rw[<- hX'] at this; exact this
 have b7:Un (oX X.stack) fp H3 H6 s3.heap s7.heap:=by have:=I7.base; rw[<- hX'] at this; exact this
 have ne8:∀b o,s3.heap.get? b=some o->b≠s3.heap.objs.size:=λb o q=>Br (Ba q)
 have u8:Un (oX X.stack) fp H3 H6 s3.heap h8:=by
  refine ⟨λb o q n hb hx=>(hs8.2 b (ne8 b o q)).trans (b7.keep b o q n hb hx),λb o q n hb hx=>?_,b7.free,λb o q hx=>?_,b7.tups,b7.frzs,b7.tbls⟩
  ·obtain ⟨sl,z⟩:=b7.slot b o q n hb hx
   exact ⟨sl,(hs8.2 b (ne8 b o q)).trans z⟩
  ·obtain ⟨o',z⟩:=b7.there b o q hx
   exact ⟨o',(hs8.2 b (ne8 b o q)).trans z⟩
 have hok8:Ss X.prog X.w H6 h8:=λb ob e=>by
  have hk7:=I7.hok
  rw[eP,eW] at hk7
  refine (hk7 b ob e).stay (λc w' hcc q=>(hs8.2 c ?_).trans q) (λ_ q=>q) λ_ _ q=>q
  rintro rfl
  rcases hcc with rfl | hcc
  ·rw[I7f] at e; cases e
  ·rw[I7f] at hcc; cases hcc
 have os7:s7.os=s3.os:=by have:=I7.os; rw[<- hX'] at this; exact this
 exact I3.call' (s':={ s7 with heap:=h8 }) (ch:=fp) os7 u8 hok8 I7.bare (λb hb=>⟨(f3 b hb).2.2.2.1,(f3 b hb).2.1,(f3 b hb).2.2.2.2.1,(f3 b hb).2.2.2.2.2⟩)
theorem Uj{X X':Cx}{σ':L2.St}{H3 H6:Hp}{s3 s7:Ag}{scope:Scope}{cl:List (Str×Addr)}{N:List Str}{fp:List Addr}(hX':Et X scope cl N fp s3 H3=X')(I4:Inv X' [] σ' H6 s7){H':Hp}(hn:∀b∈fp,H' b=none):∀b∈fp,Lk X' [] H' b:=λb hb=>by
 have ok:=I4.ok
 have hex:b∈X'.ex:=by rw[<- hX']; exact hb
 exact ⟨hn b hb,(ok.exf b hex).1,ok.exfs b hex,.inl hex,(ok.exf b hex).2,λp hp=>by rw[<- hX'] at hp; cases (show p∈([]:List (Addr×Obj)) from hp)⟩
theorem Yb{X X':Cx}{H3:Hp}{s3:Ag}{scope:Scope}{cl:List (Str×Addr)}{N:List Str}{fp:List Addr}(hc:X.calm=true)(hX':Et X scope cl N fp s3 H3=X'):X'.prog=X.prog/\X'.w=X.w/\X'.K=X.K/\X'.A=X.A/\X'.calm=true:=by
 subst hX'
 exact ⟨rfl,rfl,rfl,rfl,hc⟩
theorem oJ{X X':Cx}{pins:List (Addr×Obj)}{σ σ':L2.St}{H3 H6:Hp}{s3 s7:Ag}{scope:Scope}{cl:List (Str×Addr)}{N:List Str}{fp:List Addr}(hX':Et X scope cl N fp s3 H3=X')(I3:Inv X pins σ H3 s3)(f3:∀b∈fp,Lk X pins H3 b)(I7:Inv X' [] σ' H6 s7):(∃m7,s7.heap.Ns s3.heap.objs.size m7)/\H6 s3.heap.objs.size=none/\Inv X pins σ H6 s7:=by
 subst hX'
 obtain ⟨m7,hn7,_⟩:=I7.loc
 exact ⟨⟨m7,hn7⟩,I7.free,I3.call' (s':=s7) (ch:=fp) I7.os I7.base I7.hok I7.bare (λb hb=>⟨(f3 b hb).2.2.2.1,(f3 b hb).2.1,(f3 b hb).2.2.2.2.1,(f3 b hb).2.2.2.2.2⟩)⟩
theorem Xw{X:Cx}{pins:List (Addr×Obj)}{σ:L2.St}{H2:Hp}{s2:Ag}{tg:Expr}{J:It}{fp:List Addr}{it:Addr}{tn:Nat->Heap->Prop}(I2:Inv X pins σ H2 s2)(T:Turn X.prog X.w X.K tg J fp it tn)(st2:tn 0 s2.heap)(f2:∀b∈fp,Lk X pins H2 b){ob:Obj}{ho:HO}(I3:Inv X pins σ (upd H2 s2.heap.objs.size ho) { s2 with heap:=s2.heap.push ob }):(∀b∈fp,Lk X pins (upd H2 s2.heap.objs.size ho) b)/\tn 0 (s2.heap.push ob)/\∀b∈fp,∃o,(s2.heap.push ob).get? b=some o:=by
 have st3:tn 0 (s2.heap.push ob):=T.keep 0 _ _ st2 λb hb o q=>Ae _ q
 refine ⟨λb hb=>⟨?_,(f2 b hb).2⟩,st3,λb hb=>?_⟩
 ·rw[Cn ?_]
  ·exact (f2 b hb).1
  ·intro z
   obtain ⟨o,q,_⟩:=T.obj _ _ st2 b hb
   have:=Ba q
   rw[z] at this
   exact absurd this (Ew _)
 ·obtain ⟨o,q,_⟩:=T.obj _ _ st3 b hb
  exact ⟨o,q⟩
theorem bY{elt iter:Expr}{x:Str}{px pos:Pos}{ifs:List Expr}{scope:Scope}{cl:List (Str×Addr)}{ys:List Str}{js:List Nat}{wi:TI}{tc:TT}{te:TE}(C:CompScope X scope cl x ys js)(hc:X.calm=true)(hi:PI X (.Name x px) iter wi)(ht:∀fp s H,pG (Et X scope cl (x::ys) fp s H) ifs tc)(he:∀fp s H,PE (Et X scope cl (x::ys) fp s H) elt te)(hs:∀x,Fe iter X.env x=pure x:=by intro _; rfl):PE X (.ListComp elt [⟨.Name x px,iter,ifs,0⟩] scope pos) (mJ wi js tc te):=by
 intro pins s σ H Q I h
 rw[eval_ListComp]
 refine Rh (use:=none) rfl hs C.clos C.kind C.locs (Fu (hi pins s σ H _ I h) λv s1 h1=>Fu h1 λitv s2 h2=>?_)
 obtain ⟨it,fp,tn,J,H2,e,I2,T,st2,f2,q2⟩:=h2
 subst e
 have fD:H2 s2.heap.objs.size=none:=I2.hok.fresh (Ai _)
 obtain ⟨W,⟨m0,w0⟩,turn⟩:=q2 s2.heap.objs.size fD
 refine Ei ?_
 have I3:Inv X pins σ (upd H2 s2.heap.objs.size (.lst [])) { s2 with heap:=s2.heap.push { cls:=.type "list",dict:=none,data:=.seq ([]:List Value).toArray } } :=
  I2.laid (t':=s2.toks) (λb u q=>Ae _ q) (Ai _) ⟨Ct _,[],0,.nil,Ar _ rfl⟩
 obtain ⟨f3,st3',o3'⟩:=Xw I2 T st2 f2 I3
 generalize hS3:({ s2 with heap:=s2.heap.push { cls:=.type "list",dict:=none,data:=.seq ([]:List Value).toArray } }:Ag)=s3 at I3
 have st3:tn 0 s3.heap:=by rw[<- hS3]; exact st3'
 have o3:∀b∈fp,∃o,s3.heap.get? b=some o:=by rw[<- hS3]; exact o3'
 show wpAny _ _ (Pe scope X.env.globals cl [] X.env.qual none .none (some X.env)) _ _ _
 refine Ug C λh4 hns4 keep4 new4=>?_
 have I4:∀tk,Inv (Et X scope cl (x::ys) fp s3 (upd H2 s2.heap.objs.size (.lst []))) [] (none::Gc σ js) (upd H2 s2.heap.objs.size (.lst [])) { s3 with heap:=h4,toks:=tk }:=λtk=>Sb (pre:=[x]) C I3 f3 o3 hns4 keep4 new4
 have st4:tn 0 h4:=T.keep 0 _ _ st3 λb hb o q=>keep4 b o q
 generalize hX':Et X scope cl (x::ys) fp s3 (upd H2 s2.heap.objs.size (.lst []))=X' at I4
 obtain ⟨eP,eW,eK,eA,eC⟩:=Yb hc hX'
 have stat:∀{H':Hp},(∀b∈fp,H' b=none)->∀b∈fp,Lk X' [] H' b:=λ{H'} hn=>Uj hX' (I4 0) hn
 have loop:∀s5:Ag,s5={ s3 with heap:=h4,toks:=s3.toks+([]:List (Str×Value)).length } ->
   Mr (model X.prog X.w) X.A (.compLoop (.ListComp elt [⟨.Name x px,iter,ifs,0⟩] scope pos) 0 (.ref it) (.ref s2.heap.objs.size) (compEnvC scope (Ec (s3.heap.objs.size+1) scope.names cl) s3.heap.objs.size X.env))
    (compPost (model X.prog X.w) X.A X.xe none (EP X pins σ Q) (.ref s2.heap.objs.size) s3.heap.objs.size) s5:=by
  rintro s5 rfl
  refine Rw (λn s'=>∃i o H',Inv X' [] (o::Gc σ js) H' s'/\tn i s'.heap/\(∀b∈fp,H' b=none)/\W i n H') ?_ m0
   ⟨0,none,_,I4 _,st4,λb hb=>(f3 b hb).1,w0⟩
  (intro n s6 q_; obtain ⟨i,o,H6,I6,st6,fr6,w6⟩ := q_)
  rcases turn i n H6 w6 with ⟨stop,qn⟩ | ⟨go,step⟩
  ·have hd:=T.done X' eP eW eK eC i [] s6 _ H6 (λ_ _=>False) I6 (stat fr6) st6 stop
   rw[eA] at hd
   refine Fu hd λr s7 q0_ => ?_
   obtain ⟨hr,I7⟩ := q0_
   subst hr
   obtain ⟨m7,hn7,fin7⟩:=Yp hX' I3 f3 I7
   exact ⟨m7,hn7,λh8 hs8=>⟨.ref s2.heap.objs.size,H6,fin7 h8 hs8,rfl,qn⟩⟩
  ·have hit:=T.item X' eP eW eK eC i [] s6 _ H6 (λ_ _=>False) I6 (stat fr6) st6 go
   rw[eA] at hit
   refine Fu hit λr s7 q0_ => ?_
   obtain ⟨u,hr,h7⟩ := q0_
   subst hr
   refine Fu h7 λ_ s8 q0_ => ?_
   obtain ⟨y,H8,I8,r8,y8,st8,fr8⟩ := q0_
   have I8':=I8.pinned (stat fr8) (T.obj _ _ st8)
   obtain ⟨N1,N2,hN1,hN2,hst⟩:=step y H8 y8
   have again:∀{H9:Hp} {s9:Ag} {m':Nat},Inv X' ([]++Rx fp s8.heap) (some y::Gc σ js) H9 s9->m'<n->W (i+1) m' H9->∃m,m<n/\∃i o H',Inv X' [] (o::Gc σ js) H' s9/\tn i s9.heap/\(∀b∈fp,H' b=none)/\W i m H':=λ{H9 s9 m'} I9 hm w9=>by
    refine ⟨m',hm,i+1,some y,H9,I9.unpinned,T.keep _ _ _ st8 λb hb o e=>(I9.pin (b,o) (Ao _ (Ao _ (Hz hb e)))).1,λb hb=>?_,w9⟩
    obtain ⟨o,e,_⟩:=T.obj _ _ st8 b hb
    exact (I9.pin (b,o) (Ao _ (Ao _ (Hz hb e)))).2.1
   subst hX'
   refine Fu (Mu (i:=0) (x:=x) (pos:=px) C.nd rfl (Wg C.own) (dF C.own) _ s8 _ H8 y u (λσ' H'=>σ'=some y::Gc σ js/\H'=H8) I8' r8 ⟨rfl,rfl⟩) λ_ s9 q0_ => ?_
   obtain ⟨σ9,H9,I9,e9,e9'⟩ := q0_
   subst e9 e9'
   refine Fu (ht fp s3 _ _ s9 _ _ _ I9 hst) λok s10 q0_ => ?_
   obtain ⟨H10,I10,q10⟩ := q0_
   cases ok with
   | false =>
    rw[if_neg Bm] at q10 ⊢
    obtain ⟨m',hm,w10⟩:=hN1 _ q10
    exact again I10 hm w10
   | true =>
    rw[if_pos rfl] at q10 ⊢
    refine Fu (he fp s3 _ _ s10 _ _ _ I10 q10) λz s11 q0_ => ?_
    obtain ⟨vz,H11,I11,r11,q11⟩ := q0_
    obtain ⟨acc,ha,hz,m',hm,w11⟩:=hN2 _ _ q11
    refine Fu (Qp _ s11 _ H11 (.ref s2.heap.objs.size) [vz] (.ref s2.heap.objs.size) [z] (λ_ H'=>H'=upd H11 s2.heap.objs.size (.lst (acc++[vz]))) I11 rfl (.cons r11 .nil) ⟨_,acc,vz,rfl,rfl,ha,hz,rfl⟩) λ_ s12 q0_ => ?_
    obtain ⟨_,H12,I12,_,e12⟩ := q0_
    subst e12
    exact again I12 hm w11
 exact So (loop _ rfl) (T.self X.A 0 _ _ _ st4 (loop _ rfl))
end
structure Walked(J:It)(G:Hp->Prop)(xs:List V):Prop where
 go:∀i H,i<xs.length->G H->J.go i H
 yld:∀i H x H',i<xs.length->G H->J.yld i H x H'->H'=H/\xs[i]? = some x
 stop:∀H,G H->J.stop xs.length H
theorem Vh{K:PySem.W.Frag}{a:Addr}{xs:List V}:Walked (V7 K a) (λH=>Kq K H a xs) xs where
 go:=λi H h q=>⟨xs,xs[i],q,by simp [h]⟩
 yld:=λi H x H' _ q y=>⟨y.1,y.2 xs q⟩
 stop:=λH q=>⟨xs,q,Ai _⟩
theorem mG{J:It}{G:Hp->Prop}{xs:List V}{js:List Nat}{tc:TT}{te:TE}{σ:L2.St}{H1:Hp}{Q:VK}(wk:Walked J G xs)(hz:xs.length<=Ap)(Pv:Addr->Nat->List V->Hp->Prop)
  (h0:∀D,H1 D=none->Pv D 0 [] (upd H1 D (.lst []))) (hg:∀D i acc H,Pv D i acc H->G H)
  (hs:∀D i x acc H,H1 D=none->xs[i]? = some x->H D=some (.lst acc)->Pv D i acc H->tc (some x::Gc σ js) H λc H2=>if c=true then te (some x::Gc σ js) H2 λy H3=>H3 D=some (.lst acc)/\Pv D (i+1) (acc++[y]) (upd H3 D (.lst (acc++[y])))
   else H2 D=some (.lst acc)/\Pv D (i+1) acc H2)
  (hd:∀D acc H,H1 D=none->H D=some (.lst acc)->Pv D xs.length acc H->Q (.ref D) H):zZ J js tc te σ H1 Q:=by
 intro D nD
 refine ⟨λi m H=>m=xs.length - i/\i<=xs.length/\∃acc,H D=some (.lst acc)/\acc.length<=i/\Pv D i acc H,⟨xs.length,by simp,Ct _,[],Cr,Ai _,h0 D nD⟩,?_⟩
 (intro i m H q_; obtain ⟨rfl,hi,acc,ha,hl,p⟩ := q_)
 have g:=hg D i acc H p
 by_cases hlt:i<xs.length
 ·refine .inr ⟨wk.go i H hlt g,λx H' y=>?_⟩
  obtain ⟨e,hx⟩:=wk.yld i H x H' hlt g y
  subst e
  refine ⟨λH2=>H2 D=some (.lst acc)/\Pv D (i+1) acc H2,λy H3=>H3 D=some (.lst acc)/\Pv D (i+1) (acc++[y]) (upd H3 D (.lst (acc++[y]))),λH2 q=>?_,λz H3 q=>?_,hs D i x acc _ nD hx ha p⟩
  ·exact ⟨xs.length - (i+1),by omega,rfl,hlt,acc,q.1,by omega,q.2⟩
  ·exact ⟨acc,q.1,by omega,xs.length - (i+1),by omega,rfl,hlt,acc++[z],Cr,by rw[Cc,Lh]; omega,q.2⟩
 ·have e:i=xs.length:=by omega
  subst e
  exact .inl ⟨wk.stop H g,hd D acc H nD ha p⟩
theorem Di{H:Hp}{p:Addr}(h:H p=none)(o:HO):La H (upd H p o):=λb u q=>by rw[Cn (Da q h)]; exact q
theorem Lz{α:Type}{xs:List α}{i:Nat}{x:α}(h:xs[i]? = some x):xs.take (i+1)=xs.take i++[x]:=by
 rw[List.take_succ,h]; rfl
mutual
inductive RdV (K:PySem.W.Frag) (H:Hp):V->Ad->Prop
 | non:RdV K H .non .none
 | bl (b:Bool):RdV K H (.bl b) (.bool b)
 | int (i:Int):RdV K H (.int i) (.int i)
 | str (x:Str):RdV K H (.str x) (.str x)
 | lst {a:Addr} {xs:List V} {ds:List Ad}:Kq K H a xs->RdVs K H xs ds->RdV K H (.ref a) (.list ds)
 | tup {a:Addr} {xs:List V} {ds:List Ad}:Sj K H a xs->RdVs K H xs ds->RdV K H (.ref a) (.tuple ds)
inductive RdVs (K:PySem.W.Frag) (H:Hp):List V->List Ad->Prop
 | nil:RdVs K H [] []
 | cons {x:V} {d:Ad} {xs:List V} {ds:List Ad}:RdV K H x d->RdVs K H xs ds->RdVs K H (x::xs) (d::ds)
end
mutual
def Q0(b:Nat):Ad->Prop
 | .none=>True
 | .bool _=>True
 | .int i=>i.natAbs<10 ^ b
 | .str x=>(reprText x).length<=b
 | .list xs=>cG b xs
 | .tuple xs=>cG b xs
 | .dict _=>False
def cG(b:Nat):List Ad->Prop
 | []=>True
 | x::xs=>Q0 b x/\cG b xs
end
mutual
def zQ:Ad->Nat
 | .list xs=>Xg xs+1
 | .tuple xs=>Xg xs+1
 | _=>1
def Xg:List Ad->Nat
 | []=>0
 | x::xs=>zQ x+Xg xs
end
theorem jE(ns:List Int):Bl (ns.map Bb)=0:=by
 induction ns with
 | nil=>rfl
 | cons n ns ih=>simp only[Au,Bl,Dc,ih,Nat.max_self]
theorem Vi{m:Nat}:∀{xs:List Ad},(∀x∈xs,x.depth<=m)->Bl xs<=m
 | [],_=>by simp [Bl]
 | x::xs,h=>by
  have h1:=h x (Ab ..)
  have h2:=Vi (xs:=xs) λy hy=>h y (Af _ hy)
  simp only[Bl]
  omega
theorem En.at'{xs:List V}{us:List Value}(r:En xs us){j:Nat}(h:j<us.length):∃x,xs[j]? = some x/\RelV x us[j]:=by
 have hl:=r.length
 have hj:j<xs.length:=by omega
 obtain ⟨u,hu,ru⟩:=r.get (i:=j) (x:=xs[j]) (by simp [hj])
 rw[An h] at hu
 cases hu
 exact ⟨xs[j],by simp [hj],ru⟩
section
variable{X:Cx}{pins:List (Addr×Obj)}{σ:L2.St}{H:Hp}{s:Ag}{A:Co}
theorem Us(A:Co):A.in1.units<=A.units+1:=by
 first | exact Ai _ | (simp [Around.in1]; done) | (unfold Around.in1; simp)
theorem gQ:Lr X (.builtin "isinstance") (λxs H Q=>∃x n t b,xs=[x,.ty n]/\TyOf X.K H x t/\PySem.W.kitOne X.K t (.type n)=some b/\Q (.bl b) H):=by
 intro pins s σ H xs us Q I r h
 obtain ⟨x,n,t,b,rfl,ty,e,q⟩:=h
 obtain ⟨u,v,rfl,ru,rv⟩:=vals2 r
 cases rv
 exact oZ I ru ty e λtk=>⟨.bl b,H,I.tok _,rfl,q⟩
theorem vC(hc:X.calm=true):Lr X (.builtin "all") (λxs H Q=>∃(p:Addr) (bs:List Bool),xs=[.ref p]/\Kq X.K H p (bs.map V.bl)/\Q (.bl (bs.all id)) H):=by
 intro pins s σ H xs us Q I r h
 obtain ⟨p,bs,rfl,hp,q⟩:=h
 obtain ⟨u,rfl,ru⟩:=vals1 r
 cases ru
 obtain ⟨its,rv,pl,_⟩:=I.list hp
 have hlen:its.toArray.size=bs.length:=by
  have:=rv.length
  rw[Ac] at this
  rw[Am]; omega
 refine call_all_walk (bI pl.isList ?_)
 have hd:X.A.in1.handled=none:=I.ok.hd hc
 have ne:p≠s.heap.objs.size:=Br (let ⟨o,q,_⟩:=pl.isList; Ba q)
 refine ⟨s.heap.objs.size,_,_,_,_,_,λi=>bs.getD i false,rfl,Walks.list hd s.heap.objs.size p ne its.toArray,⟨⟨_,Ar _ rfl,rfl,rfl⟩,pl.isList.push _⟩,?_,?_⟩
 ·intro i v s' Q' E' hv hq
  have hv':its[i]? = some v:=by simpa using hv
  have hi:i<its.length:=(Al.mp hv').1
  obtain ⟨x,e1,q1⟩:=En.at' rv hi
  rw[An hi] at hv'
  have hv'':its[i]=v:=Bk hv'
  rw[hv''] at q1
  rw[Aw] at e1
  cases eb:bs[i]? with
  | none=>rw[eb] at e1; cases e1
  | some b =>
   rw[eb] at e1
   cases e1
   cases q1
   have : bs.getD i false=b:=by simp [Gi,eb]
   have hq':Q' (bs.getD i false) s':=hq
   rw[this] at hq'
   exact Hb hq'
 ·intro h' tk hk
  have e:((Cu its.toArray.size).all λi=>bs.getD i false)=bs.all id:=by
   rw[hlen]
   have : bs=(Cu bs.length).map (λj=>bs.getD j false):=(range_getD bs false).symm
   conv=>rhs; rw[this]
   rw[Wb]
   rfl
  rw[e]
  refine ⟨.bl _,H,I.kept (h':=h') (t':=tk) (λb o qq=>hk b o ?_ (Ae _ qq)),rfl,q⟩
  intro z
  have e2:b=s.heap.objs.size:=by simpa using z
  have e3:=Ba qq
  rw[e2] at e3
  exact absurd e3 (Ew _)
end
mutual
def Du:Ad->Ad->Bool
 | .none,.none=>true
 | .bool a,.bool b=>a == b
 | .bool a,.int b=>(if a then 1 else 0) == b
 | .int a,.bool b=>a == (if b then 1 else 0)
 | .int a,.int b=>a == b
 | .str a,.str b=>a == b
 | .list xs,.list ys=>Mn xs ys
 | .tuple xs,.tuple ys=>Mn xs ys
 | _,_=>false
def Mn:List Ad->List Ad->Bool
 | [],[]=>true
 | x::xs,y::ys=>Du x y && Mn xs ys
 | _,_=>false
end
theorem Me:∀ds es:List Ad,(((Cu (min ds.length es.length)).all λj=>Du (ds.getD j .none) (es.getD j .none)) && ds.length == es.length)=Mn ds es
 | [],[]=>by simp [Mn]
 | [],_::_=>by simp [Mn]
 | _::_,[]=>by simp [Mn]
 | d::ds,e::es=>by
  have ih:=Me ds es
  rw[Mn,<- ih]
  have h1:min (d::ds).length (e::es).length=min ds.length es.length+1:=by simp only[Bs]; omega
  rw[h1,List.range_succ_eq_map,List.all_cons,Wb]
  have h2:((d::ds).length == (e::es).length)=(ds.length == es.length):=by
   rw[Bool.eq_iff_iff]; simp
  rw[h2,Bool.and_assoc]
  rfl
section
variable{X:Cx}{pins:List (Addr×Obj)}{σ:L2.St}{H:Hp}{s:Ag}{K:PySem.W.Frag}
mutual
theorem RdV.eqD_self:∀{v:V} {d:Ad},RdV K H v d->Du d d=true
 | _,_,.non=>by simp [Du]
 | _,_,.bl b=>by simp [Du]
 | _,_,.int i=>by simp [Du]
 | _,_,.str x=>by simp [Du]
 | _,_,.lst _ h=>by rw[Du]; exact RdVs.eqDs_self h
 | _,_,.tup _ h=>by rw[Du]; exact RdVs.eqDs_self h
theorem RdVs.eqDs_self:∀{vs:List V} {ds:List Ad},RdVs K H vs ds->Mn ds ds=true
 | _,_,.nil=>by simp [Mn]
 | _,_,.cons h t=>by rw[Mn,RdV.eqD_self h,RdVs.eqDs_self t]; rfl
end
theorem eU(I:Inv X pins σ H s){a:Addr}{xs ys:List V}(h1:Kq X.K H a xs)(h2:Sj X.K H a ys):False:=by
 obtain ⟨us,_,p1,_⟩:=I.list h1
 obtain ⟨vs,_,p2,_⟩:=I.tuple h2
 exact SeqAt.ne_of_list_tuple p1.isList p2 rfl
mutual
theorem RdV.det(I:Inv X pins σ H s):∀{v:V} {d e:Ad},RdV X.K H v d->RdV X.K H v e->d=e
 | _,_,_,.non,h=>by cases h; rfl
 | _,_,_,.bl b,h=>by cases h; rfl
 | _,_,_,.int i,h=>by cases h; rfl
 | _,_,_,.str x,h=>by cases h; rfl
 | _,_,_,.lst q r,h=>by
  cases h with
  | lst q' r' =>
   have e:=I.list_inj q q'
   subst e
   rw[RdVs.det I r r']
  | tup q' r'=>exact (eU I q q').elim
 | _,_,_,.tup q r,h=>by
  cases h with
  | lst q' r'=>exact (eU I q' q).elim
  | tup q' r' =>
   have e:=I.tuple_inj q q'
   subst e
   rw[RdVs.det I r r']
theorem RdVs.det(I:Inv X pins σ H s):∀{vs:List V} {ds es:List Ad},RdVs X.K H vs ds->RdVs X.K H vs es->ds=es
 | _,_,_,.nil,h=>by cases h; rfl
 | _,_,_,.cons r t,h=>by
  cases h with
  | cons r' t'=>rw[RdV.det I r r',RdVs.det I t t']
end
theorem RdVs.length:∀{vs:List V} {ds:List Ad},RdVs K H vs ds->vs.length=ds.length
 | _,_,.nil=>rfl
 | _,_,.cons _ t=>by rw[Bs,Bs,RdVs.length t]
theorem Uo{A:Co}{n:Nat}(h:A.units+(n+1)<cLine):A.in1.units+n<cLine:=by
 have:=Us A
 omega
theorem eE{A:Co}{a b:Addr}{us vs:List Value}{ds es:List Ad}(p1:PlainL s.heap a us.toArray)(p2:PlainL s.heap b vs.toArray)(l1:us.length=ds.length)(l2:vs.length=es.length)(hu:A.units<cLine)(he:∀j (h1:j<us.length) (h2:j<vs.length),Lf A.in1 s us[j] vs[j] (Du (ds.getD j .none) (es.getD j .none))):SeqAt.RcAt A s (.ref a) (.ref b) (Mn ds es):=by
 rw[<- Me]
 by_cases hl:ds.length=es.length
 ·have hs:us.toArray.size=vs.toArray.size:=by rw[Am,Am,l1,l2,hl]
  have h:=SeqAt.RcAt.lists (A:=A) (e:=λj=>Du (ds.getD j .none) (es.getD j .none)) p1.isList p2.isList hs hu (λj h1 h2=>by simpa using he j (by simpa using h1) (by simpa using h2))
  rw[Am,l1] at h
  rw[hl,Nat.min_self,beq_self_eq_true,Bool.and_true,<- hl]
  exact h
 ·have hs:(us.toArray.size != vs.toArray.size)=true:=by rw[Am,Am,l1,l2]; simpa using hl
  have h:=SeqAt.RcAt.lists_lengths (A:=A) p1.isList p2.isList hs hu
  have e0:(ds.length == es.length)=false:=by simpa using hl
  rw[e0,Bool.and_false]
  exact h
theorem Zy{A:Co}{a b:Addr}{us vs:List Value}{ds es:List Ad}(p1:IsTup s.heap a us.toArray)(p2:IsTup s.heap b vs.toArray)(l1:us.length=ds.length)(l2:vs.length=es.length)(hu:A.units<cLine)(he:∀j (h1:j<us.length) (h2:j<vs.length),Lf A.in1 s us[j] vs[j] (Du (ds.getD j .none) (es.getD j .none))):SeqAt.RcAt A s (.ref a) (.ref b) (Mn ds es):=by
 rw[<- Me]
 have h:=SeqAt.RcAt.tuples (A:=A) (e:=λj=>Du (ds.getD j .none) (es.getD j .none)) (show s.heap.IsTuple a us.toArray from p1) (show s.heap.IsTuple b vs.toArray from p2) hu (λj h1 h2=>by simpa using he j (by simpa using h1) (by simpa using h2))
 rw[Am,Am,l1,l2] at h
 exact h
mutual
theorem uE(I:Inv X pins σ H s):∀{A:Co} {x y:V} {d e:Ad} {u v:Value},RdV X.K H x d->RdV X.K H y e->RelV x u->RelV y v->A.units+d.depth<cLine->Lf A s u v (Du d e)
 | A,_,_,_,_,_,_,.non,h,ru,rv,hu=>by
  cases ru
  have hu':A.units<cLine:=by omega
  cases h with
  | non=>cases rv; rw[Du]; exact SeqAt.EqAt.same _
  | bl b=>cases rv; rw[Du]; exact SeqAt.EqAt.none_bool b; all_goals simp
  | int b=>obtain ⟨t,rfl⟩:=rv; rw[Du]; exact SeqAt.EqAt.none_int b t; all_goals simp
  | str b=>obtain ⟨t,rfl⟩:=rv; rw[Du]; exact SeqAt.EqAt.none_str b t; all_goals simp
  | lst q r=>cases rv; obtain ⟨us,_,p,_⟩:=I.list q; rw[Du]; exact SeqAt.EqAt.none_list p.isList hu'; all_goals simp
  | tup q r=>cases rv; obtain ⟨us,_,p,_⟩:=I.tuple q; rw[Du]; exact SeqAt.EqAt.none_tuple p hu'; all_goals simp
 | A,_,_,_,_,_,_,.bl a,h,ru,rv,hu=>by
  cases ru
  have hu':A.units<cLine:=by omega
  cases h with
  | non=>cases rv; rw[Du]; exact SeqAt.EqAt.bool_none a; all_goals simp
  | bl b=>cases rv; rw[Du]; exact SeqAt.EqAt.bool_bool a b
  | int b=>obtain ⟨t,rfl⟩:=rv; rw[Du]; exact SeqAt.EqAt.bool_int a b t
  | str b=>obtain ⟨t,rfl⟩:=rv; rw[Du]; exact SeqAt.EqAt.bool_str a b t; all_goals simp
  | lst q r=>cases rv; obtain ⟨us,_,p,_⟩:=I.list q; rw[Du]; exact SeqAt.EqAt.bool_list a p.isList hu'; all_goals simp
  | tup q r=>cases rv; obtain ⟨us,_,p,_⟩:=I.tuple q; rw[Du]; exact SeqAt.EqAt.bool_tuple a p hu'; all_goals simp
 | A,_,_,_,_,_,_,.int a,h,ru,rv,hu=>by
  obtain ⟨t',rfl⟩:=ru
  have hu':A.units<cLine:=by omega
  cases h with
  | non=>cases rv; rw[Du]; exact SeqAt.EqAt.int_none a t'; all_goals simp
  | bl b=>cases rv; rw[Du]; exact SeqAt.EqAt.int_bool a t' b
  | int b=>obtain ⟨t,rfl⟩:=rv; rw[Du]; exact SeqAt.EqAt.int_int a t' b t
  | str b=>obtain ⟨t,rfl⟩:=rv; rw[Du]; exact SeqAt.EqAt.int_str a t' b t; all_goals simp
  | lst q r=>cases rv; obtain ⟨us,_,p,_⟩:=I.list q; rw[Du]; exact SeqAt.EqAt.int_list a t' p.isList hu'; all_goals simp
  | tup q r=>cases rv; obtain ⟨us,_,p,_⟩:=I.tuple q; rw[Du]; exact SeqAt.EqAt.int_tuple a t' p hu'; all_goals simp
 | A,_,_,_,_,_,_,.str a,h,ru,rv,hu=>by
  obtain ⟨t',rfl⟩:=ru
  have hu':A.units<cLine:=by omega
  cases h with
  | non=>cases rv; rw[Du]; exact SeqAt.EqAt.str_none a t'; all_goals simp
  | bl b=>cases rv; rw[Du]; exact SeqAt.EqAt.str_bool a t' b; all_goals simp
  | int b=>obtain ⟨t,rfl⟩:=rv; rw[Du]; exact SeqAt.EqAt.str_int a t' b t; all_goals simp
  | str b=>obtain ⟨t,rfl⟩:=rv; rw[Du]; exact SeqAt.EqAt.str_str a t' b t
  | lst q r=>cases rv; obtain ⟨us,_,p,_⟩:=I.list q; rw[Du]; exact SeqAt.EqAt.str_list a t' p.isList hu'; all_goals simp
  | tup q r=>cases rv; obtain ⟨us,_,p,_⟩:=I.tuple q; rw[Du]; exact SeqAt.EqAt.str_tuple a t' p hu'; all_goals simp
 | A,_,_,_,_,_,_,@RdV.lst _ _ a xs ds q r,h,ru,rv,hu=>by
  cases ru
  have hu':A.units<cLine:=by omega
  obtain ⟨us,r1,p,_⟩:=I.list q
  cases h with
  | non=>cases rv; rw[Du]; exact SeqAt.EqAt.list_none p.isList hu'; all_goals simp
  | bl b=>cases rv; rw[Du]; exact SeqAt.EqAt.list_bool b p.isList hu'; all_goals simp
  | int b=>obtain ⟨t,rfl⟩:=rv; rw[Du]; exact SeqAt.EqAt.list_int b t p.isList hu'; all_goals simp
  | str b=>obtain ⟨t,rfl⟩:=rv; rw[Du]; exact SeqAt.EqAt.list_str b t p.isList hu'; all_goals simp
  | @lst b ys es q2 rr2 =>
   cases rv
   obtain ⟨vs,r2,p2,_⟩:=I.list q2
   rw[Du]
   by_cases hab:a=b
   ·subst hab
    have e:=I.list_inj q q2
    subst e
    rw[<- RdVs.det I r rr2,RdVs.eqDs_self r]
    exact SeqAt.EqAt.same _
   ·refine SeqAt.EqAt.of_refs hab (eE p p2 (r1.length.symm.trans r.length) (r2.length.symm.trans rr2.length) hu' λj h1 h2=>?_)
    exact Ov I r rr2 r1 r2 (Uo (by simpa only [Dc] using hu)) j h1 h2
  | tup q2 rr2=>cases rv; obtain ⟨vs,_,p2,_⟩:=I.tuple q2; rw[Du]; exact SeqAt.EqAt.list_tuple p.isList p2 hu'; all_goals simp
 | A,_,_,_,_,_,_,@RdV.tup _ _ a xs ds q r,h,ru,rv,hu=>by
  cases ru
  have hu':A.units<cLine:=by omega
  obtain ⟨us,r1,p,_⟩:=I.tuple q
  cases h with
  | non=>cases rv; rw[Du]; exact SeqAt.EqAt.tuple_none p hu'; all_goals simp
  | bl b=>cases rv; rw[Du]; exact SeqAt.EqAt.tuple_bool b p hu'; all_goals simp
  | int b=>obtain ⟨t,rfl⟩:=rv; rw[Du]; exact SeqAt.EqAt.tuple_int b t p hu'; all_goals simp
  | str b=>obtain ⟨t,rfl⟩:=rv; rw[Du]; exact SeqAt.EqAt.tuple_str b t p hu'; all_goals simp
  | lst q2 rr2=>cases rv; obtain ⟨vs,_,p2,_⟩:=I.list q2; rw[Du]; exact SeqAt.EqAt.tuple_list p p2.isList hu'; all_goals simp
  | @tup b ys es q2 rr2 =>
   cases rv
   obtain ⟨vs,r2,p2,_⟩:=I.tuple q2
   rw[Du]
   by_cases hab:a=b
   ·subst hab
    have e:=I.tuple_inj q q2
    subst e
    rw[<- RdVs.det I r rr2,RdVs.eqDs_self r]
    exact SeqAt.EqAt.same _
   ·refine SeqAt.EqAt.of_refs hab (Zy p p2 (r1.length.symm.trans r.length) (r2.length.symm.trans rr2.length) hu' λj h1 h2=>?_)
    exact Ov I r rr2 r1 r2 (Uo (by simpa only [Dc] using hu)) j h1 h2
theorem Ov(I:Inv X pins σ H s):∀{A:Co} {xs ys:List V} {ds es:List Ad} {us vs:List Value},RdVs X.K H xs ds->RdVs X.K H ys es->En xs us->En ys vs->A.units+Bl ds<cLine->∀j (h1:j<us.length) (h2:j<vs.length),Lf A s us[j] vs[j] (Du (ds.getD j .none) (es.getD j .none))
 | _,_,_,_,_,_,_,.nil,_,r1,_,_=>λj h1 h2=>by cases r1; exact absurd h1 (Nat.not_lt_zero _)
 | A,_,_,_,_,_,_,@RdVs.cons _ _ x d xs ds r t,h,r1,r2,hu=>λj h1 h2=>by
  cases h with
  | nil=>cases r2; exact absurd h2 (Nat.not_lt_zero _)
  | cons r' t' =>
   cases r1 with
   | cons ra ta =>
    cases r2 with
    | cons rb tb =>
     have hm:A.units+d.depth<cLine/\A.units+Bl ds<cLine:=by
      simp only[Bl] at hu
      omega
     cases j with
     | zero=>simpa using uE I r r' ra rb hm.1
     | succ j=>simpa using Ov I t t' ta tb hm.2 j (by simpa using h1) (by simpa using h2)
end
end
section
variable{X:Cx}{pins:List (Addr×Obj)}{σ:L2.St}{H:Hp}{s:Ag}{K:PySem.W.Frag}
theorem oF{A:Co}{a b:Addr}{us vs:List Value}{ds es:List Ad}(p1:PlainL s.heap a us.toArray)(p2:PlainL s.heap b vs.toArray)(l1:us.length=ds.length)(l2:vs.length=es.length)(hu:A.units<cLine)(he:∀j (h1:j<us.length) (h2:j<vs.length),Lf A.in1 s us[j] vs[j] (Du (ds.getD j .none) (es.getD j .none))):SeqAt.RcNeAt A s (.ref a) (.ref b) (!Mn ds es):=by
 rw[<- Me]
 by_cases hl:ds.length=es.length
 ·have hs:us.toArray.size=vs.toArray.size:=by rw[Am,Am,l1,l2,hl]
  have h:=SeqAt.RcNeAt.lists (A:=A) (e:=λj=>Du (ds.getD j .none) (es.getD j .none)) p1.isList p2.isList hs hu (λj h1 h2=>by simpa using he j (by simpa using h1) (by simpa using h2))
  rw[Am,l1] at h
  rw[hl,Nat.min_self,beq_self_eq_true,Bool.and_true,<- hl]
  exact h
 ·have hs:(us.toArray.size != vs.toArray.size)=true:=by rw[Am,Am,l1,l2]; simpa using hl
  have h:=SeqAt.RcNeAt.lists_lengths (A:=A) p1.isList p2.isList hs hu
  have e0:(ds.length == es.length)=false:=by simpa using hl
  rw[e0,Bool.and_false]
  exact h
theorem jT{A:Co}{a b:Addr}{us vs:List Value}{ds es:List Ad}(p1:IsTup s.heap a us.toArray)(p2:IsTup s.heap b vs.toArray)(l1:us.length=ds.length)(l2:vs.length=es.length)(hu:A.units<cLine)(he:∀j (h1:j<us.length) (h2:j<vs.length),Lf A.in1 s us[j] vs[j] (Du (ds.getD j .none) (es.getD j .none))):SeqAt.RcNeAt A s (.ref a) (.ref b) (!Mn ds es):=by
 rw[<- Me]
 have h:=SeqAt.RcNeAt.tuples (A:=A) (e:=λj=>Du (ds.getD j .none) (es.getD j .none)) (show s.heap.IsTuple a us.toArray from p1) (show s.heap.IsTuple b vs.toArray from p2) hu (λj h1 h2=>by simpa using he j (by simpa using h1) (by simpa using h2))
 rw[Am,Am,l1,l2] at h
 exact h
end
section
variable{X:Cx}
def N7(K:PySem.W.Frag):R2:=λx y H Q=>∃d e,RdV K H x d/\RdV K H y e/\d.depth<=60/\Q (.bl (Du d e)) H
def Q7(K:PySem.W.Frag):R2:=λx y H Q=>∃d e,RdV K H x d/\RdV K H y e/\d.depth<=60/\Q (.bl (!Du d e)) H
theorem tM(hu:X.A.units+64<cLine):Vk X (Jx .Eq) (N7 X.K):=by
 intro pins s σ H x y v u Q I rx ry h
 obtain ⟨d,e,h1,h2,hd,q⟩:=h
 have hu':X.A.units<cLine:=by omega
 cases h1 with
 | non =>
  cases rx
  cases h2 with
  | non=>cases ry; rw[Du] at q; exact SeqAt.RcAt.none_none _ _ _ _ ⟨.bl _,H,I,rfl,q⟩
  | bl b=>cases ry; rw[Du] at q; exact SeqAt.RcAt.none_bool b _ _ _ _ ⟨.bl _,H,I,rfl,q⟩; all_goals simp
  | int b=>obtain ⟨t,rfl⟩:=ry; rw[Du] at q; exact SeqAt.RcAt.none_int b t _ _ _ _ ⟨.bl _,H,I,rfl,q⟩; all_goals simp
  | str b=>obtain ⟨t,rfl⟩:=ry; rw[Du] at q; exact SeqAt.RcAt.none_str b t _ _ _ _ ⟨.bl _,H,I,rfl,q⟩; all_goals simp
  | @lst b ys es q2 rr2=>cases ry; obtain ⟨vs,r2,p2,_⟩:=I.list q2; rw[Du] at q; exact SeqAt.RcAt.none_list p2.isList hu' _ _ _ _ ⟨.bl _,H,I,rfl,q⟩; all_goals simp
  | @tup b ys es q2 rr2=>cases ry; obtain ⟨vs,r2,p2,_⟩:=I.tuple q2; rw[Du] at q; exact SeqAt.RcAt.none_tuple p2 hu' _ _ _ _ ⟨.bl _,H,I,rfl,q⟩; all_goals simp
 | bl a =>
  cases rx
  cases h2 with
  | non=>cases ry; rw[Du] at q; exact SeqAt.RcAt.bool_none a _ _ _ _ ⟨.bl _,H,I,rfl,q⟩; all_goals simp
  | bl b=>cases ry; rw[Du] at q; exact SeqAt.RcAt.bool_bool a b _ _ _ _ ⟨.bl _,H,I,rfl,q⟩
  | int b=>obtain ⟨t,rfl⟩:=ry; rw[Du] at q; exact SeqAt.RcAt.bool_int a b t _ _ _ _ ⟨.bl _,H,I,rfl,q⟩
  | str b=>obtain ⟨t,rfl⟩:=ry; rw[Du] at q; exact SeqAt.RcAt.bool_str a b t _ _ _ _ ⟨.bl _,H,I,rfl,q⟩; all_goals simp
  | @lst b ys es q2 rr2=>cases ry; obtain ⟨vs,r2,p2,_⟩:=I.list q2; rw[Du] at q; exact SeqAt.RcAt.bool_list a p2.isList hu' _ _ _ _ ⟨.bl _,H,I,rfl,q⟩; all_goals simp
  | @tup b ys es q2 rr2=>cases ry; obtain ⟨vs,r2,p2,_⟩:=I.tuple q2; rw[Du] at q; exact SeqAt.RcAt.bool_tuple a p2 hu' _ _ _ _ ⟨.bl _,H,I,rfl,q⟩; all_goals simp
 | int a =>
  obtain ⟨t',rfl⟩:=rx
  cases h2 with
  | non=>cases ry; rw[Du] at q; exact SeqAt.RcAt.int_none a t' _ _ _ _ ⟨.bl _,H,I,rfl,q⟩; all_goals simp
  | bl b=>cases ry; rw[Du] at q; exact SeqAt.RcAt.int_bool a t' b _ _ _ _ ⟨.bl _,H,I,rfl,q⟩
  | int b=>obtain ⟨t,rfl⟩:=ry; rw[Du] at q; exact SeqAt.RcAt.int_int a t' b t _ _ _ _ ⟨.bl _,H,I,rfl,q⟩
  | str b=>obtain ⟨t,rfl⟩:=ry; rw[Du] at q; exact SeqAt.RcAt.int_str a t' b t _ _ _ _ ⟨.bl _,H,I,rfl,q⟩; all_goals simp
  | @lst b ys es q2 rr2=>cases ry; obtain ⟨vs,r2,p2,_⟩:=I.list q2; rw[Du] at q; exact SeqAt.RcAt.int_list a t' p2.isList hu' _ _ _ _ ⟨.bl _,H,I,rfl,q⟩; all_goals simp
  | @tup b ys es q2 rr2=>cases ry; obtain ⟨vs,r2,p2,_⟩:=I.tuple q2; rw[Du] at q; exact SeqAt.RcAt.int_tuple a t' p2 hu' _ _ _ _ ⟨.bl _,H,I,rfl,q⟩; all_goals simp
 | str a =>
  obtain ⟨t',rfl⟩:=rx
  cases h2 with
  | non=>cases ry; rw[Du] at q; exact SeqAt.RcAt.str_none a t' _ _ _ _ ⟨.bl _,H,I,rfl,q⟩; all_goals simp
  | bl b=>cases ry; rw[Du] at q; exact SeqAt.RcAt.str_bool a t' b _ _ _ _ ⟨.bl _,H,I,rfl,q⟩; all_goals simp
  | int b=>obtain ⟨t,rfl⟩:=ry; rw[Du] at q; exact SeqAt.RcAt.str_int a t' b t _ _ _ _ ⟨.bl _,H,I,rfl,q⟩; all_goals simp
  | str b=>obtain ⟨t,rfl⟩:=ry; rw[Du] at q; exact SeqAt.RcAt.str_str a t' b t _ _ _ _ ⟨.bl _,H,I,rfl,q⟩
  | @lst b ys es q2 rr2=>cases ry; obtain ⟨vs,r2,p2,_⟩:=I.list q2; rw[Du] at q; exact SeqAt.RcAt.str_list a t' p2.isList hu' _ _ _ _ ⟨.bl _,H,I,rfl,q⟩; all_goals simp
  | @tup b ys es q2 rr2=>cases ry; obtain ⟨vs,r2,p2,_⟩:=I.tuple q2; rw[Du] at q; exact SeqAt.RcAt.str_tuple a t' p2 hu' _ _ _ _ ⟨.bl _,H,I,rfl,q⟩; all_goals simp
 | @lst a xs ds qa r =>
  cases rx
  obtain ⟨us,r1,p,_⟩:=I.list qa
  cases h2 with
  | non=>cases ry; rw[Du] at q; exact SeqAt.RcAt.list_none p.isList hu' _ _ _ _ ⟨.bl _,H,I,rfl,q⟩; all_goals simp
  | bl b=>cases ry; rw[Du] at q; exact SeqAt.RcAt.list_bool b p.isList hu' _ _ _ _ ⟨.bl _,H,I,rfl,q⟩; all_goals simp
  | int b=>obtain ⟨t,rfl⟩:=ry; rw[Du] at q; exact SeqAt.RcAt.list_int b t p.isList hu' _ _ _ _ ⟨.bl _,H,I,rfl,q⟩; all_goals simp
  | str b=>obtain ⟨t,rfl⟩:=ry; rw[Du] at q; exact SeqAt.RcAt.list_str b t p.isList hu' _ _ _ _ ⟨.bl _,H,I,rfl,q⟩; all_goals simp
  | @lst b ys es q2 rr2=>cases ry; obtain ⟨vs,r2,p2,_⟩:=I.list q2; rw[Du] at q; exact eE p p2 (r1.length.symm.trans r.length) (r2.length.symm.trans rr2.length) hu' (λj h1 h2=>Ov I r rr2 r1 r2 (Uo (by simp only[Dc] at hd; omega)) j h1 h2) _ _ _ _ ⟨.bl _,H,I,rfl,q⟩
  | @tup b ys es q2 rr2=>cases ry; obtain ⟨vs,r2,p2,_⟩:=I.tuple q2; rw[Du] at q; exact SeqAt.RcAt.list_tuple p.isList p2 hu' _ _ _ _ ⟨.bl _,H,I,rfl,q⟩; all_goals simp
 | @tup a xs ds qa r =>
  cases rx
  obtain ⟨us,r1,p,_⟩:=I.tuple qa
  cases h2 with
  | non=>cases ry; rw[Du] at q; exact SeqAt.RcAt.tuple_none p hu' _ _ _ _ ⟨.bl _,H,I,rfl,q⟩; all_goals simp
  | bl b=>cases ry; rw[Du] at q; exact SeqAt.RcAt.tuple_bool b p hu' _ _ _ _ ⟨.bl _,H,I,rfl,q⟩; all_goals simp
  | int b=>obtain ⟨t,rfl⟩:=ry; rw[Du] at q; exact SeqAt.RcAt.tuple_int b t p hu' _ _ _ _ ⟨.bl _,H,I,rfl,q⟩; all_goals simp
  | str b=>obtain ⟨t,rfl⟩:=ry; rw[Du] at q; exact SeqAt.RcAt.tuple_str b t p hu' _ _ _ _ ⟨.bl _,H,I,rfl,q⟩; all_goals simp
  | @lst b ys es q2 rr2=>cases ry; obtain ⟨vs,r2,p2,_⟩:=I.list q2; rw[Du] at q; exact SeqAt.RcAt.tuple_list p p2.isList hu' _ _ _ _ ⟨.bl _,H,I,rfl,q⟩; all_goals simp
  | @tup b ys es q2 rr2=>cases ry; obtain ⟨vs,r2,p2,_⟩:=I.tuple q2; rw[Du] at q; exact Zy p p2 (r1.length.symm.trans r.length) (r2.length.symm.trans rr2.length) hu' (λj h1 h2=>Ov I r rr2 r1 r2 (Uo (by simp only[Dc] at hd; omega)) j h1 h2) _ _ _ _ ⟨.bl _,H,I,rfl,q⟩
theorem A2(hu:X.A.units+64<cLine):Vk X (Jx .NotEq) (Q7 X.K):=by
 intro pins s σ H x y v u Q I rx ry h
 obtain ⟨d,e,h1,h2,hd,q⟩:=h
 have hu':X.A.units<cLine:=by omega
 cases h1 with
 | non =>
  cases rx
  cases h2 with
  | non=>cases ry; rw[Du] at q; exact SeqAt.RcNeAt.none_none _ _ _ _ ⟨.bl _,H,I,rfl,q⟩
  | bl b=>cases ry; rw[Du] at q; exact SeqAt.RcNeAt.none_bool b _ _ _ _ ⟨.bl _,H,I,rfl,q⟩; all_goals simp
  | int b=>obtain ⟨t,rfl⟩:=ry; rw[Du] at q; exact SeqAt.RcNeAt.none_int b t _ _ _ _ ⟨.bl _,H,I,rfl,q⟩; all_goals simp
  | str b=>obtain ⟨t,rfl⟩:=ry; rw[Du] at q; exact SeqAt.RcNeAt.none_str b t _ _ _ _ ⟨.bl _,H,I,rfl,q⟩; all_goals simp
  | @lst b ys es q2 rr2=>cases ry; obtain ⟨vs,r2,p2,_⟩:=I.list q2; rw[Du] at q; exact SeqAt.RcNeAt.none_list p2.isList hu' _ _ _ _ ⟨.bl _,H,I,rfl,q⟩; all_goals simp
  | @tup b ys es q2 rr2=>cases ry; obtain ⟨vs,r2,p2,_⟩:=I.tuple q2; rw[Du] at q; exact SeqAt.RcNeAt.none_tuple p2 hu' _ _ _ _ ⟨.bl _,H,I,rfl,q⟩; all_goals simp
 | bl a =>
  cases rx
  cases h2 with
  | non=>cases ry; rw[Du] at q; exact SeqAt.RcNeAt.bool_none a _ _ _ _ ⟨.bl _,H,I,rfl,q⟩; all_goals simp
  | bl b=>cases ry; rw[Du] at q; exact SeqAt.RcNeAt.bool_bool a b _ _ _ _ ⟨.bl _,H,I,rfl,q⟩
  | int b=>obtain ⟨t,rfl⟩:=ry; rw[Du] at q; exact SeqAt.RcNeAt.bool_int a b t _ _ _ _ ⟨.bl _,H,I,rfl,q⟩
  | str b=>obtain ⟨t,rfl⟩:=ry; rw[Du] at q; exact SeqAt.RcNeAt.bool_str a b t _ _ _ _ ⟨.bl _,H,I,rfl,q⟩; all_goals simp
  | @lst b ys es q2 rr2=>cases ry; obtain ⟨vs,r2,p2,_⟩:=I.list q2; rw[Du] at q; exact SeqAt.RcNeAt.bool_list a p2.isList hu' _ _ _ _ ⟨.bl _,H,I,rfl,q⟩; all_goals simp
  | @tup b ys es q2 rr2=>cases ry; obtain ⟨vs,r2,p2,_⟩:=I.tuple q2; rw[Du] at q; exact SeqAt.RcNeAt.bool_tuple a p2 hu' _ _ _ _ ⟨.bl _,H,I,rfl,q⟩; all_goals simp
 | int a =>
  obtain ⟨t',rfl⟩:=rx
  cases h2 with
  | non=>cases ry; rw[Du] at q; exact SeqAt.RcNeAt.int_none a t' _ _ _ _ ⟨.bl _,H,I,rfl,q⟩; all_goals simp
  | bl b=>cases ry; rw[Du] at q; exact SeqAt.RcNeAt.int_bool a t' b _ _ _ _ ⟨.bl _,H,I,rfl,q⟩
  | int b=>obtain ⟨t,rfl⟩:=ry; rw[Du] at q; exact SeqAt.RcNeAt.int_int a t' b t _ _ _ _ ⟨.bl _,H,I,rfl,q⟩
  | str b=>obtain ⟨t,rfl⟩:=ry; rw[Du] at q; exact SeqAt.RcNeAt.int_str a t' b t _ _ _ _ ⟨.bl _,H,I,rfl,q⟩; all_goals simp
  | @lst b ys es q2 rr2=>cases ry; obtain ⟨vs,r2,p2,_⟩:=I.list q2; rw[Du] at q; exact SeqAt.RcNeAt.int_list a t' p2.isList hu' _ _ _ _ ⟨.bl _,H,I,rfl,q⟩; all_goals simp
  | @tup b ys es q2 rr2=>cases ry; obtain ⟨vs,r2,p2,_⟩:=I.tuple q2; rw[Du] at q; exact SeqAt.RcNeAt.int_tuple a t' p2 hu' _ _ _ _ ⟨.bl _,H,I,rfl,q⟩; all_goals simp
 | str a =>
  obtain ⟨t',rfl⟩:=rx
  cases h2 with
  | non=>cases ry; rw[Du] at q; exact SeqAt.RcNeAt.str_none a t' _ _ _ _ ⟨.bl _,H,I,rfl,q⟩; all_goals simp
  | bl b=>cases ry; rw[Du] at q; exact SeqAt.RcNeAt.str_bool a t' b _ _ _ _ ⟨.bl _,H,I,rfl,q⟩; all_goals simp
  | int b=>obtain ⟨t,rfl⟩:=ry; rw[Du] at q; exact SeqAt.RcNeAt.str_int a t' b t _ _ _ _ ⟨.bl _,H,I,rfl,q⟩; all_goals simp
  | str b=>obtain ⟨t,rfl⟩:=ry; rw[Du] at q; exact SeqAt.RcNeAt.str_str a t' b t _ _ _ _ ⟨.bl _,H,I,rfl,q⟩
  | @lst b ys es q2 rr2=>cases ry; obtain ⟨vs,r2,p2,_⟩:=I.list q2; rw[Du] at q; exact SeqAt.RcNeAt.str_list a t' p2.isList hu' _ _ _ _ ⟨.bl _,H,I,rfl,q⟩; all_goals simp
  | @tup b ys es q2 rr2=>cases ry; obtain ⟨vs,r2,p2,_⟩:=I.tuple q2; rw[Du] at q; exact SeqAt.RcNeAt.str_tuple a t' p2 hu' _ _ _ _ ⟨.bl _,H,I,rfl,q⟩; all_goals simp
 | @lst a xs ds qa r =>
  cases rx
  obtain ⟨us,r1,p,_⟩:=I.list qa
  cases h2 with
  | non=>cases ry; rw[Du] at q; exact SeqAt.RcNeAt.list_none p.isList hu' _ _ _ _ ⟨.bl _,H,I,rfl,q⟩; all_goals simp
  | bl b=>cases ry; rw[Du] at q; exact SeqAt.RcNeAt.list_bool b p.isList hu' _ _ _ _ ⟨.bl _,H,I,rfl,q⟩; all_goals simp
  | int b=>obtain ⟨t,rfl⟩:=ry; rw[Du] at q; exact SeqAt.RcNeAt.list_int b t p.isList hu' _ _ _ _ ⟨.bl _,H,I,rfl,q⟩; all_goals simp
  | str b=>obtain ⟨t,rfl⟩:=ry; rw[Du] at q; exact SeqAt.RcNeAt.list_str b t p.isList hu' _ _ _ _ ⟨.bl _,H,I,rfl,q⟩; all_goals simp
  | @lst b ys es q2 rr2=>cases ry; obtain ⟨vs,r2,p2,_⟩:=I.list q2; rw[Du] at q; exact oF p p2 (r1.length.symm.trans r.length) (r2.length.symm.trans rr2.length) hu' (λj h1 h2=>Ov I r rr2 r1 r2 (Uo (by simp only[Dc] at hd; omega)) j h1 h2) _ _ _ _ ⟨.bl _,H,I,rfl,q⟩
  | @tup b ys es q2 rr2=>cases ry; obtain ⟨vs,r2,p2,_⟩:=I.tuple q2; rw[Du] at q; exact SeqAt.RcNeAt.list_tuple p.isList p2 hu' _ _ _ _ ⟨.bl _,H,I,rfl,q⟩; all_goals simp
 | @tup a xs ds qa r =>
  cases rx
  obtain ⟨us,r1,p,_⟩:=I.tuple qa
  cases h2 with
  | non=>cases ry; rw[Du] at q; exact SeqAt.RcNeAt.tuple_none p hu' _ _ _ _ ⟨.bl _,H,I,rfl,q⟩; all_goals simp
  | bl b=>cases ry; rw[Du] at q; exact SeqAt.RcNeAt.tuple_bool b p hu' _ _ _ _ ⟨.bl _,H,I,rfl,q⟩; all_goals simp
  | int b=>obtain ⟨t,rfl⟩:=ry; rw[Du] at q; exact SeqAt.RcNeAt.tuple_int b t p hu' _ _ _ _ ⟨.bl _,H,I,rfl,q⟩; all_goals simp
  | str b=>obtain ⟨t,rfl⟩:=ry; rw[Du] at q; exact SeqAt.RcNeAt.tuple_str b t p hu' _ _ _ _ ⟨.bl _,H,I,rfl,q⟩; all_goals simp
  | @lst b ys es q2 rr2=>cases ry; obtain ⟨vs,r2,p2,_⟩:=I.list q2; rw[Du] at q; exact SeqAt.RcNeAt.tuple_list p p2.isList hu' _ _ _ _ ⟨.bl _,H,I,rfl,q⟩; all_goals simp
  | @tup b ys es q2 rr2=>cases ry; obtain ⟨vs,r2,p2,_⟩:=I.tuple q2; rw[Du] at q; exact jT p p2 (r1.length.symm.trans r.length) (r2.length.symm.trans rr2.length) hu' (λj h1 h2=>Ov I r rr2 r1 r2 (Uo (by simp only[Dc] at hd; omega)) j h1 h2) _ _ _ _ ⟨.bl _,H,I,rfl,q⟩
theorem pX{z z':V}{v:Value}(h:RelV z v)(h':RelV z' v):z=z':=by
 cases z <;> cases z' <;> simp only[L2.RelV] at h h' <;> first | rfl | (subst h; cases h'; rfl) | (subst h; cases h'; done) | (obtain ⟨t,rfl⟩:=h; obtain ⟨t',e⟩:=h'; cases e; rfl) | (obtain ⟨t,rfl⟩:=h; obtain ⟨t',e⟩:=h'; cases e; done) | (obtain ⟨t,rfl⟩:=h; cases h'; done) | (subst h; obtain ⟨t',e⟩:=h'; cases e)
open Classical in
noncomputable def Lp(K:PySem.W.Frag)(H:Hp)(d:Ad)(v:Value):Bool:=if h:∃e z,RdV K H z e/\RelV z v then Du h.choose d else false
theorem gU{pins:List (Addr×Obj)}{σ:L2.St}{H:Hp}{s:Ag}(I:Inv X pins σ H s){d e:Ad}{z:V}{v:Value}(h:RdV X.K H z e)(r:RelV z v):Lp X.K H d v=Du e d:=by
 unfold Lp
 have hx:∃e z,RdV X.K H z e/\RelV z v:=⟨e,z,h,r⟩
 rw[dif_pos hx]
 obtain ⟨z',h',r'⟩:=hx.choose_spec
 have ez:=pX r' r
 subst ez
 rw[RdV.det I h' h]
theorem Nu{pins:List (Addr×Obj)}{σ:L2.St}{H:Hp}{s:Ag}(I:Inv X pins σ H s){d:Ad}:∀{xs:List V} {ds:List Ad} {us:List Value},RdVs X.K H xs ds->En xs us->us.any (Lp X.K H d)=ds.any λe=>Du e d
 | _,_,_,.nil,r=>by cases r; rfl
 | _,_,_,.cons h t,r=>by
  cases r with
  | cons r1 r2=>rw[Hw,Hw,gU I h r1,Nu I t r2]
theorem Ny{pins:List (Addr×Obj)}{σ:L2.St}{H:Hp}{s:Ag}(I:Inv X pins σ H s){A:Co}{x:V}{d:Ad}{u:Value}(hx:RdV X.K H x d)(rx:RelV x u):∀{xs:List V} {ds:List Ad} {us:List Value},RdVs X.K H xs ds->En xs us->A.units+Bl ds<cLine->∀v∈us,Lf A s v u (Lp X.K H d v)
 | _,_,_,.nil,r,_=>λv hv=>by cases r; cases hv
 | _,_,_,@RdVs.cons _ _ y e ys es h t,r,hu=>λv hv=>by
  have hm:A.units+e.depth<cLine/\A.units+Bl es<cLine:=by
   simp only[Bl] at hu
   omega
  cases r with
  | cons r1 r2 =>
   rcases Ak.mp hv with rfl | hv
   ·rw[gU I h r1]; exact uE I h hx r1 rx hm.1
   ·exact Ny I hx rx t r2 hm.2 v hv
def E2(K:PySem.W.Frag)(neg:Bool):R2:=λx y H Q=>∃p xs d ds,y=.ref p/\(Kq K H p xs\/Sj K H p xs)/\RdV K H x d/\RdVs K H xs ds/\Bl ds<=60/\Q (.bl (if neg then !(ds.any λe=>Du e d) else ds.any λe=>Du e d)) H
theorem I0(hu:X.A.units+64<cLine):Vk X (Jx .In) (E2 X.K false):=by
 intro pins s σ H x y v u Q I rx ry h
 obtain ⟨p,xs,d,ds,rfl,hq,hx,hs,hd,q⟩:=h
 cases ry
 have hu1:X.A.in1.units+Bl ds<cLine:=by have:=Us X.A; omega
 rcases hq with hq | hq
 ·obtain ⟨its,r,pl,hz⟩:=I.list hq
  refine SeqAt.in_listAt (Lp X.K H d) pl.isList (λw hw=>Ny I hx rx hs r hu1 w (by simpa using hw)) ⟨.bl _,H,I,rfl,?_⟩
  rw[show its.toArray.any (Lp X.K H d)=its.any (Lp X.K H d) by simp,Nu I hs r]
  exact q
 ·obtain ⟨its,r,pl,hz⟩:=I.tuple hq
  refine SeqAt.in_tupleAt (Lp X.K H d) pl (λw hw=>Ny I hx rx hs r hu1 w (by simpa using hw)) ⟨.bl _,H,I,rfl,?_⟩
  rw[show its.toArray.any (Lp X.K H d)=its.any (Lp X.K H d) by simp,Nu I hs r]
  exact q
theorem mZ(hu:X.A.units+64<cLine):Vk X (Jx .NotIn) (E2 X.K true):=by
 intro pins s σ H x y v u Q I rx ry h
 obtain ⟨p,xs,d,ds,rfl,hq,hx,hs,hd,q⟩:=h
 cases ry
 have hu1:X.A.in1.units+Bl ds<cLine:=by have:=Us X.A; omega
 rcases hq with hq | hq
 ·obtain ⟨its,r,pl,hz⟩:=I.list hq
  refine SeqAt.notIn_listAt (Lp X.K H d) pl.isList (λw hw=>Ny I hx rx hs r hu1 w (by simpa using hw)) ⟨.bl _,H,I,rfl,?_⟩
  rw[show its.toArray.any (Lp X.K H d)=its.any (Lp X.K H d) by simp,Nu I hs r]
  exact q
 ·obtain ⟨its,r,pl,hz⟩:=I.tuple hq
  refine SeqAt.notIn_tupleAt (Lp X.K H d) pl (λw hw=>Ny I hx rx hs r hu1 w (by simpa using hw)) ⟨.bl _,H,I,rfl,?_⟩
  rw[show its.toArray.any (Lp X.K H d)=its.any (Lp X.K H d) by simp,Nu I hs r]
  exact q
end
def W0(K:PySem.W.Frag)(a:Addr):It :=
 ⟨λi H=>∃xs x,Kq K H a xs/\xs[i]? = some x,λi H x H'=>∃p y,x=.ref p/\H p=none/\H'=upd H p (.tup [.int i,y])/\∀xs,Kq K H a xs->xs[i]? = some y,λi H=>∃xs,Kq K H a xs/\xs.length<=i⟩
section
variable{X:Cx}{pins:List (Addr×Obj)}{σ:L2.St}{H:Hp}{s:Ag}{h':Heap}
theorem Lx{t':Nat}{fp:List Addr}(I:Inv X pins σ H s)(k:∀b o,b∉fp->s.heap.get? b=some o->h'.get? b=some o)(hf:∀b∈fp,Lk X pins H b):Inv X pins σ H { s with heap:=h',toks:=t' }:=by
 have nit:∀b u,H b=some u->b∉fp:=λb u e z=>by rw[(hf b z).1] at e; cases e
 refine I.step (g':=s.gens) (d':=s.drawn) (ch:=fp) (λb hb=>?_) (λb o _ _ hc e _=>k b o hc e) (λb o _ _ hc e _=>⟨o.slots,k b o hc e⟩) (λ_ _ _ _ n=>n)
  (λb o hc e=>⟨o,k b o hc e⟩) (λ_ _ e=>e) (λ_ _ _ e=>e) (λb ps e=>⟨#[],by rw[e]; simp⟩) (λm hm=>?_) (λb u e=>?_) I.bare
 ·obtain ⟨_,f1,_,f3,f4,f5⟩:=hf b hb
  exact ⟨f3,f1,f4,f5⟩
 ·obtain ⟨o,es,ep,ho,r⟩:=hm
  exact ⟨o,es,ep,k _ o (λz=>(hf _ z).2.1 rfl) ho,r⟩
 ·refine (I.hok b u e).stay (λc v hc q=>k c v ?_ q) (λ_ q=>q) λ_ _ q=>q
  rcases hc with z | z
  ·rw[z]; exact nit b u e
  ·exact nit c _ z
end
theorem oY{P:Bo}{w:World}{K:PySem.W.Frag}{elts:List Expr}{k:Nat}{pos:Pos}(a e it:Addr)(ne:e≠it):Turn P w K (.Tuple elts k pos) (W0 K a) [e,it] e (λi h=>(∃old,IsEnum h e it ((i:Nat):Int) old)/\h.IsListIter it a i) where
 mem:=Ab
 obj:=λi h st b hb=>by
  obtain ⟨⟨old,he⟩,o,e1,c,d⟩:=st
  rcases Ak.mp hb with z | z
  ·subst z
   exact ⟨_,he,λv z=>by cases z⟩
  ·rw[Ah.mp z]
   exact ⟨o,e1,λv z=>by rw[d] at z; cases z⟩
 keep:=λi h h' st kp=>⟨let ⟨old,he⟩:=st.1; ⟨old,kp e Ab _ he⟩,st.2.at λo q=>kp it (Af _ Ab) o q⟩
 item:=by
  intro X hP hw hK hc i pins s σ H E I hf st hg
  subst hP hw hK
  obtain ⟨xs,x,hq,hx⟩:=hg
  obtain ⟨its,rv,p,hz⟩:=I.list hq
  obtain ⟨u,hu,ru⟩:=rv.get hx
  obtain ⟨⟨old,he⟩,hit⟩:=st
  have el:e<s.heap.objs.size:=Ba he
  have il:it<s.heap.objs.size:=by obtain ⟨_,q,_⟩:=hit; exact Ba q
  refine wpAny_pyNext_enum_item he hit p.isList (x:=u) (by simpa using hu) ne λh1 ho hit1 hT hsz hk=>⟨_,rfl,wpAny_letOwnedTupleGo_enum ho λh2 he2 hs2=>?_⟩
  have hs2':Dd e h1 h2:=hs2
  -- the pair laid,then the iterators turned
  have I1:Inv X pins σ (upd H s.heap.objs.size (.tup [.int i,x])) { s with heap:=s.heap.push { cls:=.type "tuple",data:=.seq #[.int i s.toks,u] } } :=
   I.laid (t':=s.toks) (λb o q=>Ae _ q) (Ai _) ⟨by show 2<=Ap; decide,[.int i s.toks,u],.cons ⟨_,rfl⟩ (.cons ru .nil),_,Ar _ rfl,rfl,0,rfl⟩
  have nT:∀b∈[e,it],b≠s.heap.objs.size:=λb hb=>by
   rcases Ak.mp hb with z | z
   ·rw[z]; exact Br el
   ·rw[Ah.mp z]; exact Br il
  have fr:∀b∈[e,it],(upd H s.heap.objs.size (.tup [.int i,x])) b=none:=λb hb=>by rw[Cn (nT b hb)]; exact (hf b hb).1
  refine ⟨.ref s.heap.objs.size,_,Lx (fp:=[e,it]) (s:={ s with heap:=s.heap.push { cls:=.type "tuple",data:=.seq #[.int i s.toks,u] } }) (h':=h2) (t':=s.toks+1) I1 (λb o hb q=>?_) (λb hb=>⟨fr b hb,(hf b hb).2⟩),rfl,⟨_,x,rfl,I.hok.fresh (Ai _),rfl,λys hy=>by rw[I.list_inj hy hq]; exact hx⟩,⟨⟨u,?_⟩,?_⟩,fr⟩
  ·have nbe:b≠e:=λz=>hb (by rw[z]; exact Ab)
   have nbi:b≠it:=λz=>hb (by rw[z]; exact Af _ Ab)
   refine (hs2'.2 b nbe).trans ?_
   by_cases hbT:b=s.heap.objs.size
   ·subst hbT
    have q':=(Ar s.heap (o:={ cls:=.type "tuple",data:=.seq #[.int i s.toks,u] }) rfl).symm.trans q
    rw[hT]
    exact q'
   ·refine hk b o nbe nbi ?_
    have q0:(s.heap.push { cls:=.type "tuple",data:=.seq #[.int i s.toks,u] }).get? b=some o:=q
    rcases Heap.get?_push_cases q0 with z | z
    ·exact absurd z.1 hbT
    ·exact z
  ·have : ((i+1:Nat):Int)=(i:Int)+1:=by omega
   rw[this]
   exact he2
  ·exact hit1.at λo q=>(hs2'.2 it (Ld ne)).trans q
 done:=by
  intro X hP hw hK hc i pins s σ H E I hf st hg
  subst hP hw hK
  obtain ⟨xs,hq,hx⟩:=hg
  obtain ⟨its,rv,p,hz⟩:=I.list hq
  obtain ⟨⟨old,he⟩,hit⟩:=st
  have hl:=rv.length
  exact wpAny_pyNext_enum_end (I.ok.hd hc) he hit p.isList (by simp; omega) λh1 eb=>⟨rfl,Lx (fp:=[e,it]) (t':=s.toks) I (λb o hb q=>eb b o (λz=>hb (by rw[z]; exact Af _ Ab)) q) hf⟩
 self:=λ_ _ _ _ _ st h=>let ⟨_,he⟩:=st.1; wpAny_pyIter_enum he h
section
variable{X:Cx}
def Q6(K:PySem.W.Frag)(ta:TA):TI:=λσ H R=>ta σ H λvs H1=>∃a,vs=[.ref a]/\(∃xs,Kq K H1 a xs)/\R (W0 K a) H1
theorem vT{elts:List Expr}{k:Nat}{tp:Pos}{a:Expr}{ta:TA}{p pos:Pos}(hg:Gl X "enumerate")(hm:X.mg "enumerate" = none)(ha:PA X [a] ta)(hs:Bp [a] X.env=[(false,eval a X.env)]:=by rfl):PI X (.Tuple elts k tp) (.Call (.Name "enumerate" p) [a] [] pos) (Q6 X.K ta):=by
 intro pins s σ H R I h
 refine Call_ (Ll I hg hm (u:=.type "enumerate") (by decide +kernel) (Ef (Fu (ha pos pins s σ H _ I h) λus s1 ⟨vs,H1,I1,r1,q1⟩=>?_) hs rfl))
 obtain ⟨l,e,⟨xs,hq⟩,q⟩:=q1
 subst e
 obtain ⟨u,rfl,ru⟩:=vals1 r1
 cases ru
 obtain ⟨its,rv,pl,hz⟩:=I1.list hq
 refine call_enumerate_list pl.isList λh2 he hit hsz hk=>wpAny_pyIter_enum he ?_
 have fr:∀b∈[s1.heap.objs.size+1,s1.heap.objs.size],Lk X pins H1 b:=λb hb=>by
  rcases Ak.mp hb with z | z
  ·rw[z]; exact I1.fpOk (Sr _) (I1.hok.fresh (Sr _))
  ·rw[Ah.mp z]; exact I1.fpOk (Ai _) (I1.hok.fresh (Ai _))
 exact ⟨s1.heap.objs.size+1,[s1.heap.objs.size+1,s1.heap.objs.size],_,_,H1,rfl,I1.kept (t':=s1.toks) hk,oY l _ _ (Nat.succ_ne_self _),⟨⟨_,he⟩,hit⟩,fr,q⟩
end
section
variable{X:Cx}
def w5(K:PySem.W.Frag)(J:It)(js:List Nat)(tc:TT)(te:TE)(σ:L2.St)(H1:Hp)(Q:VK):Prop:=∀D,H1 D=none->∃W:Nat->Nat->Hp->Prop,(∃m,W 0 m (upd H1 D (.lst [])))/\∀i m H,W i m H ->
 (J.stop i H/\Q (.ref D) H)\/(J.go i H/\∀x H',J.yld i H x H'->∃(t:Addr) (w1 w2:V),x=.ref t/\Sj K H' t [w1,w2]/\∃(N1:Hp->Prop) (N2:VK),(∀H2,N1 H2->∃m',m'<m/\W (i+1) m' H2) /\
  (∀y H3,N2 y H3->∃acc,H3 D=some (.lst acc)/\acc.length<Ap/\∃m',m'<m/\W (i+1) m' (upd H3 D (.lst (acc++[y])))) /\
  tc (some w1::some w2::Gc σ js) H' λc H2=>if c=true then te (some w1::some w2::Gc σ js) H2 N2 else N1 H2)
def qR(K:PySem.W.Frag)(wi:TI)(js:List Nat)(tc:TT)(te:TE):TE:=λσ H Q=>wi σ H λJ H1=>w5 K J js tc te σ H1 Q
theorem qO{elt iter:Expr}{x x2:Str}{px px2 pt pos:Pos}{kt:Nat}{ifs:List Expr}{scope:Scope}{cl:List (Str×Addr)}{ys:List Str}{js:List Nat}{wi:TI}{tc:TT}{te:TE}(C:CompScope X scope cl x ys js)(own2:pV scope x2)(nd2:(x::x2::ys).Nodup)(hc:X.calm=true)(hi:PI X (.Tuple [.Name x px,.Name x2 px2] kt pt) iter wi)(ht:∀fp s H,pG (Et X scope cl (x::x2::ys) fp s H) ifs tc)(he:∀fp s H,PE (Et X scope cl (x::x2::ys) fp s H) elt te)(hs:∀x,Fe iter X.env x=pure x:=by intro _; rfl):PE X (.ListComp elt [⟨.Tuple [.Name x px,.Name x2 px2] kt pt,iter,ifs,0⟩] scope pos) (qR X.K wi js tc te):=by
 intro pins s σ H Q I h
 rw[eval_ListComp]
 refine Rh (use:=none) rfl hs C.clos C.kind C.locs (Fu (hi pins s σ H _ I h) λv s1 h1=>Fu h1 λitv s2 h2=>?_)
 obtain ⟨it,fp,tn,J,H2,e,I2,T,st2,f2,q2⟩:=h2
 subst e
 have fD:H2 s2.heap.objs.size=none:=I2.hok.fresh (Ai _)
 obtain ⟨W,⟨m0,w0⟩,turn⟩:=q2 s2.heap.objs.size fD
 refine Ei ?_
 have I3:Inv X pins σ (upd H2 s2.heap.objs.size (.lst [])) { s2 with heap:=s2.heap.push { cls:=.type "list",dict:=none,data:=.seq ([]:List Value).toArray } } :=
  I2.laid (t':=s2.toks) (λb u q=>Ae _ q) (Ai _) ⟨Ct _,[],0,.nil,Ar _ rfl⟩
 obtain ⟨f3,st3',o3'⟩:=Xw I2 T st2 f2 I3
 generalize hS3:({ s2 with heap:=s2.heap.push { cls:=.type "list",dict:=none,data:=.seq ([]:List Value).toArray } }:Ag)=s3 at I3
 have st3:tn 0 s3.heap:=by rw[<- hS3]; exact st3'
 have o3:∀b∈fp,∃o,s3.heap.get? b=some o:=by rw[<- hS3]; exact o3'
 show wpAny _ _ (Pe scope X.env.globals cl [] X.env.qual none .none (some X.env)) _ _ _
 refine Ug C λh4 hns4 keep4 new4=>?_
 have I4:∀tk,Inv (Et X scope cl (x::x2::ys) fp s3 (upd H2 s2.heap.objs.size (.lst []))) [] (none::none::Gc σ js) (upd H2 s2.heap.objs.size (.lst [])) { s3 with heap:=h4,toks:=tk }:=λtk=>Sb (pre:=[x,x2]) C I3 f3 o3 hns4 keep4 new4
 have st4:tn 0 h4:=T.keep 0 _ _ st3 λb hb o q=>keep4 b o q
 generalize hX':Et X scope cl (x::x2::ys) fp s3 (upd H2 s2.heap.objs.size (.lst []))=X' at I4
 obtain ⟨eP,eW,eK,eA,eC⟩:=Yb hc hX'
 have stat:∀{H':Hp},(∀b∈fp,H' b=none)->∀b∈fp,Lk X' [] H' b:=λ{H'} hn=>Uj hX' (I4 0) hn
 have loop:∀s5:Ag,s5={ s3 with heap:=h4,toks:=s3.toks+([]:List (Str×Value)).length } ->
   Mr (model X.prog X.w) X.A (.compLoop (.ListComp elt [⟨.Tuple [.Name x px,.Name x2 px2] kt pt,iter,ifs,0⟩] scope pos) 0 (.ref it) (.ref s2.heap.objs.size) (compEnvC scope (Ec (s3.heap.objs.size+1) scope.names cl) s3.heap.objs.size X.env))
    (compPost (model X.prog X.w) X.A X.xe none (EP X pins σ Q) (.ref s2.heap.objs.size) s3.heap.objs.size) s5:=by
  rintro s5 rfl
  refine Rw (λn s'=>∃i o o2 H',Inv X' [] (o::o2::Gc σ js) H' s'/\tn i s'.heap/\(∀b∈fp,H' b=none)/\W i n H') ?_ m0
   ⟨0,none,none,_,I4 _,st4,λb hb=>(f3 b hb).1,w0⟩
  (intro n s6 q_; obtain ⟨i,o,o2,H6,I6,st6,fr6,w6⟩ := q_)
  rcases turn i n H6 w6 with ⟨stop,qn⟩ | ⟨go,step⟩
  ·have hd:=T.done X' eP eW eK eC i [] s6 _ H6 (λ_ _=>False) I6 (stat fr6) st6 stop
   rw[eA] at hd
   refine Fu hd λr s7 q0_ => ?_
   obtain ⟨hr,I7⟩ := q0_
   subst hr
   obtain ⟨m7,hn7,fin7⟩:=Yp hX' I3 f3 I7
   exact ⟨m7,hn7,λh8 hs8=>⟨.ref s2.heap.objs.size,H6,fin7 h8 hs8,rfl,qn⟩⟩
  ·have hit:=T.item X' eP eW eK eC i [] s6 _ H6 (λ_ _=>False) I6 (stat fr6) st6 go
   rw[eA] at hit
   refine Fu hit λr s7 q0_ => ?_
   obtain ⟨u,hr,h7⟩ := q0_
   subst hr
   refine Fu h7 λ_ s8 q0_ => ?_
   obtain ⟨y,H8,I8,r8,y8,st8,fr8⟩ := q0_
   have I8':=I8.pinned (stat fr8) (T.obj _ _ st8)
   obtain ⟨tp,w1,w2,ey,hsq,N1,N2,hN1,hN2,hst⟩:=step y H8 y8
   have again:∀{H9:Hp} {s9:Ag} {m':Nat},Inv X' ([]++Rx fp s8.heap) (some w1::some w2::Gc σ js) H9 s9->m'<n->W (i+1) m' H9->∃m,m<n/\∃i o o2 H',Inv X' [] (o::o2::Gc σ js) H' s9/\tn i s9.heap/\(∀b∈fp,H' b=none)/\W i m H':=λ{H9 s9 m'} I9 hm w9=>by
    refine ⟨m',hm,i+1,some w1,some w2,H9,I9.unpinned,T.keep _ _ _ st8 λb hb o e=>(I9.pin (b,o) (Ao _ (Ao _ (Hz hb e)))).1,λb hb=>?_,w9⟩
    obtain ⟨o,e,_⟩:=T.obj _ _ st8 b hb
    exact (I9.pin (b,o) (Ao _ (Ao _ (Hz hb e)))).2.1
   subst hX'
   have g1:PG (Et X scope cl (x::x2::ys) fp s3 (upd H2 s2.heap.objs.size (.lst []))) (.Tuple [.Name x px,.Name x2 px2] kt pt) (M4 X.K 2 (pS (Vj 0) (pS (Vj 1) T8))) :=
    B4 (X:=Et X scope cl (x::x2::ys) fp s3 (upd H2 s2.heap.objs.size (.lst []))) hc (fE (Mu (i:=0) (x:=x) nd2 rfl (Wg C.own) (dF C.own)) (fE (Mu (i:=1) (x:=x2) nd2 rfl (Wg own2) (dF own2)) wI))
   refine Fu (g1 _ s8 _ H8 y u (λσ' H'=>σ'=some w1::some w2::Gc σ js/\H'=H8) I8' r8 ⟨tp,[w1,w2],ey,hsq,rfl,_,_,rfl,_,_,rfl,rfl,rfl,rfl⟩) λ_ s9 q0_ => ?_
   obtain ⟨σ9,H9,I9,e9,e9'⟩ := q0_
   subst e9 e9'
   refine Fu (ht fp s3 _ _ s9 _ _ _ I9 hst) λok s10 q0_ => ?_
   obtain ⟨H10,I10,q10⟩ := q0_
   cases ok with
   | false =>
    rw[if_neg Bm] at q10 ⊢
    obtain ⟨m',hm,w10⟩:=hN1 _ q10
    exact again I10 hm w10
   | true =>
    rw[if_pos rfl] at q10 ⊢
    refine Fu (he fp s3 _ _ s10 _ _ _ I10 q10) λz s11 q0_ => ?_
    obtain ⟨vz,H11,I11,r11,q11⟩ := q0_
    obtain ⟨acc,ha,hz,m',hm,w11⟩:=hN2 _ _ q11
    refine Fu (Qp _ s11 _ H11 (.ref s2.heap.objs.size) [vz] (.ref s2.heap.objs.size) [z] (λ_ H'=>H'=upd H11 s2.heap.objs.size (.lst (acc++[vz]))) I11 rfl (.cons r11 .nil) ⟨_,acc,vz,rfl,rfl,ha,hz,rfl⟩) λ_ s12 q0_ => ?_
    obtain ⟨_,H12,I12,_,e12⟩ := q0_
    subst e12
    exact again I12 hm w11
 exact So (loop _ rfl) (T.self X.A 0 _ _ _ st4 (loop _ rfl))
end
section
variable{X:Cx}
theorem wF{elt iter:Expr}{x y0:Str}{px py pos spos:Pos}{i0:Nat}{ifs:List Expr}{scope:Scope}{cl:List (Str×Addr)}{ys:List Str}{js:List Nat}{wi:TI}{tc:TT}{te:TE}(hN:X.N.Nodup)(hi0:X.N[i0]? = some y0)(hy0:X.env.scope.names.lookup y0=some .local)(C:CompScope X scope cl x ys js)(hc:X.calm=true)(hi:PI X (.Name x px) iter wi)(ht:∀fp s H,pG (Et X scope cl (x::ys) fp s H) ifs tc)(he:∀fp s H,PE (Et X scope cl (x::ys) fp s H) elt te)(hs:∀x,Fe iter X.env x=pure x:=by intro _; rfl)(hsw:Lc (.ListComp elt [⟨.Name x px,iter,ifs,0⟩] scope pos) (some (.Name y0 py)) spos.line X.env=pure true:=by rfl):PS X (.Assign [.Name y0 py] (.ListComp elt [⟨.Name x px,iter,ifs,0⟩] scope pos) spos) (xU (mJ wi js tc te) (Vj i0)):=by
 intro pins s σ H De I h
 have h:mJ wi js tc te σ H λv H1=>De.nx (σ.set i0 (some v)) H1:=h
 rw[exec_Assign_Name_used _ _ _ _ hsw]
 refine Aa (wpAny_standAt (Aa ?_))
 show wpAny _ X.A (do let _ <- comprehension (.ListComp elt [⟨.Name x px,iter,ifs,0⟩] scope pos) scope X.env _ (newList []) false (eval iter X.env) (some (Vp (.Name y0 py) X.env))) _ _ s
 refine Aa (Eh (Rh (use:=some (Vp (.Name y0 py) X.env)) (Q:=λ_ s'=>SP X pins De .next s') rfl hs C.clos C.kind C.locs (Fu (hi pins s σ H _ I h) λv s1 h1=>Fu h1 λitv s2 h2=>?_)) (λ_ s' hq=>Aj (Aj hq)) λ_ _ e=>e)
 obtain ⟨it,fp,tn,J,H2,e,I2,T,st2,f2,q2⟩:=h2
 subst e
 have fD:H2 s2.heap.objs.size=none:=I2.hok.fresh (Ai _)
 obtain ⟨W,⟨m0,w0⟩,turn⟩:=q2 s2.heap.objs.size fD
 refine Ei ?_
 have I3:Inv X pins σ (upd H2 s2.heap.objs.size (.lst [])) { s2 with heap:=s2.heap.push { cls:=.type "list",dict:=none,data:=.seq ([]:List Value).toArray } } :=
  I2.laid (t':=s2.toks) (λb u q=>Ae _ q) (Ai _) ⟨Ct _,[],0,.nil,Ar _ rfl⟩
 obtain ⟨f3,st3',o3'⟩:=Xw I2 T st2 f2 I3
 generalize hS3:({ s2 with heap:=s2.heap.push { cls:=.type "list",dict:=none,data:=.seq ([]:List Value).toArray } }:Ag)=s3 at I3
 have st3:tn 0 s3.heap:=by rw[<- hS3]; exact st3'
 have o3:∀b∈fp,∃o,s3.heap.get? b=some o:=by rw[<- hS3]; exact o3'
 show wpAny _ _ (Pe scope X.env.globals cl [] X.env.qual none .none (some X.env)) _ _ _
 refine Ug C λh4 hns4 keep4 new4=>?_
 have I4:∀tk,Inv (Et X scope cl (x::ys) fp s3 (upd H2 s2.heap.objs.size (.lst []))) [] (none::Gc σ js) (upd H2 s2.heap.objs.size (.lst [])) { s3 with heap:=h4,toks:=tk }:=λtk=>Sb (pre:=[x]) C I3 f3 o3 hns4 keep4 new4
 have st4:tn 0 h4:=T.keep 0 _ _ st3 λb hb o q=>keep4 b o q
 generalize hX':Et X scope cl (x::ys) fp s3 (upd H2 s2.heap.objs.size (.lst []))=X' at I4
 obtain ⟨eP,eW,eK,eA,eC⟩:=Yb hc hX'
 have stat:∀{H':Hp},(∀b∈fp,H' b=none)->∀b∈fp,Lk X' [] H' b:=λ{H'} hn=>Uj hX' (I4 0) hn
 have loop:∀s5:Ag,s5={ s3 with heap:=h4,toks:=s3.toks+([]:List (Str×Value)).length } ->
   Mr (model X.prog X.w) X.A (.compLoop (.ListComp elt [⟨.Name x px,iter,ifs,0⟩] scope pos) 0 (.ref it) (.ref s2.heap.objs.size) (compEnvC scope (Ec (s3.heap.objs.size+1) scope.names cl) s3.heap.objs.size X.env))
    (compPost (model X.prog X.w) X.A X.xe (some (Vp (.Name y0 py) X.env)) (λ_ s'=>SP X pins De .next s') (.ref s2.heap.objs.size) s3.heap.objs.size) s5:=by
  rintro s5 rfl
  refine Rw (λn s'=>∃i o H',Inv X' [] (o::Gc σ js) H' s'/\tn i s'.heap/\(∀b∈fp,H' b=none)/\W i n H') ?_ m0
   ⟨0,none,_,I4 _,st4,λb hb=>(f3 b hb).1,w0⟩
  (intro n s6 q_; obtain ⟨i,o,H6,I6,st6,fr6,w6⟩ := q_)
  rcases turn i n H6 w6 with ⟨stop,qn⟩ | ⟨go,step⟩
  ·have hd:=T.done X' eP eW eK eC i [] s6 _ H6 (λ_ _=>False) I6 (stat fr6) st6 stop
   rw[eA] at hd
   refine Fu hd λr s7 q0_ => ?_
   obtain ⟨hr,I7⟩ := q0_
   subst hr
   obtain ⟨⟨m7,hn7'⟩,I7f,J7⟩:=oJ hX' I3 f3 I7
   have fC:Lk X pins H6 s3.heap.objs.size:=I3.fpOk (Ai _) I7f
   obtain ⟨oC,esC,epC,hoC,rC⟩:=id hn7'
   have J8:Inv X (pins++[(s3.heap.objs.size,oC)]) σ H6 s7:=J7.pins_of λp hp=>by
    rcases Bi.mp hp with z | z
    ·have q:=J7.pin p (Ao _ z)
     exact q
    ·rw[Ah.mp z]
     exact ⟨hoC,I7f,fC.2.1,fC.2.2.1,λv hv=>by rw[rC.1] at hv; cases hv⟩
   refine Fu (Mu (X:=X) (i:=i0) (x:=y0) (pos:=py) hN hi0 (.inl hy0) (.inr hy0) (pins++[(s3.heap.objs.size,oC)]) s7 σ H6 (.ref s2.heap.objs.size) (.ref s2.heap.objs.size) (λσ' H'=>σ'=σ.set i0 (some (.ref s2.heap.objs.size))/\H'=H6) J8 rfl ⟨rfl,rfl⟩) λ_ s9 q0_ => ?_
   obtain ⟨σ9,H9,I9,e9,e9'⟩ := q0_
   subst e9 e9'
   have hoC9:=(I9.pin (s3.heap.objs.size,oC) (Ao _ (Ao _ Ab))).1
   have I9':Inv X pins (σ.set i0 (some (.ref s2.heap.objs.size))) H9 s9:=I9.pins_of λp hp=>I9.pin p (Ao _ (Av _ hp))
   refine ⟨m7,hn7'.at λo e=>by rw[hoC] at e; cases e; exact hoC9,λh10 hs10=>?_⟩
   exact ⟨_,H9,Lx (t':=s9.toks) (fp:=[s3.heap.objs.size]) I9' (λb o hb e=>(hs10.2 b (λz=>hb (by rw[z]; exact Ab))).trans e) (λb hb=>by rw[Ah.mp hb]; exact fC),qn⟩
  ·have hit:=T.item X' eP eW eK eC i [] s6 _ H6 (λ_ _=>False) I6 (stat fr6) st6 go
   rw[eA] at hit
   refine Fu hit λr s7 q0_ => ?_
   obtain ⟨u,hr,h7⟩ := q0_
   subst hr
   refine Fu h7 λ_ s8 q0_ => ?_
   obtain ⟨y,H8,I8,r8,y8,st8,fr8⟩ := q0_
   have I8':=I8.pinned (stat fr8) (T.obj _ _ st8)
   obtain ⟨N1,N2,hN1,hN2,hst⟩:=step y H8 y8
   have again:∀{H9:Hp} {s9:Ag} {m':Nat},Inv X' ([]++Rx fp s8.heap) (some y::Gc σ js) H9 s9->m'<n->W (i+1) m' H9->∃m,m<n/\∃i o H',Inv X' [] (o::Gc σ js) H' s9/\tn i s9.heap/\(∀b∈fp,H' b=none)/\W i m H':=λ{H9 s9 m'} I9 hm w9=>by
    refine ⟨m',hm,i+1,some y,H9,I9.unpinned,T.keep _ _ _ st8 λb hb o e=>(I9.pin (b,o) (Ao _ (Ao _ (Hz hb e)))).1,λb hb=>?_,w9⟩
    obtain ⟨o,e,_⟩:=T.obj _ _ st8 b hb
    exact (I9.pin (b,o) (Ao _ (Ao _ (Hz hb e)))).2.1
   subst hX'
   refine Fu (Mu (i:=0) (x:=x) (pos:=px) C.nd rfl (Wg C.own) (dF C.own) _ s8 _ H8 y u (λσ' H'=>σ'=some y::Gc σ js/\H'=H8) I8' r8 ⟨rfl,rfl⟩) λ_ s9 q0_ => ?_
   obtain ⟨σ9,H9,I9,e9,e9'⟩ := q0_
   subst e9 e9'
   refine Fu (ht fp s3 _ _ s9 _ _ _ I9 hst) λok s10 q0_ => ?_
   obtain ⟨H10,I10,q10⟩ := q0_
   cases ok with
   | false =>
    rw[if_neg Bm] at q10 ⊢
    obtain ⟨m',hm,w10⟩:=hN1 _ q10
    exact again I10 hm w10
   | true =>
    rw[if_pos rfl] at q10 ⊢
    refine Fu (he fp s3 _ _ s10 _ _ _ I10 q10) λz s11 q0_ => ?_
    obtain ⟨vz,H11,I11,r11,q11⟩ := q0_
    obtain ⟨acc,ha,hz,m',hm,w11⟩:=hN2 _ _ q11
    refine Fu (Qp _ s11 _ H11 (.ref s2.heap.objs.size) [vz] (.ref s2.heap.objs.size) [z] (λ_ H'=>H'=upd H11 s2.heap.objs.size (.lst (acc++[vz]))) I11 rfl (.cons r11 .nil) ⟨_,acc,vz,rfl,rfl,ha,hz,rfl⟩) λ_ s12 q0_ => ?_
    obtain ⟨_,H12,I12,_,e12⟩ := q0_
    subst e12
    exact again I12 hm w11
 exact So (loop _ rfl) (T.self X.A 0 _ _ _ st4 (loop _ rfl))
end
end Nd
namespace Nd
open PySem L2
end Nd
namespace Nd
open PySem PySem.Spec PyProof.Rows L2
end Nd
namespace Nd
open PySem L2
def AL(K:PySem.W.Frag):List V->Hp->VK->Prop:=λxs H Q=>∃x n t b,xs=[x,.ty n]/\TyOf K H x t/\PySem.W.kitOne K t (.type n)=some b/\Q (.bl b) H
theorem vI{X:Cx}:Lr X (.builtin "isinstance") (AL X.K):=gQ
theorem F8{K:PySem.W.Frag}{T:String}:PySem.W.kitOne K (.type T) (.type T)=some true:=by
 unfold PySem.W.kitOne
 rw[if_pos (by simp)]
theorem compScope0{X:Cx}{scope:Scope}{x:Str}(clos:Ze scope X.env=pure [])(nocell:∀y∈scope.names,y.2≠.cell)(kind:scope.kind=.function)(locs:∀y∈scope.names,y.2=.local->scope.names.lookup y.1=some .local)(own:scope.names.lookup x=some .local)(has_:(scope.names.all λy=>!(y.2 == Dm) || (([]:List (Str×Addr)).lookup y.1).isSome)=true):CompScope X scope [] x [] [] :=
 ⟨clos,.inl nocell,kind,locs,.inl own,λ_ _ h=>by simp at h,has_,Bx.mpr ⟨Az,Cs⟩,rfl,λk y j e1 _=>by simp at e1⟩
theorem sz{n:Nat}(h:n<=1000:=by first | decide | simp | (simp; omega)):n<=Ap:=Jl (aH h)
end Nd
namespace Nd
open PySem PySem.Spec PyProof.Rows L2
theorem G3{K:PySem.W.Frag}{T n:String}{b:Bool}(h1:(Gx T == Gx n)=false)(h2:PySem.W.kitMeta n=true)(h3:(fastBuiltinMro T).map (λx=>x.contains (Gx n))=some b):PySem.W.kitOne K (.type T) (.type n)=some b:=by
 unfold PySem.W.kitOne PySem.W.kitCls
 rw[h1,if_neg (by decide)]
 dsimp only
 rw[if_pos h2]
 exact h3
theorem sN(xs:Array Value):((Cu xs.size).filterMap λ(k:Nat)=>xs[((xs.size:Int) - 1+(k:Int) * (-1)).toNat]?).toArray=xs.toList.reverse.toArray:=by
 congr 1
 have h:∀n,n<=xs.size->((Cu n).filterMap λ(k:Nat)=>xs[((xs.size:Int) - 1+(k:Int) * (-1)).toNat]?)=xs.toList.reverse.take n:=by
  intro n
  induction n with
  | zero=>intro _; simp
  | succ n ih =>
   intro hn
   rw[List.range_succ,List.filterMap_append,ih (by omega)]
   have e:((xs.size:Int) - 1+(n:Int) * (-1)).toNat=xs.size - 1 - n:=by omega
   have lt:n<xs.toList.reverse.length:=by rw[Hd,Ay]; omega
   rw[Io,An lt]
   congr 1
   simp only[Mm,List.filterMap_nil,e]
   rw[dS (by omega),List.getElem_reverse]
   simp
 have:=h xs.size (Ai _)
 rw[this]
 rw[Ed (by rw[Hd,Ay]; exact Ai _)]
section
variable{X:Cx}
theorem rV(xs:Array Value):slicePick xs none none (some (-1))=xs.toList.reverse.toArray:=by
 rw[<- sN]
 unfold slicePick
 congr 1
 have e1:sliceRange (Ig none none (some (-1)) xs.size).1 (Ig none none (some (-1)) xs.size).2.1 (Ig none none (some (-1)) xs.size).2.2=(Cu xs.size).map λ(k:Nat)=>((xs.size:Int) - 1+(k:Int) * (-1)).toNat:=by
  show sliceRange ((xs.size:Int) - 1) (-1) (-1)=_
  unfold sliceRange
  have c:(if (-1:Int) > 0 then (if (xs.size:Int) - 1 < -1 then (-1 - ((xs.size:Int) - 1) + -1 - 1) / -1 else 0) else (if (xs.size:Int) - 1 > -1 then ((xs.size:Int) - 1 - -1 - -1 - 1) / (- -1) else 0)).toNat=xs.size:=by
   rw[if_neg (by decide),show (- -1:Int)=1 from rfl,Int.ediv_one]
   split <;> omega
  dsimp only
  rw[c]
  refine Dl λk _=>?_
  congr 1
  omega
 rw[e1,List.filterMap_map]
 rfl
theorem xG{e k:Expr}{te tk:TE}{pos p2:Pos}(he:PE X e te)(hk:PE X k tk)(htk:∀σ H Q,Q (.int (-1)) H->tk σ H Q):PE X (.Subscript e (.Slice none none (some k) p2) pos) (λσ H Q=>te σ H λx H1=>∃a xs,x=.ref a/\Kq X.K H1 a xs/\∀p,H1 p=none->Q (.ref p) (upd H1 p (.lst xs.reverse))):=by
 intro pins s σ H Q I h
 refine Zg (Fu (he pins s σ H _ I h) λv s1 q0_ => ?_)
 obtain ⟨x,H1,I1,r1,a,xs,e1,hx,q⟩ := q0_
 subst e1
 cases r1
 refine wpAny_Slice ?_
 rw[evalPart_none]
 refine Aj (Aj ?_)
 rw[evalPart_some]
 refine Fu (hk pins s1 σ H1 (λy H2=>y=.int (-1)/\H2=H1) I1 (htk _ _ _ ⟨rfl,rfl⟩)) λvk s2 q0_ => ?_
 obtain ⟨y,H2,I2,r2,e2,e3⟩ := q0_
 subst e2
 subst e3
 obtain ⟨t,rfl⟩:=r2
 have I3:Inv X pins σ H2 { s2 with heap:=s2.heap.push { cls:=.type "slice",data:=.fields #[.none,.none,.int (-1) t] } }:=I2.kept (t':=s2.toks) λb ob q=>Ae _ q
 obtain ⟨its,r,ht,hz⟩:=I3.list hx
 have hlen:=r.length
 show wpAny (model X.prog X.w) X.A (Yu e (.Slice none none (some k) p2) (.ref a) (.ref s2.heap.objs.size)) (EP X pins σ Q) X.xe { s2 with heap:=s2.heap.push { cls:=.type "slice",data:=.fields #[.none,.none,.int (-1) t] } }
 refine tail_any (ops:=[.ref a,.ref s2.heap.objs.size]) (T := "list") ht.isList.typeIs bK.lookup (pK ht.isList (Heap.IsSliceOf.new ..) .none .none (.int (-1) t) (by simp) ?_ (by rw[Am] <;> omega)) (by with_unfolding_all rfl)
 rw[rV]
 exact ⟨.ref _,_,I3.laid (o:=.lst xs.reverse) (t':=s2.toks) (λb ob q=>Ae _ q) (Ai _) ⟨by rw[Hd]; exact hz,its.reverse,0,r.reverse,by
  have z:=Ar (s2.heap.push { cls:=.type "slice",data:=.fields #[.none,.none,.int (-1) t] }) (o:={ cls:=.type "list",data:=.seq its.toArray.toList.reverse.toArray }) rfl
  simpa using z⟩,rfl,q _ (I3.hok.fresh (Ai _))⟩
end
end Nd
namespace NdS
open PySem
def st(m i:Nat):Nat:=(i * 5+1) % m
def it(m:Nat):Nat->Nat->Nat
 | 0,i=>i
 | t+1,i=>it m t (st m i)
def Z7(m:Nat):Nat->Nat->List Nat
 | 0,_=>[]
 | f+1,i=>i::Z7 m f (st m i)
def O7(m:Nat):Prop:=0<m/\it m m 0=0/\∀e,e<m->e∈Z7 m m 0
def lp(m:Nat):Nat->Nat->Nat->Nat×Nat
 | 0,i,p=>(i,p)
 | t+1,i,p=>lp m t ((i * 5+1+p / 32) % m) (p / 32)
abbrev Y3(p:Array Nat):Prop:=p.toList.Pairwise (· < ·)
structure TabOk(n:Nat)(t:SetTable):Prop where
 good:O7 (t.mask+1)
 dum:t.dummies=#[]
 plain:t.plain=true
 rise:Y3 t.place
 Pn:∀j∈t.place.toList,j<=t.mask
 size:t.place.size=n
structure Tab(n:Nat)(t:SetTable):Prop extends TabOk n t where
 room:n * 5<t.mask * 3
abbrev bt(w:World):Bool:=w.params.followText "set-order"
def N9:Int×Value->Int
 | (_,.int k _)=>k
 | _=>0
def P8(e:Int×Value):Prop:=∃k tk,e=(hashInt k,Ph k tk)
abbrev keys(es:Array (Int×Value)):List Int:=es.toList.map N9
abbrev A3(es:Array (Int×Value))(ep:Nat)(t:SetTable):Obj:={ cls:=.type "set",dict:=none,data:=.set es ep t }
structure SetS(w:World)(h:Heap)(a:Addr)(es:Array (Int×Value))(ep:Nat)(t:SetTable):Prop where
 obj:h.get? a=some (A3 es ep t)
 ent:∀e∈es.toList,P8 e
 nd:(keys es).Nodup
 tab:Tab es.size t
 led:bt w=false->t.led=true
 few:es.size<64
def ins(k:Int)(l:List Int):List Int:=if k∈l then l else k::l
theorem small{n:Nat}(h:n<64):n<=Ap:=by rw[Ih]; omega
theorem len_leI:∀{l1 l2:List Int},l1.Nodup->(∀e∈l1,e∈l2)->l1.length<=l2.length
 | [],_,_,_=>Ct _
 | a::l1,l2,nd,h=>by
  have nd':=Bx.mp nd
  have ha:=h a (Ab ..)
  have:=len_leI (l2:=l2.erase a) nd'.2 λe he=>(List.mem_erase_of_ne (show e≠a from λz=>nd'.1 (by rw[<- z]; exact he))).mpr (h e (Af _ he))
  rw[hU ha] at this
  have p:0<l2.length:=kH ha
  rw[Bs]
  omega
end NdS
namespace NdS
open PySem PyProof.Rows
def arrOf(w:World)(a:Addr)(ep:Nat)(es:Array (Int×Value)):Array (Int×Value):=if bt w then pickOrder (w.params.setOrder a ep) es else es
end NdS
namespace Nd
open PySem PySem.Spec PyProof.Rows L2 NdS
def Q9(w:World)(a:Addr)(ks:List Int)(h:Heap):Prop:=∃es ep t,SetS w h a es ep t/\∀x,x∈keys es↔x∈ks
abbrev X4(w:World)(a:Addr)(ks:List Int):HO:=.ext (Q9 w a ks)
end Nd
namespace Nd
open PySem L2
def Vf(d:Addr)(H H':Hp):Prop:=∀b o,b≠d->H b=some o->H' b=some o
theorem Vf.trans{d:Addr}{H H1 H2:Hp}(a:Vf d H H1)(b:Vf d H1 H2):Vf d H H2:=λc o n h=>b c o n (a c o n h)
theorem Vf.upd{d:Addr}{H:Hp}{o:HO}:Vf d H (upd H d o):=λb o n h=>by rw[Cn n]; exact h
theorem small{n:Nat}(h:n<=1000):n<=Ap:=Jl (aH h)
theorem nO{n:Nat}(h:n<=1000000):n<=Ap:=by rw[Ih]; omega
theorem cB(a b:Int)(h:0<b):0<=a % b/\a % b<b:=⟨Int.emod_nonneg _ (by omega),Int.emod_lt_of_pos _ h⟩
def Jr(h:Int)(ns:List Int):Prop:=ns.Pairwise (· < ·)/\∀x∈ns,0<=x/\x<h
theorem Jr.nil(h:Int):Jr h []:=⟨Jp,λx hx=>by cases hx⟩
theorem Jr.more{h:Int}{ns:List Int}(r:Jr h ns)(h0:0<=h):Jr (h+1) (ns++[h]) :=
 ⟨Dh.mpr ⟨r.1,Kh _ _,λa ha b hb=>by rw[Ah.mp hb]; exact (r.2 a ha).2⟩,λx hx=>by
  rcases Bi.mp hx with z | z
  ·have:=r.2 x z; omega
  ·have:=Ah.mp z; omega⟩
theorem Jr.up{h h':Int}{ns:List Int}(r:Jr h ns)(l:h<=h'):Jr h' ns:=⟨r.1,λx hx=>by have:=r.2 x hx; omega⟩
def fG(H:Hp)(d:Addr)(c k:Int)(f:Bool):Prop:=H d=some (.lst [.int c,.int k,.bl f])
def uY:Sp:=λvs H Q _=>∃(d:Addr) (c k:Int) (f:Bool),vs=[.ref d]/\fG H d c k f/\0<=k/\k<=1000000/\∀(r c':Int) (H':Hp),fG H' d c' (k+1) f->Vf d H H'->Q (.int r) H'
def Ck(ns:List Int):Ad:=.tuple (ns.map Bb)
theorem jG(ns:List Int):(Ck ns).depth<=1:=by
 have : (Ck ns).depth<=Bl (ns.map Bb)+1:=by simp [Ck,Dc]
 rw[jE] at this
 exact this
theorem yZ(TD:List Ad):Du (.list TD) (.list [])=TD.isEmpty:=by cases TD <;> simp [Du,Mn]
def order{α:Type}(a b:α)(l:List α):Option Bool->List α
 | none=>l
 | some true=>[a,b]
 | some false=>[b,a]
structure TD(K:PySem.W.Frag)(H:Hp)(x:V)(d:Ad)(n m:Nat):Prop where
 rd:RdV K H x d
 fits:Q0 22 d
 nd:zQ d<=n
 dp:d.depth<=m
abbrev j9(K:PySem.W.Frag):List V->Hp->VK->Prop:=λxs H Q=>∃p ys,xs=[V.ref p]/\(Kq K H p ys\/Sj K H p ys)/\∀l,H l=none->Q (.ref l) (upd H l (.lst ys))
theorem wH{X:Cx}:Lr X (.type "list") (j9 X.K):=bR
end Nd
namespace DL
open PySem L2 Nd
def KL(K:PySem.W.Frag)(H:Hp)(a:Addr)(xs:List V):Prop :=
 (∃o,H a=some (.frz o (.lst xs)))\/∃(its:Array Value) (n:Nat),K.lookup a=some { cls:=.type "list",data:=.seq its n }/\its.size<=Ap/\En xs its.toList
def Yc:Nat->Ad
 | 0=>.none
 | n+1=>.tuple [Yc n]
def Oo(ks:List (List Int×Ad)):List (Ad×Ad):=(Yc 100,.none)::ks.map λp=>(Ck p.1,p.2)
def Vy(ks:List (Int×Ad)):List (Ad×Ad):=(Yc 100,.bool true)::ks.map λp=>(.int p.1,p.2)
def xZ:List (Ad×Ad)->Bool
 | (_,.none)::_=>true
 | _=>false
def nC:List (Ad×Ad)->Bool
 | (_,.bool _)::_=>true
 | _=>false
def Sx(a:Addr)(ks:List (List Int×Ad)):List (Ad×Ad):=(Yc 100,.int a)::ks.map λp=>(Ck p.1,p.2)
def Jh(w:List Int):List Gn:=w.map Pa
mutual
inductive RdF (K:PySem.W.Frag) (H:Hp):V->Ad->List Addr->Prop
 | non:RdF K H .non .none []
 | bl (b:Bool):RdF K H (.bl b) (.bool b) []
 | int (i:Int):RdF K H (.int i) (.int i) []
 | str (x:Str):RdF K H (.str x) (.str x) []
 | lst {a:Addr} {xs:List V} {ds:List Ad} {F:List Addr}:H a=some (.lst xs)->ds.length<=Ap->RdFs K H xs ds F->RdF K H (.ref a) (.list ds) (a::F)
 | tup {a:Addr} {xs:List V} {ds:List Ad} {F:List Addr}:H a=some (.tup xs)->ds.length<=Ap->RdFs K H xs ds F->RdF K H (.ref a) (.tuple ds) F
 | dic {a:Addr} {kv:List (List Gn×V)} {ks:List (List Int×Ad)}:H a=some (.dT kv)->kv.map (·.1)=ks.map (λp=>Jh p.1)->RdFs K H (kv.map (·.2)) (ks.map (·.2)) []->RdF K H (.ref a) (.dict (Oo ks)) [a]
 | dik {a:Addr} {kv:List (Gn×V)} {ks:List (Int×Ad)}:H a=some (.dK kv)->kv.map (·.1)=ks.map (λp=>(Pa p.1:Gn))->RdFs K H (kv.map (·.2)) (ks.map (·.2)) []->RdF K H (.ref a) (.dict (Vy ks)) [a]
 | dnm {a:Addr} {kv:List (List Gn×V)} {ks:List (List Int×Ad)}:H a=some (.dT kv)->kv.map (·.1)=ks.map (λp=>Jh p.1)->RdFs K H (kv.map (·.2)) (ks.map (·.2)) []->RdF K H (.ref a) (.dict (Sx a ks)) [a]
inductive RdFs (K:PySem.W.Frag) (H:Hp):List V->List Ad->List Addr->Prop
 | nil:RdFs K H [] [] []
 | cons {x:V} {d:Ad} {xs:List V} {ds:List Ad} {F G:List Addr}:RdF K H x d F->RdFs K H xs ds G->RdFs K H (x::xs) (d::ds) (F++G)
end
def AS(o:HO):Prop:=(∃xs,o=.tup xs)\/∃ob u,o=.frz ob u
def Kp(F:List Addr)(H H':Hp):Prop:=∀b o,H b=some o->(b∈F\/AS o)->H' b=some o
theorem Kp.of{F:List Addr}{H H':Hp}(s:La H H'):Kp F H H':=λb o e _=>s b o e
theorem Kp.sub{F G:List Addr}{H H':Hp}(k:Kp F H H')(h:∀a∈G,a∈F):Kp G H H':=λb o e z=>k b o e (z.imp (h b) id)
section
variable{K:PySem.W.Frag}{H H':Hp}
theorem KL.kp{a:Addr}{xs:List V}{F:List Addr}(h:KL K H a xs)(k:Kp F H H'):KL K H' a xs:=by
 rcases h with ⟨o,h⟩ | h
 ·exact .inl ⟨o,k _ _ h (.inr (.inr ⟨_,_,rfl⟩))⟩
 ·exact .inr h
theorem KL.sq{a:Addr}{xs:List V}(h:KL K H a xs):Kq K H a xs:=by
 rcases h with ⟨o,h⟩ | ⟨its,n,h,hz,r⟩
 ·exact .inl (.inr ⟨o,h⟩)
 ·exact .inr ⟨_,its,n,h,rfl,rfl,rfl,hz,r⟩
mutual
theorem RdF.kp:∀{v:V} {d:Ad} {F:List Addr},RdF K H v d F->Kp F H H'->RdF K H' v d F
 | _,_,_,.non,_=>.non
 | _,_,_,.bl b,_=>.bl b
 | _,_,_,.int i,_=>.int i
 | _,_,_,.str x,_=>.str x
 | _,_,_,.lst h l hs,k=>.lst (k _ _ h (.inl Ab)) l (RdFs.kp hs (k.sub λ_ z=>Af _ z))
 | _,_,_,.tup h l hs,k=>.tup (k _ _ h (.inr (.inl ⟨_,rfl⟩))) l (RdFs.kp hs k)
 | _,_,_,.dic h e hs,k=>.dic (k _ _ h (.inl Ab)) e (RdFs.kp hs (k.sub λ_ z=>nomatch z))
 | _,_,_,.dik h e hs,k=>.dik (k _ _ h (.inl Ab)) e (RdFs.kp hs (k.sub λ_ z=>nomatch z))
 | _,_,_,.dnm h e hs,k=>.dnm (k _ _ h (.inl Ab)) e (RdFs.kp hs (k.sub λ_ z=>nomatch z))
theorem RdFs.kp:∀{v:List V} {d:List Ad} {F:List Addr},RdFs K H v d F->Kp F H H'->RdFs K H' v d F
 | _,_,_,.nil,_=>.nil
 | _,_,_,.cons h hs,k=>.cons (RdF.kp h (k.sub λ_ z=>Av _ z)) (RdFs.kp hs (k.sub λ_ z=>Ao _ z))
end
theorem Mx:∀n,(Yc n).depth=n
 | 0=>by simp [Yc,Dc]
 | n+1=>by
  have:=Mx n
  simp only[Yc,Dc,Bl,this]
  omega
theorem tV{ks:List (Int×Ad)}:100<=(PyData.dict (Vy ks)).depth:=by
 have:=Mx 100
 simp only[Vy,Dc,PyData.depthKv,this]
 omega
theorem qW{a:Addr}{ks:List (List Int×Ad)}:100<=(PyData.dict (Sx a ks)).depth:=by
 have:=Mx 100
 simp only[Sx,Dc,PyData.depthKv,this]
 omega
theorem vM{ks:List (List Int×Ad)}:100<=(PyData.dict (Oo ks)).depth:=by
 have:=Mx 100
 simp only[Oo,Dc,PyData.depthKv,this]
 omega
mutual
theorem RdF.rd:∀{v:V} {d:Ad} {F:List Addr},RdF K H v d F->d.depth<=90->RdV K H v d
 | _,_,_,.non,_=>.non
 | _,_,_,.bl b,_=>.bl b
 | _,_,_,.int i,_=>.int i
 | _,_,_,.str x,_=>.str x
 | _,_,_,.lst h l hs,z=>.lst (Kq.of h) (RdFs.rd hs (by simp only[Dc] at z; omega))
 | _,_,_,.tup h l hs,z=>.tup (Sj.of h) (RdFs.rd hs (by simp only[Dc] at z; omega))
 | _,_,_,.dic h e hs,z=>absurd (Ca vM z) (by decide)
 | _,_,_,.dik h e hs,z=>absurd (Ca tV z) (by decide)
 | _,_,_,.dnm h e hs,z=>absurd (Ca qW z) (by decide)
theorem RdFs.rd:∀{v:List V} {d:List Ad} {F:List Addr},RdFs K H v d F->Bl d<=90->RdVs K H v d
 | _,_,_,.nil,_=>.nil
 | _,_,_,.cons h hs,z=>.cons (RdF.rd h (by simp only[Bl] at z; omega)) (RdFs.rd hs (by simp only[Bl] at z; omega))
end
mutual
theorem RdF.dom:∀{v:V} {d:Ad} {F:List Addr},RdF K H v d F->∀a∈F,∃o,H a=some o
 | _,_,_,.non,_,z=>nomatch z
 | _,_,_,.bl b,_,z=>nomatch z
 | _,_,_,.int i,_,z=>nomatch z
 | _,_,_,.str x,_,z=>nomatch z
 | _,_,_,.lst h l hs,b,z=>by
  rcases Ak.mp z with rfl | z
  ·exact ⟨_,h⟩
  ·exact RdFs.dom hs b z
 | _,_,_,.tup h l hs,b,z=>RdFs.dom hs b z
 | _,_,_,.dic h e hs,b,z=>⟨_,Ah.mp z▸h⟩
 | _,_,_,.dik h e hs,b,z=>⟨_,Ah.mp z▸h⟩
 | _,_,_,.dnm h e hs,b,z=>⟨_,Ah.mp z▸h⟩
theorem RdFs.dom:∀{v:List V} {d:List Ad} {F:List Addr},RdFs K H v d F->∀a∈F,∃o,H a=some o
 | _,_,_,.nil,_,z=>nomatch z
 | _,_,_,.cons h hs,b,z=>by
  rcases Bi.mp z with z | z
  ·exact RdF.dom h b z
  ·exact RdFs.dom hs b z
end
theorem RdFs.len:∀{v:List V} {d:List Ad} {F:List Addr},RdFs K H v d F->v.length=d.length
 | _,_,_,.nil=>rfl
 | _,_,_,.cons _ t=>by rw[Bs,Bs,RdFs.len t]
theorem RdFs.get:∀{v:List V} {d:List Ad} {F:List Addr} {i:Nat} {e:Ad},RdFs K H v d F->d[i]? = some e->∃x G,v[i]? = some x/\RdF K H x e G/\G.Sublist F
 | _,_,_,_,_,.nil,z=>by simp at z
 | _,_,_,0,_,.cons h _,z=>by
  simp at z
  subst z
  exact ⟨_,_,rfl,h,List.sublist_append_left _ _⟩
 | _,_,_,i+1,e,.cons _ t,z=>by
  obtain ⟨x,G,h1,h2,h3⟩:=RdFs.get (i:=i) (e:=e) t (by simpa using z)
  exact ⟨x,G,by simpa using h1,h2,h3.trans (Dt _ _)⟩
theorem RdFs.app:∀{v w:List V} {d e:List Ad} {F G:List Addr},RdFs K H v d F->RdFs K H w e G->RdFs K H (v++w) (d++e) (F++G)
 | _,_,_,_,_,_,.nil,h=>h
 | _,_,_,_,_,_,.cons a t,h=>by
  rw[Cj]
  exact .cons a (RdFs.app t h)
theorem RdFs.snoc{v:List V}{d:List Ad}{F G:List Addr}{x:V}{e:Ad}(t:RdFs K H v d F)(h:RdF K H x e G):RdFs K H (v++[x]) (d++[e]) (F++G):=by
 have:=t.app (.cons h .nil)
 rw[Ea] at this
 exact this
end
mutual
def imm:Ad->Bool
 | .list _=>false
 | .dict _=>false
 | .tuple xs=>Dr xs
 | _=>true
def Dr:List Ad->Bool
 | []=>true
 | x::xs=>imm x && Dr xs
end
theorem iN:∀{xs:List Ad},Dr xs=true↔∀x∈xs,imm x=true
 | []=>by simp [Dr]
 | x::xs=>by simp [Dr,iN (xs:=xs)]
theorem Rz{α:Type}{f:α->Ad}(h:∀a,imm (f a)=true)(l:List α):Dr (l.map f)=true:=iN.mpr λx hx=>by
 obtain ⟨a,_,rfl⟩:=Bt.mp hx
 exact h a
theorem sL(ns:List Int):imm (Ck ns)=true:=by
 unfold Ck
 rw[imm]
 exact Rz (λ_=>by simp [imm]) ns
section
variable{K:PySem.W.Frag}{H H':Hp}
mutual
theorem RdF.imm:∀{v:V} {d:Ad} {F:List Addr},RdF K H v d F->DL.imm d=true->F=[]
 | _,_,_,.non,_=>rfl
 | _,_,_,.bl b,_=>rfl
 | _,_,_,.int i,_=>rfl
 | _,_,_,.str x,_=>rfl
 | _,_,_,.lst h l hs,k=>by simp [DL.imm] at k
 | _,_,_,.tup h l hs,k=>RdFs.imm hs (by simpa [DL.imm] using k)
 | _,_,_,.dic h e hs,k=>by simp [DL.imm] at k
 | _,_,_,.dik h e hs,k=>by simp [DL.imm] at k
 | _,_,_,.dnm h e hs,k=>by simp [DL.imm] at k
theorem RdFs.imm:∀{v:List V} {d:List Ad} {F:List Addr},RdFs K H v d F->Dr d=true->F=[]
 | _,_,_,.nil,_=>rfl
 | _,_,_,.cons h hs,k=>by
  rw[Dr,Dq] at k
  rw[RdF.imm h k.1,RdFs.imm hs k.2]
  rfl
end
end
inductive Md where
 | pk | sh | tp | ow
 deriving DecidableEq
inductive DV where
 | un
 | dat (m:Md) (d:Ad)
 | drw
 | dT (kvs:List (List Gn×Ad))
 | val (v:V)
 | scr (ns:List Int)
 | acc (ds:List Ad)
 | grd (Hc:Hp)
 | tpl (xs:List V)
structure DS where
 sl:List DV
 n:Nat
structure Ent where
 v:Option V
 x:DV
 F:List Addr
def Mp:DV->Bool
 | .dat .pk _=>true
 | _=>false
def O9:DV->Bool
 | .drw=>true
 | _=>false
def F5:DV->Bool
 | .drw=>true
 | .acc _=>true
 | .dT _=>true
 | .grd _=>true
 | _=>false
def cells(e:Ent):List Addr:=match e.x with
 | .dat .ow _=>e.F
 | .dat .tp _=>e.F.take 1
 | .drw=>e.F
 | .dT _=>e.F
 | .acc _=>e.F.take 1
 | .grd _=>e.F
 | _=>[]
theorem Fh(e:Ent):∀a∈cells e,a∈e.F:=by
 obtain ⟨v,x,F⟩:=e
 intro a h
 cases x with
 | un=>exact nomatch h
 | val _=>exact nomatch h
 | scr _=>exact nomatch h
 | drw=>exact h
 | dT _=>exact h
 | grd _=>exact h
 | tpl _=>exact nomatch h
 | acc _=>exact (Ku _ _).subset h
 | dat m d =>
  cases m with
  | pk=>exact nomatch h
  | sh=>exact nomatch h
  | tp=>exact (Ku _ _).subset h
  | ow=>exact h
def Xc(e f:Ent):Prop:=((Mp f.x=false\/F5 e.x=true)->∀a∈cells e,a∉f.F)/\((Mp e.x=false\/F5 f.x=true)->∀a∈cells f,a∉e.F)
theorem Xc.symm{e f:Ent}(h:Xc e f):Xc f e:=⟨h.2,h.1⟩
def Hy(K:PySem.W.Frag)(H:Hp)(n:Nat)(e:Ent):Prop:=match e.x with
 | .un=>e.F=[]
 | .dat m d=>∃v,e.v=some v/\RdF K H v d e.F/\(m=.ow->e.F.Nodup)/\(m=.tp->∀a l,e.F=a::l->a∉l)
 | .drw=>∃dr c k f,e.v=some (.ref dr)/\e.F=[dr]/\fG H dr c k f/\0<=k/\k<=(n:Int)
 | .dT kvs=>∃a ks,e.v=some (.ref a)/\e.F=[a]/\H a=some (.dT ks)/\ks.map (·.1)=kvs.map (·.1)/\RdFs K H (ks.map (·.2)) (kvs.map (·.2)) []
 | .val v=>e.v=some v/\e.F=[]
 | .scr ns=>∃a,e.v=some (.ref a)/\e.F=[]/\KL K H a (ns.map V.int)/\ns.length<=63
 | .acc ds=>∃a xs G,e.v=some (.ref a)/\e.F=a::G/\H a=some (.lst xs)/\RdFs K H xs ds G/\ds.length<=Ap/\a∉G
 | .grd Hc=>∀a∈e.F,∃o,Hc a=some o/\H a=some o
 | .tpl xs=>∃t,e.v=some (.ref t)/\H t=some (.tup xs)/\e.F=[]
structure At(K:PySem.W.Frag)(H0:Hp)(X:Addr->Prop)(n:Nat)(E:List Ent)(H:Hp):Prop where
 ok:∀e∈E,Hy K H n e
 sep:E.Pairwise Xc
 new:∀e∈E,∀a∈cells e,H0 a=none\/(X a/\O9 e.x=true)
 same:∀b o,¬ X b->H0 b=some o->H b=some o
 dom:∀b o,H0 b=some o->∃o',H b=some o'
 xd:∀b,X b->H0 b≠none/\∃c k f,fG H b c k f/\0<=k/\k<=(n:Int)
section
variable{K:PySem.W.Frag}{H0 H H':Hp}{X:Addr->Prop}{n n':Nat}{E E' S T:List Ent}{e f:Ent}
theorem At.perm(h:At K H0 X n E H)(p:E.Perm E'):At K H0 X n E' H :=
 ⟨λe he=>h.ok e (p.mem_iff.mpr he),(p.pairwise_iff λ{a b}=>Xc.symm).mp h.sep,λe he=>h.new e (p.mem_iff.mpr he),h.same,h.dom,h.xd⟩
theorem At.sub(h:At K H0 X n E H)(p:E'.Sublist E):At K H0 X n E' H :=
 ⟨λe he=>h.ok e (p.subset he),h.sep.sublist p,λe he=>h.new e (p.subset he),h.same,h.dom,h.xd⟩
theorem At.drop(h:At K H0 X n (S++e::T) H):At K H0 X n (S++T) H:=h.sub ((Eb S).append (Dg _ _))
theorem rB:(S++e::T).Perm (e::(S++T)):=Pk
theorem At.mid(h:At K H0 X n (S++e::T) H):At K H0 X n (e::(S++T)) H:=h.perm rB
theorem At.tomid(h:At K H0 X n (e::(S++T)) H):At K H0 X n (S++e::T) H:=h.perm rB.symm
theorem Hy.dom(h:Hy K H n e):∀a∈e.F,∃o,H a=some o:=by
 obtain ⟨v,x,F⟩:=e
 intro a ha
 cases x with
 | un=>rw[show F=[] from h] at ha; cases ha
 | val _=>rw[show F=[] from h.2] at ha; cases ha
 | scr _ =>
  obtain ⟨_,_,hF,_⟩:=h
  rw[show F=[] from hF] at ha; cases ha
 | dat m d =>
  obtain ⟨w,_,h,_⟩:=h
  obtain ⟨xs,z⟩:=h.dom a ha
  exact ⟨_,z⟩
 | drw =>
  obtain ⟨dr,c,k,f,_,hF,h,_⟩:=h
  rw[show F=[dr] from hF] at ha
  rw[Ah.mp ha]
  exact ⟨_,h⟩
 | grd Hc =>
  obtain ⟨o,_,z⟩:=h a ha
  exact ⟨o,z⟩
 | tpl xs =>
  obtain ⟨_,_,_,hF⟩:=h
  rw[show F=[] from hF] at ha; cases ha
 | dT kvs =>
  obtain ⟨b,ks,_,hF,h,_⟩:=h
  rw[show F=[b] from hF] at ha
  rw[Ah.mp ha]
  exact ⟨_,h⟩
 | acc ds =>
  obtain ⟨b,ks,G,_,hF,h,hr,_⟩:=h
  rw[show F=b::G from hF] at ha
  rcases Ak.mp ha with rfl | ha
  ·exact ⟨_,h⟩
  ·obtain ⟨xs,z⟩:=hr.dom a ha
   exact ⟨_,z⟩
theorem Hy.kp(h:Hy K H n e)(k:Kp e.F H H')(hn:n<=n'):Hy K H' n' e:=by
 obtain ⟨v,x,F⟩:=e
 cases x with
 | un=>exact h
 | val _=>exact h
 | scr _ =>
  obtain ⟨a,h1,h2,h3,h4⟩:=h
  exact ⟨a,h1,h2,h3.kp k,h4⟩
 | dat m d =>
  obtain ⟨w,h1,h2,h3⟩:=h
  exact ⟨w,h1,h2.kp k,h3⟩
 | drw =>
  obtain ⟨dr,c,kk,f,h1,hF,h2,h3,h4⟩:=h
  have hF':F=[dr]:=hF
  subst hF'
  exact ⟨dr,c,kk,f,h1,rfl,k _ _ h2 (.inl Ab),h3,by omega⟩
 | tpl xs =>
  obtain ⟨t,h1,h2,h3⟩:=h
  exact ⟨t,h1,k _ _ h2 (.inr (.inl ⟨_,rfl⟩)),h3⟩
 | grd Hc =>
  intro a ha
  obtain ⟨o,h1,h2⟩:=h a ha
  exact ⟨o,h1,k _ _ h2 (.inl ha)⟩
 | dT kvs =>
  obtain ⟨b,ks,h1,hF,h2,h3,h4⟩:=h
  have hF':F=[b]:=hF
  subst hF'
  exact ⟨b,ks,h1,rfl,k _ _ h2 (.inl Ab),h3,h4.kp (k.sub λ_ z=>nomatch z)⟩
 | acc ds =>
  obtain ⟨b,ks,G,h1,hF,h2,h3,h4⟩:=h
  have hF':F=b::G:=hF
  subst hF'
  exact ⟨b,ks,G,h1,rfl,k _ _ h2 (.inl Ab),h3.kp (k.sub λ_ z=>Af _ z),h4⟩
theorem At.grow(h:At K H0 X n E H)(s:La H H')(hn:n<=n'):At K H0 X n' E H' :=
 ⟨λe he=>(h.ok e he).kp (Kp.of s) hn,h.sep,h.new,λb o nx e=>s _ _ (h.same b o nx e),λb o e=>let ⟨o',q⟩:=h.dom b o e; ⟨o',s _ _ q⟩,λb hb=>let ⟨z,c,k,f,h1,h2,h3⟩:=h.xd b hb; ⟨z,c,k,f,s _ _ h1,h2,by omega⟩⟩
theorem At.free(h:At K H0 X n E H){a:Addr}(ha:H a=none):∀e∈E,a∉e.F:=λe he z=>by
 obtain ⟨o,q⟩:=(h.ok e he).dom a z
 rw[ha] at q; cases q
theorem At.push(h:At K H0 X n E H)(ok:Hy K H n e)(sep:∀f∈E,Xc e f)(new:∀a∈cells e,H0 a=none\/(X a/\O9 e.x=true)):At K H0 X n (e::E) H :=
 ⟨λg hg=>by
  rcases Ak.mp hg with rfl | hg
  ·exact ok
  ·exact h.ok g hg,Bd.mpr ⟨sep,h.sep⟩,λg hg=>by
  rcases Ak.mp hg with rfl | hg
  ·exact new
  ·exact h.new g hg,h.same,h.dom,h.xd⟩
theorem At.new0(h:At K H0 X n E H){p:Addr}(hp:H p=none):H0 p=none:=by
 cases q:H0 p with
 | none=>rfl
 | some o =>
  obtain ⟨o',z⟩:=h.dom p o q
  rw[hp] at z; cases z
theorem xP{v:Option V}{m:Md}{d:Ad}:Xc ⟨v,.dat m d,[]⟩ f:=by
 refine ⟨λ_ a ha=>?_,λ_ a _=>Az⟩
 have:=Fh _ a ha
 cases this
theorem At.pushI(h:At K H0 X n (S++T) H){v:V}{m:Md}{d:Ad}(r:RdF K H v d []):At K H0 X n (S++⟨some v,.dat m d,[]⟩::T) H :=
 (h.push (e:=⟨some v,.dat m d,[]⟩) ⟨v,rfl,r,λ_=>Cs,λ_ a l z=>nomatch z⟩ (λf _=>xP) (λa ha=>nomatch Fh _ a ha)).tomid
def wk:Md->Md->Bool
 | _,.pk=>true
 | .pk,_=>false
 | _,.sh=>true
 | .sh,_=>false
 | _,.tp=>true
 | .tp,.ow=>false
 | .ow,.ow=>true
theorem fB{v:Option V}{m m':Md}{d:Ad}{F:List Addr}(w:wk m m'=true):∀a∈cells ⟨v,.dat m' d,F⟩,a∈cells ⟨v,.dat m d,F⟩:=by
 intro a ha
 cases m <;> cases m' <;> first | exact absurd w (by decide) | exact ha | exact absurd ha Az | exact (Ku 1 F).subset ha
theorem oN{α:Type}{F:List α}(h:F.Nodup):∀a l,F=a::l->a∉l:=λa l e=>by
 subst e
 exact (Bx.mp h).1
theorem Hy.wk{v:Option V}{m m':Md}{d:Ad}{F:List Addr}(w:wk m m'=true)(h:Hy K H n ⟨v,.dat m d,F⟩):Hy K H n ⟨v,.dat m' d,F⟩:=by
 obtain ⟨u,h1,h2,h3,h4⟩:=h
 refine ⟨u,h1,h2,λe=>?_,λe=>?_⟩
 ·subst e
  cases m <;> first | exact absurd w (by decide) | exact h3 rfl
 ·subst e
  cases m <;> first | exact absurd w (by decide) | exact h4 rfl | exact oN (h3 rfl)
theorem Xc.wk{v:Option V}{m m':Md}{d:Ad}{F:List Addr}(w:wk m m'=true)(h:Xc ⟨v,.dat m d,F⟩ f):Xc ⟨v,.dat m' d,F⟩ f:=by
 refine ⟨λhp a ha=>?_,λhp a ha=>?_⟩
 ·rcases hp with hp | hp
  ·exact h.1 (.inl hp) a (fB w a ha)
  ·cases hp
 ·rcases hp with hp | hp
  ·refine h.2 (.inl ?_) a ha
   cases m <;> cases m' <;> first | rfl | exact absurd w (by decide) | exact absurd hp (by show ¬ (true=false); decide)
  ·exact h.2 (.inr hp) a ha
theorem At.wk{v:Option V}{m m':Md}{d:Ad}{F:List Addr}(w:wk m m'=true)(h:At K H0 X n (⟨v,.dat m d,F⟩::E) H):At K H0 X n (⟨v,.dat m' d,F⟩::E) H:=by
 have hs:=Bd.mp h.sep
 refine (h.sub (Dg _ _)).push ((h.ok _ Ab).wk w) (λf hf=>(hs.1 f hf).wk w) λa ha=>?_
 rcases h.new _ Ab a (fB w a ha) with z | z
 ·exact .inl z
 ·cases z.2
end
abbrev DE:=DS->(DV->DS->Prop)->Prop
abbrev DT:=DS->(Bool->DS->Prop)->Prop
abbrev DA:=DS->(List DV->DS->Prop)->Prop
structure DEnds where
 nx:DS->Prop
 rt:DV->DS->Prop
 bk:DS->Prop:=λ_=>False
 ct:DS->Prop:=λ_=>False
abbrev DB:=DEnds->DS->Prop
abbrev DG:=DV->DS->(DS->Prop)->Prop
def vs(S:List Ent):L2.St:=S.map Ent.v
def Sl(S:List Ent)(δ:DS):Prop:=S.map Ent.x=δ.sl
section
variable(K:PySem.W.Frag)
def LE(de:DE):TE:=λσ H Q=>∃(H0:Hp) (X:Addr->Prop) (S T:List Ent) (δ:DS) (P:DV->DS->Prop),vs S=σ/\Sl S δ/\At K H0 X δ.n (S++T) H/\de δ P /\
 ∀x δ' v F S' H',vs S'=σ->Sl S' δ'->At K H0 X δ'.n (S'++⟨some v,x,F⟩::T) H'->P x δ'->Q v H'
def LT(dt:DT):TT:=λσ H Q=>∃(H0:Hp) (X:Addr->Prop) (S T:List Ent) (δ:DS) (P:Bool->DS->Prop),vs S=σ/\Sl S δ/\At K H0 X δ.n (S++T) H/\dt δ P /\
 ∀b δ' S' H',vs S'=σ->Sl S' δ'->At K H0 X δ'.n (S'++T) H'->P b δ'->Q b H'
def LA(da:DA):TA:=λσ H Q=>∃(H0:Hp) (X:Addr->Prop) (S T:List Ent) (δ:DS) (P:List DV->DS->Prop),vs S=σ/\Sl S δ/\At K H0 X δ.n (S++T) H/\da δ P /\
 ∀xs δ' As us S' H',vs S'=σ->Sl S' δ'->As.map Ent.x=xs->As.map Ent.v=us.map some->At K H0 X δ'.n (S'++(As++T)) H'->P xs δ'->Q us H'
def LS(db:DB):TS:=λD σ H=>∃(H0:Hp) (X:Addr->Prop) (S T:List Ent) (δ:DS) (P:DEnds),vs S=σ/\Sl S δ/\(∀e∈T,Mp e.x=false)/\At K H0 X δ.n (S++T) H/\db P δ /\
 (∀δ' S' H',Sl S' δ'->At K H0 X δ'.n (S'++T) H'->P.nx δ'->D.nx (vs S') H') /\
 (∀x δ' v F S' H',Sl S' δ'->At K H0 X δ'.n (S'++⟨some v,x,F⟩::T) H'->P.rt x δ'->D.rt v H') /\
 (∀δ' S' H',Sl S' δ'->At K H0 X δ'.n (S'++T) H'->P.bk δ'->D.bk (vs S') H') /\
 (∀δ' S' H',Sl S' δ'->At K H0 X δ'.n (S'++T) H'->P.ct δ'->D.ct (vs S') H')
def LG(dg:DG):TG:=λv σ H Q=>∃(H0:Hp) (X:Addr->Prop) (S T:List Ent) (δ:DS) (x:DV) (F:List Addr) (P:DS->Prop),vs S=σ/\Sl S δ/\At K H0 X δ.n (S++⟨some v,x,F⟩::T) H/\dg x δ P /\
 ∀δ' S' H',Sl S' δ'->At K H0 X δ'.n (S'++T) H'->P δ'->Q (vs S') H'
end
abbrev Fb(X:Cx)(e:Expr)(de:DE):Prop:=PE X e (LE X.K de)
abbrev kP(X:Cx)(e:Expr)(dt:DT):Prop:=PT X e (LT X.K dt)
abbrev C1(X:Cx)(e:Expr)(dt:DT):Prop:=PW X e (LT X.K dt)
abbrev jM(X:Cx)(es:List Expr)(da:DA):Prop:=PA X es (LA X.K da)
abbrev nM(X:Cx)(st:Stmt)(db:DB):Prop:=PS X st (LS X.K db)
abbrev Vr(X:Cx)(st:List Stmt)(db:DB):Prop:=jB X st (LS X.K db)
abbrev Z1(X:Cx)(tg:Expr)(dg:DG):Prop:=PG X tg (LG X.K dg)
theorem PE.imp{X:Cx}{e:Expr}{t t':TE}(h:PE X e t)(k:∀σ H Q,t' σ H Q->t σ H Q):PE X e t':=λpins s σ H Q I q=>h pins s σ H Q I (k σ H Q q)
theorem PT.imp{X:Cx}{e:Expr}{t t':TT}(h:PT X e t)(k:∀σ H Q,t' σ H Q->t σ H Q):PT X e t':=λpins s σ H Q I q=>h pins s σ H Q I (k σ H Q q)
theorem PW.imp{X:Cx}{e:Expr}{t t':TT}(h:PW X e t)(k:∀σ H Q,t' σ H Q->t σ H Q):PW X e t':=λwh pins s σ H Q I q=>h wh pins s σ H Q I (k σ H Q q)
theorem PA.imp{X:Cx}{e:List Expr}{t t':TA}(h:PA X e t)(k:∀σ H Q,t' σ H Q->t σ H Q):PA X e t':=λpos pins s σ H Q I q=>h pos pins s σ H Q I (k σ H Q q)
theorem PG.imp{X:Cx}{e:Expr}{t t':TG}(h:PG X e t)(k:∀v σ H Q,t' v σ H Q->t v σ H Q):PG X e t':=λpins s σ H v u Q I r q=>h pins s σ H v u Q I r (k v σ H Q q)
section
variable{K:PySem.W.Frag}{H:Hp}{v:V}{F:List Addr}
theorem RdF.int_inv{i:Int}(h:RdF K H v (.int i) F):v=.int i/\F=[]:=by cases h; exact ⟨rfl,rfl⟩
theorem RdF.bl_inv{i:Bool}(h:RdF K H v (.bool i) F):v=.bl i/\F=[]:=by cases h; exact ⟨rfl,rfl⟩
theorem RdF.str_inv{i:Str}(h:RdF K H v (.str i) F):v=.str i/\F=[]:=by cases h; exact ⟨rfl,rfl⟩
theorem RdF.list_inv{ds:List Ad}(h:RdF K H v (.list ds) F):∃a xs G,v=.ref a/\H a=some (.lst xs)/\RdFs K H xs ds G/\F=a::G/\ds.length<=Ap:=by
 cases h with
 | lst h l hs=>exact ⟨_,_,_,rfl,h,hs,rfl,l⟩
theorem RdF.tup_inv{ds:List Ad}(h:RdF K H v (.tuple ds) F):∃a xs,v=.ref a/\H a=some (.tup xs)/\RdFs K H xs ds F/\ds.length<=Ap:=by
 cases h with
 | tup h l hs=>exact ⟨_,_,rfl,h,hs,l⟩
end
section
variable{K:PySem.W.Frag}{H0 H H':Hp}{X:Addr->Prop}{n:Nat}{E S T:List Ent}{v:V}{m:Md}{d:Ad}{F:List Addr}
theorem At.told(h:At K H0 X n E H)(he:⟨some v,.dat m d,F⟩∈E):RdF K H v d F:=by
 obtain ⟨w,e1,h1,_⟩:=h.ok _ he
 cases e1
 exact h1
theorem mem_mid{e:Ent}:e∈S++e::T:=Ao _ Ab
theorem Ee{e f:Ent}:f∈S++e::f::T:=Ao _ (Af _ Ab)
theorem At.drop2{e f:Ent}(h:At K H0 X n (S++e::f::T) H):At K H0 X n (S++T) H:=h.drop.drop
theorem At.dropL{As:List Ent}(h:At K H0 X n (S++(As++T)) H):At K H0 X n (S++T) H:=h.sub ((Eb S).append (Dt As T))
end
def dQ:Md->Md
 | .ow=>.pk
 | .tp=>.pk
 | m=>m
def C2(i:Nat):DE:=λδ P=>match δ.sl[i]? with
 | some (.dat m d)=>P (.dat (dQ m) d) δ
 | _=>False
def dC(d:Ad):DE:=λδ P=>P (.dat .ow d) δ
theorem Hf{S:List Ent}{δ:DS}{i:Nat}{x:DV}(h:Sl S δ)(e:δ.sl[i]? = some x):∃ent,S[i]? = some ent/\ent.x=x:=by
 unfold Sl at h
 rw[<- h,Aw] at e
 cases q:S[i]? with
 | none=>rw[q] at e; cases e
 | some ent=>rw[q] at e; exact ⟨ent,rfl,Bk e⟩
theorem Lq{S:List Ent}{i:Nat}{e:Ent}(h:S[i]? = some e):(vs S)[i]? = some e.v:=by
 unfold vs
 rw[Aw,h]
 rfl
theorem At.look{K:PySem.W.Frag}{H0 H:Hp}{X:Addr->Prop}{n:Nat}{S T:List Ent}{u:Option V}{v:V}{m:Md}{d:Ad}{F:List Addr}(h:At K H0 X n (S++T) H)(he:⟨u,.dat m d,F⟩∈S)(hu:u=some v):At K H0 X n (S++⟨some v,.dat (dQ m) d,F⟩::T) H:=by
 subst hu
 obtain ⟨S1,S2,rfl⟩:=List.append_of_mem he
 have hp:((S1++⟨some v,.dat m d,F⟩::S2)++T).Perm (⟨some v,.dat m d,F⟩::(S1++(S2++T))):=by
  rw[Cj,Fz]
  exact Pk
 have h2:=h.perm hp
 have hs:=Bd.mp h2.sep
 refine (h.push (e:=⟨some v,.dat (dQ m) d,F⟩) ?_ (λf hf=>?_) λa ha=>?_).tomid
 ·obtain ⟨w,e1,h1,_⟩:=h2.ok _ Ab
  refine ⟨w,e1,h1,λz=>?_,λz=>?_⟩ <;> cases m <;> cases z
 ·refine ⟨λ_ a ha=>?_,λhq a ha=>?_⟩
  ·cases m <;> exact nomatch ha
  ·rcases Ak.mp (hp.mem_iff.mp hf) with rfl | hf
   ·rcases hq with hq | hq
    ·cases m <;> first | cases hq; done | exact nomatch ha
    ·cases hq
   ·refine (hs.1 f hf).2 ?_ a ha
    rcases hq with hq | hq
    ·refine .inl ?_
     cases m <;> first | rfl | exact hq
    ·exact .inr hq
 ·cases m <;> exact nomatch ha
section
variable{X:Cx}{e:Expr}
theorem Bg{i:Nat}(h:PE X e (Xy i)):Fb X e (C2 i):=by
 refine PE.imp h λσ H Q h=>?_
 obtain ⟨H0,Y,S,T,δ,P,rfl,hS,hA,hd,k⟩:=h
 unfold C2 at hd
 split at hd
 ·rename_i m d e1
  obtain ⟨ent,e2,e3⟩:=Hf hS e1
  have hm:ent∈S:=Aq e2
  obtain ⟨u,x,F⟩:=ent
  subst e3
  obtain ⟨v,hv,_⟩:=hA.ok _ (Av _ hm)
  refine ⟨v,by rw[Lq e2]; exact congrArg some hv,k _ δ v F S H rfl hS (hA.look hm hv) hd⟩
 ·exact hd.elim
theorem jU{v:V}{d:Ad}(h:PE X e (tC v))(r:∀H,RdF X.K H v d []):Fb X e (dC d):=by
 refine PE.imp h λσ H Q h=>?_
 obtain ⟨H0,Y,S,T,δ,P,rfl,hS,hA,hd,k⟩:=h
 exact k _ δ v [] S H rfl hS (hA.pushI (r H)) hd
theorem Dz{i j pos}:Fb X (.Constant (.int i) j pos) (dC (.int i)):=jU Em λ_=>.int i
theorem sF{i j pos}:Fb X (.Constant (.bool i) j pos) (dC (.bool i)):=jU qM λ_=>.bl i
theorem J4{j pos}:Fb X (.Constant .none j pos) (dC .none):=jU G4 λ_=>.non
end
def L3(de:DE):DE:=λδ P=>de δ λx δ'=>match x with
 | .dat _ d=>imm d=true/\P (.dat .ow d) δ'
 | _=>False
theorem C4{X:Cx}{e:Expr}{de:DE}(h:Fb X e de):Fb X e (L3 de):=by
 refine PE.imp h λσ H Q h=>?_
 obtain ⟨H0,Y,S,T,δ,P,rfl,hS,hA,hd,k⟩:=h
 refine ⟨H0,Y,S,T,δ,_,rfl,hS,hA,hd,λx δ' v F S' H' e1 e2 hA' p=>?_⟩
 cases x with
 | dat m d =>
  have r:=hA'.told mem_mid
  obtain rfl:=r.imm p.1
  exact k _ δ' v [] S' H' e1 e2 (hA'.drop.pushI r) p.2
 | _=>exact p.elim
def rM(i:Nat):DE:=λδ P=>match δ.sl[i]? with
 | some (.dat m d)=>P (.dat m d) ⟨δ.sl.set i .un,δ.n⟩
 | _=>False
theorem Yq{α:Type}:∀{l:List α} {i:Nat} {x y:α},l[i]? = some x->(y::l).Perm (x::l.set i y)
 | [],i,x,y,h=>by simp at h
 | z::l,0,x,y,h=>by
  simp at h
  subst h
  exact Jz _ _ _
 | z::l,i+1,x,y,h=>by
  have ih:=Yq (l:=l) (i:=i) (x:=x) (y:=y) (by simpa using h)
  rw[Nm]
  exact (Jz z y l).trans ((ih.cons z).trans (Jz x z _))
theorem mE{X:Cx}{e:Expr}{i:Nat}(h:PE X e (Xy i)):Fb X e (rM i):=by
 refine PE.imp h λσ H Q h=>?_
 obtain ⟨H0,Y,S,T,δ,P,rfl,hS,hA,hd,k⟩:=h
 unfold rM at hd
 split at hd
 ·rename_i m d e1
  obtain ⟨ent,e2,e3⟩:=Hf hS e1
  have hm:ent∈S:=Aq e2
  obtain ⟨u,x,F⟩:=ent
  subst e3
  obtain ⟨v,hv,hv2⟩:=hA.ok _ (Av _ hm)
  have hv':u=some v:=hv
  subst hv'
  refine ⟨v,by rw[Lq e2],k _ _ v F (S.set i ⟨some v,.un,[]⟩) H ?_ ?_ ?_ hd⟩
  ·unfold vs
   rw[Ek]
   apply Fq
   intro j
   rw[Iq]
   split
   ·rename_i hij
    subst hij
    rw[Aw,e2]
    split
    ·rfl
    ·rename_i hj
     rw[Ac] at hj
     exact absurd (Al.mp e2).1 hj
   ·rfl
  ·unfold Sl at hS ⊢
   rw[Ek,hS]
  ·have hp:=hA.push (e:=⟨some v,.un,[]⟩) (show Hy X.K H δ.n ⟨some v,.un,[]⟩ from rfl) (λf _=>⟨λ_ a ha=>(nomatch ha),λ_ a _=>Az⟩) (λa ha=>(nomatch ha))
   have p1:(⟨some v,.un,[]⟩::(S++T)).Perm ((S.set i ⟨some v,.un,[]⟩)++⟨some v,.dat m d,F⟩::T):=by
    rw[<- Fz]
    exact ((Yq (y:=(⟨some v,.un,[]⟩ : Ent)) e2).append_right T).trans (by rw[Fz]; exact List.perm_middle.symm)
   exact hp.perm p1
 ·exact hd.elim
abbrev D2:=DV->DV->(DV->Prop)->Prop
def iS(K:PySem.W.Frag)(r:R2)(rd:D2):Prop:=∀(H0:Hp) (X:Addr->Prop) (n:Nat) (S T:List Ent) (x y:DV) (v w:V) (F G:List Addr) (H:Hp) (Q:VK) (P:DV->Prop),
 At K H0 X n (S++⟨some w,y,G⟩::⟨some v,x,F⟩::T) H->rd x y P->(∀z u F' H',At K H0 X n (S++⟨some u,z,F'⟩::T) H'->P z->Q u H')->r v w H Q
def Xl(rd:D2)(da db:DE):DE:=λδ P=>da δ λx δ1=>db δ1 λy δ2=>rd x y λz=>P z δ2
theorem aT{K:PySem.W.Frag}{r:R2}{rd:D2}{da db:DE}(o:iS K r rd):∀σ H Q,LE K (Xl rd da db) σ H Q->L8 r (LE K da) (LE K db) σ H Q:=by
 intro σ H Q h
 obtain ⟨H0,Y,S,T,δ,P,rfl,hS,hA,hd,k⟩:=h
 refine ⟨H0,Y,S,T,δ,_,rfl,hS,hA,hd,λx δ1 v F S1 H1 e1 e2 hA1 p1=>?_⟩
 refine ⟨H0,Y,S1,⟨some v,x,F⟩::T,δ1,_,e1,e2,hA1,p1,λy δ2 w G S2 H2 e3 e4 hA2 p2=>?_⟩
 exact o H0 Y δ2.n S2 T x y v w F G H2 Q _ hA2 p2 λz u F' H' hA3 p3=>k z δ2 u F' S2 H' e3 e4 hA3 p3
section
variable{X:Cx}{a b:Expr}{da db:DE}{pos:Pos}{r:R2}{rd:D2}
theorem Tp{op:Operator}(ho:Vk X (Hs op) r)(o:iS X.K r rd)(ha:Fb X a da)(hb:Fb X b db):Fb X (.BinOp a op b pos) (Xl rd da db):=PE.imp (Gz ho ha hb) (aT o)
theorem uB{op:CmpOp}(ho:Vk X (Jx op) r)(o:iS X.K r rd)(ha:Fb X a da)(hb:Fb X b db)(hm:Fo op b=false):Fb X (.Compare a [op] [b] pos) (Xl rd da db):=PE.imp (vW ho ha hb hm) (aT o)
theorem L0(ho:wG X r)(o:iS X.K r rd)(ha:Fb X a da)(hb:Fb X b db)(hs:cU b):Fb X (.Subscript a b pos) (Xl rd da db):=PE.imp (Xf ho ha hb hs) (aT o)
end
def A7(C:Int->Int->Prop)(g:Int->Int->Ad):D2:=λx y P=>match x,y with
 | .dat _ (.int i),.dat _ (.int j)=>C i j/\P (.dat .ow (g i j))
 | _,_=>False
def oE(g:Int->Int->Ad):D2:=λx y P=>match x,y with
 | .dat _ (.int i),.dat _ (.int j)=>P (.dat .ow (g i j))
 | _,_=>False
section
variable{K:PySem.W.Frag}
theorem zB{C:Int->Int->Prop}{g:Int->Int->V}{g':Int->Int->Ad}(h:∀i j H,RdF K H (g i j) (g' i j) []):iS K (rI C g) (A7 C g'):=by
 intro H0 X n S T x y v w F G H Q P hA hd k
 unfold A7 at hd
 split at hd
 ·obtain ⟨rfl,_⟩:=(hA.told Ee).int_inv
  obtain ⟨rfl,_⟩:=(hA.told mem_mid).int_inv
  exact ⟨_,_,rfl,rfl,hd.1,k _ _ [] H (hA.drop2.pushI (h _ _ H)) hd.2⟩
 ·exact hd.elim
theorem vL{g:Int->Int->V}{g':Int->Int->Ad}(h:∀i j H,RdF K H (g i j) (g' i j) []):iS K (F9 g) (oE g'):=by
 intro H0 X n S T x y v w F G H Q P hA hd k
 unfold oE at hd
 split at hd
 ·obtain ⟨rfl,_⟩:=(hA.told Ee).int_inv
  obtain ⟨rfl,_⟩:=(hA.told mem_mid).int_inv
  exact ⟨_,_,rfl,rfl,k _ _ [] H (hA.drop2.pushI (h _ _ H)) hd⟩
 ·exact hd.elim
end
abbrev rdAdd:D2:=oE λi j=>.int (i+j)
abbrev rdSub:D2:=oE λi j=>.int (i - j)
abbrev rdMul:D2:=A7 r9 λi j=>.int (i * j)
abbrev rdDiv:D2:=A7 x6 λi j=>.int (i / j)
abbrev rdMod:D2:=A7 (λ_ j=>0<j) λi j=>.int (i % j)
abbrev rdPow:D2:=A7 B6 λi j=>.int (i ^ j.toNat)
abbrev rdXor:D2:=oE λi j=>.int (Builtin.bitXor i j)
section
variable{X:Cx}{a b:Expr}{da db:DE}{pos:Pos}
theorem Qc(ha:Fb X a da)(hb:Fb X b db):Fb X (.BinOp a .Add b pos) (Xl rdAdd da db):=Tp Wx (vL λ_ _ _=>.int _) ha hb
theorem x9(ha:Fb X a da)(hb:Fb X b db):Fb X (.BinOp a .Sub b pos) (Xl rdSub da db):=Tp J0 (vL λ_ _ _=>.int _) ha hb
theorem w8(ha:Fb X a da)(hb:Fb X b db):Fb X (.BinOp a .Mult b pos) (Xl rdMul da db):=Tp Uq (zB λ_ _ _=>.int _) ha hb
theorem bW(ha:Fb X a da)(hb:Fb X b db):Fb X (.BinOp a .FloorDiv b pos) (Xl rdDiv da db):=Tp dR (zB λ_ _ _=>.int _) ha hb
theorem Iz(ha:Fb X a da)(hb:Fb X b db):Fb X (.BinOp a .Mod b pos) (Xl rdMod da db):=Tp Sd (zB λ_ _ _=>.int _) ha hb
theorem w4(ha:Fb X a da)(hb:Fb X b db):Fb X (.BinOp a .Pow b pos) (Xl rdPow da db):=Tp Yh (zB λ_ _ _=>.int _) ha hb
theorem o8(ha:Fb X a da)(hb:Fb X b db):Fb X (.BinOp a .BitXor b pos) (Xl rdXor da db):=Tp o9 (vL λ_ _ _=>.int _) ha hb
end
def dE(ne:Bool):D2:=λx y P=>match x,y with
 | .dat _ d,.dat _ e=>d.depth<=60/\e.depth<=60/\P (.dat .ow (.bool (match ne with | true=>!Du d e | false=>Du d e)))
 | _,_=>False
def mQ(ne:Bool):D2:=λx y P=>match x,y with
 | .dat _ d,.dat _ (.list es)=>Bl es<=60/\d.depth<=60/\P (.dat .ow (.bool (match ne with | true=>!(es.any λe=>Du e d) | false=>es.any λe=>Du e d)))
 | .dat _ d,.dat _ (.tuple es)=>Bl es<=60/\d.depth<=60/\P (.dat .ow (.bool (match ne with | true=>!(es.any λe=>Du e d) | false=>es.any λe=>Du e d)))
 | _,_=>False
section
variable{K:PySem.W.Frag}
theorem n6:iS K (N7 K) (dE false):=by
 intro H0 X n S T x y v w F G H Q P hA hd k
 unfold dE at hd
 split at hd
 ·exact ⟨_,_,(hA.told Ee).rd (Ca hd.1 (by decide)),(hA.told mem_mid).rd (Ca hd.2.1 (by decide)),hd.1,k _ _ [] H (hA.drop2.pushI (.bl _)) hd.2.2⟩
 ·exact hd.elim
theorem P9:iS K (Q7 K) (dE true):=by
 intro H0 X n S T x y v w F G H Q P hA hd k
 unfold dE at hd
 split at hd
 ·exact ⟨_,_,(hA.told Ee).rd (Ca hd.1 (by decide)),(hA.told mem_mid).rd (Ca hd.2.1 (by decide)),hd.1,k _ _ [] H (hA.drop2.pushI (.bl _)) hd.2.2⟩
 ·exact hd.elim
theorem n8{ne:Bool}:iS K (E2 K ne) (mQ ne):=by
 intro H0 X n S T x y v w F G H Q P hA hd k
 unfold mQ at hd
 split at hd
 ·obtain ⟨a,xs,G',rfl,hq,hs,_,_⟩:=(hA.told mem_mid).list_inv
  refine ⟨a,xs,_,_,rfl,.inl (Kq.of hq),(hA.told Ee).rd (Ca hd.2.1 (by decide)),hs.rd (Ca hd.1 (by decide)),hd.1,?_⟩
  cases ne with
  | true=>exact k _ _ [] H (hA.drop2.pushI (.bl _)) hd.2.2
  | false=>exact k _ _ [] H (hA.drop2.pushI (.bl _)) hd.2.2
 ·obtain ⟨a,xs,rfl,hq,hs,_⟩:=(hA.told mem_mid).tup_inv
  refine ⟨a,xs,_,_,rfl,.inr (Sj.of hq),(hA.told Ee).rd (Ca hd.2.1 (by decide)),hs.rd (Ca hd.1 (by decide)),hd.1,?_⟩
  cases ne with
  | true=>exact k _ _ [] H (hA.drop2.pushI (.bl _)) hd.2.2
  | false=>exact k _ _ [] H (hA.drop2.pushI (.bl _)) hd.2.2
 ·exact hd.elim
end
section
variable{X:Cx}{a b:Expr}{da db:DE}{pos:Pos}
theorem sI(hu:X.A.units+64<cLine)(ha:Fb X a da)(hb:Fb X b db):Fb X (.Compare a [.Eq] [b] pos) (Xl (dE false) da db):=uB (tM hu) n6 ha hb (cH _)
theorem S6(hu:X.A.units+64<cLine)(ha:Fb X a da)(hb:Fb X b db)(hm:Fo .In b=false:=by with_unfolding_all rfl):Fb X (.Compare a [.In] [b] pos) (Xl (mQ false) da db):=uB (I0 hu) n8 ha hb hm
end
def cJ:Md->Md
 | .ow=>.ow
 | .tp=>.sh
 | m=>m
theorem At.part{K:PySem.W.Frag}{H0 H:Hp}{X:Addr->Prop}{n:Nat}{S T:List Ent}{v w:V}{m:Md}{d e:Ad}{F G:List Addr}(h:At K H0 X n (S++⟨some v,.dat m d,F⟩::T) H)(r:RdF K H w e G)(hG:G.Sublist F):At K H0 X n (S++⟨some w,.dat (cJ m) e,G⟩::T) H:=by
 have h2:=h.mid
 have hs:=Bd.mp h2.sep
 obtain ⟨v',e1,h1,hn,ht⟩:=h2.ok _ Ab
 have cs:∀a∈cells ⟨some w,.dat (cJ m) e,G⟩,a∈cells ⟨some v,.dat m d,F⟩:=λa ha=>by
  cases m with
  | ow=>exact hG.subset ha
  | tp=>exact nomatch ha
  | sh=>exact nomatch ha
  | pk=>exact nomatch ha
 refine (h.drop.push (e:=⟨some w,.dat (cJ m) e,G⟩) ⟨w,rfl,r,λz=>?_,λz=>?_⟩ (λf hf=>?_) λa ha=>?_).tomid
 ·cases m with
  | ow=>exact (hn rfl).sublist hG
  | _=>cases z
 ·cases m <;> cases z
 ·refine ⟨λhp a ha=>(hs.1 f hf).1 ?_ a (cs a ha),λhp a ha z=>(hs.1 f hf).2 ?_ a ha (hG.subset z)⟩
  ·rcases hp with hp | hp
   ·exact .inl hp
   ·cases hp
  ·rcases hp with hp | hp
   ·refine .inl ?_
    cases m <;> first | rfl | exact hp
   ·exact .inr hp
 ·rcases h2.new _ Ab a (cs a ha) with z | z
  ·exact .inl z
  ·cases z.2
def wW:D2:=λx y P=>match x,y with
 | .dat m (.list ds),.dat _ (.int i)=>∃d,Ub ds i=some d/\P (.dat (cJ m) d)
 | .dat m (.tuple ds),.dat _ (.int i)=>∃d,Ub ds i=some d/\P (.dat (cJ m) d)
 | .dat _ (.str z),.dat _ (.int i)=>z.length<=Ap/\∃c,Ub z.cps.toList i=some c/\P (.dat .ow (.str ⟨#[c]⟩))
 | _,_=>False
theorem qS{K:PySem.W.Frag}{H:Hp}{xs:List V}{ds:List Ad}{F:List Addr}{i:Int}{d:Ad}(r:RdFs K H xs ds F)(h:Ub ds i=some d):∃x G,Ub xs i=some x/\RdF K H x d G/\G.Sublist F:=by
 unfold Ub at h ⊢
 rw[r.len]
 cases e:pH ds.length i with
 | none=>rw[e] at h; cases h
 | some j =>
  rw[e] at h
  exact r.get h
theorem Q5{K:PySem.W.Frag}:iS K (Z9 K) wW:=by
 intro H0 X n S T x y v w F G H Q P hA hd k
 unfold wW at hd
 split at hd
 ·obtain ⟨d,hi,p⟩:=hd
  obtain ⟨rfl,_⟩:=(hA.told mem_mid).int_inv
  have r:=hA.told Ee
  have hA':=hA.drop
  obtain ⟨a,xs,G0,rfl,hq,hs,hG,_⟩:=r.list_inv
  obtain ⟨x,G',h1,h2,h3⟩:=qS hs hi
  subst hG
  exact .inl ⟨_,_,_,_,rfl,rfl,Kq.of hq,h1,k _ _ G' H (hA'.part h2 (h3.trans (Dg _ _))) p⟩
 ·obtain ⟨d,hi,p⟩:=hd
  obtain ⟨rfl,_⟩:=(hA.told mem_mid).int_inv
  have r:=hA.told Ee
  have hA':=hA.drop
  obtain ⟨a,xs,rfl,hq,hs,_⟩:=r.tup_inv
  obtain ⟨x,G',h1,h2,h3⟩:=qS hs hi
  exact .inr (.inl ⟨_,_,_,_,rfl,rfl,Sj.of hq,h1,k _ _ G' H (hA'.part h2 h3) p⟩)
 ·obtain ⟨hz,c,hi,p⟩:=hd
  obtain ⟨rfl,_⟩:=(hA.told mem_mid).int_inv
  obtain ⟨rfl,_⟩:=(hA.told Ee).str_inv
  exact .inr (.inr ⟨_,_,_,rfl,rfl,hz,hi,k _ _ [] H (hA.drop2.pushI (.str _)) p⟩)
 ·exact hd.elim
theorem Qg{X:Cx}{a b:Expr}{da db:DE}{pos:Pos}(ha:Fb X a da)(hb:Fb X b db)(hs:cU b:=by intro _ _; rfl):Fb X (.Subscript a b pos) (Xl wW da db):=L0 x3 Q5 ha hb hs
def kY:Md->Md
 | .ow=>.ow
 | .pk=>.pk
 | _=>.tp
def fA(i:Bool)(m:Md)(ds:List Ad)(P:DV->Prop):Prop:=match i with
 | true=>Dr ds=true/\P (.dat .ow (.list ds))
 | false=>P (.dat (kY m) (.list ds))
def S8(i:Bool)(m:Md)(ds:List Ad)(P:DV->Prop):Prop:=match i with
 | true=>Dr ds=true/\P (.dat .ow (.tuple ds))
 | false=>P (.dat (cJ m) (.tuple ds))
section
variable{K:PySem.W.Frag}{H0 H:Hp}{X:Addr->Prop}{n:Nat}{S T:List Ent}{v w:V}{m:Md}{d e:Ad}{F G:List Addr}{p:Addr}{xs:List V}{ds:List Ad}{P:DV->Prop}{i:Bool}
theorem At.newI(h:At K H0 X n (S++T) H)(r:RdFs K H xs ds G)(hi:Dr ds=true)(hz:ds.length<=Ap)(hp:H p=none)(m:Md):At K H0 X n (S++⟨some (.ref p),.dat m (.list ds),[p]⟩::T) (upd H p (.lst xs)):=by
 obtain rfl:=r.imm hi
 have s1:=Di hp (.lst xs)
 have h1:=h.grow (n':=n) s1 (Ai _)
 refine (h1.push (e:=⟨some (.ref p),.dat m (.list ds),[p]⟩) ⟨_,rfl,.lst Cr hz (r.kp (Kp.of s1)),λ_=>Bx.mpr ⟨Az,Cs⟩,λ_ a l z=>by cases z; exact Az⟩ (λf hf=>?_) λa ha=>?_).tomid
 ·have nf:=h.free hp f hf
  refine ⟨λ_ a ha z=>?_,λ_ a ha z=>?_⟩
  ·have:=Fh _ a ha
   rw[Ah.mp this] at z
   exact nf z
  ·rw[Ah.mp z] at ha
   exact nf (Fh _ _ ha)
 ·have:=Fh _ a ha
  rw[Ah.mp this]
  exact .inl (h.new0 hp)
theorem At.newL(h:At K H0 X n (S++⟨some v,.dat m d,F⟩::T) H)(r:RdFs K H xs ds G)(hG:G.Sublist F)(hz:ds.length<=Ap)(hp:H p=none)(q:fA i m ds P):∃z F',At K H0 X n (S++⟨some (.ref p),z,F'⟩::T) (upd H p (.lst xs))/\P z:=by
 cases i with
 | true=>exact ⟨_,_,h.drop.newI r q.1 hz hp .ow,q.2⟩
 | false =>
  have q:P (.dat (kY m) (.list ds)):=q
  refine ⟨_,p::G,?_,q⟩
  have s1:=Di hp (.lst xs)
  have h2:=h.mid
  have hs:=Bd.mp h2.sep
  obtain ⟨v',e1,_,hn,_⟩:=h2.ok _ Ab
  have h1:=h.drop.grow (n':=n) s1 (Ai _)
  have npF:p∉F:=h2.free hp _ Ab
  have npG:p∉G:=λz=>npF (hG.subset z)
  have cs:∀a∈cells ⟨some (.ref p),.dat (kY m) (.list ds),p::G⟩,a=p\/(a∈cells ⟨some v,.dat m d,F⟩):=λa ha=>by
   cases m with
   | ow =>
    rcases Ak.mp ha with z | z
    ·exact .inl z
    ·exact .inr (hG.subset z)
   | tp=>exact .inl (Ah.mp ha)
   | sh=>exact .inl (Ah.mp ha)
   | pk=>exact nomatch ha
  refine (h1.push (e:=⟨some (.ref p),.dat (kY m) (.list ds),p::G⟩) ⟨_,rfl,.lst Cr hz (r.kp (Kp.of s1)),λz=>?_,λz a l e=>?_⟩ (λf hf=>?_) λa ha=>?_).tomid
  ·cases m with
   | ow=>exact Bx.mpr ⟨npG,(hn rfl).sublist hG⟩
   | _=>cases z
  ·cases e
   exact npG
  ·have nf:=h2.free hp f (Af _ hf)
   refine ⟨λhq a ha z=>?_,λhq a ha z=>?_⟩
   ·rcases cs a ha with rfl | hc
    ·exact nf z
    ·refine (hs.1 f hf).1 ?_ a hc z
     rcases hq with hq | hq
     ·exact .inl hq
     ·cases hq
   ·rcases Ak.mp z with rfl | z
    ·exact nf (Fh _ _ ha)
    ·refine (hs.1 f hf).2 ?_ a ha (hG.subset z)
     rcases hq with hq | hq
     ·refine .inl ?_
      cases m <;> first | rfl | exact hq
     ·exact .inr hq
  ·rcases cs a ha with rfl | hc
   ·exact .inl (h2.new0 hp)
   ·rcases h2.new _ Ab a hc with z | z
    ·exact .inl z
    ·cases z.2
end
def p9:DA:=λδ P=>P [] δ
def j3(de:DE)(da:DA):DA:=λδ P=>de δ λx δ1=>da δ1 λxs δ2=>P (x::xs) δ2
section
variable{X:Cx}{e:Expr}{es:List Expr}{de:DE}{da:DA}
theorem Cf:jM X [] p9:=by
 refine PA.imp Jc λσ H Q h=>?_
 obtain ⟨H0,Y,S,T,δ,P,rfl,hS,hA,hd,k⟩:=h
 exact k [] δ [] [] S H rfl hS rfl rfl hA hd
theorem Bh(ha:Fb X e de)(hr:jM X es da)(hs:Bp (e::es) X.env=(false,eval e X.env)::Bp es X.env:=by rfl):jM X (e::es) (j3 de da):=by
 refine PA.imp (Fs ha hr hs) λσ H Q h=>?_
 obtain ⟨H0,Y,S,T,δ,P,rfl,hS,hA,hd,k⟩:=h
 refine ⟨H0,Y,S,T,δ,_,rfl,hS,hA,hd,λx δ1 v F S1 H1 e1 e2 hA1 p1=>?_⟩
 refine ⟨H0,Y,S1,⟨some v,x,F⟩::T,δ1,_,e1,e2,hA1,p1,λxs δ2 As us S2 H2 e3 e4 ex eu hA2 p2=>?_⟩
 refine k (x::xs) δ2 (⟨some v,x,F⟩::As) (v::us) S2 H2 e3 e4 (by rw[Au,ex]) (by rw[Au,Au,eu]) (hA2.perm ((List.Perm.refl S2).append ?_)) p2
 exact Pk
end
def allOw:List DV->Bool
 | []=>true
 | .dat .ow _::xs=>allOw xs
 | _=>false
def noPk:List DV->Bool
 | []=>true
 | .dat .pk _::_=>false
 | .dat _ _::xs=>noPk xs
 | _=>false
def datas:List DV->Option (List Ad)
 | []=>some []
 | .dat _ d::xs=>(datas xs).map (d::·)
 | _=>none
def pkMd(Pn:Md)(xs:List DV):Md:=if allOw xs=true then .ow else if noPk xs=true then Pn else .pk
section
variable{K:PySem.W.Frag}{H0 H:Hp}{X:Addr->Prop}{n:Nat}{S T As:List Ent}
theorem Ti:∀{As:List Ent} {us:List V} {ds:List Ad},As.map Ent.v=us.map some->datas (As.map Ent.x)=some ds->(∀e∈As,Hy K H n e)->RdFs K H us ds (As.flatMap Ent.F)
 | [],us,ds,e,h,_=>by
  cases us with
  | nil=>cases h; exact .nil
  | cons _ _=>cases e
 | ent::As,us,ds,e,h,ok=>by
  cases us with
  | nil=>cases e
  | cons u us =>
   rw[Au,Au] at e
   obtain ⟨e1,e2⟩:=Dx e
   obtain ⟨v,x,F⟩:=ent
   have e1':v=some u:=e1
   subst e1'
   rw[Au] at h
   cases x with
   | dat m d =>
    rw[show datas (DV.dat m d::As.map Ent.x)=(datas (As.map Ent.x)).map (d::·) from rfl] at h
    cases q:datas (As.map Ent.x) with
    | none=>rw[q] at h; cases h
    | some es =>
     rw[q] at h
     cases h
     obtain ⟨w,ew,rw',_⟩:=ok _ Ab
     cases ew
     rw[List.flatMap_cons]
     exact .cons rw' (Ti e2 q λf hf=>ok f (Af _ hf))
   | _=>cases h
theorem Nw:∀{As:List Ent},allOw (As.map Ent.x)=true->∀e∈As,∃d,e.x=.dat .ow d
 | [],_,_,h=>nomatch h
 | ⟨v,x,F⟩::As,h,e,he=>by
  rw[Au] at h
  have hx:(∃d,x=.dat .ow d)/\allOw (As.map Ent.x)=true:=by
   cases x with
   | dat m d=>cases m <;> first | exact ⟨⟨d,rfl⟩,h⟩ | cases h
   | _=>cases h
  rcases Ak.mp he with rfl | he
  ·exact hx.1
  ·exact Nw hx.2 e he
theorem fU:∀{As:List Ent},noPk (As.map Ent.x)=true->∀e∈As,Mp e.x=false
 | [],_,_,h=>nomatch h
 | ⟨v,x,F⟩::As,h,e,he=>by
  rw[Au] at h
  have hx:Mp x=false/\noPk (As.map Ent.x)=true:=by
   cases x with
   | dat m d=>cases m <;> first | exact ⟨rfl,h⟩ | cases h
   | _=>cases h
  rcases Ak.mp he with rfl | he
  ·exact hx.1
  ·exact fU hx.2 e he
theorem Xj:∀{As:List Ent},(∀e∈As,∃d,e.x=.dat .ow d)->(∀e∈As,Hy K H n e)->As.Pairwise Xc->(As.flatMap Ent.F).Nodup
 | [],_,_,_=>Cs
 | ent::As,ho,ok,hs=>by
  rw[List.flatMap_cons]
  have hc:=Bd.mp hs
  obtain ⟨v,x,F⟩:=ent
  obtain ⟨d,hd⟩:=ho _ Ab
  have hd':x=.dat .ow d:=hd
  subst hd'
  obtain ⟨w,_,_,hn,_⟩:=ok _ Ab
  refine Wa.mpr ⟨hn rfl,Xj (λe he=>ho e (Af _ he)) (λe he=>ok e (Af _ he)) hc.2,λa ha b hb z=>?_⟩
  subst z
  obtain ⟨f,hf,hb⟩:=Pl.mp hb
  obtain ⟨d',hd'⟩:=ho f (Af _ hf)
  exact (hc.1 f hf).1 (.inl (by rw[hd']; rfl)) a ha hb
theorem At.pack{v:V}{d:Ad}{N:List Addr}{H':Hp}{Pn:Md}(h:At K H0 X n (S++(As++T)) H)(s:La H H')(hN:∀a∈N,H a=none)(ndN:N.Nodup)(htop:(Pn=.tp/\N.length=1)\/(Pn=.sh/\N=[]))(r:RdF K H' v d (N++As.flatMap Ent.F)):At K H0 X n (S++⟨some v,.dat (pkMd Pn (As.map Ent.x)) d,N++As.flatMap Ent.F⟩::T) H':=by
 have hp:(S++(As++T)).Perm (As++(S++T)):=by
  rw[<- Cj,<- Cj]
  exact List.perm_append_comm.append_right T
 have h2:=h.perm hp
 have hs:=Dh.mp h2.sep
 have h1:=(h.dropL).grow (n':=n) s (Ai _)
 have nN:∀a∈N,∀f∈As++(S++T),a∉f.F:=λa ha f hf=>h2.free (hN a ha) f hf
 have nFlat:∀a∈N,a∉As.flatMap Ent.F:=λa ha z=>by
  obtain ⟨f,hf,z⟩:=Pl.mp z
  exact nN a ha f (Av _ hf) z
 have cs:∀a∈cells ⟨some v,.dat (pkMd Pn (As.map Ent.x)) d,N++As.flatMap Ent.F⟩,a∈N\/(allOw (As.map Ent.x)=true/\∃f∈As,a∈cells f):=λa ha=>by
  unfold pkMd at ha
  by_cases hw:allOw (As.map Ent.x)=true
  ·rw[if_pos hw] at ha
   rcases Bi.mp ha with z | z
   ·exact .inl z
   ·obtain ⟨f,hf,z⟩:=Pl.mp z
    obtain ⟨d',hd'⟩:=Nw hw f hf
    refine .inr ⟨hw,f,hf,?_⟩
    unfold cells
    rw[hd']
    exact z
  ·rw[if_neg hw] at ha
   by_cases hk:noPk (As.map Ent.x)=true
   ·rw[if_pos hk] at ha
    rcases htop with ⟨rfl,h1⟩ | ⟨rfl,rfl⟩
    ·match N,h1,ha with
     | [b],_,ha=>exact .inl ha
    ·exact nomatch ha
   ·rw[if_neg hk] at ha
    exact nomatch ha
 refine (h1.push (e:=⟨some v,.dat (pkMd Pn (As.map Ent.x)) d,N++As.flatMap Ent.F⟩) ⟨_,rfl,r,λz=>?_,λz a l e=>?_⟩ (λf hf=>?_) λa ha=>?_).tomid
 ·have hw:allOw (As.map Ent.x)=true:=by
   unfold pkMd at z
   by_cases hw:allOw (As.map Ent.x)=true
   ·exact hw
   ·rw[if_neg hw] at z
    split at z
    ·rcases htop with ⟨rfl,_⟩ | ⟨rfl,_⟩ <;> cases z
    ·cases z
  refine Wa.mpr ⟨ndN,Xj (Nw hw) (λe he=>h2.ok e (Av _ he)) hs.1,λa ha b hb e=>?_⟩
  subst e
  exact nFlat a ha hb
 ·have ht:Pn=.tp:=by
   unfold pkMd at z
   split at z
   ·cases z
   ·split at z
    ·exact z
    ·cases z
  subst ht
  rcases htop with ⟨_,h1⟩ | ⟨h1,_⟩
  ·match N,h1,e,nFlat with
   | [b],_,e,nFlat =>
    cases e
    exact nFlat a Ab
  ·cases h1
 ·have hf':f∈As++(S++T):=Ao _ hf
  refine ⟨λhq a ha z=>?_,λhq a ha z=>?_⟩
  ·rcases cs a ha with hn | ⟨_,g,hg,hc⟩
   ·exact nN a hn f hf' z
   ·refine (hs.2.2 g hg f hf).1 ?_ a hc z
    rcases hq with hq | hq
    ·exact .inl hq
    ·cases hq
  ·rcases Bi.mp z with z | z
   ·exact nN a z f hf' (Fh _ _ ha)
   ·obtain ⟨g,hg,z⟩:=Pl.mp z
    refine (hs.2.2 g hg f hf).2 ?_ a ha z
    rcases hq with hq | hq
    ·refine .inl ?_
     have hq':Mp (.dat (pkMd Pn (As.map Ent.x)) d)=false:=hq
     unfold pkMd at hq'
     by_cases hw:allOw (As.map Ent.x)=true
     ·obtain ⟨d',hd'⟩:=Nw hw g hg
      rw[hd']
      rfl
     ·rw[if_neg hw] at hq'
      by_cases hk:noPk (As.map Ent.x)=true
      ·exact fU hk g hg
      ·rw[if_neg hk] at hq'
       cases hq'
    ·exact .inr hq
 ·rcases cs a ha with hn | ⟨_,g,hg,hc⟩
  ·exact .inl (h2.new0 (hN a hn))
  ·rcases h2.new g (Av _ hg) a hc with z | z
   ·exact .inl z
   ·obtain ⟨d',hd'⟩:=Nw (by assumption) g hg
    rw[hd'] at z
    cases z.2
end
def W5(da:DA):DE:=λδ P=>da δ λxs δ'=>match datas xs with
 | some ds=>ds.length<=1000/\P (.dat (pkMd .sh xs) (.tuple ds)) δ'
 | none=>False
def R6(da:DA):DE:=λδ P=>da δ λxs δ'=>match datas xs with
 | some ds=>ds.length<=1000/\P (.dat (pkMd .tp xs) (.list ds)) δ'
 | none=>False
section
variable{X:Cx}{es:List Expr}{da:DA}{pos:Pos}
theorem Z6{x1}(h:jM X es da):Fb X (.Tuple es x1 pos) (W5 da):=by
 refine PE.imp (Xr h) λσ H Q h=>?_
 obtain ⟨H0,Y,S,T,δ,P,rfl,hS,hA,hd,k⟩:=h
 refine ⟨H0,Y,S,T,δ,_,rfl,hS,hA,hd,λxs δ' As us S' H' e1 e2 ex eu hA' p=>?_⟩
 cases q:datas xs with
 | none=>rw[q] at p; exact p.elim
 | some ds =>
  rw[q] at p
  subst ex
  have r:=Ti eu q λe he=>hA'.ok e (Ao _ (Av _ he))
  have hl:=r.len
  have hz:ds.length<=Ap:=sz p.1
  refine ⟨by omega,λt ht=>?_⟩
  have s1:=Di ht (.tup us)
  exact k _ δ' _ _ S' _ e1 e2 (hA'.pack (N:=[]) s1 (λ_ z=>nomatch z) Cs (.inr ⟨rfl,rfl⟩) (.tup Cr hz (r.kp (Kp.of s1)))) p.2
theorem Mg(h:jM X es da):Fb X (.List es pos) (R6 da):=by
 refine PE.imp (Wy h) λσ H Q h=>?_
 obtain ⟨H0,Y,S,T,δ,P,rfl,hS,hA,hd,k⟩:=h
 refine ⟨H0,Y,S,T,δ,_,rfl,hS,hA,hd,λxs δ' As us S' H' e1 e2 ex eu hA' p=>?_⟩
 cases q:datas xs with
 | none=>rw[q] at p; exact p.elim
 | some ds =>
  rw[q] at p
  subst ex
  have r:=Ti eu q λe he=>hA'.ok e (Ao _ (Av _ he))
  have hl:=r.len
  have hz:ds.length<=Ap:=sz p.1
  refine ⟨by omega,λt ht=>?_⟩
  have s1:=Di ht (.lst us)
  exact k _ δ' _ _ S' _ e1 e2 (hA'.pack (N:=[t]) s1 (λa z=>by rw[Ah.mp z]; exact ht) (Bx.mpr ⟨Az,Cs⟩) (.inl ⟨rfl,rfl⟩) (.lst Cr hz (r.kp (Kp.of s1)))) p.2
end
end DL
namespace Nd
open PySem PySem.Spec PyProof.Rows L2
theorem Mc:∀{vs:List Value} {ns:List Int},En (ns.map V.int) vs->∃xs:List (Int×Tok),vs=xs.map (λp=>Ph p.1 p.2)/\xs.map (·.1)=ns
 | [],[],_=>⟨[],rfl,rfl⟩
 | v::vs,n::ns,h=>by
  cases h with
  | cons h1 h2 =>
   obtain ⟨t,rfl⟩:=h1
   obtain ⟨xs,e1,e2⟩:=Mc h2
   exact ⟨(n,t)::xs,by rw[e1]; rfl,by rw[<- e2]; rfl⟩
 | [],n::ns,h=>nomatch h
 | v::vs,[],h=>nomatch h
section
variable{X:Cx}
def zX(K:PySem.W.Frag):List V->Hp->VK->Prop:=λxs H Q=>∃(a:Addr) (ns:List Int),xs=[.ref a]/\Kq K H a (ns.map V.int)/\ns≠[]/\∀M∈ns,(∀x∈ns,M<=x)->Q (.int M) H
theorem bE(hc:X.calm=true):Lr X (.builtin "min") (zX X.K):=by
 intro pins s σ H xs us Q I r h
 obtain ⟨p,ns,rfl,hp,ne,q⟩:=h
 obtain ⟨u,rfl,ru⟩:=vals1 r
 cases ru
 obtain ⟨its,rv,pl,_⟩:=I.list hp
 obtain ⟨ps,rfl,rfl⟩:=Mc rv
 have hl:s.heap.IsList p (Lu ps.toArray):=by simpa [Lu] using pl.isList
 have hpos:0<ps.toArray.size:=by rcases ps with _ | ⟨x,ps⟩ <;> simp at ne ⊢
 refine min_intList (I.ok.hd hc) hl hpos λv h' tk hv k=>?_
 obtain ⟨t,rfl⟩:=intItems_at hv
 obtain ⟨h1,h2⟩:=argBest_lt (numAt ps.toArray) (ps.toArray.size - 1)
 refine ⟨.int _,H,I.kept k,⟨t,rfl⟩,q _ ?_ λx hx=>?_⟩
 ·rw[numAt_eq]; exact getD_mem (by rw[Ac]; show _<ps.length; have hs:ps.toArray.size=ps.length:=Am; omega)
 ·obtain ⟨j,hj,rfl⟩:=mem_getD hx
  rw[Ac] at hj
  have:=h2 j (by have hs:ps.toArray.size=ps.length:=Am; have hj':j<ps.length:=hj; omega)
  rw[numAt_eq ps.toArray j] at this
  exact this
end
end Nd
namespace Ts
open PySem PyProof.Rows
def Ra:Bool->Keyed->Array Keyed->Nat->Nat->Nat->StateT Bn Sem (Option Nat):=sortPriv% PySem.Builtin.gallop
structure Cmp(prog:Bo)(w:World)(A:Co)(s:Ag)(kd:Kn)(Ok:Keyed->Prop)(blt:Keyed->Keyed->Bool):Prop where
 run:∀(x y:Keyed) (Q:Bool->Ag->Prop) (E:Value->Ag->Prop),Ok x->Ok y->Q (blt x y) s->wpAny (model prog w) A (keyLt' kd x.1 y.1) Q E s
 irr:∀x,blt x x=false
 tr:∀x y z,blt x y=true->blt y z=true->blt x z=true
 neg:∀x y z,blt x z=true->blt x y=true\/blt y z=true
def le(blt:Keyed->Keyed->Bool)(x y:Keyed):Prop:=blt y x=false
section
variable{prog:Bo}{w:World}{A:Co}{s:Ag}{kd:Kn}{Ok:Keyed->Prop}{blt:Keyed->Keyed->Bool}
theorem Cmp.refl(C:Cmp prog w A s kd Ok blt)(x:Keyed):le blt x x:=C.irr x
theorem Cmp.ofLt(C:Cmp prog w A s kd Ok blt){x y:Keyed}(h:blt x y=true):le blt x y:=by
 unfold le
 cases q:blt y x with
 | false=>rfl
 | true=>have:=C.tr _ _ _ h q; rw[C.irr] at this; cases this
theorem Cmp.trans(C:Cmp prog w A s kd Ok blt){x y z:Keyed}(h1:le blt x y)(h2:le blt y z):le blt x z:=by
 unfold le at *
 cases q:blt z x with
 | false=>rfl
 | true =>
  rcases C.neg _ y _ q with h | h
  ·rw[h2] at h; cases h
  ·rw[h1] at h; cases h
theorem Cmp.ltLe(C:Cmp prog w A s kd Ok blt){x y z:Keyed}(h1:blt x y=true)(h2:le blt y z):blt x z=true:=by
 unfold le at h2
 rcases C.neg _ z _ h1 with h | h
 ·exact h
 ·rw[h2] at h; cases h
theorem Cmp.leLt(C:Cmp prog w A s kd Ok blt){x y z:Keyed}(h1:le blt x y)(h2:blt y z=true):blt x z=true:=by
 unfold le at h1
 rcases C.neg _ x _ h2 with h | h
 ·rw[h1] at h; cases h
 ·exact h
variable{E:Value->Ag->Prop}
structure Kept(st st':Bn):Prop where
 kind:kindOf st'=kindOf st
 arr:arrOf st'=arrOf st
 pend:Be st'=Be st
 fail:Jv st'=Jv st
theorem Kept.refl(st:Bn):Kept st st:=⟨rfl,rfl,rfl,rfl⟩
theorem Kept.trans{a b c:Bn}(h:Kept a b)(k:Kept b c):Kept a c:=⟨k.kind.trans h.kind,k.arr.trans h.arr,k.pend.trans h.pend,k.fail.trans h.fail⟩
theorem fR(C:Cmp prog w A s kd Ok blt){st:Bn}{x y:Keyed}{Q:Option Bool->Bn->Prop}(hk:kindOf st=kd)(ox:Ok x)(oy:Ok y)(h:Q (some (blt x y)) st):wpS (model prog w) A E s (lt' x y) Q st:=by
 rw[lt'_eq]
 refine Bc (Ls ?_)
 rw[hk]
 exact Bc (wpS_lift (Hh (C.run x y _ _ ox oy ⟨rfl,Bf h⟩)))
theorem Eo{st:Bn}{xs:Array Keyed}{i:Nat}{p:Keyed}{Q:Keyed->Bn->Prop}(h:xs[i]? = some p)(q:Q p st):wpS (model prog w) A E s (elem' xs i) Q st:=by
 rw[elem'_eq,h]
 exact Bf q
def Rc(left:Bool)(key:Keyed)(arr:Array Keyed)(base i:Nat):StateT Bn Sem (Option Bool):=do
 let x <- elem' arr (base+i)
 if left then lt' x key else return (<- lt' key x).map (!·)
def kN(left:Bool)(key:Keyed)(arr:Array Keyed)(base n lo0 hi0:Nat):StateT Bn Sem (Option Nat):=do
 let mut lo:=lo0
 let mut hi:=hi0
 for _ in [0:n] do
  if lo ≥ hi then break
  let mid:=lo+(hi - lo) / 2
  let some up <- Rc left key arr base mid | return none
  if up then lo:=mid+1 else hi:=mid
 return some hi
theorem kC(left:Bool)(key:Keyed)(arr:Array Keyed)(base n hint:Nat):Ra left key arr base n hint=(do
  let some right <- Rc left key arr base hint | return none
  let mut last:=0
  let mut ofs:=1
  if right then
   let Pn:=n - hint
   for _ in [0:n] do
    if ofs ≥ Pn then break
    let some up <- Rc left key arr base (hint+ofs) | return none
    if !up then break
    last:=ofs
    ofs:=2 * ofs+1
   kN left key arr base n (hint+last+1) (hint+min ofs Pn)
  else
   let Pn:=hint+1
   for _ in [0:n] do
    if ofs ≥ Pn then break
    let some got <- Rc left key arr base (hint - ofs) | return none
    if got then break
    last:=ofs
    ofs:=2 * ofs+1
   kN left key arr base n (hint+1 - min ofs Pn) (hint - last)):=rfl
def Ft(blt:Keyed->Keyed->Bool)(left:Bool)(key x:Keyed):Bool:=if left then blt x key else !blt key x
structure Row(Ok:Keyed->Prop)(arr:Array Keyed)(base n:Nat)(el:Nat->Keyed):Prop where
 at_:∀i,i<n->arr[base+i]? = some (el i)
 ok:∀i,i<n->Ok (el i)
theorem Qr(C:Cmp prog w A s kd Ok blt){st:Bn}{left:Bool}{key:Keyed}{arr:Array Keyed}{base n i:Nat}{el:Nat->Keyed}(R:Row Ok arr base n el)(ok:Ok key)(hk:kindOf st=kd)(hi:i<n){Q:Option Bool->Bn->Prop}(h:Q (some (Ft blt left key (el i))) st):wpS (model prog w) A E s (Rc left key arr base i) Q st:=by
 unfold Rc
 refine Bc (Eo (R.at_ i hi) ?_)
 cases left with
 | true =>
  rw[if_pos rfl]
  exact fR C hk (R.ok i hi) ok h
 | false =>
  rw[if_neg Bm]
  exact Bc (fR C hk ok (R.ok i hi) (Bf h))
theorem lH(C:Cmp prog w A s kd Ok blt){st:Bn}{left:Bool}{key:Keyed}{arr:Array Keyed}{base n lo hi:Nat}{el:Nat->Keyed}(R:Row Ok arr base n el)(ok:Ok key)(hk:kindOf st=kd)(mono:∀i j,i<=j->j<n->Ft blt left key (el j)=true->Ft blt left key (el i)=true)(h1:lo<=hi)(h2:hi<=n)(t1:∀i,i<lo->Ft blt left key (el i)=true)(t2:∀i,hi<=i->i<n->Ft blt left key (el i)=false){Q:Option Nat->Bn->Prop}(h:∀k,k<=n->(∀i,i<k->Ft blt left key (el i)=true)->(∀i,k<=i->i<n->Ft blt left key (el i)=false)->Q (some k) st):wpS (model prog w) A E s (kN left key arr base n lo hi) Q st:=by
 unfold kN
 refine Bc (Ge (Dy (I:=λx c st'=>∃l r,c=(none,l,r)/\st'=st/\l<=r/\r<=n/\r - l+x<=n/\(∀i,i<l->Ft blt left key (el i)=true)/\(∀i,r<=i->i<n->Ft blt left key (el i)=false))
  (Q:=λc st'=>∃r,c=(none,r,r)/\st'=st/\r<=n/\(∀i,i<r->Ft blt left key (el i)=true)/\(∀i,r<=i->i<n->Ft blt left key (el i)=false)) ?_ ?_ ⟨lo,hi,rfl,rfl,h1,h2,by omega,t1,t2⟩) ?_)
 ·(intro x c st' _ hx q_; obtain ⟨l,r,rfl,rfl,a1,a2,a3,b1,b2⟩ := q_)
  dsimp only
  by_cases hlr:l ≥ r
  ·rw[if_pos hlr]
   have e:l=r:=by omega
   subst e
   exact Bf ⟨l,rfl,rfl,a2,b1,b2⟩
  ·rw[if_neg hlr]
   have hm:l+(r - l) / 2<n:=by omega
   refine Bc (Qr C R ok hk hm ?_)
   dsimp only
   cases hb:Ft blt left key (el (l+(r - l) / 2)) with
   | true =>
    rw[if_pos rfl]
    exact Bf ⟨l+(r - l) / 2+1,r,rfl,rfl,by omega,a2,by omega,λi hi=>mono i _ (by omega) hm hb,b2⟩
   | false =>
    rw[if_neg Bm]
    refine Bf ⟨l,l+(r - l) / 2,rfl,rfl,by omega,by omega,by omega,b1,λi hi hn=>?_⟩
    cases q:Ft blt left key (el i) with
    | false=>rfl
    | true=>rw[mono _ i hi hn q] at hb; cases hb
 ·(intro c st' q_; obtain ⟨l,r,rfl,rfl,a1,a2,a3,b1,b2⟩ := q_)
  have e:l=r:=by
   have : max 0 n=n:=by omega
   rw[this] at a3
   omega
  subst e
  exact ⟨l,rfl,rfl,a2,b1,b2⟩
 ·(intro c st' q_; obtain ⟨r,rfl,rfl,a2,b1,b2⟩ := q_)
  exact Bf (h r a2 b1 b2)
theorem Mb(C:Cmp prog w A s kd Ok blt){st:Bn}{left:Bool}{key:Keyed}{arr:Array Keyed}{base n hint:Nat}{el:Nat->Keyed}(R:Row Ok arr base n el)(ok:Ok key)(hk:kindOf st=kd)(hh:hint<n)(mono:∀i j,i<=j->j<n->Ft blt left key (el j)=true->Ft blt left key (el i)=true){Q:Option Nat->Bn->Prop}(h:∀k,k<=n->(∀i,i<k->Ft blt left key (el i)=true)->(∀i,k<=i->i<n->Ft blt left key (el i)=false)->Q (some k) st):wpS (model prog w) A E s (Ra left key arr base n hint) Q st:=by
 have anti:∀i j,i<=j->j<n->Ft blt left key (el i)=false->Ft blt left key (el j)=false:=λi j hij hj q=>by
  cases z:Ft blt left key (el j) with
  | false=>rfl
  | true=>rw[mono i j hij hj z] at q; cases q
 rw[kC]
 refine Bc (Qr C R ok hk hh ?_)
 dsimp only
 cases hb:Ft blt left key (el hint) with
 | true =>
  rw[if_pos rfl]
  refine Bc (Ge (Dy (I:=λx c st'=>∃la o,c=(none,la,o)/\st'=st/\la<o/\x+1<=o/\hint+la<n/\Ft blt left key (el (hint+la))=true)
   (Q:=λc st'=>∃la o,c=(none,la,o)/\st'=st/\la<o/\hint+la<n/\Ft blt left key (el (hint+la))=true/\(o ≥ n - hint\/(hint+o<n/\Ft blt left key (el (hint+o))=false))) ?_ ?_
   ⟨0,1,rfl,rfl,by omega,by omega,by omega,hb⟩) ?_)
  ·(intro x c st' _ hx q_; obtain ⟨la,o,rfl,rfl,a1,a2,a3,b1⟩ := q_)
   dsimp only
   by_cases ho:o ≥ n - hint
   ·rw[if_pos ho]
    exact Bf ⟨la,o,rfl,rfl,a1,a3,b1,.inl ho⟩
   ·rw[if_neg ho]
    have hm:hint+o<n:=by omega
    refine Bc (Qr C R ok hk hm ?_)
    dsimp only
    cases hb2:Ft blt left key (el (hint+o)) with
    | true =>
     simp only[Bool.not_true,Bq,if_false]
     exact Bf ⟨o,2 * o+1,rfl,rfl,by omega,by omega,hm,hb2⟩
    | false =>
     simp only[Bool.not_false,if_true]
     exact Bf ⟨la,o,rfl,rfl,a1,a3,b1,.inr ⟨hm,hb2⟩⟩
  ·(intro c st' q_; obtain ⟨la,o,rfl,rfl,a1,a2,a3,b1⟩ := q_)
   have : max 0 n=n:=by omega
   rw[this] at a2
   exact ⟨la,o,rfl,rfl,a1,a3,b1,.inl (by omega)⟩
  ·(intro c st' q_; obtain ⟨la,o,rfl,rfl,a1,a3,b1,b2⟩ := q_)
   dsimp only
   refine lH C R ok hk mono (by omega) (by omega) (λi hi=>mono i _ (by omega) a3 b1) (λi hi hn=>?_) h
   rcases b2 with b2 | ⟨b2,b3⟩
   ·exfalso; omega
   ·exact anti _ i (by omega) hn b3
 | false =>
  rw[if_neg Bm]
  refine Bc (Ge (Dy (I:=λx c st'=>∃la o,c=(none,la,o)/\st'=st/\la<o/\x+1<=o/\la<=hint/\Ft blt left key (el (hint - la))=false)
   (Q:=λc st'=>∃la o,c=(none,la,o)/\st'=st/\la<o/\la<=hint/\Ft blt left key (el (hint - la))=false/\(o ≥ hint+1\/(o<=hint/\Ft blt left key (el (hint - o))=true))) ?_ ?_
   ⟨0,1,rfl,rfl,by omega,by omega,by omega,hb⟩) ?_)
  ·(intro x c st' _ hx q_; obtain ⟨la,o,rfl,rfl,a1,a2,a3,b1⟩ := q_)
   dsimp only
   by_cases ho:o ≥ hint+1
   ·rw[if_pos ho]
    exact Bf ⟨la,o,rfl,rfl,a1,a3,b1,.inl ho⟩
   ·rw[if_neg ho]
    have hm:hint - o<n:=by omega
    refine Bc (Qr C R ok hk hm ?_)
    dsimp only
    cases hb2:Ft blt left key (el (hint - o)) with
    | true =>
     rw[if_pos rfl]
     exact Bf ⟨la,o,rfl,rfl,a1,a3,b1,.inr ⟨by omega,hb2⟩⟩
    | false =>
     rw[if_neg Bm]
     exact Bf ⟨o,2 * o+1,rfl,rfl,by omega,by omega,by omega,hb2⟩
  ·(intro c st' q_; obtain ⟨la,o,rfl,rfl,a1,a2,a3,b1⟩ := q_)
   have : max 0 n=n:=by omega
   rw[this] at a2
   exact ⟨la,o,rfl,rfl,a1,a3,b1,.inl (by omega)⟩
  ·(intro c st' q_; obtain ⟨la,o,rfl,rfl,a1,a3,b1,b2⟩ := q_)
   dsimp only
   refine lH C R ok hk mono (by omega) (by omega) (λi hi=>?_) (λi hi hn=>anti _ i hi hn b1) h
   rcases b2 with b2 | ⟨b2,b3⟩
   ·exfalso; omega
   ·exact mono i _ (by omega) (by omega) b3
end
structure MI{α:Type}(R:α->α->Prop)(xs ys out:List α)(i j:Nat):Prop where
 perm:out.Perm (xs.take i++ys.take j)
 srt:out.Pairwise R
 lx:∀o∈out,∀z∈xs.drop i,R o z
 ly:∀o∈out,∀z∈ys.drop j,R o z
section
variable{α:Type}{R:α->α->Prop}{xs ys out:List α}{i j:Nat}
theorem aU{l:List α}{n:Nat}{a:α}(h:l[n]? = some a):l.drop n=a::l.drop (n+1):=by
 obtain ⟨hn,e⟩:=Al.mp h
 rw[List.drop_eq_getElem_cons hn,e]
theorem take_snoc{l:List α}{n:Nat}{a:α}(h:l[n]? = some a):l.take (n+1)=l.take n++[a]:=by
 rw[List.take_succ,h]; rfl
theorem MI.pushY(M:MI R xs ys out i j)(sy:ys.Pairwise R){y:α}(hy:ys[j]? = some y)(hx:∀z∈xs.drop i,R y z):MI R xs ys (out++[y]) i (j+1):=by
 have dy:=aU hy
 have sd:(y::ys.drop (j+1)).Pairwise R:=by rw[<- dy]; exact He (Ir _ _) sy
 obtain ⟨s1,s2⟩:=Bd.mp sd
 refine ⟨?_,?_,λo ho z hz=>?_,λo ho z hz=>?_⟩
 ·rw[take_snoc hy,<- Cj]
  exact M.perm.append_right _
 ·refine Dh.mpr ⟨M.srt,Kh _ _,λo ho z hz=>?_⟩
  have e:z=y:=by simpa using hz
  rw[e]
  exact M.ly o ho y (by rw[dy]; exact Ab)
 ·rcases Bi.mp ho with ho | ho
  ·exact M.lx o ho z hz
  ·have e:o=y:=by simpa using ho
   rw[e]; exact hx z hz
 ·rcases Bi.mp ho with ho | ho
  ·exact M.ly o ho z (by rw[dy]; exact Af _ hz)
  ·have e:o=y:=by simpa using ho
   rw[e]; exact s1 z hz
theorem MI.pushX(M:MI R xs ys out i j)(sx:xs.Pairwise R){x:α}(hx:xs[i]? = some x)(hy:∀z∈ys.drop j,R x z):MI R xs ys (out++[x]) (i+1) j:=by
 have dx:=aU hx
 have sd:(x::xs.drop (i+1)).Pairwise R:=by rw[<- dx]; exact He (Ir _ _) sx
 obtain ⟨s1,s2⟩:=Bd.mp sd
 refine ⟨?_,?_,λo ho z hz=>?_,λo ho z hz=>?_⟩
 ·rw[take_snoc hx]
  have p1:(out++[x]).Perm ((xs.take i++ys.take j)++[x]):=M.perm.append_right _
  refine p1.trans ?_
  rw[Cj,Cj]
  exact Kj _ Ij
 ·refine Dh.mpr ⟨M.srt,Kh _ _,λo ho z hz=>?_⟩
  have e:z=x:=by simpa using hz
  rw[e]
  exact M.lx o ho x (by rw[dx]; exact Ab)
 ·rcases Bi.mp ho with ho | ho
  ·exact M.lx o ho z (by rw[dx]; exact Af _ hz)
  ·have e:o=x:=by simpa using ho
   rw[e]; exact s1 z hz
 ·rcases Bi.mp ho with ho | ho
  ·exact M.ly o ho z hz
  ·have e:o=x:=by simpa using ho
   rw[e]; exact hy z hz
theorem Qe{l:List α}{n k:Nat}{a:α}(h:l[n+k]? = some a):(l.drop n).take (k+1)=(l.drop n).take k++[a]:=take_snoc (by rw[Vc]; exact h)
theorem MI.blockX(M:MI R xs ys out i j)(sx:xs.Pairwise R):∀k,i+k<=xs.length->(∀m,m<k->∀x,xs[i+m]? = some x->∀z∈ys.drop j,R x z)->MI R xs ys (out++(xs.drop i).take k) (i+k) j
 | 0,_,_=>by simpa using M
 | k+1,hk,h=>by
  have ih:=MI.blockX M sx k (by omega) λm hm=>h m (by omega)
  obtain ⟨x,hx⟩ : ∃x,xs[i+k]? = some x:=⟨xs[i+k],by simp⟩
  rw[Qe hx,<- Cj]
  exact ih.pushX sx hx (h k (by omega) x hx)
theorem MI.blockY(M:MI R xs ys out i j)(sy:ys.Pairwise R):∀k,j+k<=ys.length->(∀m,m<k->∀y,ys[j+m]? = some y->∀z∈xs.drop i,R y z)->MI R xs ys (out++(ys.drop j).take k) i (j+k)
 | 0,_,_=>by simpa using M
 | k+1,hk,h=>by
  have ih:=MI.blockY M sy k (by omega) λm hm=>h m (by omega)
  obtain ⟨y,hy⟩ : ∃y,ys[j+k]? = some y:=⟨ys[j+k],by simp⟩
  rw[Qe hy,<- Cj]
  exact ih.pushY sy hy (h k (by omega) y hy)
theorem MI.endX(M:MI R xs ys out i j)(sx:xs.Pairwise R)(hj:ys.length<=j):(out++xs.drop i++ys.drop j).Perm (xs++ys)/\(out++xs.drop i++ys.drop j).Pairwise R:=by
 rw[List.drop_eq_nil_of_le hj,Ea]
 constructor
 ·have p1:(out++xs.drop i).Perm ((xs.take i++ys.take j)++xs.drop i):=M.perm.append_right _
  refine p1.trans ?_
  rw[Ed hj]
  have p2:(xs.take i++ys++xs.drop i).Perm (xs.take i++(xs.drop i++ys)):=by
   rw[Cj]
   exact Kj _ Ij
  refine p2.trans ?_
  rw[<- Cj,Ii]
 ·exact Dh.mpr ⟨M.srt,He (Ir _ _) sx,M.lx⟩
theorem MI.endYX(M:MI R xs ys out i j)(sx:xs.Pairwise R)(sy:ys.Pairwise R)(h:∀y∈ys.drop j,∀x∈xs.drop i,R y x):(out++ys.drop j++xs.drop i).Perm (xs++ys)/\(out++ys.drop j++xs.drop i).Pairwise R:=by
 constructor
 ·have p1:(out++(ys.drop j++xs.drop i)).Perm ((xs.take i++ys.take j)++(ys.drop j++xs.drop i)):=M.perm.append_right _
  rw[Cj]
  refine p1.trans ?_
  rw[Cj,<- Cj (ys.take j),Ii]
  have p2:(xs.take i++(ys++xs.drop i)).Perm (xs.take i++(xs.drop i++ys)):=Kj _ Ij
  refine p2.trans ?_
  rw[<- Cj,Ii]
 ·refine Dh.mpr ⟨Dh.mpr ⟨M.srt,He (Ir _ _) sy,M.ly⟩,He (Ir _ _) sx,λa ha b hb=>?_⟩
  rcases Bi.mp ha with ha | ha
  ·exact M.lx a ha b hb
  ·exact h a ha b hb
end
def gX:Array Keyed->Array Keyed->StateT Bn Sem (Array Keyed):=sortPriv% PySem.Builtin.mergeLo
def Wl:Nat->StateT Bn Sem Unit:=sortPriv% PySem.Builtin.setMinGallop
abbrev K2(st:Bn)(g:Nat):Bn:=Tx (kindOf st) (arrOf st) (Be st) g (Jv st)
theorem kD(g:Nat):Wl g=modify λst=>K2 st g:=rfl
theorem We(p:Array Keyed)(i:Nat):(p.extract i p.size).toList=p.toList.drop i:=by
 rw[Lv,Jo,Ed]
 rw[List.length_drop,Ay]
 exact Ai _
theorem Ta(p:Array Keyed)(i k:Nat):(p.extract i (i+k)).toList=(p.toList.drop i).take k:=by
 rw[Lv,Jo,Nat.add_sub_cancel_left]
abbrev dn(p q out:Array Keyed)(i j:Nat):Array Keyed:=out++p.extract i p.size++q.extract j q.size
abbrev lst(p q out:Array Keyed)(i j:Nat):Array Keyed:=out++q.extract j q.size++p.extract i p.size
theorem vU(p q out:Array Keyed)(i j:Nat):(dn p q out i j).toList=out.toList++p.toList.drop i++q.toList.drop j:=by
 rw[Cw,Cw,We,We]
theorem qP(p q out:Array Keyed)(i j:Nat):(lst p q out i j).toList=out.toList++q.toList.drop j++p.toList.drop i:=by
 rw[Cw,Cw,We,We]
abbrev yU:=Option (Array Keyed)×Array Keyed×Nat×Nat×Nat×Nat×Nat
def zD(p q out:Array Keyed)(i j g ac k:Nat):StateT Bn Sem (ForInStep yU):=do
 let x <- elem' p i
 if (i+1+1 == p.size)=true then pure (Cp (some (lst p q (out.push x) (i+1) j),out.push x,i+1,j,g,ac,k))
 else if (decide (ac<7) && decide (k<7))=true then pure (Cp (none,out.push x,i+1,j,g,ac,k))
 else pure (Er (none,out.push x,i+1,j,g,ac,k))
def wD(p q out:Array Keyed)(i j g ac bc:Nat):StateT Bn Sem (ForInStep yU):=do
 let y <- elem' q j
 if (j+1 == q.size)=true then pure (Cp (some (dn p q (out.push y) i (j+1)),out.push y,i,j+1,g,ac,bc))
 else do
  let x <- elem' p i
  let some k <- Ra true x q (j+1) (q.size - (j+1)) 0 | pure (Cp (some (dn p q (out.push y) i (j+1)),out.push y,i,j+1,g,ac,bc))
  if k > 0 then
   if (j+1+k == q.size)=true then pure (Cp (some (dn p q (out.push y++q.extract (j+1) (j+1+k)) i (j+1+k)),out.push y++q.extract (j+1) (j+1+k),i,j+1+k,g,ac,k))
   else zD p q (out.push y++q.extract (j+1) (j+1+k)) i (j+1+k) g ac k
  else zD p q (out.push y) i (j+1) g ac k
def E8(p q out:Array Keyed)(i j g ac bc:Nat):StateT Bn Sem (ForInStep yU):=do
 Wl g
 let y <- elem' q j
 let some k <- Ra false y p i (p.size - i) 0 | pure (Cp (some (dn p q out i j),out,i,j,g,ac,bc))
 if k > 0 then
  if (i+k+1 == p.size)=true then pure (Cp (some (lst p q (out++p.extract i (i+k)) (i+k) j),out++p.extract i (i+k),i+k,j,g,k,bc))
  else if (i+k == p.size)=true then pure (Cp (some (dn p q (out++p.extract i (i+k)) (i+k) j),out++p.extract i (i+k),i+k,j,g,k,bc))
  else wD p q (out++p.extract i (i+k)) (i+k) j g k bc
 else wD p q out i j g k bc
section
variable{prog:Bo}{w:World}{A:Co}{s:Ag}{kd:Kn}{Ok:Keyed->Prop}{blt:Keyed->Keyed->Bool}{E:Value->Ag->Prop}
theorem Rg{st:Bn}{x:String}{Q:Unit->Bn->Prop}(h:Q () st):wpS (model prog w) A E s (liftM (rule x):StateT Bn Sem Unit) Q st:=wpS_lift (Kx ⟨rfl,h⟩)
theorem Re{st:Bn}{g:Nat}{Q:Unit->Bn->Prop}(h:∀st',Kept st st'->Q () st'):wpS (model prog w) A E s (Wl g) Q st:=by
 rw[kD]
 exact Ik (h _ ⟨rfl,rfl,rfl,rfl⟩)
structure Two(Ok:Keyed->Prop)(blt:Keyed->Keyed->Bool)(p q:Array Keyed)(x0 y0 xl:Keyed):Prop where
 op:∀x∈p.toList,Ok x
 oq:∀x∈q.toList,Ok x
 sp:p.toList.Pairwise (le blt)
 sq:q.toList.Pairwise (le blt)
 hx0:p[0]? = some x0
 hy0:q[0]? = some y0
 hxl:p[p.size - 1]? = some xl
 first:blt y0 x0=true
 last:∀y∈q.toList,blt y xl=true
abbrev kB(blt:Keyed->Keyed->Bool)(p q r:Array Keyed):Prop:=r.toList.Perm (p.toList++q.toList)/\r.toList.Pairwise (le blt)
theorem Dw{p:Array Keyed}{i:Nat}{x:Keyed}(h:p[i]? = some x):p.toList[i]? = some x:=by simpa using h
theorem Eu{p:Array Keyed}{i:Nat}(h:i<p.size):∃x,p[i]? = some x:=⟨p[i],by simp [h]⟩
theorem Ia{p:Array Keyed}{i:Nat}{x:Keyed}(h:p[i]? = some x):x∈p.toList:=Aq (Dw h)
theorem gF{α:Type}{l:List α}{i:Nat}{z:α}(h:z∈l.drop i):∃k,l[i+k]? = some z:=by
 obtain ⟨k,hk,e⟩:=Gu.mp h
 exact ⟨k,by rw[<- Vc,An hk,e]⟩
theorem Js(C:Cmp prog w A s kd Ok blt){l:List Keyed}(sl:l.Pairwise (le blt)){i j:Nat}{x y:Keyed}(hij:i<=j)(hx:l[i]? = some x)(hy:l[j]? = some y):le blt x y:=by
 by_cases e:i=j
 ·subst e
  rw[hx] at hy
  cases hy
  exact C.refl x
 ·obtain ⟨hi,ex⟩:=Al.mp hx
  obtain ⟨hj,ey⟩:=Al.mp hy
  have:=Df.mp sl i j hi hj (by omega)
  rw[ex,ey] at this
  exact this
theorem Mv(C:Cmp prog w A s kd Ok blt){l:List Keyed}(sl:l.Pairwise (le blt)){i:Nat}{x y:Keyed}(hx:l[i]? = some x)(h:le blt y x):∀z∈l.drop i,le blt y z:=λz hz=>by
 obtain ⟨k,hk⟩:=gF hz
 exact C.trans h (Js C sl (Jm i k) hx hk)
abbrev LI(blt:Keyed->Keyed->Bool)(p q out:Array Keyed)(i j:Nat):Prop:=MI (le blt) p.toList q.toList out.toList i j
theorem Ma(out:Array Keyed)(x:Keyed):(out.push x).toList=out.toList++[x]:=by simp
theorem Two.last_end(C:Cmp prog w A s kd Ok blt){p q out:Array Keyed}{x0 y0 xl:Keyed}(T:Two Ok blt p q x0 y0 xl){i j:Nat}(M:LI blt p q out i j)(hi:i+1=p.size):kB blt p q (lst p q out i j):=by
 have h:=M.endYX T.sp T.sq (λy hy x hx=>?_)
 ·rw[<- qP] at h
  exact h
 ·obtain ⟨k,hk⟩:=gF hx
  have : k=0:=by
   have:=(Al.mp hk).1
   rw[Ay] at this
   omega
  subst this
  have e:x=xl:=by
   have:=Dw T.hxl
   rw[show p.size - 1=i+0 by omega,hk] at this
   exact Bk this
  rw[e]
  exact C.ofLt (T.last y (List.mem_of_mem_drop hy))
theorem Two.done_end{p q out:Array Keyed}{x0 y0 xl:Keyed}(T:Two Ok blt p q x0 y0 xl){i j:Nat}(M:LI blt p q out i j)(hj:q.size<=j):kB blt p q (dn p q out i j):=by
 have h:=M.endX T.sp (by rw[Ay]; exact hj)
 rw[<- vU] at h
 exact h
def M8(blt:Keyed->Keyed->Bool)(p q:Array Keyed)(st:Bn)(n:Nat)(r:ForInStep yU)(st':Bn):Prop:=Kept st st'/\match r with
 | .done (some r,_)=>kB blt p q r
 | .done (none,out,i,j,_)=>LI blt p q out i j/\i+1<p.size/\j<q.size/\n<i+j
 | .yield (none,out,i,j,_)=>LI blt p q out i j/\i+1<p.size/\j<q.size/\n<i+j
 | .yield (some _,_)=>False
theorem kR(C:Cmp prog w A s kd Ok blt){p q out:Array Keyed}{x0 y0 xl:Keyed}(T:Two Ok blt p q x0 y0 xl){i j g ac k n:Nat}{st0 st:Bn}(kp:Kept st0 st)(M:LI blt p q out i j)(hi:i+1<p.size)(hj:j<q.size)(hn:n<=i+j){x:Keyed}(hx:p[i]? = some x)(hq:∀z∈q.toList.drop j,le blt x z):wpS (model prog w) A E s (zD p q out i j g ac k) (M8 blt p q st0 n) st:=by
 unfold zD
 refine Bc (Eo hx ?_)
 have M1:LI blt p q (out.push x) (i+1) j:=by
  have:=M.pushX T.sp (Dw hx) hq
  rw[<- Ma] at this
  exact this
 by_cases h1:i+1+1=p.size
 ·rw[if_pos (by rw[h1]; exact beq_self_eq_true _)]
  exact Bf ⟨kp,T.last_end C M1 h1⟩
 ·rw[if_neg (λz=>h1 (Ds z))]
  by_cases h2:(decide (ac<7) && decide (k<7))=true
  ·rw[if_pos h2]
   exact Bf ⟨kp,M1,by omega,hj,by omega⟩
  ·rw[if_neg h2]
   exact Bf ⟨kp,M1,by omega,hj,by omega⟩
theorem mF(C:Cmp prog w A s kd Ok blt){p q out:Array Keyed}{x0 y0 xl:Keyed}(T:Two Ok blt p q x0 y0 xl){i j g ac bc n:Nat}{st0 st:Bn}(kp:Kept st0 st)(hk:kindOf st=kd)(M:LI blt p q out i j)(hi:i+1<p.size)(hj:j<q.size)(hn:n<=i+j){x y:Keyed}(hx:p[i]? = some x)(hy:q[j]? = some y)(hyx:blt y x=true):wpS (model prog w) A E s (wD p q out i j g ac bc) (M8 blt p q st0 n) st:=by
 unfold wD
 refine Bc (Eo hy ?_)
 have M1:LI blt p q (out.push y) i (j+1):=by
  have:=M.pushY T.sq (Dw hy) (Mv C T.sp (Dw hx) (C.ofLt hyx))
  rw[<- Ma] at this
  exact this
 by_cases h1:j+1=q.size
 ·rw[if_pos (by rw[h1]; exact beq_self_eq_true _)]
  exact Bf ⟨kp,T.done_end M1 (by omega)⟩
 ·rw[if_neg (λz=>h1 (Ds z))]
  refine Bc (Eo hx ?_)
  have R:Row Ok q (j+1) (q.size - (j+1)) (λm=>q.getD (j+1+m) y):=⟨λm hm=>?_,λm hm=>?_⟩
  ·refine Bc (Mb C R (T.op x (Ia hx)) hk (by omega) (λa b hab hb q1=>?_) λk hk1 t1 t2=>?_)
   ·obtain ⟨ya,ea⟩:=Eu (p:=q) (i:=j+1+a) (by omega)
    obtain ⟨yb,eb⟩:=Eu (p:=q) (i:=j+1+b) (by omega)
    have ga:q.getD (j+1+a) y=ya:=by simp [Dk,ea]
    have gb:q.getD (j+1+b) y=yb:=by simp [Dk,eb]
    simp only[ga,gb,Ft,if_true] at q1 ⊢
    exact C.leLt (Js C T.sq (by omega) (Dw ea) (Dw eb)) q1
   ·dsimp only
    have val:∀m yy,q[j+1+m]? = some yy->q.getD (j+1+m) y=yy:=λm yy e=>by simp [Dk,e]
    have M2:LI blt p q (out.push y++q.extract (j+1) (j+1+k)) i (j+1+k):=by
     have:=M1.blockY T.sq k (by rw[Ay]; omega) (λm hm yy ey=>by
      have ey':q[j+1+m]? = some yy:=by simpa using ey
      have:=t1 m hm
      rw[val m yy ey'] at this
      simp only[Ft,if_true] at this
      exact Mv C T.sp (Dw hx) (C.ofLt this))
     rw[<- Ta,<- Cw] at this
     exact this
    by_cases h2:k > 0
    ·rw[if_pos h2]
     by_cases h3:j+1+k=q.size
     ·rw[if_pos (by rw[h3]; exact beq_self_eq_true _)]
      exact Bf ⟨kp,T.done_end M2 (by omega)⟩
     ·rw[if_neg (λz=>h3 (Ds z))]
      obtain ⟨yk,ek⟩:=Eu (p:=q) (i:=j+1+k) (by omega)
      refine kR C T kp M2 hi (by omega) (by omega) hx (Mv C T.sq (Dw ek) ?_)
      have:=t2 k (Ai _) (by omega)
      rw[val k yk ek] at this
      have z:blt yk x=false:=by simpa only [Ft,if_true] using this
      exact z
    ·rw[if_neg h2]
     have hk0:k=0:=by omega
     subst hk0
     obtain ⟨yk,ek⟩:=Eu (p:=q) (i:=j+1) (by omega)
     refine kR C T kp M1 hi (by omega) (by omega) hx (Mv C T.sq (Dw ek) ?_)
     have:=t2 0 (Ai _) (by omega)
     rw[val 0 yk ek] at this
     have z:blt yk x=false:=by simpa only [Ft,if_true] using this
     exact z
  ·obtain ⟨ya,ea⟩:=Eu (p:=q) (i:=j+1+m) (by omega)
   rw[ea]
   simp [Dk,ea]
  ·obtain ⟨ya,ea⟩:=Eu (p:=q) (i:=j+1+m) (by omega)
   have : q.getD (j+1+m) y=ya:=by simp [Dk,ea]
   rw[this]
   exact T.oq ya (Ia ea)
theorem xH(C:Cmp prog w A s kd Ok blt){p q out:Array Keyed}{x0 y0 xl:Keyed}(T:Two Ok blt p q x0 y0 xl){i j g ac bc n:Nat}{st0 st:Bn}(kp:Kept st0 st)(hk:kindOf st=kd)(M:LI blt p q out i j)(hi:i+1<p.size)(hj:j<q.size)(hn:n<=i+j):wpS (model prog w) A E s (E8 p q out i j g ac bc) (M8 blt p q st0 n) st:=by
 unfold E8
 refine Bc (Re λst1 kp1=>?_)
 have kp':=kp.trans kp1
 have hk':kindOf st1=kd:=kp1.kind.trans hk
 obtain ⟨y,hy⟩:=Eu (p:=q) hj
 refine Bc (Eo hy ?_)
 have val:∀m xx,p[i+m]? = some xx->p.getD (i+m) y=xx:=λm xx e=>by simp [Dk,e]
 have R:Row Ok p i (p.size - i) (λm=>p.getD (i+m) y):=⟨λm hm=>by
  obtain ⟨xa,ea⟩:=Eu (p:=p) (i:=i+m) (by omega)
  rw[val m xa ea,ea],λm hm=>by
  obtain ⟨xa,ea⟩:=Eu (p:=p) (i:=i+m) (by omega)
  show Ok (p.getD (i+m) y)
  rw[val m xa ea]
  exact T.op xa (Ia ea)⟩
 refine Bc (Mb C R (T.oq y (Ia hy)) hk' (by omega) (λa b hab hb q1=>?_) λk hk1 t1 t2=>?_)
 ·obtain ⟨xa,ea⟩:=Eu (p:=p) (i:=i+a) (by omega)
  obtain ⟨xb,eb⟩:=Eu (p:=p) (i:=i+b) (by omega)
  simp only[val a xa ea,val b xb eb,Ft,Bq,if_false,Iu] at q1 ⊢
  exact C.trans (Js C T.sp (by omega) (Dw ea) (Dw eb)) q1
 ·dsimp only
  -- the last one is beyond y: so k does not reach it
  have hkl:i+k+1<=p.size:=by
   rcases Nat.lt_or_ge (i+k) p.size with z | z
   ·omega
   ·exfalso
    have:=t1 (p.size - 1 - i) (by omega)
    have e:p[i+(p.size - 1 - i)]? = some xl:=by
     rw[show i+(p.size - 1 - i)=p.size - 1 by omega]
     exact T.hxl
    rw[val _ xl e] at this
    simp only[Ft,Bq,if_false,T.last y (Ia hy),Bool.not_true] at this
  have M1:LI blt p q (out++p.extract i (i+k)) (i+k) j:=by
   have:=M.blockX T.sp k (by rw[Ay]; omega) (λm hm xx ex=>by
    have ex':p[i+m]? = some xx:=by simpa using ex
    have:=t1 m hm
    rw[val m xx ex'] at this
    simp only[Ft,Bq,if_false,Iu] at this
    exact Mv C T.sq (Dw hy) this)
   rw[<- Ta,<- Cw] at this
   exact this
  obtain ⟨xk,ek⟩:=Eu (p:=p) (i:=i+k) (by omega)
  have hyx:blt y xk=true:=by
   have:=t2 k (Ai _) (by omega)
   rw[val k xk ek] at this
   simpa only [Ft,Bq,if_false,Vd] using this
  by_cases h2:k > 0
  ·rw[if_pos h2]
   by_cases h3:i+k+1=p.size
   ·rw[if_pos (by rw[h3]; exact beq_self_eq_true _)]
    exact Bf ⟨kp',T.last_end C M1 h3⟩
   ·rw[if_neg (λz=>h3 (Ds z)),if_neg (λz=>by have:=Ds z; omega)]
    exact mF C T kp' hk' M1 (by omega) hj (by omega) ek hy hyx
  ·rw[if_neg h2]
   have hk0:k=0:=by omega
   subst hk0
   exact mF C T kp' hk' M hi hj hn ek hy hyx
theorem jI(C:Cmp prog w A s kd Ok blt){p q:Array Keyed}{x0 y0 xl:Keyed}(T:Two Ok blt p q x0 y0 xl){st:Bn}(hk:kindOf st=kd){Q:Array Keyed->Bn->Prop}(h:∀r st',Kept st st'->kB blt p q r->Q r st'):wpS (model prog w) A E s (gX p q) Q st:=by
 have p0:0<p.size:=by
  have:=(Gf.mp T.hx0).1
  exact this
 have q0:0<q.size:=by
  have:=(Gf.mp T.hy0).1
  exact this
 have M0:LI blt p q #[y0] 0 1:=by
  have m:LI blt p q #[] 0 0:=⟨by simp,by simp,λo ho=>by simp at ho,λo ho=>by simp at ho⟩
  have:=m.pushY T.sq (Dw T.hy0) (Mv C T.sp (Dw T.hx0) (C.ofLt T.first))
  simpa using this
 unfold gX
 refine Bc (Rg ?_)
 refine Bc (Eo T.hy0 ?_)
 dsimp only
 by_cases h1:1=q.size
 ·rw[if_pos (by rw[<- h1]; rfl)]
  exact Bf (h _ _ (Kept.refl _) (T.done_end M0 (by omega)))
 rw[if_neg (λz=>h1 (Ds z))]
 by_cases h2:0+1=p.size
 ·rw[if_pos (by rw[<- h2]; rfl)]
  exact Bf (h _ _ (Kept.refl _) (T.last_end C M0 (by omega)))
 rw[if_neg (λz=>h2 (Ds z))]
 refine Bc (Ls ?_)
 refine Bc (Ge (Dy
  (I:=λx c st'=>Kept st st'/\∃out i j g,c=(none,out,i,j,g)/\LI blt p q out i j/\i+1<p.size/\j<q.size/\x+1<=i+j)
  (Q:=λc st'=>Kept st st'/\∃r Fv,c=(some r,Fv)/\kB blt p q r) ?_ ?_ ⟨Kept.refl _,_,0,1,_,rfl,M0,by omega,by omega,by omega⟩) ?_)
 ·(intro x c st1 _ hx q_; obtain ⟨kp1,out,i,j,g,rfl,M,hi,hj,hn⟩ := q_)
  dsimp only
  -- one by one
  refine Bc (Ge (Dy
   (I:=λ_ c st'=>st'=st1/\∃out i j ac bc,c=(none,out,i,j,ac,bc)/\LI blt p q out i j/\i+1<p.size/\j<q.size/\x+1<=i+j)
   (Q:=λc st'=>st'=st1/\((∃r Fv,c=(some r,Fv)/\kB blt p q r)\/∃out i j ac bc,c=(none,out,i,j,ac,bc)/\LI blt p q out i j/\i+1<p.size/\j<q.size/\x+1<=i+j)) ?_ ?_ ⟨rfl,out,i,j,0,0,rfl,M,hi,hj,hn⟩) ?_)
  ·(intro z c st2 _ hz q_; obtain ⟨rfl,out,i,j,ac,bc,rfl,M,hi,hj,hn⟩ := q_)
   dsimp only
   obtain ⟨yy,hy⟩:=Eu (p:=q) hj
   obtain ⟨xx,hx⟩:=Eu (p:=p) (i:=i) (by omega)
   refine Bc (Eo hy ?_)
   refine Bc (Eo hx ?_)
   refine Bc (fR C (kp1.kind.trans hk) (T.oq yy (Ia hy)) (T.op xx (Ia hx)) ?_)
   dsimp only
   cases hb:blt yy xx with
   | true =>
    rw[if_pos rfl]
    refine Bc (Eo hy ?_)
    have M1:LI blt p q (out.push yy) i (j+1):=by
     have:=M.pushY T.sq (Dw hy) (Mv C T.sp (Dw hx) (C.ofLt hb))
     rw[<- Ma] at this
     exact this
    by_cases e1:j+1=q.size
    ·rw[if_pos (by rw[e1]; exact beq_self_eq_true _)]
     exact Bf ⟨rfl,.inl ⟨_,_,rfl,T.done_end M1 (by omega)⟩⟩
    ·rw[if_neg (λz=>e1 (Ds z))]
     split
     ·exact Bf ⟨rfl,.inr ⟨_,_,_,_,_,rfl,M1,hi,by omega,by omega⟩⟩
     ·exact Bf ⟨rfl,_,_,_,_,_,rfl,M1,hi,by omega,by omega⟩
   | false =>
    rw[if_neg Bm]
    refine Bc (Eo hx ?_)
    have M1:LI blt p q (out.push xx) (i+1) j:=by
     have:=M.pushX T.sp (Dw hx) (Mv C T.sq (Dw hy) hb)
     rw[<- Ma] at this
     exact this
    by_cases e1:i+1+1=p.size
    ·rw[if_pos (by rw[e1]; exact beq_self_eq_true _)]
     exact Bf ⟨rfl,.inl ⟨_,_,rfl,T.last_end C M1 (by omega)⟩⟩
    ·rw[if_neg (λz=>e1 (Ds z))]
     split
     ·exact Bf ⟨rfl,.inr ⟨_,_,_,_,_,rfl,M1,by omega,hj,by omega⟩⟩
     ·exact Bf ⟨rfl,_,_,_,_,_,rfl,M1,by omega,hj,by omega⟩
  ·(intro c st2 q_; obtain ⟨rfl,out,i,j,ac,bc,rfl,M⟩ := q_)
   exact ⟨rfl,.inr ⟨out,i,j,ac,bc,rfl,M⟩⟩
  ·rintro c st2 ⟨rfl,hc⟩
   rcases hc with hc | hc
   ·obtain ⟨r,Fv,rfl,hr⟩:=hc
    exact Bf ⟨kp1,r,_,rfl,hr⟩
   ·obtain ⟨out,i,j,ac,bc,rfl,M,hi,hj,hn⟩:=hc
    dsimp only
    refine Bc (Rg ?_)
    -- the gallop
    refine Bc (Ge (Dy
     (I:=λy c st'=>Kept st st'/\∃out i j g ac bc,c=(none,out,i,j,g,ac,bc)/\LI blt p q out i j/\i+1<p.size/\j<q.size/\(if y=0 then x+1<=i+j else x+2<=i+j))
     (Q:=λc st'=>Kept st st'/\((∃r Fv,c=(some r,Fv)/\kB blt p q r)\/∃out i j g ac bc,c=(none,out,i,j,g,ac,bc)/\LI blt p q out i j/\i+1<p.size/\j<q.size/\x+2<=i+j)) ?_ ?_
     ⟨kp1,out,i,j,_,ac,bc,rfl,M,hi,hj,by rw[if_pos rfl]; exact hn⟩) ?_)
    ·(intro y c st3 _ hy q_; obtain ⟨kp3,out,i,j,g,ac,bc,rfl,M,hi,hj,hn⟩ := q_)
     have hn':x+1<=i+j:=by split at hn <;> omega
     have key:∀g',wpS (model prog w) A E s (E8 p q out i j g' ac bc) (M8 blt p q st (x+1)) st3:=λg'=>xH C T kp3 (kp3.kind.trans hk) M hi hj hn'
     dsimp only
     refine Ge (?_:wpS (model prog w) A E s _ (M8 blt p q st (x+1)) st3) λr st4 hr=>?_
     ·by_cases hg:g > 1
      ·rw[if_pos hg]
       exact key _
      ·rw[if_neg hg]
       exact key _
     ·obtain ⟨kp4,hr⟩:=hr
      match r,hr with
      | .done (some r,Fv),hr=>exact ⟨kp4,.inl ⟨r,Fv,rfl,hr⟩⟩
      | .done (none,out,i,j,g,ac,bc),hr=>exact ⟨kp4,.inr ⟨out,i,j,g,ac,bc,rfl,hr.1,hr.2.1,hr.2.2.1,by have:=hr.2.2.2; omega⟩⟩
      | .yield (none,out,i,j,g,ac,bc),hr=>exact ⟨kp4,out,i,j,g,ac,bc,rfl,hr.1,hr.2.1,hr.2.2.1,by rw[if_neg (by omega)]; have:=hr.2.2.2; omega⟩
    ·(intro c st3 q_; obtain ⟨kp3,out,i,j,g,ac,bc,rfl,M,hi,hj,hn⟩ := q_)
     rw[if_neg (by omega)] at hn
     exact ⟨kp3,.inr ⟨out,i,j,g,ac,bc,rfl,M,hi,hj,hn⟩⟩
    ·rintro c st3 ⟨kp3,hc⟩
     rcases hc with hc | hc
     ·obtain ⟨r,Fv,rfl,hr⟩:=hc
      exact Bf ⟨kp3,r,_,rfl,hr⟩
     ·obtain ⟨out,i,j,g,ac,bc,rfl,M,hi,hj,hn⟩:=hc
      dsimp only
      refine Bc (Re λst4 kp4=>?_)
      exact Bf ⟨kp3.trans kp4,out,i,j,_,rfl,M,hi,hj,by omega⟩
 ·(intro c st1 q_; obtain ⟨kp1,out,i,j,g,rfl,M,hi,hj,hn⟩ := q_)
  exfalso
  have : max 0 (p.size+q.size)=p.size+q.size:=by omega
  rw[this] at hn
  omega
 ·(intro c st1 q_; obtain ⟨kp1,r,Fv,rfl,hr⟩ := q_)
  exact Bf (h r st1 kp1 hr)
end
def fH:Array Keyed->Array Keyed->StateT Bn Sem (Array Keyed):=sortPriv% PySem.Builtin.mergeHi
abbrev B8(p q out:Array Keyed)(m n:Nat):Array Keyed:=p.extract 0 m++q.extract 0 n++out.reverse
abbrev U9(p q out:Array Keyed)(m n:Nat):Array Keyed:=q.extract 0 n++p.extract 0 m++out.reverse
abbrev zG:=Option (Array Keyed)×Nat×Nat×Array Keyed×Nat×Nat×Nat
def wN(p q out:Array Keyed)(m n g ac k:Nat):StateT Bn Sem (ForInStep zG):=do
 let x <- elem' p (m - 1)
 if (m - 1 == 0)=true then pure (Cp (some (B8 p q (out.push x) (m - 1) n),m - 1,n,out.push x,g,ac,k))
 else if (decide (ac<7) && decide (k<7))=true then pure (Cp (none,m - 1,n,out.push x,g,ac,k))
 else pure (Er (none,m - 1,n,out.push x,g,ac,k))
def yK(p q out:Array Keyed)(m n g ac bc:Nat):StateT Bn Sem (ForInStep zG):=do
 let y <- elem' q (n - 1)
 if (n - 1 == 1)=true then pure (Cp (some (U9 p q (out.push y) m (n - 1)),m,n - 1,out.push y,g,ac,bc))
 else do
  let x <- elem' p (m - 1)
  let some t <- Ra true x q 0 (n - 1) (n - 1 - 1) | pure (Cp (some (B8 p q (out.push y) m (n - 1)),m,n - 1,out.push y,g,ac,bc))
  if n - 1 - t > 0 then
   if (t == 1)=true then pure (Cp (some (U9 p q (out.push y++(q.extract t (n - 1)).reverse) m t),m,t,out.push y++(q.extract t (n - 1)).reverse,g,ac,n - 1 - t))
   else if (t == 0)=true then pure (Cp (some (B8 p q (out.push y++(q.extract t (n - 1)).reverse) m t),m,t,out.push y++(q.extract t (n - 1)).reverse,g,ac,n - 1 - t))
   else wN p q (out.push y++(q.extract t (n - 1)).reverse) m t g ac (n - 1 - t)
  else wN p q (out.push y) m (n - 1) g ac (n - 1 - t)
def B9(p q out:Array Keyed)(m n g ac bc:Nat):StateT Bn Sem (ForInStep zG):=do
 Wl g
 let y <- elem' q (n - 1)
 let some t <- Ra false y p 0 m (m - 1) | pure (Cp (some (B8 p q out m n),m,n,out,g,ac,bc))
 if m - t > 0 then
  if (t == 0)=true then pure (Cp (some (B8 p q (out++(p.extract t m).reverse) t n),t,n,out++(p.extract t m).reverse,g,m - t,bc))
  else yK p q (out++(p.extract t m).reverse) t n g (m - t) bc
 else yK p q out m n g (m - t) bc
section
variable{α:Type}{R:α->α->Prop}{xs ys out:List α}{i j:Nat}
theorem MI.swap(M:MI R xs ys out i j):MI R ys xs out j i:=⟨M.perm.trans Ij,M.srt,M.ly,M.lx⟩
theorem MI.endXY(M:MI R xs ys out i j)(sx:xs.Pairwise R)(sy:ys.Pairwise R)(h:∀x∈xs.drop i,∀y∈ys.drop j,R x y):(out++xs.drop i++ys.drop j).Perm (xs++ys)/\(out++xs.drop i++ys.drop j).Pairwise R:=by
 have:=M.swap.endYX sy sx h
 exact ⟨this.1.trans Ij,this.2⟩
end
abbrev ge(blt:Keyed->Keyed->Bool)(x y:Keyed):Prop:=le blt y x
abbrev HI(blt:Keyed->Keyed->Bool)(p q out:Array Keyed)(m n:Nat):Prop:=MI (ge blt) p.toList.reverse q.toList.reverse out.toList (p.size - m) (q.size - n)
theorem Ib(p:Array Keyed){m:Nat}(h:m<=p.size):p.toList.reverse.drop (p.size - m)=(p.toList.take m).reverse:=by
 rw[List.drop_reverse,Ay]
 congr 2
 omega
theorem rF{p:Array Keyed}{m:Nat}{x:Keyed}(h0:0<m)(h:m<=p.size)(e:p[m - 1]? = some x):p.toList.reverse[p.size - m]? = some x:=by
 rw[Rm (by rw[Ay]; omega),Ay,show p.size - 1 - (p.size - m)=m - 1 by omega]
 exact Dw e
theorem yG(p:Array Keyed)(m:Nat):(p.extract 0 m).toList=p.toList.take m:=by
 rw[Lv,Jo,List.drop_zero,Nat.sub_zero]
theorem O8(p:Array Keyed){t m:Nat}(h1:t<=m)(h2:m<=p.size):(p.extract t m).reverse.toList=(p.toList.reverse.drop (p.size - m)).take (m - t):=by
 rw[Ib p h2,List.take_reverse,Rt,Lv,Jo,Cv,Ay,List.drop_take]
 congr 2
 ·omega
 ·congr 1
  omega
section
variable{prog:Bo}{w:World}{A:Co}{s:Ag}{kd:Kn}{Ok:Keyed->Prop}{blt:Keyed->Keyed->Bool}{E:Value->Ag->Prop}
theorem Hx{l:List Keyed}(h:l.Pairwise (le blt)):l.reverse.Pairwise (ge blt):=Lg.mpr h
theorem Two.dn_end{p q out:Array Keyed}{x0 y0 xl:Keyed}(T:Two Ok blt p q x0 y0 xl){m n:Nat}(M:HI blt p q out m n)(hm:m<=p.size)(hn:n<=q.size)(h:m=0\/n=0):kB blt p q (B8 p q out m n):=by
 have h1:=M.endYX (Hx T.sp) (Hx T.sq) (λy hy x hx=>by
  rw[Ib p hm] at hx
  rw[Ib q hn] at hy
  rcases h with h | h
  ·subst h; simp at hx
  ·subst h; simp at hy)
 rw[Ib p hm,Ib q hn] at h1
 have e:(B8 p q out m n).toList=(out.toList++(q.toList.take n).reverse++(p.toList.take m).reverse).reverse:=by
  rw[Cw,Cw,yG,yG,Rt]
  simp
 refine ⟨?_,?_⟩
 ·rw[e]
  refine (Gs _).trans (h1.1.trans ?_)
  exact List.Perm.append (Gs _) (Gs _)
 ·rw[e]
  exact Lg.mpr h1.2
theorem Two.fs_end(C:Cmp prog w A s kd Ok blt){p q out:Array Keyed}{x0 y0 xl:Keyed}(T:Two Ok blt p q x0 y0 xl){m n:Nat}(M:HI blt p q out m n)(hm:m<=p.size)(hn:n=1)(hq:1<=q.size):kB blt p q (U9 p q out m n):=by
 subst hn
 have h1:=M.endXY (Hx T.sp) (Hx T.sq) (λx hx y hy=>by
  rw[Ib p hm] at hx
  rw[Ib q hq] at hy
  have ey:y=y0:=by
   have : y∈q.toList.take 1:=Ln.mp hy
   obtain ⟨k,hk,e⟩:=Gu.mp this
   have hk0:k=0:=by
    rw[Cv] at hk
    omega
   subst hk0
   have e2:q.toList[0]? = some y:=by
    rw[<- e,<- An hk,Dj (by omega)]
   rw[Dw T.hy0] at e2
   exact (Bk e2).symm
  rw[ey]
  have hx':x∈p.toList:=List.mem_of_mem_take (Ln.mp hx)
  obtain ⟨k,hk,e⟩:=Gu.mp hx'
  have e2:p.toList[k]? = some x:=by rw[<- e,An hk]
  exact C.trans (C.ofLt T.first) (Js C T.sp (Ct k) (Dw T.hx0) e2))
 rw[Ib p hm,Ib q hq] at h1
 have e:(U9 p q out m 1).toList=(out.toList++(p.toList.take m).reverse++(q.toList.take 1).reverse).reverse:=by
  rw[Cw,Cw,yG,yG,Rt]
  simp
 refine ⟨?_,?_⟩
 ·rw[e]
  refine (Gs _).trans (h1.1.trans ?_)
  exact List.Perm.append (Gs _) (Gs _)
 ·rw[e]
  exact Lg.mpr h1.2
theorem Qv(C:Cmp prog w A s kd Ok blt){p:Array Keyed}(sp:p.toList.Pairwise (le blt)){m:Nat}{x y:Keyed}(h0:0<m)(hm:m<=p.size)(hx:p[m - 1]? = some x)(h:le blt x y):∀z∈p.toList.reverse.drop (p.size - m),ge blt y z:=λz hz=>by
 rw[Ib p hm] at hz
 obtain ⟨k,hk,e⟩:=Gu.mp (Ln.mp hz)
 have e2:p.toList[k]? = some z:=by
  rw[Cv] at hk
  rw[<- e,<- An (by rw[Cv]; exact hk),Dj (by omega)]
 rw[Cv] at hk
 exact C.trans (Js C sp (by omega) e2 (Dw hx)) h
theorem HI.pushX(C:Cmp prog w A s kd Ok blt){p q out:Array Keyed}{x0 y0 xl:Keyed}(T:Two Ok blt p q x0 y0 xl){m n:Nat}(M:HI blt p q out m n)(h0:0<m)(hm:m<=p.size){x:Keyed}(hx:p[m - 1]? = some x)(h:∀z∈q.toList.reverse.drop (q.size - n),ge blt x z):HI blt p q (out.push x) (m - 1) n:=by
 have:=MI.pushX M (Hx T.sp) (rF h0 hm hx) h
 rw[<- Ma,show p.size - m+1=p.size - (m - 1) by omega] at this
 exact this
theorem HI.pushY(C:Cmp prog w A s kd Ok blt){p q out:Array Keyed}{x0 y0 xl:Keyed}(T:Two Ok blt p q x0 y0 xl){m n:Nat}(M:HI blt p q out m n)(h0:0<n)(hn:n<=q.size){y:Keyed}(hy:q[n - 1]? = some y)(h:∀z∈p.toList.reverse.drop (p.size - m),ge blt y z):HI blt p q (out.push y) m (n - 1):=by
 have:=MI.pushY M (Hx T.sq) (rF h0 hn hy) h
 rw[<- Ma,show q.size - n+1=q.size - (n - 1) by omega] at this
 exact this
def R8(blt:Keyed->Keyed->Bool)(p q:Array Keyed)(st:Bn)(b:Nat)(r:ForInStep zG)(st':Bn):Prop:=Kept st st'/\match r with
 | .done (some r,_)=>kB blt p q r
 | .done (none,m,n,out,_)=>HI blt p q out m n/\0<m/\m<=p.size/\1<n/\n<=q.size/\m+n<b
 | .yield (none,m,n,out,_)=>HI blt p q out m n/\0<m/\m<=p.size/\1<n/\n<=q.size/\m+n<b
 | .yield (some _,_)=>False
theorem mB(C:Cmp prog w A s kd Ok blt){p q out:Array Keyed}{x0 y0 xl:Keyed}(T:Two Ok blt p q x0 y0 xl){m n g ac k b:Nat}{st0 st:Bn}(kp:Kept st0 st)(M:HI blt p q out m n)(m0:0<m)(hm:m<=p.size)(n0:1<n)(hn:n<=q.size)(hb:m+n<=b){x:Keyed}(hx:p[m - 1]? = some x)(hq:∀z∈q.toList.reverse.drop (q.size - n),ge blt x z):wpS (model prog w) A E s (wN p q out m n g ac k) (R8 blt p q st0 b) st:=by
 unfold wN
 refine Bc (Eo hx ?_)
 have M1:=HI.pushX C T M m0 hm hx hq
 by_cases h1:m - 1=0
 ·rw[if_pos (by rw[h1]; rfl)]
  exact Bf ⟨kp,T.dn_end M1 (by omega) hn (.inl h1)⟩
 ·rw[if_neg (λz=>h1 (Ds z))]
  by_cases h2:(decide (ac<7) && decide (k<7))=true
  ·rw[if_pos h2]
   exact Bf ⟨kp,M1,by omega,by omega,n0,hn,by omega⟩
  ·rw[if_neg h2]
   exact Bf ⟨kp,M1,by omega,by omega,n0,hn,by omega⟩
theorem lJ(C:Cmp prog w A s kd Ok blt){p q out:Array Keyed}{x0 y0 xl:Keyed}(T:Two Ok blt p q x0 y0 xl){m n g ac bc b:Nat}{st0 st:Bn}(kp:Kept st0 st)(hk:kindOf st=kd)(M:HI blt p q out m n)(m0:0<m)(hm:m<=p.size)(n0:1<n)(hn:n<=q.size)(hb:m+n<=b){x y:Keyed}(hx:p[m - 1]? = some x)(hy:q[n - 1]? = some y)(hxy:le blt x y):wpS (model prog w) A E s (yK p q out m n g ac bc) (R8 blt p q st0 b) st:=by
 unfold yK
 refine Bc (Eo hy ?_)
 have M1:=HI.pushY C T M (by omega) hn hy (Qv C T.sp m0 hm hx hxy)
 by_cases h1:n - 1=1
 ·rw[if_pos (by rw[h1]; rfl)]
  exact Bf ⟨kp,T.fs_end C M1 hm h1 (by omega)⟩
 rw[if_neg (λz=>h1 (Ds z))]
 refine Bc (Eo hx ?_)
 have val:∀i yy,q[i]? = some yy->q.getD (0+i) y=yy:=λi yy e=>by rw[Nc]; simp [Dk,e]
 have R:Row Ok q 0 (n - 1) (λi=>q.getD (0+i) y):=⟨λi hi=>by
  obtain ⟨ya,ea⟩:=Eu (p:=q) (i:=i) (by omega)
  rw[val i ya ea,Nc,ea],λi hi=>by
  obtain ⟨ya,ea⟩:=Eu (p:=q) (i:=i) (by omega)
  show Ok (q.getD (0+i) y)
  rw[val i ya ea]
  exact T.oq ya (Ia ea)⟩
 refine Bc (Mb C R (T.op x (Ia hx)) hk (by omega) (λa c hab hc q1=>?_) λt ht t1 t2=>?_)
 ·obtain ⟨ya,ea⟩:=Eu (p:=q) (i:=a) (by omega)
  obtain ⟨yc,ec⟩:=Eu (p:=q) (i:=c) (by omega)
  simp only[val a ya ea,val c yc ec,Ft,if_true] at q1 ⊢
  exact C.leLt (Js C T.sq hab (Dw ea) (Dw ec)) q1
 dsimp only
 have M2:HI blt p q (out.push y++(q.extract t (n - 1)).reverse) m t:=by
  have:=MI.blockY M1 (Hx T.sq) (n - 1 - t) (by rw[Hd,Ay]; omega) (λi hi yy ey=>by
   have e1:q[n - 1 - i - 1]? = some yy:=by
    rw[Rm (by rw[Ay]; omega),Ay,show q.size - 1 - (q.size - (n - 1)+i)=n - 1 - i - 1 by omega] at ey
    simpa using ey
   have:=t2 (n - 1 - i - 1) (by omega) (by omega)
   rw[val _ yy e1] at this
   have z:blt yy x=false:=by simpa only [Ft,if_true] using this
   exact Qv C T.sp m0 hm hx z)
  rw[<- O8 q (by omega) (by omega),<- Cw,show q.size - (n - 1)+(n - 1 - t)=q.size - t by omega] at this
  exact this
 -- what is left of q is below x
 have below:∀z∈q.toList.reverse.drop (q.size - t),ge blt x z:=λz hz=>by
  rw[Ib q (by omega)] at hz
  obtain ⟨k,hk',e⟩:=Gu.mp (Ln.mp hz)
  rw[Cv] at hk'
  have e2:q.toList[k]? = some z:=by
   rw[<- e,<- An (by rw[Cv]; exact hk'),Dj (by omega)]
  have e3:q[k]? = some z:=by simpa using e2
  have:=t1 k (by omega)
  rw[val k z e3] at this
  exact C.ofLt (by simpa only [Ft,if_true] using this)
 by_cases h2:n - 1 - t > 0
 ·rw[if_pos h2]
  by_cases h3:t=1
  ·rw[if_pos (by rw[h3]; rfl)]
   exact Bf ⟨kp,T.fs_end C M2 hm h3 (by omega)⟩
  ·rw[if_neg (λz=>h3 (Ds z))]
   by_cases h4:t=0
   ·rw[if_pos (by rw[h4]; rfl)]
    exact Bf ⟨kp,T.dn_end M2 hm (by omega) (.inr h4)⟩
   ·rw[if_neg (λz=>h4 (Ds z))]
    exact mB C T kp M2 m0 hm (by omega) (by omega) (by omega) hx below
 ·rw[if_neg h2]
  have et:t=n - 1:=by omega
  rw[et] at below
  exact mB C T kp M1 m0 hm (by omega) (by omega) (by omega) hx below
theorem yX(C:Cmp prog w A s kd Ok blt){p q out:Array Keyed}{x0 y0 xl:Keyed}(T:Two Ok blt p q x0 y0 xl){m n g ac bc b:Nat}{st0 st:Bn}(kp:Kept st0 st)(hk:kindOf st=kd)(M:HI blt p q out m n)(m0:0<m)(hm:m<=p.size)(n0:1<n)(hn:n<=q.size)(hb:m+n<=b):wpS (model prog w) A E s (B9 p q out m n g ac bc) (R8 blt p q st0 b) st:=by
 unfold B9
 refine Bc (Re λst1 kp1=>?_)
 have kp':=kp.trans kp1
 have hk':kindOf st1=kd:=kp1.kind.trans hk
 obtain ⟨y,hy⟩:=Eu (p:=q) (i:=n - 1) (by omega)
 refine Bc (Eo hy ?_)
 have val:∀i xx,p[i]? = some xx->p.getD (0+i) y=xx:=λi xx e=>by rw[Nc]; simp [Dk,e]
 have R:Row Ok p 0 m (λi=>p.getD (0+i) y):=⟨λi hi=>by
  obtain ⟨xa,ea⟩:=Eu (p:=p) (i:=i) (by omega)
  rw[val i xa ea,Nc,ea],λi hi=>by
  obtain ⟨xa,ea⟩:=Eu (p:=p) (i:=i) (by omega)
  show Ok (p.getD (0+i) y)
  rw[val i xa ea]
  exact T.op xa (Ia ea)⟩
 refine Bc (Mb C R (T.oq y (Ia hy)) hk' (by omega) (λa c hab hc q1=>?_) λt ht t1 t2=>?_)
 ·obtain ⟨xa,ea⟩:=Eu (p:=p) (i:=a) (by omega)
  obtain ⟨xc,ec⟩:=Eu (p:=p) (i:=c) (by omega)
  simp only[val a xa ea,val c xc ec,Ft,Bq,if_false,Iu] at q1 ⊢
  exact C.trans (Js C T.sp hab (Dw ea) (Dw ec)) q1
 dsimp only
 have M1:HI blt p q (out++(p.extract t m).reverse) t n:=by
  have:=MI.blockX M (Hx T.sp) (m - t) (by rw[Hd,Ay]; omega) (λi hi xx ex=>by
   have e1:p[m - i - 1]? = some xx:=by
    rw[Rm (by rw[Ay]; omega),Ay,show p.size - 1 - (p.size - m+i)=m - i - 1 by omega] at ex
    simpa using ex
   have:=t2 (m - i - 1) (by omega) (by omega)
   rw[val _ xx e1] at this
   have z:blt y xx=true:=by simpa only [Ft,Bq,if_false,Vd] using this
   exact Qv C T.sq (by omega) hn hy (C.ofLt z))
  rw[<- O8 p (by omega) hm,<- Cw,show p.size - m+(m - t)=p.size - t by omega] at this
  exact this
 have below:∀x,0<t->p[t - 1]? = some x->le blt x y:=λx h0 hx=>by
  have:=t1 (t - 1) (by omega)
  rw[val _ x hx] at this
  have z:blt y x=false:=by simpa only [Ft,Bq,if_false,Iu] using this
  exact z
 by_cases h2:m - t > 0
 ·rw[if_pos h2]
  by_cases h3:t=0
  ·rw[if_pos (by rw[h3]; rfl)]
   exact Bf ⟨kp',T.dn_end M1 (by omega) hn (.inl h3)⟩
  ·rw[if_neg (λz=>h3 (Ds z))]
   obtain ⟨x,hx⟩:=Eu (p:=p) (i:=t - 1) (by omega)
   exact lJ C T kp' hk' M1 (by omega) (by omega) n0 hn (by omega) hx hy (below x (by omega) hx)
 ·rw[if_neg h2]
  have et:t=m:=by omega
  subst et
  obtain ⟨x,hx⟩:=Eu (p:=p) (i:=t - 1) (by omega)
  exact lJ C T kp' hk' M m0 hm n0 hn hb hx hy (below x m0 hx)
theorem iF(C:Cmp prog w A s kd Ok blt){p q:Array Keyed}{x0 y0 xl:Keyed}(T:Two Ok blt p q x0 y0 xl){st:Bn}(hk:kindOf st=kd){Q:Array Keyed->Bn->Prop}(h:∀r st',Kept st st'->kB blt p q r->Q r st'):wpS (model prog w) A E s (fH p q) Q st:=by
 have p0:0<p.size:=(Gf.mp T.hx0).1
 have q0:0<q.size:=(Gf.mp T.hy0).1
 obtain ⟨yl,hyl⟩:=Eu (p:=q) (i:=q.size - 1) (by omega)
 have M0:HI blt p q #[xl] (p.size - 1) q.size:=by
  have m:HI blt p q #[] p.size q.size:=⟨by simp,by simp,λo ho=>by simp at ho,λo ho=>by simp at ho⟩
  have:=HI.pushX C T m p0 (Ai _) T.hxl (Qv C T.sq q0 (Ai _) hyl (C.ofLt (T.last yl (Ia hyl))))
  simpa using this
 unfold fH
 refine Bc (Rg ?_)
 refine Bc (Eo T.hxl ?_)
 dsimp only
 by_cases h1:p.size - 1=0
 ·rw[if_pos (by rw[h1]; rfl)]
  exact Bf (h _ _ (Kept.refl _) (T.dn_end M0 (by omega) (by omega) (.inl h1)))
 rw[if_neg (λz=>h1 (Ds z))]
 by_cases h2:q.size=1
 ·rw[if_pos (by rw[h2]; rfl)]
  exact Bf (h _ _ (Kept.refl _) (T.fs_end C M0 (by omega) h2 (by omega)))
 rw[if_neg (λz=>h2 (Ds z))]
 refine Bc (Ls ?_)
 refine Bc (Ge (Dy
  (I:=λx c st'=>Kept st st'/\∃m n out g,c=(none,m,n,out,g)/\HI blt p q out m n/\0<m/\m<=p.size/\1<n/\n<=q.size/\m+n+x+1<=p.size+q.size)
  (Q:=λc st'=>Kept st st'/\∃r Fv,c=(some r,Fv)/\kB blt p q r) ?_ ?_ ⟨Kept.refl _,_,_,_,_,rfl,M0,by omega,by omega,by omega,by omega,by omega⟩) ?_)
 ·(intro x c st1 _ hx q_; obtain ⟨kp1,m,n,out,g,rfl,M,m0,hm,n0,hn,hb⟩ := q_)
  dsimp only
  -- one by one
  refine Bc (Ge (Dy
   (I:=λ_ c st'=>st'=st1/\∃m n out ac bc,c=(none,m,n,out,ac,bc)/\HI blt p q out m n/\0<m/\m<=p.size/\1<n/\n<=q.size/\m+n+x+1<=p.size+q.size)
   (Q:=λc st'=>st'=st1/\((∃r Fv,c=(some r,Fv)/\kB blt p q r)\/∃m n out ac bc,c=(none,m,n,out,ac,bc)/\HI blt p q out m n/\0<m/\m<=p.size/\1<n/\n<=q.size/\m+n+x+1<=p.size+q.size)) ?_ ?_ ⟨rfl,m,n,out,0,0,rfl,M,m0,hm,n0,hn,hb⟩) ?_)
  ·(intro z c st2 _ hz q_; obtain ⟨rfl,m,n,out,ac,bc,rfl,M,m0,hm,n0,hn,hb⟩ := q_)
   dsimp only
   obtain ⟨yy,hy⟩:=Eu (p:=q) (i:=n - 1) (by omega)
   obtain ⟨xx,hx⟩:=Eu (p:=p) (i:=m - 1) (by omega)
   refine Bc (Eo hy ?_)
   refine Bc (Eo hx ?_)
   refine Bc (fR C (kp1.kind.trans hk) (T.oq yy (Ia hy)) (T.op xx (Ia hx)) ?_)
   dsimp only
   cases hlt:blt yy xx with
   | true =>
    rw[if_pos rfl]
    refine Bc (Eo hx ?_)
    have M1:=HI.pushX C T M m0 hm hx (Qv C T.sq (by omega) hn hy (C.ofLt hlt))
    by_cases e1:m - 1=0
    ·rw[if_pos (by rw[e1]; rfl)]
     exact Bf ⟨rfl,.inl ⟨_,_,rfl,T.dn_end M1 (by omega) hn (.inl e1)⟩⟩
    ·rw[if_neg (λz=>e1 (Ds z))]
     split
     ·exact Bf ⟨rfl,.inr ⟨_,_,_,_,_,rfl,M1,by omega,by omega,n0,hn,by omega⟩⟩
     ·exact Bf ⟨rfl,_,_,_,_,_,rfl,M1,by omega,by omega,n0,hn,by omega⟩
   | false =>
    rw[if_neg Bm]
    refine Bc (Eo hy ?_)
    have M1:=HI.pushY C T M (by omega) hn hy (Qv C T.sp m0 hm hx hlt)
    by_cases e1:n - 1=1
    ·rw[if_pos (by rw[e1]; rfl)]
     exact Bf ⟨rfl,.inl ⟨_,_,rfl,T.fs_end C M1 hm e1 (by omega)⟩⟩
    ·rw[if_neg (λz=>e1 (Ds z))]
     split
     ·exact Bf ⟨rfl,.inr ⟨_,_,_,_,_,rfl,M1,m0,hm,by omega,by omega,by omega⟩⟩
     ·exact Bf ⟨rfl,_,_,_,_,_,rfl,M1,m0,hm,by omega,by omega,by omega⟩
  ·(intro c st2 q_; obtain ⟨rfl,m,n,out,ac,bc,rfl,M⟩ := q_)
   exact ⟨rfl,.inr ⟨m,n,out,ac,bc,rfl,M⟩⟩
  ·rintro c st2 ⟨rfl,hc⟩
   rcases hc with hc | hc
   ·obtain ⟨r,Fv,rfl,hr⟩:=hc
    exact Bf ⟨kp1,r,_,rfl,hr⟩
   ·obtain ⟨m,n,out,ac,bc,rfl,M,m0,hm,n0,hn,hb⟩:=hc
    dsimp only
    refine Bc (Rg ?_)
    -- the gallop
    refine Bc (Ge (Dy
     (I:=λy c st'=>Kept st st'/\∃m n out g ac bc,c=(none,m,n,out,g,ac,bc)/\HI blt p q out m n/\0<m/\m<=p.size/\1<n/\n<=q.size/\(if y=0 then m+n+x+1<=p.size+q.size else m+n+x+2<=p.size+q.size))
     (Q:=λc st'=>Kept st st'/\((∃r Fv,c=(some r,Fv)/\kB blt p q r)\/∃m n out g ac bc,c=(none,m,n,out,g,ac,bc)/\HI blt p q out m n/\0<m/\m<=p.size/\1<n/\n<=q.size/\m+n+x+2<=p.size+q.size)) ?_ ?_
     ⟨kp1,m,n,out,_,ac,bc,rfl,M,m0,hm,n0,hn,by rw[if_pos rfl]; exact hb⟩) ?_)
    ·(intro y c st3 _ hy q_; obtain ⟨kp3,m,n,out,g,ac,bc,rfl,M,m0,hm,n0,hn,hb⟩ := q_)
     have hb':m+n+x+1<=p.size+q.size:=by split at hb <;> omega
     have key:∀g',wpS (model prog w) A E s (B9 p q out m n g' ac bc) (R8 blt p q st (m+n)) st3:=λg'=>yX C T kp3 (kp3.kind.trans hk) M m0 hm n0 hn (Ai _)
     dsimp only
     refine Ge (?_:wpS (model prog w) A E s _ (R8 blt p q st (m+n)) st3) λr st4 hr=>?_
     ·by_cases hg:g > 1
      ·rw[if_pos hg]
       exact key _
      ·rw[if_neg hg]
       exact key _
     ·obtain ⟨kp4,hr⟩:=hr
      match r,hr with
      | .done (some r,Fv),hr=>exact ⟨kp4,.inl ⟨r,Fv,rfl,hr⟩⟩
      | .done (none,m',n',out',g',ac',bc'),hr=>exact ⟨kp4,.inr ⟨m',n',out',g',ac',bc',rfl,hr.1,hr.2.1,hr.2.2.1,hr.2.2.2.1,hr.2.2.2.2.1,by have:=hr.2.2.2.2.2; omega⟩⟩
      | .yield (none,m',n',out',g',ac',bc'),hr=>exact ⟨kp4,m',n',out',g',ac',bc',rfl,hr.1,hr.2.1,hr.2.2.1,hr.2.2.2.1,hr.2.2.2.2.1,by rw[if_neg (by omega)]; have:=hr.2.2.2.2.2; omega⟩
    ·(intro c st3 q_; obtain ⟨kp3,m,n,out,g,ac,bc,rfl,M,m0,hm,n0,hn,hb⟩ := q_)
     rw[if_neg (by omega)] at hb
     exact ⟨kp3,.inr ⟨m,n,out,g,ac,bc,rfl,M,m0,hm,n0,hn,hb⟩⟩
    ·rintro c st3 ⟨kp3,hc⟩
     rcases hc with hc | hc
     ·obtain ⟨r,Fv,rfl,hr⟩:=hc
      exact Bf ⟨kp3,r,_,rfl,hr⟩
     ·obtain ⟨m,n,out,g,ac,bc,rfl,M,m0,hm,n0,hn,hb⟩:=hc
      dsimp only
      refine Bc (Re λst4 kp4=>?_)
      exact Bf ⟨kp3.trans kp4,m,n,out,_,rfl,M,m0,hm,n0,hn,by omega⟩
 ·(intro c st1 q_; obtain ⟨kp1,m,n,out,g,rfl,M,m0,hm,n0,hn,hb⟩ := q_)
  exfalso
  have : max 0 (p.size+q.size)=p.size+q.size:=by omega
  rw[this] at hb
  omega
 ·(intro c st1 q_; obtain ⟨kp1,r,Fv,rfl,hr⟩ := q_)
  exact Bf (h r st1 kp1 hr)
end
def aJ:Nat->Nat->StateT Bn Sem (Option Nat):=sortPriv% PySem.Builtin.countRun
def Vg:Nat->Nat->Nat->StateT Bn Sem Bool:=sortPriv% PySem.Builtin.binarySort
def X(xs:Array Keyed)(i:Nat):Keyed:=xs[i]?.getD (Hl,Hl)
theorem Uz{xs:Array Keyed}{i:Nat}(h:i<xs.size):xs[i]? = some (X xs i):=by
 unfold X
 rw[getElem?_pos xs i h]
 rfl
theorem On{xs ys:Array Keyed}{i j:Nat}(h:xs[i]? = ys[j]?):X xs i=X ys j:=by unfold X; rw[h]
theorem Qj{xs:Array Keyed}{i j:Nat}(hj:j<=xs.size)(k:Nat):X (mirror xs i j ((j - i) / 2)) k=if i<=k/\k<j then X xs (i+j - 1 - k) else X xs k:=by
 have e:=getElem?_mirror_all (i:=i) hj k
 by_cases h:i<=k/\k<j
 ·rw[if_pos h] at e ⊢; exact On e
 ·rw[if_neg h] at e ⊢; exact On e
theorem vG{xs:Array Keyed}{src d:Nat}(hs:src<xs.size)(hd:d<=src)(k:Nat):X (bubble xs src d) k=if k=src - d then X xs src else if src - d<k/\k<=src then X xs (k - 1) else X xs k:=by
 have e:=getElem?_bubble hs d hd k
 by_cases h1:k=src - d
 ·rw[if_pos h1] at e ⊢; exact On e
 ·rw[if_neg h1] at e ⊢
  by_cases h2:src - d<k/\k<=src
  ·rw[if_pos h2] at e ⊢; exact On e
  ·rw[if_neg h2] at e ⊢; exact On e
def Po(blt:Keyed->Keyed->Bool)(xs:Array Keyed)(a b:Nat):Prop:=∀i j,a<=i->i<=j->j<b->le blt (X xs i) (X xs j)
def pE(blt:Keyed->Keyed->Bool)(xs:Array Keyed)(a b:Nat):Prop:=∀i j,a<=i->i<=j->j<b->le blt (X xs j) (X xs i)
structure Good(kd:Kn)(a₀:Array Keyed)(pend:Array (Nat×Nat×Nat))(st:Bn):Prop where
 kind:kindOf st=kd
 fail:Jv st=none
 perm:(arrOf st).Perm a₀
 pd:Be st=pend
def dU(xs ys:Array Keyed)(a b:Nat):Prop:=∀i,(i<a\/b<=i)->X ys i=X xs i
theorem dU.refl(xs:Array Keyed)(a b:Nat):dU xs xs a b:=λ_ _=>rfl
theorem dU.trans{xs ys zs:Array Keyed}{a b:Nat}(h:dU xs ys a b)(k:dU ys zs a b):dU xs zs a b:=λi hi=>(k i hi).trans (h i hi)
section
variable{prog:Bo}{w:World}{A:Co}{s:Ag}{kd:Kn}{Ok:Keyed->Prop}{blt:Keyed->Keyed->Bool}{E:Value->Ag->Prop}{a₀:Array Keyed}{pend:Array (Nat×Nat×Nat)}
theorem Good.size{st:Bn}(g:Good kd a₀ pend st):(arrOf st).size=a₀.size:=g.perm.size_eq
theorem Good.okX{st:Bn}(g:Good kd a₀ pend st)(h0:∀x∈a₀.toList,Ok x){i:Nat}(hi:i<a₀.size):Ok (X (arrOf st) i):=by
 have e:=Uz (xs:=arrOf st) (i:=i) (by rw[g.size]; exact hi)
 exact h0 _ ((Nh.mp g.perm).mem_iff.mp (Ia e))
theorem Good.set{st:Bn}(g:Good kd a₀ pend st){xs:Array Keyed}(h:xs.Perm (arrOf st)):Good kd a₀ pend (setArr st xs):=⟨g.kind,g.fail,h.trans g.perm,g.pd⟩
theorem Tf(C:Cmp prog w A s kd Ok blt){st:Bn}(g:Good kd a₀ pend st)(h0:∀x∈a₀.toList,Ok x){i j:Nat}(hi:i<a₀.size)(hj:j<a₀.size){Q:Option Bool->Bn->Prop}(h:Q (some (blt (X (arrOf st) i) (X (arrOf st) j))) st):wpS (model prog w) A E s (ltAt' i j) Q st:=by
 rw[ltAt'_eq]
 refine Bc (Ls ?_)
 refine Bc (Eo (Uz (by rw[g.size]; exact hi)) ?_)
 refine Bc (Eo (Uz (by rw[g.size]; exact hj)) ?_)
 exact fR C g.kind (g.okX h0 hi) (g.okX h0 hj) h
theorem Ow{st:Bn}{i j:Nat}{Q:Unit->Bn->Prop}(h:Q () (setArr st (mirror (arrOf st) i j ((j - i) / 2)))):wpS (model prog w) A E s (Ri i j) Q st:=by
 rw[reverseSlice'_eq]
 exact Ik h
def T2(lo a b:Nat):StateT Bn Sem (Option (Option Nat)×Nat) :=
 forIn [a:b] ((none,a):Option (Option Nat)×Nat) λ_ c=>do
  let some eY <- ltAt' (lo+c.2) (lo+c.2 - 1) | pure (Cp (some none,c.2))
  if eY=true then pure (Cp (none,c.2)) else pure (Er (none,c.2+1))
theorem pW(C:Cmp prog w A s kd Ok blt){st:Bn}(g:Good kd a₀ pend st)(h0:∀x∈a₀.toList,Ok x){lo a b:Nat}(hb:lo+b<=a₀.size)(ha:1<=a)(hab:a<=b)(h1:Po blt (arrOf st) lo (lo+a)){Q:Option (Option Nat)×Nat->Bn->Prop}(h:∀n,a<=n->n<=b->Po blt (arrOf st) lo (lo+n)->(n=b\/blt (X (arrOf st) (lo+n)) (X (arrOf st) (lo+n - 1))=true)->Q (none,n) st):wpS (model prog w) A E s (T2 lo a b) Q st:=by
 unfold T2
 refine Dy (I:=λx c st'=>st'=st/\c=(none,x)/\Po blt (arrOf st) lo (lo+x)) ?_ ?_ ⟨rfl,rfl,h1⟩
 ·(intro x c st' hx1 hx2 q_; obtain ⟨rfl,rfl,hs⟩ := q_)
  dsimp only
  refine Bc (Tf C g h0 (by omega) (by omega) ?_)
  dsimp only
  cases hl:blt (X (arrOf st') (lo+x)) (X (arrOf st') (lo+x - 1)) with
  | true =>
   rw[if_pos rfl]
   exact Bf (h x hx1 (by omega) hs (.inr hl))
  | false =>
   rw[if_neg Bm]
   refine Bf ⟨rfl,rfl,λi j hi hij hj=>?_⟩
   by_cases hjx:j<lo+x
   ·exact hs i j hi hij hjx
   ·have ej:j=lo+x:=by omega
    subst ej
    by_cases hi':i=lo+x
    ·subst hi'; exact C.refl _
    ·exact C.trans (hs i (lo+x - 1) hi (by omega) (by omega)) hl
 ·(intro c st' q_; obtain ⟨rfl,rfl,hs⟩ := q_)
  rw[show max a b=b by omega] at hs ⊢
  exact h b hab (Ai _) hs (.inl rfl)
theorem jX{xs:Array Keyed}{lo n:Nat}(hn:lo+n<=xs.size)(h:pE blt xs lo (lo+n)):Po blt (mirror xs lo (lo+n) ((lo+n - lo) / 2)) lo (lo+n):=λi j hi hij hj=>by
 rw[Qj hn,Qj hn,if_pos (by omega),if_pos (by omega)]
 exact h _ _ (by omega) (by omega) (by omega)
theorem Uv{xs:Array Keyed}{lo n b e:Nat}(hn:lo+n<=xs.size)(he:e<=lo+n)(hb:lo<=b)(h:pE blt xs lo (lo+n))(eqv:∀i j,b<=i->i<e->b<=j->j<e->le blt (X xs i) (X xs j)):pE blt (mirror xs b e ((e - b) / 2)) lo (lo+n):=λi j hi hij hj=>by
 rw[Qj (by omega),Qj (by omega)]
 by_cases h1:b<=j/\j<e
 ·rw[if_pos h1]
  by_cases h2:b<=i/\i<e
  ·rw[if_pos h2]
   exact eqv _ _ (by omega) (by omega) (by omega) (by omega)
  ·rw[if_neg h2]
   exact h _ _ hi (by omega) (by omega)
 ·rw[if_neg h1]
  by_cases h2:b<=i/\i<e
  ·rw[if_pos h2]
   exact h _ _ (by omega) (by omega) (by omega)
  ·rw[if_neg h2]
   exact h i j hi hij hj
theorem Os{xs:Array Keyed}{a b i j:Nat}(h1:a<=i)(h2:j<=b)(h3:j<=xs.size):dU xs (mirror xs i j ((j - i) / 2)) a b:=λk hk=>by
 rw[Qj h3,if_neg (by omega)]
def pL(lo n b:Nat):StateT Bn Sem (Option Nat):=do
 Ri lo (lo+n)
 let mut m:=n
 for _ in [n:b] do
  let some eY <- ltAt' (lo+m) (lo+m - 1) | return none
  if eY then break
  m:=m+1
 return some m
theorem kT(C:Cmp prog w A s kd Ok blt){st:Bn}(g:Good kd a₀ pend st)(h0:∀x∈a₀.toList,Ok x){lo n b:Nat}(hb:lo+b<=a₀.size)(hn:1<=n)(hnb:n<=b)(h1:pE blt (arrOf st) lo (lo+n)){Q:Option Nat->Bn->Prop}(h:∀m st',Good kd a₀ pend st'->1<=m->m<=b->Po blt (arrOf st') lo (lo+m)->dU (arrOf st) (arrOf st') lo (lo+b)->Q (some m) st'):wpS (model prog w) A E s (pL lo n b) Q st:=by
 unfold pL
 have hsz:lo+n<=(arrOf st).size:=by rw[g.size]; omega
 refine Bc (Ow ?_)
 have g':Good kd a₀ pend (setArr st (mirror (arrOf st) lo (lo+n) ((lo+n - lo) / 2))):=g.set (mirror_perm _ _ _ _)
 refine Bc (pW C g' h0 hb hn hnb (jX hsz h1) λm hm1 hm2 hs _=>?_)
 exact Bf (h m _ g' (by omega) hm2 hs (Os (Ai _) (by omega) hsz))
abbrev u6:=Option (Option Nat)×Nat×Nat
def O2(lo a b:Nat):StateT Bn Sem u6 :=
 forIn [a:b] ((none,a,0):u6) λ_ c=>do
  let some eY <- ltAt' (lo+c.2.1) (lo+c.2.1 - 1) | pure (Cp (some none,c.2.1,c.2.2))
  if eY=true then
   if c.2.2 > 0 then do
    Ri (lo+c.2.1 - (c.2.2+1)) (lo+c.2.1)
    pure (Er (none,c.2.1+1,0))
   else pure (Er (none,c.2.1+1,0))
  else do
   let some more <- ltAt' (lo+c.2.1 - 1) (lo+c.2.1) | pure (Cp (some none,c.2.1,c.2.2))
   if more=true then pure (Cp (none,c.2.1,c.2.2)) else pure (Er (none,c.2.1+1,c.2.2+1))
def wK(blt:Keyed->Keyed->Bool)(xs:Array Keyed)(lo n e:Nat):Prop:=e+1<=n/\∀i j,lo+n - (e+1)<=i->i<lo+n->lo+n - (e+1)<=j->j<lo+n->le blt (X xs i) (X xs j)
theorem sA(C:Cmp prog w A s kd Ok blt){xs:Array Keyed}{lo n:Nat}(h:1<=n):wK blt xs lo n 0:=⟨by omega,λi j i1 i2 j1 j2=>by
 have e:i=j:=by omega
 subst e
 exact C.refl _⟩
theorem Sz(C:Cmp prog w A s kd Ok blt){xs:Array Keyed}{lo n:Nat}(hn:1<=n)(h:pE blt xs lo (lo+n))(hl:le blt (X xs (lo+n)) (X xs (lo+n - 1))):pE blt xs lo (lo+(n+1)):=λi j hi hij hj=>by
 by_cases hjx:j<lo+n
 ·exact h i j hi hij hjx
 ·have ej:j=lo+n:=by omega
  subst ej
  by_cases hi':i=lo+n
  ·subst hi'; exact C.refl _
  ·exact C.trans hl (h i (lo+n - 1) hi (by omega) (by omega))
theorem wM(C:Cmp prog w A s kd Ok blt){st:Bn}(g:Good kd a₀ pend st)(h0:∀x∈a₀.toList,Ok x){lo a b:Nat}(hb:lo+b<=a₀.size)(ha:1<=a)(hab:a<=b)(h1:pE blt (arrOf st) lo (lo+a)){Q:u6->Bn->Prop}(h:∀n e st',Good kd a₀ pend st'->a<=n->n<=b->pE blt (arrOf st') lo (lo+n)->wK blt (arrOf st') lo n e->dU (arrOf st) (arrOf st') lo (lo+b)->Q (none,n,e) st'):wpS (model prog w) A E s (O2 lo a b) Q st:=by
 unfold O2
 refine Dy (I:=λx c st'=>∃e,c=(none,x,e)/\Good kd a₀ pend st'/\pE blt (arrOf st') lo (lo+x)/\wK blt (arrOf st') lo x e/\dU (arrOf st) (arrOf st') lo (lo+b)) ?_ ?_
  ⟨0,rfl,g,h1,sA C ha,dU.refl _ _ _⟩
 ·(intro x c st' hx1 hx2 q_; obtain ⟨e,rfl,g',hs,lk,ou⟩ := q_)
  have hsz:(arrOf st').size=a₀.size:=g'.size
  dsimp only
  refine Bc (Tf C g' h0 (by omega) (by omega) ?_)
  dsimp only
  cases hl:blt (X (arrOf st') (lo+x)) (X (arrOf st') (lo+x - 1)) with
  | true =>
   rw[if_pos rfl]
   have d1:=Sz C (by omega) hs (C.ofLt hl)
   have one:∀ys:Array Keyed,wK blt ys lo (x+1) 0:=λys=>⟨by omega,λi j i1 i2 j1 j2=>by
    have : i=j:=by omega
    subst this
    exact C.refl _⟩
   by_cases he:e > 0
   ·rw[if_pos he]
    refine Bc (Ow ?_)
    refine Bf ⟨0,rfl,g'.set (mirror_perm _ _ _ _),?_,one _,ou.trans (Os (by have:=lk.1; omega) (by omega) (by omega))⟩
    exact Uv (by omega) (by omega) (by have:=lk.1; omega) d1 λi j i1 i2 j1 j2=>lk.2 i j i1 i2 j1 j2
   ·rw[if_neg he]
    exact Bf ⟨0,rfl,g',d1,one _,ou⟩
  | false =>
   rw[if_neg Bm]
   refine Bc (Tf C g' h0 (by omega) (by omega) ?_)
   dsimp only
   cases hm:blt (X (arrOf st') (lo+x - 1)) (X (arrOf st') (lo+x)) with
   | true =>
    rw[if_pos rfl]
    exact Bf (h x e st' g' hx1 (by omega) hs lk ou)
   | false =>
    rw[if_neg Bm]
    refine Bf ⟨e+1,rfl,g',Sz C (by omega) hs hm,⟨by have:=lk.1; omega,λi j i1 i2 j1 j2=>?_⟩,ou⟩
    have l1:le blt (X (arrOf st') (lo+x - 1)) (X (arrOf st') (lo+x)):=hl
    have l2:le blt (X (arrOf st') (lo+x)) (X (arrOf st') (lo+x - 1)):=hm
    by_cases ei:i=lo+x
    ·by_cases ej:j=lo+x
     ·rw[ei,ej]; exact C.refl _
     ·rw[ei]
      exact C.trans l2 (lk.2 (lo+x - 1) j (by omega) (by omega) (by omega) (by omega))
    ·by_cases ej:j=lo+x
     ·rw[ej]
      exact C.trans (lk.2 i (lo+x - 1) (by omega) (by omega) (by omega) (by omega)) l1
     ·exact lk.2 i j (by omega) (by omega) (by omega) (by omega)
 ·(intro c st' q_; obtain ⟨e,rfl,g',hs,lk,ou⟩ := q_)
  rw[show max a b=b by omega] at hs lk ⊢
  exact h b e st' g' hab (Ai _) hs lk ou
def i7(lo n b:Nat):StateT Bn Sem (Option Nat):=do
 liftM (rule "list.sort.descending-run")
 let mut m:=n+1
 let mut e:=0
 for _ in [m:b] do
  let some eY <- ltAt' (lo+m) (lo+m - 1) | return none
  if eY then
   if e > 0 then Ri (lo+m - (e+1)) (lo+m)
   e:=0
  else
   let some more <- ltAt' (lo+m - 1) (lo+m) | return none
   if more then break
   e:=e+1
  m:=m+1
 if e > 0 then Ri (lo+m - (e+1)) (lo+m)
 pL lo m b
theorem mK(C:Cmp prog w A s kd Ok blt){st:Bn}(g:Good kd a₀ pend st)(h0:∀x∈a₀.toList,Ok x){lo n b:Nat}(hb:lo+b<=a₀.size)(hnb:n+1<=b)(h1:pE blt (arrOf st) lo (lo+(n+1))){Q:Option Nat->Bn->Prop}(h:∀m st',Good kd a₀ pend st'->1<=m->m<=b->Po blt (arrOf st') lo (lo+m)->dU (arrOf st) (arrOf st') lo (lo+b)->Q (some m) st'):wpS (model prog w) A E s (i7 lo n b) Q st:=by
 unfold i7
 refine Bc (Rg ?_)
 refine Bc (wM C g h0 hb (by omega) hnb h1 λk e st1 g1 k1 k2 d1 lk ou=>?_)
 dsimp only
 have hsz:(arrOf st1).size=a₀.size:=g1.size
 by_cases he:e > 0
 ·rw[if_pos he]
  refine Bc (Ow ?_)
  refine kT C (g1.set (mirror_perm _ _ _ _)) h0 hb (by omega) k2 (Uv (by omega) (by omega) (by have:=lk.1; omega) d1 λi j i1 i2 j1 j2=>lk.2 i j i1 i2 j1 j2) λm st2 g2 m1 m2 as ou2=>?_
  exact h m st2 g2 m1 m2 as ((ou.trans (Os (by have:=lk.1; omega) (by omega) (by omega))).trans ou2)
 ·rw[if_neg he]
  exact kT C g1 h0 hb (by omega) k2 d1 λm st2 g2 m1 m2 as ou2=>h m st2 g2 m1 m2 as (ou.trans ou2)
theorem sG(C:Cmp prog w A s kd Ok blt){st:Bn}(g:Good kd a₀ pend st)(h0:∀x∈a₀.toList,Ok x){lo b:Nat}(hb:lo+b<=a₀.size)(b1:1<=b){Q:Option Nat->Bn->Prop}(h:∀m st',Good kd a₀ pend st'->1<=m->m<=b->Po blt (arrOf st') lo (lo+m)->dU (arrOf st) (arrOf st') lo (lo+b)->Q (some m) st'):wpS (model prog w) A E s (aJ lo b) Q st:=by
 unfold aJ
 have hsz:(arrOf st).size=a₀.size:=g.size
 refine Bc (pW C g h0 hb (Ai _) b1 (λi j i1 i2 j1=>by
  have : i=j:=by omega
  subst this
  exact C.refl _) λn n1 n2 hs hor=>?_)
 dsimp only
 by_cases e:n=b
 ·rw[if_pos (by rw[e]; exact beq_self_eq_true _)]
  exact Bf (h n st g n1 n2 hs (dU.refl _ _ _))
 rw[if_neg (λz=>e (Ds z))]
 have hlt:blt (X (arrOf st) (lo+n)) (X (arrOf st) (lo+n - 1))=true:=hor.resolve_left e
 by_cases hg:n > 1
 ·rw[if_pos hg]
  refine Bc (Tf C g h0 (by omega) (by omega) ?_)
  dsimp only
  cases hr:blt (X (arrOf st) lo) (X (arrOf st) (lo+n - 1)) with
  | true =>
   rw[if_pos rfl]
   exact Bf (h n st g n1 n2 hs (dU.refl _ _ _))
  | false =>
   rw[if_neg Bm]
   refine Bc (Ow ?_)
   -- all of it are alike
   have like:∀i j,lo<=i->i<lo+n->lo<=j->j<lo+n->le blt (X (arrOf st) i) (X (arrOf st) j):=λi j i1 i2 j1 j2 =>
    C.trans (hs i (lo+n - 1) i1 (by omega) (by omega)) (C.trans hr (hs lo j (Ai _) j1 j2))
   have d1:pE blt (arrOf st) lo (lo+(n+1)):=Sz C n1 (λi j i1 i2 j1=>like j i (by omega) j1 i1 (by omega)) (C.ofLt hlt)
   exact mK C (g.set (mirror_perm _ _ _ _)) h0 hb (by omega) (Uv (by omega) (by omega) (Ai _) d1 like) λm st2 g2 m1 m2 as ou2=>h m st2 g2 m1 m2 as ((Os (Ai _) (by omega) (by omega)).trans ou2)
 ·rw[if_neg hg]
  have en:n=1:=by omega
  subst en
  have d1:pE blt (arrOf st) lo (lo+(1+1)):=Sz C (Ai _) (λi j i1 i2 j1=>by
   have : i=j:=by omega
   subst this
   exact C.refl _) (C.ofLt hlt)
  exact mK C g h0 hb (by omega) d1 h
end
def Tj:Nat->StateT Bn Sem Bool:=sortPriv% PySem.Builtin.mergeAt
section
variable{prog:Bo}{w:World}{A:Co}{s:Ag}{kd:Kn}{Ok:Keyed->Prop}{blt:Keyed->Keyed->Bool}{E:Value->Ag->Prop}{a₀:Array Keyed}{pend:Array (Nat×Nat×Nat)}
theorem gM{st:Bn}{i j:Nat}{Q:Unit->Bn->Prop}(h:Q () (setArr st (bubble (arrOf st) i (i - j)))):wpS (model prog w) A E s (moveDown' i j) Q st:=by
 rw[moveDown'_eq]
 exact Ik h
theorem oW(C:Cmp prog w A s kd Ok blt){st:Bn}(g:Good kd a₀ pend st)(h0:∀x∈a₀.toList,Ok x){lo n ok:Nat}(hb:lo+n<=a₀.size)(h1:Po blt (arrOf st) lo (lo+ok))(hok:ok<=n){Q:Bool->Bn->Prop}(h:∀st',Good kd a₀ pend st'->Po blt (arrOf st') lo (lo+n)->dU (arrOf st) (arrOf st') lo (lo+n)->Q true st'):wpS (model prog w) A E s (Vg lo n ok) Q st:=by
 unfold Vg
 refine Bc (Ge (Dy
  (I:=λk c st'=>c=(none,())/\Good kd a₀ pend st'/\Po blt (arrOf st') lo (lo+k)/\dU (arrOf st) (arrOf st') lo (lo+n))
  (Q:=λc st'=>c=(none,())/\Good kd a₀ pend st'/\Po blt (arrOf st') lo (lo+n)/\dU (arrOf st) (arrOf st') lo (lo+n)) ?_ ?_ ⟨rfl,g,?_,dU.refl _ _ _⟩) ?_)
 ·(intro k c st1 hk1 hk2 q_; obtain ⟨rfl,g1,hs,ou⟩ := q_)
  have hsz:(arrOf st1).size=a₀.size:=g1.size
  dsimp only
  refine Bc (Ge (Dy
   (I:=λy c st'=>st'=st1/\∃l r,c=(none,l,r)/\l<=r/\r<=k/\r - l+y<=k/\(∀i,i<l->le blt (X (arrOf st1) (lo+i)) (X (arrOf st1) (lo+k)))/\(∀i,r<=i->i<k->blt (X (arrOf st1) (lo+k)) (X (arrOf st1) (lo+i))=true))
   (Q:=λc st'=>st'=st1/\∃l,c=(none,l,l)/\l<=k/\(∀i,i<l->le blt (X (arrOf st1) (lo+i)) (X (arrOf st1) (lo+k)))/\(∀i,l<=i->i<k->blt (X (arrOf st1) (lo+k)) (X (arrOf st1) (lo+i))=true)) ?_ ?_
   ⟨rfl,0,k,rfl,by omega,by omega,by omega,λi hi=>by omega,λi h1 h2=>by omega⟩) ?_)
  ·(intro y c st2 _ hy q_; obtain ⟨rfl,l,r,rfl,a1,a2,a3,b1,b2⟩ := q_)
   dsimp only
   by_cases hlr:l ≥ r
   ·rw[if_pos hlr]
    have e:l=r:=by omega
    subst e
    exact Bf ⟨rfl,l,rfl,a2,b1,b2⟩
   ·rw[if_neg hlr]
    refine Bc (Tf C g1 h0 (by omega) (by omega) ?_)
    dsimp only
    cases hl:blt (X (arrOf st2) (lo+k)) (X (arrOf st2) (lo+(l+r) / 2)) with
    | true =>
     rw[if_pos rfl]
     exact Bf ⟨rfl,l,(l+r) / 2,rfl,by omega,by omega,by omega,b1,λi i1 i2=>C.ltLe hl (hs _ _ (by omega) (by omega) (by omega))⟩
    | false =>
     rw[if_neg Bm]
     exact Bf ⟨rfl,(l+r) / 2+1,r,rfl,by omega,a2,by omega,λi hi=>C.trans (hs _ _ (by omega) (by omega) (by omega)) hl,b2⟩
  ·(intro c st2 q_; obtain ⟨rfl,l,r,rfl,a1,a2,a3,b1,b2⟩ := q_)
   have : max 0 k=k:=by omega
   rw[this] at a3
   have e:l=r:=by omega
   subst e
   exact ⟨rfl,l,rfl,a2,b1,b2⟩
  ·(intro c st2 q_; obtain ⟨rfl,l,rfl,a2,b1,b2⟩ := q_)
   dsimp only
   refine Bc (gM ?_)
   have xb:=λi=>vG (xs:=arrOf st2) (src:=lo+k) (d:=lo+k - (lo+l)) (by omega) (by omega) i
   have ed:lo+k - (lo+k - (lo+l))=lo+l:=by omega
   refine Bf ⟨rfl,g1.set (bubble_perm _ _ _),λi j i1 i2 j1=>?_,ou.trans λi hi=>?_⟩
   ·show le blt (X (bubble (arrOf st2) (lo+k) (lo+k - (lo+l))) i) (X (bubble (arrOf st2) (lo+k) (lo+k - (lo+l))) j)
    rw[xb,xb,ed]
    by_cases e1:i=lo+l
    ·rw[if_pos e1]
     by_cases e2:j=lo+l
     ·rw[if_pos e2]; exact C.refl _
     ·rw[if_neg e2]
      by_cases e3:lo+l<j/\j<=lo+k
      ·rw[if_pos e3]
       have:=b2 (j - 1 - lo) (by omega) (by omega)
       rw[show lo+(j - 1 - lo)=j - 1 by omega] at this
       exact C.ofLt this
      ·exfalso; omega
    ·rw[if_neg e1]
     by_cases e2:j=lo+l
     ·rw[if_pos e2,if_neg (by omega)]
      have:=b1 (i - lo) (by omega)
      rw[show lo+(i - lo)=i by omega] at this
      exact this
     ·rw[if_neg e2]
      by_cases e3:lo+l<i/\i<=lo+k
      ·rw[if_pos e3,if_pos (by omega)]
       exact hs _ _ (by omega) (by omega) (by omega)
      ·rw[if_neg e3]
       by_cases e4:lo+l<j/\j<=lo+k
       ·rw[if_pos e4]
        exact hs _ _ (by omega) (by omega) (by omega)
       ·rw[if_neg e4]
        exact hs _ _ (by omega) (by omega) (by omega)
   ·show X (bubble (arrOf st2) (lo+k) (lo+k - (lo+l))) i=X (arrOf st2) i
    rw[xb,ed,if_neg (by omega),if_neg (by omega)]
 ·(intro c st1 q_; obtain ⟨rfl,g1,hs,ou⟩ := q_)
  refine ⟨rfl,g1,λi j i1 i2 j1=>hs i j i1 i2 (by omega),ou⟩
 ·intro i j i1 i2 j1
  by_cases e:i=j
  ·subst e; exact C.refl _
  ·exact h1 i j i1 i2 (by omega)
 ·(intro c st1 q_; obtain ⟨rfl,g1,hs,ou⟩ := q_)
  exact Bf (h st1 g1 hs ou)
end
abbrev Mi(xs:Array Keyed)(b:Nat)(l:List (Keyed×Nat)):Array Keyed:=l.foldl (λa x=>match x with | (p,j)=>a.setIfInBounds (b+j) p) xs
theorem Wt(b:Nat):∀(l:List Keyed) (o:Nat) (xs:Array Keyed),b+o+l.length<=xs.size->(Mi xs b (l.zipIdx o)).size=xs.size/\∀i:Nat,(Mi xs b (l.zipIdx o))[i]? = if b+o<=i/\i<b+o+l.length then l[i - (b+o)]? else xs[i]?
 | [],o,xs,_=>⟨rfl,λi=>by rw[if_neg (by rw[Jy]; omega)]; rfl⟩
 | x::l,o,xs,h=>by
  rw[Bs] at h
  have ih:=Wt b l (o+1) (xs.setIfInBounds (b+o) x) (by rw[dZ]; omega)
  have e:Mi xs b ((x::l).zipIdx o)=Mi (xs.setIfInBounds (b+o) x) b (l.zipIdx (o+1)):=by
   rw[Yx]
   rfl
  rw[e]
  refine ⟨ih.1.trans (dZ),λi=>?_⟩
  rw[ih.2 i,Bs]
  by_cases h1:b+(o+1)<=i/\i<b+(o+1)+l.length
  ·rw[if_pos h1,if_pos (by omega)]
   rw[show i - (b+o)=(i - (b+(o+1)))+1 by omega,List.getElem?_cons_succ]
  ·rw[if_neg h1]
   by_cases h2:i=b+o
   ·subst h2
    rw[if_pos (by omega),Array.getElem?_setIfInBounds_self_of_lt (by omega),Nat.sub_self]
    rfl
   ·rw[if_neg (by omega),Array.getElem?_setIfInBounds_ne (by omega)]
theorem jV{xs m:Array Keyed}{b n:Nat}(hb:b+n<=xs.size)(hn:m.size=n)(hp:m.toList.Perm ((xs.toList.drop b).take n)):(Mi xs b m.toList.zipIdx).Perm xs:=by
 have ha:=Wt b m.toList 0 xs (by rw[Ay]; omega)
 have e:(Mi xs b m.toList.zipIdx).toList=xs.toList.take b++(m.toList++xs.toList.drop (b+n)):=by
  apply Fq
  intro i
  have h1:=ha.2 i
  rw[Ay,hn] at h1
  have h2:(Mi xs b m.toList.zipIdx).toList[i]? = (Mi xs b m.toList.zipIdx)[i]?:=by simp
  rw[h2,h1]
  have lt:(xs.toList.take b).length=b:=by rw[Cv,Ay]; omega
  by_cases c1:i<b
  ·rw[if_neg (by omega),Jn (by omega),Dj c1]
   simp
  ·rw[Gh (by omega),lt]
   by_cases c2:i<b+n
   ·rw[if_pos (by omega),Jn (by rw[Ay]; omega)]
    congr 1
   ·rw[if_neg (by omega),Gh (by rw[Ay]; omega),Vc,Ay]
    rw[show b+n+(i - b - m.size)=i by omega]
    simp
 refine Array.perm_iff_toList_perm.mpr ?_
 rw[e]
 have e2:xs.toList=xs.toList.take b++((xs.toList.drop b).take n++xs.toList.drop (b+n)):=by
  conv=>lhs; rw[<- Ii b xs.toList]
  congr 1
  conv=>lhs; rw[<- Ii n (xs.toList.drop b)]
  rw[List.drop_drop]
 conv=>rhs; rw[e2]
 exact Kj _ (List.Perm.append_right _ hp)
theorem Ux{xs:Array Keyed}{a n:Nat}(h:a+n<=xs.size){i:Nat}(hi:i<n):(xs.extract a (a+n))[i]? = some (X xs (a+i)):=by
 rw[Array.getElem?_extract,if_pos (by omega)]
 exact Uz (by omega)
theorem Pt{xs:Array Keyed}{a n:Nat}(h:a+n<=xs.size):(xs.extract a (a+n)).size=n:=by
 rw[Array.size_extract]
 omega
theorem Sy{xs:Array Keyed}{a n:Nat}(h:a+n<=xs.size){x:Keyed}(hx:x∈(xs.extract a (a+n)).toList):∃i,i<n/\x=X xs (a+i):=by
 obtain ⟨i,hi,e⟩:=Gu.mp hx
 rw[Ay,Pt h] at hi
 refine ⟨i,hi,?_⟩
 have h1:=Ux h hi
 have h2:(xs.extract a (a+n)).toList[i]? = some x:=by rw[<- e,<- An]
 rw[Le,h1] at h2
 exact (Bk h2).symm
section
variable{prog:Bo}{w:World}{A:Co}{s:Ag}{kd:Kn}{Ok:Keyed->Prop}{blt:Keyed->Keyed->Bool}{E:Value->Ag->Prop}{a₀:Array Keyed}{pend:Array (Nat×Nat×Nat)}
theorem Yl(C:Cmp prog w A s kd Ok blt){xs:Array Keyed}{a n c d:Nat}(h:a+n<=xs.size)(hs:Po blt xs c d)(h1:c<=a)(h2:a+n<=d):(xs.extract a (a+n)).toList.Pairwise (le blt):=by
 rw[Df]
 intro i j hi hj hij
 rw[Ay,Pt h] at hi hj
 have e1:(xs.extract a (a+n)).toList[i]? = some (X xs (a+i)):=by rw[Le]; exact Ux h hi
 have e2:(xs.extract a (a+n)).toList[j]? = some (X xs (a+j)):=by rw[Le]; exact Ux h hj
 obtain ⟨_,f1⟩:=Al.mp e1
 obtain ⟨_,f2⟩:=Al.mp e2
 rw[f1,f2]
 exact hs _ _ (by omega) (by omega) (by omega)
theorem gJ(C:Cmp prog w A s kd Ok blt){xs:Array Keyed}{a b c:Nat}(hab:a<b)(h1:Po blt xs a b)(h2:Po blt xs b c)(h:le blt (X xs (b - 1)) (X xs b)):Po blt xs a c:=λi j i1 i2 j1=>by
 by_cases e1:j<b
 ·exact h1 i j i1 i2 e1
 ·by_cases e2:b<=i
  ·exact h2 i j e2 i2 j1
  ·exact C.trans (h1 i (b - 1) i1 (by omega) (by omega)) (C.trans h (h2 b j (Ai _) (by omega) j1))
structure Good0(kd:Kn)(a₀:Array Keyed)(st:Bn):Prop where
 kind:kindOf st=kd
 fail:Jv st=none
 perm:(arrOf st).Perm a₀
theorem Good0.size{st:Bn}(g:Good0 kd a₀ st):(arrOf st).size=a₀.size:=g.perm.size_eq
theorem Good0.okX{st:Bn}(g:Good0 kd a₀ st)(h0:∀x∈a₀.toList,Ok x){i:Nat}(hi:i<a₀.size):Ok (X (arrOf st) i):=by
 have e:=Uz (xs:=arrOf st) (i:=i) (by rw[g.size]; exact hi)
 exact h0 _ ((Nh.mp g.perm).mem_iff.mp (Ia e))
theorem uF{st:Bn}(g:Good0 kd a₀ st)(h0:∀x∈a₀.toList,Ok x){b n:Nat}(h:b+n<=a₀.size):Row Ok (arrOf st) b n (λi=>X (arrOf st) (b+i)) :=
 ⟨λi hi=>Uz (by rw[g.size]; omega),λi hi=>g.okX h0 (by omega)⟩
theorem z0{st st':Bn}{Q:Unit->Bn->Prop}(h:Q () st'):wpS (model prog w) A E s (set st':StateT Bn Sem Unit) Q st:=by
 unfold wpS
 rw[StateT.run_set]
 exact Aj ⟨rfl,h⟩
theorem jZ(C:Cmp prog w A s kd Ok blt){st:Bn}(g:Good0 kd a₀ st)(h0:∀x∈a₀.toList,Ok x){i sa na pa sb nb pb:Nat}(hi:(Be st)[i]? = some (sa,na,pa))(hj:(Be st)[i+1]? = some (sb,nb,pb))(e1:sb=sa+na)(n1:1<=na)(n2:1<=nb)(hz:sb+nb<=a₀.size)(s1:Po blt (arrOf st) sa sb)(s2:Po blt (arrOf st) sb (sb+nb)){Q:Bool->Bn->Prop}(h:∀st',Good0 kd a₀ st'->Be st'=((Be st).setIfInBounds i (sa,na+nb,pa)).eraseIdxIfInBounds (i+1)->Po blt (arrOf st') sa (sb+nb)->dU (arrOf st) (arrOf st') sa (sb+nb)->Q true st'):wpS (model prog w) A E s (Tj i) Q st:=by
 have hsz:(arrOf st).size=a₀.size:=g.size
 unfold Tj
 refine Bc (Ls ?_)
 rw[hi,hj]
 dsimp only
 refine Bc (z0 ?_)
 refine Bc (Eo (Uz (xs:=arrOf st) (i:=sb) (by rw[hsz]; omega)) ?_)
 show wpS (model prog w) A E s _ _ (Tx (kindOf st) (arrOf st) (((Be st).setIfInBounds i (sa,na+nb,pa)).eraseIdxIfInBounds (i+1)) (gallopOf st) (Jv st))
 generalize hst1:Tx (kindOf st) (arrOf st) (((Be st).setIfInBounds i (sa,na+nb,pa)).eraseIdxIfInBounds (i+1)) (gallopOf st) (Jv st)=st1
 have k1:kindOf st1=kd:=by rw[<- hst1]; exact g.kind
 have ar1:arrOf st1=arrOf st:=by rw[<- hst1]
 have pd1:Be st1=((Be st).setIfInBounds i (sa,na+nb,pa)).eraseIdxIfInBounds (i+1):=by rw[<- hst1]
 have fl1:Jv st1=none:=by rw[<- hst1]; exact g.fail
 have g1:Good0 kd a₀ st1:=⟨k1,fl1,by rw[ar1]; exact g.perm⟩
 have same:Good0 kd a₀ st1->Po blt (arrOf st) sa (sb+nb)->Q true st1:=λgg as=>h st1 gg pd1 (by rw[ar1]; exact as) (by rw[ar1]; exact dU.refl _ _ _)
 refine Bc (Mb C (hint:=0) (n:=na) (uF g h0 (b:=sa) (n:=na) (by omega)) (g.okX h0 (i:=sb) (by omega)) k1 (by omega) (λa c hac hc q1=>?_) λk kn t1 t2=>?_)
 ·simp only[Ft,Bq,if_false,Iu] at q1 ⊢
  exact C.trans (s1 _ _ (by omega) (by omega) (by omega)) q1
 dsimp only
 have f1:∀m,m<k->le blt (X (arrOf st) (sa+m)) (X (arrOf st) sb):=λm hm=>by
  have:=t1 m hm
  have z:blt (X (arrOf st) sb) (X (arrOf st) (sa+m))=false:=by simpa only [Ft,Bq,if_false,Iu] using this
  exact z
 by_cases c1:na - k=0
 ·rw[if_pos (by rw[c1]; rfl)]
  refine Bf (same g1 (gJ C (by omega) s1 s2 ?_))
  have:=f1 (na - 1) (by omega)
  rw[show sa+(na - 1)=sb - 1 by omega] at this
  exact this
 rw[if_neg (λz=>c1 (Ds z))]
 have f2:blt (X (arrOf st) sb) (X (arrOf st) (sa+k))=true:=by
  have:=t2 k (Ai _) (by omega)
  simpa only [Ft,Bq,if_false,Vd] using this
 have el:sa+k+(na - k) - 1=sb - 1:=by omega
 rw[el]
 refine Bc (Eo (Uz (xs:=arrOf st) (i:=sb - 1) (by rw[hsz]; omega)) ?_)
 refine Bc (Mb C (hint:=nb - 1) (n:=nb) (uF g h0 (b:=sb) (n:=nb) (by omega)) (g.okX h0 (i:=sb - 1) (by omega)) k1 (by omega) (λa c hac hc q1=>?_) λl ln u1 u2=>?_)
 ·simp only[Ft,if_true] at q1 ⊢
  exact C.leLt (s2 _ _ (by omega) (by omega) (by omega)) q1
 dsimp only
 have f3:∀m,m<l->blt (X (arrOf st) (sb+m)) (X (arrOf st) (sb - 1))=true:=λm hm=>by
  have:=u1 m hm
  simpa only [Ft,if_true] using this
 have f4:∀m,l<=m->m<nb->le blt (X (arrOf st) (sb - 1)) (X (arrOf st) (sb+m)):=λm h1 h2=>by
  have:=u2 m h1 h2
  have z:blt (X (arrOf st) (sb+m)) (X (arrOf st) (sb - 1))=false:=by simpa only [Ft,if_true] using this
  exact z
 by_cases c2:l=0
 ·rw[if_pos (by rw[c2]; rfl)]
  subst c2
  exact Bf (same g1 (gJ C (by omega) s1 s2 (f4 0 (Ai _) (by omega))))
 rw[if_neg (λz=>c2 (Ds z))]
 have ep:(arrOf st).extract (sa+k) sb=(arrOf st).extract (sa+k) (sa+k+(na - k)):=by rw[show sa+k+(na - k)=sb by omega]
 rw[ep]
 have hp:sa+k+(na - k)<=(arrOf st).size:=by omega
 have hq:sb+l<=(arrOf st).size:=by omega
 have T:Two Ok blt ((arrOf st).extract (sa+k) (sa+k+(na - k))) ((arrOf st).extract sb (sb+l)) (X (arrOf st) (sa+k)) (X (arrOf st) sb) (X (arrOf st) (sb - 1)):=by
  refine ⟨λx hx=>?_,λx hx=>?_,Yl C hp s1 (by omega) (by omega),Yl C hq s2 (by omega) (by omega),?_,?_,?_,f2,λy hy=>?_⟩
  ·obtain ⟨m,hm,rfl⟩:=Sy hp hx
   exact g.okX h0 (by omega)
  ·obtain ⟨m,hm,rfl⟩:=Sy hq hx
   exact g.okX h0 (by omega)
  ·exact Ux hp (by omega)
  ·exact Ux hq (by omega)
  ·rw[Pt hp,Ux hp (by omega),show sa+k+(na - k - 1)=sb - 1 by omega]
  ·obtain ⟨m,hm,rfl⟩:=Sy hq hy
   exact f3 m hm
 -- Ui the merge
 have fin:∀(r:Array Keyed) (st2:Bn),Kept st1 st2->kB blt ((arrOf st).extract (sa+k) (sa+k+(na - k))) ((arrOf st).extract sb (sb+l)) r ->
   Q (Jv (setArr st2 (Mi (arrOf st2) (sa+k) r.toList.zipIdx))).isNone (setArr st2 (Mi (arrOf st2) (sa+k) r.toList.zipIdx)):=by
  intro r st2 kp hr
  have ar2:arrOf st2=arrOf st:=kp.arr.trans ar1
  have fl2:Jv st2=none:=kp.fail.trans fl1
  have rsz:r.size=na - k+l:=by
   have:=hr.1.length_eq
   rw[Cc,Ay,Ay,Ay,Pt hp,Pt hq] at this
   exact this
  have seg:((arrOf st).toList.drop (sa+k)).take (na - k+l)=((arrOf st).extract (sa+k) (sa+k+(na - k))).toList++((arrOf st).extract sb (sb+l)).toList:=by
   rw[Ta,Ta,List.take_add,List.drop_drop,show sa+k+(na - k)=sb by omega]
  have pa':=Wt (sa+k) r.toList 0 (arrOf st) (by rw[Ay]; omega)
  have xat:∀m,X (Mi (arrOf st) (sa+k) r.toList.zipIdx) m=if sa+k<=m/\m<sb+l then X r (m - (sa+k)) else X (arrOf st) m:=λm=>by
   have:=pa'.2 m
   rw[Ay,rsz,Nat.add_zero] at this
   by_cases hm:sa+k<=m/\m<sb+l
   ·rw[if_pos hm]
    rw[if_pos (by omega)] at this
    refine On (this.trans ?_)
    simp
   ·rw[if_neg hm]
    rw[if_neg (by omega)] at this
    exact On this
  -- each thing of the merged is one of the two runs'
  have from2:∀m,m<na - k+l->(∃c,sa+k<=c/\c<sb/\X r m=X (arrOf st) c)\/(∃c,sb<=c/\c<sb+l/\X r m=X (arrOf st) c):=λm hm=>by
   have hx:=Ia (Uz (xs:=r) (i:=m) (by omega))
   rcases Bi.mp (hr.1.mem_iff.mp hx) with z | z
   ·obtain ⟨c,hc,e⟩:=Sy hp z
    exact .inl ⟨sa+k+c,by omega,by omega,e⟩
   ·obtain ⟨c,hc,e⟩:=Sy hq z
    exact .inr ⟨sb+c,by omega,by omega,e⟩
  have rs:∀m n,m<=n->n<na - k+l->le blt (X r m) (X r n):=λm n hmn hn=>Js C hr.2 hmn (Dw (Uz (by omega))) (Dw (Uz (by omega)))
  have e3:Jv (setArr st2 (Mi (arrOf st2) (sa+k) r.toList.zipIdx))=none:=fl2
  rw[e3]
  refine h _ ⟨kp.kind.trans k1,e3,?_⟩ (kp.pend.trans pd1) ?_ ?_
  ·show (Mi (arrOf st2) (sa+k) r.toList.zipIdx).Perm a₀
   rw[ar2]
   refine (jV (by omega) rsz ?_).trans g.perm
   rw[seg]
   exact hr.1
  ·show Po blt (Mi (arrOf st2) (sa+k) r.toList.zipIdx) sa (sb+nb)
   rw[ar2]
   intro c d c1 cd d1
   rw[xat,xat]
   by_cases zc:sa+k<=c/\c<sb+l
   ·rw[if_pos zc]
    by_cases zd:sa+k<=d/\d<sb+l
    ·rw[if_pos zd]
     exact rs _ _ (by omega) (by omega)
    ·rw[if_neg zd]
     rcases from2 (c - (sa+k)) (by omega) with ⟨b,b1,b2,e⟩ | ⟨b,b1,b2,e⟩
     ·rw[e]
      refine C.trans (s1 b (sb - 1) (by omega) (by omega) (by omega)) ?_
      have:=f4 (d - sb) (by omega) (by omega)
      rw[show sb+(d - sb)=d by omega] at this
      exact this
     ·rw[e]
      exact s2 b d b1 (by omega) (by omega)
   ·rw[if_neg zc]
    by_cases zd:sa+k<=d/\d<sb+l
    ·rw[if_pos zd]
     rcases from2 (d - (sa+k)) (by omega) with ⟨b,b1,b2,e⟩ | ⟨b,b1,b2,e⟩
     ·rw[e]
      exact s1 c b c1 (by omega) b2
     ·rw[e]
      have:=f1 (c - sa) (by omega)
      rw[show sa+(c - sa)=c by omega] at this
      exact C.trans this (s2 sb b (Ai _) b1 (by omega))
    ·rw[if_neg zd]
     by_cases y1:d<sb
     ·exact s1 c d c1 cd y1
     ·by_cases y2:sb<=c
      ·exact s2 c d y2 cd d1
      ·have:=f1 (c - sa) (by omega)
       rw[show sa+(c - sa)=c by omega] at this
       exact C.trans this (s2 sb d (Ai _) (by omega) d1)
  ·show dU (arrOf st) (Mi (arrOf st2) (sa+k) r.toList.zipIdx) sa (sb+nb)
   rw[ar2]
   intro m hm
   rw[xat,if_neg (by omega)]
 by_cases c3:na - k<=l
 ·rw[if_pos c3]
  refine Bc (jI C T k1 λr st2 kp hr=>?_)
  exact Bc (Ik (Bc (Ls (Bf (fin r st2 kp hr)))))
 ·rw[if_neg c3]
  refine Bc (iF C T k1 λr st2 kp hr=>?_)
  exact Bc (Ik (Bc (Ls (Bf (fin r st2 kp hr)))))
end
def aP:StateT Bn Sem Unit:=sortPriv% PySem.Builtin.sortRuns
def Runs(blt:Keyed->Keyed->Bool)(xs:Array Keyed):List (Nat×Nat×Nat)->Nat->Nat->Prop
 | [],a,b=>a=b
 | (s,n,_)::r,a,b=>s=a/\1<=n/\Po blt xs a (a+n)/\Runs blt xs r (a+n) b
variable{blt:Keyed->Keyed->Bool}
theorem Runs.len{xs:Array Keyed}:∀{l:List (Nat×Nat×Nat)} {a b:Nat},Runs blt xs l a b->a+l.length<=b
 | [],a,b,h=>by
  have e:a=b:=h
  rw[Jy]
  omega
 | (s,n,p)::r,a,b,h=>by
  have:=Runs.len h.2.2.2
  have:=h.2.1
  rw[Bs]
  omega
theorem Po.out{xs ys:Array Keyed}{a b c d:Nat}(h:Po blt xs a b)(o:dU xs ys c d)(e:b<=c\/d<=a):Po blt ys a b:=λi j i1 i2 j1=>by
 rw[o i (by omega),o j (by omega)]
 exact h i j i1 i2 j1
theorem Runs.out{xs ys:Array Keyed}{c d:Nat}(o:dU xs ys c d):∀{l:List (Nat×Nat×Nat)} {a b:Nat},(b<=c\/d<=a)->Runs blt xs l a b->Runs blt ys l a b
 | [],_,_,_,h=>h
 | (s,n,p)::r,a,b,e,h=>by
  have hl:=Runs.len h.2.2.2
  exact ⟨h.1,h.2.1,h.2.2.1.out o (by omega),Runs.out o (by omega) h.2.2.2⟩
theorem Runs.push{xs:Array Keyed}{m q:Nat}(hm:1<=m):∀{l:List (Nat×Nat×Nat)} {a b:Nat},Runs blt xs l a b->Po blt xs b (b+m)->Runs blt xs (l++[(b,m,q)]) a (b+m)
 | [],a,b,h,hs=>by
  have e:a=b:=h
  subst e
  exact ⟨rfl,hm,hs,rfl⟩
 | (s,n,p)::r,a,b,h,hs=>⟨h.1,h.2.1,h.2.2.1,Runs.push hm h.2.2.2 hs⟩
theorem Runs.power{xs:Array Keyed}{pw:Nat}:∀{l:List (Nat×Nat×Nat)} {a b:Nat} (k:Nat),Runs blt xs l a b->Runs blt xs (l.modify k λx=>(x.1,x.2.1,pw)) a b
 | [],_,_,k,h=>by simpa using h
 | (s,n,p)::r,a,b,0,h=>by
  rw[List.modify_zero_cons]
  exact h
 | (s,n,p)::r,a,b,k+1,h=>by
  rw[List.modify_succ_cons]
  exact ⟨h.1,h.2.1,h.2.2.1,Runs.power k h.2.2.2⟩
theorem Runs.two{xs:Array Keyed}:∀{l:List (Nat×Nat×Nat)} {a b i sa na pa sb nb pb:Nat},Runs blt xs l a b->l[i]? = some (sa,na,pa)->l[i+1]? = some (sb,nb,pb)->sb=sa+na/\1<=na/\1<=nb/\a<=sa/\sb+nb<=b/\Po blt xs sa sb/\Po blt xs sb (sb+nb)
 | [],_,_,_,_,_,_,_,_,_,_,h,_=>by simp at h
 | (s,n,p)::r,a,b,0,sa,na,pa,sb,nb,pb,h,h1,h2=>by
  obtain ⟨e,hn,hs,hr⟩:=h
  have q:s=sa/\n=na/\p=pa:=by simpa using h1
  obtain ⟨q1,q2,q3⟩:=q
  subst q1 q2 q3
  subst e
  cases r with
  | nil=>simp at h2
  | cons y r' =>
   obtain ⟨s',n',p'⟩:=y
   have q':s'=sb/\n'=nb/\p'=pb:=by simpa using h2
   obtain ⟨q1,q2,q3⟩:=q'
   subst q1 q2 q3
   obtain ⟨e',hn',hs',hr'⟩:=hr
   have:=Runs.len hr'
   exact ⟨e',hn,hn',Ai _,by omega,by rw[e']; exact hs,by rw[e']; exact hs'⟩
 | (s,n,p)::r,a,b,i+1,sa,na,pa,sb,nb,pb,h,h1,h2=>by
  have:=Runs.two h.2.2.2 (by simpa using h1) (by simpa using h2)
  exact ⟨this.1,this.2.1,this.2.2.1,by have:=this.2.2.2.1; have:=h.2.1; omega,this.2.2.2.2.1,this.2.2.2.2.2⟩
theorem Runs.merge{xs ys:Array Keyed}:∀{l:List (Nat×Nat×Nat)} {a b i sa na pa sb nb pb:Nat},Runs blt xs l a b->l[i]? = some (sa,na,pa)->l[i+1]? = some (sb,nb,pb)->dU xs ys sa (sb+nb)->Po blt ys sa (sb+nb)->Runs blt ys ((l.set i (sa,na+nb,pa)).eraseIdx (i+1)) a b
 | [],_,_,_,_,_,_,_,_,_,_,h,_,_,_=>by simp at h
 | (s,n,p)::r,a,b,0,sa,na,pa,sb,nb,pb,h,h1,h2,o,as=>by
  have tw:=Runs.two h h1 h2
  obtain ⟨e,hn,hs,hr⟩:=h
  have q:s=sa/\n=na/\p=pa:=by simpa using h1
  obtain ⟨q1,q2,q3⟩:=q
  subst q1 q2 q3
  subst e
  cases r with
  | nil=>simp at h2
  | cons y r' =>
   obtain ⟨s',n',p'⟩:=y
   have q':s'=sb/\n'=nb/\p'=pb:=by simpa using h2
   obtain ⟨q1,q2,q3⟩:=q'
   subst q1 q2 q3
   obtain ⟨e',hn',hs',hr'⟩:=hr
   rw[List.set_cons_zero,Pm,List.eraseIdx_cons_zero]
   refine ⟨rfl,by omega,?_,?_⟩
   ·rw[show s+(n+n')=s'+n' by omega]
    exact as
   ·rw[show s+(n+n')=s+n+n' by omega]
    exact Runs.out o (.inr (by omega)) hr'
 | (s,n,p)::r,a,b,i+1,sa,na,pa,sb,nb,pb,h,h1,h2,o,as=>by
  have tw:=Runs.two (i:=i) h.2.2.2 (by simpa using h1) (by simpa using h2)
  rw[Nm,Pm]
  exact ⟨h.1,h.2.1,h.2.2.1.out o (.inl tw.2.2.2.1),Runs.merge h.2.2.2 (by simpa using h1) (by simpa using h2) o as⟩
theorem aO(P:Array (Nat×Nat×Nat))(i:Nat)(v:Nat×Nat×Nat):((P.setIfInBounds i v).eraseIdxIfInBounds (i+1)).toList=(P.toList.set i v).eraseIdx (i+1):=by
 rw[Array.toList_eraseIdxIfInBounds,Array.toList_setIfInBounds]
section
variable{prog:Bo}{w:World}{A:Co}{s:Ag}{kd:Kn}{Ok:Keyed->Prop}{E:Value->Ag->Prop}{a₀:Array Keyed}
theorem My{α:Type}{c:Prop}[Decidable c]{p q:StateT Bn Sem α}{Q:α->Bn->Prop}{st:Bn}(h1:c->wpS (model prog w) A E s p Q st)(h2:¬ c->wpS (model prog w) A E s q Q st):wpS (model prog w) A E s (if c then p else q) Q st:=by
 by_cases h:c
 ·rw[if_pos h]; exact h1 h
 ·rw[if_neg h]; exact h2 h
theorem dA(C:Cmp prog w A s kd Ok blt){st:Bn}(g:Good0 kd a₀ st)(h0:∀x∈a₀.toList,Ok x){lo i:Nat}(hlo:lo<=a₀.size)(rn:Runs blt (arrOf st) (Be st).toList 0 lo)(hi:i+1<(Be st).size){Q:Bool->Bn->Prop}(h:∀st',Good0 kd a₀ st'->Runs blt (arrOf st') (Be st').toList 0 lo->(Be st').size+1=(Be st).size->(∀c d,lo<=c->Po blt (arrOf st) c d->Po blt (arrOf st') c d)->Q true st'):wpS (model prog w) A E s (Tj i) Q st:=by
 obtain ⟨⟨sa,na,pa⟩,ha⟩ : ∃x,(Be st)[i]? = some x:=⟨(Be st)[i],by simp⟩
 obtain ⟨⟨sb,nb,pb⟩,hb⟩ : ∃x,(Be st)[i+1]? = some x:=⟨(Be st)[i+1],by simp⟩
 have la:(Be st).toList[i]? = some (sa,na,pa):=by simpa using ha
 have lb:(Be st).toList[i+1]? = some (sb,nb,pb):=by simpa using hb
 obtain ⟨t1,t2,t3,t4,t5,t6,t7⟩:=rn.two la lb
 refine jZ C g h0 ha hb t1 t2 t3 (by omega) t6 t7 λst' g' pd as ou=>?_
 refine h st' g' ?_ ?_ λc d hc hs=>hs.out ou (.inr (by omega))
 ·rw[pd,aO]
  exact rn.merge la lb ou as
 ·have : (Be st').toList.length+1=(Be st).toList.length:=by
   rw[pd,aO,List.length_eraseIdx,List.length_set,Ay,if_pos hi]
   omega
  simpa using this
theorem xW{st:Bn}(g:Good0 kd a₀ st):Good kd a₀ (Be st) st:=⟨g.kind,g.fail,g.perm,rfl⟩
theorem gN{st:Bn}{p:Array (Nat×Nat×Nat)}(g:Good kd a₀ p st):Good0 kd a₀ st:=⟨g.kind,g.fail,g.perm⟩
theorem bG(C:Cmp prog w A s kd Ok blt){st:Bn}(g:Good0 kd a₀ st)(h0:∀x∈a₀.toList,Ok x)(hp:Be st=#[])(hz:1<=a₀.size){Q:Unit->Bn->Prop}(h:∀st',Good0 kd a₀ st'->Po blt (arrOf st') 0 a₀.size->Q () st'):wpS (model prog w) A E s aP Q st:=by
 unfold aP
 refine Bc (Ls ?_)
 have hsz:(arrOf st).size=a₀.size:=g.size
 dsimp only
 rw[hsz]
 generalize (sortPriv% PySem.Builtin.minRun) a₀.size a₀.size 0=mr
 refine Bc (Ge (Dy
  (I:=λx c st'=>∃lo,c=(none,lo)/\Good0 kd a₀ st'/\Runs blt (arrOf st') (Be st').toList 0 lo/\lo<=a₀.size/\x<=lo)
  (Q:=λc st'=>c=(none,a₀.size)/\Good0 kd a₀ st'/\Runs blt (arrOf st') (Be st').toList 0 a₀.size) ?_ ?_ ⟨0,rfl,g,by rw[hp]; exact rfl,by omega,by omega⟩) ?_)
 ·(intro x c st1 _ hx q_; obtain ⟨lo,rfl,g1,rn,hlo,hxl⟩ := q_)
  dsimp only
  by_cases hge:lo ≥ a₀.size
  ·rw[if_pos hge]
   have e:lo=a₀.size:=by omega
   subst e
   exact Bf ⟨rfl,g1,rn⟩
  rw[if_neg hge]
  refine Bc (sG C (xW g1) h0 (lo:=lo) (b:=a₀.size - lo) (by omega) (by omega) λm st2 g2 m1 m2 as ou=>?_)
  dsimp only
  have rn2:Runs blt (arrOf st2) (Be st2).toList 0 lo:=by
   rw[g2.pd]
   exact rn.out ou (.inl (Ai _))
  have g2':=gN g2
  clear rn g1
  refine My (λhmin=>?_) (λhmin=>?_)
  ·refine Bc (Rg ?_)
   refine Bc (oW C g2 h0 (lo:=lo) (n:=min (a₀.size - lo) mr) (ok:=m) (by omega) as (by omega) λst3 g3 as3 ou3=>?_)
   refine My (λz=>absurd z (by decide)) (λ_=>?_)
   have n1:1<=min (a₀.size - lo) mr:=by omega
   have n2:lo+min (a₀.size - lo) mr<=a₀.size:=by omega
   have rn3:Runs blt (arrOf st3) (Be st3).toList 0 lo:=by
    rw[g3.pd,<- g2.pd]
    exact rn2.out ou3 (.inl (Ai _))
   have g3':=gN g3
   generalize min (a₀.size - lo) mr=n at as3 n1 n2
   clear g2 g2' rn2 as ou ou3 g3 m1 m2 hmin
   refine Bc (Ls ?_)
   cases hb:(Be st3).back? with
   | none =>
    dsimp only
    refine Bc (Ik ?_)
    refine Bf ⟨lo+n,rfl,⟨g3'.kind,g3'.fail,g3'.perm⟩,?_,n2,by omega⟩
    show Runs blt (arrOf st3) ((Be st3).push (lo,n,0)).toList 0 (lo+n)
    rw[Ko]
    exact rn3.push n1 as3
   | some y =>
    obtain ⟨s1,l1,p1⟩:=y
    dsimp only
    refine Bc (Ge (Dy
     (I:=λ_ c st'=>c=(none,())/\Good0 kd a₀ st'/\Runs blt (arrOf st') (Be st').toList 0 lo/\Po blt (arrOf st') lo (lo+n))
     (Q:=λc st'=>c=(none,())/\Good0 kd a₀ st'/\Runs blt (arrOf st') (Be st').toList 0 lo/\Po blt (arrOf st') lo (lo+n)) ?_ (λ_ _ z=>z) ⟨rfl,g3',rn3,as3⟩) ?_)
    ·(intro z c st4 _ _ q_; obtain ⟨rfl,g4,rn4,as4⟩ := q_)
     refine Bc (Ls ?_)
     by_cases hs1:(Be st4).size > 1
     ·rw[if_pos hs1]
      obtain ⟨⟨a1,b1,older⟩,ho⟩ : ∃x,(Be st4)[(Be st4).size - 2]? = some x:=⟨(Be st4)[(Be st4).size - 2],by simp⟩
      rw[ho]
      dsimp only
      refine My (λ_=>Bf ⟨rfl,g4,rn4,as4⟩) (λ_=>?_)
      refine Bc (dA C g4 h0 hlo rn4 (i:=(Be st4).size - 2) (show (Be st4).size - 2+1<(Be st4).size by omega) λst5 g5 rn5 _ keep=>?_)
      refine My (λz=>absurd z (by decide)) (λ_=>?_)
      exact Bf ⟨rfl,g5,rn5,keep _ _ (Ai _) as4⟩
     ·rw[if_neg hs1]
      exact Bf ⟨rfl,g4,rn4,as4⟩
    ·(intro c st4 q_; obtain ⟨rfl,g4,rn4,as4⟩ := q_)
     dsimp only
     refine Bc (Ik ?_)
     refine Bc (Ik ?_)
     refine Bf ⟨lo+n,rfl,⟨g4.kind,g4.fail,g4.perm⟩,?_,n2,by omega⟩
     show Runs blt (arrOf st4) (((Be st4).modify ((Be st4).size - 1) _).push (lo,n,0)).toList 0 (lo+n)
     rw[Ko,Array.toList_modify]
     exact (rn4.power _).push n1 as4
  ·have n2:lo+m<=a₀.size:=by omega
   refine Bc (Ls ?_)
   cases hb:(Be st2).back? with
   | none =>
    dsimp only
    refine Bc (Ik ?_)
    refine Bf ⟨lo+m,rfl,⟨g2'.kind,g2'.fail,g2'.perm⟩,?_,n2,by omega⟩
    show Runs blt (arrOf st2) ((Be st2).push (lo,m,0)).toList 0 (lo+m)
    rw[Ko]
    exact rn2.push m1 as
   | some y =>
    obtain ⟨s1,l1,p1⟩:=y
    dsimp only
    refine Bc (Ge (Dy
     (I:=λ_ c st'=>c=(none,())/\Good0 kd a₀ st'/\Runs blt (arrOf st') (Be st').toList 0 lo/\Po blt (arrOf st') lo (lo+m))
     (Q:=λc st'=>c=(none,())/\Good0 kd a₀ st'/\Runs blt (arrOf st') (Be st').toList 0 lo/\Po blt (arrOf st') lo (lo+m)) ?_ (λ_ _ z=>z) ⟨rfl,g2',rn2,as⟩) ?_)
    ·(intro z c st4 _ _ q_; obtain ⟨rfl,g4,rn4,as4⟩ := q_)
     refine Bc (Ls ?_)
     by_cases hs1:(Be st4).size > 1
     ·rw[if_pos hs1]
      obtain ⟨⟨a1,b1,older⟩,ho⟩ : ∃x,(Be st4)[(Be st4).size - 2]? = some x:=⟨(Be st4)[(Be st4).size - 2],by simp⟩
      rw[ho]
      dsimp only
      refine My (λ_=>Bf ⟨rfl,g4,rn4,as4⟩) (λ_=>?_)
      refine Bc (dA C g4 h0 hlo rn4 (i:=(Be st4).size - 2) (show (Be st4).size - 2+1<(Be st4).size by omega) λst5 g5 rn5 _ keep=>?_)
      refine My (λz=>absurd z (by decide)) (λ_=>?_)
      exact Bf ⟨rfl,g5,rn5,keep _ _ (Ai _) as4⟩
     ·rw[if_neg hs1]
      exact Bf ⟨rfl,g4,rn4,as4⟩
    ·(intro c st4 q_; obtain ⟨rfl,g4,rn4,as4⟩ := q_)
     dsimp only
     refine Bc (Ik ?_)
     refine Bc (Ik ?_)
     refine Bf ⟨lo+m,rfl,⟨g4.kind,g4.fail,g4.perm⟩,?_,n2,by omega⟩
     show Runs blt (arrOf st4) (((Be st4).modify ((Be st4).size - 1) _).push (lo,m,0)).toList 0 (lo+m)
     rw[Ko,Array.toList_modify]
     exact (rn4.power _).push m1 as4
 ·(intro c st1 q_; obtain ⟨lo,rfl,g1,rn,hlo,hxl⟩ := q_)
  have : max 0 a₀.size=a₀.size:=by omega
  rw[this] at hxl
  have e:lo=a₀.size:=by omega
  subst e
  exact ⟨rfl,g1,rn⟩
 ·(intro c st1 q_; obtain ⟨rfl,g1,rn⟩ := q_)
  dsimp only
  have len0:=Runs.len rn
  rw[Ay] at len0
  refine Bc (Ge (Dy
   (I:=λx c st'=>c=(none,())/\Good0 kd a₀ st'/\Runs blt (arrOf st') (Be st').toList 0 a₀.size/\((Be st').size<=1\/(Be st').size+x<=a₀.size))
   (Q:=λc st'=>c=(none,())/\Good0 kd a₀ st'/\Runs blt (arrOf st') (Be st').toList 0 a₀.size/\(Be st').size<=1) ?_ ?_ ⟨rfl,g1,rn,.inr (by omega)⟩) ?_)
  ·(intro x c st2 _ hx q_; obtain ⟨rfl,g2,rn2,hs⟩ := q_)
   refine Bc (Ls ?_)
   refine My (λh1=>Bf ⟨rfl,g2,rn2,h1⟩) (λh1=>?_)
   have h1':¬ (Be st2).size<=1:=h1
   generalize hB:Option.any _ _=bb
   have key:∀i,i+1<(Be st2).size->wpS (model prog w) A E s (Tj i) (λr st3=>r=true/\Good0 kd a₀ st3/\Runs blt (arrOf st3) (Be st3).toList 0 a₀.size/\(Be st3).size+1=(Be st2).size) st2 :=
    λi hi=>dA C g2 h0 (Ai _) rn2 hi λst3 g3 rn3 sz _=>⟨rfl,g3,rn3,sz⟩
   refine Bc (Ge (key _ ?_) λr st3 ⟨er,g3,rn3,sz⟩=>?_)
   ·cases bb with
    | true=>show (Be st2).size - 2 - 1+1<(Be st2).size; omega
    | false=>show (Be st2).size - 2+1<(Be st2).size; omega
   subst er
   refine My (λz=>absurd z (by decide)) (λ_=>?_)
   exact Bf ⟨rfl,g3,rn3,.inr (by omega)⟩
  ·(intro c st2 q_; obtain ⟨rfl,g2,rn2,hs⟩ := q_)
   have : max 0 a₀.size=a₀.size:=by omega
   rw[this] at hs
   exact ⟨rfl,g2,rn2,by omega⟩
  ·(intro c st2 q_; obtain ⟨rfl,g2,rn2,hs⟩ := q_)
   dsimp only
   refine Bf (h st2 g2 ?_)
   generalize hl:(Be st2).toList=l at rn2
   have hll:l.length<=1:=by rw[<- hl,Ay]; exact hs
   match l,rn2,hll with
   | [],rn2,_ =>
    have e:0=a₀.size:=rn2
    omega
   | [(s1,n1,p1)],rn2,_ =>
    obtain ⟨_,_,as,e⟩:=rn2
    have e':0+n1=a₀.size:=e
    rw[e'] at as
    exact as
end
end Ts
namespace Ts
open PySem PyProof.Rows L2
theorem lS:∀l:List Int,HT.lexLt l l=false
 | []=>rfl
 | x::r=>by rw[HT.lexLt_cons,if_pos rfl]; exact lS r
theorem iY:∀{a b c:List Int},HT.lexLt a b=true->HT.lexLt b c=true->HT.lexLt a c=true
 | [],[],_,h,_=>by rw[HT.lexLt_nil_nil] at h; cases h
 | [],_::_,[],_,h=>by rw[HT.lexLt_cons_nil] at h; cases h
 | [],_::_,_::_,_,_=>HT.lexLt_nil_cons _ _
 | _::_,[],_,h,_=>by rw[HT.lexLt_cons_nil] at h; cases h
 | _::_,_::_,[],_,h=>by rw[HT.lexLt_cons_nil] at h; cases h
 | x::a,y::b,z::c,h1,h2=>by
  rw[HT.lexLt_cons] at h1 h2 ⊢
  by_cases e1:x=y
  ·subst e1
   rw[if_pos rfl] at h1
   by_cases e2:x=z
   ·subst e2
    rw[if_pos rfl] at h2 ⊢
    exact iY h1 h2
   ·rw[if_neg e2] at h2 ⊢
    exact h2
  ·rw[if_neg e1] at h1
   have l1:x<y:=of_decide_eq_true h1
   by_cases e2:y=z
   ·subst e2
    rw[if_neg e1]
    exact h1
   ·rw[if_neg e2] at h2
    have l2:y<z:=of_decide_eq_true h2
    rw[if_neg (by omega)]
    exact decide_eq_true (by omega)
theorem dP:∀{a b:List Int},HT.lexLt a b=false->HT.lexLt b a=false->a=b
 | [],[],_,_=>rfl
 | [],_::_,h,_=>by rw[HT.lexLt_nil_cons] at h; cases h
 | _::_,[],_,h=>by rw[HT.lexLt_nil_cons] at h; cases h
 | x::a,y::b,h1,h2=>by
  rw[HT.lexLt_cons] at h1 h2
  by_cases e:x=y
  ·subst e
   rw[if_pos rfl] at h1 h2
   rw[dP h1 h2]
  ·rw[if_neg e] at h1
   rw[if_neg (Ld e)] at h2
   have l1:=of_decide_eq_false h1
   have l2:=of_decide_eq_false h2
   omega
theorem yM{a b c:List Int}(h:HT.lexLt a c=true):HT.lexLt a b=true\/HT.lexLt b c=true:=by
 cases h1:HT.lexLt a b with
 | true=>exact .inl rfl
 | false =>
  cases h2:HT.lexLt b a with
  | true=>exact .inr (iY h2 h)
  | false =>
   rw[<- dP h1 h2]
   exact .inr h
def AF(c:Addr->List Int)(x:Keyed):List Int:=match x.1 with
 | .ref a=>c a
 | _=>[]
def AG(c:Addr->List Int)(x y:Keyed):Bool:=HT.lexLt (AF c x) (AF c y)
def nE(c:Addr->List Int)(rs:List Addr)(h:Heap):Prop:=∀r∈rs,∃its:List Value,Jj its (c r)/\IsTup h r its.toArray
section
variable{prog:Bo}{w:World}{A:Co}{E:Value->Ag->Prop}{s:Ag}{c:Addr->List Int}{rs:List Addr}
theorem nV(hH:nE c rs s.heap)(hu:A.units<cLine){a b:Addr}(ha:a∈rs)(hb:b∈rs){Q:Bool->Ag->Prop}(h:Q (HT.lexLt (c a) (c b)) s):wpAny (model prog w) A (oneLt' true (.ref a) (.ref b)) Q E s:=by
 obtain ⟨i1,t1,⟨c1,d1,dt1,sl1⟩,g1,k1,n1,e1⟩:=hH a ha
 obtain ⟨i2,t2,⟨c2,d2,dt2,sl2⟩,g2,k2,n2,e2⟩:=hH b hb
 simp only at k1 e1 k2 e2
 subst k1 e1 k2 e2
 rw[oneLt'_eq]
 simp only[if_true]
 refine Aa (wpAny_cRoomFor hu (Aa (wpAny_callSpecialIfBound?_slot ⟨_,g1,rfl⟩ PySem.F.slot_tuple_lt ?_)))
 refine Zf PySem.F.slot_tuple_lt ⟨_,g1,rfl⟩ PySem.F.entry_tuple_lt (PySem.F.args_tuple_lt_2 _ _) (HT.tuple_lt_ints a b _ _ n1 n2 d1 d2 sl1 sl2 (c a) (c b) (by simpa using t1) (by simpa using t2)) ⟨g1,g2,?_⟩
 exact Hb h
theorem yL(hH:nE c rs s.heap)(hu:A.units<cLine):Cmp prog w A s Rq (λx=>∃r∈rs,x.1=.ref r) (AG c) where
 run:=λx y Q E ⟨r,hr,ex⟩ ⟨r',hr',ey⟩ h=>by
  obtain ⟨x1,x2⟩:=x
  obtain ⟨y1,y2⟩:=y
  simp only at ex ey
  subst ex ey
  rw[keyLt'_oneType]
  exact nV hH hu hr hr' h
 irr:=λx=>lS _
 tr:=λx y z h1 h2=>iY h1 h2
 neg:=λx y z h=>yM h
theorem Ye:∀{l:List Addr} {Q:List (Option Value)->Ag->Prop},(∀r∈l,∃its:List Value,Jj its (c r)/\IsTup s.heap r its.toArray)->(∀fs:List (Option Value),fs.length=l.length->(∀(i:Nat) (r:Addr),l[i]? = some r->∃f,fs[i]? = some f/\(f.isSome=true↔c r≠[]))->Q fs s)->wpAny (model prog w) A ((l.map Ax).mapM Yv) Q E s
 | [],Q,_,h=>by
  rw[Ji,List.mapM_nil]
  exact Aj (h [] rfl λi r e=>by simp at e)
 | r::l,Q,hH,h=>by
  obtain ⟨its,ti,o,g,k,n,e⟩:=hH r Ab
  rw[Au,List.mapM_cons]
  have one:∀{R:Option Value->Ag->Prop},R its.toArray[0]? s->wpAny (model prog w) A (Yv (.ref r)) R E s:=λ{R} hR=>by
   unfold Yv
   refine Aa (Sk (T := "tuple") ⟨o,g,k⟩ ?_)
   rw[if_neg (by simp)]
   exact Aa (Sn g e (Aj hR))
  refine Aa (one (Aa (Ye (λr' hr'=>hH r' (Af _ hr')) λfs hl hf=>Aj (h _ (by rw[Bs,Bs,hl]) λi r' er=>?_))))
  cases i with
  | zero =>
   have e':r=r':=by simpa using er
   subst e'
   refine ⟨_,rfl,?_⟩
   have hlen:=ti.length
   cases its with
   | nil =>
    cases hc:c r with
    | nil=>simp
    | cons _ _=>rw[hc] at hlen; simp at hlen
   | cons a b =>
    cases hc:c r with
    | nil=>rw[hc] at hlen; simp at hlen
    | cons _ _=>simp
  | succ i =>
   obtain ⟨f,h1,h2⟩:=hf i r' (by simpa using er)
   exact ⟨f,by simpa using h1,h2⟩
theorem aB:∀{l:List Addr} {Q:List Value->Ag->Prop},(∀r∈l,∃its:List Value,Jj its (c r)/\IsTup s.heap r its.toArray)->Q (l.map λ_=>Gx "tuple") s->wpAny (model prog w) A ((l.map Ax).mapM typeOf) Q E s
 | [],Q,_,h=>by
  rw[Ji,List.mapM_nil]
  exact Aj h
 | r::l,Q,hH,h=>by
  obtain ⟨its,ti,o,g,k,n,e⟩:=hH r Ab
  rw[Au,List.mapM_cons]
  exact Aa (Sk (T := "tuple") ⟨o,g,k⟩ (Aa (aB (λr' hr'=>hH r' (Af _ hr')) (Aj h))))
theorem uV{r:Addr}{l:List Addr}(hH:nE c (r::l) s.heap)(h0:c r=[]){Q:Kn->Ag->Prop}(h:Q Rq s):wpAny (model prog w) A (keyKind' ((r::l).map Ax).toArray) Q E s:=by
 rw[keyKind'_eq,List.mapM_toArray]
 refine Aa ?_
 show wpAny (model prog w) A (List.toArray <$> ((r::l).map Ax).mapM Yv) _ E s
 rw[map_eq_pure_bind]
 refine Aa (Ye hH λfs hl hf=>Aj ?_)
 obtain ⟨f,h1,h2⟩:=hf 0 r rfl
 have fn:f=none:=by
  cases f with
  | none=>rfl
  | some v=>exact absurd h0 (h2.mp rfl)
 subst fn
 have na:¬ (fs.toArray.all λx=>x.isSome)=true:=by
  intro z
  have:=Array.all_eq_true'.mp z none (by
   have:=Aq h1
   simpa using this)
  simp at this
 have n0:¬ (fs.toArray[0]?.bind id).isSome=true:=by
  rw[List.getElem?_toArray,h1]
  simp
 rw[if_neg na,if_neg n0,oneTypeOnly'_eq,List.mapM_toArray]
 refine Aa (Aa ?_)
 show wpAny (model prog w) A (List.toArray <$> ((r::l).map Ax).mapM typeOf) _ E s
 rw[map_eq_pure_bind]
 refine Aa (aB hH (Aj ?_))
 have e0:((r::l).map λ_=>Gx "tuple").toArray[0]? = some (Gx "tuple"):=by simp
 have ea:(((r::l).map λ_=>Gx "tuple").toArray.all λx=>x == Gx "tuple")=true:=by
  simp only[List.all_toArray,Wb,Yy]
  intro _ _
  rfl
 rw[e0]
 dsimp only
 rw[ea,if_pos rfl]
 exact Aj (Aj h)
theorem oG{a:Addr}{n:Nat}{P:Fin->Ag->Prop}(hl:s.heap.get? a=some (Ci "list" (rs.map Ax).toArray n))(hH:nE c rs s.heap)(h0:∀r l,rs=r::l->c r=[])(hu:A.units<cLine)(hz:rs.length<=Ap)(h:∀rs':List Addr,rs'.Perm rs->rs'.Pairwise (λx y=>HT.lexLt (c y) (c x)=false)->P (.done (.ret .none)) { s with heap:=sortedHeap s.heap a (rs.map Ax) (rs'.map Ax).toArray }):wpAny (model prog w) A (Builtin.«list.sort» ⟨[.ref a],[]⟩) P E s:=by
 have lt:=Ba hl
 have hsz:(rs.map Ax).toArray.size=rs.length:=by simp
 rw[list_sort_plain]
 refine Aa (Sn hl rfl (Aa (Jd hl rfl ?_ (by rw[hsz]; exact hz))))
 obtain ⟨ep,hl1⟩ : ∃ep,(s.heap.update a (By λ_=>#[])).get? a=some (Ci "list" #[] ep):=⟨_,Iw hl (λ_=>#[])⟩
 refine Aa (Qk hl1 rfl (Aa (Pc (Aa (Mq (Cz ?_)) ))))
 have hl2:(((s.heap.update a (By λ_=>#[])).push (Ci "tuple" (rs.map Ax).toArray 0)).push (Ci "list" #[] 0)).get? a=some (Ci "list" #[] ep):=by
  rw[Heap.get?_push_ne _ _ _ (by rw[Pd,Ga]; exact Br (Wo lt)),
   Heap.get?_push_ne _ _ _ (by rw[Ga]; exact Br lt)]
  exact hl1
 have kept:∀b o,b≠a->s.heap.get? b=some o->(((s.heap.update a (By λ_=>#[])).push (Ci "tuple" (rs.map Ax).toArray 0)).push (Ci "list" #[] 0)).get? b=some o:=λb o hb e=>by
  refine Ae _ (Ae _ ?_)
  exact ((Cg s.heap a _).2 b hb).trans e
 have hH2:nE c rs (((s.heap.update a (By λ_=>#[])).push (Ci "tuple" (rs.map Ax).toArray 0)).push (Ci "list" #[] 0)):=λr hr=>by
  obtain ⟨its,t1,o,g1,k1,m1,e1⟩:=hH r hr
  refine ⟨its,t1,o,kept r o ?_ g1,k1,m1,e1⟩
  rintro rfl
  rw[hl] at g1
  cases g1
  exact absurd k1 (by simp)
 show wpAny (model prog w) A _ P E { s with heap:=((s.heap.update a (By λ_=>#[])).push (Ci "tuple" (rs.map Ax).toArray 0)).push (Ci "list" #[] 0) }
 dsimp only
 -- what is left Ui the runs
 have fin:∀(out:Array Value) (rs':List Addr),out=(rs'.map Ax).toArray->rs'.Perm rs->rs'.Pairwise (λx y=>HT.lexLt (c y) (c x)=false) ->
   P (.done (.ret .none)) { s with heap:=sortedHeap s.heap a (rs.map Ax) out }:=λout rs' e p1 p2=>by rw[e]; exact h rs' p1 p2
 by_cases h2:(rs.map Ax).toArray.size<2
 ·rw[if_pos h2,if_pos h2]
  refine Aa (Aj ?_)
  rw[StateT.run_pure]
  refine Aa (Aj (Aa (Qk hl2 rfl (Aa (Jd hl2 rfl ?_ (by simp) ?_)))))
  ·simp only[bne_self_eq_false,Bq,if_false]
   refine Aj (fin _ rs ?_ (List.Perm.refl _) ?_)
   ·show Array.map (λx=>x.2) ((rs.map Ax).toArray.zip (rs.map Ax).toArray)=_
    apply Array.ext'
    simp [List.map_snd_zip]
   ·rw[hsz] at h2
    match rs,h2 with
    | [],_=>exact Jp
    | [_],_=>exact Kh _ _
    | _::_::_,h2=>simp only[Bs] at h2; omega
  ·show (Array.map (λx:Keyed=>x.2) ((rs.map Ax).toArray.zip (rs.map Ax).toArray)).size<=Ap+1
   rw[Array.size_map,Array.size_zip,hsz]
   omega
 ·rw[if_neg h2,if_neg h2]
  rw[hsz] at h2
  obtain ⟨r0,Fv,e0⟩ : ∃r l,rs=r::l:=by
   cases rs with
   | nil=>simp at h2
   | cons r l=>exact ⟨r,l,rfl⟩
  have hk:∀{R:Kn->Ag->Prop},R Rq { s with heap:=((s.heap.update a (By λ_=>#[])).push (Ci "tuple" (rs.map Ax).toArray 0)).push (Ci "list" #[] 0) } ->
    wpAny (model prog w) A (keyKind' (rs.map Ax).toArray) R E { s with heap:=((s.heap.update a (By λ_=>#[])).push (Ci "tuple" (rs.map Ax).toArray 0)).push (Ci "list" #[] 0) }:=λ{R} hR=>by
   have hH3:=hH2
   rw[e0] at hH3 hR ⊢
   exact uV hH3 (h0 r0 Fv e0) hR
  refine Aa (hk ?_)
  have C:=yL (prog:=prog) (w:=w) (A:=A) (s:={ s with heap:=((s.heap.update a (By λ_=>#[])).push (Ci "tuple" (rs.map Ax).toArray 0)).push (Ci "list" #[] 0) }) hH2 hu
  have a0:(pairsOf (rs.map Ax)).size=rs.length:=by rw[pairsOf_size,Ac]
  refine Aa (Eh (bG C (a₀:=pairsOf (rs.map Ax)) (st:=Tx Rq ((rs.map Ax).toArray.zip (rs.map Ax).toArray) #[] 7 none) (E:=E)
   (Q:=λ_ st'=>Good0 Rq (pairsOf (rs.map Ax)) st'/\Po (AG c) (arrOf st') 0 (pairsOf (rs.map Ax)).size)
   ⟨rfl,rfl,Array.Perm.refl _⟩ (λx hx=>?_) rfl (by rw[a0]; omega) λst' g as=>⟨g,as⟩) ?_ λ_ _ z=>z)
  ·rw[pairsOf_toList] at hx
   obtain ⟨_,hm⟩:=mem_zip_self hx
   obtain ⟨r,hr,e⟩:=Bt.mp hm
   exact ⟨r,hr,e.symm⟩
  ·(rintro ⟨⟨⟩,st'⟩ s' q_; obtain ⟨rfl,g,as⟩ := q_)
   dsimp only
   -- the things of the new order
   have pl:(arrOf st').toList.Perm ((rs.map Ax).zip (rs.map Ax)):=by rw[<- pairsOf_toList]; exact Nh.mp g.perm
   have each:∀x∈(arrOf st').toList,∃r∈rs,x=(Ax r,Ax r):=λx hx=>by
    obtain ⟨e,hm⟩:=mem_zip_self (pl.mem_iff.mp hx)
    obtain ⟨r,hr,e2⟩:=Bt.mp hm
    refine ⟨r,hr,?_⟩
    obtain ⟨x1,x2⟩:=x
    simp only at e e2
    rw[<- e,e2]
   have ex:∀l:List Keyed,(∀x∈l,∃r∈rs,x=(Ax r,Ax r))->∃rs':List Addr,l=rs'.map λr=>(Ax r,Ax r):=by
    intro l
    induction l with
    | nil=>intro _; exact ⟨[],rfl⟩
    | cons x l ih =>
     intro hx
     obtain ⟨r,_,e⟩:=hx x Ab
     obtain ⟨rs',e'⟩:=ih λy hy=>hx y (Af _ hy)
     exact ⟨r::rs',by rw[Au,e,e']⟩
   obtain ⟨rs',ers⟩:=ex _ each
   have zz:(rs.map Ax).zip (rs.map Ax)=rs.map λr=>(Ax r,Ax r):=by
    rw[List.zip_map',]
   rw[ers,zz] at pl
   have inj:∀x:Keyed,∃a:Addr,True:=λ_=>⟨0,trivial⟩
   have pr:rs'.Perm rs:=by
    have:=pl.map (λx:Keyed=>match x.1 with | .ref a=>a | _=>0)
    rw[Bw,Bw] at this
    simpa [Function.comp_def] using this
   have so:rs'.Pairwise (λx y=>HT.lexLt (c y) (c x)=false):=by
    rw[Df]
    intro i j hi hj hij
    have ls:(arrOf st').size=rs'.length:=by
     have:=congrArg Fl ers
     rw[Ay,Ac] at this
     exact this
    have xe:∀k (hk:k<rs'.length),X (arrOf st') k=(Ax rs'[k],Ax rs'[k]):=λk hk=>by
     have e1:=Dw (Uz (xs:=arrOf st') (i:=k) (by omega))
     rw[ers,Aw,An hk] at e1
     exact (Bk e1).symm
    have:=as i j (Ct _) (by omega) (by rw[a0,<- pr.length_eq]; exact hj)
    rw[xe i hi,xe j hj] at this
    exact this
   refine Aa (Qk hl2 rfl (Aa (Jd hl2 rfl ?_ (by simp) ?_)))
   ·have fl:Jv st'=none:=g.fail
    rw[fl]
    simp only[bne_self_eq_false,Bq,if_false]
    refine Aj (fin _ rs' ?_ pr so)
    apply Array.ext'
    rw[Array.toList_map,ers,Bw]
    rfl
   ·show (Array.map (λx:Keyed=>x.2) (arrOf st')).size<=Ap+1
    rw[Array.size_map,g.size,a0]
    omega
end
theorem Qz:∀{rs:List Addr} {us:List Value},En (rs.map V.ref) us->us=rs.map Ax
 | [],_,r=>by cases r; rfl
 | a::l,_,r=>by
  rw[Au] at r
  cases r with
  | cons r1 r2 =>
   cases r1
   rw[Qz r2]
   rfl
theorem Um:∀rs:List Addr,En (rs.map V.ref) (rs.map Ax)
 | []=>.nil
 | _::l=>.cons rfl (Um l)
section
variable{prog:Bo}{w:World}{A:Co}{E:Value->Ag->Prop}{s:Ag}{c:Addr->List Int}{rs:List Addr}
theorem fZ{l:Addr}{Q:Value->Ag->Prop}(hl:s.heap.IsList l (rs.map Ax).toArray)(hH:nE c rs s.heap)(h0:∀r l,rs=r::l->c r=[])(hu:A.units+2<cLine)(hz:rs.length<=Ap)(h:∀rs':List Addr,rs'.Perm rs->rs'.Pairwise (λx y=>HT.lexLt (c y) (c x)=false)->Q (.ref (s.heap.objs.size+1)) { s with heap:=sortedAll s.heap (rs.map Ax) (rs'.map Ax).toArray }):wpAny (model prog w) A (call (.builtin "sorted") [.ref l]) Q E s:=by
 refine Calls.call_function_entry (by exact kind_sorted) plain_sorted entry_sorted (args_sorted1 _) ?_
 unfold Ud
 refine Aa (m:=checkCount "sorted" 1 1 _) (Aj (Aa (collect_list hl (Aa (Mq ?_)) (by rw[Ac]; exact hz))))
 have z1:((s.heap.push (Ci "list" #[] 0)).update s.heap.objs.size (By (·++(rs.map Ax).toArray))).objs.size=s.heap.objs.size+1:=by rw[Ga,Pd]
 have g1:(((s.heap.push (Ci "list" #[] 0)).update s.heap.objs.size (By (·++(rs.map Ax).toArray))).push (Ci "list" (rs.map Ax).toArray 0)).get? (s.heap.objs.size+1)=some (Ci "list" (rs.map Ax).toArray 0):=by
  rw[<- z1]
  exact Ar _ rfl
 have kept:∀b o,s.heap.get? b=some o->(((s.heap.push (Ci "list" #[] 0)).update s.heap.objs.size (By (·++(rs.map Ax).toArray))).push (Ci "list" (rs.map Ax).toArray 0)).get? b=some o:=λb o e=>by
  refine Ae _ (((Cg _ _ _).2 b (Br (Ba e))).trans (Ae _ e))
 show wpAny _ _ _ _ _ { s with heap:=((s.heap.push (Ci "list" #[] 0)).update s.heap.objs.size (By (·++(rs.map Ax).toArray))).push (Ci "list" (rs.map Ax).toArray 0) }
 rw[z1]
 refine Aa (Cz (Fm slot_list_sort ⟨_,g1,rfl⟩ entry_list_sort (oG g1 (λr hr=>?_) h0 ?_ hz λrs' p1 p2=>⟨_,rfl,?_⟩) (args_list_sort _)))
 ·obtain ⟨its,t1,o,q1,k1,m1,e1⟩:=hH r hr
  exact ⟨its,t1,o,kept r o q1,k1,m1,e1⟩
 ·first | exact Ht (by show A.units+2<=A.units+2; exact Ai _) hu | exact Ht (Jm _ 2) hu | (show A.units+1<cLine; omega) | trace_state
 ·exact Aj ⟨_,rfl,h rs' p1 p2⟩
theorem Vq{h:Heap}{vs:List Value}{out:Array Value}{b:Addr}{o:Obj}(e:h.get? b=some o):(sortedAll h vs out).get? b=some o:=by
 have lt:=Ba e
 unfold sortedAll sortedHeap
 have z1:((h.push (Ci "list" #[] 0)).update h.objs.size (By (·++vs.toArray))).objs.size=h.objs.size+1:=by rw[Ga,Pd]
 have n1:b≠h.objs.size+1:=Br (Wo lt)
 refine ((Cg _ _ _).2 b n1).trans (Ae _ (Ae _ (((Cg _ _ _).2 b n1).trans (Ae _ ?_))))
 exact ((Cg _ _ _).2 b (Br lt)).trans (Ae _ e)
theorem Zx{h:Heap}{vs:List Value}{out:Array Value}:∃n,(sortedAll h vs out).get? (h.objs.size+1)=some (Ci "list" out n):=by
 unfold sortedAll sortedHeap
 have z1:((h.push (Ci "list" #[] 0)).update h.objs.size (By (·++vs.toArray))).objs.size=h.objs.size+1:=by rw[Ga,Pd]
 have g1:(((h.push (Ci "list" #[] 0)).update h.objs.size (By (·++vs.toArray))).push (Ci "list" vs.toArray 0)).get? (h.objs.size+1)=some (Ci "list" vs.toArray 0):=by
  rw[<- z1]
  exact Ar _ rfl
 have g2:=Iw g1 (λ_=>#[])
 have g3:=Ae (Ci "list" #[] 0) (Ae (Ci "tuple" vs.toArray 0) g2)
 exact ⟨_,Iw g3 (λ_=>out)⟩
end
section
variable{X:Cx}
theorem call_sorted(hu:X.A.units+2<cLine):Lr X (.builtin "sorted") (λxs H Q=>∃(a:Addr) (rs:List Addr) (c:Addr->List Int),xs=[.ref a]/\Kq X.K H a (rs.map V.ref)/\(∀r∈rs,Sj X.K H r ((c r).map V.int))/\(∀r l,rs=r::l->c r=[])/\∀(p:Addr) (rs':List Addr),H p=none->rs'.Perm rs->rs'.Pairwise (λx y=>HT.lexLt (c y) (c x)=false)->Q (.ref p) (upd H p (.lst (rs'.map V.ref)))):=by
 intro pins s σ H xs us Q I r h
 obtain ⟨a,rs,c,rfl,hl,hc,h0,q⟩:=h
 obtain ⟨u,rfl,ru⟩:=vals1 r
 cases ru
 obtain ⟨its,rv,pl,hz⟩:=I.list hl
 have e:=Qz rv
 subst e
 rw[Ac] at hz
 refine fZ (c:=c) pl.isList (λr hr=>?_) h0 hu hz λrs' p1 p2=>?_
 ·obtain ⟨ti,t1,t2,_⟩:=I.tuple (hc r hr)
  exact ⟨ti,intsAre_of t1,t2⟩
 ·obtain ⟨n,hn⟩:=Zx (h:=s.heap) (vs:=rs.map Ax) (out:=(rs'.map Ax).toArray)
  refine ⟨.ref (s.heap.objs.size+1),upd H (s.heap.objs.size+1) (.lst (rs'.map V.ref)),I.laid (t':=s.toks) (λb o e=>Vq e) (Sr _) ⟨?_,_,n,Um rs',hn⟩,rfl,q _ rs' (I.hok.fresh (Sr _)) p1 p2⟩
  rw[Ac,p1.length_eq]
  exact hz
end
section
variable{prog:Bo}{w:World}{A:Co}{E:Value->Ag->Prop}{s:Ag}{c:Addr->List Int}{rs:List Addr}
theorem wR{b:Bool}{x y:Int}{t u:Tok}{Q:Bool->Ag->Prop}(h:Q (decide (x<y)) s):wpAny (model prog w) A (oneLt' b (.int x t) (.int y u)) Q E s:=by
 cases b with
 | true=>exact oneLt_int h
 | false=>exact PySem.W.kat_one _ _ (lt_int h)
end
end Ts
namespace DL
open PySem L2 Nd
def Vw{α:Type}(xs:List α)(lo hi:Option Int):List α:=(xs.drop (HT.sIx xs.length 0 lo)).take (HT.sIx xs.length xs.length hi - HT.sIx xs.length 0 lo)
theorem sS{α β:Type}(f:α->β)(xs:List α)(lo hi:Option Int):Vw (xs.map f) lo hi=(Vw xs lo hi).map f:=by
 unfold Vw
 rw[Ac,List.map_take,List.map_drop]
theorem pR{α:Type}(xs:List α)(lo hi:Option Int):(Vw xs lo hi).Sublist xs:=(Ku _ _).trans (Ir _ _)
theorem oB{α:Type}(xs:List α)(k:Nat):Vw xs none (some (k:Int))=xs.take k:=by
 unfold Vw
 rw[HT.sIx_none,HT.sIx_nat,List.drop_zero,Nat.sub_zero]
 by_cases h:k<=xs.length
 ·rw[Nat.min_eq_left h]
 ·rw[Nat.min_eq_right (by omega),Fw,Ed (by omega)]
section
variable{K:PySem.W.Frag}{H:Hp}
theorem RdFs.rev:∀{xs:List V} {ds:List Ad},RdFs K H xs ds []->RdFs K H xs.reverse ds.reverse []:=λ{xs ds} h=>by
 have : ∀{xs:List V} {ds:List Ad} {F:List Addr},RdFs K H xs ds F->F=[]->RdFs K H xs.reverse ds.reverse []:=by
  intro xs ds F h
  induction xs generalizing ds F with
  | nil=>intro _; cases h; exact .nil
  | cons x xs ih =>
   intro e
   cases h with
   | @cons _ d _ ds F G a t =>
    obtain ⟨rfl,rfl⟩:=Kv.mp e
    rw[Oh,Oh]
    exact (ih t rfl).snoc a
 exact this h rfl
theorem RdFs.rep{xs:List V}{ds:List Ad}(h:RdFs K H xs ds []):∀k:Nat,RdFs K H (Cb k xs).flatten (Cb k ds).flatten []
 | 0=>.nil
 | k+1=>by
  rw[Ey,Ey,Gv,Gv]
  exact h.app (RdFs.rep h k)
theorem RdFs.ints:∀ns:List Int,RdFs K H (ns.map V.int) (ns.map Bb) []
 | []=>.nil
 | n::ns=>RdFs.cons (F:=[]) (.int n) (RdFs.ints ns)
theorem RdFs.ints_inv:∀{ns:List Int} {xs:List V} {F:List Addr},RdFs K H xs (ns.map Bb) F->xs=ns.map V.int/\F=[]
 | [],_,_,h=>by cases h; exact ⟨rfl,rfl⟩
 | n::ns,_,_,h=>by
  rw[Au] at h
  cases h with
  | cons a t =>
   obtain ⟨rfl,rfl⟩:=a.int_inv
   obtain ⟨rfl,rfl⟩:=RdFs.ints_inv t
   exact ⟨rfl,rfl⟩
theorem RdFs.bools_inv:∀{ns:List Bool} {xs:List V} {F:List Addr},RdFs K H xs (ns.map PyData.bool) F->xs=ns.map V.bl/\F=[]
 | [],_,_,h=>by cases h; exact ⟨rfl,rfl⟩
 | n::ns,_,_,h=>by
  rw[Au] at h
  cases h with
  | cons a t =>
   obtain ⟨rfl,rfl⟩:=a.bl_inv
   obtain ⟨rfl,rfl⟩:=RdFs.bools_inv t
   exact ⟨rfl,rfl⟩
end
theorem Yn{a b:List Ad}:Dr (a++b)=(Dr a && Dr b):=by
 induction a with
 | nil=>simp [Dr]
 | cons x a ih=>simp [Dr,ih,Bool.and_assoc]
theorem Na(ns:List Int):Dr (ns.map Bb)=true:=Rz (λ_=>by simp [imm]) ns
def kW:D2:=λx y P=>match x,y with
 | .dat _ (.list ds),.dat _ (.list es)=>Dr ds=true/\Dr es=true/\ds.length+es.length<=1000000/\P (.dat .ow (.list (ds++es)))
 | _,_=>False
def kJ:D2:=λx y P=>match x,y with
 | .dat _ (.list ds),.dat _ (.int k)=>Dr ds=true /\ -1000000<=k/\k<=1000000/\ds.length * k.toNat<=1000000/\P (.dat .ow (.list (Cb k.toNat ds).flatten))
 | _,_=>False
section
variable{K:PySem.W.Frag}
theorem C3:iS K M7 kW:=by
 intro H0 X n S T x y v w F G H Q P hA hd k
 unfold kW at hd
 split at hd
 ·obtain ⟨i1,i2,hz,p⟩:=hd
  obtain ⟨b,ys,G1,rfl,hb,rb,_,_⟩:=(hA.told mem_mid).list_inv
  obtain ⟨a,xs,G2,rfl,ha,ra,_,_⟩:=(hA.told Ee).list_inv
  have l1:=ra.len
  have l2:=rb.len
  refine ⟨a,b,xs,ys,rfl,rfl,ha,hb,nO (by omega),λq hq=>?_⟩
  exact k _ _ _ _ (hA.drop2.newI (ra.app rb) (by rw[Yn,i1,i2]; rfl) (by rw[Cc]; exact nO (by omega)) hq .ow) p
 ·exact hd.elim
theorem p7:iS K K7 kJ:=by
 intro H0 X n S T x y v w F G H Q P hA hd k
 unfold kJ at hd
 split at hd
 ·obtain ⟨i1,k0,k1,hz,p⟩:=hd
  obtain ⟨rfl,_⟩:=(hA.told mem_mid).int_inv
  obtain ⟨a,xs,G2,rfl,ha,ra,_,_⟩:=(hA.told Ee).list_inv
  have l1:=ra.len
  obtain rfl:=ra.imm i1
  rename_i j
  refine ⟨a,_,xs,rfl,rfl,ha,by omega,by omega,nO (by rw[l1]; exact hz),λq hq=>?_⟩
  refine k _ _ _ _ (hA.drop2.newI (ra.rep _) ?_ (by rw[kM,Nat.mul_comm]; exact nO hz) hq .ow) p
  refine iN.mpr λz hz'=>?_
  obtain ⟨l,hl,hz'⟩:=List.mem_flatten.mp hz'
  rw[(Ho.mp hl).2] at hz'
  exact iN.mp i1 z hz'
 ·exact hd.elim
end
section
variable{X:Cx}{a b:Expr}{da db:DE}{pos:Pos}
theorem jY(ha:Fb X a da)(hb:Fb X b db):Fb X (.BinOp a .Add b pos) (Xl kW da db):=Tp iJ C3 ha hb
theorem A1(ha:Fb X a da)(hb:Fb X b db):Fb X (.BinOp a .Mult b pos) (Xl kJ da db):=Tp u0 p7 ha hb
end
abbrev DO:=DS->(Option Int->DS->Prop)->Prop
def LO(K:PySem.W.Frag)(do_:DO):TO:=λσ H Q=>∃(H0:Hp) (X:Addr->Prop) (S T:List Ent) (δ:DS) (P:Option Int->DS->Prop),vs S=σ/\Sl S δ/\At K H0 X δ.n (S++T) H/\do_ δ P /\
 ∀o δ' S' H',vs S'=σ->Sl S' δ'->At K H0 X δ'.n (S'++T) H'->P o δ'->Q o H'
abbrev U8(X:Cx)(e:Option Expr)(d:DO):Prop:=PO X e (LO X.K d)
theorem PO.imp{X:Cx}{e:Option Expr}{t t':TO}(h:PO X e t)(k:∀σ H Q,t' σ H Q->t σ H Q):PO X e t':=λpins s σ H Q I q=>h pins s σ H Q I (k σ H Q q)
def kQ:DO:=λδ P=>P none δ
def i9(de:DE):DO:=λδ P=>de δ λx δ'=>match x with
 | .dat _ (.int i)=>P (some i) δ'
 | _=>False
section
variable{X:Cx}{e:Expr}{de:DE}{lo hi:Option Expr}{dl dh:DO}{pos p2:Pos}
theorem sW:U8 X none kQ:=by
 refine PO.imp zH λσ H Q h=>?_
 obtain ⟨H0,Y,S,T,δ,P,rfl,hS,hA,hd,k⟩:=h
 exact k _ δ S H rfl hS hA hd
theorem sO(h:Fb X e de):U8 X (some e) (i9 de):=by
 refine PO.imp (yD h) λσ H Q h=>?_
 obtain ⟨H0,Y,S,T,δ,P,rfl,hS,hA,hd,k⟩:=h
 refine ⟨H0,Y,S,T,δ,_,rfl,hS,hA,hd,λx δ' v F S' H' e1 e2 hA' p=>?_⟩
 split at p
 ·obtain ⟨rfl,_⟩:=(hA'.told mem_mid).int_inv
  exact ⟨_,rfl,k _ δ' S' H' e1 e2 hA'.drop p⟩
 ·exact p.elim
def zU(de:DE):DE:=λδ P=>de δ λx δ1=>match x with
 | .dat _ (.list ds)=>Dr ds=true/\P (.dat .ow (.list ds.reverse)) δ1
 | _=>False
theorem iG{ds:List Ad}(h:Dr ds=true):Dr ds.reverse=true:=iN.mpr λx hx=>iN.mp h x (Ln.mp hx)
theorem zA{k:Expr}{tk:TE}(he:Fb X e de)(hk:PE X k tk)(htk:∀σ H Q,Q (.int (-1)) H->tk σ H Q):Fb X (.Subscript e (.Slice none none (some k) p2) pos) (zU de):=by
 refine PE.imp (xG he hk htk) λσ H Q h=>?_
 obtain ⟨H0,Y,S,T,δ,P,rfl,hS,hA,hd,kk⟩:=h
 refine ⟨H0,Y,S,T,δ,_,rfl,hS,hA,hd,λx δ1 v F S1 H1 e1 e2 hA1 p1=>?_⟩
 split at p1
 ·obtain ⟨a,xs,G,rfl,ha,ra,rfl,hz⟩:=(hA1.told mem_mid).list_inv
  obtain rfl:=ra.imm p1.1
  refine ⟨a,xs,rfl,Kq.of ha,λp hp=>?_⟩
  exact kk _ δ1 _ _ S1 _ e1 e2 (hA1.drop.newI ra.rev (iG p1.1) (by rw[Hd]; exact hz) hp .ow) p1.2
 ·exact p1.elim
end
end DL
namespace NdS
open PySem PyProof.Rows
end NdS
namespace Nd
open PySem PySem.Spec PyProof.Rows L2 NdS
end Nd
namespace DL
open PySem L2 Nd
def K9(x:Int):List Int->List Int
 | []=>[x]
 | y::l=>if x<y then x::y::l else if x=y then y::l else y::K9 x l
def S7(ns:List Int):List Int:=ns.foldr K9 []
abbrev DC:=List DV->(DV->Prop)->Prop
def Nt(K:PySem.W.Frag)(r:List V->Hp->VK->Prop)(rd:DC):Prop:=∀(H0:Hp) (X:Addr->Prop) (n:Nat) (S T As:List Ent) (us:List V) (H:Hp) (Q:VK) (P:DV->Prop),
 As.map Ent.v=us.map some->At K H0 X n (S++(As++T)) H->rd (As.map Ent.x) P->(∀z u F' H',At K H0 X n (S++⟨some u,z,F'⟩::T) H'->P z->Q u H')->r us H Q
def K6(rd:DC)(da:DA):DE:=λδ P=>da δ λxs δ1=>rd xs λz=>P z δ1
section
variable{X:Cx}{x:Str}{p pos:Pos}{e:Expr}{es:List Expr}{da:DA}{id T:String}{r:List V->Hp->VK->Prop}{rd:DC}
theorem lC{K:PySem.W.Frag}(o:Nt K r rd):∀σ H Q,LE K (K6 rd da) σ H Q->Q4 r (LA K da) σ H Q:=by
 intro σ H Q h
 obtain ⟨H0,Y,S,T,δ,P,rfl,hS,hA,hd,k⟩:=h
 refine ⟨H0,Y,S,T,δ,_,rfl,hS,hA,hd,λxs δ' As us S' H' e1 e2 ex eu hA' p=>?_⟩
 subst ex
 exact o H0 Y δ'.n S' T As us H' Q _ eu hA' p λz u F' H'' hA3 p3=>k z δ' u F' S' H'' e1 e2 hA3 p3
theorem Hj(hc:Lr X (.builtin id) r)(o:Nt X.K r rd)(hg:Gl X x)(hm:X.mg x=none)(hv:Il x=some (.builtin id))(ha:jM X (e::es) da)(hn:x ≠ "__name__" := by decide)(hdb:(x == ("__debug__" : Str))=false:=by decide)(he:Bp (e::es) X.env=(false,eval e X.env)::Bp es X.env:=by rfl)(hpl:(Hi pos (Bp es X.env)).any (·.1)=false:=by rfl):Fb X (.Call (.Name x p) (e::es) [] pos) (K6 rd da) :=
 PE.imp (Wu hc hg hm hv ha hn hdb he hpl) (lC o)
theorem Uh(hc:Lr X (.type T) r)(o:Nt X.K r rd)(hg:Gl X x)(hm:X.mg x=none)(hv:Il x=some (.type T))(ha:jM X (e::es) da)(hn:x ≠ "__name__" := by decide)(hdb:(x == ("__debug__" : Str))=false:=by decide)(he:Bp (e::es) X.env=(false,eval e X.env)::Bp es X.env:=by rfl)(hpl:(Hi pos (Bp es X.env)).any (·.1)=false:=by rfl):Fb X (.Call (.Name x p) (e::es) [] pos) (K6 rd da) :=
 PE.imp (bF hc hg hm hv ha hn hdb he hpl) (lC o)
end
theorem A4{α β:Type}{f:α->β}{l:List α}{x:β}(h:l.map f=[x]):∃a,l=[a]/\f a=x:=by
 cases l with
 | nil=>cases h
 | cons a t =>
  obtain ⟨h1,h2⟩:=Dx h
  exact ⟨a,by rw[List.map_eq_nil_iff.mp h2],h1⟩
theorem L4{α β:Type}{f:α->β}{l:List α}{x y:β}(h:l.map f=[x,y]):∃a b,l=[a,b]/\f a=x/\f b=y:=by
 cases l with
 | nil=>cases h
 | cons a t =>
  obtain ⟨h1,h2⟩:=Dx h
  obtain ⟨b,rfl,h3⟩:=A4 h2
  exact ⟨a,b,rfl,h1,h3⟩
theorem Gw{K:PySem.W.Frag}{H0 H:Hp}{X:Addr->Prop}{n:Nat}{S T As:List Ent}{us:List V}{x:DV}(eu:As.map Ent.v=us.map some)(hA:At K H0 X n (S++(As++T)) H)(ex:As.map Ent.x=[x]):∃v F,us=[v]/\At K H0 X n (S++⟨some v,x,F⟩::T) H:=by
 obtain ⟨⟨v,y,F⟩,rfl,h1⟩:=A4 ex
 obtain ⟨u,rfl,h2⟩:=A4 eu.symm
 have h1':y=x:=h1
 have h2':some u=v:=h2
 subst h1' h2'
 exact ⟨u,F,rfl,hA⟩
theorem Ym{K:PySem.W.Frag}{H0 H:Hp}{X:Addr->Prop}{n:Nat}{S T As:List Ent}{us:List V}{x y:DV}(eu:As.map Ent.v=us.map some)(hA:At K H0 X n (S++(As++T)) H)(ex:As.map Ent.x=[x,y]):∃v F w G,us=[v,w]/\At K H0 X n (S++⟨some v,x,F⟩::⟨some w,y,G⟩::T) H:=by
 obtain ⟨⟨v,x',F⟩,⟨w,y',G⟩,rfl,h1,h2⟩:=L4 ex
 obtain ⟨u,u',rfl,h3,h4⟩:=L4 eu.symm
 have h1':x'=x:=h1
 have h2':y'=y:=h2
 have h3':some u=v:=h3
 have h4':some u'=w:=h4
 subst h1' h2' h3' h4'
 exact ⟨u,F,u',G,rfl,hA⟩
def mH:DC:=λxs P=>match xs with
 | [.dat _ (.list ds)]=>P (.dat .ow (.int ds.length))
 | [.dat _ (.tuple ds)]=>P (.dat .ow (.int ds.length))
 | [.dat _ (.str z)]=>z.length<=1000000/\P (.dat .ow (.int z.length))
 | _=>False
def jH(i:Bool):DC:=λxs P=>match xs with
 | [.dat m (.list ds)]=>fA i m ds P
 | [.dat m (.tuple ds)]=>fA i m ds P
 | _=>False
def tZ:DC:=λxs P=>match xs with
 | [.dat _ (.int i)]=>P (.dat .ow (.int i))
 | [.dat _ (.bool b)]=>P (.dat .ow (.int (if b=true then 1 else 0)))
 | _=>False
def iD:DC:=λxs P=>match xs with
 | [.dat _ (.int i),.dat _ (.int j)]=>P (.dat .ow (.int (if j > i then j else i)))
 | _=>False
def jO:DC:=λxs P=>match xs with
 | [.dat _ (.list ds)]=>∃ns:List Int,ds=ns.map Bb/\ns≠[]/\∀M∈ns,(∀x∈ns,M<=x)->P (.dat .ow (.int M))
 | _=>False
def rH:DC:=λxs P=>match xs with
 | [.dat _ (.list ds)]=>∃bs:List Bool,ds=bs.map PyData.bool/\P (.dat .ow (.bool (bs.all id)))
 | _=>False
def vP:Ad->String
 | .none => "NoneType"
 | .bool _ => "bool"
 | .int _ => "int"
 | .str _ => "str"
 | .list _ => "list"
 | .tuple _ => "tuple"
 | .dict _ => "dict"
def eT(d:Ad)(n:String):Bool:=vP d == n || (vP d == "bool" && n == "int")
def qJ:DC:=λxs P=>match xs with
 | [.dat _ d,.val (.ty n)]=>(n = "int" \/ n = "bool" \/ n = "str" \/ n = "list" \/ n = "tuple")/\P (.dat .ow (.bool (eT d n)))
 | _=>False
section
variable{K:PySem.W.Frag}
theorem cR:Nt K (λxs H Q=>∃x n,xs=[x]/\R1 K x H n/\Q (.int n) H) mH:=by
 intro H0 X n S T As us H Q P eu hA hd k
 unfold mH at hd
 split at hd
 ·rename_i ex
  obtain ⟨v,F,rfl,hA⟩:=Gw eu hA ex
  obtain ⟨a,xs,G,rfl,ha,ra,_,_⟩:=(hA.told mem_mid).list_inv
  exact ⟨_,_,rfl,.inl ⟨xs,Kq.of ha,ra.len.symm⟩,k _ _ [] H (hA.drop.pushI (.int _)) hd⟩
 ·rename_i ex
  obtain ⟨v,F,rfl,hA⟩:=Gw eu hA ex
  obtain ⟨a,xs,rfl,ha,ra,_⟩:=(hA.told mem_mid).tup_inv
  exact ⟨_,_,rfl,.inr ⟨xs,Sj.of ha,ra.len.symm⟩,k _ _ [] H (hA.drop.pushI (.int _)) hd⟩
 ·rename_i ex
  obtain ⟨v,F,rfl,hA⟩:=Gw eu hA ex
  obtain ⟨rfl,_⟩:=(hA.told mem_mid).str_inv
  exact ⟨_,_,rfl,⟨nO hd.1,rfl⟩,k _ _ [] H (hA.drop.pushI (.int _)) hd.2⟩
 ·exact hd.elim
theorem xX{i:Bool}:Nt K (j9 K) (jH i):=by
 intro H0 X n S T As us H Q P eu hA hd k
 unfold jH at hd
 split at hd
 ·rename_i ex
  obtain ⟨v,F,rfl,hA⟩:=Gw eu hA ex
  obtain ⟨a,xs,G,rfl,ha,ra,rfl,hz⟩:=(hA.told mem_mid).list_inv
  refine ⟨a,xs,rfl,.inl (Kq.of ha),λl hl=>?_⟩
  obtain ⟨z,F',h1,h2⟩:=hA.newL ra (Dg _ _) hz hl hd
  exact k _ _ _ _ h1 h2
 ·rename_i ex
  obtain ⟨v,F,rfl,hA⟩:=Gw eu hA ex
  obtain ⟨a,xs,rfl,ha,ra,hz⟩:=(hA.told mem_mid).tup_inv
  refine ⟨a,xs,rfl,.inr (Sj.of ha),λl hl=>?_⟩
  obtain ⟨z,F',h1,h2⟩:=hA.newL ra (Eb _) hz hl hd
  exact k _ _ _ _ h1 h2
 ·exact hd.elim
theorem qQ:Nt K (λxs H Q=>(∃i,xs=[V.int i]/\Q (.int i) H)\/∃k,xs=[V.bl k]/\Q (.int (if k then 1 else 0)) H) tZ:=by
 intro H0 X n S T As us H Q P eu hA hd k
 unfold tZ at hd
 split at hd
 ·rename_i ex
  obtain ⟨v,F,rfl,hA⟩:=Gw eu hA ex
  obtain ⟨rfl,_⟩:=(hA.told mem_mid).int_inv
  exact .inl ⟨_,rfl,k _ _ [] H (hA.drop.pushI (.int _)) hd⟩
 ·rename_i ex
  obtain ⟨v,F,rfl,hA⟩:=Gw eu hA ex
  obtain ⟨rfl,_⟩:=(hA.told mem_mid).bl_inv
  exact .inr ⟨_,rfl,k _ _ [] H (hA.drop.pushI (.int _)) hd⟩
 ·exact hd.elim
theorem kX:Nt K (λxs H Q=>∃i j,xs=[V.int i,V.int j]/\Q (.int (if j > i then j else i)) H) iD:=by
 intro H0 X n S T As us H Q P eu hA hd k
 unfold iD at hd
 split at hd
 ·rename_i ex
  obtain ⟨v,F,w,G,rfl,hA⟩:=Ym eu hA ex
  obtain ⟨rfl,_⟩:=(hA.told mem_mid).int_inv
  obtain ⟨rfl,_⟩:=(hA.told Ee).int_inv
  exact ⟨_,_,rfl,k _ _ [] H (hA.drop2.pushI (.int _)) hd⟩
 ·exact hd.elim
theorem mM:Nt K (zX K) jO:=by
 intro H0 X n S T As us H Q P eu hA hd k
 unfold jO at hd
 split at hd
 ·rename_i ex
  obtain ⟨v,F,rfl,hA⟩:=Gw eu hA ex
  obtain ⟨ns,rfl,h0,h1⟩:=hd
  obtain ⟨a,xs,G,rfl,ha,ra,rfl,hz⟩:=(hA.told mem_mid).list_inv
  obtain ⟨rfl,_⟩:=ra.ints_inv
  exact ⟨a,ns,rfl,Kq.of ha,h0,λM hM hm=>k _ _ [] H (hA.drop.pushI (.int _)) (h1 M hM hm)⟩
 ·exact hd.elim
theorem t8:Nt K (λxs H Q=>∃(p:Addr) (bs:List Bool),xs=[.ref p]/\Kq K H p (bs.map V.bl)/\Q (.bl (bs.all id)) H) rH:=by
 intro H0 X n S T As us H Q P eu hA hd k
 unfold rH at hd
 split at hd
 ·rename_i ex
  obtain ⟨v,F,rfl,hA⟩:=Gw eu hA ex
  obtain ⟨bs,rfl,h1⟩:=hd
  obtain ⟨a,xs,G,rfl,ha,ra,rfl,hz⟩:=(hA.told mem_mid).list_inv
  obtain ⟨rfl,_⟩:=ra.bools_inv
  exact ⟨a,bs,rfl,Kq.of ha,k _ _ [] H (hA.drop.pushI (.bl _)) h1⟩
 ·exact hd.elim
theorem yB{T n:String}{b:Bool}(h1:(Gx T == Gx n)=false)(h2:PySem.W.kitMeta n=true)(h3:(fastBuiltinMro T).map (λx=>x.contains (Gx n))=some b):PySem.W.kitOne K (.type T) (.type n)=some b:=G3 h1 h2 h3
theorem xC{d:Ad}{n:String}(hn:n = "int" \/ n = "bool" \/ n = "str" \/ n = "list" \/ n = "tuple"):PySem.W.kitOne K (.type (vP d)) (.type n)=some (eT d n):=by
 have main:∀T:String,(T = "NoneType" \/ T = "bool" \/ T = "int" \/ T = "str" \/ T = "list" \/ T = "tuple" \/ T = "dict")->PySem.W.kitOne K (.type T) (.type n)=some (T == n || (T == "bool" && n == "int")):=by
  intro T hT
  rcases hT with rfl | rfl | rfl | rfl | rfl | rfl | rfl <;> rcases hn with rfl | rfl | rfl | rfl | rfl <;> first | exact F8 | exact yB (by decide +kernel) (by decide +kernel) (by decide +kernel)
 unfold eT
 refine main _ ?_
 cases d <;> simp [vP]
theorem tJ:Nt K (AL K) qJ:=by
 intro H0 X n S T As us H Q P eu hA hd k
 unfold qJ at hd
 split at hd
 ·rename_i ex
  obtain ⟨v,F,w,G,rfl,hA⟩:=Ym eu hA ex
  have hw:w=.ty _:=Bk (hA.ok _ Ee).1
  subst hw
  have r:=hA.told mem_mid
  refine ⟨v,_,.type (vP _),_,rfl,?_,xC hd.1,k _ _ [] H (hA.drop2.pushI (.bl _)) hd.2⟩
  ·cases r with
   | non=>exact .non
   | bl b=>exact .bl b
   | int i=>exact .int i
   | str x=>exact .str x
   | lst h l hs=>exact .lst h
   | tup h l hs=>exact .tup h
   | dic h e hs=>exact .dT h
   | dik h e hs=>exact .dK h
   | dnm h e hs=>exact .dT h
 ·exact hd.elim
end
def dV(v:V):DE:=λδ P=>P (.val v) δ
section
variable{X:Cx}{e:Expr}
theorem E9{v:V}(h:PE X e (tC v)):Fb X e (dV v):=by
 refine PE.imp h λσ H Q h=>?_
 obtain ⟨H0,Y,S,T,δ,P,rfl,hS,hA,hd,k⟩:=h
 exact k _ δ v [] S H rfl hS ((hA.push (e:=⟨some v,.val v,[]⟩) ⟨rfl,rfl⟩ (λf _=>⟨λ_ a ha=>(nomatch ha),λ_ a _=>Az⟩) (λa ha=>(nomatch ha))).tomid) hd
theorem o7{x:Str}{n:String}{pos:Pos}(hg:Gl X x)(hm:X.mg x=none)(hv:Il x=some (.type n))(hn:x ≠ "__name__" := by decide)(hd:(x == ("__debug__" : Str))=false:=by decide):Fb X (.Name x pos) (dV (.ty n)):=E9 (xT hg hm hv rfl hn hd)
end
end DL
namespace Nd
open PySem PySem.Spec PyProof.Rows L2
theorem mX(I l1 l2:Nat)(h1:l1<I)(h2:l2<I):Pg (I+4) (I+2) (I+3) I (I+1) l1 l2:=by
 constructor <;> (intro e; have e':(_:Nat)=_:=e; omega)
end Nd
namespace Nd
open PySem PySem.Spec PyProof.Rows L2
open AutoSeq1 (wpAny_loadPart')
end Nd
namespace DL
open PySem L2 Nd
def dB(de:DE):DT:=λδ P=>de δ λx δ'=>match x with
 | .dat _ (.bool b)=>P b δ'
 | _=>False
def zI(dt:DT):DT:=λδ P=>dt δ λb δ'=>P (!b) δ'
def i4(dt du:DT):DT:=λδ P=>dt δ λb δ'=>match b with
 | true=>du δ' P
 | false=>P false δ'
def R9(dt du:DT):DT:=λδ P=>dt δ λb δ'=>match b with
 | true=>P true δ'
 | false=>du δ' P
section
variable{K:PySem.W.Frag}{de:DE}
theorem T5:∀σ H Q,LT K (dB de) σ H Q->LE K de σ H λx H'=>∃k,x=.bl k/\Q k H':=by
 intro σ H Q h
 obtain ⟨H0,Y,S,T,δ,P,rfl,hS,hA,hd,k⟩:=h
 refine ⟨H0,Y,S,T,δ,_,rfl,hS,hA,hd,λx δ1 v F S1 H1 e1 e2 hA1 p1=>?_⟩
 split at p1
 ·obtain ⟨rfl,_⟩:=(hA1.told mem_mid).bl_inv
  exact ⟨_,rfl,k _ δ1 S1 H1 e1 e2 hA1.drop p1⟩
 ·exact p1.elim
end
section
variable{X:Cx}{a b c e:Expr}{da db de:DE}{dt du:DT}{pos:Pos}{Fv:List Expr}
theorem cT(h:Fb X e de)(he:∀whole,isTrue e X.env whole=(do let v <- whole; standAt e.pos; Ql [v] (truthy v)):=by intro _; rfl):kP X e (dB de):=PT.imp (uK h he) T5
theorem iI{op:CmpOp}{r:R2}{rd:D2}(ho:Vk X (Jx op) r)(o:iS X.K r rd)(ha:Fb X a da)(hb:Fb X b db)(hm:Fo op b=false):kP X (.Compare a [op] [b] pos) (dB (Xl rd da db)):=by
 refine PT.imp (lG ho ha hb hm) λσ H Q h=>?_
 exact aT o _ _ _ (T5 σ H Q h)
theorem O1(hu:X.A.units+64<cLine)(ha:Fb X a da)(hb:Fb X b db):kP X (.Compare a [.Eq] [b] pos) (dB (Xl (dE false) da db)):=iI (tM hu) n6 ha hb (cH _)
theorem gC(hu:X.A.units+64<cLine)(ha:Fb X a da)(hb:Fb X b db):kP X (.Compare a [.NotEq] [b] pos) (dB (Xl (dE true) da db)):=iI (A2 hu) P9 ha hb (cH _)
theorem sT(hu:X.A.units+64<cLine)(ha:Fb X a da)(hb:Fb X b db)(hm:Fo .NotIn b=false:=by with_unfolding_all rfl):kP X (.Compare a [.NotIn] [b] pos) (dB (Xl (mQ true) da db)):=iI (mZ hu) n8 ha hb hm
theorem G8(h:kP X a dt):kP X (.UnaryOp .Not a pos) (zI dt):=by
 refine PT.imp (A0 h) λσ H Q h=>?_
 obtain ⟨H0,Y,S,T,δ,P,rfl,hS,hA,hd,k⟩:=h
 exact ⟨H0,Y,S,T,δ,_,rfl,hS,hA,hd,λb δ' S' H' e1 e2 hA' p=>k _ δ' S' H' e1 e2 hA' p⟩
theorem yQ(h:kP X a dt):C1 X (.BoolOp .And [a] pos) dt:=xN h
theorem B1(h:kP X a dt):C1 X (.BoolOp .Or [a] pos) dt:=F6 h
theorem A5(h:kP X a dt)(hb:C1 X (.BoolOp .And (b::Fv) pos) du):C1 X (.BoolOp .And (a::b::Fv) pos) (i4 dt du):=by
 refine PW.imp (G7 h hb) λσ H Q h=>?_
 obtain ⟨H0,Y,S,T,δ,P,rfl,hS,hA,hd,k⟩:=h
 refine ⟨H0,Y,S,T,δ,_,rfl,hS,hA,hd,λb δ' S' H' e1 e2 hA' p=>?_⟩
 cases b with
 | true=>exact tQ ⟨H0,Y,S',T,δ',P,e1,e2,hA',p,k⟩
 | false=>exact xD (k _ δ' S' H' e1 e2 hA' p)
theorem zS(h:kP X a dt)(hb:C1 X (.BoolOp .Or (b::Fv) pos) du):C1 X (.BoolOp .Or (a::b::Fv) pos) (R9 dt du):=by
 refine PW.imp (N8 h hb) λσ H Q h=>?_
 obtain ⟨H0,Y,S,T,δ,P,rfl,hS,hA,hd,k⟩:=h
 refine ⟨H0,Y,S,T,δ,_,rfl,hS,hA,hd,λb δ' S' H' e1 e2 hA' p=>?_⟩
 cases b with
 | true=>exact tQ (k _ δ' S' H' e1 e2 hA' p)
 | false=>exact xD ⟨H0,Y,S',T,δ',P,e1,e2,hA',p,k⟩
theorem O6(h:C1 X a dt):kP X a dt:=PW.pt h
end
theorem PS.impD{X:Cx}{st:Stmt}{t t':TS}(h:PS X st t)(k:∀D σ H,t' D σ H->t D σ H):PS X st t':=λpins s σ H D I q=>h pins s σ H D I (k D σ H q)
theorem jB.impD{X:Cx}{st:List Stmt}{t t':TS}(h:jB X st t)(k:∀D σ H,t' D σ H->t D σ H):jB X st t':=λpins s σ H D I q=>h pins s σ H D I (k D σ H q)
def zY:DB:=λD δ=>D.nx δ
def U3(t u:DB):DB:=λD δ=>t { D with nx:=λδ'=>u D δ' } δ
def T9(de:DE):DB:=λD δ=>de δ D.rt
def AH(dt:DT)(t u:DB):DB:=λD δ=>dt δ λb δ'=>match b with
 | true=>t D δ'
 | false=>u D δ'
def pZ(de:DE)(dg:DG):DB:=λD δ=>de δ λx δ'=>dg x δ' D.nx
section
variable{X:Cx}{st:Stmt}{e tg c:Expr}{t u:DB}{Fv:List Stmt}{de:DE}{dg:DG}{dt:DT}{pos:Pos}
theorem jN:Vr X [] zY:=by
 refine jB.impD dH λD σ H h=>?_
 obtain ⟨H0,Y,S,T,δ,P,rfl,hS,hT,hA,hd,k1,k2,k3,k4⟩:=h
 exact k1 δ S H hS hA hd
theorem Dv(h1:nM X st t)(h2:Vr X Fv u):Vr X (st::Fv) (U3 t u):=by
 refine jB.impD (Gy h1 h2) λD σ H h=>?_
 obtain ⟨H0,Y,S,T,δ,P,rfl,hS,hT,hA,hd,k1,k2,k3,k4⟩:=h
 exact ⟨H0,Y,S,T,δ,_,rfl,hS,hT,hA,hd,λδ' S' H' e2 hA' p=>⟨H0,Y,S',T,δ',P,rfl,e2,hT,hA',p,k1,k2,k3,k4⟩,k2,k3,k4⟩
theorem Gg(h1:nM X st t):Vr X [st] t:=Lw h1
theorem Kd(he:Fb X e de):nM X (.Return (some e) pos) (T9 de):=by
 refine PS.impD (Rv he) λD σ H h=>?_
 obtain ⟨H0,Y,S,T,δ,P,rfl,hS,hT,hA,hd,k1,k2,k3,k4⟩:=h
 exact ⟨H0,Y,S,T,δ,_,rfl,hS,hA,hd,λx δ' v F S' H' e1 e2 hA' p=>k2 x δ' v F S' H' e2 hA' p⟩
theorem pN{a b:List Stmt}(hc:kP X c dt)(ha:Vr X a t)(hb:Vr X b u):nM X (.If c a b pos) (AH dt t u):=by
 refine PS.impD (qG hc ha hb) λD σ H h=>?_
 obtain ⟨H0,Y,S,T,δ,P,rfl,hS,hT,hA,hd,k1,k2,k3,k4⟩:=h
 refine ⟨H0,Y,S,T,δ,_,rfl,hS,hA,hd,λb δ' S' H' e1 e2 hA' p=>?_⟩
 cases b with
 | true=>exact tQ ⟨H0,Y,S',T,δ',P,e1,e2,hT,hA',p,k1,k2,k3,k4⟩
 | false=>exact xD ⟨H0,Y,S',T,δ',P,e1,e2,hT,hA',p,k1,k2,k3,k4⟩
theorem kE{K:PySem.W.Frag}{te:TE}{g:TG}(h1:∀σ H Q,LE K de σ H Q->te σ H Q)(h2:∀v σ H Q,LG K dg v σ H Q->g v σ H Q):∀D σ H,LS K (pZ de dg) D σ H->xU te g D σ H:=by
 intro D σ H h
 obtain ⟨H0,Y,S,T,δ,P,rfl,hS,hT,hA,hd,k1,k2,k3,k4⟩:=h
 refine h1 _ _ _ ⟨H0,Y,S,T,δ,_,rfl,hS,hA,hd,λx δ' v F S' H' e1 e2 hA' p=>?_⟩
 exact h2 _ _ _ _ ⟨H0,Y,S',T,δ',x,F,P.nx,e1,e2,hA',p,λδ2 S2 H2 e3 hA2 q=>k1 δ2 S2 H2 e3 hA2 q⟩
end
def Oj(i:Nat):DG:=λx δ P=>match x with
 | .dat .pk _=>False
 | .dat _ d=>P ⟨δ.sl.set i (.dat .sh d),δ.n⟩
 | .val v=>P ⟨δ.sl.set i (.val v),δ.n⟩
 | .drw=>P ⟨δ.sl.set i .drw,δ.n⟩
 | .dT kvs=>P ⟨δ.sl.set i (.dT kvs),δ.n⟩
 | _=>False
def fX(i:Nat):DG:=λx δ P=>match x with
 | .dat .ow d=>P ⟨δ.sl.set i (.dat .ow d),δ.n⟩
 | .dat .tp d=>P ⟨δ.sl.set i (.dat .tp d),δ.n⟩
 | _=>False
theorem At.store{K:PySem.W.Frag}{H0 H:Hp}{X:Addr->Prop}{n:Nat}{S T:List Ent}{e:Ent}{i:Nat}(h:At K H0 X n (S++e::T) H):At K H0 X n (S.set i e++T) H:=by
 by_cases hi:i<S.length
 ·have hx:S[i]? = some S[i]:=by simp [hi]
  have p:(S++e::T).Perm (S[i]::(S.set i e++T)):=by
   refine List.perm_middle.trans ?_
   rw[<- Fz,<- Fz]
   exact (Yq hx).append_right T
  exact (h.perm p).sub (Dg _ _)
 ·rw[List.set_eq_of_length_le (by omega)]
  exact h.drop
theorem vE{S:List Ent}{i:Nat}{v:V}{x:DV}{F:List Addr}:vs (S.set i ⟨some v,x,F⟩)=(vs S).set i (some v):=by
 unfold vs
 rw[Ek]
theorem sJ{S:List Ent}{δ:DS}{i n:Nat}{v:V}{x:DV}{F:List Addr}(h:Sl S δ):Sl (S.set i ⟨some v,x,F⟩) ⟨δ.sl.set i x,n⟩:=by
 unfold Sl at h ⊢
 rw[Ek,h]
theorem bV{K:PySem.W.Frag}{i:Nat}:∀v σ H Q,LG K (Oj i) v σ H Q->Vj i v σ H Q:=by
 intro v σ H Q h
 obtain ⟨H0,Y,S,T,δ,x,F,P,rfl,hS,hA,hd,k⟩:=h
 show Q ((vs S).set i (some v)) H
 have fin:∀y,At K H0 Y δ.n (S++⟨some v,y,F⟩::T) H->P ⟨δ.sl.set i y,δ.n⟩->Q ((vs S).set i (some v)) H:=λy hA' p=>by
  rw[<- vE (x:=y) (F:=F)]
  exact k _ _ H (sJ hS) hA'.store p
 unfold Oj at hd
 split at hd
 ·exact hd.elim
 ·rename_i m d hm
  refine fin _ ?_ hd
  refine (hA.mid.wk ?_).tomid
  cases m <;> first | rfl | exact (hm rfl).elim
 ·exact fin _ hA hd
 ·exact fin _ hA hd
 ·exact fin _ hA hd
 ·exact hd.elim
theorem tL{K:PySem.W.Frag}{i:Nat}:∀v σ H Q,LG K (fX i) v σ H Q->Vj i v σ H Q:=by
 intro v σ H Q h
 obtain ⟨H0,Y,S,T,δ,x,F,P,rfl,hS,hA,hd,k⟩:=h
 show Q ((vs S).set i (some v)) H
 have fin:∀y,At K H0 Y δ.n (S++⟨some v,y,F⟩::T) H->P ⟨δ.sl.set i y,δ.n⟩->Q ((vs S).set i (some v)) H:=λy hA' p=>by
  rw[<- vE (x:=y) (F:=F)]
  exact k _ _ H (sJ hS) hA'.store p
 unfold fX at hd
 split at hd
 ·exact fin _ hA hd
 ·exact fin _ hA hd
 ·exact hd.elim
section
variable{X:Cx}{pos:Pos}
theorem Ol{i:Nat}{x:Str}(hN:X.N.Nodup)(hi:X.N[i]? = some x)(hx:Loc X.env.scope x)(hf:X.fn x=true\/X.env.scope.names.lookup x=some .local:=by first | exact .inl rfl | exact .inr rfl | assumption):Z1 X (.Name x pos) (Oj i):=PG.imp (Mu hN hi hx hf) bV
theorem Jb{i:Nat}{x:Str}{e:Expr}{de:DE}{pos':Pos}(hN:X.N.Nodup)(hi:X.N[i]? = some x)(hx:Loc X.env.scope x)(he:Fb X e de)(hs:Lc e (some (.Name x pos')) pos.line X.env=pure false:=by rfl)(hf:X.fn x=true\/X.env.scope.names.lookup x=some .local:=by first | exact .inl rfl | exact .inr rfl | assumption):nM X (.Assign [.Name x pos'] e pos) (pZ de (Oj i)):=PS.impD (Nk hN hi hx he hs hf) (kE (λ_ _ _ h=>h) bV)
theorem Qt{i:Nat}{x:Str}{e:Expr}{de:DE}{pos':Pos}(hN:X.N.Nodup)(hi:X.N[i]? = some x)(hx:Loc X.env.scope x)(he:Fb X e de)(hs:Lc e (some (.Name x pos')) pos.line X.env=pure false:=by rfl)(hf:X.fn x=true\/X.env.scope.names.lookup x=some .local:=by first | exact .inl rfl | exact .inr rfl | assumption):nM X (.Assign [.Name x pos'] e pos) (pZ de (fX i)):=PS.impD (Nk hN hi hx he hs hf) (kE (λ_ _ _ h=>h) tL)
end
theorem jJ{K:PySem.W.Frag}{H0 H:Hp}{X:Addr->Prop}{n:Nat}{E:List Ent}(h:At K H0 X n E H):∀{e f:Ent},e∈E->f∈E->e=f\/Xc e f:=by
 have main:∀{E:List Ent},E.Pairwise Xc->∀{e f:Ent},e∈E->f∈E->e=f\/Xc e f:=by
  intro E
  induction E with
  | nil=>intro _ e f he; cases he
  | cons g E ih =>
   intro hp e f he hf
   have hc:=Bd.mp hp
   rcases Ak.mp he with he | he
   ·subst he
    rcases Ak.mp hf with hf | hf
    ·exact .inl hf.symm
    ·exact .inr (hc.1 f hf)
   ·rcases Ak.mp hf with hf | hf
    ·rw[hf]
     exact .inr (hc.1 e he).symm
    ·exact ih hc.2 he hf
 intro e f he hf
 exact main h.sep he hf
abbrev DI:=DS->(Md->List Ad->DS->Prop)->Prop
structure IterOk(K:PySem.W.Frag)(J:It)(hid:List Ent)(m:Md)(ds:List Ad):Prop where
 md:m=.sh\/m=.pk
 hd:∀e∈hid,cells e=[]
 np:m=.sh->∀e∈hid,Mp e.x=false
 go:∀H n i,(∀e∈hid,Hy K H n e)->i<ds.length->J.go i H
 yld:∀H n i x H',(∀e∈hid,Hy K H n e)->i<ds.length->J.yld i H x H'->La H H'/\∃d F,ds[i]? = some d/\RdF K H' x d F/\∀a∈F,∃e∈hid,a∈e.F
 stop:∀H n,(∀e∈hid,Hy K H n e)->J.stop ds.length H
def LI(K:PySem.W.Frag)(di:DI):TI:=λσ H R=>∃(H0:Hp) (X:Addr->Prop) (S T:List Ent) (δ:DS) (P:Md->List Ad->DS->Prop),vs S=σ/\Sl S δ/\At K H0 X δ.n (S++T) H/\di δ P /\
 ∀m ds δ' J hid S' H',vs S'=σ->Sl S' δ'->At K H0 X δ'.n (S'++(hid++T)) H'->IterOk K J hid m ds->ds.length<=Ap->P m ds δ'->R J H'
abbrev zK(X:Cx)(tg iter:Expr)(di:DI):Prop:=PI X tg iter (LI X.K di)
theorem PI.imp{X:Cx}{tg e:Expr}{t t':TI}(h:PI X tg e t)(k:∀σ H Q,t' σ H Q->t σ H Q):PI X tg e t':=λpins s σ H Q I q=>h pins s σ H Q I (k σ H Q q)
def Jw:Md->Md
 | .pk=>.pk
 | _=>.sh
theorem cM(m:Md):wk m (Jw m)=true:=by cases m <;> rfl
theorem At.item{K:PySem.W.Frag}{H0 H H':Hp}{X:Addr->Prop}{n:Nat}{S T hid:List Ent}{m:Md}{v:V}{d:Ad}{F:List Addr}(h:At K H0 X n (S++(hid++T)) H)(s:La H H')(r:RdF K H' v d F)(hF:∀a∈F,∃e∈hid,a∈e.F)(md:m=.sh\/m=.pk)(hh:∀e∈hid,cells e=[])(np:m=.sh->∀e∈hid,Mp e.x=false):At K H0 X n (S++⟨some v,.dat m d,F⟩::(hid++T)) H':=by
 have h1:=h.grow (n':=n) s (Ai _)
 have c0:∀a,a∉cells ⟨some v,.dat m d,F⟩:=λa ha=>by
  rcases md with rfl | rfl <;> exact nomatch ha
 refine (h1.push (e:=⟨some v,.dat m d,F⟩) ⟨v,rfl,r,λz=>?_,λz=>?_⟩ (λf hf=>⟨λ_ a ha=>absurd ha (c0 a),λhq a ha z=>?_⟩) λa ha=>absurd ha (c0 a)).tomid
 ·rcases md with rfl | rfl <;> cases z
 ·rcases md with rfl | rfl <;> cases z
 ·obtain ⟨e,he,ze⟩:=hF a z
  have he':e∈S++(hid++T):=Ao _ (Av _ he)
  rcases jJ h he' hf with rfl | q
  ·rw[hh e he] at ha
   cases ha
  ·refine q.2 ?_ a ha ze
   rcases hq with hq | hq
   ·refine .inl (np ?_ e he)
    rcases md with rfl | rfl
    ·rfl
    ·cases hq
   ·exact .inr hq
def AJ(de:DE):DI:=λδ P=>de δ λx δ'=>match x with
 | .dat m (.list ds)=>P (Jw m) ds δ'
 | .dat m (.tuple ds)=>P (Jw m) ds δ'
 | _=>False
def gZ(da:DA):DI:=λδ P=>da δ λxs δ'=>match xs with
 | [.dat _ (.int j)]=>-1000000<=j/\j<=1000000/\P .sh ((Cu j.toNat).map λi:Nat=>.int i) δ'
 | _=>False
def qK(da:DA):DI:=λδ P=>da δ λxs δ'=>match xs with
 | [.dat m (.list ds)]=>P (Jw m) (ds.zipIdx.map λp=>.tuple [.int p.2,p.1]) δ'
 | _=>False
def V1(da:DA):DI:=λδ P=>da δ λxs δ'=>match xs with
 | [.dat m (.tuple ds)]=>P (Jw m) (ds.zipIdx.map λp=>.tuple [.int p.2,p.1]) δ'
 | _=>False
section
variable{K:PySem.W.Frag}
theorem Jk{H:Hp}{n:Nat}{v:V}{m:Md}{d:Ad}{F:List Addr}{hid:List Ent}(h:∀e∈hid,Hy K H n e)(he:⟨some v,.dat m d,F⟩∈hid):RdF K H v d F:=by
 obtain ⟨w,e1,h1,_⟩:=h _ he
 cases e1
 exact h1
theorem tY{v:Option V}{m:Md}{d:Ad}{F:List Addr}:cells ⟨v,.dat (Jw m) d,F⟩=[]:=by cases m <;> rfl
theorem dJ{v:Option V}{m:Md}{d:Ad}{F:List Addr}:∀e∈[(⟨v,.dat (Jw m) d,F⟩ : Ent)],cells e=[]:=λe he=>by
 rw[Ah.mp he]
 exact tY
theorem lV{v:Option V}{m:Md}{d:Ad}{F:List Addr}:Jw m=.sh->∀e∈[(⟨v,.dat (Jw m) d,F⟩ : Ent)],Mp e.x=false:=λz e he=>by
 rw[Ah.mp he]
 show Mp (.dat (Jw m) d)=false
 rw[z]
 rfl
theorem cA(m:Md):Jw m=.sh\/Jw m=.pk:=by cases m <;> simp [Jw]
theorem pC{a:Addr}{m:Md}{ds:List Ad}{F:List Addr}:IterOk K (V7 K a) [⟨some (.ref a),.dat (Jw m) (.list ds),F⟩] (Jw m) ds where
 md:=cA m
 hd:=dJ
 np:=lV
 go:=λH n i h hi=>by
  obtain ⟨b,xs,G,e,hb,rb,_,_⟩:=(Jk h Ab).list_inv
  cases e
  have hl:=rb.len
  exact ⟨xs,xs[i],Kq.of hb,by simp [show i<xs.length by omega]⟩
 yld:=λH n i x H' h hi y=>by
  obtain ⟨b,xs,G,e,hb,rb,rfl,_⟩:=(Jk h Ab).list_inv
  cases e
  obtain ⟨rfl,y⟩:=y
  have hx:=y xs (Kq.of hb)
  obtain ⟨x',F',h1,h2,h3⟩:=rb.get (i:=i) (e:=ds[i]) (by simp [hi])
  rw[hx] at h1
  cases h1
  exact ⟨La.refl _,ds[i],F',by simp [hi],h2,λc hc=>⟨_,Ab,Af _ (h3.subset hc)⟩⟩
 stop:=λH n h=>by
  obtain ⟨b,xs,G,e,hb,rb,_,_⟩:=(Jk h Ab).list_inv
  cases e
  exact ⟨xs,Kq.of hb,by rw[rb.len]; exact Ai _⟩
theorem rS{a:Addr}{m:Md}{ds:List Ad}{F:List Addr}:IterOk K (W9 K a) [⟨some (.ref a),.dat (Jw m) (.tuple ds),F⟩] (Jw m) ds where
 md:=cA m
 hd:=dJ
 np:=lV
 go:=λH n i h hi=>by
  obtain ⟨b,xs,e,hb,rb,_⟩:=(Jk h Ab).tup_inv
  cases e
  have hl:=rb.len
  exact ⟨xs,xs[i],Sj.of hb,by simp [show i<xs.length by omega]⟩
 yld:=λH n i x H' h hi y=>by
  obtain ⟨b,xs,e,hb,rb,_⟩:=(Jk h Ab).tup_inv
  cases e
  obtain ⟨rfl,y⟩:=y
  have hx:=y xs (Sj.of hb)
  obtain ⟨x',F',h1,h2,h3⟩:=rb.get (i:=i) (e:=ds[i]) (by simp [hi])
  rw[hx] at h1
  cases h1
  exact ⟨La.refl _,ds[i],F',by simp [hi],h2,λc hc=>⟨_,Ab,h3.subset hc⟩⟩
 stop:=λH n h=>by
  obtain ⟨b,xs,e,hb,rb,_⟩:=(Jk h Ab).tup_inv
  cases e
  exact ⟨xs,Sj.of hb,by rw[rb.len]; exact Ai _⟩
theorem iW{lo:Int}{n:Nat}:IterOk K (o4 lo n) [] .sh ((Cu n).map λi:Nat=>.int (lo+i)) where
 md:=.inl rfl
 hd:=λ_ z=>nomatch z
 np:=λ_ _ z=>nomatch z
 go:=λH k i h hi=>by
  show i<n
  simpa using hi
 yld:=λH k i x H' h hi y=>by
  obtain ⟨rfl,rfl⟩:=y
  rw[Ac,Fp] at hi
  exact ⟨La.refl _,.int (lo+i),[],by simp [hi],.int _,λ_ z=>nomatch z⟩
 stop:=λH k h=>by simp [o4]
theorem nK{a:Addr}{m:Md}{ds:List Ad}{F:List Addr}:IterOk K (W0 K a) [⟨some (.ref a),.dat (Jw m) (.list ds),F⟩] (Jw m) (ds.zipIdx.map λp=>.tuple [.int p.2,p.1]) where
 md:=cA m
 hd:=dJ
 np:=lV
 go:=λH n i h hi=>by
  obtain ⟨b,xs,G,e,hb,rb,_,_⟩:=(Jk h Ab).list_inv
  cases e
  have hl:=rb.len
  rw[Ac,Nn] at hi
  exact ⟨xs,xs[i],Kq.of hb,by simp [show i<xs.length by omega]⟩
 yld:=λH n i x H' h hi y=>by
  obtain ⟨b,xs,G,e,hb,rb,rfl,_⟩:=(Jk h Ab).list_inv
  cases e
  rw[Ac,Nn] at hi
  obtain ⟨t,z,rfl,nt,rfl,y⟩:=y
  have hx:=y xs (Kq.of hb)
  obtain ⟨x',F',h1,h2,h3⟩:=rb.get (i:=i) (e:=ds[i]) (by simp [hi])
  rw[hx] at h1
  cases h1
  have s1:=Di nt (.tup [.int i,z])
  refine ⟨s1,.tuple [.int i,ds[i]],F',by simp [hi],.tup Cr (by simp [Ih]) ?_,λc hc=>⟨_,Ab,Af _ (h3.subset hc)⟩⟩
  have:=RdFs.cons (F:=[]) (.int (i:Int)) (RdFs.cons (h2.kp (Kp.of s1)) RdFs.nil)
  rw[Ea] at this
  exact this
 stop:=λH n h=>by
  obtain ⟨b,xs,G,e,hb,rb,_,_⟩:=(Jk h Ab).list_inv
  cases e
  exact ⟨xs,Kq.of hb,by rw[Ac,Nn,rb.len]; exact Ai _⟩
end
section
variable{X:Cx}{tg e:Expr}{de:DE}{di:DI}
def dL(de:DE):DI:=λδ P=>de δ λx δ'=>match x with
 | .dat m (.list ds)=>P (Jw m) ds δ'
 | _=>False
def AA(de:DE):DI:=λδ P=>de δ λx δ'=>match x with
 | .dat m (.tuple ds)=>P (Jw m) ds δ'
 | _=>False
theorem zV(h:Fb X e de):zK X tg e (dL de):=by
 refine PI.imp (cE h) λσ H R h=>?_
 obtain ⟨H0,Y,S,T,δ,P,rfl,hS,hA,hd,k⟩:=h
 refine ⟨H0,Y,S,T,δ,_,rfl,hS,hA,hd,λx δ1 v F S1 H1 e1 e2 hA1 p1=>?_⟩
 split at p1
 ·obtain ⟨a,xs,G,rfl,ha,ra,rfl,hz⟩:=(hA1.told mem_mid).list_inv
  exact ⟨a,rfl,⟨xs,Kq.of ha⟩,k _ _ δ1 _ [_] S1 H1 e1 e2 ((hA1.mid.wk (cM _)).tomid) pC hz p1⟩
 ·exact p1.elim
theorem X9(h:Fb X e de):zK X tg e (AA de):=by
 refine PI.imp (B3 h) λσ H R h=>?_
 obtain ⟨H0,Y,S,T,δ,P,rfl,hS,hA,hd,k⟩:=h
 refine ⟨H0,Y,S,T,δ,_,rfl,hS,hA,hd,λx δ1 v F S1 H1 e1 e2 hA1 p1=>?_⟩
 split at p1
 ·obtain ⟨a,xs,rfl,ha,ra,hz⟩:=(hA1.told mem_mid).tup_inv
  exact ⟨a,rfl,⟨xs,Sj.of ha⟩,k _ _ δ1 _ [_] S1 H1 e1 e2 ((hA1.mid.wk (cM _)).tomid) rS hz p1⟩
 ·exact p1.elim
variable{es:List Expr}{da:DA}{a b:Expr}{p pos tp:Pos}{elts:List Expr}{kt:Nat}
theorem Uy(hg:Gl X "range")(hm:X.mg "range" = none)(ha:jM X [a] da)(hs:Bp [a] X.env=[(false,eval a X.env)]:=by rfl):zK X tg (.Call (.Name "range" p) [a] [] pos) (gZ da):=by
 refine PI.imp (Ut hg hm ha hs) λσ H R h=>?_
 obtain ⟨H0,Y,S,T,δ,P,rfl,hS,hA,hd,k⟩:=h
 refine ⟨H0,Y,S,T,δ,_,rfl,hS,hA,hd,λxs δ' As us S' H' e1 e2 ex eu hA' p=>?_⟩
 split at p
 ·obtain ⟨v,F,rfl,hA2⟩:=Gw eu hA' ex
  obtain ⟨rfl,_⟩:=(hA2.told mem_mid).int_inv
  obtain ⟨j0,j1,pp⟩:=p
  refine ⟨_,rfl,by omega,by omega,k _ _ δ' _ [] S' H' e1 e2 hA2.drop iW (by rw[Ac,Fp]; exact nO (by omega)) ?_⟩
  simpa using pp
 ·exact p.elim
theorem wZ(hg:Gl X "enumerate")(hm:X.mg "enumerate" = none)(ha:jM X [a] da)(hs:Bp [a] X.env=[(false,eval a X.env)]:=by rfl):zK X (.Tuple elts kt tp) (.Call (.Name "enumerate" p) [a] [] pos) (qK da):=by
 refine PI.imp (vT hg hm ha hs) λσ H R h=>?_
 obtain ⟨H0,Y,S,T,δ,P,rfl,hS,hA,hd,k⟩:=h
 refine ⟨H0,Y,S,T,δ,_,rfl,hS,hA,hd,λxs δ' As us S' H' e1 e2 ex eu hA' p=>?_⟩
 split at p
 ·obtain ⟨v,F,rfl,hA2⟩:=Gw eu hA' ex
  obtain ⟨a,xs,G,rfl,ha,ra,rfl,hz⟩:=(hA2.told mem_mid).list_inv
  exact ⟨a,rfl,⟨xs,Kq.of ha⟩,k _ _ δ' _ [_] S' H' e1 e2 ((hA2.mid.wk (cM _)).tomid) nK (by rw[Ac,Nn]; exact hz) p⟩
 ·exact p.elim
end
def L5(di:DI)(dg:DG)(db:DB):DB:=λD δ=>di δ λm ds δ1=>m=.sh/\∃I:Nat->DS->Prop,I 0 δ1 /\
 (∀i d δ',ds[i]? = some d->I i δ'->dg (.dat .sh d) δ' λδ2=>db { D with nx:=I (i+1),ct:=I (i+1),bk:=D.nx } δ2)/\∀δ',I ds.length δ'->D.nx δ'
section
variable{X:Cx}{tg iter:Expr}{di:DI}{dg:DG}{db:DB}{body:List Stmt}{pos:Pos}
theorem At.dropH{K:PySem.W.Frag}{H0 H:Hp}{X:Addr->Prop}{n:Nat}{S T hid:List Ent}{e:Ent}(h:At K H0 X n (S++e::(hid++T)) H):At K H0 X n (S++e::T) H:=h.sub ((Eb S).append ((Dt hid T).cons₂ e))
theorem Uu(hp:PassesOwn (model X.prog X.w) X.A X.env X.xe)(hc:X.calm=true)(hi:zK X tg iter di)(hg:Z1 X tg dg)(hb:Vr X body db)(hs:∀x,Fe iter X.env x=pure x:=by intro _; rfl):nM X (.For tg iter body [] pos) (L5 di dg db):=by
 refine PS.impD (cN hp hc hi hg hb hs) λD σ H h=>?_
 obtain ⟨H0,Y,S,T,δ,P,rfl,hS,hT,hA,hd,k1,k2,k3,k4⟩:=h
 refine ⟨H0,Y,S,T,δ,_,rfl,hS,hA,hd,λm ds δ1 J hid S1 H1 e1 e2 hA1 it hz p1=>?_⟩
 obtain ⟨rfl,I,h0,hs,hf⟩:=p1
 rw[<- e1]
 have hT':∀e∈hid++T,Mp e.x=false:=λe he=>by
  rcases Bi.mp he with he | he
  ·exact it.np rfl e he
  ·exact hT e he
 refine ⟨λi q σ H=>q=ds.length - i/\i<=ds.length/\∃S δ,vs S=σ/\Sl S δ/\At X.K H0 Y δ.n (S++(hid++T)) H/\I i δ,⟨ds.length,by simp,Ct _,S1,δ1,rfl,e2,hA1,h0⟩,?_⟩
 (intro i q σ H q_; obtain ⟨rfl,hi,S2,δ2,rfl,e3,hA2,hI⟩ := q_)
 have hid_ok:∀e∈hid,Hy X.K H δ2.n e:=λe he=>hA2.ok e (Ao _ (Av _ he))
 by_cases hlt:i<ds.length
 ·refine .inr ⟨it.go H δ2.n i hid_ok hlt,λσ' H'=>∃S δ,vs S=σ'/\Sl S δ/\At X.K H0 Y δ.n (S++(hid++T)) H'/\I (i+1) δ,λσ' H' q=>⟨ds.length - (i+1),by omega,rfl,hlt,q⟩,λx H' y=>?_⟩
  obtain ⟨s1,d,F,h1,h2,h3⟩:=it.yld H δ2.n i x H' hid_ok hlt y
  refine ⟨H0,Y,S2,hid++T,δ2,.dat .sh d,F,_,rfl,e3,hA2.item s1 h2 h3 it.md it.hd it.np,hs i d δ2 h1 hI,λδ3 S3 H3 e4 hA3 p3=>?_⟩
  refine ⟨H0,Y,S3,hid++T,δ3,_,rfl,e4,hT',hA3,p3,λδ4 S4 H4 e5 hA4 p4=>⟨S4,δ4,rfl,e5,hA4,p4⟩,λx δ4 v F S4 H4 e5 hA4 p4=>k2 x δ4 v F S4 H4 e5 hA4.dropH p4,
   λδ4 S4 H4 e5 hA4 p4=>k1 δ4 S4 H4 e5 hA4.dropL p4,λδ4 S4 H4 e5 hA4 p4=>⟨S4,δ4,rfl,e5,hA4,p4⟩⟩
 ·have e:i=ds.length:=by omega
  subst e
  exact .inl ⟨it.stop H δ2.n hid_ok,k1 δ2 S2 H e3 hA2.dropL (hf δ2 hI)⟩
end
end DL
namespace Nd
open PySem PySem.Spec PyProof.Rows L2
end Nd
namespace DL
open PySem L2 Nd
def al(e:Ent):Ent:=match e.x with
 | .dat m d=>⟨e.v,.dat (dQ m) d,e.F⟩
 | .val _=>e
 | .scr _=>e
 | _=>⟨e.v,.un,[]⟩
def alD:DV->DV
 | .dat m d=>.dat (dQ m) d
 | .val v=>.val v
 | .scr ns=>.scr ns
 | _=>.un
def qT(S:List Ent)(j:Nat):Ent:=match S[j]? with
 | some e=>al e
 | none=>⟨none,.un,[]⟩
def pI(S:List Ent)(js:List Nat):List Ent:=js.map (qT S)
def frD1(sl:List DV)(j:Nat):DV:=match sl[j]? with
 | some x=>alD x
 | none=>.un
def frD(sl:List DV)(js:List Nat):List DV:=js.map (frD1 sl)
theorem X1(e:Ent):(al e).v=e.v:=by
 obtain ⟨v,x,F⟩:=e
 cases x <;> rfl
theorem W2(e:Ent):(al e).x=alD e.x:=by
 obtain ⟨v,x,F⟩:=e
 cases x <;> rfl
theorem n9(S:List Ent)(js:List Nat):vs (pI S js)=Gc (vs S) js:=by
 unfold vs pI Gc
 rw[Bw]
 refine Dl λj _=>?_
 rw[Aw]
 simp only[Function.comp,qT]
 cases S[j]? with
 | none=>rfl
 | some e=>exact X1 e
theorem zP{S:List Ent}{δ:DS}(h:Sl S δ)(js:List Nat):(pI S js).map Ent.x=frD δ.sl js:=by
 unfold Sl at h
 unfold pI frD
 rw[Bw]
 refine Dl λj _=>?_
 simp only[Function.comp,qT,frD1]
 rw[<- h,Aw]
 cases S[j]? with
 | none=>rfl
 | some e=>exact W2 e
section
variable{K:PySem.W.Frag}{H0 H H':Hp}{X:Addr->Prop}{n:Nat}{E S T:List Ent}
theorem fV(e:Ent):cells (al e)=[]:=by
 obtain ⟨v,x,F⟩:=e
 cases x with
 | dat m d=>cases m <;> rfl
 | _=>rfl
theorem At.view1(h:At K H0 X n E H){e:Ent}(he:e∈E):At K H0 X n (al e::E) H:=by
 refine h.push ?_ (λf hf=>⟨λ_ a ha=>(by rw[fV] at ha; cases ha),λhq a ha z=>?_⟩) λa ha=>(by rw[fV] at ha; cases ha)
 ·have:=h.ok e he
  obtain ⟨v,x,F⟩:=e
  cases x with
  | dat m d =>
   obtain ⟨w,h1,h2,_⟩:=this
   exact ⟨w,h1,h2,λz=>(by cases m <;> cases z),λz=>(by cases m <;> cases z)⟩
  | val v=>exact this
  | scr ns=>exact this
  | _=>exact (rfl:([]:List Addr)=[])
 ·obtain ⟨v,x,F⟩:=e
  cases x with
  | dat m d =>
   rcases jJ h he hf with rfl | q
   ·rcases hq with hq | hq
    ·cases m <;> first | cases hq; done | exact nomatch ha
    ·cases hq
   ·refine q.2 ?_ a ha z
    rcases hq with hq | hq
    ·refine .inl ?_
     cases m <;> first | rfl | exact hq
    ·exact .inr hq
  | val v =>
   rw[show F=[] from (h.ok _ he).2] at z
   cases z
  | scr ns =>
   obtain ⟨_,_,hF,_⟩:=h.ok _ he
   rw[show F=[] from hF] at z
   cases z
  | _=>exact nomatch z
theorem At.blank(h:At K H0 X n E H){v:Option V}:At K H0 X n (⟨v,.un,[]⟩::E) H :=
 h.push (rfl:([]:List Addr)=[]) (λf _=>⟨λ_ a ha=>(nomatch ha),λ_ a _=>Az⟩) (λa ha=>(nomatch ha))
theorem At.view(h:At K H0 X n E H)(hS:∀e∈S,e∈E):∀js:List Nat,At K H0 X n (pI S js++E) H
 | []=>h
 | j::js=>by
  have ih:=At.view h hS js
  show At K H0 X n (qT S j::(pI S js++E)) H
  unfold qT
  cases e:S[j]? with
  | none=>exact ih.blank
  | some x=>exact ih.view1 (Ao _ (hS x (Aq e)))
theorem At.accNew(h:At K H0 X n E H){D:Addr}(hD:H D=Nr):At K H0 X n (⟨some (.ref D),.acc [],[D]⟩::E) (upd H D (.lst [])):=by
 have s1:=Di hD (.lst [])
 refine (h.grow (n':=n) s1 (Ai _)).push ⟨D,[],[],rfl,rfl,Cr,.nil,Ct _,Az⟩ (λf hf=>?_) λa ha=>?_
 ·have nf:=h.free hD f hf
  refine ⟨λ_ a ha z=>?_,λ_ a ha z=>?_⟩
  ·rw[Ah.mp ha] at z
   exact nf z
  ·rw[Ah.mp z] at ha
   exact nf (Fh _ _ ha)
 ·rw[Ah.mp ha]
  exact .inl (h.new0 hD)
theorem At.accPutG{D:Addr}{ds:List Ad}{v:V}{m:Md}{e:Ad}{F G:List Addr}(h:At K H0 X n (⟨some (.ref D),.acc ds,D::G⟩::⟨some v,.dat m e,F⟩::E) H)(hm:m≠.pk)(hz:ds.length+1<=Ap):∃xs,H D=some (.lst xs)/\xs.length=ds.length/\At K H0 X n (⟨some (.ref D),.acc (ds++[e]),D::(G++F)⟩::E) (upd H D (.lst (xs++[v]))):=by
 obtain ⟨a,xs,G',e1,e0,ha,ra,_,nG⟩:=h.ok _ Ab
 have e1':some (V.ref D)=some (V.ref a):=e1
 cases e1'
 have e0':D::G=D::G':=e0
 cases e0'
 have r:RdF K H v e F:=h.told (Af _ Ab)
 have hs:=Bd.mp h.sep
 have hs2:=Bd.mp hs.2
 have h1:=(h.sub (Dg _ _)).sub (Dg _ _)
 have npk:Mp (.dat m e)=false:=by cases m <;> first | rfl | exact absurd rfl hm
 have nF:D∉F:=(hs.1 _ Ab).1 (.inr rfl) D Ab
 have kp:∀{F:List Addr},D∉F->Kp F H (upd H D (.lst (xs++[v]))):=λ{F} hF b o q z=>by
  have : b≠D:=by
   rintro rfl
   rw[ha] at q
   cases q
   rcases z with z | z
   ·exact hF z
   ·rcases z with ⟨_,z⟩ | ⟨_,_,z⟩ <;> cases z
  rw[Cn this]
  exact q
 have nD:H0 D=Nr:=by
  rcases h.new _ Ab D Ab with z | z
  ·exact z
  ·cases z.2
 refine ⟨xs,ha,ra.len,?_⟩
 refine ⟨λf hf=>?_,?_,λf hf=>?_,λb o nx q=>?_,λb o q=>?_,λb hb=>?_⟩
 rotate_right
 ·obtain ⟨z,c,k,f,h1,h2⟩:=h.xd b hb
  refine ⟨z,c,k,f,(Cn ?_).trans h1,h2⟩
  rintro rfl
  exact z nD
 ·rcases Ak.mp hf with rfl | hf
  ·exact ⟨D,xs++[v],G++F,rfl,rfl,Cr,(ra.kp (kp nG)).snoc (r.kp (kp nF)),by rw[Cc]; exact hz,λz=>(Bi.mp z).elim nG nF⟩
  ·exact (h1.ok f hf).kp (kp ((hs.1 f (Af _ hf)).1 (.inr rfl) D Ab)) (Ai _)
 ·refine Bd.mpr ⟨λf hf=>⟨λhq a ha'=>(hs.1 f (Af _ hf)).1 (.inr rfl) a ha',λhq a ha' z=>?_⟩,hs2.2⟩
  have z1:=(hs.1 f (Af _ hf)).2 (.inl rfl) a ha'
  rcases Ak.mp z with z | z
  ·exact z1 (z▸Ab)
  ·rcases Bi.mp z with z | z
   ·exact z1 (Af _ z)
   ·exact (hs2.1 f hf).2 (.inl npk) a ha' z
 ·rcases Ak.mp hf with rfl | hf
  ·intro a ha'
   rw[Ah.mp ha']
   exact .inl nD
  ·exact h1.new f hf
 ·rw[Cn (Da q nD)]
  exact h.same b o nx q
 ·rw[Cn (Da q nD)]
  exact h.dom b o q
theorem At.accPut{D:Addr}{ds:List Ad}{v:V}{e:Ad}(h:At K H0 X n (⟨some (.ref D),.acc ds,[D]⟩::E) H)(r:RdF K H v e [])(hz:ds.length+1<=Ap):∃xs,H D=some (.lst xs)/\xs.length=ds.length/\At K H0 X n (⟨some (.ref D),.acc (ds++[e]),[D]⟩::E) (upd H D (.lst (xs++[v]))) :=
 At.accPutG (m:=.ow) (At.pushI (S:=[⟨some (.ref D),.acc ds,[D]⟩]) h r) (by decide) hz
def aE:Bool->Md
 | true=>.ow
 | false=>.tp
theorem At.accGetG{D:Addr}{ds:List Ad}{b:Bool}{G:List Addr}(h:At K H0 X n (⟨some (.ref D),.acc ds,D::G⟩::E) H)(hb:b=true->G=[]):At K H0 X n (⟨some (.ref D),.dat (aE b) (.list ds),D::G⟩::E) H:=by
 obtain ⟨a,xs,G',e1,e0,ha,ra,hz,nG⟩:=h.ok _ Ab
 have e1':some (V.ref D)=some (V.ref a):=e1
 cases e1'
 have e0':D::G=D::G':=e0
 cases e0'
 have hs:=Bd.mp h.sep
 have cs:∀a∈cells ⟨some (.ref D),.dat (aE b) (.list ds),D::G⟩,a=D:=λa ha'=>by
  cases b with
  | true=>rw[hb rfl] at ha'; exact Ah.mp ha'
  | false=>exact Ah.mp ha'
 refine (h.sub (Dg _ _)).push ⟨_,rfl,.lst ha hz ra,λz=>?_,λ_ a l e=>?_⟩ (λf hf=>⟨λhq a ha'=>?_,λhq a ha'=>(hs.1 f hf).2 (.inl rfl) a ha'⟩) λa ha'=>?_
 ·cases b with
  | true=>rw[hb rfl]; exact Bx.mpr ⟨Az,Cs⟩
  | false=>cases z
 ·have e:D::G=a::l:=e
  cases e
  exact nG
 ·rw[cs a ha']
  exact (hs.1 f hf).1 (.inr rfl) D Ab
 ·rw[cs a ha']
  rcases h.new _ Ab D Ab with z | z
  ·exact .inl z
  ·cases z.2
end
def bQ:DT:=λδ P=>P true δ
def E6(b:Bool)(m:Md)(e:Ad):Prop:=match b with
 | true=>imm e=true
 | false=>m≠.pk
def Qs(b:Bool)(dc:DT)(de:DE)(δ:DS)(yes:Ad->Nat->Prop)(no:Nat->Prop):Prop:=dc δ λc δ2=>match c with
 | true=>de δ2 λy δ3=>match y with
  | .dat m e=>E6 b m e/\yes e δ3.n
  | _=>False
 | false=>no δ2.n
def tH(b:Bool)(di:DI)(js:List Nat)(dc:DT)(de:DE):DE:=λδ P=>di δ λm ds δ1=>∃I:Nat->List Ad->Nat->Prop,I 0 [] δ1.n /\
 (∀i d acc n,ds[i]? = some d->I i acc n->Qs b dc de ⟨.dat m d::frD δ1.sl js,n⟩ (λe n'=>I (i+1) (acc++[e]) n') (λn'=>I (i+1) acc n')) /\
 ∀acc n,I ds.length acc n->P (.dat (aE b) (.list acc)) ⟨δ1.sl,n⟩
def lF(b:Bool)(di:DI)(js:List Nat)(dc:DT)(de:DE):DE:=λδ P=>di δ λm ds δ1=>∃I:Nat->List Ad->Nat->Prop,I 0 [] δ1.n /\
 (∀i d acc n,ds[i]? = some d->I i acc n->∃d1 d2,d=.tuple [d1,d2]/\Qs b dc de ⟨.dat m d1::.dat m d2::frD δ1.sl js,n⟩ (λe n'=>I (i+1) (acc++[e]) n') (λn'=>I (i+1) acc n')) /\
 ∀acc n,I ds.length acc n->P (.dat (aE b) (.list acc)) ⟨δ1.sl,n⟩
def Nv:DT->DE->DS->(Ad->Nat->Prop)->(Nat->Prop)->Prop:=Qs true
def uH:DI->List Nat->DT->DE->DE:=tH true
def uJ:DI->List Nat->DT->DE->DE:=lF true
section
variable{K:PySem.W.Frag}{H0 H H':Hp}{Y:Addr->Prop}{n:Nat}{E S T:List Ent}
theorem fS{b:Bool}{dc:DT}{de:DE}{δ:DS}{yes:Ad->Nat->Prop}{no:Nat->Prop}{D:Addr}{G:List Addr}{acc:List Ad}{N1:Hp->Prop}{N2:VK}(hS:Sl S δ)(hb:b=true->G=[])(hA:At K H0 Y δ.n (S++⟨some (.ref D),.acc acc,D::G⟩::T) H)(h:Qs b dc de δ yes no)(hz:acc.length+1<=Ap)(k1:∀n' H',At K H0 Y n' (⟨some (.ref D),.acc acc,D::G⟩::T) H'->no n'->N1 H')(k2:∀e n' v H' G',(b=true->G'=[])->(∃xs,H' D=some (.lst xs)/\xs.length=acc.length/\At K H0 Y n' (⟨some (.ref D),.acc (acc++[e]),D::G'⟩::T) (upd H' D (.lst (xs++[v]))))->yes e n'->N2 v H'):LT K dc (vs S) H λc H2=>if c=true then LE K de (vs S) H2 N2 else N1 H2:=by
 refine ⟨H0,Y,S,⟨some (.ref D),.acc acc,D::G⟩::T,δ,_,rfl,hS,hA,h,λc δ2 S2 H2 e1 e2 hA2 p2=>?_⟩
 cases c with
 | false=>exact xD (k1 _ _ (hA2.sub (Dt _ _)) p2)
 | true =>
  refine tQ ⟨H0,Y,S2,⟨some (.ref D),.acc acc,D::G⟩::T,δ2,_,e1,e2,hA2,p2,λy δ3 v F S3 H3 e3 e4 hA3 p3=>?_⟩
  split at p3
  ·rename_i m e
   have r:=hA3.told mem_mid
   cases b with
   | true =>
    obtain rfl:=r.imm p3.1
    obtain rfl:=hb rfl
    exact k2 _ _ _ _ [] (λ_=>rfl) ((hA3.drop.sub (Dt _ _)).accPut r hz) p3.2
   | false =>
    have hA4:At K H0 Y δ3.n (⟨some v,.dat m e,F⟩::⟨some (.ref D),.acc acc,D::G⟩::T) H3:=hA3.sub (Dt _ _)
    exact k2 _ _ _ _ (G++F) (λz=>nomatch z) ((hA4.perm (Jz _ _ _)).accPutG p3.1 hz) p3.2
  ·exact p3.elim
theorem nB{dt:TT}:∀σ H Q,LT K bQ σ H Q->Wm σ H Q:=by
 intro σ H Q h
 obtain ⟨H0,Y,S,T,δ,P,rfl,hS,hA,hd,k⟩:=h
 exact k true δ S H rfl hS hA hd
theorem pG.imp{X:Cx}{e:List Expr}{t t':TT}(h:pG X e t)(k:∀σ H Q,t' σ H Q->t σ H Q):pG X e t':=λpins s σ H Q I q=>h pins s σ H Q I (k σ H Q q)
theorem lD{b:Bool}{di:DI}{js:List Nat}{dc:DT}{de:DE}:∀σ H Q,LE K (tH b di js dc de) σ H Q->mJ (LI K di) js (LT K dc) (LE K de) σ H Q:=by
 intro σ H Q h
 obtain ⟨H0,Y,S,T,δ,P,rfl,hS,hA,hd,k⟩:=h
 refine ⟨H0,Y,S,T,δ,_,rfl,hS,hA,hd,λm ds δ1 J hid S1 H1 e1 e2 hA1 it hz p1=>?_⟩
 obtain ⟨I,h0,hs,hf⟩:=p1
 rw[<- e1]
 intro D hD
 refine ⟨λi q H=>q=ds.length - i/\i<=ds.length/\∃acc n G,(b=true->G=[])/\At K H0 Y n (⟨some (.ref D),.acc acc,D::G⟩::(S1++(hid++T))) H/\acc.length<=i/\I i acc n,⟨ds.length,by simp,Ct _,[],δ1.n,[],λ_=>rfl,hA1.accNew hD,Ai _,h0⟩,?_⟩
 (intro i q H q_; obtain ⟨rfl,hi,acc,n,G,hG,hA2,hl,hI⟩ := q_)
 have hid_ok:∀e∈hid,Hy K H n e:=λe he=>hA2.ok e (Af _ (Ao _ (Av _ he)))
 by_cases hlt:i<ds.length
 ·refine .inr ⟨it.go H n i hid_ok hlt,λx H' y=>?_⟩
  obtain ⟨s1,d,F,h1,h2,h3⟩:=it.yld H n i x H' hid_ok hlt y
  have hA3:At K H0 Y n ((⟨some (.ref D),.acc acc,D::G⟩::S1)++⟨some x,.dat m d,F⟩::(hid++T)) H':=At.item (S:=⟨some (.ref D),.acc acc,D::G⟩::S1) hA2 s1 h2 h3 it.md it.hd it.np
  have hA4:=hA3.mid
  have hA5:=At.view (S:=S1) hA4 (λe he=>Af _ (Av _ (Af _ he))) js
  have hA6:At K H0 Y n ((⟨some x,.dat m d,F⟩::pI S1 js)++⟨some (.ref D),.acc acc,D::G⟩::(S1++(hid++T))) H':=hA5.mid
  have hS6:Sl (⟨some x,.dat m d,F⟩::pI S1 js) ⟨.dat m d::frD δ1.sl js,n⟩:=by
   unfold Sl
   rw[Au,zP e2]
  have hv:vs (⟨some x,.dat m d,F⟩::pI S1 js)=some x::Gc (vs S1) js:=by
   rw[<- n9]
   rfl
  refine ⟨λH2=>∃m',m'<ds.length - i/\_,λy H3=>∃acc,H3 D=some (.lst acc)/\acc.length<Ap/\∃m',m'<ds.length - i/\_,λH2 q=>q,λy H3 q=>q,?_⟩
  rw[<- hv]
  refine fS hS6 hG hA6 (hs i d acc n h1 hI) (by omega) (λn' H2 hA7 p=>?_) (λe n' v H2 G' hG' hA7 p=>?_)
  ·exact ⟨ds.length - (i+1),by omega,rfl,hlt,acc,n',G,hG,hA7,by omega,p⟩
  ·obtain ⟨xs,g1,g2,g3⟩:=hA7
   exact ⟨xs,g1,by omega,ds.length - (i+1),by omega,rfl,hlt,acc++[e],n',G',hG',g3,by rw[Cc]; simp; omega,p⟩
 ·have e:i=ds.length:=by omega
  subst e
  refine .inl ⟨it.stop H n hid_ok,k _ ⟨δ1.sl,n⟩ _ (D::G) S1 H e1 e2 ?_ (hf acc n hI)⟩
  have hA3:=hA2.accGetG hG
  have hA4:At K H0 Y n (⟨some (.ref D),.dat (aE b) (.list acc),D::G⟩::(S1++T)) H:=hA3.sub (((Eb S1).append (Dt hid T)).cons₂ _)
  exact hA4.tomid
theorem tK{b:Bool}{di:DI}{js:List Nat}{dc:DT}{de:DE}:∀σ H Q,LE K (lF b di js dc de) σ H Q->qR K (LI K di) js (LT K dc) (LE K de) σ H Q:=by
 intro σ H Q h
 obtain ⟨H0,Y,S,T,δ,P,rfl,hS,hA,hd,k⟩:=h
 refine ⟨H0,Y,S,T,δ,_,rfl,hS,hA,hd,λm ds δ1 J hid S1 H1 e1 e2 hA1 it hz p1=>?_⟩
 obtain ⟨I,h0,hs,hf⟩:=p1
 rw[<- e1]
 intro D hD
 refine ⟨λi q H=>q=ds.length - i/\i<=ds.length/\∃acc n G,(b=true->G=[])/\At K H0 Y n (⟨some (.ref D),.acc acc,D::G⟩::(S1++(hid++T))) H/\acc.length<=i/\I i acc n,⟨ds.length,by simp,Ct _,[],δ1.n,[],λ_=>rfl,hA1.accNew hD,Ai _,h0⟩,?_⟩
 (intro i q H q_; obtain ⟨rfl,hi,acc,n,G,hG,hA2,hl,hI⟩ := q_)
 have hid_ok:∀e∈hid,Hy K H n e:=λe he=>hA2.ok e (Af _ (Ao _ (Av _ he)))
 by_cases hlt:i<ds.length
 ·refine .inr ⟨it.go H n i hid_ok hlt,λx H' y=>?_⟩
  obtain ⟨s1,d,F,h1,h2,h3⟩:=it.yld H n i x H' hid_ok hlt y
  obtain ⟨d1,d2,rfl,hst⟩:=hs i d acc n h1 hI
  obtain ⟨t,xs,rfl,ht,rt,_⟩:=h2.tup_inv
  cases rt with
  | @cons w1 _ xs _ F1 _ r1 rt =>
   cases rt with
   | @cons w2 _ xs _ F2 G r2 rt =>
    cases rt
    have hA3:At K H0 Y n ((⟨some (.ref D),.acc acc,D::G⟩::S1)++⟨some w1,.dat m d1,F1⟩::(hid++T)) H':=At.item (S:=⟨some (.ref D),.acc acc,D::G⟩::S1) hA2 s1 r1 (λa ha=>h3 a (Av _ ha)) it.md it.hd it.np
    have hA3':At K H0 Y n ((⟨some w1,.dat m d1,F1⟩::⟨some (.ref D),.acc acc,D::G⟩::S1)++(hid++T)) H':=hA3.mid
    have hA3'':At K H0 Y n ((⟨some w1,.dat m d1,F1⟩::⟨some (.ref D),.acc acc,D::G⟩::S1)++⟨some w2,.dat m d2,F2⟩::(hid++T)) H':=At.item hA3' (La.refl _) r2 (λa ha=>h3 a (Ao _ (Av _ ha))) it.md it.hd it.np
    have hA4:At K H0 Y n (⟨some w1,.dat m d1,F1⟩::⟨some w2,.dat m d2,F2⟩::⟨some (.ref D),.acc acc,D::G⟩::(S1++(hid++T))) H':=hA3''.mid.perm (Jz _ _ _)
    have hA5:=At.view (S:=S1) hA4 (λe he=>Af _ (Af _ (Af _ (Av _ he)))) js
    have hA6:At K H0 Y n ((⟨some w1,.dat m d1,F1⟩::⟨some w2,.dat m d2,F2⟩::pI S1 js)++⟨some (.ref D),.acc acc,D::G⟩::(S1++(hid++T))) H':=by
     have z:=hA5.mid
     refine z.perm ?_
     exact (Pk).cons _
    have hS6:Sl (⟨some w1,.dat m d1,F1⟩::⟨some w2,.dat m d2,F2⟩::pI S1 js) ⟨.dat m d1::.dat m d2::frD δ1.sl js,n⟩:=by
     unfold Sl
     rw[Au,Au,zP e2]
    have hv:vs (⟨some w1,.dat m d1,F1⟩::⟨some w2,.dat m d2,F2⟩::pI S1 js)=some w1::some w2::Gc (vs S1) js:=by
     rw[<- n9]
     rfl
    refine ⟨t,w1,w2,rfl,Sj.of ht,λH2=>∃m',m'<ds.length - i/\_,λy H3=>∃acc,H3 D=some (.lst acc)/\acc.length<Ap/\∃m',m'<ds.length - i/\_,λH2 q=>q,λy H3 q=>q,?_⟩
    rw[<- hv]
    refine fS hS6 hG hA6 hst (by omega) (λn' H2 hA7 p=>?_) (λe n' v H2 G' hG' hA7 p=>?_)
    ·exact ⟨ds.length - (i+1),by omega,rfl,hlt,acc,n',G,hG,hA7,by omega,p⟩
    ·obtain ⟨xs,g1,g2,g3⟩:=hA7
     exact ⟨xs,g1,by omega,ds.length - (i+1),by omega,rfl,hlt,acc++[e],n',G',hG',g3,by rw[Cc]; simp; omega,p⟩
 ·have e:i=ds.length:=by omega
  subst e
  refine .inl ⟨it.stop H n hid_ok,k _ ⟨δ1.sl,n⟩ _ (D::G) S1 H e1 e2 ?_ (hf acc n hI)⟩
  have hA3:=hA2.accGetG hG
  have hA4:At K H0 Y n (⟨some (.ref D),.dat (aE b) (.list acc),D::G⟩::(S1++T)) H:=hA3.sub (((Eb S1).append (Dt hid T)).cons₂ _)
  exact hA4.tomid
end
section
variable{X:Cx}{elt iter c:Expr}{x x2 y0:Str}{px px2 pt py pos spos:Pos}{kt i0:Nat}{ifs:List Expr}{scope:Scope}{cl:List (Str×Addr)}{ys:List Str}{js:List Nat}{di:DI}{dc:DT}{de:DE}
theorem Tb:pG X [] (LT X.K bQ):=pG.imp Yj (nB (dt:=Wm))
theorem Tn(h:kP X c dc):pG X [c] (LT X.K dc):=yT h
theorem Ot(C:CompScope X scope cl x ys js)(hc:X.calm=true)(hi:zK X (.Name x px) iter di)(ht:∀fp s H,pG (Et X scope cl (x::ys) fp s H) ifs (LT X.K dc))(he:∀fp s H,Fb (Et X scope cl (x::ys) fp s H) elt de)(hs:∀x,Fe iter X.env x=pure x:=by intro _; rfl):Fb X (.ListComp elt [⟨.Name x px,iter,ifs,0⟩] scope pos) (uH di js dc de):=PE.imp (bY C hc hi ht he hs) lD
theorem pT(C:CompScope X scope cl x ys js)(own2:pV scope x2)(nd2:(x::x2::ys).Nodup)(hc:X.calm=true)(hi:zK X (.Tuple [.Name x px,.Name x2 px2] kt pt) iter di)(ht:∀fp s H,pG (Et X scope cl (x::x2::ys) fp s H) ifs (LT X.K dc))(he:∀fp s H,Fb (Et X scope cl (x::x2::ys) fp s H) elt de)(hs:∀x,Fe iter X.env x=pure x:=by intro _; rfl):Fb X (.ListComp elt [⟨.Tuple [.Name x px,.Name x2 px2] kt pt,iter,ifs,0⟩] scope pos) (uJ di js dc de):=PE.imp (qO C own2 nd2 hc hi ht he hs) tK
def Y5(o:Bool)(i:Nat):DG:=match o with
 | true=>fX i
 | false=>Oj i
theorem Z3{K:PySem.W.Frag}{o:Bool}{i:Nat}:∀v σ H Q,LG K (Y5 o i) v σ H Q->Vj i v σ H Q:=by
 cases o with
 | true=>exact tL
 | false=>exact bV
theorem vX{o:Bool}(hN:X.N.Nodup)(hi0:X.N[i0]? = some y0)(hy0:X.env.scope.names.lookup y0=some .local)(C:CompScope X scope cl x ys js)(hc:X.calm=true)(hi:zK X (.Name x px) iter di)(ht:∀fp s H,pG (Et X scope cl (x::ys) fp s H) ifs (LT X.K dc))(he:∀fp s H,Fb (Et X scope cl (x::ys) fp s H) elt de)(hs:∀x,Fe iter X.env x=pure x:=by intro _; rfl)(hsw:Lc (.ListComp elt [⟨.Name x px,iter,ifs,0⟩] scope pos) (some (.Name y0 py)) spos.line X.env=pure true:=by rfl):nM X (.Assign [.Name y0 py] (.ListComp elt [⟨.Name x px,iter,ifs,0⟩] scope pos) spos) (pZ (uH di js dc de) (Y5 o i0)):=PS.impD (wF hN hi0 hy0 C hc hi ht he hs hsw) (kE lD Z3)
end
end DL
namespace DL
open PySem PySem.Spec PyProof.Rows L2 Nd
section
variable{K:PySem.W.Frag}{H0 H H':Hp}{X:Addr->Prop}{n n':Nat}{E S T:List Ent}
theorem At.pushF(h:At K H0 X n E H){v:V}{d:Ad}{F:List Addr}(r:RdF K H v d F)(nd:F.Nodup)(fr:∀a∈F,∀f∈E,a∉f.F)(f0:∀a∈F,H0 a=none):At K H0 X n (⟨some v,.dat .ow d,F⟩::E) H:=by
 refine h.push ⟨v,rfl,r,λ_=>nd,λz=>nomatch z⟩ (λf hf=>⟨λ_ a ha z=>fr a ha f hf z,λ_ a ha z=>fr a z f hf (Fh _ _ ha)⟩) λa ha=>.inl (f0 a ha)
theorem At.drawn(h:At K H0 X n E H){e:Ent}{dr:Addr}(he:e∈E)(hx:e.x=.drw)(hv:e.v=some (.ref dr))(s:Vf dr H H')(hd:∃c k f,fG H' dr c k f/\0<=k/\k<=(n':Int))(hn:n<=n'):At K H0 X n' E H':=by
 obtain ⟨v,x,F⟩:=e
 have hx':x=.drw:=hx
 subst hx'
 obtain ⟨dr',c0,k0,f0,hv',hF,hd0,_⟩:=h.ok _ he
 have e1:some (V.ref dr)=some (V.ref dr'):=hv.symm.trans hv'
 cases e1
 have hF':F=[dr]:=hF
 subst hF'
 refine ⟨λf hf=>?_,h.sep,h.new,λb o nx q=>?_,λb o q=>?_,λb hb=>?_⟩
 rotate_right
 ·obtain ⟨z,c,k,f,h1,h2,h3⟩:=h.xd b hb
  by_cases hbd:b=dr
  ·subst hbd
   exact ⟨z,hd⟩
  ·exact ⟨z,c,k,f,s _ _ hbd h1,h2,by omega⟩
 ·rcases jJ h he hf with rfl | q
  ·obtain ⟨c,k,fl,h1,h2,h3⟩:=hd
   exact ⟨dr,c,k,fl,hv',rfl,h1,h2,h3⟩
  ·have nf:dr∉f.F:=q.1 (.inr rfl) dr Ab
   refine (h.ok f hf).kp (λb o eb z=>?_) hn
   by_cases hb:b=dr
   ·subst hb
    rcases z with z | z
    ·exact absurd z nf
    ·have hd0':H b=some (.lst _):=hd0
     rw[eb] at hd0'
     cases hd0'
     rcases z with ⟨_,z⟩ | ⟨_,_,z⟩ <;> cases z
   ·exact s b o hb eb
 ·have hb:b≠dr:=by
   rintro rfl
   rcases h.new _ he b Ab with z | z
   ·rw[z] at q; cases q
   ·exact nx z.1
  exact s b o hb (h.same b o nx q)
 ·by_cases hb:b=dr
  ·subst hb
   obtain ⟨c,k,fl,h1,_⟩:=hd
   exact ⟨_,h1⟩
  ·obtain ⟨o',z⟩:=h.dom b o q
   exact ⟨o',s b o' hb z⟩
end
abbrev PF:=List Ad->(Ad->Prop)->Prop
abbrev DF:=List Ad->Nat->(Ad->Nat->Prop)->Prop
def Ve(K:PySem.W.Frag)(pf:PF):Sp:=λus H Q _=>∃(As:List Ent) (n:Nat) (ds:List Ad) (R:Ad->Prop),As.map Ent.v=us.map some/\(∀e∈As,Hy K H n e)/\datas (As.map Ent.x)=some ds/\pf ds R /\
 ∀v d F H',R d->RdF K H' v d F->F.Nodup->(∀a∈F,H a=none)->La H H'->Q v H'
def lN(K:PySem.W.Frag)(df:DF):Sp:=λus H Q _=>∃(dr:Addr) (ws:List V) (As:List Ent) (n:Nat) (ds:List Ad) (R:Ad->Nat->Prop),us=.ref dr::ws/\As.map Ent.v=ws.map some/\(∀e∈As,Hy K H n e)/\(∀e∈As,dr∉e.F)/\(∃c k f,fG H dr c k f/\0<=k/\k<=(n:Int))/\datas (As.map Ent.x)=some ds/\df ds n R /\
 ∀v d F n' H',n<=n'->R d n'->RdF K H' v d F->F.Nodup->(∀a∈F,H a=none)->(∃c k f,fG H' dr c k f/\0<=k/\k<=(n':Int))->Vf dr H H'->Q v H'
def rG(pf:PF)(da:DA):DE:=λδ P=>da δ λxs δ1=>match datas xs with
 | some ds=>pf ds λd=>P (.dat .ow d) δ1
 | none=>False
def iM(i:Nat)(df:DF)(da:DA):DE:=λδ P=>match δ.sl[i]? with
 | some .drw=>da δ λxs δ1=>match δ1.sl[i]? with
  | some .drw=>match datas xs with
   | some ds=>df ds δ1.n λd n'=>P (.dat .ow d) ⟨δ1.sl,n'⟩
   | none=>False
  | _=>False
 | _=>False
section
variable{X:Cx}{CX:pF}{k:Nat}{f:Addr}{fd:Cm}{ps:List Str}{pf:PF}{df:DF}{E:XK}{x:Str}{p pos:Pos}{e e0:Expr}{es:List Expr}{da:DA}
theorem Kw(F:FnOk X.prog X.w X.K X.mg X.base CX k f fd ps (Ve X.K pf))(hr:Room k X.A)(hg:Gl X x)(hm:X.mg x=some (.ref f))(hk:PySem.W.keepIn X.K (.ref f)=true)(hb:Binds X.K fd ps [])(hx:Pq CX X E)(ha:jM X (e::es) da)(hdb:(x == ("__debug__" : Str))=false:=by decide)(he:Bp (e::es) X.env=(false,eval e X.env)::Bp es X.env:=by rfl)(hpl:(Hi pos (Bp es X.env)).any (·.1)=false:=by rfl):Fb X (.Call (.Name x p) (e::es) [] pos) (rG pf da):=by
 refine PE.imp (dM F hr hg hm hk hb .nil hx ha hdb he hpl) λσ H Q h=>?_
 obtain ⟨H0,Y,S,T,δ,P,rfl,hS,hA,hd,kk⟩:=h
 refine ⟨H0,Y,S,T,δ,_,rfl,hS,hA,hd,λxs δ' As us S' H' e1 e2 ex eu hA' p=>?_⟩
 subst ex
 cases q:datas (As.map Ent.x) with
 | none=>rw[q] at p; exact p.elim
 | some ds =>
  rw[q] at p
  rw[Ea]
  refine ⟨As,δ'.n,ds,_,eu,λe he=>hA'.ok e (Ao _ (Av _ he)),q,p,λv d F H'' r rd nd fr s=>?_⟩
  exact kk _ δ' v F S' H'' e1 e2 (((hA'.dropL.grow s (Ai _)).pushF rd nd (λa ha=>hA'.dropL.free (fr a ha)) (λa ha=>hA'.new0 (fr a ha))).tomid) r
theorem Q8(F:FnOk X.prog X.w X.K X.mg X.base CX k f fd ps (Ve X.K pf))(hr:Room k X.A)(hg:Gl X x)(hm:X.mg x=some (.ref f))(hk:PySem.W.keepIn X.K (.ref f)=true)(hb:Binds X.K fd ps [])(hx:Pq CX X E)(hdb:(x == ("__debug__" : Str))=false:=by decide):Fb X (.Call (.Name x p) [] [] pos) (rG pf p9):=by
 refine PE.imp (vB F hr hg hm hk hb .nil hx hdb) λσ H Q h=>?_
 obtain ⟨H0,Y,S,T,δ,P,rfl,hS,hA,hd,kk⟩:=h
 show Ve X.K pf [] H Q E
 refine ⟨[],δ.n,[],_,rfl,λe he=>(nomatch he),rfl,hd,λv d F H'' r rd nd fr s=>?_⟩
 exact kk _ δ v F S H'' rfl hS (((hA.grow s (Ai _)).pushF rd nd (λa ha=>hA.free (fr a ha)) (λa ha=>hA.new0 (fr a ha))).tomid) r
theorem Mh{i:Nat}(F:FnOk X.prog X.w X.K X.mg X.base CX k f fd ps (lN X.K df))(hr:Room k X.A)(hg:Gl X x)(hm:X.mg x=some (.ref f))(hk:PySem.W.keepIn X.K (.ref f)=true)(hb:Binds X.K fd ps [])(hx:Pq CX X E)(h0:PE X e0 (Xy i))(ha:jM X es da)(hdb:(x == ("__debug__" : Str))=false:=by decide)(he:Bp (e0::es) X.env=(false,eval e0 X.env)::Bp es X.env:=by rfl)(hpl:(Hi pos (Bp es X.env)).any (·.1)=false:=by rfl):Fb X (.Call (.Name x p) (e0::es) [] pos) (iM i df da):=by
 refine PE.imp (dM F hr hg hm hk hb .nil hx (Fs h0 ha he) hdb he hpl) λσ H Q h=>?_
 obtain ⟨H0,Y,S,T,δ,P,rfl,hS,hA,hd,kk⟩:=h
 unfold iM at hd
 split at hd
 case h_2=>exact hd.elim
 rename_i hsl0
 have main:∀w,(vs S)[i]? = some (some w)->LA X.K da (vs S) H λxs H2=>lN X.K df ((w::xs)++[]) H2 Q E:=λw hw=>by
  refine ⟨H0,Y,S,T,δ,_,rfl,hS,hA,hd,λxs δ' As us S' H' e1 e2 ex eu hA' p=>?_⟩
  subst ex
  split at p
  ·rename_i hsl
   obtain ⟨ent,s1,s2⟩:=Hf e2 hsl
   have hm':ent∈S':=Aq s1
   have hv:ent.v=some w:=by
    have:=Lq s1
    rw[e1,hw] at this
    exact (Bk this).symm
   obtain ⟨u,z,F⟩:=ent
   have s2':z=.drw:=s2
   subst s2'
   have hE:(⟨u,.drw,F⟩ : Ent)∈S'++(As++T):=Av _ hm'
   obtain ⟨dr,c0,k0,f0,hv0,hF0,hd0,hk0,hk1⟩:=hA'.ok _ hE
   have ew:some w=some (V.ref dr):=hv.symm.trans hv0
   cases ew
   have hF':F=[dr]:=hF0
   subst hF'
   cases q:datas (As.map Ent.x) with
   | none=>rw[q] at p; exact p.elim
   | some ds =>
    rw[q] at p
    rw[Ea]
    refine ⟨dr,us,As,δ'.n,ds,_,rfl,eu,λe he=>hA'.ok e (Ao _ (Av _ he)),λe he=>?_,⟨c0,k0,f0,hd0,hk0,hk1⟩,q,p,λv d F n' H'' hn r rd nd fr hdr s=>?_⟩
    ·obtain ⟨_,_,hp⟩ := Dh.mp hA'.sep
     exact (hp _ hm' e (Av _ he)).1 (.inr rfl) dr Ab
    ·have hA2:=hA'.dropL.drawn (Av _ hm') rfl hv s hdr hn
     exact kk _ ⟨δ'.sl,n'⟩ v F S' H'' e1 e2 ((hA2.pushF rd nd (λa ha=>hA'.dropL.free (fr a ha)) (λa ha=>hA'.new0 (fr a ha))).tomid) r
  ·exact p.elim
 obtain ⟨ent,s1,s2⟩:=Hf hS hsl0
 have hm':ent∈S:=Aq s1
 obtain ⟨u,z,F⟩:=ent
 have s2':z=.drw:=s2
 subst s2'
 obtain ⟨dr,c0,k0,f0,hv0,_⟩:=hA.ok _ (Av _ hm')
 have hw:(vs S)[i]? = some (some (.ref dr)):=(Lq s1).trans (congrArg some hv0)
 exact ⟨_,hw,main _ hw⟩
def Tg:Sp:=λvs H Q _=>∃c:Int,vs=[.int c]/\∀(p:Addr) (c':Int) (f:Bool) (H':Hp),H p=none->fG H' p c' 0 f->La H H'->Q (.ref p) H'
def tR(da:DA):DE:=λδ P=>da δ λxs δ1=>match xs with
 | [.dat _ (.int _)]=>P .drw δ1
 | _=>False
theorem qN(F:FnOk X.prog X.w X.K X.mg X.base CX k f fd ps Tg)(hr:Room k X.A)(hg:Gl X x)(hm:X.mg x=some (.ref f))(hk:PySem.W.keepIn X.K (.ref f)=true)(hb:Binds X.K fd ps [])(hx:Pq CX X E)(ha:jM X (e::es) da)(hdb:(x == ("__debug__" : Str))=false:=by decide)(he:Bp (e::es) X.env=(false,eval e X.env)::Bp es X.env:=by rfl)(hpl:(Hi pos (Bp es X.env)).any (·.1)=false:=by rfl):Fb X (.Call (.Name x p) (e::es) [] pos) (tR da):=by
 refine PE.imp (dM F hr hg hm hk hb .nil hx ha hdb he hpl) λσ H Q h=>?_
 obtain ⟨H0,Y,S,T,δ,P,rfl,hS,hA,hd,kk⟩:=h
 refine ⟨H0,Y,S,T,δ,_,rfl,hS,hA,hd,λxs δ' As us S' H' e1 e2 ex eu hA' p=>?_⟩
 split at p
 ·obtain ⟨v,F,rfl,hA2⟩:=Gw eu hA' ex
  obtain ⟨rfl,_⟩:=(hA2.told mem_mid).int_inv
  refine ⟨_,rfl,λq c' fl H'' nq hdr s=>?_⟩
  have h3:=hA2.drop.grow (n':=δ'.n) s (Ai _)
  refine kk _ δ' _ [q] S' H'' e1 e2 ((h3.push (e:=⟨some (.ref q),.drw,[q]⟩) ⟨q,_,0,fl,rfl,rfl,hdr,by decide,by omega⟩ (λf hf=>?_) λa ha=>?_).tomid) p
  ·have nf:=hA2.drop.free nq f hf
   refine ⟨λ_ a ha z=>?_,λ_ a ha z=>?_⟩
   ·rw[Ah.mp ha] at z
    exact nf z
   ·rw[Ah.mp z] at ha
    exact nf (Fh _ _ ha)
  ·rw[Ah.mp ha]
   exact .inl (hA2.new0 nq)
 ·exact p.elim
end
def args0(ds:List Ad)(k:Nat):List DV:=ds.map (λd=>.dat .sh d)++Cb k .un
def gD(e:Ent):Ent:=match e.x with
 | .dat _ d=>⟨e.v,.dat .sh d,e.F⟩
 | _=>e
theorem Jt:∀{xs:List DV} {ds:List Ad},datas xs=some ds->xs.length=ds.length
 | [],ds,h=>by cases h; rfl
 | x::xs,ds,h=>by
  cases x with
  | dat m d =>
   cases q:datas xs with
   | none=>simp [datas,q] at h
   | some es =>
    simp [datas,q] at h
    subst h
    rw[Bs,Bs,Jt q]
  | _=>cases h
theorem Sw:∀{As:List Ent} {ds:List Ad},datas (As.map Ent.x)=some ds->(As.map gD).map Ent.x=ds.map (λd=>.dat .sh d)
 | [],ds,h=>by cases h; rfl
 | ⟨v,x,F⟩::As,ds,h=>by
  rw[Au] at h
  cases x with
  | dat m d =>
   cases q:datas (As.map Ent.x) with
   | none=>simp [datas,q] at h
   | some es =>
    simp [datas,q] at h
    subst h
    rw[Au,Au,Au,Sw q]
    rfl
  | _=>cases h
theorem Up:∀{As:List Ent} {ds:List Ad},datas (As.map Ent.x)=some ds->∀e∈As,∃m d,e.x=.dat m d
 | [],ds,h,e,he=>nomatch he
 | ⟨v,x,F⟩::As,ds,h,e,he=>by
  rw[Au] at h
  cases x with
  | dat m d =>
   cases q:datas (As.map Ent.x) with
   | none=>simp [datas,q] at h
   | some es =>
    rcases Ak.mp he with rfl | he
    ·exact ⟨m,d,rfl⟩
    ·exact Up q e he
  | _=>cases h
theorem D0(As:List Ent):(As.map gD).map Ent.v=As.map Ent.v:=by
 rw[Bw]
 refine Dl λe _=>?_
 obtain ⟨v,x,F⟩:=e
 cases x <;> rfl
def Ja(k:Nat):List Ent:=Cb k ⟨none,.un,[]⟩
theorem dG{As:List Ent}{ds:List Ad}(q:datas (As.map Ent.x)=some ds)(k:Nat):∀e∈As.map gD++Ja k,cells e=[]/\F5 e.x=false:=λe he=>by
 rcases Bi.mp he with he | he
 ·obtain ⟨f,hf,rfl⟩:=Bt.mp he
  obtain ⟨m,d,hx⟩:=Up q f hf
  obtain ⟨v,x,F⟩:=f
  have hx':x=.dat m d:=hx
  subst hx'
  exact ⟨rfl,rfl⟩
 ·rw[(Ho.mp he).2]
  exact ⟨rfl,rfl⟩
theorem Qa{α:Type}{R:α->α->Prop}:∀{l:List α},(∀a∈l,∀b∈l,R a b)->l.Pairwise R
 | [],_=>Jp
 | a::l,h=>Bd.mpr ⟨λb hb=>h a Ab b (Af _ hb),Qa λx hx y hy=>h x (Af _ hx) y (Af _ hy)⟩
theorem tF{K:PySem.W.Frag}{H:Hp}{n:Nat}{As:List Ent}{ds:List Ad}(q:datas (As.map Ent.x)=some ds)(ok:∀e∈As,Hy K H n e)(k:Nat):∀e∈As.map gD++Ja k,Hy K H n e:=λe he=>by
 rcases Bi.mp he with he | he
 ·obtain ⟨f,hf,rfl⟩:=Bt.mp he
  obtain ⟨m,d,hx⟩:=Up q f hf
  have o:=ok f hf
  obtain ⟨v,x,F⟩:=f
  have hx':x=.dat m d:=hx
  subst hx'
  obtain ⟨w,h1,h2,_⟩:=o
  exact ⟨w,h1,h2,λz=>(nomatch z),λz=>(nomatch z)⟩
 ·rw[(Ho.mp he).2]
  exact (rfl:([]:List Addr)=[])
theorem Mw{α β:Type}(f:α->β)(k:Nat)(a:α):(Cb k a).map f=Cb k (f a):=by
 rw[List.map_replicate]
def retE(R:Ad->Prop):DEnds where
 nx:=λ_=>R .none
 rt:=λx _=>∃d,x=.dat .ow d/\R d
def retW(n:Nat)(R:Ad->Nat->Prop):DEnds where
 nx:=λδ=>n<=δ.n/\R .none δ.n
 rt:=λx δ=>n<=δ.n/\∃d,x=.dat .ow d/\R d δ.n
section
variable{P:Bo}{w:World}{K:PySem.W.Frag}{mg:Str->Option Value}{base:Heap}
theorem Ou{x qual:Str}{st:Stmt}{f:Addr}{fd:Cm}{N ps:List Str}{k:Nat}{pf:PF}{db:DB}(F:Fun K x qual st f fd)(S:FnScope N ps (Bu st))(hb:∀(cdv:Value) (A:Co) (outer:List Env) (s:Ag) (H:Hp) (E:XK),Room k (A.deeper (envOfC qual (Bu st) s.heap.objs.size f cdv))->Vr (Nz Jg P w K mg base N qual (Bu st) f cdv A outer s H E).nox (Hr st) db)(h:∀ds R,pf ds R->ds.length=ps.length/\db (retE R) ⟨args0 ds (N.length - ps.length),0⟩):FnOk P w K mg base Jg (k+1) f fd ps (Ve K pf):=by
 refine F.ok S (λvs H Q E z=>?_) λcdv A outer s H us Q E hr z=>?_
 ·obtain ⟨As,n,ds,R,eu,ok,q,hp,_⟩:=z
  have l1:=(h ds R hp).1
  have l2:=Jt q
  rw[Ac] at l2
  have l3:=congrArg Fl eu
  rw[Ac,Ac] at l3
  omega
 ·obtain ⟨As,n,ds,R,eu,ok,q,hp,k1⟩:=z
  obtain ⟨l1,hd⟩:=h ds R hp
  have l2:=Jt q
  rw[Ac] at l2
  have l3:=congrArg Fl eu
  rw[Ac,Ac] at l3
  refine ⟨_,hb cdv A outer s H E hr,H,λ_=>False,As.map gD++Ja (N.length - ps.length),[],⟨args0 ds (N.length - ps.length),0⟩,retE R,?_,?_,λ_ z=>(nomatch z),?_,hd,λδ' S' H' e1 hA p=>?_,λx δ' v F' S' H' e1 hA p=>?_,λ_ _ _ _ _ p=>p.elim,λ_ _ _ _ _ p=>p.elim⟩
  ·unfold vs L2.start Ja
   rw[Bj,D0,eu,Mw,show us.length=ps.length by omega]
  ·unfold Sl args0 Ja
   rw[Bj,Sw q,Mw]
  ·rw[Ea]
   have hs:=dG q (N.length - ps.length)
   refine ⟨λe he=>?_,Qa λa ha b hb'=>⟨λhq c hc=>?_,λhq c hc=>?_⟩,λe he a ha=>?_,λb o _ e=>e,λb o e=>⟨o,e⟩,λb hb=>hb.elim⟩
   ·have:=tF q ok (N.length - ps.length) e he
    obtain ⟨v,x,F⟩:=e
    cases x with
    | drw=>exact absurd (hs _ he).2 (by show ¬ (true=false); decide)
    | _=>exact this
   ·rw[(hs a ha).1] at hc; cases hc
   ·rw[(hs b hb').1] at hc; cases hc
   ·rw[(hs e he).1] at ha; cases ha
  ·exact k1 .non .none [] H' p .non Cs (λ_ z=>(nomatch z)) λb o e=>hA.same b o (λz=>z) e
  ·obtain ⟨d,rfl,r⟩:=p
   rw[show S'++[(⟨some v,.dat .ow d,F'⟩ : Ent)]=S'++⟨some v,.dat .ow d,F'⟩::[] from rfl] at hA
   obtain ⟨u,e2,rd,nd,_⟩:=hA.ok _ mem_mid
   cases e2
   refine k1 v d F' H' r rd (nd rfl) (λa ha=>?_) λb o e=>hA.same b o (λz=>z) e
   rcases hA.new _ mem_mid a ha with z | z
   ·exact z
   ·exact z.1.elim
theorem cZ{x qual:Str}{st:Stmt}{f:Addr}{fd:Cm}{N ps:List Str}{p0:Str}{k:Nat}{df:DF}{db:DB}(F:Fun K x qual st f fd)(S:FnScope N (p0::ps) (Bu st))(hb:∀(cdv:Value) (A:Co) (outer:List Env) (s:Ag) (H:Hp) (E:XK),Room k (A.deeper (envOfC qual (Bu st) s.heap.objs.size f cdv))->Vr (Nz Jg P w K mg base N qual (Bu st) f cdv A outer s H E).nox (Hr st) db)(h:∀ds n R,df ds n R->ds.length=ps.length/\db (retW n R) ⟨.drw::args0 ds (N.length - (p0::ps).length),n⟩):FnOk P w K mg base Jg (k+1) f fd (p0::ps) (lN K df):=by
 refine F.ok S (λvs H Q E z=>?_) λcdv A outer s H us Q E hr z=>?_
 ·obtain ⟨dr,ws,As,n,ds,R,rfl,eu,ok,nd,hdr,q,hp,_⟩:=z
  have l1:=(h ds n R hp).1
  have l2:=Jt q
  rw[Ac] at l2
  have l3:=congrArg Fl eu
  rw[Ac,Ac] at l3
  rw[Bs,Bs]
  omega
 ·obtain ⟨dr,ws,As,n,ds,R,rfl,eu,ok,ndr,hdr,q,hp,k1⟩:=z
  obtain ⟨l1,hd⟩:=h ds n R hp
  have l2:=Jt q
  rw[Ac] at l2
  have l3:=congrArg Fl eu
  rw[Ac,Ac] at l3
  -- what the end tells of the draws: they stand in an old cell
  have ends:∀{E':List Ent} {n':Nat} {H':Hp},At K H (·=dr) n' E' H'->∀b o,b≠dr->H b=some o->H' b=some o:=λhA b o nb e=>hA.same b o nb e
  refine ⟨_,hb cdv A outer s H E hr,H,(·=dr),⟨some (.ref dr),.drw,[dr]⟩::(As.map gD++Ja (N.length - (p0::ps).length)),[],⟨.drw::args0 ds (N.length - (p0::ps).length),n⟩,retW n R,?_,?_,λ_ z=>(nomatch z),?_,hd,λδ' S' H' e1 hA p=>?_,λx δ' v F' S' H' e1 hA p=>?_,λ_ _ _ _ _ p=>p.elim,λ_ _ _ _ _ p=>p.elim⟩
  ·unfold vs L2.start Ja
   rw[Au,Bj,D0,eu,Mw,Bs,Bs,show ws.length=ps.length by omega]
   rfl
  ·unfold Sl args0 Ja
   rw[Au,Bj,Sw q,Mw]
  ·rw[Ea]
   have hs:=dG q (N.length - (p0::ps).length)
   have hsub:∀e∈As.map gD++Ja (N.length - (p0::ps).length),dr∉e.F:=λe he=>by
    rcases Bi.mp he with he | he
    ·obtain ⟨f,hf,rfl⟩:=Bt.mp he
     obtain ⟨v,x,F⟩:=f
     have:=ndr _ hf
     cases x <;> exact this
    ·rw[(Ho.mp he).2]
     exact Az
   refine ⟨λe he=>?_,Bd.mpr ⟨λb hb'=>⟨λhq c hc=>?_,λhq c hc=>?_⟩,Qa λa ha b hb'=>⟨λhq c hc=>?_,λhq c hc=>?_⟩⟩,λe he a ha=>?_,λb o _ e=>e,λb o e=>⟨o,e⟩,λb hb=>?_⟩
   rotate_right
   ·subst hb
    obtain ⟨c,kk,fl,z1,z2⟩:=hdr
    exact ⟨λz=>(by rw[show H b=some _ from z1] at z; cases z),c,kk,fl,z1,z2⟩
   ·rcases Ak.mp he with rfl | he
    ·obtain ⟨c,kk,fl,z1,z2,z3⟩:=hdr
     exact ⟨dr,c,kk,fl,rfl,rfl,z1,z2,z3⟩
    ·exact tF q ok _ e he
   ·rw[Ah.mp hc]
    exact hsub b hb'
   ·rw[(hs b hb').1] at hc; cases hc
   ·rw[(hs a ha).1] at hc; cases hc
   ·rw[(hs b hb').1] at hc; cases hc
   ·rcases Ak.mp he with rfl | he
    ·rw[Ah.mp ha]
     exact .inr ⟨rfl,rfl⟩
    ·rw[(hs e he).1] at ha; cases ha
  ·exact k1 .non .none [] δ'.n H' p.1 p.2 .non Cs (λ_ z=>(nomatch z)) (hA.xd dr rfl).2 (ends hA)
  ·obtain ⟨hn,d,rfl,r⟩:=p
   rw[show S'++[(⟨some v,.dat .ow d,F'⟩ : Ent)]=S'++⟨some v,.dat .ow d,F'⟩::[] from rfl] at hA
   obtain ⟨u,e2,rd,nd,_⟩:=hA.ok _ mem_mid
   cases e2
   refine k1 v d F' δ'.n H' hn r rd (nd rfl) (λa ha=>?_) (hA.xd dr rfl).2 (ends hA)
   rcases hA.new _ mem_mid a ha with z | z
   ·exact z
   ·cases z.2
end
end DL
namespace L2
open PySem PySem.Spec PyProof.Rows
def qD(H:Hp):Prop:=∀b,H b=none\/(∃o xs,H b=some (.frz o (.lst xs)))\/∃ps,H b=some (.tbl ps)
def eX(tabs:List (Addr×Addr×Str))(H:Hp):Hp:=λb=>match tabs.find? (λr=>r.2.1 == b) with | some t=>some (.tbl #[.str t.2.2 0]) | none=>H b
theorem Sa{tabs:List (Addr×Addr×Str)}{H:Hp}{b:Addr}{t:Addr×Addr×Str}(h:tabs.find? (λr=>r.2.1 == b)=some t):eX tabs H b=some (.tbl #[.str t.2.2 0]):=by unfold eX; rw[h]
theorem Kr{tabs:List (Addr×Addr×Str)}{H:Hp}{b:Addr}(h:tabs.find? (λr=>r.2.1 == b)=none):eX tabs H b=H b:=by unfold eX; rw[h]
def bU(q:Bo)(K:PySem.W.Frag):Prop:=∃tabs:List (Addr×Addr×Str),(∀t∈tabs,∃x d,(recsOf q).find? (λe=>e.name == x)=some d/\PySem.W.tabIn K x=some (t.1,t.2.1))/\(∀t∈tabs,∀t'∈tabs,t.2.1=t'.2.1->t=t') /\
 (∀x∈Nx,∀c P,PySem.W.tabIn K x=some (c,P)->(c,P,Zs x)∈tabs)/\∀t∈tabs,K.lookup t.2.1=none
theorem yN{x:Str}(hx:x∈Nx):x = "often" \/ x = "cut_by" := by
 rcases Ak.mp hx with h | hx
 ·exact .inl h
 ·exact .inr (Ah.mp hx)
theorem jR{q:Bo}{K:PySem.W.Frag}{c P:Addr}{d:DefRec}(h1:PySem.W.tabIn K "often" = some (c,P))(hd:(recsOf q).find? (λe=>e.name == ("often" : Str))=some d)(hl:K.lookup P=none)(h2:PySem.W.tabIn K "cut_by" = none):bU q K:=by
 refine ⟨[(c,P,Zs "often")],λt ht=>⟨"often",d,hd,?_⟩,λt ht t' ht' _=>?_,λx hx c' P' e=>?_,λt ht=>?_⟩
 ·rw[Ah.mp ht]; exact h1
 ·rw[Ah.mp ht,Ah.mp ht']
 ·rcases yN hx with rfl | rfl
  ·rw[h1] at e; cases e; exact Ah.mpr rfl
  ·rw[h2] at e; cases e
 ·rw[Ah.mp ht]; exact hl
theorem oI{P:Bo}{w:World}{K:PySem.W.Frag}{mg mb:Str->Option Value}{CX:pF}{k:Nat}{fa a:Addr}{fd:Cm}{x:Str}{sp:Sp}{s₁:Ag}{vs:List Value}{ns:List Int}(tabs:List (Addr×Addr×Str))(hT:∀t∈tabs,PySem.W.CodeHd s₁.heap t.1 t.2.1/\s₁.heap.get? t.2.1=some (PySem.W.tabObj #[]))(hu:∀t∈tabs,∀t'∈tabs,t.2.1=t'.2.1->t=t')(hL:∀x∈Nx,∀c P,PySem.W.tabIn K x=some (c,P)->(c,P,Zs x)∈tabs)(hnt:∀t∈tabs,K.lookup t.2.1=none)(hbm:∃bm ob,mg "__builtins__" = some (.ref bm)/\bm≠Sq/\s₁.heap.get? bm=some ob/\ob.cls=.type "module" /\ ob.dict=some Sq/\ob.data=.plain)(KX:K.In s₁.heap)(hns:s₁.heap.Ns Bz mg)(hb:s₁.heap.Ns Sq mb)(hbb:∀x:Str,x ≠ "__name__" -> mb x=Il x)(hlim:s₁.heap.NoLimit)(hg:s₁.gens=#[])(ha:s₁.heap.get? a=some { cls:=.type "list",data:=.seq vs.toArray })(hi:Jj vs ns)(hl:ns.length<=Ap)(hr:Room k Vz)(F:∀base:Heap,K.In base->base.Ns Bz mg->FnOk P w K mg base CX k fa fd [x] sp)(hbind:∀(s:Ag) (u:Value),BindsTo s fd ⟨[u],[]⟩ [(x,u)])(hsp:∀H:Hp,qD H->DL.KL K H a (ns.map V.int)->sp [.ref a] H (λv _=>v=.bl true) λ_ _ _=>False)(hCX:∀H e s',CX [] H s₁ (λ_ _ _=>False) e s'->False):Mr (model P w) Vz (.call (.ref fa) ⟨[.ref a],[]⟩) (λr s'=>r=.ok (.ret (.bool true))/\OldK s₁.heap s'.heap/\s'.os=s₁.os/\Qo s'.gens) s₁:=by
 have rv:=aX hi
 have lenV:=hi.length
 -- from an abstract heap in which nothing but the script may be tracked
 have core:∀H:Hp,qD H->DL.KL K H a (ns.map V.int)->Ss P w H s₁.heap->(∀b,H b≠none->b=a\/∃t∈tabs,b=t.2.1)->(H a≠none->K.lookup a=none)->(∀t∈tabs,zJ H t.2.1 t.2.2) ->
   Mr (model P w) Vz (.call (.ref fa) ⟨[.ref a],[]⟩) (λr s'=>r=.ok (.ret (.bool true))/\OldK s₁.heap s'.heap/\s'.os=s₁.os/\Qo s'.gens) s₁:=by
  intro H hO hS hok hA hK hTH
  have base_of:∀{b:Addr} {o:Obj},s₁.heap.get? b=some o->H b=none->(Zi s₁.heap H).get? b=some o:=λe n=>qE e n
  have noA:∀{b:Addr} {o:Obj} {es:Array Ha} {ep:Nat},s₁.heap.get? b=some o->o.data=.dict es ep->H b=none:=λ{b o es ep} e d=>by
   cases q:H b with
   | none=>rfl
   | some u =>
    rcases hA b (by rw[q]; simp) with e' | ⟨t,ht,e'⟩
    ·subst e'
     rw[ha] at e; cases e
     have d':Data.seq vs.toArray _=Data.dict es ep:=d
     cases d'
    ·rw[e',(hT t ht).2] at e; cases e
     cases d
  have nsK:∀{b:Addr} {m:Str->Option Value},s₁.heap.Ns b m->(Zi s₁.heap H).Ns b m:=λ{b m} ⟨o,es,ep,e,d,r⟩=>⟨o,es,ep,base_of e (noA e d),d,r⟩
  have hKb:K.In (Zi s₁.heap H):=λb o e=>base_of (KX b o e) (by
   cases q:H b with
   | none=>rfl
   | some u =>
    rcases hA b (by rw[q]; simp) with e' | ⟨t,ht,e'⟩
    ·subst e'
     rw[hK (by rw[q]; simp)] at e; cases e
    ·rw[e',hnt t ht] at e; cases e)
  have noC:∀{b:Addr} {o:Obj},s₁.heap.get? b=some o->o.cls≠.none->o.cls≠.type "list" -> H b=none:=λ{b o} e d d2=>by
   cases q:H b with
   | none=>rfl
   | some u =>
    rcases hA b (by rw[q]; simp) with e' | ⟨t,ht,e'⟩
    ·subst e'
     rw[ha] at e; cases e
     exact absurd rfl d2
    ·rw[e',(hT t ht).2] at e; cases e
     exact absurd rfl d
  have hTb:tT K mg (Zi s₁.heap H) H:=λx hx c P e=>by
   have ht:=hL x hx c P e
   obtain ⟨bm,ob,b1,b2,b3,b4,b5,b6⟩:=hbm
   obtain ⟨⟨o,us,file,tf,flags,tg,inF,text,tt,e1,r1,r2⟩,hP⟩:=hT _ ht
   refine ⟨⟨o,us,file,tf,flags,tg,inF,text,tt,base_of e1 (noC e1 (by rw[r1]; nofun) (by rw[r1]; simp)),r1,r2⟩,⟨bm,ob,b1,b2,λz=>?_,λz=>?_,base_of b3 (noC b3 (by rw[b4]; nofun) (by rw[b4]; simp)),b4,b5,b6⟩,hTH _ ht⟩
   ·obtain ⟨o',es,ep,e',d,_⟩:=hns
    rw[<- z,b3] at e'; cases e'; rw[b6] at d; cases d
   ·have hP:s₁.heap.get? P=_:=hP
    rw[<- z,b3] at hP; cases hP; cases b4
  have hM:Mod K mg (Zi s₁.heap H):=⟨hKb,nsK hns,⟨mb,nsK hb,hbb⟩,let ⟨mc,h1,h2⟩:=hlim; ⟨mc,nsK h1,h2⟩⟩
  have e0:Env0 P w K mg (Zi s₁.heap H) Vz [] s₁ H:=⟨rfl,hM,λb o e=>wJ e,Nat.le_of_eq (mU _ _),trivial,λb hb=>absurd (show b∈([]:List Addr) from hb) (by simp),hok,.of_eq hg,hTb⟩
  refine bL ((F _ hKb (nsK hns)).run Vz [] s₁ H ⟨[.ref a],[]⟩ [.ref a] [.ref a] _ _ hr e0 (hbind s₁ (.ref a)) (.cons rfl .nil) (hsp H hO hS)) λr s' h=>?_
  cases r with
  | error e=>exact (hCX H e s' h).elim
  | ok fl =>
   cases fl with
   | next=>exact Iy h
   | brk=>exact Iy h
   | cont=>exact Iy h
   | ret u =>
    obtain ⟨v,H',os,bare,un,hok',r',q⟩:=h
    have q':v=.bl true:=q
    subst q'
    obtain rfl:u=Value.bool true:=r'
    have old:∀b o,s₁.heap.get? b=some o->s'.heap.get? b=some o\/∃t∈tabs,b=t.2.1:=λb o e=>by
     cases q:H b with
     | none=>exact .inl (un.keep b o e q (by intro z; exact absurd (show b∈([]:List Addr) from z) (by simp)) (by simp))
     | some u =>
      rcases hO b with z | ⟨ob,xs,z⟩ | ⟨ps,z⟩
      ·rw[q] at z; cases z
      ·have z2:=un.frzs b ob _ z
       obtain ⟨e1,_⟩:=hok b _ z
       obtain ⟨e2,_⟩:=hok' b _ z2
       rw[e] at e1; cases e1
       exact .inl e2
      ·rcases hA b (by rw[q]; simp) with e' | h'
       ·obtain ⟨_,e1,_⟩:=hok b _ z
        rw[e',ha] at e1; cases e1
       ·exact .inr h'
    have grown:∀t∈tabs,∃ps,s'.heap.get? t.2.1=some (PySem.W.tabObj ps):=λt ht=>by
     obtain ⟨ps,t0,h3,_⟩:=hTH t ht
     obtain ⟨more,h5⟩:=un.tbls _ _ h3
     obtain ⟨qs,e1,_⟩:=hok' _ _ h5
     exact ⟨qs,e1⟩
    refine ⟨rfl,⟨λb o e=>?_,λb o e=>?_⟩,os,bare⟩
    ·rcases old b o e with z | ⟨t,ht,rfl⟩
     ·exact .inl z
     ·obtain ⟨ps,hP⟩:=grown t ht
      have e2:=(hT t ht).2
      rw[e] at e2
      cases e2
      exact .inr (.inl ⟨((hT t ht).1.tab (hT t ht).2).isCodeTable,rfl,#[],ps,rfl,by rw[Array.empty_append]; exact hP⟩)
    ·rcases old b o e with z | ⟨t,ht,rfl⟩
     ·exact ⟨_,z⟩
     ·obtain ⟨ps,hP⟩:=grown t ht
      exact ⟨_,hP⟩
 have tabH:∀(t:Addr×Addr×Str),t∈tabs->tabs.find? (λr=>r.2.1 == t.2.1)=some t:=λt ht=>by
  cases q:tabs.find? (λr=>r.2.1 == t.2.1) with
  | none=>exact absurd (List.find?_eq_none.mp q t ht) (by simp)
  | some r=>exact congrArg some (hu r (Of q) t ht (by have:=List.find?_some q; simpa using this))
 have neA:∀t∈tabs,t.2.1≠a:=λt ht z=>by
  have e:=(hT t ht).2
  rw[z,ha] at e; cases e
 have all:∀H:Hp,(∀b,H b=none\/∃o xs,H b=some (.frz o (.lst xs)))->(∀b,H b≠none->b=a)->(H a≠none->K.lookup a=none)->DL.KL K H a (ns.map V.int)->Ss P w H s₁.heap ->
   Mr (model P w) Vz (.call (.ref fa) ⟨[.ref a],[]⟩) (λr s'=>r=.ok (.ret (.bool true))/\OldK s₁.heap s'.heap/\s'.os=s₁.os/\Qo s'.gens) s₁:=by
  intro H h1 h2 h3 h4 h5
  refine core (eX tabs H) (λb=>?_) ?_ (λb u z=>?_) (λb z=>?_) (λz=>?_) λt ht=>?_
  ·cases q:tabs.find? (λr=>r.2.1 == b) with
   | some t=>exact .inr (.inr ⟨_,Sa q⟩)
   | none =>
    rcases h1 b with z | ⟨o,xs,z⟩
    ·exact .inl (by rw[Kr q]; exact z)
    ·exact .inr (.inl ⟨o,xs,by rw[Kr q]; exact z⟩)
  ·have na:tabs.find? (λr=>r.2.1 == a)=none:=vO.mpr λt ht z=>neA t ht (by simpa using z)
   rcases h4 with ⟨o,h⟩ | h
   ·exact .inl ⟨o,by rw[Kr na]; exact h⟩
   ·exact .inr h
  ·cases q:tabs.find? (λr=>r.2.1 == b) with
   | some t =>
    rw[Sa q] at z
    cases z
    have eb:t.2.1=b:=by have:=List.find?_some q; simpa using this
    exact ⟨#[],by rw[<- eb]; exact (hT t (Of q)).2,by simp [TriplesOk],λpos v y=>by simp [Oz] at y⟩
   | none =>
    rw[Kr q] at z
    rcases h1 b with y | ⟨o,xs,y⟩
    ·rw[z] at y; cases y
    ·rw[z] at y
     cases y
     exact h5 b _ z
  ·cases q:tabs.find? (λr=>r.2.1 == b) with
   | some t=>exact .inr ⟨t,Of q,by have:=List.find?_some q; exact (by simpa using this : t.2.1=b).symm⟩
   | none =>
    rw[Kr q] at z
    exact .inl (h2 b z)
  ·have na:tabs.find? (λr=>r.2.1 == a)=none:=vO.mpr λt ht z=>neA t ht (by simpa using z)
   rw[Kr na] at z
   exact h3 z
  ·exact ⟨#[.str t.2.2 0],0,Sa (tabH t ht),rfl⟩
 cases hk:K.lookup a with
 | some o =>
  -- the script is one of the module's own objects
  have e:=KX a o hk
  rw[ha] at e
  cases e
  exact all (λ_=>none) (λ_=>.inl rfl) (λb z=>absurd rfl z) (λz=>absurd rfl z) (.inr ⟨vs.toArray,_,hk,by rw[Am,lenV]; exact hl,by simpa using rv⟩) (λb u z=>by have z':(none:Option HO)=some u:=z; cases z')
 | none =>
  refine all (λb=>if b=a then some (.frz { cls:=.type "list",data:=.seq vs.toArray } (.lst (ns.map V.int))) else none) (λb=>?_) (λb z=>?_) (λ_=>hk) (.inl ⟨{ cls:=.type "list",data:=.seq vs.toArray },if_pos rfl⟩) (λb u z=>?_)
  ·by_cases hb:b=a
   ·exact .inr ⟨_,_,if_pos hb⟩
   ·exact .inl (if_neg hb)
  ·by_cases hb:b=a
   ·exact hb
   ·exact absurd (if_neg hb) z
  ·by_cases hb:b=a
   ·have z':=(if_pos hb).symm.trans z
    cases z'
    subst hb
    exact ⟨ha,by rw[Ac]; exact hl,vs,_,rv,ha⟩
   ·have z':=(if_neg hb).symm.trans z
    cases z'
theorem walk_ofD{l:PySem.W.OpenLaw}{n k:Nat}{q:Bo}{loose:List Str}{XP:(Str->Option Value)->Heap->Prop}{YP:World->Heap->Prop}{d:DefRec}{K:Params->PySem.W.Frag}{CX:World->pF}{sp:World->Sp}{x:Str}(hn:l.most=some n)(hn2:n<=Ap)(hdf:d.params.defaults=[])(hr:Room k Vz)(hY:∀(w:World) (h:Heap),YP w h->(K w.params).In h)(F:∀(w:World) (mg:Str->Option Value) (fa:Addr) (h:Heap),(K w.params).In h->h.Ns Bz mg->mg d.name=some (.ref fa)->(bU q (K w.params))/\∃fd:Cm,(∀(s:Ag) (u:Value),BindsTo s fd ⟨[u],[]⟩ [(x,u)])/\∀base:Heap,(K w.params).In base->base.Ns Bz mg->FnOk l.prog w (K w.params) mg base (CX w) k fa fd [x] (sp w))(hsp:∀(w:World) (H:Hp) (a:Addr) (ns:List Int),ns.length<=n->qD H->DL.KL (K w.params) H a (ns.map V.int)->sp w [.ref a] H (λv _=>v=.bl true) λ_ _ _=>False)(hCX:∀(w:World) (H:Hp) (s:Ag) (e:Value) (s':Ag),CX w [] H s (λ_ _ _=>False) e s'->False):PySem.W.WalkO q loose XP YP l.row.toRowW d [] (λf vs=>PySem.call f vs):=by
 refine Att.attach_call hn hdf λw s₀ s₁ mg mb fa o pm cd doc a vs ns G Y ho hd hcd hmg hobj hints hlen hg=>?_
 have KX:=hY w _ Y
 obtain ⟨⟨tabs,t1,t2,t3,t4⟩,fd,hb,hF⟩:=F w mg fa _ KX G.T.g hmg
 exact oI tabs (λt ht=>by
  obtain ⟨x,d,h1,h2⟩:=t1 t ht
  exact PySem.W.tab_of G.T KX h1 h2) t2 t3 t4 G.T.bmain KX G.T.g G.T.b G.T.builtins G.T.nolimit hg hobj hints (Ca hlen hn2) hr hF hb (λH hO hS=>hsp w H a ns hlen hO hS) λH e s'=>hCX w H s₁ e s'
end L2
namespace DL
open PySem PySem.Spec PyProof.Rows L2 Nd
def npk:List DV->Bool
 | []=>true
 | .dat .pk _::_=>false
 | _::xs=>npk xs
theorem dD:∀{S:List Ent} {sl:List DV},S.map Ent.x=sl->npk sl=true->∀e∈S,Mp e.x=false
 | [],_,_,_,e,he=>nomatch he
 | ⟨v,x,F⟩::S,_,h,hn,e,he=>by
  subst h
  rw[Au] at hn
  have : Mp x=false/\npk (S.map Ent.x)=true:=by
   cases x with
   | dat m d=>cases m <;> first | exact ⟨rfl,hn⟩ | cases hn
   | _=>exact ⟨rfl,hn⟩
  rcases Ak.mp he with rfl | he
  ·exact this.1
  ·exact dD rfl this.2 e he
def own1:Md->Bool
 | .ow=>true
 | .tp=>true
 | _=>false
section
variable{K:PySem.W.Frag}{H0 H:Hp}{X:Addr->Prop}{n:Nat}{E:List Ent}
theorem At.write{v:Option V}{m:Md}{ds es:List Ad}{a:Addr}{F G:List Addr}{ys:List V}(h:At K H0 X n (⟨v,.dat m (.list ds),a::F⟩::E) H)(ho:own1 m=true)(hv:v=some (.ref a))(np:∀e∈E,Mp e.x=false)(r:RdFs K H ys es G)(hG:G.Sublist F)(hz:es.length<=Ap):At K H0 X n (⟨v,.dat m (.list es),a::G⟩::E) (upd H a (.lst ys)):=by
 obtain ⟨w,e1,rd,hn,ht⟩:=h.ok _ Ab
 obtain ⟨b,xs,G0,e2,ha,ra,eF,_⟩:=rd.list_inv
 have eF':a::F=b::G0:=eF
 cases eF'
 have hs:=Bd.mp h.sep
 have naF:a∉F:=by
  cases m with
  | ow=>exact (Bx.mp (hn rfl)).1
  | tp=>exact ht rfl a F rfl
  | sh=>cases ho
  | pk=>cases ho
 have ca:a∈cells ⟨v,.dat m (.list ds),a::F⟩:=by
  cases m <;> first | exact Ab | cases ho
 have kp:∀{F':List Addr},a∉F'->Kp F' H (upd H a (.lst ys)):=λ{F'} hF b o q z=>by
  have : b≠a:=by
   rintro rfl
   rw[ha] at q
   cases q
   rcases z with z | z
   ·exact hF z
   ·rcases z with ⟨_,z⟩ | ⟨_,_,z⟩ <;> cases z
  rw[Cn this]
  exact q
 have n0:H0 a=none:=by
  rcases h.new _ Ab a ca with z | z
  ·exact z
  ·cases z.2
 have cs:∀c∈cells ⟨v,.dat m (.list es),a::G⟩,c∈cells ⟨v,.dat m (.list ds),a::F⟩:=λc hc=>by
  cases m with
  | ow =>
   rcases Ak.mp hc with z | z
   ·exact Ak.mpr (.inl z)
   ·exact Ak.mpr (.inr (hG.subset z))
  | tp=>exact hc
  | sh=>cases ho
  | pk=>cases ho
 have hsub:∀c∈a::G,c∈a::F:=λc hc=>by
  rcases Ak.mp hc with z | z
  ·exact Ak.mpr (.inl z)
  ·exact Ak.mpr (.inr (hG.subset z))
 have naG:a∉G:=λz=>naF (hG.subset z)
 refine ⟨λf hf=>?_,?_,λf hf=>?_,λb o nx q=>?_,λb o q=>?_,λb hb=>?_⟩
 ·rcases Ak.mp hf with rfl | hf
  ·refine ⟨.ref a,hv,.lst Cr hz (r.kp (kp naG)),λz=>?_,λz c l e=>?_⟩
   ·exact Bx.mpr ⟨naG,(Bx.mp (hn z)).2.sublist hG⟩
   ·cases e
    exact naG
  ·exact (h.ok f (Af _ hf)).kp (kp ((hs.1 f hf).1 (.inl (np f hf)) a ca)) (Ai _)
 ·refine Bd.mpr ⟨λf hf=>⟨λhq c hc=>(hs.1 f hf).1 (.inl (np f hf)) c (cs c hc),λhq c hc z=>(hs.1 f hf).2 (.inl ?_) c hc (hsub c z)⟩,hs.2⟩
  cases m <;> first | rfl | cases ho
 ·rcases Ak.mp hf with rfl | hf
  ·exact λc hc=>h.new _ Ab c (cs c hc)
  ·exact h.new f (Af _ hf)
 ·rw[Cn (Da q n0)]
  exact h.same b o nx q
 ·rw[Cn (Da q n0)]
  exact h.dom b o q
 ·obtain ⟨z,c,k,f,h1,h2⟩:=h.xd b hb
  refine ⟨z,c,k,f,(Cn ?_).trans h1,h2⟩
  rintro rfl
  exact z n0
end
theorem Jq{α:Type}:∀{l:List α} {i:Nat} {x:α},l[i]? = some x->l.Perm (x::l.eraseIdx i)
 | [],i,x,h=>by simp at h
 | z::l,0,x,h=>by
  simp at h
  subst h
  exact List.Perm.refl _
 | z::l,i+1,x,h=>by
  have ih:=Jq (l:=l) (i:=i) (x:=x) (by simpa using h)
  rw[Pm]
  exact (ih.cons z).trans (Jz x z _)
theorem Oa{α:Type}{l:List α}{i:Nat}{x y:α}(h:l[i]? = some x):(l.set i y).Perm (y::l.eraseIdx i):=by
 have hlt:=(Al.mp h).1
 have q:=Jq (l:=l.set i y) (i:=i) (x:=y) (by rw[Iq]; simp [hlt])
 rw[List.eraseIdx_set_eq] at q
 exact q
theorem Xb{K:PySem.W.Frag}{H0 H:Hp}{X:Addr->Prop}{S T:List Ent}{δ:DS}{i:Nat}{m:Md}{ds es:List Ad}(hS:Sl S δ)(hT:∀e∈T,Mp e.x=false)(hA:At K H0 X δ.n (S++T) H)(hi:δ.sl[i]? = some (.dat m (.list ds)))(ho:own1 m=true)(np:npk δ.sl=true):∃a xs G,(vs S)[i]? = some (some (.ref a))/\H a=some (.lst xs)/\RdFs K H xs ds G/\ds.length<=Ap/\∀ys G',RdFs K H ys es G'->G'.Sublist G->es.length<=Ap->∃S',vs S'=vs S/\Sl S' ⟨δ.sl.set i (.dat m (.list es)),δ.n⟩/\At K H0 X δ.n (S'++T) (upd H a (.lst ys)):=by
 obtain ⟨ent,e2,e3⟩:=Hf hS hi
 have hm:ent∈S:=Aq e2
 obtain ⟨u,x,F⟩:=ent
 have e3':x=.dat m (.list ds):=e3
 subst e3'
 obtain ⟨v,hv,rd,_⟩:=hA.ok _ (Av _ hm)
 obtain ⟨a,xs,G,rfl,ha,ra,eF,hz⟩:=rd.list_inv
 have eF':F=a::G:=eF
 subst eF'
 refine ⟨a,xs,G,by rw[Lq e2]; exact congrArg some hv,ha,ra,hz,λys G' r hG hz'=>?_⟩
 have hn:=dD hS np
 have pm:(S++T).Perm (⟨u,.dat m (.list ds),a::G⟩::(S.eraseIdx i++T)):=by
  exact (Jq e2).append_right T
 have h1:=(hA.perm pm).write (es:=es) (ys:=ys) ho hv (λe he=>?_) r hG hz'
 ·refine ⟨S.set i ⟨u,.dat m (.list es),a::G'⟩,?_,?_,h1.perm ?_⟩
  ·unfold vs
   rw[Ek]
   apply Fq
   intro j
   rw[Iq]
   split
   ·rename_i hij
    subst hij
    rw[Aw,e2]
    split
    ·rfl
    ·rename_i hj
     rw[Ac] at hj
     exact absurd (Al.mp e2).1 hj
   ·rfl
  ·unfold Sl at hS ⊢
   rw[Ek,hS]
  ·exact ((Oa e2).append_right T).symm
 ·rcases Bi.mp he with he | he
  ·exact hn e ((Rn S i).subset he)
  ·exact hT e he
def cF(i:Nat)(de:DE):DB:=λD δ=>match δ.sl[i]? with
 | some (.dat _ (.list _))=>de δ λy δ1=>match δ1.sl[i]?,y with
  | some (.dat m (.list ds)),.dat _ e=>own1 m=true/\npk δ1.sl=true/\imm e=true/\ds.length<1000000/\D.nx ⟨δ1.sl.set i (.dat m (.list (ds++[e]))),δ1.n⟩
  | _,_=>False
 | _=>False
section
variable{X:Cx}{o e:Expr}{de:DE}{apos cpos pos:Pos}{i:Nat}
theorem aA(ho:PE X o (Xy i))(he:Fb X e de)(hbase:Yw o "append" X.env (eval o X.env)=eval o X.env:=by rfl)
  (hfew:((Hi cpos (Bp [e] X.env)).all (λx=>!x.1) && (backToKw cpos (keywordEach [] X.env)).all (λx=>x.1.isSome)
   && decide (([e]:List Expr).length+([]:List Wc).length+(if ([]:List Wc).isEmpty then 0 else 1)<30))=true:=by rfl)
  (hline:(apos.endLine == cpos.line)=true:=by rfl) (hs:Bp [e] X.env=(false,eval e X.env)::Bp [] X.env:=by rfl) (hplain:(Hi cpos (Bp [] X.env)).any (·.1)=false:=by rfl)
  (hsw:Lc (.Call (.Attribute o "append" apos) [e] [] cpos) none pos.line X.env=pure false:=by rfl) :
  nM X (.Expr (.Call (.Attribute o "append" apos) [e] [] cpos) pos) (cF i de):=by
 refine PS.impD (wQ (N4 PySem.F.plainAttrs_list PySem.F.slot_list_append PySem.F.type_list_append Qp ho (Fs he Jc hs) hbase hfew hline hs hplain) hsw) λD σ H h=>?_
 obtain ⟨H0,Y,S,T,δ,P,rfl,hS,hT,hA,hd,k1,k2,k3,k4⟩:=h
 unfold cF at hd
 split at hd
 case h_2=>exact hd.elim
 rename_i m0 ds0 hsl
 obtain ⟨ent,e2,e3⟩:=Hf hS hsl
 have hm:ent∈S:=Aq e2
 obtain ⟨u,x,F⟩:=ent
 have e3':x=.dat m0 (.list ds0):=e3
 subst e3'
 obtain ⟨v,hv,rd,_⟩:=hA.ok _ (Av _ hm)
 obtain ⟨a,xs,G,rfl,ha,ra,eF,hz⟩:=rd.list_inv
 refine ⟨.ref a,by rw[Lq e2]; exact congrArg some hv,.inl ⟨rfl,xs,Kq.of ha⟩,H0,Y,S,T,δ,_,rfl,hS,hA,hd,λy δ1 w F1 S1 H1 e4 e5 hA1 p1=>?_⟩
 split at p1
 ·rename_i m ds m' e' hsl1
  obtain ⟨p1,p2,p3,p4,p5⟩:=p1
  have r:=hA1.told mem_mid
  obtain rfl:=r.imm p3
  obtain ⟨b,xs1,G1,g1,g2,g3,g4,g5⟩:=Xb (es:=ds++[e']) e5 hT hA1.drop hsl1 p1 p2
  rw[e4,Lq e2] at g1
  have : some (V.ref b)=some (V.ref a):=(Bk g1).symm.trans hv
  cases this
  obtain ⟨S2,h1,h2,h3⟩:=g5 (xs1++[w]) (G1++[]) (g3.snoc r) (by rw[Ea]; exact Eb _) (by rw[Cc]; exact nO (by simp; omega))
  have hl:=g3.len
  refine ⟨a,xs1,w,rfl,rfl,g2,Cd (by omega) (nO (n:=1000000) (Ai _)),?_⟩
  rw[<- e4,<- h1]
  exact k1 ⟨_,_⟩ S2 _ h2 h3 p5
 ·exact p1.elim
end
def zW(i:Nat)(dk de:DE):DB:=λD δ=>de δ λy δ1=>match δ1.sl[i]? with
 | some (.dat _ (.list _))=>dk δ1 λz δ2=>match δ2.sl[i]?,y,z with
  | some (.dat m (.list ds)),.dat _ e,.dat _ (.int k)=>own1 m=true/\npk δ2.sl=true/\imm e=true/\Dr ds=true/\∃j,pH ds.length k=some j/\D.nx ⟨δ2.sl.set i (.dat m (.list (ds.set j e))),δ2.n⟩
  | _,_,_=>False
 | _=>False
theorem RdFs.setI{K:PySem.W.Frag}{H:Hp}:∀{xs:List V} {ds:List Ad} {j:Nat} {v:V} {e:Ad},RdFs K H xs ds []->RdF K H v e []->RdFs K H (xs.set j v) (ds.set j e) []:=by
 have main:∀{xs:List V} {ds:List Ad} {F:List Addr} {j:Nat} {v:V} {e:Ad},RdFs K H xs ds F->F=[]->RdF K H v e []->RdFs K H (xs.set j v) (ds.set j e) []:=by
  intro xs ds F j v e h
  induction j generalizing xs ds F with
  | zero =>
   intro hF r
   cases h with
   | nil=>exact .nil
   | cons a t =>
    obtain ⟨rfl,rfl⟩:=Kv.mp hF
    exact RdFs.cons (F:=[]) r t
  | succ j ih =>
   intro hF r
   cases h with
   | nil=>exact .nil
   | cons a t =>
    obtain ⟨rfl,rfl⟩:=Kv.mp hF
    exact RdFs.cons (F:=[]) a (ih t rfl r)
 intro xs ds j v e h r
 exact main h rfl r
section
variable{X:Cx}{o ie e:Expr}{de dk:DE}{pos spos:Pos}{i:Nat}
theorem zC(ho:PE X o (Xy i))(hk:Fb X ie dk)(he:Fb X e de)
  (ha:∀v,Vp (.Subscript o ie spos) X.env v=(do
   let ov <- Ql [v] (eval o X.env)
   let iv <- Ql [v,ov] (eval ie X.env)
   standAt spos
   Ql [v,ov,iv] (setItem ov iv v)
   release [v,ov,iv] []):=by intro _; rfl)
  (hs:swapsWithSole [.Subscript o ie spos] e pos.line X.env=pure false:=by rfl) (hw:swappedStores [.Subscript o ie spos] e X.env=pure none:=by rfl)
  (h1:(Pf [.Subscript o ie spos] X.env).map (·.2)=[Vp (.Subscript o ie spos) X.env]:=by rfl):nM X (.Assign [.Subscript o ie spos] e pos) (zW i dk de):=by
 refine PS.impD (jD he (iU ho hk Xp ha) hs hw h1) λD σ H h=>?_
 obtain ⟨H0,Y,S,T,δ,P,rfl,hS,hT,hA,hd,k1,k2,k3,k4⟩:=h
 refine ⟨H0,Y,S,T,δ,_,rfl,hS,hA,hd,λy δ1 w F1 S1 H1 e4 e5 hA1 p1=>?_⟩
 split at p1
 case h_2=>exact p1.elim
 rename_i m0 ds0 hsl
 obtain ⟨ent,e2,e3⟩:=Hf e5 hsl
 have hm:ent∈S1:=Aq e2
 obtain ⟨u,x,F⟩:=ent
 have e3':x=.dat m0 (.list ds0):=e3
 subst e3'
 obtain ⟨v,hv,rd,_⟩:=hA1.ok _ (Av _ hm)
 obtain ⟨a,xs,G,rfl,ha,ra,eF,hz⟩:=rd.list_inv
 refine ⟨.ref a,by rw[<- e4,Lq e2]; exact congrArg some hv,H0,Y,S1,⟨some w,y,F1⟩::T,δ1,_,e4,e5,hA1,p1,λz δ2 w2 F2 S2 H2 e6 e7 hA2 p2=>?_⟩
 split at p2
 ·rename_i m ds m' e' m'' k hsl2
  obtain ⟨q1,q2,q3,q4,j,q5,q6⟩:=p2
  obtain ⟨rfl,_⟩:=(hA2.told mem_mid).int_inv
  have r:=hA2.told Ee
  obtain rfl:=r.imm q3
  obtain ⟨b,xs1,G1,g1,g2,g3,g4,g5⟩:=Xb (es:=ds.set j e') e7 hT hA2.drop2 hsl2 q1 q2
  rw[e6,<- e4,Lq e2] at g1
  have : some (V.ref b)=some (V.ref a):=(Bk g1).symm.trans hv
  cases this
  obtain rfl:=g3.imm q4
  obtain ⟨S3,h1,h2,h3⟩:=g5 (xs1.set j w) [] (g3.setI r) (Eb _) (by rw[List.length_set]; exact g4)
  refine ⟨a,xs1,k,j,rfl,rfl,g2,by rw[g3.len]; exact q5,?_⟩
  rw[<- e6,<- h1]
  exact k1 ⟨_,_⟩ S3 _ h2 h3 q6
 ·exact p2.elim
end
def spLawD(K:PySem.W.Frag):Sp:=λus H Q _=>∃(a:Addr) (ns:List Int),us=[.ref a]/\KL K H a (ns.map V.int)/\ns.length<=63/\∀H',Q (.bl true) H'
def retL:DEnds where
 nx:=λ_=>False
 rt:=λx _=>∃m,x=.dat m (.bool true)
section
variable{P:Bo}{w:World}{K:PySem.W.Frag}{mg:Str->Option Value}{base:Heap}
theorem A6{x qual p0:Str}{st:Stmt}{f:Addr}{fd:Cm}{N:List Str}{k:Nat}{db:DB}(F:Fun K x qual st f fd)(S:FnScope N [p0] (Bu st))(hb:∀(cdv:Value) (A:Co) (outer:List Env) (s:Ag) (H:Hp) (E:XK),Room k (A.deeper (envOfC qual (Bu st) s.heap.objs.size f cdv))->Vr (Nz Jg P w K mg base N qual (Bu st) f cdv A outer s H E).nox (Hr st) db)(h:∀ns:List Int,ns.length<=63->db retL ⟨.scr ns::Cb (N.length - 1) .un,0⟩):FnOk P w K mg base Jg (k+1) f fd [p0] (spLawD K):=by
 refine F.ok S (λvs H Q E z=>?_) λcdv A outer s H us Q E hr z=>?_
 ·obtain ⟨a,ns,rfl,_⟩:=z
  rfl
 ·obtain ⟨a,ns,rfl,hK,h63,k1⟩:=z
  refine ⟨_,hb cdv A outer s H E hr,H,λ_=>False,⟨some (.ref a),.scr ns,[]⟩::Ja (N.length - 1),[],⟨.scr ns::Cb (N.length - 1) .un,0⟩,retL,?_,?_,λ_ z=>(nomatch z),?_,h ns h63,λδ' S' H' e1 hA p=>p.elim,λx δ' v F' S' H' e1 hA p=>?_,λ_ _ _ _ _ p=>p.elim,λ_ _ _ _ _ p=>p.elim⟩
  ·unfold vs L2.start Ja
   rw[Au,Mw]
   rfl
  ·unfold Sl Ja
   rw[Au,Mw]
  ·rw[Ea]
   have hc:∀e∈(⟨some (.ref a),.scr ns,[]⟩::Ja (N.length - 1):List Ent),cells e=[]:=λe he=>by
    rcases Ak.mp he with rfl | he
    ·rfl
    ·rw[(Ho.mp he).2]
     rfl
   refine ⟨λe he=>?_,Qa λa ha b hb'=>⟨λhq c z=>?_,λhq c z=>?_⟩,λe he a ha=>?_,λb o _ e=>e,λb o e=>⟨o,e⟩,λb hb=>hb.elim⟩
   ·rcases Ak.mp he with rfl | he
    ·exact ⟨a,rfl,rfl,hK,h63⟩
    ·rw[(Ho.mp he).2]
     exact (rfl:([]:List Addr)=[])
   ·rw[hc a ha] at z; cases z
   ·rw[hc b hb'] at z; cases z
   ·rw[hc e he] at ha; cases ha
  ·obtain ⟨m,rfl⟩:=p
   rw[show S'++[(⟨some v,.dat m (.bool true),F'⟩ : Ent)]=S'++⟨some v,.dat m (.bool true),F'⟩::[] from rfl] at hA
   obtain ⟨rfl,_⟩:=(hA.told mem_mid).bl_inv
   exact k1 H'
end
def jF(i:Nat)(dl dh:DO):DE:=λδ P=>match δ.sl[i]? with
 | some (.scr ns)=>dl δ λl δ2=>dh δ2 λh δ3=>P (.dat .ow (.list ((Vw ns l h).map Bb))) δ3
 | _=>False
section
variable{X:Cx}{e b:Expr}{de:DE}{lo hi:Option Expr}{dl dh:DO}{pos p2:Pos}{i:Nat}
theorem C9{K:PySem.W.Frag}{H0 H:Hp}{Y:Addr->Prop}{S T:List Ent}{δ:DS}{ns:List Int}(hS:Sl S δ)(hA:At K H0 Y δ.n (S++T) H)(hi:δ.sl[i]? = some (.scr ns)):∃a,(vs S)[i]? = some (some (.ref a))/\(⟨some (.ref a),.scr ns,[]⟩ : Ent)∈S/\KL K H a (ns.map V.int)/\ns.length<=63:=by
 obtain ⟨ent,e2,e3⟩:=Hf hS hi
 have hm:ent∈S:=Aq e2
 obtain ⟨u,x,F⟩:=ent
 have e3':x=.scr ns:=e3
 subst e3'
 obtain ⟨a,h1,h2,h3⟩:=hA.ok _ (Av _ hm)
 have h1':u=some (.ref a):=h1
 have h2':F=[]:=h2
 subst h1' h2'
 exact ⟨a,by rw[Lq e2],hm,h3⟩
theorem rJ(he:PE X e (Xy i))(hl:U8 X lo dl)(hh:U8 X hi dh):Fb X (.Subscript e (.Slice lo hi none p2) pos) (jF i dl dh):=by
 refine PE.imp (vH (r:=N5 X.K) xF he hl hh) λσ H Q h=>?_
 obtain ⟨H0,Y,S,T,δ,P,rfl,hS,hA,hd,k⟩:=h
 unfold jF at hd
 split at hd
 case h_2=>exact hd.elim
 rename_i ns hsl
 obtain ⟨a,ha,hm,hK,h63⟩:=C9 hS hA hsl
 have hA0:At X.K H0 Y δ.n (S++⟨some (.ref a),.scr ns,[]⟩::T) H:=(At.view1 hA (Av _ hm)).tomid
 refine ⟨.ref a,ha,H0,Y,S,⟨some (.ref a),.scr ns,[]⟩::T,δ,_,rfl,hS,hA0,hd,λl δ2 S2 H2 e3 e4 hA2 p2=>?_⟩
 refine ⟨H0,Y,S2,⟨some (.ref a),.scr ns,[]⟩::T,δ2,_,e3,e4,hA2,p2,λh δ3 S3 H3 e5 e6 hA3 p3=>?_⟩
 obtain ⟨a',h1,_,hK3,_⟩:=hA3.ok _ mem_mid
 cases h1
 refine ⟨a,_,rfl,hK3.sq,λp hp=>?_⟩
 have : sV (ns.map V.int) l h=(Vw ns l h).map V.int:=by
  rw[<- sS]; rfl
 rw[this]
 refine k _ δ3 _ _ S3 _ e5 e6 (hA3.drop.newI (RdFs.ints _) (Na _) ?_ hp .ow) p3
 rw[Ac]
 have l1:=(pR ns l h).length_le
 exact sz (by omega)
end
def Q2(i j:Int):Prop:=0<=j/\(Builtin.Int.intBits i:Int) * j<=2 ^ 27
theorem zE{X:Cx}:Vk X (Hs .Pow) (rI Q2 λi j=>.int (i ^ j.toNat)):=T4 λ_ _ _ _ _ _ _ hc q=>pow_int hc.1 hc.2 q
def Xk:DF:=λds n R=>ds=[]/\n<=100000/\∀r:Int,R (.int r) (n+1)
theorem zF{P:Bo}{w:World}{K:PySem.W.Frag}{mg:Str->Option Value}{base:Heap}{k:Nat}{f:Addr}{fd:Cm}{ps:List Str}(F:FnOk P w K mg base Jg k f fd ps uY):FnOk P w K mg base Jg k f fd ps (lN K Xk):=by
 refine F.imp λus H Q E h=>?_
 obtain ⟨dr,ws,As,n,ds,R,rfl,eu,ok,nd,⟨c,kk,fl,hdr,h0,h1⟩,q,hp,k1⟩:=h
 obtain ⟨rfl,hn,hR⟩:=hp
 have hAs:As=[]:=by
  have:=Jt q
  rw[Ac] at this
  exact hZ.mp this
 subst hAs
 have hws:ws=[]:=by
  cases ws with
  | nil=>rfl
  | cons _ _=>cases eu
 subst hws
 refine ⟨dr,c,kk,fl,rfl,hdr,h0,by omega,λr c' H' hd' s=>?_⟩
 exact k1 (.int r) (.int r) [] (n+1) H' (by omega) (hR r) (.int r) Cs (λ_ z=>(nomatch z)) ⟨c',kk+1,fl,hd',by omega,by omega⟩ s
theorem yV{K:PySem.W.Frag}{H:Hp}{a:Addr}{ns:List Int}(h:H a=some (.tup (ns.map V.int)))(l:ns.length<=1000000):RdF K H (.ref a) (Ck ns) []:=.tup h (by rw[Ac]; exact nO l) (RdFs.ints ns)
theorem sU{K:PySem.W.Frag}{H:Hp}{n:Nat}{As:List Ent}{us:List V}{d1:Ad}(eu:As.map Ent.v=us.map some)(ok:∀e∈As,Hy K H n e)(q:datas (As.map Ent.x)=some [d1]):∃v1 F1,us=[v1]/\RdF K H v1 d1 F1:=by
 have r:=Ti eu q ok
 generalize As.flatMap Ent.F=G0 at r
 cases r with
 | cons a t =>
  cases t
  exact ⟨_,_,rfl,a⟩
def zM(K:PySem.W.Frag):List V->Hp->VK->Prop:=λxs H Q=>∃(a:Addr) (ns:List Int),xs=[.ref a]/\(Kq K H a (ns.map V.int)\/Sj K H a (ns.map V.int))/\Q (.int ns.sum) H
section
variable{X:Cx}
theorem oS(hc:X.calm=true):Lr X (.builtin "sum") (zM X.K):=by
 intro pins s σ H xs us Q I r h
 obtain ⟨p,ns,rfl,hp,q⟩:=h
 obtain ⟨u,rfl,ru⟩:=vals1 r
 cases ru
 rcases hp with hp | hp
 ·obtain ⟨its,rv,pl,_⟩:=I.list hp
  obtain ⟨ps,rfl,rfl⟩:=Mc rv
  have hl:s.heap.IsList p (Lu ps.toArray):=by simpa [Lu] using pl.isList
  refine sum_intListG (I.ok.hd hc) hl λh' tk t' k=>?_
  rw[preSum_eq,Ed (by simp)]
  exact ⟨.int _,H,I.kept k,⟨t',rfl⟩,q⟩
 ·obtain ⟨its,rv,pl,_⟩:=I.tuple hp
  obtain ⟨ps,rfl,rfl⟩:=Mc rv
  obtain ⟨o,ho,hoc,m,hd⟩:=pl
  have hl:s.heap.IsTuple p (Lu ps.toArray):=⟨o,ho,hoc,m,by rw[hd]; simp [Lu]⟩
  refine PySem.W.ktm_sumG (I.ok.hd hc) hl λh' tk t' k=>?_
  rw[preSum_eq,Ed (by simp)]
  exact ⟨.int _,H,I.kept k,⟨t',rfl⟩,q⟩
end
def uC:DC:=λxs P=>match xs with
 | [.dat _ (.list ds)]=>∃ns:List Int,ds=ns.map Bb/\P (.dat .ow (.int ns.sum))
 | [.dat _ (.tuple ds)]=>∃ns:List Int,ds=ns.map Bb/\P (.dat .ow (.int ns.sum))
 | _=>False
section
variable{K:PySem.W.Frag}
theorem E5:Nt K (zM K) uC:=by
 intro H0 X n S T As us H Q P eu hA hd k
 unfold uC at hd
 split at hd
 ·rename_i ex
  obtain ⟨v,F,rfl,hA⟩:=Gw eu hA ex
  obtain ⟨ns,rfl,h1⟩:=hd
  obtain ⟨a,xs,G,rfl,ha,ra,rfl,hz⟩:=(hA.told mem_mid).list_inv
  obtain ⟨rfl,_⟩:=ra.ints_inv
  exact ⟨a,ns,rfl,.inl (Kq.of ha),k _ _ [] H (hA.drop.pushI (.int _)) h1⟩
 ·rename_i ex
  obtain ⟨v,F,rfl,hA⟩:=Gw eu hA ex
  obtain ⟨ns,rfl,h1⟩:=hd
  obtain ⟨a,xs,rfl,ha,ra,hz⟩:=(hA.told mem_mid).tup_inv
  obtain ⟨rfl,_⟩:=ra.ints_inv
  exact ⟨a,ns,rfl,.inr (Sj.of ha),k _ _ [] H (hA.drop.pushI (.int _)) h1⟩
 ·exact hd.elim
end
end DL
namespace Nd
open PySem PySem.Spec PyProof.Rows L2
end Nd
namespace DL
open PySem PySem.Spec PyProof.Rows L2 Nd
end DL
namespace Nd
open PySem PySem.Spec PyProof.Rows
section
variable{prog:Bo}{w:World}{κ:Type}[DecidableEq κ](knd:HeapKind prog w κ)
def DictE(h:Heap)(d:Addr)(xs:List (κ×Addr×Value)):Prop :=
 ∃(o:Obj) (es:Array Ha) (ep:Nat),h.get? d=some o/\o.ExactDict/\o.data=.dict es ep/\es.toList=xs.map (Zd knd)/\(∀x∈xs,knd.is h x.1 x.2.1)/\(xs.map (·.1)).Nodup/\ep=es.size
variable{knd}
theorem DictE.of{h:Heap}{d:Addr}{xs:List (κ×Addr×Value)}(x:DictE knd h d xs):h.DictOfH knd d xs:=let ⟨o,es,ep,a,b,c,e,f,g,_⟩:=x; ⟨o,es,ep,a,b,c,e,f,g⟩
variable{A:Co}{E:Value->Ag->Prop}{s:Ag}{d a:Addr}{xs:List (κ×Addr×Value)}{k:κ}{v:Value}
theorem oU{xs:List (κ×Addr×Value)}{k:κ}{a:Addr}{v:Value}(hn:(xs.map (·.1)).Nodup)(hk:k∉xs.map (·.1)):((xs++[(k,a,v)]).map (·.1)).Nodup:=by
 rw[Bj,List.nodup_append]
 refine ⟨hn,by simp,λx hx y hy e=>hk ?_⟩
 rw[Au,Ji,List.mem_singleton] at hy
 have hy:y=k:=hy
 rw[<- hy,<- e]
 exact hx
theorem uX{o:Obj}{es:Array Ha}{ep:Nat}{h:Heap}(ho:h.get? d=some o)(hc:o.ExactDict)(hd:o.data=.dict es ep)(he:es.toList=xs.map (Zd knd))(his:∀x∈xs,knd.is h x.1 x.2.1)(hn:(xs.map (·.1)).Nodup)(hep:ep=es.size)(hkey:knd.is h k a)(ha:atKey xs k=none)(hk:k∉xs.map (·.1)):DictE knd (h.update d (Obj.mapDictKeys λes=>es.push ⟨knd.hash k,.ref a,v⟩)) d (storedH xs k a v):=by
 rw[storedH_new ha]
 refine ⟨_,_,ep+1,Ff _ ho (Obj.isFreed_of_dict (Obj.data_mapDictKeys hd _)),hc.mapDictKeys _,Obj.data_mapDictKeys hd _,by simp [he,Zd],λx hx=>?_,oU hn hk,by rw[hep,Array.size_push]⟩
 rcases Bi.mp hx with z | z
 ·exact knd.keeps (his x z) ho hd (Cg ..)
 ·rw[Ah.mp z]
  exact knd.keeps hkey ho hd (Cg ..)
theorem eZ{Q:Unit->Ag->Prop}(hu:knd.room A)(hkey:knd.is s.heap k a)(hm:DictE knd s.heap d xs)(q:∀h',DictE knd h' d (storedH xs k a v)->Dd d s.heap h'->Q () { s with heap:=h',toks:=s.toks+knd.draws k })(hz:xs.length<=Ap):wpAny (model prog w) A (dictSet d (.ref a) v) Q E s:=by
 obtain ⟨o,es,ep,ho,hc,hd,he,his,hn,hep⟩:=hm
 unfold dictSet
 try with_reducible refine Cz ?_
 refine Aa (knd.pyHash hu hkey ?_)
 unfold dictSetHashed
 try with_reducible refine Cz ?_
 refine Aa (wpAny_dictFind_heap (s:={ s with toks:=s.toks+knd.draws k }) hu hkey ho hd he his hn (λno=>?_) λj p hj=>?_)
 ·exact Aa (Kx (wpAny_updateDictKeys (hz:=by have e:=size_of_entries he; omega) (s:={ s with toks:=s.toks+knd.draws k }) ho hd (q _ (uX ho hc hd he his hn hep hkey (atKey_none_of_get no) (not_mem_keys_of_get no)) (Cg ..))))
 ·refine Aa (Kx (Aa (wpAny_updateDict (s:={ s with toks:=s.toks+knd.draws k }) ho hd (wpAny_point (q _ ?_ (Cg ..))))))
  rw[storedH_old (atKey_of_get hn hj)]
  refine ⟨_,_,ep,Ff _ ho (Obj.isFreed_of_dict (Obj.data_mapDict hd _)),hc.mapDict _,Obj.data_mapDict hd _,?_,λx hx=>?_,by rw[keys_map_putAt]; exact hn,by rw[hep]; simp⟩
  ·have e1:=modify_map_putAt (Zd knd) (λe:Ha=>{ e with val:=v }) k v (λ_ _=>rfl) hn hj
   rw[<- he] at e1
   obtain ⟨l⟩:=es
   simpa using e1
  ·obtain ⟨y,hy,rfl⟩:=Bt.mp hx
   unfold putAt
   split <;> exact knd.keeps (his y hy) ho hd (Cg ..)
theorem setItemE{Q:Unit->Ag->Prop}(hu:knd.room A.in1)(hkey:knd.is s.heap k a)(hm:DictE knd s.heap d xs)(q:∀h',DictE knd h' d (storedH xs k a v)->Dd d s.heap h'->Q () { s with heap:=h',toks:=s.toks+knd.draws k })(hz:xs.length<=Ap):wpAny (model prog w) A (setItem (.ref d) (.ref a) v) Q E s:=by
 have tD:=hm.of.typeIs
 unfold setItem
 try with_reducible refine Cz ?_
 refine Aa (wpAny_sequenceKey tD (by decide) ?_)
 refine Aa (Es (name:=El "__setitem__") tD slot_dict_setitem (Fm slot_dict_setitem tD entry_dict_setitem ?_ (args_dict_setitem _ _ _)))
 show wpAny _ _ (bind (Builtin.Dict.notOrdered "__setitem__" ⟨[.ref d,.ref a,v],[]⟩) _) _ _ s
 refine Aa (Uc tD ?_)
 show wpAny _ _ (bind (dictSet d (.ref a) v) _) _ _ s
 exact Aa (eZ hu hkey hm (λh' a b=>Aj ⟨.none,rfl,Aj (q h' a b)⟩) hz)
end
end Nd
namespace L2
open PySem PySem.Spec PyProof.Rows
section
variable{κ:Type}[DecidableEq κ]
def Rl(kvs:List (κ×V))(k:κ):Option V:=(kvs.find? λkv=>decide (kv.1=k)).map (·.2)
def Lj(kvs:List (κ×V))(k:κ)(v:V):List (κ×V) :=
 if (kvs.any λkv=>decide (kv.1=k))=true then kvs.map (λkv=>if kv.1=k then (kv.1,v) else kv) else kvs++[(k,v)]
theorem Pz{p:κ×V}{r:List (κ×V)}{k:κ}(e:p.1=k):Rl (p::r) k=some p.2:=by simp [Rl,Hu,e]
theorem Px{p:κ×V}{r:List (κ×V)}{k:κ}(e:¬ p.1=k):Rl (p::r) k=Rl r k:=by simp [Rl,Hu,e]
theorem eN(k:κ):∀kvs:List (κ×V),(kvs.any λkv=>decide (kv.1=k))=(Rl kvs k).isSome
 | []=>rfl
 | p::r=>by
  rw[Hw]
  by_cases e:p.1=k
  ·simp only[Pz e,decide_eq_true e,Bool.true_or,Option.isSome_some]
  ·rw[Px e,decide_eq_false e,Bool.false_or]; exact eN k r
theorem Qh(kvs:List (κ×V))(k:κ)(v:V):(Lj kvs k v).length<=kvs.length+1:=by
 unfold Lj
 split
 ·rw[Ac]; omega
 ·rw[Cc,Bs,Jy]; omega
theorem eG.isSome_eq{o:Option V}{u:Option Value}(r:eG o u):o.isSome=u.isSome:=by
 cases o with
 | none=>cases u with
  | none=>rfl
  | some _=>exact (show False from r).elim
 | some _=>cases u with
  | none=>exact (show False from r).elim
  | some _=>rfl
theorem eG.getD{o:Option V}{u:Option Value}{d:V}{d':Value}(r:eG o u)(rd:RelV d d'):RelV (o.getD d) (u.getD d'):=by
 cases o with
 | none=>cases u with
  | none=>exact rd
  | some _=>exact (show False from r).elim
 | some _=>cases u with
  | none=>exact (show False from r).elim
  | some _=>exact r
theorem KV.val{kvs:List (κ×V)}{vs:List (κ×Value)}(r:KV kvs vs)(k:κ):eG (Rl kvs k) (valueAt vs k):=by
 unfold KV at r
 induction r with
 | nil=>exact Je
 | @cons p q ps qs h t ih =>
  obtain ⟨h1,h2⟩:=h
  by_cases e:p.1=k
  ·have e':q.1=k:=h1.symm.trans e
   have b:valueAt (q::qs) k=some q.2:=by simp [valueAt,Hu,e']
   rw[Pz e,b]; exact h2
  ·have e':¬ q.1=k:=λz=>e (h1.trans z)
   have b:valueAt (q::qs) k=valueAt qs k:=by simp [valueAt,Hu,e']
   rw[Px e,b]; exact ih
theorem KV.any{kvs:List (κ×V)}{vs:List (κ×Value)}(r:KV kvs vs)(k:κ):(kvs.any λkv=>decide (kv.1=k))=vs.any λkv=>decide (kv.1=k):=by
 unfold KV at r
 induction r with
 | nil=>rfl
 | cons h t ih=>rw[Hw,Hw,ih,h.1]
theorem KV.repl{kvs:List (κ×V)}{vs:List (κ×Value)}(r:KV kvs vs)(k:κ){y:V}{u:Value}(ry:RelV y u):KV (kvs.map λkv=>if kv.1=k then (kv.1,y) else kv) (vs.map λkv=>if kv.1=k then (kv.1,u) else kv):=by
 unfold KV at r ⊢
 induction r with
 | nil=>exact .nil
 | @cons p q ps qs h t ih =>
  rw[Au,Au]
  refine .cons ?_ ih
  obtain ⟨h1,h2⟩:=h
  by_cases e:p.1=k
  ·rw[if_pos e,if_pos (h1.symm.trans e)]; exact ⟨h1,ry⟩
  ·rw[if_neg e,if_neg (λz=>e (h1.trans z))]; exact ⟨h1,h2⟩
theorem KV.put{kvs:List (κ×V)}{vs:List (κ×Value)}(r:KV kvs vs)(k:κ){y:V}{u:Value}(ry:RelV y u):KV (Lj kvs k y) (stored vs k u):=by
 unfold Lj stored
 rw[r.any k]
 by_cases e:(vs.any λkv=>decide (kv.1=k))=true
 ·rw[if_pos e,if_pos e]; exact r.repl k ry
 ·rw[if_neg e,if_neg e]; exact Paired.snoc r ⟨rfl,ry⟩
theorem KV.length{kvs:List (κ×V)}{vs:List (κ×Value)}(r:KV kvs vs):kvs.length=vs.length:=Paired.length r
end
theorem mN{P:Bo}{w:World}{k:Gn}{u:Value}(r:RelV (kV k) u):(Gm P w).is k u=true:=by
 cases k with
 | inl i=>obtain ⟨t,e⟩:=(show ∃t,u=Ph i t from r); subst e; exact eI P w i t
 | inr x=>obtain ⟨t,e⟩:=(show ∃t,u=Value.str x t from r); subst e; exact eR P w x t
theorem aW{P:Bo}{w:World}:∀{ks:List Gn} {us:List Value},En (ks.map kV) us->ItemsAre (Gm P w) ks us
 | [],_,r=>by rw[Ji] at r; cases r; exact .nil
 | k::ks,_,r=>by
  rw[Au] at r
  cases r with
  | cons h t=>exact .cons (mN h) (aW t)
abbrev KT(H:Hp):List (List Gn×V)->List (List Gn×Addr×Value)->Prop:=Paired λp q=>p.1=q.1/\H q.2.1=some (.tup (p.1.map kV))/\RelV p.2 q.2.2
theorem KT.val{H:Hp}{kvs:List (List Gn×V)}{xs:List (List Gn×Addr×Value)}(r:KT H kvs xs)(k:List Gn):eG (Rl kvs k) ((atKey xs k).map (·.2)):=by
 induction r with
 | nil=>exact Je
 | @cons p q ps qs h t ih =>
  obtain ⟨h1,_,h2⟩:=h
  by_cases e:p.1=k
  ·have e':q.1=k:=h1.symm.trans e
   have b:atKey (q::qs) k=some q.2:=by simp [atKey,Hu,e']
   rw[Pz e,b]; exact h2
  ·have e':¬ q.1=k:=λz=>e (h1.trans z)
   have b:atKey (q::qs) k=atKey qs k:=by simp [atKey,Hu,e']
   rw[Px e,b]; exact ih
theorem KT.repl{H:Hp}{kvs:List (List Gn×V)}{xs:List (List Gn×Addr×Value)}(r:KT H kvs xs)(k:List Gn){y:V}{u:Value}(ry:RelV y u):KT H (kvs.map λkv=>if kv.1=k then (kv.1,y) else kv) (xs.map (putAt k u)):=by
 induction r with
 | nil=>exact .nil
 | @cons p q ps qs h t ih =>
  rw[Au,Au]
  refine .cons ?_ ih
  obtain ⟨h1,h2,h3⟩:=h
  unfold putAt
  by_cases e:p.1=k
  ·rw[if_pos e,if_pos (h1.symm.trans e)]; exact ⟨h1,h2,ry⟩
  ·rw[if_neg e,if_neg (λz=>e (h1.trans z))]; exact ⟨h1,h2,h3⟩
theorem KT.put{H:Hp}{kvs:List (List Gn×V)}{xs:List (List Gn×Addr×Value)}(r:KT H kvs xs)(k:List Gn){b:Addr}{y:V}{u:Value}(hb:H b=some (.tup (k.map kV)))(ry:RelV y u):KT H (Lj kvs k y) (storedH xs k b u):=by
 have e:(kvs.any λkv=>decide (kv.1=k))=(atKey xs k).isSome:=by
  rw[eN,(r.val k).isSome_eq,Option.isSome_map]
 unfold Lj storedH
 rw[e]
 by_cases q:(atKey xs k).isSome=true
 ·rw[if_pos q,if_pos q]; exact r.repl k ry
 ·rw[if_neg q,if_neg q]; exact Paired.snoc r ⟨rfl,hb,ry⟩
theorem KT.keeps{H H':Hp}{kvs:List (List Gn×V)}{xs:List (List Gn×Addr×Value)}(r:KT H kvs xs)(ht:∀b ys,H b=some (.tup ys)->H' b=some (.tup ys)):KT H' kvs xs :=
 Paired.mapP r λ_ _ z=>⟨z.1,ht _ _ z.2.1,z.2.2⟩
section
variable{P:Bo}{w:World}{H:Hp}{h:Heap}{a:Addr}
theorem sR{u:HO}(ok:Ss P w H h)(e:Rd H a u):Gd P w H h a u:=e.ok ok
theorem fQ{kvs:List (Gn×V)}(ok:Ss P w H h)(e:Rd H a (.dK kvs)):kvs.length<=Ap/\(a == Fd)=false/\∃vs,KV kvs vs/\h.DictOf (Gm P w) a vs :=
 show Gd P w H h a (.dK kvs) from sR ok e
theorem M3{kvs:List (Gn×V)}(ok:Ss P w H h)(e:H a=some (.dK kvs)):kvs.length<=Ap/\(a == Fd)=false/\∃vs,KV kvs vs/\h.DictOf (Gm P w) a vs:=fQ ok (.inl e)
theorem Ul{ks:List Gn}(ok:Ss P w H h)(e:H a=some (.tup (ks.map kV))):(Oy (Gm P w)).is h ks a:=by
 obtain ⟨_,its,r,o,h1,h2,n,h3⟩:=(show Gd P w H h a (.tup (ks.map kV)) from ok a _ e)
 exact ⟨o,its.toArray,n,h1,h2,h3,by simpa using aW r⟩
theorem kO{kvs:List (List Gn×V)}(ok:Ss P w H h)(e:Rd H a (.dT kvs)):kvs.length<=Ap/\(a == Fd)=false/\∃xs,KT H kvs xs/\h.DictOfH (Oy (Gm P w)) a xs:=by
 obtain ⟨z,y,xs,r,o,es,ep,h1,h2,h3,h4,h5,h6⟩:=(show Gd P w H h a (.dT kvs) from sR ok e)
 refine ⟨z,y,xs,r,o,es,ep,h1,h2,h3,h4,λx hx=>?_,h5⟩
 have all:∀{l:List (List Gn×V)} {m:List (List Gn×Addr×Value)},KT H l m->∀x∈m,(Oy (Gm P w)).is h x.1 x.2.1:=by
  intro l m q
  induction q with
  | nil=>intro x hx; exact nomatch hx
  | @cons p q ps qs hq t ih =>
   intro x hx
   rcases Ak.mp hx with e | hx
   ·subst e
    exact Ul ok (by rw[<- hq.1]; exact hq.2.1)
   ·exact ih x hx
 exact all r x hx
theorem uR{kvs:List (List Gn×V)}(ok:Ss P w H h)(e:Rd H a (.dT kvs)):kvs.length<=Ap/\(a == Fd)=false/\∃xs,KT H kvs xs/\Nd.DictE (Oy (Gm P w)) h a xs:=by
 obtain ⟨z,y,xs,r,o,es,ep,h1,h2,h3,h4,h5,h6⟩:=(show Gd P w H h a (.dT kvs) from sR ok e)
 refine ⟨z,y,xs,r,o,es,ep,h1,h2,h3,h4,λx hx=>?_,h5,h6⟩
 have all:∀{l:List (List Gn×V)} {m:List (List Gn×Addr×Value)},KT H l m->∀x∈m,(Oy (Gm P w)).is h x.1 x.2.1:=by
  intro l m q
  induction q with
  | nil=>intro x hx; exact nomatch hx
  | @cons p q ps qs hq t ih =>
   intro x hx
   rcases Ak.mp hx with e | hx
   ·subst e
    exact Ul ok (by rw[<- hq.1]; exact hq.2.1)
   ·exact ih x hx
 exact all r x hx
end
def eD(H:Hp)(a:Addr)(y:V)(r:Option V):Prop :=
 (∃kvs k,Rd H a (.dK kvs)/\y=kV k/\r=Rl kvs k)\/∃kvs k b,Rd H a (.dT kvs)/\y=.ref b/\H b=some (.tup (k.map kV))/\r=Rl kvs k
def yO(H:Hp)(a:Addr)(y v:V)(H':Hp):Prop :=
 (∃kvs k,H a=some (.dK kvs)/\y=kV k/\kvs.length<Ap/\H'=upd H a (.dK (Lj kvs k v))) \/
 ∃kvs k b,H a=some (.dT kvs)/\y=.ref b/\H b=some (.tup (k.map kV))/\kvs.length<Ap/\H'=upd H a (.dT (Lj kvs k v))
theorem eD.k{H:Hp}{a:Addr}{kvs:List (Gn×V)}{k:Gn}(e:H a=some (.dK kvs)):eD H a (kV k) (Rl kvs k):=.inl ⟨kvs,k,.inl e,rfl,rfl⟩
theorem eD.t{H:Hp}{a b:Addr}{kvs:List (List Gn×V)}{k:List Gn}(e:H a=some (.dT kvs))(eb:H b=some (.tup (k.map kV))):eD H a (.ref b) (Rl kvs k):=.inr ⟨kvs,k,b,.inl e,rfl,eb,rfl⟩
theorem yO.k{H:Hp}{a:Addr}{kvs:List (Gn×V)}{k:Gn}{v:V}(e:H a=some (.dK kvs))(hl:kvs.length<Ap):yO H a (kV k) v (upd H a (.dK (Lj kvs k v))):=.inl ⟨kvs,k,e,rfl,hl,rfl⟩
theorem yO.t{H:Hp}{a b:Addr}{kvs:List (List Gn×V)}{k:List Gn}{v:V}(e:H a=some (.dT kvs))(eb:H b=some (.tup (k.map kV)))(hl:kvs.length<Ap):yO H a (.ref b) v (upd H a (.dT (Lj kvs k v))):=.inr ⟨kvs,k,b,e,rfl,eb,hl,rfl⟩
section
variable{X:Cx}{pins:List (Addr×Obj)}{σ:St}{H:Hp}{s:Ag}{a:Addr}{y v:V}{u r:Value}{o:Option V}{A:Co}{E:Value->Ag->Prop}
theorem Inv.big(I:Inv X pins σ H s):Fd<s.heap.objs.size:=by
 have h:Bz<s.heap.objs.size:=(I.mod.glob.keeps I.bk).lt
 exact Nat.lt_trans (by decide) h
theorem oH{Q:Value->Ag->Prop}(hu:A.units+1<cLine)(I:Inv X pins σ H s)(g:eD H a y (some v))(ry:RelV y u)(h:∀w' s',Inv X pins σ H s'->RelV v w'->Q w' s'):wpAny (model X.prog X.w) A (getItem (.ref a) u) Q E s:=by
 rcases g with ⟨kvs,k,e,ey,l⟩ | ⟨kvs,k,b,e,ey,eb,l⟩
 ·subst ey
  obtain ⟨z,hd,vs,rel,dd⟩:=fQ I.hok e
  obtain ⟨w',hw,rw'⟩:=eG.some_of (v:=v) (o:=valueAt vs k) (by rw[l]; exact rel.val k)
  exact wpAny_getItem_of (mN ry) dd.mapOf hw (h w' _ (I.tok _) rw')
 ·subst ey
  cases (show u=Ax b from ry)
  obtain ⟨z,hd,xs,rel,dd⟩:=kO I.hok e
  obtain ⟨w',hw,rw'⟩:=eG.some_of (v:=v) (o:=(atKey xs k).map (·.2)) (by rw[l]; exact rel.val k)
  obtain ⟨p,hp,hp2⟩:=Option.map_eq_some_iff.mp hw
  refine wpAny_getItem_heap (Zc hu) (Ul I.hok eb) dd hp ?_
  rw[hp2]
  exact h w' _ (I.tok _) rw'
theorem bP{h':Heap}{t':Nat}{ob:HO}(I:Inv X pins σ H s)(mu:M6 (H a))(hs:Dd a s.heap h')(he:∃q,h'.get? a=some q)(new:Gd X.prog X.w (upd H a ob) h' a ob):Inv X pins σ (upd H a ob) { s with heap:=h',toks:=t' } :=
 I.write (x:=a) (e:=a) mu (.inl rfl) (λb q hb z=>(hs.2 b hb).trans z) he new
theorem E3{P:Bo}{w:World}{H':Hp}{h':Heap}{kvs:List (Gn×V)}{vs:List (Gn×Value)}(z:kvs.length<=Ap)(hd:(a == Fd)=false)(rel:KV kvs vs)(dd:h'.DictOf (Gm P w) a vs):Gd P w H' h' a (.dK kvs):=⟨z,hd,vs,rel,dd⟩
theorem oD{H':Hp}{Q:Unit->Ag->Prop}(hu:A.units+1<cLine)(I:Inv X pins σ H s)(g:yO H a y v H')(ry:RelV y u)(rv:RelV v r)(h:∀s',Inv X pins σ H' s'->Q () s'):wpAny (model X.prog X.w) A (setItem (.ref a) u r) Q E s:=by
 rcases g with ⟨kvs,k,e,ey,l,eH⟩ | ⟨kvs,k,b,e,ey,eb,l,eH⟩
 ·subst ey eH
  obtain ⟨z,hd,vs,rel,dd⟩:=M3 I.hok e
  have hz:vs.length<=Ap:=by rw[<- rel.length]; exact z
  have hl:(Lj kvs k v).length<=Ap:=by have:=Qh kvs k v; omega
  refine wpAny_setItem_pairs (hsz:=hz) (mN ry) dd λh' dd' hs=>h _ ?_
  have he:∃q,h'.get? a=some q:=let ⟨q,_,_,hq,_⟩:=dd'; ⟨q,hq⟩
  exact bP I (by rw[e]; exact Je) hs he (E3 hl hd (rel.put k rv) dd')
 ·subst ey eH
  cases (show u=Ax b from ry)
  obtain ⟨z,hd,xs,rel,dd⟩:=uR I.hok (.inl e)
  have hz:xs.length<=Ap:=by rw[<- Paired.length rel]; exact z
  have hl:(Lj kvs k v).length<=Ap:=by have:=Qh kvs k v; omega
  refine Nd.setItemE (hz:=hz) (Zc hu) (Ul I.hok eb) dd λh' dd' hs=>h _ ?_
  obtain ⟨q,es,ep,hq,h2,h3,h4,_,h5⟩:=dd'
  refine bP I (by rw[e]; exact Je) hs ⟨q,hq⟩ ⟨hl,hd,_,(rel.put k eb rv).keeps λc ys ec=>?_,q,es,ep,hq,h2,h3,h4,h5⟩
  rw[Cn (lA ec e (λz=>nomatch z))]
  exact ec
end
def yP(i:Expr):Prop:=∀ov iv,subscripted i false ov iv=operate [ov,iv] (getItem ov iv)
theorem yW{prog:Bo}{w:World}{A:Co}{E:Value->Ag->Prop}{s:Ag}{env:Env}{value slice:Expr}{pos:Pos}{T id:String}{Q:Value->Ag->Prop}(hl:typeLookup (.type T) "__getitem__" = pure (some (.builtin id)))(hs:yP slice)(h:wpAny (model prog w) A (eval value env) (λo s₁=>wpAny (model prog w) A (eval slice env) (λi s₂=>s₂.TypeIs o T/\wpAny (model prog w) A (getItem o i) Q E s₂) E s₁) E s):wpAny (model prog w) A (eval (.Subscript value slice pos) env) Q E s:=by
 refine Zg (Eh h (λo s₁ h₁=>Eh h₁ (λi s₂ h₂=>?_) λ_ _ x=>x) λ_ _ x=>x)
 obtain ⟨hT,h₂⟩:=h₂
 unfold Yu
 refine Aa ?_
 rw[getitemInPython_of_ne hT.not_modules]
 refine Aa (wpAny_specialOf hT hl ?_)
 have fin:wpAny (model prog w) A (subscripted slice false o i) (λr s₃=>wpAny (model prog w) A (letTemporaryGo value o r >>= λ_=>pure r) Q E s₃) E s₂:=by
  rw[hs o i]
  exact wpAny_operating (Eh h₂ (λr s₃ h₃=>Aa (wpAny_letTemporaryGo (Aj h₃))) λ_ _ x=>x)
 first
  | exact Aj (Aa fin)
  | exact Aa (Aj (Aa fin))
  | exact Aa fin
theorem fN{X:Cx}{pins:List (Addr×Obj)}{σ:St}{H:Hp}{s:Ag}{a:Addr}{y:V}{o:Option V}(I:Inv X pins σ H s)(g:eD H a y o):s.TypeIs (.ref a) "dict" := by
 rcases g with ⟨kvs,k,e,_,_⟩ | ⟨kvs,k,b,e,_,_,_⟩
 ·obtain ⟨_,_,vs,_,dd⟩:=fQ I.hok e
  exact dd.typeIs
 ·obtain ⟨_,_,xs,_,dd⟩:=kO I.hok e
  exact dd.typeIs
def T3(td ty:TE):TE:=λσ H Q=>td σ H λx H1=>ty σ H1 λy H2=>∃a v,x=.ref a/\eD H2 a y (some v)/\Q v H2
def P6(td ty tv:TE):TS:=λD σ H=>tv σ H λv H1=>td σ H1 λx H2=>ty σ H2 λy H3=>∃a H4,x=.ref a/\yO H3 a y v H4/\D.nx σ H4
section
variable{X:Cx}{o i e value:Expr}{pos pos' tpos:Pos}{td ty tv:TE}
theorem lR(hu:X.A.units+1<cLine)(ho:PE X o td)(hi:PE X i ty)(hs:yP i):PE X (.Subscript o i pos) (T3 td ty):=by
 intro pins s σ H Q I h
 refine yW PySem.F.slot_dict_getitem.lookup hs (Fu (ho pins s σ H _ I h) λu s1 ⟨x,H1,I1,rx,q1⟩=>Fu (hi pins s1 σ H1 _ I1 q1) λiv s2 q0_ => ?_)
 obtain ⟨y,H2,I2,ry,a,v,ex,g,q2⟩ := q0_
 subst ex
 obtain rfl:u=Ax a:=rx
 exact ⟨fN I2 g,oH hu I2 g ry λw' s3 I3 rw'=>⟨v,H2,I3,rw',q2⟩⟩
theorem mD(hu:X.A.units+1<cLine)(ho:PE X o td)(hi:PE X i ty)(hv:PE X value tv)(hs:Lc value (some (.Subscript o i pos')) pos.line X.env=pure false):PS X (.Assign [.Subscript o i pos'] value pos) (P6 td ty tv):=by
 intro pins s σ H D I h
 refine wpAny_Assign_Subscript (Fu (hv pins s σ H _ I h) λr s1 ⟨v,H1,I1,rv,q1⟩=>Fu (ho pins s1 σ H1 _ I1 q1) λu s2 ⟨x,H2,I2,rx,q2⟩=>Fu (hi pins s2 σ H2 _ I2 q2) λiv s3 ⟨y,H3,I3,ry,a,H4,ex,g,q3⟩=>?_) hs
 subst ex
 obtain rfl:u=Ax a:=rx
 exact oD hu I3 g ry rv λs4 I4=>⟨σ,H4,I4,q3⟩
end
theorem rP{P:Bo}{w:World}{H:Hp}(h:Heap)(hb:Fd<h.objs.size):Gd P w H (h.push { cls:=.type "dict",data:=.dict #[] }) h.objs.size (.dK []) :=
 ⟨Ct _,beq_eq_false_iff_ne.mpr (Ld (Br hb)),[],.nil,Heap.DictOf.new h⟩
theorem fY{P:Bo}{w:World}{H:Hp}(h:Heap)(hb:Fd<h.objs.size):Gd P w H (h.push { cls:=.type "dict",data:=.dict #[] }) h.objs.size (.dT []) :=
 ⟨Ct _,beq_eq_false_iff_ne.mpr (Ld (Br hb)),[],.nil,_,#[],0,Ar _ rfl,⟨rfl,rfl,rfl⟩,rfl,rfl,Cs,rfl⟩
def J9:TE:=λ_ H Q=>∀p,H p=none->Q (.ref p) (upd H p (.dK []))
def J5:TE:=λ_ H Q=>∀p,H p=none->Q (.ref p) (upd H p (.dT []))
section
variable{X:Cx}{pos:Pos}
theorem rY:PE X (.Dict [] [] pos) J9:=λpins s σ H Q I h =>
 wpAny_Dict_empty ⟨.ref s.heap.objs.size,_,I.laid (a:=s.heap.objs.size) (o:=.dK []) (t':=s.toks) (λ_ _ q=>Ae _ q) (Ai _) (rP s.heap I.big),rfl,h _ (I.hok.fresh (Ai _))⟩
theorem uQ:PE X (.Dict [] [] pos) J5:=λpins s σ H Q I h =>
 wpAny_Dict_empty ⟨.ref s.heap.objs.size,_,I.laid (a:=s.heap.objs.size) (o:=.dT []) (t':=s.toks) (λ_ _ q=>Ae _ q) (Ai _) (fY s.heap I.big),rfl,h _ (I.hok.fresh (Ai _))⟩
end
structure M1(X:Cx)(o:Expr)(m:Str)(apos:Pos)(e:Expr)(cpos:Pos):Prop where
 base:Yw o m X.env (eval o X.env)=eval o X.env
 few:((Hi cpos (Bp [e] X.env)).all (λx=>!x.1) && (backToKw cpos (keywordEach [] X.env)).all (λx=>x.1.isSome)
  && decide (([e]:List Expr).length+([]:List Wc).length+(if ([]:List Wc).isEmpty then 0 else 1)<30))=true
 line:(apos.endLine == cpos.line)=true
 trees:Hi cpos (Bp [e] X.env)=[(false,eval e X.env)]
structure M2(X:Cx)(o:Expr)(m:Str)(apos:Pos)(e f:Expr)(cpos:Pos):Prop where
 base:Yw o m X.env (eval o X.env)=eval o X.env
 few:((Hi cpos (Bp [e,f] X.env)).all (λx=>!x.1) && (backToKw cpos (keywordEach [] X.env)).all (λx=>x.1.isSome)
  && decide (([e,f]:List Expr).length+([]:List Wc).length+(if ([]:List Wc).isEmpty then 0 else 1)<30))=true
 line:(apos.endLine == cpos.line)=true
 trees:Hi cpos (Bp [e,f] X.env)=[(false,eval e X.env),(false,eval f X.env)]
def AM(H:Hp)(a:Addr):Prop:=(∃kvs,Rd H a (.dK kvs))\/∃kvs,Rd H a (.dT kvs)
theorem q9{X:Cx}{pins:List (Addr×Obj)}{σ:St}{H:Hp}{s:Ag}{a:Addr}(I:Inv X pins σ H s)(d:AM H a):s.TypeIs (.ref a) "dict" /\ (∀b,Ax a=.ref b->∃ob,s.heap.get? b=some ob/\ob.dict=none)/\(a == Fd)=false:=by
 rcases d with ⟨kvs,e⟩ | ⟨kvs,e⟩
 ·obtain ⟨_,hd,vs,_,dd⟩:=fQ I.hok e
  refine ⟨dd.typeIs,λb q=>?_,hd⟩
  cases q
  obtain ⟨ob,_,_,h1,h2,_⟩:=dd
  exact ⟨ob,h1,h2.2.1⟩
 ·obtain ⟨_,hd,xs,_,dd⟩:=kO I.hok e
  refine ⟨dd.typeIs,λb q=>?_,hd⟩
  cases q
  obtain ⟨ob,_,_,h1,h2,_⟩:=dd
  exact ⟨ob,h1,h2.2.1⟩
section
variable{X:Cx}{pins:List (Addr×Obj)}{σ:St}{H:Hp}{s:Ag}{a:Addr}{y d:V}{u r:Value}{o:Option V}{A:Co}{E:Value->Ag->Prop}
theorem A8{Q:Value->Ag->Prop}(hu:A.units+1<cLine)(I:Inv X pins σ H s)(g:eD H a y o)(ry:RelV y u)(rd:RelV d r)(h:∀w' s',Inv X pins σ H s'->RelV (o.getD d) w'->Q w' s'):wpAny (model X.prog X.w) A (call (.builtin "dict.get") [.ref a,u,r]) Q E s:=by
 rcases g with ⟨kvs,k,e,ey,l⟩ | ⟨kvs,k,b,e,ey,eb,l⟩
 ·subst ey
  obtain ⟨z,hd,vs,rel,dd⟩:=fQ I.hok e
  refine call_meetsIn PySem.F.slot_dict_get dd.typeIs PySem.F.entry_dict_get (PySem.F.args_dict_get_3 _ _ _) (meets_dict_get_default (Gm X.prog X.w) a (mN ry) hd r) ⟨_,dd.mapOf,h _ _ (I.tok _) ?_⟩
  rw[l]
  exact (rel.val k).getD rd
 ·subst ey
  cases (show u=Ax b from ry)
  obtain ⟨z,hd,xs,rel,dd⟩:=kO I.hok e
  refine call_meetsIn PySem.F.slot_dict_get dd.typeIs PySem.F.entry_dict_get (PySem.F.args_dict_get_3 _ _ _) (meetsH_dict_get_default (Oy (Gm X.prog X.w)) a b hd r) ⟨Zc hu,k,xs,Ul I.hok eb,dd,h _ _ (I.tok _) ?_⟩
  rw[l]
  exact (rel.val k).getD rd
end
def qL(td ty tx:TE):TE:=λσ H Q=>td σ H λx H1=>∃a,x=.ref a/\AM H1 a/\ty σ H1 λy H2=>tx σ H2 λz H3=>∃o,eD H3 a y o/\Q (o.getD z) H3
section
variable{X:Cx}{o e f:Expr}{apos cpos:Pos}{td ty tx:TE}
theorem pU(hu:X.A.units+1<cLine)(ho:PE X o td)(he:PE X e ty)(hf:PE X f tx)(m:M2 X o "get" apos e f cpos):PE X (.Call (.Attribute o "get" apos) [e,f] [] cpos) (qL td ty tx):=by
 intro pins s σ H Q I h
 refine wpAny_Call_method m.base m.few m.line PySem.F.plainAttrs_dict PySem.F.slot_dict_get PySem.F.type_dict_get (Fu (ho pins s σ H _ I h) λu s1 q0_ => ?_)
 obtain ⟨x,H1,I1,rx,a,ex,d,q1⟩ := q0_
 subst ex
 obtain rfl:u=Ax a:=rx
 obtain ⟨t1,t2,_⟩:=q9 I1 d
 refine ⟨t1,t2,?_⟩
 rw[m.trees]
 refine iA rfl (Calls.evalArgs_plain (Ka (Fu (he pins s1 σ H1 _ I1 q1) λiv s2 ⟨y,H2,I2,ry,q2⟩ =>
  Ka (Fu (hf pins s2 σ H2 _ I2 q2) λfv s3 ⟨z,H3,I3,rz,ov,g,q3⟩=>Og ?_))))
 exact A8 hu I3 g ry rz λw' s4 I4 rw'=>⟨_,H3,I4,rw',q3⟩
end
end L2
namespace Nd
open PySem PySem.Spec PyProof.Rows L2
end Nd
namespace DL
open PySem PySem.Spec PyProof.Rows L2 Nd
def Vv(ks:List (List Int×Ad))(w:List Int):Option Ad:=(ks.find? λp=>decide (p.1=w)).map (·.2)
def Qf(ks:List (List Int×Ad))(w:List Int)(d:Ad):List (List Int×Ad) :=
 if (ks.any λp=>decide (p.1=w))=true then ks.map (λp=>if p.1=w then (p.1,d) else p) else ks++[(w,d)]
theorem Rb{α β:Type}{f:α->β}(hf:∀a b,f a=f b->a=b):∀{l m:List α},l.map f=m.map f->l=m
 | [],[],_=>rfl
 | [],_::_,h=>by cases h
 | _::_,[],h=>by cases h
 | a::l,b::m,h=>by
  obtain ⟨h1,h2⟩:=Dx h
  rw[hf a b h1,Rb hf h2]
theorem Pp{a b:List Int}(h:Ck a=Ck b):a=b:=Rb (λx y e=>by cases e; rfl) (PyData.tuple.inj h)
theorem Qu{a b:List (List Int×Ad)}(h:Oo a=Oo b):a=b:=Rb (λx y e=>by
 obtain ⟨e1,e2⟩:=Prod.mk.inj e
 exact Prod.ext (Pp e1) e2) (Dx h).2
theorem Xn{a b:List Int}(h:Jh a=Jh b):a=b:=Rb (λx y e=>by cases e; rfl) h
theorem cY(w:List Int):(Jh w).map kV=w.map V.int:=by
 unfold Jh
 rw[Bw]
 rfl
section
variable{K:PySem.W.Frag}{H H':Hp}
structure DRel(K:PySem.W.Frag)(H:Hp)(kv:List (List Gn×V))(ks:List (List Int×Ad)):Prop where
 key:kv.map (·.1)=ks.map λp=>Jh p.1
 val:RdFs K H (kv.map (·.2)) (ks.map (·.2)) []
theorem RdF.dict_inv{v:V}{X:List (Ad×Ad)}{F:List Addr}(h:RdF K H v (.dict X) F)(hX:xZ X=true:=by first | rfl | assumption):∃a kv ks,v=.ref a/\X=Oo ks/\H a=some (.dT kv)/\DRel K H kv ks/\F=[a]:=by
 cases h with
 | dic h e hs=>exact ⟨_,_,_,rfl,rfl,h,⟨e,hs⟩,rfl⟩
 | dik h e hs=>cases hX
 | dnm h e hs=>cases hX
theorem RdFs.cons_nil{x:V}{d:Ad}{xs:List V}{ds:List Ad}{F:List Addr}(h:RdFs K H (x::xs) (d::ds) F)(hF:F=[]):RdF K H x d []/\RdFs K H xs ds []:=by
 cases h with
 | cons a t =>
  obtain ⟨rfl,rfl⟩:=Kv.mp hF
  exact ⟨a,t⟩
theorem Pr{kv:List (List Gn×V)}{ks:List (List Int×Ad)}(r:DRel K H kv ks):kv.length=ks.length:=by
 have:=congrArg Fl r.key
 simpa using this
theorem Yd(w:List Int):∀{kv:List (List Gn×V)} {ks:List (List Int×Ad)},DRel K H kv ks->(Rl kv (Jh w)=none/\Vv ks w=none)\/∃v d,Rl kv (Jh w)=some v/\Vv ks w=some d/\RdF K H v d []
 | [],[],_=>.inl ⟨rfl,rfl⟩
 | [],_::_,r=>by cases r.key
 | _::_,[],r=>by cases r.key
 | (k,v)::kv,(u,d)::ks,r=>by
  obtain ⟨e1,e2⟩:=Dx r.key
  have e1:k=Jh u:=e1
  obtain ⟨r1,r2⟩:=RdFs.cons_nil r.val rfl
  by_cases h:u=w
  ·subst h e1
   refine .inr ⟨v,d,Pz rfl,by simp [Vv],r1⟩
  ·have hk:¬ k=Jh w:=λz=>h (Xn (e1.symm.trans z))
   rw[Px hk,show Vv ((u,d)::ks) w=Vv ks w by simp [Vv,h]]
   exact Yd w ⟨e2,r2⟩
theorem vN(w:List Int){kv:List (List Gn×V)}{ks:List (List Int×Ad)}(r:DRel K H kv ks):(kv.any λp=>decide (p.1=Jh w))=(ks.any λp=>decide (p.1=w)):=by
 have h1:(kv.any λp=>decide (p.1=Jh w))=((kv.map (·.1)).any λk=>decide (k=Jh w)):=by rw[Qm]; rfl
 rw[h1,r.key,Qm]
 congr 1
 funext p
 exact decide_eq_decide.mpr ⟨λz=>Xn z,λz=>by show Jh p.1=Jh w; rw[z]⟩
theorem bA(w:List Int){v:V}{d:Ad}(rv:RdF K H v d []):∀{kv:List (List Gn×V)} {ks:List (List Int×Ad)},DRel K H kv ks->DRel K H (kv.map λp=>if p.1=Jh w then (p.1,v) else p) (ks.map λp=>if p.1=w then (p.1,d) else p)
 | [],[],r=>r
 | [],_::_,r=>by cases r.key
 | _::_,[],r=>by cases r.key
 | (k,v')::kv,(u,d')::ks,r=>by
  obtain ⟨e1,e2⟩:=Dx r.key
  have e1:k=Jh u:=e1
  obtain ⟨r1,r2⟩:=RdFs.cons_nil r.val rfl
  have ih:=bA w rv (kv:=kv) (ks:=ks) ⟨e2,r2⟩
  rw[Au,Au]
  by_cases h:u=w
  ·rw[if_pos (show k=Jh w by rw[e1,h]),if_pos h]
   exact ⟨by rw[Au,Au,ih.key]; exact congrArg (·::_) e1,RdFs.cons (F:=[]) (G:=[]) rv ih.val⟩
  ·have hk:¬ k=Jh w:=λz=>h (Xn (e1.symm.trans z))
   rw[if_neg (show ¬ (k,v').1=Jh w from hk),if_neg (show ¬ (u,d').1=w from h)]
   exact ⟨by rw[Au,Au,ih.key]; exact congrArg (·::_) e1,RdFs.cons (F:=[]) (G:=[]) r1 ih.val⟩
theorem gA(w:List Int){v:V}{d:Ad}(rv:RdF K H v d []){kv:List (List Gn×V)}{ks:List (List Int×Ad)}(r:DRel K H kv ks):DRel K H (Lj kv (Jh w) v) (Qf ks w d):=by
 unfold Lj Qf
 rw[vN w r]
 split
 ·exact bA w rv r
 ·refine ⟨by rw[Bj,Bj,r.key]; rfl,?_⟩
  rw[Bj,Bj]
  exact r.val.snoc rv
theorem DRel.kp{kv:List (List Gn×V)}{ks:List (List Int×Ad)}(r:DRel K H kv ks)(k:Kp [] H H'):DRel K H' kv ks:=⟨r.key,r.val.kp k⟩
end
def d0:R2:=λx y H Q=>∃a v,x=.ref a/\eD H a y (some v)/\Q v H
def bM:D2:=λx y P=>match x,y with
 | .dat _ (.dict X),.dat _ k=>∃ks w d,X=Oo ks/\k=Ck w/\Vv ks w=some d/\P (.dat .ow d)
 | _,_=>False
section
variable{K:PySem.W.Frag}
theorem Sv{H:Hp}{v:V}{w:List Int}{F:List Addr}(r:RdF K H v (Ck w) F):∃b,v=.ref b/\H b=some (.tup ((Jh w).map kV)):=by
 obtain ⟨b,xs,rfl,hb,rb,_⟩:=r.tup_inv
 obtain ⟨rfl,_⟩:=rb.ints_inv
 exact ⟨b,rfl,by rw[cY]; exact hb⟩
theorem vY:iS K d0 bM:=by
 intro H0 X n S T x y v w F G H Q P hA hd k
 unfold bM at hd
 split at hd
 ·obtain ⟨ks,u,d,rfl,rfl,hg,p⟩:=hd
  obtain ⟨b,rfl,hb⟩:=Sv (hA.told mem_mid)
  obtain ⟨a,kv,ks',rfl,ek,ha,rel,_⟩:=(hA.told Ee).dict_inv
  obtain rfl:=Qu ek
  rcases Yd u rel with ⟨_,z⟩ | ⟨v',d',h1,h2,h3⟩
  ·rw[z] at hg; cases hg
  ·rw[h2] at hg; cases hg
   exact ⟨a,v',rfl,h1▸eD.t ha hb,k _ _ [] H (hA.drop2.pushI h3) p⟩
 ·exact hd.elim
end
section
variable{X:Cx}{a b:Expr}{da db:DE}{pos:Pos}
theorem S5{n:Nat}(hu:n+64<cLine):n+1<cLine:=by omega
theorem Wf(hu:X.A.units+64<cLine)(ha:Fb X a da)(hb:Fb X b db)(hs:yP b:=by intro _ _; rfl):Fb X (.Subscript a b pos) (Xl bM da db):=PE.imp (lR (S5 hu) ha hb hs) (aT vY)
end
def b0:DE:=λδ P=>P (.dat .ow (.dict (Oo []))) δ
theorem At.newD{K:PySem.W.Frag}{H0 H:Hp}{X:Addr->Prop}{n:Nat}{S T:List Ent}{p:Addr}(h:At K H0 X n (S++T) H)(hp:H p=none):At K H0 X n (S++⟨some (.ref p),.dat .ow (.dict (Oo [])),[p]⟩::T) (upd H p (.dT [])):=by
 have s1:=Di hp (.dT [])
 refine ((h.grow (n':=n) s1 (Ai _)).push (e:=⟨some (.ref p),.dat .ow (.dict (Oo [])),[p]⟩) ⟨_,rfl,.dic Cr rfl .nil,λ_=>Bx.mpr ⟨Az,Cs⟩,λz=>nomatch z⟩ (λf hf=>?_) λa ha=>?_).tomid
 ·have nf:=h.free hp f hf
  refine ⟨λ_ a ha z=>?_,λ_ a ha z=>?_⟩
  ·rw[Ah.mp ha] at z
   exact nf z
  ·rw[Ah.mp z] at ha
   exact nf (Fh _ _ ha)
 ·rw[Ah.mp ha]
  exact .inl (h.new0 hp)
theorem xO{X:Cx}{pos:Pos}:Fb X (.Dict [] [] pos) b0:=by
 refine PE.imp uQ λσ H Q h=>?_
 obtain ⟨H0,Y,S,T,δ,P,rfl,hS,hA,hd,k⟩:=h
 exact λp hp=>k _ δ _ _ S _ rfl hS (hA.newD hp) hd
theorem At.writeD{K:PySem.W.Frag}{H0 H:Hp}{X:Addr->Prop}{n:Nat}{E:List Ent}{v:Option V}{ks ks':List (List Int×Ad)}{a:Addr}{kv':List (List Gn×V)}(h:At K H0 X n (⟨v,.dat .ow (.dict (Oo ks)),[a]⟩::E) H)(hv:v=some (.ref a))(np:∀e∈E,Mp e.x=false)(r:DRel K H kv' ks'):At K H0 X n (⟨v,.dat .ow (.dict (Oo ks')),[a]⟩::E) (upd H a (.dT kv')):=by
 obtain ⟨w,e1,rd,hn,ht⟩:=h.ok _ Ab
 obtain ⟨b,kv,ks0,e2,ek,ha,_,eF⟩:=rd.dict_inv
 have eF':[a]=[b]:=eF
 cases eF'
 have hs:=Bd.mp h.sep
 have kp:∀{F':List Addr},a∉F'->Kp F' H (upd H a (.dT kv')):=λ{F'} hF b o q z=>by
  have : b≠a:=by
   rintro rfl
   rw[ha] at q
   cases q
   rcases z with z | z
   ·exact hF z
   ·rcases z with ⟨_,z⟩ | ⟨_,_,z⟩ <;> cases z
  rw[Cn this]
  exact q
 have n0:H0 a=none:=by
  rcases h.new _ Ab a Ab with z | z
  ·exact z
  ·cases z.2
 refine ⟨λf hf=>?_,Bd.mpr ⟨λf hf=>⟨λhq c hc=>(hs.1 f hf).1 (.inl (np f hf)) c hc,λhq c hc=>(hs.1 f hf).2 (.inl rfl) c hc⟩,hs.2⟩,λf hf=>?_,λb o nx q=>?_,λb o q=>?_,λb hb=>?_⟩
 ·rcases Ak.mp hf with rfl | hf
  ·exact ⟨.ref a,hv,.dic Cr r.key (r.val.kp (kp Az)),λ_=>Bx.mpr ⟨Az,Cs⟩,λz=>nomatch z⟩
  ·exact (h.ok f (Af _ hf)).kp (kp ((hs.1 f hf).1 (.inl (np f hf)) a Ab)) (Ai _)
 ·rcases Ak.mp hf with rfl | hf
  ·exact λc hc=>h.new _ Ab c hc
  ·exact h.new f (Af _ hf)
 ·rw[Cn (Da q n0)]
  exact h.same b o nx q
 ·rw[Cn (Da q n0)]
  exact h.dom b o q
 ·obtain ⟨z,c,k,f,h1,h2⟩:=h.xd b hb
  refine ⟨z,c,k,f,(Cn ?_).trans h1,h2⟩
  rintro rfl
  exact z n0
theorem gH{K:PySem.W.Frag}{H0 H:Hp}{X:Addr->Prop}{S T:List Ent}{δ:DS}{i:Nat}{ks ks':List (List Int×Ad)}(hS:Sl S δ)(hT:∀e∈T,Mp e.x=false)(hA:At K H0 X δ.n (S++T) H)(hi:δ.sl[i]? = some (.dat .ow (.dict (Oo ks))))(np:npk δ.sl=true):∃a kv,(vs S)[i]? = some (some (.ref a))/\H a=some (.dT kv)/\DRel K H kv ks/\∀kv',DRel K H kv' ks'->∃S',vs S'=vs S/\Sl S' ⟨δ.sl.set i (.dat .ow (.dict (Oo ks'))),δ.n⟩/\At K H0 X δ.n (S'++T) (upd H a (.dT kv')):=by
 obtain ⟨ent,e2,e3⟩:=Hf hS hi
 have hm:ent∈S:=Aq e2
 obtain ⟨u,x,F⟩:=ent
 have e3':x=.dat .ow (.dict (Oo ks)):=e3
 subst e3'
 obtain ⟨v,hv,rd,_⟩:=hA.ok _ (Av _ hm)
 obtain ⟨a,kv,ks0,rfl,ek,ha,rel,eF⟩:=rd.dict_inv
 obtain rfl:=Qu ek
 have eF':F=[a]:=eF
 subst eF'
 refine ⟨a,kv,by rw[Lq e2]; exact congrArg some hv,ha,rel,λkv' r=>?_⟩
 have hn:=dD hS np
 have h1:=(hA.perm ((Jq e2).append_right T)).writeD (ks':=ks') (kv':=kv') hv (λe he=>?_) r
 ·refine ⟨S.set i ⟨u,.dat .ow (.dict (Oo ks')),[a]⟩,?_,?_,h1.perm ((Oa e2).append_right T).symm⟩
  ·unfold vs
   rw[Ek]
   apply Fq
   intro j
   rw[Iq]
   split
   ·rename_i hij
    subst hij
    rw[Aw,e2]
    split
    ·rfl
    ·rename_i hj
     rw[Ac] at hj
     exact absurd (Al.mp e2).1 hj
   ·rfl
  ·unfold Sl at hS ⊢
   rw[Ek,hS]
 ·rcases Bi.mp he with he | he
  ·exact hn e ((Rn S i).subset he)
  ·exact hT e he
theorem Ro{α:Type}:∀{l:List α} {i:Nat} {x:α},l[i]? = some x->l.set i x=l
 | [],_,_,h=>by simp at h
 | a::l,0,x,h=>by simp at h; subst h; rfl
 | a::l,i+1,x,h=>by
  rw[Nm,Ro (by simpa using h)]
def dputB(i:Nat)(y z:DV)(δ:DS)(D:DEnds):Prop:=match δ.sl[i]?,y,z with
 | some (.dat .ow (.dict X)),.dat _ e,.dat _ k=>npk δ.sl=true/\imm e=true/\∃ks w,X=Oo ks/\k=Ck w/\ks.length<1000000/\D.nx ⟨δ.sl.set i (.dat .ow (.dict (Oo (Qf ks w e)))),δ.n⟩
 | _,_,_=>False
def isDct:Option DV->Bool
 | some (.dat _ (.dict X))=>xZ X
 | _=>false
def j8(i:Nat)(dk de:DE):DB:=λD δ=>de δ λy δ1=>isDct δ1.sl[i]? = true/\dk δ1 λz δ2=>dputB i y z δ2 D
section
variable{X:Cx}{o i e:Expr}{dk de:DE}{apos cpos pos pos':Pos}{n:Nat}
theorem rD{K:PySem.W.Frag}{H0 H:Hp}{Y:Addr->Prop}{S T:List Ent}{δ:DS}(hS:Sl S δ)(hA:At K H0 Y δ.n (S++T) H)(hi:isDct δ.sl[n]? = true):∃a kv,(vs S)[n]? = some (some (.ref a))/\H a=some (.dT kv):=by
 cases q:δ.sl[n]? with
 | none=>rw[q] at hi; cases hi
 | some x =>
  rw[q] at hi
  obtain ⟨ent,e2,e3⟩:=Hf hS q
  obtain ⟨u,y,F⟩:=ent
  have e3':y=x:=e3
  subst e3'
  have hm:(⟨u,y,F⟩ : Ent)∈S:=Aq e2
  match y,hi with
  | .dat m (.dict X),hi =>
   have hX:xZ X=true:=hi
   obtain ⟨v,hv,rd,_⟩:=hA.ok _ (Av _ hm)
   obtain ⟨a,kv,ks,rfl,_,ha,_⟩:=rd.dict_inv
   exact ⟨a,kv,by rw[Lq e2]; exact congrArg some hv,ha⟩
theorem yA(hu:X.A.units+64<cLine)(ho:PE X o (Xy n))(hi:Fb X i dk)(he:Fb X e de)(hs:Lc e (some (.Subscript o i pos')) pos.line X.env=pure false:=by rfl):nM X (.Assign [.Subscript o i pos'] e pos) (j8 n dk de):=by
 refine PS.impD (mD (S5 hu) ho hi he hs) λD σ H h=>?_
 obtain ⟨H0,Y,S,T,δ,P,rfl,hS,hT,hA,hd,k1,k2,k3,k4⟩:=h
 refine ⟨H0,Y,S,T,δ,_,rfl,hS,hA,hd,λy δ1 v F S1 H1 e1 e2 hA1 p1=>?_⟩
 obtain ⟨p1,p2⟩:=p1
 obtain ⟨a,kv,hv,ha⟩:=rD e2 hA1.drop p1
 rw[e1] at hv
 refine ⟨.ref a,hv,H0,Y,S1,⟨some v,y,F⟩::T,δ1,_,e1,e2,hA1,p2,λz δ2 w G S2 H2 e3 e4 hA2 p3=>?_⟩
 unfold dputB at p3
 split at p3
 ·rename_i X0 m1 d m2 k hsl
  obtain ⟨p3,p4,ks,u,rfl,rfl,p5,p6⟩:=p3
  obtain ⟨b,rfl,hb⟩:=Sv (hA2.told mem_mid)
  have r:=hA2.told Ee
  obtain rfl:=r.imm p4
  obtain ⟨a',kv',g1,g2,g3,g4⟩:=gH (ks':=Qf ks u d) e4 hT hA2.drop2 hsl p3
  rw[e3,hv] at g1
  cases g1
  obtain ⟨S3,h1,h2,h3⟩:=g4 (Lj kv' (Jh u) v) (gA u r g3)
  refine ⟨a,_,rfl,yO.t g2 hb (by rw[Pr g3]; exact Cd p5 (nO (n:=1000000) (Ai _))),?_⟩
  rw[<- e3,<- h1]
  exact k1 ⟨_,_⟩ S3 _ h2 h3 p6
 ·exact p3.elim
end
def zT:V->Int
 | .int i=>i
 | _=>0
def yE(H:Hp)(r:Addr):List Int:=match H r with
 | some (.tup xs)=>xs.map zT
 | _=>[]
theorem t9{H:Hp}{r:Addr}{w:List Int}(h:H r=some (.tup (w.map V.int))):yE H r=w:=by
 unfold yE
 rw[h]
 show (w.map V.int).map zT=w
 rw[Bw]
 exact List.map_id' w
section
variable{K:PySem.W.Frag}{H:Hp}
theorem Xm:∀{ws:List (List Int)} {xs:List V} {ds:List Ad} {G:List Addr},RdFs K H xs ds G->ds=ws.map Ck->∃rs:List Addr,xs=rs.map V.ref/\ws=rs.map (yE H)/\G=[]/\(∀r∈rs,H r=some (.tup ((yE H r).map V.int)))/\∀r∈rs,RdF K H (.ref r) (Ck (yE H r)) []
 | [],_,_,_,h,e=>by
  subst e
  cases h
  exact ⟨[],rfl,rfl,rfl,(λ_ z=>nomatch z),(λ_ z=>nomatch z)⟩
 | w::ws,_,_,_,h,e=>by
  cases h with
  | nil=>cases e
  | cons a t =>
   obtain ⟨e1,e2⟩:=Dx e
   obtain ⟨rs,rfl,rfl,rfl,h1,h2⟩:=Xm t e2
   subst e1
   obtain ⟨r,rfl,hr⟩:=Sv a
   rw[cY] at hr
   have ew:=t9 hr
   obtain rfl:=a.imm (show imm (Ck w)=true from Na w)
   refine ⟨r::rs,rfl,by rw[Au,ew],rfl,λx hx=>?_,λx hx=>?_⟩
   ·rcases Ak.mp hx with rfl | hx
    ·rw[ew]; exact hr
    ·exact h1 x hx
   ·rcases Ak.mp hx with rfl | hx
    ·rw[ew]; exact a
    ·exact h2 x hx
theorem Xu:∀{rs:List Addr},(∀r∈rs,RdF K H (.ref r) (Ck (yE H r)) [])->RdFs K H (rs.map V.ref) ((rs.map (yE H)).map Ck) []
 | [],_=>.nil
 | r::rs,h=>RdFs.cons (F:=[]) (G:=[]) (h r (Ab ..)) (Xu λx hx=>h x (Af _ hx))
theorem Wr:∀L:List (List Int),Dr (L.map Ck)=true
 | []=>rfl
 | w::L=>by
  show (imm (Ck w) && Dr (L.map Ck))=true
  rw[Wr L,show imm (Ck w)=true from Na w]; rfl
end
end DL
namespace Nd
open PySem PySem.Spec PyProof.Rows L2
def Vs(h:Heap)(d:Addr)(es:Array Ha)(ep:Nat):Prop:=∃ob,h.get? d=some ob/\ob.ExactDict/\ob.data=.dict es ep
theorem Vs.at{h h':Heap}{d:Addr}{es:Array Ha}{ep:Nat}(x:Vs h d es ep)(k:∀o,h.get? d=some o->h'.get? d=some o):Vs h' d es ep:=let ⟨ob,e,r⟩:=x; ⟨ob,k ob e,r⟩
section
variable{prog:Bo}{w:World}{A:Co}{E:Value->Ag->Prop}{s:Ag}{it d:Addr}{es:Array Ha}{i ep:Nat}
theorem Th{Q:Option Value->Ag->Prop}{x:Ha}(hI:s.heap.IsKeyIter it d i es.size ep)(hE:Vs s.heap d es ep)(hX:es[i]? = some x)(k:∀h',h'.IsKeyIter it d (i+1) es.size ep->Dd it s.heap h'->Q (some x.key) { s with heap:=h' }):wpAny (model prog w) A (callSpecial? (.ref it) (El "__next__")) Q E s:=by
 obtain ⟨oi,gi,ci,di⟩:=id hI
 obtain ⟨ob,gb,xb,db⟩:=id hE
 have tI:=hI.typeIs
 refine Es (name:=El "__next__") tI PySem.F.slot_dict_keyiterator_next (Fm PySem.F.slot_dict_keyiterator_next tI PySem.F.entry_dict_keyiterator_next ?_ (PySem.F.args_dict_keyiterator_next_1 _))
 refine Aa (Aj (Aa (Aa ?_)))
 first | refine Aa (Ic tI (Aj ?_)) | refine Aa (Kl tI (Aj ?_))
 refine Aa (wpAny_fieldsOf gi di ?_)
 simp only[show Qn "dict_keyiterator" = false by decide,Bq,if_false]
 show wpAny _ _ (ite ((Ax d == Hl)=true) _ _) _ _ s
 rw[if_neg (show ¬ (Ax d == Hl)=true from Bm)]
 refine Aa (Aj (Aa (bJ gb db ?_)))
 rw[if_neg (by simp)]
 refine Aa (Aj (Aa (wpAny_dictEpoch gb db ?_)))
 rw[if_neg (by simp)]
 refine Aj ?_
 obtain ⟨hl,ex⟩:=Gf.mp hX
 simp only[show ¬ ((i:Int)<0) from by omega,Ez,if_false,hX]
 refine Aa ?_
 first | refine Aa (Ic tI (Aj ?_)) | refine Aa (Kl tI (Aj ?_))
 refine Aa (wpAny_isOneOf_keyiter tI ?_)
 show wpAny _ _ (bind (setField (.ref it) 1 (Gj ((i:Int)+1))) _) _ _ s
 refine Aa (wpAny_setField gi di (by simp) ?_)
 have nI:(s.heap.update it (Obj.mapFields (·.setIfInBounds 1 (Gj ((i:Int)+1))))).IsKeyIter it d (i+1) es.size ep :=
  ⟨_,Ff _ gi (Obj.isFreed_of_fields (Obj.data_mapFields di _)),(Obj.cls_mapFields ..).trans ci,by rw[Obj.data_mapFields di]; simp [Gj]⟩
 refine Aa (Cz (Aa (wpAny_isOneOf_keyiter (s:={ s with heap:=s.heap.update it (Obj.mapFields (·.setIfInBounds 1 (Gj ((i:Int)+1)))) }) nI.typeIs ?_)))
 show wpAny _ _ (pure x.key) _ _ _
 exact Aj (Aj ⟨_,rfl,k _ nI (Cg ..)⟩)
theorem aC{Q:Option Value->Ag->Prop}(hh:A.handled=none)(hI:s.heap.IsKeyIter it d es.size es.size ep)(hE:Vs s.heap d es ep)(k:∀h' e,Heap.ExtBut it s.heap h'->(∃o,h'.get? e=some o/\o.cls=.type "StopIteration")->E (.ref e) { s with heap:=h' }):wpAny (model prog w) A (callSpecial? (.ref it) (El "__next__")) Q E s:=by
 obtain ⟨oi,gi,ci,di⟩:=id hI
 obtain ⟨ob,gb,xb,db⟩:=id hE
 have tI:=hI.typeIs
 refine Es (name:=El "__next__") tI PySem.F.slot_dict_keyiterator_next (Fm PySem.F.slot_dict_keyiterator_next tI PySem.F.entry_dict_keyiterator_next ?_ (PySem.F.args_dict_keyiterator_next_1 _))
 refine Aa (Aj (Aa (Aa ?_)))
 first | refine Aa (Ic tI (Aj ?_)) | refine Aa (Kl tI (Aj ?_))
 refine Aa (wpAny_fieldsOf gi di ?_)
 simp only[show Qn "dict_keyiterator" = false by decide,Bq,if_false]
 show wpAny _ _ (ite ((Ax d == Hl)=true) _ _) _ _ s
 rw[if_neg (show ¬ (Ax d == Hl)=true from Bm)]
 refine Aa (Aj (Aa (bJ gb db ?_)))
 rw[if_neg (by simp)]
 refine Aa (Aj (Aa (wpAny_dictEpoch gb db ?_)))
 rw[if_neg (by simp)]
 refine Aj ?_
 simp only[show ¬ ((es.size:Int)<0) from by omega,Ez,if_false,iB (Ai es.size)]
 refine Aa ?_
 first | refine Aa (Ic tI (Aj ?_)) | refine Aa (Kl tI (Aj ?_))
 show wpAny _ _ (bind (setField (.ref it) 0 .none) _) _ _ s
 refine Aa (wpAny_setField gi di (by simp) ?_)
 show wpAny _ _ (bind (newExc (.type "StopIteration") []) _) _ _ _
 refine Aa ?_
 simp only[newTuple,newExc]
 refine Aa (Ei ?_ (by size_fits))
 refine Aa (m:=Vo _ _) (wpAny_of_eq (a:=Hl) (by first | rfl | (simp only[Vo]; rfl)) (Ei ?_ (by size_fits)))
 simp only[raiseNew]
 refine Aa (wpAny_handled ?_)
 first | rw[show A.in1.handled=none from hh] | rw[hh]
 refine Aa (Aj (wpAny_throw ?_))
 exact k _ _ (((Cg ..).extBut.push _).push _) ⟨_,Ar _ rfl,rfl⟩
theorem aY{Q:Value->Ag->Prop}(hd:(d == Fd)=false)(hE:Vs s.heap d es ep)(k:Q (.ref s.heap.objs.size) { s with heap:=s.heap.push { cls:=.type "dict_keyiterator",data:=.fields #[.ref d,.int 0 0,.int es.size 0,.int ep 0] } }):wpAny (model prog w) A (pyIter (.ref d)) Q E s:=by
 obtain ⟨ob,gb,xb,db⟩:=id hE
 have tD:s.TypeIs (.ref d) "dict" := ⟨ob,gb,xb.1⟩
 refine wpAny_pyIter_slot tD PySem.F.slot_dict_iter (Fm PySem.F.slot_dict_iter tD PySem.F.entry_dict_iter ?_ (PySem.F.args_dict_iter_1 _))
 unfold Builtin.«dict.__iter__» Builtin.Dict.dictSlotNone
 refine Aa (Aa (Uc tD ?_))
 show wpAny _ _ (pure (.ref d:Value)) _ _ s
 refine Aj ?_
 show wpAny _ _ (bind (Builtin.Dict.showsAll d) _) _ _ s
 unfold Builtin.Dict.showsAll
 rw[if_neg (by rw[hd]; exact Bm)]
 refine Aa (Aj (Aa (bJ gb db (Aa (wpAny_dictEpoch gb db ?_)))))
 refine Aa (Ei (Aj ⟨_,rfl, "dict_keyiterator",_,⟨_,Ar _ rfl,rfl⟩,PySem.F.slot_dict_keyiterator_next.lookup,?_⟩))
 exact k
theorem nX{Q:Option Value->Ag->Prop}{x:Ha}(hI:s.heap.IsKeyIter it d i es.size ep)(hE:Vs s.heap d es ep)(hX:es[i]? = some x)(k:∀h',h'.IsKeyIter it d (i+1) es.size ep->Dd it s.heap h'->Q (some x.key) { s with heap:=h' }):wpAny (model prog w) A (Ju (.ref it)) Q E s:=by
 unfold Ju
 exact Aa (Hh (Th hI hE hX λh' a b=>Aj (k h' a b)))
theorem rR{Q:Option Value->Ag->Prop}(hh:A.handled=none)(hI:s.heap.IsKeyIter it d es.size es.size ep)(hE:Vs s.heap d es ep)(k:∀h',Heap.ExtBut it s.heap h'->Q none { s with heap:=h' }):wpAny (model prog w) A (Ju (.ref it)) Q E s:=by
 unfold Ju
 refine Aa (Hh (aC hh hI hE λh' e x q0_ => ?_))
 obtain ⟨o,ho,hc⟩ := q0_
 exact Aa (Ml (T := "StopIteration") (b:=true) ⟨o,ho,hc⟩ isSubtype_stop (Aj (k h' x)))
end
theorem Zz{prog:Bo}{w:World}{A:Co}(hh:A.handled=none)(it d:Addr)(hne:d≠it)(es:Array Ha)(ep:Nat):Draws prog w A it [it,d] es.size (λi v=>∃x,es[i]? = some x/\v=x.key) (λi h=>h.IsKeyIter it d i es.size ep/\Vs h d es ep) where
 live:=λ_ _ st=>let ⟨o,ho,_⟩:=st.1; ⟨o,ho⟩
 frame:=λ_ _ _ st hk=>⟨st.1.at λo e=>hk it (by simp) o e,Vs.at st.2 λo e=>hk d (by simp) o e⟩
 item:=λi s Q E hi st hQ=>by
  unfold Cy
  refine Aa (Th st.1 st.2 (x:=es[i]) (by simp [hi]) λh' hI hs=>Aj ?_)
  exact hQ _ h' s.toks ⟨_,by simp [hi],rfl⟩ ⟨hI,Vs.at st.2 λo e=>(hs.2 d hne).trans e⟩ hs
 done:=λs Q E st hE=>by
  unfold Cy
  exact Aa (aC hh st.1 st.2 hE)
structure ZApart(z TI TO i1 i2:Addr)(f1 f2:List Addr):Prop where
 tiz:TI≠z
 toz:TO≠z
 z1:i1≠z
 z2:i2≠z
 tito:TI≠TO
 ti1:TI≠i1
 ti2:TI≠i2
 to1:TO≠i1
 to2:TO≠i2
 i12:i1≠i2
 zf1:z∉f1
 zf2:z∉f2
 of1:TO∉f1
 of2:TO∉f2
 if1:i2∉f1
 if2:i1∉f2
section
variable{prog:Bo}{w:World}{A:Co}{E:Value->Ag->Prop}{s:Ag}{z TI TO i1 i2:Addr}{f1 f2:List Addr}{n1 n2 i:Nat}{P1 P2:Nat->Value->Prop}{S1 S2:Nat->Heap->Prop}
theorem Fi{a b:Addr}{f:List Addr}(h:a∉f)(hb:b∈f):b≠a:=λe=>h (e▸hb)
theorem oQ{a b:Value}{Q:Value->Ag->Prop}(D1:Draws prog w A i1 f1 n1 P1 S1)(D2:Draws prog w A i2 f2 n2 P2 S2)(ap:ZApart z TI TO i1 i2 f1 f2)(gz:IsZip s.heap z TI TO .none)(gI:Ep s.heap TI (.ref i1) (.ref i2))(gO:Ep s.heap TO a b)(g1:S1 i s.heap)(g2:S2 i s.heap)(l1:i<n1)(l2:i<n2)(k:∀x y h' tk,P1 i x->P2 i y->IsZip h' z TI TO (Gj s.heap.objs.size)->Ep h' TO x y->S1 (i+1) h'->S2 (i+1) h'->Ep h' s.heap.objs.size x y->h'.objs.size=s.heap.objs.size+1->(∀c o,c≠z->c≠TO->c≠i1->c≠i2->s.heap.get? c=some o->h'.get? c=some o)->Q (.ref s.heap.objs.size) { s with heap:=h',toks:=tk }):wpAny (model prog w) A (Builtin.«zip.__next__» ⟨[.ref z],[]⟩) (λfin s'=>∃v,fin=.done (.ret v)/\Q v s') E s:=by
 obtain ⟨hp,g,d,tk0,os⟩:=s
 show wpAny _ _ (bind (field (.ref z) 2) _) _ _ _
 refine Aa (Fg gz rfl (x:=.bool false) rfl ?_)
 show wpAny _ _ (bind (field (.ref z) 3) _) _ _ _
 refine Aa (Fg gz rfl (x:=.ref TI) rfl (Aa (Fc gI rfl ?_)))
 show wpAny _ _ (bind (Cq (.ref z)) _) _ _ _
 refine Aa ?_
 unfold Cq
 refine Aa (Fg gz rfl (x:=.none) rfl (Aj ?_))
 simp only[if_true]
 refine Aa (Kx (Aa (Fg gz rfl (x:=.ref TO) rfl (Aa (Gr gz (by simp) λh1 gz1 s1=>?_)))))
 replace gz1:IsZip h1 z TI TO .ellipsis:=gz1
 replace s1:Dd z hp h1:=s1
 refine Aa ?_
 simp only[Rk,Sg,Yx,List.zipIdx_nil]
 have g11:S1 i h1:=D1.frame _ _ _ g1 λb hb o q=>(s1.2 b (Fi ap.zf1 hb)).trans q
 have g21:S2 i h1:=D2.frame _ _ _ g2 λb hb o q=>(s1.2 b (Fi ap.zf2 hb)).trans q
 refine Aa (Aa (Yt ?_))
 show wpAny _ _ (bind (Cy (.ref i1)) _) _ _ _
 refine Aa (D1.item i _ _ _ l1 g11 λx h2 tk1 px g12 s2=>Aj ?_)
 replace s2:Dd i1 h1 h2:=s2
 have gO2:Ep h2 TO a b:=(s2.2 TO ap.to1).trans ((s1.2 TO ap.toz).trans gO)
 refine Aa (Fc gO2 rfl (Aa (Vl gO2 λh3 gO3 s3=>?_)))
 replace gO3:Ep h3 TO x b:=gO3
 replace s3:Dd TO h2 h3:=s3
 refine Aa (Lb (Aj ?_))
 have g23:S2 i h3:=D2.frame _ _ _ g21 λb hb o q=>(s3.2 b (Fi ap.of2 hb)).trans ((s2.2 b (Fi ap.if2 hb)).trans q)
 refine Aa (Aa (Yt ?_))
 show wpAny _ _ (bind (Cy (.ref i2)) _) _ _ _
 refine Aa (D2.item i _ _ _ l2 g23 λy h4 tk2 py g24 s4=>Aj ?_)
 replace s4:Dd i2 h3 h4:=s4
 have gO4:Ep h4 TO x b:=(s4.2 TO ap.to2).trans gO3
 refine Aa (Fc gO4 rfl (Aa (Vl gO4 λh5 gO5 s5=>?_)))
 replace gO5:Ep h5 TO x y:=gO5
 replace s5:Dd TO h4 h5:=s5
 refine Aa (Lb (Aj (Aj ?_)))
 refine Aa (Fc gO5 rfl (Aa (Pc ?_)))
 have sz:h5.objs.size=hp.objs.size:=by rw[s5.1,s4.1,s3.1,s2.1,s1.1]
 have gz5:IsZip h5 z TI TO .ellipsis:=(s5.2 z ap.toz.symm).trans ((s4.2 z ap.z2.symm).trans ((s3.2 z ap.toz.symm).trans ((s2.2 z ap.z1.symm).trans gz1)))
 have k5:∀c o,c≠z->c≠TO->c≠i1->c≠i2->hp.get? c=some o->h5.get? c=some o:=λc o c1 c2 c3 c4 e =>
  (s5.2 c c2).trans ((s4.2 c c4).trans ((s3.2 c c2).trans ((s2.2 c c3).trans ((s1.2 c c1).trans e))))
 have g15:S1 (i+1) h5:=D1.frame _ _ _ g12 λb hb o q=>(s5.2 b (Fi ap.of1 hb)).trans ((s4.2 b (Fi ap.if1 hb)).trans ((s3.2 b (Fi ap.of1 hb)).trans q))
 have g25:S2 (i+1) h5:=D2.frame _ _ _ g24 λb hb o q=>(s5.2 b (Fi ap.of2 hb)).trans q
 have zl:z<h5.objs.size:=Ba gz5
 show wpAny _ _ (bind (Np (.ref z) (.ref h5.objs.size)) _) _ _ _
 refine Aa ?_
 unfold Np
 have gz6:IsZip (h5.push { cls:=.type "tuple",data:=.seq #[x,y] }) z TI TO .ellipsis:=Ae _ gz5
 refine Aa (Gr gz6 (by simp) λh7 gz7 s7=>?_)
 replace gz7:IsZip h7 z TI TO (Gj h5.objs.size):=gz7
 refine Gr gz7 (by simp) λh8 gz8 s8=>?_
 replace gz8:IsZip h8 z TI TO (Gj h5.objs.size):=gz8
 have up:∀c o,c≠z->h5.get? c=some o->h8.get? c=some o:=λc o c1 e=>(s8.2 c c1).trans ((s7.2 c c1).trans (Ae _ e))
 have gT:Ep h8 h5.objs.size x y:=(s8.2 _ (Nat.ne_of_gt zl)).trans ((s7.2 _ (Nat.ne_of_gt zl)).trans (Ar _ rfl))
 have z8:h8.objs.size=h5.objs.size+1:=by rw[s8.1,s7.1,Hg]
 rw[sz] at gz8 gT z8
 refine Aj ⟨_,rfl,?_⟩
 show Q (.ref h5.objs.size) _
 rw[sz]
 exact k x y h8 tk2 px py gz8 (up _ _ ap.toz gO5) (D1.frame _ _ _ g15 λb hb o q=>up b o (Fi ap.zf1 hb) q) (D2.frame _ _ _ g25 λb hb o q=>up b o (Fi ap.zf2 hb) q) gT z8 λc o c1 c2 c3 c4 e=>up c o c1 (k5 c o c1 c2 c3 c4 e)
theorem qV{a b:Value}{Q:Fin->Ag->Prop}(D1:Draws prog w A i1 f1 n1 P1 S1)(D2:Draws prog w A i2 f2 n2 P2 S2)(ap:ZApart z TI TO i1 i2 f1 f2)(gz:IsZip s.heap z TI TO .none)(gI:Ep s.heap TI (.ref i1) (.ref i2))(gO:Ep s.heap TO a b)(g1:S1 i s.heap)(g2:S2 i s.heap)(hn:i=n1\/(i<n1/\i=n2))(k:∀h' e tk,(∀c o,c≠z->c≠TO->c≠i1->c≠i2->s.heap.get? c=some o->h'.get? c=some o)->(∃o,h'.get? e=some o/\o.cls=.type "StopIteration")->E (.ref e) { s with heap:=h',toks:=tk }):wpAny (model prog w) A (Builtin.«zip.__next__» ⟨[.ref z],[]⟩) Q E s:=by
 obtain ⟨hp,g,d,tk0,os⟩:=s
 show wpAny _ _ (bind (field (.ref z) 2) _) _ _ _
 refine Aa (Fg gz rfl (x:=.bool false) rfl ?_)
 show wpAny _ _ (bind (field (.ref z) 3) _) _ _ _
 refine Aa (Fg gz rfl (x:=.ref TI) rfl (Aa (Fc gI rfl ?_)))
 show wpAny _ _ (bind (Cq (.ref z)) _) _ _ _
 refine Aa ?_
 unfold Cq
 refine Aa (Fg gz rfl (x:=.none) rfl (Aj ?_))
 simp only[if_true]
 refine Aa (Kx (Aa (Fg gz rfl (x:=.ref TO) rfl (Aa (Gr gz (by simp) λh1 gz1 s1=>?_)))))
 replace gz1:IsZip h1 z TI TO .ellipsis:=gz1
 replace s1:Dd z hp h1:=s1
 refine Aa ?_
 simp only[Rk,Sg,Yx,List.zipIdx_nil]
 have g11:S1 i h1:=D1.frame _ _ _ g1 λb hb o q=>(s1.2 b (Fi ap.zf1 hb)).trans q
 have g21:S2 i h1:=D2.frame _ _ _ g2 λb hb o q=>(s1.2 b (Fi ap.zf2 hb)).trans q
 refine Aa (Aa (Yt ?_))
 show wpAny _ _ (bind (Cy (.ref i1)) _) _ _ _
 rcases hn with rfl | ⟨l1,rfl⟩
 ·refine Aa (D1.done _ _ _ g11 λh2 e x2 he=>?_)
  obtain ⟨oe,ge,ce⟩:=he
  replace x2:Heap.ExtBut i1 h1 h2:=x2
  have gz2:IsZip h2 z TI TO .ellipsis:=x2 _ _ ap.z1.symm gz1
  have ez:e≠z:=λx=>by subst x; rw[gz2] at ge; cases ge; simp at ce
  exact Gr gz2 (by simp) λh3 _ s3=>k h3 e _ (λc o c1 _ c3 _ x=>(s3.2 c c1).trans (x2 _ _ c3 ((s1.2 c c1).trans x))) ⟨oe,(s3.2 e ez).trans ge,ce⟩
 ·refine Aa (D1.item _ _ _ _ l1 g11 λx h2 tk1 px g12 s2=>Aj ?_)
  replace s2:Dd i1 h1 h2:=s2
  have gO2:Ep h2 TO a b:=(s2.2 TO ap.to1).trans ((s1.2 TO ap.toz).trans gO)
  refine Aa (Fc gO2 rfl (Aa (Vl gO2 λh3 gO3 s3=>?_)))
  replace s3:Dd TO h2 h3:=s3
  refine Aa (Lb (Aj (Aa (Aa (Yt ?_)))))
  have g23:S2 i h3:=D2.frame _ _ _ g21 λb hb o q=>(s3.2 b (Fi ap.of2 hb)).trans ((s2.2 b (Fi ap.if2 hb)).trans q)
  show wpAny _ _ (bind (Cy (.ref i2)) _) _ _ _
  refine Aa (D2.done _ _ _ g23 λh4 e x4 he=>?_)
  obtain ⟨oe,ge,ce⟩:=he
  replace x4:Heap.ExtBut i2 h3 h4:=x4
  have gz4:IsZip h4 z TI TO .ellipsis:=x4 _ _ ap.z2.symm ((s3.2 z ap.toz.symm).trans ((s2.2 z ap.z1.symm).trans gz1))
  have ez:e≠z:=λx=>by subst x; rw[gz4] at ge; cases ge; simp at ce
  exact Gr gz4 (by simp) λh5 _ s5=>k h5 e _ (λc o c1 c2 c3 c4 x=>(s5.2 c c1).trans (x4 _ _ c4 ((s3.2 c c2).trans ((s2.2 c c3).trans ((s1.2 c c1).trans x))))) ⟨oe,(s5.2 e ez).trans ge,ce⟩
theorem nH{a b:Value}{Q:Option Value->Ag->Prop}(D1:Draws prog w A.in1 i1 f1 n1 P1 S1)(D2:Draws prog w A.in1 i2 f2 n2 P2 S2)(ap:ZApart z TI TO i1 i2 f1 f2)(gz:IsZip s.heap z TI TO .none)(gI:Ep s.heap TI (.ref i1) (.ref i2))(gO:Ep s.heap TO a b)(g1:S1 i s.heap)(g2:S2 i s.heap)(l1:i<n1)(l2:i<n2)(k:∀x y h' tk,P1 i x->P2 i y->IsZip h' z TI TO (Gj s.heap.objs.size)->Ep h' TO x y->S1 (i+1) h'->S2 (i+1) h'->Ep h' s.heap.objs.size x y->h'.objs.size=s.heap.objs.size+1->(∀c o,c≠z->c≠TO->c≠i1->c≠i2->s.heap.get? c=some o->h'.get? c=some o)->Q (some (.ref s.heap.objs.size)) { s with heap:=h',toks:=tk }):wpAny (model prog w) A (Ju (.ref z)) Q E s:=by
 have tz:s.TypeIs (.ref z) "zip" := ⟨_,gz,rfl⟩
 unfold Ju
 refine Aa (Hh (Es (name:=El "__next__") tz PySem.F.slot_zip_next (Fm PySem.F.slot_zip_next tz PySem.F.entry_zip_next ?_ (PySem.F.args_zip_next_1 _))))
 exact oQ D1 D2 ap gz gI gO g1 g2 l1 l2 λx y h' tk p1 p2 a1 a2 a3 a4 a5 a6 a7=>Aj (k x y h' tk p1 p2 a1 a2 a3 a4 a5 a6 a7)
theorem pD{a b:Value}{Q:Option Value->Ag->Prop}(D1:Draws prog w A.in1 i1 f1 n1 P1 S1)(D2:Draws prog w A.in1 i2 f2 n2 P2 S2)(ap:ZApart z TI TO i1 i2 f1 f2)(gz:IsZip s.heap z TI TO .none)(gI:Ep s.heap TI (.ref i1) (.ref i2))(gO:Ep s.heap TO a b)(g1:S1 i s.heap)(g2:S2 i s.heap)(hn:i=n1\/(i<n1/\i=n2))(k:∀h' tk,(∀c o,c≠z->c≠TO->c≠i1->c≠i2->s.heap.get? c=some o->h'.get? c=some o)->Q none { s with heap:=h',toks:=tk }):wpAny (model prog w) A (Ju (.ref z)) Q E s:=by
 have tz:s.TypeIs (.ref z) "zip" := ⟨_,gz,rfl⟩
 unfold Ju
 refine Aa (Hh (Es (name:=El "__next__") tz PySem.F.slot_zip_next (Fm PySem.F.slot_zip_next tz PySem.F.entry_zip_next ?_ (PySem.F.args_zip_next_1 _))))
 refine qV D1 D2 ap gz gI gO g1 g2 hn λh' e tk x q0_ => ?_
 obtain ⟨o,ho,hc⟩ := q0_
 exact Aa (Ml (T := "StopIteration") (b:=true) ⟨o,ho,hc⟩ isSubtype_stop (Aj (k h' tk x)))
end
abbrev L1(h:Heap)(d:Addr)(n ep:Nat):Heap:=h.push { cls:=.type "dict_keyiterator",data:=.fields #[.ref d,.int 0 0,.int n 0,.int ep 0] }
abbrev V2(h:Heap)(d:Addr)(n ep:Nat)(l:Addr):Heap:=(L1 h d n ep).push { cls:=.type "list_iterator",data:=.fields #[.ref l,.int 0 0] }
abbrev V3(h:Heap)(d:Addr)(n ep:Nat)(l:Addr):Heap:=(V2 h d n ep l).push { cls:=.type "tuple",data:=.seq #[.ref h.objs.size,.ref (L1 h d n ep).objs.size] }
abbrev V4(h:Heap)(d:Addr)(n ep:Nat)(l:Addr):Heap:=(V3 h d n ep l).push { cls:=.type "tuple",data:=.seq #[.none,.none] }
abbrev K4(h:Heap)(d:Addr)(n ep:Nat)(l:Addr):Heap:=(V4 h d n ep l).push { cls:=.type "zip",data:=.fields #[.none,.bool false,.bool false,.ref (V2 h d n ep l).objs.size,.ref (V3 h d n ep l).objs.size] }
theorem gE(d l:Addr)(es:Array Ha)(ep:Nat)(ys:Array Value)(hd:(d == Fd)=false):Meets (Builtin.«zip.__new__» ⟨[.type "zip",.ref d,.ref l],[]⟩) (λ_ R s=>Vs s.heap d es ep/\s.heap.IsList l ys/\R (.ok (.ret (.ref (V4 s.heap d es.size ep l).objs.size))) { s with heap:=K4 s.heap d es.size ep l }) :=
 .of_wp λprog w A R s h=>by
  obtain ⟨hp,g,dd,tk,os⟩:=s
  obtain ⟨hE,hL,q⟩:=h
  have hsub:=sub_zip
  have h1:Vs (Shared.heap ⟨hp,g,dd,tk,os⟩) d es ep:=hE
  have h2:Heap.IsList (Shared.heap ⟨L1 hp d es.size ep,g,dd,tk,os⟩) l ys:=Heap.IsList.push hL _
  wp_walk using aY hd h1,bI h2
  exact ⟨_,rfl,q⟩
section
variable{prog:Bo}{w:World}{A:Co}{E:Value->Ag->Prop}{s:Ag}
theorem iE{d l:Addr}{es:Array Ha}{ep:Nat}{ys:Array Value}{Q:Value->Ag->Prop}(hd:(d == Fd)=false)(hE:Vs s.heap d es ep)(hL:s.heap.IsList l ys)(k:∀h',IsZip h' (s.heap.objs.size+4) (s.heap.objs.size+2) (s.heap.objs.size+3) .none->Ep h' (s.heap.objs.size+2) (.ref s.heap.objs.size) (.ref (s.heap.objs.size+1))->Ep h' (s.heap.objs.size+3) .none .none->h'.IsKeyIter s.heap.objs.size d 0 es.size ep->h'.IsListIter (s.heap.objs.size+1) l 0->(∀c o,s.heap.get? c=some o->h'.get? c=some o)->Q (.ref (s.heap.objs.size+4)) { s with heap:=h' }):wpAny (model prog w) A (call (.type "zip") [.ref d,.ref l]) Q E s:=by
 refine callType_new PySem.F.called_zip (by decide) (PySem.F.typeCall_zip_2 _ _) (PySem.F.newCall_zip_2 _ _) (λobj=>PySem.F.args_object_init_3 obj _ _) PySem.F.entry_zip_new (gE d l es ep ys hd) ⟨hE,hL,?_⟩
 have e1:(L1 s.heap d es.size ep).objs.size=s.heap.objs.size+1:=Hg ..
 have e2:(V2 s.heap d es.size ep l).objs.size=s.heap.objs.size+2:=by rw[Hg,e1]
 have e3:(V3 s.heap d es.size ep l).objs.size=s.heap.objs.size+3:=by rw[Hg,e2]
 have e4:(V4 s.heap d es.size ep l).objs.size=s.heap.objs.size+4:=by rw[Hg,e3]
 have p1:∀{h:Heap} {a:Addr} {u:Obj} (o:Obj),h.get? a=some u->(h.push o).get? a=some u:=λo e=>Ae _ e
 have g5:(K4 s.heap d es.size ep l).get? (V4 s.heap d es.size ep l).objs.size=some _:=Ar _ rfl
 have g4:(K4 s.heap d es.size ep l).get? (V3 s.heap d es.size ep l).objs.size=some _:=p1 _ (Ar _ rfl)
 have g3:(K4 s.heap d es.size ep l).get? (V2 s.heap d es.size ep l).objs.size=some _:=p1 _ (p1 _ (Ar _ rfl))
 have g2:(K4 s.heap d es.size ep l).get? (L1 s.heap d es.size ep).objs.size=some _:=p1 _ (p1 _ (p1 _ (Ar _ rfl)))
 have g1:(K4 s.heap d es.size ep l).get? s.heap.objs.size=some _:=p1 _ (p1 _ (p1 _ (p1 _ (Ar _ rfl))))
 show _/\_
 rw[e2,e3,e4] at g5
 rw[e1,e2] at g3
 rw[e3] at g4
 rw[e1] at g2
 rw[e4]
 exact ⟨⟨_,g5,rfl⟩,k _ g5 g3 g4 ⟨_,g1,rfl,rfl⟩ ⟨_,g2,rfl,rfl⟩ λc o x=>p1 _ (p1 _ (p1 _ (p1 _ (p1 _ x))))⟩
end
theorem Uk{P:Bo}{w:World}{H:Hp}{h:Heap}{a:Addr}{kvs:List (List Gn×V)}(ok:Ss P w H h)(e:H a=some (.dT kvs)):∃(es:Array Ha),(a == Fd)=false/\Vs h a es kvs.length/\es.size=kvs.length/\∀(i:Nat) (x:Ha),es[i]? = some x->∃k b v,kvs[i]? = some (k,v)/\x.key=.ref b/\H b=some (.tup (k.map kV))/\k.length<=Ap:=by
 obtain ⟨_,hd,xs,rel,o,es,ep,h1,h2,h3,h4,_,hep⟩:=(show Gd P w H h a (.dT kvs) from ok a _ e)
 have hl:es.size=kvs.length:=by
  have:=congrArg Fl h4
  rw[Ac,<- Paired.length rel] at this
  simpa using this
 refine ⟨es,hd,⟨o,h1,h2,by rw[h3,hep,hl]⟩,hl,λi x hx=>?_⟩
 have hx':es.toList[i]? = some x:=by rw[Le]; exact hx
 rw[h4,Aw] at hx'
 cases q:xs[i]? with
 | none=>rw[q] at hx'; cases hx'
 | some y =>
  rw[q] at hx'
  cases hx'
  have go:∀{kvs:List (List Gn×V)} {xs:List (List Gn×Addr×Value)} {i:Nat},Paired (λ(p:List Gn×V) (q:List Gn×Addr×Value)=>p.1=q.1/\H q.2.1=some (.tup (p.1.map kV))/\RelV p.2 q.2.2) kvs xs->xs[i]? = some y->∃p,kvs[i]? = some p/\H y.2.1=some (.tup (p.1.map kV)):=by
   intro kvs xs i r
   induction r generalizing i with
   | nil=>intro z; simp at z
   | cons hp _ ih =>
    intro z
    cases i with
    | zero=>simp at z; subst z; exact ⟨_,rfl,hp.2.1⟩
    | succ j=>exact ih (by simpa using z)
  obtain ⟨p,hp1,hp2⟩:=go rel q
  refine ⟨p.1,y.2.1,p.2,hp1,rfl,hp2,?_⟩
  have:=(show Gd P w H h y.2.1 (.tup (p.1.map kV)) from ok _ _ hp2).1
  rwa [Ac] at this
def R3(K:PySem.W.Frag)(a b:Addr)(n:Nat):It :=
  ⟨λi H=>∃kv ys y,H a=some (.dT kv)/\kv.length=n/\Kq K H b ys/\i<n/\ys[i]? = some y,
   λi H x H'=>∃p t k v u,x=.ref p/\H p=none/\H'=upd H p (.tup [.ref t,u])/\(∀kv,H a=some (.dT kv)->kv[i]? = some (k,v))/\H t=some (.tup (k.map kV))/\k.length<=Ap/\∀ys,Kq K H b ys->ys[i]? = some u,
   λi H=>∃kv ys,H a=some (.dT kv)/\kv.length=n/\Kq K H b ys/\(i=n\/(i<n/\i=ys.length))⟩
def W1(a:Addr)(n:Nat):It :=
  ⟨λi H=>∃kv,H a=some (.dT kv)/\kv.length=n/\i<n,
   λi H x H'=>∃t k v,x=.ref t/\H'=H/\(∀kv,H a=some (.dT kv)->kv[i]? = some (k,v))/\H t=some (.tup (k.map kV))/\k.length<=Ap,
   λi H=>∃kv,H a=some (.dT kv)/\kv.length=n/\i=n⟩
theorem mY{P:Bo}{w:World}{K:PySem.W.Frag}{elts:List Expr}{k:Nat}{pos:Pos}{n:Nat}(a b z TI TO i1 i2:Addr)(ap:ZApart z TI TO i1 i2 [i1,a] [i2,b])(na:a≠i1)(nb:b≠i2):Turn P w K (.Tuple elts k pos) (R3 K a b n) [z,TI,TO,i1,i2] z (λi h=>IsZip h z TI TO .none/\Ep h TI (.ref i1) (.ref i2)/\(∃u v,Ep h TO u v)/\h.IsKeyIter i1 a i n n/\h.IsListIter i2 b i) where
 mem:=Ab
 obj:=λi h st c hc=>by
  obtain ⟨hz,hTI,⟨u,v,hTO⟩,⟨o1,e1,c1,d1⟩,⟨o2,e2,c2,d2⟩⟩:=st
  simp only[Ak,Az,or_false] at hc
  rcases hc with rfl | rfl | rfl | rfl | rfl
  ·exact ⟨_,hz,λv z=>by cases z⟩
  ·exact ⟨_,hTI,λv z=>by cases z⟩
  ·exact ⟨_,hTO,λv z=>by cases z⟩
  ·exact ⟨o1,e1,λv z=>by rw[d1] at z; cases z⟩
  ·exact ⟨o2,e2,λv z=>by rw[d2] at z; cases z⟩
 keep:=λi h h' st kp=>by
  obtain ⟨hz,hTI,⟨u,v,hTO⟩,h1,h2⟩:=st
  exact ⟨kp z (by simp) _ hz,kp TI (by simp) _ hTI,⟨u,v,kp TO (by simp) _ hTO⟩,h1.at λo q=>kp i1 (by simp) o q,h2.at λo q=>kp i2 (by simp) o q⟩
 item:=by
  intro X hP hw hK hc i pins s σ H E I hf st hg
  subst hP hw hK
  obtain ⟨kv,ys,y,ha,rfl,hq2,hx,hy⟩:=hg
  obtain ⟨es,hd,hE,hes,hent⟩:=Uk I.hok ha
  obtain ⟨its2,rv2,p2,hz2⟩:=I.list hq2
  obtain ⟨hz,hTI,⟨o1,o2,hTO⟩,hi1,hi2⟩:=st
  have hh:X.A.in1.handled=none:=I.ok.hd hc
  have D1:=Zz (prog:=X.prog) (w:=X.w) (A:=X.A.in1) hh i1 a na es es.size
  have D2:=Draws.list (prog:=X.prog) (w:=X.w) (A:=X.A.in1) hh i2 b nb its2.toArray
  have hl2:=rv2.length
  have ly:i<its2.length:=by
   have:=(Al.mp hy).1
   omega
  have zl:z<s.heap.objs.size:=Ba hz
  have TIl:TI<s.heap.objs.size:=Ba hTI
  have TOl:TO<s.heap.objs.size:=Ba hTO
  have i1l:i1<s.heap.objs.size:=by obtain ⟨_,q,_⟩:=hi1; exact Ba q
  have i2l:i2<s.heap.objs.size:=by obtain ⟨_,q,_⟩:=hi2; exact Ba q
  refine nH D1 D2 ap hz hTI hTO ⟨by rw[hes]; exact hi1,by rw[hes]; exact hE⟩ ⟨hi2,p2.isList⟩ (by omega) (by simpa using ly) λu1 u2 h1 tk q1 q2 a1 a2 a3 a4 a5 a6 hk=>⟨_,rfl,wpAny_letOwnedTupleGo_zip (s:={ s with heap:=h1,toks:=tk }) a1 λh2 he2 hs2=>?_⟩
  have hs2':Dd z h1 h2:=hs2
  obtain ⟨x1,ex1,rfl⟩:=q1
  obtain ⟨kk,bb,vv,ek,eb,hb,hkl⟩:=hent i x1 ex1
  rw[eb] at a2 a5
  have q2':its2[i]? = some u2:=by simpa using q2
  obtain ⟨u2',hu2,ru2⟩:=rv2.get hy
  rw[q2'] at hu2
  cases hu2
  have I1:Inv X pins σ (upd H s.heap.objs.size (.tup [.ref bb,y])) { s with heap:=s.heap.push { cls:=.type "tuple",data:=.seq #[.ref bb,u2] } } :=
   I.laid (t':=s.toks) (λb o q=>Ae _ q) (Ai _) ⟨by show 2<=Ap; decide,[.ref bb,u2],.cons rfl (.cons ru2 .nil),_,Ar _ rfl,rfl,0,rfl⟩
  have nT:∀c∈[z,TI,TO,i1,i2],c≠s.heap.objs.size:=λc hc=>by
   simp only[Ak,Az,or_false] at hc
   rcases hc with rfl | rfl | rfl | rfl | rfl <;> exact Br (by assumption)
  have fr:∀c∈[z,TI,TO,i1,i2],(upd H s.heap.objs.size (.tup [.ref bb,y])) c=none:=λc hc=>by rw[Cn (nT c hc)]; exact (hf c hc).1
  refine ⟨.ref s.heap.objs.size,_,Lx (fp:=[z,TI,TO,i1,i2]) (s:={ s with heap:=s.heap.push { cls:=.type "tuple",data:=.seq #[.ref bb,u2] } }) (h':=h2) (t':=tk) I1 (λc o hc q=>?_) (λc hc=>⟨fr c hc,(hf c hc).2⟩),rfl,⟨_,bb,kk,vv,y,rfl,I.hok.fresh (Ai _),rfl,(λkv' h'=>by rw[ha] at h'; cases h'; exact ek),hb,hkl,λzs hzs=>by rw[I.list_inj hzs hq2]; exact hy⟩,⟨he2,?_,⟨.ref bb,u2,?_⟩,?_,?_⟩,fr⟩
  ·simp only[Ak,Az,or_false,not_or] at hc
   refine (hs2'.2 c hc.1).trans ?_
   by_cases hbT:c=s.heap.objs.size
   ·subst hbT
    have q':=(Ar s.heap (o:={ cls:=.type "tuple",data:=.seq #[.ref bb,u2] }) rfl).symm.trans q
    rw[show h1.get? s.heap.objs.size=_ from a5]
    exact q'
   ·refine hk c o hc.1 hc.2.2.1 hc.2.2.2.1 hc.2.2.2.2 ?_
    have q0:(s.heap.push { cls:=.type "tuple",data:=.seq #[.ref bb,u2] }).get? c=some o:=q
    rcases Heap.get?_push_cases q0 with zz | zz
    ·exact absurd zz.1 hbT
    ·exact zz
  ·exact (hs2'.2 TI ap.tiz).trans (hk TI _ ap.tiz ap.tito ap.ti1 ap.ti2 hTI)
  ·exact (hs2'.2 TO ap.toz).trans a2
  ·rw[hes] at a3
   exact a3.1.at λo q=>(hs2'.2 i1 ap.z1).trans q
  ·exact a4.1.at λo q=>(hs2'.2 i2 ap.z2).trans q
 done:=by
  intro X hP hw hK hc i pins s σ H E I hf st hg
  subst hP hw hK
  obtain ⟨kv,ys,ha,rfl,hq2,hx⟩:=hg
  obtain ⟨es,hd,hE,hes,hent⟩:=Uk I.hok ha
  obtain ⟨its2,rv2,p2,hz2⟩:=I.list hq2
  obtain ⟨hz,hTI,⟨o1,o2,hTO⟩,hi1,hi2⟩:=st
  have hh:X.A.in1.handled=none:=I.ok.hd hc
  have D1:=Zz (prog:=X.prog) (w:=X.w) (A:=X.A.in1) hh i1 a na es es.size
  have D2:=Draws.list (prog:=X.prog) (w:=X.w) (A:=X.A.in1) hh i2 b nb its2.toArray
  have hl2:=rv2.length
  refine pD D1 D2 ap hz hTI hTO ⟨by rw[hes]; exact hi1,by rw[hes]; exact hE⟩ ⟨hi2,p2.isList⟩ ?_ λh1 tk hk=>⟨rfl,Lx (fp:=[z,TI,TO,i1,i2]) (t':=tk) I (λc o hc q=>?_) hf⟩
  ·rw[hes,Am]
   omega
  ·simp only[Ak,Az,or_false,not_or] at hc
   exact hk c o hc.1 hc.2.2.1 hc.2.2.2.1 hc.2.2.2.2 q
 self:=λ_ _ _ _ _ st h=>dW st.1 h
theorem p8(I a b:Nat)(h1:a<I)(h2:b<I):ZApart (I+4) (I+2) (I+3) I (I+1) [I,a] [I+1,b]:=by
 constructor <;> (first | (intro e; have e':(_:Nat)=_:=e; omega) | (intro e; simp only[Ak,Az,or_false] at e; rcases e with e | e <;> (have e':(_:Nat)=_:=e; omega)))
theorem oA{P:Bo}{w:World}{K:PySem.W.Frag}{tg:Expr}{n:Nat}(a it:Addr)(na:a≠it):Turn P w K tg (W1 a n) [it] it (λi h=>h.IsKeyIter it a i n n) where
 mem:=Ab
 obj:=λi h st c hc=>by
  obtain ⟨o1,e1,c1,d1⟩:=st
  rw[Ah.mp hc]
  exact ⟨o1,e1,λv z=>by rw[d1] at z; cases z⟩
 keep:=λi h h' st kp=>st.at λo q=>kp it (by simp) o q
 item:=by
  intro X hP hw hK hc i pins s σ H E I hf st hg
  subst hP hw hK
  obtain ⟨kv,ha,rfl,hx⟩:=hg
  obtain ⟨es,hd,hE,hes,hent⟩:=Uk I.hok ha
  have hi:i<es.size:=by omega
  refine nX (es:=es) (by rw[hes]; exact st) (by exact hE) (x:=es[i]) (by simp [hi]) λh1 hI hs=>⟨_,rfl,?_⟩
  rw[hes] at hI
  obtain ⟨o1,e1,c1,d1⟩:=id hI
  refine mI e1 c1 d1 (by decide) ?_
  obtain ⟨kk,bb,vv,ek,eb,hb,hkl⟩:=hent i es[i] (by simp [hi])
  have hs':Dd it s.heap h1:=hs
  exact ⟨.ref bb,H,Lx (fp:=[it]) (t':=s.toks) I (λc o hc q=>(hs'.2 c λz=>hc (by simp [z])).trans q) hf,eb,⟨bb,kk,vv,rfl,rfl,λkv' h'=>by rw[ha] at h'; cases h'; exact ek,hb,hkl⟩,hI,λc hc=>(hf c hc).1⟩
 done:=by
  intro X hP hw hK hc i pins s σ H E I hf st hg
  subst hP hw hK
  obtain ⟨kv,ha,rfl,rfl⟩:=hg
  obtain ⟨es,hd,hE,hes,hent⟩:=Uk I.hok ha
  refine rR (es:=es) (I.ok.hd hc) (by rw[hes]; exact st) hE λh1 hx=>⟨rfl,Lx (fp:=[it]) (t':=s.toks) I (λc o hc q=>hx c o (λz=>hc (by simp [z])) q) hf⟩
 self:=λ_ _ _ _ _ st h=>wpAny_pyIter_keyiter st h
section
variable{X:Cx}
def N0(K:PySem.W.Frag)(ta:TA):TI:=λσ H R=>ta σ H λvs H1=>∃a b kv,vs=[.ref a,.ref b]/\H1 a=some (.dT kv)/\(∃ys,Kq K H1 b ys)/\R (R3 K a b kv.length) H1
theorem V8{elts:List Expr}{k:Nat}{tp:Pos}{a b:Expr}{ta:TA}{p pos:Pos}(hg:Gl X "zip")(hm:X.mg "zip" = none)(ha:PA X [a,b] ta)(hs:Bp [a,b] X.env=(false,eval a X.env)::Bp [b] X.env:=by rfl)(hp:(Hi pos (Bp [b] X.env)).any (·.1)=false:=by rfl):PI X (.Tuple elts k tp) (.Call (.Name "zip" p) [a,b] [] pos) (N0 X.K ta):=by
 intro pins s σ H R I h
 refine Call_ (Ll I hg hm (u:=.type "zip") (by decide +kernel) (Ef (Fu (ha pos pins s σ H _ I h) λus s1 ⟨vs,H1,I1,r1,q1⟩=>?_) hs hp))
 obtain ⟨l1,l2,kv,e,hq1,⟨ys,hq2⟩,q⟩:=q1
 subst e
 obtain ⟨u1,u2,rfl,ru1,ru2⟩:=vals2 r1
 cases ru1
 cases ru2
 obtain ⟨es,hd,hE,hes,hent⟩:=Uk I1.hok hq1
 obtain ⟨its2,rv2,pl2,hz2⟩:=I1.list hq2
 have hlt1:l1<s1.heap.objs.size:=let ⟨o,q,_⟩:=hE; Ba q
 have hlt2:l2<s1.heap.objs.size:=let ⟨o,q,_⟩:=pl2.isList; Ba q
 refine iE hd hE pl2.isList λh2 hz hTI hTO hi1 hi2 hk=>dW hz ?_
 have fr1:∀n,Lk X pins H1 (s1.heap.objs.size+n):=λn=>I1.fpOk (Jm _ _) (I1.hok.fresh (Jm _ _))
 have fr:∀c∈[s1.heap.objs.size+4,s1.heap.objs.size+2,s1.heap.objs.size+3,s1.heap.objs.size,s1.heap.objs.size+1],Lk X pins H1 c:=λc hc=>by
  simp only[Ak,Az,or_false] at hc
  rcases hc with rfl | rfl | rfl | rfl | rfl
  ·exact fr1 4
  ·exact fr1 2
  ·exact fr1 3
  ·exact fr1 0
  ·exact fr1 1
 rw[hes] at hi1
 exact ⟨s1.heap.objs.size+4,_,_,_,H1,rfl,I1.kept (t':=s1.toks) hk,mY l1 l2 _ _ _ _ _ (p8 _ _ _ hlt1 hlt2) (Br hlt1) (Br (Wo hlt2)),⟨hz,hTI,⟨_,_,hTO⟩,hi1,hi2⟩,fr,q⟩
def L6(te:TE):TI:=λσ H R=>te σ H λv H1=>∃a kv,v=.ref a/\H1 a=some (.dT kv)/\R (W1 a kv.length) H1
theorem xB{tg e:Expr}{te:TE}(he:PE X e te):PI X tg e (L6 te):=by
 intro pins s σ H R I h
 refine Fu (he pins s σ H _ I h) λu s1 q0_ => ?_
 obtain ⟨v,H1,I1,rv,a,kv,ev,ha,q⟩ := q0_
 subst ev
 cases (show u=Ax a from rv)
 obtain ⟨es,hd,hE,hes,hent⟩:=Uk I1.hok ha
 have hlt:a<s1.heap.objs.size:=let ⟨o,q,_⟩:=hE; Ba q
 refine aY hd hE ?_
 refine ⟨s1.heap.objs.size,_,_,_,H1,rfl,I1.kept (t':=s1.toks) (λb u q=>Ae _ q),oA a _ (Br hlt),⟨_,Ar _ rfl,rfl,by rw[hes]; rfl⟩,λc hc=>?_,q⟩
 rw[Ah.mp hc]
 exact I1.fpOk (Ai _) (I1.hok.fresh (Ai _))
end
end Nd
namespace DL
open PySem PySem.Spec PyProof.Rows L2 Nd
section
variable{K:PySem.W.Frag}
theorem C8{H:Hp}{kv:List (List Gn×V)}{ks:List (List Int×Ad)}{i:Nat}{k:List Gn}{v:V}(r:DRel K H kv ks)(h:kv[i]? = some (k,v)):∃w d,ks[i]? = some (w,d)/\k=Jh w:=by
 have e:=congrArg (λl=>l[i]?) r.key
 simp only[Aw,h,Option.map_some] at e
 cases q:ks[i]? with
 | none=>rw[q] at e; cases e
 | some p=>rw[q] at e; exact ⟨p.1,p.2,rfl,Bk e⟩
theorem yF{H:Hp}{t:Addr}{w:List Int}(h:H t=some (.tup ((Jh w).map kV)))(hl:(Jh w).length<=Ap):RdF K H (.ref t) (Ck w) []:=by
 rw[cY] at h
 refine .tup h ?_ (RdFs.ints w)
 unfold Jh at hl
 rw[Ac] at hl ⊢
 exact hl
end
def sX(ks:List (List Int×Ad)):List (List Gn×Ad):=ks.map λp=>(Jh p.1,p.2)
section
variable{K:PySem.W.Frag}{H0 H H':Hp}{X:Addr->Prop}{n:Nat}{E S T:List Ent}
theorem sY{kv:List (List Gn×V)}{ks:List (List Int×Ad)}(h1:kv.map (·.1)=(sX ks).map (·.1))(h2:RdFs K H (kv.map (·.2)) ((sX ks).map (·.2)) []):DRel K H kv ks:=by
 unfold sX at h1 h2
 rw[Bw] at h1 h2
 exact ⟨h1,h2⟩
theorem F7{kv:List (List Gn×V)}{ks:List (List Int×Ad)}(r:DRel K H kv ks):kv.map (·.1)=(sX ks).map (·.1)/\RdFs K H (kv.map (·.2)) ((sX ks).map (·.2)) []:=by
 unfold sX
 rw[Bw,Bw]
 exact ⟨r.key,r.val⟩
theorem At.dNew(h:At K H0 X n E H){D:Addr}(hD:H D=Nr):At K H0 X n (⟨some (.ref D),.dT (sX []),[D]⟩::E) (upd H D (.dT [])):=by
 have s1:=Di hD (.dT [])
 refine (h.grow (n':=n) s1 (Ai _)).push ⟨D,[],rfl,rfl,Cr,rfl,.nil⟩ (λf hf=>?_) λa ha=>?_
 ·have nf:=h.free hD f hf
  refine ⟨λ_ a ha z=>?_,λ_ a ha z=>?_⟩
  ·rw[Ah.mp ha] at z
   exact nf z
  ·rw[Ah.mp z] at ha
   exact nf (Fh _ _ ha)
 ·rw[Ah.mp ha]
  exact .inl (h.new0 hD)
theorem At.dPut{D:Addr}{ks:List (List Int×Ad)}{w:List Int}{v:V}{e:Ad}(h:At K H0 X n (⟨some (.ref D),.dT (sX ks),[D]⟩::E) H)(r:RdF K H v e []):∃kv,H D=some (.dT kv)/\kv.length=ks.length/\At K H0 X n (⟨some (.ref D),.dT (sX (Qf ks w e)),[D]⟩::E) (upd H D (.dT (Lj kv (Jh w) v))):=by
 obtain ⟨a,kv,e1,e0,ha,h1,h2⟩:=h.ok _ Ab
 have e1':some (V.ref D)=some (V.ref a):=e1
 cases e1'
 have rel:=sY h1 h2
 have hs:=Bd.mp h.sep
 have hE:=h.sub (Dg _ _)
 have kp:∀{F:List Addr},D∉F->Kp F H (upd H D (.dT (Lj kv (Jh w) v))):=λ{F} hF b o q z=>by
  have : b≠D:=by
   rintro rfl
   rw[ha] at q
   cases q
   rcases z with z | z
   ·exact hF z
   ·rcases z with ⟨_,z⟩ | ⟨_,_,z⟩ <;> cases z
  rw[Cn this]
  exact q
 have nD:H0 D=Nr:=by
  rcases h.new _ Ab D Ab with z | z
  ·exact z
  ·cases z.2
 have rel':=(gA w r rel).kp (kp Az)
 obtain ⟨g1,g2⟩:=F7 rel'
 refine ⟨kv,ha,Pr rel,?_⟩
 refine ⟨λf hf=>?_,Bd.mpr ⟨λf hf=>⟨λhq a ha'=>(hs.1 f hf).1 hq a ha',λhq a ha'=>(hs.1 f hf).2 (hq.imp id id) a ha'⟩,hs.2⟩,λf hf=>?_,λb o nx q=>?_,λb o q=>?_,λb hb=>?_⟩
 rotate_right
 ·obtain ⟨z,c,k,f,h1,h2⟩:=h.xd b hb
  refine ⟨z,c,k,f,(Cn ?_).trans h1,h2⟩
  rintro rfl
  exact z nD
 ·rcases Ak.mp hf with rfl | hf
  ·exact ⟨D,_,rfl,rfl,Cr,g1,g2⟩
  ·exact (hE.ok f hf).kp (kp ((hs.1 f hf).1 (.inr rfl) D Ab)) (Ai _)
 ·rcases Ak.mp hf with rfl | hf
  ·intro a ha'
   rw[Ah.mp ha']
   exact .inl nD
  ·exact hE.new f hf
 ·rw[Cn (Da q nD)]
  exact h.same b o nx q
 ·rw[Cn (Da q nD)]
  exact h.dom b o q
theorem At.dGot{D:Addr}{ks:List (List Int×Ad)}(h:At K H0 X n (⟨some (.ref D),.dT (sX ks),[D]⟩::E) H):At K H0 X n (⟨some (.ref D),.dat .ow (.dict (Oo ks)),[D]⟩::E) H:=by
 obtain ⟨a,kv,e1,e0,ha,h1,h2⟩:=h.ok _ Ab
 have e1':some (V.ref D)=some (V.ref a):=e1
 cases e1'
 have rel:=sY h1 h2
 have hs:=Bd.mp h.sep
 refine (h.sub (Dg _ _)).push ⟨_,rfl,.dic ha rel.key rel.val,λ_=>Bx.mpr ⟨Az,Cs⟩,λz=>nomatch z⟩ (λf hf=>⟨λhq a ha'=>(hs.1 f hf).1 (.inr rfl) a ha',λhq a ha'=>(hs.1 f hf).2 (.inl rfl) a ha'⟩) λa ha'=>?_
 rcases h.new _ Ab a ha' with z | z
 ·exact .inl z
 ·cases z.2
end
theorem rO(ks:List (List Int×Ad))(w:List Int)(d:Ad):(Qf ks w d).length<=ks.length+1:=by
 unfold Qf
 split
 ·rw[Ac]; omega
 ·rw[Cc]; simp
end DL
namespace Nd
open PySem PySem.Spec PySem.Calls PyProof.Rows PyProof.V L2
def N6(r:Addr)(j:Int)(h:Heap):Prop:=∃t u v,IsRange h r 0 j 1 t u v
abbrev pY(r:Addr)(j:Int):HO:=.ext (N6 r j)
section
variable{X:Cx}
def U6:List V->Hp->VK->Prop:=λxs H Q=>∃j:Int,xs=[.int j]/\∀r,H r=none->Q (.ref r) (upd H r (pY r j))
theorem fP:Lr X (.type "range") U6:=by
 intro pins s σ H xs us Q I r h
 obtain ⟨j,rfl,q⟩:=h
 obtain ⟨u,rfl,t,rfl⟩:=vals1 r
 refine call_range_1 ⟨.ref s.heap.objs.size,_,I.laid (a:=s.heap.objs.size) (o:=pY s.heap.objs.size j) (t':=s.toks+1+1) (λb o e=>Ae _ e) (Ai _) ?_,rfl,q _ (I.hok.fresh (Ai _))⟩
 refine ⟨⟨_,_,_,Ar _ rfl⟩,⟨_,Ar _ rfl⟩,λh1 h2 ⟨t,u,v,e⟩ k=>⟨t,u,v,k _ e⟩⟩
end
end Nd
namespace DL
open PySem PySem.Spec PyProof.Rows L2 Nd
abbrev PX:=List Ad->(Ad->Prop)->(Addr->Prop)->Prop
end DL
namespace Nd
open PySem PySem.Spec PyProof.Rows L2
end Nd
namespace DL
open PySem PySem.Spec PyProof.Rows L2 Nd
end DL
namespace Nd
open PySem PySem.Spec PyProof.Rows L2
abbrev ZF(h:Heap)(z TI TO:Addr)(f0 f1:Value):Prop:=h.get? z=some { cls:=.type "zip",dict:=none,data:=.fields #[f0,f1,.bool false,.ref TI,.ref TO],slots:=#[] }
section
variable{prog:Bo}{w:World}{A:Co}{E:Value->Ag->Prop}{s:Ag}
theorem gR{a:Addr}{o:Obj}{Q:Option Obj->Ag->Prop}(ho:s.heap.get? a=some o)(h:Q (some o) s):wpAny (model prog w) A (loadIfAlive a) Q E s:=λΓ p _=>by
 unfold loadIfAlive
 rw[Sem.wp_loadIfAlive,ho]
 exact (Sem.wp_pure ..)▸h
theorem Yk{z TI TO a:Addr}{oa:Obj}{fl:Bool}(hz:ZF s.heap z TI TO (Gj (a:Int)) (.bool fl))(ha:s.heap.get? a=some oa):wpAny (model prog w) A (Cq (.ref z)) (λb s'=>b=false/\∃h',s'={ s with heap:=h' }/\ZF h' z TI TO (Gj (a:Int)) (.bool true)/\Dd z s.heap h') E s:=by
 unfold Cq
 refine Aa (Fg hz rfl (x:=Gj (a:Int)) rfl ?_)
 show wpAny _ _ (loadIfAlive ((a:Int).toNat) >>= _) _ _ _
 refine Aa (gR (a:=(a:Int).toNat) (o:=oa) (by rw[Ez]; exact ha) ?_)
 simp only[Option.isNone_some,Bq,if_false]
 refine Aa (Fg hz rfl (x:=.bool fl) rfl ?_)
 cases fl with
 | false =>
  rw[if_pos (by decide)]
  exact Aa (Gr hz (by simp) λg1 hz1 hs1=>Aj ⟨rfl,g1,rfl,hz1,hs1⟩)
 | true =>
  rw[if_neg (by decide)]
  exact Aj ⟨rfl,s.heap,rfl,hz,⟨rfl,λ_ _=>rfl⟩⟩
theorem nJ{z TI TO i1 i2 l1 l2 a:Addr}{oa:Obj}{fl:Bool}{k1 k2:Nat}{xs ys:Array Value}{x y:Value}{Q:Value->Ag->Prop}(D:Pg z TI TO i1 i2 l1 l2)(hz:ZF s.heap z TI TO (Gj (a:Int)) (.bool fl))(ha:s.heap.get? a=some oa)(hTI:Ep s.heap TI (.ref i1) (.ref i2))(h1:s.heap.IsListIter i1 l1 k1)(h2:s.heap.IsListIter i2 l2 k2)(hl1:s.heap.IsList l1 xs)(hl2:s.heap.IsList l2 ys)(hx:xs[k1]? = some x)(hy:ys[k2]? = some y)(hQ:∀h',ZF h' z TI TO (Gj (a:Int)) (.bool true)->h'.IsListIter i1 l1 (k1+1)->h'.IsListIter i2 l2 (k2+1)->Ep h' s.heap.objs.size x y->h'.objs.size=s.heap.objs.size+1->(∀c o,c≠z->c≠i1->c≠i2->s.heap.get? c=some o->h'.get? c=some o)->Q (.ref s.heap.objs.size) { s with heap:=h' }):wpAny (model prog w) A (Builtin.«zip.__next__» ⟨[.ref z],[]⟩) (λfin s'=>∃v,fin=.done (.ret v)/\Q v s') E s:=by
 unfold Builtin.«zip.__next__»
 refine Aa (Aj (Aa (Fg hz rfl (x:=.bool false) rfl (Aa (Fg hz rfl (x:=.ref TI) rfl (Aa (Fc hTI rfl ?_)))))))
 show wpAny _ _ (Cq (.ref z) >>= _) _ _ _
 refine Aa (Fu (Yk (E:=E) hz ha) λbb s1 q0_ => ?_)
 obtain ⟨eb,g1,e1,hz1,hs1⟩ := q0_
 subst eb e1
 simp only[Bq,if_false]
 simp only[<- Ue,Rk,Sg]
 refine Aa (Aa (Aa (Cz ?_)))
 show wpAny _ _ (Cy (.ref i1) >>= _) _ _ _
 refine Aa (Sm (h1.extBut hs1.extBut D.i1z) (hl1.extBut hs1.extBut D.l1z) hx λg2 q1 hs2=>Aj (Aj ?_))
 refine Aa (Aa (Cz ?_))
 show wpAny _ _ (Cy (.ref i2) >>= _) _ _ _
 refine Aa (Sm ((h2.extBut hs1.extBut D.i2z).extBut hs2.extBut D.i12.symm) ((hl2.extBut hs1.extBut D.l2z).extBut hs2.extBut D.l2i1) hy λg3 q2 hs3=>Aj (Aj (Aj ?_)))
 show wpAny _ _ (newTuple [x,y] >>= _) _ _ _
 refine Aa (Pc ?_)
 have sz:g3.objs.size=s.heap.objs.size:=by rw[hs3.1,hs2.1,hs1.1]
 have up:∀c o,c≠z->c≠i1->c≠i2->s.heap.get? c=some o->g3.get? c=some o:=λc o c1 c2 c3 e=>hs3.extBut _ _ c3 (hs2.extBut _ _ c2 (hs1.extBut _ _ c1 e))
 have hz3:ZF g3 z TI TO (Gj (a:Int)) (.bool true):=hs3.extBut _ _ D.i2z.symm (hs2.extBut _ _ D.i1z.symm hz1)
 have fin:=hQ (g3.push { cls:=.type "tuple",data:=.seq #[x,y] }) (Ae _ hz3) ((q1.extBut hs3.extBut D.i12).at λo e=>Ae _ e) (q2.at λo e=>Ae _ e) (by rw[<- sz]; exact Ar _ rfl) (by rw[Hg,sz]) (λc o c1 c2 c3 e=>Ae _ (up c o c1 c2 c3 e))
 refine Aj ⟨_,rfl,?_⟩
 rw[<- sz] at fin
 exact fin
theorem Zu{z TI TO i1 i2 l1 l2 a:Addr}{oa:Obj}{fl:Bool}{k1 k2:Nat}{xs ys:Array Value}{Q:PySem.Fin->Ag->Prop}(hh:A.handled=none)(D:Pg z TI TO i1 i2 l1 l2)(hz:ZF s.heap z TI TO (Gj (a:Int)) (.bool fl))(ha:s.heap.get? a=some oa)(hTI:Ep s.heap TI (.ref i1) (.ref i2))(h1:s.heap.IsListIter i1 l1 k1)(h2:s.heap.IsListIter i2 l2 k2)(hl1:s.heap.IsList l1 xs)(hl2:s.heap.IsList l2 ys)(hend:xs[k1]? = none\/ys[k2]? = none)(hE:∀h' e,(∀c o,c≠z->c≠i1->c≠i2->s.heap.get? c=some o->h'.get? c=some o)->(∃o,h'.get? e=some o/\o.cls=.type "StopIteration")->E (.ref e) { s with heap:=h' }):wpAny (model prog w) A (Builtin.«zip.__next__» ⟨[.ref z],[]⟩) Q E s:=by
 unfold Builtin.«zip.__next__»
 refine Aa (Aj (Aa (Fg hz rfl (x:=.bool false) rfl (Aa (Fg hz rfl (x:=.ref TI) rfl (Aa (Fc hTI rfl ?_)))))))
 show wpAny _ _ (Cq (.ref z) >>= _) _ _ _
 refine Aa (Fu (Yk (E:=E) hz ha) λbb s1 q0_ => ?_)
 obtain ⟨eb,g1,e1,hz1,hs1⟩ := q0_
 subst eb e1
 simp only[Bq,if_false]
 simp only[<- Ue,Rk,Sg]
 refine Aa (Aa (Aa (Cz ?_)))
 show wpAny _ _ (Cy (.ref i1) >>= _) _ _ _
 cases hx:xs[k1]? with
 | none =>
  refine Aa (wpAny_nextOf_list_end hh (h1.extBut hs1.extBut D.i1z) (hl1.extBut hs1.extBut D.l1z) hx λg2 e hs2 he=>?_)
  exact hE g2 e (λc o c1 c2 _ q=>hs2 _ _ c2 (hs1.extBut _ _ c1 q)) he
 | some x =>
  have hy:ys[k2]? = none:=hend.resolve_left λq=>by rw[hx] at q; cases q
  refine Aa (Sm (h1.extBut hs1.extBut D.i1z) (hl1.extBut hs1.extBut D.l1z) hx λg2 q1 hs2=>Aj (Aj ?_))
  refine Aa (Aa (Cz ?_))
  show wpAny _ _ (Cy (.ref i2) >>= _) _ _ _
  refine Aa (wpAny_nextOf_list_end hh ((h2.extBut hs1.extBut D.i2z).extBut hs2.extBut D.i12.symm) ((hl2.extBut hs1.extBut D.l2z).extBut hs2.extBut D.l2i1) hy λg3 e hs3 he=>?_)
  exact hE g3 e (λc o c1 c2 c3 q=>hs3 _ _ c3 (hs2.extBut _ _ c2 (hs1.extBut _ _ c1 q))) he
theorem jC{z TI TO i1 i2 l1 l2 a:Addr}{oa:Obj}{fl:Bool}{k1 k2:Nat}{xs ys:Array Value}{x y:Value}{Q:Option Value->Ag->Prop}(D:Pg z TI TO i1 i2 l1 l2)(hz:ZF s.heap z TI TO (Gj (a:Int)) (.bool fl))(ha:s.heap.get? a=some oa)(hTI:Ep s.heap TI (.ref i1) (.ref i2))(h1:s.heap.IsListIter i1 l1 k1)(h2:s.heap.IsListIter i2 l2 k2)(hl1:s.heap.IsList l1 xs)(hl2:s.heap.IsList l2 ys)(hx:xs[k1]? = some x)(hy:ys[k2]? = some y)(hQ:∀h',ZF h' z TI TO (Gj (a:Int)) (.bool true)->h'.IsListIter i1 l1 (k1+1)->h'.IsListIter i2 l2 (k2+1)->Ep h' s.heap.objs.size x y->h'.objs.size=s.heap.objs.size+1->(∀c o,c≠z->c≠i1->c≠i2->s.heap.get? c=some o->h'.get? c=some o)->Q (some (.ref s.heap.objs.size)) { s with heap:=h' }):wpAny (model prog w) A (Ju (.ref z)) Q E s:=by
 have ty:s.TypeIs (.ref z) "zip" := ⟨_,hz,rfl⟩
 unfold Ju
 refine Aa (Hh (Es (name:=El "__next__") ty Si (Fm Si ty F.entry_zip_next (nJ D hz ha hTI h1 h2 hl1 hl2 hx hy λg' b1 b2 b3 b4 b5 b6=>Aj (hQ g' b1 b2 b3 b4 b5 b6)) (F.args_zip_next_1 _))))
theorem Xd{z TI TO i1 i2 l1 l2 a:Addr}{oa:Obj}{fl:Bool}{k1 k2:Nat}{xs ys:Array Value}{Q:Option Value->Ag->Prop}(hh:A.handled=none)(D:Pg z TI TO i1 i2 l1 l2)(hz:ZF s.heap z TI TO (Gj (a:Int)) (.bool fl))(ha:s.heap.get? a=some oa)(hTI:Ep s.heap TI (.ref i1) (.ref i2))(h1:s.heap.IsListIter i1 l1 k1)(h2:s.heap.IsListIter i2 l2 k2)(hl1:s.heap.IsList l1 xs)(hl2:s.heap.IsList l2 ys)(hend:xs[k1]? = none\/ys[k2]? = none)(hQ:∀h',(∀c o,c≠z->c≠i1->c≠i2->s.heap.get? c=some o->h'.get? c=some o)->Q none { s with heap:=h' }):wpAny (model prog w) A (Ju (.ref z)) Q E s:=by
 have ty:s.TypeIs (.ref z) "zip" := ⟨_,hz,rfl⟩
 unfold Ju
 refine Aa (Hh (Es (name:=El "__next__") ty Si (Fm Si ty F.entry_zip_next (Zu hh D hz ha hTI h1 h2 hl1 hl2 hend λg' e kp he=>?_) (F.args_zip_next_1 _))))
 obtain ⟨o,ho,hc⟩:=he
 exact Aa (Ml (T := "StopIteration") (b:=true) ⟨o,ho,hc⟩ isSubtype_stop (Aj (hQ _ kp)))
end
end Nd
namespace Nd
open PySem PySem.Spec
theorem bZ:entryFor table "zip.__getattribute__" = some Builtin.«object.__getattribute__» :=
 entryFor_alias (id' := "object.__getattribute__") (by kernel_rfl) (by first | rfl | decide +kernel) (by decide +kernel) (by kernel_rfl)
theorem gV:typeLookup (.type "zip") "keys" = pure none:=by rw[typeLookup_type,builtinLookup_eq_fast]; kernel_rfl
section
variable{prog:Bo}{w:World}{A:Co}{E:Value->Ag->Prop}{h:Heap}{g:Array GenState}{d:Drawn}{t:Nat}{os:OsState}{a:Addr}{fs:Array Value}
theorem Xq:isSubtype (.type "AttributeError") (.type "AttributeError")=pure true:=by rw[isSubtype_type]; kernel_rfl
theorem iX(args:List Value):Vo (.type "AttributeError") args=pure Hl:=by
 have h:((Manifest.find? "AttributeError").elim false λt=>t.mro.contains "StopIteration" || t.mro.contains "SystemExit")=false:=by decide +kernel
 simp only[Vo,h]
 rfl
theorem jA{α:Type}{name msg:Str}{v:Value}{Q:α->Ag->Prop}(hh:A.handled=none)(hm:msg.length<=Ap)(hE:∀h' t' e,(∀c o,h.get? c=some o->h'.get? c=some o)->t<=t'->(∃o,h'.get? e=some o/\o.cls=.type "AttributeError")->E (.ref e) ⟨h',g,d,t',os⟩):wpAny (model prog w) A (raiseAttrError v name msg:Sem α) Q E ⟨h,g,d,t,os⟩:=by
 unfold raiseAttrError newExc newTuple
 refine Aa (wpAny_mkStr' ?_ hm)
 refine Aa (Aa (Ei ?_ (by show (1:Nat)<=Ap; decide)))
 refine Aa (wpAny_of_eq (iX _) (Ei ?_))
 generalize hh1:h.push { cls:=.type "tuple",data:=.seq [Value.str msg t].toArray }=h1
 have k1:∀c o,h.get? c=some o->h1.get? c=some o:=λc o q=>by rw[<- hh1]; exact Ae _ q
 have g0:(h1.push { cls:=.type "AttributeError",data:=.fields #[.ref h.objs.size,.none,.none,.none,.bool false,.none,Ie,Ie] }).get? h1.objs.size=some { cls:=.type "AttributeError",data:=.fields #[.ref h.objs.size,.none,.none,.none,.bool false,.none,Ie,Ie] }:=Ar _ rfl
 show wpAny _ _ _ _ _ ⟨h1.push { cls:=.type "AttributeError",data:=.fields #[.ref h.objs.size,.none,.none,.none,.bool false,.none,Ie,Ie] },g,d,t+1,os⟩
 have k2:∀c o,h1.get? c=some o->(h1.push { cls:=.type "AttributeError",data:=.fields #[.ref h.objs.size,.none,.none,.none,.bool false,.none,Ie,Ie] }).get? c=some o:=λc o q=>Ae _ q
 have k3:∀c o,h1.get? c=some o->c≠h1.objs.size:=λc o q=>Br (Ba q)
 generalize h1.push { cls:=.type "AttributeError",data:=.fields #[.ref h.objs.size,.none,.none,.none,.bool false,.none,Ie,Ie] }=h2 at g0 k2 ⊢
 refine Aa (wpAny_mkText ?_)
 refine Aa ?_
 unfold noteAttr
 show wpAny _ _ (lacksNameAndObj (.ref h1.objs.size) >>= _) _ _ _
 refine Aa ?_
 unfold lacksNameAndObj
 have ty:(⟨h2,g,d,t+1+1,os⟩ : Ag).TypeIs (.ref h1.objs.size) "AttributeError" := ⟨_,g0,rfl⟩
 refine Aa (Ml ty Xq ?_)
 simp only[Bool.not_true,Bq,if_false]
 refine Aa (Za g0 ?_)
 show wpAny _ _ (pure true) _ _ _
 refine Aj ?_
 simp only[if_true]
 refine Aa (Kx ?_)
 refine Aa (Sk ty ?_)
 show wpAny _ _ (layMembers h1.objs.size 6 _) _ _ _
 unfold layMembers
 refine Aa (Za g0 ?_)
 refine wpAny_update g0 ?_
 refine wpAny_raiseNew_none hh (hE _ _ _ (λc o q=>?_) (by show t<=t+1+1; omega) ⟨_,Ff _ g0 rfl,rfl⟩)
 exact Heap.get?_update_of_ne _ (k3 c o (k1 c o q)).symm (k2 c o (k1 c o q))
theorem iH{tk:Tok}{Q:PySem.Fin->Ag->Prop}(hh:A.handled=none)(hx:h.get? a=some { cls:=.type "zip",dict:=none,data:=.fields fs,slots:=#[] })(hE:∀h' t' e,(∀c o,h.get? c=some o->h'.get? c=some o)->t<=t'->(∃o,h'.get? e=some o/\o.cls=.type "AttributeError")->E (.ref e) ⟨h',g,d,t',os⟩):wpAny (model prog w) A (Builtin.«object.__getattribute__» ⟨[.ref a,.str "keys" tk],[]⟩) Q E ⟨h,g,d,t,os⟩:=by
 have hT:(⟨h,g,d,t,os⟩ : Ag).TypeIs (.ref a) "zip" := ⟨_,hx,rfl⟩
 have f4:=gV
 repeat (any_goals (first | assumption | wp_step))
 exact jA hh (by decide +kernel) hE
theorem oO{tk:Tok}{R:Result->Ag->Prop}(hh:A.handled=none)(hx:h.get? a=some { cls:=.type "zip",dict:=none,data:=.fields fs,slots:=#[] })(hE:∀h' t' e,(∀c o,h.get? c=some o->h'.get? c=some o)->t<=t'->(∃o,h'.get? e=some o/\o.cls=.type "AttributeError")->R (.error (.ref e)) ⟨h',g,d,t',os⟩):Mr (model prog w) A (.call (.builtin "zip.__getattribute__") ⟨[.ref a,.str "keys" tk],[]⟩) R ⟨h,g,d,t,os⟩ :=
 codeAny_call_builtin F.slot_zip_getattribute.plain bZ (F.slot_zip_getattribute.check _ _ _ _ _ _ _ _ (show (⟨h,g,d,t,os⟩ : Ag).TypeIs (.ref a) "zip" from ⟨_,hx,rfl⟩) (F.args_zip_getattribute_2 _ _) (iH hh hx hE))
theorem mO:typeLookup (.type "zip") "__getattr__" = pure none:=by rw[typeLookup_type,builtinLookup_eq_fast]; kernel_rfl
theorem yH{tk:Tok}{Q:Value->Ag->Prop}(hh:A.handled=none)(hx:h.get? a=some { cls:=.type "zip",dict:=none,data:=.fields fs,slots:=#[] })(hE:∀h' t' e,(∀c o,h.get? c=some o->h'.get? c=some o)->t<=t'->(∃o,h'.get? e=some o/\o.cls=.type "AttributeError")->E (.ref e) ⟨h',g,d,t',os⟩):wpAny (model prog w) A (getAttrBy (.ref a) (.str "keys" tk) false) Q E ⟨h,g,d,t,os⟩:=by
 have hT:(⟨h,g,d,t,os⟩ : Ag).TypeIs (.ref a) "zip" := ⟨_,hx,rfl⟩
 have f2:=F.slot_zip_getattribute.lookup
 have f3:=F.slot_zip_getattribute.bind (.ref a)
 have f5:=mO
 repeat (any_goals (first | assumption | wp_step))
 refine oO hh hx λh' t' e kp lt he=>?_
 obtain ⟨o,ho,hc⟩:=he
 have ty:(⟨h',g,d,t',os⟩ : Ag).TypeIs (.ref e) "AttributeError" := ⟨_,ho,hc⟩
 have f6:=Xq
 have fin:=hE h' t' e kp lt ⟨o,ho,hc⟩
 repeat (any_goals (first | assumption | wp_step))
theorem nU{Q:Option Value->Ag->Prop}(hh:A.handled=none)(hx:h.get? a=some { cls:=.type "zip",dict:=none,data:=.fields fs,slots:=#[] })(hQ:∀h' t',(∀c o,h.get? c=some o->h'.get? c=some o)->t<=t'->Q none ⟨h',g,d,t',os⟩):wpAny (model prog w) A (getAttr? (.ref a) "keys") Q E ⟨h,g,d,t,os⟩:=by
 unfold getAttr? getAttrBy?
 refine Aa (wpAny_mkText (Aa (Hh (yH hh hx λh' t' e kp lt he=>?_))))
 obtain ⟨o,ho,hc⟩:=he
 exact Aa (Ml (T := "AttributeError") (b:=true) ⟨o,ho,hc⟩ Xq (Aj (hQ _ _ kp (Nat.le_of_succ_le lt))))
end
end Nd
namespace Nd
open PySem PySem.Spec PyProof.Rows L2
theorem Py:entryFor table "dict.update.loop" = some Builtin.«dict.update.loop»:=entryFor_of_tree (by kernel_rfl)
theorem Kf:plainId "dict.update.loop" = true:=by decide +kernel
def A9(h:Heap)(z TI TO i1 i2 l1 l2:Addr)(k:Nat):Prop:=Ep h TI (.ref i1) (.ref i2)/\h.IsListIter i1 l1 k/\h.IsListIter i2 l2 k /\
 ((IsZip h z TI TO .none/\∃u v,Ep h TO u v)\/∃(a:Addr) (oa:Obj) (fl:Bool),ZF h z TI TO (Gj (Int.ofNat a)) (.bool fl)/\h.get? a=some oa)
theorem A9.keep{h h':Heap}{z TI TO i1 i2 l1 l2 D:Addr}{k:Nat}(st:A9 h z TI TO i1 i2 l1 l2 k)(hs:∀c,c≠D->h'.get? c=h.get? c)(hD:∃o,h'.get? D=some o)(n:∀c∈[z,TI,TO,i1,i2],c≠D):A9 h' z TI TO i1 i2 l1 l2 k:=by
 obtain ⟨a,b,c,d⟩:=st
 have n1:=n z (by simp)
 have n2:=n TI (by simp)
 have n3:=n TO (by simp)
 have n4:=n i1 (by simp)
 have n5:=n i2 (by simp)
 refine ⟨(hs TI n2).trans a,b.at λo q=>(hs i1 n4).trans q,c.at λo q=>(hs i2 n5).trans q,?_⟩
 rcases d with ⟨d,u,v,e⟩ | ⟨a,oa,fl,d,e⟩
 ·exact .inl ⟨(hs z n1).trans d,u,v,(hs TO n3).trans e⟩
 ·refine .inr ?_
  by_cases q:a=D
  ·obtain ⟨o,ho⟩:=hD
   exact ⟨a,o,fl,(hs z n1).trans d,by rw[q]; exact ho⟩
  ·exact ⟨a,oa,fl,(hs z n1).trans d,(hs a q).trans e⟩
section
variable{prog:Bo}{w:World}{A:Co}{E:Value->Ag->Prop}{s:Ag}{z TI TO i1 i2 l1 l2:Addr}{k:Nat}{xs ys:Array Value}{x y:Value}{Q:Option Value->Ag->Prop}
theorem qZ(D:Pg z TI TO i1 i2 l1 l2)(st:A9 s.heap z TI TO i1 i2 l1 l2 k)(hl1:s.heap.IsList l1 xs)(hl2:s.heap.IsList l2 ys)(hx:xs[k]? = some x)(hy:ys[k]? = some y)(hQ:∀h',A9 h' z TI TO i1 i2 l1 l2 (k+1)->Ep h' s.heap.objs.size x y->(∀c o,c∉[z,TI,TO,i1,i2]->s.heap.get? c=some o->h'.get? c=some o)->Q (some (.ref s.heap.objs.size)) { s with heap:=h' }):wpAny (model prog w) A (Ju (.ref z)) Q E s:=by
 obtain ⟨a,b,c,d⟩:=st
 rcases d with ⟨d,u,v,e⟩ | ⟨a',oa,fl,d,e⟩
 ·refine wpAny_pyNext_zip_item D d a e b c hl1 hl2 hx hy λh' q1 q2 q3 q4 q5 q6 q7=>hQ h' ⟨q7 TI _ D.TIz D.TITO D.TIi1 D.TIi2 a,q3,q4,.inr ⟨_,_,false,q1,q5⟩⟩ q5 λc o hc q=>?_
  simp only[Ak,Az,or_false,not_or] at hc
  exact q7 c o hc.1 hc.2.2.1 hc.2.2.2.1 hc.2.2.2.2 q
 ·refine jC D d e a b c hl1 hl2 hx hy λh' q1 q2 q3 q4 q5 q6=>?_
  have up:∀c o,c∉[z,TI,TO,i1,i2]->s.heap.get? c=some o->h'.get? c=some o:=λc o hc q=>by
   simp only[Ak,Az,or_false,not_or] at hc
   exact q6 c o hc.1 hc.2.2.2.1 hc.2.2.2.2 q
  refine hQ h' ⟨q6 TI _ D.TIz D.TIi1 D.TIi2 a,q2,q3,.inr ?_⟩ q4 up
  by_cases g1:a'=z
  ·subst g1
   exact ⟨a',_,true,q1,q1⟩
  by_cases g2:a'=i1
  ·subst g2
   obtain ⟨o,q,_⟩:=q2
   exact ⟨a',o,true,q1,q⟩
  by_cases g3:a'=i2
  ·subst g3
   obtain ⟨o,q,_⟩:=q3
   exact ⟨a',o,true,q1,q⟩
  exact ⟨a',oa,true,q1,q6 a' _ g1 g2 g3 e⟩
theorem xE(hh:A.handled=none)(D:Pg z TI TO i1 i2 l1 l2)(st:A9 s.heap z TI TO i1 i2 l1 l2 k)(hl1:s.heap.IsList l1 xs)(hl2:s.heap.IsList l2 ys)(he:xs[k]? = none\/ys[k]? = none)(hQ:∀h',(∀c o,c∉[z,TI,TO,i1,i2]->s.heap.get? c=some o->h'.get? c=some o)->Q none { s with heap:=h' }):wpAny (model prog w) A (Ju (.ref z)) Q E s:=by
 obtain ⟨a,b,c,d⟩:=st
 rcases d with ⟨d,u,v,e⟩ | ⟨a',oa,fl,d,e⟩
 ·refine wpAny_pyNext_zip_end hh D d a e b c hl1 hl2 he λh' q7=>hQ h' λc o hc q=>?_
  simp only[Ak,Az,or_false,not_or] at hc
  exact q7 c o hc.1 hc.2.2.1 hc.2.2.2.1 hc.2.2.2.2 q
 ·refine Xd hh D d e a b c hl1 hl2 he λh' q6=>hQ h' λc o hc q=>?_
  simp only[Ak,Az,or_false,not_or] at hc
  exact q6 c o hc.1 hc.2.2.2.1 hc.2.2.2.2 q
end
section
variable{X:Cx}{pins:List (Addr×Obj)}{σ:L2.St}{H:Hp}{s:Ag}{a b:Addr}{v:V}{r:Value}{A:Co}{E:Value->Ag->Prop}{kvs:List (List Gn×V)}{k:List Gn}
theorem jW{Q:Unit->Ag->Prop}(hu:A.units+1<cLine)(I:Inv X pins σ H s)(e:H a=some (.dT kvs))(eb:H b=some (.tup (k.map kV)))(l:kvs.length<Ap)(rv:RelV v r)(h:∀s',Inv X pins σ (upd H a (.dT (Lj kvs k v))) s'->(∀c,c≠a->s'.heap.get? c=s.heap.get? c)->(∃o,s'.heap.get? a=some o)->Q () s'):wpAny (model X.prog X.w) A (dictSet a (.ref b) r) Q E s:=by
 obtain ⟨z,hd,xs,rel,dd⟩:=uR I.hok (.inl e)
 have hz:xs.length<=Ap:=by rw[<- Paired.length rel]; exact z
 have hl:(Lj kvs k v).length<=Ap:=by have:=Qh kvs k v; omega
 refine eZ (hz:=hz) (show (Oy _).room A from Nat.lt_of_succ_lt hu) (Ul I.hok eb) dd λh' dd' hs=>?_
 obtain ⟨q,es,ep,hq,h2,h3,h4,_,h5⟩:=dd'
 exact h _ (bP I (by rw[e]; exact Je) hs ⟨q,hq⟩ ⟨hl,hd,_,(rel.put k eb rv).keeps λc ys ec=>(Cn (lA ec e (λz=>nomatch z))).trans ec,q,es,ep,hq,h2,h3,h4,h5⟩) (λc hc=>hs.2 c hc) ⟨q,hq⟩
theorem qU{R:Result->Ag->Prop}{z TI TO i1 i2 l1 l2 D:Addr}{xs ys:List V}(hh:A.handled=none)(hu:A.units+2<cLine)(Z:Pg z TI TO i1 i2 l1 l2)(W:Nat->Hp->Prop)(hW:∀i H x y,xs[i]? = some x->ys[i]? = some y->W i H->Kq X.K H l1 xs/\Kq X.K H l2 ys/\∃kvs k p,H D=some (.dT kvs)/\x=.ref p/\H p=some (.tup (k.map kV))/\kvs.length<Ap/\W (i+1) (upd H D (.dT (Lj kvs k y))))(hE:∀H,W (min xs.length ys.length) H->Kq X.K H l1 xs/\Kq X.K H l2 ys)(hR:∀H s',W (min xs.length ys.length) H->Inv X pins σ H s'->R (.ok (.ret .none)) s'):∀n i s H,n=min xs.length ys.length - i->i<=min xs.length ys.length->Inv X pins σ H s->A9 s.heap z TI TO i1 i2 l1 l2 i->(∀c∈[z,TI,TO,i1,i2],Lk X pins H c)->W i H->Mr (model X.prog X.w) A (.builtin "dict.update.loop" ⟨[.ref D,.ref z,Gj (i:Int),.none],[]⟩) R s:=by
 intro n
 induction n with
 | zero =>
  intro i s H hn hi I st hf w0
  have e:i=min xs.length ys.length:=by omega
  subst e
  obtain ⟨q1,q2⟩:=hE H w0
  obtain ⟨its1,rv1,p1,_⟩:=I.list q1
  obtain ⟨its2,rv2,p2,_⟩:=I.list q2
  have hl1:=rv1.length
  have hl2:=rv2.length
  refine Kt Py ?_
  rw[Gp Kf _]
  unfold Builtin.«dict.update.loop»
  refine Aa (xE (A:=A.in1) hh Z st p1.isList p2.isList ?_ λh' kp=>?_)
  ·by_cases q:xs.length<=min xs.length ys.length
   ·exact .inl (by simp; omega)
   ·exact .inr (by simp; omega)
  have I':=Lx (t':=s.toks) I kp hf
  show wpAny _ _ (Builtin.Dict.addKeywords D [] >>= _) _ _ _
  exact Aa (Aj (Aj (hR _ _ w0 I')))
 | succ n ih =>
  intro i s H hn hi I st hf w0
  have l1:i<xs.length:=by omega
  have l2:i<ys.length:=by omega
  obtain ⟨q1,q2,kvs,k,p,hD,ex,hp,hz,w1⟩:=hW i H _ _ (An l1) (An l2) w0
  obtain ⟨its1,rv1,p1,_⟩:=I.list q1
  obtain ⟨its2,rv2,p2,_⟩:=I.list q2
  obtain ⟨u1,hu1,ru1⟩:=rv1.get (An l1)
  obtain ⟨u2,hu2,ru2⟩:=rv2.get (An l2)
  rw[ex] at ru1
  cases (show u1=Ax p from ru1)
  refine Kt Py ?_
  rw[Gp Kf _]
  unfold Builtin.«dict.update.loop»
  refine Aa (qZ (A:=A.in1) Z st p1.isList p2.isList (x:=.ref p) (y:=u2) (by simpa using hu1) (by simpa using hu2) λh' st' hpr kp=>?_)
  have I':=Lx (t':=s.toks) I kp hf
  have nD:∀c∈[z,TI,TO,i1,i2],c≠D:=λc hc e=>by
   have:=(hf c hc).1
   rw[e,hD] at this
   cases this
  refine Aa (Cz ?_)
  refine Aa (Vm ?_)
  unfold Builtin.Dict.pairItems
  have ty:({ s with heap:=h' }:Ag).TypeIs (.ref s.heap.objs.size) "tuple" := ⟨_,hpr,rfl⟩
  refine Aa (Sk ty ?_)
  rw[if_pos (by decide)]
  refine Aa (Fc hpr rfl (Aj ?_))
  show wpAny _ _ (Ql [.ref p,u2] (dictSet D (.ref p) u2)) _ _ _
  refine Cz (jW (A:=A.in1) hu I' hD hp hz ru2 λs2 I2 k2 o2=>?_)
  refine Aj ⟨Km Kf _,?_⟩
  have g:=ih (i+1) s2 _ (by omega) (by omega) I2 (st'.keep k2 o2 nD) (λc hc=>⟨by rw[Cn (nD c hc)]; exact (hf c hc).1,(hf c hc).2⟩) w1
  rw[show ((i+1:Nat):Int)=(i:Int)+1 by omega] at g
  exact g
theorem eJ{Q:Value->Ag->Prop}{z TI TO i1 i2 l1 l2:Addr}{xs ys:List V}{s:Ag}{H1:Hp}(hh:A.handled=none)(hu:A.units+8<cLine)(Z:Pg z TI TO i1 i2 l1 l2)(I:Inv X pins σ H1 s)(hz:IsZip s.heap z TI TO .none)(hTI:Ep s.heap TI (.ref i1) (.ref i2))(hTO:∃u v,Ep s.heap TO u v)(h1:s.heap.IsListIter i1 l1 0)(h2:s.heap.IsListIter i2 l2 0)(hf:∀c∈[z,TI,TO,i1,i2],Lk X pins H1 c)(hq:∀D,H1 D=none->∃W:Nat->Hp->Prop,W 0 (upd H1 D (.dT []))/\(∀i H x y,xs[i]? = some x->ys[i]? = some y->W i H->Kq X.K H l1 xs/\Kq X.K H l2 ys/\∃kvs k p,H D=some (.dT kvs)/\x=.ref p/\H p=some (.tup (k.map kV))/\kvs.length<Ap/\W (i+1) (upd H D (.dT (Lj kvs k y))))/\∀H,W (min xs.length ys.length) H->Kq X.K H l1 xs/\Kq X.K H l2 ys/\∀s',Inv X pins σ H s'->Q (.ref D) s'):wpAny (model X.prog X.w) A (call (.type "dict") [.ref z]) Q E s:=by
 refine callType_codes (Q₁:=λobj s₁=>obj=.ref s.heap.objs.size/\s₁={ s with heap:=s.heap.push { cls:=.type "dict",data:=.dict #[] } }) F.kt_called_dict (F.kt_typeCall_dict_1 _) F.entry_dict_init (kt_code_dict_new _ ⟨rfl,rfl⟩) ?_
 rintro obj s₁ ⟨rfl,rfl⟩
 have fD:H1 s.heap.objs.size=none:=I.hok.fresh (Ai _)
 obtain ⟨W,w0,hW,hE⟩:=hq s.heap.objs.size fD
 have vP:({ s with heap:=s.heap.push { cls:=.type "dict",data:=.dict #[] } }:Ag).TypeIs (.ref s.heap.objs.size) "dict" := ⟨_,Ar _ rfl,rfl⟩
 have I3:Inv X pins σ (upd H1 s.heap.objs.size (.dT [])) { s with heap:=s.heap.push { cls:=.type "dict",data:=.dict #[] } } :=
  I.laid (t':=s.toks) (λb u q=>Ae _ q) (Ai _) (fY s.heap I.big)
 have z3:IsZip (s.heap.push { cls:=.type "dict",data:=.dict #[] }) z TI TO .none:=Ae _ hz
 have tyz:({ s with heap:=s.heap.push { cls:=.type "dict",data:=.dict #[] } }:Ag).TypeIs (.ref z) "zip" := ⟨_,z3,rfl⟩
 refine ⟨vP,F.args_dict_init_2 _ _,?_⟩
 unfold Builtin.«dict.__init__»
 refine Aa ?_
 unfold Builtin.Dict.selfAndRest
 refine Aa (Uc vP ?_)
 show wpAny _ _ (pure (s.heap.objs.size,[Ax z])) _ _ _
 refine Aj ?_
 show wpAny _ _ (Wq "dict.__init__" s.heap.objs.size (.ref z) [] .none) _ _ _
 unfold Wq
 refine Aa (Sk tyz ?_)
 rw[if_pos (by decide)]
 refine Aa (nU (A:=A.in1.in1) hh z3 λh4 t4 kp4 _=>?_)
 simp only[Option.isNone_none,if_true]
 refine Aa (Kx ?_)
 have z4:IsZip h4 z TI TO .none:=kp4 _ _ z3
 refine Aa (dW z4 ?_)
 have I4:=I3.kept (h':=h4) (t':=t4) kp4
 have up:∀c o,s.heap.get? c=some o->h4.get? c=some o:=λc o q=>kp4 c o (Ae _ q)
 obtain ⟨u,v,hTO⟩:=hTO
 have st4:A9 h4 z TI TO i1 i2 l1 l2 0:=⟨up _ _ hTI,h1.at λo q=>up _ _ q,h2.at λo q=>up _ _ q,.inl ⟨z4,u,v,up _ _ hTO⟩⟩
 have nz:∀c∈[z,TI,TO,i1,i2],c≠s.heap.objs.size:=λc hc=>by
  obtain ⟨o1,e1,_⟩:=h1
  obtain ⟨o2,e2,_⟩:=h2
  simp only[Ak,Az,or_false] at hc
  rcases hc with rfl | rfl | rfl | rfl | rfl
  ·exact Br (Ba hz)
  ·exact Br (Ba hTI)
  ·exact Br (Ba hTO)
  ·exact Br (Ba e1)
  ·exact Br (Ba e2)
 refine Aj ⟨Km Kf _,?_⟩
 exact qU (A:=A.in1) hh (Ht (Jl (show A.in1.units+2<A.units+8 from by show A.units+1+2<A.units+8; omega)) hu) Z W hW (λH w=>⟨(hE H w).1,(hE H w).2.1⟩) (λH s' w I'=>⟨rfl,(hE H w).2.2 s' I'⟩) _ 0 _ _ rfl (Ct _) I4 st4 (λc hc=>⟨by rw[Cn (nz c hc)]; exact (hf c hc).1,(hf c hc).2⟩) w0
end
section
variable{X:Cx}
def rN(K:PySem.W.Frag)(ta:TA):TE:=λσ H Q=>ta σ H λvs H1=>∃l1 l2 xs ys,vs=[.ref l1,.ref l2]/\Kq K H1 l1 xs/\Kq K H1 l2 ys/\∀D,H1 D=none->∃W:Nat->Hp->Prop,W 0 (upd H1 D (.dT [])) /\
   (∀i H x y,xs[i]? = some x->ys[i]? = some y->W i H->Kq K H l1 xs/\Kq K H l2 ys/\∃kvs k p,H D=some (.dT kvs)/\x=.ref p/\H p=some (.tup (k.map kV))/\kvs.length<Ap/\W (i+1) (upd H D (.dT (Lj kvs k y)))) /\
   ∀H,W (min xs.length ys.length) H->Kq K H l1 xs/\Kq K H l2 ys/\Q (.ref D) H
theorem uI{a b:Expr}{ta:TA}{p p2 pos pos2:Pos}(hgd:Gl X "dict")(hmd:X.mg "dict" = none)(hg:Gl X "zip")(hm:X.mg "zip" = none)(hc:X.calm=true)(hu:X.A.units+64<cLine)(ha:PA X [a,b] ta)(hs:Bp [a,b] X.env=(false,eval a X.env)::Bp [b] X.env:=by rfl)(hp:(Hi pos (Bp [b] X.env)).any (·.1)=false:=by rfl):PE X (.Call (.Name "dict" p2) [.Call (.Name "zip" p) [a,b] [] pos] [] pos2) (rN X.K ta):=by
 intro pins s σ H R I h
 refine Call_ (Ll I hgd hmd (u:=.type "dict") (by decide +kernel) (Ef ?_ rfl rfl))
 show wpAny _ _ (spliced ((false,eval (.Call (.Name "zip" p) [a,b] [] pos) X.env)::Hi pos2 (Bp [] X.env))) _ _ s
 refine Ka ?_
 refine Call_ (Ll I hg hm (u:=.type "zip") (by decide +kernel) (Ef (Fu (ha pos pins s σ H _ I h) λus s1 ⟨vs,H1,I1,r1,q1⟩=>?_) hs hp))
 obtain ⟨l1,l2,xs,ys,e,hq1,hq2,q⟩:=q1
 subst e
 obtain ⟨u1,u2,rfl,ru1,ru2⟩:=vals2 r1
 cases ru1
 cases ru2
 obtain ⟨its1,rv1,pl1,hz1⟩:=I1.list hq1
 obtain ⟨its2,rv2,pl2,hz2⟩:=I1.list hq2
 have hlt1:l1<s1.heap.objs.size:=let ⟨o,q,_⟩:=pl1.isList; Ba q
 have hlt2:l2<s1.heap.objs.size:=let ⟨o,q,_⟩:=pl2.isList; Ba q
 refine call_zip_2 pl1.isList pl2.isList λh2 hz hTI hTO hi1 hi2 hsz hk=>?_
 have fr1:∀n,Lk X pins H1 (s1.heap.objs.size+n):=λn=>I1.fpOk (Jm _ _) (I1.hok.fresh (Jm _ _))
 have fr:∀c∈[s1.heap.objs.size+4,s1.heap.objs.size+2,s1.heap.objs.size+3,s1.heap.objs.size,s1.heap.objs.size+1],Lk X pins H1 c:=λc hc=>by
  simp only[Ak,Az,or_false] at hc
  rcases hc with rfl | rfl | rfl | rfl | rfl
  ·exact fr1 4
  ·exact fr1 2
  ·exact fr1 3
  ·exact fr1 0
  ·exact fr1 1
 refine Og ?_
 refine eJ (xs:=xs) (ys:=ys) (I.ok.hd hc) (by omega) (mX _ _ _ hlt1 hlt2) (I1.kept (t':=s1.toks) hk) hz hTI ⟨_,_,hTO⟩ hi1 hi2 fr λD hD=>?_
 obtain ⟨W,w0,hW,hE⟩:=q D hD
 exact ⟨W,w0,hW,λH w=>⟨(hE H w).1,(hE H w).2.1,λs' I'=>⟨.ref D,H,I',rfl,(hE H w).2.2⟩⟩⟩
end
end Nd
namespace DL
open PySem PySem.Spec PyProof.Rows L2 Nd
def Pb(acc:List (List Int×Ad))(l:List (List Int×Ad)):List (List Int×Ad):=l.foldl (λa p=>Qf a p.1 p.2) acc
def cI(xs:List DV)(δ:DS)(P:DV->DS->Prop):Prop:=match xs with
 | [.dat _ (.list ds),.dat _ (.list es)]=>ds.length<=1000000/\Dr es=true/\∃ws:List (List Int),ds=ws.map Ck/\P (.dat .ow (.dict (Oo (Pb [] (ws.zip es))))) δ
 | _=>False
def iQ(da:DA):DE:=λδ P=>da δ λxs δ'=>cI xs δ' P
theorem aS:∀(l:List (List Int×Ad)) (acc:List (List Int×Ad)),(Pb acc l).length<=acc.length+l.length
 | [],acc=>Ai _
 | p::l,acc=>by
  have h1:=aS l (Qf acc p.1 p.2)
  have h2:=rO acc p.1 p.2
  show (Pb (Qf acc p.1 p.2) l).length<=_
  rw[Bs]
  omega
theorem iR{ws:List (List Int)}{es:List Ad}{i:Nat}{w:List Int}{e:Ad}(h1:ws[i]? = some w)(h2:es[i]? = some e):Pb [] ((ws.zip es).take (i+1))=Qf (Pb [] ((ws.zip es).take i)) w e:=by
 have hz:(ws.zip es)[i]? = some (w,e):=by
  rw[List.getElem?_zip_eq_some]
  exact ⟨h1,h2⟩
 rw[Io,hz]
 unfold Pb
 rw[List.foldl_append]
 rfl
section
variable{X:Cx}{a b:Expr}{da:DA}{p p2 pos pos2:Pos}
theorem pP{K:PySem.W.Frag}:∀σ H Q,LE K (iQ da) σ H Q->rN K (LA K da) σ H Q:=by
 intro σ H Q h
 obtain ⟨H0,Y,S,T,δ,P,rfl,hS,hA,hd,k⟩:=h
 refine ⟨H0,Y,S,T,δ,_,rfl,hS,hA,hd,λxs δ' As us S' H' e1 e2 ex eu hA' p=>?_⟩
 unfold cI at p
 split at p
 ·rename_i m ds m' es
  obtain ⟨hl,im,ws,rfl,pk⟩:=p
  obtain ⟨v,F,w,G,rfl,hA2⟩:=Ym eu hA' ex
  obtain ⟨a,xs,G1,rfl,ha,ra,rfl,hz⟩:=(hA2.told mem_mid).list_inv
  obtain ⟨b,ys,G2,rfl,hb,rb,rfl,hz2⟩:=(hA2.told Ee).list_inv
  refine ⟨a,b,xs,ys,rfl,Kq.of ha,Kq.of hb,λD hD=>?_⟩
  have hz3:=nO (n:=1000000) (Ai _)
  have nDa:a≠D:=λz=>by rw[z,hD] at ha; cases ha
  have nDb:b≠D:=λz=>by rw[z,hD] at hb; cases hb
  have l1:ws.length=xs.length:=by have:=ra.len; rw[Ac] at this; exact this.symm
  have l2:=rb.len
  refine ⟨λi H=>H a=some (.lst xs)/\H b=some (.lst ys)/\At K H0 Y δ'.n (⟨some (.ref D),.dT (sX (Pb [] ((ws.zip es).take i))),[D]⟩::(S'++(⟨some (.ref a),.dat m (.list (ws.map Ck)),a::G1⟩::⟨some (.ref b),.dat m' (.list es),b::G2⟩::T))) H,⟨?_,?_,?_⟩,?_,?_⟩
  ·rw[Cn nDa]; exact ha
  ·rw[Cn nDb]; exact hb
  ·exact hA2.dNew hD
  ·(intro i H x y hx hy q_; obtain ⟨h1,h2,hA3⟩ := q_)
   have li:=(Al.mp hx).1
   have li2:=(Al.mp hy).1
   obtain ⟨a2,xs2,F2,ea,ha2,ra2,_,_⟩:=(hA3.told (Af _ mem_mid)).list_inv
   cases ea
   rw[h1] at ha2
   cases ha2
   obtain ⟨b2,ys2,F3,eb,hb2,rb2,_,_⟩:=(hA3.told (Af _ Ee)).list_inv
   cases eb
   rw[h2] at hb2
   cases hb2
   have e1:ws[i]? = some (ws[i]'(by omega)):=An _
   have e2:es[i]? = some (es[i]'(by omega)):=An _
   obtain ⟨x',Fx,g1,g2,_⟩:=ra2.get (by rw[Aw,e1]; rfl)
   rw[hx] at g1
   cases g1
   obtain ⟨p,rfl,hp⟩:=Sv g2
   obtain ⟨y',Fy,g3,g4,_⟩:=rb2.get e2
   rw[hy] at g3
   cases g3
   obtain rfl:=g4.imm (iN.mp im _ (Aq e2))
   obtain ⟨kv,q1,q2,q3⟩:=hA3.dPut (w:=ws[i]'(by omega)) g4
   refine ⟨Kq.of h1,Kq.of h2,kv,Jh _,p,q1,rfl,hp,?_,?_,?_,?_⟩
   ·have:=aS ((ws.zip es).take i) []
    rw[Cv] at this
    rw[Ac] at hl
    rw[q2]
    show _<Ap
    have h0:([]:List (List Int×Ad)).length=0:=rfl
    omega
   ·rw[Cn nDa]; exact h1
   ·rw[Cn nDb]; exact h2
   ·rw[iR e1 e2]
    exact q3
  ·(intro H q_; obtain ⟨h1,h2,hA3⟩ := q_)
   refine ⟨Kq.of h1,Kq.of h2,k _ δ' _ [D] S' H e1 e2 ?_ pk⟩
   have et:(ws.zip es).take (min xs.length ys.length)=ws.zip es:=Ed (by rw[List.length_zip]; omega)
   rw[et] at hA3
   have hA4:=hA3.dGot
   exact (hA4.sub (((Eb S').append ((Eb T).cons _ |>.cons _)).cons₂ _)).tomid
 ·exact p.elim
theorem uW(hu:X.A.units+64<cLine)(hgd:Gl X "dict")(hmd:X.mg "dict" = none)(hg:Gl X "zip")(hm:X.mg "zip" = none)(hc:X.calm=true)(ha:jM X [a,b] da)(hs:Bp [a,b] X.env=(false,eval a X.env)::Bp [b] X.env:=by rfl)(hp:(Hi pos (Bp [b] X.env)).any (·.1)=false:=by rfl):Fb X (.Call (.Name "dict" p2) [.Call (.Name "zip" p) [a,b] [] pos] [] pos2) (iQ da):=PE.imp (uI hgd hmd hg hm hc hu ha hs hp) pP
end
end DL
namespace Nd
open PySem PySem.Spec PyProof.Rows L2
end Nd
namespace DL
open PySem PySem.Spec PyProof.Rows L2 Nd
end DL
namespace Nd
open PySem PySem.Spec PyProof.Rows L2
end Nd
namespace DL
open PySem PySem.Spec PyProof.Rows L2 Nd
end DL
namespace Ts
open PySem PyProof.Rows L2
def Gq(h h':Heap):Prop:=∀b o,h.get? b=some o->h'.get? b=some o
theorem Gq.refl(h:Heap):Gq h h:=λ_ _ e=>e
theorem Gq.trans{a b c:Heap}(x:Gq a b)(y:Gq b c):Gq a c:=λi o e=>y i o (x i o e)
def K5(x y:Keyed):Bool:=decide (numOf x.1<numOf y.1)
section
variable{prog:Bo}{w:World}{A:Co}{E:Value->Ag->Prop}{s:Ag}
theorem pQ:Cmp prog w A s Rq (λx=>∃n t,x.1=.int n t) K5 where
 run:=λx y Q E ⟨n,t,ex⟩ ⟨n',t',ey⟩ h=>by
  obtain ⟨x1,x2⟩:=x
  obtain ⟨y1,y2⟩:=y
  simp only at ex ey
  subst ex ey
  rw[keyLt'_oneType]
  exact wR h
 irr:=λx=>by simp [K5]
 tr:=λx y z h1 h2=>by simp only[K5,decide_eq_true_eq] at *; omega
 neg:=λx y z h=>by simp only[K5,decide_eq_true_eq] at *; omega
variable{a kS:Addr}{vs:List Value}{kz:List Int}{P:PySem.Fin->Ag->Prop}
structure Fresh2(h0:Heap)(h:Heap)(a kS:Addr)(keys:Array Value)(e1:Nat):Prop where
 keep:Gq h0 h
 na:h0.get? a=none
 nk:h0.get? kS=none
 ne:kS≠a
 ga:h.get? a=some (Ci "list" #[] e1)
 gk:∃e,h.get? kS=some (Ci "list" keys e)
theorem Pu{h0 h:Heap}{b:Addr}{f:Obj->Obj}(k:Gq h0 h)(n:h0.get? b=none):Gq h0 (h.update b f):=λi o e =>
 ((Cg h b f).2 i (λz=>by rw[z,n] at e; cases e)).trans (k i o e)
theorem j4{h0:Heap}{keys:Array Value}{e1:Nat}{st:Bn}(F:Fresh2 h0 s.heap a kS keys e1)(hk:Jj keys.toList kz)(hlen:kz.length=vs.length)(hz:vs.length<Ap)(hp:(arrOf st).Perm (keys.zip vs.toArray))(hs:SortedTo (arrOf st) (arrOf st).size)(hf:Jv st=none)(h:∀h' tk out c,Gq h0 h'->h'.get? a=some (Ci "list" out c)->KskOut false kz vs out.toList->P (.done (.ret .none)) { s with heap:=h',toks:=tk }):wpAny (model prog w) A (ksk_tail a false e1 (.ref kS) st) P E s:=by
 obtain ⟨ek,gk⟩:=F.gk
 have l1:=hk.length
 rw[Ay] at l1
 have vz:vs.toArray.size=vs.length:=Am
 have l2:(arrOf st).size=vs.length:=by rw[hp.size_eq,Array.size_zip,vz]; omega
 have ga:(s.heap.update kS (By λ_=>(#[]:Array Value))).get? a=some (Ci "list" #[] e1):=((Cg s.heap kS _).2 a F.ne.symm).trans F.ga
 have out:=ksk_out (b:=false) hk hp hs
 rw[if_neg Bm] at out
 obtain ⟨c2,g2⟩ : ∃c2,((s.heap.update kS (By λ_=>(#[]:Array Value))).update a (By λ_=>(arrOf st).map (·.2))).get? a=some (Ci "list" ((arrOf st).map (·.2)) c2):=⟨_,Iw ga λ_=>(arrOf st).map (·.2)⟩
 unfold ksk_tail
 dsimp only
 refine Aa (Jd gk rfl ?_ (by omega) (Ct _))
 refine Aa (Lb (Aa (Qk ga rfl (Aa (Jd ga rfl ?_ (Ct _) ?_)))))
 ·rw[hf]
  simp only[bne_self_eq_false,Bq,if_false]
  exact Aj (h _ _ _ c2 (Pu (Pu F.keep F.nk) F.na) g2 out)
 ·simp only[Bq,if_false,Array.size_map]
  omega
theorem X8{h0:Heap}{keys:Array Value}{e1:Nat}(F:Fresh2 h0 s.heap a kS keys e1)(hk:Jj keys.toList kz)(hlen:kz.length=vs.length)(hz:vs.length<Ap)(h:∀h' tk out c,Gq h0 h'->h'.get? a=some (Ci "list" out c)->KskOut false kz vs out.toList->P (.done (.ret .none)) { s with heap:=h',toks:=tk }):wpAny (model prog w) A (ksk_end a false vs.toArray e1 (.ref kS) keys) P E s:=by
 have l1:=hk.length
 rw[Ay] at l1
 have vz:vs.toArray.size=vs.length:=Am
 have l2:(keys.zip vs.toArray).size=vs.length:=by rw[Array.size_zip,vz]; omega
 unfold ksk_end
 dsimp only
 rw[if_neg Bm]
 by_cases h2:vs.toArray.size<2
 ·rw[if_pos h2,if_pos h2]
  refine Aa (Aj ?_)
  rw[StateT.run_pure]
  refine Aa (Aj ?_)
  refine j4 F hk hlen hz (Array.Perm.refl _) (λi j hij hj=>?_) rfl h
  have hj':j<(keys.zip vs.toArray).size:=hj
  rw[l2] at hj'
  rw[Am] at h2
  obtain rfl:i=j:=by omega
  exact Hq _
 ·rw[if_neg h2,if_neg h2]
  rw[Am] at h2
  rw[ksk_kind hk (by omega)]
  refine Aa (Aj ?_)
  refine Aa (Eh (bG pQ (a₀:=keys.zip vs.toArray) (st:=Tx Rq (keys.zip vs.toArray) #[] 7 none) (E:=E)
   (Q:=λ_ st'=>Good0 Rq (keys.zip vs.toArray) st'/\Po K5 (arrOf st') 0 (keys.zip vs.toArray).size) ⟨rfl,rfl,Array.Perm.refl _⟩ (ksk_intKeys hk) rfl (by omega) λst' g as=>⟨g,as⟩) ?_ λ_ _ z=>z)
  (rintro ⟨⟨⟩,st'⟩ s' q_; obtain ⟨rfl,g,as⟩ := q_)
  refine j4 F hk hlen hz g.perm (λi j hij hj=>?_) g.fail h
  rw[g.size] at hj
  have q:=as i j (Ct _) hij hj
  unfold le K5 at q
  have xi:∀k,k<(arrOf st').size->K (arrOf st') k=numOf (X (arrOf st') k).1:=λk hk=>by
   rw[K_eq hk]
   have e1:=Uz (xs:=arrOf st') (i:=k) hk
   rw[dS hk] at e1
   rw[Bk e1]
  have gs:(arrOf st').size=_:=g.size
  have hj0:j<(arrOf st').size:=by rw[gs]; exact hj
  refine Eq.symm (xi i (by omega))▸Eq.symm (xi j hj0)▸?_
  simp only[decide_eq_false_iff_not] at q
  omega
theorem o5{f:Value}{h0:Heap}{e1:Nat}(F:Fresh2 h0 s.heap a kS #[] e1)(hlen:kz.length=vs.length)(hz:vs.length<Ap)(turn:∀(i:Nat) (v:Value) (k:Int),vs[i]? = some v->kz[i]? = some k->∀(h:Heap) (tk:Nat),Gq h0 h->∀R:Value->Ag->Prop,(∀t h2 tk2,Gq h h2->R (.int k t) { s with heap:=h2,toks:=tk2 })->wpAny (model prog w) A (call f [v]) R (λ_ _=>False) { s with heap:=h,toks:=tk })(h:∀h' tk out c,Gq h0 h'->h'.get? a=some (Ci "list" out c)->KskOut false kz vs out.toList->P (.done (.ret .none)) { s with heap:=h',toks:=tk }):wpAny (model prog w) A (ksk_rest a f false vs.toArray e1 (.ref kS)) P E s:=by
 unfold ksk_rest
 refine Aa (Kx ?_)
 rw[<- Ue]
 simp only[List.toList_toArray]
 refine Aa (ksk_fold (λi s'=>∃h' tk kA,s'={ s with heap:=h',toks:=tk }/\Fresh2 h0 h' a kS kA e1/\Jj kA.toList (kz.take i)) vs 0 s ⟨s.heap,s.toks,#[],rfl,F,by simpa using IntsAre.nil⟩ ?_ ?_)
 ·(intro j x s' hx q_; obtain ⟨h',tk,kA,rfl,F',hk⟩ := q_)
  simp only[Nc] at hk ⊢
  have hj:j<vs.length:=(Al.mp hx).1
  obtain ⟨k,hkj⟩ : ∃k,kz[j]? = some k:=⟨_,An (by omega)⟩
  have l1:=hk.length
  rw[Ay,Cv] at l1
  refine Aa (Hh (Eh (turn j x k hx hkj h' tk F'.keep (λv s''=>∃t h2 tk2,v=.int k t/\s''={ s with heap:=h2,toks:=tk2 }/\Gq h' h2) λt h2 tk2 q=>⟨t,h2,tk2,rfl,rfl,q⟩) (λv s'' q=>?_) λ_ _ z=>z.elim))
  obtain ⟨t,h2,tk2,rfl,rfl,q⟩:=q
  dsimp only
  obtain ⟨ek,gk⟩:=F'.gk
  have gk2:=q _ _ gk
  refine Aa (Jd gk2 rfl ?_ (by omega) (by rw[Array.size_push]; omega))
  refine Aj ⟨rfl,_,_,kA.push (.int k t),rfl,⟨Pu (F'.keep.trans q) F'.nk,F'.na,F'.nk,F'.ne,((Cg h2 kS _).2 a F'.ne.symm).trans (q _ _ F'.ga),_,Iw gk2 (·.push (.int k t))⟩,?_⟩
  have e1:kz.take (j+1)=kz.take j++[k]:=by rw[Io,hkj]; rfl
  rw[Ko,e1]
  exact ksk_snoc hk
 ·(intro s' q_; obtain ⟨h',tk,kA,rfl,F',hk⟩ := q_)
  rw[Nc,Ed (by omega)] at hk
  obtain ⟨ek,gk⟩:=F'.gk
  refine Aa (Sn gk rfl ?_)
  exact X8 (s:={ s with heap:=h',toks:=tk }) F' hk hlen hz λh3 tk3 out c a1 a2 a3=>h h3 tk3 out c a1 a2 a3
theorem bT{f:Value}{l:Addr}{kw:List (Str×Value)}{Q:Value->Ag->Prop}(hl:s.heap.IsList l vs.toArray)(hlen:kz.length=vs.length)(hz:vs.length<Ap)(ha1:argsOk "sorted" ⟨[.ref l],kw⟩)(ha2:∀x,argsOk "list.sort" ⟨[.ref x],kw⟩)(ht:∀x,Builtin.«list.sort» ⟨[.ref x],kw⟩=ksk_tree x f false)(turn:∀(i:Nat) (v:Value) (k:Int),vs[i]? = some v->kz[i]? = some k->∀(h:Heap) (tk:Nat),Gq s.heap h->∀R:Value->Ag->Prop,(∀t h2 tk2,Gq h h2->R (.int k t) { s with heap:=h2,toks:=tk2 })->wpAny (model prog w) A.in1.in1 (call f [v]) R (λ_ _=>False) { s with heap:=h,toks:=tk })(h:∀D h' tk out c,Gq s.heap h'->s.heap.objs.size<=D->h'.get? D=some (Ci "list" out c)->KskOut false kz vs out.toList->Q (.ref D) { s with heap:=h',toks:=tk }):wpAny (model prog w) A (call (.builtin "sorted") [.ref l] kw) Q E s:=by
 refine vR kind_sorted plain_sorted entry_sorted ha1 ?_
 unfold Ud
 refine Aa (m:=checkCount "sorted" 1 1 _) (Aj (Aa (collect_list hl (Aa (Mq ?_ (by omega))) (by omega))))
 have z1:((s.heap.push (Ci "list" #[] 0)).update s.heap.objs.size (By (·++vs.toArray))).objs.size=s.heap.objs.size+1:=by rw[Ga,Pd]
 have g1:(((s.heap.push (Ci "list" #[] 0)).update s.heap.objs.size (By (·++vs.toArray))).push (Ci "list" vs.toArray 0)).get? (s.heap.objs.size+1)=some (Ci "list" vs.toArray 0):=by
  rw[<- z1]
  exact Ar _ rfl
 have kept:Gq s.heap (((s.heap.push (Ci "list" #[] 0)).update s.heap.objs.size (By (·++vs.toArray))).push (Ci "list" vs.toArray 0)):=λb o e =>
  Ae _ (((Cg _ _ _).2 b (Br (Ba e))).trans (Ae _ e))
 show wpAny _ _ _ _ _ { s with heap:=((s.heap.push (Ci "list" #[] 0)).update s.heap.objs.size (By (·++vs.toArray))).push (Ci "list" vs.toArray 0) }
 rw[z1]
 generalize hH:((s.heap.push (Ci "list" #[] 0)).update s.heap.objs.size (By (·++vs.toArray))).push (Ci "list" vs.toArray 0)=H1 at g1 kept
 have none_:∀b,s.heap.objs.size<=b->s.heap.get? b=none:=λb hb=>Sh hb
 refine Aa (Cz (wpAny_call_entry_kw slot_list_sort ⟨_,g1,rfl⟩ entry_list_sort ?_ (ha2 _)))
 show wpAny (model prog w) A.in1.in1 (Builtin.«list.sort» ⟨[.ref (s.heap.objs.size+1)],kw⟩) _ _ _
 rw[ht]
 unfold ksk_tree
 have lt:s.heap.objs.size+1<H1.objs.size:=Ba g1
 obtain ⟨ep,g2⟩ : ∃ep,(H1.update (s.heap.objs.size+1) (By λ_=>(#[]:Array Value))).get? (s.heap.objs.size+1)=some (Ci "list" #[] ep):=⟨_,Iw g1 λ_=>#[]⟩
 have k2:Gq s.heap (H1.update (s.heap.objs.size+1) (By λ_=>(#[]:Array Value))):=Pu kept (none_ _ (by omega))
 refine Aa (Sn g1 rfl (Aa (Jd g1 rfl ?_ (by rw[Am]; omega) (Ct _))))
 refine Aa (Qk g2 rfl (Aa (Pc (Aa (Mq (Cz ?_) (Ct _))) (by show vs.length<=_; omega))))
 have e3:((H1.update (s.heap.objs.size+1) (By λ_=>(#[]:Array Value))).push (Ci "tuple" vs.toArray 0)).objs.size=H1.objs.size+1:=by rw[Pd,Ga]
 have sz:s.heap.objs.size<H1.objs.size:=by omega
 refine o5 (s:={ s with heap:=((H1.update (s.heap.objs.size+1) (By λ_=>(#[]:Array Value))).push (Ci "tuple" vs.toArray 0)).push (Ci "list" #[] 0) }) (h0:=s.heap) (a:=s.heap.objs.size+1)
  (kS:=((H1.update (s.heap.objs.size+1) (By λ_=>(#[]:Array Value))).push (Ci "tuple" vs.toArray 0)).objs.size)
  ⟨λb o e=>Ae _ (Ae _ (k2 b o e)),none_ _ (by omega),none_ _ (by rw[e3]; omega),λz=>(by have:=e3.symm.trans z; omega),Ae _ (Ae _ g2),0,Ar _ rfl⟩ hlen hz turn ?_
 intro h' tk out c a1 a2 a3
 exact ⟨_,rfl,Aj ⟨_,rfl,h _ h' tk out c a1 (Sr _) a2 a3⟩⟩
end
end Ts
namespace DL
open PySem PySem.Spec PyProof.Rows L2 Nd Ts
def iP(K:PySem.W.Frag):V->Hp->VK->Prop:=λx H Q=>∃(p:Addr) (rs:List Addr) (kf:Addr->Nat),x=.ref p/\rs.length<Ap/\Kq K H p (rs.map V.ref)/\(∀r∈rs,∃ys,Sj K H r ys/\ys.length=kf r) /\
 ∀(a:Addr) (rs':List Addr),H a=none->rs'.Perm rs->rs'.Pairwise (λx y=>kf x<=kf y)->Q (.ref a) (upd H a (.lst (rs'.map V.ref)))
theorem yS{a b:List Addr}(h:(a.map Ax).Perm (b.map Ax)):a.Perm b:=by
 have:=h.map (λx:Value=>match x with | .ref a=>a | _=>0)
 rw[Bw,Bw] at this
 simpa [Function.comp_def] using this
theorem fI{rs:List Addr}{kf:Addr->Nat}{out:List Value}(h:KskOut false (rs.map λr=>(kf r:Int)) (rs.map Ax) out):∃rs':List Addr,out=rs'.map Ax/\rs'.Perm rs/\rs'.Pairwise λx y=>kf x<=kf y:=by
 obtain ⟨ps,h1,rfl,h3⟩:=h
 have e:(rs.map λr=>(kf r:Int)).zip (rs.map Ax)=rs.map λr=>((kf r:Int),Ax r):=List.zip_map' ..
 rw[e] at h1
 have each:∀p∈ps,∃r∈rs,p=((kf r:Int),Ax r):=λp hp=>by
  obtain ⟨r,hr,e⟩:=Bt.mp (h1.mem_iff.mp hp)
  exact ⟨r,hr,e.symm⟩
 have ex:∀l:List (Int×Value),(∀p∈l,∃r∈rs,p=((kf r:Int),Ax r))->∃rs':List Addr,l=rs'.map λr=>((kf r:Int),Ax r):=by
  intro l
  induction l with
  | nil=>exact λ_=>⟨[],rfl⟩
  | cons p l ih =>
   intro hl
   obtain ⟨r,_,rfl⟩:=hl p Ab
   obtain ⟨rs',rfl⟩:=ih λx hx=>hl x (Af _ hx)
   exact ⟨r::rs',rfl⟩
 obtain ⟨rs',rfl⟩:=ex ps each
 have p2:=h1.map Prod.snd
 rw[Bw,Bw] at p2
 refine ⟨rs',by rw[Bw]; rfl,yS p2,?_⟩
 have h4:(rs'.map λr=>((kf r:Int),Ax r)).Pairwise (λp q=>p.1<=q.1):=h3
 rw[Ip] at h4
 exact h4.imp λq=>by simpa using q
section
variable{X:Cx}{pins:List (Addr×Obj)}{σ:List (Option V)}{H:Hp}{s:Ag}
theorem jK{x:V}{u:Value}{Q:VK}(I:Inv X pins σ H s)(ru:RelV x u)(h:iP X.K x H Q):wpAny (model X.prog X.w) X.A (call (.builtin "sorted") [u] [(El "key",.builtin "len")]) (EP X pins σ Q) X.xe s:=by
 obtain ⟨p,rs,kf,rfl,hz,hp,hx,q⟩:=h
 cases ru
 obtain ⟨its,rv,pl,_⟩:=I.list hp
 have e:=Qz rv
 subst e
 have hs:Ap=16777216:=Ih
 refine bT (vs:=rs.map Ax) (kz:=rs.map λr=>(kf r:Int)) (f:=.builtin "len") pl.isList (by rw[Ac,Ac]) (by rw[Ac]; exact hz) (ksk_s1 _ _) (λx=>ksk_l1 _ _) (λx=>ksk_t4 _ _) (λi v k hv hk h tk hkeep R hR=>?_) λD h' tk out c k1 k2 k3 k4=>?_
 ·rw[Aw] at hv hk
  cases hr:rs[i]? with
  | none=>rw[hr] at hv; cases hv
  | some r =>
   rw[hr] at hv hk
   cases hv
   cases hk
   obtain ⟨ys,hq,hy⟩:=hx r (Aq hr)
   obtain ⟨its,r',pl',hz'⟩:=I.tuple hq
   obtain ⟨o,ho,hcl,nn,hd⟩:=pl'
   have hlen:=r'.length
   have hil:IsTup h r its.toArray:=⟨o,hkeep r o ho,hcl,nn,hd⟩
   refine len_tuple hil (by simp only[Am]; omega) ?_
   simp only[Am]
   rw[<- hlen,hy]
   exact hR _ h _ (Gq.refl h)
 ·obtain ⟨rs',e1,p1,p2⟩:=fI k4
  have eo:out=(rs'.map Ax).toArray:=by rw[<- e1,Array.toArray_toList]
  subst eo
  refine ⟨.ref D,upd H D (.lst (rs'.map V.ref)),I.laid (t':=tk) k1 k2 ⟨?_,_,c,Um rs',k3⟩,rfl,q D rs' (I.hok.fresh k2) p1 p2⟩
  rw[Ac,p1.length_eq]
  omega
variable{e:Expr}{t:TA}{p1 p2 kp pos:Pos}
theorem rA(hg:Gl X "sorted")(hm:X.mg "sorted" = none)(hg2:Gl X "len")(hm2:X.mg "len" = none)(ha:PA X [e] t)(hs:Bp [e] X.env=[(false,eval e X.env)]:=by rfl):PE X (.Call (.Name "sorted" p1) [e] [⟨some "key",.Name "len" p2,kp⟩] pos) (Q4 (λxs H Q=>∃x,xs=[x]/\iP X.K x H Q) t):=by
 intro pins s σ H Q I h
 refine Fn (Ll I hg hm (u:=.builtin "sorted") (by decide +kernel) ?_)
 refine Mk (Fu (ha pos pins s σ H _ I h) λus s1 ⟨vs,H1,I1,r1,q1⟩=>?_) (by rw[hs]; rfl) (by rw[hs]; rfl)
 obtain ⟨x,rfl,q⟩:=q1
 obtain ⟨u,rfl,ru⟩:=vals1 r1
 refine kws_cons (Ll I1 hg2 hm2 (u:=.builtin "len") (by decide +kernel) (kws_nil ?_))
 exact jK I1 ru q
end
def Wj:DC:=λxs P=>match xs with
 | [.dat _ (.list ds)]=>∃ws:List (List Int),ds=ws.map Ck/\ws.length<Ap/\∀L:List (List Int),L.Perm ws->L.Pairwise (λx y=>x.length<=y.length)->P (.dat .ow (.list (L.map Ck)))
 | _=>False
section
variable{K:PySem.W.Frag}
theorem sC:Nt K (λxs H Q=>∃x,xs=[x]/\iP K x H Q) Wj:=by
 intro H0 X n S T As us H Q P eu hA hd k
 unfold Wj at hd
 split at hd
 ·rename_i ex
  obtain ⟨v,F,rfl,hA⟩:=Gw eu hA ex
  obtain ⟨ws,rfl,hz0,h1⟩:=hd
  obtain ⟨a,xs,G,rfl,ha,ra,rfl,hz⟩:=(hA.told mem_mid).list_inv
  obtain ⟨rs,rfl,rfl,rfl,c1,c2⟩:=Xm ra rfl
  rw[Ac] at hz0
  refine ⟨_,rfl,a,rs,λr=>(yE H r).length,rfl,hz0,Kq.of ha,λr hr=>⟨_,Sj.of (c1 r hr),Ac ..⟩,λq rs' nq pe pw=>?_⟩
  refine k _ _ _ _ (hA.drop.newI (Xu λr hr=>c2 r (pe.mem_iff.mp hr)) (Wr _) (by rw[Ac,Ac,pe.length_eq]; simpa using hz) nq .ow) (h1 _ (pe.map _) (Ip.mpr pw))
 ·exact hd.elim
variable{X:Cx}{e:Expr}{da:DA}{p1 p2 kp pos:Pos}
theorem sP(hg:Gl X "sorted")(hm:X.mg "sorted" = none)(hg2:Gl X "len")(hm2:X.mg "len" = none)(ha:jM X [e] da)(hs:Bp [e] X.env=[(false,eval e X.env)]:=by rfl):Fb X (.Call (.Name "sorted" p1) [e] [⟨some "key",.Name "len" p2,kp⟩] pos) (K6 Wj da):=PE.imp (rA hg hm hg2 hm2 ha hs) (lC sC)
end
end DL
namespace DL
open PySem PySem.Spec PyProof.Rows L2 Nd
def Od(i:Int):Gn:=Pa i
def Nj(ks:List (Int×Ad))(w:Int):Option Ad:=(ks.find? λp=>decide (p.1=w)).map (·.2)
def gB(ks:List (Int×Ad))(w:Int)(d:Ad):List (Int×Ad) :=
 if (ks.any λp=>decide (p.1=w))=true then ks.map (λp=>if p.1=w then (p.1,d) else p) else ks++[(w,d)]
theorem Tu{a b:List (Int×Ad)}(h:Vy a=Vy b):a=b:=Rb (λx y e=>by
 obtain ⟨e1,e2⟩:=Prod.mk.inj e
 exact Prod.ext (PyData.int.inj e1) e2) (Dx h).2
theorem Ww{a b:Int}(h:Od a=Od b):a=b:=Sum.inl.inj h
section
variable{K:PySem.W.Frag}{H H':Hp}
structure IRel(K:PySem.W.Frag)(H:Hp)(kv:List (Gn×V))(ks:List (Int×Ad)):Prop where
 key:kv.map (·.1)=ks.map λp=>Od p.1
 val:RdFs K H (kv.map (·.2)) (ks.map (·.2)) []
theorem RdF.dicI_inv{v:V}{X:List (Ad×Ad)}{F:List Addr}(h:RdF K H v (.dict X) F)(hX:nC X=true:=by first | rfl | assumption):∃a kv ks,v=.ref a/\X=Vy ks/\H a=some (.dK kv)/\IRel K H kv ks/\F=[a]:=by
 cases h with
 | dic h e' hs=>cases hX
 | dnm h e' hs=>cases hX
 | dik h e' hs=>exact ⟨_,_,_,rfl,rfl,h,⟨e',hs⟩,rfl⟩
theorem RdF.int_at{v:V}{i:Int}{F:List Addr}(h:RdF K H v (.int i) F):v=kV (Od i):=by
 cases h; rfl
theorem tE{kv:List (Gn×V)}{ks:List (Int×Ad)}(r:IRel K H kv ks):kv.length=ks.length:=by
 have:=congrArg Fl r.key
 simpa using this
theorem gS(w:Int):∀{kv:List (Gn×V)} {ks:List (Int×Ad)},IRel K H kv ks->(Rl kv (Od w)=none/\Nj ks w=none)\/∃v d,Rl kv (Od w)=some v/\Nj ks w=some d/\RdF K H v d []
 | [],[],_=>.inl ⟨rfl,rfl⟩
 | [],_::_,r=>by cases r.key
 | _::_,[],r=>by cases r.key
 | (k,v)::kv,(u,d)::ks,r=>by
  obtain ⟨e1,e2⟩:=Dx r.key
  have e1:k=Od u:=e1
  obtain ⟨r1,r2⟩:=RdFs.cons_nil r.val rfl
  by_cases h:u=w
  ·subst h e1
   refine .inr ⟨v,d,Pz rfl,by simp [Nj],r1⟩
  ·have hk:¬ k=Od w:=λz=>h (Ww (e1.symm.trans z))
   rw[Px hk,show Nj ((u,d)::ks) w=Nj ks w by simp [Nj,h]]
   exact gS w ⟨e2,r2⟩
theorem uN(w:Int){kv:List (Gn×V)}{ks:List (Int×Ad)}(r:IRel K H kv ks):(kv.any λp=>decide (p.1=Od w))=(ks.any λp=>decide (p.1=w)):=by
 have h1:(kv.any λp=>decide (p.1=Od w))=((kv.map (·.1)).any λk=>decide (k=Od w)):=by rw[Qm]; rfl
 rw[h1,r.key,Qm]
 congr 1
 funext p
 exact decide_eq_decide.mpr ⟨λz=>Ww z,λz=>by show Od p.1=Od w; rw[z]⟩
theorem aQ(w:Int){v:V}{d:Ad}(rv:RdF K H v d []):∀{kv:List (Gn×V)} {ks:List (Int×Ad)},IRel K H kv ks->IRel K H (kv.map λp=>if p.1=Od w then (p.1,v) else p) (ks.map λp=>if p.1=w then (p.1,d) else p)
 | [],[],r=>r
 | [],_::_,r=>by cases r.key
 | _::_,[],r=>by cases r.key
 | (k,v')::kv,(u,d')::ks,r=>by
  obtain ⟨e1,e2⟩:=Dx r.key
  have e1:k=Od u:=e1
  obtain ⟨r1,r2⟩:=RdFs.cons_nil r.val rfl
  have ih:=aQ w rv (kv:=kv) (ks:=ks) ⟨e2,r2⟩
  rw[Au,Au]
  by_cases h:u=w
  ·rw[if_pos (show k=Od w by rw[e1,h]),if_pos h]
   exact ⟨by rw[Au,Au,ih.key]; exact congrArg (·::_) e1,RdFs.cons (F:=[]) (G:=[]) rv ih.val⟩
  ·have hk:¬ k=Od w:=λz=>h (Ww (e1.symm.trans z))
   rw[if_neg (show ¬ (k,v').1=Od w from hk),if_neg (show ¬ (u,d').1=w from h)]
   exact ⟨by rw[Au,Au,ih.key]; exact congrArg (·::_) e1,RdFs.cons (F:=[]) (G:=[]) r1 ih.val⟩
theorem rE(w:Int){v:V}{d:Ad}(rv:RdF K H v d []){kv:List (Gn×V)}{ks:List (Int×Ad)}(r:IRel K H kv ks):IRel K H (Lj kv (Od w) v) (gB ks w d):=by
 unfold Lj gB
 rw[uN w r]
 split
 ·exact aQ w rv r
 ·refine ⟨by rw[Bj,Bj,r.key]; rfl,?_⟩
  rw[Bj,Bj]
  exact r.val.snoc rv
end
def j5:DE:=λδ P=>P (.dat .ow (.dict (Vy []))) δ
theorem At.newI9{K:PySem.W.Frag}{H0 H:Hp}{X:Addr->Prop}{n:Nat}{S T:List Ent}{p:Addr}(h:At K H0 X n (S++T) H)(hp:H p=none):At K H0 X n (S++⟨some (.ref p),.dat .ow (.dict (Vy [])),[p]⟩::T) (upd H p (.dK [])):=by
 have s1:=Di hp (.dK [])
 refine ((h.grow (n':=n) s1 (Ai _)).push (e:=⟨some (.ref p),.dat .ow (.dict (Vy [])),[p]⟩) ⟨_,rfl,.dik Cr rfl .nil,λ_=>Bx.mpr ⟨Az,Cs⟩,λz=>nomatch z⟩ (λf hf=>?_) λa ha=>?_).tomid
 ·have nf:=h.free hp f hf
  refine ⟨λ_ a ha z=>?_,λ_ a ha z=>?_⟩
  ·rw[Ah.mp ha] at z
   exact nf z
  ·rw[Ah.mp z] at ha
   exact nf (Fh _ _ ha)
 ·rw[Ah.mp ha]
  exact .inl (h.new0 hp)
theorem wA{X:Cx}{pos:Pos}:Fb X (.Dict [] [] pos) j5:=by
 refine PE.imp rY λσ H Q h=>?_
 obtain ⟨H0,Y,S,T,δ,P,rfl,hS,hA,hd,k⟩:=h
 exact λp hp=>k _ δ _ _ S _ rfl hS (hA.newI9 hp) hd
theorem At.writeI9{K:PySem.W.Frag}{H0 H:Hp}{X:Addr->Prop}{n:Nat}{E:List Ent}{v:Option V}{ks ks':List (Int×Ad)}{a:Addr}{kv':List (Gn×V)}(h:At K H0 X n (⟨v,.dat .ow (.dict (Vy ks)),[a]⟩::E) H)(hv:v=some (.ref a))(np:∀e∈E,Mp e.x=false)(r:IRel K H kv' ks'):At K H0 X n (⟨v,.dat .ow (.dict (Vy ks')),[a]⟩::E) (upd H a (.dK kv')):=by
 obtain ⟨w,e1,rd,hn,ht⟩:=h.ok _ Ab
 obtain ⟨b,kv,ks0,e2,ek,ha,_,eF⟩:=rd.dicI_inv
 have eF':[a]=[b]:=eF
 cases eF'
 have hs:=Bd.mp h.sep
 have kp:∀{F':List Addr},a∉F'->Kp F' H (upd H a (.dK kv')):=λ{F'} hF b o q z=>by
  have : b≠a:=by
   rintro rfl
   rw[ha] at q
   cases q
   rcases z with z | z
   ·exact hF z
   ·rcases z with ⟨_,z⟩ | ⟨_,_,z⟩ <;> cases z
  rw[Cn this]
  exact q
 have n0:H0 a=none:=by
  rcases h.new _ Ab a Ab with z | z
  ·exact z
  ·cases z.2
 refine ⟨λf hf=>?_,Bd.mpr ⟨λf hf=>⟨λhq c hc=>(hs.1 f hf).1 (.inl (np f hf)) c hc,λhq c hc=>(hs.1 f hf).2 (.inl rfl) c hc⟩,hs.2⟩,λf hf=>?_,λb o nx q=>?_,λb o q=>?_,λb hb=>?_⟩
 ·rcases Ak.mp hf with rfl | hf
  ·exact ⟨.ref a,hv,.dik Cr r.key (r.val.kp (kp Az)),λ_=>Bx.mpr ⟨Az,Cs⟩,λz=>nomatch z⟩
  ·exact (h.ok f (Af _ hf)).kp (kp ((hs.1 f hf).1 (.inl (np f hf)) a Ab)) (Ai _)
 ·rcases Ak.mp hf with rfl | hf
  ·exact λc hc=>h.new _ Ab c hc
  ·exact h.new f (Af _ hf)
 ·rw[Cn (Da q n0)]
  exact h.same b o nx q
 ·rw[Cn (Da q n0)]
  exact h.dom b o q
 ·obtain ⟨z,c,k,f,h1,h2⟩:=h.xd b hb
  refine ⟨z,c,k,f,(Cn ?_).trans h1,h2⟩
  rintro rfl
  exact z n0
theorem cV{K:PySem.W.Frag}{H0 H:Hp}{X:Addr->Prop}{S T:List Ent}{δ:DS}{i:Nat}{ks ks':List (Int×Ad)}(hS:Sl S δ)(hT:∀e∈T,Mp e.x=false)(hA:At K H0 X δ.n (S++T) H)(hi:δ.sl[i]? = some (.dat .ow (.dict (Vy ks))))(np:npk δ.sl=true):∃a kv,(vs S)[i]? = some (some (.ref a))/\H a=some (.dK kv)/\IRel K H kv ks/\∀kv',IRel K H kv' ks'->∃S',vs S'=vs S/\Sl S' ⟨δ.sl.set i (.dat .ow (.dict (Vy ks'))),δ.n⟩/\At K H0 X δ.n (S'++T) (upd H a (.dK kv')):=by
 obtain ⟨ent,e2,e3⟩:=Hf hS hi
 have hm:ent∈S:=Aq e2
 obtain ⟨u,x,F⟩:=ent
 have e3':x=.dat .ow (.dict (Vy ks)):=e3
 subst e3'
 obtain ⟨v,hv,rd,_⟩:=hA.ok _ (Av _ hm)
 obtain ⟨a,kv,ks0,rfl,ek,ha,rel,eF⟩:=rd.dicI_inv
 obtain rfl:=Tu ek
 have eF':F=[a]:=eF
 subst eF'
 refine ⟨a,kv,by rw[Lq e2]; exact congrArg some hv,ha,rel,λkv' r=>?_⟩
 have hn:=dD hS np
 have h1:=(hA.perm ((Jq e2).append_right T)).writeI9 (ks':=ks') (kv':=kv') hv (λe he=>?_) r
 ·refine ⟨S.set i ⟨u,.dat .ow (.dict (Vy ks')),[a]⟩,?_,?_,h1.perm ((Oa e2).append_right T).symm⟩
  ·unfold vs
   rw[Ek]
   apply Fq
   intro j
   rw[Iq]
   split
   ·rename_i hij
    subst hij
    rw[Aw,e2]
    split
    ·rfl
    ·rename_i hj
     rw[Ac] at hj
     exact absurd (Al.mp e2).1 hj
   ·rfl
  ·unfold Sl at hS ⊢
   rw[Ek,hS]
 ·rcases Bi.mp he with he | he
  ·exact hn e ((Rn S i).subset he)
  ·exact hT e he
def iputB(i:Nat)(y z:DV)(δ:DS)(D:DEnds):Prop:=match δ.sl[i]?,y,z with
 | some (.dat .ow (.dict X)),.dat _ e,.dat _ k=>npk δ.sl=true/\imm e=true/\∃ks w,X=Vy ks/\k=.int w/\ks.length<1000000/\D.nx ⟨δ.sl.set i (.dat .ow (.dict (Vy (gB ks w e)))),δ.n⟩
 | _,_,_=>False
def isIct:Option DV->Bool
 | some (.dat _ (.dict X))=>nC X
 | _=>false
def zO(i:Nat)(dk de:DE):DB:=λD δ=>de δ λy δ1=>isIct δ1.sl[i]? = true/\dk δ1 λz δ2=>iputB i y z δ2 D
section
variable{X:Cx}{o i e:Expr}{dk de:DE}{apos cpos pos pos':Pos}{n:Nat}
theorem vK{K:PySem.W.Frag}{H0 H:Hp}{Y:Addr->Prop}{S T:List Ent}{δ:DS}(hS:Sl S δ)(hA:At K H0 Y δ.n (S++T) H)(hi:isIct δ.sl[n]? = true):∃a kv,(vs S)[n]? = some (some (.ref a))/\H a=some (.dK kv):=by
 cases q:δ.sl[n]? with
 | none=>rw[q] at hi; cases hi
 | some x =>
  rw[q] at hi
  obtain ⟨ent,e2,e3⟩:=Hf hS q
  obtain ⟨u,y,F⟩:=ent
  have e3':y=x:=e3
  subst e3'
  have hm:(⟨u,y,F⟩ : Ent)∈S:=Aq e2
  match y,hi with
  | .dat m (.dict X),hi =>
   have hX:nC X=true:=hi
   obtain ⟨v,hv,rd,_⟩:=hA.ok _ (Av _ hm)
   obtain ⟨a,kv,ks,rfl,_,ha,_⟩:=rd.dicI_inv
   exact ⟨a,kv,by rw[Lq e2]; exact congrArg some hv,ha⟩
theorem vS(hu:X.A.units+64<cLine)(ho:PE X o (Xy n))(hi:Fb X i dk)(he:Fb X e de)(hs:Lc e (some (.Subscript o i pos')) pos.line X.env=pure false:=by rfl):nM X (.Assign [.Subscript o i pos'] e pos) (zO n dk de):=by
 refine PS.impD (mD (S5 hu) ho hi he hs) λD σ H h=>?_
 obtain ⟨H0,Y,S,T,δ,P,rfl,hS,hT,hA,hd,k1,k2,k3,k4⟩:=h
 refine ⟨H0,Y,S,T,δ,_,rfl,hS,hA,hd,λy δ1 v F S1 H1 e1 e2 hA1 p1=>?_⟩
 obtain ⟨p1,p2⟩:=p1
 obtain ⟨a,kv,hv,ha⟩:=vK e2 hA1.drop p1
 rw[e1] at hv
 refine ⟨.ref a,hv,H0,Y,S1,⟨some v,y,F⟩::T,δ1,_,e1,e2,hA1,p2,λz δ2 w G S2 H2 e3 e4 hA2 p3=>?_⟩
 unfold iputB at p3
 split at p3
 ·rename_i X0 m1 d m2 k hsl
  obtain ⟨p3,p4,ks,u,rfl,rfl,p5,p6⟩:=p3
  obtain rfl:=(hA2.told mem_mid).int_at
  have r:=hA2.told Ee
  obtain rfl:=r.imm p4
  obtain ⟨a',kv',g1,g2,g3,g4⟩:=cV (ks':=gB ks u d) e4 hT hA2.drop2 hsl p3
  rw[e3,hv] at g1
  cases g1
  obtain ⟨S3,h1,h2,h3⟩:=g4 (Lj kv' (Od u) v) (rE u r g3)
  refine ⟨a,_,rfl,yO.k g2 (by rw[tE g3]; exact Cd p5 (nO (n:=1000000) (Ai _))),?_⟩
  rw[<- e3,<- h1]
  exact k1 ⟨_,_⟩ S3 _ h2 h3 p6
 ·exact p3.elim
end
def lW(x y z:DV)(δ:DS)(P:DV->DS->Prop):Prop:=match x,y,z with
 | .dat _ (.dict X),.dat _ k,.dat _ e=>∃(ks:List (Int×Ad)) (w:Int),X=Vy ks/\k=.int w/\imm e=true/\P (.dat .ow ((Nj ks w).getD e)) δ
 | _,_,_=>False
def sE:DV->Bool
 | .dat _ (.dict X)=>nC X
 | _=>false
def uZ(da dk dz:DE):DE:=λδ P=>da δ λx δ1=>sE x=true/\dk δ1 λy δ2=>dz δ2 λz δ3=>lW x y z δ3 P
section
variable{K:PySem.W.Frag}
theorem wV{da dk dz:DE}:∀σ H Q,LE K (uZ da dk dz) σ H Q->qL (LE K da) (LE K dk) (LE K dz) σ H Q:=by
 intro σ H Q h
 obtain ⟨H0,Y,S,T,δ,P,rfl,hS,hA,hd,k⟩:=h
 refine ⟨H0,Y,S,T,δ,_,rfl,hS,hA,hd,λx δ1 v F S1 H1 e1 e2 hA1 p1=>?_⟩
 obtain ⟨hx,p1⟩:=p1
 match x,hx with
 | .dat m (.dict X),hx =>
  have hX:nC X=true:=hx
  obtain ⟨a,kv,ks',rfl,rfl,ha,rel,_⟩:=(hA1.told mem_mid).dicI_inv
  refine ⟨a,rfl,.inl ⟨kv,.inl ha⟩,H0,Y,S1,_::T,δ1,_,e1,e2,hA1,p1,λy δ2 v2 F2 S2 H2 e3 e4 hA2 p2=>?_⟩
  refine ⟨H0,Y,S2,_::_::T,δ2,_,e3,e4,hA2,p2,λz δ3 v3 F3 S3 H3 e5 e6 hA3 p3=>?_⟩
  unfold lW at p3
  split at p3
  ·rename_i hx'
   obtain ⟨ks,w,ek,rfl,im,p⟩:=p3
   have m3:∀{e f g:Ent},g∈S3++e::f::g::T:=λ{e f g}=>Ao _ (Af _ (Af _ Ab))
   obtain ⟨a',kv',ks2,ea,ek2,ha',rel',_⟩:=(hA3.told m3).dicI_inv
   cases ea
   cases hx'
   obtain rfl:=Tu ek2
   obtain rfl:=Tu ek
   obtain rfl:=(hA3.told Ee).int_at
   have r:=hA3.told mem_mid
   obtain rfl:=r.imm im
   refine ⟨_,eD.k ha',?_⟩
   rcases gS w rel' with ⟨h1,h2⟩ | ⟨v',d',h1,h2,h3⟩
   ·rw[h1]
    rw[h2] at p
    exact k _ δ3 _ [] S3 H3 e5 e6 (hA3.drop2.drop.pushI r) p
   ·rw[h1]
    rw[h2] at p
    exact k _ δ3 _ [] S3 H3 e5 e6 (hA3.drop2.drop.pushI h3) p
  ·exact p3.elim
end
section
variable{X:Cx}{o e f:Expr}{de dk dz:DE}{p apos cpos pos:Pos}
theorem lE(hu:X.A.units+64<cLine)(ho:Fb X o de)(he:Fb X e dk)(hf:Fb X f dz)(m:M2 X o "get" apos e f cpos):Fb X (.Call (.Attribute o "get" apos) [e,f] [] cpos) (uZ de dk dz):=PE.imp (pU (S5 hu) ho he hf m) wV
end
end DL
namespace Nd
open PySem PySem.Spec PyProof.Rows L2
def S9(bt:Nat->Nat->Bool)(P:Nat->Value->Prop)(j:Nat)(its:Array Value):Prop:=(j=0/\its=#[])\/∃i v,j=i+1/\P (argBest bt i) v/\its=#[v,v]
section
variable{prog:Bo}{w:World}{A:Co}{R:Result->Ag->Prop}{I:Addr}{fp wr:List Addr}{n:Nat}{P:Nat->Value->Prop}{St:Nat->Heap->Prop}
theorem oP(W:Walks prog w A.in1 I fp wr n P St)(bt:Nat->Nat->Bool)(hcmp:CmpOf prog w A.in1 .Gt P bt)(S:Addr)(hSf:S∉fp)(d:Value):∀(k j:Nat) (s:Ag) (its:Array Value) (c:Nat),n - j=k->j<=n->St j s.heap->S9 bt P j its->s.heap.get? S=some { cls:=.type "list",dict:=none,data:=.seq its c,slots:=#[] }->(∀v h' tk,(n=0->v=d)->(0<n->P (argBest bt (n - 1)) v)->(∀b o,b∉wr->b≠S->s.heap.get? b=some o->h'.get? b=some o)->R (.ok (.ret v)) { s with heap:=h',toks:=tk })->Mr (model prog w) A (.builtin "max.loop" ⟨[.ref I,.none,.ref S],[("default",d)]⟩) R s:=by
 have hSw:S∉wr:=λh=>hSf (W.sub _ h)
 have nm:(toString "max" ++ toString ".loop" : String) = "max.loop" := by decide
 intro k
 induction k with
 | zero =>
  intro j s its c hk hj hst hP hS hR
  have e:j=n:=by omega
  subst e
  refine Kt PySem.F.entry_max_loop ?_
  rw[Gp PySem.F.plain_max_loop _]
  refine Aa (m:=seqItems? (.ref S)) (Fc hS rfl ?_)
  refine Aa (m:=tryCatch (Ju (.ref I)) _) (Vm (W.done s _ _ hst λh' tk kp=>?_))
  rcases hP with ⟨z,rfl⟩ | ⟨i,v,z,pv,rfl⟩
  ·exact Aa (Kx (Aj (hR d h' tk (λ_=>rfl) (λq=>absurd q (by omega)) λb o h1 _ e=>kp b o h1 e)))
  ·refine Aa (m:=updateSeq S (λ_=>#[])) (wpAny_updateSeq (kp S _ hSw hS) rfl (Aa (Lb (Aj ?_))))
   exact hR v _ tk (λq=>by omega) (λ_=>by subst z; exact pv) λb o h1 h2 e=>(Ex _ _ (Ld h2)).trans (kp b o h1 e)
 | succ k ih =>
  intro j s its c hk hj hst hP hS hR
  have hlt:j<n:=by omega
  refine Kt PySem.F.entry_max_loop ?_
  rw[Gp PySem.F.plain_max_loop _]
  refine Aa (m:=seqItems? (.ref S)) (Fc hS rfl ?_)
  refine Aa (m:=tryCatch (Ju (.ref I)) _) (Vm (W.item j s _ _ hlt hst λv h' tk pv hst' kp=>?_))
  have hS':=kp S _ hSw hS
  rcases hP with ⟨z,rfl⟩ | ⟨i,vb,z,pb,rfl⟩
  ·subst z
   refine Aa (m:=updateSeq S (λ_=>#[v,v])) (wpAny_updateSeq hS' rfl ?_)
   rw[nm]
   refine Aj ⟨Km PySem.F.plain_max_loop _,ih 1 _ #[v,v] _ (by omega) (by omega) (W.frame _ _ _ hst' λb hb o e=>?_) (.inr ⟨0,v,rfl,pv,rfl⟩) (Ff _ hS' rfl) λv' h2 tk2 q1 q2 q3=>?_⟩
   ·exact (Ex _ _ (λh:S=b=>hSf (by rw[h]; exact hb))).trans e
   ·exact hR v' h2 tk2 q1 q2 λb o h1 h3 e=>q3 b o h1 h3 ((Ex _ _ (Ld h3)).trans (kp b o h1 e))
  ·subst z
   refine Aa (m:=tryCatch (Ql [v,v] (richCompare .Gt v vb >>= _)) _) (Vm (Cz (Aa (hcmp (i+1) (argBest bt i) v vb _ _ _ pv pb ?_))))
   refine Aa (Cz (Hb (Aa (Lb (Aj ?_)))))
   cases hb:bt (i+1) (argBest bt i) with
   | true =>
    simp only[if_true]
    refine Aa ?_
    refine wpAny_updateSeq hS' rfl (Aa (Lb ?_))
    rw[nm]
    refine Aj ⟨Km PySem.F.plain_max_loop _,ih (i+2) _ #[v,v] _ (by omega) (by omega) (W.frame _ _ _ hst' λb hb o e=>?_) (.inr ⟨i+1,v,rfl,by simp only[argBest,hb,if_true]; exact pv,rfl⟩) (Ff _ hS' rfl) λv' h2 tk2 q1 q2 q3=>?_⟩
    ·exact (Ex _ _ (λh:S=b=>hSf (by rw[h]; exact hb))).trans e
    ·exact hR v' h2 tk2 q1 q2 λb o h1 h3 e=>q3 b o h1 h3 ((Ex _ _ (Ld h3)).trans (kp b o h1 e))
   | false =>
    simp only[Bq,if_false]
    refine Aa (Lb ?_)
    rw[nm]
    refine Aj ⟨Km PySem.F.plain_max_loop _,ih (i+2) _ #[vb,vb] c (by omega) (by omega) hst' (.inr ⟨i+1,vb,rfl,by simp only[argBest,hb,Bq,if_false]; exact pb,rfl⟩) hS' λv' h2 tk2 q1 q2 q3=>?_⟩
    exact hR v' h2 tk2 q1 q2 λb o h1 h3 e=>q3 b o h1 h3 (kp b o h1 e)
end
theorem nQ(a v:Value):argsOk "max" ⟨[a],[(El "default",v)]⟩:=by unfold argsOk; kernel_rfl
section
variable{X:Cx}{pins:List (Addr×Obj)}{σ:List (Option V)}{H:Hp}{s:Ag}
def qF(K:PySem.W.Frag):V->V->Hp->VK->Prop:=λx d H Q=>∃(a:Addr) (ns:List Int),x=.ref a/\Kq K H a (ns.map V.int)/\(ns=[]->Q d H)/\∀M∈ns,(∀x∈ns,x<=M)->Q (.int M) H
theorem oR(hc:X.calm=true){x d:V}{u ud:Value}{Q:VK}(I:Inv X pins σ H s)(ru:RelV x u)(rd:RelV d ud)(h:qF X.K x d H Q):wpAny (model X.prog X.w) X.A (call (.builtin "max") [u] [(El "default",ud)]) (EP X pins σ Q) X.xe s:=by
 obtain ⟨p,ns,rfl,hp,q0,q⟩:=h
 cases ru
 obtain ⟨its,rv,pl,_⟩:=I.list hp
 obtain ⟨ps,rfl,rfl⟩:=Mc rv
 have hl:s.heap.IsList p (Lu ps.toArray):=by simpa [Lu] using pl.isList
 have nm:(toString "max" ++ toString ".loop" : String) = "max.loop" := by decide
 refine kmb_tree PySem.F.kind_max PySem.F.plain_max PySem.F.entry_max (nQ _ _) ?_
 refine Aa (m:=Rr "max" ["key", "default"] 0 ⟨[],[(El "default",ud)]⟩) (wpAny_of_eq (show Rr "max" ["key", "default"] 0 ⟨[],[(El "default",ud)]⟩=pure [none,some ud] from rfl) ?_)
 refine Aa (Aj (Aa (iter_intList hl λs₂ e st hfp hlI=>?_)))
 subst e
 refine Aa (Ei ?_)
 rw[nm]
 have W:=Walks.list (prog:=X.prog) (w:=X.w) (A:=X.A.in1) (I.ok.hd hc) s.heap.objs.size p hlI (Lu ps.toArray)
 have nf:=λhm=>Ew _ (hfp _ hm)
 refine Aj ⟨Km PySem.F.plain_max_loop _,oP W _ (CmpOf.ints_gt (numAt ps.toArray) (λ_ _=>intItems_at)) _ nf ud _ 0 _ #[] _ rfl (Ct _) (W.frame _ _ _ st λb _ o e=>Ae _ e) (.inl ⟨rfl,rfl⟩) (Ar _ rfl) λv h' tk q1 q2 q3=>?_⟩
 have kept:∀b o,s.heap.get? b=some o->h'.get? b=some o:=λb o e=>by
  have hb:=Ba e
  refine q3 b o (λz=>?_) (λz=>?_) (Ae _ (Ae _ e))
  ·rw[Ah.mp z] at hb
   exact Ew _ hb
  ·rw[z,Hg] at hb
   exact Ew _ (Nat.lt_of_succ_lt hb)
 have sz:(Lu ps.toArray).size=ps.length:=by simp [Lu]
 cases ps with
 | nil=>exact ⟨d,H,I.kept kept,by rw[q1 (by rw[sz]; rfl)]; exact rd,q0 rfl⟩
 | cons y ps =>
  have hv:=q2 (by rw[sz]; exact Nat.succ_pos _)
  rw[sz] at hv
  obtain ⟨t,rfl⟩:=intItems_at hv
  obtain ⟨h1,h2⟩:=argBest_gt (numAt (y::ps).toArray) ((y::ps).length - 1)
  refine ⟨.int _,H,I.kept kept,⟨t,rfl⟩,q _ ?_ λx hx=>?_⟩
  ·rw[numAt_eq]; exact getD_mem (by rw[Ac]; show _<(y::ps).length; have:=Bs (a:=y) (as:=ps); omega)
  ·obtain ⟨j,hj,rfl⟩:=mem_getD hx
   rw[Ac] at hj
   have:=h2 j (by have hj':j<(y::ps).length:=hj; omega)
   rw[numAt_eq (y::ps).toArray j] at this
   exact this
end
end Nd
namespace DL
open PySem PySem.Spec PyProof.Rows L2 Nd
section
variable{X:Cx}{e:Expr}{t:TA}{p1 kp cp pos:Pos}{k:Int}{j:Nat}
theorem vV(hc:X.calm=true)(hg:Gl X "max")(hm:X.mg "max" = none)(ha:PA X [e] t)(hs:Bp [e] X.env=[(false,eval e X.env)]:=by rfl):PE X (.Call (.Name "max" p1) [e] [⟨some "default",.Constant (.int k) j cp,kp⟩] pos) (Q4 (λxs H Q=>∃x,xs=[x]/\qF X.K x (.int k) H Q) t):=by
 intro pins s σ H Q I h
 refine Fn (Ll I hg hm (u:=.builtin "max") (by decide +kernel) ?_)
 refine Mk (Fu (ha pos pins s σ H _ I h) λus s1 ⟨vs,H1,I1,r1,q1⟩=>?_) (by rw[hs]; rfl) (by rw[hs]; rfl)
 obtain ⟨x,rfl,q⟩:=q1
 obtain ⟨u,rfl,ru⟩:=vals1 r1
 refine kws_cons (wpAny_Constant_int (kws_nil ?_))
 exact oR (d:=.int k) hc (I1.tok _) ru ⟨_,rfl⟩ q
end
def bX(k:Int):DC:=λxs P=>match xs with
 | [.dat _ (.list ds)]=>∃ns:List Int,ds=ns.map Bb/\(ns=[]->P (.dat .ow (.int k)))/\∀M∈ns,(∀x∈ns,x<=M)->P (.dat .ow (.int M))
 | _=>False
section
variable{K:PySem.W.Frag}{k:Int}
theorem xA:Nt K (λxs H Q=>∃x,xs=[x]/\qF K x (.int k) H Q) (bX k):=by
 intro H0 X n S T As us H Q P eu hA hd kk
 unfold bX at hd
 split at hd
 ·rename_i ex
  obtain ⟨v,F,rfl,hA⟩:=Gw eu hA ex
  obtain ⟨ns,rfl,h0,h1⟩:=hd
  obtain ⟨a,xs,G,rfl,ha,ra,rfl,hz⟩:=(hA.told mem_mid).list_inv
  obtain ⟨rfl,_⟩:=ra.ints_inv
  exact ⟨_,rfl,a,ns,rfl,Kq.of ha,λz=>kk _ _ [] H (hA.drop.pushI (.int _)) (h0 z),λM hM hle=>kk _ _ [] H (hA.drop.pushI (.int _)) (h1 M hM hle)⟩
 ·exact hd.elim
variable{X:Cx}{e:Expr}{da:DA}{p1 kp cp pos:Pos}{j:Nat}
theorem xJ(hc:X.calm=true)(hg:Gl X "max")(hm:X.mg "max" = none)(ha:jM X [e] da)(hs:Bp [e] X.env=[(false,eval e X.env)]:=by rfl):Fb X (.Call (.Name "max" p1) [e] [⟨some "default",.Constant (.int k) j cp,kp⟩] pos) (K6 (bX k) da):=PE.imp (vV hc hg hm ha hs) (lC xA)
end
mutual
def iV:Ad->Bool
 | .list xs=>iC xs
 | .tuple xs=>iC xs
 | .dict _=>false
 | _=>true
def iC:List Ad->Bool
 | []=>true
 | x::xs=>iV x && iC xs
end
def cP:DV->Bool
 | .un=>true
 | .scr _=>true
 | .val _=>true
 | .tpl _=>true
 | .drw=>true
 | .dat .ow _=>true
 | .dat _ d=>iV d
 | _=>false
theorem lZ{a b:Addr}{x y:List (List Int×Ad)}(h:Sx a x=Sx b y):a=b/\x=y:=by
 obtain ⟨h1,h2⟩:=Dx h
 refine ⟨Int.ofNat.inj (PyData.int.inj (Prod.mk.inj h1).2),?_⟩
 refine Rb (λx y e=>?_) h2
 obtain ⟨e1,e2⟩:=Prod.mk.inj e
 exact Prod.ext (Pp e1) e2
section
variable{K:PySem.W.Frag}{H:Hp}
theorem RdF.dicN_inv{v:V}{b:Addr}{ks:List (List Int×Ad)}{F:List Addr}(h:RdF K H v (.dict (Sx b ks)) F):∃kv,v=.ref b/\H b=some (.dT kv)/\DRel K H kv ks/\F=[b]:=by
 generalize e:Sx b ks=X at h
 cases h with
 | dic h e' hs=>cases e
 | dik h e' hs=>cases e
 | dnm h e' hs =>
  obtain ⟨rfl,rfl⟩:=lZ e
  exact ⟨_,rfl,h,⟨e',hs⟩,rfl⟩
mutual
theorem RdF.lsts:∀{v:V} {d:Ad} {F:List Addr},RdF K H v d F->iV d=true->∀b∈F,∃xs,H b=some (.lst xs)
 | _,_,_,.non,_,b,z=>nomatch z
 | _,_,_,.bl _,_,b,z=>nomatch z
 | _,_,_,.int _,_,b,z=>nomatch z
 | _,_,_,.str _,_,b,z=>nomatch z
 | _,_,_,.lst h l hs,k,b,z=>by
  rcases Ak.mp z with rfl | z
  ·exact ⟨_,h⟩
  ·exact RdFs.lsts hs (by simpa [iV] using k) b z
 | _,_,_,.tup h l hs,k,b,z=>RdFs.lsts hs (by simpa [iV] using k) b z
 | _,_,_,.dic h e hs,k,b,z=>by simp [iV] at k
 | _,_,_,.dik h e hs,k,b,z=>by simp [iV] at k
 | _,_,_,.dnm h e hs,k,b,z=>by simp [iV] at k
theorem RdFs.lsts:∀{v:List V} {d:List Ad} {F:List Addr},RdFs K H v d F->iC d=true->∀b∈F,∃xs,H b=some (.lst xs)
 | _,_,_,.nil,_,b,z=>nomatch z
 | _,_,_,.cons h hs,k,b,z=>by
  simp only[iC,Dq] at k
  rcases Bi.mp z with z | z
  ·exact RdF.lsts h k.1 b z
  ·exact RdFs.lsts hs k.2 b z
end
theorem xY{H0:Hp}{Y:Addr->Prop}{n:Nat}{E:List Ent}{e f:Ent}{a:Addr}{kv:List (List Gn×V)}(h:At K H0 Y n (e::f::E) H)(he:e.F=[a])(hp:Mp e.x=false)(ha:H a=some (.dT kv))(hf:cP f.x=true):a∉f.F:=by
 have ok:=h.ok f (Af _ Ab)
 have sp:=((Bd.mp h.sep).1 f Ab).2 (.inl hp)
 obtain ⟨v,x,F⟩:=f
 intro z
 have z:a∈F:=z
 cases x with
 | un=>have ok:F=[]:=ok; rw[ok] at z; cases z
 | val _=>have ok:F=[]:=ok.2; rw[ok] at z; cases z
 | scr _=>obtain ⟨_,_,ok,_⟩:=ok; have ok:F=[]:=ok; rw[ok] at z; cases z
 | tpl _=>obtain ⟨_,_,_,ok⟩:=ok; have ok:F=[]:=ok; rw[ok] at z; cases z
 | drw=>exact sp a z (by rw[he]; exact hV a)
 | dT _=>cases hf
 | acc _=>cases hf
 | grd _=>cases hf
 | dat m d =>
  obtain ⟨u,_,rd,_⟩:=ok
  cases m with
  | ow=>exact sp a z (by rw[he]; exact hV a)
  | _ =>
   obtain ⟨xs,q⟩:=rd.lsts hf a z
   rw[ha] at q; cases q
theorem At.thaw{H0:Hp}{Y:Addr->Prop}{n:Nat}{E:List Ent}{v:Option V}{F:List Addr}{a:Addr}{ks:List (List Int×Ad)}(h:At K H0 Y n (⟨v,.dat .sh (.dict (Sx a ks)),F⟩::E) H)(h0:H0 a=none)(hE:∀f∈E,a∉f.F):At K H0 Y n (⟨v,.dat .ow (.dict (Oo ks)),[a]⟩::E) H:=by
 obtain ⟨u,e1,rd,_⟩:=h.ok _ Ab
 obtain ⟨kv,rfl,ha,rel,eF⟩:=rd.dicN_inv
 have sp:=Bd.mp h.sep
 refine ⟨λf hf=>?_,Bd.mpr ⟨λf hf=>⟨λ_ b hb z=>?_,λ_ b hb z=>?_⟩,sp.2⟩,λf hf b hb=>?_,h.same,h.dom,h.xd⟩
 ·rcases Ak.mp hf with rfl | hf
  ·exact ⟨_,e1,.dic ha rel.key rel.val,λ_=>Bx.mpr ⟨Az,Cs⟩,λz=>nomatch z⟩
  ·exact h.ok f (Af _ hf)
 ·have hb:b∈[a]:=hb
  rw[Ah.mp hb] at z
  exact hE f hf z
 ·have z:b∈[a]:=z
  rw[Ah.mp z] at hb
  exact hE f hf (Fh f _ hb)
 ·rcases Ak.mp hf with rfl | hf
  ·have hb:b∈[a]:=hb
   rw[Ah.mp hb]
   exact .inl h0
  ·exact h.new f (Af _ hf) b hb
theorem At.named{H0:Hp}{Y:Addr->Prop}{n:Nat}{E:List Ent}{a:Addr}{ks:List (List Int×Ad)}(h:At K H0 Y n (⟨some (.ref a),.dat .ow (.dict (Oo ks)),[a]⟩::E) H):At K H0 Y n (⟨some (.ref a),.dat .sh (.dict (Sx a ks)),[a]⟩::E) H:=by
 obtain ⟨u,e1,rd,_⟩:=h.ok _ Ab
 cases e1
 obtain ⟨a',kv,ks',e2,ek,ha,rel,_⟩:=rd.dict_inv
 cases e2
 obtain rfl:=Qu ek
 have sp:=Bd.mp h.sep
 refine ⟨λf hf=>?_,Bd.mpr ⟨λf hf=>⟨λ_ b hb=>(nomatch hb),λhq b hb z=>(sp.1 f hf).2 hq b hb z⟩,sp.2⟩,λf hf b hb=>?_,h.same,h.dom,h.xd⟩
 ·rcases Ak.mp hf with rfl | hf
  ·exact ⟨_,rfl,.dnm ha rel.key rel.val,λz=>(nomatch z),λz=>(nomatch z)⟩
  ·exact h.ok f (Af _ hf)
 ·rcases Ak.mp hf with rfl | hf
  ·cases hb
  ·exact h.new f (Af _ hf) b hb
theorem At.dupS{H0:Hp}{Y:Addr->Prop}{n:Nat}{E:List Ent}{e:Ent}(h:At K H0 Y n (e::E) H)(hc:cells e=[]):At K H0 Y n (e::e::E) H:=by
 have sp:=Bd.mp h.sep
 refine ⟨λf hf=>h.ok f ?_,Bd.mpr ⟨λf hf=>?_,h.sep⟩,λf hf=>h.new f ?_,h.same,h.dom,h.xd⟩
 ·rcases Ak.mp hf with rfl | hf
  ·exact Ab
  ·exact hf
 ·rcases Ak.mp hf with rfl | hf
  ·exact ⟨λ_ b hb=>(by rw[hc] at hb; cases hb),λ_ b hb=>(by rw[hc] at hb; cases hb)⟩
  ·exact sp.1 f hf
 ·rcases Ak.mp hf with rfl | hf
  ·exact Ab
  ·exact hf
theorem jQ{a:Addr}{ks:List (List Int×Ad)}{F:List Addr}:IterOk K (W1 a ks.length) [⟨some (.ref a),.dat .sh (.dict (Sx a ks)),F⟩] .sh (ks.map λp=>Ck p.1) where
 md:=.inl rfl
 hd:=dJ (m:=.sh)
 np:=lV (m:=.sh)
 go:=λH n i h hi=>by
  obtain ⟨kv,e,ha,rel,_⟩:=(Jk h Ab).dicN_inv
  rw[Ac] at hi
  exact ⟨kv,ha,Pr rel,hi⟩
 yld:=λH n i x H' h hi y=>by
  obtain ⟨kv,e,ha,rel,_⟩:=(Jk h Ab).dicN_inv
  obtain ⟨t,k,v,rfl,rfl,y1,y2,y3⟩:=y
  obtain ⟨w,d,e1,rfl⟩:=C8 rel (y1 kv ha)
  exact ⟨La.refl _,Ck w,[],by rw[Aw,e1]; rfl,yF y2 y3,λc hc=>nomatch hc⟩
 stop:=λH n h=>by
  obtain ⟨kv,e,ha,rel,_⟩:=(Jk h Ab).dicN_inv
  rw[Ac]
  exact ⟨kv,ha,Pr rel,rfl⟩
end
def j6(i:Nat)(dg:DG)(db:DB):DB:=λD δ=>∃ks,δ.sl[i]? = some (.dat .ow (.dict (Oo ks)))/\ks.length<=1000000/\∀a:Addr,∃I:Nat->DS->Prop,I 0 ⟨δ.sl.set i (.dat .sh (.dict (Sx a ks))),δ.n⟩ /\
 (∀j d δ',(ks.map λp=>Ck p.1)[j]? = some d->I j δ'->dg (.dat .sh d) δ' λδ2=>db { D with nx:=I (j+1),ct:=I (j+1),bk:=λ_=>False } δ2) /\
 ∀δ',I ks.length δ'->δ'.sl[i]? = some (.dat .sh (.dict (Sx a ks)))/\(δ'.sl.set i .un).all cP=true/\D.nx ⟨δ'.sl.set i (.dat .ow (.dict (Oo ks))),δ'.n⟩
section
variable{X:Cx}{tg iter:Expr}{dg:DG}{db:DB}{body:List Stmt}{pos:Pos}{n:Nat}
theorem xK(hp:PassesOwn (model X.prog X.w) X.A X.env X.xe)(hc:X.calm=true)(ho:PE X iter (Xy n))(hg:Z1 X tg dg)(hb:Vr X body db)(hs:∀x,Fe iter X.env x=pure x:=by intro _; rfl):nM X (.For tg iter body [] pos) (j6 n dg db):=by
 refine PS.impD (cN hp hc (xB ho) hg hb hs) λD σ H h=>?_
 obtain ⟨H0,Y,S,T,δ,P,rfl,hS,hT,hA,hd,k1,k2,k3,k4⟩:=h
 obtain ⟨ks,hsl,hl,hd⟩:=hd
 obtain ⟨ent,e2,e3⟩:=Hf hS hsl
 have hm:ent∈S:=Aq e2
 obtain ⟨u,x,F⟩:=ent
 have e3':x=.dat .ow (.dict (Oo ks)):=e3
 subst e3'
 obtain ⟨v,hv,rd,_⟩:=hA.ok _ (Av _ hm)
 obtain ⟨a,kv,ks0,rfl,ek,ha,rel,eF⟩:=rd.dict_inv
 obtain rfl:=Qu ek
 have eF':F=[a]:=eF
 have hv':u=some (.ref a):=hv
 subst eF' hv'
 have q1:=Jq e2
 have q2:=Oa (y:=(⟨some (.ref a),.dat .sh (.dict (Sx a ks)),[a]⟩ : Ent)) e2
 have hB:=hA.perm (q1.append_right T)
 have fresh:H0 a=none:=by
  rcases hB.new _ Ab a Ab with z | z
  ·exact z
  ·cases z.2
 have offT:∀f∈T,a∉f.F:=λf hf=>((Bd.mp hB.sep).1 f (Ao _ hf)).1 (.inl (hT f hf)) a Ab
 have hN:=hB.named
 have hA1:At X.K H0 Y δ.n (S.set n ⟨some (.ref a),.dat .sh (.dict (Sx a ks)),[a]⟩++T) H:=hN.perm (q2.append_right T).symm
 refine ⟨.ref a,?_,a,kv,rfl,ha,?_⟩
 ·rw[Lq e2]
 rw[Pr rel]
 obtain ⟨I,h0,hst,hf⟩:=hd a
 have eV:∀{S':List Ent} {x y:DV} {F' F2:List Addr} {w:Option V},S'[n]? = some ⟨w,x,F'⟩->vs (S'.set n ⟨w,y,F2⟩)=vs S':=λ{S' x y F' F2 w} q=>by
  unfold vs
  rw[Ek]
  exact Ro (by rw[Aw,q]; rfl)
 have eS:Sl (S.set n ⟨some (.ref a),.dat .sh (.dict (Sx a ks)),[a]⟩) ⟨δ.sl.set n (.dat .sh (.dict (Sx a ks))),δ.n⟩:=by
  unfold Sl at hS ⊢
  rw[Ek,hS]
 have hA2:At X.K H0 Y δ.n (S.set n ⟨some (.ref a),.dat .sh (.dict (Sx a ks)),[a]⟩++([⟨some (.ref a),.dat .sh (.dict (Sx a ks)),[a]⟩]++T)) H :=
  (hN.dupS rfl).perm ((List.Perm.cons _ (q2.append_right T).symm).trans List.perm_middle.symm)
 have it:=jQ (K:=X.K) (a:=a) (ks:=ks) (F:=[a])
 have hT':∀e∈[(⟨some (.ref a),.dat .sh (.dict (Sx a ks)),[a]⟩ : Ent)]++T,Mp e.x=false:=λe he=>by
  rcases Bi.mp he with he | he
  ·exact it.np rfl e he
  ·exact hT e he
 refine ⟨λi q σ H=>q=ks.length - i/\i<=ks.length/\∃S δ,vs S=σ/\Sl S δ/\At X.K H0 Y δ.n (S++([⟨some (.ref a),.dat .sh (.dict (Sx a ks)),[a]⟩]++T)) H/\I i δ,⟨ks.length,by simp,Ct _,_,_,eV e2,eS,hA2,h0⟩,?_⟩
 (intro i q σ H q_; obtain ⟨rfl,hi,S2,δ2,rfl,e4,hA3,hI⟩ := q_)
 have hid_ok:∀e∈[(⟨some (.ref a),.dat .sh (.dict (Sx a ks)),[a]⟩ : Ent)],Hy X.K H δ2.n e:=λe he=>hA3.ok e (Ao _ (Av _ he))
 by_cases hlt:i<ks.length
 ·refine .inr ⟨it.go H δ2.n i hid_ok (by rw[Ac]; exact hlt),λσ' H'=>∃S δ,vs S=σ'/\Sl S δ/\At X.K H0 Y δ.n (S++([⟨some (.ref a),.dat .sh (.dict (Sx a ks)),[a]⟩]++T)) H'/\I (i+1) δ,λσ' H' q=>⟨ks.length - (i+1),by omega,rfl,hlt,q⟩,λx H' y=>?_⟩
  obtain ⟨s1,d,F,h1,h2,h3⟩:=it.yld H δ2.n i x H' hid_ok (by rw[Ac]; exact hlt) y
  refine ⟨H0,Y,S2,_,δ2,.dat .sh d,F,_,rfl,e4,hA3.item s1 h2 h3 it.md it.hd it.np,hst i d δ2 h1 hI,λδ3 S3 H3 e5 hA4 p3=>?_⟩
  refine ⟨H0,Y,S3,_,δ3,_,rfl,e5,hT',hA4,p3,λδ4 S4 H4 e6 hA5 p4=>⟨S4,δ4,rfl,e6,hA5,p4⟩,λx δ4 v F S4 H4 e6 hA5 p4=>k2 x δ4 v F S4 H4 e6 hA5.dropH p4,
   λδ4 S4 H4 e6 hA5 p4=>p4.elim,λδ4 S4 H4 e6 hA5 p4=>⟨S4,δ4,rfl,e6,hA5,p4⟩⟩
 ·have e:i=ks.length:=by omega
  subst e
  refine .inl ⟨by have:=it.stop H δ2.n hid_ok; rwa [Ac] at this,?_⟩
  obtain ⟨g1,g2,g3⟩:=hf δ2 hI
  have hA4:=hA3.dropL
  obtain ⟨ent,e5,e6⟩:=Hf e4 g1
  obtain ⟨u,x,F⟩:=ent
  have e6':x=.dat .sh (.dict (Sx a ks)):=e6
  subst e6'
  have r1:=Jq e5
  have hC:=hA4.perm (r1.append_right T)
  obtain ⟨v,hv,rd2,_⟩:=hC.ok _ Ab
  obtain ⟨kv2,rfl,ha2,_,eF⟩:=rd2.dicN_inv
  have eF':F=[a]:=eF
  have hv':u=some (.ref a):=hv
  subst eF' hv'
  have hE:∀f∈S2.eraseIdx n++T,a∉f.F:=λf hf=>by
   rcases Bi.mp hf with hf | hf
   ·obtain ⟨j,hj,ej⟩:=List.mem_eraseIdx_iff_getElem?.mp hf
    have okf:cP f.x=true:=List.all_eq_true.mp g2 f.x (Aq (i:=j) (by
     have e4':S2.map (·.x)=δ2.sl:=e4
     rw[Sf hj.symm,<- e4',Aw,ej]; rfl))
    obtain ⟨l1,l2,el⟩:=List.append_of_mem hf
    have hD:=hC.sub (E':=⟨some (.ref a),.dat .sh (.dict (Sx a ks)),[a]⟩::f::[]) (by
     refine List.Sublist.cons₂ _ ?_
     show [f].Sublist (S2.eraseIdx n++T)
     exact List.singleton_sublist.mpr (Av _ hf))
    exact xY hD rfl rfl ha2 okf
   ·exact offT f hf
  have hF:=hC.thaw fresh hE
  have r2:=Oa (y:=(⟨some (.ref a),.dat .ow (.dict (Oo ks)),[a]⟩ : Ent)) e5
  have:=k1 ⟨δ2.sl.set n (.dat .ow (.dict (Oo ks))),δ2.n⟩ (S2.set n ⟨some (.ref a),.dat .ow (.dict (Oo ks)),[a]⟩) H (by
   unfold Sl at e4 ⊢
   rw[Ek,e4]) (hF.perm (r2.append_right T).symm) g3
  rw[eV e5] at this
  exact this
end
def Wk:D2:=λx y P=>match x,y with
 | .dat _ (.dict X),.dat _ k=>∃a ks w d,X=Sx a ks/\k=Ck w/\Vv ks w=some d/\P (.dat .ow d)
 | _,_=>False
theorem tU{K:PySem.W.Frag}:iS K d0 Wk:=by
 intro H0 X n S T x y v w F G H Q P hA hd k
 unfold Wk at hd
 split at hd
 ·obtain ⟨a,ks,u,d,rfl,rfl,hg,p⟩:=hd
  obtain ⟨b,rfl,hb⟩:=Sv (hA.told mem_mid)
  obtain ⟨kv,rfl,ha,rel,_⟩:=(hA.told Ee).dicN_inv
  rcases Yd u rel with ⟨_,z⟩ | ⟨v',d',h1,h2,h3⟩
  ·rw[z] at hg; cases hg
  ·rw[h2] at hg; cases hg
   exact ⟨a,v',rfl,h1▸eD.t ha hb,k _ _ [] H (hA.drop2.pushI h3) p⟩
 ·exact hd.elim
theorem uT{X:Cx}{a b:Expr}{da db:DE}{pos:Pos}(hu:X.A.units+64<cLine)(ha:Fb X a da)(hb:Fb X b db)(hs:yP b:=by intro _ _; rfl):Fb X (.Subscript a b pos) (Xl Wk da db):=PE.imp (lR (S5 hu) ha hb hs) (aT tU)
end DL
namespace Nd
open PySem PySem.Spec PySem.Calls PyProof.Rows PyProof.V L2 Ts
theorem Zw{pos:Pos}{a b:Int}{c v:Value}(l:List Value):TriplesOk l->Oz pos (l++[Gj a,Gj b,c])=some v->Oz pos l=some v\/v=c:=by
 fun_induction TriplesOk l with
 | case1 =>
  intro _ e
  simp only[Rj,Oz,Gj] at e
  split at e
  ·exact .inr (Bk e).symm
  ·simp [Oz] at e
 | case2 a' t b' u x Fv ih =>
  intro h e
  simp only[Fz,Oz] at e ⊢
  split at e
  ·rename_i hc; rw[if_pos hc]; exact .inl e
  ·rename_i hc; rw[if_neg hc]; exact ih h e
 | case3 l h1 h2=>intro h; exact h.elim
section
variable{X:Cx}{pins:List (Addr×Obj)}{σ:List (Option V)}{H:Hp}{s:Ag}
theorem C6{x:Str}{c P:Addr}{params:Ru}{body:Expr}{scope:Scope}{pos:Pos}{clos:List (Str×Addr)}{Q:Value->Ag->Prop}(I:Inv X pins σ H s)(hx:x∈Nx)(ht:PySem.W.tabIn X.K x=some (c,P))(hcode:X.env.code=.ref c)(hq:X.env.qual ++ "<lambda>" = Zs x)(hdef:defaultsOf params X.env=([],[]))(hcl:Ze scope X.env=pure clos)(h:∀(f c':Addr) (pm ctv:Value) (H1:Hp) (s1:Ag),Inv X pins σ H1 s1->La H H1->s1.heap.get? f=some (PySem.W.kla_obj "<lambda>" (Zs x) params body scope clos pm c' ctv)->s1.heap.CodeRec (.ref c') (Zs x)->Q (.ref f) s1):wpAny (model X.prog X.w) X.A (eval (.Lambda params body scope pos) X.env) Q X.xe s:=by
 obtain ⟨C0,B0,ps,t0,hP,hps⟩:=(I.ok.tab.un I.base) x hx c P ht
 obtain ⟨qs,gP,tri,each⟩:=(show Gd X.prog X.w H s.heap P (.tbl ps) from I.hok P _ hP)
 have C:=C0.keeps I.bk
 have B:s.heap.BuiltinsAt X.mg P:=by
  obtain ⟨bm,o,b1,b2,b3,b4,b5,r⟩:=B0
  exact ⟨bm,o,b1,b2,b3,b4,I.bk _ _ b5,r⟩
 have G:s.heap.Ns Bz X.mg:=I.mod.glob.keeps I.bk
 refine PySem.W.kla_eval hdef ?_
 rw[hq]
 cases hf:Oz pos qs.toList with
 | some cv =>
  obtain ⟨c1,oc,us,q,t,t1,rfl,h2,h3,h4,h5,h6⟩:=each pos cv hf
  rw[hps] at h6
  cases h6
  refine PySem.W.kla_makeFunctionHit (mg:=X.mg) hcl I.ok.glob G hcode C gP tri hf B λctv h' tk hk hsz=>?_
  exact h _ c1 _ ctv H _ (I.kept (t':=tk) λb u e=>Ae _ (hk b u e)) (λ_ _ e=>e) (Ar _ rfl) ⟨c1,oc,us,t,rfl,Ae _ (hk _ _ h3),h4,h5⟩
 | none =>
  have hgP:Bz≠P:=λz=>by
   obtain ⟨o,es,ep,e,d,_⟩:=G
   rw[z,gP] at e; cases e; cases d
  refine PySem.W.kla_makeFunction (mg:=X.mg) hcl I.ok.glob G hcode C gP tri hf hgP B λc' ctv h' tk hx' hge hlt hrec htb=>?_
  have Hn:H c'=none:=I.hok.fresh hge
  have neP:∀b,H b=none->b≠P:=λb n z=>by rw[z,hP] at n; cases n
  obtain ⟨c2,oc,us,t,e2,g3,g4,g5⟩:=id hrec
  cases e2
  have ncP:c'≠P:=neP c' Hn
  generalize hfo:(PySem.W.kla_obj "<lambda>" (Zs x) params body scope clos ((X.mg "__name__").getD .none) c' ctv)=fo
  have keepH:∀b o,b≠P->s.heap.get? b=some o->(h'.push fo).get? b=some o:=λb o n e=>Ae _ (hx' b o n e)
  have gPn:(h'.push fo).get? P=some { cls:=.none,data:=.fields (qs++#[Gj pos.line,Gj pos.col,.ref c']) }:=Ae _ htb
  have hok:Ss X.prog X.w (upd H c' (.own P)) (h'.push fo):=λb u e=>by
   by_cases hb:b=c'
   ·subst hb
    rw[Cr] at e
    cases e
    exact ⟨oc,Ae _ g3⟩
   ·rw[Cn hb] at e
    by_cases hbP:b=P
    ·subst hbP
     rw[hP] at e
     cases e
     refine ⟨_,gPn,by rw[Cw]; exact TriplesOk_snoc _ _ _ _ tri,λpos' v y=>?_⟩
     rw[Cw] at y
     rcases Zw qs.toList tri y with y | rfl
     ·obtain ⟨c1,oc1,us1,q1,t1,t2,r1,r2,r3,r4⟩:=each pos' v y
      have n1:c1≠c':=λz=>by rw[z,Hn] at r2; cases r2
      exact ⟨c1,oc1,us1,q1,t1,t2,r1,by rw[Cn n1]; exact r2,keepH _ _ (λz=>by rw[z,hP] at r2; cases r2) r3,r4⟩
     ·exact ⟨c',oc,us,_,t,t0,rfl,Cr,Ae _ g3,g4,g5,hps⟩
    ·refine (I.hok b u e).stay (λd v hc q=>keepH d v ?_ q) (λd q=>by rw[Cn (Da q Hn)]; exact q) λd xs q=>by rw[Cn (Da q Hn)]; exact q
     rcases hc with rfl | hc
     ·exact hbP
     ·intro z; rw[z,hP] at hc; cases hc
  have I1:Inv X pins σ (upd H c' (.own P)) { s with heap:=h'.push fo,toks:=tk }:=by
   refine I.step (g':=s.gens) (d':=s.drawn) (t':=tk) (ch:=[]) (λ_ z=>nomatch z) (λb o _ _ _ e n=>keepH b o (neP b n) e) (λb o _ _ _ e n=>⟨o.slots,keepH b o (neP b n) e⟩) (λb o _ e n=>?_) (λb o _ e=>?_)
    (λb xs e=>by rw[Cn (Da e Hn)]; exact e) (λb o u e=>by rw[Cn (Da e Hn)]; exact e) (λb xs e=>⟨#[],by rw[Cn (Da e Hn),e]; simp⟩) (λm hm=>?_) hok I.bare
   ·rw[Cn (Br (Cd (Ba e) hge))]
    exact n
   ·by_cases hb:b=P
    ·subst hb; exact ⟨_,gPn⟩
    ·exact ⟨o,keepH b o hb e⟩
   ·obtain ⟨o,es,ep,e,r⟩:=hm
    exact ⟨o,es,ep,keepH _ o (neP _ I.free) e,r⟩
  refine h _ c' ((X.mg "__name__").getD .none) ctv _ _ I1 (λb o e=>by rw[Cn (Da e Hn)]; exact e) ?_ ⟨c',oc,us,t,rfl,Ae _ g3,g4,g5⟩
  rw[<- hfo]
  exact Ar _ rfl
end
section
variable{prog:Bo}{w:World}{A:Co}{E:Value->Ag->Prop}{s:Ag}
theorem Yg{R:List Value->Ag->Prop}{r:Addr}{a b c:Int}{t u v:Tok}{n:Nat}(hh:A.handled=none)(hr:IsRange s.heap r a b c t u v)(hsmall:Builtin.Range.small a b c=true)(hn:Wd a b c=n)(hlen:n<=2 ^ 24)(h:∀(h':Heap) (tk:Nat) (acc:Array Value),(∀b o,s.heap.get? b=some o->h'.get? b=some o)->ItemsOf (λi v=>∃t,v=.int (a+i * c) t) acc n->s.heap.objs.size<=h'.objs.size->R acc.toList { s with heap:=h',toks:=tk }):wpAny (model prog w) A (collect (.ref r)) R E s:=by
 unfold collect
 refine Aa (wpAny_runValue (Kt PyProof.Rows.entry_proto_collect' ?_))
 rw[Gp PySem.F.plain_proto_collect _]
 show wpAny _ A.in1 (newList [] >>= λl=>again (.builtin "list.__iadd__" ⟨[l,.ref r],[]⟩)) _ _ s
 refine Aa (Ei ?_)
 refine Aj ⟨Km PySem.F.plain_list_iadd _,Kt PyProof.Rows.entry_list_iadd' ?_⟩
 rw[Gp PySem.F.plain_list_iadd _]
 have hS₁:(s.heap.push { cls:=.type "list",data:=.seq ([]:List Value).toArray }).get? s.heap.objs.size=some { cls:=.type "list",data:=.seq #[] }:=Ar _ rfl
 show wpAny _ A.in1 (Builtin.List.listExtendWith (.ref s.heap.objs.size) (.ref r) (.ref s.heap.objs.size)) _ _ _
 have key:=wpAny_extend_range (prog:=prog) (w:=w) (A:=A) (s:={ s with heap:=s.heap.push { cls:=.type "list",data:=.seq ([]:List Value).toArray } })
  (R:=λ(q:Result) (s':Ag)=>∃(h':Heap) (tk:Nat) (acc':Array Value) (c':Nat),q=.ok (.ret (.ref s.heap.objs.size))/\s'={ s with heap:=h',toks:=tk } /\
   (∀b o,s.heap.get? b=some o->h'.get? b=some o)/\h'.get? s.heap.objs.size=some { cls:=.type "list",dict:=none,data:=.seq acc' c',slots:=#[] }/\ItemsOf (λi v=>∃t,v=.int (a+i * c) t) acc' n)
  hh (Ae _ hr) hsmall hn hlen s.heap.objs.size (.ref s.heap.objs.size) 0 hS₁
  (λh' tk acc' c' hk hS' hacc=>⟨h',tk,acc',c',rfl,rfl,λb o e=>hk b o (Br (Ba e)) (Ae _ e),hS',hacc⟩)
 refine Eh key (λfin s' x=>?_) λe s' x=>?_
 ·cases fin with
  | done f =>
   obtain ⟨h',tk,acc',c',e,rfl,hk,hS',hacc⟩:=x
   cases e
   show wpAny _ A (load s.heap.objs.size >>= _) _ _ _
   refine Aa (Za hS' ?_)
   exact Aj (h h' tk acc' hk hacc (Jl (Ba hS')))
  | again c₁ =>
   refine ⟨x.1,bL x.2 λq s₂ y=>?_⟩
   obtain ⟨h',tk,acc',c',rfl,rfl,hk,hS',hacc⟩:=y
   show wpAny _ A (load s.heap.objs.size >>= _) _ _ _
   refine Aa (Za hS' ?_)
   exact Aj (h h' tk acc' hk hacc (Jl (Ba hS')))
 ·obtain ⟨_,_,_,_,e',_⟩:=x
  cases e'
theorem rZ{f c':Addr}{q x:Str}{params:Ru}{body:Expr}{scope:Scope}{clos:List (Str×Addr)}{pm ctv v:Value}{R:Value->Ag->Prop}(hroom:A.depth<Vn)(ho:s.heap.get? f=some (PySem.W.kla_obj "<lambda>" q params body scope clos pm c' ctv))(hcd:s.heap.CodeRec (.ref c') q)(hnl:s.heap.NoLimit)(hbind:bindArgs (PySem.W.kla_fn "<lambda>" q params body scope clos pm (.ref c') ctv) ⟨[v],[]⟩=pure [(x,v)])(hx:scope.names.lookup x=some .local)(hco:scope.isCoroutine=false)(hgen:scope.isGenerator=false)(hk:scope.kind=.function)(hcell:∀y∈scope.names,y.2≠.cell)(hb:∀L h₁,h₁.Ns L (λy=>[(x,v)].reverse.lookup y)->Gq s.heap h₁->wpAny (model prog w) (A.deeper (PySem.W.envX q scope L f (.ref c') clos)) (eval body (PySem.W.envX q scope L f (.ref c') clos)) R (λ_ _=>False) { s with heap:=h₁,toks:=s.toks+1 }):wpAny (model prog w) A (call (.ref f) [v]) R E s:=by
 refine wpAny_call (PySem.W.kla_callFunE hroom ho rfl hco hgen rfl hcd ?_)
 rw[hbind]
 refine Aj (wpAny_newFunctionEnv hcell (λy hy=>?_) (λh₁ hns hsb=>⟨hnl.fresh _ hsb,?_⟩) hk)
 ·rw[Ah.mp hy]; exact hx
 have hk₁:Gq s.heap h₁:=λb o e=>hsb.extBut b o (Br (Ba e)) (Ae _ e)
 exact PySem.W.kla_codeExpr (Eh (hb _ h₁ hns hk₁) (λv s' z=>z) λ_ _ z=>z.elim)
theorem iT{env:Env}{p1 p2 p3 p4 p5 p6:Pos}{m mg mb:Str->Option Value}{c l r:Addr}{its us:List Value}{i:Int}{t:Tok}{R:Value->Ag->Prop}(hk:env.scope.kind=.function)(hn:env.kindOf "number" = some .local)(hw:env.kindOf "words" = some .free)(hl:env.kindOf "len" = some .globalImplicit)(hm:s.heap.Ns env.locals m)(hv:m "number" = some (.int i t))(hc:env.cells.lookup ("words" : Str)=some c)(hcv:s.heap.IsCell c (some (.ref l)))(hg:s.heap.Ns env.globals mg)(hg0:mg "len" = none)(hb:s.heap.Ns env.builtins mb)(hb0:mb "len" = some (.builtin "len"))(hL:s.heap.IsList l its.toArray)(h0:0<=i)(hi:i<2 ^ 63)(hr:its.toArray[i.toNat]? = some (.ref r))(hT:IsTup s.heap r us.toArray)(hz:us.length<2 ^ 62)(h:∀t' tk,R (.int (-(us.length:Int)) t') { s with toks:=tk }):wpAny (model prog w) A (eval (.UnaryOp .USub (.Call (.Name "len" p1) [.Subscript (.Name "words" p2) (.Name "number" p3) p4] [] p5) p6) env) R E s:=by
 refine UnaryOp_ (Fn (Ng hk hl (dY hg hg0 hb hb0 ?_)))
 refine Se ?_ rfl rfl
 refine Ka (Zg (Zb (wpAny_loadName_free hk hw hc hcv (Zb (wpAny_loadName_local hk hn hm hv ?_) (by decide))) (by decide)))
 refine item_listR hL h0 hi hr (Og ?_)
 refine len_tuple hT (by rw[Am]; omega) (neg_int ?_)
 rw[Am]
 exact h _ _
theorem cQ{f u:Value}{kz:List Int}{Pv:List Value->Prop}{kw:List (Str×Value)}{Q:Value->Ag->Prop}(hcol:∀R:List Value->Ag->Prop,(∀h' tk vs,Gq s.heap h'->s.heap.objs.size<=h'.objs.size->Pv vs->R vs { s with heap:=h',toks:=tk })->wpAny (model prog w) A.in1 (collect u) R E s)(hlen:∀vs,Pv vs->kz.length=vs.length)(hz:kz.length<Ap)(ha1:argsOk "sorted" ⟨[u],kw⟩)(ha2:∀x,argsOk "list.sort" ⟨[.ref x],kw⟩)(ht:∀x,Builtin.«list.sort» ⟨[.ref x],kw⟩=ksk_tree x f false)(turn:∀vs,Pv vs->∀(i:Nat) (v:Value) (k:Int),vs[i]? = some v->kz[i]? = some k->∀(h:Heap) (tk:Nat),Gq s.heap h->∀R:Value->Ag->Prop,(∀t h2 tk2,Gq h h2->R (.int k t) { s with heap:=h2,toks:=tk2 })->wpAny (model prog w) A.in1.in1 (call f [v]) R (λ_ _=>False) { s with heap:=h,toks:=tk })(h:∀D h' tk out c vs,Pv vs->Gq s.heap h'->s.heap.objs.size<=D->h'.get? D=some (Ci "list" out c)->KskOut false kz vs out.toList->Q (.ref D) { s with heap:=h',toks:=tk }):wpAny (model prog w) A (call (.builtin "sorted") [u] kw) Q E s:=by
 refine vR kind_sorted plain_sorted entry_sorted ha1 ?_
 unfold Ud
 refine Aa (m:=checkCount "sorted" 1 1 _) (Aj (Aa (hcol _ λh0 tk0 vs hk0 hs0 hvs=>?_)))
 have hl0:=hlen vs hvs
 refine Aa (Mq ?_ (by omega))
 have g1:(h0.push (Ci "list" vs.toArray 0)).get? h0.objs.size=some (Ci "list" vs.toArray 0):=Ar _ rfl
 have kept:Gq s.heap (h0.push (Ci "list" vs.toArray 0)):=λb o e=>Ae _ (hk0 b o e)
 show wpAny _ _ _ _ _ { s with heap:=h0.push (Ci "list" vs.toArray 0),toks:=tk0 }
 generalize hH:h0.push (Ci "list" vs.toArray 0)=H1 at g1 kept
 have none_:∀b,s.heap.objs.size<=b->s.heap.get? b=none:=λb hb=>Sh hb
 refine Aa (Cz (wpAny_call_entry_kw slot_list_sort ⟨_,g1,rfl⟩ entry_list_sort ?_ (ha2 _)))
 show wpAny (model prog w) A.in1.in1 (Builtin.«list.sort» ⟨[.ref h0.objs.size],kw⟩) _ _ _
 rw[ht]
 unfold ksk_tree
 have lt:h0.objs.size<H1.objs.size:=Ba g1
 obtain ⟨ep,g2⟩ : ∃ep,(H1.update h0.objs.size (By λ_=>(#[]:Array Value))).get? h0.objs.size=some (Ci "list" #[] ep):=⟨_,Iw g1 λ_=>#[]⟩
 have k2:Gq s.heap (H1.update h0.objs.size (By λ_=>(#[]:Array Value))):=Pu kept (none_ _ hs0)
 refine Aa (Sn g1 rfl (Aa (Jd g1 rfl ?_ (by rw[Am]; omega) (Ct _))))
 refine Aa (Qk g2 rfl (Aa (Pc (Aa (Mq (Cz ?_) (Ct _))) (by show vs.length<=_; omega))))
 have e3:((H1.update h0.objs.size (By λ_=>(#[]:Array Value))).push (Ci "tuple" vs.toArray 0)).objs.size=H1.objs.size+1:=by rw[Pd,Ga]
 refine o5 (s:={ s with heap:=((H1.update h0.objs.size (By λ_=>(#[]:Array Value))).push (Ci "tuple" vs.toArray 0)).push (Ci "list" #[] 0),toks:=tk0 }) (h0:=s.heap) (a:=h0.objs.size)
  (kS:=((H1.update h0.objs.size (By λ_=>(#[]:Array Value))).push (Ci "tuple" vs.toArray 0)).objs.size)
  ⟨λb o e=>Ae _ (Ae _ (k2 b o e)),none_ _ hs0,none_ _ (by rw[e3]; omega),λz=>(by have:=e3.symm.trans z; omega),Ae _ (Ae _ g2),0,Ar _ rfl⟩ hl0 (by omega)
  (λi v k h1 h2 hh tk hk R hR=>turn vs hvs i v k h1 h2 hh tk hk R hR) ?_
 intro h' tk out c a1 a2 a3
 exact ⟨_,rfl,Aj ⟨_,rfl,h _ h' tk out c vs hvs a1 hs0 a2 a3⟩⟩
end
theorem gL{α β:Type}{g:α->β}{q ps:List β}(h:q.Perm ps):∀l0:List α,q=l0.map g->∃l:List α,l.Perm l0/\ps=l.map g:=by
 induction h with
 | nil =>
  intro l0 e
  cases l0 with
  | nil=>exact ⟨[],.refl _,rfl⟩
  | cons a l=>cases e
 | cons x p ih =>
  intro l0 e
  cases l0 with
  | nil=>cases e
  | cons a l =>
   rw[Au] at e
   obtain ⟨e1,e2⟩:=Dx e
   obtain ⟨l',h1,h2⟩:=ih l e2
   exact ⟨a::l',h1.cons a,by rw[Au,e1,h2]⟩
 | swap x y p =>
  intro l0 e
  match l0,e with
  | a::b::l,e =>
   rw[Au,Au] at e
   obtain ⟨e1,e2⟩:=Dx e
   obtain ⟨e2,e3⟩:=Dx e2
   exact ⟨b::a::l,.swap a b l,by rw[Au,Au,e1,e2,e3]⟩
 | trans p1 p2 ih1 ih2 =>
  intro l0 e
  obtain ⟨l1,h1,h2⟩:=ih1 l0 e
  obtain ⟨l2,h3,h4⟩:=ih2 l1 h2
  exact ⟨l2,h3.trans h1,h4⟩
def E1(K:PySem.W.Frag)(xs:List V)(w:V)(H:Hp)(Q:VK):Prop:=∃(r:Addr) (n:Nat) (p:Addr) (rs:List Addr) (kf:Nat->Nat),xs=[.ref r]/\H r=some (pY r n)/\n<=1000000/\w=.ref p/\Kq K H p (rs.map V.ref)/\rs.length=n /\
 (∀(i:Nat) a,rs[i]? = some a->∃ys,Sj K H a ys/\ys.length=kf i) /\
 ∀(a:Addr) (l:List Nat) (H1:Hp),La H H1->H1 a=none->l.Perm (Cu n)->l.Pairwise (λi j=>kf j<=kf i)->Q (.ref a) (upd H1 a (.lst (l.map λi:Nat=>V.int i)))
def E7(K:PySem.W.Frag)(j:Nat)(t:TA):TE:=λσ H Q=>t σ H λxs H1=>∃w,σ[j]? = some (some w)/\E1 K xs w H1 Q
theorem r6{K:PySem.W.Frag}{H H1:Hp}{p:Addr}{xs:List V}(h:Kq K H p xs)(s:La H H1):Kq K H1 p xs:=by
 rcases h with (h | ⟨o,h⟩) | h
 ·exact .inl (.inl (s _ _ h))
 ·exact .inl (.inr ⟨o,s _ _ h⟩)
 ·exact .inr h
theorem x8{K:PySem.W.Frag}{H H1:Hp}{p:Addr}{xs:List V}(h:Sj K H p xs)(s:La H H1):Sj K H1 p xs:=by
 rcases h with (h | ⟨o,h⟩) | h
 ·exact .inl (.inl (s _ _ h))
 ·exact .inl (.inr ⟨o,s _ _ h⟩)
 ·exact .inr h
structure LamOf(X:Cx)(x:Str)(params:Ru)(body:Expr)(scope:Scope)(pn:Str)(clos:List (Str×Addr)):Prop where
 mem:x∈Nx
 tab:∃c P,PySem.W.tabIn X.K x=some (c,P)/\X.env.code=.ref c
 qual:X.env.qual ++ "<lambda>" = Zs x
 dfl:defaultsOf params X.env=([],[])
 cl:Ze scope X.env=pure clos
 bind:∀(pm cd ctv v:Value),bindArgs (PySem.W.kla_fn "<lambda>" (Zs x) params body scope clos pm cd ctv) ⟨[v],[]⟩=pure [(pn,v)]
 loc:scope.names.lookup pn=some .local
 co:scope.isCoroutine=false
 gen:scope.isGenerator=false
 kind:scope.kind=.function
 cell:∀y∈scope.names,y.2≠.cell
section
variable{X:Cx}{e:Expr}{t:TA}{p1 kp pos lp q1 q2 q3 q4 q5 q6:Pos}{k j:Nat}{x:Str}{params:Ru}{scope:Scope}{cw:Addr}
theorem uS(hg:Gl X "sorted")(hm:X.mg "sorted" = none)(hml:X.mg "len" = none)(hr:Room k X.A)(hcalm:X.calm=true)(Lm:LamOf X x params (.UnaryOp .USub (.Call (.Name "len" q1) [.Subscript (.Name "words" q2) (.Name "number" q3) q4] [] q5) q6) scope "number" [("words",cw)])(hcw:X.env.cells.lookup ("words" : Str)=some cw)(hkc:X.env.kindOf "words" = some .cell)(hN:X.N[j]? = some "words")(hwf:scope.names.lookup ("words" : Str)=some .free)(hlg:scope.names.lookup ("len" : Str)=some .globalImplicit)(ha:PA X [e] t)(hs:Bp [e] X.env=[(false,eval e X.env)]:=by rfl):PE X (.Call (.Name "sorted" p1) [e] [⟨some "key",.Lambda params (.UnaryOp .USub (.Call (.Name "len" q1) [.Subscript (.Name "words" q2) (.Name "number" q3) q4] [] q5) q6) scope lp,kp⟩] pos) (E7 X.K j t):=by
 intro pins s σ H Q I h
 refine Fn (Ll I hg hm (u:=.builtin "sorted") (by decide +kernel) ?_)
 refine Mk (Fu (ha pos pins s σ H _ I h) λus s1 ⟨vs,H1,I1,r1,q1⟩=>?_) (by rw[hs]; rfl) (by rw[hs]; rfl)
 obtain ⟨w,hw,r,n,p,rs,kf,rfl,hR,hn,rfl,hp,hlen,hx',q⟩:=q1
 obtain ⟨u,rfl,ru⟩:=vals1 r1
 cases ru
 obtain ⟨c,P,ht,hcode⟩:=Lm.tab
 refine kws_cons (C6 I1 Lm.mem ht hcode Lm.qual Lm.dfl Lm.cl λf c' pm ctv H2 s2 I2 sm ho hcd=>kws_nil ?_)
 obtain ⟨⟨t,u,v,hr'⟩,_,_⟩:=(show Gd X.prog X.w H2 s2.heap r (pY r n) from I2.hok r _ (sm r _ hR))
 have hs:Ap=16777216:=Ih
 have cellW:s2.heap.IsCell cw (some (.ref p)):=by
  obtain ⟨m,hns,hl⟩:=I2.loc
  obtain ⟨u,ru,l⟩:=hl j "words" (.ref p) hN hw (.inr (.inl hkc))
  cases ru
  rcases l with ⟨hk,_⟩ | ⟨hk,c1,hc1,hcell⟩
  ·rw[hkc] at hk; cases hk
  ·rw[hcw] at hc1; cases hc1; exact hcell
 obtain ⟨its,rv,pl,hz⟩:=I2.list (r6 hp sm)
 have e1:=Qz rv
 subst e1
 obtain ⟨mb,hb1,hb2⟩:=I2.mod.blt
 have hbl:mb "len" = some (.builtin "len"):=(hb2 "len" (by decide)).trans (by decide +kernel)
 have vvOf:∀vs:List Value,ItemsOf (λi v=>∃t,v=.int (0+i * 1) t) vs.toArray n->vs.length=n/\∀(i:Nat) v,vs[i]? = some v->∃t,v=.int (i:Int) t:=λvs hv=>by
  refine ⟨by simpa using hv.1,λi v e=>?_⟩
  obtain ⟨t,e2⟩:=hv.2 i v (by simpa using e)
  exact ⟨t,by rw[e2]; congr 1; omega⟩
 refine cQ (f:=.ref f) (kz:=(Cu n).map λi=>-((kf i:Nat):Int)) (Pv:=λvs=>vs.length=n/\∀(i:Nat) v,vs[i]? = some v->∃t,v=.int (i:Int) t)
  (λR hR=>Yg (n:=n) (show X.A.in1.handled=none from I2.ok.hd hcalm) hr' (small_one (by omega) (by omega) (by omega) (by omega)) (by rw[rangeSize_one]; split <;> omega) (by omega) λh' tk acc hk hacc hsz=>hR h' tk acc.toList hk hsz (vvOf _ (by simpa using hacc)))
  (λvs hv=>by rw[Ac,Fp]; exact hv.1.symm) (by rw[Ac,Fp]; omega) (ksk_s1 _ _) (λx=>ksk_l1 _ _) (λx=>ksk_t1 _ _) (λvs hvs i v k hv hk hh tk hkeep R hR=>?_) λD h' tk out c3 vs hvs k1 k2 k3 k4=>?_
 ·have hi:i<n:=by rw[<- hvs.1]; exact (Al.mp hv).1
  obtain ⟨t,rfl⟩:=hvs.2 i v hv
  rw[Aw,Ua hi] at hk
  cases hk
  obtain ⟨a,hra⟩ : ∃a,rs[i]? = some a:=⟨_,An (by omega)⟩
  obtain ⟨ys,hy,hyl⟩:=hx' i a hra
  obtain ⟨us,ru,pt,hz2⟩:=I2.tuple (x8 hy sm)
  have hlu:=ru.length
  have k0:Gq s2.heap hh:=hkeep
  refine rZ (x := "number") (show X.A.in1.in1.depth<Vn from hr.depth) (k0 _ _ ho) ?_ ?_ (Lm.bind _ _ _ _) Lm.loc Lm.co Lm.gen Lm.kind Lm.cell λL h₁ hns hk1=>?_
  ·obtain ⟨c2,oc,vs2,t2,e2,g3,g4⟩:=hcd
   exact ⟨c2,oc,vs2,t2,e2,k0 _ _ g3,g4⟩
  ·exact I2.nolimit.keeps k0
  ·have kk:Gq s2.heap h₁:=k0.trans hk1
   obtain ⟨oL,nL,eL,rL⟩:=pl
   obtain ⟨oc,ec,dc⟩:=cellW
   obtain ⟨ot,et,dt⟩:=pt
   refine iT (l:=p) (r:=a) (us:=us) (its:=rs.map Ax) (i:=(i:Int)) (t:=t) Lm.kind Lm.loc hwf hlg hns rfl (List.lookup_cons_self ..) ⟨oc,kk _ _ ec,dc⟩ ((I2.mod.glob.keeps I2.bk).keeps kk) hml ((hb1.keeps I2.bk).keeps kk) hbl (PlainL.isList ⟨oL,nL,kk _ _ eL,rL⟩) (by omega) (by omega) ?_ ⟨ot,kk _ _ et,dt⟩ (by omega) λt' tk'=>?_
   ·rw[Ez,List.getElem?_toArray,Aw,hra]; rfl
   ·rw[<- hlu,hyl]
    exact hR _ _ _ hk1
 ·obtain ⟨ps,h1,e2,h3⟩:=k4
  obtain ⟨hl,hv⟩:=hvs
  have ez:((Cu n).map λi=>-((kf i:Nat):Int)).zip vs=(Cu n).map λi=>(-((kf i:Nat):Int),vs.getD i .none):=by
   have ev:vs=(Cu n).map λi=>vs.getD i .none:=by
    refine Fq λi=>?_
    rw[Aw]
    by_cases hi:i<n
    ·rw[Ua hi,An (by omega)]
     simp [List.getD,An (show i<vs.length by omega)]
    ·rw[Li (by omega),Li (by rw[Fp]; omega)]
     rfl
   conv=>lhs; rw[ev]
   exact List.zip_map' ..
  rw[ez] at h1
  obtain ⟨l,p1,rfl⟩:=gL h1.symm (Cu n) rfl
  have p2:l.Pairwise λi j=>kf j<=kf i:=by
   have h4:(l.map λi=>(-((kf i:Nat):Int),vs.getD i .none)).Pairwise (λp q=>p.1<=q.1):=h3
   rw[Ip] at h4
   exact h4.imp λq=>by simp only at q; omega
  have eo:out=(l.map λi=>vs.getD i .none).toArray:=by
   rw[Bw] at e2
   have e3:out.toList=l.map λi=>vs.getD i .none:=e2
   rw[<- e3,Array.toArray_toList]
  subst eo
  have vv:∀l:List Nat,(∀i∈l,i<n)->En (l.map λi:Nat=>V.int i) (l.map λi=>vs.getD i .none):=by
   intro l
   induction l with
   | nil=>exact λ_=>.nil
   | cons i l ih =>
    intro hi
    have hin:=hi i Ab
    obtain ⟨t,e⟩:=hv i _ (An (by omega))
    refine .cons ⟨t,?_⟩ (ih λj hj=>hi j (Af _ hj))
    show vs.getD i .none=Ph (i:Int) t
    rw[Gi,An (by omega)]
    exact e
  refine ⟨.ref D,upd H2 D (.lst (l.map λi:Nat=>V.int i)),I2.laid (t':=tk) k1 k2 ⟨?_,_,c3,vv l λi hi=>Jf.mp (p1.mem_iff.mp hi),k3⟩,rfl,q D l H2 sm (I2.hok.fresh k2) p1 p2⟩
  rw[Ac,p1.length_eq,Fp]
  omega
end
end Nd
namespace DL
open PySem PySem.Spec PyProof.Rows L2 Nd Ts
section
variable{P:Bo}{w:World}{K:PySem.W.Frag}{mg:Str->Option Value}{base:Heap}
theorem wY{x qual:Str}{st:Stmt}{f:Addr}{fd:Cm}{N ps:List Str}{k:Nat}{sp:Sp}(F:Fun K x qual st f fd)(S:FnScope N ps (Bu st))(len:∀vs H Q E,sp vs H Q E->vs.length=ps.length)(hbody:∀(cdv:Value) (A:Co) (outer:List Env) (s:Ag) (H:Hp) (vs:List V) (Q:VK) (E:XK),fd.code=cdv->Room k (A.deeper (envOfC qual (Bu st) s.heap.objs.size f cdv))->sp vs H Q E->∃t,jB (Nz Jg P w K mg base N qual (Bu st) f cdv A outer s H E).nox (Hr st) t/\t { nx:=λ_ H'=>Q .non H',rt:=Q } (L2.start N vs) H):FnOk P w K mg base Jg (k+1) f fd ps sp:=by
 obtain ⟨oc,od,kV,doc,pm,an,cdv,ct,osl,rfl,lk,hcd⟩:=F.ex
 refine i6 lk hcd S len λA outer s H vs Q E hr hsp=>?_
 obtain ⟨t,h,q⟩:=hbody cdv A outer s H vs Q E rfl hr hsp
 exact ⟨t,h.nox,q⟩
theorem tP{x qual:Str}{st:Stmt}{f:Addr}{fd:Cm}{N ps:List Str}{k:Nat}{pf:PF}{db:DB}(F:Fun K x qual st f fd)(S:FnScope N ps (Bu st))(hb:∀(cdv:Value) (A:Co) (outer:List Env) (s:Ag) (H:Hp) (E:XK),fd.code=cdv->Room k (A.deeper (envOfC qual (Bu st) s.heap.objs.size f cdv))->Vr (Nz Jg P w K mg base N qual (Bu st) f cdv A outer s H E).nox (Hr st) db)(h:∀ds R,pf ds R->ds.length=ps.length/\db (retE R) ⟨args0 ds (N.length - ps.length),0⟩):FnOk P w K mg base Jg (k+1) f fd ps (Ve K pf):=by
 refine wY F S (λvs H Q E z=>?_) λcdv A outer s H us Q E hcv hr z=>?_
 ·obtain ⟨As,n,ds,R,eu,ok,q,hp,_⟩:=z
  have l1:=(h ds R hp).1
  have l2:=Jt q
  rw[Ac] at l2
  have l3:=congrArg Fl eu
  rw[Ac,Ac] at l3
  omega
 ·obtain ⟨As,n,ds,R,eu,ok,q,hp,k1⟩:=z
  obtain ⟨l1,hd⟩:=h ds R hp
  have l2:=Jt q
  rw[Ac] at l2
  have l3:=congrArg Fl eu
  rw[Ac,Ac] at l3
  refine ⟨_,hb cdv A outer s H E hcv hr,H,λ_=>False,As.map gD++Ja (N.length - ps.length),[],⟨args0 ds (N.length - ps.length),0⟩,retE R,?_,?_,λ_ z=>(nomatch z),?_,hd,λδ' S' H' e1 hA p=>?_,λx δ' v F' S' H' e1 hA p=>?_,λ_ _ _ _ _ p=>p.elim,λ_ _ _ _ _ p=>p.elim⟩
  ·unfold vs L2.start Ja
   rw[Bj,D0,eu,Mw,show us.length=ps.length by omega]
  ·unfold Sl args0 Ja
   rw[Bj,Sw q,Mw]
  ·rw[Ea]
   have hs:=dG q (N.length - ps.length)
   refine ⟨λe he=>?_,Qa λa ha b hb'=>⟨λhq c hc=>?_,λhq c hc=>?_⟩,λe he a ha=>?_,λb o _ e=>e,λb o e=>⟨o,e⟩,λb hb=>hb.elim⟩
   ·have:=tF q ok (N.length - ps.length) e he
    obtain ⟨v,x,F⟩:=e
    cases x with
    | drw=>exact absurd (hs _ he).2 (by show ¬ (true=false); decide)
    | _=>exact this
   ·rw[(hs a ha).1] at hc; cases hc
   ·rw[(hs b hb').1] at hc; cases hc
   ·rw[(hs e he).1] at ha; cases ha
  ·exact k1 .non .none [] H' p .non Cs (λ_ z=>(nomatch z)) λb o e=>hA.same b o (λz=>z) e
  ·obtain ⟨d,rfl,r⟩:=p
   rw[show S'++[(⟨some v,.dat .ow d,F'⟩ : Ent)]=S'++⟨some v,.dat .ow d,F'⟩::[] from rfl] at hA
   obtain ⟨u,e2,rd,nd,_⟩:=hA.ok _ mem_mid
   cases e2
   refine k1 v d F' H' r rd (nd rfl) (λa ha=>?_) λb o e=>hA.same b o (λz=>z) e
   rcases hA.new _ mem_mid a ha with z | z
   ·exact z
   ·exact z.1.elim
end
theorem code_tab{K:PySem.W.Frag}{x qual:Str}{st:Stmt}{f c P:Addr}{fd:Cm}(nm:PySem.W.nsIn K Bz x=some (some (.ref f)))(F:Fun K x qual st f fd)(t:PySem.W.tabIn K x=some (c,P)):fd.code=.ref c:=by
 obtain ⟨oc,od,kV,doc,pm,an,cdv,ct,osl,e,lk,hcd⟩:=F.ex
 unfold PySem.W.tabIn at t
 rw[nm] at t
 dsimp only at t
 rw[lk] at t
 dsimp only at t
 split at t
 ·rename_i c2 h
  rw[h]
  split at t
  ·split at t
   ·cases t; rfl
   ·cases t
  ·cases t
 ·cases t
theorem tab_mk{K:PySem.W.Frag}{x qual:Str}{st:Stmt}{f c P:Addr}{fd:Cm}{o2:Value}{d2:Option Addr}{vs:Array Value}{sl2:Array (Option Value)}(nm:PySem.W.nsIn K Bz x=some (some (.ref f)))(F:Fun K x qual st f fd)(hc:fd.code=.ref c)(lc:K.lookup c=some ⟨o2,d2,.fields vs,sl2⟩)(hv:vs[11]? = some (.ref P)):PySem.W.tabIn K x=some (c,P):=by
 obtain ⟨oc,od,kV,doc,pm,an,cdv,ct,osl,e,lk,hcd⟩:=F.ex
 unfold PySem.W.tabIn
 rw[nm]
 dsimp only
 rw[lk]
 dsimp only
 rw[hc]
 dsimp only
 rw[lc]
 dsimp only
 rw[hv]
theorem tab_no{K:PySem.W.Frag}{x:Str}(nm:PySem.W.nsIn K Bz x=some none):PySem.W.tabIn K x=none:=by
 unfold PySem.W.tabIn
 rw[nm]
def R4(j:Nat)(x:DV)(δ:DS)(P:DV->DS->Prop):Prop:=match x,δ.sl[j]? with
 | .dat _ (.int n),some (.dat _ (.list ds))=>∃ws:List (List Int),ds=ws.map Ck/\n=ws.length/\ws.length<=1000000/\∀l:List Nat,l.Perm (Cu ws.length)->l.Pairwise (λa b=>(ws.getD b []).length<=(ws.getD a []).length)->P (.dat .ow (.list (l.map λi:Nat=>Bb i))) δ
 | _,_=>False
def qY(j:Nat)(de:DE):DE:=λδ P=>de δ λx δ1=>R4 j x δ1 P
theorem B5{j:Nat}{m m':Md}{n:Int}{δ:DS}{P:DV->DS->Prop}{ws:List (List Int)}(h:δ.sl[j]? = some (.dat m' (.list (ws.map Ck))))(hn:n=ws.length)(hz:ws.length<=1000000)(k:∀l:List Nat,l.Perm (Cu ws.length)->l.Pairwise (λa b=>(ws.getD b []).length<=(ws.getD a []).length)->P (.dat .ow (.list (l.map λi:Nat=>Bb i))) δ):R4 j (.dat m (.int n)) δ P:=by
 unfold R4
 rw[h]
 exact ⟨ws,rfl,hn,hz,k⟩
section
variable{X:Cx}{e:Expr}{de:DE}{p1 p2 kp pos pos2 lp q1 q2 q3 q4 q5 q6:Pos}{k j:Nat}{x:Str}{params:Ru}{scope:Scope}{cw:Addr}
theorem sH(hc:X.calm=true)(hr:Room k X.A)(hg:Gl X "sorted")(hm:X.mg "sorted" = none)(hml:X.mg "len" = none)(hg2:Gl X "range")(hm2:X.mg "range" = none)(Lm:LamOf X x params (.UnaryOp .USub (.Call (.Name "len" q1) [.Subscript (.Name "words" q2) (.Name "number" q3) q4] [] q5) q6) scope "number" [("words",cw)])(hcw:X.env.cells.lookup ("words" : Str)=some cw)(hkc:X.env.kindOf "words" = some .cell)(hN:X.N[j]? = some "words")(hwf:scope.names.lookup ("words" : Str)=some .free)(hlg:scope.names.lookup ("len" : Str)=some .globalImplicit)(ha:Fb X e de)(he:Bp [e] X.env=[(false,eval e X.env)]:=by rfl)(he2:Bp [.Call (.Name "range" p2) [e] [] pos2] X.env=[(false,eval (.Call (.Name "range" p2) [e] [] pos2) X.env)]:=by rfl):Fb X (.Call (.Name "sorted" p1) [.Call (.Name "range" p2) [e] [] pos2] [⟨some "key",.Lambda params (.UnaryOp .USub (.Call (.Name "len" q1) [.Subscript (.Name "words" q2) (.Name "number" q3) q4] [] q5) q6) scope lp,kp⟩] pos) (qY j de):=by
 refine PE.imp (uS hg hm hml hr hc Lm hcw hkc hN hwf hlg (Fs (bF fP hg2 hm2 (by decide +kernel) (Fs ha Jc he) (by decide) (by decide) he rfl) Jc he2) he2) λσ H Q h=>?_
 obtain ⟨H0,Y,S,T,δ,P,rfl,hS,hA,hd,k⟩:=h
 refine ⟨H0,Y,S,T,δ,_,rfl,hS,hA,hd,λx δ' v F S' H' e1 e2 hA' p=>?_⟩
 unfold R4 at p
 split at p
 ·rename_i m n m' ds hsl
  obtain ⟨ws,rfl,hn,hz,p⟩:=p
  obtain ⟨rfl,_⟩:=(hA'.told mem_mid).int_inv
  refine ⟨n,rfl,λr nr=>?_⟩
  obtain ⟨⟨u,y,G⟩,es,ex⟩:=Hf e2 hsl
  have ex:y=.dat m' (.list (ws.map Ck)):=ex
  subst ex
  obtain ⟨v,ev,rd,_⟩:=hA'.ok _ (Av _ (Aq es))
  have ev:u=some v:=ev
  subst ev
  obtain ⟨a,xs,G',rfl,hla,ra,rfl,hz'⟩:=rd.list_inv
  obtain ⟨rs,rfl,ews,rfl,c1,c2⟩:=Xm ra rfl
  have s1:=Di nr (pY r n)
  have lrs:rs.length=ws.length:=by rw[ews,Ac]
  refine ⟨.ref a,by rw[<- e1]; exact Lq es,r,ws.length,a,rs,λi=>(ws.getD i []).length,rfl,by rw[hn]; exact Cr,hz,rfl,Kq.of (s1 _ _ hla),lrs,λi b hb=>?_,λq l H1 sm nq pe pw=>?_⟩
  ·refine ⟨_,Sj.of (s1 _ _ (c1 b (Aq hb))),?_⟩
   have : ws[i]? = some (yE H' b):=by rw[ews,Aw,hb]; rfl
   rw[Ac]
   show _=(ws.getD i []).length
   rw[Gi,this]
   rfl
  ·have hI:RdFs X.K H1 (l.map λi:Nat=>V.int i) (l.map λi:Nat=>Bb i) []:=by
    have:=RdFs.ints (K:=X.K) (H:=H1) (l.map λi:Nat=>(i:Int))
    rw[Bw,Bw] at this
    exact this
   refine k _ δ' _ _ S' _ e1 e2 (((hA'.drop.grow s1 (Ai _)).grow sm (Ai _)).newI hI ?_ ?_ nq .ow) (p l pe pw)
   ·have:=Na (l.map λi:Nat=>(i:Int))
    rw[Bw] at this
    exact this
   ·rw[Ac,pe.length_eq,Fp,Ih]
    omega
 ·exact p.elim
end
end DL
namespace DL
open PySem PySem.Spec PyProof.Rows L2 Nd
def Y4(t u:DB)(D:DEnds)(b:Bool)(δ:DS):Prop:=match b with
 | true=>t D δ
 | false=>u D δ
def R0(x:DV)(δ:DS)(P:DV->DS->Prop):Prop:=match x with
 | .dat _ d=>imm d=true/\P (.dat .ow d) δ
 | _=>False
def BC(i:Nat)(s:Option DV)(δ:DS)(P:DV->DS->Prop):Prop:=match s with
 | some (.dat .pk _)=>False
 | some (.dat _ d)=>P (.dat .sh d) ⟨δ.sl.set i (.dat .sh d),δ.n⟩
 | _=>False
def AW(xs:List DV)(δ:DS)(P:DV->DS->Prop):Prop:=match datas xs with
 | some ds=>ds.length<=1000/\P (.dat (pkMd .sh xs) (.tuple ds)) δ
 | none=>False
def lstB(xs:List DV)(δ:DS)(P:DV->DS->Prop):Prop:=match datas xs with
 | some ds=>ds.length<=1000/\P (.dat (pkMd .tp xs) (.list ds)) δ
 | none=>False
def zN(x:DV)(δ:DS)(P:Option Int->DS->Prop):Prop:=match x with
 | .dat _ (.int i)=>P (some i) δ
 | _=>False
def BE(xs:List DV)(δ:DS)(P:DV->DS->Prop):Prop:=match xs with
 | [.dat _ (.list ds)]=>∃ns:List Int,ds=ns.map Bb/\(∀x∈ns,0<=x/\x<60)/\P (.dat .ow (.list ((S7 ns).map Bb))) δ
 | [.dat _ (.tuple ds)]=>∃ns:List Int,ds=ns.map Bb/\(∀x∈ns,0<=x/\x<60)/\P (.dat .ow (.list ((S7 ns).map Bb))) δ
 | _=>False
def bB(x:DV)(δ:DS)(P:Bool->DS->Prop):Prop:=match x with
 | .dat _ (.bool b)=>P b δ
 | _=>False
def M9(du:DT)(b:Bool)(δ:DS)(P:Bool->DS->Prop):Prop:=match b with
 | true=>du δ P
 | false=>P false δ
def Z8(du:DT)(b:Bool)(δ:DS)(P:Bool->DS->Prop):Prop:=match b with
 | true=>P true δ
 | false=>du δ P
def lB(x:DV)(δ:DS)(P:Md->List Ad->DS->Prop):Prop:=match x with
 | .dat m (.list ds)=>P (Jw m) ds δ
 | _=>False
def AI(x:DV)(δ:DS)(P:Md->List Ad->DS->Prop):Prop:=match x with
 | .dat m (.tuple ds)=>P (Jw m) ds δ
 | _=>False
def i8(xs:List DV)(δ:DS)(P:Md->List Ad->DS->Prop):Prop:=match xs with
 | [.dat _ (.int j)]=>-1000000<=j/\j<=1000000/\P .sh ((Cu j.toNat).map λi:Nat=>.int i) δ
 | _=>False
def i5(xs:List DV)(δ:DS)(P:Md->List Ad->DS->Prop):Prop:=match xs with
 | [.dat m (.list ds)]=>P (Jw m) (ds.zipIdx.map λp=>.tuple [.int p.2,p.1]) δ
 | _=>False
def T1(dg:DG)(db:DB)(D:DEnds)(m:Md)(ds:List Ad)(δ1:DS):Prop:=m=.sh/\∃I:Nat->DS->Prop,I 0 δ1 /\
 (∀i d δ',ds[i]? = some d->I i δ'->dg (.dat .sh d) δ' λδ2=>db { D with nx:=I (i+1),ct:=I (i+1),bk:=D.nx } δ2)/\∀δ',I ds.length δ'->D.nx δ'
def uM(js:List Nat)(dc:DT)(de:DE)(P:DV->DS->Prop)(m:Md)(ds:List Ad)(δ1:DS):Prop:=∃I:Nat->List Ad->Nat->Prop,I 0 [] δ1.n /\
 (∀i d acc n,ds[i]? = some d->I i acc n->Nv dc de ⟨.dat m d::frD δ1.sl js,n⟩ (λe n'=>I (i+1) (acc++[e]) n') (λn'=>I (i+1) acc n')) /\
 ∀acc n,I ds.length acc n->P (.dat .ow (.list acc)) ⟨δ1.sl,n⟩
def tX(js:List Nat)(dc:DT)(de:DE)(P:DV->DS->Prop)(m:Md)(ds:List Ad)(δ1:DS):Prop:=∃I:Nat->List Ad->Nat->Prop,I 0 [] δ1.n /\
 (∀i d acc n,ds[i]? = some d->I i acc n->∃d1 d2,d=.tuple [d1,d2]/\Nv dc de ⟨.dat m d1::.dat m d2::frD δ1.sl js,n⟩ (λe n'=>I (i+1) (acc++[e]) n') (λn'=>I (i+1) acc n')) /\
 ∀acc n,I ds.length acc n->P (.dat .ow (.list acc)) ⟨δ1.sl,n⟩
def xS(yes:Ad->Nat->Prop)(y:DV)(δ:DS):Prop:=match y with
 | .dat _ e=>imm e=true/\yes e δ.n
 | _=>False
def mL(de:DE)(yes:Ad->Nat->Prop)(no:Nat->Prop)(b:Bool)(δ:DS):Prop:=match b with
 | true=>de δ λy δ3=>xS yes y δ3
 | false=>no δ.n
def callB(pf:PF)(xs:List DV)(δ:DS)(P:DV->DS->Prop):Prop:=match datas xs with
 | some ds=>pf ds λd=>P (.dat .ow d) δ
 | none=>False
def callBW(i:Nat)(df:DF)(xs:List DV)(δ:DS)(P:DV->DS->Prop):Prop:=match δ.sl[i]? with
 | some .drw=>match datas xs with
  | some ds=>df ds δ.n λd n'=>P (.dat .ow d) ⟨δ.sl,n'⟩
  | none=>False
 | _=>False
def tN(xs:List DV)(δ:DS)(P:DV->DS->Prop):Prop:=match xs with
 | [.dat _ (.int _)]=>P .drw δ
 | _=>False
def revLB(x:DV)(δ:DS)(P:DV->DS->Prop):Prop:=match x with
 | .dat _ (.list ds)=>Dr ds=true/\P (.dat .ow (.list ds.reverse)) δ
 | _=>False
def appB(i:Nat)(y:DV)(δ:DS)(D:DEnds):Prop:=match δ.sl[i]?,y with
 | some (.dat m (.list ds)),.dat _ e=>own1 m=true/\npk δ.sl=true/\imm e=true/\ds.length<1000000/\D.nx ⟨δ.sl.set i (.dat m (.list (ds++[e]))),δ.n⟩
 | _,_=>False
def setB(i:Nat)(y z:DV)(δ:DS)(D:DEnds):Prop:=match δ.sl[i]?,y,z with
 | some (.dat m (.list ds)),.dat _ e,.dat _ (.int k)=>own1 m=true/\npk δ.sl=true/\imm e=true/\Dr ds=true/\∃j,pH ds.length k=some j/\D.nx ⟨δ.sl.set i (.dat m (.list (ds.set j e))),δ.n⟩
 | _,_,_=>False
def Q3(i:Nat)(ks:List (List Int×Ad))(dg:DG)(db:DB)(D:DEnds)(δ:DS):Prop:=∀a:Addr,∃I:Nat->DS->Prop,I 0 ⟨δ.sl.set i (.dat .sh (.dict (Sx a ks))),δ.n⟩ /\
 (∀j d δ',(ks.map λp=>Ck p.1)[j]? = some d->I j δ'->dg (.dat .sh d) δ' λδ2=>db { D with nx:=I (j+1),ct:=I (j+1),bk:=λ_=>False } δ2) /\
 ∀δ',I ks.length δ'->δ'.sl[i]? = some (.dat .sh (.dict (Sx a ks)))/\(δ'.sl.set i .un).all cP=true/\D.nx ⟨δ'.sl.set i (.dat .ow (.dict (Oo ks))),δ'.n⟩
theorem e_sortL{j:Nat}{de:DE}{δ:DS}{P:DV->DS->Prop}:qY j de δ P=(de δ λx δ1=>R4 j x δ1 P):=rfl
theorem e_seq{t u:DB}{D:DEnds}{δ:DS}:U3 t u D δ=(t { D with nx:=λδ'=>u D δ' } δ):=rfl
theorem e_skip{D:DEnds}{δ:DS}:zY D δ=(D.nx δ):=rfl
theorem e_ret{de:DE}{D:DEnds}{δ:DS}:T9 de D δ=(de δ D.rt):=rfl
theorem e_if{dt:DT}{t u:DB}{D:DEnds}{δ:DS}:AH dt t u D δ=(dt δ (Y4 t u D)):=rfl
theorem e_asg{de:DE}{dg:DG}{D:DEnds}{δ:DS}:pZ de dg D δ=(de δ λx δ'=>dg x δ' D.nx):=rfl
theorem e_name{i:Nat}{m:Md}{d:Ad}{δ:DS}{Q:DS->Prop}:Oj i (.dat .ow d) δ Q=(Q ⟨δ.sl.set i (.dat .sh d),δ.n⟩):=rfl
theorem e_name2{i:Nat}{m:Md}{d:Ad}{δ:DS}{Q:DS->Prop}:Oj i (.dat .sh d) δ Q=(Q ⟨δ.sl.set i (.dat .sh d),δ.n⟩):=rfl
theorem e_name4{i:Nat}{δ:DS}{Q:DS->Prop}:Oj i .drw δ Q=(Q ⟨δ.sl.set i .drw,δ.n⟩):=rfl
theorem e_own{i:Nat}{d:Ad}{δ:DS}{Q:DS->Prop}:fX i (.dat .ow d) δ Q=(Q ⟨δ.sl.set i (.dat .ow d),δ.n⟩):=rfl
theorem e_nF{i:Nat}{x:DV}{δ:DS}{Q:DS->Prop}:Y5 false i x δ Q=(Oj i x δ Q):=rfl
theorem e_op{rd:D2}{da db:DE}{δ:DS}{P:DV->DS->Prop}:Xl rd da db δ P=(da δ λx δ1=>db δ1 λy δ2=>rd x y λz=>P z δ2):=rfl
theorem e_var{i:Nat}{δ:DS}{P:DV->DS->Prop}:C2 i δ P=(match δ.sl[i]? with | some (.dat m d)=>P (.dat (dQ m) d) δ | _=>False):=rfl
theorem e_c{d:Ad}{δ:DS}{P:DV->DS->Prop}:dC d δ P=(P (.dat .ow d) δ):=rfl
theorem e_imm{de:DE}{δ:DS}{P:DV->DS->Prop}:L3 de δ P=(de δ λx δ'=>R0 x δ' P):=rfl
theorem e_immB{m:Md}{d:Ad}{δ:DS}{P:DV->DS->Prop}:R0 (.dat m d) δ P=(imm d=true/\P (.dat .ow d) δ):=rfl
theorem e_take{i:Nat}{δ:DS}{P:DV->DS->Prop}:rM i δ P=(match δ.sl[i]? with | some (.dat m d)=>P (.dat m d) ⟨δ.sl.set i .un,δ.n⟩ | _=>False):=rfl
theorem e_I{C:Int->Int->Prop}{g:Int->Int->Ad}{i j:Int}{m m':Md}{P:DV->Prop}:A7 C g (.dat m (.int i)) (.dat m' (.int j)) P=(C i j/\P (.dat .ow (g i j))):=rfl
theorem e_I0{g:Int->Int->Ad}{i j:Int}{m m':Md}{P:DV->Prop}:oE g (.dat m (.int i)) (.dat m' (.int j)) P=(P (.dat .ow (g i j))):=rfl
theorem e_eqF{d e:Ad}{m m':Md}{P:DV->Prop}:dE false (.dat m d) (.dat m' e) P=(d.depth<=60/\e.depth<=60/\P (.dat .ow (.bool (Du d e)))):=rfl
theorem e_eqT{d e:Ad}{m m':Md}{P:DV->Prop}:dE true (.dat m d) (.dat m' e) P=(d.depth<=60/\e.depth<=60/\P (.dat .ow (.bool (!Du d e)))):=rfl
theorem e_inFt_w1{nes:List Int}{d:Ad}{es:List Ad}{m m':Md}{P:DV->Prop}:mQ false (.dat m d) (.dat m' (Ck nes)) P=(Bl (nes.map Bb)<=60/\d.depth<=60/\P (.dat .ow (.bool ((nes.map Bb).any λe=>Du e d)))):=rfl
theorem e_inTt_w1{nes:List Int}{d:Ad}{es:List Ad}{m m':Md}{P:DV->Prop}:mQ true (.dat m d) (.dat m' (Ck nes)) P=(Bl (nes.map Bb)<=60/\d.depth<=60/\P (.dat .ow (.bool (!((nes.map Bb).any λe=>Du e d))))):=rfl
theorem e_ixl{ds:List Ad}{i:Int}{m m':Md}{P:DV->Prop}:wW (.dat m (.list ds)) (.dat m' (.int i)) P=(∃d,Ub ds i=some d/\P (.dat (cJ m) d)):=rfl
theorem e_cat{ds es:List Ad}{m m':Md}{P:DV->Prop}:kW (.dat m (.list ds)) (.dat m' (.list es)) P=(Dr ds=true/\Dr es=true/\ds.length+es.length<=1000000/\P (.dat .ow (.list (ds++es)))):=rfl
theorem e_rep{ds:List Ad}{k:Int}{m m':Md}{P:DV->Prop}:kJ (.dat m (.list ds)) (.dat m' (.int k)) P=(Dr ds=true /\ -1000000<=k/\k<=1000000/\ds.length * k.toNat<=1000000/\P (.dat .ow (.list (Cb k.toNat ds).flatten))):=rfl
theorem e_nlT{m:Md}{ds:List Ad}{P:DV->Prop}:fA true m ds P=(Dr ds=true/\P (.dat .ow (.list ds))):=rfl
theorem e_pkOfpk  : dQ .pk=(Md.pk):=rfl
theorem e_pkOfsh  : dQ .sh=(Md.sh):=rfl
theorem e_pkOfow  : dQ .ow=(Md.pk):=rfl
theorem e_mdInsh  : cJ .sh=(Md.sh):=rfl
theorem e_mdInow  : cJ .ow=(Md.ow):=rfl
theorem e_mdItpk  : Jw .pk=(Md.pk):=rfl
theorem e_mdItsh  : Jw .sh=(Md.sh):=rfl
theorem e_mdItow  : Jw .ow=(Md.sh):=rfl
theorem e_nil{δ:DS}{P:List DV->DS->Prop}:p9 δ P=(P [] δ):=rfl
theorem e_cons{de:DE}{da:DA}{δ:DS}{P:List DV->DS->Prop}:j3 de da δ P=(de δ λx δ1=>da δ1 λxs δ2=>P (x::xs) δ2):=rfl
theorem e_lst{da:DA}{δ:DS}{P:DV->DS->Prop}:R6 da δ P=(da δ λxs δ'=>lstB xs δ' P):=rfl
theorem e_noPart{δ:DS}{P:Option Int->DS->Prop}:kQ δ P=(P none δ):=rfl
theorem e_part{de:DE}{δ:DS}{P:Option Int->DS->Prop}:i9 de δ P=(de δ λx δ'=>zN x δ' P):=rfl
theorem e_partB{m:Md}{i:Int}{δ:DS}{P:Option Int->DS->Prop}:zN (.dat m (.int i)) δ P=(P (some i) δ):=rfl
theorem e_cb{rd:DC}{da:DA}{δ:DS}{P:DV->DS->Prop}:K6 rd da δ P=(da δ λxs δ1=>rd xs λz=>P z δ1):=rfl
theorem e_lenl{ds:List Ad}{m m':Md}{P:DV->Prop}:mH [.dat m (.list ds)] P=(P (.dat .ow (.int ds.length))):=rfl
theorem e_lent_w1{nds:List Int}{ds:List Ad}{m m':Md}{P:DV->Prop}:mH [.dat m (Ck nds)] P=(P (.dat .ow (.int (nds.map Bb).length))):=rfl
theorem e_listl{i:Bool}{ds:List Ad}{m m':Md}{P:DV->Prop}:jH i [.dat m (.list ds)] P=(fA i m ds P):=rfl
theorem e_intb{i:Bool}{m m':Md}{P:DV->Prop}:tZ [.dat m (.bool i)] P=(P (.dat .ow (.int (if i=true then 1 else 0)))):=rfl
theorem e_max2{i j:Int}{m m':Md}{P:DV->Prop}:iD [.dat m (.int i),.dat m' (.int j)] P=(P (.dat .ow (.int (if j > i then j else i)))):=rfl
theorem e_MinL{ds:List Ad}{m m':Md}{P:DV->Prop}:jO [.dat m (.list ds)] P=(∃ns:List Int,ds=ns.map Bb/\ns≠[]/\∀M∈ns,(∀x∈ns,M<=x)->P (.dat .ow (.int M))):=rfl
theorem e_all{ds:List Ad}{m m':Md}{P:DV->Prop}:rH [.dat m (.list ds)] P=(∃bs:List Bool,ds=bs.map PyData.bool/\P (.dat .ow (.bool (bs.all id)))):=rfl
theorem e_isi{d:Ad}{n:String}{m m':Md}{P:DV->Prop}:qJ [.dat m d,.val (.ty n)] P=((n = "int" \/ n = "bool" \/ n = "str" \/ n = "list" \/ n = "tuple")/\P (.dat .ow (.bool (eT d n)))):=rfl
theorem e_v{v:V}{δ:DS}{P:DV->DS->Prop}:dV v δ P=(P (.val v) δ):=rfl
theorem e_b{de:DE}{δ:DS}{P:Bool->DS->Prop}:dB de δ P=(de δ λx δ'=>bB x δ' P):=rfl
theorem e_bB{m:Md}{b:Bool}{δ:DS}{P:Bool->DS->Prop}:bB (.dat m (.bool b)) δ P=(P b δ):=rfl
theorem e_notT{dt:DT}{δ:DS}{P:Bool->DS->Prop}:zI dt δ P=(dt δ λb δ'=>P (!b) δ'):=rfl
theorem e_andT{dt du:DT}{δ:DS}{P:Bool->DS->Prop}:i4 dt du δ P=(dt δ λb δ'=>M9 du b δ' P):=rfl
theorem e_orT{dt du:DT}{δ:DS}{P:Bool->DS->Prop}:R9 dt du δ P=(dt δ λb δ'=>Z8 du b δ' P):=rfl
theorem e_orTf{du:DT}{δ:DS}{P:Bool->DS->Prop}:Z8 du false δ P=(du δ P):=rfl
theorem e_dL{de:DE}{δ:DS}{P:Md->List Ad->DS->Prop}:dL de δ P=(de δ λx δ'=>lB x δ' P):=rfl
theorem e_dTp{de:DE}{δ:DS}{P:Md->List Ad->DS->Prop}:AA de δ P=(de δ λx δ'=>AI x δ' P):=rfl
theorem e_lB{m:Md}{ds:List Ad}{δ:DS}{P:Md->List Ad->DS->Prop}:lB (.dat m (.list ds)) δ P=(P (Jw m) ds δ):=rfl
theorem e_tpB_w1{nds:List Int}{m:Md}{ds:List Ad}{δ:DS}{P:Md->List Ad->DS->Prop}:AI (.dat m (Ck nds)) δ P=(P (Jw m) (nds.map Bb) δ):=rfl
theorem e_range1{da:DA}{δ:DS}{P:Md->List Ad->DS->Prop}:gZ da δ P=(da δ λxs δ'=>i8 xs δ' P):=rfl
theorem e_rng1B{m:Md}{j:Int}{δ:DS}{P:Md->List Ad->DS->Prop}:i8 [.dat m (.int j)] δ P=(-1000000<=j/\j<=1000000/\P .sh ((Cu j.toNat).map λi:Nat=>.int i) δ):=rfl
theorem e_enum{da:DA}{δ:DS}{P:Md->List Ad->DS->Prop}:qK da δ P=(da δ λxs δ'=>i5 xs δ' P):=rfl
theorem e_enumB{m:Md}{ds:List Ad}{δ:DS}{P:Md->List Ad->DS->Prop}:i5 [.dat m (.list ds)] δ P=(P (Jw m) (ds.zipIdx.map λp=>.tuple [.int p.2,p.1]) δ):=rfl
theorem e_for{di:DI}{dg:DG}{db:DB}{D:DEnds}{δ:DS}:L5 di dg db D δ=(di δ (T1 dg db D)):=rfl
theorem e_comp{di:DI}{js:List Nat}{dc:DT}{de:DE}{δ:DS}{P:DV->DS->Prop}:uH di js dc de δ P=(di δ (uM js dc de P)):=rfl
theorem e_comp2{di:DI}{js:List Nat}{dc:DT}{de:DE}{δ:DS}{P:DV->DS->Prop}:uJ di js dc de δ P=(di δ (tX js dc de P)):=rfl
theorem e_noTest{δ:DS}{P:Bool->DS->Prop}:bQ δ P=(P true δ):=rfl
theorem e_step{dc:DT}{de:DE}{δ:DS}{yes:Ad->Nat->Prop}{no:Nat->Prop}:Nv dc de δ yes no=(dc δ λb δ2=>mL de yes no b δ2):=rfl
theorem e_stepT{de:DE}{δ:DS}{yes:Ad->Nat->Prop}{no:Nat->Prop}:mL de yes no true δ=(de δ λy δ3=>xS yes y δ3):=rfl
theorem e_stepF{de:DE}{δ:DS}{yes:Ad->Nat->Prop}{no:Nat->Prop}:mL de yes no false δ=(no δ.n):=rfl
theorem e_yesB{m:Md}{e:Ad}{δ:DS}{yes:Ad->Nat->Prop}:xS yes (.dat m e) δ=(imm e=true/\yes e δ.n):=rfl
theorem e_call{pf:PF}{da:DA}{δ:DS}{P:DV->DS->Prop}:rG pf da δ P=(da δ λxs δ1=>callB pf xs δ1 P):=rfl
theorem e_callW{i:Nat}{df:DF}{da:DA}{δ:DS}{P:DV->DS->Prop}:iM i df da δ P=(match δ.sl[i]? with | some .drw=>da δ λxs δ1=>callBW i df xs δ1 P | _=>False):=rfl
theorem e_draws{da:DA}{δ:DS}{P:DV->DS->Prop}:tR da δ P=(da δ λxs δ1=>tN xs δ1 P):=rfl
theorem e_drawsB{m:Md}{i:Int}{δ:DS}{P:DV->DS->Prop}:tN [.dat m (.int i)] δ P=(P .drw δ):=rfl
theorem e_append{i:Nat}{de:DE}{D:DEnds}{δ:DS}:cF i de D δ=(match δ.sl[i]? with | some (.dat _ (.list _))=>de δ λy δ1=>appB i y δ1 D | _=>False):=rfl
theorem e_setI{i:Nat}{dk de:DE}{D:DEnds}{δ:DS}:zW i dk de D δ=(de δ λy δ1=>match δ1.sl[i]? with | some (.dat _ (.list _))=>dk δ1 λz δ2=>setB i y z δ2 D | _=>False):=rfl
theorem e_revL{de:DE}{δ:DS}{P:DV->DS->Prop}:zU de δ P=(de δ λx δ1=>revLB x δ1 P):=rfl
theorem e_sumt_w1{nds:List Int}{ds:List Ad}{m m':Md}{P:DV->Prop}:uC [.dat m (Ck nds)] P=(∃ns:List Int,(nds.map Bb)=ns.map Bb/\P (.dat .ow (.int ns.sum))):=rfl
theorem e_scrSl{i:Nat}{dl dh:DO}{δ:DS}{P:DV->DS->Prop}:jF i dl dh δ P=(match δ.sl[i]? with | some (.scr ns)=>dl δ λl δ2=>dh δ2 λh δ3=>P (.dat .ow (.list ((Vw ns l h).map Bb))) δ3 | _=>False):=rfl
theorem e_dnew{δ:DS}{P:DV->DS->Prop}:b0 δ P=(P (.dat .ow (.dict (Oo []))) δ):=rfl
theorem e_dput{i:Nat}{dk de:DE}{D:DEnds}{δ:DS}:j8 i dk de D δ=(de δ λy δ1=>isDct δ1.sl[i]? = true/\dk δ1 λz δ2=>dputB i y z δ2 D):=rfl
theorem e_dictZ{da:DA}{δ:DS}{P:DV->DS->Prop}:iQ da δ P=(da δ λxs δ'=>cI xs δ' P):=rfl
theorem e_dictZB{m m':Md}{ds es:List Ad}{δ:DS}{P:DV->DS->Prop}:cI [.dat m (.list ds),.dat m' (.list es)] δ P=(ds.length<=1000000/\Dr es=true/\∃ws:List (List Int),ds=ws.map Ck/\P (.dat .ow (.dict (Oo (Pb [] (ws.zip es))))) δ):=rfl
theorem e_tagD{ks:List (List Int×Ad)}:xZ (Oo ks)=(true):=rfl
theorem e_inew{δ:DS}{P:DV->DS->Prop}:j5 δ P=(P (.dat .ow (.dict (Vy []))) δ):=rfl
theorem e_iput{i:Nat}{dk de:DE}{D:DEnds}{δ:DS}:zO i dk de D δ=(de δ λy δ1=>isIct δ1.sl[i]? = true/\dk δ1 λz δ2=>iputB i y z δ2 D):=rfl
theorem e_getI{da dk dz:DE}{δ:DS}{P:DV->DS->Prop}:uZ da dk dz δ P=(da δ λx δ1=>sE x=true/\dk δ1 λy δ2=>dz δ2 λz δ3=>lW x y z δ3 P):=rfl
theorem e_isIc2{m:Md}{ks:List (Int×Ad)}:sE (.dat m (.dict (Vy ks)))=(true):=rfl
theorem e_tagI{ks:List (Int×Ad)}:nC (Vy ks)=(true):=rfl
theorem e_forN{i:Nat}{dg:DG}{db:DB}{D:DEnds}{δ:DS}:j6 i dg db D δ=(∃ks,δ.sl[i]? = some (.dat .ow (.dict (Oo ks)))/\ks.length<=1000000/\Q3 i ks dg db D δ):=rfl
theorem e_sortK{m:Md}{ds:List Ad}{P:DV->Prop}:Wj [.dat m (.list ds)] P=(∃ws:List (List Int),ds=ws.map Ck/\ws.length<Ap/\∀L:List (List Int),L.Perm ws->L.Pairwise (λx y=>x.length<=y.length)->P (.dat .ow (.list (L.map Ck)))):=rfl
theorem e_MaxD{k:Int}{m:Md}{ds:List Ad}{P:DV->Prop}:bX k [.dat m (.list ds)] P=(∃ns:List Int,ds=ns.map Bb/\(ns=[]->P (.dat .ow (.int k)))/\∀M∈ns,(∀x∈ns,x<=M)->P (.dat .ow (.int M))):=rfl
section
variable{t u:DB}{D:DEnds}{δ δ1:DS}
theorem nW{α:Type}{dg:DG}{db:DB}{ds:List Ad}{l:List α}{g:α->Ad}(e:ds=l.map g)(I:Nat->DS->Prop)(h0:I 0 δ1)(hs:∀i a δ',l[i]? = some a->I i δ'->dg (.dat .sh (g a)) δ' λδ2=>db { D with nx:=I (i+1),ct:=I (i+1),bk:=D.nx } δ2)(hf:∀δ',I l.length δ'->D.nx δ'):T1 dg db D .sh ds δ1:=by
 subst e
 refine ⟨rfl,I,h0,λi d δ' hd hI=>?_,λδ' h=>hf δ' (by rw[Ac] at h; exact h)⟩
 rw[Aw] at hd
 cases q:l[i]? with
 | none=>rw[q] at hd; cases hd
 | some a=>rw[q] at hd; cases hd; exact hs i a δ' q hI
end
section
variable{js:List Nat}{dc:DT}{de:DE}{P:DV->DS->Prop}{m:Md}{ds:List Ad}{δ1:DS}{α:Type}
theorem gK{l:List α}{g:α->Ad}(e:ds=l.map g)(p:α->Bool)(f:α->Ad)(h:∀a∈l,∀(yes:Ad->Nat->Prop) (no:Nat->Prop),(p a=true->yes (f a) δ1.n)->(p a=false->no δ1.n)->Nv dc de ⟨.dat m (g a)::frD δ1.sl js,δ1.n⟩ yes no)(q:P (.dat .ow (.list ((l.filter p).map f))) δ1):uM js dc de P m ds δ1:=by
 subst e
 refine ⟨λi acc n=>n=δ1.n/\acc=((l.take i).filter p).map f,⟨rfl,by simp⟩,λi d acc n hd ⟨hn,ha⟩=>?_,λacc n ⟨hn,ha⟩=>?_⟩
 ·subst hn ha
  rw[Aw] at hd
  cases q:l[i]? with
  | none=>rw[q] at hd; cases hd
  | some a =>
   rw[q] at hd
   cases hd
   refine h a (Aq q) _ _ (λhp=>⟨rfl,?_⟩) (λhp=>⟨rfl,?_⟩)
   ·rw[Lz q,Kg,Bj]; simp [hp]
   ·rw[Lz q,Kg,Bj]; simp [hp]
 ·subst hn ha
  rw[Ac,Fw]
  exact q
theorem lI{l:List α}{g:α->Ad}(e:ds=l.map g)(f:α->Ad)(h:∀a∈l,∀(yes:Ad->Nat->Prop) (no:Nat->Prop),yes (f a) δ1.n->Nv dc de ⟨.dat m (g a)::frD δ1.sl js,δ1.n⟩ yes no)(q:P (.dat .ow (.list (l.map f))) δ1):uM js dc de P m ds δ1:=by
 refine gK e (λ_=>true) f (λa ha yes no hy _=>h a ha yes no (hy rfl)) ?_
 rw[List.filter_eq_self.mpr λ_ _=>rfl]
 exact q
theorem G6{l:List α}{g1 g2:α->Ad}(e:ds=l.map λa=>.tuple [g1 a,g2 a])(p:α->Bool)(f:α->Ad)(h:∀a∈l,∀(yes:Ad->Nat->Prop) (no:Nat->Prop),(p a=true->yes (f a) δ1.n)->(p a=false->no δ1.n)->Nv dc de ⟨.dat m (g1 a)::.dat m (g2 a)::frD δ1.sl js,δ1.n⟩ yes no)(q:P (.dat .ow (.list ((l.filter p).map f))) δ1):tX js dc de P m ds δ1:=by
 subst e
 refine ⟨λi acc n=>n=δ1.n/\acc=((l.take i).filter p).map f,⟨rfl,by simp⟩,λi d acc n hd ⟨hn,ha⟩=>?_,λacc n ⟨hn,ha⟩=>?_⟩
 ·subst hn ha
  rw[Aw] at hd
  cases q:l[i]? with
  | none=>rw[q] at hd; cases hd
  | some a =>
   rw[q] at hd
   cases hd
   refine ⟨_,_,rfl,h a (Aq q) _ _ (λhp=>⟨rfl,?_⟩) (λhp=>⟨rfl,?_⟩)⟩
   ·rw[Lz q,Kg,Bj]; simp [hp]
   ·rw[Lz q,Kg,Bj]; simp [hp]
 ·subst hn ha
  rw[Ac,Fw]
  exact q
end
theorem O3{t u:DB}{D:DEnds}{b:Bool}{δ:DS}(h1:b=true->t D δ)(h2:b=false->u D δ):Y4 t u D b δ:=by
 cases b with
 | true=>exact h1 rfl
 | false=>exact h2 rfl
theorem G9{du:DT}{b:Bool}{δ:DS}{P:Bool->DS->Prop}(h1:b=true->du δ P)(h2:b=false->P false δ):M9 du b δ P:=by
 cases b with
 | true=>exact h1 rfl
 | false=>exact h2 rfl
theorem Wh{de:DE}{yes:Ad->Nat->Prop}{no:Nat->Prop}{b:Bool}{δ:DS}(h1:b=true->de δ λy δ3=>xS yes y δ3)(h2:b=false->no δ.n):mL de yes no b δ:=by
 cases b with
 | true=>exact h1 rfl
 | false=>exact h2 rfl
class Im (d:Ad):Prop where
 h:imm d=true
class ImA (ds:List Ad):Prop where
 h:Dr ds=true
theorem im{d:Ad}[h:Im d]:imm d=true:=h.h
theorem AY{ds:List Ad}[h:ImA ds]:Dr ds=true:=h.h
instance {i:Int}:Im (.int i):=⟨by simp [imm]⟩
instance {i:Bool}:Im (.bool i):=⟨by simp [imm]⟩
instance {i:Str}:Im (.str i):=⟨by simp [imm]⟩
instance:Im .none:=⟨by simp [imm]⟩
instance {ds:List Ad} [h:ImA ds]:Im (.tuple ds):=⟨by rw[imm]; exact h.h⟩
instance {ns:List Int}:Im (Ck ns):=⟨sL ns⟩
instance:ImA []:=⟨by simp [Dr]⟩
instance {d:Ad} {ds:List Ad} [h:Im d] [t:ImA ds]:ImA (d::ds):=⟨by rw[Dr,h.h,t.h]; rfl⟩
instance {α:Type} {f:α->Ad} {l:List α} [h:∀a,Im (f a)]:ImA (l.map f):=⟨Rz (λa=>(h a).h) l⟩
instance {a b:List Ad} [h:ImA a] [k:ImA b]:ImA (a++b):=⟨by rw[Yn,h.h,k.h]; rfl⟩
class Dp (d:Ad) (k:outParam Nat):Prop where
 h:d.depth<=k
class DpA (ds:List Ad) (k:outParam Nat):Prop where
 h:Bl ds<=k
theorem dp{d:Ad}{k:Nat}[h:Dp d k](hk:k<=60:=by decide):d.depth<=60:=Ca h.h hk
instance {i:Int}:Dp (.int i) 0:=⟨by simp [Dc]⟩
instance {i:Bool}:Dp (.bool i) 0:=⟨by simp [Dc]⟩
instance {i:Str}:Dp (.str i) 0:=⟨by simp [Dc]⟩
instance:Dp .none 0:=⟨by simp [Dc]⟩
instance {ds:List Ad} {k:Nat} [h:DpA ds k]:Dp (.tuple ds) (k+1):=⟨by have:=h.h; simp only[Dc]; omega⟩
instance {ds:List Ad} {k:Nat} [h:DpA ds k]:Dp (.list ds) (k+1):=⟨by have:=h.h; simp only[Dc]; omega⟩
instance {ns:List Int}:Dp (Ck ns) 1:=⟨jG ns⟩
instance:DpA [] 0:=⟨by simp [Bl]⟩
instance {d:Ad} {ds:List Ad} {k j:Nat} [h:Dp d k] [t:DpA ds j]:DpA (d::ds) (k+j):=⟨by have:=h.h; have:=t.h; simp only[Bl]; omega⟩
instance {α:Type} {f:α->Ad} {l:List α} {k:Nat} [h:∀a,Dp (f a) k]:DpA (l.map f) k:=⟨Vi λx hx=>by
 obtain ⟨a,_,rfl⟩:=Bt.mp hx
 exact (h a).h⟩
theorem cD{a b:List Ad}:Bl (a++b)<=Bl a+Bl b:=by
 induction a with
 | nil=>simp [Bl]
 | cons x a ih=>simp only[Fz,Bl]; omega
instance {a b:List Ad} {k j:Nat} [h:DpA a k] [t:DpA b j]:DpA (a++b) (k+j):=⟨by have:=h.h; have:=t.h; have:=cD (a:=a) (b:=b); omega⟩
theorem qB(a b:List Ad):Du (.list a) (.list b)=Mn a b:=by simp [Du]
theorem gW{α:Type}[DecidableEq α]{f:α->Ad}(h:∀a b,Du (f a) (f b)=decide (a=b)):∀l m:List α,Mn (l.map f) (m.map f)=decide (l=m)
 | [],[]=>by simp [Mn]
 | [],_::_=>by simp [Mn]
 | _::_,[]=>by simp [Mn]
 | a::l,b::m=>by simp [Mn,h,gW h l m]
theorem eqD_intd(i j:Int):Du (.int i) (.int j)=decide (i=j):=by simp [Du]; rfl
def wordsD(ws:List (List Int)):Ad:=.list (ws.map Ck)
instance {ws:List (List Int)}:Dp (wordsD ws) 2:=⟨(inferInstance:Dp (.list (ws.map Ck)) 2).h⟩
def kU(ns:List Int):Ad:=.list (ns.map Bb)
instance {ns:List Int}:Dp (kU ns) 1:=⟨(inferInstance:Dp (.list (ns.map Bb)) 1).h⟩
theorem rQ(a b:List Int):Du (kU a) (kU b)=decide (a=b):=by
 unfold kU
 rw[qB,gW eqD_intd]
theorem any_int(ns:List Int)(i:Int):((ns.map Bb).any λe=>Du e (.int i))=decide (i∈ns):=by
 rw[Qm]
 induction ns with
 | nil=>rfl
 | cons n ns ih =>
  rw[Hw,ih]
  simp only[Function.comp,eqD_intd,Ak]
  by_cases h:n=i
  ·subst h; simp
  ·have : ¬ i=n:=λz=>h z.symm
   simp [h,this]
theorem xI{α β:Type}(f:α->β)(l:List α):(l.map f).zipIdx=l.zipIdx.map λp=>(f p.1,p.2):=by
 rw[List.zipIdx_map]
 rfl
theorem dO{α β:Type}(f:α->β)(l:List α)(i:Int):Ub (l.map f) i=(Ub l i).map f:=by
 unfold Ub
 rw[Ac]
 cases pH l.length i with
 | none=>rfl
 | some j=>simp
theorem Td{α:Type}{l:List α}{i:Int}(h0:0<=i)(h1:i<l.length):∃a,l[i.toNat]? = some a/\Ub l i=some a/\a∈l:=by
 have hk:i.toNat<l.length:=by omega
 refine ⟨l[i.toNat],by simp [hk],?_,List.getElem_mem hk⟩
 have q:Ub l ((i.toNat:Nat):Int)=some l[i.toNat]:=wB (by simp [hk])
 rwa [show ((i.toNat:Nat):Int)=i by omega] at q
theorem im_e{d:Ad}[h:Im d]:(imm d=true)=True:=eq_true h.h
theorem ima_e{ds:List Ad}[h:ImA ds]:(Dr ds=true)=True:=eq_true h.h
theorem dp_e{d:Ad}{k:Nat}[h:Dp d k](hk:k<=60):(d.depth<=60)=True:=eq_true (Ca h.h hk)
theorem dpa_e{ds:List Ad}{k:Nat}[h:DpA ds k](hk:k<=60):(Bl ds<=60)=True:=eq_true (Ca h.h hk)
theorem eqD_li(a b:List Int):Du (.list (a.map Bb)) (.list (b.map Bb))=decide (a=b):=rQ a b
theorem eqD_l0(a:List Ad):Du (.list a) (.list [])=a.isEmpty:=yZ a
theorem ow_e{d:Ad}{R:Ad->Prop}:(∃e,DV.dat .ow d=.dat .ow e/\R e)=R d:=by
 apply propext
 constructor
 ·(intro q_; obtain ⟨e,h,r⟩ := q_); cases h; exact r
 ·intro r; exact ⟨d,rfl,r⟩
theorem tt_e{m:Md}{b:Bool}:(∃m',DV.dat m (.bool b)=.dat m' (.bool true))=(b=true):=by
 apply propext
 constructor
 ·rintro ⟨e,h⟩; cases h; rfl
 ·intro r; subst r; exact ⟨m,rfl⟩
theorem cdiv_e{i j:Int}:x6 i j=(0<j/\j<1073741824):=rfl
theorem cpow_e{i j:Int}:B6 i j=(0<=j/\j<=1000000/\i.natAbs<2 ^ 64):=rfl
theorem T7{sl sl':List DV}{n n':Nat}(h:sl=sl')(h':n=n'):(⟨sl,n⟩ : DS)=⟨sl',n'⟩:=by subst h h'; rfl
def NP(v:DV):Prop:=∀l,npk (v::l)=npk l
theorem Tt:NP .un:=λ_=>rfl
theorem Lo{d:Ad}:NP (.dat .sh d):=λ_=>rfl
theorem i3{d:Ad}:NP (.dat .ow d):=λ_=>rfl
theorem u3:NP .drw:=λ_=>rfl
theorem o6{α:Type}(x y:α)(b:Bool):Ub [x,y] (if b=true then 1 else 0)=some (if b=true then y else x):=by cases b <;> rfl
theorem isi_li(ds:List Ad):eT (.list ds) "list" = true:=by simp [eT,vP]
theorem isi_ib(i:Int):eT (.int i) "bool" = false:=by simp [eT,vP]
theorem Q1{ns:List Int}(k:Nat):(Vw ns none (some (k:Int))).length<=k:=by
 rw[oB,Cv]
 exact Nat.min_le_left _ _
theorem ifB_lf{t u:DB}{D:DEnds}{δ:DS}:Y4 t u D false δ=u D δ:=rfl
theorem aF{α:Type}{l:List α}{i:Nat}{a:α}(h:l[i]? = some a):Ub l (i:Int)=some a:=by
 obtain ⟨b,e1,e2,_⟩:=Td (l:=l) (i:=(i:Int)) (by omega) (by have:=(Al.mp h).1; omega)
 rw[e2,<- e1,<- h]; rfl
theorem P5{α:Type}(x:α)(l:List α):Ub (x::l) 0=some x:=aF (i:=0) rfl
theorem O0{α:Type}(x y:α)(l:List α):Ub (x::y::l) 1=some y:=aF (i:=1) rfl
theorem S0{α:Type}(x y z:α)(l:List α):Ub (x::y::z::l) 2=some z:=aF (i:=2) rfl
theorem K8{α:Type}(x y z t:α)(l:List α):Ub (x::y::z::t::l) 3=some t:=aF (i:=3) rfl
theorem ik_e{ks:List (Int×Ad)}{w:Int}{Q:List (Int×Ad)->Int->Prop}:(∃ks' w',Vy ks=Vy ks'/\Bb w=Bb w'/\Q ks' w')=Q ks w:=propext ⟨λ⟨ks',w',e1,e2,h⟩=>by cases Tu e1; cases e2; exact h,λh=>⟨ks,w,rfl,rfl,h⟩⟩
theorem getI_e{ks:List (Int×Ad)}{w:Int}{e:Ad}{m m' m2:Md}{δ:DS}{P:DV->DS->Prop}:lW (.dat m (.dict (Vy ks))) (.dat m' (.int w)) (.dat m2 e) δ P=(imm e=true/\P (.dat .ow ((Nj ks w).getD e)) δ):=propext ⟨λ⟨ks',w',e1,e2,h⟩=>by cases Tu e1; cases e2; exact h,λh=>⟨ks,w,rfl,rfl,h⟩⟩
theorem dgetN_e{a:Addr}{ks:List (List Int×Ad)}{w:List Int}{m m':Md}{P:DV->Prop}:Wk (.dat m (.dict (Sx a ks))) (.dat m' (Ck w)) P=∃d,Vv ks w=some d/\P (.dat .ow d):=propext ⟨λ⟨a',ks',w',d,e1,e2,h⟩=>by obtain ⟨_,rfl⟩:=lZ e1; cases Pp e2; exact ⟨d,h⟩,λ⟨d,h⟩=>⟨a,ks,w,d,rfl,rfl,h⟩⟩
theorem dk_e{ks:List (List Int×Ad)}{w:List Int}{Q:List (List Int×Ad)->List Int->Prop}:(∃ks' w',Oo ks=Oo ks'/\Ck w=Ck w'/\Q ks' w')=Q ks w:=propext ⟨λ⟨ks',w',e1,e2,h⟩=>by cases Qu e1; cases Pp e2; exact h,λh=>⟨ks,w,rfl,rfl,h⟩⟩
theorem dget_e{ks:List (List Int×Ad)}{w:List Int}{m m':Md}{P:DV->Prop}:bM (.dat m (.dict (Oo ks))) (.dat m' (Ck w)) P=∃d,Vv ks w=some d/\P (.dat .ow d):=propext ⟨λ⟨ks',w',d,e1,e2,h⟩=>by cases Qu e1; cases Pp e2; exact ⟨d,h⟩,λ⟨d,h⟩=>⟨ks,w,d,rfl,rfl,h⟩⟩
end DL
namespace K32
open PySem L2 Nd DL
def Pn(i:Nat):Stmt:=PySem.Challenge.pw_needledeck_k32_how_often.main.body.getD i (.Pass ⟨0,0,0,0⟩)
abbrev Su:Stmt:=Pn 1
abbrev Kz:Stmt:=Pn 2
abbrev Qw:Stmt:=Pn 4
abbrev Ly:Stmt:=Pn 5
abbrev Kb:Stmt:=Pn 6
abbrev cK:Stmt:=Pn 7
abbrev cS:Stmt:=Pn 9
abbrev lX:Stmt:=Pn 10
abbrev Kc:Stmt:=Pn 11
abbrev Nb:Stmt:=Pn 12
abbrev Nl:Stmt:=Pn 13
abbrev Oi:Stmt:=Pn 14
abbrev Mf:Stmt:=Pn 15
abbrev Ni:Stmt:=Pn 16
abbrev Ke:Stmt:=Pn 17
abbrev Zl:Stmt:=Pn 18
section
variable{P:Bo}{w:World}{K:PySem.W.Frag}{mg:Str->Option Value}{base:Heap}
theorem AX:FnScope ["_law_cell"] ["_law_cell"] (Bu cS):=⟨rfl,rfl,rfl,by decide +kernel,rfl,by decide +kernel,by decide +kernel⟩
theorem vJ{f:Addr}{fd:Cm}(F:Fun K "_law_draws" "_law_draws" cS f fd):FnOk P w K mg base Jg 1 f fd ["_law_cell"] Tg:=by
 refine F.ok AX (λvs H Q E h=>?_) (λcdv A outer s H vs Q E hr h=>?_)
 ·obtain ⟨c,rfl,_⟩:=h
  rfl
 obtain ⟨c,rfl,q⟩:=h
 refine ⟨_,Gy (qG (lG P3 (pv 0) (Gz Yh Em Em) (cH _)) (Lw (Rv (Wy (Fs (Gz Sd (pv 0) (Gz zE (Gz Yh Em Em) Em)) (Fs Em (Fs qM Jc)))))) dH)
  (Lw (Rv (Wy (Fs (Gz Sd (pv 0) Em) (Fs Em (Fs qM Jc)))))),?_⟩
 refine ⟨_,rfl,10,18,rfl,rfl,⟨by decide,by decide,by decide⟩,_,_,rfl,rfl,_,rfl,T6 (λ_=>?_) (λ_=>?_)⟩
 ·refine ⟨_,rfl,10,60,rfl,rfl,⟨by decide,by decide,by decide⟩,_,16,rfl,rfl,⟨by decide,by show (Builtin.Int.intBits (10 ^ (60:Int).toNat):Int) * 16<=2 ^ 27; decide +kernel⟩,_,_,rfl,rfl,(by show (0:Int)<(10 ^ (60:Int).toNat) ^ (16:Int).toNat; decide +kernel),(by show 3<=Ap; decide),λp hp=>?_⟩
  exact q p _ _ _ hp Cr (Di hp _)
 ·refine ⟨_,rfl,_,_,rfl,rfl,(by show (0:Int)<1000003; decide),(by show 3<=Ap; decide),λp hp=>?_⟩
  exact q p _ _ _ hp Cr (Di hp _)
theorem AQ:FnScope ["_law_draws_here", "_law_k", "_law_number"] ["_law_draws_here"] (Bu lX):=⟨rfl,rfl,rfl,by decide +kernel,rfl,by decide +kernel,by decide +kernel⟩
theorem yC{f:Addr}{fd:Cm}(F:Fun K "_law_next" "_law_next" lX f fd):FnOk P w K mg base Jg 1 f fd ["_law_draws_here"] uY:=by
 refine F.ok AQ (λvs H Q E h=>?_) (λcdv A outer s H vs Q E hr h=>?_)
 ·obtain ⟨d,c,k,fl,rfl,_⟩:=h
  rfl
 obtain ⟨d,c,k,fl,rfl,hd,h0,h1,q⟩:=h
 refine ⟨_,Gy (jD (Gz Wx (Xf Rf (pv 0) Em (λ_ _=>rfl)) Em) (iU (pv 0) Em Xp))
  (Gy (qG (uK (Xf Rf (pv 0) Em (λ_ _=>rfl)))
   (Gy (Nk (i:=2) AQ.nd rfl (Ej rfl) (Gz Sd (Xf Rf (pv 0) Em (λ_ _=>rfl)) (Gz Yh Em Em)))
    (Gy (jD (Gz dR (Xf Rf (pv 0) Em (λ_ _=>rfl)) (Gz Yh Em Em)) (iU (pv 0) Em Xp))
    (Lw (Rv (pv 2))))) dH)
  (Gy (Nk (i:=1) AQ.nd rfl (Ej rfl) (Xf Rf (pv 0) Em (λ_ _=>rfl)))
  (Gy (Nk (i:=2) AQ.nd rfl (Ej rfl) (Gz Sd (Gz Uq (Gz Wx (Gz Wx (Xf Rf (pv 0) Em (λ_ _=>rfl)) (Gz Uq (Gz Uq (pv 1) (pv 1)) Em)) (pv 1)) Em) Em))
  (Gy (Nk (i:=2) AQ.nd rfl (Ej rfl) (Gz Sd (Gz Uq (pv 2) (pv 2)) Em))
  (Lw (Rv (Gz dR (Gz Sd (Gz Uq (pv 2) (Gz Wx (pv 2) Em)) Em) Em))))))),?_⟩
 -- draws[1]=draws[1]+1
 refine ⟨_,rfl,d,_,1,_,rfl,rfl,Kq.of hd,rfl,_,_,rfl,rfl,_,rfl,d,_,1,1,rfl,rfl,hd,rfl,?_⟩
 have e1:(upd H d (.lst ([V.int c,V.int k,V.bl fl].set 1 (V.int (k+1))))) d=some (.lst [.int c,.int (k+1),.bl fl]):=Cr
 generalize hH1:upd H d (.lst ([V.int c,V.int k,V.bl fl].set 1 (V.int (k+1))))=H1 at e1
 have s1:Vf d H H1:=by rw[<- hH1]; exact Vf.upd
 refine ⟨_,rfl,d,_,2,_,rfl,rfl,Kq.of e1,rfl,_,rfl,?_⟩
 refine T6 (λ_=>?_) (λ_=>?_)
 ·refine ⟨_,rfl,d,_,0,_,rfl,rfl,Kq.of e1,rfl,10,6,rfl,rfl,⟨by decide,by decide,by decide⟩,_,_,rfl,rfl,(by show (0:Int)<10 ^ (6:Int).toNat; decide),?_⟩
  refine ⟨_,rfl,d,_,0,_,rfl,rfl,Kq.of e1,rfl,10,6,rfl,rfl,⟨by decide,by decide,by decide⟩,_,_,rfl,rfl,⟨by decide,by decide⟩,_,rfl,d,_,0,0,rfl,rfl,e1,rfl,_,rfl,?_⟩
  exact q _ _ _ Cr (s1.trans Vf.upd)
 ·refine ⟨_,rfl,d,_,1,_,rfl,rfl,Kq.of e1,rfl,?_⟩
  have b1:=cB ((c+(k+1) * (k+1) * 7919+(k+1)) * 48271) 2147483629 (by decide)
  refine ⟨_,rfl,d,_,0,_,rfl,rfl,Kq.of e1,rfl,_,rfl,_,rfl,_,_,rfl,rfl,.inl ⟨by omega,by omega⟩,_,_,rfl,rfl,.inr ⟨by decide,by decide⟩,_,_,rfl,rfl,_,rfl,_,_,rfl,rfl,
   _,_,rfl,rfl,.inr ⟨by decide,by decide⟩,_,_,rfl,rfl,(by show (0:Int)<2147483629; decide),?_⟩
  generalize ((c+(k+1) * (k+1) * 7919+(k+1)) * 48271) % 2147483629=x at b1
  have b2:=cB (x * x) 2147483587 (by decide)
  refine ⟨_,rfl,_,rfl,_,_,rfl,rfl,.inl ⟨by omega,by omega⟩,_,_,rfl,rfl,(by show (0:Int)<2147483587; decide),?_⟩
  generalize (x * x) % 2147483587=y at b2
  refine ⟨_,rfl,_,rfl,_,_,rfl,rfl,_,_,rfl,rfl,.inl ⟨by omega,by omega⟩,_,_,rfl,rfl,(by show (0:Int)<2147483579; decide),_,_,rfl,rfl,⟨by decide,by decide⟩,?_⟩
  exact q _ _ _ e1 s1
theorem mT{f:Addr}{fd:Cm}(F:Fun K "_law_draws" "_law_draws" cS f fd):FnOk P w K mg base Jg 1 f fd ["_law_cell"] Tg:=vJ F
theorem qA{f:Addr}{fd:Cm}(F:Fun K "_law_next" "_law_next" lX f fd):FnOk P w K mg base Jg 1 f fd ["_law_draws_here"] (lN K Xk):=zF (yC F)
end
end K32
namespace DL
open PySem L2 Nd
def sub(a b:List Int):Bool:=a.all λi=>decide (i∈b)
def eY(a b:List Int):List Int:=a.filter λi=>decide (i∉b)
theorem iK{h:Int}{a:List Int}(r:Jr h a):a.Nodup:=r.1.imp λ{x y} h=>Int.ne_of_lt h
theorem Wv(a:Int){b:Int}(h:0<b):0<=a % b/\a % b<b:=cB a b h
end DL
namespace Nd
open PySem L2 Ts
def uG(K:PySem.W.Frag):R2:=λx y H Q=>∃a b xs ys,x=.ref a/\y=.ref b/\Sj K H a xs/\Sj K H b ys/\ys≠[]/\xs.length+ys.length<=Ap/\(xs=[]->Q (.ref b) H)/\(xs≠[]->∀p,H p=none->Q (.ref p) (upd H p (.tup (xs++ys))))
open PyProof.Rows in
theorem lY{X:Cx}:Vk X (Hs .Add) (uG X.K):=by
 intro pins s σ H x y v u Q I rx ry h
 obtain ⟨a,b,xs,ys,rfl,rfl,ha,hb,hy,hz,q1,q2⟩:=h
 by_cases hx:xs=[]
 ·cases rx
  cases ry
  obtain ⟨its,r1,p1,_⟩:=I.tuple ha
  obtain ⟨its2,r2,p2,_⟩:=I.tuple hb
  have e1:its=[]:=r1.nil_iff.mpr hx
  subst e1
  obtain ⟨⟨c1,d1,dt1,sl1⟩,g1,k1,n1,e1⟩:=id p1
  obtain ⟨⟨c2,d2,dt2,sl2⟩,g2,k2,n2,e2⟩:=id p2
  simp only at k1 e1 k2 e2
  subst k1 e1 k2 e2
  exact concat_meets ⟨_,g1,rfl⟩ ⟨_,g2,rfl⟩ dX seq_tuple_add PySem.F.slot_tuple_add PySem.F.entry_tuple_add (PySem.F.args_tuple_add_2 _ _)
   (tuple_addW0 a b _ _ n1 n2 d1 d2 sl1 sl2 rfl) ⟨g1,g2,⟨.ref b,H,I,rfl,q1 hx⟩⟩
 ·exact wC pins s σ H (.ref a) (.ref b) v u Q I rx ry ⟨a,b,xs,ys,rfl,rfl,ha,hb,hx,hz,λz=>absurd z hy,λ_=>q2 hx⟩
def Do:Nat->List (List Int)
 | 0=>[[]]
 | n+1=>Do n++(Do n).map (·++[(n:Int)])
theorem Om:∀n,(Do n).length=2 ^ n
 | 0=>rfl
 | n+1=>by
  show (Do n++(Do n).map (·++[(n:Int)])).length=2 ^ (n+1)
  rw[Cc,Ac,Om n,Nat.pow_succ]
  omega
theorem Ox{n:Nat}(h:n<=10):(Do n).length<=1024:=by
 rw[Om]
 exact Nat.pow_le_pow_right (by decide) h
theorem Ky:∀n,∀w∈Do n,w.length<=n
 | 0,w,h=>by
  have : w=[]:=by simpa [Do] using h
  rw[this]
  exact Ai _
 | n+1,w,h=>by
  rcases Bi.mp (show w∈Do n++(Do n).map (·++[(n:Int)]) from h) with h | h
  ·exact Nat.le_succ_of_le (Ky n w h)
  ·obtain ⟨v,hv,e⟩:=Bt.mp h
   rw[<- e,Cc,Lh]
   exact Nat.succ_le_succ (Ky n v hv)
theorem Qd:∀n,∃r,Do n=[]::r
 | 0=>⟨[],rfl⟩
 | n+1=>by
  obtain ⟨r,e⟩:=Qd n
  refine ⟨r++(Do n).map (·++[(n:Int)]),?_⟩
  show Do n++(Do n).map (·++[(n:Int)])=_
  conv=>lhs; lhs; rw[e]
  rfl
def Ord(l:List (List Int)):Prop:=l.Pairwise λx y=>HT.lexLt y x=false
theorem fK:∀{l m:List (List Int)},l.Perm m->Ord l->Ord m->l=m
 | [],m,p,_,_=>(List.Perm.nil_eq p)
 | x::l,[],p,_,_=>by
  have:=p.length_eq
  simp at this
 | x::l,y::m,p,h1,h2=>by
  obtain ⟨a1,a2⟩:=Bd.mp h1
  obtain ⟨b1,b2⟩:=Bd.mp h2
  have e:x=y:=by
   have mx:x∈y::m:=p.mem_iff.mp Ab
   have my:y∈x::l:=p.mem_iff.mpr Ab
   rcases Ak.mp mx with e | mx
   ·exact e
   ·rcases Ak.mp my with e | my
    ·exact e.symm
    ·exact dP (b1 x mx) (a1 y my) |>.symm▸rfl
  subst e
  rw[fK ((List.perm_cons x).mp p) a2 b2]
def Ws(H:Hp)(ws:List (Addr×List Int)):Prop:=∀p∈ws,H p.1=some (.tup (p.2.map V.int))
def vF(H:Hp)(a:Addr):List Int:=match H a with
 | some (.tup xs)=>xs.filterMap λx=>match x with | .int i=>some i | _=>none
 | _=>[]
theorem Ry{H:Hp}{a:Addr}{w:List Int}(h:H a=some (.tup (w.map V.int))):vF H a=w:=by
 unfold vF
 rw[h]
 show (w.map V.int).filterMap _=w
 rw[List.filterMap_map]
 exact List.filterMap_some
theorem Ws.c{H:Hp}{ws:List (Addr×List Int)}(h:Ws H ws):(ws.map (·.1)).map (vF H)=ws.map (·.2):=by
 rw[Bw]
 exact Dl λp hp=>Ry (h p hp)
def bS:Sp:=λvs H Q _=>∃h:Int,vs=[.int h]/\0<=h/\h<=10 /\
 ∀(p:Addr) (rs:List Addr) (L:List (List Int)) (H':Hp),H p=none->H' p=some (.lst (rs.map V.ref))->(∀(i:Nat) (r:Addr) (w:List Int),rs[i]? = some r->L[i]? = some w->H' r=some (.tup (w.map V.int)))->rs.length=L.length->L.Perm (Do h.toNat)->Ord L->La H H'->Q (.ref p) H'
end Nd
namespace Nd
open PySem L2
def ch:Nat->Nat->Nat
 | _,0=>1
 | 0,_+1=>0
 | n+1,k+1=>ch n k+ch n (k+1)
theorem mC(n k:Nat):ch (n+1) (k+1)=ch n k+ch n (k+1):=rfl
theorem Xx:∀{n k:Nat},n<k->ch n k=0
 | 0,0,h=>absurd h (Ew _)
 | 0,k+1,_=>rfl
 | n+1,0,h=>absurd h (Nat.not_lt_zero _)
 | n+1,k+1,h=>by rw[mC,Xx (by omega:n<k),Xx (by omega:n<k+1)]
theorem wO:∀n:Nat,ch n n=1
 | 0=>rfl
 | n+1=>by rw[mC,wO n,Xx (Nat.lt_succ_self n)]
def cw:Nat->Int->Nat->List (List Int)
 | _,_,0=>[[]]
 | 0,_,_+1=>[]
 | d+1,p,m+1=>(cw d (p+1) m).map (p::·)++cw d (p+1) (m+1)
def Ui(Pn:Int):Nat->List Int->Nat
 | _,[]=>0
 | m,x::w=>ch (Pn - 1 - x).toNat m+Ui Pn (m - 1) w
theorem iZ:∀{n:Nat} {w:List Int},w∈Do n↔Jr n w
 | 0,w=>by
  show w∈[[]]↔_
  rw[List.mem_singleton]
  constructor
  ·rintro rfl; exact Jr.nil _
  ·rintro ⟨_,h⟩
   match w with
   | []=>rfl
   | x::w=>have:=h x Ab; omega
 | n+1,w=>by
  show w∈Do n++(Do n).map (·++[(n:Int)])↔_
  rw[List.mem_append,List.mem_map,iZ]
  constructor
  ·rintro (h | ⟨v,hv,rfl⟩)
   ·exact h.up (by omega)
   ·have:=(iZ.mp hv).more (by omega)
    exact this.up (by omega)
  ·intro h
   by_cases hn:(n:Int)∈w
   ·refine .inr ⟨w.dropLast,iZ.mpr ?_,?_⟩
    ·have hne:w≠[]:=λz=>by rw[z] at hn; cases hn
     have hl:w.getLast hne=n:=by
      have h1:=h.2 _ (List.getLast_mem hne)
      by_cases e:w.getLast hne=n
      ·exact e
      ·exfalso
       have hd:=Hv hne
       rw[<- hd] at hn
       rcases Bi.mp hn with z | z
       ·have hp:=h.1
        rw[<- hd] at hp
        have:=(Dh.mp hp).2.2 _ z _ (Ah.mpr rfl)
        omega
       ·exact e (Ah.mp z).symm
     have hd:=Hv hne
     have hp:=h.1
     rw[<- hd,hl] at hp
     obtain ⟨p1,_,p3⟩:=Dh.mp hp
     exact ⟨p1,λx hx=>⟨(h.2 x (List.dropLast_subset w hx)).1,p3 x hx _ (Ah.mpr rfl)⟩⟩
    ·have hne:w≠[]:=λz=>by rw[z] at hn; cases hn
     have hl:w.getLast hne=n:=by
      have h1:=h.2 _ (List.getLast_mem hne)
      by_cases e:w.getLast hne=n
      ·exact e
      ·exfalso
       have hd:=Hv hne
       rw[<- hd] at hn
       rcases Bi.mp hn with z | z
       ·have hp:=h.1
        rw[<- hd] at hp
        have:=(Dh.mp hp).2.2 _ z _ (Ah.mpr rfl)
        omega
       ·exact e (Ah.mp z).symm
     rw[<- hl]
     exact Hv hne
   ·refine .inl ⟨h.1,λx hx=>?_⟩
    have:=h.2 x hx
    have : x≠n:=λz=>hn (by rw[<- z]; exact hx)
    omega
theorem Oq:∀n:Nat,(Do n).Nodup
 | 0=>Bx.mpr ⟨Az,Cs⟩
 | n+1=>by
  show (Do n++(Do n).map (·++[(n:Int)])).Nodup
  refine Wa.mpr ⟨Oq n,?_,λx hx y hy e=>?_⟩
  ·exact List.Pairwise.map _ (λa b h e=>h (List.append_cancel_right e)) (Oq n)
  ·subst e
   obtain ⟨v,_,rfl⟩:=Bt.mp hy
   have:=(iZ.mp hx).2 n (Ao _ (Ah.mpr rfl))
   omega
end Nd
namespace DL
open PySem L2 Nd
def Tq:PF:=λds R=>∃h:Int,ds=[.int h]/\0<=h/\h<=10/\∀L:List (List Int),L.Perm (Do h.toNat)->Ord L->R (wordsD L)
theorem gG{K:PySem.W.Frag}{H:Hp}:∀{rs:List Addr} {L:List (List Int)},(∀(i:Nat) (r:Addr) (w:List Int),rs[i]? = some r->L[i]? = some w->H r=some (.tup (w.map V.int)))->rs.length=L.length->(∀w∈L,w.length<=1000000)->RdFs K H (rs.map V.ref) (L.map Ck) []
 | [],[],_,_,_=>.nil
 | r::rs,w::L,h,l,hw=>by
  have a:=yV (K:=K) (h 0 r w rfl rfl) (hw w (Ab ..))
  have t:=gG (K:=K) (rs:=rs) (L:=L) (λi r' w' e1 e2=>h (i+1) r' w' e1 e2) (by simpa using l) (λw' z=>hw w' (Af _ z))
  exact RdFs.cons a t
 | [],_::_,_,l,_=>by simp at l
 | _::_,[],_,l,_=>by simp at l
theorem Qq{L:List (List Int)}{n:Nat}(hn:n<=10)(p:L.Perm (Do n)):L.length<=1024/\∀w∈L,Jr n w/\w.length<=10:=⟨by rw[p.length_eq]; exact Ox hn,λw hw=>⟨iZ.mp (p.mem_iff.mp hw),Ca (Ky n w (p.mem_iff.mp hw)) hn⟩⟩
section
variable{P:Bo}{w:World}{K:PySem.W.Frag}{mg:Str->Option Value}{base:Heap}{k:Nat}{f:Addr}{fd:Cm}{ps:List Str}
theorem fM(F:FnOk P w K mg base Jg k f fd ps bS):FnOk P w K mg base Jg k f fd ps (Ve K Tq):=by
 refine F.imp λus H Q E h=>?_
 obtain ⟨As,n,ds,R,eu,ok,q,hp,k1⟩:=h
 obtain ⟨h,rfl,h0,h1,hR⟩:=hp
 obtain ⟨v1,F1,rfl,r1⟩:=sU eu ok q
 obtain ⟨rfl,_⟩:=r1.int_inv
 refine ⟨h,rfl,h0,h1,λp rs L H' np ep hr hl hp ho s=>?_⟩
 obtain ⟨l1,l2⟩:=Qq (n:=h.toNat) (by omega) hp
 refine k1 (.ref p) _ [p] H' (hR L hp ho) (RdF.lst ep (by rw[Ac]; exact nO (by omega)) (gG hr hl λw hw=>by have:=(l2 w hw).2; omega)) (Bx.mpr ⟨Az,Cs⟩) (λa ha=>?_) s
 rw[Ah.mp ha]; exact np
end
theorem iL{α:Type}{l:List α}{i:Nat}{p:α×Nat}(h:l.zipIdx[i]? = some p):p.2=i/\l[i]? = some p.1/\p.1∈l/\i<l.length:=by
 rw[List.getElem?_zipIdx] at h
 cases q:l[i]? with
 | none=>rw[q] at h; cases h
 | some a =>
  rw[q] at h
  cases h
  exact ⟨by simp,rfl,Aq q,(Al.mp q).1⟩
def pairD(p:Nat×Nat):Ad:=.tuple [.int p.1,.int p.2]
instance {p:Nat×Nat}:Im (pairD p):=⟨(inferInstance:Im (.tuple [.int p.1,.int p.2])).h⟩
instance {p:Nat×Nat}:Dp (pairD p) 1:=⟨(inferInstance:Dp (.tuple [.int p.1,.int p.2]) 1).h⟩
def j7(p:Nat×Nat×List Int):Ad:=.tuple [.int p.1,.int p.2.1,Ck p.2.2]
instance {p:Nat×Nat×List Int}:Im (j7 p):=⟨(inferInstance:Im (.tuple [.int p.1,.int p.2.1,Ck p.2.2])).h⟩
instance {p:Nat×Nat×List Int}:Dp (j7 p) 2:=⟨(inferInstance:Dp (.tuple [.int p.1,.int p.2.1,Ck p.2.2]) 2).h⟩
def Z2(L:List (List Int))(f:List Int->Int):Ad:=.list ((L.map f).map Bb)
instance {L:List (List Int)} {f:List Int->Int}:Dp (Z2 L f) 1:=⟨(inferInstance:Dp (.list ((L.map f).map Bb)) 1).h⟩
theorem Qi{L:List (List Int)}{n:Nat}(p:L.Perm (Do n)):L.Nodup:=p.nodup_iff.mpr (Oq n)
theorem oT{n m:Int}{a b:List Int}(ha:Jr n a)(hb:Jr m b)(h:∀i,i∈a↔i∈b):a=b:=by
 have p:a.Perm b:=(List.perm_ext_iff_of_nodup (iK ha) (iK hb)).mpr h
 exact p.eq_of_pairwise (λx y _ _ h1 h2=>by omega) ha.1 hb.1
end DL
namespace DL
open PySem PySem.Spec PyProof.Rows L2 Nd
def Pi(L:List (List Int))(f:List Int->Int):List (List Int×Ad):=L.map λw=>(w,.int (f w))
theorem fT:∀(L:List (List Int)) (es:List Ad) (acc:List (List Int×Ad)),L.length=es.length->L.Nodup->(∀w∈L,∀p∈acc,p.1≠w)->Pb acc (L.zip es)=acc++L.zip es
 | [],es,acc,_,_,_=>by simp [Pb]
 | w::L,[],acc,h,_,_=>by cases h
 | w::L,e::es,acc,h,nd,hn=>by
  have hp:Qf acc w e=acc++[(w,e)]:=by
   unfold Qf
   rw[if_neg]
   rw[List.any_eq_true]
   (intro q_; obtain ⟨p,hp,z⟩ := q_)
   exact hn w Ab p hp (of_decide_eq_true z)
  have nd':=Bx.mp nd
  show Pb (Qf acc w e) (L.zip es)=_
  rw[hp,fT L es _ (Nat.succ.inj h) nd'.2 λv hv p hp=>?_]
  ·rw[Cj]; rfl
  ·rcases Bi.mp hp with z | z
   ·exact hn v (Af _ hv) p z
   ·rw[Ah.mp z]
    rintro rfl
    exact nd'.1 hv
theorem eQ:∀(L:List (List Int)) (f:List Int->Int),L.zip ((L.map f).map Bb)=Pi L f
 | [],f=>rfl
 | w::L,f=>by
  have ih:=eQ L f
  unfold Pi at ih ⊢
  rw[Au,Au,Vb,ih]
  rfl
theorem tG{L:List (List Int)}(nd:L.Nodup)(f:List Int->Int):Pb [] (L.zip ((L.map f).map Bb))=Pi L f:=by
 rw[fT L _ [] (by rw[Ac,Ac]) nd λ_ _ p hp=>(nomatch hp),Rj,eQ]
theorem Qy{w:List Int}{f:List Int->Int}:∀{L:List (List Int)},w∈L->Vv (Pi L f) w=some (.int (f w))
 | [],h=>(nomatch h)
 | v::L,h=>by
  unfold Vv Pi
  rw[Au,Hu]
  by_cases e:v=w
  ·subst e
   rw[show decide ((v,Bb (f v)).1=v)=true from decide_eq_true rfl]
   rfl
  ·rw[show decide ((v,Bb (f v)).1=w)=false from decide_eq_false e]
   have ih:=Qy (f:=f) (List.mem_of_ne_of_mem (λz=>e z.symm) h)
   exact ih
end DL
namespace K32
open PySem L2 Nd DL
local macro_rules | `(tactic| array_get_dec) => do
  let ids:=(("e_sortL e_seq e_skip e_ret e_if e_asg e_name e_name2 e_name4 e_own e_nF e_op e_var e_c e_imm e_immB e_take e_I e_I0 e_eqF e_eqT e_inFt_w1 e_inTt_w1 e_ixl e_cat e_rep e_nlT e_pkOfpk e_pkOfsh e_pkOfow e_mdInsh e_mdInow e_mdItpk e_mdItsh e_mdItow e_nil e_cons e_lst e_noPart e_part e_partB e_cb e_lenl e_lent_w1 e_listl e_intb e_max2 e_MinL e_all e_isi e_v e_b e_bB e_notT e_andT e_orT e_orTf e_dL e_dTp e_lB e_tpB_w1 e_range1 e_rng1B e_enum e_enumB e_for e_comp e_comp2 e_noTest e_step e_stepT e_stepF e_yesB e_call e_callW e_draws e_drawsB e_append e_setI e_revL e_sumt_w1 e_scrSl e_dnew e_dput e_dictZ e_dictZB e_tagD e_inew e_iput e_getI e_isIc2 e_tagI e_forN e_sortK e_MaxD dgetN_e isIct iputB ik_e getI_e isDct dputB dk_e dget_e wordsD callB callBW lstB datas pkMd allOw noPk appB revLB setB own1 npk retE retW retL args0 frD frD1 alD List.map_cons List.map_nil List.replicate List.getElem?_cons_zero List.getElem?_cons_succ List.set_cons_zero List.set_cons_succ List.cons_append List.nil_append Option.map_some List.length_cons List.length_nil List.append_nil rdAdd rdSub rdMul rdDiv rdMod rdPow rdXor if_true Nat.reduceAdd Nat.reduceSub Nat.reduceLeDiff true_and im_e ima_e dp_e dpa_e any_int eqD_intd eqD_li eqD_l0 ow_e tt_e cdiv_e cpow_e Int.reduceLT Int.reduceLE Int.reduceNeg and_self Int.reduceToNat Int.reducePow isi_li isi_ib Bool.not_true decide_true String.reduceEq or_true true_or List.isEmpty_nil ifB_lf" : String).splitOn " ").toArray.map λ(x:String)=>Lean.mkIdent x.toName
  `(tactic| try simp only [$[$ids:ident],*])
section
variable{P:Bo}{w:World}{K:PySem.W.Frag}{mg:Str->Option Value}{base:Heap}
theorem Va:FnScope ["holes", "words", "place"] ["holes"] (Bu Kz):=⟨rfl,rfl,rfl,by decide +kernel,rfl,by decide +kernel,by decide +kernel⟩
theorem Zn{f:Addr}{fd:Cm}(F:Fun K "all_words" "all_words" Kz f fd)(mR:mg "range" = none)(mS:mg "sorted" = none):FnOk P w K mg base Jg 1 f fd ["holes"] bS:=by
 refine F.ok Va (λvs H Q E h=>?_) (λcdv A outer s H vs Q E hr h=>?_)
 ·obtain ⟨h,rfl,_⟩:=h
  rfl
 obtain ⟨h,rfl,h0,h1,q⟩:=h
 have hu2:(A.deeper (PyProof.Rows.envOfC "all_words" (Bu Kz) s.heap.objs.size f cdv)).units+2<cLine:=Ht (Nat.add_le_add_left (by decide:2<=64) _) hr.units
 refine ⟨_,Gy (Nk (i:=1) Va.nd rfl (Ej rfl) (Wy (Fs (Xr Jc) Jc)))
  (Gy (cN Fj rfl (Ut rfl mR (Fs (pv 0) Jc)) (Mu (i:=2) Va.nd rfl (Tz rfl))
   (Lw (Nk (i:=1) Va.nd rfl (Ej rfl) (Gz iJ (pv 1)
    (bY (Xh (x := "word") (y := "place") (j:=2) (cl:=[("place",s.heap.objs.size+1)]) (by rfl) (by decide +kernel) (by rfl) (by decide +kernel) (by rfl) (λ_ _ h=>h) (by rfl) (by decide +kernel) (by rfl) (by rfl) (by rfl)) rfl (cE (pv 1)) (λ_ _ _=>Yj)
     (λ_ _ _=>Gz (r:=uG K) lY (pv 0) (Xr (Fs (pv 1) Jc))))))))
  (Lw (Rv (Wu (Ts.call_sorted hu2) rfl mS (by decide +kernel) (Fs (pv 1) Jc))))),?_⟩
 refine ⟨(by show 0<=Ap; decide),λe ne=>⟨(by show 1<=Ap; decide),λl nl=>?_⟩⟩
 have s1:=(Di ne (.tup [])).trans (Di nl (.lst [V.ref e]))
 have b1:(upd (upd H e (.tup [])) l (.lst [V.ref e])) l=some (.lst (([(e,[])].map λp:Addr×List Int=>p.1).map V.ref)):=Cr
 have b2:Ws (upd (upd H e (.tup [])) l (.lst [V.ref e])) [(e,[])]:=λp hp=>by
  have : p=(e,[]):=by simpa using hp
  rw[this]
  exact Di nl _ _ _ Cr
 refine ⟨_,rfl,h,rfl,by omega,by omega,aZ (lo:=0) (n:=h.toNat) (λi σ H2=>∃(l:Addr) (ws:List (Addr×List Int)) (pl:Option V),σ=[some (.int h),some (.ref l),pl]/\H2 l=some (.lst ((ws.map λp:Addr×List Int=>p.1).map V.ref))/\Ws H2 ws/\(ws.map λp:Addr×List Int=>p.2)=Do i/\La H H2)
  ⟨l,[(e,[])],none,rfl,b1,b2,rfl,s1⟩ ?_ ?_⟩
 ·(intro i σ H2 hi q_; obtain ⟨l,ws,pl,rfl,e1,hw,ew,sm⟩ := q_)
  have i10:i<=10:=by omega
  have lw:ws.length=(Do i).length:=by rw[<- ew,Ac]
  have lz:=Ox i10
  have hz:((ws.map λp:Addr×List Int=>p.1).map V.ref).length=(Do i).length:=by rw[Ac,Ac,lw]
  refine ⟨_,rfl,_,rfl,l,rfl,⟨_,Kq.of e1⟩,mG (Vh (xs:=(ws.map λp:Addr×List Int=>p.1).map V.ref)) (by rw[hz]; exact Ca lz (by decide))
   (λD j acc H3=>∃vs:List (Addr×List Int),acc=((vs.map λp:Addr×List Int=>p.1).map V.ref)/\Ws H3 vs/\(vs.map λp:Addr×List Int=>p.2)=((Do i).take j).map (·++[(i:Int)])/\La H2 H3)
   (λD nD=>⟨[],rfl,λp hp=>(nomatch hp),by simp,Di nD _⟩) (λD j acc H3 ⟨_,_,_,_,s3⟩=>Kq.of (s3 _ _ e1)) ?_ ?_⟩
  ·(intro D j x acc H3 nD hx ha q_; obtain ⟨vs,rfl,wv,ev,s3⟩ := q_)
   refine rW ?_
   rw[Bw,Aw] at hx
   cases hj:ws[j]? with
   | none=>rw[hj] at hx; cases hx
   | some pr =>
    obtain ⟨a,wd⟩:=pr
    rw[hj] at hx
    have ex:V.ref a=x:=Bk hx
    subst ex
    have ha2:H3 a=some (.tup (wd.map V.int)):=s3 _ _ (hw (a,wd) (Aq hj))
    have ewd:(Do i)[j]? = some wd:=by
     rw[<- ew,Aw,hj]
     rfl
    have lwd:wd.length<=10:=Ca (Ky i wd (Aq ewd)) i10
    -- the new word stands at r
    have fin:∀(r:Addr) (H4:Hp),La H3 H4->H4 r=some (.tup ((wd++[(i:Int)]).map V.int))->H4 D=some (.lst ((vs.map λp:Addr×List Int=>p.1).map V.ref)) /\
      ∃vs':List (Addr×List Int),(vs.map λp:Addr×List Int=>p.1).map V.ref++[V.ref r]=(vs'.map λp:Addr×List Int=>p.1).map V.ref/\Ws (upd H4 D (.lst ((vs.map λp:Addr×List Int=>p.1).map V.ref++[V.ref r]))) vs' /\
       (vs'.map λp:Addr×List Int=>p.2)=((Do i).take (j+1)).map (·++[(i:Int)])/\La H2 (upd H4 D (.lst ((vs.map λp:Addr×List Int=>p.1).map V.ref++[V.ref r]))):=λr H4 s4 hr4=>by
     have hD4:=s4 _ _ ha
     refine ⟨hD4,vs++[(r,wd++[(i:Int)])],by simp,λp hp=>?_,?_,λb o z=>?_⟩
     ·have hp4:H4 p.1=some (.tup (p.2.map V.int)):=by
       rcases Bi.mp hp with hp | hp
       ·exact s4 _ _ (wv p hp)
       ·have : p=(r,wd++[(i:Int)]):=by simpa using hp
        rw[this]
        exact hr4
      rw[Cn (lA hp4 hD4 (by intro z; cases z))]
      exact hp4
     ·rw[Bj,ev,Lz ewd,Bj]
      rfl
     ·rw[Cn (Da z nD)]
      exact s4 _ _ (s3 _ _ z)
    refine ⟨_,rfl,_,rfl,(by show 1<=Ap; decide),λp1 np1=>?_⟩
    have s4:=Di np1 (.tup [V.int (0+(i:Int))])
    refine ⟨a,p1,_,_,rfl,rfl,Sj.of (s4 _ _ ha2),Sj.of Cr,(λz=>nomatch z),?_,λz=>?_,λz p2 np2=>?_⟩
    ·rw[Ac]
     show wd.length+1<=Ap
     exact small (by omega)
    ·have e0:wd=[]:=by simpa using z
     subst e0
     exact fin p1 _ s4 (by rw[Cr,Wp]; rfl)
    ·refine fin p2 _ (s4.trans (Di np2 _)) ?_
     rw[Cr,Bj,Wp]
     rfl
  ·(intro D acc H3 nD ha q_; obtain ⟨vs,rfl,wv,ev,s3⟩ := q_)
   rw[hz,Fw] at ev
   have lv:vs.length=(Do i).length:=by
    have:=congrArg Fl ev
    rw[Ac,Ac] at this
    exact this
   refine ⟨l,D,_,_,rfl,rfl,s3 _ _ e1,ha,?_,λp np=>?_⟩
   ·rw[Ac,Ac,Ac,Ac,lw,lv]
    exact Ca (by omega:_<=2048) (by decide)
   ·have s4:=Di np (.lst ((ws.map λp:Addr×List Int=>p.1).map V.ref++(vs.map λp:Addr×List Int=>p.1).map V.ref))
    refine ⟨p,ws++vs,_,rfl,?_,λx hx=>?_,?_,(sm.trans s3).trans s4⟩
    ·rw[Cr,Bj,Bj]
    ·rcases Bi.mp hx with hx | hx
     ·exact s4 _ _ (s3 _ _ (hw x hx))
     ·exact s4 _ _ (wv x hx)
    ·rw[Bj,ew,ev]
     rfl
 ·(intro σ H2 q_; obtain ⟨l,ws,pl,rfl,e1,hw,ew,sm⟩ := q_)
  have ec:=hw.c
  refine ⟨_,rfl,l,ws.map (λp:Addr×List Int=>p.1),vF H2,rfl,Kq.of e1,λr hr'=>?_,λr Fv er=>?_,λp rs' np pr so=>?_⟩
  ·obtain ⟨x,hx,e⟩:=Bt.mp hr'
   subst e
   rw[Ry (hw x hx)]
   exact Sj.of (hw x hx)
  ·obtain ⟨tl,et⟩:=Qd h.toNat
   rw[<- ew] at et
   cases ws with
   | nil=>cases er
   | cons x ws' =>
    have e1:x.1=r:=by
     have:=congrArg List.head? er
     simpa using this
    have e2:x.2=[]:=by
     have:=congrArg List.head? et
     simpa using this
    rw[<- e1,Ry (hw x Ab),e2]
  ·have s3:=Di np (.lst (rs'.map V.ref))
   refine q p rs' (rs'.map (vF H2)) _ (sm.free np) Cr (λi r wd h1 h2=>?_) (by rw[Ac]) ?_ ?_ (sm.trans s3)
   ·rw[Aw,h1] at h2
    have e2:vF H2 r=wd:=Bk h2
    obtain ⟨x,hx,e⟩:=Bt.mp (pr.mem_iff.mp (Aq h1))
    have hx':=hw x hx
    have e':x.1=r:=e
    rw[<- e2,<- e',Ry hx']
    exact s3 _ _ hx'
   ·have:=pr.map (vF H2)
    rw[ec,ew] at this
    exact this
   ·exact Ip.mpr so
theorem cW{f:Addr}{fd:Cm}(F:Fun K "all_words" "all_words" Kz f fd)(mR:mg "range" = none)(mS:mg "sorted" = none):FnOk P w K mg base Jg 1 f fd ["holes"] (Ve K Tq):=fM (Zn F mR mS)
theorem Ur:FnScope ["_law_holes_here", "_law_found", "_law_place"] ["_law_holes_here"] (Bu Kc):=⟨rfl,rfl,rfl,by decide +kernel,rfl,by decide +kernel,by decide +kernel⟩
theorem Xi{f:Addr}{fd:Cm}(F:Fun K "_law_words" "_law_words" Kc f fd)(mR:mg "range" = none)(mS:mg "sorted" = none):FnOk P w K mg base Jg 1 f fd ["_law_holes_here"] bS:=by
 refine F.ok Ur (λvs H Q E h=>?_) (λcdv A outer s H vs Q E hr h=>?_)
 ·obtain ⟨h,rfl,_⟩:=h
  rfl
 obtain ⟨h,rfl,h0,h1,q⟩:=h
 have hu2:(A.deeper (PyProof.Rows.envOfC "_law_words" (Bu Kc) s.heap.objs.size f cdv)).units+2<cLine:=Ht (Nat.add_le_add_left (by decide:2<=64) _) hr.units
 refine ⟨_,Gy (Nk (i:=1) Ur.nd rfl (Ej rfl) (Wy (Fs (Xr Jc) Jc)))
  (Gy (cN Fj rfl (Ut rfl mR (Fs (pv 0) Jc)) (Mu (i:=2) Ur.nd rfl (Tz rfl))
   (Lw (Nk (i:=1) Ur.nd rfl (Ej rfl) (Gz iJ (pv 1)
    (bY (Xh (x := "_law_word") (y := "_law_place") (j:=2) (cl:=[("_law_place",s.heap.objs.size+1)]) (by rfl) (by decide +kernel) (by rfl) (by decide +kernel) (by rfl) (λ_ _ h=>h) (by rfl) (by decide +kernel) (by rfl) (by rfl) (by rfl)) rfl (cE (pv 1)) (λ_ _ _=>Yj)
     (λ_ _ _=>Gz (r:=uG K) lY (pv 0) (Xr (Fs (pv 1) Jc))))))))
  (Lw (Rv (Wu (Ts.call_sorted hu2) rfl mS (by decide +kernel) (Fs (pv 1) Jc))))),?_⟩
 refine ⟨(by show 0<=Ap; decide),λe ne=>⟨(by show 1<=Ap; decide),λl nl=>?_⟩⟩
 have s1:=(Di ne (.tup [])).trans (Di nl (.lst [V.ref e]))
 have b1:(upd (upd H e (.tup [])) l (.lst [V.ref e])) l=some (.lst (([(e,[])].map λp:Addr×List Int=>p.1).map V.ref)):=Cr
 have b2:Ws (upd (upd H e (.tup [])) l (.lst [V.ref e])) [(e,[])]:=λp hp=>by
  have : p=(e,[]):=by simpa using hp
  rw[this]
  exact Di nl _ _ _ Cr
 refine ⟨_,rfl,h,rfl,by omega,by omega,aZ (lo:=0) (n:=h.toNat) (λi σ H2=>∃(l:Addr) (ws:List (Addr×List Int)) (pl:Option V),σ=[some (.int h),some (.ref l),pl]/\H2 l=some (.lst ((ws.map λp:Addr×List Int=>p.1).map V.ref))/\Ws H2 ws/\(ws.map λp:Addr×List Int=>p.2)=Do i/\La H H2)
  ⟨l,[(e,[])],none,rfl,b1,b2,rfl,s1⟩ ?_ ?_⟩
 ·(intro i σ H2 hi q_; obtain ⟨l,ws,pl,rfl,e1,hw,ew,sm⟩ := q_)
  have i10:i<=10:=by omega
  have lw:ws.length=(Do i).length:=by rw[<- ew,Ac]
  have lz:=Ox i10
  have hz:((ws.map λp:Addr×List Int=>p.1).map V.ref).length=(Do i).length:=by rw[Ac,Ac,lw]
  refine ⟨_,rfl,_,rfl,l,rfl,⟨_,Kq.of e1⟩,mG (Vh (xs:=(ws.map λp:Addr×List Int=>p.1).map V.ref)) (by rw[hz]; exact Ca lz (by decide))
   (λD j acc H3=>∃vs:List (Addr×List Int),acc=((vs.map λp:Addr×List Int=>p.1).map V.ref)/\Ws H3 vs/\(vs.map λp:Addr×List Int=>p.2)=((Do i).take j).map (·++[(i:Int)])/\La H2 H3)
   (λD nD=>⟨[],rfl,λp hp=>(nomatch hp),by simp,Di nD _⟩) (λD j acc H3 ⟨_,_,_,_,s3⟩=>Kq.of (s3 _ _ e1)) ?_ ?_⟩
  ·(intro D j x acc H3 nD hx ha q_; obtain ⟨vs,rfl,wv,ev,s3⟩ := q_)
   refine rW ?_
   rw[Bw,Aw] at hx
   cases hj:ws[j]? with
   | none=>rw[hj] at hx; cases hx
   | some pr =>
    obtain ⟨a,wd⟩:=pr
    rw[hj] at hx
    have ex:V.ref a=x:=Bk hx
    subst ex
    have ha2:H3 a=some (.tup (wd.map V.int)):=s3 _ _ (hw (a,wd) (Aq hj))
    have ewd:(Do i)[j]? = some wd:=by
     rw[<- ew,Aw,hj]
     rfl
    have lwd:wd.length<=10:=Ca (Ky i wd (Aq ewd)) i10
    -- the new word stands at r
    have fin:∀(r:Addr) (H4:Hp),La H3 H4->H4 r=some (.tup ((wd++[(i:Int)]).map V.int))->H4 D=some (.lst ((vs.map λp:Addr×List Int=>p.1).map V.ref)) /\
      ∃vs':List (Addr×List Int),(vs.map λp:Addr×List Int=>p.1).map V.ref++[V.ref r]=(vs'.map λp:Addr×List Int=>p.1).map V.ref/\Ws (upd H4 D (.lst ((vs.map λp:Addr×List Int=>p.1).map V.ref++[V.ref r]))) vs' /\
       (vs'.map λp:Addr×List Int=>p.2)=((Do i).take (j+1)).map (·++[(i:Int)])/\La H2 (upd H4 D (.lst ((vs.map λp:Addr×List Int=>p.1).map V.ref++[V.ref r]))):=λr H4 s4 hr4=>by
     have hD4:=s4 _ _ ha
     refine ⟨hD4,vs++[(r,wd++[(i:Int)])],by simp,λp hp=>?_,?_,λb o z=>?_⟩
     ·have hp4:H4 p.1=some (.tup (p.2.map V.int)):=by
       rcases Bi.mp hp with hp | hp
       ·exact s4 _ _ (wv p hp)
       ·have : p=(r,wd++[(i:Int)]):=by simpa using hp
        rw[this]
        exact hr4
      rw[Cn (lA hp4 hD4 (by intro z; cases z))]
      exact hp4
     ·rw[Bj,ev,Lz ewd,Bj]
      rfl
     ·rw[Cn (Da z nD)]
      exact s4 _ _ (s3 _ _ z)
    refine ⟨_,rfl,_,rfl,(by show 1<=Ap; decide),λp1 np1=>?_⟩
    have s4:=Di np1 (.tup [V.int (0+(i:Int))])
    refine ⟨a,p1,_,_,rfl,rfl,Sj.of (s4 _ _ ha2),Sj.of Cr,(λz=>nomatch z),?_,λz=>?_,λz p2 np2=>?_⟩
    ·rw[Ac]
     show wd.length+1<=Ap
     exact small (by omega)
    ·have e0:wd=[]:=by simpa using z
     subst e0
     exact fin p1 _ s4 (by rw[Cr,Wp]; rfl)
    ·refine fin p2 _ (s4.trans (Di np2 _)) ?_
     rw[Cr,Bj,Wp]
     rfl
  ·(intro D acc H3 nD ha q_; obtain ⟨vs,rfl,wv,ev,s3⟩ := q_)
   rw[hz,Fw] at ev
   have lv:vs.length=(Do i).length:=by
    have:=congrArg Fl ev
    rw[Ac,Ac] at this
    exact this
   refine ⟨l,D,_,_,rfl,rfl,s3 _ _ e1,ha,?_,λp np=>?_⟩
   ·rw[Ac,Ac,Ac,Ac,lw,lv]
    exact Ca (by omega:_<=2048) (by decide)
   ·have s4:=Di np (.lst ((ws.map λp:Addr×List Int=>p.1).map V.ref++(vs.map λp:Addr×List Int=>p.1).map V.ref))
    refine ⟨p,ws++vs,_,rfl,?_,λx hx=>?_,?_,(sm.trans s3).trans s4⟩
    ·rw[Cr,Bj,Bj]
    ·rcases Bi.mp hx with hx | hx
     ·exact s4 _ _ (s3 _ _ (hw x hx))
     ·exact s4 _ _ (wv x hx)
    ·rw[Bj,ew,ev]
     rfl
 ·(intro σ H2 q_; obtain ⟨l,ws,pl,rfl,e1,hw,ew,sm⟩ := q_)
  have ec:=hw.c
  refine ⟨_,rfl,l,ws.map (λp:Addr×List Int=>p.1),vF H2,rfl,Kq.of e1,λr hr'=>?_,λr Fv er=>?_,λp rs' np pr so=>?_⟩
  ·obtain ⟨x,hx,e⟩:=Bt.mp hr'
   subst e
   rw[Ry (hw x hx)]
   exact Sj.of (hw x hx)
  ·obtain ⟨tl,et⟩:=Qd h.toNat
   rw[<- ew] at et
   cases ws with
   | nil=>cases er
   | cons x ws' =>
    have e1:x.1=r:=by
     have:=congrArg List.head? er
     simpa using this
    have e2:x.2=[]:=by
     have:=congrArg List.head? et
     simpa using this
    rw[<- e1,Ry (hw x Ab),e2]
  ·have s3:=Di np (.lst (rs'.map V.ref))
   refine q p rs' (rs'.map (vF H2)) _ (sm.free np) Cr (λi r wd h1 h2=>?_) (by rw[Ac]) ?_ ?_ (sm.trans s3)
   ·rw[Aw,h1] at h2
    have e2:vF H2 r=wd:=Bk h2
    obtain ⟨x,hx,e⟩:=Bt.mp (pr.mem_iff.mp (Aq h1))
    have hx':=hw x hx
    have e':x.1=r:=e
    rw[<- e2,<- e',Ry hx']
    exact s3 _ _ hx'
   ·have:=pr.map (vF H2)
    rw[ec,ew] at this
    exact this
   ·exact Ip.mpr so
theorem Zo{f:Addr}{fd:Cm}(F:Fun K "_law_words" "_law_words" Kc f fd)(mR:mg "range" = none)(mS:mg "sorted" = none):FnOk P w K mg base Jg 1 f fd ["_law_holes_here"] (Ve K Tq):=fM (Xi F mR mS)
end
def pJ(w u:List Int):Bool:=w.all λi=>decide (i∈u)
def pA(face:List Int)(w:List Int)(v:Int)(p:List Int×Nat):Bool:=decide (face[p.2]? = some v) && pJ w p.1
def lK(ws:List (List Int))(face:List Int)(w:List Int)(v:Int):List (List Int×Nat):=ws.zipIdx.filter (pA face w v)
def lO:PF:=λds R=>∃a b:List Int,ds=[Ck a,Ck b]/\R (.bool (pJ a b))
def qH:PF:=λds R=>∃(ws:List (List Int)) (face w:List Int) (v:Int),ds=[.list (ws.map Ck),.list (face.map Bb),Ck w,.int v]/\ws.length=face.length/\R (.list ((lK ws face w v).map λp=>.int p.2))
def uO:PF:=λds R=>∃w:List Int,ds=[Ck w]/\∀v:Int,R (.int v)
def kK:DF:=λds n R=>ds=[]/\n<=90000/\∀h:Int,1<=h->h<=7->R (.int h) (n+1)
def gY:DF:=λds n R=>ds=[]/\n<=90000/\∀h:Int,2<=h->h<=16->R (.int h) (n+1)
def aK:DF:=λds n R=>∃(ws:List (List Int)) (v:Int),ds=[.list (ws.map Ck),.int v]/\0<v/\v<=16/\ws.length<=1024/\(∀w∈ws,w.length<=10)/\n<=90000/\∀face:List Int,face.length=ws.length->R (.list (face.map Bb)) (n+1+ws.length)
section
variable{P:Bo}{w:World}{K:PySem.W.Frag}{mg:Str->Option Value}{base:Heap}
theorem mW:FnScope ["one", "other"] ["one", "other"] (Bu Su):=⟨rfl,rfl,rfl,by decide +kernel,rfl,by decide +kernel,by decide +kernel⟩
theorem oK{f   : Addr}{fd  : Cm}(F:Fun K "within" "within" Su f fd)(mz_all:mg "all" = none):FnOk P w K mg base Jg 1 f fd ["one", "other"] (Ve K (lO)):=by
 refine' Ou (k:=0) F mW (λcdv A outer s H E hr=>?hb) ?h
 case hb =>
  have hu64:=hr.units
  have CS1:∀{scope:Scope} (h:scope={ kind:=.function,names:=[(".0",.local),("place",.local),("other",.free)],isGenerator:=false,isCoroutine:=false }),
    CompScope (Nz Jg P w K mg base ["one", "other"] "within" (Bu Su) f cdv A outer s H E).nox scope [("other",s.heap.objs.size+1)] "place" ["other"] [1]:=by
   rintro scope rfl
   refine ⟨by rfl,.inl (by decide +kernel),by rfl,by decide +kernel,.inl rfl,λy c h=>?_,by rfl,by decide +kernel,rfl,λk y j e1 e2=>?_⟩
   ·have z:=Fk h
    simp only[Ak,Az,or_false,Hm] at z
    obtain ⟨rfl,rfl⟩:=z; rfl
   ·match k,e1,e2 with
    | 0,e1,e2=>cases e1; cases e2; exact ⟨rfl,rfl,by first | exact .inl rfl | exact .inr rfl⟩
    | k+1,e1,e2=>cases e1
  exact Gg (Kd (Hj (vC rfl) t8 rfl mz_all (by decide +kernel) (Bh (Ot (CS1 rfl) rfl (X9 (Bg (pv 0))) (λ_ _ _=>Tb) (λ_ _ _=>S6 hu64 (Bg (pv 0)) (Bg (pv 1)))) Cf)))
 case h =>
  (intro ds R q_; obtain ⟨a,b,rfl,hR⟩ := q_)
  refine ⟨rfl,?_⟩
  array_get_dec
  refine lI (l:=a) (g:=Bb) rfl (λi=>.bool (decide (i∈b))) (λi _ yes no hy=>?_) ?_
  ·array_get_dec
   exact hy
  ·array_get_dec
   refine ⟨a.map λi=>decide (i∈b),by rw[Bw]; rfl,?_⟩
   rw[Wb]
   exact hR
theorem kF:FnScope ["words", "reading", "word", "value"] ["words", "reading", "word", "value"] (Bu Qw):=⟨rfl,rfl,rfl,by decide +kernel,rfl,by decide +kernel,by decide +kernel⟩
theorem kG{f f_within  : Addr}{fd d_within:Cm}(F:Fun K "showing" "showing" Qw f fd)(G_within:FnOk P w K mg base Jg 1 f_within d_within ["one", "other"] (Ve K (lO)))(b_within:Binds K d_within ["one", "other"] [])(k_within:PySem.W.keepIn K (.ref f_within)=true)(m_within:mg "within" = some (.ref f_within))(mz_enumerate:mg "enumerate" = none):FnOk P w K mg base Jg 2 f fd ["words", "reading", "word", "value"] (Ve K (qH)):=by
 refine' Ou (k:=1) F kF (λcdv A outer s H E hr=>?hb) ?h
 case hb =>
  have hr1:Room 1 _:=hr.mono (by decide)
  have hu64:=hr.units
  have CS1:∀{scope:Scope} (h:scope={ kind:=.function,names:=[(".0",.local),("at",.local),("other",.local),("within",.globalImplicit),("reading",.free),("value",.free),("word",.free)],isGenerator:=false,isCoroutine:=false }),
    CompScope (Nz Jg P w K mg base ["words", "reading", "word", "value"] "showing" (Bu Qw) f cdv A outer s H E).nox scope [("word",s.heap.objs.size+2),("value",s.heap.objs.size+3),("reading",s.heap.objs.size+1)] "at" ["reading", "value", "word"] [1,3,2]:=by
   rintro scope rfl
   refine ⟨by rfl,.inl (by decide +kernel),by rfl,by decide +kernel,.inl rfl,λy c h=>?_,by rfl,by decide +kernel,rfl,λk y j e1 e2=>?_⟩
   ·have z:=Fk h
    simp only[Ak,Az,or_false,Hm] at z
    rcases z with ⟨rfl,rfl⟩ | ⟨rfl,rfl⟩ | ⟨rfl,rfl⟩ <;> rfl
   ·match k,e1,e2 with
    | 0,e1,e2=>cases e1; cases e2; exact ⟨rfl,rfl,by first | exact .inl rfl | exact .inr rfl⟩
    | 1,e1,e2=>cases e1; cases e2; exact ⟨rfl,rfl,by first | exact .inl rfl | exact .inr rfl⟩
    | 2,e1,e2=>cases e1; cases e2; exact ⟨rfl,rfl,by first | exact .inl rfl | exact .inr rfl⟩
    | k+3,e1,e2=>cases e1
  exact Gg (Kd (pT (CS1 rfl) (.inl rfl) (by decide +kernel) rfl (wZ rfl mz_enumerate (Bh (Bg (pv 0)) Cf)) (λ_ _ _=>Tn (O6 (A5 (O1 hu64 (Qg (Bg (pv 2)) (Bg (pv 0))) (Bg (pv 3))) (yQ (cT (Kw G_within hr1 rfl m_within k_within b_within Kk (Bh (Bg (pv 4)) (Bh (Bg (pv 1)) Cf)))))))) (λ_ _ _=>Bg (pv 0))))
 case h =>
  (intro ds R q_; obtain ⟨ws,face,w,v,rfl,hl,hR⟩ := q_)
  refine ⟨rfl,?_⟩
  array_get_dec
  refine G6 (l:=ws.zipIdx) (g1:=λp=>.int p.2) (g2:=λp=>Ck p.1) (by rw[xI,Bw]; rfl) (pA face w v) (λp=>.int p.2) (λp hp yes no hy hn=>?_) ?_
  ·obtain ⟨k,hk⟩:=Eg.mp hp
   obtain ⟨ek,hp1,hp2,hp3⟩:=iL hk
   obtain ⟨x,e1,e2,e3⟩:=Td (l:=face) (i:=(p.2:Int)) (by omega) (by omega)
   rw[Ez] at e1
   have hh:pA face w v p=(decide (x=v) && pJ w p.1):=by
    unfold pA
    rw[e1]
    congr 1
    simp
   rw[hh] at hy hn
   array_get_dec
   refine ⟨.int x,by rw[dO,e2]; rfl,dp,?_⟩
   array_get_dec
   refine G9 (λh1=>?_) (λh1=>?_)
   ·array_get_dec
    refine ⟨w,p.1,rfl,?_⟩
    refine Wh (λh2=>?_) (λh2=>?_)
    ·array_get_dec
     exact hy (by rw[h1,h2]; rfl)
    ·exact hn (by rw[h1,h2]; rfl)
   ·array_get_dec
    exact hn (by rw[h1]; rfl)
  ·array_get_dec
   exact hR
theorem bN:FnScope ["_law_one", "_law_other"] ["_law_one", "_law_other"] (Bu Nb):=⟨rfl,rfl,rfl,by decide +kernel,rfl,by decide +kernel,by decide +kernel⟩
theorem cC{f   : Addr}{fd  : Cm}(F:Fun K "_law_lies" "_law_lies" Nb f fd):FnOk P w K mg base Jg 1 f fd ["_law_one", "_law_other"] (Ve K (lO)):=by
 refine' Ou (k:=0) F bN (λcdv A outer s H E hr=>?hb) ?h
 case hb =>
  have hu64:=hr.units
  have CS1:∀{scope:Scope} (h:scope={ kind:=.function,names:=[(".0",.local),("_law_place",.local),("_law_other",.free)],isGenerator:=false,isCoroutine:=false }),
    CompScope (Nz Jg P w K mg base ["_law_one", "_law_other"] "_law_lies" (Bu Nb) f cdv A outer s H E).nox scope [("_law_other",s.heap.objs.size+1)] "_law_place" ["_law_other"] [1]:=by
   rintro scope rfl
   refine ⟨by rfl,.inl (by decide +kernel),by rfl,by decide +kernel,.inl rfl,λy c h=>?_,by rfl,by decide +kernel,rfl,λk y j e1 e2=>?_⟩
   ·have z:=Fk h
    simp only[Ak,Az,or_false,Hm] at z
    obtain ⟨rfl,rfl⟩:=z; rfl
   ·match k,e1,e2 with
    | 0,e1,e2=>cases e1; cases e2; exact ⟨rfl,rfl,by first | exact .inl rfl | exact .inr rfl⟩
    | k+1,e1,e2=>cases e1
  exact Gg (Kd (sI hu64 (Ot (CS1 rfl) rfl (X9 (Bg (pv 0))) (λ_ _ _=>Tn (sT hu64 (Bg (pv 0)) (Bg (pv 1)))) (λ_ _ _=>Bg (pv 0))) (Mg Cf)))
 case h =>
  (intro ds R q_; obtain ⟨a,b,rfl,hR⟩ := q_)
  refine ⟨rfl,?_⟩
  array_get_dec
  refine gK (l:=a) (g:=Bb) rfl (λi=>decide (i∉b)) (λi=>.int i) (λi _ yes no hy hn=>?_) ?_
  ·array_get_dec
   refine Wh (λh=>?_) (λh=>?_)
   ·array_get_dec
    exact hy (by simpa using h)
   ·exact hn (by simpa using h)
  ·array_get_dec
   rw[show ((a.filter λi=>decide (i∉b)).map λi=>Bb i).isEmpty=pJ a b from ?_]
   ·exact hR
   ·unfold pJ
    rw[Bool.eq_iff_iff,List.isEmpty_iff,List.map_eq_nil_iff,List.filter_eq_nil_iff,Yy]
    simp
theorem Yo:FnScope ["_law_word", "_law_value", "_law_place"] ["_law_word"] (Bu Nl):=⟨rfl,rfl,rfl,by decide +kernel,rfl,by decide +kernel,by decide +kernel⟩
theorem Wz{f   : Addr}{fd  : Cm}(F:Fun K "_law_folded" "_law_folded" Nl f fd):FnOk P w K mg base Jg 1 f fd ["_law_word"] (Ve K (uO)):=by
 refine' Ou (k:=0) F Yo (λcdv A outer s H E hr=>?hb) ?h
 case hb =>
  have hu64:=hr.units
  exact Dv (Jb (i:=1) Yo.nd rfl (Ej rfl) Dz)
   (Dv (Uu Fj rfl (X9 (Bg (pv 0))) (Ol (i:=2) Yo.nd rfl (Ej rfl))
   (Gg (Jb (i:=1) Yo.nd rfl (Ej rfl) (o8 (Bg (pv 1)) (Qc (Bg (pv 2)) Dz)))))
   (Gg (Kd (C4 (Bg (pv 1))))))
 case h =>
  (intro ds R q_; obtain ⟨w,rfl,hR⟩ := q_)
  refine ⟨rfl,?_⟩
  array_get_dec
  refine nW (l:=w) (g:=Bb) rfl (λi δ=>∃(x:Int) (v:DV),δ=⟨[.dat .sh (Ck w),.dat .sh (.int x),v],0⟩/\NP v) ?_ ?_ ?_
  ·exact ⟨_,_,rfl,Tt⟩
  ·(intro i p _ hp q_; obtain ⟨x,v,rfl,hv⟩ := q_)
   array_get_dec
   exact ⟨_,_,rfl,Lo⟩
  ·(intro _ q_; obtain ⟨x,v,rfl,hv⟩ := q_)
   array_get_dec
   exact hR _
theorem Zt:FnScope ["_law_draws_here", "_law_pick"] ["_law_draws_here"] (Bu Oi):=⟨rfl,rfl,rfl,by decide +kernel,rfl,by decide +kernel,by decide +kernel⟩
theorem Zm{f f_L_next  : Addr}{fd d_L_next:Cm}(F:Fun K "_law_holes" "_law_holes" Oi f fd)(G_L_next:FnOk P w K mg base Jg 1 f_L_next d_L_next ["_law_draws_here"] (lN K Xk))(b_L_next:Binds K d_L_next ["_law_draws_here"] [])(k_L_next:PySem.W.keepIn K (.ref f_L_next)=true)(m_L_next:mg "_law_next" = some (.ref f_L_next))(mz_max:mg "max" = none):FnOk P w K mg base Jg 2 f fd ["_law_draws_here"] (lN K (kK)):=by
 refine' cZ (k:=1) F Zt (λcdv A outer s H E hr=>?hb) ?h
 case hb =>
  have hr1:Room 1 _:=hr.mono (by decide)
  have hu64:=hr.units
  exact Dv (Jb (i:=1) Zt.nd rfl (Ej rfl) (Mh G_L_next hr1 rfl m_L_next k_L_next b_L_next Kk (pv 0) Cf))
   (Gg (Kd (Qg (Mg (Bh (Qc Dz (Iz (bW (Bg (pv 1)) Dz) Dz)) (Bh (Qc Dz (Iz (bW (Bg (pv 1)) Dz) Dz)) (Bh Dz (Bh Dz Cf))))) (Hj (aN rfl) kX rfl mz_max (by decide +kernel) (Bh Dz (Bh (x9 (Iz (Bg (pv 1)) Dz) Dz) Cf))))))
 case h =>
  (intro ds n R q_; obtain ⟨rfl,hn,hR⟩ := q_)
  refine ⟨rfl,?_⟩
  array_get_dec
  refine ⟨rfl,by omega,λr1=>?_⟩
  array_get_dec
  have b8:=Wv r1 (b:=8) (by decide)
  have b5:=Wv (r1 / 8) (b:=5) (by decide)
  rcases (by omega:r1 % 8 - 4<=0\/r1 % 8 - 4=1\/r1 % 8 - 4=2\/r1 % 8 - 4=3) with z | z | z | z
  ·rw[if_neg (by omega)]
   exact ⟨_,P5 _ _,by omega,hR _ (by omega) (by omega)⟩
  ·rw[if_pos (by omega),z]
   exact ⟨_,O0 _ _ _,by omega,hR _ (by omega) (by omega)⟩
  ·rw[if_pos (by omega),z]
   exact ⟨_,S0 _ _ _ _,by omega,hR _ (by omega) (by omega)⟩
  ·rw[if_pos (by omega),z]
   exact ⟨_,K8 _ _ _ _ _,by omega,hR _ (by omega) (by omega)⟩
theorem Vt:FnScope ["_law_draws_here", "_law_words_here", "_law_values_here", "_law_way", "_law_found", "_law_word", "_law_number", "_law_told"] ["_law_draws_here", "_law_words_here", "_law_values_here"] (Bu Mf):=⟨rfl,rfl,rfl,by decide +kernel,rfl,by decide +kernel,by decide +kernel⟩
theorem Vx{f f_L_next f_L_folded  : Addr}{fd d_L_next d_L_folded:Cm}(F:Fun K "_law_reading" "_law_reading" Mf f fd)(G_L_next:FnOk P w K mg base Jg 1 f_L_next d_L_next ["_law_draws_here"] (lN K Xk))(b_L_next:Binds K d_L_next ["_law_draws_here"] [])(k_L_next:PySem.W.keepIn K (.ref f_L_next)=true)(m_L_next:mg "_law_next" = some (.ref f_L_next))(G_L_folded:FnOk P w K mg base Jg 1 f_L_folded d_L_folded ["_law_word"] (Ve K (uO)))(b_L_folded:Binds K d_L_folded ["_law_word"] [])(k_L_folded:PySem.W.keepIn K (.ref f_L_folded)=true)(m_L_folded:mg "_law_folded" = some (.ref f_L_folded))(mz_len:mg "len" = none)(mz_sum:mg "sum" = none)(mz_int:mg "int" = none):FnOk P w K mg base Jg 2 f fd ["_law_draws_here", "_law_words_here", "_law_values_here"] (lN K (aK)):=by
 refine' cZ (k:=1) F Vt (λcdv A outer s H E hr=>?hb) ?h
 case hb =>
  have hr1:Room 1 _:=hr.mono (by decide)
  have hu64:=hr.units
  exact Dv (Jb (i:=3) Vt.nd rfl (Ej rfl) (Iz (Mh G_L_next hr1 rfl m_L_next k_L_next b_L_next Kk (pv 0) Cf) Dz))
   (Dv (Qt (i:=4) Vt.nd rfl (Ej rfl) (Mg Cf))
   (Dv (Uu Fj rfl (zV (Bg (pv 1))) (Ol (i:=5) Vt.nd rfl (Ej rfl))
   (Dv (Jb (i:=6) Vt.nd rfl (Ej rfl) (Mh G_L_next hr1 rfl m_L_next k_L_next b_L_next Kk (pv 0) Cf))
    (Dv (Jb (i:=7) Vt.nd rfl (Ej rfl) (Mg (Bh (Iz (Bg (pv 6)) (Bg (pv 2))) (Bh (Iz (Hj Tc cR rfl mz_len (by decide +kernel) (Bh (Bg (pv 5)) Cf)) (Bg (pv 2))) (Bh (Iz (Kw G_L_folded hr1 rfl m_L_folded k_L_folded b_L_folded Kk (Bh (Bg (pv 5)) Cf)) (Bg (pv 2))) (Bh (Iz (Hj (oS rfl) E5 rfl mz_sum (by decide +kernel) (Bh (Bg (pv 5)) Cf)) (Bg (pv 2))) Cf))))))
    (Dv (Jb (i:=7) Vt.nd rfl (Ej rfl) (jY (Bg (pv 7)) (Mg (Bh (Iz (Bg (pv 6)) (Qc (Bg (pv 2)) Dz)) (Bh (w8 (bW (Iz (Bg (pv 6)) Dz) Dz) (Iz (Bg (pv 6)) (Bg (pv 2)))) (Bh (Iz (Bg (pv 6)) (Bg (pv 2))) Cf))))))
    (Gg (aA (pv 4) (Qg (jY (Bg (pv 7)) (Mg (Bh (Qg (Mg (Bh (Iz (Hj Tc cR rfl mz_len (by decide +kernel) (Bh (Bg (pv 5)) Cf)) (Bg (pv 2))) (Bh (Qc (w4 Dz Dz) (Bg (pv 6))) Cf))) (Uh bC qQ rfl mz_int (by decide +kernel) (Bh (sI hu64 (Iz (Bg (pv 6)) Dz) Dz) Cf))) Cf))) (Bg (pv 3)))))))))
   (Gg (Kd (mE (pv 4))))))
 case h =>
  (intro ds n R q_; obtain ⟨ws,v,rfl,v0,v1,lw,hw,hn,hR⟩ := q_)
  refine ⟨rfl,?_⟩
  array_get_dec
  refine ⟨rfl,by omega,λr1=>?_⟩
  array_get_dec
  have b8:=Wv r1 (b:=8) (by decide)
  refine nW (l:=ws) (g:=Ck) rfl (λi δ=>∃(face:List Int) (v1 v2 v3:DV),δ=⟨[.drw,.dat .sh (.list (ws.map Ck)),.dat .sh (.int v),.dat .sh (.int (r1 % 8)),.dat .ow (.list (face.map Bb)),v1,v2,v3],n+1+i⟩/\face.length=i/\NP v1/\NP v2/\NP v3) ?_ ?_ ?_
  ·exact ⟨[],_,_,_,rfl,rfl,Tt,Tt,Tt⟩
  ·(intro i u _ hu q_; obtain ⟨face,v1,v2,v3,rfl,lf,hv1,hv2,hv3⟩ := q_)
   have hi:=(Al.mp hu).1
   have lu:=hw u (Aq hu)
   array_get_dec
   refine ⟨rfl,by omega,λr2=>?_⟩
   array_get_dec
   refine ⟨v0,v0,u,rfl,λf=>?_⟩
   array_get_dec
   refine ⟨v0,u,rfl,v0,?_⟩
   array_get_dec
   have bv:=Wv r2 v0
   refine ⟨by omega,v0,.inr ⟨by omega,by omega⟩,v0,v0,by decide,?_⟩
   obtain ⟨x,hx⟩ : ∃x:Int,Ub [Bb (((u.map Bb).length:Int) % v),Bb (10000000000000000000+r2)] (if decide (r2 % 9=0)=true then 1 else 0)=some (.int x):=by
    rw[o6]
    cases decide (r2 % 9=0)
    ·exact ⟨_,rfl⟩
    ·exact ⟨_,rfl⟩
   refine ⟨_,hx,AY,?_⟩
   obtain ⟨y,_,e2,_⟩:=Td (l:=[r2 % v,((u.map Bb).length:Int) % v,f % v,u.sum % v,r2 % (v+2),r2 % 7 / 5 * (r2 % v),r2 % v,x]) b8.1 (by simpa using b8.2)
   have e3:=dO Bb [r2 % v,((u.map Bb).length:Int) % v,f % v,u.sum % v,r2 % (v+2),r2 % 7 / 5 * (r2 % v),r2 % v,x] (r1 % 8)
   rw[e2] at e3
   refine ⟨_,e3,im,by rw[Ac]; omega,?_⟩
   exact ⟨face++[y],_,_,_,T7 (by rw[Bj]; rfl) (by omega),by simp [lf],Lo,Lo,Lo⟩
  ·(intro _ q_; obtain ⟨face,v1,v2,v3,rfl,lf,hv1,hv2,hv3⟩ := q_)
   array_get_dec
   exact ⟨by omega,hR face lf⟩
theorem Yi:FnScope ["_law_draws_here", "_law_pick"] ["_law_draws_here"] (Bu Ni):=⟨rfl,rfl,rfl,by decide +kernel,rfl,by decide +kernel,by decide +kernel⟩
theorem Yr{f f_L_next  : Addr}{fd d_L_next:Cm}(F:Fun K "_law_values" "_law_values" Ni f fd)(G_L_next:FnOk P w K mg base Jg 1 f_L_next d_L_next ["_law_draws_here"] (lN K Xk))(b_L_next:Binds K d_L_next ["_law_draws_here"] [])(k_L_next:PySem.W.keepIn K (.ref f_L_next)=true)(m_L_next:mg "_law_next" = some (.ref f_L_next))(mz_int:mg "int" = none):FnOk P w K mg base Jg 2 f fd ["_law_draws_here"] (lN K (gY)):=by
 refine' cZ (k:=1) F Yi (λcdv A outer s H E hr=>?hb) ?h
 case hb =>
  have hr1:Room 1 _:=hr.mono (by decide)
  have hu64:=hr.units
  exact Dv (Jb (i:=1) Yi.nd rfl (Ej rfl) (Mh G_L_next hr1 rfl m_L_next k_L_next b_L_next Kk (pv 0) Cf))
   (Gg (Kd (Qg (Mg (Bh (Qc Dz (Iz (bW (Bg (pv 1)) Dz) Dz)) (Bh Dz Cf))) (Uh bC qQ rfl mz_int (by decide +kernel) (Bh (sI hu64 (Iz (Bg (pv 1)) Dz) Dz) Cf)))))
 case h =>
  (intro ds n R q_; obtain ⟨rfl,hn,hR⟩ := q_)
  refine ⟨rfl,?_⟩
  array_get_dec
  refine ⟨rfl,by omega,λr1=>?_⟩
  array_get_dec
  have b5:=Wv (r1 / 8) (b:=5) (by decide)
  refine ⟨_,o6 _ _ _,by omega,?_⟩
  cases decide (r1 % 8=1)
  ·exact hR _ (by omega) (by omega)
  ·exact hR _ (by decide) (by decide)
end
def Mo(l:List Int):Int:=l.foldr max 0
theorem Qx{x:Int}(hx:0<x):∀{l:List Int},x<=Mo l↔∃y∈l,x<=y
 | []=>⟨λh=>by simp [Mo] at h; omega,λ⟨_,h,_⟩=>nomatch h⟩
 | a::l=>by
  show x<=max a (Mo l)↔_
  have ih:=Qx hx (l:=l)
  constructor
  ·intro h
   rcases (by omega:x<=a\/x<=Mo l) with h | h
   ·exact ⟨a,Ab,h⟩
   ·obtain ⟨y,hy,e⟩:=ih.mp h
    exact ⟨y,Af _ hy,e⟩
  ·(intro q_; obtain ⟨y,hy,e⟩ := q_)
   rcases Ak.mp hy with rfl | hy
   ·omega
   ·have:=ih.mpr ⟨y,hy,e⟩
    omega
theorem Wi:∀l:List Int,0<=Mo l
 | []=>by simp [Mo]
 | a::l=>by
  show 0<=max a (Mo l)
  have:=Wi l
  omega
theorem wX{l:List Int}{M:Int}(h0:∀x∈l,0<=x)(hM:M∈l)(hle:∀x∈l,x<=M):Mo l=M:=by
 by_cases z:0<M
 ·have h1:=(Qx z (l:=l)).mpr ⟨M,hM,Hq _⟩
  by_cases q:M<Mo l
  ·obtain ⟨y,hy,e⟩:=(Qx (x:=Mo l) (by omega) (l:=l)).mp (Hq _)
   have:=hle y hy
   omega
  ·omega
 ·have:=h0 M hM
  by_cases q:0<Mo l
  ·obtain ⟨y,hy,e⟩:=(Qx q (l:=l)).mp (Hq _)
   have:=hle y hy
   omega
  ·have:=Wi l
   omega
def Pw(nums:List Int)(p:List Int×Nat):Int:=(nums[p.2]?).getD 0+1
def Oc(ws:List (List Int))(face nums w:List Int)(v:Int):Int:=Mo ((lK ws face w v).map (Pw nums))
def uA:PF:=λds R=>∃(ws:List (List Int)) (face nums w:List Int) (v:Int),ds=[.list (ws.map Ck),.list (face.map Bb),.list (nums.map Bb),Ck w,.int v]/\ws.length=face.length/\ws.length=nums.length/\(∀x∈nums,0<=x)/\R (.int (Oc ws face nums w v))
def tS:PF:=λds R=>∃(ws:List (List Int)) (face nums:List Int) (vs:Int) (k:Nat) (w:List Int) (f:Int),ds=[.list (ws.map Ck),.list (face.map Bb),.int vs,.list (nums.map Bb),.int k]/\ws.length=face.length/\ws.length=nums.length/\(∀x∈nums,0<=x)/\2<=vs/\vs<=16 /\
 ws[k]? = some w/\face[k]? = some f/\∀M:Int,(∀x:Int,x<=M↔∀v:Int,0<=v->v<vs->v≠f->x<=Oc ws face nums w v)->R (.int M)
section
variable{P:Bo}{w:World}{K:PySem.W.Frag}{mg:Str->Option Value}{base:Heap}
theorem Zj:FnScope ["words", "reading", "numbers", "word", "value"] ["words", "reading", "numbers", "word", "value"] (Bu Ly):=⟨rfl,rfl,rfl,by decide +kernel,rfl,by decide +kernel,by decide +kernel⟩
theorem Zr{f f_showing  : Addr}{fd d_showing:Cm}(F:Fun K "best_turns" "best_turns" Ly f fd)(G_showing:FnOk P w K mg base Jg 2 f_showing d_showing ["words", "reading", "word", "value"] (Ve K (qH)))(b_showing:Binds K d_showing ["words", "reading", "word", "value"] [])(k_showing:PySem.W.keepIn K (.ref f_showing)=true)(m_showing:mg "showing" = some (.ref f_showing))(mz_max:mg "max" = none):FnOk P w K mg base Jg 3 f fd ["words", "reading", "numbers", "word", "value"] (Ve K (uA)):=by
 refine' Ou (k:=2) F Zj (λcdv A outer s H E hr=>?hb) ?h
 case hb =>
  have hr1:Room 1 _:=hr.mono (by decide)
  have hr2:Room 2 _:=hr.mono (by decide)
  have hu64:=hr.units
  have CS1:∀{scope:Scope} (h:scope={ kind:=.function,names:=[(".0",.local),("at",.local),("numbers",.free)],isGenerator:=false,isCoroutine:=false }),
    CompScope (Nz Jg P w K mg base ["words", "reading", "numbers", "word", "value"] "best_turns" (Bu Ly) f cdv A outer s H E).nox scope [("numbers",s.heap.objs.size+1)] "at" ["numbers"] [2]:=by
   rintro scope rfl
   refine ⟨by rfl,.inl (by decide +kernel),by rfl,by decide +kernel,.inl rfl,λy c h=>?_,by rfl,by decide +kernel,rfl,λk y j e1 e2=>?_⟩
   ·have z:=Fk h
    simp only[Ak,Az,or_false,Hm] at z
    obtain ⟨rfl,rfl⟩:=z; rfl
   ·match k,e1,e2 with
    | 0,e1,e2=>cases e1; cases e2; exact ⟨rfl,rfl,by first | exact .inl rfl | exact .inr rfl⟩
    | k+1,e1,e2=>cases e1
  exact Gg (Kd (xJ rfl rfl mz_max (Bh (Ot (CS1 rfl) rfl (zV (Kw G_showing hr2 rfl m_showing k_showing b_showing Kk (Bh (Bg (pv 0)) (Bh (Bg (pv 1)) (Bh (Bg (pv 3)) (Bh (Bg (pv 4)) Cf)))))) (λ_ _ _=>Tb) (λ_ _ _=>Qc (Qg (Bg (pv 1)) (Bg (pv 0))) Dz)) Cf)))
 case h =>
  (intro ds R q_; obtain ⟨ws,face,nums,w,v,rfl,l1,l2,h0,hR⟩ := q_)
  refine ⟨rfl,?_⟩
  array_get_dec
  refine ⟨ws,face,w,v,rfl,l1,?_⟩
  array_get_dec
  refine lI (l:=lK ws face w v) (g:=λp=>.int p.2) rfl (λp=>.int (Pw nums p)) (λp hp yes no hy=>?_) ?_
  ·obtain ⟨k,hk⟩:=Eg.mp (Ce.mp hp).1
   obtain ⟨ek,hp1,hp2,hp3⟩:=iL hk
   obtain ⟨x,e1,e2,e3⟩:=Td (l:=nums) (i:=(p.2:Int)) (by omega) (by omega)
   array_get_dec
   refine ⟨.int x,by rw[dO,e2]; rfl,im,?_⟩
   array_get_dec
   rw[Ez] at e1
   have : Pw nums p=x+1:=by unfold Pw; rw[e1]; rfl
   rw[this] at hy
   exact hy
  ·array_get_dec
   refine ⟨(lK ws face w v).map (Pw nums),by rw[Bw]; rfl,λz=>?_,λM hM hle=>?_⟩
   ·have : Oc ws face nums w v=0:=by unfold Oc; rw[z]; rfl
    rw[this] at hR
    array_get_dec
    exact hR
   ·have : Oc ws face nums w v=M:=wX (λx hx=>?_) hM hle
    ·rw[this] at hR
     array_get_dec
     exact hR
    ·obtain ⟨p,_,rfl⟩:=Bt.mp hx
     unfold Pw
     cases q:nums[p.2]? with
     | none=>simp
     | some y=>have:=h0 y (Aq q); show 0<=y+1; omega
theorem Zv:FnScope ["words", "reading", "values", "numbers", "at", "others"] ["words", "reading", "values", "numbers", "at"] (Bu Kb):=⟨rfl,rfl,rfl,by decide +kernel,rfl,by decide +kernel,by decide +kernel⟩
theorem Zh{f f_best_turns  : Addr}{fd d_best_turns:Cm}(F:Fun K "sure_turns" "sure_turns" Kb f fd)(G_best_turns:FnOk P w K mg base Jg 3 f_best_turns d_best_turns ["words", "reading", "numbers", "word", "value"] (Ve K (uA)))(b_best_turns:Binds K d_best_turns ["words", "reading", "numbers", "word", "value"] [])(k_best_turns:PySem.W.keepIn K (.ref f_best_turns)=true)(m_best_turns:mg "best_turns" = some (.ref f_best_turns))(mz_range:mg "range" = none)(mz_min:mg "min" = none):FnOk P w K mg base Jg 4 f fd ["words", "reading", "values", "numbers", "at"] (Ve K (tS)):=by
 refine' Ou (k:=3) F Zv (λcdv A outer s H E hr=>?hb) ?h
 case hb =>
  have hr1:Room 1 _:=hr.mono (by decide)
  have hr2:Room 2 _:=hr.mono (by decide)
  have hr3:Room 3 _:=hr.mono (by decide)
  have hu64:=hr.units
  have CS1:∀{scope:Scope} (h:scope={ kind:=.function,names:=[(".0",.local),("value",.local),("at",.free),("reading",.free)],isGenerator:=false,isCoroutine:=false }),
    CompScope (Nz Jg P w K mg base ["words", "reading", "values", "numbers", "at", "others"] "sure_turns" (Bu Kb) f cdv A outer s H E).nox scope [("reading",s.heap.objs.size+2),("at",s.heap.objs.size+4)] "value" ["at", "reading"] [4,1]:=by
   rintro scope rfl
   refine ⟨by rfl,.inl (by decide +kernel),by rfl,by decide +kernel,.inl rfl,λy c h=>?_,by rfl,by decide +kernel,rfl,λk y j e1 e2=>?_⟩
   ·have z:=Fk h
    simp only[Ak,Az,or_false,Hm] at z
    rcases z with ⟨rfl,rfl⟩ | ⟨rfl,rfl⟩ <;> rfl
   ·match k,e1,e2 with
    | 0,e1,e2=>cases e1; cases e2; exact ⟨rfl,rfl,by first | exact .inl rfl | exact .inr rfl⟩
    | 1,e1,e2=>cases e1; cases e2; exact ⟨rfl,rfl,by first | exact .inl rfl | exact .inr rfl⟩
    | k+2,e1,e2=>cases e1
  have CS2:∀{scope:Scope} (h:scope={ kind:=.function,names:=[(".0",.local),("value",.local),("best_turns",.globalImplicit),("at",.free),("numbers",.free),("reading",.free),("words",.free)],isGenerator:=false,isCoroutine:=false }),
    CompScope (Nz Jg P w K mg base ["words", "reading", "values", "numbers", "at", "others"] "sure_turns" (Bu Kb) f cdv A outer s H E).nox scope [("words",s.heap.objs.size+1),("reading",s.heap.objs.size+2),("numbers",s.heap.objs.size+3),("at",s.heap.objs.size+4)] "value" ["at", "numbers", "reading", "words"] [4,3,1,0]:=by
   rintro scope rfl
   refine ⟨by rfl,.inl (by decide +kernel),by rfl,by decide +kernel,.inl rfl,λy c h=>?_,by rfl,by decide +kernel,rfl,λk y j e1 e2=>?_⟩
   ·have z:=Fk h
    simp only[Ak,Az,or_false,Hm] at z
    rcases z with ⟨rfl,rfl⟩ | ⟨rfl,rfl⟩ | ⟨rfl,rfl⟩ | ⟨rfl,rfl⟩ <;> rfl
   ·match k,e1,e2 with
    | 0,e1,e2=>cases e1; cases e2; exact ⟨rfl,rfl,by first | exact .inl rfl | exact .inr rfl⟩
    | 1,e1,e2=>cases e1; cases e2; exact ⟨rfl,rfl,by first | exact .inl rfl | exact .inr rfl⟩
    | 2,e1,e2=>cases e1; cases e2; exact ⟨rfl,rfl,by first | exact .inl rfl | exact .inr rfl⟩
    | 3,e1,e2=>cases e1; cases e2; exact ⟨rfl,rfl,by first | exact .inl rfl | exact .inr rfl⟩
    | k+4,e1,e2=>cases e1
  exact Dv (vX (o:=false) (i0:=5) Zv.nd rfl rfl (CS1 rfl) rfl (Uy rfl mz_range (Bh (Bg (pv 2)) Cf)) (λ_ _ _=>Tn (gC hu64 (Bg (pv 0)) (Qg (Bg (pv 2)) (Bg (pv 1))))) (λ_ _ _=>Bg (pv 0)))
   (Gg (Kd (Hj (bE rfl) mM rfl mz_min (by decide +kernel) (Bh (Ot (CS2 rfl) rfl (zV (Bg (pv 5))) (λ_ _ _=>Tb) (λ_ _ _=>Kw G_best_turns hr3 rfl m_best_turns k_best_turns b_best_turns Kk (Bh (Bg (pv 4)) (Bh (Bg (pv 3)) (Bh (Bg (pv 2)) (Bh (Qg (Bg (pv 4)) (Bg (pv 1))) (Bh (Bg (pv 0)) Cf))))))) Cf))))
 case h =>
  (intro ds R q_; obtain ⟨ws,face,nums,vs,k,w,f,rfl,l1,l2,h0,v0,v1,hw,hf,hR⟩ := q_)
  refine ⟨rfl,?_⟩
  array_get_dec
  have ef:Ub (face.map Bb) (k:Int)=some (.int f):=aF (by rw[Aw,hf]; rfl)
  have ew:Ub (ws.map Ck) (k:Int)=some (Ck w):=aF (by rw[Aw,hw]; rfl)
  refine ⟨by omega,by omega,?_⟩
  refine gK (l:=Cu vs.toNat) (g:=λi:Nat=>.int i) rfl (λi:Nat=>decide ((i:Int)≠f)) (λi=>.int i) (λi _ yes no hy hn=>?_) ?_
  ·array_get_dec
   refine ⟨_,ef,dp,?_⟩
   array_get_dec
   refine Wh (λh=>?_) (λh=>?_)
   ·array_get_dec
    exact hy (by simpa using h)
   ·exact hn (by simpa using h)
  array_get_dec
  refine lI (l:=(Cu vs.toNat).filter λi:Nat=>decide ((i:Int)≠f)) (g:=λi:Nat=>.int i) rfl (λi=>.int (Oc ws face nums w i)) (λi _ yes no hy=>?_) ?_
  ·array_get_dec
   refine ⟨_,ew,ws,face,nums,w,i,rfl,l1,l2,h0,?_⟩
   array_get_dec
   exact hy
  array_get_dec
  have mem:∀b:Int,b∈((Cu vs.toNat).filter λi:Nat=>decide ((i:Int)≠f)).map (λi:Nat=>Oc ws face nums w i)↔∃v:Int,0<=v/\v<vs/\v≠f/\b=Oc ws face nums w v:=λb=>by
   constructor
   ·intro h
    obtain ⟨i,hi,rfl⟩:=Bt.mp h
    obtain ⟨h1,h2⟩:=Ce.mp hi
    have:=Jf.mp h1
    exact ⟨i,by omega,by omega,by simpa using h2,rfl⟩
   ·(intro q_; obtain ⟨v,h1,h2,h3,rfl⟩ := q_)
    refine Bt.mpr ⟨v.toNat,Ce.mpr ⟨Jf.mpr (by omega),?_⟩,by rw[Ms h1]⟩
    rw[Ms h1]
    simpa using h3
  refine ⟨((Cu vs.toNat).filter λi:Nat=>decide ((i:Int)≠f)).map (λi:Nat=>Oc ws face nums w i),by rw[Bw]; rfl,λz=>?_,λM hM hle=>?_⟩
  ·have h1:=(mem (Oc ws face nums w 0)).mpr
   have h2:=(mem (Oc ws face nums w 1)).mpr
   rw[z] at h1 h2
   by_cases q:f=0
   ·exact absurd (h2 ⟨1,by omega,by omega,by omega,rfl⟩) Az
   ·exact absurd (h1 ⟨0,by omega,by omega,by omega,rfl⟩) Az
  ·array_get_dec
   refine hR M λx=>⟨λh v h1 h2 h3=>?_,λh=>?_⟩
   ·have:=hle _ ((mem _).mpr ⟨v,h1,h2,h3,rfl⟩)
    omega
   ·obtain ⟨v,h1,h2,h3,rfl⟩:=(mem M).mp hM
    exact h v h1 h2 h3
end
def Gb(P:List (List Int))(f g:List Int->Int)(w:List Int)(v:Int):Int:=Mo ((P.filter λu=>decide (f u=v) && pJ w u).map λu=>g u+1)
def Xv(L:List (List Int))(f:List Int->Int)(vs:Int)(g:List Int->Int)(P:List (List Int)):Prop:=∀w∈P,∀x:Int,x<=g w↔∀v:Int,0<=v->v<vs->v≠f w->x<=Gb L f g w v
def dI(L:List (List Int))(f:List Int->Int)(vs:Int)(g:List Int->Int):Prop:=Xv L f vs g L
def lQ:PF:=λds R=>∃(h:Int) (L:List (List Int)) (f:List Int->Int) (vs:Int),ds=[.list (L.map Ck),.list ((L.map f).map Bb),.int vs]/\0<=h/\h<=10/\L.Perm (Do h.toNat)/\2<=vs/\vs<=16/\∀g:List Int->Int,dI L f vs g->R (.list ((L.map g).map Bb))
theorem Xs{l m:List Int}(h:∀x,x∈l↔x∈m):Mo l=Mo m:=by
 have key:∀{l m:List Int},(∀x∈l,x∈m)->Mo l<=Mo m:=λ{l m} h=>by
  by_cases z:0<Mo l
  ·obtain ⟨y,hy,e⟩:=(Qx z (l:=l)).mp (Hq _)
   exact (Qx z).mpr ⟨y,h y hy,e⟩
  ·have:=Wi m
   omega
 exact Int.le_antisymm (key λx hx=>(h x).mp hx) (key λx hx=>(h x).mpr hx)
theorem aM(x:Int):∀l:List Int,Mo (l++[x])=max (Mo l) x
 | []=>by show max x 0=max 0 x; omega
 | a::l=>by
  show max a (Mo (l++[x]))=max (max a (Mo l)) x
  rw[aM x l]
  omega
theorem Ys(P:List (List Int))(f g:List Int->Int)(w u:List Int)(v:Int):Gb (P++[u]) f g w v=if f u=v/\pJ w u=true then max (Gb P f g w v) (g u+1) else Gb P f g w v:=by
 unfold Gb
 rw[Kg,Bj]
 by_cases q:f u=v/\pJ w u=true
 ·rw[if_pos q,List.filter_cons_of_pos (by simp [q.1,q.2])]
  exact aM _ _
 ·rw[if_neg q,List.filter_cons_of_neg (by simpa using q),List.filter_nil,Ji,Ea]
theorem u9{w u:List Int}:pJ w u=true↔∀i∈w,i∈u:=by
 unfold pJ
 rw[Yy]
 simp
theorem Xo{n:Int}{w u:List Int}(hw:Jr n w)(hu:Jr n u)(hi:pJ w u=true)(ne:w≠u):w.length<u.length:=by
 rw[u9] at hi
 obtain ⟨y,hy,hn⟩ : ∃y∈u,y∉w:=Yz λz=>ne (oT hw hu λi=>⟨hi i,λq=>Yz λr=>z ⟨i,q,r⟩⟩)
 have:=NdS.len_leI (l2:=u.erase y) (iK hw) λe he=>(List.mem_erase_of_ne (show e≠y from λq=>hn (by rw[<- q]; exact he))).mpr (hi e he)
 rw[hU hy] at this
 have:=kH hy
 omega
theorem Ks(k:Int)(e:Ad)(ks:List (Int×Ad))(v:Int):Nj ((k,e)::ks) v=if k=v then some e else Nj ks v:=by
 unfold Nj
 by_cases h:k=v
 ·rw[List.find?_cons_of_pos (by simpa using h),if_pos h]; rfl
 ·rw[List.find?_cons_of_neg (by simpa using h),if_neg h]
theorem aG{w v:Int}:∀{ks:List (Int×Ad)},¬ (ks.any λp=>decide (p.1=w))=true->v=w->Nj ks v=none
 | [],_,_=>rfl
 | (k,e)::ks,h,hv=>by
  rw[Hw,Bool.or_eq_true] at h
  have h1:¬ k=w:=λz=>h (.inl (by simpa using z))
  rw[Ks,if_neg (by rw[hv]; exact h1)]
  exact aG (λz=>h (.inr z)) hv
theorem fL{w:Int}{d:Ad}{v:Int}:∀(ks:List (Int×Ad)),Nj (ks.map λp=>if p.1=w then (p.1,d) else p) v=if v=w/\(ks.any λp=>decide (p.1=w))=true then some d else Nj ks v
 | []=>by simp [Nj]
 | (k,e)::ks=>by
  rw[Au,Ks k e,Hw]
  have ih:=fL (w:=w) (d:=d) (v:=v) ks
  by_cases hk:k=w
  ·subst hk
   rw[if_pos rfl,Ks,ih]
   by_cases hv:v=k
   ·subst hv; simp
   ·have : ¬ k=v:=λz=>hv z.symm
    simp [hv,this]
  ·rw[if_neg hk,Ks,ih]
   by_cases hv:v=w
   ·subst hv
    rw[if_neg hk,show decide (k=v)=false by simpa using hk,Bool.false_or,if_neg hk]
   ·simp [hv]
theorem bD{w:Int}{d:Ad}{v:Int}:∀(ks:List (Int×Ad)),Nj (ks++[(w,d)]) v=match Nj ks v with | some e=>some e | none=>if w=v then some d else none
 | []=>by rw[Rj,Ks]; rfl
 | (k,e)::ks=>by
  rw[Fz,Ks,Ks,bD ks]
  by_cases hk:k=v
  ·rw[if_pos hk,if_pos hk]
  ·rw[if_neg hk,if_neg hk]
theorem tW(ks:List (Int×Ad))(w:Int)(d:Ad)(v:Int):Nj (gB ks w d) v=if v=w then some d else Nj ks v:=by
 unfold gB
 split
 ·rename_i h
  rw[fL,h]
  simp
 ·rename_i h
  rw[bD]
  by_cases hv:v=w
  ·rw[aG h hv,if_pos hv,if_pos hv.symm]
  ·rw[if_neg hv,if_neg (λz=>hv z.symm)]
   cases Nj ks v <;> rfl
theorem qC(ks:List (Int×Ad))(w:Int)(d:Ad):(gB ks w d).length<=ks.length+1:=by
 unfold gB
 split
 ·rw[Ac]; omega
 ·rw[Cc]; exact Ai _
def Xa(g:List Int->Int)(w:List Int)(X:Int)(u:List Int):Int:=if u=w then X else g u
theorem Wn{g:List Int->Int}{w:List Int}{X:Int}:Xa g w X w=X:=if_pos rfl
theorem Mz{g:List Int->Int}{w u:List Int}{X:Int}(h:u≠w):Xa g w X u=g u:=if_neg h
theorem Xe{n:Int}{L M:List (List Int)}{f g:List Int->Int}{vs X:Int}{i:Nat}{w:List Int}(hm:∀u,u∈M↔u∈L)(nd:M.Nodup)(hr:∀u∈L,Jr n u)(hs:M.Pairwise λx y=>y.length<=x.length)(hw:M[i]? = some w)(ho:Xv L f vs g (M.take i))(hX:∀x:Int,x<=X↔∀v:Int,0<=v->v<vs->v≠f w->x<=Gb (M.take i) f g w v):Xv L f vs (Xa g w X) (M.take (i+1)):=by
 have hi:=(Al.mp hw).1
 have wL:=(hm w).mp (Aq hw)
 have ahead:∀u∈L,w.length<u.length->u∈M.take i:=λu hu hl=>by
  obtain ⟨j,hj⟩:=Eg.mp ((hm u).mpr hu)
  have hj':=(Al.mp hj).1
  by_cases q:j<i
  ·exact Aq (i:=j) (by rw[Dj q]; exact hj)
  ·exfalso
   by_cases z:j=i
   ·subst z; rw[hw] at hj; cases hj; omega
   ·have:=Df.mp hs i j hi hj' (by omega)
    rw[An hi] at hw
    rw[An hj'] at hj
    cases hw
    cases hj
    omega
 have Ui:∀u∈M.take i,w.length<=u.length/\u≠w:=λu hu=>by
  obtain ⟨j,hj⟩:=Eg.mp hu
  have q:j<i:=by
   have:=(Al.mp hj).1
   rw[Cv] at this
   omega
  rw[Dj q] at hj
  have hj':=(Al.mp hj).1
  rw[An hi] at hw
  rw[An hj'] at hj
  cases hw
  cases hj
  refine ⟨Df.mp hs j i hj' hi q,λz=>?_⟩
  have q3:=Df.mp nd j i hj' hi q
  exact q3 z
 intro u hu x
 rw[Io,hw] at hu
 have hu:u∈M.take i++[w]:=hu
 rcases Bi.mp hu with hu | hu
 ·obtain ⟨b1,b2⟩:=Ui u hu
  have uL:=(hm u).mp (Pj _ _ hu)
  have same:∀v,Gb L f (Xa g w X) u v=Gb L f g u v:=λv=>by
   unfold Gb
   congr 1
   refine Dl λc hc=>?_
   obtain ⟨c1,c2⟩:=Ce.mp hc
   rw[Dq] at c2
   have : c≠w:=λz=>by
    subst z
    have:=Xo (hr u uL) (hr c c1) c2.2 b2
    omega
   rw[Mz this]
  rw[Mz b2]
  simp only[same]
  exact ho u hu x
 ·rw[Ah.mp hu,Wn,hX x]
  refine forall_congr' λv=>forall_congr' λq1=>forall_congr' λq2=>forall_congr' λq3=>?_
  have : Gb (M.take i) f g w v=Gb L f (Xa g w X) w v:=by
   unfold Gb
   refine Xs λy=>?_
   constructor
   ·intro hy
    obtain ⟨c,hc,rfl⟩:=Bt.mp hy
    obtain ⟨c1,c2⟩:=Ce.mp hc
    exact Bt.mpr ⟨c,Ce.mpr ⟨(hm c).mp (Pj _ _ c1),c2⟩,by rw[Mz (Ui c c1).2]⟩
   ·intro hy
    obtain ⟨c,hc,rfl⟩:=Bt.mp hy
    obtain ⟨c1,c2⟩:=Ce.mp hc
    have c3:=c2
    rw[Dq,decide_eq_true_eq] at c3
    have ne:c≠w:=λz=>q3 (by rw[<- c3.1,z])
    have:=Xo (hr w wL) (hr c c1) c3.2 ne.symm
    exact Bt.mpr ⟨c,Ce.mpr ⟨ahead c c1 this,c2⟩,by rw[Mz ne]⟩
  rw[this]
theorem yI:cP .un=true:=rfl
theorem yY{d:Ad}:cP (.dat .sh d)=iV d:=rfl
theorem xV{d:Ad}:cP (.dat .ow d)=true:=rfl
theorem wU{i:Int}:iV (.int i)=true:=rfl
theorem Tr{α:Type}{f:α->Ad}(h:∀a,iV (f a)=true):∀l:List α,iC (l.map f)=true
 | []=>rfl
 | a::l=>by show (iV (f a) && iC (l.map f))=true; rw[h a,Tr h l]; rfl
theorem lU(w:List Int):iV (Ck w)=true:=Tr (λ_=>rfl) w
theorem x5(l:List (List Int)):iV (.list (l.map Ck))=true:=Tr lU l
theorem B2(l:List Int):iV (.list (l.map Bb))=true:=Tr (λ_=>rfl) l
theorem pB(L:List (List Int))(g:List Int->Int):(Pi L g).map (λp=>Ck p.1)=L.map Ck:=by
 unfold Pi
 rw[Bw]
 rfl
theorem qI{P:List (List Int)}{w:List Int}{g:List Int->Int}{X:Int}(h:w∉P):Qf (Pi P g) w (.int X)=Pi (P++[w]) (Xa g w X):=by
 unfold Qf
 rw[if_neg]
 ·unfold Pi
  rw[Bj,Au,Ji,Wn]
  congr 1
  refine Dl λu hu=>?_
  rw[Mz (show u≠w from λz=>h (by rw[<- z]; exact hu))]
 ·intro z
  obtain ⟨p,hp,e⟩:=List.any_eq_true.mp z
  obtain ⟨u,hu,rfl⟩:=Bt.mp hp
  have q:u=w:=by simpa using e
  exact h (by rw[<- q]; exact hu)
theorem F4(a b:Int):(if a > b then a else b)=max b a:=by
 by_cases h:a > b
 ·rw[if_pos h]; omega
 ·rw[if_neg h]; omega
section
variable{P:Bo}{w:World}{K:PySem.W.Frag}{mg:Str->Option Value}{base:Heap}
theorem Zq:FnScope ["_law_words_here", "_law_face", "_law_values_here", "_law_shown", "_law_known", "_law_word", "_law_best", "_law_other"] ["_law_words_here", "_law_face", "_law_values_here"] (Bu Ke):=⟨rfl,rfl,rfl,by decide +kernel,rfl,by decide +kernel,by decide +kernel⟩
theorem Zp{f f_L_lies  : Addr}{fd d_L_lies:Cm}(F:Fun K "_law_often" "_law_often" Ke f fd)(G_L_lies:FnOk P w K mg base Jg 1 f_L_lies d_L_lies ["_law_one", "_law_other"] (Ve K (lO)))(b_L_lies:Binds K d_L_lies ["_law_one", "_law_other"] [])(k_L_lies:PySem.W.keepIn K (.ref f_L_lies)=true)(m_L_lies:mg "_law_lies" = some (.ref f_L_lies))(mz_dict:mg "dict" = none)(mz_zip:mg "zip" = none)(mz_sorted:mg "sorted" = none)(mz_len:mg "len" = none)(mz_max:mg "max" = none)(mz_range:mg "range" = none)(mz_min:mg "min" = none):FnOk P w K mg base Jg 2 f fd ["_law_words_here", "_law_face", "_law_values_here"] (Ve K (lQ)):=by
 refine' Ou (k:=1) F Zq (λcdv A outer s H E hr=>?hb) ?h
 case hb =>
  have hr1:Room 1 _:=hr.mono (by decide)
  have hu64:=hr.units
  have CS1:∀{scope:Scope} (h:scope={ kind:=.function,names:=[(".0",.local),("_law_value",.local),("_law_best",.free),("_law_shown",.free),("_law_word",.free)],isGenerator:=false,isCoroutine:=false }),
    CompScope (Nz Jg P w K mg base ["_law_words_here", "_law_face", "_law_values_here", "_law_shown", "_law_known", "_law_word", "_law_best", "_law_other"] "_law_often" (Bu Ke) f cdv A outer s H E).nox scope [("_law_word",s.heap.objs.size+3),("_law_shown",s.heap.objs.size+1),("_law_best",s.heap.objs.size+4)] "_law_value" ["_law_best", "_law_shown", "_law_word"] [6,3,5]:=by
   rintro scope rfl
   refine ⟨by rfl,.inl (by decide +kernel),by rfl,by decide +kernel,.inl rfl,λy c h=>?_,by rfl,by decide +kernel,rfl,λk y j e1 e2=>?_⟩
   ·have z:=Fk h
    simp only[Ak,Az,or_false,Hm] at z
    rcases z with ⟨rfl,rfl⟩ | ⟨rfl,rfl⟩ | ⟨rfl,rfl⟩ <;> rfl
   ·match k,e1,e2 with
    | 0,e1,e2=>cases e1; cases e2; exact ⟨rfl,rfl,by first | exact .inl rfl | exact .inr rfl⟩
    | 1,e1,e2=>cases e1; cases e2; exact ⟨rfl,rfl,by first | exact .inl rfl | exact .inr rfl⟩
    | 2,e1,e2=>cases e1; cases e2; exact ⟨rfl,rfl,by first | exact .inl rfl | exact .inr rfl⟩
    | k+3,e1,e2=>cases e1
  have CS2:∀{scope:Scope} (h:scope={ kind:=.function,names:=[(".0",.local),("_law_word",.local),("_law_known",.free)],isGenerator:=false,isCoroutine:=false }),
    CompScope (Nz Jg P w K mg base ["_law_words_here", "_law_face", "_law_values_here", "_law_shown", "_law_known", "_law_word", "_law_best", "_law_other"] "_law_often" (Bu Ke) f cdv A outer s H E).nox scope [("_law_known",s.heap.objs.size+2)] "_law_word" ["_law_known"] [4]:=by
   rintro scope rfl
   refine ⟨by rfl,.inl (by decide +kernel),by rfl,by decide +kernel,.inl rfl,λy c h=>?_,by rfl,by decide +kernel,rfl,λk y j e1 e2=>?_⟩
   ·have z:=Fk h
    simp only[Ak,Az,or_false,Hm] at z
    obtain ⟨rfl,rfl⟩:=z; rfl
   ·match k,e1,e2 with
    | 0,e1,e2=>cases e1; cases e2; exact ⟨rfl,rfl,by first | exact .inl rfl | exact .inr rfl⟩
    | k+1,e1,e2=>cases e1
  exact Dv (Qt (i:=3) Zq.nd rfl (Tz rfl) (uW hu64 rfl mz_dict rfl mz_zip rfl (Bh (Bg (pv 0)) (Bh (Bg (pv 1)) Cf))))
   (Dv (Qt (i:=4) Zq.nd rfl (Tz rfl) xO)
   (Dv (Uu Fj rfl (zV (zA (sP rfl mz_sorted rfl mz_len (Bh (Bg (pv 0)) Cf)) (U0 u4 Em) (λ_ _ _ h=>⟨_,rfl,h⟩))) (Ol (i:=5) Zq.nd rfl (Tz rfl))
   (Dv (Qt (i:=6) Zq.nd rfl (Tz rfl) wA)
    (Dv (xK Fj rfl (pv 4) (Ol (i:=7) Zq.nd rfl (Ej rfl))
    (Gg (pN (cT (Kw G_L_lies hr1 rfl m_L_lies k_L_lies b_L_lies Kk (Bh (Bg (pv 5)) (Bh (Bg (pv 7)) Cf))))
     (Gg (vS hu64 (pv 6) (Wf hu64 (Bg (pv 3)) (Bg (pv 7))) (Hj (aN rfl) kX rfl mz_max (by decide +kernel) (Bh (lE hu64 (Bg (pv 6)) (Wf hu64 (Bg (pv 3)) (Bg (pv 7))) Dz ⟨rfl,rfl,rfl,rfl⟩) (Bh (Qc (uT hu64 (Bg (pv 4)) (Bg (pv 7))) Dz) Cf))))) jN)))
    (Gg (yA hu64 (pv 4) (Bg (pv 5)) (Hj (bE rfl) mM rfl mz_min (by decide +kernel) (Bh (Ot (CS1 rfl) rfl (Uy rfl mz_range (Bh (Bg (pv 2)) Cf)) (λ_ _ _=>Tn (gC hu64 (Bg (pv 0)) (Wf hu64 (Bg (pv 2)) (Bg (pv 3))))) (λ_ _ _=>lE hu64 (Bg (pv 1)) (Bg (pv 0)) Dz ⟨rfl,rfl,rfl,rfl⟩)) Cf)))))))
   (Gg (Kd (Ot (CS2 rfl) rfl (zV (Bg (pv 0))) (λ_ _ _=>Tb) (λ_ _ _=>Wf hu64 (Bg (pv 1)) (Bg (pv 0))))))))
 case h =>
  (intro ds R q_; obtain ⟨h,L,f,vs,rfl,h0,h1,hp,v0,v1,hR⟩ := q_)
  refine ⟨rfl,?_⟩
  obtain ⟨l1,l2⟩:=Qq (n:=h.toNat) (by omega) hp
  have nd:=Qi hp
  have hz:Ap=16777216:=Ih
  array_get_dec
  refine ⟨by rw[Ac]; omega,L,rfl,?_⟩
  rw[tG nd f]
  array_get_dec
  refine ⟨L,rfl,by omega,λM0 hM hs=>?_⟩
  have hM':M0.reverse.Perm L:=(Gs M0).trans hM
  have hs':M0.reverse.Pairwise λx y=>y.length<=x.length:=Lg.mpr hs
  rw[<- List.map_reverse]
  generalize M0.reverse=M at hM' hs'
  have ndM:M.Nodup:=hM'.nodup_iff.mpr nd
  have lM:=hM'.length_eq
  refine nW (l:=M) (g:=Ck) rfl (λi δ=>∃(g:List Int->Int) (v5 v6 v7:DV),δ=⟨[.dat .sh (.list (L.map Ck)),.dat .sh (.list ((L.map f).map Bb)),.dat .sh (.int vs),.dat .ow (.dict (Oo (Pi L f))),.dat .ow (.dict (Oo (Pi (M.take i) g))),v5,v6,v7],0⟩/\NP v5/\NP v6/\NP v7/\cP v7=true/\Xv L f vs g (M.take i)) ?_ ?_ ?_
  ·exact ⟨λ_=>0,_,_,_,rfl,Tt,Tt,Tt,rfl,λ_ z=>nomatch z⟩
  ·(intro i w _ hw q_; obtain ⟨g,v5,v6,v7,rfl,hv5,hv6,hv7,ok7,ho⟩ := q_)
   have wL:=hM'.mem_iff.mp (Aq hw)
   have hi:=(Al.mp hw).1
   array_get_dec
   have lP:(Pi (M.take i) g).length=i:=by simp only[Pi,Ac,Cv]; omega
   refine ⟨_,rfl,by omega,λa=>?_⟩
   refine ⟨λj δ=>∃(bs:List (Int×Ad)) (v7:DV),δ=⟨[.dat .sh (.list (L.map Ck)),.dat .sh (.list ((L.map f).map Bb)),.dat .sh (.int vs),.dat .ow (.dict (Oo (Pi L f))),.dat .sh (.dict (Sx a (Pi (M.take i) g))),.dat .sh (Ck w),.dat .ow (.dict (Vy bs)),v7],0⟩/\NP v7/\cP v7=true/\bs.length<=j/\∀v,(Nj bs v).getD (.int 0)=.int (Gb ((M.take i).take j) f g w v),⟨[],v7,rfl,hv7,ok7,Ct _,λv=>rfl⟩,?_,?_⟩
   ·(intro j d _ hd q_; obtain ⟨bs,u7,rfl,hu7,ok,lb,hb⟩ := q_)
    rw[pB,Aw] at hd
    cases hu:(M.take i)[j]? with
    | none=>rw[hu] at hd; cases hd
    | some u =>
    rw[hu] at hd
    cases hd
    have uP:=Aq hu
    have uL:=hM'.mem_iff.mp (Pj _ _ uP)
    have hj:j<1024:=by
     have:=(Al.mp hu).1
     rw[Cv] at this
     omega
    have tk:(M.take i).take (j+1)=(M.take i).take j++[u]:=by rw[Io,hu]; rfl
    array_get_dec
    refine ⟨w,u,rfl,?_⟩
    refine O3 (λhin=>?_) (λhin=>?_)
    ·array_get_dec
     refine ⟨_,Qy uL,?_⟩
     array_get_dec
     rw[hb]
     array_get_dec
     refine ⟨_,Qy uP,?_⟩
     array_get_dec
     refine ⟨_,Qy uL,?_⟩
     array_get_dec
     refine ⟨by omega,_,_,rfl,Lo,lU u,Ca (qC _ _ _) (by omega),λv=>?_⟩
     rw[tW,tk,Ys]
     by_cases q:v=f u
     ·subst q
      rw[if_pos (show f u=f u from rfl),if_pos (show f u=f u/\pJ w u=true from ⟨rfl,hin⟩)]
      rw[Option.getD_some,F4]
     ·rw[if_neg q,if_neg (λz=>q z.1.symm)]
      exact hb v
    ·array_get_dec
     refine ⟨bs,_,rfl,Lo,lU u,by omega,λv=>?_⟩
     rw[tk,Ys,if_neg (λz=>by rw[z.2] at hin; cases hin)]
     exact hb v
   ·(intro _ q_; obtain ⟨bs,u7,rfl,hu7,ok,lb,hb⟩ := q_)
    rw[lP] at hb
    refine ⟨rfl,?_,?_⟩
    ·simp only[Nm,List.set_cons_zero,List.all_cons,List.all_nil,yI,yY,xV,x5,B2,lU,wU,ok,Bool.and_self]
    rw[show (M.take i).take i=M.take i by rw[List.take_take,Nat.min_self]] at hb
    array_get_dec
    refine ⟨by omega,by omega,?_⟩
    refine gK (l:=Cu vs.toNat) (g:=λi:Nat=>.int i) rfl (λk:Nat=>decide ((k:Int)≠f w)) (λk=>.int (Gb (M.take i) f g w k)) (λk _ yes no hy hn=>?_) ?_
    ·array_get_dec
     refine ⟨_,Qy wL,?_⟩
     array_get_dec
     refine Wh (λq=>?_) (λq=>?_)
     ·array_get_dec
      rw[hb]
      array_get_dec
      exact hy (by simpa using q)
     ·exact hn (by simpa using q)
    array_get_dec
    have mem:∀b:Int,b∈((Cu vs.toNat).filter λk:Nat=>decide ((k:Int)≠f w)).map (λk:Nat=>Gb (M.take i) f g w k)↔∃v:Int,0<=v/\v<vs/\v≠f w/\b=Gb (M.take i) f g w v:=λb=>by
     constructor
     ·intro q
      obtain ⟨k,hk,rfl⟩:=Bt.mp q
      obtain ⟨q1,q2⟩:=Ce.mp hk
      have:=Jf.mp q1
      exact ⟨k,by omega,by omega,by simpa using q2,rfl⟩
     ·(intro q_; obtain ⟨v,q1,q2,q3,rfl⟩ := q_)
      refine Bt.mpr ⟨v.toNat,Ce.mpr ⟨Jf.mpr (by omega),?_⟩,by rw[Ms q1]⟩
      rw[Ms q1]
      simpa using q3
    refine ⟨((Cu vs.toNat).filter λk:Nat=>decide ((k:Int)≠f w)).map (λk:Nat=>Gb (M.take i) f g w k),by rw[Bw]; rfl,λz=>?_,λX hX hle=>?_⟩
    ·have q1:=(mem (Gb (M.take i) f g w 0)).mpr
     have q2:=(mem (Gb (M.take i) f g w 1)).mpr
     rw[z] at q1 q2
     by_cases q:f w=0
     ·exact absurd (q2 ⟨1,by omega,by omega,by omega,rfl⟩) Az
     ·exact absurd (q1 ⟨0,by omega,by omega,by omega,rfl⟩) Az
    array_get_dec
    have nw:w∉M.take i:=λz=>by
     obtain ⟨j,hj⟩:=Eg.mp z
     have hj1:j<i:=by
      have:=(Al.mp hj).1
      rw[Cv] at this
      omega
     rw[Dj hj1] at hj
     have hj2:=(Al.mp hj).1
     have:=Df.mp ndM j i hj2 hi hj1
     rw[An hj2] at hj
     rw[An hi] at hw
     exact this (Bk (hj.trans hw.symm))
    rw[lP]
    have e9:Qf (Pi (M.take i) g) w (.int X)=Pi (M.take (i+1)) (Xa g w X):=by
     rw[qI nw,Io,hw]
     rfl
    rw[e9]
    refine ⟨by simp [npk,hu7 _],by omega,Xa g w X,_,_,_,rfl,Lo,i3,hu7,ok,?_⟩
    ·refine Xe (λu=>hM'.mem_iff) ndM (λu hu=>(l2 u hu).1) hs' hw ho λx=>⟨λq v q1 q2 q3=>?_,λq=>?_⟩
     ·have:=hle _ ((mem _).mpr ⟨v,q1,q2,q3,rfl⟩)
      omega
     ·obtain ⟨v,q1,q2,q3,rfl⟩:=(mem X).mp hX
      exact q v q1 q2 q3
  ·(intro _ q_; obtain ⟨g,v5,v6,v7,rfl,hv5,hv6,hv7,ok7,ho⟩ := q_)
   rw[Fw] at ho
   array_get_dec
   rw[Fw]
   refine lI (l:=L) (g:=Ck) rfl (λw=>.int (g w)) (λw hw yes no hy=>?_) ?_
   ·array_get_dec
    refine ⟨_,Qy (hM'.mem_iff.mpr hw),?_⟩
    array_get_dec
    exact hy
   ·array_get_dec
    have:=hR g λw hw=>ho w (hM'.mem_iff.mpr hw)
    rw[Bw] at this
    exact this
end
theorem fW:∀{L:List (List Int)},L.Nodup->∀{face:List Int},face.length=L.length->∃f:List Int->Int,face=L.map f
 | [],_,[],_=>⟨λ_=>0,rfl⟩
 | [],_,_::_,h=>by cases h
 | _::_,_,[],h=>by cases h
 | w::L,nd,x::face,h=>by
  obtain ⟨n1,n2⟩:=Bx.mp nd
  obtain ⟨f,e⟩:=fW n2 (face:=face) (by simpa using h)
  refine ⟨Xa f w x,?_⟩
  rw[Au,Wn,e]
  congr 1
  refine Dl λu hu=>?_
  rw[Mz (show u≠w from λz=>n1 (by rw[<- z]; exact hu))]
def sQ:PF:=λds R=>∃(h:Int) (L:List (List Int)) (f:List Int->Int) (vs:Int),ds=[.int h,.list ((L.map f).map Bb),.int vs]/\0<=h/\h<=10/\L.Perm (Do h.toNat)/\Ord L/\2<=vs/\vs<=16 /\
 ∀g:List Int->Int,dI L f vs g->R (.list ((L.map g).map Bb))
theorem uD(L:List (List Int))(f g:List Int->Int)(w:List Int)(v:Int):Oc L (L.map f) (L.map g) w v=Gb L f g w v:=by
 unfold Oc Gb
 refine Xs λx=>?_
 have at':∀p:List Int×Nat,p∈L.zipIdx->L[p.2]? = some p.1:=λp hp=>by
  obtain ⟨k,hk⟩:=Eg.mp hp
  obtain ⟨ek,hp1,hp2,hp3⟩:=iL hk
  exact List.mem_zipIdx_iff_getElem?.mp hp
 constructor
 ·intro hx
  obtain ⟨p,hp,rfl⟩:=Bt.mp hx
  obtain ⟨p1,p2⟩:=Ce.mp hp
  have e:=at' p p1
  unfold pA at p2
  rw[Aw,e,Dq,decide_eq_true_eq] at p2
  refine Bt.mpr ⟨p.1,Ce.mpr ⟨Aq e,?_⟩,?_⟩
  ·rw[Dq,decide_eq_true_eq]
   exact ⟨Bk p2.1,p2.2⟩
  ·unfold Pw
   rw[Aw,e]
   rfl
 ·intro hx
  obtain ⟨u,hu,rfl⟩:=Bt.mp hx
  obtain ⟨u1,u2⟩:=Ce.mp hu
  rw[Dq,decide_eq_true_eq] at u2
  obtain ⟨k,hk⟩:=Eg.mp u1
  have hk':=(Al.mp hk)
  refine Bt.mpr ⟨(u,k),Ce.mpr ⟨?_,?_⟩,?_⟩
  ·exact List.mem_zipIdx_iff_getElem?.mpr hk
  ·unfold pA
   rw[Aw,hk,Dq,decide_eq_true_eq]
   exact ⟨congrArg some u2.1,u2.2⟩
  ·unfold Pw
   rw[Aw,hk]
   rfl
theorem eB{n:Int}{L M:List (List Int)}{f g:List Int->Int}{i:Nat}{w:List Int}{v:Int}(hm:∀u,u∈M↔u∈L)(hr:∀u∈L,Jr n u)(hs:M.Pairwise λx y=>y.length<=x.length)(hw:M[i]? = some w)(hv:v≠f w):Gb L f g w v=Gb (M.take i) f g w v:=by
 have hi:=(Al.mp hw).1
 have wL:=(hm w).mp (Aq hw)
 unfold Gb
 refine Xs λy=>?_
 constructor
 ·intro hy
  obtain ⟨c,hc,rfl⟩:=Bt.mp hy
  obtain ⟨c1,c2⟩:=Ce.mp hc
  have c3:=c2
  rw[Dq,decide_eq_true_eq] at c3
  have ne:c≠w:=λz=>hv (by rw[<- c3.1,z])
  have hl:=Xo (hr w wL) (hr c c1) c3.2 ne.symm
  refine Bt.mpr ⟨c,Ce.mpr ⟨?_,c2⟩,rfl⟩
  obtain ⟨j,hj⟩:=Eg.mp ((hm c).mpr c1)
  have hj':=(Al.mp hj).1
  by_cases q:j<i
  ·exact Aq (i:=j) (by rw[Dj q]; exact hj)
  ·exfalso
   by_cases z:j=i
   ·subst z; rw[hw] at hj; cases hj; omega
   ·have:=Df.mp hs i j hi hj' (by omega)
    rw[An hi] at hw
    rw[An hj'] at hj
    cases hw
    cases hj
    omega
 ·intro hy
  obtain ⟨c,hc,rfl⟩:=Bt.mp hy
  obtain ⟨c1,c2⟩:=Ce.mp hc
  exact Bt.mpr ⟨c,Ce.mpr ⟨(hm c).mp (Pj _ _ c1),c2⟩,rfl⟩
theorem rX{L:List (List Int)}(nd:L.Nodup){g:List Int->Int}{X:Int}{k:Nat}{w:List Int}(hk:L[k]? = some w):(L.map g).set k X=L.map (Xa g w X):=by
 refine Fq λj=>?_
 have hkl:=(Al.mp hk).1
 rw[Iq,Aw,Aw]
 by_cases e:k=j
 ·subst e
  rw[if_pos rfl,if_pos (by rw[Ac]; exact hkl),hk]
  exact congrArg some Wn.symm
 ·rw[if_neg e]
  cases hj:L[j]? with
  | none=>rfl
  | some u =>
   refine congrArg some (Mz λz=>e ?_).symm
   rw[z] at hj
   have hjl:=(Al.mp hj).1
   have pw:=Df.mp nd
   rw[An hkl] at hk
   rw[An hjl] at hj
   by_cases q:k<j
   ·exact absurd (Bk (hk.trans hj.symm)) (pw k j hkl hjl q)
   ·exact absurd (Bk (hj.trans hk.symm)) (pw j k hjl hkl (by omega))
theorem mV{n:Int}{L:List (List Int)}{f g g':List Int->Int}{vs:Int}(hr:∀u∈L,Jr n u)(hl:∀u∈L,u.length<=1000)(h:dI L f vs g)(h':dI L f vs g'):L.map g=L.map g':=by
 have key:∀(k:Nat) (w:List Int),w∈L->1000<=w.length+k->g w=g' w:=by
  intro k
  induction k with
  | zero =>
   intro w hw hk
   have e:∀v,v≠f w->Gb L f g w v=Gb L f g' w v:=λv hv=>by
    unfold Gb
    congr 1
    refine Dl λc hc=>?_
    obtain ⟨c1,c2⟩:=Ce.mp hc
    rw[Dq,decide_eq_true_eq] at c2
    have ne:c≠w:=λz=>hv (by rw[<- c2.1,z])
    have:=Xo (hr w hw) (hr c c1) c2.2 ne.symm
    have:=hl c c1
    omega
   have a1:=(h' w hw (g w)).mpr λv q1 q2 q3=>by rw[<- e v q3]; exact (h w hw (g w)).mp (Hq _) v q1 q2 q3
   have a2:=(h w hw (g' w)).mpr λv q1 q2 q3=>by rw[e v q3]; exact (h' w hw (g' w)).mp (Hq _) v q1 q2 q3
   omega
  | succ k ih =>
   intro w hw hk
   have e:∀v,v≠f w->Gb L f g w v=Gb L f g' w v:=λv hv=>by
    unfold Gb
    congr 1
    refine Dl λc hc=>?_
    obtain ⟨c1,c2⟩:=Ce.mp hc
    rw[Dq,decide_eq_true_eq] at c2
    have ne:c≠w:=λz=>hv (by rw[<- c2.1,z])
    have:=Xo (hr w hw) (hr c c1) c2.2 ne.symm
    rw[ih c c1 (by omega)]
   have a1:=(h' w hw (g w)).mpr λv q1 q2 q3=>by rw[<- e v q3]; exact (h w hw (g w)).mp (Hq _) v q1 q2 q3
   have a2:=(h w hw (g' w)).mpr λv q1 q2 q3=>by rw[e v q3]; exact (h' w hw (g' w)).mp (Hq _) v q1 q2 q3
   omega
 exact Dl λw hw=>key 1000 w hw (by omega)
section
variable{P:Bo}{w:World}{K:PySem.W.Frag}{mg:Str->Option Value}{base:Heap}
theorem sD:FnScope ["holes", "reading", "values", "told", "at", "words"] ["holes", "reading", "values"] (Bu cK):=⟨rfl,rfl,rfl,by decide +kernel,rfl,by decide +kernel,by decide +kernel⟩
theorem rT{f f_all_words f_sure_turns  : Addr}{fd d_all_words d_sure_turns:Cm}(F:Fun K "often" "often" cK f fd)(G_all_words:FnOk P w K mg base Jg 1 f_all_words d_all_words ["holes"] (Ve K Tq))(b_all_words:Binds K d_all_words ["holes"] [])(k_all_words:PySem.W.keepIn K (.ref f_all_words)=true)(m_all_words:mg "all_words" = some (.ref f_all_words))(G_sure_turns:FnOk P w K mg base Jg 4 f_sure_turns d_sure_turns ["words", "reading", "values", "numbers", "at"] (Ve K (tS)))(b_sure_turns:Binds K d_sure_turns ["words", "reading", "values", "numbers", "at"] [])(k_sure_turns:PySem.W.keepIn K (.ref f_sure_turns)=true)(m_sure_turns:mg "sure_turns" = some (.ref f_sure_turns))(mz_len:mg "len" = none)(mz_sorted:mg "sorted" = none)(mz_range:mg "range" = none){cO pO:Addr}(tO:PySem.W.tabIn K "often" = some (cO,pO))(cdO:fd.code=.ref cO):FnOk P w K mg base Jg 5 f fd ["holes", "reading", "values"] (Ve K (sQ)):=by
 refine' tP (k:=4) F sD (λcdv A outer s H E hcv hr=>?hb) ?h
 case hb =>
  have hr1:Room 1 _:=hr.mono (by decide)
  have hr2:Room 2 _:=hr.mono (by decide)
  have hr3:Room 3 _:=hr.mono (by decide)
  have hr4:Room 4 _:=hr.mono (by decide)
  have hu64:=hr.units
  exact Dv (Jb (i:=5) sD.nd rfl (Tz rfl) (Kw G_all_words hr1 rfl m_all_words k_all_words b_all_words Kk (Bh (Bg (pv 0)) Cf)))
   (Dv (Qt (i:=3) sD.nd rfl (Ej rfl) (A1 (Mg (Bh Dz Cf)) (Hj Tc cR rfl mz_len (by decide +kernel) (Bh (Bg (pv 5)) Cf))))
   (Dv (Uu Fj rfl (zV (sH (x := "often") (j:=5) (cw:=s.heap.objs.size+1) rfl hr rfl mz_sorted mz_len rfl mz_range ⟨.head _,⟨_,_,tO,hcv.symm.trans cdO⟩,rfl,rfl,rfl,λ_ _ _ _=>rfl,rfl,rfl,rfl,rfl,by decide⟩ rfl rfl rfl rfl rfl (Hj Tc cR rfl mz_len (by decide +kernel) (Bh (Bg (pv 5)) Cf)))) (Ol (i:=4) sD.nd rfl (Ej rfl))
   (Gg (zC (pv 3) (Bg (pv 4)) (Kw G_sure_turns hr4 rfl m_sure_turns k_sure_turns b_sure_turns Kk (Bh (Bg (pv 5)) (Bh (Bg (pv 1)) (Bh (Bg (pv 2)) (Bh (Bg (pv 3)) (Bh (Bg (pv 4)) Cf)))))))))
   (Gg (Kd (mE (pv 3))))))
 case h =>
  (intro ds R q_; obtain ⟨h,L,f,vs,rfl,h0,h1,hp,ho,v0,v1,hR⟩ := q_)
  refine ⟨rfl,?_⟩
  array_get_dec
  refine ⟨h,rfl,h0,h1,λL' hp' ho'=>?_⟩
  obtain rfl:=fK (hp.trans hp'.symm) ho ho'
  have lL:L.length=2 ^ h.toNat:=by rw[hp.length_eq,Om]
  obtain ⟨l1,l2⟩:=Qq (n:=h.toNat) (by omega) hp
  have nd:=Qi hp
  array_get_dec
  rw[Ac]
  refine ⟨by omega,by omega,by omega,B5 (ws:=L) rfl rfl (by omega) λl pl sl=>?_⟩
  have e0:(Cb (L.length:Int).toNat [Bb 0]).flatten=(L.map λ_=>(0:Int)).map Bb:=by
   rw[Ez,Bw]
   have : ∀l:List (List Int),(Cb l.length [Bb 0]).flatten=l.map (Bb ∘ λ_=>(0:Int)):=by
    intro l
    induction l with
    | nil=>rfl
    | cons a l ih=>rw[Bs,Ey,Gv,ih]; rfl
   exact this L
  rw[e0]
  have lin:∀k∈l,k<L.length:=λk hk=>Jf.mp (pl.mem_iff.mp hk)
  obtain ⟨M,hM⟩ : ∃M,l.map (λk=>L.getD k [])=M:=⟨_,rfl⟩
  have pM:M.Perm L:=by
   rw[<- hM]
   refine (pl.map _).trans ?_
   have : (Cu L.length).map (λk=>L.getD k [])=L:=by
    refine Fq λj=>?_
    rw[Aw]
    by_cases hj:j<L.length
    ·rw[Ua hj,An hj]
     show some (L.getD j [])=_
     rw[Gi,An hj]
     rfl
    ·rw[Li (by rw[Fp]; omega),Li (by omega)]
     rfl
   rw[this]
  have sM:M.Pairwise λx y=>y.length<=x.length:=by
   rw[<- hM,Ip]
   exact sl
  have ndM:M.Nodup:=pM.nodup_iff.mpr nd
  array_get_dec
  refine nW (l:=l) (g:=λk:Nat=>.int k) rfl (λi δ=>∃(g:List Int->Int) (v4:DV),δ=⟨[.dat .sh (.int h),.dat .sh (.list ((L.map f).map Bb)),.dat .sh (.int vs),.dat .ow (.list ((L.map g).map Bb)),v4,.dat .sh (.list (L.map Ck))],0⟩/\NP v4/\(∀u∈L,0<=g u)/\Xv L f vs g (M.take i)) ?_ ?_ ?_
  ·exact ⟨λ_=>0,_,rfl,Tt,λ_ _=>Hq _,λ_ z=>nomatch z⟩
  ·(intro i k _ hk q_; obtain ⟨g,v4,rfl,hv4,gn,ho⟩ := q_)
   have hkl:=lin k (Aq hk)
   obtain ⟨w,hw⟩ : ∃w,L[k]? = some w:=⟨_,An hkl⟩
   have hwM:M[i]? = some w:=by
    rw[<- hM,Aw,hk]
    show some (L.getD k [])=_
    rw[Gi,hw]
    rfl
   array_get_dec
   refine ⟨L,L.map f,L.map g,vs,k,w,f w,rfl,by rw[Ac],by rw[Ac],?_,v0,v1,hw,by rw[Aw,hw]; rfl,λX hX=>?_⟩
   ·intro x hx
    obtain ⟨u,hu,rfl⟩:=Bt.mp hx
    exact gn u hu
   array_get_dec
   simp only[uD] at hX
   have X0:0<=X:=(hX 0).mpr λv _ _ _=>Wi _
   refine ⟨k,by unfold pH; rw[Ac,Ac,if_pos (by omega),if_pos (by omega),Ez],Xa g w X,.dat .sh (.int k),?_,Lo,λu hu=>?_,?_⟩
   ·rw[<- rX nd hw,Ek]
   ·by_cases z:u=w
    ·rw[z,Wn]; exact X0
    ·rw[Mz z]; exact gn u hu
   ·refine Xe (λu=>pM.mem_iff) ndM (λu hu=>(l2 u hu).1) sM hwM ho λx=>(hX x).trans ?_
    refine forall_congr' λv=>forall_congr' λq1=>forall_congr' λq2=>forall_congr' λq3=>?_
    rw[eB (λu=>pM.mem_iff) (λu hu=>(l2 u hu).1) sM hwM q3]
  ·(intro _ q_; obtain ⟨g,v4,rfl,hv4,gn,hu⟩ := q_)
   have lM:M.length=l.length:=by rw[<- hM,Ac]
   rw[<- lM,Fw] at hu
   array_get_dec
   exact hR g λw hw=>hu w (pM.mem_iff.mpr hw)
end
theorem Rp{n:Nat}{l:List DV}(h:l.length=n+1):∃v m,l=v::m/\m.length=n:=by
 cases l with
 | nil=>cases h
 | cons v m=>exact ⟨v,m,rfl,by simpa using h⟩
theorem u5{l:List DV}(h:l.length=10):∃v1 v2 v3 v4 v5 v6 v7 v8 v9 v10,l=[v1,v2,v3,v4,v5,v6,v7,v8,v9,v10]:=by
 obtain ⟨v1,l1,e1,h1⟩:=Rp h
 obtain ⟨v2,l2,e2,h2⟩:=Rp h1
 obtain ⟨v3,l3,e3,h3⟩:=Rp h2
 obtain ⟨v4,l4,e4,h4⟩:=Rp h3
 obtain ⟨v5,l5,e5,h5⟩:=Rp h4
 obtain ⟨v6,l6,e6,h6⟩:=Rp h5
 obtain ⟨v7,l7,e7,h7⟩:=Rp h6
 obtain ⟨v8,l8,e8,h8⟩:=Rp h7
 obtain ⟨v9,l9,e9,h9⟩:=Rp h8
 obtain ⟨v10,l10,e10,h10⟩:=Rp h9
 have e0:=hZ.mp h10
 subst e0 e10 e9 e8 e7 e6 e5 e4 e3 e2 e1
 exact ⟨v1,v2,v3,v4,v5,v6,v7,v8,v9,v10,rfl⟩
section
variable{P:Bo}{w:World}{K:PySem.W.Frag}{mg:Str->Option Value}{base:Heap}
theorem J1:FnScope ["_law_script", "_law_cell", "_law_draws_here", "_law_holes_here", "_law_words_here", "_law_values_here", "_law_face", "_law_handed", "_law_due", "_law_turn", "_law_told"] ["_law_script"] (Bu Zl):=⟨rfl,rfl,rfl,by decide +kernel,rfl,by decide +kernel,by decide +kernel⟩
theorem F0{f f_often f_L_draws f_L_words f_L_holes f_L_reading f_L_values f_L_often  : Addr}{fd d_often d_L_draws d_L_words d_L_holes d_L_reading d_L_values d_L_often:Cm}(F:Fun K "law" "law" Zl f fd)(G_often:FnOk P w K mg base Jg 5 f_often d_often ["holes", "reading", "values"] (Ve K (sQ)))(b_often:Binds K d_often ["holes", "reading", "values"] [])(k_often:PySem.W.keepIn K (.ref f_often)=true)(m_often:mg "often" = some (.ref f_often))(G_L_draws:FnOk P w K mg base Jg 1 f_L_draws d_L_draws ["_law_cell"] (Tg))(b_L_draws:Binds K d_L_draws ["_law_cell"] [])(k_L_draws:PySem.W.keepIn K (.ref f_L_draws)=true)(m_L_draws:mg "_law_draws" = some (.ref f_L_draws))(G_L_words:FnOk P w K mg base Jg 1 f_L_words d_L_words ["_law_holes_here"] (Ve K Tq))(b_L_words:Binds K d_L_words ["_law_holes_here"] [])(k_L_words:PySem.W.keepIn K (.ref f_L_words)=true)(m_L_words:mg "_law_words" = some (.ref f_L_words))(G_L_holes:FnOk P w K mg base Jg 2 f_L_holes d_L_holes ["_law_draws_here"] (lN K (kK)))(b_L_holes:Binds K d_L_holes ["_law_draws_here"] [])(k_L_holes:PySem.W.keepIn K (.ref f_L_holes)=true)(m_L_holes:mg "_law_holes" = some (.ref f_L_holes))(G_L_reading:FnOk P w K mg base Jg 2 f_L_reading d_L_reading ["_law_draws_here", "_law_words_here", "_law_values_here"] (lN K (aK)))(b_L_reading:Binds K d_L_reading ["_law_draws_here", "_law_words_here", "_law_values_here"] [])(k_L_reading:PySem.W.keepIn K (.ref f_L_reading)=true)(m_L_reading:mg "_law_reading" = some (.ref f_L_reading))(G_L_values:FnOk P w K mg base Jg 2 f_L_values d_L_values ["_law_draws_here"] (lN K (gY)))(b_L_values:Binds K d_L_values ["_law_draws_here"] [])(k_L_values:PySem.W.keepIn K (.ref f_L_values)=true)(m_L_values:mg "_law_values" = some (.ref f_L_values))(G_L_often:FnOk P w K mg base Jg 2 f_L_often d_L_often ["_law_words_here", "_law_face", "_law_values_here"] (Ve K (lQ)))(b_L_often:Binds K d_L_often ["_law_words_here", "_law_face", "_law_values_here"] [])(k_L_often:PySem.W.keepIn K (.ref f_L_often)=true)(m_L_often:mg "_law_often" = some (.ref f_L_often))(mz_list:mg "list" = none)(mz_range:mg "range" = none)(mz_isinstance:mg "isinstance" = none)(mz_bool:mg "bool" = none):FnOk P w K mg base Jg 6 f fd ["_law_script"] (spLawD K):=by
 refine' A6 (k:=5) F J1 (λcdv A outer s H E hr=>?hb) ?h
 case hb =>
  have hr1:Room 1 _:=hr.mono (by decide)
  have hr2:Room 2 _:=hr.mono (by decide)
  have hr3:Room 3 _:=hr.mono (by decide)
  have hr4:Room 4 _:=hr.mono (by decide)
  have hr5:Room 5 _:=hr.mono (by decide)
  have hu64:=hr.units
  have CS1:∀{scope:Scope} (h:scope={ kind:=.function,names:=[(".0",.local),("_law_one",.local),("isinstance",.globalImplicit),("bool",.globalImplicit)],isGenerator:=false,isCoroutine:=false }),
    CompScope (Nz Jg P w K mg base ["_law_script", "_law_cell", "_law_draws_here", "_law_holes_here", "_law_words_here", "_law_values_here", "_law_face", "_law_handed", "_law_due", "_law_turn", "_law_told"] "law" (Bu Zl) f cdv A outer s H E).nox scope [] "_law_one" [] []:=by
   rintro scope rfl
   exact Nd.compScope0 (by rfl) (by decide +kernel) (by rfl) (by decide +kernel) (by rfl) (by rfl)
  exact Dv (Uu Fj rfl (zV (jY (rJ (pv 0) sW (sO Dz)) (Mg (Bh Dz Cf)))) (Ol (i:=1) J1.nd rfl (Ej rfl))
   (Dv (Jb (i:=2) J1.nd rfl (Ej rfl) (qN G_L_draws hr1 rfl m_L_draws k_L_draws b_L_draws Kk (Bh (Bg (pv 1)) Cf)))
    (Dv (Jb (i:=3) J1.nd rfl (Ej rfl) (Mh G_L_holes hr2 rfl m_L_holes k_L_holes b_L_holes Kk (pv 2) Cf))
    (Dv (Jb (i:=4) J1.nd rfl (Ej rfl) (Kw G_L_words hr1 rfl m_L_words k_L_words b_L_words Kk (Bh (Bg (pv 3)) Cf)))
    (Dv (Jb (i:=5) J1.nd rfl (Ej rfl) (Mh G_L_values hr2 rfl m_L_values k_L_values b_L_values Kk (pv 2) Cf))
    (Dv (Jb (i:=6) J1.nd rfl (Ej rfl) (Mh G_L_reading hr2 rfl m_L_reading k_L_reading b_L_reading Kk (pv 2) (Bh (Bg (pv 4)) (Bh (Bg (pv 5)) Cf))))
    (Dv (Jb (i:=7) J1.nd rfl (Ej rfl) (Uh wH (xX (i:=true)) rfl mz_list (by decide +kernel) (Bh (Bg (pv 6)) Cf)))
    (Dv (Jb (i:=8) J1.nd rfl (Ej rfl) (Kw G_L_often hr2 rfl m_L_often k_L_often b_L_often Kk (Bh (Bg (pv 4)) (Bh (Bg (pv 6)) (Bh (Bg (pv 5)) Cf)))))
    (Gg (Uu Fj rfl (Uy rfl mz_range (Bh Dz Cf)) (Ol (i:=9) J1.nd rfl (Ej rfl))
    (Dv (Qt (i:=10) J1.nd rfl (Ej rfl) (Kw G_often hr5 rfl m_often k_often b_often Kk (Bh (Bg (pv 3)) (Bh (Bg (pv 7)) (Bh (Bg (pv 5)) Cf)))))
     (Dv (pN (O6 (zS (G8 (cT (Hj vI tJ rfl mz_isinstance (by decide +kernel) (Bh (Bg (pv 10)) (Bh (o7 (n := "list") rfl mz_list (by decide +kernel)) Cf))))) (zS (gC hu64 (Bg (pv 10)) (Bg (pv 8))) (B1 (gC hu64 (Bg (pv 7)) (Bg (pv 6)))))))
     (Gg (Kd sF)) jN)
     (Dv (pN (gC hu64 (Ot (CS1 rfl) rfl (zV (Bg (pv 10))) (λ_ _ _=>Tn (cT (Hj vI tJ rfl mz_isinstance (by decide +kernel) (Bh (Bg (pv 0)) (Bh (o7 (n := "bool") rfl mz_bool (by decide +kernel)) Cf))))) (λ_ _ _=>Bg (pv 0))) (Mg Cf))
     (Gg (Kd sF)) jN)
     (Gg (aA (pv 10) J4)))))))))))))))
   (Gg (Kd sF))
 case h =>
  intro ns h63
  array_get_dec
  have lc:(Vw ns none (some 3)).length<=3:=Q1 3
  refine ⟨by rw[Ac]; omega,?_⟩
  refine nW (l:=Vw ns none (some 3)++[0]) (g:=Bb) (by rw[Bj]; rfl) (λi δ=>∃(l:List DV) (n':Nat),δ=⟨.scr ns::l,n'⟩/\l.length=10/\(∀v∈l,NP v)/\n'<=2500 * i) ?_ ?_ ?_
  ·exact ⟨_,_,rfl,rfl,by simp [Tt],by omega⟩
  ·(intro i c _ hc q_; obtain ⟨l,n0,rfl,hl,hv,hn⟩ := q_)
   have hi:i<4:=by
    have:=(Al.mp hc).1
    rw[Cc,Lh] at this
    omega
   obtain ⟨v1,v2,v3,v4,v5,v6,v7,v8,v9,v10,rfl⟩:=u5 hl
   simp only[List.forall_mem_cons] at hv
   obtain ⟨hv1,hv2,hv3,hv4,hv5,hv6,hv7,hv8,hv9,hv10,-⟩:=hv
   array_get_dec
   refine ⟨rfl,by omega,λh h0 h1=>?_⟩
   array_get_dec
   refine ⟨h,rfl,by omega,by omega,λL hp ho=>?_⟩
   have lL:L.length=2 ^ h.toNat:=by rw[hp.length_eq,Om]
   obtain ⟨l1,l2⟩:=Qq (n:=h.toNat) (by omega) hp
   have lp:0<L.length:=by rw[lL]; exact Nat.two_pow_pos _
   array_get_dec
   refine ⟨rfl,by omega,λvs w0 w1=>?_⟩
   array_get_dec
   refine ⟨L,vs,rfl,by omega,by omega,l1,λw hw=>(l2 w hw).2,by omega,λface lf=>?_⟩
   array_get_dec
   have nd:=Qi hp
   obtain ⟨f,rfl⟩:=fW nd lf
   refine ⟨h,L,f,vs,rfl,by omega,by omega,hp,w0,w1,λg hg=>?_⟩
   array_get_dec
   refine nW (l:=Cu 3) (g:=λi:Nat=>.int i) rfl (λj δ=>∃(v9 v10:DV),δ=⟨[.scr ns,.dat .sh (.int c),.drw,.dat .sh (.int h),.dat .sh (.list (L.map Ck)),.dat .sh (.int vs),.dat .sh (.list ((L.map f).map Bb)),.dat .sh (.list ((L.map f).map Bb)),.dat .sh (.list ((L.map g).map Bb)),v9,v10],n0+1+1+1+L.length⟩/\NP v9/\NP v10) ?_ ?_ ?_
   ·exact ⟨_,_,rfl,hv9,hv10⟩
   ·clear hv9 hv10
    (intro j t _ ht q_; obtain ⟨v9,v10,rfl,hv9,hv10⟩ := q_)
    array_get_dec
    refine ⟨h,L,f,vs,rfl,by omega,by omega,hp,ho,w0,w1,λg' hg'=>?_⟩
    rw[mV (λu hu=>(l2 u hu).1) (λu hu=>by have:=(l2 u hu).2; omega) hg' hg]
    array_get_dec
    refine gK (l:=L.map g) (g:=Bb) rfl (λ_=>false) (λx=>.int x) (λx _ yes no hy hn=>?_) ?_
    ·array_get_dec
     exact hn rfl
    rw[show ((L.map g).filter λ_=>false)=[] by simp]
    array_get_dec
    exact ⟨by rw[Ac,Ac]; omega,_,_,rfl,Lo,i3⟩
   ·(intro _ q_; obtain ⟨v9,v10,rfl,hv9,hv10⟩ := q_)
    refine ⟨_,_,rfl,rfl,?_,by omega⟩
    simp only[List.forall_mem_cons]
    exact ⟨Lo,u3,Lo,Lo,Lo,Lo,Lo,Lo,hv9,hv10,λ_ z=>(nomatch z)⟩
  ·(intro _ q_; obtain ⟨l,n',rfl,hl,hv,hn⟩ := q_)
   array_get_dec
end
structure Def(K:PySem.W.Frag)(x:Str)(st:Stmt)(f:Addr)(fd:Cm):Prop where
 nm:PySem.W.nsIn K Bz x=some (some (.ref f))
 fn:Fun K x x st f fd
theorem def_mk{K:PySem.W.Frag}{x:Str}{st:Stmt}{f:Addr}{od an:Option Addr}{sl:Array (Option Value)}{oc kV dc pm cd ct:Value}(a:PySem.W.nsIn K Bz x=some (some (.ref f)))(l:K.lookup f=some ⟨oc,od,.func (PySem.W.fnOf x x (Mt st) (Hr st) (Bu st) .none kV dc pm an cd ct),sl⟩)(c:PySem.W.codeIn K cd x=true)(k:PySem.W.keepIn K (.ref f)=true):Def K x st f (PySem.W.fnOf x x (Mt st) (Hr st) (Bu st) .none kV dc pm an cd ct):=⟨a,uU l c k⟩
theorem AV{P:List Value->Prop}(h:P []):∀us:List Value,us.length=0->P us
 | [],_=>h
theorem L9{P:List Value->Prop}{n:Nat}(h:∀a (us:List Value),us.length=n->P (a::us)):∀us:List Value,us.length=n+1->P us
 | a::us,e=>h a us (Nat.succ.inj e)
theorem zR{P:List Value->Prop}(h:∀a0,P [a0]):∀us:List Value,us.length=1->P us:=L9 λa us e=>AV (P:=λus=>P (a::us)) (h a) us e
theorem W3{P:List Value->Prop}(h:∀a0 a1,P [a0,a1]):∀us:List Value,us.length=2->P us:=L9 λa us e=>zR (P:=λus=>P (a::us)) (h a) us e
theorem V6{P:List Value->Prop}(h:∀a0 a1 a2,P [a0,a1,a2]):∀us:List Value,us.length=3->P us:=L9 λa us e=>W3 (P:=λus=>P (a::us)) (h a) us e
theorem AB{P:List Value->Prop}(h:∀a0 a1 a2 a3,P [a0,a1,a2,a3]):∀us:List Value,us.length=4->P us:=L9 λa us e=>V6 (P:=λus=>P (a::us)) (h a) us e
theorem AN{P:List Value->Prop}(h:∀a0 a1 a2 a3 a4,P [a0,a1,a2,a3,a4]):∀us:List Value,us.length=5->P us:=L9 λa us e=>AB (P:=λus=>P (a::us)) (h a) us e
theorem all_mk{l:PySem.W.OpenLaw}{q:Bo}{w:World}{K:PySem.W.Frag}{h:Heap}{mg:Str->Option Value}{fa f1 f2 f3 f4 f5 f6 f7 f8 f9 f10 f11 f12 f13 f14 f15 f16:Addr}{d1 d2 d3 d4 d5 d6 d7 d8 d9 d10 d11 d12 d13 d14 d15:Cm}(X:K.In h)(G:h.Ns Bz mg)(hfa:mg "law" = some (.ref fa)){od an:Option Addr}{sl:Array (Option Value)}{oc kV dc pm cd ct:Value}(D1:Def K "_law_draws" cS f1 d1)(D2:Def K "_law_next" lX f2 d2)(D3:Def K "all_words" Kz f3 d3)(D4:Def K "_law_words" Kc f4 d4)(D5:Def K "within" Su f5 d5)(D6:Def K "showing" Qw f6 d6)(D7:Def K "_law_lies" Nb f7 d7)(D8:Def K "_law_folded" Nl f8 d8)(D9:Def K "_law_holes" Oi f9 d9)(D10:Def K "_law_reading" Mf f10 d10)(D11:Def K "_law_values" Ni f11 d11)(D12:Def K "best_turns" Ly f12 d12)(D13:Def K "sure_turns" Kb f13 d13)(D14:Def K "_law_often" Ke f14 d14)(D15:Def K "often" cK f15 d15)(aL:PySem.W.nsIn K Bz "law" = some (some (.ref f16)))(lL:K.lookup f16=some ⟨oc,od,.func (PySem.W.fnOf "law" "law" (Mt Zl) (Hr Zl) (Bu Zl) .none kV dc pm an cd ct),sl⟩)(cL:PySem.W.codeIn K cd "law" = true)(kL:PySem.W.keepIn K (.ref f16)=true)(z1:PySem.W.nsIn K Bz "range" = some none)(z2:PySem.W.nsIn K Bz "sorted" = some none)(z3:PySem.W.nsIn K Bz "all" = some none)(z4:PySem.W.nsIn K Bz "enumerate" = some none)(z5:PySem.W.nsIn K Bz "max" = some none)(z6:PySem.W.nsIn K Bz "len" = some none)(z7:PySem.W.nsIn K Bz "sum" = some none)(z8:PySem.W.nsIn K Bz "int" = some none)(z9:PySem.W.nsIn K Bz "min" = some none)(z10:PySem.W.nsIn K Bz "dict" = some none)(z11:PySem.W.nsIn K Bz "zip" = some none)(z12:PySem.W.nsIn K Bz "list" = some none)(z13:PySem.W.nsIn K Bz "isinstance" = some none)(z14:PySem.W.nsIn K Bz "bool" = some none){e15 p15:Addr}{r15:DefRec}{o15:Value}{u15:Option Addr}{x15:Array Value}{w15:Array (Option Value)}(tc15:d15.code=.ref e15)(tk15:K.lookup e15=some ⟨o15,u15,.fields x15,w15⟩)(tv15:x15[11]? = some (.ref p15))(td15:(PyProof.Rows.recsOf q).find? (λe=>e.name == ("often" : Str))=some r15)(tl15:K.lookup p15=none)(tz_cut_by:PySem.W.nsIn K Bz "cut_by" = some none):bU q K/\∃fd:Cm,(∀(s:Ag) (v:Value),BindsTo s fd ⟨[v],[]⟩ [("_law_script",v)])/\∀base:Heap,K.In base->base.Ns Bz mg->FnOk l.prog w K mg base Jg 6 fa fd ["_law_script"] (DL.spLawD K):=by
 have e:=hfa.symm.trans (PySem.W.mg_of X G aL)
 cases e
 have FL:=uU (st:=Zl) lL cL kL
 have b1:=D1.fn.binds (ps:=["_law_cell"]) λ_ _ _ _ _ _=>zR (λ_=>rfl)
 have b2:=D2.fn.binds (ps:=["_law_draws_here"]) λ_ _ _ _ _ _=>zR (λ_=>rfl)
 have b3:=D3.fn.binds (ps:=["holes"]) λ_ _ _ _ _ _=>zR (λ_=>rfl)
 have b4:=D4.fn.binds (ps:=["_law_holes_here"]) λ_ _ _ _ _ _=>zR (λ_=>rfl)
 have b5:=D5.fn.binds (ps:=["one", "other"]) λ_ _ _ _ _ _=>W3 (λ_ _=>rfl)
 have b6:=D6.fn.binds (ps:=["words", "reading", "word", "value"]) λ_ _ _ _ _ _=>AB (λ_ _ _ _=>rfl)
 have b7:=D7.fn.binds (ps:=["_law_one", "_law_other"]) λ_ _ _ _ _ _=>W3 (λ_ _=>rfl)
 have b8:=D8.fn.binds (ps:=["_law_word"]) λ_ _ _ _ _ _=>zR (λ_=>rfl)
 have b9:=D9.fn.binds (ps:=["_law_draws_here"]) λ_ _ _ _ _ _=>zR (λ_=>rfl)
 have b10:=D10.fn.binds (ps:=["_law_draws_here", "_law_words_here", "_law_values_here"]) λ_ _ _ _ _ _=>V6 (λ_ _ _=>rfl)
 have b11:=D11.fn.binds (ps:=["_law_draws_here"]) λ_ _ _ _ _ _=>zR (λ_=>rfl)
 have b12:=D12.fn.binds (ps:=["words", "reading", "numbers", "word", "value"]) λ_ _ _ _ _ _=>AN (λ_ _ _ _ _=>rfl)
 have b13:=D13.fn.binds (ps:=["words", "reading", "values", "numbers", "at"]) λ_ _ _ _ _ _=>AN (λ_ _ _ _ _=>rfl)
 have b14:=D14.fn.binds (ps:=["_law_words_here", "_law_face", "_law_values_here"]) λ_ _ _ _ _ _=>V6 (λ_ _ _=>rfl)
 have b15:=D15.fn.binds (ps:=["holes", "reading", "values"]) λ_ _ _ _ _ _=>V6 (λ_ _ _=>rfl)
 have m1:=PySem.W.mg_of X G D1.nm
 have m2:=PySem.W.mg_of X G D2.nm
 have m3:=PySem.W.mg_of X G D3.nm
 have m4:=PySem.W.mg_of X G D4.nm
 have m5:=PySem.W.mg_of X G D5.nm
 have m6:=PySem.W.mg_of X G D6.nm
 have m7:=PySem.W.mg_of X G D7.nm
 have m8:=PySem.W.mg_of X G D8.nm
 have m9:=PySem.W.mg_of X G D9.nm
 have m10:=PySem.W.mg_of X G D10.nm
 have m11:=PySem.W.mg_of X G D11.nm
 have m12:=PySem.W.mg_of X G D12.nm
 have m13:=PySem.W.mg_of X G D13.nm
 have m14:=PySem.W.mg_of X G D14.nm
 have m15:=PySem.W.mg_of X G D15.nm
 have y1:=PySem.W.mg_none_of X G z1
 have y2:=PySem.W.mg_none_of X G z2
 have y3:=PySem.W.mg_none_of X G z3
 have y4:=PySem.W.mg_none_of X G z4
 have y5:=PySem.W.mg_none_of X G z5
 have y6:=PySem.W.mg_none_of X G z6
 have y7:=PySem.W.mg_none_of X G z7
 have y8:=PySem.W.mg_none_of X G z8
 have y9:=PySem.W.mg_none_of X G z9
 have y10:=PySem.W.mg_none_of X G z10
 have y11:=PySem.W.mg_none_of X G z11
 have y12:=PySem.W.mg_none_of X G z12
 have y13:=PySem.W.mg_none_of X G z13
 have y14:=PySem.W.mg_none_of X G z14
 have t15:=DL.tab_mk D15.nm D15.fn tc15 tk15 tv15
 have tn_cut_by:=DL.tab_no tz_cut_by
 refine ⟨jR t15 td15 tl15 tn_cut_by,PySem.W.fnOf "law" "law" (Mt Zl) (Hr Zl) (Bu Zl) .none kV dc pm an cd ct,λs v=>.of_eq rfl,λbase _ _=>?_⟩
 have g1:=mT (P:=l.prog) (w:=w) (mg:=mg) (base:=base) D1.fn
 have g2:=qA (P:=l.prog) (w:=w) (mg:=mg) (base:=base) D2.fn
 have g3:=cW (P:=l.prog) (w:=w) (mg:=mg) (base:=base) D3.fn y1 y2
 have g4:=Zo (P:=l.prog) (w:=w) (mg:=mg) (base:=base) D4.fn y1 y2
 have g5:=oK (P:=l.prog) (w:=w) (mg:=mg) (base:=base) D5.fn y3
 have g6:=kG (P:=l.prog) (w:=w) (mg:=mg) (base:=base) D6.fn g5 b5 D5.fn.kp m5 y4
 have g7:=cC (P:=l.prog) (w:=w) (mg:=mg) (base:=base) D7.fn
 have g8:=Wz (P:=l.prog) (w:=w) (mg:=mg) (base:=base) D8.fn
 have g9:=Zm (P:=l.prog) (w:=w) (mg:=mg) (base:=base) D9.fn g2 b2 D2.fn.kp m2 y5
 have g10:=Vx (P:=l.prog) (w:=w) (mg:=mg) (base:=base) D10.fn g2 b2 D2.fn.kp m2 g8 b8 D8.fn.kp m8 y6 y7 y8
 have g11:=Yr (P:=l.prog) (w:=w) (mg:=mg) (base:=base) D11.fn g2 b2 D2.fn.kp m2 y8
 have g12:=Zr (P:=l.prog) (w:=w) (mg:=mg) (base:=base) D12.fn g6 b6 D6.fn.kp m6 y5
 have g13:=Zh (P:=l.prog) (w:=w) (mg:=mg) (base:=base) D13.fn g12 b12 D12.fn.kp m12 y1 y9
 have g14:=Zp (P:=l.prog) (w:=w) (mg:=mg) (base:=base) D14.fn g7 b7 D7.fn.kp m7 y10 y11 y2 y6 y5 y1 y9
 have g15:=rT (P:=l.prog) (w:=w) (mg:=mg) (base:=base) D15.fn g3 b3 D3.fn.kp m3 g13 b13 D13.fn.kp m13 y6 y2 y1 t15 (DL.code_tab D15.nm D15.fn t15)
 exact F0 FL g15 b15 D15.fn.kp m15 g1 b1 D1.fn.kp m1 g4 b4 D4.fn.kp m4 g9 b9 D9.fn.kp m9 g10 b10 D10.fn.kp m10 g11 b11 D11.fn.kp m11 g14 b14 D14.fn.kp m14 y12 y1 y13 y14
theorem walk{l:PySem.W.OpenLaw}{q:Bo}{loose:List Str}{XP:(Str->Option Value)->Heap->Prop}{YP:World->Heap->Prop}{d:DefRec}{K:Params->PySem.W.Frag}(hn:l.most=some 63)(hdf:d.params.defaults=[])(hY:∀(w:World) (h:Heap),YP w h->(K w.params).In h)(F:∀(w:World) (mg:Str->Option Value) (fa:Addr) (h:Heap),(K w.params).In h->h.Ns Bz mg->mg d.name=some (.ref fa)->bU q (K w.params)/\∃fd:Cm,(∀(s:Ag) (u:Value),BindsTo s fd ⟨[u],[]⟩ [("_law_script",u)])/\∀base:Heap,(K w.params).In base->base.Ns Bz mg->FnOk l.prog w (K w.params) mg base Jg 6 fa fd ["_law_script"] (DL.spLawD (K w.params))):PySem.W.WalkO q loose XP YP l.row.toRowW d [] (λf vs=>PySem.call f vs) :=
 L2.walk_ofD (n:=63) (k:=6) (x := "_law_script") (CX:=λ_=>Jg) (sp:=λw=>DL.spLawD (K w.params)) hn (by decide) hdf ⟨rfl,by decide,by decide,rfl⟩ hY F (λ_ _ a ns hl _ hS=>⟨a,ns,rfl,hS,hl,λ_=>rfl⟩) λ_ _ _ _ _ z=>z
end K32
open PySem PySem.W PyProof.Rows
local macro_rules | `(tactic| refine $h:ident (q := $q) (loose := $l) (Xt := $a) (XP := $b) (Yf := $c) (Ya := $d) (YP := $e) (N := $n) ?hl $y*) => `(tactic| refine $h:ident (q := $q) (loose := $l) (Xt := $a) (XP := $b) (Yf := $c) (Ya := $d) (YP := $e) (N := $n) (fun _ => by kernel_rfl) $y*)
set_option maxRecDepth 100000 in
set_option maxHeartbeats 0 in
theorem PySem.Challenge.cw_needledeck_k32_how_often_holds : PySem.Challenge.rw_needledeck_k32_how_often.Holds := by
 w_on; refine holds_law (by kernel_rfl) λsaid=>?_; k_head; (case hw=>w_witness2)
 k_fill
 refine K32.walk (l:=PySem.Challenge.rw_needledeck_k32_how_often) rfl rfl (λw h Y=>PySem.W.km_in_of Y) ?F
 case F =>
  intro w mg fa h KX G hmg
  refine' K32.all_mk KX G hmg (K32.def_mk ?a1 ?l1 ?c1 ?k1) (K32.def_mk ?a2 ?l2 ?c2 ?k2) (K32.def_mk ?a3 ?l3 ?c3 ?k3) (K32.def_mk ?a4 ?l4 ?c4 ?k4) (K32.def_mk ?a5 ?l5 ?c5 ?k5) (K32.def_mk ?a6 ?l6 ?c6 ?k6) (K32.def_mk ?a7 ?l7 ?c7 ?k7) (K32.def_mk ?a8 ?l8 ?c8 ?k8) (K32.def_mk ?a9 ?l9 ?c9 ?k9) (K32.def_mk ?a10 ?l10 ?c10 ?k10) (K32.def_mk ?a11 ?l11 ?c11 ?k11) (K32.def_mk ?a12 ?l12 ?c12 ?k12) (K32.def_mk ?a13 ?l13 ?c13 ?k13) (K32.def_mk ?a14 ?l14 ?c14 ?k14) (K32.def_mk ?a15 ?l15 ?c15 ?k15) ?aL ?lL ?cL ?kL ?z1 ?z2 ?z3 ?z4 ?z5 ?z6 ?z7 ?z8 ?z9 ?z10 ?z11 ?z12 ?z13 ?z14 ?tc15 ?tk15 ?tv15 ?td15 ?tl15 ?tz_cut_by
  (case a1=>k_is); (case l1=>k_is); (case c1=>k_is); (case k1=>k_is)
  (case a2=>k_is); (case l2=>k_is); (case c2=>k_is); (case k2=>k_is)
  (case a3=>k_is); (case l3=>k_is); (case c3=>k_is); (case k3=>k_is)
  (case a4=>k_is); (case l4=>k_is); (case c4=>k_is); (case k4=>k_is)
  (case a5=>k_is); (case l5=>k_is); (case c5=>k_is); (case k5=>k_is)
  (case a6=>k_is); (case l6=>k_is); (case c6=>k_is); (case k6=>k_is)
  (case a7=>k_is); (case l7=>k_is); (case c7=>k_is); (case k7=>k_is)
  (case a8=>k_is); (case l8=>k_is); (case c8=>k_is); (case k8=>k_is)
  (case a9=>k_is); (case l9=>k_is); (case c9=>k_is); (case k9=>k_is)
  (case a10=>k_is); (case l10=>k_is); (case c10=>k_is); (case k10=>k_is)
  (case a11=>k_is); (case l11=>k_is); (case c11=>k_is); (case k11=>k_is)
  (case a12=>k_is); (case l12=>k_is); (case c12=>k_is); (case k12=>k_is)
  (case a13=>k_is); (case l13=>k_is); (case c13=>k_is); (case k13=>k_is)
  (case a14=>k_is); (case l14=>k_is); (case c14=>k_is); (case k14=>k_is)
  (case a15=>k_is); (case l15=>k_is); (case c15=>k_is); (case k15=>k_is)
  (case aL=>k_is); (case lL=>k_is); (case cL=>k_is); (case kL=>k_is)
  (case z1=>k_is); (case z2=>k_is); (case z3=>k_is); (case z4=>k_is); (case z5=>k_is); (case z6=>k_is); (case z7=>k_is); (case z8=>k_is); (case z9=>k_is); (case z10=>k_is); (case z11=>k_is); (case z12=>k_is); (case z13=>k_is); (case z14=>k_is)
  (case tc15=>first | rfl | kernel_rfl)
  (case tk15=>k_is)
  (case tv15=>first | rfl | kernel_rfl)
  (case td15=>first | rfl | kernel_rfl)
  (case tl15=>first | rfl | kernel_rfl)
  (case tz_cut_by=>k_is)