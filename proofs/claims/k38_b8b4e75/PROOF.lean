import PyProof.Rows.All
import KE.KLam
import Wide.All
import OpenK.AllK
import Wide.FinOn
import Lean
import PyProof.EqAt
import PyProof.EqKinds
import PyProof.TupleCall
import PyProof.FactsAll.set
import PyProof.FactsAll.subtypes
import KE.KTupSum
import KE.KMinBuiltin
import PyProof.Draws
import PyProof.DictWalks
import PyProof.DictCompW
import PyProof.IsiH_tuple
import PyProof.FactsAll.zip
import KE.KDictOf
import PyProof.DictValues
import KE.KSortKey
import PySem.Challenge.RW_needledeck_k38_whole_readings_told_other
set_option Elab.async false
set_option linter.all false
set_option maxRecDepth 100000
set_option maxHeartbeats 4000000
set_option genSizeOf false
local macro_rules|`(tactic|omega)=>`(tactic|first|lia|omega +splitDisjunctions)
theorem e0a2{A B:Prop}{G:Prop}(k:A→B→G)(h:A∧B):G:=k h.1 h.2
theorem e0a3{A B C:Prop}{G:Prop}(k:A→B→C→G)(h:A∧B∧C):G:=k h.1 h.2.1 h.2.2
theorem e0a4{A B C D:Prop}{G:Prop}(k:A→B→C→D→G)(h:A∧B∧C∧D):G:=k h.1 h.2.1 h.2.2.1 h.2.2.2
theorem e0a5{A B C D E:Prop}{G:Prop}(k:A→B→C→D→E→G)(h:A∧B∧C∧D∧E):G:=k h.1 h.2.1 h.2.2.1 h.2.2.2.1 h.2.2.2.2
theorem e0a6{A B C D E F:Prop}{G:Prop}(k:A→B→C→D→E→F→G)(h:A∧B∧C∧D∧E∧F):G:=k h.1 h.2.1 h.2.2.1 h.2.2.2.1 h.2.2.2.2.1 h.2.2.2.2.2
theorem e1a1{t0:Type}{A:t0→Prop}{G:Prop}(k:∀x,A x→G)(h:∃x,A x):G:=h.elim λx h=>k x h
theorem e1a2{t0:Type}{A B:t0→Prop}{G:Prop}(k:∀x,A x→B x→G)(h:∃x,A x∧B x):G:=h.elim λx h=>k x h.1 h.2
theorem e1a3{t0:Type}{A B C:t0→Prop}{G:Prop}(k:∀x,A x→B x→C x→G)(h:∃x,A x∧B x∧C x):G:=h.elim λx h=>k x h.1 h.2.1 h.2.2
theorem e1a4{t0:Type}{A B C D:t0→Prop}{G:Prop}(k:∀x,A x→B x→C x→D x→G)(h:∃x,A x∧B x∧C x∧D x):G:=h.elim λx h=>k x h.1 h.2.1 h.2.2.1 h.2.2.2
theorem e2a1{t0 t1:Type}{A:t0→t1→Prop}{G:Prop}(k:∀x y,A x y→G)(h:∃x y,A x y):G:=h.elim λx h=>h.elim λy h=>k x y h
theorem e2a2{t0 t1:Type}{A B:t0→t1→Prop}{G:Prop}(k:∀x y,A x y→B x y→G)(h:∃x y,A x y∧B x y):G:=h.elim λx h=>h.elim λy h=>k x y h.1 h.2
theorem e2a3{t0 t1:Type}{A B C:t0→t1→Prop}{G:Prop}(k:∀x y,A x y→B x y→C x y→G)(h:∃x y,A x y∧B x y∧C x y):G:=h.elim λx h=>h.elim λy h=>k x y h.1 h.2.1 h.2.2
theorem e2a4{t0 t1:Type}{A B C D:t0→t1→Prop}{G:Prop}(k:∀x y,A x y→B x y→C x y→D x y→G)(h:∃x y,A x y∧B x y∧C x y∧D x y):G:=h.elim λx h=>h.elim λy h=>k x y h.1 h.2.1 h.2.2.1 h.2.2.2
theorem e3a1{t0 t1 t2:Type}{A:t0→t1→t2→Prop}{G:Prop}(k:∀x y z,A x y z→G)(h:∃x y z,A x y z):G:=h.elim λx h=>h.elim λy h=>h.elim λz h=>k x y z h
theorem e3a3{t0 t1 t2:Type}{A B C:t0→t1→t2→Prop}{G:Prop}(k:∀x y z,A x y z→B x y z→C x y z→G)(h:∃x y z,A x y z∧B x y z∧C x y z):G:=h.elim λx h=>h.elim λy h=>h.elim λz h=>k x y z h.1 h.2.1 h.2.2
theorem e3a4{t0 t1 t2:Type}{A B C D:t0→t1→t2→Prop}{G:Prop}(k:∀x y z,A x y z→B x y z→C x y z→D x y z→G)(h:∃x y z,A x y z∧B x y z∧C x y z∧D x y z):G:=h.elim λx h=>h.elim λy h=>h.elim λz h=>k x y z h.1 h.2.1 h.2.2.1 h.2.2.2
theorem e3a5{t0 t1 t2:Type}{A B C D E:t0→t1→t2→Prop}{G:Prop}(k:∀x y z,A x y z→B x y z→C x y z→D x y z→E x y z→G)(h:∃x y z,A x y z∧B x y z∧C x y z∧D x y z∧E x y z):G:=h.elim λx h=>h.elim λy h=>h.elim λz h=>k x y z h.1 h.2.1 h.2.2.1 h.2.2.2.1 h.2.2.2.2
theorem e4a1{t0 t1 t2 t3:Type}{A:t0→t1→t2→t3→Prop}{G:Prop}(k:∀x y z w,A x y z w→G)(h:∃x y z w,A x y z w):G:=h.elim λx h=>h.elim λy h=>h.elim λz h=>h.elim λw h=>k x y z w h
theorem e4a2{t0 t1 t2 t3:Type}{A B:t0→t1→t2→t3→Prop}{G:Prop}(k:∀x y z w,A x y z w→B x y z w→G)(h:∃x y z w,A x y z w∧B x y z w):G:=h.elim λx h=>h.elim λy h=>h.elim λz h=>h.elim λw h=>k x y z w h.1 h.2
theorem e5a2{t0 t1 t2 t3 t4:Type}{A B:t0→t1→t2→t3→t4→Prop}{G:Prop}(k:∀x y z w u,A x y z w u→B x y z w u→G)(h:∃x y z w u,A x y z w u∧B x y z w u):G:=h.elim λx h=>h.elim λy h=>h.elim λz h=>h.elim λw h=>h.elim λu h=>k x y z w u h.1 h.2
theorem e4a5{t0 t1 t2 t3:Type}{A B C D E:t0→t1→t2→t3→Prop}{G:Prop}(k:∀x y z w,A x y z w→B x y z w→C x y z w→D x y z w→E x y z w→G)(h:∃x y z w,A x y z w∧B x y z w∧C x y z w∧D x y z w∧E x y z w):G:=h.elim λx h=>h.elim λy h=>h.elim λz h=>h.elim λw h=>k x y z w h.1 h.2.1 h.2.2.1 h.2.2.2.1 h.2.2.2.2
theorem e5a5{t0 t1 t2 t3 t4:Type}{A B C D E:t0→t1→t2→t3→t4→Prop}{G:Prop}(k:∀x y z w u,A x y z w u→B x y z w u→C x y z w u→D x y z w u→E x y z w u→G)(h:∃x y z w u,A x y z w u∧B x y z w u∧C x y z w u∧D x y z w u∧E x y z w u):G:=h.elim λx h=>h.elim λy h=>h.elim λz h=>h.elim λw h=>h.elim λu h=>k x y z w u h.1 h.2.1 h.2.2.1 h.2.2.2.1 h.2.2.2.2
theorem e6a5{t0 t1 t2 t3 t4 t5:Type}{A B C D E:t0→t1→t2→t3→t4→t5→Prop}{G:Prop}(k:∀x y z w u v,A x y z w u v→B x y z w u v→C x y z w u v→D x y z w u v→E x y z w u v→G)(h:∃x y z w u v,A x y z w u v∧B x y z w u v∧C x y z w u v∧D x y z w u v∧E x y z w u v):G:=h.elim λx h=>h.elim λy h=>h.elim λz h=>h.elim λw h=>h.elim λu h=>h.elim λv h=>k x y z w u v h.1 h.2.1 h.2.2.1 h.2.2.2.1 h.2.2.2.2
theorem e4a7{t0 t1 t2 t3:Type}{A B C D E F H:t0→t1→t2→t3→Prop}{G:Prop}(k:∀x y z w,A x y z w→B x y z w→C x y z w→D x y z w→E x y z w→F x y z w→H x y z w→G)(h:∃x y z w,A x y z w∧B x y z w∧C x y z w∧D x y z w∧E x y z w∧F x y z w∧H x y z w):G:=h.elim λx h=>h.elim λy h=>h.elim λz h=>h.elim λw h=>k x y z w h.1 h.2.1 h.2.2.1 h.2.2.2.1 h.2.2.2.2.1 h.2.2.2.2.2.1 h.2.2.2.2.2.2
theorem e5a7{t0 t1 t2 t3 t4:Type}{A B C D E F H:t0→t1→t2→t3→t4→Prop}{G:Prop}(k:∀x y z w u,A x y z w u→B x y z w u→C x y z w u→D x y z w u→E x y z w u→F x y z w u→H x y z w u→G)(h:∃x y z w u,A x y z w u∧B x y z w u∧C x y z w u∧D x y z w u∧E x y z w u∧F x y z w u∧H x y z w u):G:=h.elim λx h=>h.elim λy h=>h.elim λz h=>h.elim λw h=>h.elim λu h=>k x y z w u h.1 h.2.1 h.2.2.1 h.2.2.2.1 h.2.2.2.2.1 h.2.2.2.2.2.1 h.2.2.2.2.2.2
theorem e6a7{t0 t1 t2 t3 t4 t5:Type}{A B C D E F H:t0→t1→t2→t3→t4→t5→Prop}{G:Prop}(k:∀x y z w u v,A x y z w u v→B x y z w u v→C x y z w u v→D x y z w u v→E x y z w u v→F x y z w u v→H x y z w u v→G)(h:∃x y z w u v,A x y z w u v∧B x y z w u v∧C x y z w u v∧D x y z w u v∧E x y z w u v∧F x y z w u v∧H x y z w u v):G:=h.elim λx h=>h.elim λy h=>h.elim λz h=>h.elim λw h=>h.elim λu h=>h.elim λv h=>k x y z w u v h.1 h.2.1 h.2.2.1 h.2.2.2.1 h.2.2.2.2.1 h.2.2.2.2.2.1 h.2.2.2.2.2.2
local macro_rules|`(tactic|obtain $p:rcasesPatMed:=$v:term)=>do
 let c s:=((p.raw.reprint.getD "").splitOn s).length
 if c ","<3||c "|">1||c ":">1 then Lean.Macro.throwUnsupported
 let T (a:Lean.Syntax):Lean.TSyntax `Lean.Parser.Tactic.rcasesPatMed:=⟨a⟩
 let q:=p.raw
 let x:=q[0][0]
 let l:=x[1].getSepArgs
 let mut a:Array (Lean.TSyntax ``Lean.Parser.Tactic.tacticSeq):=#[]
 let mut y:Array Lean.Term:=#[]
 let mut z:Array (Array (Lean.TSyntax `tactic)):=#[]
 for o in l do
  let u:=o[0][0][0]
  let f:=Lean.mkIdent (←Lean.Macro.addMacroScope (.mkSimple s!"f{y.size}"))
  if u[0].getId==`rfl then
   y:=y.push f
   z:=z.push #[←`(tactic|subst $f:term)]
  else if u[0].isIdent then
   y:=y.push ⟨u[0]⟩
   z:=z.push #[]
  else if u[1].isMissing then
   y:=y.push (←`(_))
   z:=z.push #[]
  else
   y:=y.push f
   z:=z.push #[←`(tactic|obtain $(T o[0]):rcasesPatMed:=$f)]
 for j in [0:l.size] do
  if j==1 then continue
  let n:=l.size-j
  let mut i:=y.extract 0 n
  let mut w:=(z.extract 0 n).flatten
  if j>0 then
   i:=i.push (←`(r_))
   w:=w.push (←`(tactic|obtain $(T (q.setArg 0 (q[0].setArg 0 (x.setArg 1 (Lean.mkNullNode (Lean.mkSepArray (l.extract n l.size) (Lean.mkAtom ","))))))):rcasesPatMed:=r_))
  for k in [0:i.size] do
   let m:=Lean.mkIdent (.mkSimple s!"e{k}a{i.size-k}")
   let g←if v.raw.isIdent then `(tactic|(revert $(⟨v⟩):ident;refine $m fun $i*=>?_)) else `(tactic|refine $m (fun $i*=>?_) $v)
   a:=a.push (←`(Lean.Parser.Tactic.tacticSeq| $g:tactic;$[$w];*))
  if j==0&& !v.raw.isIdent then
   a:=a.push (←`(Lean.Parser.Tactic.tacticSeq| have h_ := $v; obtain $p := h_))
   break
 a:=a.push (←`(Lean.Parser.Tactic.tacticSeq| rcases $v:term with $p))
 `(tactic|first $[| $a]*)
open Array renaming length_toList → Ax, toList_append → Cr, getD_eq_getD_getElem? → Dm, getElem?_eq_some_iff → Ir, toList_push → Kg, toList_extract → Lf, perm_iff_toList_perm → Mt, getElem?_toList → Qu, toList_reverse → Rj, forIn_toList → Ud, size_setIfInBounds → eB
open Bool renaming and_eq_true → Bv, false_ne_true → Bx, false_eq_true → By, not_eq_true' → Ih, not_eq_false' → Vl
open Classical renaming byContradiction → Za
open False renaming elim → Iq
open ForInStep renaming done → Cm, yield → Eu
open Int renaming emod_nonneg → Fc, toNat_natCast → Fn, le_refl → Fu, toNat_of_nonneg → Me, zero_add → Ww
open LawfulBEq renaming eq_of_beq → Dv
open List renaming mem_cons_self → Aa, length_map → Ab, mem_cons_of_mem → Ag, mem_singleton → Ah, mem_cons → Aj, getElem?_eq_some_iff → Ak, size_toArray → Al, getElem?_eq_getElem → Am, mem_append_right → Ap, mem_of_getElem? → Au, map_cons → Av, mem_append_left → Ay, getElem?_map → Az, not_mem_nil → Ba, mem_map → Bg, pairwise_cons → Bh, mem_filter → Bk, mem_append → Bl, map_append → Bm, map_map → Br, length_cons → Bt, lookup_cons → Bw, replicate → Ca, length_append → Cb, nodup_cons → Ci, append_assoc → Ck, length_take → Cp, nodup_nil → Ct, sublist_cons_self → Cz, pairwise_append → Da, range → Dd, pairwise_iff_getElem → Dg, getElem?_take_of_lt → Dl, length_range → Dt, sublist_append_right → Dw, take_of_length_le → Dx, getD_eq_getElem?_getD → Ed, append_nil → Ee, map_congr_left → Ek, mem_iff_getElem? → El, getElem?_append_right → Ey, replicate_succ → Fb, mem_iff_getElem → Fh, pairwise_singleton → Fk, take_length → Ft, mem_range → Ga, take_append_drop → Ge, perm_append_comm → Gf, getElem?_append_left → Gm, length → Gr, flatten_cons → Gs, ext_getElem? → Gu, cons_append → He, mem_replicate → Hi, map_set → Hj, find?_cons → Ho, dropLast_concat_getLast → Hq, reverse_perm → Ic, drop_sublist → Ie, forall_mem_cons → Iw, perm_middle → Jb, mem_of_find?_eq_some → Jh, extract_eq_take_drop → Ji, length_nil → Jn, filter_append → Jv, lookup → Jx, take_sublist → Kn, getElem?_set → Ko, length_singleton → Ky, getElem?_eq_none → Kz, any_cons → Le, map_nil → Mc, length_zipIdx → My, take_add_one → Nk, mem_reverse → Oo, mem_flatMap → Oq, length_eq_zero_iff → Os, length_drop → Ot, eraseIdx_cons_succ → Ou, append_eq_nil_iff → Pw, find?_some → Qt, pairwise_reverse → Qx, getElem?_reverse → Qy, drop_zero → Rz, getElem?_range → Tx, filterMap_cons → Tz, zip_cons_cons → Vj, getElem?_drop → Vk, pairwise_map → Wg, nodup_append → Wh, all_map → Wi, take_subset → Yy, all_eq_true → Yz, mem_zipIdx_iff_getElem? → Zy, length_erase_of_mem → gW, length_pos_of_mem → jV, getElem?_set_self → jW, drop_eq_nil_of_le → jX, filter_eq_self → oS, find?_eq_none → uA
open List.Pairwise renaming sublist → Hb, nil → Hf
open List.Perm renaming swap → Hr, refl → Hs, append_left → Ka
open List.Sublist renaming refl → Ef
open List.cons renaming inj → Ei
open Nat renaming le_refl → Ai, lt_of_lt_of_le → Cc, ne_of_lt → Cf, le_trans → Cg, zero_le → Dj, lt_irrefl → Ex, lt_of_le_of_lt → Hm, le_of_lt → Jg, zero_add → Mq, le_succ → Oe, le_add_right → Ox
open Ne renaming symm → Ln
open Option renaming none → Na, isSome_iff_exists → Nj
open Option.some renaming inj → Bj
open Or renaming inl → Ea, inr → On
open Prod.mk renaming injEq → Ds
open PyProof.Rows renaming wpS_bind → Aw, pendingOf → Bd, wpS_pure → Be, SortSt → Bq, seqObj → Dc, wpS_forRange → Eb, callWith_type1 → Fg, wpS_mono → Fw, wpS_modify → Ib, IntsAre → Ig, failedOf → Jm, listUpdate_at → Ke, SortKind → Kf, get?_update_seq → Kl, wpS_get → Lb, AllBare → Py, reverseSlice' → Qq, oneType' → Rh, callWith_builtin1 → Ry, seqEpoch_at → Vu, callWith_kw → Wf, firstOfTuple' → Yx, size_push' → Zd, listItems_at → bF, subscriptTail_builtinR → uC
open PyProof.Rows.SortSt renaming mk' → Tw
open PySem renaming wpAny_bind → Ac, PyData → Ad, Shared → Af, sizeLine → Aq, wpAny_pure → Bb, starEach → Bo, Program → Bu, FuncData → Bz, mainGlobals → Ce, Around → Cq, wpAny_holding → Dh, cellsFrom → Eg, wpAny_mono → En, foldedSetIterable → Fp, behindInMarks → Gj, wpAny_Call_Name_kw → Gp, backTo → Gx, wpAny_truthy_bool → Gy, wpAny_newObj_type → Gz, sizeLine_eq → Ha, binaryOp → Hl, unsetMember → Ia, compareOp → Iv, sysModules → Jl, rawInt → Jw, plainId_quiet → Kd, codeAny_builtin → Km, swapsWith → Kv, intItems → Lc, bootBuiltins → Ld, codeAny → Mb, sliceBounds → Mp, NameKind → Mr, wpAny_passesOwn → Mz, codeAmong → Od, wpAny_seqItems → Og, wpAny_rule → Oh, newFunctionEnv → Oi, assignEach → Oj, ZipApart → Ol, wpAny_field → Pt, holding → Pu, Keyword → Px, wpAny_comprehension_free → Qo, wpAny_attempt → Qp, attributeBase → Qr, wpAny_call_entry → Re, wpAny_callSpecial?_slot → Rf, tupleKind → Rg, Arguments → Rk, wpAny_typeOf → Sb, wpAny_nextOf_list_item → Sd, pyNext → Se, codeAny_compStart_list → Sf, call_meets → Sg, builtinsNs → Sh, IsPair → Si, wpAny_loadPart' → Tu, letOwnedTupleGo → Tv, wpAny_tryCatch → Vs, wpAny_letGo → Vt, recursionLimit → Vv, keywordEach → Vw, assign → Vx, callerA → We, wpAny_newList → Yw, wpAny_load → Zb, wpAny_Name → Zc, entryOfKey → Ze, closureFor → Zf, codeAny_mono → bG, wpAny_isInstance → dX, noFill_tuple_add → dY, slot_list_getitem → L9
open PySem.Around renaming under_plainId → Gn
open PySem.Builtin.Builtins renaming bindParams → Ri
open PySem.Builtin.Dict renaming updateFrom → Wx
open PySem.Builtin.List renaming listTooLong → Ik, listFitsIndex → La
open PySem.Builtin.Range renaming rangeSize → Wj
open PySem.Builtin.SmallTypes renaming ownedTupleIsFree → Fe, nextOf → Hg
open PySem.Calls renaming Name_function_global → Ms, spliced_cons → Uc, spliced_nil → Vy, loadGlobal_builtin → dZ
open PySem.F renaming slot_zip_next → Sa
open PySem.Heap renaming get?_push_of_some → Ae, lt_size → Bc, get?_push_size → Bi, get?_update_other → Ez, get?_update_self → Gg, size_update → Jc, SameBut → Jd
open PySem.Heap.SameBut renaming update → Cv
open PySem.NameKind renaming free → Dq, cell → Dr
open PySem.Obj renaming mapSeq → Cu
open PySem.PassesOwn renaming never → Fz
open PySem.PyData renaming int → An, depthAll → Bp, depth → Cy
open PySem.SeqAt renaming EqAt → Kx
open PySem.Str renaming ofString → Kr
open PySem.Value renaming ref → Bf, type → Ow, int → Rx, none → Ub
open Sum renaming inl → Qs
open True renaming intro → Vi
namespace L2
open PySem PySem.Spec PyProof.Rows
abbrev Iy:=Sum Int Str
def aI:Iy->Value->Bool
 | .inl k,v=>Value.isInt k v
 | .inr x,v=>Value.isStrOf x v
def O8(w:World):Iy->Int
 | .inl k=>hashInt k
 | .inr x=>hashStr w x
theorem Gi:∀{k:Iy} {v:Value},aI k v=true->(∃i t,k=Qs i/\v=Rx i t)\/(∃x t,k=Sum.inr x/\v=Value.str x t)
 | .inl i,v,h=>by
  obtain ⟨t,e⟩:=Value.isInt_shape (k:=i) (v:=v) h
  exact .inl ⟨i,t,rfl,e⟩
 | .inr x,v,h=>by
  obtain ⟨t,e⟩:=Value.isStrOf_shape (x:=x) (v:=v) h
  exact .inr ⟨x,t,rfl,e⟩
theorem nX(i:Int)(t:Tok):aI (.inl i) (.int i t)=true:=by simp [aI,Value.isInt]
theorem mQ(x:Str)(t:Tok):aI (.inr x) (.str x t)=true:=by simp [aI,Value.isStrOf]
theorem zW(a b:Int):decide ((Qs a:Iy)=Qs b)=(a == b):=by
 by_cases e:a=b
 ·subst e; simp
 ·have h:¬ (Qs a:Iy)=Qs b:=λq=>e (Sum.inl.inj q)
  rw[decide_eq_false h]
  exact (beq_eq_false_iff_ne.mpr e).symm
theorem o8(a b:Str):decide ((Sum.inr a:Iy)=Sum.inr b)=decide (a=b):=by
 by_cases e:a=b
 ·subst e; simp
 ·have h:¬ (Sum.inr a:Iy)=Sum.inr b:=λq=>e (Sum.inr.inj q)
  rw[decide_eq_false h,decide_eq_false e]
theorem zY(a:Int)(b:Str):decide ((Qs a:Iy)=Sum.inr b)=false:=decide_eq_false (λq=>nomatch q)
theorem yZ(a:Str)(b:Int):decide ((Sum.inr a:Iy)=Qs b)=false:=decide_eq_false (λq=>nomatch q)
def Hd(prog:Bu)(w:World):PySem.KeyKind prog w Iy where
 is:=aI
 hash:=O8 w
 inj:=λv a b ha hb=>by
  rcases Gi ha with ⟨i,t,rfl,rfl⟩ | ⟨x,t,rfl,rfl⟩
  ·rcases Gi hb with ⟨j,u,rfl,e⟩ | ⟨y,u,rfl,e⟩
   ·injection e with e1 _; rw[e1]
   ·exact nomatch e
  ·rcases Gi hb with ⟨j,u,rfl,e⟩ | ⟨y,u,rfl,e⟩
   ·exact nomatch e
   ·injection e with e1 _; rw[e1]
 byValue:=λk v h=>by
  rcases Gi h with ⟨i,t,rfl,rfl⟩ | ⟨x,t,rfl,rfl⟩ <;> rfl
 pyHash:=λhv h=>by
  rcases Gi hv with ⟨i,t,rfl,rfl⟩ | ⟨x,t,rfl,rfl⟩
  ·exact wpAny_pyHash_int h
  ·exact wpAny_pyHash_str h
 eqBool:=λhu hv h=>by
  rcases Gi hu with ⟨i,t,rfl,rfl⟩ | ⟨x,t,rfl,rfl⟩
  ·rcases Gi hv with ⟨j,u,rfl,rfl⟩ | ⟨y,u,rfl,rfl⟩
   ·rw[zW] at h; exact wpAny_eqBool_int h
   ·rw[zY] at h; exact SeqAt.EqAt.int_str i t y u _ _ _ _ h
  ·rcases Gi hv with ⟨j,u,rfl,rfl⟩ | ⟨y,u,rfl,rfl⟩
   ·rw[yZ] at h; exact SeqAt.EqAt.str_int x t j u _ _ _ _ h
   ·rw[o8] at h; exact wpAny_eqBool_str h
 «strs»:=λk x t v h=>by
  rcases Gi h with ⟨i,u,rfl,e⟩ | ⟨y,u,rfl,e⟩
  ·exact nomatch e
  ·injection e with e1 _
   subst e1
   cases v <;> rfl
theorem gJ(prog:Bu)(w:World)(i:Int)(t:Tok):(Hd prog w).is (.inl i) (.int i t)=true:=nX i t
theorem fZ(prog:Bu)(w:World)(x:Str)(t:Tok):(Hd prog w).is (.inr x) (.str x t)=true:=mQ x t
inductive V where
 | non | bl (b:Bool) | int (i:Int) | str (x:Str) | byt (b:Array UInt8) | flt (b:UInt64) | ref (a:Addr) | ty (n:String)
 deriving DecidableEq
def RelV:V->Value->Prop
 | .non,u=>u=Ub
 | .bl b,u=>u=Value.bool b
 | .int i,u=>∃t,u=Rx i t
 | .str x,u=>∃t,u=Value.str x t
 | .byt b,u=>∃t,u=Value.bytes b t
 | .flt b,u=>∃t,u=Value.float b t
 | .ref a,u=>u=Bf a
 | .ty n,u=>u=Ow n
abbrev Ep:List V->List Value->Prop:=Paired RelV
theorem Ep.length{xs:List V}{us:List Value}(r:Ep xs us):xs.length=us.length:=Paired.length r
theorem Ep.get:∀{xs:List V} {us:List Value} {i:Nat} {x:V},Ep xs us->xs[i]? = some x->∃u,us[i]? = some u/\RelV x u
 | _,_,_,_,.nil,e=>by simp at e
 | _,_,0,_,.cons r _,e=>by simp at e; subst e; exact ⟨_,rfl,r⟩
 | _,_,i+1,x,.cons _ t,e=>by
  obtain ⟨u,h1,h2⟩:=Ep.get (i:=i) (x:=x) t (by simpa using e)
  exact ⟨u,by simpa using h1,h2⟩
theorem Ep.set{x:V}{u:Value}(r:RelV x u):∀{xs:List V} {us:List Value} (i:Nat),Ep xs us->Ep (xs.set i x) (us.set i u)
 | _,_,_,.nil=>.nil
 | _,_,0,.cons _ t=>.cons r t
 | _,_,i+1,.cons q t=>.cons q (Ep.set r i t)
theorem Ep.append:∀{xs ys:List V} {us ws:List Value},Ep xs us->Ep ys ws->Ep (xs++ys) (us++ws)
 | _,_,_,_,.nil,s=>s
 | _,_,_,_,.cons r t,s=>.cons r (Ep.append t s)
theorem Ep.take:∀{xs:List V} {us:List Value} (n:Nat),Ep xs us->Ep (xs.take n) (us.take n)
 | _,_,0,_=>.nil
 | _,_,_+1,.nil=>.nil
 | _,_,n+1,.cons r t=>.cons r (Ep.take n t)
theorem Ep.drop:∀{xs:List V} {us:List Value} (n:Nat),Ep xs us->Ep (xs.drop n) (us.drop n)
 | _,_,0,r=>r
 | _,_,_+1,.nil=>.nil
 | _,_,n+1,.cons _ t=>Ep.drop n t
def oB:Option V->Option Value->Prop
 | some v,some u=>RelV v u
 | none,none=>True
 | _,_=>False
def KV{κ:Type}:List (κ×V)->List (κ×Value)->Prop:=Paired λ(p:κ×V) (q:κ×Value)=>p.1=q.1/\RelV p.2 q.2
def kV:Iy->V
 | .inl i=>.int i
 | .inr x=>.str x
inductive HO where
 /-- a list -/
 | lst (xs:List V)
 /-- a tuple (never changes) -/
 | tup (xs:List V)
 /-- a dict whose keys are ints and texts; one whose keys are tuples of ints and texts (the empty one is both) -/
 | dK (kvs:List (Iy×V)) | dT (kvs:List (List Iy×V))
 /-- a set of ints: its members,its size -/
 | set (S:Int->Bool) (n:Nat)
 /-- an instance of the class at C,its dict at dx,its attributes -/
 | ins (C dx:Addr) (fs:List (Str×V))
 /-- the dict of the instance at x -/
 | own (x:Addr)
 /-- the dict of an exception -/
 | xd (fs:List (Str×V))
 /-- a bound method,f of x -/
 | met (f x:Addr)
 /-- a range object lo,lo+1,.. below hi -/
 | rng (lo hi:Int)
 /-- a thing that is known to the object (the script; a dict while a loop walks it): read,never written while it is so -/
 | frz (o:Obj) (u:HO)
 /-- a code object's table -/
 | tbl (ps:Array Value)
 /-- any other thing,by what is true of its one object (a def of one's own: Q1 a S n:=HO.ext λh=>..) -/
 | ext (φ:Heap->Prop)
abbrev Hp:=Addr->Option HO
def upd(H:Hp)(a:Addr)(o:HO):Hp:=λb=>if b=a then some o else H b
theorem Cj{H:Hp}{a:Addr}{o:HO}:upd H a o a=some o:=by unfold upd; rw[if_pos rfl]
theorem Co{H:Hp}{a b:Addr}{o:HO}(h:b≠a):upd H a o b=H b:=by unfold upd; rw[if_neg h]
theorem lP{H:Hp}{a b:Addr}{o u:HO}(h:H a=some o)(h':H b=some u)(d:o≠u):a≠b:=by
 intro e; subst e; rw[h] at h'; exact d (Bj h')
theorem Df{H:Hp}{a b:Addr}{o:HO}(h:H a=some o)(h':H b=none):a≠b:=by
 intro e; subst e; rw[h] at h'; cases h'
section
variable(P:Bu)(w:World)
def Il(H:Hp)(h:Heap)(a:Addr):HO->Prop
 | .lst xs=>xs.length<=Aq/\∃(its:List Value) (n:Nat),Ep xs its/\h.get? a=some { cls:=.type "list",data:=.seq its.toArray n }
 | .tup xs=>xs.length<=Aq/\∃its:List Value,Ep xs its/\IsTup h a its.toArray
 | .dK kvs=>kvs.length<=Aq/\(a == Jl)=false/\∃vs,KV kvs vs/\h.DictOf (Hd P w) a vs
 | .dT kvs=>kvs.length<=Aq/\(a == Jl)=false/\∃xs:List (List Iy×Addr×Value),
   Paired (λ(p:List Iy×V) (q:List Iy×Addr×Value)=>p.1=q.1/\H q.2.1=some (.tup (p.1.map kV))/\RelV p.2 q.2.2) kvs xs /\
   ∃o es ep,h.get? a=some o/\o.ExactDict/\o.data=.dict es ep/\es.toList=xs.map (Ze (Rg (Hd P w)))/\(xs.map (·.1)).Nodup/\ep=es.size
 | .set S n=>h.SetOf (intKind P w) a S n
 | .ins C dx fs=>H dx=some (.own a)/\fs.length<=1000/\dx≠a/\h.get? a=some (PySem.W.instObj C dx) /\
   ∃mA,h.Ns1 dx mA/\(∀f,oB (fs.lookup f) (mA f))/\PySem.Within mA (fs.map (·.1))
 | .own _=>∃o,h.get? a=some o
 | .xd fs=>∃mA,h.Ns1 a mA/\∀f,oB (fs.lookup f) (mA f)
 | .rng lo hi=>∃t u v,h.get? a=some { cls:=.type "range",data:=.fields #[.int lo t,.int hi u,.int 1 v] }
 | .frz o u=>h.get? a=some o/\Il H h a u
 | .tbl ps=>∃qs:Array Value,h.get? a=some { cls:=.none,data:=.fields qs }/\TriplesOk qs.toList/\∀(pos:Pos) (v:Value),Od pos qs.toList=some v->∃(c:Addr) (oc:Obj) (us:Array Value) (q:Str) (t t0:Tok),v=.ref c/\H c=some (.own a)/\h.get? c=some oc/\oc.data=.fields us/\us[1]? = some (.str q t)/\ps[0]? = some (.str q t0)
 | .met f x=>h.get? a=some (PySem.W.methodObj (.ref f) (.ref x))
 | .ext φ=>φ h/\(∃o,h.get? a=some o)/\∀h1 h2:Heap,φ h1->(∀o,h1.get? a=some o->h2.get? a=some o)->φ h2
def Uh(H:Hp)(h:Heap):Prop:=∀a o,H a=some o->Il P w H h a o
end
section
variable{P:Bu}{w:World}{H H':Hp}{h h':Heap}{a:Addr}{o:HO}
theorem Il.lt(x:Il P w H h a o):a<h.objs.size:=by
 cases o with
 | lst xs=>obtain ⟨_,_,_,_,e⟩:=x; exact Bc e
 | tup xs=>obtain ⟨_,_,_,p⟩:=x; exact p.lt
 | dK kvs=>obtain ⟨_,_,_,_,o,_,_,e,_⟩:=x; exact Bc e
 | dT kvs=>obtain ⟨_,_,_,_,o,_,_,e,_⟩:=x; exact Bc e
 | set S n=>obtain ⟨o,_,_,_,e,_⟩:=x; exact Bc e
 | ins C dx fs=>obtain ⟨_,_,_,e,_⟩:=x; exact Bc e
 | own y=>obtain ⟨_,e⟩:=x; exact Bc e
 | xd fs=>obtain ⟨_,⟨_,_,_,e,_⟩,_⟩:=x; exact Bc e
 | rng lo hi=>obtain ⟨_,_,_,e⟩:=x; exact Bc e
 | frz ob u=>obtain ⟨e,_⟩:=x; exact Bc e
 | tbl ps=>obtain ⟨_,e,_⟩:=x; exact Bc e
 | met f y=>exact Bc (show h.get? a=some _ from x)
 | ext φ=>obtain ⟨_,⟨_,e⟩,_⟩:=x; exact Bc e
theorem Paired.mapP{α β:Type}{F G:α->β->Prop}:∀{l₁:List α} {l₂:List β},Paired F l₁ l₂->(∀a b,F a b->G a b)->Paired G l₁ l₂
 | _,_,.nil,_=>.nil
 | _,_,.cons r t,f=>.cons (f _ _ r) (Paired.mapP t f)
theorem Il.stay(x:Il P w H h a o)(k:∀b u,(b=a\/H b=some (.own a))->h.get? b=some u->h'.get? b=some u)(ho:∀b,H b=some (.own a)->H' b=some (.own a))(ht:∀b xs,H b=some (.tup xs)->H' b=some (.tup xs)):Il P w H' h' a o:=by
 induction o with
 | lst xs=>obtain ⟨z,its,n,r,e⟩:=x; exact ⟨z,its,n,r,k _ _ (.inl rfl) e⟩
 | tup xs=>obtain ⟨z,its,r,ob,e,c⟩:=x; exact ⟨z,its,r,ob,k _ _ (.inl rfl) e,c⟩
 | dK kvs=>obtain ⟨z,y,vs,r,ob,es,ep,e,c⟩:=x; exact ⟨z,y,vs,r,ob,es,ep,k _ _ (.inl rfl) e,c⟩
 | dT kvs =>
  obtain ⟨z,y,xs,r,ob,es,ep,e,c⟩:=x
  exact ⟨z,y,xs,Paired.mapP r λp q z=>⟨z.1,ht _ _ z.2.1,z.2.2⟩,ob,es,ep,k _ _ (.inl rfl) e,c⟩
 | set S n=>obtain ⟨ob,es,ep,t,e,c⟩:=x; exact ⟨ob,es,ep,t,k _ _ (.inl rfl) e,c⟩
 | ins C dx fs =>
  obtain ⟨d,z,ne,e,mA,⟨od,es,ep,e2,c⟩,r⟩:=x
  exact ⟨ho _ d,z,ne,k _ _ (.inl rfl) e,mA,⟨od,es,ep,k _ _ (.inr d) e2,c⟩,r⟩
 | own y=>obtain ⟨ob,e⟩:=x; exact ⟨ob,k _ _ (.inl rfl) e⟩
 | xd fs=>obtain ⟨mA,⟨od,es,ep,e,c⟩,r⟩:=x; exact ⟨mA,⟨od,es,ep,k _ _ (.inl rfl) e,c⟩,r⟩
 | rng lo hi=>obtain ⟨t,u,v,e⟩:=x; exact ⟨t,u,v,k _ _ (.inl rfl) e⟩
 | frz ob u ih=>obtain ⟨e,q⟩:=x; exact ⟨k _ _ (.inl rfl) e,ih q⟩
 | tbl ps =>
  obtain ⟨qs,e,t,z⟩:=x
  exact ⟨qs,k _ _ (.inl rfl) e,t,λpos v y=>by
   obtain ⟨c,oc,us,q,t,t0,h1,h2,h3,h4⟩:=z pos v y
   exact ⟨c,oc,us,q,t,t0,h1,ho _ h2,k _ _ (.inr h2) h3,h4⟩⟩
 | met f y =>
  have e:h.get? a=some (PySem.W.methodObj (.ref f) (.ref y)):=x
  show h'.get? a=some (PySem.W.methodObj (.ref f) (.ref y))
  exact k a _ (.inl rfl) e
 | ext φ=>obtain ⟨p,⟨o,e⟩,st⟩:=x; exact ⟨st _ _ p λo q=>k _ _ (.inl rfl) q,⟨o,k _ _ (.inl rfl) e⟩,st⟩
theorem Uh.lt(x:Uh P w H h)(e:H a=some o):a<h.objs.size:=(x a o e).lt
theorem Uh.fresh(x:Uh P w H h)(e:h.objs.size<=a):H a=none:=by
 cases q:H a with
 | none=>rfl
 | some u=>exact absurd (Cc (x.lt q) e) (Ex _)
theorem Uh.kept(x:Uh P w H h)(k:∀b u,h.get? b=some u->h'.get? b=some u):Uh P w H h':=λa o e =>
 (x a o e).stay (λb u _ q=>k b u q) (λ_ q=>q) λ_ _ q=>q
theorem Uh.laid(x:Uh P w H h)(k:∀b u,h.get? b=some u->h'.get? b=some u)(hp:h.objs.size<=a)(new:Il P w (upd H a o) h' a o):Uh P w (upd H a o) h':=λb u e=>by
 have hn:=x.fresh hp
 by_cases hb:b=a
 ·subst hb; rw[Cj] at e; cases e; exact new
 ·rw[Co hb] at e
  exact (x b u e).stay (λc v _ q=>k c v q) (λc q=>by rw[Co (Df q hn)]; exact q) λc xs q=>by rw[Co (Df q hn)]; exact q
end
def Rd(H:Hp)(a:Addr)(u:HO):Prop:=H a=some u\/∃o,H a=some (.frz o u)
theorem Rd.ok{P:Bu}{w:World}{H:Hp}{h:Heap}{a:Addr}{u:HO}(r:Rd H a u)(x:Uh P w H h):Il P w H h a u:=by
 rcases r with r | ⟨o,r⟩
 ·exact x a u r
 ·obtain ⟨_,q⟩:=x a _ r
  exact q
def J0:Option HO->Prop
 | some (.lst _)=>True
 | some (.dK _)=>True
 | some (.dT _)=>True
 | some (.set _ _)=>True
 | some (.ins _ _ _)=>True
 | some (.ext _)=>True
 | _=>False
section
variable{P:Bu}{w:World}{H:Hp}{h h':Heap}{x e:Addr}{o':HO}
theorem Uh.write(ok:Uh P w H h)(mu:J0 (H x))(he:e=x\/H e=some (.own x))(k:∀b u,b≠e->h.get? b=some u->h'.get? b=some u)(heo:∃u,h'.get? e=some u)(new:Il P w (upd H x o') h' x o'):Uh P w (upd H x o') h':=λb u q=>by
 have nown:∀c y,H c=some (.own y)->c≠x:=λc y r z=>by subst z; rw[r] at mu; exact mu
 have mD:∀c xs,H c=some (.tup xs)->c≠x:=λc xs r z=>by subst z; rw[r] at mu; exact mu
 by_cases hb:b=x
 ·subst hb; rw[Cj] at q; cases q; exact new
 ·rw[Co hb] at q
  by_cases hbe:b=e
  ·have q':H b=some (.own x):=by
    rcases he with z | z
    ·exact absurd (hbe.trans z) hb
    ·rw[hbe]; exact z
   rw[q] at q'; cases q'
   obtain ⟨v,hv⟩:=heo
   exact ⟨v,by rw[hbe]; exact hv⟩
  ·refine (ok b u q).stay (λc v hc r=>k c v ?_ r) (λc r=>by rw[Co (nown c b r)]; exact r) λc xs r=>by rw[Co (mD c xs r)]; exact r
   rcases hc with rfl | hc
   ·exact hbe
   ·rintro rfl
    rcases he with z | z
    ·exact nown c b hc z
    ·rw[hc] at z; cases z; exact hb rfl
end
structure Un(fs ex:List Addr)(H H':Hp)(h h':Heap):Prop where
 keep:∀b o,h.get? b=some o->H b=none->b∉fs->b∉ex->h'.get? b=some o
 slot:∀b o,h.get? b=some o->H b=none->b∈fs->b∉ex->∃sl,h'.get? b=some { o with slots:=sl }
 free:∀b o,h.get? b=some o->H b=none->b∉ex->H' b=none
 there:∀b o,h.get? b=some o->b∉ex->∃o',h'.get? b=some o'
 tups:∀b xs,H b=some (.tup xs)->H' b=some (.tup xs)
 frzs:∀b o u,H b=some (.frz o u)->H' b=some (.frz o u)
 tbls:∀b ps,H b=some (.tbl ps)->∃more,H' b=some (.tbl (ps++more))
section
variable{fs fs' ex ex':List Addr}{H H1 H2:Hp}{h h1 h2 h':Heap}{a x e:Addr}{o:HO}
theorem Un.any(u:Un fs ex H H1 h h1){b:Addr}{ob:Obj}(q:h.get? b=some ob)(n:H b=none)(hx:b∉ex):∃sl,h1.get? b=some { ob with slots:=sl }:=by
 by_cases hb:b∈fs
 ·exact u.slot b ob q n hb hx
 ·exact ⟨ob.slots,u.keep b ob q n hb hx⟩
theorem Un.kept(k:∀b u,h.get? b=some u->h'.get? b=some u):Un fs ex H H h h' :=
 ⟨λb ob q _ _ _=>k b ob q,λb ob q _ _ _=>⟨ob.slots,k b ob q⟩,λ_ _ _ n _=>n,λb ob q _=>⟨ob,k b ob q⟩,λ_ _ q=>q,λ_ _ _ q=>q,λ_ ps q=>⟨#[],by rw[q]; simp⟩⟩
theorem Un.refl:Un fs ex H H h h:=Un.kept λ_ _ q=>q
theorem Un.laid(k:∀b u,h.get? b=some u->h'.get? b=some u)(hp:h.objs.size<=a)(hn:H a=none):Un fs ex H (upd H a o) h h' where
 keep:=λb u q _ _ _=>k b u q
 slot:=λb u q _ _ _=>⟨u.slots,k b u q⟩
 free:=λb u q n _=>by rw[Co (Cf (Cc (Bc q) hp))]; exact n
 there:=λb u q _=>⟨u,k b u q⟩
 tups:=λb xs q=>by rw[Co (Df q hn)]; exact q
 frzs:=λb u xs q=>by rw[Co (Df q hn)]; exact q
 tbls:=λb ps q=>⟨#[],by rw[Co (Df q hn),q]; simp⟩
theorem Un.write(mu:J0 (H x))(he:e=x\/H e=some (.own x))(k:∀b u,b≠e->h.get? b=some u->h'.get? b=some u)(heo:∃u,h'.get? e=some u):Un fs ex H (upd H x o) h h':=by
 have hx:∀b,H b=none->b≠x:=λb n z=>by subst z; rw[n] at mu; exact mu
 have hb:∀b,H b=none->b≠e:=λb n z=>by
  subst z
  rcases he with r | r
  ·exact hx b n r
  ·rw[n] at r; cases r
 have hm:∀b u,H b=some u->¬ J0 (some u)->b≠x:=λb u q nm z=>by subst z; rw[q] at mu; exact nm mu
 refine ⟨λb u q n _ _=>k b u (hb b n) q,λb u q n _ _=>⟨u.slots,k b u (hb b n) q⟩,λb u q n _=>by rw[Co (hx b n)]; exact n,λb u q _=>?_,
  λb xs q=>by rw[Co (hm b _ q λz=>z)]; exact q,λb u xs q=>by rw[Co (hm b _ q λz=>z)]; exact q,λb ps q=>⟨#[],by rw[Co (hm b _ q λz=>z),q]; simp⟩⟩
 by_cases hbe:b=e
 ·subst hbe; exact heo
 ·exact ⟨u,k b u hbe q⟩
end
def N0(h:Heap)(H:Hp):List Addr:=(Dd h.objs.size).filter λa=>(H a).isSome
def Zj(h:Heap)(H:Hp):Heap:=PySem.W.hideAll h (N0 h H)
theorem mC(h:Heap)(H:Hp):(Zj h H).objs.size=h.objs.size:=PySem.W.hideAll_size _ _
theorem qA{h:Heap}{H:Hp}{b:Addr}{o:Obj}(e:h.get? b=some o)(n:H b=none):(Zj h H).get? b=some o :=
 PySem.W.hideAll_get _ e λhm=>by
  have q:(H b).isSome=true:=(Bk.mp hm).2
  rw[n] at q; simp at q
theorem vI{h:Heap}{H:Hp}{b:Addr}{o:Obj}(e:(Zj h H).get? b=some o):h.get? b=some o/\H b=none:=by
 have e':h.get? b=some o:=PySem.W.of_hideAll (N0 h H) e
 refine ⟨e',?_⟩
 cases q:H b with
 | none=>rfl
 | some x =>
  have hm:b∈N0 h H:=Bk.mpr ⟨Ga.mpr (Bc e'),by simp [q]⟩
  have z:(Zj h H).get? b=none:=PySem.W.hideAll_none (N0 h H) hm
  rw[z] at e; cases e
def vM(g h:Heap)(L:Addr):List (Addr×Obj):=(Dd h.objs.size).filterMap λa=>if a=L\/(g.get? a).isSome=true then none else (h.get? a).map λo=>(a,o)
def Gq(g h:Heap)(L d:Addr):List (Addr×Obj):=(vM g h L).filter λp=>decide (p.1≠d)
structure Mod(K:PySem.W.Frag)(mg:Str->Option Value)(base:Heap):Prop where
 kin:K.In base
 glob:base.Ns Ce mg
 blt:∃mb,base.Ns Sh mb/\∀x:Str,x ≠ "__name__" -> mb x=Ld x
 nolimit:base.NoLimit
def Nc:List Str:=["often", "cut_by"]
def Zv(x:Str):Str:=x ++ ".<locals>." ++ "<lambda>"
def yC(H:Hp)(P:Addr)(q:Str):Prop:=∃(ps:Array Value) (t0:Tok),H P=some (.tbl ps)/\ps[0]? = some (.str q t0)
def oW(K:PySem.W.Frag)(mg:Str->Option Value)(base:Heap)(H:Hp):Prop:=∀x∈Nc,∀c P,PySem.W.tabIn K x=some (c,P)->PySem.W.CodeHd base c P/\base.BuiltinsAt mg P/\yC H P (Zv x)
theorem oW.un{K:PySem.W.Frag}{mg:Str->Option Value}{base:Heap}{fs ex:List Addr}{H H':Hp}{h h':Heap}(t:oW K mg base H)(u:Un fs ex H H' h h'):oW K mg base H':=λx hx c P e=>by
 obtain ⟨h1,h2,ps,t0,h3,h4⟩:=t x hx c P e
 obtain ⟨more,h5⟩:=u.tbls P ps h3
 refine ⟨h1,h2,ps++more,t0,h5,?_⟩
 have hl:0<ps.size:=by
  rcases Nat.eq_zero_or_pos ps.size with z | z
  ·rw[Array.getElem?_eq_none (by omega)] at h4; cases h4
  ·exact z
 rw[Array.getElem?_append_left hl]
 exact h4
structure Cx where
 prog:Bu
 w:World
 K:PySem.W.Frag
 mg:Str->Option Value
 base:Heap
 A:Cq
 N:List Str
 s₀:Af
 H₀:Hp
 env:Env
 outer:List Env
 stack:List Env
 ex:List Addr
 fn:Str->Bool
 calm:Bool
 pn:List (Addr×Obj)
 xe:Value->Af->Prop
def nS(l:List Env):List Addr:=l.filterMap (·.frame)
abbrev Cx.fs(X:Cx):List Addr:=nS X.outer
def M9(sc:Scope)(x:Str):Prop:=sc.names.lookup x=some .local\/sc.names.lookup x=some .cell\/sc.names.lookup x=some .free
def Loc(sc:Scope)(x:Str):Prop:=sc.names.lookup x=some .local\/sc.names.lookup x=some .cell
def N9(env:Env)(h:Heap)(m:Str->Option Value)(x:Str)(u:Value):Prop :=
 (env.kindOf x=some .local/\m x=some u)\/((env.kindOf x=some .cell\/env.kindOf x=some .free)/\∃c,env.cells.lookup x=some c/\h.IsCell c (some u))
structure Cx.Ok(X:Cx):Prop where
 mod:Mod X.K X.mg X.base
 kind:X.env.scope.kind=.function
 glob:X.env.globals=Ce
 blt:X.env.builtins=Sh
 above:X.s₀.heap.objs.size<=X.env.locals
 inj:∀x y c,X.env.cells.lookup x=some c->X.env.cells.lookup y=some c->x=y
 has:∀x,(X.env.kindOf x=some .cell\/X.env.kindOf x=some .free)->∃c,X.env.cells.lookup x=some c
 cab:∀x c,X.fn x=true->X.env.cells.lookup x=some c->X.s₀.heap.objs.size<=c
 hd:X.calm=true->X.A.handled=none
 frames:X.A.frames=some X.stack
 stk:X.stack=X.outer\/(X.stack=X.env::X.outer/\X.env.frame=some X.env.locals)
 exf:∀b∈X.ex,b≠X.env.locals/\∀x c,X.env.cells.lookup x=some c->c≠b
 bs:∀b o,X.base.get? b=some o->X.s₀.heap.get? b=some o/\X.H₀ b=none
 bsz:X.base.objs.size<=X.s₀.heap.objs.size
 noex:∀b o,X.base.get? b=some o->b∉X.ex
 exfs:∀b∈X.ex,b∉X.fs
 funs:X.s₀.heap.FunFrames X.base X.outer
 frf:∀b∈X.fs,X.H₀ b=none
 tab:oW X.K X.mg X.base X.H₀
structure Inv(X:Cx)(pins:List (Addr×Obj))(σ:List (Option V))(H:Hp)(s:Af):Prop where
 ok:X.Ok
 os:s.os=X.s₀.os
 bare:Py s.gens
 base:Un X.fs X.ex X.H₀ H X.s₀.heap s.heap
 loc:∃m,s.heap.Ns X.env.locals m/\∀(i:Nat) (x:Str) (v:V),X.N[i]? = some x->σ[i]? = some (some v)->M9 X.env.scope x->∃u,RelV v u/\N9 X.env s.heap m x u
 cell:∀x c,X.env.cells.lookup x=some c->∃v,s.heap.IsCell c v
 free:H X.env.locals=none
 freeC:∀x c,X.env.cells.lookup x=some c->H c=none
 pin:∀p∈X.pn++pins,s.heap.get? p.1=some p.2/\H p.1=none/\p.1≠X.env.locals/\p.1∉X.fs/\∀v,p.2.data≠.cell v
 hok:Uh X.prog X.w H s.heap
 len:σ.length=X.N.length
section
variable{X:Cx}{pins:List (Addr×Obj)}{σ:List (Option V)}{H H':Hp}{s:Af}{h':Heap}
theorem Cx.Ok.nofr(ok:X.Ok){b:Addr}{o:Obj}(e:X.base.get? b=some o):b∉X.fs:=λhb=>by
 have:=(ok.funs.mem hb).1
 rw[e] at this; cases this
theorem Inv.bs(I:Inv X pins σ H s):∀b o,X.base.get? b=some o->s.heap.get? b=some o/\H b=none:=λb o e =>
 ⟨I.base.keep b o (I.ok.bs b o e).1 (I.ok.bs b o e).2 (I.ok.nofr e) (I.ok.noex b o e),I.base.free b o (I.ok.bs b o e).1 (I.ok.bs b o e).2 (I.ok.noex b o e)⟩
theorem Inv.bk(I:Inv X pins σ H s):∀b o,X.base.get? b=some o->s.heap.get? b=some o:=λb o e=>(I.bs b o e).1
theorem Inv.mod(I:Inv X pins σ H s):Mod X.K X.mg X.base:=I.ok.mod
theorem Inv.kIn(I:Inv X pins σ H s):X.K.In s.heap:=I.ok.mod.kin.keeps I.bk
theorem Inv.nolimit(I:Inv X pins σ H s):s.heap.NoLimit:=I.ok.mod.nolimit.keeps I.bk
theorem Inv.lt(I:Inv X pins σ H s):X.env.locals<s.heap.objs.size:=let ⟨_,hn,_⟩:=I.loc; hn.lt
theorem Inv.sz(I:Inv X pins σ H s):X.s₀.heap.objs.size<=s.heap.objs.size:=Cg I.ok.above (Jg I.lt)
theorem Inv.nofs(I:Inv X pins σ H s){a:Addr}(h:s.heap.objs.size<=a):a∉X.fs:=λhb=>by
 obtain ⟨_,o,ho,_⟩:=I.ok.funs.mem hb
 exact absurd (Cc (Bc ho) (Cg I.sz h)) (Ex _)
theorem Inv.cne(I:Inv X pins σ H s):∀x c,X.env.cells.lookup x=some c->c≠X.env.locals:=λx c e z=>by
 obtain ⟨v,o,ho,hd⟩:=I.cell x c e
 obtain ⟨m,⟨o',es,ep,ho',hd',_⟩,_⟩:=I.loc
 rw[z,ho'] at ho; cases ho; rw[hd'] at hd; cases hd
theorem Inv.funs(I:Inv X pins σ H s):s.heap.FunFrames X.base X.outer:=by
 have all:∀(l:List Env),(∀b∈nS l,b∈X.fs)->X.s₀.heap.FunFrames X.base l->s.heap.FunFrames X.base l:=by
  intro l
  induction l with
  | nil=>intro _ _; trivial
  | cons env r ih =>
   intro hs hl
   obtain ⟨hk,⟨L,o,hf,hn,ho,hd⟩,hr⟩:=hl
   have hL:L∈X.fs:=hs L (by unfold nS; rw[Tz,hf]; exact Aa)
   obtain ⟨sl,e⟩:=I.base.slot L o ho (I.ok.frf L hL) hL λz=>I.ok.exfs L z hL
   exact ⟨hk,⟨L,_,hf,hn,e,hd⟩,ih (λb hb=>hs b (by unfold nS; rw[Tz,hf]; exact Ag _ hb)) hr⟩
 exact all X.outer (λ_ hb=>hb) I.ok.funs
theorem Inv.stack(I:Inv X pins σ H s):s.heap.FunFrames X.base X.stack:=by
 rcases I.ok.stk with e | ⟨e,hf⟩
 ·rw[e]; exact I.funs
 ·rw[e]
  obtain ⟨m,hn,_⟩:=I.loc
  refine .cons (by rw[I.ok.kind]; decide) hf hn ?_ I.funs
  exact Heap.get?_none_of_le (Cg I.ok.bsz I.ok.above)
theorem Inv.stkSub(I:Inv X pins σ H s):∀b∈nS X.stack,b∈X.env.locals::X.fs:=λb hb=>by
 rcases I.ok.stk with e | ⟨e,hf⟩
 ·rw[e] at hb; exact Ag _ hb
 ·rw[e] at hb
  unfold nS at hb
  rw[Tz,hf] at hb
  exact hb
theorem Inv.stkFree(I:Inv X pins σ H s):∀b∈nS X.stack,H b=none:=λb hb=>by
 rcases Aj.mp (I.stkSub b hb) with e | hb
 ·rw[e]; exact I.free
 ·obtain ⟨_,o,ho,_⟩:=I.ok.funs.mem hb
  exact I.base.free b o ho (I.ok.frf b hb) λz=>I.ok.exfs b z hb
theorem Inv.step{g':Array GenState}{t':Nat}{d':Drawn}{ch:List Addr}(I:Inv X pins σ H s)(hch:∀b∈ch,(b∈X.ex\/X.s₀.heap.objs.size<=b)/\b≠X.env.locals/\(∀x c,X.env.cells.lookup x=some c->c≠b)/\∀p∈X.pn++pins,p.1≠b)(keep:∀b o,b≠X.env.locals->b∉X.fs->b∉ch->s.heap.get? b=some o->H b=none->h'.get? b=some o)(slot:∀b o,b≠X.env.locals->b∈X.fs->b∉ch->s.heap.get? b=some o->H b=none->∃sl,h'.get? b=some { o with slots:=sl })(free:∀b o,b∉ch->s.heap.get? b=some o->H b=none->H' b=none)(there:∀b o,b∉ch->s.heap.get? b=some o->∃o',h'.get? b=some o')(tups:∀b xs,H b=some (.tup xs)->H' b=some (.tup xs))(frzs:∀b o u,H b=some (.frz o u)->H' b=some (.frz o u))(tbls:∀b ps,H b=some (.tbl ps)->∃more,H' b=some (.tbl (ps++more)))(ns:∀m,s.heap.Ns X.env.locals m->h'.Ns X.env.locals m)(hok:Uh X.prog X.w H' h')(hg:Py g'):Inv X pins σ H' { s with heap:=h',gens:=g',drawn:=d',toks:=t' }:=by
 have neL:∀b o,X.s₀.heap.get? b=some o->b≠X.env.locals:=λb o e=>Cf (Cc (Bc e) I.ok.above)
 have neC:∀b o,X.s₀.heap.get? b=some o->b∉X.ex->b∉ch:=λb o e hx hb=>by
  rcases (hch b hb).1 with z | z
  ·exact hx z
  ·exact absurd (Cc (Bc e) z) (Ex _)
 have cellK:∀x c,X.env.cells.lookup x=some c->∀v,s.heap.IsCell c v->h'.IsCell c v:=λx c e v ⟨o,ho,hd⟩=>by
  have nch:c∉ch:=λz=>(hch c z).2.2.1 x c e rfl
  by_cases hc:c∈X.fs
  ·obtain ⟨sl,q⟩:=slot c o (I.cne x c e) hc nch ho (I.freeC x c e)
   exact ⟨_,q,hd⟩
  ·exact ⟨o,keep c o (I.cne x c e) hc nch ho (I.freeC x c e),hd⟩
 refine ⟨I.ok,I.os,hg,⟨λb o e n hb hx=>?_,λb o e n hb hx=>?_,λb o e n hx=>?_,λb o e hx=>?_,λb xs e=>tups b xs (I.base.tups b xs e),λb o xs e=>frzs b o xs (I.base.frzs b o xs e),λb ps e=>?_⟩,?_,λx c e=>?_,?_,λx c e=>?_,λp hp=>?_,hok,I.len⟩
 ·exact keep b o (neL b o e) hb (neC b o e hx) (I.base.keep b o e n hb hx) (I.base.free b o e n hx)
 ·obtain ⟨sl,e1⟩:=I.base.slot b o e n hb hx
  obtain ⟨sl',e2⟩:=slot b _ (neL b o e) hb (neC b o e hx) e1 (I.base.free b o e n hx)
  exact ⟨sl',e2⟩
 ·obtain ⟨o',e1⟩:=I.base.there b o e hx
  exact free b o' (neC b o e hx) e1 (I.base.free b o e n hx)
 ·obtain ⟨o',e1⟩:=I.base.there b o e hx
  exact there b o' (neC b o e hx) e1
 ·obtain ⟨m1,e1⟩:=I.base.tbls b ps e
  obtain ⟨m2,e2⟩:=tbls b _ e1
  exact ⟨m1++m2,by rw[e2,Array.append_assoc]⟩
 ·obtain ⟨m,hn,hl⟩:=I.loc
  refine ⟨m,ns m hn,λi x v e1 e2 e3=>?_⟩
  obtain ⟨u,r,l⟩:=hl i x v e1 e2 e3
  refine ⟨u,r,?_⟩
  rcases l with l | ⟨k,c,e,z⟩
  ·exact .inl l
  ·exact .inr ⟨k,c,e,cellK x c e _ z⟩
 ·obtain ⟨v,z⟩:=I.cell x c e
  exact ⟨v,cellK x c e v z⟩
 ·obtain ⟨m,⟨o,_,_,ho,_⟩,_⟩:=I.loc
  exact free _ o (λz=>(hch _ z).2.1 rfl) ho I.free
 ·obtain ⟨v,o,ho,hd⟩:=I.cell x c e
  exact free c o (λz=>(hch c z).2.2.1 x c e rfl) ho (I.freeC x c e)
 ·obtain ⟨e,n,ne,nf,d⟩:=I.pin p hp
  have nch:p.1∉ch:=λz=>(hch p.1 z).2.2.2 p hp rfl
  exact ⟨keep p.1 p.2 ne nf nch e n,free p.1 p.2 nch e n,ne,nf,d⟩
theorem Inv.un{t':Nat}(I:Inv X pins σ H s)(u:Un X.fs [] H H' s.heap h')(hok:Uh X.prog X.w H' h'):Inv X pins σ H' { s with heap:=h',toks:=t' }:=by
 obtain ⟨m,⟨o,es,ep,ho,r⟩,_⟩:=id I.loc
 obtain ⟨sl,hL⟩:=u.any ho I.free (by simp)
 exact I.step (g':=s.gens) (d':=s.drawn) (ch:=[]) (λ_ z=>nomatch z) (λb o _ hb _ e n=>u.keep b o e n hb (by simp)) (λb o _ hb _ e n=>u.slot b o e n hb (by simp)) (λb o _ e n=>u.free b o e n (by simp)) (λb o _ e=>u.there b o e (by simp)) u.tups u.frzs u.tbls (λm' hm=>by
  obtain ⟨o',es',ep',ho',r'⟩:=hm
  rw[ho] at ho'; cases ho'
  exact ⟨_,es',ep',hL,r'⟩) hok I.bare
theorem Inv.call{g':Array GenState}{t':Nat}{d':Drawn}{ch:List Addr}(I:Inv X pins σ H s)(u:Un (nS X.stack) ch H H' s.heap h')(hok:Uh X.prog X.w H' h')(hg:Py g')(hch:∀b∈ch,(b∈X.ex\/X.s₀.heap.objs.size<=b)/\b≠X.env.locals/\(∀x c,X.env.cells.lookup x=some c->c≠b)/\∀p∈X.pn++pins,p.1≠b):Inv X pins σ H' { s with heap:=h',gens:=g',drawn:=d',toks:=t' }:=by
 obtain ⟨m,⟨o,es,ep,ho,r⟩,_⟩:=id I.loc
 obtain ⟨sl,hL⟩:=u.any ho I.free λz=>(hch _ z).2.1 rfl
 exact I.step (ch:=ch) hch (λb o hL hb hc e n=>u.keep b o e n (λz=>(Aj.mp (I.stkSub b z)).elim hL hb) hc) (λb o _ _ hc e n=>u.any e n hc) (λb o hc e n=>u.free b o e n hc) (λb o hc e=>u.there b o e hc) u.tups u.frzs u.tbls (λm' hm=>by
  obtain ⟨o',es',ep',ho',r'⟩:=hm
  rw[ho] at ho'; cases ho'
  exact ⟨_,es',ep',hL,r'⟩) hok hg
theorem Inv.turned{t':Nat}{it:Addr}(I:Inv X pins σ H s)(k:∀b o,b≠it->s.heap.get? b=some o->h'.get? b=some o)(hn:H it=none)(hL:it≠X.env.locals)(h1:it∈X.ex\/X.s₀.heap.objs.size<=it)(h2:∀x c,X.env.cells.lookup x=some c->c≠it)(h3:∀p∈X.pn++pins,p.1≠it):Inv X pins σ H { s with heap:=h',toks:=t' }:=by
 have nit:∀b u,H b=some u->b≠it:=λb u e z=>by rw[z,hn] at e; cases e
 refine I.step (g':=s.gens) (d':=s.drawn) (ch:=[it]) (λb hb=>?_) (λb o _ _ hc e _=>k b o (λz=>hc (by simp [z])) e) (λb o _ _ hc e _=>⟨o.slots,k b o (λz=>hc (by simp [z])) e⟩) (λ_ _ _ _ n=>n)
  (λb o hc e=>⟨o,k b o (λz=>hc (by simp [z])) e⟩) (λ_ _ e=>e) (λ_ _ _ e=>e) (λb ps e=>⟨#[],by rw[e]; simp⟩) (λm hm=>?_) (λb u e=>?_) I.bare
 ·have e:b=it:=by simpa using hb
  subst e
  exact ⟨h1,hL,h2,h3⟩
 ·obtain ⟨o,es,ep,ho,r⟩:=hm
  exact ⟨o,es,ep,k _ o (Ln hL) ho,r⟩
 ·refine (I.hok b u e).stay (λc v hc q=>k c v ?_ q) (λ_ q=>q) λ_ _ q=>q
  rcases hc with z | z
  ·rw[z]; exact nit b u e
  ·exact nit c _ z
theorem Inv.tok(I:Inv X pins σ H s)(t:Nat):Inv X pins σ H { s with toks:=t }:=I.un (h':=s.heap) (t':=t) Un.refl I.hok
theorem Inv.kept{t':Nat}(I:Inv X pins σ H s)(k:∀b u,s.heap.get? b=some u->h'.get? b=some u):Inv X pins σ H { s with heap:=h',toks:=t' }:=I.un (Un.kept k) (I.hok.kept k)
theorem Inv.laid{a:Addr}{o:HO}{t':Nat}(I:Inv X pins σ H s)(k:∀b u,s.heap.get? b=some u->h'.get? b=some u)(hp:s.heap.objs.size<=a)(new:Il X.prog X.w (upd H a o) h' a o):Inv X pins σ (upd H a o) { s with heap:=h',toks:=t' }:=I.un (Un.laid k hp (I.hok.fresh hp)) (I.hok.laid k hp new)
theorem Inv.write{x e:Addr}{o:HO}{t':Nat}(I:Inv X pins σ H s)(mu:J0 (H x))(he:e=x\/H e=some (.own x))(k:∀b u,b≠e->s.heap.get? b=some u->h'.get? b=some u)(heo:∃u,h'.get? e=some u)(new:Il X.prog X.w (upd H x o) h' x o):Inv X pins σ (upd H x o) { s with heap:=h',toks:=t' }:=I.un (Un.write mu he k heo) (I.hok.write mu he k heo new)
theorem Inv.pins_of{pins':List (Addr×Obj)}(I:Inv X pins σ H s)(h:∀p∈pins',s.heap.get? p.1=some p.2/\H p.1=none/\p.1≠X.env.locals/\p.1∉X.fs/\∀v,p.2.data≠.cell v):Inv X pins' σ H s :=
 ⟨I.ok,I.os,I.bare,I.base,I.loc,I.cell,I.free,I.freeC,λp hp=>(Bl.mp hp).elim (λz=>I.pin p (Ay _ z)) (h p),I.hok,I.len⟩
theorem fM{N:List Str}(hN:N.Nodup){i j:Nat}{x:Str}(a:N[i]? = some x)(b:N[j]? = some x):i=j:=by
 obtain ⟨h1,e1⟩:=Ak.mp a
 obtain ⟨h2,e2⟩:=Ak.mp b
 exact (List.getElem_inj hN).mp (e1.trans e2.symm)
theorem mV{M:Model}{A:Cq}{E:Value->Af->Prop}{i:Nat}{x:Str}{v:V}{u:Value}{Q:Unit->Af->Prop}(I:Inv X pins σ H s)(hN:X.N.Nodup)(hi:X.N[i]? = some x)(hx:Loc X.env.scope x)(r:RelV v u)(h:∀s',Inv X pins (σ.set i (some v)) H s'->(∃a,Jd a s.heap s'.heap/\(a=X.env.locals\/X.env.cells.lookup x=some a))->Q () s')(hf:X.fn x=true\/X.env.scope.names.lookup x=some .local:=by first | exact .inl rfl | exact .inr rfl | assumption):wpAny M A (storeName X.env x u) Q E s:=by
 obtain ⟨m,hn,hl⟩:=id I.loc
 have hcls:(X.env.scope.kind == .class || (X.env.scope.kind == .module && X.env.locals != X.env.globals))=false:=by rw[I.ok.kind]; rfl
 have hiσ:i<σ.length:=by rw[I.len]; exact (Ak.mp hi).1
 have cne:=I.cne
 have tracked:∀{a:Addr} {h':Heap},(∃o,s.heap.get? a=some o/\H a=none)->Jd a s.heap h'->Uh X.prog X.w H h':=λ{a h'} ha hs b ob e=>by
  obtain ⟨_,_,hfree⟩:=ha
  refine (I.hok b ob e).stay (λc w' hc q=>(hs.2 c ?_).trans q) (λ_ q=>q) λ_ _ q=>q
  rintro rfl
  rcases hc with rfl | hc
  ·rw[hfree] at e; cases e
  ·rw[hfree] at hc; cases hc
 rcases hx with hk | hk
 ·refine wpAny_storeName_local hk hn (λh' hn' hs=>?_) hcls
  obtain ⟨oL,_,_,hoL,_⟩:=id hn
  refine h _ ⟨I.ok,I.os,I.bare,⟨λb o e n hb hx=>?_,λb o e n hb hx=>?_,I.base.free,λb o e hx=>?_,I.base.tups,I.base.frzs,I.base.tbls⟩,⟨_,hn',λj y v' e1 e2 e3=>?_⟩,λy c e=>?_,I.free,I.freeC,λp hp=>?_,tracked ⟨oL,hoL,I.free⟩ hs,by simpa using I.len⟩ ⟨_,hs,.inl rfl⟩
  ·exact (hs.2 b (Cf (Cc (Bc e) I.ok.above))).trans (I.base.keep b o e n hb hx)
  ·obtain ⟨sl,e1⟩:=I.base.slot b o e n hb hx
   exact ⟨sl,(hs.2 b (Cf (Cc (Bc e) I.ok.above))).trans e1⟩
  ·obtain ⟨o',e1⟩:=I.base.there b o e hx
   exact ⟨o',(hs.2 b (Cf (Cc (Bc e) I.ok.above))).trans e1⟩
  ·by_cases hj:j=i
   ·subst hj
    rw[hi] at e1; cases e1
    rw[jW hiσ] at e2
    cases e2
    exact ⟨u,r,.inl ⟨hk,by simp⟩⟩
   ·rw[List.getElem?_set_ne (Ln hj)] at e2
    obtain ⟨u',r',q⟩:=hl j y v' e1 e2 e3
    refine ⟨u',r',?_⟩
    rcases q with ⟨k,e⟩ | ⟨k,c,e,z⟩
    ·refine .inl ⟨k,?_⟩
     have : y≠x:=λe=>hj (fM hN e1 (e▸hi))
     simp [this,e]
    ·exact .inr ⟨k,c,e,z.sameBut hs (cne y c e)⟩
  ·obtain ⟨w',z⟩:=I.cell y c e
   exact ⟨w',z.sameBut hs (cne y c e)⟩
  ·obtain ⟨e,n,ne,nf,d⟩:=I.pin p hp
   exact ⟨(hs.2 p.1 ne).trans e,n,ne,nf,d⟩
 ·have hfn:X.fn x=true:=by
   rcases hf with z | z
   ·exact z
   ·rw[z] at hk; cases hk
  obtain ⟨c,hc⟩:=I.ok.has x (.inl hk)
  obtain ⟨w',z⟩:=I.cell x c hc
  refine wpAny_storeName_cell I.ok.kind hk hc z (λh' hc' hs=>?_)
  obtain ⟨oc,hoc,hocd⟩:=id z
  refine h { s with heap:=h' } ⟨I.ok,I.os,I.bare,⟨λb o e n hb hx=>?_,λb o e n hb hx=>?_,I.base.free,λb o e hx=>?_,I.base.tups,I.base.frzs,I.base.tbls⟩,⟨m,hn.sameBut hs (Ln (cne x c hc)),λj y v' e1 e2 e3=>?_⟩,λy c' e=>?_,I.free,I.freeC,λp hp=>?_,tracked ⟨oc,hoc,I.freeC x c hc⟩ hs,by simpa using I.len⟩ ⟨c,hs,.inr hc⟩
  ·exact (hs.2 b (Cf (Cc (Bc e) (I.ok.cab x c hfn hc)))).trans (I.base.keep b o e n hb hx)
  ·obtain ⟨sl,e1⟩:=I.base.slot b o e n hb hx
   exact ⟨sl,(hs.2 b (Cf (Cc (Bc e) (I.ok.cab x c hfn hc)))).trans e1⟩
  ·obtain ⟨o',e1⟩:=I.base.there b o e hx
   exact ⟨o',(hs.2 b (Cf (Cc (Bc e) (I.ok.cab x c hfn hc)))).trans e1⟩
  ·by_cases hj:j=i
   ·subst hj
    rw[hi] at e1; cases e1
    rw[jW hiσ] at e2
    cases e2
    exact ⟨u,r,.inr ⟨.inl hk,c,hc,hc'⟩⟩
   ·rw[List.getElem?_set_ne (Ln hj)] at e2
    obtain ⟨u',r',q⟩:=hl j y v' e1 e2 e3
    refine ⟨u',r',?_⟩
    rcases q with q | ⟨k,c',e,z'⟩
    ·exact .inl q
    ·refine .inr ⟨k,c',e,z'.sameBut hs ?_⟩
     rintro rfl
     exact hj (fM hN e1 (I.ok.inj _ _ _ e hc▸hi))
  ·by_cases hcc:c'=c
   ·subst hcc; exact ⟨_,hc'⟩
   ·obtain ⟨w2,z2⟩:=I.cell y c' e
    exact ⟨w2,z2.sameBut hs hcc⟩
  ·obtain ⟨e,n,ne,nf,d⟩:=I.pin p hp
   refine ⟨(hs.2 p.1 ?_).trans e,n,ne,nf,d⟩
   intro q
   rw[q,hoc] at e
   have q':oc=p.2:=Bj e
   exact d w' (by rw[<- q']; exact hocd)
theorem gV{M:Model}{A:Cq}{E:Value->Af->Prop}{i:Nat}{x:Str}{v:V}{u:Value}{Q:Unit->Af->Prop}(I:Inv X pins σ H s)(hN:X.N.Nodup)(hi:X.N[i]? = some x)(hx:Loc X.env.scope x)(r:RelV v u)(h:∀s',Inv X pins (σ.set i (some v)) H s'->Q () s')(hf:X.fn x=true\/X.env.scope.names.lookup x=some .local:=by first | exact .inl rfl | exact .inr rfl | assumption):wpAny M A (storeName X.env x u) Q E s :=
 mV I hN hi hx r (λs' I' _=>h s' I') hf
theorem Inv.call'{s':Af}{ch:List Addr}(I:Inv X pins σ H s)(ho:s'.os=s.os)(u:Un (nS X.stack) ch H H' s.heap s'.heap)(hok:Uh X.prog X.w H' s'.heap)(hg:Py s'.gens)(hch:∀b∈ch,(b∈X.ex\/X.s₀.heap.objs.size<=b)/\b≠X.env.locals/\(∀x c,X.env.cells.lookup x=some c->c≠b)/\∀p∈X.pn++pins,p.1≠b):Inv X pins σ H' s':=by
 obtain ⟨h',g',d',t',o'⟩:=s'
 have e:o'=s.os:=ho
 subst e
 exact I.call (g':=g') (t':=t') (d':=d') u hok hg hch
end
abbrev XK:=Value->Option Addr->Hp->Prop
abbrev St:=List (Option V)
abbrev VK:=V->Hp->Prop
abbrev TE:=St->Hp->VK->Prop
abbrev TT:=St->Hp->(Bool->Hp->Prop)->Prop
abbrev TA:=St->Hp->(List V->Hp->Prop)->Prop
structure Ends where
 nx:St->Hp->Prop
 rt:VK
 bk:St->Hp->Prop:=λ_ _=>False
 ct:St->Hp->Prop:=λ_ _=>False
abbrev TS:=Ends->St->Hp->Prop
def EP(X:Cx)(pins:List (Addr×Obj))(σ:St)(Q:VK)(u:Value)(s':Af):Prop:=∃v H',Inv X pins σ H' s'/\RelV v u/\Q v H'
def TP(X:Cx)(pins:List (Addr×Obj))(σ:St)(Q:Bool->Hp->Prop)(b:Bool)(s':Af):Prop:=∃H',Inv X pins σ H' s'/\Q b H'
def AP(X:Cx)(pins:List (Addr×Obj))(σ:St)(Q:List V->Hp->Prop)(us:List Value)(s':Af):Prop:=∃vs H',Inv X pins σ H' s'/\Ep vs us/\Q vs H'
def SP(X:Cx)(pins:List (Addr×Obj))(D:Ends)(f:Flow)(s':Af):Prop :=
 match f with
 | .next=>∃σ' H',Inv X pins σ' H' s'/\D.nx σ' H'
 | .brk=>∃σ' H',Inv X pins σ' H' s'/\D.bk σ' H'
 | .cont=>∃σ' H',Inv X pins σ' H' s'/\D.ct σ' H'
 | .ret u=>∃v σ' H',Inv X pins σ' H' s'/\RelV v u/\D.rt v H'
def PE(X:Cx)(e:Expr)(t:TE):Prop :=
 ∀(pins:List (Addr×Obj)) (s:Af) (σ:St) (H:Hp) (Q:VK),Inv X pins σ H s->t σ H Q->wpAny (model X.prog X.w) X.A (eval e X.env) (EP X pins σ Q) X.xe s
def PT(X:Cx)(e:Expr)(t:TT):Prop :=
 ∀(pins:List (Addr×Obj)) (s:Af) (σ:St) (H:Hp) (Q:Bool->Hp->Prop),Inv X pins σ H s->t σ H Q->wpAny (model X.prog X.w) X.A (isTrue e X.env (eval e X.env)) (TP X pins σ Q) X.xe s
def PW(X:Cx)(e:Expr)(t:TT):Prop :=
 ∀(whole:Sem Value) (pins:List (Addr×Obj)) (s:Af) (σ:St) (H:Hp) (Q:Bool->Hp->Prop),Inv X pins σ H s->t σ H Q->wpAny (model X.prog X.w) X.A (isTrue e X.env whole) (TP X pins σ Q) X.xe s
theorem PW.pt{X:Cx}{e:Expr}{t:TT}(h:PW X e t):PT X e t:=h _
def PA(X:Cx)(es:List Expr)(t:TA):Prop :=
 ∀(pos:Pos) (pins:List (Addr×Obj)) (s:Af) (σ:St) (H:Hp) (Q:List V->Hp->Prop),Inv X pins σ H s->t σ H Q->wpAny (model X.prog X.w) X.A (spliced (Gx pos (Bo es X.env))) (AP X pins σ Q) X.xe s
def PS(X:Cx)(st:Stmt)(t:TS):Prop :=
 ∀(pins:List (Addr×Obj)) (s:Af) (σ:St) (H:Hp) (D:Ends),Inv X pins σ H s->t D σ H->wpAny (model X.prog X.w) X.A (exec st X.env) (SP X pins D) X.xe s
def jL(X:Cx)(st:List Stmt)(t:TS):Prop :=
 ∀(pins:List (Addr×Obj)) (s:Af) (σ:St) (H:Hp) (D:Ends),Inv X pins σ H s->t D σ H->wpAny (model X.prog X.w) X.A (execs st X.env) (SP X pins D) X.xe s
theorem Gk{α:Type}{t:Sem α}{Q Q':α->Af->Prop}{M:Model}{A:Cq}{E:Value->Af->Prop}{s:Af}(h:wpAny M A t Q E s)(hQ:∀a s,Q a s->Q' a s):wpAny M A t Q' E s:=En h hQ λ_ _ x=>x
section
variable{X:Cx}
theorem U4{a b:Expr}{ta tb:TE}(ha:PE X a ta)(hb:PE X b tb){pins:List (Addr×Obj)}{s:Af}{σ:St}{H:Hp}{R:V->V->Hp->Prop}(I:Inv X pins σ H s)(h:ta σ H λx H1=>tb σ H1 λy H2=>R x y H2){α:Type}{Q:α->Af->Prop}{f:Value->Value->Sem α}(hf:∀v u s2 x y H2,Inv X pins σ H2 s2->RelV x v->RelV y u->R x y H2->wpAny (model X.prog X.w) X.A (f v u) Q X.xe s2):wpAny (model X.prog X.w) X.A (eval a X.env) (λv s₁=>wpAny (model X.prog X.w) X.A (eval b X.env) (λu s₂=>wpAny (model X.prog X.w) X.A (f v u) Q X.xe s₂) X.xe s₁) X.xe s:=by
 refine Gk (ha pins s σ H _ I h) λv s1 q0_ => ?_
 obtain ⟨x,H1,I1,r1,q1⟩ := q0_
 refine Gk (hb pins s1 σ H1 _ I1 q1) λu s2 q0_ => ?_
 obtain ⟨y,H2,I2,r2,q2⟩ := q0_
 exact hf v u s2 x y H2 I2 r1 r2 q2
def Zw(i:Nat):TE:=λσ H Q=>∃v,σ[i]? = some (some v)/\Q v H
def tC(v:V):TE:=λ_ H Q=>Q v H
theorem zN{i:Nat}{x:Str}{pos:Pos}(hN:X.N[i]? = some x)(hv:M9 X.env.scope x)(hd:(x == ("__debug__" : Str))=false:=by decide)(hcd:(x == ("__classdict__" : Str))=false:=by decide):PE X (.Name x pos) (Zw i):=by
 intro pins s σ H Q I h
 obtain ⟨v,e,h⟩:=h
 obtain ⟨m,hn,hl⟩:=I.loc
 obtain ⟨u,r,l⟩:=hl i x v hN e hv
 have fin:EP X pins σ Q u s:=⟨v,H,I,r,h⟩
 rcases l with ⟨hk,hm⟩ | ⟨hk,c,hc,hcell⟩
 ·exact Zc (wpAny_loadName_local I.ok.kind hk hn hm fin) hd
 ·rcases hk with hk | hk
  ·exact Zc (wpAny_loadName_cell I.ok.kind hk hc hcell fin) hd
  ·exact Zc (wpAny_loadName_free I.ok.kind hk hc hcell fin hcd) hd
theorem Cw{i j pos}:PE X (.Constant (.int i) j pos) (tC (.int i)):=λ_ _ _ H _ I h=>wpAny_Constant_int ⟨.int i,H,I.tok _,⟨_,rfl⟩,h⟩
theorem qL{b j pos}:PE X (.Constant (.bool b) j pos) (tC (.bl b)):=λ_ _ _ H _ I h=>Constant_bool ⟨.bl b,H,I,rfl,h⟩
def Gl(X:Cx)(x:Str):Prop:=X.env.kindOf x=some .globalImplicit
theorem lH{E:Value->Af->Prop}{pins:List (Addr×Obj)}{s:Af}{σ:St}{H:Hp}{x:Str}{u:Value}{pos:Pos}{Q:Value->Af->Prop}(I:Inv X pins σ H s)(hg:Gl X x)(hm:X.mg x=some u)(h:Q u s)(hd:(x == ("__debug__" : Str))=false:=by decide):wpAny (model X.prog X.w) X.A (eval (.Name x pos) X.env) Q E s :=
 Ms I.ok.kind hg (Calls.loadGlobal_global (by rw[I.ok.glob]; exact I.mod.glob.keeps I.bk) hm h) hd
theorem Pd{E:Value->Af->Prop}{pins:List (Addr×Obj)}{s:Af}{σ:St}{H:Hp}{x:Str}{u:Value}{pos:Pos}{Q:Value->Af->Prop}(I:Inv X pins σ H s)(hg:Gl X x)(hm:X.mg x=none)(hv:Ld x=some u)(h:Q u s)(hn:x ≠ "__name__" := by decide)(hd:(x == ("__debug__" : Str))=false:=by decide):wpAny (model X.prog X.w) X.A (eval (.Name x pos) X.env) Q E s:=by
 obtain ⟨mb,h1,h2⟩:=I.mod.blt
 exact Ms I.ok.kind hg (dZ (by rw[I.ok.glob]; exact I.mod.glob.keeps I.bk) hm (by rw[I.ok.blt]; exact h1.keeps I.bk) ((h2 x hn).trans hv) h) hd
variable{a b:Expr}{ta tb:TE}{pos:Pos}
def PC(X:Cx)(op:CmpOp)(a b:Expr)(t:TE):Prop :=
 ∀(pins:List (Addr×Obj)) (s:Af) (σ:St) (H:Hp) (Q:VK),Inv X pins σ H s->t σ H Q ->
  wpAny (model X.prog X.w) X.A (eval a X.env) (λv s₁=>wpAny (model X.prog X.w) X.A (eval b X.env) (λu s₂=>wpAny (model X.prog X.w) X.A (Iv op v u) (EP X pins σ Q) X.xe s₂) X.xe s₁) X.xe s
theorem pV(b:Expr){op:CmpOp}(h:op≠.In)(h2:op≠.NotIn):Gj op b=false:=by
 have e1:(op == CmpOp.In)=false:=by cases op <;> first | rfl | exact absurd rfl h
 have e2:(op == CmpOp.NotIn)=false:=by cases op <;> first | rfl | exact absurd rfl h2
 cases b <;> simp [Gj,e1,e2]
def tB(t:TE):TT:=λσ H Q=>t σ H λx H1=>∃c,x=.bl c/\Q c H1
theorem O2{op:CmpOp}{t:TE}(h:PC X op a b t)(h1:Gj op b=false:=by first | exact pV _ (by decide) (by decide) | rfl):PT X (.Compare a [op] [b] pos) (tB t):=by
 intro pins s σ H Q I hw
 refine wpAny_isTrue_Compare1 (Gk (h pins s σ H _ I hw) λv s1 h1=>Gk h1 λu s2 h2=>Gk h2 λc s3 ⟨x,H1,I1,r1,q1⟩=>?_) h1
 obtain ⟨d,rfl,q⟩:=q1
 cases r1
 exact Gy ⟨H1,I1,q⟩
theorem iW{e:Expr}{t:TE}(h:PE X e t)(he:∀whole,isTrue e X.env whole=(do let v <- whole; standAt e.pos; Pu [v] (truthy v)):=by intro _; rfl):PT X e (tB t):=by
 intro pins s σ H Q I hw
 refine isTrue_plain (Gk (h pins s σ H _ I hw) λv s1 ⟨x,H1,I1,r1,q1⟩=>?_) (he _)
 obtain ⟨d,rfl,q⟩:=q1
 cases r1
 exact Gy ⟨H1,I1,q⟩
variable{tA tB':TT}{Gq:List Expr}
def P7(t u:TT):TT:=λσ H Q=>t σ H λc H1=>if c=true then u σ H1 Q else Q false H1
def Q6(t:TT):TT:=λσ H Q=>t σ H λc H1=>Q (!c) H1
theorem wJ(ha:PT X a tA):PW X (.BoolOp .And [a] pos) tA:=by
 intro wh pins s σ H Q I h
 refine isTrue_and (Gk (ha pins s σ H Q I h) λc s1 e=>?_)
 cases c with
 | true=>exact isTrue_and_nil e
 | false=>exact e
theorem o6(ha:PT X a tA)(hb:PW X (.BoolOp .And (b::Gq) pos) tB'):PW X (.BoolOp .And (a::b::Gq) pos) (P7 tA tB'):=by
 intro wh pins s σ H Q I h
 refine isTrue_and (Gk (ha pins s σ H _ I h) λc s1 q0_ => ?_)
 obtain ⟨H1,I1,q1⟩ := q0_
 cases c with
 | true=>exact hb wh pins s1 σ H1 Q I1 q1
 | false=>exact ⟨H1,I1,q1⟩
theorem zD(ha:PT X a tA):PT X (.UnaryOp .Not a pos) (Q6 tA):=by
 intro pins s σ H Q I h
 exact isTrue_not (ha pins s σ H (λc H1=>Q (!c) H1) I h)
end
def Kw(K:PySem.W.Frag)(H:Hp)(a:Addr)(xs:List V):Prop :=
 Rd H a (.lst xs) \/
  ∃(o:Obj) (its:Array Value) (n:Nat),K.lookup a=some o/\o.cls=.type "list" /\ o.dict=none/\o.data=.seq its n/\its.size<=Aq/\Ep xs its.toList
def Rr(K:PySem.W.Frag)(H:Hp)(a:Addr)(xs:List V):Prop :=
 Rd H a (.tup xs) \/
  ∃(o:Obj) (its:Array Value) (n:Nat),K.lookup a=some o/\o.cls=.type "tuple" /\ o.data=.seq its n/\its.size<=Aq/\Ep xs its.toList
def P9:Value->Option V
 | .none=>some .non
 | .bool b=>some (.bl b)
 | .int i _=>some (.int i)
 | .str x _=>some (.str x)
 | .bytes b _=>some (.byt b)
 | .float b _=>some (.flt b)
 | .ref a=>some (.ref a)
 | .type n=>some (.ty n)
 | _=>none
theorem RelV.abs{x:V}{u:Value}(r:RelV x u):P9 u=some x:=by
 cases x with
 | non=>cases r; rfl
 | bl _=>cases r; rfl
 | int _=>obtain ⟨t,rfl⟩:=r; rfl
 | str _=>obtain ⟨t,rfl⟩:=r; rfl
 | byt _=>obtain ⟨t,rfl⟩:=r; rfl
 | flt _=>obtain ⟨t,rfl⟩:=r; rfl
 | ref _=>cases r; rfl
 | ty _=>cases r; rfl
theorem RelV.inj{x y:V}{u:Value}(r:RelV x u)(q:RelV y u):x=y:=Bj (r.abs.symm.trans q.abs)
theorem Ep.inj:∀{xs ys:List V} {us:List Value},Ep xs us->Ep ys us->xs=ys
 | _,_,_,.nil,.nil=>rfl
 | _,_,_,.cons r t,.cons r' t'=>by rw[r.inj r',Ep.inj t t']
section
variable{X:Cx}{pins:List (Addr×Obj)}{σ:St}{H:Hp}{s:Af}{a:Addr}{xs ys:List V}
theorem Kw.of{K:PySem.W.Frag}(h:H a=some (.lst xs)):Kw K H a xs:=.inl (.inl h)
theorem Rr.of{K:PySem.W.Frag}(h:H a=some (.tup xs)):Rr K H a xs:=.inl (.inl h)
theorem Inv.list(I:Inv X pins σ H s)(h:Kw X.K H a xs):∃its:List Value,Ep xs its/\PlainL s.heap a its.toArray/\xs.length<=Aq:=by
 rcases h with h | ⟨o,its,n,hk,hc,hd,hs,hz,r⟩
 ·obtain ⟨z,its,n,r,e⟩:=h.ok I.hok
  exact ⟨its,r,⟨_,n,e,rfl,rfl,rfl⟩,z⟩
 ·refine ⟨its.toList,r,⟨o,n,I.kIn a o hk,hc,hd,by simpa using hs⟩,?_⟩
  have e:=r.length
  simp only[Ax] at e
  omega
theorem Inv.tuple(I:Inv X pins σ H s)(h:Rr X.K H a xs):∃its:List Value,Ep xs its/\IsTup s.heap a its.toArray/\xs.length<=Aq:=by
 rcases h with h | ⟨o,its,n,hk,hc,hs,hz,r⟩
 ·obtain ⟨z,its,r,p⟩:=h.ok I.hok
  exact ⟨its,r,p,z⟩
 ·refine ⟨its.toList,r,⟨o,I.kIn a o hk,hc,n,by simpa using hs⟩,?_⟩
  have e:=r.length
  simp only[Ax] at e
  omega
theorem Inv.list_inj(I:Inv X pins σ H s)(h:Kw X.K H a xs)(h':Kw X.K H a ys):xs=ys:=by
 obtain ⟨its,r,⟨o,n,e,_,_,d⟩,_⟩:=I.list h
 obtain ⟨its',r',⟨o',n',e',_,_,d'⟩,_⟩:=I.list h'
 rw[e] at e'; cases e'
 rw[d] at d'
 injection d' with d1 _
 have : its=its':=by simpa using congrArg Array.toList d1
 subst this
 exact r.inj r'
theorem Inv.tuple_inj(I:Inv X pins σ H s)(h:Rr X.K H a xs)(h':Rr X.K H a ys):xs=ys:=by
 obtain ⟨its,r,⟨o,e,_,n,d⟩,_⟩:=I.tuple h
 obtain ⟨its',r',⟨o',e',_,n',d'⟩,_⟩:=I.tuple h'
 rw[e] at e'; cases e'
 rw[d] at d'
 injection d' with d1 _
 have : its=its':=by simpa using congrArg Array.toList d1
 subst this
 exact r.inj r'
end
abbrev Cx.wish(X:Cx)(E:Value->Af->Prop):Cx:={ X with xe:=E }
abbrev Cx.nox(X:Cx):Cx:=X.wish λ_ _=>False
theorem Cx.Ok.wish{X:Cx}(ok:X.Ok)(E:Value->Af->Prop):(X.wish E).Ok :=
 ⟨ok.mod,ok.kind,ok.glob,ok.blt,ok.above,ok.inj,ok.has,ok.cab,ok.hd,ok.frames,ok.stk,ok.exf,ok.bs,ok.bsz,ok.noex,ok.exfs,ok.funs,ok.frf,ok.tab⟩
theorem Cx.Ok.unwish{X:Cx}{E:Value->Af->Prop}(ok:(X.wish E).Ok):X.Ok :=
 ⟨ok.mod,ok.kind,ok.glob,ok.blt,ok.above,ok.inj,ok.has,ok.cab,ok.hd,ok.frames,ok.stk,ok.exf,ok.bs,ok.bsz,ok.noex,ok.exfs,ok.funs,ok.frf,ok.tab⟩
section
variable{X:Cx}{pins:List (Addr×Obj)}{σ:St}{H:Hp}{s:Af}{E:Value->Af->Prop}
theorem Inv.wish(I:Inv X pins σ H s)(E:Value->Af->Prop):Inv (X.wish E) pins σ H s:=⟨I.ok.wish E,I.os,I.bare,I.base,I.loc,I.cell,I.free,I.freeC,I.pin,I.hok,I.len⟩
theorem Inv.unwish(I:Inv (X.wish E) pins σ H s):Inv X pins σ H s:=⟨I.ok.unwish,I.os,I.bare,I.base,I.loc,I.cell,I.free,I.freeC,I.pin,I.hok,I.len⟩
theorem SP.unwish{D:Ends}{f:Flow}{s':Af}(h:SP (X.wish E) pins D f s'):SP X pins D f s':=by
 cases f with
 | next=>obtain ⟨σ',H',I,q⟩:=h; exact ⟨σ',H',I.unwish,q⟩
 | brk=>obtain ⟨σ',H',I,q⟩:=h; exact ⟨σ',H',I.unwish,q⟩
 | cont=>obtain ⟨σ',H',I,q⟩:=h; exact ⟨σ',H',I.unwish,q⟩
 | ret u=>obtain ⟨v,σ',H',I,r,q⟩:=h; exact ⟨v,σ',H',I.unwish,r,q⟩
theorem jL.nox{st:List Stmt}{t:TS}(h:jL X.nox st t):jL X st t:=λpins s σ H D I hw =>
 En (h pins s σ H D (I.wish _) hw) (λ_ _ q=>q.unwish) λ_ _ z=>Iq z
end
section
variable{X:Cx}{st:Stmt}{Gq:List Stmt}{t u:TS}{e:Expr}{te:TE}{pos:Pos}
def L8:TS:=λD σ H=>D.nx σ H
def O7(t u:TS):TS:=λD σ H=>t { D with nx:=u D } σ H
theorem Wm:jL X [] L8:=λ_ _ σ H _ I h=>wpAny_execs_nil ⟨σ,H,I,h⟩
theorem Eo(h1:PS X st t)(h2:jL X Gq u):jL X (st::Gq) (O7 t u):=by
 intro pins s σ H D I h
 refine wpAny_execs_cons (Gk (h1 pins s σ H { D with nx:=u D } I h) λf s1 q=>?_)
 cases f with
 | next =>
  obtain ⟨σ',H',I',q⟩:=q
  exact h2 pins s1 σ' H' D I' q
 | ret v=>exact q
 | brk=>exact q
 | cont=>exact q
theorem Jt(h1:PS X st t):jL X [st] t:=by
 intro pins s σ H D I h
 refine wpAny_execs_cons (Gk (h1 pins s σ H D I h) λf s1 q=>?_)
 cases f with
 | next=>exact wpAny_execs_nil q
 | ret v=>exact q
 | brk=>exact q
 | cont=>exact q
theorem Inv.quiet{pins:List (Addr×Obj)}{σ:St}{H:Hp}{s:Af}(I:Inv X pins σ H s):interactive X.env=false:=by simp [interactive,I.ok.kind]
def G6(te:TE):TS:=λD σ H=>te σ H λ_ H1=>D.nx σ H1
theorem kB(he:PE X e te)(hs:Kv e none pos.line X.env=pure false:=by rfl):PS X (.Expr e pos) (G6 te):=by
 intro pins s σ H D I h
 exact wpAny_Expr_any (Gk (he pins s σ H _ I h) λv s1 ⟨x,H1,I1,r1,q1⟩=>⟨σ,H1,I1,q1⟩) I.quiet hs
def P3(te:TE):TS:=λD σ H=>te σ H D.rt
theorem Nu(he:PE X e te):PS X (.Return (some e) pos) (P3 te):=by
 intro pins s σ H D I h
 exact wpAny_Return_some (Gk (he pins s σ H _ I h) λv s1 ⟨x,H1,I1,r1,q1⟩=>⟨x,σ,H1,I1,r1,q1⟩)
def O5(c:TT)(t u:TS):TS:=λD σ H=>c σ H λb H1=>if b=true then t D σ H1 else u D σ H1
theorem lN{c:Expr}{a b:List Stmt}{tc:TT}(hc:PT X c tc)(ha:jL X a t)(hb:jL X b u):PS X (.If c a b pos) (O5 tc t u):=by
 intro pins s σ H D I h
 refine wpAny_If (Gk (hc pins s σ H _ I h) λd s1 q0_ => ?_)
 obtain ⟨H1,I1,q1⟩ := q0_
 cases d with
 | true=>exact ha pins s1 σ H1 D I1 q1
 | false=>exact hb pins s1 σ H1 D I1 q1
end
abbrev TG:=V->St->Hp->(St->Hp->Prop)->Prop
abbrev n6:=List V->St->Hp->(St->Hp->Prop)->Prop
def PG(X:Cx)(target:Expr)(t:TG):Prop :=
 ∀(pins:List (Addr×Obj)) (s:Af) (σ:St) (H:Hp) (v:V) (u:Value) (Q:St->Hp->Prop),Inv X pins σ H s->RelV v u->t v σ H Q ->
  wpAny (model X.prog X.w) X.A (Vx target X.env u) (λ_ s'=>∃σ' H',Inv X pins σ' H' s'/\Q σ' H') X.xe s
def N5(X:Cx)(ts:List Expr)(t:n6):Prop :=
 ∀(pins:List (Addr×Obj)) (s:Af) (σ:St) (H:Hp) (vs:List V) (us:List Value) (Q:St->Hp->Prop),Inv X pins σ H s->Ep vs us->t vs σ H Q ->
  wpAny (model X.prog X.w) X.A (assignInOrder ((Oj ts X.env).map (·.2)) us) (λ_ s'=>∃σ' H',Inv X pins σ' H' s'/\Q σ' H') X.xe s
abbrev w4:=V->V->V->Hp->(Hp->Prop)->Prop
def K7(X:Cx)(t:w4):Prop :=
 ∀(pins:List (Addr×Obj)) (s:Af) (σ:St) (H:Hp) (o i v:V) (ov iv u:Value) (Q:Hp->Prop),Inv X pins σ H s->RelV o ov->RelV i iv->RelV v u->t o i v H Q ->
  wpAny (model X.prog X.w) X.A (setItem ov iv u) (λ_ s'=>∃H',Inv X pins σ H' s'/\Q H') X.xe s
section
variable{X:Cx}{pos:Pos}
def Vp(i:Nat):TG:=λv σ H Q=>Q (σ.set i (some v)) H
theorem Mm{i:Nat}{x:Str}(hN:X.N.Nodup)(hi:X.N[i]? = some x)(hx:Loc X.env.scope x)(hf:X.fn x=true\/X.env.scope.names.lookup x=some .local:=by first | exact .inl rfl | exact .inr rfl | assumption):PG X (.Name x pos) (Vp i):=by
 intro pins s σ H v u Q I r h
 exact wpAny_assign_Name (gV I hN hi hx r (λs' I'=>⟨_,H,I',h⟩) hf)
def J9:n6:=λvs σ H Q=>vs=[]/\Q σ H
def pD(t:TG)(u:n6):n6:=λvs σ H Q=>∃v r,vs=v::r/\t v σ H λσ' H'=>u r σ' H' Q
theorem vO:N5 X [] J9:=by
 intro pins s σ H vs us Q I r h
 obtain ⟨e,h⟩:=h
 subst e
 cases r
 exact assignInOrder_nil ⟨σ,H,I,h⟩
theorem gB{e:Expr}{es:List Expr}{t:TG}{u:n6}(h1:PG X e t)(h2:N5 X es u)(hs:(Oj (e::es) X.env).map (·.2)=Vx e X.env::(Oj es X.env).map (·.2):=by rfl):N5 X (e::es) (pD t u):=by
 intro pins s σ H vs us Q I r h
 obtain ⟨v,vr,e1,h⟩:=h
 subst e1
 cases r with
 | cons r rr =>
  rw[hs]
  refine assignInOrder_cons (Gk (h1 pins s σ H _ _ _ I r h) λ_ s1 q0_ => ?_)
  obtain ⟨σ1,H1,I1,q1⟩ := q0_
  exact h2 pins s1 σ1 H1 _ _ Q I1 rr q1
def G8(K:PySem.W.Frag)(n:Nat)(t:n6):TG:=λv σ H Q=>∃a xs,v=.ref a/\Rr K H a xs/\xs.length=n/\t xs σ H Q
theorem zT{es:List Expr}{k:Nat}{t:n6}{n:Nat}(hc:X.calm=true)(h:N5 X es t)(hn:(Oj es X.env).length=n:=by rfl)(hst:(Oj es X.env).findIdx? (·.1)=none:=by rfl):PG X (.Tuple es k pos) (G8 X.K n t):=by
 intro pins s σ H v u Q I r hw
 obtain ⟨a,xs,e1,hq,hl,hw⟩:=hw
 subst e1
 cases r
 obtain ⟨its,rv,ht,hz⟩:=I.tuple hq
 refine assign_Tuple_tuple (I.ok.hd hc) ht (by simp [hn,<- hl,rv.length]) hst λh' hx=>?_
 have I1:Inv X pins σ H { s with heap:=h' }:=I.kept (t':=s.toks) λb o e=>hx b o (Cf (Bc e)) e
 exact h pins _ σ H xs _ Q I1 (by simpa using rv) hw
def O6(to ti:TE)(t:w4):TG:=λv σ H Q=>to σ H λo H1=>ti σ H1 λi H2=>t o i v H2 λH3=>Q σ H3
theorem Xw{o i:Expr}{to ti:TE}{t:w4}(ho:PE X o to)(hi:PE X i ti)(hs:K7 X t)
  (ha:∀v,Vx (.Subscript o i pos) X.env v=(do
   let ov <- Pu [v] (eval o X.env)
   let iv <- Pu [v,ov] (eval i X.env)
   standAt pos
   Pu [v,ov,iv] (setItem ov iv v)
   release [v,ov,iv] []):=by intro _; rfl):PG X (.Subscript o i pos) (O6 to ti t):=by
 intro pins s σ H v u Q I r h
 rw[ha]
 refine Ac (Dh (Gk (ho pins s σ H _ I h) λov s1 q0_ => ?_))
 obtain ⟨x,H1,I1,r1,q1⟩ := q0_
 refine Ac (Dh (Gk (hi pins s1 σ H1 _ I1 q1) λiv s2 q0_ => ?_))
 obtain ⟨y,H2,I2,r2,q2⟩ := q0_
 refine Ac (wpAny_standAt (Ac (Dh (Gk (hs pins s2 σ H2 x y v ov iv u _ I2 r1 r2 r q2) λ_ s3 q0_ => ?_))))
 obtain ⟨H3,I3,q3⟩ := q0_
 exact wpAny_release ⟨σ,H3,I3,q3⟩
def uP(te:TE)(g:TG):TS:=λD σ H=>te σ H λx H1=>g x σ H1 D.nx
theorem Xz{tg e:Expr}{te:TE}{g:TG}(he:PE X e te)(hg:PG X tg g)(hs:swapsWithSole [tg] e pos.line X.env=pure false:=by rfl)(hw:swappedStores [tg] e X.env=pure none:=by rfl)(h1:(Oj [tg] X.env).map (·.2)=[Vx tg X.env]:=by rfl):PS X (.Assign [tg] e pos) (uP te g):=by
 intro pins s σ H D I h
 refine wpAny_Assign_stores (Gk (he pins s σ H _ I h) λv s1 ⟨x,H1,I1,r1,q1⟩=>?_) hs hw
 rw[h1]
 exact Gk (hg pins s1 σ H1 x v _ I1 r1 q1) λ_ s2 q=>q
theorem Jr{i:Nat}{x:Str}{e:Expr}{te:TE}{pos':Pos}(hN:X.N.Nodup)(hi:X.N[i]? = some x)(hx:Loc X.env.scope x)(he:PE X e te)(hs:Kv e (some (.Name x pos')) pos.line X.env=pure false:=by rfl)(hf:X.fn x=true\/X.env.scope.names.lookup x=some .local:=by first | exact .inl rfl | exact .inr rfl | assumption):PS X (.Assign [.Name x pos'] e pos) (uP te (Vp i)):=by
 intro pins s σ H D I h
 refine wpAny_Assign_Name (Gk (he pins s σ H _ I h) λv s1 ⟨y,H1,I1,r1,q1⟩=>?_) hs
 exact gV I1 hN hi hx r1 (λs2 I2=>⟨_,H1,I2,q1⟩) hf
end
structure It where
 go:Nat->Hp->Prop
 yld:Nat->Hp->V->Hp->Prop
 stop:Nat->Hp->Prop
def Lv(X:Cx)(pins:List (Addr×Obj))(H:Hp)(b:Addr):Prop :=
 H b=none/\b≠X.env.locals/\b∉X.fs/\(b∈X.ex\/X.s₀.heap.objs.size<=b)/\(∀x c,X.env.cells.lookup x=some c->c≠b)/\∀p∈X.pn++pins,p.1≠b
theorem Inv.fpOk{X:Cx}{pins:List (Addr×Obj)}{σ:St}{H H':Hp}{s:Af}{b:Addr}(I:Inv X pins σ H s)(hb:s.heap.objs.size<=b)(hn:H' b=none):Lv X pins H' b:=by
 refine ⟨hn,Nat.ne_of_gt (Cc I.lt hb),I.nofs hb,.inr (Cg I.sz hb),λx c e z=>?_,λp hp z=>?_⟩
 ·obtain ⟨v,q⟩:=I.cell x c e
  exact absurd (Cc q.lt (by rw[z]; exact hb)) (Ex _)
 ·exact absurd (Cc (Bc (I.pin p hp).1) (by rw[z]; exact hb)) (Ex _)
structure Turn(P:Bu)(w:World)(K:PySem.W.Frag)(tg:Expr)(J:It)(fp:List Addr)(it:Addr)(tn:Nat->Heap->Prop):Prop where
 mem:it∈fp
 obj:∀i h,tn i h->∀b∈fp,∃o,h.get? b=some o/\∀v,o.data≠.cell v
 keep:∀i h h',tn i h->(∀b∈fp,∀o,h.get? b=some o->h'.get? b=some o)->tn i h'
 item:∀(X:Cx),X.prog=P->X.w=w->X.K=K->X.calm=true->∀(i:Nat) (pins:List (Addr×Obj)) (s:Af) (σ:St) (H:Hp) (E:Value->Af->Prop),Inv X pins σ H s->(∀b∈fp,Lv X pins H b)->tn i s.heap->J.go i H ->
  wpAny (model P w) X.A (Se (.ref it)) (λr s1=>∃u,r=some u /\
   wpAny (model P w) X.A (Tv tg (.ref it) u) (λ_ s2=>∃x H',Inv X pins σ H' s2/\RelV x u/\J.yld i H x H'/\tn (i+1) s2.heap/\∀b∈fp,H' b=none) E s1) E s
 done:∀(X:Cx),X.prog=P->X.w=w->X.K=K->X.calm=true->∀(i:Nat) (pins:List (Addr×Obj)) (s:Af) (σ:St) (H:Hp) (E:Value->Af->Prop),Inv X pins σ H s->(∀b∈fp,Lv X pins H b)->tn i s.heap->J.stop i H ->
  wpAny (model P w) X.A (Se (.ref it)) (λr s1=>r=none/\Inv X pins σ H s1) E s
 self:∀(A:Cq) (i:Nat) (s:Af) (Q:Value->Af->Prop) (E:Value->Af->Prop),tn i s.heap->Q (.ref it) s->wpAny (model P w) A (pyIter (.ref it)) Q E s
abbrev TI:=St->Hp->(It->Hp->Prop)->Prop
def R3(X:Cx)(pins:List (Addr×Obj))(σ:St)(tg:Expr)(R:It->Hp->Prop)(itv:Value)(s2:Af):Prop :=
 ∃(it:Addr) (fp:List Addr) (tn:Nat->Heap->Prop) (J:It) (H':Hp),itv=.ref it/\Inv X pins σ H' s2/\Turn X.prog X.w X.K tg J fp it tn/\tn 0 s2.heap/\(∀b∈fp,Lv X pins H' b)/\R J H'
def PI(X:Cx)(tg iter:Expr)(wi:TI):Prop :=
 ∀(pins:List (Addr×Obj)) (s:Af) (σ:St) (H:Hp) (R:It->Hp->Prop),Inv X pins σ H s->wi σ H R ->
  wpAny (model X.prog X.w) X.A (eval iter X.env) (λv s1=>wpAny (model X.prog X.w) X.A (pyIter v) (R3 X pins σ tg R) X.xe s1) X.xe s
theorem sT{M:Model}{A:Cq}{E:Value->Af->Prop}{s:Af}{tg:Expr}{it:Addr}{u:Value}{o:Obj}{n:String}{vs:Array Value}{Q:Unit->Af->Prop}(ho:s.heap.get? it=some o)(hc:o.cls=.type n)(hd:o.data=.fields vs)(hn:["enumerate", "zip", "dict_itemiterator", "dict_reverseitemiterator", "odict_iterator", "itertools.zip_longest", "itertools.pairwise"].contains n=false)(hQ:Q () s):wpAny M A (Tv tg (.ref it) u) Q E s:=by
  unfold Tv
  cases tg <;> first
    | exact Bb hQ
    | (cases u <;> first
        | exact Bb hQ
        | (refine Ac (Zb ho ?_)
           rw[hc,hd]
           show wpAny M A (if (["enumerate", "zip", "dict_itemiterator", "dict_reverseitemiterator", "odict_iterator", "itertools.zip_longest", "itertools.pairwise"].contains n && vs[0]? == some (Jw _))=true then _ else _) Q E s
           rw[if_neg (by intro h; rw[hn,Bool.false_and] at h; cases h)]
           exact Bb hQ))
def M5(K:PySem.W.Frag)(a:Addr):It :=
 ⟨λi H=>∃xs x,Kw K H a xs/\xs[i]? = some x,λi H x H'=>H'=H/\∀xs,Kw K H a xs->xs[i]? = some x,λi H=>∃xs,Kw K H a xs/\xs.length<=i⟩
def O9(K:PySem.W.Frag)(a:Addr):It :=
 ⟨λi H=>∃xs x,Rr K H a xs/\xs[i]? = some x,λi H x H'=>H'=H/\∀xs,Rr K H a xs->xs[i]? = some x,λi H=>∃xs,Rr K H a xs/\xs.length<=i⟩
def yP(lo:Int)(n:Nat):It:=⟨λi _=>i<n,λi H x H'=>H'=H/\x=.int (lo+i),λi _=>n<=i⟩
theorem nA{P:Bu}{w:World}{K:PySem.W.Frag}{tg:Expr}(a it:Addr):Turn P w K tg (M5 K a) [it] it (λi h=>h.IsListIter it a i) where
 mem:=by simp
 obj:=λi h st b hb=>by
  have e:b=it:=by simpa using hb
  subst e
  obtain ⟨o,e,c,d⟩:=st
  exact ⟨o,e,λv z=>by rw[d] at z; cases z⟩
 keep:=λi h h' st k=>st.at λo e=>k it (by simp) o e
 item:=by
  intro X hP hw hK hc i pins s σ H E I hf st hg
  subst hP hw hK
  obtain ⟨xs,x,hq,hx⟩:=hg
  obtain ⟨its,rv,p,hz⟩:=I.list hq
  obtain ⟨u,hu,ru⟩:=rv.get hx
  obtain ⟨f0,f1,f2,f3,f4,f5⟩:=hf it (by simp)
  refine wpAny_pyNext_list_item st p.isList (x:=u) (by simpa using hu) λh' st' sb=>?_
  have I1:Inv X pins σ H { s with heap:=h' }:=I.turned (t':=s.toks) (λb o hb e=>(sb.2 b hb).trans e) f0 f1 f3 f4 f5
  obtain ⟨o,e,c,d⟩:=id st'
  exact ⟨u,rfl,sT (s:={ s with heap:=h' }) e c d (by decide) ⟨x,H,I1,ru,⟨rfl,λys hy=>by rw[I.list_inj hy hq]; exact hx⟩,st',λb hb=>(hf b hb).1⟩⟩
 done:=by
  intro X hP hw hK hc i pins s σ H E I hf st hg
  subst hP hw hK
  obtain ⟨xs,hq,hx⟩:=hg
  obtain ⟨its,rv,p,hz⟩:=I.list hq
  obtain ⟨f0,f1,f2,f3,f4,f5⟩:=hf it (by simp)
  have hl:=rv.length
  exact wpAny_pyNext_list_end (I.ok.hd hc) st p.isList (by simp; omega) λh' eb=>⟨rfl,I.turned (t':=s.toks) (λb o hb e=>eb b o hb e) f0 f1 f3 f4 f5⟩
 self:=λ_ _ _ _ _ st h=>wpAny_pyIter_listiter st h
theorem hV{P:Bu}{w:World}{K:PySem.W.Frag}{tg:Expr}(a it:Addr):Turn P w K tg (O9 K a) [it] it (λi h=>h.IsTupleIter it a i) where
 mem:=by simp
 obj:=λi h st b hb=>by
  have e:b=it:=by simpa using hb
  subst e
  obtain ⟨o,e,c,d⟩:=st
  exact ⟨o,e,λv z=>by rw[d] at z; cases z⟩
 keep:=λi h h' st k=>st.at λo e=>k it (by simp) o e
 item:=by
  intro X hP hw hK hc i pins s σ H E I hf st hg
  subst hP hw hK
  obtain ⟨xs,x,hq,hx⟩:=hg
  obtain ⟨its,rv,p,hz⟩:=I.tuple hq
  obtain ⟨u,hu,ru⟩:=rv.get hx
  obtain ⟨f0,f1,f2,f3,f4,f5⟩:=hf it (by simp)
  refine wpAny_pyNext_tuple_item st (show s.heap.IsTuple a its.toArray from p) (x:=u) (by simpa using hu) λh' st' sb=>?_
  have I1:Inv X pins σ H { s with heap:=h' }:=I.turned (t':=s.toks) (λb o hb e=>(sb.2 b hb).trans e) f0 f1 f3 f4 f5
  obtain ⟨o,e,c,d⟩:=id st'
  exact ⟨u,rfl,sT (s:={ s with heap:=h' }) e c d (by decide) ⟨x,H,I1,ru,⟨rfl,λys hy=>by rw[I.tuple_inj hy hq]; exact hx⟩,st',λb hb=>(hf b hb).1⟩⟩
 done:=by
  intro X hP hw hK hc i pins s σ H E I hf st hg
  subst hP hw hK
  obtain ⟨xs,hq,hx⟩:=hg
  obtain ⟨its,rv,p,hz⟩:=I.tuple hq
  obtain ⟨f0,f1,f2,f3,f4,f5⟩:=hf it (by simp)
  have hl:=rv.length
  exact wpAny_pyNext_tuple_end (I.ok.hd hc) st (show s.heap.IsTuple a its.toArray from p) (by simp; omega) λh' eb=>⟨rfl,I.turned (t':=s.toks) (λb o hb e=>eb b o hb e) f0 f1 f3 f4 f5⟩
 self:=λ_ _ _ _ _ st h=>wpAny_pyIter_tupleiter st h
theorem jP{P:Bu}{w:World}{K:PySem.W.Frag}{tg:Expr}(it:Addr)(lo:Int)(n:Nat):Turn P w K tg (yP lo n) [it] it (λi h=>IsRangeIter h it (lo+(i:Nat) * 1) ((n:Int) - (i:Nat)) 1) where
 mem:=by simp
 obj:=λi h st b hb=>by
  have e:b=it:=by simpa using hb
  subst e
  exact ⟨_,st,λv z=>by
   have z':Data.fields _=Data.cell v:=z
   cases z'⟩
 keep:=λi h h' st k=>k it (by simp) _ st
 item:=by
  intro X hP hw hK hc i pins s σ H E I hf st hg
  subst hP hw hK
  obtain ⟨f0,f1,f2,f3,f4,f5⟩:=hf it (by simp)
  have W:=Walks.range (prog:=X.prog) (w:=X.w) (I.ok.hd hc) it lo 1 n
  refine W.item i s _ _ hg st λv h' tk hv st' kk=>?_
  obtain ⟨t,rfl⟩:=hv
  have I1:Inv X pins σ H { s with heap:=h',toks:=tk }:=I.turned (λb o hb e=>kk b o (by simpa using hb) e) f0 f1 f3 f4 f5
  refine ⟨_,rfl,sT (s:={ s with heap:=h',toks:=tk }) (n := "range_iterator") st' rfl rfl (by decide) ⟨.int (lo+i),H,I1,⟨t,?_⟩,⟨rfl,rfl⟩,st',λb hb=>(hf b hb).1⟩⟩
  rw[Int.mul_one]
 done:=by
  intro X hP hw hK hc i pins s σ H E I hf st hg
  subst hP hw hK
  obtain ⟨f0,f1,f2,f3,f4,f5⟩:=hf it (by simp)
  exact wpAny_pyNext_range_end (I.ok.hd hc) st (by have : n<=i:=hg; omega) λh' eb=>⟨rfl,I.turned (t':=s.toks) (λb o hb e=>eb b o hb e) f0 f1 f3 f4 f5⟩
 self:=λ_ _ _ _ _ st h=>wpAny_pyIter_rangeiter st h
section
variable{X:Cx}{tg:Expr}
def J4(K:PySem.W.Frag)(tl:TE):TI:=λσ H R=>tl σ H λx H1=>∃a,x=.ref a/\(∃xs,Kw K H1 a xs)/\R (M5 K a) H1
def P5(K:PySem.W.Frag)(tl:TE):TI:=λσ H R=>tl σ H λx H1=>∃a,x=.ref a/\(∃xs,Rr K H1 a xs)/\R (O9 K a) H1
theorem bV{l:Expr}{tl:TE}(hl:PE X l tl):PI X tg l (J4 X.K tl):=by
 intro pins s σ H R I h
 refine Gk (hl pins s σ H _ I h) λv s1 q0_ => ?_
 obtain ⟨x,H1,I1,r1,q1⟩ := q0_
 obtain ⟨a,e,⟨xs,hq⟩,q⟩:=q1
 subst e
 cases r1
 obtain ⟨its,rv,p,hz⟩:=I1.list hq
 refine wpAny_pyIter_list p.isList ?_
 refine ⟨s1.heap.objs.size,[s1.heap.objs.size],_,_,H1,rfl,I1.kept (t':=s1.toks) λb o e=>Ae _ e,nA a _,⟨_,Bi _ rfl,rfl,rfl⟩,λb hb=>?_,q⟩
 have e:b=s1.heap.objs.size:=by simpa using hb
 subst e
 exact I1.fpOk (Ai _) (I1.hok.fresh (Ai _))
theorem o4{l:Expr}{tl:TE}(hl:PE X l tl):PI X tg l (P5 X.K tl):=by
 intro pins s σ H R I h
 refine Gk (hl pins s σ H _ I h) λv s1 q0_ => ?_
 obtain ⟨x,H1,I1,r1,q1⟩ := q0_
 obtain ⟨a,e,⟨xs,hq⟩,q⟩:=q1
 subst e
 cases r1
 obtain ⟨its,rv,p,hz⟩:=I1.tuple hq
 refine wpAny_pyIter_tuple (show s1.heap.IsTuple a its.toArray from p) ?_
 refine ⟨s1.heap.objs.size,[s1.heap.objs.size],_,_,H1,rfl,I1.kept (t':=s1.toks) λb o e=>Ae _ e,hV a _,⟨_,Bi _ rfl,rfl,rfl⟩,λb hb=>?_,q⟩
 have e:b=s1.heap.objs.size:=by simpa using hb
 subst e
 exact I1.fpOk (Ai _) (I1.hok.fresh (Ai _))
theorem sI{pins:List (Addr×Obj)}{σ:St}{H:Hp}{s:Af}{R:It->Hp->Prop}{E:Value->Af->Prop}{lo hi:Int}{t u v:Tok}{tk:Nat}(I:Inv X pins σ H s)(h1:-(2 ^ 62)<=lo)(h2:lo<2 ^ 62)(h3:-(2 ^ 62)<=hi)(h4:hi<2 ^ 62)(q:R (yP lo (hi - lo).toNat) H):wpAny (model X.prog X.w) X.A (pyIter (.ref s.heap.objs.size)) (R3 X pins σ tg R) E { s with heap:=s.heap.push { cls:=.type "range",data:=.fields #[.int lo t,.int hi u,.int 1 v] },toks:=tk }:=by
 refine wpAny_pyIter_range (IsRange.new ..) (small_one h1 h2 h3 h4) ?_
 have I1:Inv X pins σ H { s with heap:=s.heap.push { cls:=.type "range",data:=.fields #[.int lo t,.int hi u,.int 1 v] },toks:=tk }:=I.kept λb o e=>Ae _ e
 refine ⟨(s.heap.push { cls:=.type "range",data:=.fields #[.int lo t,.int hi u,.int 1 v] }).objs.size,[(s.heap.push { cls:=.type "range",data:=.fields #[.int lo t,.int hi u,.int 1 v] }).objs.size],_,_,H,rfl,
  I1.kept (t':=tk) λb o e=>Ae _ e,jP _ lo (hi - lo).toNat,?_,λb hb=>?_,q⟩
 ·have e1:lo+((0:Nat):Int) * 1=lo:=by simp
  have e2:(((hi - lo).toNat:Nat):Int) - ((0:Nat):Int)=Wj lo hi 1:=by rw[rangeSize_one]; split <;> omega
  show IsRangeIter _ _ (lo+((0:Nat):Int) * 1) ((((hi - lo).toNat:Nat):Int) - ((0:Nat):Int)) 1
  rw[e1,e2]
  exact Bi _ rfl
 ·have e:b=(s.heap.push { cls:=.type "range",data:=.fields #[.int lo t,.int hi u,.int 1 v] }).objs.size:=by simpa using hb
  subst e
  exact I1.fpOk (Ai _) (I1.hok.fresh (Ai _))
def K6(ta:TA):TI:=λσ H R=>ta σ H λvs H1=>∃j:Int,vs=[.int j] /\ -(2 ^ 62)<=j/\j<2 ^ 62/\R (yP 0 j.toNat) H1
theorem Vc{a:Expr}{ta:TA}{p pos:Pos}(hg:Gl X "range")(hm:X.mg "range" = none)(ha:PA X [a] ta)(hs:Bo [a] X.env=[(false,eval a X.env)]:=by rfl):PI X tg (.Call (.Name "range" p) [a] [] pos) (K6 ta):=by
 intro pins s σ H R I h
 refine Call_ (Pd I hg hm boot_range (Fg (Gk (ha pos pins s σ H _ I h) λus s1 ⟨vs,H1,I1,r1,q1⟩=>?_) hs rfl))
 obtain ⟨j,e,q1,q2,q⟩:=q1
 subst e
 cases r1 with
 | cons r rr =>
  cases rr
  obtain ⟨t,rfl⟩:=r
  exact call_range_1 (sI I1 (by omega) (by omega) q1 q2 (by simpa using q))
def R1(wi:TI)(g:TG)(tb:TS):TS:=λD σ H=>wi σ H λJ H1=>∃W:Nat->Nat->St->Hp->Prop,(∃m,W 0 m σ H1)/\∀i m σ H,W i m σ H ->
 (J.stop i H/\D.nx σ H)\/(J.go i H/\∃N:St->Hp->Prop,(∀σ' H',N σ' H'->∃m',m'<m/\W (i+1) m' σ' H')/\∀x H',J.yld i H x H'->g x σ H' λσ2 H2=>tb { D with nx:=N,ct:=N,bk:=D.nx } σ2 H2)
def Rq(fp:List Addr)(h:Heap):List (Addr×Obj):=fp.filterMap λb=>(h.get? b).map λo=>(b,o)
theorem Ht{fp:List Addr}{h:Heap}{b:Addr}{o:Obj}(hb:b∈fp)(e:h.get? b=some o):(b,o)∈Rq fp h:=List.mem_filterMap.mpr ⟨b,hb,by rw[e]; rfl⟩
theorem mB{fp:List Addr}{h:Heap}{p:Addr×Obj}(hp:p∈Rq fp h):p.1∈fp/\h.get? p.1=some p.2:=by
 obtain ⟨b,hb,e⟩:=List.mem_filterMap.mp hp
 cases q:h.get? b with
 | none=>rw[q] at e; cases e
 | some o =>
  rw[q] at e
  have e':(b,o)=p:=Bj e
  subst e'
  exact ⟨hb,q⟩
theorem Inv.pinned{pins:List (Addr×Obj)}{σ:St}{H:Hp}{s:Af}{fp:List Addr}(I:Inv X pins σ H s)(hf:∀b∈fp,Lv X pins H b)(ho:∀b∈fp,∃o,s.heap.get? b=some o/\∀v,o.data≠.cell v):Inv X (pins++Rq fp s.heap) σ H s :=
 I.pins_of λp hp=>(Bl.mp hp).elim (λz=>I.pin p (Ap _ z)) λz=>by
  obtain ⟨hb,e⟩:=mB z
  obtain ⟨f0,f1,f2,_⟩:=hf p.1 hb
  obtain ⟨o,e',d⟩:=ho p.1 hb
  rw[e] at e'; cases e'
  exact ⟨e,f0,f1,f2,d⟩
theorem Inv.unpinned{pins pl:List (Addr×Obj)}{σ:St}{H:Hp}{s:Af}(I:Inv X (pins++pl) σ H s):Inv X pins σ H s:=I.pins_of λp hp=>I.pin p (Ap _ (Ay _ hp))
theorem iT{iter:Expr}{body:List Stmt}{wi:TI}{g:TG}{tb:TS}{pos:Pos}(hp:PassesOwn (model X.prog X.w) X.A X.env X.xe)(hc:X.calm=true)(hi:PI X tg iter wi)(hg:PG X tg g)(hb:jL X body tb)(hs:∀x,Fp iter X.env x=pure x:=by intro _; rfl):PS X (.For tg iter body [] pos) (R1 wi g tb):=by
 intro pins s σ H D I h
 refine wpAny_For (Gk (hi pins s σ H _ I h) λv s1 h1=>Gk h1 λitv s2 h2=>?_) hs
 obtain ⟨it,fp,tn,J,H2,e,I2,T,st2,f2,W,⟨m0,w0⟩,turn⟩:=h2
 subst e
 -- what stays true of the iterator's objects through the loop
 have stat:∀{H':Hp},(∀b∈fp,H' b=none)->∀b∈fp,Lv X pins H' b:=λhn b hb=>⟨hn b hb,(f2 b hb).2⟩
 refine codeAny_forLoop_any (λn s'=>∃i σ' H',Inv X pins σ' H' s'/\tn i s'.heap/\(∀b∈fp,H' b=none)/\W i n σ' H') ?_ m0 ⟨0,σ,H2,I2,st2,λb hb=>(f2 b hb).1,w0⟩
 (intro n s3 q_; obtain ⟨i,σ3,H3,I3,Pq,fr3,w3⟩ := q_)
 rcases turn i n σ3 H3 w3 with ⟨stop,qn⟩ | ⟨go,N,hN,step⟩
 ·refine Mz hp (Gk (T.done X rfl rfl rfl hc i pins s3 σ3 H3 X.xe I3 (stat fr3) Pq stop) λr s4 q0_ => ?_)
  obtain ⟨hr,I4⟩ := q0_
  subst hr
  exact wpAny_execs_nil ⟨σ3,H3,I4,qn⟩
 ·refine Mz hp (Gk (T.item X rfl rfl rfl hc i pins s3 σ3 H3 X.xe I3 (stat fr3) Pq go) λr s4 q0_ => ?_)
  obtain ⟨u,hr,h4⟩ := q0_
  subst hr
  refine Mz hp (Gk h4 λ_ s5 q0_ => ?_)
  obtain ⟨x,H5,I5,r5,y5,st5,fr5⟩ := q0_
  have I5':=I5.pinned (stat fr5) (T.obj _ _ st5)
  refine Mz hp (Gk (hg _ s5 σ3 H5 x u _ I5' r5 (step x H5 y5)) λ_ s6 q0_ => ?_)
  obtain ⟨σ6,H6,I6,q6⟩ := q0_
  refine Mz hp (Gk (hb _ s6 σ6 H6 _ I6 q6) λf s7 q7=>?_)
  have again:∀{σ7:St} {H7:Hp},Inv X (pins++Rq fp s5.heap) σ7 H7 s7->N σ7 H7->∃m,m<n/\∃i σ' H',Inv X pins σ' H' s7/\tn i s7.heap/\(∀b∈fp,H' b=none)/\W i m σ' H':=λ{σ7 H7} I7 n7=>by
   obtain ⟨m',hm,w7⟩:=hN σ7 H7 n7
   refine ⟨m',hm,i+1,σ7,H7,I7.unpinned,T.keep _ _ _ st5 λb hb o e=>(I7.pin (b,o) (Ap _ (Ap _ (Ht hb e)))).1,λb hb=>?_,w7⟩
   obtain ⟨o,e,d⟩:=T.obj _ _ st5 b hb
   exact (I7.pin (b,o) (Ap _ (Ap _ (Ht hb e)))).2.1
  cases f with
  | next=>obtain ⟨σ7,H7,I7,n7⟩:=q7; exact again I7 n7
  | cont=>obtain ⟨σ7,H7,I7,n7⟩:=q7; exact again I7 n7
  | brk=>obtain ⟨σ7,H7,I7,q7⟩:=q7; exact ⟨σ7,H7,I7.unpinned,q7⟩
  | ret v=>obtain ⟨x7,σ7,H7,I7,r7,q7⟩:=q7; exact ⟨x7,σ7,H7,I7.unpinned,r7,q7⟩
end
theorem bA{lo:Int}{n:Nat}{g:TG}{tb:TS}{D:Ends}{σ:St}{H:Hp}(Pv:Nat->St->Hp->Prop)(h0:Pv 0 σ H)(hs:∀i σ H,i<n->Pv i σ H->g (.int (lo+i)) σ H λσ2 H2=>tb { D with nx:=Pv (i+1),ct:=Pv (i+1),bk:=D.nx } σ2 H2)(hd:∀σ H,Pv n σ H->D.nx σ H):∃W:Nat->Nat->St->Hp->Prop,(∃m,W 0 m σ H)/\∀i m σ H,W i m σ H->((yP lo n).stop i H/\D.nx σ H)\/((yP lo n).go i H/\∃N:St->Hp->Prop,(∀σ' H',N σ' H'->∃m',m'<m/\W (i+1) m' σ' H')/\∀x H',(yP lo n).yld i H x H'->g x σ H' λσ2 H2=>tb { D with nx:=N,ct:=N,bk:=D.nx } σ2 H2):=by
 refine ⟨λi m σ H=>m=n - i/\i<=n/\Pv i σ H,⟨n,by simp,Dj _,h0⟩,?_⟩
 (intro i m σ H q_; obtain ⟨rfl,hi,p⟩ := q_)
 by_cases hlt:i<n
 ·refine .inr ⟨hlt,Pv (i+1),λσ' H' p'=>⟨n - (i+1),by omega,rfl,hlt,p'⟩,λx H' y=>?_⟩
  obtain ⟨e,y⟩:=y
  subst e y
  exact hs i σ _ hlt p
 ·have e:i=n:=by omega
  subst e
  exact .inl ⟨Ai _,hd σ H p⟩
abbrev R2:=V->V->Hp->VK->Prop
def Vb(X:Cx)(f:Value->Value->Sem Value)(r:R2):Prop :=
 ∀(pins:List (Addr×Obj)) (s:Af) (σ:St) (H:Hp) (x y:V) (v u:Value) (Q:VK),Inv X pins σ H s->RelV x v->RelV y u->r x y H Q ->
  wpAny (model X.prog X.w) X.A (f v u) (EP X pins σ Q) X.xe s
def Kc(X:Cx)(f:Value)(r:List V->Hp->VK->Prop):Prop :=
 ∀(pins:List (Addr×Obj)) (s:Af) (σ:St) (H:Hp) (xs:List V) (us:List Value) (Q:VK),Inv X pins σ H s->Ep xs us->r xs H Q ->
  wpAny (model X.prog X.w) X.A (call f us) (EP X pins σ Q) X.xe s
def P8(X:Cx)(r:V->Hp->(Bool->Hp->Prop)->Prop):Prop :=
 ∀(pins:List (Addr×Obj)) (s:Af) (σ:St) (H:Hp) (x:V) (v:Value) (Q:Bool->Hp->Prop),Inv X pins σ H s->RelV x v->r x H Q ->
  wpAny (model X.prog X.w) X.A (truthy v) (TP X pins σ Q) X.xe s
def E7(r:R2)(ta tb:TE):TE:=λσ H Q=>ta σ H λx H1=>tb σ H1 λy H2=>r x y H2 Q
def rI(C:Int->Int->Prop)(g:Int->Int->V):R2:=λx y H Q=>∃i j,x=.int i/\y=.int j/\C i j/\Q (g i j) H
def uK(g:Int->Int->V):R2:=λx y H Q=>∃i j,x=.int i/\y=.int j/\Q (g i j) H
section
variable{X:Cx}{a b c:Expr}{ta tb tc:TE}{pos:Pos}
theorem j9(ha:PE X a ta)(hb:PE X b tb){pins:List (Addr×Obj)}{s:Af}{σ:St}{H:Hp}{R:V->V->Hp->Prop}(I:Inv X pins σ H s)(h:ta σ H λx H1=>tb σ H1 λy H2=>R x y H2){Q:Value->Af->Prop}{f:Value->Value->Sem Value}(hf:∀v u s2 x y H2,Inv X pins σ H2 s2->RelV x v->RelV y u->R x y H2->wpAny (model X.prog X.w) X.A (f v u) Q X.xe s2):wpAny (model X.prog X.w) X.A (eval a X.env) (λv s₁=>wpAny (model X.prog X.w) X.A (eval b X.env) (λu s₂=>wpAny (model X.prog X.w) X.A (f v u) Q X.xe s₂) X.xe s₁) X.xe s:=by
 refine Gk (ha pins s σ H _ I h) λv s1 q0_ => ?_
 obtain ⟨x,H1,I1,r1,q1⟩ := q0_
 refine Gk (hb pins s1 σ H1 _ I1 q1) λu s2 q0_ => ?_
 obtain ⟨y,H2,I2,r2,q2⟩ := q0_
 exact hf v u s2 x y H2 I2 r1 r2 q2
theorem Eh{op:Operator}{r:R2}(ho:Vb X (Hl op) r)(ha:PE X a ta)(hb:PE X b tb):PE X (.BinOp a op b pos) (E7 r ta tb):=by
 intro pins s σ H Q I h
 exact wpAny_BinOp (j9 ha hb I h λv u s2 x y H2 I2 rx ry q=>ho pins s2 σ H2 x y v u Q I2 rx ry q)
theorem J3{f:Value->Value->Sem Value}{C:Int->Int->Prop}{g:Int->Int->Int}(rule:∀(i j:Int) (t u:Tok) (s:Af) (Q:Value->Af->Prop) (E:Value->Af->Prop),C i j->Q (.int (g i j) s.toks) { s with toks:=s.toks+1 }->wpAny (model X.prog X.w) X.A (f (.int i t) (.int j u)) Q E s):Vb X f (rI C λi j=>.int (g i j)):=by
 intro pins s σ H x y v u Q I rx ry h
 obtain ⟨i,j,rfl,rfl,hc,q⟩:=h
 obtain ⟨t,rfl⟩:=rx
 obtain ⟨t',rfl⟩:=ry
 exact rule i j t t' s _ _ hc ⟨.int (g i j),H,I.tok _,⟨_,rfl⟩,q⟩
theorem zA{f:Value->Value->Sem Value}{g:Int->Int->Int}(rule:∀(i j:Int) (t u:Tok) (s:Af) (Q:Value->Af->Prop) (E:Value->Af->Prop),Q (.int (g i j) s.toks) { s with toks:=s.toks+1 }->wpAny (model X.prog X.w) X.A (f (.int i t) (.int j u)) Q E s):Vb X f (uK λi j=>.int (g i j)):=by
 intro pins s σ H x y v u Q I rx ry h
 obtain ⟨i,j,rfl,rfl,q⟩:=h
 obtain ⟨t,rfl⟩:=rx
 obtain ⟨t',rfl⟩:=ry
 exact rule i j t t' s _ _ ⟨.int (g i j),H,I.tok _,⟨_,rfl⟩,q⟩
theorem x4{f:Value->Value->Sem Value}{g:Int->Int->Bool}(rule:∀(i j:Int) (t u:Tok) (s:Af) (Q:Value->Af->Prop) (E:Value->Af->Prop),Q (.bool (g i j)) s->wpAny (model X.prog X.w) X.A (f (.int i t) (.int j u)) Q E s):Vb X f (uK λi j=>.bl (g i j)):=by
 intro pins s σ H x y v u Q I rx ry h
 obtain ⟨i,j,rfl,rfl,q⟩:=h
 obtain ⟨t,rfl⟩:=rx
 obtain ⟨t',rfl⟩:=ry
 exact rule i j t t' s _ _ ⟨.bl (g i j),H,I,rfl,q⟩
def i5(i j:Int):Prop:=0<j/\j<1073741824
def q9(i j:Int):Prop:=0<=j/\j<=1000000/\i.natAbs<2 ^ 64
def i7(i j:Int):Prop:=(-(2 ^ 64)<i/\i<2 ^ 64)\/(-(2 ^ 64)<j/\j<2 ^ 64)
theorem i7.ok{i j:Int}(h:i7 i j):IntMulOk i j:=by
 rcases h with ⟨h1,h2⟩ | ⟨h1,h2⟩
 ·exact .of_left (intBits_le_64 h1 h2)
 ·exact .of_right (intBits_le_64 h1 h2)
theorem Nr:Vb X (Hl .Add) (uK λi j=>.int (i+j)):=zA λ_ _ _ _ _ _ _ q=>add_int q
theorem zL:Vb X (Hl .Sub) (uK λi j=>.int (i - j)):=zA λ_ _ _ _ _ _ _ q=>sub_int q
theorem Lp:Vb X (Hl .Mult) (rI i7 λi j=>.int (i * j)):=J3 λ_ _ _ _ _ _ _ hc q=>mul_int q hc.ok
theorem Tg:Vb X (Hl .FloorDiv) (rI i5 λi j=>.int (i / j)):=J3 λi j _ _ _ _ _ hc q=>by
 have h1:(0:Int)<j:=hc.1
 have h2:j<1073741824:=hc.2
 exact floordiv_int (by omega) (by rw[Int.fdiv_eq_ediv_of_nonneg i (by omega)]; exact q) (.inl (PyProof.noPylong_small (by omega)))
theorem Lx:Vb X (Hl .Mod) (rI (λ_ j=>0<j) λi j=>.int (i % j)):=J3 λi j _ _ _ _ _ hc q=>by
 have h1:(0:Int)<j:=hc
 exact mod_int' (by omega) (by rw[Int.fmod_eq_emod_of_nonneg i (by omega)]; exact q)
theorem Rw:Vb X (Hl .Pow) (rI q9 λi j=>.int (i ^ j.toNat)):=J3 λ_ _ _ _ _ _ _ hc q=>pow_int_small hc.1 hc.2.1 hc.2.2 q
theorem j5:Vb X (Hl .BitXor) (uK λi j=>.int (Builtin.bitXor i j)):=zA λ_ _ _ _ _ _ _ q=>xor_int q
end
section
variable{X:Cx}{a b c:Expr}{ta tb tc:TE}{pos:Pos}
theorem B3:Vb X (Iv .Lt) (uK λi j=>.bl (decide (i<j))):=x4 λ_ _ _ _ _ _ _ q=>lt_int q
theorem F6:Vb X (Iv .Gt) (uK λi j=>.bl (decide (j<i))):=x4 λ_ _ _ _ _ _ _ q=>gt_int q
theorem xV:Vb X (Iv .GtE) (uK λi j=>.bl (decide (j<=i))):=x4 λ_ _ _ _ _ _ _ q=>ge_int q
theorem Rt(b:Expr){op:CmpOp}(h:op≠.In:=by decide)(h2:op≠.NotIn:=by decide):Gj op b=false:=by
 have e1:(op == CmpOp.In)=false:=by cases op <;> first | rfl | exact absurd rfl h
 have e2:(op == CmpOp.NotIn)=false:=by cases op <;> first | rfl | exact absurd rfl h2
 cases b <;> simp [Gj,e1,e2]
theorem vT{op:CmpOp}{r:R2}(ho:Vb X (Iv op) r)(ha:PE X a ta)(hb:PE X b tb)(hm:Gj op b=false):PE X (.Compare a [op] [b] pos) (E7 r ta tb):=by
 intro pins s σ H Q I h
 exact wpAny_Compare1 (j9 ha hb I h λv u s2 x y H2 I2 rx ry q=>ho pins s2 σ H2 x y v u Q I2 rx ry q) hm
def F9(t:TE):TT:=λσ H Q=>t σ H λx H'=>∃k,x=.bl k/\Q k H'
theorem jZ{op:CmpOp}{r:R2}(ho:Vb X (Iv op) r)(ha:PE X a ta)(hb:PE X b tb)(hm:Gj op b=false):PT X (.Compare a [op] [b] pos) (F9 (E7 r ta tb)):=by
 intro pins s σ H Q I h
 refine wpAny_isTrue_Compare1 (Gk (ha pins s σ H _ I h) λv s1 ⟨x,H1,I1,r1,q1⟩=>Gk (hb pins s1 σ H1 _ I1 q1) λu s2 ⟨y,H2,I2,r2,q2⟩ =>
  Gk (ho pins s2 σ H2 x y v u _ I2 r1 r2 q2) λc s3 ⟨z,H3,I3,r3,k,e,q3⟩=>?_) hm
 subst e
 cases r3
 exact Gy ⟨H3,I3,q3⟩
def O4(K:PySem.W.Frag)(x:V)(H:Hp)(k:Bool):Prop :=
 match x with
 | .non=>k=false
 | .bl b=>k=b
 | .int i=>k=(i != 0)
 | .str y=>y.length<=Aq/\k=((y.length:Int) != 0)
 | .byt y=>y.size<=Aq/\k=((y.size:Int) != 0)
 | .ref p=>(∃xs,Kw K H p xs/\k = !xs.isEmpty)\/(∃xs,Rr K H p xs/\k = !xs.isEmpty)\/∃kvs,H p=some (.dK kvs)/\k = !kvs.isEmpty
 | _=>False
theorem gY{κ:Type}{kvs:List (κ×V)}{vs:List (κ×Value)}(r:KV kvs vs):(!vs.isEmpty) = !kvs.isEmpty:=by
 cases r <;> rfl
theorem Xh{xs:List V}{its:List Value}(r:Ep xs its):(!its.toArray.isEmpty) = !xs.isEmpty:=by
 cases r <;> simp
theorem Vh:(Aq:Nat)<2 ^ 63:=by rw[Ha]; decide
theorem Q8:P8 X (λx H Q=>∃k,O4 X.K x H k/\Q k H):=by
 intro pins s σ H x v Q I rx h
 obtain ⟨k,e,q⟩:=h
 have hl:=Vh
 have hs:Aq=16777216:=Ha
 cases x with
 | non =>
  cases rx
  have e':k=false:=e
  subst e'
  exact truthy_none ⟨H,I,q⟩
 | bl b =>
  cases rx
  have e':k=b:=e
  subst e'
  exact Gy ⟨H,I,q⟩
 | int i =>
  obtain ⟨t,rfl⟩:=rx
  have e':k=(i != 0):=e
  subst e'
  exact PySem.P.truthy_int ⟨H,I,q⟩
 | str y =>
  obtain ⟨t,rfl⟩:=rx
  obtain ⟨hy,e'⟩ : y.length<=Aq/\k=((y.length:Int) != 0):=e
  subst e'
  exact PySem.P.truthy_str (by omega) ⟨H,I.tok _,q⟩
 | byt y =>
  obtain ⟨t,rfl⟩:=rx
  obtain ⟨hy,e'⟩ : y.size<=Aq/\k=((y.size:Int) != 0):=e
  subst e'
  exact PySem.W.truthy_bytes (by omega) ⟨H,I.tok _,q⟩
 | ref p =>
  cases rx
  have e':(∃xs,Kw X.K H p xs/\k = !xs.isEmpty)\/(∃xs,Rr X.K H p xs/\k = !xs.isEmpty)\/∃kvs,H p=some (.dK kvs)/\k = !kvs.isEmpty:=e
  rcases e' with ⟨xs,hx,e'⟩ | ⟨xs,hx,e'⟩ | ⟨kvs,hx,e'⟩
  ·subst e'
   obtain ⟨its,r,pl,hz⟩:=I.list hx
   have hlen:=r.length
   exact wpAny_truthy_list pl.isList (by simp only[Al]; omega) ⟨H,I.tok _,by rw[Xh r]; exact q⟩
  ·subst e'
   obtain ⟨its,r,pl,hz⟩:=I.tuple hx
   have hlen:=r.length
   exact truthy_tuple pl (by simp only[Al]; omega) ⟨H,I.tok _,by rw[Xh r]; exact q⟩
  ·subst e'
   obtain ⟨hz,hS,vs,r,m⟩ : kvs.length<=Aq/\(p == Jl)=false/\∃vs,KV kvs vs/\s.heap.DictOf (Hd X.prog X.w) p vs:=I.hok p _ hx
   have hlen:kvs.length=vs.length:=Paired.length r
   exact wpAny_truthy_dict hS m (by omega) ⟨H,I.tok _,by rw[gY r]; exact q⟩
 | _=>exact (show False from e).elim
theorem vals1{x:V}{us:List Value}(r:Ep [x] us):∃u,us=[u]/\RelV x u:=by
 cases r with
 | cons r1 r2=>cases r2; exact ⟨_,rfl,r1⟩
theorem vals2{x y:V}{us:List Value}(r:Ep [x,y] us):∃u w',us=[u,w']/\RelV x u/\RelV y w':=by
 cases r with
 | cons r1 r2 =>
  cases r2 with
  | cons r3 r4=>cases r4; exact ⟨_,_,rfl,r1,r3⟩
theorem lX(hc:X.calm=true):Kc X (.builtin "max") (λxs H Q=>∃i j,xs=[.int i,.int j]/\Q (.int (if j > i then j else i)) H):=by
 intro pins s σ H xs us Q I r h
 obtain ⟨i,j,rfl,q⟩:=h
 obtain ⟨u,w',rfl,⟨t,rfl⟩,⟨t',rfl⟩⟩:=vals2 r
 refine max_two_ints (I.ok.hd hc) λh' tk k=>⟨_,H,I.kept k,?_,q⟩
 by_cases hj:j > i
 ·rw[if_pos hj,if_pos hj]; exact ⟨_,rfl⟩
 ·rw[if_neg hj,if_neg hj]; exact ⟨_,rfl⟩
theorem aX(hc:X.calm=true):Kc X (.builtin "min") (λxs H Q=>∃i j,xs=[.int i,.int j]/\Q (.int (if j<i then j else i)) H):=by
 intro pins s σ H xs us Q I r h
 obtain ⟨i,j,rfl,q⟩:=h
 obtain ⟨u,w',rfl,⟨t,rfl⟩,⟨t',rfl⟩⟩:=vals2 r
 refine min_two_ints (I.ok.hd hc) λh' tk k=>⟨_,H,I.kept k,?_,q⟩
 by_cases hj:j<i
 ·rw[if_pos hj,if_pos hj]; exact ⟨_,rfl⟩
 ·rw[if_neg hj,if_neg hj]; exact ⟨_,rfl⟩
theorem Ql:Kc X (.type "int") (λxs H Q=>(∃i,xs=[.int i]/\Q (.int i) H)\/∃k,xs=[.bl k]/\Q (.int (if k then 1 else 0)) H):=by
 intro pins s σ H xs us Q I r h
 rcases h with ⟨i,rfl,q⟩ | ⟨k,rfl,q⟩
 ·obtain ⟨u,rfl,t,rfl⟩:=vals1 r
  exact call_int_int ⟨.int i,H,I,⟨_,rfl⟩,q⟩
 ·obtain ⟨u,rfl,r1⟩:=vals1 r
  cases r1
  exact call_int_bool ⟨.int (if k then 1 else 0),H,I.tok _,⟨_,rfl⟩,q⟩
def E1(K:PySem.W.Frag)(x:V)(H:Hp)(n:Nat):Prop :=
 match x with
 | .str y=>y.length<=Aq/\n=y.length
 | .byt y=>y.size<=Aq/\n=y.size
 | .ref p=>(∃xs,Kw K H p xs/\n=xs.length)\/∃xs,Rr K H p xs/\n=xs.length
 | _=>False
theorem Sz:Kc X (.builtin "len") (λxs H Q=>∃x n,xs=[x]/\E1 X.K x H n/\Q (.int n) H):=by
 intro pins s σ H xs us Q I r h
 obtain ⟨x,n,rfl,e,q⟩:=h
 obtain ⟨u,rfl,rx⟩:=vals1 r
 have hl:=Vh
 have hs:Aq=16777216:=Ha
 cases x with
 | str y =>
  obtain ⟨t,rfl⟩:=rx
  obtain ⟨hy,e'⟩ : y.length<=Aq/\n=y.length:=e
  subst e'
  exact len_str (by omega) ⟨.int _,H,I.tok _,⟨_,rfl⟩,q⟩
 | byt y =>
  obtain ⟨t,rfl⟩:=rx
  obtain ⟨hy,e'⟩ : y.size<=Aq/\n=y.size:=e
  subst e'
  exact PySem.W.len_bytes (by omega) ⟨.int _,H,I.tok _,⟨_,rfl⟩,q⟩
 | ref p =>
  cases rx
  have e':(∃xs,Kw X.K H p xs/\n=xs.length)\/∃xs,Rr X.K H p xs/\n=xs.length:=e
  rcases e' with ⟨xs,hx,e'⟩ | ⟨xs,hx,e'⟩
  ·subst e'
   obtain ⟨its,r',pl,hz⟩:=I.list hx
   have hlen:=r'.length
   exact Calls.call_len_list pl.isList (by simp only[Al]; omega) ⟨.int xs.length,H,I.tok _,⟨_,by simp only[Al]; rw[hlen]⟩,q⟩
  ·subst e'
   obtain ⟨its,r',pl,hz⟩:=I.tuple hx
   have hlen:=r'.length
   exact len_tuple pl (by simp only[Al]; omega) ⟨.int xs.length,H,I.tok _,⟨_,by simp only[Al]; rw[hlen]⟩,q⟩
 | _=>exact (show False from e).elim
end
theorem oB.some_of{v:V}{o:Option Value}(r:oB (some v) o):∃u,o=some u/\RelV v u:=by
 cases o with
 | none=>exact (show False from r).elim
 | some u=>exact ⟨u,rfl,r⟩
structure Room(k:Nat)(A:Cq):Prop where
 hd:A.handled=none
 dp:A.depth+3 * k+5<Vv
 un:A.units+16 * k+200<cLine
 gd:A.guards=some []
theorem Room.mono{j k:Nat}{A:Cq}(r:Room k A)(h:j<=k):Room j A:=⟨r.hd,by have:=r.dp; omega,by have:=r.un; omega,r.gd⟩
theorem Room.deeper{k:Nat}{A:Cq}(r:Room (k+1) A)(env:Env):Room k (A.deeper env) :=
 ⟨r.hd,by have:=r.dp; show A.depth+1+3 * k+5<_; omega,by have:=r.un; show A.units+3+16 * k+200<_; omega,r.gd⟩
theorem Room.depth{k:Nat}{A:Cq}(r:Room k A):A.depth<Vv:=by have:=r.dp; omega
theorem Room.units{k:Nat}{A:Cq}(r:Room k A):A.units+64<cLine:=by have:=r.un; omega
def A9:TA:=λ_ H Q=>Q [] H
def K2(ta:TE)(tr:TA):TA:=λσ H Q=>ta σ H λx H1=>tr σ H1 λxs H2=>Q (x::xs) H2
section
variable{X:Cx}{e:Expr}{es:List Expr}{te:TE}{t:TA}{pos:Pos}
theorem Hw:PA X [] A9:=λ_ _ _ _ H Q I h=>Vy ⟨[],H,I,.nil,h⟩
theorem Fd(ha:PE X e te)(hr:PA X es t)(hs:Bo (e::es) X.env=(false,eval e X.env)::Bo es X.env:=by rfl):PA X (e::es) (K2 te t):=by
 intro pos pins s σ H Q I h
 rw[hs]
 show wpAny _ _ (spliced ((false,eval e X.env)::Gx pos (Bo es X.env))) _ _ s
 refine Uc (Gk (ha pins s σ H _ I h) λu s1 q0_ => ?_)
 obtain ⟨x,H1,I1,r1,q1⟩ := q0_
 exact Gk (hr pos pins s1 σ H1 _ I1 q1) λus s2 ⟨xs,H2,I2,r2,q2⟩=>⟨x::xs,H2,I2,.cons r1 r2,q2⟩
def N6(t:TA):TE:=λσ H Q=>t σ H λxs H1=>xs.length<=Aq/\∀p,H1 p=none->Q (.ref p) (upd H1 p (.tup xs))
def P6(t:TA):TE:=λσ H Q=>t σ H λxs H1=>xs.length<=Aq/\∀p,H1 p=none->Q (.ref p) (upd H1 p (.lst xs))
theorem Yn{x1}(h:PA X es t):PE X (.Tuple es x1 pos) (N6 t):=by
 intro pins s σ H Q I hq
 refine wpAny_Tuple_spliced (Gk (h pos pins s σ H _ I hq) λus s1 ⟨xs,H1,I1,r,z,q⟩=>⟨by rw[<- r.length]; exact z,?_⟩)
 have hf:H1 s1.heap.objs.size=none:=I1.hok.fresh (Ai _)
 refine ⟨.ref s1.heap.objs.size,upd H1 s1.heap.objs.size (.tup xs),I1.laid (t':=s1.toks) (λb u e=>Ae _ e) (Ai _) ?_,rfl,q _ hf⟩
 exact ⟨z,us,r,⟨_,Bi _ rfl,rfl,_,rfl⟩⟩
theorem Yu(h:PA X es t):PE X (.List es pos) (P6 t):=by
 intro pins s σ H Q I hq
 refine wpAny_List_spliced (Gk (h pos pins s σ H _ I hq) λus s1 ⟨xs,H1,I1,r,z,q⟩=>⟨by rw[<- r.length]; exact z,?_⟩)
 have hf:H1 s1.heap.objs.size=none:=I1.hok.fresh (Ai _)
 refine ⟨.ref s1.heap.objs.size,upd H1 s1.heap.objs.size (.lst xs),I1.laid (t':=s1.toks) (λb u e=>Ae _ e) (Ai _) ?_,rfl,q _ hf⟩
 exact ⟨z,us,0,r,Bi _ rfl⟩
end
abbrev Sp:=List V->Hp->VK->XK->Prop
abbrev oN:=List Env->Hp->Af->XK->Value->Af->Prop
structure Env0(P:Bu)(w:World)(K:PySem.W.Frag)(mg:Str->Option Value)(base:Heap)(A:Cq)(outer:List Env)(s:Af)(H:Hp):Prop where
 frames:A.frames=some outer
 mod:Mod K mg base
 bs:∀b o,base.get? b=some o->s.heap.get? b=some o/\H b=none
 bsz:base.objs.size<=s.heap.objs.size
 funs:s.heap.FunFrames base outer
 frf:∀b∈nS outer,H b=none
 hok:Uh P w H s.heap
 bare:Py s.gens
 tab:oW K mg base H
def CE(outer:List Env)(P:Bu)(w:World)(H:Hp)(s:Af)(Q:VK)(u:Value)(s':Af):Prop :=
 ∃v H',s'.os=s.os/\Py s'.gens/\Un (nS outer) [] H H' s.heap s'.heap/\Uh P w H' s'.heap/\RelV v u/\Q v H'
def CR(CX:oN)(outer:List Env)(P:Bu)(w:World)(H:Hp)(s:Af)(Q:VK)(E:XK)(r:Result)(s':Af):Prop :=
 match r with
 | .ok (.ret u)=>CE outer P w H s Q u s'
 | .ok _=>False
 | .error e=>CX outer H s E e s'
structure FnOk(P:Bu)(w:World)(K:PySem.W.Frag)(mg:Str->Option Value)(base:Heap)(CX:oN)(k:Nat)(f:Addr)(fd:Bz)(ps:List Str)(sp:Sp):Prop where
 len:∀vs H Q E,sp vs H Q E->vs.length=ps.length
 run:∀(A:Cq) (outer:List Env) (s:Af) (H:Hp) (args:Args) (us:List Value) (vs:List V) (Q:VK) (E:XK),Room k A->Env0 P w K mg base A outer s H->BindsTo s fd args (ps.zip us)->Ep vs us->sp vs H Q E ->
  Mb (model P w) A (.call (.ref f) args) (CR CX outer P w H s Q E) s
theorem FnOk.imp{P:Bu}{w:World}{K:PySem.W.Frag}{mg:Str->Option Value}{base:Heap}{CX:oN}{k:Nat}{f:Addr}{fd:Bz}{ps:List Str}{sp sp':Sp}(F:FnOk P w K mg base CX k f fd ps sp)(h:∀vs H Q E,sp' vs H Q E->sp vs H Q E):FnOk P w K mg base CX k f fd ps sp' :=
 ⟨λvs H Q E q=>F.len vs H Q E (h _ _ _ _ q),λA outer s H args us vs Q E hr he hb hv hs=>F.run A outer s H args us vs Q E hr he hb hv (h _ _ _ _ hs)⟩
section
variable{X:Cx}{pins:List (Addr×Obj)}{σ:St}{H:Hp}{s s':Af}
theorem Inv.env0(I:Inv X pins σ H s):Env0 X.prog X.w X.K X.mg X.base X.A X.stack s H :=
 ⟨I.ok.frames,I.ok.mod,I.bs,Cg I.ok.bsz I.sz,I.stack,I.stkFree,I.hok,I.bare,I.ok.tab.un I.base⟩
theorem Inv.after{Q:VK}{u:Value}(I:Inv X pins σ H s)(h:CE X.stack X.prog X.w H s Q u s'):EP X pins σ Q u s':=by
 obtain ⟨v,H',os,bare,un,hok,r,q⟩:=h
 obtain ⟨hh,g,d,t,os'⟩:=s'
 obtain rfl:os'=s.os:=os
 exact ⟨v,H',I.call (h':=hh) (g':=g) (d':=d) (t':=t) (ch:=[]) un hok bare (λb z=>absurd z (by simp)),r,q⟩
end
def yM(sp:Sp)(dvs:List V)(E:XK)(t:TA):TE:=λσ H Q=>t σ H λvs H1=>sp (vs++dvs) H1 Q E
def Binds(K:PySem.W.Frag)(fd:Bz)(ps:List Str)(ds:List Value):Prop :=
 ∀(s:Af) (us:List Value),K.In s.heap->(us++ds).length=ps.length->BindsTo s fd ⟨us,[]⟩ (ps.zip (us++ds))
theorem Binds.all{K:PySem.W.Frag}{fd:Bz}{ps:List Str}(h:∀us:List Value,us.length=ps.length->bindArgs fd ⟨us,[]⟩=pure (ps.zip us)):Binds K fd ps []:=λs us _ hl=>by
 rw[Ee] at hl ⊢
 exact .of_eq (h us hl)
def Pp(CX:oN)(X:Cx)(E:XK):Prop:=∀(pins:List (Addr×Obj)) (σ:St) (H:Hp) (s:Af) (e:Value) (s':Af),Inv X pins σ H s->CX X.stack H s E e s'->X.xe e s'
section
variable{X:Cx}{CX:oN}{k:Nat}{f C:Addr}{fd:Bz}{ps:List Str}{sp:Sp}{dvs:List V}{ds:List Value}{E:XK}{x m:Str}{p pos apos:Pos}{e o:Expr}{es:List Expr}{ta:TE}{t:TA}
theorem sJ{pins:List (Addr×Obj)}{σ:St}{H:Hp}{s:Af}{Q:VK}{us:List Value}{vs:List V}(F:FnOk X.prog X.w X.K X.mg X.base CX k f fd ps sp)(hr:Room k X.A)(hb:Binds X.K fd ps ds)(hd:Ep dvs ds)(hx:Pp CX X E)(I:Inv X pins σ H s)(r:Ep vs us)(h:sp (vs++dvs) H Q E):wpAny (model X.prog X.w) X.A (call (.ref f) us) (EP X pins σ Q) X.xe s:=by
 have r2:Ep (vs++dvs) (us++ds):=r.append hd
 have hl:(us++ds).length=ps.length:=by rw[<- r2.length]; exact F.len _ _ _ _ h
 refine wpAny_call (bG (F.run X.A X.stack s H ⟨us,[]⟩ (us++ds) (vs++dvs) Q E hr I.env0 (hb s us I.kIn hl) r2 h) λr s' hq=>?_)
 cases r with
 | error e=>exact hx pins σ H s e s' I hq
 | ok fl =>
  cases fl with
  | ret u=>exact I.after hq
  | next=>exact Iq hq
  | brk=>exact Iq hq
  | cont=>exact Iq hq
theorem dJ(F:FnOk X.prog X.w X.K X.mg X.base CX k f fd ps sp)(hr:Room k X.A)(hg:Gl X x)(hm:X.mg x=some (.ref f))(hk:PySem.W.keepIn X.K (.ref f)=true)(hb:Binds X.K fd ps ds)(hd:Ep dvs ds)(hx:Pp CX X E)(ha:PA X (e::es) t)(hdb:(x == ("__debug__" : Str))=false:=by decide)(he:Bo (e::es) X.env=(false,eval e X.env)::Bo es X.env:=by rfl)(hpl:(Gx pos (Bo es X.env)).any (·.1)=false:=by rfl):PE X (.Call (.Name x p) (e::es) [] pos) (yM sp dvs E t):=by
 intro pins s σ H Q I h
 refine Gp (lH I hg hm ?_ hdb)
 refine PySem.W.callWith_K (h₀:=X.base) I.ok.mod.kin hk (Gk (ha pos pins s σ H _ I h) λus s1 ⟨vs,H1,I1,r,q⟩=>⟨I1.kIn,?_⟩) he hpl
 exact sJ F hr hb hd hx I1 r q
theorem sQ(F:FnOk X.prog X.w X.K X.mg X.base CX k f fd ps sp)(hr:Room k X.A)(hg:Gl X x)(hm:X.mg x=some (.ref f))(hk:PySem.W.keepIn X.K (.ref f)=true)(hb:Binds X.K fd ps ds)(hd:Ep dvs ds)(hx:Pp CX X E)(hdb:(x == ("__debug__" : Str))=false:=by decide):PE X (.Call (.Name x p) [] [] pos) (yM sp dvs E A9):=by
 intro pins s σ H Q I h
 refine Gp (lH I hg hm ?_ hdb)
 exact PySem.W.callWith_K0 I.kIn hk (sJ (us:=[]) F hr hb hd hx I .nil h)
end
structure FnScope(N P:List Str)(sc:Scope):Prop where
 kind:sc.kind=.function
 co:sc.isCoroutine=false
 gen:sc.isGenerator=false
 nd:N.Nodup
 pre:N.take P.length=P
 par:∀x∈P,sc.names.lookup x=some .local\/sc.names.lookup x=some .cell
 nofree:∀y∈sc.names,y.2≠.free
theorem aD{kindOf:Str->Option Mr}{x:Str}:∀{binds:List (Str×Value)} {m:Str->Option Value},(∀v,(x,v)∉binds)->bindL kindOf binds m x=m x
 | [],_,_=>rfl
 | (n,v)::r,m,h=>by
  unfold bindL
  rw[aD λw hw=>h w (Ag _ hw)]
  split
  ·have : x≠n:=by rintro rfl; exact h v Aa
   simp [this]
  ·rfl
theorem aT{kindOf:Str->Option Mr}{x:Str}:∀{binds:List (Str×Value)} {m:Str->Option Value},(∀v,(x,v)∉binds)->bindC kindOf binds m x=m x
 | [],_,_=>rfl
 | (n,v)::r,m,h=>by
  unfold bindC
  rw[aT λw hw=>h w (Ag _ hw)]
  split
  ·rfl
  ·have : x≠n:=by rintro rfl; exact h v Aa
   simp [this]
theorem bE{kindOf:Str->Option Mr}{x:Str}{v:Value}:∀{P:List Str} {vs:List Value} {i:Nat} {m:Str->Option Value},P.Nodup->P[i]? = some x->vs[i]? = some v->kindOf x=some .local->bindL kindOf (P.zip vs) m x=some v
 | [],_,_,_,_,h,_,_=>by simp at h
 | _::_,[],_,_,_,_,h,_=>by simp at h
 | p::P,w::vs,0,m,nd,h1,h2,hk=>by
  simp at h1 h2; subst h1; subst h2
  show bindL kindOf ((p,w)::P.zip vs) m p=_
  unfold bindL
  rw[aD λv hv=>(Ci.mp nd).1 (List.of_mem_zip hv).1,if_pos hk]
  simp
 | p::P,w::vs,i+1,m,nd,h1,h2,hk=>by
  show bindL kindOf ((p,w)::P.zip vs) m x=_
  unfold bindL
  exact bE (i:=i) (Ci.mp nd).2 (by simpa using h1) (by simpa using h2) hk
theorem aU{kindOf:Str->Option Mr}{x:Str}{v:Value}:∀{P:List Str} {vs:List Value} {i:Nat} {m:Str->Option Value},P.Nodup->P[i]? = some x->vs[i]? = some v->kindOf x≠some .local->bindC kindOf (P.zip vs) m x=some v
 | [],_,_,_,_,h,_,_=>by simp at h
 | _::_,[],_,_,_,_,h,_=>by simp at h
 | p::P,w::vs,0,m,nd,h1,h2,hk=>by
  simp at h1 h2; subst h1; subst h2
  show bindC kindOf ((p,w)::P.zip vs) m p=_
  unfold bindC
  rw[aT λv hv=>(Ci.mp nd).1 (List.of_mem_zip hv).1,if_neg hk]
  simp
 | p::P,w::vs,i+1,m,nd,h1,h2,hk=>by
  show bindC kindOf ((p,w)::P.zip vs) m x=_
  unfold bindC
  exact aU (i:=i) (Ci.mp nd).2 (by simpa using h1) (by simpa using h2) hk
def start(N:List Str)(vs:List V):St:=vs.map some++Ca (N.length - vs.length) none
def Jz(CX:oN)(P:Bu)(w:World)(K:PySem.W.Frag)(mg:Str->Option Value)(base:Heap)(N:List Str)(qual:Str)(scope:Scope)(f:Addr)(cd:Value)(A:Cq)(outer:List Env)(s:Af)(H:Hp)(E:XK):Cx where
 prog:=P
 w:=w
 K:=K
 mg:=mg
 base:=base
 A:=A.deeper (envOfC qual scope s.heap.objs.size f cd)
 N:=N
 s₀:=s
 H₀:=H
 env:=envOfC qual scope s.heap.objs.size f cd
 outer:=outer
 stack:=envOfC qual scope s.heap.objs.size f cd::outer
 ex:=[]
 calm:=true
 fn:=λ_=>true
 pn:=[]
 xe:=λe s'=>wpAny (model P w) (A.deeper (envOfC qual scope s.heap.objs.size f cd)) (leaving (envOfC qual scope s.heap.objs.size f cd) e) (λ_ s''=>CX outer H s E e s'') (λe' s''=>CX outer H s E e' s'') s'
theorem gT{sc:Scope}{n:Nat}{x:Str}(h:sc.names.lookup x=some .cell):∃c,(Eg n sc.names []).lookup x=some c:=by
 have q:=PySem.W.cellsFrom_some sc.names n [] (.inl h)
 exact Nj.mp q
theorem mY{CX:oN}{P:Bu}{w:World}{K:PySem.W.Frag}{mg:Str->Option Value}{base:Heap}{N ps:List Str}{qual:Str}{scope:Scope}{f:Addr}{cd:Value}{A:Cq}{outer:List Env}{s s1:Af}{H:Hp}{E:XK}{us:List Value}{vs:List V}(S:FnScope N ps scope)(hd:A.handled=none)(e0:Env0 P w K mg base A outer s H)(hl:vs.length=ps.length)(r:Ep vs us)(x:InCallC s s.heap.objs.size (bindL (envOfC qual scope s.heap.objs.size f cd).kindOf (ps.zip us) λ_=>none) (Eg (s.heap.objs.size+1) scope.names []) (bindC (envOfC qual scope s.heap.objs.size f cd).kindOf (ps.zip us) λ_=>none) s1):Inv (Jz CX P w K mg base N qual scope f cd A outer s H E) [] (start N vs) H s1:=by
 have hpl:ps.length<=N.length:=by have:=congrArg Gr S.pre; rw[Cp] at this; omega
 obtain ⟨h1,tk,rfl,hk⟩:=x.done
 have noA:∀b:Addr,b∉(Jz CX P w K mg base N qual scope f cd A outer s H E).ex:=λb z=>absurd (show b∈([]:List Addr) from z) (by simp)
 refine ⟨⟨e0.mod,S.kind,rfl,rfl,Ai _,λy z c h1 h2=>?_,λy hy=>?_,λy c _ h=>?_,λ_=>hd,Around.frames_deeper e0.frames,.inr ⟨rfl,rfl⟩,λb z=>absurd z (noA b),e0.bs,e0.bsz,λb _ _=>noA b,λb z=>absurd z (noA b),e0.funs,e0.frf,e0.tab⟩,
  rfl,e0.bare,Un.kept hk,⟨_,x.toInCall.ns,λi y v h1 h2 h3=>?_⟩,λy c h=>⟨_,x.cell y c h⟩,e0.hok.fresh (Ai _),λy c h=>?_,λp hp=>absurd (show p∈([]:List (Addr×Obj)) from hp) (by simp),e0.hok.kept hk,?_⟩
 ·exact name_of_addr x.apart (PySem.mem_of_lookup h1) (PySem.mem_of_lookup h2)
 ·have hy:scope.names.lookup y=some .cell\/scope.names.lookup y=some .free:=hy
  rcases hy with hy | hy
  ·exact gT hy
  ·exact absurd rfl (S.nofree _ (PySem.mem_of_lookup hy))
 ·exact Jg (x.above y c (PySem.mem_of_lookup h))
 ·have hi:i<vs.length:=by
   unfold start at h2
   by_cases hi:i<vs.length
   ·exact hi
   ·rw[Ey (by simpa using hi)] at h2
    rw[List.getElem?_replicate] at h2
    split at h2 <;> cases h2
  have ha:vs[i]? = some v:=by
   unfold start at h2
   rw[Gm (by simpa using hi),Az] at h2
   cases e:vs[i]? with
   | none=>rw[e] at h2; cases h2
   | some a=>rw[e] at h2; cases h2; rfl
  obtain ⟨u,hu,rv⟩:=r.get ha
  have hp:ps[i]? = some y:=by
   rw[<- S.pre,Dl (by omega)]; exact h1
  have ndP:ps.Nodup:=by rw[<- S.pre]; exact S.nd.sublist (Kn _ _)
  refine ⟨u,rv,?_⟩
  rcases S.par y (Au hp) with k | k
  ·exact .inl ⟨k,bE ndP hp hu k⟩
  ·obtain ⟨c,e⟩:=gT (n:=s.heap.objs.size+1) k
   refine .inr ⟨.inl k,c,e,?_⟩
   have q:=x.cell y c e
   rw[aU ndP hp hu (by show scope.names.lookup y≠_; rw[k]; decide)] at q
   exact q
 ·exact e0.hok.fresh (Jg (x.above y c (PySem.mem_of_lookup h)))
 ·unfold start
  show _=N.length
  rw[Cb,Ab,List.length_replicate]
  omega
theorem yG{CX:oN}{P:Bu}{w:World}{K:PySem.W.Frag}{mg:Str->Option Value}{base:Heap}{k:Nat}{f:Addr}{name qual:Str}{params:Rk}{body:List Stmt}{scope:Scope}{dV kV doc pm cdv ct oc:Value}{an od:Option Addr}{osl:Array (Option Value)}{N ps:List Str}{sp:Sp}(lk:K.lookup f=some ⟨oc,od,.func (PySem.W.fnOf name qual params body scope dV kV doc pm an cdv ct),osl⟩)(hcd:PySem.W.codeIn K cdv qual=true)(S:FnScope N ps scope)(len:∀vs H Q E,sp vs H Q E->vs.length=ps.length)(hbody:∀(A:Cq) (outer:List Env) (s:Af) (H:Hp) (vs:List V) (Q:VK) (E:XK),Room k (A.deeper (envOfC qual scope s.heap.objs.size f cdv))->sp vs H Q E->∃t,jL (Jz CX P w K mg base N qual scope f cdv A outer s H E) body t/\t { nx:=λ_ H'=>Q .non H',rt:=Q } (start N vs) H):FnOk P w K mg base CX (k+1) f (PySem.W.fnOf name qual params body scope dV kV doc pm an cdv ct) ps sp:=by
 refine ⟨len,λA outer s H args us vs Q E hr e0 hb r hsp=>?_⟩
 have hl:=len _ _ _ _ hsp
 have KX:K.In s.heap:=e0.mod.kin.keeps λb o e=>(e0.bs b o e).1
 have lim:s.heap.NoLimit:=e0.mod.nolimit.keeps λb o e=>(e0.bs b o e).1
 have hkind:∀y∈ps.zip us,scope.names.lookup y.1=some .local\/(scope.names.lookup y.1=some .cell/\((Eg (s.heap.objs.size+1) scope.names []).lookup y.1).isSome=true):=λ⟨n,v⟩ hy=>by
  rcases S.par n (List.of_mem_zip hy).1 with q | q
  ·exact .inl q
  ·exact .inr ⟨q,PySem.W.cellsFrom_some _ _ _ (.inl q)⟩
 refine codeAny_call_function hr.depth (KX _ _ lk) rfl S.co S.gen rfl (PySem.W.codeRec_of KX hcd) (hb _ _ _ _ ?_)
 refine wpAny_newFunctionEnv_cells S.kind hkind λenv he s1 x=>?_
 subst he
 refine ⟨lim.keeps x.toInCall.keep,codeAny_func ?_⟩
 obtain ⟨t,ht,hq⟩:=hbody A outer s H vs Q E (hr.deeper _) hsp
 have I:Inv (Jz CX P w K mg base N qual scope f cdv A outer s H E) [] (start N vs) H s1:=mY S hr.hd e0 hl r x
 refine En (ht [] s1 (start N vs) H _ I hq) (λfl s' hs=>?_) λe s' hs=>hs
 have fin:∀{σ':St} {H':Hp} {v:V} {u:Value},Inv (Jz CX P w K mg base N qual scope f cdv A outer s H E) [] σ' H' s'->RelV v u->Q v H'->CE outer P w H s Q u s' :=
  λ{σ' H' v u} J rv q=>⟨v,H',J.os,J.bare,J.base,J.hok,rv,q⟩
 cases fl with
 | ret u =>
  obtain ⟨v,σ',H',J,rv,q⟩:=hs
  exact fin J rv q
 | next =>
  obtain ⟨σ',H',J,q⟩:=hs
  exact fin (v:=V.non) (u:=Ub) J rfl q
 | brk =>
  obtain ⟨_,_,_,q⟩:=hs
  exact Iq q
 | cont =>
  obtain ⟨_,_,_,q⟩:=hs
  exact Iq q
section
variable{X:Cx}{x:Str}{p pos:Pos}{e:Expr}{es:List Expr}{t:TA}{id T:String}{r:List V->Hp->VK->Prop}
def M3(r:List V->Hp->VK->Prop)(t:TA):TE:=λσ H Q=>t σ H λvs H1=>r vs H1 Q
theorem Yp(hc:Kc X (.builtin id) r)(hg:Gl X x)(hm:X.mg x=none)(hv:Ld x=some (.builtin id))(ha:PA X (e::es) t)(hn:x ≠ "__name__" := by decide)(hdb:(x == ("__debug__" : Str))=false:=by decide)(he:Bo (e::es) X.env=(false,eval e X.env)::Bo es X.env:=by rfl)(hpl:(Gx pos (Bo es X.env)).any (·.1)=false:=by rfl):PE X (.Call (.Name x p) (e::es) [] pos) (M3 r t):=by
 intro pins s σ H Q I h
 refine Gp (Pd I hg hm hv ?_ hn hdb)
 exact Ry (Gk (ha pos pins s σ H _ I h) λus s1 ⟨vs,H1,I1,r1,q1⟩=>hc pins s1 σ H1 vs us Q I1 r1 q1) he hpl
theorem Zz(hc:Kc X (.type T) r)(hg:Gl X x)(hm:X.mg x=none)(hv:Ld x=some (.type T))(ha:PA X (e::es) t)(hn:x ≠ "__name__" := by decide)(hdb:(x == ("__debug__" : Str))=false:=by decide)(he:Bo (e::es) X.env=(false,eval e X.env)::Bo es X.env:=by rfl)(hpl:(Gx pos (Bo es X.env)).any (·.1)=false:=by rfl):PE X (.Call (.Name x p) (e::es) [] pos) (M3 r t):=by
 intro pins s σ H Q I h
 refine Gp (Pd I hg hm hv ?_ hn hdb)
 exact Fg (Gk (ha pos pins s σ H _ I h) λus s1 ⟨vs,H1,I1,r1,q1⟩=>hc pins s1 σ H1 vs us Q I1 r1 q1) he hpl
end
end L2
namespace HT
open PySem PyProof.Rows
def lexLt:List Int->List Int->Bool
 | [],[]=>false
 | [],_::_=>true
 | _::_,[]=>false
 | x::xs,y::ys=>if x=y then lexLt xs ys else decide (x<y)
theorem lexLt_cons(x y:Int)(xs ys:List Int):lexLt (x::xs) (y::ys)=if x=y then lexLt xs ys else decide (x<y):=rfl
theorem lexLt_nil_nil:lexLt [] []=false:=rfl
theorem lexLt_nil_cons(y:Int)(ys:List Int):lexLt [] (y::ys)=true:=rfl
theorem lexLt_cons_nil(x:Int)(xs:List Int):lexLt (x::xs) []=false:=rfl
theorem qJ(A:Cq)(s:Af)(a:Int)(t:Tok)(c:Int)(u:Tok):∃e,Kx A s (.int a t) (.int c u) e/\(e=true↔a=c) :=
 ⟨(a == c),SeqAt.EqAt.int_int a t c u,by simp⟩
theorem tH(A:Cq)(s:Af)(a:Int)(t:Tok)(c:Int)(u:Tok)(prog:Bu)(w:World)(E:Value->Af->Prop)(Q:Value->Af->Prop)(h:Q (.bool (decide (a<c))) s):wpAny (model prog w) A (richCompare .Lt (.int a t) (.int c u)) Q E s :=
 (PyProof.Rows.lt_int h:wpAny (model prog w) A (Iv .Lt (.int a t) (.int c u)) Q E s)
section
open PySem.SeqAt
open PySem.AutoSeq1 (wpAny_loadPart')
open PySem.MeetsSeq PySem.MeetsSeq2 PySem.MeetsSeq3
theorem tuple_lt_ints(l b:Addr)(items items2:Array Value)(n n2:Nat)(dd dd2:Option Addr)(sl sl2:Array (Option Value))(ns ms:List Int)(hi:Ig items.toList ns)(hj:Ig items2.toList ms):Meets (Builtin.«tuple.__lt__» ⟨[.ref l,.ref b],[]⟩) (λ_ R s=>s.heap.get? l=some { cls:=.type "tuple",dict:=dd,data:=.seq items n,slots:=sl }/\s.heap.get? b=some { cls:=.type "tuple",dict:=dd2,data:=.seq items2 n2,slots:=sl2 }/\R (.ok (.ret (.bool (lexLt ns ms)))) s) :=
 .of_wp λprog w A R s h=>by
  obtain ⟨hp,g,d,tk,os⟩:=s; obtain ⟨hl,hb,h⟩:=h
  have f2:=AutoSeq1.sub_tuple_tuple
  have z1:items.size=ns.length:=by rw[<- hi.length]; simp
  have z2:items2.size=ms.length:=by rw[<- hj.length]; simp
  wp_walk using Tu hl,Tu hb,wpAny_forIn_list _ (λGq b s'=>b.1=none/\s'=⟨hp,g,d,tk,os⟩/\∃(vs ws:List Value) (ns' ms':List Int),Gq=vs.zip ws /\
   Ig vs ns'/\Ig ws ms'/\ns'.length+items2.size=ms'.length+items.size/\R (.ok (.ret (.bool (lexLt ns' ms')))) ⟨hp,g,d,tk,os⟩) _
  case turn =>
   (rintro ⟨y,x⟩ Gq b s' q_; obtain ⟨hb',rfl,vs,ws,ns',ms',hz,hvi,hwi,hlen,hR⟩ := q_)
   cases hvi with
   | nil=>rw[List.zip_nil_left] at hz; cases hz
   | cons a t hvi' =>
    cases hwi with
    | nil=>rw[List.zip_nil_right] at hz; cases hz
    | cons c u hwi' =>
     rw[Vj] at hz
     injection hz with hyx hrest
     injection hyx with hy hx
     subst hy hx
     rw[lexLt_cons] at hR
     simp only[Bt] at hlen
     obtain ⟨e,he,hiff⟩:=qJ A.in1 ⟨hp,g,d,tk,os⟩ a t c u
     refine Ac (he prog w _ _ ?_)
     cases e with
     | true =>
      rw[if_pos (hiff.mp rfl)] at hR
      wp_walk
      exact ⟨rfl,rfl,_,_,_,_,hrest,hvi',hwi',by omega,hR⟩
     | false =>
      rw[if_neg (λq=>absurd (hiff.mpr q) Bx)] at hR
      have hri:=tH A.in1 ⟨hp,g,d,tk,os⟩ a t c u prog w
      wp_walk using hri
      exact ⟨_,rfl,by simpa using hR⟩
  case fin =>
   (rintro ⟨b1,b2⟩ s' q_; obtain ⟨hb',rfl,vs,ws,ns',ms',hz,hvi,hwi,hlen,hR⟩ := q_)
   simp only at hb'
   subst hb'
   have hv:lexLt ns' ms'=decide (items.size<items2.size):=by
    cases hvi with
    | nil =>
     cases hwi with
     | nil =>
      simp only[Jn] at hlen
      rw[lexLt_nil_nil]
      exact (decide_eq_false (by omega)).symm
     | cons c u hw =>
      simp only[Jn,Bt] at hlen
      rw[lexLt_nil_cons]
      exact (decide_eq_true (by omega)).symm
    | cons a t hv =>
     cases hwi with
     | nil =>
      simp only[Jn,Bt] at hlen
      rw[lexLt_cons_nil]
      exact (decide_eq_false (by omega)).symm
     | cons c u hw =>
      rw[Vj] at hz
      cases hz
   rw[hv] at hR
   wp_walk
   exact ⟨_,rfl,by simpa [Builtin.Tuple.tupleCompareSizes] using hR⟩
  case h =>
   exact ⟨rfl,rfl,items.toList,items2.toList,ns,ms,rfl,hi,hj,by omega,h⟩
end
section
variable{prog:Bu}{w:World}{A:Cq}{E:Value->Af->Prop}{s:Af}
theorem cat_tup{t b:Addr}{vs ws:List Value}{Q:Value->Af->Prop}(ht:IsTup s.heap t vs.toArray)(hb:IsTup s.heap b ws.toArray)(hv:vs≠[])(h1:ws=[]->Q (.ref t) s)(h2:ws≠[]->Q (.ref s.heap.objs.size) { s with heap:=s.heap.push { cls:=.type "tuple",data:=.seq (vs++ws).toArray } })(hsz:vs.length+ws.length<=Aq):wpAny (model prog w) A (Hl .Add (.ref t) (.ref b)) Q E s:=by
 obtain ⟨⟨cls,dd,data,sl⟩,ho,hc,n,hd⟩:=id ht
 obtain ⟨⟨cls2,dd2,data2,sl2⟩,ho2,hc2,n2,hd2⟩:=id hb
 simp only at hc hd hc2 hd2
 subst hc hd hc2 hd2
 have e:vs.toArray++ws.toArray=(vs++ws).toArray:=by simp
 by_cases hw:ws=[]
 ·exact concat_meets ⟨_,ho,rfl⟩ ⟨_,ho2,rfl⟩ dY seq_tuple_add PySem.F.slot_tuple_add PySem.F.entry_tuple_add (PySem.F.args_tuple_add_2 _ _)
   (tuple_addW1 t b vs.toArray ws.toArray n n2 dd dd2 sl sl2 (by simpa using hv) (by simp [hw])) ⟨ho,ho2,h1 hw⟩
 ·refine concat_meets ⟨_,ho,rfl⟩ ⟨_,ho2,rfl⟩ dY seq_tuple_add PySem.F.slot_tuple_add PySem.F.entry_tuple_add (PySem.F.args_tuple_add_2 _ _)
   (tuple_addW2 t b vs.toArray ws.toArray n n2 dd dd2 sl sl2 (by simpa using hv) (by simpa using hw) (by rw[Al,Al]; exact hsz)) ⟨ho,ho2,?_⟩
  rw[e]
  exact h2 hw
def sIx(n d:Nat):Option Int->Nat
 | none=>d
 | some v=>if v<0 then (v+(n:Int)).toNat else min v.toNat n
theorem sIx_none(n d:Nat):sIx n d none=d:=rfl
theorem sIx_nat(n d k:Nat):sIx n d (some (k:Int))=min k n:=by
 show (if (k:Int)<0 then ((k:Int)+(n:Int)).toNat else min (k:Int).toNat n)=min k n
 rw[if_neg (by omega),Fn]
end
end HT
namespace L2
open PySem PySem.Spec PyProof.Rows
abbrev TO:=St->Hp->(Option Int->Hp->Prop)->Prop
def PO(X:Cx)(e:Option Expr)(t:TO):Prop :=
 ∀(pins:List (Addr×Obj)) (s:Af) (σ:St) (H:Hp) (Q:Option Int->Hp->Prop),Inv X pins σ H s->t σ H Q ->
  wpAny (model X.prog X.w) X.A (evalPart e X.env) (λu s'=>∃o H',Inv X pins σ H' s'/\IsPart u o/\Q o H') X.xe s
def uN:TO:=λ_ H Q=>Q none H
def A3(t:TE):TO:=λσ H Q=>t σ H λx H1=>∃i,x=.int i/\Q (some i) H1
theorem intsAre_of{ns:List Int}:∀{us:List Value},Ep (ns.map V.int) us->Ig us ns:=by
 induction ns with
 | nil=>intro us r; rw[Mc] at r; cases r; exact .nil
 | cons n ns ih =>
  intro us r
  rw[Av] at r
  cases r with
  | cons r1 r2 =>
   obtain ⟨t,e⟩:=r1
   subst e
   exact .cons n t (ih r2)
section
variable{X:Cx}{e:Expr}{te:TE}{lo hi:Option Expr}{tl th:TO}{pos p2:Pos}
theorem vX:PO X none uN:=by
 intro pins s σ H Q I h
 rw[evalPart_none]
 exact Bb ⟨none,H,I,.none,h⟩
theorem vU(h:PE X e te):PO X (some e) (A3 te):=by
 intro pins s σ H Q I hw
 rw[evalPart_some]
 refine Gk (h pins s σ H _ I hw) λu s1 q0_ => ?_
 obtain ⟨x,H1,I1,r1,q1⟩ := q0_
 obtain ⟨i,rfl,q⟩:=q1
 obtain ⟨t,rfl⟩:=r1
 exact ⟨some i,H1,I1,.int i t,q⟩
def T1(X:Cx)(r:V->Option Int->Option Int->Hp->VK->Prop):Prop :=
 ∀(pins:List (Addr×Obj)) (s:Af) (σ:St) (H:Hp) (x:V) (v vl vu:Value) (lo hi:Option Int) (sl:Addr) (Q:VK),Inv X pins σ H s->RelV x v->s.heap.IsSliceOf sl vl vu .none->IsPart vl lo->IsPart vu hi->r x lo hi H Q ->
  ∃T id,typeLookup (.type T) "__getitem__" = pure (some (.builtin id))/\s.TypeIs v T/\wpAny (model X.prog X.w) X.A (getItem v (.ref sl)) (EP X pins σ Q) X.xe s
def T8(r:V->Option Int->Option Int->Hp->VK->Prop)(te:TE)(tl th:TO):TE:=λσ H Q=>te σ H λx H1=>tl σ H1 λl H2=>th σ H2 λu H3=>r x l u H3 Q
theorem qT{r:V->Option Int->Option Int->Hp->VK->Prop}(hr:T1 X r)(he:PE X e te)(hl:PO X lo tl)(hu:PO X hi th):PE X (.Subscript e (.Slice lo hi none p2) pos) (T8 r te tl th):=by
 intro pins s σ H Q I h
 refine Subscript_ (Gk (he pins s σ H _ I h) λv s1 q0_ => ?_)
 obtain ⟨x,H1,I1,r1,q1⟩ := q0_
 refine wpAny_Slice (Gk (hl pins s1 σ H1 _ I1 q1) λvl s2 ⟨l,H2,I2,pl,q2⟩=>Gk (hu pins s2 σ H2 _ I2 q2) λvu s3 q0_ => ?_)
 obtain ⟨u,H3,I3,pu,q3⟩ := q0_
 rw[evalPart_none]
 refine Bb ?_
 have I4:Inv X pins σ H3 { s3 with heap:=s3.heap.push { cls:=.type "slice",data:=.fields #[vl,vu,.none] } }:=I3.kept (t':=s3.toks) λb ob q=>Ae _ q
 obtain ⟨T,id,hT,ht,hg⟩:=hr pins { s3 with heap:=s3.heap.push { cls:=.type "slice",data:=.fields #[vl,vu,.none] } } σ H3 x v vl vu l u s3.heap.objs.size Q I4 r1 (Heap.IsSliceOf.new ..) pl pu q3
 show wpAny (model X.prog X.w) X.A (subscriptTail e (.Slice lo hi none p2) v (.ref s3.heap.objs.size)) (EP X pins σ Q) X.xe { s3 with heap:=s3.heap.push { cls:=.type "slice",data:=.fields #[vl,vu,.none] } }
 exact tail_any (ops:=[.ref s3.heap.objs.size,v]) ht hT hg (by with_unfolding_all rfl)
def qF(xs:List V)(lo hi:Option Int):List V:=(xs.drop (HT.sIx xs.length 0 lo)).take (HT.sIx xs.length xs.length hi - HT.sIx xs.length 0 lo)
theorem fX(xs:List V)(lo hi:Option Int):(qF xs lo hi).length<=xs.length:=by
 unfold qF
 rw[Cp,Ot]
 omega
def J6(K:PySem.W.Frag):R2:=λx y H Q=>∃a b xs ys,x=.ref a/\y=.ref b/\Rr K H a xs/\Rr K H b ys/\xs≠[]/\xs.length+ys.length<=Aq /\
 (ys=[]->Q (.ref a) H)/\(ys≠[]->∀p,H p=none->Q (.ref p) (upd H p (.tup (xs++ys))))
theorem Ep.nil_iff{xs:List V}{us:List Value}(r:Ep xs us):us=[]↔xs=[]:=by
 cases r with
 | nil=>simp
 | cons _ _=>simp
theorem vH:Vb X (Hl .Add) (J6 X.K):=by
 intro pins s σ H x y v u Q I rx ry h
 obtain ⟨a,b,xs,ys,rfl,rfl,ha,hb,hx,hz,q1,q2⟩:=h
 cases rx
 cases ry
 obtain ⟨its,r1,p1,_⟩:=I.tuple ha
 obtain ⟨its2,r2,p2,_⟩:=I.tuple hb
 refine HT.cat_tup p1 p2 (λz=>hx (r1.nil_iff.mp z)) (λz=>⟨.ref a,H,I,rfl,q1 (r2.nil_iff.mp z)⟩) (λz=>?_) (by rw[<- r1.length,<- r2.length]; exact hz)
 refine ⟨.ref s.heap.objs.size,_,I.laid (t':=s.toks) (o:=.tup (xs++ys)) (λb ob q=>Ae _ q) (Ai _) ?_,rfl,q2 (λw=>z (r2.nil_iff.mpr w)) _ (I.hok.fresh (Ai _))⟩
 exact ⟨by rw[Cb]; exact hz,_,r1.append r2,IsTup.new _ _⟩
end
def oQ(n:Nat)(i:Int):Option Nat:=if 0<=i then (if i<n then some i.toNat else none) else if -(n:Int)<=i then some (i+n).toNat else none
def Sv{α:Type}(xs:List α)(i:Int):Option α:=(oQ xs.length i).bind λj=>xs[j]?
theorem kC{n:Nat}{i:Int}{j:Nat}(h:oQ n i=some j):seqIndex? i n=some j/\j<n /\ -(n:Int)<=i/\i<n:=by
 unfold oQ at h
 by_cases h0:0<=i
 ·rw[if_pos h0] at h
  by_cases h1:i<n
  ·rw[if_pos h1] at h
   have e:i.toNat=j:=Bj h
   exact ⟨by rw[seqIndex_of h0 h1,e],by omega,by omega,h1⟩
  ·rw[if_neg h1] at h; cases h
 ·rw[if_neg h0] at h
  by_cases h1:-(n:Int)<=i
  ·rw[if_pos h1] at h
   have e:(i+n).toNat=j:=Bj h
   exact ⟨by rw[seqIndex_neg (by omega) h1,e],by omega,h1,by omega⟩
  ·rw[if_neg h1] at h; cases h
theorem cM{α:Type}{xs:List α}{i:Int}{v:α}(h:Sv xs i=some v):∃j,seqIndex? i xs.length=some j/\xs[j]? = some v/\j<xs.length /\ -(xs.length:Int)<=i/\i<xs.length:=by
 unfold Sv at h
 cases e:oQ xs.length i with
 | none=>rw[e] at h; cases h
 | some j =>
  rw[e] at h
  obtain ⟨h1,h2,h3,h4⟩:=kC e
  exact ⟨j,h1,h,h2,h3,h4⟩
theorem wB{α:Type}{xs:List α}{j:Nat}{v:α}(h:xs[j]? = some v):Sv xs (j:Int)=some v:=by
 have hj:j<xs.length:=(Ak.mp h).1
 have e:oQ xs.length (j:Int)=some j:=by
  unfold oQ
  rw[if_pos (by omega),if_pos (by omega)]; simp
 unfold Sv; rw[e]; exact h
def dI(b:Expr):Prop:=∀o i,subscripted b false o i=operate [o,i] (getItem o i)
def vK(X:Cx)(r:R2):Prop :=
 ∀(value slice:Expr) (pins:List (Addr×Obj)) (s:Af) (σ:St) (H:Hp) (x y:V) (v u:Value) (Q:VK),Inv X pins σ H s->RelV x v->RelV y u->r x y H Q ->
  subscripted slice false v u=operate [v,u] (getItem v u)->wpAny (model X.prog X.w) X.A (subscriptTail value slice v u) (EP X pins σ Q) X.xe s
def T9(X:Cx)(id:String)(r:V->List V->Hp->VK->Prop):Prop :=
 ∀(pins:List (Addr×Obj)) (s:Af) (σ:St) (H:Hp) (x:V) (xs:List V) (v:Value) (us:List Value) (Q:VK),Inv X pins σ H s->RelV x v->Ep xs us->r x xs H Q ->
  wpAny (model X.prog X.w) X.A (call (.builtin id) (v::us)) (EP X pins σ Q) X.xe s
section
variable{X:Cx}{a b:Expr}{ta tb:TE}{pos:Pos}
theorem vK.or{r r':R2}(h:vK X r)(h':vK X r'):vK X (λx y H Q=>r x y H Q\/r' x y H Q):=by
 intro value slice pins s σ H x y v u Q I rx ry q hs
 rcases q with q | q
 ·exact h value slice pins s σ H x y v u Q I rx ry q hs
 ·exact h' value slice pins s σ H x y v u Q I rx ry q hs
theorem Nf{r:R2}(hr:vK X r)(ha:PE X a ta)(hb:PE X b tb)(hs:dI b):PE X (.Subscript a b pos) (E7 r ta tb):=by
 intro pins s σ H Q I h
 exact Subscript_ (j9 ha hb I h λv u s2 x y H2 I2 rx ry q=>hr a b pins s2 σ H2 x y v u Q I2 rx ry q (hs _ _))
def F0(K:PySem.W.Frag):R2:=λx y H Q=>∃p xs i v,x=.ref p/\y=.int i/\Kw K H p xs/\Sv xs i=some v/\Q v H
def L4(K:PySem.W.Frag):R2:=λx y H Q=>∃p xs i v,x=.ref p/\y=.int i/\Rr K H p xs/\Sv xs i=some v/\Q v H
def B4:R2:=λx y H Q=>∃z i c,x=.str z/\y=.int i/\z.length<=Aq/\Sv z.cps.toList i=some c/\Q (.str ⟨#[c]⟩) H
theorem Jf:vK X (F0 X.K):=by
 intro value slice pins s σ H x y v u Q I rx ry h hs
 obtain ⟨p,xs,i,z,rfl,rfl,hq,he,q⟩:=h
 cases rx
 obtain ⟨t,rfl⟩:=ry
 obtain ⟨its,r,pl,hz⟩:=I.list hq
 obtain ⟨j,h1,h2,h3,h4,h5⟩:=cM he
 obtain ⟨w,ew,rw'⟩:=r.get h2
 have hl:=r.length
 have hn:=Vh
 have fin:EP X pins σ Q w s:=⟨z,H,I,rw',q⟩
 by_cases h0:0<=i
 ·have hj:i.toNat=j:=by
   rw[seqIndex_of h0 h5] at h1
   exact Bj h1
  exact item_listR pl.isList h0 (by omega) (by rw[hj]; simpa using ew) fin hs
 ·have hj:(i+(its.toArray.size:Int)).toNat=j:=by
   rw[seqIndex_neg (by omega) h4] at h1
   rw[Al,<- hl]
   exact Bj h1
  exact uC (x:=w) pl.isList.typeIs L9.lookup
   (wpAny_getItem_list_neg (Q:=λr s'=>r=w/\EP X pins σ Q r s') pl.isList (by omega) (by rw[Al] <;> omega) (by omega) (by rw[hj]; simpa using ew) ⟨rfl,fin⟩) hs
theorem Q5:vK X (L4 X.K):=by
 intro value slice pins s σ H x y v u Q I rx ry h hs
 obtain ⟨p,xs,i,z,rfl,rfl,hq,he,q⟩:=h
 cases rx
 obtain ⟨t,rfl⟩:=ry
 obtain ⟨its,r,pl,hz⟩:=I.tuple hq
 obtain ⟨j,h1,h2,h3,h4,h5⟩:=cM he
 obtain ⟨w,ew,rw'⟩:=r.get h2
 have hl:=r.length
 have hn:=Vh
 have fin:EP X pins σ Q w s:=⟨z,H,I,rw',q⟩
 exact uC (x:=w) pl.typeIs slot_tuple_getitem.lookup
  (getItem_tuple (j:=j) (Q:=λr s'=>r=w/\EP X pins σ Q r s') pl (by omega) (by omega) (by rw[Al,<- hl]; exact h1) (by simpa using ew) ⟨rfl,fin⟩) hs
theorem t9:vK X B4:=by
 intro value slice pins s σ H x y v u Q I rx ry h hs
 obtain ⟨z,i,c,rfl,rfl,hz,he,q⟩:=h
 obtain ⟨t,rfl⟩:=rx
 obtain ⟨t',rfl⟩:=ry
 obtain ⟨j,h1,h2,h3,h4,h5⟩:=cM he
 have hl:z.cps.toList.length=z.length:=by simp [Str.length]
 rw[hl] at h1 h4 h5
 have hn:=Vh
 exact tail_any (typeIs_str s z t) slot_str_getitem.lookup (getItem_str (c:=c) (by
  have e1:decide (i < -(2 ^ 63:Int))=false:=decide_eq_false (by omega)
  have e2:decide (i ≥ 2 ^ 63)=false:=decide_eq_false (by omega)
  rw[e1,e2,Bool.or_false]) (by rw[h1]; simpa using h2) ⟨.str ⟨#[c]⟩,H,I.tok _,⟨_,rfl⟩,q⟩) hs
def S7(K:PySem.W.Frag):R2:=λx y H Q=>F0 K x y H Q\/L4 K x y H Q\/B4 x y H Q
theorem j6:vK X (S7 X.K):=Jf.or (Q5.or t9)
theorem jJ(its:List Value)(n j:Nat)(u:Value):Cu (·.setIfInBounds j u) { cls:=.type "list",data:=.seq its.toArray n }={ cls:=.type "list",data:=.seq (its.set j u).toArray n }:=by
 simp [Cu]
theorem Inv.lst{pins:List (Addr×Obj)}{σ:St}{H:Hp}{s:Af}{p:Addr}{xs:List V}(I:Inv X pins σ H s)(h:H p=some (.lst xs)):∃(its:List Value) (n:Nat),Ep xs its/\s.heap.get? p=some { cls:=.type "list",data:=.seq its.toArray n }/\xs.length<=Aq:=by
 obtain ⟨z,its,n,r,e⟩:=I.hok p _ h
 exact ⟨its,n,r,e,z⟩
theorem Inv.lstUpd{pins:List (Addr×Obj)}{σ:St}{H:Hp}{s:Af}{p:Addr}{xs ys:List V}{its its':List Value}{n n':Nat}{f:Obj->Obj}(I:Inv X pins σ H s)(h:H p=some (.lst xs))(ho:s.heap.get? p=some { cls:=.type "list",data:=.seq its.toArray n })(hf:f { cls:=.type "list",data:=.seq its.toArray n }={ cls:=.type "list",data:=.seq its'.toArray n' })(r:Ep ys its')(hz:ys.length<=Aq)(t:Nat):Inv X pins σ (upd H p (.lst ys)) { s with heap:=s.heap.update p f,toks:=t }:=by
 have e:(s.heap.update p f).get? p=some { cls:=.type "list",data:=.seq its'.toArray n' }:=by
  rw[Gg f ho (by rw[hf] <;> rfl),hf]
 refine I.write (x:=p) (e:=p) (by rw[h]; trivial) (.inl rfl) (λb u hb q=>(Ez _ _ (Ln hb)).trans q) ⟨_,e⟩ ?_
 exact ⟨hz,its',n',r,e⟩
def L7:V->V->V->Hp->(Hp->Prop)->Prop:=λo i v H Q=>∃p xs k j,o=.ref p/\i=.int k/\H p=some (.lst xs)/\oQ xs.length k=some j/\Q (upd H p (.lst (xs.set j v)))
theorem Pr:K7 X L7:=by
 intro pins s σ H o i v ov iv u Q I ro ri rv h
 obtain ⟨p,xs,k,j,rfl,rfl,hp,hj,q⟩:=h
 cases ro
 obtain ⟨t,rfl⟩:=ri
 obtain ⟨its,n,r,ho,hz⟩:=I.lst hp
 obtain ⟨h1,h2,h3,h4⟩:=kC hj
 have hl:=r.length
 have hn:=Vh
 have I':Inv X pins σ (upd H p (.lst (xs.set j v))) { s with heap:=s.heap.update p (Cu (·.setIfInBounds j u)) } :=
  I.lstUpd hp ho (jJ its n j u) (r.set rv j) (by rw[List.length_set]; exact hz) s.toks
 by_cases h0:0<=k
 ·have hk:k.toNat=j:=by
   rw[seqIndex_of h0 h4] at h1
   exact Bj h1
  exact PySem.W.ki_setAt ho h0 (by omega) (by rw[Al,<- hl]; exact h4) (by rw[hk]; exact ⟨_,I',q⟩)
 ·have hk:(k+(its.toArray.size:Int)).toNat=j:=by
   rw[seqIndex_neg (by omega) h3] at h1
   rw[Al,<- hl]
   exact Bj h1
  exact PySem.W.ki_setBack ho (by omega) (by rw[Al,<- hl]; exact h3) (by omega) (by rw[hk]; exact ⟨_,I',q⟩)
theorem dQ(lo hi:Option Int)(n:Nat):(Mp lo hi none n).1=((HT.sIx n 0 lo:Nat):Int)/\(Mp lo hi none n).2.1=((HT.sIx n n hi:Nat):Int)/\(Mp lo hi none n).2.2=1:=by
 refine ⟨?_,?_,rfl⟩
 ·cases lo with
  | none=>simp [Mp,HT.sIx]
  | some i =>
   simp only[Mp,HT.sIx,Option.getD_none,show (1:Int) > 0 by decide,if_true]
   by_cases h:i<0
   ·simp only[h,if_true] <;> omega
   ·simp only[h,if_false] <;> omega
 ·cases hi with
  | none=>simp [Mp,HT.sIx]
  | some i =>
   simp only[Mp,HT.sIx,Option.getD_none,show (1:Int) > 0 by decide,if_true]
   by_cases h:i<0
   ·simp only[h,if_true] <;> omega
   ·simp only[h,if_false] <;> omega
theorem Zg(its:List Value)(lo hi:Option Int):slicePick its.toArray lo hi none=((its.drop (HT.sIx its.length 0 lo)).take (HT.sIx its.length its.length hi - HT.sIx its.length 0 lo)).toArray:=by
 obtain ⟨h1,h2,h3⟩:=dQ lo hi its.toArray.size
 unfold slicePick
 rw[h1,h2,h3]
 simp only[sliceRange_one,pick_run,Al] <;> rfl
def C2(K:PySem.W.Frag):V->Option Int->Option Int->Hp->VK->Prop:=λx lo hi H Q=>∃a xs,x=.ref a/\Kw K H a xs/\∀p,H p=none->Q (.ref p) (upd H p (.lst (qF xs lo hi)))
theorem xC:T1 X (C2 X.K):=by
 intro pins s σ H x v vl vu lo hi sl Q I rx hs pl pu h
 obtain ⟨a,xs,rfl,hx,q⟩:=h
 cases rx
 obtain ⟨its,r,ht,hz⟩:=I.list hx
 have hlen:=r.length
 refine ⟨"list",_,L9.lookup,ht.isList.typeIs,?_⟩
 refine wpAny_getItem_list_slice ht.isList hs pl pu .none (by simp) ?_ (by rw[Al] <;> omega)
 rw[Zg,<- hlen]
 refine ⟨.ref s.heap.objs.size,_,I.laid (t':=s.toks) (o:=.lst (qF xs lo hi)) (λb ob q=>Ae _ q) (Ai _) ?_,rfl,q _ (I.hok.fresh (Ai _))⟩
 exact ⟨Cg (fX xs lo hi) hz,_,0,(r.drop (HT.sIx xs.length 0 lo)).take (HT.sIx xs.length xs.length hi - HT.sIx xs.length 0 lo),Bi _ rfl⟩
theorem bO:Kc X (.type "list") (λxs H Q=>∃p ys,xs=[.ref p]/\(Kw X.K H p ys\/Rr X.K H p ys)/\∀l,H l=none->Q (.ref l) (upd H l (.lst ys))):=by
 intro pins s σ H xs us Q I r h
 obtain ⟨p,ys,rfl,hq,q⟩:=h
 obtain ⟨u,rfl,rx⟩:=vals1 r
 cases rx
 have fin:∀(its:List Value),Ep ys its->ys.length<=Aq->∀(h':Heap) (c':Nat),(∀b o',s.heap.get? b=some o'->h'.get? b=some o') ->
   h'.get? s.heap.objs.size=some { cls:=.type "list",dict:=none,data:=.seq its.toArray c',slots:=#[] }->EP X pins σ Q (.ref s.heap.objs.size) { s with heap:=h' }:=λits r' hz h' c' kp e =>
  ⟨.ref s.heap.objs.size,_,I.laid (t':=s.toks) kp (Ai _) (show Il X.prog X.w _ h' _ (.lst ys) from ⟨hz,its,c',r',e⟩),rfl,q _ (I.hok.fresh (Ai _))⟩
 rcases hq with hq | hq
 ·obtain ⟨its,r',pl,hz⟩:=I.list hq
  have hlen:=r'.length
  obtain ⟨o,ho,hc,n,hd⟩:=pl.isList
  exact call_list_seq p (.inl rfl) ho hc hd (λh' c' kp e=>fin its r' hz h' c' kp e) (by simp only[Al] <;> omega)
 ·obtain ⟨its,r',pl,hz⟩:=I.tuple hq
  have hlen:=r'.length
  obtain ⟨o,ho,hc,n,hd⟩:=pl
  exact call_list_seq p (.inr rfl) ho hc hd (λh' c' kp e=>fin its r' hz h' c' kp e) (by simp only[Al] <;> omega)
theorem Zn:Kc X (.type "tuple") (λxs H Q=>∃p ys,xs=[.ref p]/\((Kw X.K H p ys/\∀l,H l=none->Q (.ref l) (upd H l (.tup ys)))\/(Rr X.K H p ys/\Q (.ref p) H))):=by
 intro pins s σ H xs us Q I r h
 obtain ⟨p,ys,rfl,h⟩:=h
 obtain ⟨u,rfl,rx⟩:=vals1 r
 cases rx
 rcases h with ⟨hq,q⟩ | ⟨hq,q⟩
 ·obtain ⟨its,r',pl,hz⟩:=I.list hq
  have hlen:=r'.length
  refine call_tuple_list pl.isList (λh' kp=>?_) (by simp only[Al] <;> omega)
  have I1:Inv X pins σ H { s with heap:=h' }:=I.kept (t':=s.toks) kp
  have I2:Inv X pins σ (upd H h'.objs.size (.tup ys)) { s with heap:=h'.push { cls:=.type "tuple",data:=.seq its.toArray } } :=
   I1.laid (t':=s.toks) (λb o e=>Ae _ e) (Ai _) (show Il X.prog X.w _ _ _ (.tup ys) from ⟨hz,its,r',IsTup.new _ _⟩)
  exact ⟨.ref h'.objs.size,_,I2,rfl,q _ (I1.hok.fresh (Ai _))⟩
 ·obtain ⟨its,r',pl,hz⟩:=I.tuple hq
  exact call_tuple_same pl ⟨.ref p,H,I,rfl,q⟩
def R6(K:PySem.W.Frag)(T:String)(x:V)(H:Hp):Prop:=match x with
 | .str _=>T = "str"
 | .int _=>T = "int"
 | .ref p=>(T = "list" /\ ∃xs,Kw K H p xs)\/(T = "tuple" /\ ∃o,K.lookup p=some o/\o.cls=.type "tuple" /\ o.dict=none) \/
   (T = "dict" /\ ((∃kvs,H p=some (.dK kvs))\/∃kvs,H p=some (.dT kvs)))\/(T = "set" /\ ∃S n,H p=some (.set S n))
 | _=>False
theorem x6{pins:List (Addr×Obj)}{σ:St}{H:Hp}{s:Af}{T:String}{x:V}{v:Value}(I:Inv X pins σ H s)(r:RelV x v)(ty:R6 X.K T x H):s.TypeIs v T/\∀a,v=.ref a->∃ob,s.heap.get? a=some ob/\ob.dict=none:=by
 cases x with
 | str z =>
  obtain ⟨t,rfl⟩:=r
  cases (show T = "str" from ty)
  exact ⟨typeIs_str s z t,λ_ e=>nomatch e⟩
 | int i =>
  obtain ⟨t,rfl⟩:=r
  cases (show T = "int" from ty)
  exact ⟨typeIs_int s i t,λ_ e=>nomatch e⟩
 | ref p =>
  cases r
  rcases ty with ⟨rfl,xs,hq⟩ | ⟨rfl,o,hk,hc,hd⟩ | ⟨rfl,hk⟩ | ⟨rfl,S,n,hk⟩
  ·obtain ⟨its,_,pl,_⟩:=I.list hq
   refine ⟨pl.isList.typeIs,λa e=>?_⟩
   cases e
   obtain ⟨o,n,e,c,hd,_⟩:=pl
   exact ⟨o,e,hd⟩
  ·refine ⟨⟨o,I.kIn p o hk,hc⟩,λa e=>?_⟩
   cases e
   exact ⟨o,I.kIn _ o hk,hd⟩
  ·have z:∃o,s.heap.get? p=some o/\o.ExactDict:=by
    rcases hk with ⟨kvs,hk⟩ | ⟨kvs,hk⟩
    ·obtain ⟨_,_,_,_,o,_,_,e,ex,_⟩:=I.hok p _ hk
     exact ⟨o,e,ex⟩
    ·obtain ⟨_,_,_,_,o,_,_,e,ex,_⟩:=I.hok p _ hk
     exact ⟨o,e,ex⟩
   obtain ⟨o,e,ex⟩:=z
   refine ⟨⟨o,e,ex.1⟩,λa e2=>?_⟩
   cases e2
   exact ⟨o,e,ex.2.1⟩
  ·obtain ⟨o,_,_,_,e,ex,_⟩:=I.hok p _ hk
   refine ⟨⟨o,e,ex.1⟩,λa e2=>?_⟩
   cases e2
   exact ⟨o,e,ex.2.1⟩
 | _=>exact Iq ty
def U0(K:PySem.W.Frag)(T:String)(r:V->List V->Hp->VK->Prop)(to:TE)(t:TA):TE:=λσ H Q=>to σ H λx H1=>R6 K T x H1/\t σ H1 λxs H2=>r x xs H2 Q
variable{o e:Expr}{es:List Expr}{to:TE}{t:TA}{name:Str}{apos cpos:Pos}{T id:String}{r:V->List V->Hp->VK->Prop}
theorem xT(pa:PlainAttrs T)(slot:Slot T name id)(hty:typeOf (.builtin id)=pure (.type "method_descriptor"))(hm:T9 X id r)(ho:PE X o to)(ha:PA X (e::es) t)
  (hbase:Qr o name X.env (eval o X.env)=eval o X.env:=by rfl)
  (hfew:((Gx cpos (Bo (e::es) X.env)).all (λx=>!x.1) && (backToKw cpos (Vw [] X.env)).all (λx=>x.1.isSome)
   && decide ((e::es).length+([]:List Px).length+(if ([]:List Px).isEmpty then 0 else 1)<30))=true:=by rfl)
  (hline:(apos.endLine == cpos.line)=true:=by rfl) (hs:Bo (e::es) X.env=(false,eval e X.env)::Bo es X.env:=by rfl) (hplain:(Gx cpos (Bo es X.env)).any (·.1)=false:=by rfl) :
  PE X (.Call (.Attribute o name apos) (e::es) [] cpos) (U0 X.K T r to t):=by
 intro pins s σ H Q I h
 refine wpAny_Call_method_late hbase hfew hline rfl (Gk (ho pins s σ H _ I h) λv s1 q0_ => ?_)
 obtain ⟨x,H1,I1,r1,ty,q1⟩ := q0_
 obtain ⟨h1,h2⟩:=x6 I1 r1 ty
 refine ⟨T,id,pa,slot,hty,h1,h2,?_⟩
 have hA:=ha cpos pins s1 σ H1 _ I1 q1
 rw[hs] at hA ⊢
 refine Calls.callWith_builtin (by show (false || (Gx cpos (Bo es X.env)).any (·.1))=false; rw[hplain] <;> rfl) (Calls.evalArgs_plain ?_)
 exact Gk hA λus s2 ⟨vs,H2,I2,r2,q2⟩=>hm pins s2 σ H2 x vs v us Q I2 r1 r2 q2
end
def Q4(X:Cx)(id:String)(r:V->List V->Hp->VK->Prop):Prop :=
 ∀(pins:List (Addr×Obj)) (s:Af) (σ:St) (H:Hp) (x:V) (xs:List V) (v:Value) (us:List Value) (Q:VK),Inv X pins σ H s->RelV x v->Ep xs us->r x xs H Q ->
  wpAny (model X.prog X.w) X.A (call (.builtin id) (v::us)) (EP X pins σ Q) X.xe s
theorem Ep.one:∀{x:V} {us:List Value},Ep [x] us->∃u,us=[u]/\RelV x u
 | _,_,.cons r .nil=>⟨_,rfl,r⟩
theorem Ep.two{x y:V}{us:List Value}(h:Ep [x,y] us):∃u v,us=[u,v]/\RelV x u/\RelV y v:=by
 cases h with
 | cons r t =>
  cases t with
  | cons q t =>
   cases t
   exact ⟨_,_,rfl,r,q⟩
theorem Ep.rep{xs:List V}{us:List Value}(h:Ep xs us):∀k:Nat,Ep (Ca k xs).flatten (Ca k us).flatten
 | 0=>.nil
 | k+1=>by
  rw[Fb,Fb,Gs,Gs]
  exact Ep.append h (Ep.rep h k)
theorem foldl_rep(its:List Value):∀(k:Nat) (acc:List Value),List.foldl (λx1 x2=>x1++x2) acc.toArray (Ca k its.toArray)=(acc++(Ca k its).flatten).toArray
 | 0,acc=>by simp
 | k+1,acc=>by
  have e:acc.toArray++its.toArray=(acc++its).toArray:=by simp
  have e2:(acc++its)++(Ca k its).flatten=acc++(Ca (k+1) its).flatten:=by
   rw[Fb,Gs,Ck]
  rw[<- e2,<- foldl_rep its k (acc++its),<- e,Fb,List.foldl_cons]
section
variable{X:Cx}{pins:List (Addr×Obj)}{σ:St}{H:Hp}{s:Af}{l b:Addr}{xs ys zs:List V}
theorem Inv.lset{its its':List Value}{n:Nat}{f:Array Value->Array Value}{t':Nat}(I:Inv X pins σ H s)(hH:H l=some (.lst xs))(e:s.heap.get? l=some { cls:=.type "list",data:=.seq its.toArray n })(hf:f its.toArray=its'.toArray)(hv:Ep ys its')(hz:ys.length<=Aq):Inv X pins σ (upd H l (.lst ys)) { s with heap:=s.heap.update l (Cu f),toks:=t' }:=by
 have q:=PySem.IsL.update e f
 rw[hf] at q
 refine I.write (x:=l) (e:=l) (by rw[hH]; exact trivial) (.inl rfl) (λb' u hb hu=>(Ez s.heap (Cu f) (Ln hb)).trans hu) ⟨_,q⟩ ?_
 exact ⟨hz,its',_,hv,q⟩
theorem Inv.lnew{its:List Value}{t':Nat}(I:Inv X pins σ H s)(hv:Ep ys its)(hz:ys.length<=Aq):Inv X pins σ (upd H s.heap.objs.size (.lst ys)) { s with heap:=s.heap.push { cls:=.type "list",data:=.seq its.toArray },toks:=t' } :=
 I.laid (λ_ _ q=>Ae _ q) (Ai _) ⟨hz,its,0,hv,Bi _ rfl⟩
theorem Inv.fresh(I:Inv X pins σ H s):H s.heap.objs.size=none:=I.hok.fresh (Ai _)
theorem Inv.lstM(I:Inv X pins σ H s)(hH:H l=some (.lst xs)):xs.length<=Aq/\∃(its:List Value) (n:Nat),Ep xs its/\xs.length=its.length/\s.heap.get? l=some { cls:=.type "list",data:=.seq its.toArray n }:=by
 obtain ⟨z,its,n,r,e⟩:=I.hok l _ hH
 exact ⟨z,its,n,r,r.length,e⟩
theorem eO{n:Nat}(h:n<=Aq):Ik n=false:=by
 unfold Ik
 exact decide_eq_false (by omega)
end
section
variable{X:Cx}
def vL:V->List V->Hp->VK->Prop:=λx vs H Q=>∃l xs y,x=.ref l/\vs=[y]/\H l=some (.lst xs)/\xs.length<Aq/\Q .non (upd H l (.lst (xs++[y])))
theorem Qb:Q4 X "list.append" vL:=by
 intro pins s σ H x vs v us Q I rx rv h
 obtain ⟨l,xs,y,rfl,rfl,hH,hz,q⟩:=h
 cases rx
 obtain ⟨u,rfl,ru⟩:=rv.one
 obtain ⟨z,its,n,r,hl,e⟩:=I.lstM hH
 refine Sg F.slot_list_append ⟨_,e,rfl⟩ F.entry_list_append (F.args_list_append_2 _ _) (PySem.list_append l its.toArray n u (by rw[Al]; omega)) ⟨e,?_⟩
 refine ⟨.non,_,I.lset (its':=its++[u]) hH e (by simp) (r.append (.cons ru .nil)) ?_,rfl,q⟩
 rw[Cb,Ky]
 omega
def vP:V->List V->Hp->VK->Prop:=λx vs H Q=>∃l b xs zs,x=.ref l/\vs=[.ref b]/\H l=some (.lst xs)/\H b=some (.lst zs)/\xs.length+zs.length<=Aq/\Q .non (upd H l (.lst (xs++zs)))
theorem x8:Q4 X "list.extend" vP:=by
 intro pins s σ H x vs v us Q I rx rv h
 obtain ⟨l,b,xs,zs,rfl,rfl,hH,hB,hz,q⟩:=h
 cases rx
 obtain ⟨u,rfl,ru⟩:=rv.one
 cases ru
 obtain ⟨z,its,n,r,hl,e⟩:=I.lstM hH
 obtain ⟨z2,its2,n2,r2,hl2,e2⟩:=I.lstM hB
 have hsz:its.toArray.size+its2.toArray.size<=Aq:=by rw[Al,Al]; omega
 have hlong:¬ (!its.toArray.isEmpty && Ik (its.toArray.size+its2.toArray.size))=true:=by
  rw[eO hsz,Bool.and_false]
  exact Bx
 refine Sg F.slot_list_extend ⟨_,e,rfl⟩ F.entry_list_extend (F.args_list_extend_2 _ _)
  (AutoSeq1.list_extend_list_list_0 l its.toArray n b its2.toArray n2 hlong (by rw[Al]; omega) (by omega)) ⟨e,e2,?_⟩
 refine ⟨.non,_,I.lset (its':=its++its2) hH e (by simp) (r.append r2) ?_,rfl,q⟩
 rw[Cb]
 omega
def C9:R2:=λx y H Q=>∃l b xs zs,x=.ref l/\y=.ref b/\H l=some (.lst xs)/\H b=some (.lst zs)/\xs.length+zs.length<=Aq/\∀p,H p=none->Q (.ref p) (upd H p (.lst (xs++zs)))
theorem hC:Vb X (Hl .Add) C9:=by
 intro pins s σ H x y v u Q I rx ry h
 obtain ⟨l,b,xs,zs,rfl,rfl,hH,hB,hz,q⟩:=h
 cases rx
 cases ry
 obtain ⟨z,its,n,r,hl,e⟩:=I.lstM hH
 obtain ⟨z2,its2,n2,r2,hl2,e2⟩:=I.lstM hB
 refine PySem.P.add_list e e2 ?_ (by rw[Al,Al]; omega)
 have ea:its.toArray++its2.toArray=(its++its2).toArray:=by simp
 rw[ea]
 exact ⟨.ref _,_,I.lnew (t':=s.toks) (r.append r2) (by rw[Cb]; omega),rfl,q _ I.fresh⟩
def A1:R2:=λx y H Q=>∃l k xs,x=.ref l/\y=.int k/\H l=some (.lst xs) /\ -(2 ^ 63)<=k/\k<2 ^ 63/\xs.length * k.toNat<=Aq /\
 ∀p,H p=none->Q (.ref p) (upd H p (.lst (Ca k.toNat xs).flatten))
theorem kH{α:Type}(xs:List α)(k:Nat):(Ca k xs).flatten.length=k * xs.length:=by
 induction k with
 | zero=>simp
 | succ k ih=>rw[Fb,Gs,Cb,ih,Nat.succ_mul,Nat.add_comm]
theorem o9:Vb X (Hl .Mult) A1:=by
 intro pins s σ H x y v u Q I rx ry h
 obtain ⟨l,k,xs,rfl,rfl,hH,h1,h2,hz,q⟩:=h
 cases rx
 obtain ⟨t,rfl⟩:=ry
 obtain ⟨z,its,n,r,hl,e⟩:=I.lstM hH
 have hlen:its.toArray.size * k.toNat<=Aq:=by rw[Al,<- hl]; exact hz
 have hcap:¬ its.toArray.size * k.toNat > (2 ^ 63 - 1) / 8:=by
  have : (Aq:Nat)<=(2 ^ 63 - 1) / 8:=by decide
  omega
 have hfit:¬ (!La k)=true:=by
  rw[fitsIndex_both h1 h2]
  exact Bx
 have hlong:¬ Ik (its.toArray.size * k.toNat)=true:=by
  rw[eO hlen]
  exact Bx
 have hnew:List.foldl (λx1 x2=>x1++x2) #[] (Ca (if its.toArray.isEmpty=true then 0 else k.toNat) its.toArray)=(Ca k.toNat its).flatten.toArray:=by
  have f0:∀m:Nat,List.foldl (λx1 x2=>x1++x2) #[] (Ca m its.toArray)=(Ca m its).flatten.toArray:=λm=>by
   have:=foldl_rep its m []
   rw[List.nil_append] at this
   exact this
  rw[f0]
  cases its with
  | nil=>simp
  | cons a r'=>rw[if_neg (by simp)]
 refine wpAny_binaryOp_repeat_ref (T := "list") (U := "int") (by decide) ⟨_,e,rfl⟩ (λs'=>typeIs_int s' k t) noFill_list_mul F.fills_int_mul F.slot_int_rmul repeat_list F.slot_int_index.lookup
  (Sg F.slot_int_rmul (typeIs_int s k t) F.entry_int_rmul (F.args_int_rmul_2 _ _) (int___rmul___int_list k t l its.toArray n)
   ⟨e,rfl,⟨_,e,rfl⟩,Sg F.slot_list_mul ⟨_,e,rfl⟩ F.entry_list_mul (F.args_list_mul_2 _ _) (AutoListH.list___mul___list_int_3 l its.toArray n k t hfit hcap hlong) ⟨e,?_⟩⟩)
 rw[hnew]
 exact ⟨.ref _,_,I.lnew (t':=s.toks) (r.rep k.toNat) (by rw[kH,Nat.mul_comm]; exact hz),rfl,q _ I.fresh⟩
end
end L2
namespace Att
open PySem PySem.W PySem.Calls PyProof.Rows
theorem Vz{P:Params}{h:Heap}:∀(ns:List Int) (vs:List Value),WellAll P h vs (ns.map WData.int)->Ig vs ns:=by
 intro ns
 induction ns with
 | nil =>
  intro vs w
  rw[Mc] at w
  cases w
  exact .nil
 | cons n ns ih =>
  intro vs w
  rw[Av] at w
  cases w with
  | cons a b =>
   cases a
   exact .cons _ _ (ih _ b)
theorem oJ{l:OpenLaw}{n:Nat}(hn:l.most=some n){P:Params}{h:Heap}{args:List WData}{vals:List Value}(hpre:l.row.toRowW.claim.pre args=true)(hwl:WellAll P h vals args):∃a vs ns,vals=[Bf a]/\args=[WData.list (ns.map WData.int)]/\h.get? a=some { cls:=.type "list",data:=.seq vs.toArray }/\Ig vs ns/\ns.length<=n:=by
 have hsh:WShape.hasAll [] args [.list .int]=true:=(pre_splitW hpre).1
 have hc:l.pre.holds [] { args:=args }=true:=(pre_splitW hpre).2
 obtain ⟨d,r,rfl,h1,h2⟩:=hasAllW_cons hsh
 obtain rfl:=hasAllW_nil h2
 obtain ⟨xs,rfl,h3⟩:=hasW_list h1
 obtain ⟨ns,rfl⟩:=items_int h3
 have hlen:ns.length<=n:=by
  unfold OpenLaw.pre at hc
  have h4:(WTm.not (.lt (.lit (.int (n:Int))) (.len (.arg 0)))).holds [] { args:=[.list (ns.map .int)] }=true:=by
   have h4:=(holds_andW hc).1
   rw[hn] at h4
   exact h4
  have h5:=condW_of h4 (w_not (w_lt w_lit (w_len_list (w_arg rfl))))
  rw[Ab] at h5
  refine Nat.le_of_not_lt λq=>?_
  have q':(n:Int)<((ns.length:Nat):Int):=by omega
  first
   | (rw[decide_eq_true q'] at h5; exact absurd h5 (by decide))
   | (simp at h5; omega)
 cases hwl with
 | cons w1 w2 =>
  cases w2
  cases w1 with
  | list ho hall=>exact ⟨_,_,ns,rfl,rfl,ho,Vz ns _ hall,hlen⟩
theorem nM(l:OpenLaw)(args:List WData):l.row.toRowW.claim.post args (.bool true) args=true :=
 postW_of (r:=l.row.toRowW) (X:=(true == true))
  (show WShape.has [] (.bool true) .bool=true by first | rfl | decide | simp [WShape.has,WShape.arms,WShape.armsAll])
  (show (WTm.eq .res (.lit (.bool true))).value [] { args:=args,res:=some (.bool true),after:=args }=some (.bool (true == true)) from w_eq_bool (w_res rfl) w_lit) rfl
theorem attach_call{l:OpenLaw}{n:Nat}{q:Bu}{loose:List Str}{XP:(Str->Option Value)->Heap->Prop}{YP:World->Heap->Prop}{d:DefRec}(hn:l.most=some n)(hdf:d.params.defaults=[])(call:∀(w:World) (s₀ s₁:Af) (mg mb:Str->Option Value) (fa:Addr) (o:Obj) (pm cd doc:Value) (a:Addr) (vs:List Value) (ns:List Int),Ground q loose [] XP w s₀ mg mb s₁.heap->YP w s₁.heap->s₁.heap.get? fa=some o->o.data=.func (docDef d.name d.params d.body d.scope pm cd doc)->s₁.heap.CodeRec cd d.name->mg d.name=some (.ref fa)->s₁.heap.get? a=some { cls:=.type "list",data:=.seq vs.toArray }->Ig vs ns->ns.length<=n->s₁.gens=#[]->Mb (model l.prog w) We (.call (.ref fa) ⟨[.ref a],[]⟩) (λr s'=>r=.ok (.ret (.bool true))/\OldK s₁.heap s'.heap/\s'.os=s₁.os/\Py s'.gens) s₁):WalkO q loose XP YP l.row.toRowW d [] (λf vs=>PySem.call f vs):=by
 intro w s₀ s₁ mg mb G Y fa o pm cd doc dV kV ho hd hcd hD hmg hg args vals as hpre hlay hrd hwl hlo
 obtain rfl:dV=.none:=Dflts.none hD hdf
 obtain rfl:kV=.none:=Dflts.noKw hD
 obtain ⟨a,vs,ns,rfl,rfl,hobj,hints,hlen⟩:=oJ hn hpre hwl
 refine enter_call (bG (call w s₀ s₁ mg mb fa o pm cd doc a vs ns G Y ho (fd_plain hd) hcd hmg hobj hints hlen hg) λr s' hq=>?_)
 obtain ⟨rfl,h2,h3,h4⟩:=hq
 exact ⟨.inl ⟨.bool true,.bool true,[],rfl,λ_=>rfl,.bool true,nM l _,λ_=>⟨Hf,λ_ hm=>(nomatch hm)⟩⟩,h2,h3,h4⟩
end Att
namespace L2
open PySem PySem.Spec PyProof.Rows
theorem aH:∀{vs:List Value} {ns:List Int},Ig vs ns->Ep (ns.map V.int) vs
 | _,_,.nil=>.nil
 | _,_,.cons n t h=>.cons ⟨t,rfl⟩ (aH h)
def Mg(s:Stmt):Rk:=match s with
 | .FunctionDef _ a _ _ _ _ _ _ _ _=>a
 | _=>{ posonlyargs:=[],args:=[],vararg:=none,kwonlyargs:=[],kw_defaults:=[],kwarg:=none,defaults:=[] }
def Hk(s:Stmt):List Stmt:=match s with
 | .FunctionDef _ _ b _ _ _ _ _ _ _=>b
 | _=>[]
def Bn(s:Stmt):Scope:=match s with
 | .FunctionDef _ _ _ _ _ _ sc _ _ _=>sc
 | _=>{ kind:=.function,names:=[],isGenerator:=false,isCoroutine:=false }
abbrev Gd:oN:=λ_ _ _ _ _ _=>False
abbrev E0:XK:=λ_ _ _=>False
theorem Gh{X:Cx}:Pp Gd X E0:=λ_ _ _ _ _ _ _ h=>h.elim
structure Fun(K:PySem.W.Frag)(x qual:Str)(st:Stmt)(f:Addr)(fd:Bz):Prop where
 ex:∃(oc:Value) (od:Option Addr) (kV doc pm:Value) (an:Option Addr) (cdv ct:Value) (osl:Array (Option Value)),
  fd=PySem.W.fnOf x qual (Mg st) (Hk st) (Bn st) .none kV doc pm an cdv ct/\K.lookup f=some ⟨oc,od,.func fd,osl⟩/\PySem.W.codeIn K cdv qual=true
 kp:PySem.W.keepIn K (.ref f)=true
section
variable{P:Bu}{w:World}{K:PySem.W.Frag}{mg:Str->Option Value}{base:Heap}
theorem Fun.ok{x qual:Str}{st:Stmt}{f:Addr}{fd:Bz}{N ps:List Str}{k:Nat}{sp:Sp}(F:Fun K x qual st f fd)(S:FnScope N ps (Bn st))(len:∀vs H Q E,sp vs H Q E->vs.length=ps.length)(hbody:∀(cdv:Value) (A:Cq) (outer:List Env) (s:Af) (H:Hp) (vs:List V) (Q:VK) (E:XK),Room k (A.deeper (envOfC qual (Bn st) s.heap.objs.size f cdv))->sp vs H Q E->∃t,jL (Jz Gd P w K mg base N qual (Bn st) f cdv A outer s H E).nox (Hk st) t/\t { nx:=λ_ H'=>Q .non H',rt:=Q } (start N vs) H):FnOk P w K mg base Gd (k+1) f fd ps sp:=by
 obtain ⟨oc,od,kV,doc,pm,an,cdv,ct,osl,rfl,lk,hcd⟩:=F.ex
 refine yG lk hcd S len λA outer s H vs Q E hr hsp=>?_
 obtain ⟨t,h,q⟩:=hbody cdv A outer s H vs Q E hr hsp
 exact ⟨t,h.nox,q⟩
theorem Fun.binds{x qual:Str}{st:Stmt}{f:Addr}{fd:Bz}{ps:List Str}(F:Fun K x qual st f fd)(h:∀(kV doc pm:Value) (an:Option Addr) (cdv ct:Value) (us:List Value),us.length=ps.length->bindArgs (PySem.W.fnOf x qual (Mg st) (Hk st) (Bn st) .none kV doc pm an cdv ct) ⟨us,[]⟩=pure (ps.zip us)):Binds K fd ps []:=by
 obtain ⟨oc,od,kV,doc,pm,an,cdv,ct,osl,rfl,lk,hcd⟩:=F.ex
 exact .all (h kV doc pm an cdv ct)
theorem qM{x qual:Str}{st:Stmt}{f:Addr}{oc:Value}{od an:Option Addr}{osl:Array (Option Value)}{kV doc pm cdv ct:Value}(l:K.lookup f=some ⟨oc,od,.func (PySem.W.fnOf x qual (Mg st) (Hk st) (Bn st) .none kV doc pm an cdv ct),osl⟩)(c:PySem.W.codeIn K cdv qual=true)(k:PySem.W.keepIn K (.ref f)=true):Fun K x qual st f (PySem.W.fnOf x qual (Mg st) (Hk st) (Bn st) .none kV doc pm an cdv ct):=⟨⟨oc,od,kV,doc,pm,an,cdv,ct,osl,rfl,l,c⟩,k⟩
end
theorem aE{n:Nat}(h:n<=1000):n<Aq:=Hm h (by decide)
section
variable{X:Cx}
theorem pv(i:Nat){x:Str}{pos:Pos}(hN:X.N[i]? = some x:=by rfl)(hv:M9 X.env.scope x:=by first | exact Ea rfl | exact On (Ea rfl) | exact On (On rfl))(hd:(x == ("__debug__" : Str))=false:=by decide)(hcd:(x == ("__classdict__" : Str))=false:=by decide):PE X (.Name x pos) (Zw i):=zN hN hv hd hcd
end
theorem zH{A B:Prop}(h:B):if false=true then A else B:=by
 rw[if_neg Bx]
 exact h
theorem uJ{A B:Prop}(h:A):if true=true then A else B:=by
 rw[if_pos rfl]
 exact h
theorem zF{c A B:Prop}[Decidable c](h1:c->A)(h2:¬ c->B):if c then A else B:=by
 by_cases h:c
 ·rw[if_pos h]
  exact h1 h
 ·rw[if_neg h]
  exact h2 h
def Kt(H H':Hp):Prop:=∀b o,H b=some o->H' b=some o
theorem Kt.refl(H:Hp):Kt H H:=λ_ _ h=>h
theorem Kt.trans{H H1 H2:Hp}(a:Kt H H1)(b:Kt H1 H2):Kt H H2:=λc o h=>b c o (a c o h)
theorem Kt.free{H H':Hp}(e:Kt H H'){l:Addr}(h:H' l=Na):H l=Na:=by
 cases q:H l with
 | none=>rfl
 | some o =>
  rw[e l o q] at h
  cases h
end L2
namespace Nd
open PySem PySem.Spec PyProof.Rows L2
def Es(X:Cx)(scope:Scope)(cl:List (Str×Addr))(N:List Str)(fp:List Addr)(s:Af)(H:Hp):Cx where
 prog:=X.prog
 w:=X.w
 K:=X.K
 mg:=X.mg
 base:=X.base
 A:=X.A
 N:=N
 s₀:=s
 H₀:=H
 env:=compEnvC scope (Eg (s.heap.objs.size+1) scope.names cl) s.heap.objs.size X.env
 outer:=X.stack
 stack:=X.stack
 ex:=fp
 fn:=λy=>decide (scope.names.lookup y=some Dr)
 calm:=X.calm
 pn:=[]
 xe:=λ_ _=>False
section
variable{prog:Bu}{w:World}{A:Cq}{R:Result->Af->Prop}{s:Af}
theorem Ru{elt tg iter:Expr}{ifs:List Expr}{scope:Scope}{pos:Pos}{it acc:Value}{env:Env}(J:Nat->Af->Prop) (turn:∀n s,J n s->wpAny (model prog w) A (Se it) (λr s1=>match r with
    | none=>R (.ok .next) s1
    | some v=>wpAny (model prog w) A (Tv tg it v) (λ_ s2=>wpAny (model prog w) A (Vx tg env v) (λ_ s3 =>
      wpAny (model prog w) A (forIn ifs true λc r=>if r=true then (do
        let ok <- isTrue c env (eval c env)
        pure (Eu ok)) else pure (Eu r)) (λok s4 =>
       if ok=true then
        wpAny (model prog w) A (eval elt env) (λx s5=>wpAny (model prog w) A (call (.builtin "list.append") [acc,x]) (λ_ s6=>∃m,m<n/\J m s6) (λ_ _=>False) s5) (λ_ _=>False) s4
       else ∃m,m<n/\J m s4) (λ_ _=>False) s3) (λ_ _=>False) s2) (λ_ _=>False) s1) (λ_ _=>False) s)
  (n:Nat) (h:J n s):Mb (model prog w) A (.compLoop (.ListComp elt [⟨tg,iter,ifs,0⟩] scope pos) 0 it acc env) R s:=by
 refine codeAny_loop rfl J (λn s hJ=>?_) n h
 show wpAny _ A (Sem.onRaise (compTurn (.ListComp elt [⟨tg,iter,ifs,0⟩] scope pos) 0 it acc env) (λx=>do noteFrame x env; theTreesLotGoes x)) _ _ s
 refine wpAny_noted ?_
 rw[compTurn_list]
 refine Ac (wpAny_standAt (Ac (En (turn n s hJ) (λr s1 h1=>?_) λ_ _ z=>z.elim)))
 cases r with
 | none=>exact Bb h1
 | some v =>
  refine Ac (En h1 (λ_ s2 h2=>?_) λ_ _ z=>z.elim)
  refine Ac (En h2 (λ_ s3 h3=>?_) λ_ _ z=>z.elim)
  refine Ac (En h3 (λok s4 h4=>?_) λ_ _ z=>z.elim)
  cases ok with
  | false=>exact Bb ⟨rfl,h4⟩
  | true =>
   refine Ac (Ac (En h4 (λx s5 h5=>?_) λ_ _ z=>z.elim))
   exact Ac (En h5 (λ_ s6 h6=>Bb (Bb ⟨rfl,h6⟩)) λ_ _ z=>z.elim)
end
section
variable{X:Cx}{pins:List (Addr×Obj)}{σ:L2.St}{H:Hp}{s:Af}{scope:Scope}{cl:List (Str×Addr)}{fp:List Addr}{N:List Str}
def sP(scope:Scope)(x:Str):Prop:=scope.names.lookup x=some .local\/scope.names.lookup x=some .cell
structure CompScope(X:Cx)(scope:Scope)(cl:List (Str×Addr))(x:Str)(ys:List Str)(js:List Nat):Prop where
 clos:Zf scope X.env=pure cl
 oc:(∀y∈scope.names,y.2≠.cell)\/∃z:Str,(∀n,Eg n scope.names []=[(z,n)])/\scope.names.lookup z=some .cell/\∀y∈scope.names,y.2=.cell->y.1=z
 kind:scope.kind=.function
 locs:∀y∈scope.names,y.2=.local->scope.names.lookup y.1=some .local
 own:sP scope x
 sub:∀y c,cl.lookup y=some c->X.env.cells.lookup y=some c
 has_:(scope.names.all λy=>!(y.2 == Dq) || (cl.lookup y.1).isSome)=true
 nd:(x::ys).Nodup
 len:ys.length=js.length
 at_:∀(k:Nat) (y:Str) (j:Nat),ys[k]? = some y->js[k]? = some j->X.N[j]? = some y/\scope.names.lookup y=some .free/\(X.env.kindOf y=some .cell\/X.env.kindOf y=some .free)
theorem CompScope.has{x:Str}{ys:List Str}{js:List Nat}(C:CompScope X scope cl x ys js):∀y∈scope.names,y.2=.free->(cl.lookup y.1).isSome=true:=λy hy e=>by
 have h:=List.all_eq_true.mp C.has_ y hy
 rw[e] at h
 simpa using h
theorem Yi{x y:Str}{j:Nat}(clos:Zf scope X.env=pure cl)(nocell:∀y∈scope.names,y.2≠.cell)(kind:scope.kind=.function)(locs:∀y∈scope.names,y.2=.local->scope.names.lookup y.1=some .local)(own:scope.names.lookup x=some .local)(sub:∀y c,cl.lookup y=some c->X.env.cells.lookup y=some c)(has_:(scope.names.all λy=>!(y.2 == Dq) || (cl.lookup y.1).isSome)=true)(nd:[x,y].Nodup)(hN:X.N[j]? = some y)(hfree:scope.names.lookup y=some .free)(hk:X.env.kindOf y=some .cell):CompScope X scope cl x [y] [j] :=
 ⟨clos,.inl nocell,kind,locs,.inl own,sub,has_,nd,rfl,λk z i e1 e2=>by
  cases k with
  | zero =>
   have h1:y=z:=by simpa using e1
   have h2:j=i:=by simpa using e2
   subst h1 h2
   exact ⟨hN,hfree,.inl hk⟩
  | succ k=>simp at e1⟩
theorem Ph{env:Env}{y:Str}{k:Mr}:∀{names:List (Str×Mr)},
  (names.map λ(n,k)=>if (k == Dq && env.scope.kind == .function && env.kindOf n == some .cell) then (n,Dr) else (n,k)).lookup y=some k ->
  ∃k0,names.lookup y=some k0/\(k=k0\/(k0=.free/\k=.cell))
 | [],h=>by simp at h
 | (n,k0)::r,h=>by
  have ih:=@Ph env y k r
  rw[Av] at h
  by_cases hc:(k0 == Dq && env.scope.kind == .function && env.kindOf n == some .cell)=true
  ·have h':Jx y ((n,Dr)::(r.map λ(n,k)=>if (k == Dq && env.scope.kind == .function && env.kindOf n == some .cell) then (n,Dr) else (n,k)))=some k:=by
    simpa [hc] using h
   cases hy:y == n with
   | true =>
    rw[Bw,hy] at h'
    have e:k=Dr:=by simpa using h'.symm
    refine ⟨k0,by rw[Bw,hy],.inr ⟨?_,e⟩⟩
    rw[Bv,Bv] at hc
    exact Dv hc.1.1
   | false =>
    rw[Bw,hy] at h'
    obtain ⟨q,e1,e2⟩:=ih h'
    exact ⟨q,by rw[Bw,hy]; exact e1,e2⟩
  ·have h':Jx y ((n,k0)::(r.map λ(n,k)=>if (k == Dq && env.scope.kind == .function && env.kindOf n == some .cell) then (n,Dr) else (n,k)))=some k:=by
    simpa [hc] using h
   cases hy:y == n with
   | true =>
    rw[Bw,hy] at h'
    exact ⟨k0,by rw[Bw,hy],.inl (by simpa using h'.symm)⟩
   | false =>
    rw[Bw,hy] at h'
    obtain ⟨q,e1,e2⟩:=ih h'
    exact ⟨q,by rw[Bw,hy]; exact e1,e2⟩
theorem So{env:Env}{y:Str}:∀{names:List (Str×Mr)},names.lookup y=some .free ->
  (names.map λ(n,k)=>if (k == Dq && env.scope.kind == .function && env.kindOf n == some .cell) then (n,Dr) else (n,k)).lookup y=some .cell \/
  (names.map λ(n,k)=>if (k == Dq && env.scope.kind == .function && env.kindOf n == some .cell) then (n,Dr) else (n,k)).lookup y=some .free
 | [],h=>by simp at h
 | (n,k0)::r,h=>by
  have ih:=@So env y r
  show Jx y ((if (k0 == Dq && env.scope.kind == .function && env.kindOf n == some .cell)=true then (n,Dr) else (n,k0))::_)=_\/Jx y ((if (k0 == Dq && env.scope.kind == .function && env.kindOf n == some .cell)=true then (n,Dr) else (n,k0))::_)=_
  by_cases hc:(k0 == Dq && env.scope.kind == .function && env.kindOf n == some .cell)=true
  ·rw[if_pos hc]
   cases hy:y == n with
   | true=>exact .inl (by rw[Bw,hy])
   | false =>
    rw[Bw,hy] at h
    simp only[Bw,hy]
    exact ih h
  ·rw[if_neg hc]
   cases hy:y == n with
   | true =>
    rw[Bw,hy] at h
    exact .inr (by rw[Bw,hy]; exact h)
   | false =>
    rw[Bw,hy] at h
    simp only[Bw,hy]
    exact ih h
theorem Dn{α β:Type}[BEq α][LawfulBEq α]{y:α}{k:β}:∀{l:List (α×β)},l.lookup y=some k->(y,k)∈l
 | [],h=>by simp at h
 | (n,v)::r,h=>by
  cases hy:y == n with
  | true =>
   rw[Bw,hy] at h
   have e:=Dv hy
   subst e
   have : v=k:=by simpa using h
   subst this
   exact Aa
  | false =>
   rw[Bw,hy] at h
   exact Ag _ (Dn h)
end
theorem bM{a c:Nat}(h:c<a)(e:c=a+1):False:=by omega
theorem Hh:∀(names:List (Str×Mr)) (n:Nat) (acc:List (Str×Addr)),Eg n names acc=Eg n names []++acc
 | [],_,_=>rfl
 | (x,k)::r,n,acc=>by
  unfold Eg
  by_cases h:(k == Dr)=true
  ·rw[if_pos h,if_pos h,Hh r _ ((x,n)::acc),Hh r _ [(x,n)],Ck]; rfl
  ·rw[if_neg h,if_neg h]; exact Hh r n acc
theorem Lr:∀(names:List (Str×Mr)) (n:Nat) (acc:List (Str×Addr)),(∀y∈names,y.2≠.cell)->Eg n names acc=acc
 | [],_,_,_=>rfl
 | (x,k)::r,n,acc,h=>by
  unfold Eg
  rw[if_neg (by have:=h (x,k) Aa; simpa using this)]
  exact Lr r n acc λy hy=>h y (Ag _ hy)
theorem Sj{env:Env}{y:Str}:∀{names:List (Str×Mr)},names.lookup y=some .cell->(names.map λ(n,k)=>if (k == Dq && env.scope.kind == .function && env.kindOf n == some .cell) then (n,Dr) else (n,k)).lookup y=some .cell
 | [],h=>by simp at h
 | (n,k0)::r,h=>by
  have ih:=@Sj env y r
  show Jx y ((if (k0 == Dq && env.scope.kind == .function && env.kindOf n == some .cell)=true then (n,Dr) else (n,k0))::_)=_
  by_cases hc:(k0 == Dq && env.scope.kind == .function && env.kindOf n == some .cell)=true
  ·rw[if_pos hc]
   cases hy:y == n with
   | true=>rw[Bw,hy]
   | false=>rw[Bw,hy] at h ⊢; exact ih h
  ·rw[if_neg hc]
   cases hy:y == n with
   | true=>rw[Bw,hy] at h ⊢; exact h
   | false=>rw[Bw,hy] at h ⊢; exact ih h
theorem Wk{env:Env}{scope:Scope}{x:Str}(o:sP scope x):Loc (relabel scope env) x:=o.imp lookup_relabel_local Sj
section
variable{X:Cx}{scope:Scope}{cl:List (Str×Addr)}{x y:Str}{ys:List Str}{js:List Nat}{n c:Nat}{N:List Str}{fp:List Addr}{s:Af}{H:Hp}
theorem dP(o:sP scope x):(Es X scope cl N fp s H).fn x=true\/(Es X scope cl N fp s H).env.scope.names.lookup x=some .local:=by
 rcases o with o | o
 ·exact .inr (lookup_relabel_local o)
 ·exact .inl (decide_eq_true o)
theorem CompScope.split(C:CompScope X scope cl x ys js)(h:(Eg n scope.names cl).lookup y=some c):cl.lookup y=some c\/(c=n/\Eg 0 scope.names []=[(y,0)]/\Eg n scope.names []=[(y,n)]/\scope.names.lookup y=some .cell):=by
 rcases C.oc with o | ⟨z,o1,o2,_⟩
 ·rw[Lr _ _ _ o] at h; exact .inl h
 ·rw[Hh,o1] at h
  have h2:Jx y ((z,n)::cl)=some c:=h
  rw[Bw] at h2
  cases e:y == z with
  | true =>
   rw[e] at h2
   have ec:c=n:=(Bj h2).symm
   have ey:=Dv e
   subst ey
   exact .inr ⟨ec,o1 0,o1 n,o2⟩
  | false=>rw[e] at h2; exact .inl h2
theorem CompScope.find(C:CompScope X scope cl x ys js)(h:cl.lookup y=some c)(hy:scope.names.lookup y=some .free):(Eg n scope.names cl).lookup y=some c:=by
 rcases C.oc with o | ⟨z,o1,o2,_⟩
 ·rw[Lr _ _ _ o]; exact h
 ·rw[Hh,o1]
  show Jx y ((z,n)::cl)=some c
  rw[Bw]
  cases e:y == z with
  | true=>rw[Dv e,o2] at hy; cases hy
  | false=>exact h
theorem CompScope.cellAt(C:CompScope X scope cl x ys js)(hy:(y,Dr)∈scope.names):(Eg n scope.names cl).lookup y=some n:=by
 rcases C.oc with o | ⟨z,o1,o2,o3⟩
 ·exact absurd rfl (o _ hy)
 ·have ez:y=z:=o3 _ hy rfl
  subst ez
  rw[Hh,o1]
  show Jx y ((y,n)::cl)=some n
  rw[Bw,beq_self_eq_true]
theorem Ug{M:Model}{A:Cq}{E:Value->Af->Prop}{Q:Env->Af->Prop}(C:CompScope X scope cl x ys js)(hQ:∀h4,h4.Ns s.heap.objs.size (λ_=>none)->(∀b u,s.heap.get? b=some u->h4.get? b=some u)->(∀z n,Eg (s.heap.objs.size+1) scope.names []=[(z,n)]->h4.IsCell n none)->Q (newEnv scope s.heap.objs.size X.env.globals (Eg (s.heap.objs.size+1) scope.names cl) X.env.qual none .none (some X.env) Sh) { s with heap:=h4,toks:=s.toks+([]:List (Str×Value)).length }):wpAny M A (Oi scope X.env.globals cl [] X.env.qual none .none (some X.env)) Q E s:=by
 simp only[Oi,Option.isSome_some,if_true]
 refine Ac (wpAny_alloc (Ac (wpAny_layCells _ (λx k cs=>by cases e:k == Dr <;> simp [e]) _ _ _ _ ?_)))
 have hsz:({ s with heap:=s.heap.push { cls:=.type "dict",data:=.dict #[] } }:Af).heap.objs.size=s.heap.objs.size+1:=Heap.size_push ..
 rw[hsz]
 refine Ac (Bb (Bb (hQ _ ((Heap.Ns.new s.heap (.type "dict")).keeps (pushCells_keeps _ _)) (λb u e=>pushCells_keeps _ _ b u (Ae _ e)) λz n e=>?_)))
 have ok:=(cellsFrom_ok scope.names (s.heap.push { cls:=.type "dict",data:=.dict #[] }) 0 [] ⟨λ_ _ hm=>(nomatch hm),Hf⟩ (Dj _)).empty z n
 rw[show (s.heap.push { cls:=.type "dict",data:=.dict #[] }).objs.size=s.heap.objs.size+1 from hsz,e] at ok
 exact (ok (Ah.mpr rfl)).1
end
section
variable{X:Cx}{pins:List (Addr×Obj)}{σ:L2.St}{H:Hp}{s:Af}{scope:Scope}{cl:List (Str×Addr)}{fp:List Addr}{N:List Str}
theorem wG{x:Str}{ys:List Str}{js:List Nat}(C:CompScope X scope cl x ys js)(I:Inv X pins σ H s)(hf:∀b∈fp,Lv X pins H b)(ho:∀b∈fp,∃o,s.heap.get? b=some o):(Es X scope cl N fp s H).Ok where
 mod:=I.ok.mod
 kind:=C.kind
 glob:=I.ok.glob
 blt:=I.ok.blt
 above:=Ai _
 inj:=λy z c h1 h2=>by
  have lt:∀y,cl.lookup y=some c->c<s.heap.objs.size:=λy e=>let ⟨_,q⟩:=I.cell y c (C.sub y c e); q.lt
  rcases C.split h1 with h1 | ⟨e1,a1,_⟩
  ·rcases C.split h2 with h2 | ⟨e2,_⟩
   ·exact I.ok.inj y z c (C.sub y c h1) (C.sub z c h2)
   ·exact (bM (lt y h1) e2).elim
  ·rcases C.split h2 with h2 | ⟨e2,a2,_⟩
   ·exact (bM (lt z h2) e1).elim
   ·rw[a1] at a2
    simpa using a2
 has:=λy hy=>by
  have key:∀k,(k=Dr\/k=Dq)->(compEnvC scope cl s.heap.objs.size X.env).kindOf y=some k->∃c,(Eg (s.heap.objs.size+1) scope.names cl).lookup y=some c:=by
   intro k hk e
   obtain ⟨k0,e0,e1⟩:=Ph (names:=scope.names) (env:=X.env) (y:=y) (k:=k) e
   have m:=Dn e0
   by_cases hk0:k0=.cell
   ·exact ⟨_,C.cellAt (hk0▸m)⟩
   have hfree:k0=.free:=by
    rcases e1 with e1 | e1
    ·subst e1
     rcases hk with hk | hk
     ·exact absurd hk hk0
     ·exact hk
    ·exact e1.1
   obtain ⟨c,hc⟩:=Nj.mp (C.has _ m hfree)
   exact ⟨c,C.find hc (hfree▸e0)⟩
  rcases hy with hy | hy
  ·exact key _ (.inl rfl) hy
  ·exact key _ (.inr rfl) hy
 cab:=λy c h e=>by
  have h:scope.names.lookup y=some .cell:=of_decide_eq_true h
  have:=(C.cellAt (n:=s.heap.objs.size+1) (Dn h)).symm.trans e
  show s.heap.objs.size<=c
  have:=Bj this
  omega
 hd:=I.ok.hd
 frames:=I.ok.frames
 stk:=.inl rfl
 exf:=λb hb=>by
  obtain ⟨o,e⟩:=ho b hb
  refine ⟨Cf (Bc e),λy c hc=>?_⟩
  rcases C.split hc with hc | ⟨hc,_⟩
  ·exact (hf b hb).2.2.2.2.1 y c (C.sub y c hc)
  ·exact λz=>bM (Bc e) (z.symm.trans hc)
 bs:=I.bs
 bsz:=Cg I.ok.bsz I.sz
 noex:=λb o e hb=>by
  rcases (hf b hb).2.2.2.1 with z | z
  ·exact I.ok.noex b o e z
  ·exact absurd (Cc (Bc (I.ok.bs b o e).1) z) (Ex _)
 exfs:=λb hb z=>by
  rcases Aj.mp (I.stkSub b z) with e | e
  ·exact (hf b hb).2.1 e
  ·exact (hf b hb).2.2.1 e
 funs:=I.stack
 frf:=I.stkFree
 tab:=I.ok.tab.un I.base
def Fv(σ:L2.St)(js:List Nat):L2.St:=js.map λj=>(σ[j]?).join
theorem Rp{x:Str}{pre ys:List Str}{js:List Nat}{h1:Heap}{tk:Nat}{m1:Str->Option Value}(C:CompScope X scope cl x ys js)(I:Inv X pins σ H s)(hf:∀b∈fp,Lv X pins H b)(ho:∀b∈fp,∃o,s.heap.get? b=some o)(hns:h1.Ns s.heap.objs.size m1)(keep:∀b u,s.heap.get? b=some u->h1.get? b=some u)(new:∀z n,Eg (s.heap.objs.size+1) scope.names []=[(z,n)]->h1.IsCell n none):Inv (Es X scope cl (pre++ys) fp s H) [] (pre.map (λ_=>none)++Fv σ js) H { s with heap:=h1,toks:=tk }:=by
 have cellK:∀y c,cl.lookup y=some c->∃v,s.heap.IsCell c v/\h1.IsCell c v:=λy c e=>by
  obtain ⟨v,o,q,d⟩:=I.cell y c (C.sub y c e)
  exact ⟨v,⟨o,q,d⟩,o,keep c o q,d⟩
 refine ⟨wG C I hf ho,rfl,I.bare,Un.kept keep,⟨m1,hns,λi y v e1 e2 _=>?_⟩,λy c e=>?_,I.hok.fresh (Ai _),λy c e=>?_,λp hp=>?_,I.hok.kept keep,?_⟩
 ·have e2:(pre.map (λ_=>(none:Option V))++Fv σ js)[i]? = some (some v):=e2
  have e1:(pre++ys)[i]? = some y:=e1
  by_cases hi:i<pre.length
  ·rw[Gm (by rw[Ab]; exact hi),Az] at e2
   cases q:pre[i]? with
   | none=>rw[q] at e2; cases e2
   | some z=>rw[q] at e2; cases e2
  ·rw[Ey (by rw[Ab]; omega),Ab] at e2
   rw[Ey (by omega)] at e1
   have e1':=e1
   have e2':=e2
   generalize i - pre.length=k at e1' e2'
   unfold Fv at e2'
   rw[Az] at e2'
   cases ej:js[k]? with
   | none=>rw[ej] at e2'; simp at e2'
   | some j =>
    rw[ej] at e2'
    have e3:(σ[j]?).join=some v:=by simpa using e2'
    have e4:σ[j]? = some (some v):=by
     cases q:σ[j]? with
     | none=>rw[q] at e3; simp at e3
     | some z=>rw[q] at e3; simp at e3; rw[e3]
    obtain ⟨a1,a2,a3⟩:=C.at_ k y j e1' ej
    obtain ⟨m0,_,hl⟩:=I.loc
    have vis:M9 X.env.scope y:=a3.elim (λa3=>.inr (.inl a3)) λa3=>.inr (.inr a3)
    obtain ⟨u,r,l⟩:=hl j y v a1 e4 vis
    refine ⟨u,r,?_⟩
    rcases l with ⟨k1,_⟩ | ⟨_,c,hc,hv⟩
    ·rcases a3 with a3 | a3 <;> rw[k1] at a3 <;> cases a3
    ·obtain ⟨c',hc'⟩:=Nj.mp (C.has _ (Dn a2) rfl)
     have ec:c'=c:=by
      have:=C.sub y c' hc'
      rw[hc] at this
      exact (Bj this).symm
     subst ec
     obtain ⟨o,q,d⟩:=hv
     exact .inr ⟨So a2,c',C.find hc' a2,o,keep c' o q,d⟩
 ·rcases C.split e with e | ⟨e,_,e',_⟩
  ·obtain ⟨v,_,z⟩:=cellK y c e
   exact ⟨v,z⟩
  ·exact ⟨_,e▸new _ _ e'⟩
 ·rcases C.split e with e | ⟨e,_⟩
  ·exact I.freeC y c (C.sub y c e)
  ·exact I.hok.fresh (by omega)
 ·cases (show p∈([]:List (Addr×Obj)) from hp)
 ·show (pre.map (λ_=>(none:Option V))++Fv σ js).length=(pre++ys).length
  simp [Fv,C.len]
end
section
variable{X:Cx}
def yN(J:It)(js:List Nat)(tc:TT)(te:TE)(σ:L2.St)(H1:Hp)(Q:VK):Prop:=∀D,H1 D=none->∃W:Nat->Nat->Hp->Prop,(∃m,W 0 m (upd H1 D (.lst [])))/\∀i m H,W i m H ->
 (J.stop i H/\Q (.ref D) H)\/(J.go i H/\∀x H',J.yld i H x H'->∃(N1:Hp->Prop) (N2:VK),(∀H2,N1 H2->∃m',m'<m/\W (i+1) m' H2) /\
  (∀y H3,N2 y H3->∃acc,H3 D=some (.lst acc)/\acc.length<Aq/\∃m',m'<m/\W (i+1) m' (upd H3 D (.lst (acc++[y])))) /\
  tc (some x::Fv σ js) H' λc H2=>if c=true then te (some x::Fv σ js) H2 N2 else N1 H2)
def lU(wi:TI)(js:List Nat)(tc:TT)(te:TE):TE:=λσ H Q=>wi σ H λJ H1=>yN J js tc te σ H1 Q
def Wl:TT:=λ_ H Q=>Q true H
theorem tQ{σ:L2.St}{H:Hp}{te:TE}{N1:Hp->Prop}{N2:VK}{σ':L2.St}(h:te σ' H N2):Wl σ H λc H2=>if c=true then te σ' H2 N2 else N1 H2:=by
 show if true=true then te σ' H N2 else N1 H
 exact uJ h
def oR(X:Cx)(ifs:List Expr)(t:TT):Prop :=
 ∀(pins:List (Addr×Obj)) (s:Af) (σ:L2.St) (H:Hp) (Q:Bool->Hp->Prop),Inv X pins σ H s->t σ H Q ->
  wpAny (model X.prog X.w) X.A (forIn ifs true λc r=>if r=true then (do
   let ok <- isTrue c X.env (eval c X.env)
   pure (Eu ok)) else pure (Eu r)) (TP X pins σ Q) X.xe s
theorem Ym:oR X [] Wl:=λpins s σ H Q I h=>wpAny_tests_nil ⟨H,I,h⟩
theorem wM{c:Expr}{t:TT}(h:PT X c t):oR X [c] t:=λpins s σ H Q I q=>wpAny_tests_one (h pins s σ H Q I q)
theorem Yg{X X':Cx}{pins:List (Addr×Obj)}{σ σ':L2.St}{H3 H6:Hp}{s3 s7:Af}{scope:Scope}{cl:List (Str×Addr)}{N:List Str}{fp:List Addr}(hX':Es X scope cl N fp s3 H3=X')(I3:Inv X pins σ H3 s3)(f3:∀b∈fp,Lv X pins H3 b)(I7:Inv X' [] σ' H6 s7):∃m7,s7.heap.Ns s3.heap.objs.size m7/\∀h8,Jd s3.heap.objs.size s7.heap h8->Inv X pins σ H6 { s7 with heap:=h8 }:=by
 have eP:X'.prog=X.prog:=by rw[<- hX']; rfl
 have eW:X'.w=X.w:=by rw[<- hX']; rfl
 obtain ⟨m7,hn7,_⟩:=I7.loc
 have hn7':s7.heap.Ns s3.heap.objs.size m7:=by rw[<- hX'] at hn7; exact hn7
 refine ⟨m7,hn7',λh8 hs8=>?_⟩
 have I7f:H6 s3.heap.objs.size=none:=by have:=I7.free; rw[<- hX'] at this; exact this
 have b7:Un (nS X.stack) fp H3 H6 s3.heap s7.heap:=by have:=I7.base; rw[<- hX'] at this; exact this
 have ne8:∀b o,s3.heap.get? b=some o->b≠s3.heap.objs.size:=λb o q=>Cf (Bc q)
 have u8:Un (nS X.stack) fp H3 H6 s3.heap h8:=by
  refine ⟨λb o q n hb hx=>(hs8.2 b (ne8 b o q)).trans (b7.keep b o q n hb hx),λb o q n hb hx=>?_,b7.free,λb o q hx=>?_,b7.tups,b7.frzs,b7.tbls⟩
  ·obtain ⟨sl,z⟩:=b7.slot b o q n hb hx
   exact ⟨sl,(hs8.2 b (ne8 b o q)).trans z⟩
  ·obtain ⟨o',z⟩:=b7.there b o q hx
   exact ⟨o',(hs8.2 b (ne8 b o q)).trans z⟩
 have hok8:Uh X.prog X.w H6 h8:=λb ob e=>by
  have hk7:=I7.hok
  rw[eP,eW] at hk7
  refine (hk7 b ob e).stay (λc w' hcc q=>(hs8.2 c ?_).trans q) (λ_ q=>q) λ_ _ q=>q
  rintro rfl
  rcases hcc with rfl | hcc
  ·rw[I7f] at e; cases e
  ·rw[I7f] at hcc; cases hcc
 have os7:s7.os=s3.os:=by have:=I7.os; rw[<- hX'] at this; exact this
 exact I3.call' (s':={ s7 with heap:=h8 }) (ch:=fp) os7 u8 hok8 I7.bare (λb hb=>⟨(f3 b hb).2.2.2.1,(f3 b hb).2.1,(f3 b hb).2.2.2.2.1,(f3 b hb).2.2.2.2.2⟩)
theorem Ur{X X':Cx}{σ':L2.St}{H3 H6:Hp}{s3 s7:Af}{scope:Scope}{cl:List (Str×Addr)}{N:List Str}{fp:List Addr}(hX':Es X scope cl N fp s3 H3=X')(I4:Inv X' [] σ' H6 s7){H':Hp}(hn:∀b∈fp,H' b=none):∀b∈fp,Lv X' [] H' b:=λb hb=>by
 have ok:=I4.ok
 have hex:b∈X'.ex:=by rw[<- hX']; exact hb
 exact ⟨hn b hb,(ok.exf b hex).1,ok.exfs b hex,.inl hex,(ok.exf b hex).2,λp hp=>by rw[<- hX'] at hp; cases (show p∈([]:List (Addr×Obj)) from hp)⟩
theorem Xn{X X':Cx}{H3:Hp}{s3:Af}{scope:Scope}{cl:List (Str×Addr)}{N:List Str}{fp:List Addr}(hc:X.calm=true)(hX':Es X scope cl N fp s3 H3=X'):X'.prog=X.prog/\X'.w=X.w/\X'.K=X.K/\X'.A=X.A/\X'.calm=true:=by
 subst hX'
 exact ⟨rfl,rfl,rfl,rfl,hc⟩
theorem mP{X X':Cx}{pins:List (Addr×Obj)}{σ σ':L2.St}{H3 H6:Hp}{s3 s7:Af}{scope:Scope}{cl:List (Str×Addr)}{N:List Str}{fp:List Addr}(hX':Es X scope cl N fp s3 H3=X')(I3:Inv X pins σ H3 s3)(f3:∀b∈fp,Lv X pins H3 b)(I7:Inv X' [] σ' H6 s7):(∃m7,s7.heap.Ns s3.heap.objs.size m7)/\H6 s3.heap.objs.size=none/\Inv X pins σ H6 s7:=by
 subst hX'
 obtain ⟨m7,hn7,_⟩:=I7.loc
 exact ⟨⟨m7,hn7⟩,I7.free,I3.call' (s':=s7) (ch:=fp) I7.os I7.base I7.hok I7.bare (λb hb=>⟨(f3 b hb).2.2.2.1,(f3 b hb).2.1,(f3 b hb).2.2.2.2.1,(f3 b hb).2.2.2.2.2⟩)⟩
theorem Yo{X:Cx}{pins:List (Addr×Obj)}{σ:L2.St}{H2:Hp}{s2:Af}{tg:Expr}{J:It}{fp:List Addr}{it:Addr}{tn:Nat->Heap->Prop}(I2:Inv X pins σ H2 s2)(T:Turn X.prog X.w X.K tg J fp it tn)(st2:tn 0 s2.heap)(f2:∀b∈fp,Lv X pins H2 b){ob:Obj}{ho:HO}(I3:Inv X pins σ (upd H2 s2.heap.objs.size ho) { s2 with heap:=s2.heap.push ob }):(∀b∈fp,Lv X pins (upd H2 s2.heap.objs.size ho) b)/\tn 0 (s2.heap.push ob)/\∀b∈fp,∃o,(s2.heap.push ob).get? b=some o:=by
 have Pq:tn 0 (s2.heap.push ob):=T.keep 0 _ _ st2 λb hb o q=>Ae _ q
 refine ⟨λb hb=>⟨?_,(f2 b hb).2⟩,Pq,λb hb=>?_⟩
 ·rw[Co ?_]
  ·exact (f2 b hb).1
  ·intro z
   obtain ⟨o,q,_⟩:=T.obj _ _ st2 b hb
   have:=Bc q
   rw[z] at this
   exact absurd this (Ex _)
 ·obtain ⟨o,q,_⟩:=T.obj _ _ Pq b hb
  exact ⟨o,q⟩
theorem cT{elt iter:Expr}{x:Str}{px pos:Pos}{ifs:List Expr}{scope:Scope}{cl:List (Str×Addr)}{ys:List Str}{js:List Nat}{wi:TI}{tc:TT}{te:TE}(C:CompScope X scope cl x ys js)(hc:X.calm=true)(hi:PI X (.Name x px) iter wi)(ht:∀fp s H,oR (Es X scope cl (x::ys) fp s H) ifs tc)(he:∀fp s H,PE (Es X scope cl (x::ys) fp s H) elt te)(hs:∀x,Fp iter X.env x=pure x:=by intro _; rfl):PE X (.ListComp elt [⟨.Name x px,iter,ifs,0⟩] scope pos) (lU wi js tc te):=by
 intro pins s σ H Q I h
 rw[eval_ListComp]
 refine Qo (use:=none) rfl hs C.clos C.kind C.locs (Gk (hi pins s σ H _ I h) λv s1 h1=>Gk h1 λitv s2 h2=>?_)
 obtain ⟨it,fp,tn,J,H2,e,I2,T,st2,f2,q2⟩:=h2
 subst e
 have fD:H2 s2.heap.objs.size=none:=I2.hok.fresh (Ai _)
 obtain ⟨W,⟨m0,w0⟩,turn⟩:=q2 s2.heap.objs.size fD
 refine Gz ?_
 have I3:Inv X pins σ (upd H2 s2.heap.objs.size (.lst [])) { s2 with heap:=s2.heap.push { cls:=.type "list",dict:=none,data:=.seq ([]:List Value).toArray } } :=
  I2.laid (t':=s2.toks) (λb u q=>Ae _ q) (Ai _) ⟨Dj _,[],0,.nil,Bi _ rfl⟩
 obtain ⟨f3,st3',o3'⟩:=Yo I2 T st2 f2 I3
 generalize hS3:({ s2 with heap:=s2.heap.push { cls:=.type "list",dict:=none,data:=.seq ([]:List Value).toArray } }:Af)=s3 at I3
 have Pq:tn 0 s3.heap:=by rw[<- hS3]; exact st3'
 have o3:∀b∈fp,∃o,s3.heap.get? b=some o:=by rw[<- hS3]; exact o3'
 show wpAny _ _ (Oi scope X.env.globals cl [] X.env.qual none .none (some X.env)) _ _ _
 refine Ug C λh4 hns4 keep4 new4=>?_
 have I4:∀tk,Inv (Es X scope cl (x::ys) fp s3 (upd H2 s2.heap.objs.size (.lst []))) [] (none::Fv σ js) (upd H2 s2.heap.objs.size (.lst [])) { s3 with heap:=h4,toks:=tk }:=λtk=>Rp (pre:=[x]) C I3 f3 o3 hns4 keep4 new4
 have st4:tn 0 h4:=T.keep 0 _ _ Pq λb hb o q=>keep4 b o q
 generalize hX':Es X scope cl (x::ys) fp s3 (upd H2 s2.heap.objs.size (.lst []))=X' at I4
 obtain ⟨eP,eW,eK,eA,eC⟩:=Xn hc hX'
 have stat:∀{H':Hp},(∀b∈fp,H' b=none)->∀b∈fp,Lv X' [] H' b:=λ{H'} hn=>Ur hX' (I4 0) hn
 have loop:∀s5:Af,s5={ s3 with heap:=h4,toks:=s3.toks+([]:List (Str×Value)).length } ->
   Mb (model X.prog X.w) X.A (.compLoop (.ListComp elt [⟨.Name x px,iter,ifs,0⟩] scope pos) 0 (.ref it) (.ref s2.heap.objs.size) (compEnvC scope (Eg (s3.heap.objs.size+1) scope.names cl) s3.heap.objs.size X.env))
    (compPost (model X.prog X.w) X.A X.xe none (EP X pins σ Q) (.ref s2.heap.objs.size) s3.heap.objs.size) s5:=by
  rintro s5 rfl
  refine Ru (λn s'=>∃i o H',Inv X' [] (o::Fv σ js) H' s'/\tn i s'.heap/\(∀b∈fp,H' b=none)/\W i n H') ?_ m0
   ⟨0,none,_,I4 _,st4,λb hb=>(f3 b hb).1,w0⟩
  (intro n s6 q_; obtain ⟨i,o,H6,I6,st6,fr6,w6⟩ := q_)
  rcases turn i n H6 w6 with ⟨stop,qn⟩ | ⟨go,step⟩
  ·have hd:=T.done X' eP eW eK eC i [] s6 _ H6 (λ_ _=>False) I6 (stat fr6) st6 stop
   rw[eA] at hd
   refine Gk hd λr s7 q0_ => ?_
   obtain ⟨hr,I7⟩ := q0_
   subst hr
   obtain ⟨m7,hn7,fin7⟩:=Yg hX' I3 f3 I7
   exact ⟨m7,hn7,λh8 hs8=>⟨.ref s2.heap.objs.size,H6,fin7 h8 hs8,rfl,qn⟩⟩
  ·have hit:=T.item X' eP eW eK eC i [] s6 _ H6 (λ_ _=>False) I6 (stat fr6) st6 go
   rw[eA] at hit
   refine Gk hit λr s7 q0_ => ?_
   obtain ⟨u,hr,h7⟩ := q0_
   subst hr
   refine Gk h7 λ_ s8 q0_ => ?_
   obtain ⟨y,H8,I8,r8,y8,st8,fr8⟩ := q0_
   have I8':=I8.pinned (stat fr8) (T.obj _ _ st8)
   obtain ⟨N1,N2,hN1,hN2,hst⟩:=step y H8 y8
   have again:∀{H9:Hp} {s9:Af} {m':Nat},Inv X' ([]++Rq fp s8.heap) (some y::Fv σ js) H9 s9->m'<n->W (i+1) m' H9->∃m,m<n/\∃i o H',Inv X' [] (o::Fv σ js) H' s9/\tn i s9.heap/\(∀b∈fp,H' b=none)/\W i m H':=λ{H9 s9 m'} I9 hm w9=>by
    refine ⟨m',hm,i+1,some y,H9,I9.unpinned,T.keep _ _ _ st8 λb hb o e=>(I9.pin (b,o) (Ap _ (Ap _ (Ht hb e)))).1,λb hb=>?_,w9⟩
    obtain ⟨o,e,_⟩:=T.obj _ _ st8 b hb
    exact (I9.pin (b,o) (Ap _ (Ap _ (Ht hb e)))).2.1
   subst hX'
   refine Gk (Mm (i:=0) (x:=x) (pos:=px) C.nd rfl (Wk C.own) (dP C.own) _ s8 _ H8 y u (λσ' H'=>σ'=some y::Fv σ js/\H'=H8) I8' r8 ⟨rfl,rfl⟩) λ_ s9 q0_ => ?_
   obtain ⟨σ9,H9,I9,e9,e9'⟩ := q0_
   subst e9 e9'
   refine Gk (ht fp s3 _ _ s9 _ _ _ I9 hst) λok s10 q0_ => ?_
   obtain ⟨H10,I10,q10⟩ := q0_
   cases ok with
   | false =>
    rw[if_neg Bx] at q10 ⊢
    obtain ⟨m',hm,w10⟩:=hN1 _ q10
    exact again I10 hm w10
   | true =>
    rw[if_pos rfl] at q10 ⊢
    refine Gk (he fp s3 _ _ s10 _ _ _ I10 q10) λz s11 q0_ => ?_
    obtain ⟨vz,H11,I11,r11,q11⟩ := q0_
    obtain ⟨acc,ha,hz,m',hm,w11⟩:=hN2 _ _ q11
    refine Gk (Qb _ s11 _ H11 (.ref s2.heap.objs.size) [vz] (.ref s2.heap.objs.size) [z] (λ_ H'=>H'=upd H11 s2.heap.objs.size (.lst (acc++[vz]))) I11 rfl (.cons r11 .nil) ⟨_,acc,vz,rfl,rfl,ha,hz,rfl⟩) λ_ s12 q0_ => ?_
    obtain ⟨_,H12,I12,_,e12⟩ := q0_
    subst e12
    exact again I12 hm w11
 exact Sf (loop _ rfl) (T.self X.A 0 _ _ _ st4 (loop _ rfl))
end
structure Walked(J:It)(G:Hp->Prop)(xs:List V):Prop where
 go:∀i H,i<xs.length->G H->J.go i H
 yld:∀i H x H',i<xs.length->G H->J.yld i H x H'->H'=H/\xs[i]? = some x
 stop:∀H,G H->J.stop xs.length H
theorem Vq{K:PySem.W.Frag}{a:Addr}{xs:List V}:Walked (M5 K a) (λH=>Kw K H a xs) xs where
 go:=λi H h q=>⟨xs,xs[i],q,by simp [h]⟩
 yld:=λi H x H' _ q y=>⟨y.1,y.2 xs q⟩
 stop:=λH q=>⟨xs,q,Ai _⟩
theorem lE{J:It}{G:Hp->Prop}{xs:List V}{js:List Nat}{tc:TT}{te:TE}{σ:L2.St}{H1:Hp}{Q:VK}(wk:Walked J G xs)(hz:xs.length<=Aq)(Pv:Addr->Nat->List V->Hp->Prop)
  (h0:∀D,H1 D=none->Pv D 0 [] (upd H1 D (.lst []))) (hg:∀D i acc H,Pv D i acc H->G H)
  (hs:∀D i x acc H,H1 D=none->xs[i]? = some x->H D=some (.lst acc)->Pv D i acc H->tc (some x::Fv σ js) H λc H2=>if c=true then te (some x::Fv σ js) H2 λy H3=>H3 D=some (.lst acc)/\Pv D (i+1) (acc++[y]) (upd H3 D (.lst (acc++[y])))
   else H2 D=some (.lst acc)/\Pv D (i+1) acc H2)
  (hd:∀D acc H,H1 D=none->H D=some (.lst acc)->Pv D xs.length acc H->Q (.ref D) H):yN J js tc te σ H1 Q:=by
 intro D nD
 refine ⟨λi m H=>m=xs.length - i/\i<=xs.length/\∃acc,H D=some (.lst acc)/\acc.length<=i/\Pv D i acc H,⟨xs.length,by simp,Dj _,[],Cj,Ai _,h0 D nD⟩,?_⟩
 (intro i m H q_; obtain ⟨rfl,hi,acc,ha,hl,p⟩ := q_)
 have g:=hg D i acc H p
 by_cases hlt:i<xs.length
 ·refine .inr ⟨wk.go i H hlt g,λx H' y=>?_⟩
  obtain ⟨e,hx⟩:=wk.yld i H x H' hlt g y
  subst e
  refine ⟨λH2=>H2 D=some (.lst acc)/\Pv D (i+1) acc H2,λy H3=>H3 D=some (.lst acc)/\Pv D (i+1) (acc++[y]) (upd H3 D (.lst (acc++[y]))),λH2 q=>?_,λz H3 q=>?_,hs D i x acc _ nD hx ha p⟩
  ·exact ⟨xs.length - (i+1),by omega,rfl,hlt,acc,q.1,by omega,q.2⟩
  ·exact ⟨acc,q.1,by omega,xs.length - (i+1),by omega,rfl,hlt,acc++[z],Cj,by rw[Cb,Ky]; omega,q.2⟩
 ·have e:i=xs.length:=by omega
  subst e
  exact .inl ⟨wk.stop H g,hd D acc H nD ha p⟩
theorem Dk{H:Hp}{p:Addr}(h:H p=none)(o:HO):Kt H (upd H p o):=λb u q=>by rw[Co (Df q h)]; exact q
theorem Ll{α:Type}{xs:List α}{i:Nat}{x:α}(h:xs[i]? = some x):xs.take (i+1)=xs.take i++[x]:=by
 rw[List.take_succ,h]; rfl
mutual
inductive RdV (K:PySem.W.Frag) (H:Hp):V->Ad->Prop
 | non:RdV K H .non .none
 | bl (b:Bool):RdV K H (.bl b) (.bool b)
 | int (i:Int):RdV K H (.int i) (.int i)
 | str (x:Str):RdV K H (.str x) (.str x)
 | lst {a:Addr} {xs:List V} {ds:List Ad}:Kw K H a xs->RdVs K H xs ds->RdV K H (.ref a) (.list ds)
 | tup {a:Addr} {xs:List V} {ds:List Ad}:Rr K H a xs->RdVs K H xs ds->RdV K H (.ref a) (.tuple ds)
inductive RdVs (K:PySem.W.Frag) (H:Hp):List V->List Ad->Prop
 | nil:RdVs K H [] []
 | cons {x:V} {d:Ad} {xs:List V} {ds:List Ad}:RdV K H x d->RdVs K H xs ds->RdVs K H (x::xs) (d::ds)
end
mutual
def L3(b:Nat):Ad->Prop
 | .none=>True
 | .bool _=>True
 | .int i=>i.natAbs<10 ^ b
 | .str x=>(reprText x).length<=b
 | .list xs=>cR b xs
 | .tuple xs=>cR b xs
 | .dict _=>False
def cR(b:Nat):List Ad->Prop
 | []=>True
 | x::xs=>L3 b x/\cR b xs
end
mutual
def xZ:Ad->Nat
 | .list xs=>Yl xs+1
 | .tuple xs=>Yl xs+1
 | _=>1
def Yl:List Ad->Nat
 | []=>0
 | x::xs=>xZ x+Yl xs
end
theorem iA(ns:List Int):Bp (ns.map An)=0:=by
 induction ns with
 | nil=>rfl
 | cons n ns ih=>simp only[Av,Bp,Cy,ih,Nat.max_self]
theorem Vn{m:Nat}:∀{xs:List Ad},(∀x∈xs,x.depth<=m)->Bp xs<=m
 | [],_=>by simp [Bp]
 | x::xs,h=>by
  have h1:=h x (Aa ..)
  have h2:=Vn (xs:=xs) λy hy=>h y (Ag _ hy)
  simp only[Bp]
  omega
theorem Ep.at'{xs:List V}{us:List Value}(r:Ep xs us){j:Nat}(h:j<us.length):∃x,xs[j]? = some x/\RelV x us[j]:=by
 have hl:=r.length
 have hj:j<xs.length:=by omega
 obtain ⟨u,hu,ru⟩:=r.get (i:=j) (x:=xs[j]) (by simp [hj])
 rw[Am h] at hu
 cases hu
 exact ⟨xs[j],by simp [hj],ru⟩
section
variable{X:Cx}{pins:List (Addr×Obj)}{σ:L2.St}{H:Hp}{s:Af}{A:Cq}
theorem aS(A:Cq):A.in1.units<=A.units+1:=by
 first | exact Ai _ | (simp [Around.in1]; done) | (unfold Around.in1; simp)
theorem tW(hc:X.calm=true):Kc X (.builtin "all") (λxs H Q=>∃(p:Addr) (bs:List Bool),xs=[.ref p]/\Kw X.K H p (bs.map V.bl)/\Q (.bl (bs.all id)) H):=by
 intro pins s σ H xs us Q I r h
 obtain ⟨p,bs,rfl,hp,q⟩:=h
 obtain ⟨u,rfl,ru⟩:=vals1 r
 cases ru
 obtain ⟨its,rv,pl,_⟩:=I.list hp
 have hlen:its.toArray.size=bs.length:=by
  have:=rv.length
  rw[Ab] at this
  rw[Al]; omega
 refine call_all_walk (wpAny_pyIter_list pl.isList ?_)
 have hd:X.A.in1.handled=none:=I.ok.hd hc
 have ne:p≠s.heap.objs.size:=Cf (let ⟨o,q,_⟩:=pl.isList; Bc q)
 refine ⟨s.heap.objs.size,_,_,_,_,_,λi=>bs.getD i false,rfl,Walks.list hd s.heap.objs.size p ne its.toArray,⟨⟨_,Bi _ rfl,rfl,rfl⟩,pl.isList.push _⟩,?_,?_⟩
 ·intro i v s' Q' E' hv hq
  have hv':its[i]? = some v:=by simpa using hv
  have hi:i<its.length:=(Ak.mp hv').1
  obtain ⟨x,e1,q1⟩:=Ep.at' rv hi
  rw[Am hi] at hv'
  have hv'':its[i]=v:=Bj hv'
  rw[hv''] at q1
  rw[Az] at e1
  cases eb:bs[i]? with
  | none=>rw[eb] at e1; cases e1
  | some b =>
   rw[eb] at e1
   cases e1
   cases q1
   have : bs.getD i false=b:=by simp [Ed,eb]
   have hq':Q' (bs.getD i false) s':=hq
   rw[this] at hq'
   exact Gy hq'
 ·intro h' tk hk
  have e:((Dd its.toArray.size).all λi=>bs.getD i false)=bs.all id:=by
   rw[hlen]
   have : bs=(Dd bs.length).map (λj=>bs.getD j false):=(range_getD bs false).symm
   conv=>rhs; rw[this]
   rw[Wi]
   rfl
  rw[e]
  refine ⟨.bl _,H,I.kept (h':=h') (t':=tk) (λb o qq=>hk b o ?_ (Ae _ qq)),rfl,q⟩
  intro z
  have e2:b=s.heap.objs.size:=by simpa using z
  have e3:=Bc qq
  rw[e2] at e3
  exact absurd e3 (Ex _)
end
mutual
def Dz:Ad->Ad->Bool
 | .none,.none=>true
 | .bool a,.bool b=>a == b
 | .bool a,.int b=>(if a then 1 else 0) == b
 | .int a,.bool b=>a == (if b then 1 else 0)
 | .int a,.int b=>a == b
 | .str a,.str b=>a == b
 | .list xs,.list ys=>Ma xs ys
 | .tuple xs,.tuple ys=>Ma xs ys
 | _,_=>false
def Ma:List Ad->List Ad->Bool
 | [],[]=>true
 | x::xs,y::ys=>Dz x y && Ma xs ys
 | _,_=>false
end
theorem Ly:∀ds es:List Ad,(((Dd (min ds.length es.length)).all λj=>Dz (ds.getD j .none) (es.getD j .none)) && ds.length == es.length)=Ma ds es
 | [],[]=>by simp [Ma]
 | [],_::_=>by simp [Ma]
 | _::_,[]=>by simp [Ma]
 | d::ds,e::es=>by
  have ih:=Ly ds es
  rw[Ma,<- ih]
  have h1:min (d::ds).length (e::es).length=min ds.length es.length+1:=by simp only[Bt]; omega
  rw[h1,List.range_succ_eq_map,List.all_cons,Wi]
  have h2:((d::ds).length == (e::es).length)=(ds.length == es.length):=by
   rw[Bool.eq_iff_iff]; simp
  rw[h2,Bool.and_assoc]
  rfl
section
variable{X:Cx}{pins:List (Addr×Obj)}{σ:L2.St}{H:Hp}{s:Af}{K:PySem.W.Frag}
mutual
theorem RdV.eqD_self:∀{v:V} {d:Ad},RdV K H v d->Dz d d=true
 | _,_,.non=>by simp [Dz]
 | _,_,.bl b=>by simp [Dz]
 | _,_,.int i=>by simp [Dz]
 | _,_,.str x=>by simp [Dz]
 | _,_,.lst _ h=>by rw[Dz]; exact RdVs.eqDs_self h
 | _,_,.tup _ h=>by rw[Dz]; exact RdVs.eqDs_self h
theorem RdVs.eqDs_self:∀{vs:List V} {ds:List Ad},RdVs K H vs ds->Ma ds ds=true
 | _,_,.nil=>by simp [Ma]
 | _,_,.cons h t=>by rw[Ma,RdV.eqD_self h,RdVs.eqDs_self t]; rfl
end
theorem eZ(I:Inv X pins σ H s){a:Addr}{xs ys:List V}(h1:Kw X.K H a xs)(h2:Rr X.K H a ys):False:=by
 obtain ⟨us,_,p1,_⟩:=I.list h1
 obtain ⟨vs,_,p2,_⟩:=I.tuple h2
 exact SeqAt.ne_of_list_tuple p1.isList p2 rfl
mutual
theorem RdV.det(I:Inv X pins σ H s):∀{v:V} {d e:Ad},RdV X.K H v d->RdV X.K H v e->d=e
 | _,_,_,.non,h=>by cases h; rfl
 | _,_,_,.bl b,h=>by cases h; rfl
 | _,_,_,.int i,h=>by cases h; rfl
 | _,_,_,.str x,h=>by cases h; rfl
 | _,_,_,.lst q r,h=>by
  cases h with
  | lst q' r' =>
   have e:=I.list_inj q q'
   subst e
   rw[RdVs.det I r r']
  | tup q' r'=>exact (eZ I q q').elim
 | _,_,_,.tup q r,h=>by
  cases h with
  | lst q' r'=>exact (eZ I q' q).elim
  | tup q' r' =>
   have e:=I.tuple_inj q q'
   subst e
   rw[RdVs.det I r r']
theorem RdVs.det(I:Inv X pins σ H s):∀{vs:List V} {ds es:List Ad},RdVs X.K H vs ds->RdVs X.K H vs es->ds=es
 | _,_,_,.nil,h=>by cases h; rfl
 | _,_,_,.cons r t,h=>by
  cases h with
  | cons r' t'=>rw[RdV.det I r r',RdVs.det I t t']
end
theorem RdVs.length:∀{vs:List V} {ds:List Ad},RdVs K H vs ds->vs.length=ds.length
 | _,_,.nil=>rfl
 | _,_,.cons _ t=>by rw[Bt,Bt,RdVs.length t]
theorem Uw{A:Cq}{n:Nat}(h:A.units+(n+1)<cLine):A.in1.units+n<cLine:=by
 have:=aS A
 omega
theorem eT{A:Cq}{a b:Addr}{us vs:List Value}{ds es:List Ad}(p1:PlainL s.heap a us.toArray)(p2:PlainL s.heap b vs.toArray)(l1:us.length=ds.length)(l2:vs.length=es.length)(hu:A.units<cLine)(he:∀j (h1:j<us.length) (h2:j<vs.length),Kx A.in1 s us[j] vs[j] (Dz (ds.getD j .none) (es.getD j .none))):SeqAt.RcAt A s (.ref a) (.ref b) (Ma ds es):=by
 rw[<- Ly]
 by_cases hl:ds.length=es.length
 ·have hs:us.toArray.size=vs.toArray.size:=by rw[Al,Al,l1,l2,hl]
  have h:=SeqAt.RcAt.lists (A:=A) (e:=λj=>Dz (ds.getD j .none) (es.getD j .none)) p1.isList p2.isList hs hu (λj h1 h2=>by simpa using he j (by simpa using h1) (by simpa using h2))
  rw[Al,l1] at h
  rw[hl,Nat.min_self,beq_self_eq_true,Bool.and_true,<- hl]
  exact h
 ·have hs:(us.toArray.size != vs.toArray.size)=true:=by rw[Al,Al,l1,l2]; simpa using hl
  have h:=SeqAt.RcAt.lists_lengths (A:=A) p1.isList p2.isList hs hu
  have e0:(ds.length == es.length)=false:=by simpa using hl
  rw[e0,Bool.and_false]
  exact h
theorem aN{A:Cq}{a b:Addr}{us vs:List Value}{ds es:List Ad}(p1:IsTup s.heap a us.toArray)(p2:IsTup s.heap b vs.toArray)(l1:us.length=ds.length)(l2:vs.length=es.length)(hu:A.units<cLine)(he:∀j (h1:j<us.length) (h2:j<vs.length),Kx A.in1 s us[j] vs[j] (Dz (ds.getD j .none) (es.getD j .none))):SeqAt.RcAt A s (.ref a) (.ref b) (Ma ds es):=by
 rw[<- Ly]
 have h:=SeqAt.RcAt.tuples (A:=A) (e:=λj=>Dz (ds.getD j .none) (es.getD j .none)) (show s.heap.IsTuple a us.toArray from p1) (show s.heap.IsTuple b vs.toArray from p2) hu (λj h1 h2=>by simpa using he j (by simpa using h1) (by simpa using h2))
 rw[Al,Al,l1,l2] at h
 exact h
mutual
theorem rZ(I:Inv X pins σ H s):∀{A:Cq} {x y:V} {d e:Ad} {u v:Value},RdV X.K H x d->RdV X.K H y e->RelV x u->RelV y v->A.units+d.depth<cLine->Kx A s u v (Dz d e)
 | A,_,_,_,_,_,_,.non,h,ru,rv,hu=>by
  cases ru
  have hu':A.units<cLine:=by omega
  cases h with
  | non=>cases rv; rw[Dz]; exact SeqAt.EqAt.same _
  | bl b=>cases rv; rw[Dz]; exact SeqAt.EqAt.none_bool b; all_goals simp
  | int b=>obtain ⟨t,rfl⟩:=rv; rw[Dz]; exact SeqAt.EqAt.none_int b t; all_goals simp
  | str b=>obtain ⟨t,rfl⟩:=rv; rw[Dz]; exact SeqAt.EqAt.none_str b t; all_goals simp
  | lst q r=>cases rv; obtain ⟨us,_,p,_⟩:=I.list q; rw[Dz]; exact SeqAt.EqAt.none_list p.isList hu'; all_goals simp
  | tup q r=>cases rv; obtain ⟨us,_,p,_⟩:=I.tuple q; rw[Dz]; exact SeqAt.EqAt.none_tuple p hu'; all_goals simp
 | A,_,_,_,_,_,_,.bl a,h,ru,rv,hu=>by
  cases ru
  have hu':A.units<cLine:=by omega
  cases h with
  | non=>cases rv; rw[Dz]; exact SeqAt.EqAt.bool_none a; all_goals simp
  | bl b=>cases rv; rw[Dz]; exact SeqAt.EqAt.bool_bool a b
  | int b=>obtain ⟨t,rfl⟩:=rv; rw[Dz]; exact SeqAt.EqAt.bool_int a b t
  | str b=>obtain ⟨t,rfl⟩:=rv; rw[Dz]; exact SeqAt.EqAt.bool_str a b t; all_goals simp
  | lst q r=>cases rv; obtain ⟨us,_,p,_⟩:=I.list q; rw[Dz]; exact SeqAt.EqAt.bool_list a p.isList hu'; all_goals simp
  | tup q r=>cases rv; obtain ⟨us,_,p,_⟩:=I.tuple q; rw[Dz]; exact SeqAt.EqAt.bool_tuple a p hu'; all_goals simp
 | A,_,_,_,_,_,_,.int a,h,ru,rv,hu=>by
  obtain ⟨t',rfl⟩:=ru
  have hu':A.units<cLine:=by omega
  cases h with
  | non=>cases rv; rw[Dz]; exact SeqAt.EqAt.int_none a t'; all_goals simp
  | bl b=>cases rv; rw[Dz]; exact SeqAt.EqAt.int_bool a t' b
  | int b=>obtain ⟨t,rfl⟩:=rv; rw[Dz]; exact SeqAt.EqAt.int_int a t' b t
  | str b=>obtain ⟨t,rfl⟩:=rv; rw[Dz]; exact SeqAt.EqAt.int_str a t' b t; all_goals simp
  | lst q r=>cases rv; obtain ⟨us,_,p,_⟩:=I.list q; rw[Dz]; exact SeqAt.EqAt.int_list a t' p.isList hu'; all_goals simp
  | tup q r=>cases rv; obtain ⟨us,_,p,_⟩:=I.tuple q; rw[Dz]; exact SeqAt.EqAt.int_tuple a t' p hu'; all_goals simp
 | A,_,_,_,_,_,_,.str a,h,ru,rv,hu=>by
  obtain ⟨t',rfl⟩:=ru
  have hu':A.units<cLine:=by omega
  cases h with
  | non=>cases rv; rw[Dz]; exact SeqAt.EqAt.str_none a t'; all_goals simp
  | bl b=>cases rv; rw[Dz]; exact SeqAt.EqAt.str_bool a t' b; all_goals simp
  | int b=>obtain ⟨t,rfl⟩:=rv; rw[Dz]; exact SeqAt.EqAt.str_int a t' b t; all_goals simp
  | str b=>obtain ⟨t,rfl⟩:=rv; rw[Dz]; exact SeqAt.EqAt.str_str a t' b t
  | lst q r=>cases rv; obtain ⟨us,_,p,_⟩:=I.list q; rw[Dz]; exact SeqAt.EqAt.str_list a t' p.isList hu'; all_goals simp
  | tup q r=>cases rv; obtain ⟨us,_,p,_⟩:=I.tuple q; rw[Dz]; exact SeqAt.EqAt.str_tuple a t' p hu'; all_goals simp
 | A,_,_,_,_,_,_,@RdV.lst _ _ a xs ds q r,h,ru,rv,hu=>by
  cases ru
  have hu':A.units<cLine:=by omega
  obtain ⟨us,r1,p,_⟩:=I.list q
  cases h with
  | non=>cases rv; rw[Dz]; exact SeqAt.EqAt.list_none p.isList hu'; all_goals simp
  | bl b=>cases rv; rw[Dz]; exact SeqAt.EqAt.list_bool b p.isList hu'; all_goals simp
  | int b=>obtain ⟨t,rfl⟩:=rv; rw[Dz]; exact SeqAt.EqAt.list_int b t p.isList hu'; all_goals simp
  | str b=>obtain ⟨t,rfl⟩:=rv; rw[Dz]; exact SeqAt.EqAt.list_str b t p.isList hu'; all_goals simp
  | @lst b ys es q2 rr2 =>
   cases rv
   obtain ⟨vs,r2,p2,_⟩:=I.list q2
   rw[Dz]
   by_cases hab:a=b
   ·subst hab
    have e:=I.list_inj q q2
    subst e
    rw[<- RdVs.det I r rr2,RdVs.eqDs_self r]
    exact SeqAt.EqAt.same _
   ·refine SeqAt.EqAt.of_refs hab (eT p p2 (r1.length.symm.trans r.length) (r2.length.symm.trans rr2.length) hu' λj h1 h2=>?_)
    exact Oc I r rr2 r1 r2 (Uw (by simpa only [Cy] using hu)) j h1 h2
  | tup q2 rr2=>cases rv; obtain ⟨vs,_,p2,_⟩:=I.tuple q2; rw[Dz]; exact SeqAt.EqAt.list_tuple p.isList p2 hu'; all_goals simp
 | A,_,_,_,_,_,_,@RdV.tup _ _ a xs ds q r,h,ru,rv,hu=>by
  cases ru
  have hu':A.units<cLine:=by omega
  obtain ⟨us,r1,p,_⟩:=I.tuple q
  cases h with
  | non=>cases rv; rw[Dz]; exact SeqAt.EqAt.tuple_none p hu'; all_goals simp
  | bl b=>cases rv; rw[Dz]; exact SeqAt.EqAt.tuple_bool b p hu'; all_goals simp
  | int b=>obtain ⟨t,rfl⟩:=rv; rw[Dz]; exact SeqAt.EqAt.tuple_int b t p hu'; all_goals simp
  | str b=>obtain ⟨t,rfl⟩:=rv; rw[Dz]; exact SeqAt.EqAt.tuple_str b t p hu'; all_goals simp
  | lst q2 rr2=>cases rv; obtain ⟨vs,_,p2,_⟩:=I.list q2; rw[Dz]; exact SeqAt.EqAt.tuple_list p p2.isList hu'; all_goals simp
  | @tup b ys es q2 rr2 =>
   cases rv
   obtain ⟨vs,r2,p2,_⟩:=I.tuple q2
   rw[Dz]
   by_cases hab:a=b
   ·subst hab
    have e:=I.tuple_inj q q2
    subst e
    rw[<- RdVs.det I r rr2,RdVs.eqDs_self r]
    exact SeqAt.EqAt.same _
   ·refine SeqAt.EqAt.of_refs hab (aN p p2 (r1.length.symm.trans r.length) (r2.length.symm.trans rr2.length) hu' λj h1 h2=>?_)
    exact Oc I r rr2 r1 r2 (Uw (by simpa only [Cy] using hu)) j h1 h2
theorem Oc(I:Inv X pins σ H s):∀{A:Cq} {xs ys:List V} {ds es:List Ad} {us vs:List Value},RdVs X.K H xs ds->RdVs X.K H ys es->Ep xs us->Ep ys vs->A.units+Bp ds<cLine->∀j (h1:j<us.length) (h2:j<vs.length),Kx A s us[j] vs[j] (Dz (ds.getD j .none) (es.getD j .none))
 | _,_,_,_,_,_,_,.nil,_,r1,_,_=>λj h1 h2=>by cases r1; exact absurd h1 (Nat.not_lt_zero _)
 | A,_,_,_,_,_,_,@RdVs.cons _ _ x d xs ds r t,h,r1,r2,hu=>λj h1 h2=>by
  cases h with
  | nil=>cases r2; exact absurd h2 (Nat.not_lt_zero _)
  | cons r' t' =>
   cases r1 with
   | cons ra ta =>
    cases r2 with
    | cons rb tb =>
     have hm:A.units+d.depth<cLine/\A.units+Bp ds<cLine:=by
      simp only[Bp] at hu
      omega
     cases j with
     | zero=>simpa using rZ I r r' ra rb hm.1
     | succ j=>simpa using Oc I t t' ta tb hm.2 j (by simpa using h1) (by simpa using h2)
end
end
section
variable{X:Cx}{pins:List (Addr×Obj)}{σ:L2.St}{H:Hp}{s:Af}{K:PySem.W.Frag}
theorem nQ{A:Cq}{a b:Addr}{us vs:List Value}{ds es:List Ad}(p1:PlainL s.heap a us.toArray)(p2:PlainL s.heap b vs.toArray)(l1:us.length=ds.length)(l2:vs.length=es.length)(hu:A.units<cLine)(he:∀j (h1:j<us.length) (h2:j<vs.length),Kx A.in1 s us[j] vs[j] (Dz (ds.getD j .none) (es.getD j .none))):SeqAt.RcNeAt A s (.ref a) (.ref b) (!Ma ds es):=by
 rw[<- Ly]
 by_cases hl:ds.length=es.length
 ·have hs:us.toArray.size=vs.toArray.size:=by rw[Al,Al,l1,l2,hl]
  have h:=SeqAt.RcNeAt.lists (A:=A) (e:=λj=>Dz (ds.getD j .none) (es.getD j .none)) p1.isList p2.isList hs hu (λj h1 h2=>by simpa using he j (by simpa using h1) (by simpa using h2))
  rw[Al,l1] at h
  rw[hl,Nat.min_self,beq_self_eq_true,Bool.and_true,<- hl]
  exact h
 ·have hs:(us.toArray.size != vs.toArray.size)=true:=by rw[Al,Al,l1,l2]; simpa using hl
  have h:=SeqAt.RcNeAt.lists_lengths (A:=A) p1.isList p2.isList hs hu
  have e0:(ds.length == es.length)=false:=by simpa using hl
  rw[e0,Bool.and_false]
  exact h
theorem jS{A:Cq}{a b:Addr}{us vs:List Value}{ds es:List Ad}(p1:IsTup s.heap a us.toArray)(p2:IsTup s.heap b vs.toArray)(l1:us.length=ds.length)(l2:vs.length=es.length)(hu:A.units<cLine)(he:∀j (h1:j<us.length) (h2:j<vs.length),Kx A.in1 s us[j] vs[j] (Dz (ds.getD j .none) (es.getD j .none))):SeqAt.RcNeAt A s (.ref a) (.ref b) (!Ma ds es):=by
 rw[<- Ly]
 have h:=SeqAt.RcNeAt.tuples (A:=A) (e:=λj=>Dz (ds.getD j .none) (es.getD j .none)) (show s.heap.IsTuple a us.toArray from p1) (show s.heap.IsTuple b vs.toArray from p2) hu (λj h1 h2=>by simpa using he j (by simpa using h1) (by simpa using h2))
 rw[Al,Al,l1,l2] at h
 exact h
end
section
variable{X:Cx}
def E4(K:PySem.W.Frag):R2:=λx y H Q=>∃d e,RdV K H x d/\RdV K H y e/\d.depth<=60/\Q (.bl (Dz d e)) H
def E6(K:PySem.W.Frag):R2:=λx y H Q=>∃d e,RdV K H x d/\RdV K H y e/\d.depth<=60/\Q (.bl (!Dz d e)) H
theorem oV(hu:X.A.units+64<cLine):Vb X (Iv .Eq) (E4 X.K):=by
 intro pins s σ H x y v u Q I rx ry h
 obtain ⟨d,e,h1,h2,hd,q⟩:=h
 have hu':X.A.units<cLine:=by omega
 cases h1 with
 | non =>
  cases rx
  cases h2 with
  | non=>cases ry; rw[Dz] at q; exact SeqAt.RcAt.none_none _ _ _ _ ⟨.bl _,H,I,rfl,q⟩
  | bl b=>cases ry; rw[Dz] at q; exact SeqAt.RcAt.none_bool b _ _ _ _ ⟨.bl _,H,I,rfl,q⟩; all_goals simp
  | int b=>obtain ⟨t,rfl⟩:=ry; rw[Dz] at q; exact SeqAt.RcAt.none_int b t _ _ _ _ ⟨.bl _,H,I,rfl,q⟩; all_goals simp
  | str b=>obtain ⟨t,rfl⟩:=ry; rw[Dz] at q; exact SeqAt.RcAt.none_str b t _ _ _ _ ⟨.bl _,H,I,rfl,q⟩; all_goals simp
  | @lst b ys es q2 rr2=>cases ry; obtain ⟨vs,r2,p2,_⟩:=I.list q2; rw[Dz] at q; exact SeqAt.RcAt.none_list p2.isList hu' _ _ _ _ ⟨.bl _,H,I,rfl,q⟩; all_goals simp
  | @tup b ys es q2 rr2=>cases ry; obtain ⟨vs,r2,p2,_⟩:=I.tuple q2; rw[Dz] at q; exact SeqAt.RcAt.none_tuple p2 hu' _ _ _ _ ⟨.bl _,H,I,rfl,q⟩; all_goals simp
 | bl a =>
  cases rx
  cases h2 with
  | non=>cases ry; rw[Dz] at q; exact SeqAt.RcAt.bool_none a _ _ _ _ ⟨.bl _,H,I,rfl,q⟩; all_goals simp
  | bl b=>cases ry; rw[Dz] at q; exact SeqAt.RcAt.bool_bool a b _ _ _ _ ⟨.bl _,H,I,rfl,q⟩
  | int b=>obtain ⟨t,rfl⟩:=ry; rw[Dz] at q; exact SeqAt.RcAt.bool_int a b t _ _ _ _ ⟨.bl _,H,I,rfl,q⟩
  | str b=>obtain ⟨t,rfl⟩:=ry; rw[Dz] at q; exact SeqAt.RcAt.bool_str a b t _ _ _ _ ⟨.bl _,H,I,rfl,q⟩; all_goals simp
  | @lst b ys es q2 rr2=>cases ry; obtain ⟨vs,r2,p2,_⟩:=I.list q2; rw[Dz] at q; exact SeqAt.RcAt.bool_list a p2.isList hu' _ _ _ _ ⟨.bl _,H,I,rfl,q⟩; all_goals simp
  | @tup b ys es q2 rr2=>cases ry; obtain ⟨vs,r2,p2,_⟩:=I.tuple q2; rw[Dz] at q; exact SeqAt.RcAt.bool_tuple a p2 hu' _ _ _ _ ⟨.bl _,H,I,rfl,q⟩; all_goals simp
 | int a =>
  obtain ⟨t',rfl⟩:=rx
  cases h2 with
  | non=>cases ry; rw[Dz] at q; exact SeqAt.RcAt.int_none a t' _ _ _ _ ⟨.bl _,H,I,rfl,q⟩; all_goals simp
  | bl b=>cases ry; rw[Dz] at q; exact SeqAt.RcAt.int_bool a t' b _ _ _ _ ⟨.bl _,H,I,rfl,q⟩
  | int b=>obtain ⟨t,rfl⟩:=ry; rw[Dz] at q; exact SeqAt.RcAt.int_int a t' b t _ _ _ _ ⟨.bl _,H,I,rfl,q⟩
  | str b=>obtain ⟨t,rfl⟩:=ry; rw[Dz] at q; exact SeqAt.RcAt.int_str a t' b t _ _ _ _ ⟨.bl _,H,I,rfl,q⟩; all_goals simp
  | @lst b ys es q2 rr2=>cases ry; obtain ⟨vs,r2,p2,_⟩:=I.list q2; rw[Dz] at q; exact SeqAt.RcAt.int_list a t' p2.isList hu' _ _ _ _ ⟨.bl _,H,I,rfl,q⟩; all_goals simp
  | @tup b ys es q2 rr2=>cases ry; obtain ⟨vs,r2,p2,_⟩:=I.tuple q2; rw[Dz] at q; exact SeqAt.RcAt.int_tuple a t' p2 hu' _ _ _ _ ⟨.bl _,H,I,rfl,q⟩; all_goals simp
 | str a =>
  obtain ⟨t',rfl⟩:=rx
  cases h2 with
  | non=>cases ry; rw[Dz] at q; exact SeqAt.RcAt.str_none a t' _ _ _ _ ⟨.bl _,H,I,rfl,q⟩; all_goals simp
  | bl b=>cases ry; rw[Dz] at q; exact SeqAt.RcAt.str_bool a t' b _ _ _ _ ⟨.bl _,H,I,rfl,q⟩; all_goals simp
  | int b=>obtain ⟨t,rfl⟩:=ry; rw[Dz] at q; exact SeqAt.RcAt.str_int a t' b t _ _ _ _ ⟨.bl _,H,I,rfl,q⟩; all_goals simp
  | str b=>obtain ⟨t,rfl⟩:=ry; rw[Dz] at q; exact SeqAt.RcAt.str_str a t' b t _ _ _ _ ⟨.bl _,H,I,rfl,q⟩
  | @lst b ys es q2 rr2=>cases ry; obtain ⟨vs,r2,p2,_⟩:=I.list q2; rw[Dz] at q; exact SeqAt.RcAt.str_list a t' p2.isList hu' _ _ _ _ ⟨.bl _,H,I,rfl,q⟩; all_goals simp
  | @tup b ys es q2 rr2=>cases ry; obtain ⟨vs,r2,p2,_⟩:=I.tuple q2; rw[Dz] at q; exact SeqAt.RcAt.str_tuple a t' p2 hu' _ _ _ _ ⟨.bl _,H,I,rfl,q⟩; all_goals simp
 | @lst a xs ds qa r =>
  cases rx
  obtain ⟨us,r1,p,_⟩:=I.list qa
  cases h2 with
  | non=>cases ry; rw[Dz] at q; exact SeqAt.RcAt.list_none p.isList hu' _ _ _ _ ⟨.bl _,H,I,rfl,q⟩; all_goals simp
  | bl b=>cases ry; rw[Dz] at q; exact SeqAt.RcAt.list_bool b p.isList hu' _ _ _ _ ⟨.bl _,H,I,rfl,q⟩; all_goals simp
  | int b=>obtain ⟨t,rfl⟩:=ry; rw[Dz] at q; exact SeqAt.RcAt.list_int b t p.isList hu' _ _ _ _ ⟨.bl _,H,I,rfl,q⟩; all_goals simp
  | str b=>obtain ⟨t,rfl⟩:=ry; rw[Dz] at q; exact SeqAt.RcAt.list_str b t p.isList hu' _ _ _ _ ⟨.bl _,H,I,rfl,q⟩; all_goals simp
  | @lst b ys es q2 rr2=>cases ry; obtain ⟨vs,r2,p2,_⟩:=I.list q2; rw[Dz] at q; exact eT p p2 (r1.length.symm.trans r.length) (r2.length.symm.trans rr2.length) hu' (λj h1 h2=>Oc I r rr2 r1 r2 (Uw (by simp only[Cy] at hd; omega)) j h1 h2) _ _ _ _ ⟨.bl _,H,I,rfl,q⟩
  | @tup b ys es q2 rr2=>cases ry; obtain ⟨vs,r2,p2,_⟩:=I.tuple q2; rw[Dz] at q; exact SeqAt.RcAt.list_tuple p.isList p2 hu' _ _ _ _ ⟨.bl _,H,I,rfl,q⟩; all_goals simp
 | @tup a xs ds qa r =>
  cases rx
  obtain ⟨us,r1,p,_⟩:=I.tuple qa
  cases h2 with
  | non=>cases ry; rw[Dz] at q; exact SeqAt.RcAt.tuple_none p hu' _ _ _ _ ⟨.bl _,H,I,rfl,q⟩; all_goals simp
  | bl b=>cases ry; rw[Dz] at q; exact SeqAt.RcAt.tuple_bool b p hu' _ _ _ _ ⟨.bl _,H,I,rfl,q⟩; all_goals simp
  | int b=>obtain ⟨t,rfl⟩:=ry; rw[Dz] at q; exact SeqAt.RcAt.tuple_int b t p hu' _ _ _ _ ⟨.bl _,H,I,rfl,q⟩; all_goals simp
  | str b=>obtain ⟨t,rfl⟩:=ry; rw[Dz] at q; exact SeqAt.RcAt.tuple_str b t p hu' _ _ _ _ ⟨.bl _,H,I,rfl,q⟩; all_goals simp
  | @lst b ys es q2 rr2=>cases ry; obtain ⟨vs,r2,p2,_⟩:=I.list q2; rw[Dz] at q; exact SeqAt.RcAt.tuple_list p p2.isList hu' _ _ _ _ ⟨.bl _,H,I,rfl,q⟩; all_goals simp
  | @tup b ys es q2 rr2=>cases ry; obtain ⟨vs,r2,p2,_⟩:=I.tuple q2; rw[Dz] at q; exact aN p p2 (r1.length.symm.trans r.length) (r2.length.symm.trans rr2.length) hu' (λj h1 h2=>Oc I r rr2 r1 r2 (Uw (by simp only[Cy] at hd; omega)) j h1 h2) _ _ _ _ ⟨.bl _,H,I,rfl,q⟩
theorem x5(hu:X.A.units+64<cLine):Vb X (Iv .NotEq) (E6 X.K):=by
 intro pins s σ H x y v u Q I rx ry h
 obtain ⟨d,e,h1,h2,hd,q⟩:=h
 have hu':X.A.units<cLine:=by omega
 cases h1 with
 | non =>
  cases rx
  cases h2 with
  | non=>cases ry; rw[Dz] at q; exact SeqAt.RcNeAt.none_none _ _ _ _ ⟨.bl _,H,I,rfl,q⟩
  | bl b=>cases ry; rw[Dz] at q; exact SeqAt.RcNeAt.none_bool b _ _ _ _ ⟨.bl _,H,I,rfl,q⟩; all_goals simp
  | int b=>obtain ⟨t,rfl⟩:=ry; rw[Dz] at q; exact SeqAt.RcNeAt.none_int b t _ _ _ _ ⟨.bl _,H,I,rfl,q⟩; all_goals simp
  | str b=>obtain ⟨t,rfl⟩:=ry; rw[Dz] at q; exact SeqAt.RcNeAt.none_str b t _ _ _ _ ⟨.bl _,H,I,rfl,q⟩; all_goals simp
  | @lst b ys es q2 rr2=>cases ry; obtain ⟨vs,r2,p2,_⟩:=I.list q2; rw[Dz] at q; exact SeqAt.RcNeAt.none_list p2.isList hu' _ _ _ _ ⟨.bl _,H,I,rfl,q⟩; all_goals simp
  | @tup b ys es q2 rr2=>cases ry; obtain ⟨vs,r2,p2,_⟩:=I.tuple q2; rw[Dz] at q; exact SeqAt.RcNeAt.none_tuple p2 hu' _ _ _ _ ⟨.bl _,H,I,rfl,q⟩; all_goals simp
 | bl a =>
  cases rx
  cases h2 with
  | non=>cases ry; rw[Dz] at q; exact SeqAt.RcNeAt.bool_none a _ _ _ _ ⟨.bl _,H,I,rfl,q⟩; all_goals simp
  | bl b=>cases ry; rw[Dz] at q; exact SeqAt.RcNeAt.bool_bool a b _ _ _ _ ⟨.bl _,H,I,rfl,q⟩
  | int b=>obtain ⟨t,rfl⟩:=ry; rw[Dz] at q; exact SeqAt.RcNeAt.bool_int a b t _ _ _ _ ⟨.bl _,H,I,rfl,q⟩
  | str b=>obtain ⟨t,rfl⟩:=ry; rw[Dz] at q; exact SeqAt.RcNeAt.bool_str a b t _ _ _ _ ⟨.bl _,H,I,rfl,q⟩; all_goals simp
  | @lst b ys es q2 rr2=>cases ry; obtain ⟨vs,r2,p2,_⟩:=I.list q2; rw[Dz] at q; exact SeqAt.RcNeAt.bool_list a p2.isList hu' _ _ _ _ ⟨.bl _,H,I,rfl,q⟩; all_goals simp
  | @tup b ys es q2 rr2=>cases ry; obtain ⟨vs,r2,p2,_⟩:=I.tuple q2; rw[Dz] at q; exact SeqAt.RcNeAt.bool_tuple a p2 hu' _ _ _ _ ⟨.bl _,H,I,rfl,q⟩; all_goals simp
 | int a =>
  obtain ⟨t',rfl⟩:=rx
  cases h2 with
  | non=>cases ry; rw[Dz] at q; exact SeqAt.RcNeAt.int_none a t' _ _ _ _ ⟨.bl _,H,I,rfl,q⟩; all_goals simp
  | bl b=>cases ry; rw[Dz] at q; exact SeqAt.RcNeAt.int_bool a t' b _ _ _ _ ⟨.bl _,H,I,rfl,q⟩
  | int b=>obtain ⟨t,rfl⟩:=ry; rw[Dz] at q; exact SeqAt.RcNeAt.int_int a t' b t _ _ _ _ ⟨.bl _,H,I,rfl,q⟩
  | str b=>obtain ⟨t,rfl⟩:=ry; rw[Dz] at q; exact SeqAt.RcNeAt.int_str a t' b t _ _ _ _ ⟨.bl _,H,I,rfl,q⟩; all_goals simp
  | @lst b ys es q2 rr2=>cases ry; obtain ⟨vs,r2,p2,_⟩:=I.list q2; rw[Dz] at q; exact SeqAt.RcNeAt.int_list a t' p2.isList hu' _ _ _ _ ⟨.bl _,H,I,rfl,q⟩; all_goals simp
  | @tup b ys es q2 rr2=>cases ry; obtain ⟨vs,r2,p2,_⟩:=I.tuple q2; rw[Dz] at q; exact SeqAt.RcNeAt.int_tuple a t' p2 hu' _ _ _ _ ⟨.bl _,H,I,rfl,q⟩; all_goals simp
 | str a =>
  obtain ⟨t',rfl⟩:=rx
  cases h2 with
  | non=>cases ry; rw[Dz] at q; exact SeqAt.RcNeAt.str_none a t' _ _ _ _ ⟨.bl _,H,I,rfl,q⟩; all_goals simp
  | bl b=>cases ry; rw[Dz] at q; exact SeqAt.RcNeAt.str_bool a t' b _ _ _ _ ⟨.bl _,H,I,rfl,q⟩; all_goals simp
  | int b=>obtain ⟨t,rfl⟩:=ry; rw[Dz] at q; exact SeqAt.RcNeAt.str_int a t' b t _ _ _ _ ⟨.bl _,H,I,rfl,q⟩; all_goals simp
  | str b=>obtain ⟨t,rfl⟩:=ry; rw[Dz] at q; exact SeqAt.RcNeAt.str_str a t' b t _ _ _ _ ⟨.bl _,H,I,rfl,q⟩
  | @lst b ys es q2 rr2=>cases ry; obtain ⟨vs,r2,p2,_⟩:=I.list q2; rw[Dz] at q; exact SeqAt.RcNeAt.str_list a t' p2.isList hu' _ _ _ _ ⟨.bl _,H,I,rfl,q⟩; all_goals simp
  | @tup b ys es q2 rr2=>cases ry; obtain ⟨vs,r2,p2,_⟩:=I.tuple q2; rw[Dz] at q; exact SeqAt.RcNeAt.str_tuple a t' p2 hu' _ _ _ _ ⟨.bl _,H,I,rfl,q⟩; all_goals simp
 | @lst a xs ds qa r =>
  cases rx
  obtain ⟨us,r1,p,_⟩:=I.list qa
  cases h2 with
  | non=>cases ry; rw[Dz] at q; exact SeqAt.RcNeAt.list_none p.isList hu' _ _ _ _ ⟨.bl _,H,I,rfl,q⟩; all_goals simp
  | bl b=>cases ry; rw[Dz] at q; exact SeqAt.RcNeAt.list_bool b p.isList hu' _ _ _ _ ⟨.bl _,H,I,rfl,q⟩; all_goals simp
  | int b=>obtain ⟨t,rfl⟩:=ry; rw[Dz] at q; exact SeqAt.RcNeAt.list_int b t p.isList hu' _ _ _ _ ⟨.bl _,H,I,rfl,q⟩; all_goals simp
  | str b=>obtain ⟨t,rfl⟩:=ry; rw[Dz] at q; exact SeqAt.RcNeAt.list_str b t p.isList hu' _ _ _ _ ⟨.bl _,H,I,rfl,q⟩; all_goals simp
  | @lst b ys es q2 rr2=>cases ry; obtain ⟨vs,r2,p2,_⟩:=I.list q2; rw[Dz] at q; exact nQ p p2 (r1.length.symm.trans r.length) (r2.length.symm.trans rr2.length) hu' (λj h1 h2=>Oc I r rr2 r1 r2 (Uw (by simp only[Cy] at hd; omega)) j h1 h2) _ _ _ _ ⟨.bl _,H,I,rfl,q⟩
  | @tup b ys es q2 rr2=>cases ry; obtain ⟨vs,r2,p2,_⟩:=I.tuple q2; rw[Dz] at q; exact SeqAt.RcNeAt.list_tuple p.isList p2 hu' _ _ _ _ ⟨.bl _,H,I,rfl,q⟩; all_goals simp
 | @tup a xs ds qa r =>
  cases rx
  obtain ⟨us,r1,p,_⟩:=I.tuple qa
  cases h2 with
  | non=>cases ry; rw[Dz] at q; exact SeqAt.RcNeAt.tuple_none p hu' _ _ _ _ ⟨.bl _,H,I,rfl,q⟩; all_goals simp
  | bl b=>cases ry; rw[Dz] at q; exact SeqAt.RcNeAt.tuple_bool b p hu' _ _ _ _ ⟨.bl _,H,I,rfl,q⟩; all_goals simp
  | int b=>obtain ⟨t,rfl⟩:=ry; rw[Dz] at q; exact SeqAt.RcNeAt.tuple_int b t p hu' _ _ _ _ ⟨.bl _,H,I,rfl,q⟩; all_goals simp
  | str b=>obtain ⟨t,rfl⟩:=ry; rw[Dz] at q; exact SeqAt.RcNeAt.tuple_str b t p hu' _ _ _ _ ⟨.bl _,H,I,rfl,q⟩; all_goals simp
  | @lst b ys es q2 rr2=>cases ry; obtain ⟨vs,r2,p2,_⟩:=I.list q2; rw[Dz] at q; exact SeqAt.RcNeAt.tuple_list p p2.isList hu' _ _ _ _ ⟨.bl _,H,I,rfl,q⟩; all_goals simp
  | @tup b ys es q2 rr2=>cases ry; obtain ⟨vs,r2,p2,_⟩:=I.tuple q2; rw[Dz] at q; exact jS p p2 (r1.length.symm.trans r.length) (r2.length.symm.trans rr2.length) hu' (λj h1 h2=>Oc I r rr2 r1 r2 (Uw (by simp only[Cy] at hd; omega)) j h1 h2) _ _ _ _ ⟨.bl _,H,I,rfl,q⟩
theorem sO{z z':V}{v:Value}(h:RelV z v)(h':RelV z' v):z=z':=by
 cases z <;> cases z' <;> simp only[L2.RelV] at h h' <;> first | rfl | (subst h; cases h'; rfl) | (subst h; cases h'; done) | (obtain ⟨t,rfl⟩:=h; obtain ⟨t',e⟩:=h'; cases e; rfl) | (obtain ⟨t,rfl⟩:=h; obtain ⟨t',e⟩:=h'; cases e; done) | (obtain ⟨t,rfl⟩:=h; cases h'; done) | (subst h; obtain ⟨t',e⟩:=h'; cases e)
open Classical in
noncomputable def Ra(K:PySem.W.Frag)(H:Hp)(d:Ad)(v:Value):Bool:=if h:∃e z,RdV K H z e/\RelV z v then Dz h.choose d else false
theorem fR{pins:List (Addr×Obj)}{σ:L2.St}{H:Hp}{s:Af}(I:Inv X pins σ H s){d e:Ad}{z:V}{v:Value}(h:RdV X.K H z e)(r:RelV z v):Ra X.K H d v=Dz e d:=by
 unfold Ra
 have hx:∃e z,RdV X.K H z e/\RelV z v:=⟨e,z,h,r⟩
 rw[dif_pos hx]
 obtain ⟨z',h',r'⟩:=hx.choose_spec
 have ez:=sO r' r
 subst ez
 rw[RdV.det I h' h]
theorem Vg{pins:List (Addr×Obj)}{σ:L2.St}{H:Hp}{s:Af}(I:Inv X pins σ H s){d:Ad}:∀{xs:List V} {ds:List Ad} {us:List Value},RdVs X.K H xs ds->Ep xs us->us.any (Ra X.K H d)=ds.any λe=>Dz e d
 | _,_,_,.nil,r=>by cases r; rfl
 | _,_,_,.cons h t,r=>by
  cases r with
  | cons r1 r2=>rw[Le,Le,fR I h r1,Vg I t r2]
theorem Ve{pins:List (Addr×Obj)}{σ:L2.St}{H:Hp}{s:Af}(I:Inv X pins σ H s){A:Cq}{x:V}{d:Ad}{u:Value}(hx:RdV X.K H x d)(rx:RelV x u):∀{xs:List V} {ds:List Ad} {us:List Value},RdVs X.K H xs ds->Ep xs us->A.units+Bp ds<cLine->∀v∈us,Kx A s v u (Ra X.K H d v)
 | _,_,_,.nil,r,_=>λv hv=>by cases r; cases hv
 | _,_,_,@RdVs.cons _ _ y e ys es h t,r,hu=>λv hv=>by
  have hm:A.units+e.depth<cLine/\A.units+Bp es<cLine:=by
   simp only[Bp] at hu
   omega
  cases r with
  | cons r1 r2 =>
   rcases Aj.mp hv with rfl | hv
   ·rw[fR I h r1]; exact rZ I h hx r1 rx hm.1
   ·exact Ve I hx rx t r2 hm.2 v hv
def K5(K:PySem.W.Frag)(neg:Bool):R2:=λx y H Q=>∃p xs d ds,y=.ref p/\(Kw K H p xs\/Rr K H p xs)/\RdV K H x d/\RdVs K H xs ds/\Bp ds<=60/\Q (.bl (if neg then !(ds.any λe=>Dz e d) else ds.any λe=>Dz e d)) H
theorem j4(hu:X.A.units+64<cLine):Vb X (Iv .In) (K5 X.K false):=by
 intro pins s σ H x y v u Q I rx ry h
 obtain ⟨p,xs,d,ds,rfl,hq,hx,hs,hd,q⟩:=h
 cases ry
 have hu1:X.A.in1.units+Bp ds<cLine:=by have:=aS X.A; omega
 rcases hq with hq | hq
 ·obtain ⟨its,r,pl,hz⟩:=I.list hq
  refine SeqAt.in_listAt (Ra X.K H d) pl.isList (λw hw=>Ve I hx rx hs r hu1 w (by simpa using hw)) ⟨.bl _,H,I,rfl,?_⟩
  rw[show its.toArray.any (Ra X.K H d)=its.any (Ra X.K H d) by simp,Vg I hs r]
  exact q
 ·obtain ⟨its,r,pl,hz⟩:=I.tuple hq
  refine SeqAt.in_tupleAt (Ra X.K H d) pl (λw hw=>Ve I hx rx hs r hu1 w (by simpa using hw)) ⟨.bl _,H,I,rfl,?_⟩
  rw[show its.toArray.any (Ra X.K H d)=its.any (Ra X.K H d) by simp,Vg I hs r]
  exact q
end
def N8(K:PySem.W.Frag)(a:Addr):It :=
 ⟨λi H=>∃xs x,Kw K H a xs/\xs[i]? = some x,λi H x H'=>∃p y,x=.ref p/\H p=none/\H'=upd H p (.tup [.int i,y])/\∀xs,Kw K H a xs->xs[i]? = some y,λi H=>∃xs,Kw K H a xs/\xs.length<=i⟩
section
variable{X:Cx}{pins:List (Addr×Obj)}{σ:L2.St}{H:Hp}{s:Af}{h':Heap}
theorem Tj{t':Nat}{fp:List Addr}(I:Inv X pins σ H s)(k:∀b o,b∉fp->s.heap.get? b=some o->h'.get? b=some o)(hf:∀b∈fp,Lv X pins H b):Inv X pins σ H { s with heap:=h',toks:=t' }:=by
 have nit:∀b u,H b=some u->b∉fp:=λb u e z=>by rw[(hf b z).1] at e; cases e
 refine I.step (g':=s.gens) (d':=s.drawn) (ch:=fp) (λb hb=>?_) (λb o _ _ hc e _=>k b o hc e) (λb o _ _ hc e _=>⟨o.slots,k b o hc e⟩) (λ_ _ _ _ n=>n)
  (λb o hc e=>⟨o,k b o hc e⟩) (λ_ _ e=>e) (λ_ _ _ e=>e) (λb ps e=>⟨#[],by rw[e]; simp⟩) (λm hm=>?_) (λb u e=>?_) I.bare
 ·obtain ⟨_,f1,_,f3,f4,f5⟩:=hf b hb
  exact ⟨f3,f1,f4,f5⟩
 ·obtain ⟨o,es,ep,ho,r⟩:=hm
  exact ⟨o,es,ep,k _ o (λz=>(hf _ z).2.1 rfl) ho,r⟩
 ·refine (I.hok b u e).stay (λc v hc q=>k c v ?_ q) (λ_ q=>q) λ_ _ q=>q
  rcases hc with z | z
  ·rw[z]; exact nit b u e
  ·exact nit c _ z
end
theorem nJ{P:Bu}{w:World}{K:PySem.W.Frag}{elts:List Expr}{k:Nat}{pos:Pos}(a e it:Addr)(ne:e≠it):Turn P w K (.Tuple elts k pos) (N8 K a) [e,it] e (λi h=>(∃old,IsEnum h e it ((i:Nat):Int) old)/\h.IsListIter it a i) where
 mem:=Aa
 obj:=λi h st b hb=>by
  obtain ⟨⟨old,he⟩,o,e1,c,d⟩:=st
  rcases Aj.mp hb with z | z
  ·subst z
   exact ⟨_,he,λv z=>by cases z⟩
  ·rw[Ah.mp z]
   exact ⟨o,e1,λv z=>by rw[d] at z; cases z⟩
 keep:=λi h h' st kp=>⟨let ⟨old,he⟩:=st.1; ⟨old,kp e Aa _ he⟩,st.2.at λo q=>kp it (Ag _ Aa) o q⟩
 item:=by
  intro X hP hw hK hc i pins s σ H E I hf st hg
  subst hP hw hK
  obtain ⟨xs,x,hq,hx⟩:=hg
  obtain ⟨its,rv,p,hz⟩:=I.list hq
  obtain ⟨u,hu,ru⟩:=rv.get hx
  obtain ⟨⟨old,he⟩,hit⟩:=st
  have el:e<s.heap.objs.size:=Bc he
  have il:it<s.heap.objs.size:=by obtain ⟨_,q,_⟩:=hit; exact Bc q
  refine wpAny_pyNext_enum_item he hit p.isList (x:=u) (by simpa using hu) ne λh1 ho hit1 hT hsz hk=>⟨_,rfl,wpAny_letOwnedTupleGo_enum ho λh2 he2 hs2=>?_⟩
  have hs2':Jd e h1 h2:=hs2
  -- the pair laid,then the iterators turned
  have I1:Inv X pins σ (upd H s.heap.objs.size (.tup [.int i,x])) { s with heap:=s.heap.push { cls:=.type "tuple",data:=.seq #[.int i s.toks,u] } } :=
   I.laid (t':=s.toks) (λb o q=>Ae _ q) (Ai _) ⟨by show 2<=Aq; decide,[.int i s.toks,u],.cons ⟨_,rfl⟩ (.cons ru .nil),_,Bi _ rfl,rfl,0,rfl⟩
  have nT:∀b∈[e,it],b≠s.heap.objs.size:=λb hb=>by
   rcases Aj.mp hb with z | z
   ·rw[z]; exact Cf el
   ·rw[Ah.mp z]; exact Cf il
  have fr:∀b∈[e,it],(upd H s.heap.objs.size (.tup [.int i,x])) b=none:=λb hb=>by rw[Co (nT b hb)]; exact (hf b hb).1
  refine ⟨.ref s.heap.objs.size,_,Tj (fp:=[e,it]) (s:={ s with heap:=s.heap.push { cls:=.type "tuple",data:=.seq #[.int i s.toks,u] } }) (h':=h2) (t':=s.toks+1) I1 (λb o hb q=>?_) (λb hb=>⟨fr b hb,(hf b hb).2⟩),rfl,⟨_,x,rfl,I.hok.fresh (Ai _),rfl,λys hy=>by rw[I.list_inj hy hq]; exact hx⟩,⟨⟨u,?_⟩,?_⟩,fr⟩
  ·have nbe:b≠e:=λz=>hb (by rw[z]; exact Aa)
   have nbi:b≠it:=λz=>hb (by rw[z]; exact Ag _ Aa)
   refine (hs2'.2 b nbe).trans ?_
   by_cases hbT:b=s.heap.objs.size
   ·subst hbT
    have q':=(Bi s.heap (o:={ cls:=.type "tuple",data:=.seq #[.int i s.toks,u] }) rfl).symm.trans q
    rw[hT]
    exact q'
   ·refine hk b o nbe nbi ?_
    have q0:(s.heap.push { cls:=.type "tuple",data:=.seq #[.int i s.toks,u] }).get? b=some o:=q
    rcases Heap.get?_push_cases q0 with z | z
    ·exact absurd z.1 hbT
    ·exact z
  ·have : ((i+1:Nat):Int)=(i:Int)+1:=by omega
   rw[this]
   exact he2
  ·exact hit1.at λo q=>(hs2'.2 it (Ln ne)).trans q
 done:=by
  intro X hP hw hK hc i pins s σ H E I hf st hg
  subst hP hw hK
  obtain ⟨xs,hq,hx⟩:=hg
  obtain ⟨its,rv,p,hz⟩:=I.list hq
  obtain ⟨⟨old,he⟩,hit⟩:=st
  have hl:=rv.length
  exact wpAny_pyNext_enum_end (I.ok.hd hc) he hit p.isList (by simp; omega) λh1 eb=>⟨rfl,Tj (fp:=[e,it]) (t':=s.toks) I (λb o hb q=>eb b o (λz=>hb (by rw[z]; exact Ag _ Aa)) q) hf⟩
 self:=λ_ _ _ _ _ st h=>let ⟨_,he⟩:=st.1; wpAny_pyIter_enum he h
section
variable{X:Cx}
def A2(K:PySem.W.Frag)(ta:TA):TI:=λσ H R=>ta σ H λvs H1=>∃a,vs=[.ref a]/\(∃xs,Kw K H1 a xs)/\R (N8 K a) H1
theorem uE{elts:List Expr}{k:Nat}{tp:Pos}{a:Expr}{ta:TA}{p pos:Pos}(hg:Gl X "enumerate")(hm:X.mg "enumerate" = none)(ha:PA X [a] ta)(hs:Bo [a] X.env=[(false,eval a X.env)]:=by rfl):PI X (.Tuple elts k tp) (.Call (.Name "enumerate" p) [a] [] pos) (A2 X.K ta):=by
 intro pins s σ H R I h
 refine Call_ (Pd I hg hm (u:=.type "enumerate") (by decide +kernel) (Fg (Gk (ha pos pins s σ H _ I h) λus s1 ⟨vs,H1,I1,r1,q1⟩=>?_) hs rfl))
 obtain ⟨l,e,⟨xs,hq⟩,q⟩:=q1
 subst e
 obtain ⟨u,rfl,ru⟩:=vals1 r1
 cases ru
 obtain ⟨its,rv,pl,hz⟩:=I1.list hq
 refine call_enumerate_list pl.isList λh2 he hit hsz hk=>wpAny_pyIter_enum he ?_
 have fr:∀b∈[s1.heap.objs.size+1,s1.heap.objs.size],Lv X pins H1 b:=λb hb=>by
  rcases Aj.mp hb with z | z
  ·rw[z]; exact I1.fpOk (Oe _) (I1.hok.fresh (Oe _))
  ·rw[Ah.mp z]; exact I1.fpOk (Ai _) (I1.hok.fresh (Ai _))
 exact ⟨s1.heap.objs.size+1,[s1.heap.objs.size+1,s1.heap.objs.size],_,_,H1,rfl,I1.kept (t':=s1.toks) hk,nJ l _ _ (Nat.succ_ne_self _),⟨⟨_,he⟩,hit⟩,fr,q⟩
end
section
variable{X:Cx}
def u3(K:PySem.W.Frag)(J:It)(js:List Nat)(tc:TT)(te:TE)(σ:L2.St)(H1:Hp)(Q:VK):Prop:=∀D,H1 D=none->∃W:Nat->Nat->Hp->Prop,(∃m,W 0 m (upd H1 D (.lst [])))/\∀i m H,W i m H ->
 (J.stop i H/\Q (.ref D) H)\/(J.go i H/\∀x H',J.yld i H x H'->∃(t:Addr) (w1 w2:V),x=.ref t/\Rr K H' t [w1,w2]/\∃(N1:Hp->Prop) (N2:VK),(∀H2,N1 H2->∃m',m'<m/\W (i+1) m' H2) /\
  (∀y H3,N2 y H3->∃acc,H3 D=some (.lst acc)/\acc.length<Aq/\∃m',m'<m/\W (i+1) m' (upd H3 D (.lst (acc++[y])))) /\
  tc (some w1::some w2::Fv σ js) H' λc H2=>if c=true then te (some w1::some w2::Fv σ js) H2 N2 else N1 H2)
def pP(K:PySem.W.Frag)(wi:TI)(js:List Nat)(tc:TT)(te:TE):TE:=λσ H Q=>wi σ H λJ H1=>u3 K J js tc te σ H1 Q
theorem oY{elt iter:Expr}{x x2:Str}{px px2 pt pos:Pos}{kt:Nat}{ifs:List Expr}{scope:Scope}{cl:List (Str×Addr)}{ys:List Str}{js:List Nat}{wi:TI}{tc:TT}{te:TE}(C:CompScope X scope cl x ys js)(own2:sP scope x2)(nd2:(x::x2::ys).Nodup)(hc:X.calm=true)(hi:PI X (.Tuple [.Name x px,.Name x2 px2] kt pt) iter wi)(ht:∀fp s H,oR (Es X scope cl (x::x2::ys) fp s H) ifs tc)(he:∀fp s H,PE (Es X scope cl (x::x2::ys) fp s H) elt te)(hs:∀x,Fp iter X.env x=pure x:=by intro _; rfl):PE X (.ListComp elt [⟨.Tuple [.Name x px,.Name x2 px2] kt pt,iter,ifs,0⟩] scope pos) (pP X.K wi js tc te):=by
 intro pins s σ H Q I h
 rw[eval_ListComp]
 refine Qo (use:=none) rfl hs C.clos C.kind C.locs (Gk (hi pins s σ H _ I h) λv s1 h1=>Gk h1 λitv s2 h2=>?_)
 obtain ⟨it,fp,tn,J,H2,e,I2,T,st2,f2,q2⟩:=h2
 subst e
 have fD:H2 s2.heap.objs.size=none:=I2.hok.fresh (Ai _)
 obtain ⟨W,⟨m0,w0⟩,turn⟩:=q2 s2.heap.objs.size fD
 refine Gz ?_
 have I3:Inv X pins σ (upd H2 s2.heap.objs.size (.lst [])) { s2 with heap:=s2.heap.push { cls:=.type "list",dict:=none,data:=.seq ([]:List Value).toArray } } :=
  I2.laid (t':=s2.toks) (λb u q=>Ae _ q) (Ai _) ⟨Dj _,[],0,.nil,Bi _ rfl⟩
 obtain ⟨f3,st3',o3'⟩:=Yo I2 T st2 f2 I3
 generalize hS3:({ s2 with heap:=s2.heap.push { cls:=.type "list",dict:=none,data:=.seq ([]:List Value).toArray } }:Af)=s3 at I3
 have Pq:tn 0 s3.heap:=by rw[<- hS3]; exact st3'
 have o3:∀b∈fp,∃o,s3.heap.get? b=some o:=by rw[<- hS3]; exact o3'
 show wpAny _ _ (Oi scope X.env.globals cl [] X.env.qual none .none (some X.env)) _ _ _
 refine Ug C λh4 hns4 keep4 new4=>?_
 have I4:∀tk,Inv (Es X scope cl (x::x2::ys) fp s3 (upd H2 s2.heap.objs.size (.lst []))) [] (none::none::Fv σ js) (upd H2 s2.heap.objs.size (.lst [])) { s3 with heap:=h4,toks:=tk }:=λtk=>Rp (pre:=[x,x2]) C I3 f3 o3 hns4 keep4 new4
 have st4:tn 0 h4:=T.keep 0 _ _ Pq λb hb o q=>keep4 b o q
 generalize hX':Es X scope cl (x::x2::ys) fp s3 (upd H2 s2.heap.objs.size (.lst []))=X' at I4
 obtain ⟨eP,eW,eK,eA,eC⟩:=Xn hc hX'
 have stat:∀{H':Hp},(∀b∈fp,H' b=none)->∀b∈fp,Lv X' [] H' b:=λ{H'} hn=>Ur hX' (I4 0) hn
 have loop:∀s5:Af,s5={ s3 with heap:=h4,toks:=s3.toks+([]:List (Str×Value)).length } ->
   Mb (model X.prog X.w) X.A (.compLoop (.ListComp elt [⟨.Tuple [.Name x px,.Name x2 px2] kt pt,iter,ifs,0⟩] scope pos) 0 (.ref it) (.ref s2.heap.objs.size) (compEnvC scope (Eg (s3.heap.objs.size+1) scope.names cl) s3.heap.objs.size X.env))
    (compPost (model X.prog X.w) X.A X.xe none (EP X pins σ Q) (.ref s2.heap.objs.size) s3.heap.objs.size) s5:=by
  rintro s5 rfl
  refine Ru (λn s'=>∃i o o2 H',Inv X' [] (o::o2::Fv σ js) H' s'/\tn i s'.heap/\(∀b∈fp,H' b=none)/\W i n H') ?_ m0
   ⟨0,none,none,_,I4 _,st4,λb hb=>(f3 b hb).1,w0⟩
  (intro n s6 q_; obtain ⟨i,o,o2,H6,I6,st6,fr6,w6⟩ := q_)
  rcases turn i n H6 w6 with ⟨stop,qn⟩ | ⟨go,step⟩
  ·have hd:=T.done X' eP eW eK eC i [] s6 _ H6 (λ_ _=>False) I6 (stat fr6) st6 stop
   rw[eA] at hd
   refine Gk hd λr s7 q0_ => ?_
   obtain ⟨hr,I7⟩ := q0_
   subst hr
   obtain ⟨m7,hn7,fin7⟩:=Yg hX' I3 f3 I7
   exact ⟨m7,hn7,λh8 hs8=>⟨.ref s2.heap.objs.size,H6,fin7 h8 hs8,rfl,qn⟩⟩
  ·have hit:=T.item X' eP eW eK eC i [] s6 _ H6 (λ_ _=>False) I6 (stat fr6) st6 go
   rw[eA] at hit
   refine Gk hit λr s7 q0_ => ?_
   obtain ⟨u,hr,h7⟩ := q0_
   subst hr
   refine Gk h7 λ_ s8 q0_ => ?_
   obtain ⟨y,H8,I8,r8,y8,st8,fr8⟩ := q0_
   have I8':=I8.pinned (stat fr8) (T.obj _ _ st8)
   obtain ⟨tp,w1,w2,ey,hsq,N1,N2,hN1,hN2,hst⟩:=step y H8 y8
   have again:∀{H9:Hp} {s9:Af} {m':Nat},Inv X' ([]++Rq fp s8.heap) (some w1::some w2::Fv σ js) H9 s9->m'<n->W (i+1) m' H9->∃m,m<n/\∃i o o2 H',Inv X' [] (o::o2::Fv σ js) H' s9/\tn i s9.heap/\(∀b∈fp,H' b=none)/\W i m H':=λ{H9 s9 m'} I9 hm w9=>by
    refine ⟨m',hm,i+1,some w1,some w2,H9,I9.unpinned,T.keep _ _ _ st8 λb hb o e=>(I9.pin (b,o) (Ap _ (Ap _ (Ht hb e)))).1,λb hb=>?_,w9⟩
    obtain ⟨o,e,_⟩:=T.obj _ _ st8 b hb
    exact (I9.pin (b,o) (Ap _ (Ap _ (Ht hb e)))).2.1
   subst hX'
   have g1:PG (Es X scope cl (x::x2::ys) fp s3 (upd H2 s2.heap.objs.size (.lst []))) (.Tuple [.Name x px,.Name x2 px2] kt pt) (G8 X.K 2 (pD (Vp 0) (pD (Vp 1) J9))) :=
    zT (X:=Es X scope cl (x::x2::ys) fp s3 (upd H2 s2.heap.objs.size (.lst []))) hc (gB (Mm (i:=0) (x:=x) nd2 rfl (Wk C.own) (dP C.own)) (gB (Mm (i:=1) (x:=x2) nd2 rfl (Wk own2) (dP own2)) vO))
   refine Gk (g1 _ s8 _ H8 y u (λσ' H'=>σ'=some w1::some w2::Fv σ js/\H'=H8) I8' r8 ⟨tp,[w1,w2],ey,hsq,rfl,_,_,rfl,_,_,rfl,rfl,rfl,rfl⟩) λ_ s9 q0_ => ?_
   obtain ⟨σ9,H9,I9,e9,e9'⟩ := q0_
   subst e9 e9'
   refine Gk (ht fp s3 _ _ s9 _ _ _ I9 hst) λok s10 q0_ => ?_
   obtain ⟨H10,I10,q10⟩ := q0_
   cases ok with
   | false =>
    rw[if_neg Bx] at q10 ⊢
    obtain ⟨m',hm,w10⟩:=hN1 _ q10
    exact again I10 hm w10
   | true =>
    rw[if_pos rfl] at q10 ⊢
    refine Gk (he fp s3 _ _ s10 _ _ _ I10 q10) λz s11 q0_ => ?_
    obtain ⟨vz,H11,I11,r11,q11⟩ := q0_
    obtain ⟨acc,ha,hz,m',hm,w11⟩:=hN2 _ _ q11
    refine Gk (Qb _ s11 _ H11 (.ref s2.heap.objs.size) [vz] (.ref s2.heap.objs.size) [z] (λ_ H'=>H'=upd H11 s2.heap.objs.size (.lst (acc++[vz]))) I11 rfl (.cons r11 .nil) ⟨_,acc,vz,rfl,rfl,ha,hz,rfl⟩) λ_ s12 q0_ => ?_
    obtain ⟨_,H12,I12,_,e12⟩ := q0_
    subst e12
    exact again I12 hm w11
 exact Sf (loop _ rfl) (T.self X.A 0 _ _ _ st4 (loop _ rfl))
end
section
variable{X:Cx}
theorem uH{elt iter:Expr}{x y0:Str}{px py pos spos:Pos}{i0:Nat}{ifs:List Expr}{scope:Scope}{cl:List (Str×Addr)}{ys:List Str}{js:List Nat}{wi:TI}{tc:TT}{te:TE}(hN:X.N.Nodup)(hi0:X.N[i0]? = some y0)(hy0:X.env.scope.names.lookup y0=some .local)(C:CompScope X scope cl x ys js)(hc:X.calm=true)(hi:PI X (.Name x px) iter wi)(ht:∀fp s H,oR (Es X scope cl (x::ys) fp s H) ifs tc)(he:∀fp s H,PE (Es X scope cl (x::ys) fp s H) elt te)(hs:∀x,Fp iter X.env x=pure x:=by intro _; rfl)(hsw:Kv (.ListComp elt [⟨.Name x px,iter,ifs,0⟩] scope pos) (some (.Name y0 py)) spos.line X.env=pure true:=by rfl):PS X (.Assign [.Name y0 py] (.ListComp elt [⟨.Name x px,iter,ifs,0⟩] scope pos) spos) (uP (lU wi js tc te) (Vp i0)):=by
 intro pins s σ H De I h
 have h:lU wi js tc te σ H λv H1=>De.nx (σ.set i0 (some v)) H1:=h
 rw[exec_Assign_Name_used _ _ _ _ hsw]
 refine Ac (wpAny_standAt (Ac ?_))
 show wpAny _ X.A (do let _ <- comprehension (.ListComp elt [⟨.Name x px,iter,ifs,0⟩] scope pos) scope X.env _ (newList []) false (eval iter X.env) (some (Vx (.Name y0 py) X.env))) _ _ s
 refine Ac (En (Qo (use:=some (Vx (.Name y0 py) X.env)) (Q:=λ_ s'=>SP X pins De .next s') rfl hs C.clos C.kind C.locs (Gk (hi pins s σ H _ I h) λv s1 h1=>Gk h1 λitv s2 h2=>?_)) (λ_ s' hq=>Bb (Bb hq)) λ_ _ e=>e)
 obtain ⟨it,fp,tn,J,H2,e,I2,T,st2,f2,q2⟩:=h2
 subst e
 have fD:H2 s2.heap.objs.size=none:=I2.hok.fresh (Ai _)
 obtain ⟨W,⟨m0,w0⟩,turn⟩:=q2 s2.heap.objs.size fD
 refine Gz ?_
 have I3:Inv X pins σ (upd H2 s2.heap.objs.size (.lst [])) { s2 with heap:=s2.heap.push { cls:=.type "list",dict:=none,data:=.seq ([]:List Value).toArray } } :=
  I2.laid (t':=s2.toks) (λb u q=>Ae _ q) (Ai _) ⟨Dj _,[],0,.nil,Bi _ rfl⟩
 obtain ⟨f3,st3',o3'⟩:=Yo I2 T st2 f2 I3
 generalize hS3:({ s2 with heap:=s2.heap.push { cls:=.type "list",dict:=none,data:=.seq ([]:List Value).toArray } }:Af)=s3 at I3
 have Pq:tn 0 s3.heap:=by rw[<- hS3]; exact st3'
 have o3:∀b∈fp,∃o,s3.heap.get? b=some o:=by rw[<- hS3]; exact o3'
 show wpAny _ _ (Oi scope X.env.globals cl [] X.env.qual none .none (some X.env)) _ _ _
 refine Ug C λh4 hns4 keep4 new4=>?_
 have I4:∀tk,Inv (Es X scope cl (x::ys) fp s3 (upd H2 s2.heap.objs.size (.lst []))) [] (none::Fv σ js) (upd H2 s2.heap.objs.size (.lst [])) { s3 with heap:=h4,toks:=tk }:=λtk=>Rp (pre:=[x]) C I3 f3 o3 hns4 keep4 new4
 have st4:tn 0 h4:=T.keep 0 _ _ Pq λb hb o q=>keep4 b o q
 generalize hX':Es X scope cl (x::ys) fp s3 (upd H2 s2.heap.objs.size (.lst []))=X' at I4
 obtain ⟨eP,eW,eK,eA,eC⟩:=Xn hc hX'
 have stat:∀{H':Hp},(∀b∈fp,H' b=none)->∀b∈fp,Lv X' [] H' b:=λ{H'} hn=>Ur hX' (I4 0) hn
 have loop:∀s5:Af,s5={ s3 with heap:=h4,toks:=s3.toks+([]:List (Str×Value)).length } ->
   Mb (model X.prog X.w) X.A (.compLoop (.ListComp elt [⟨.Name x px,iter,ifs,0⟩] scope pos) 0 (.ref it) (.ref s2.heap.objs.size) (compEnvC scope (Eg (s3.heap.objs.size+1) scope.names cl) s3.heap.objs.size X.env))
    (compPost (model X.prog X.w) X.A X.xe (some (Vx (.Name y0 py) X.env)) (λ_ s'=>SP X pins De .next s') (.ref s2.heap.objs.size) s3.heap.objs.size) s5:=by
  rintro s5 rfl
  refine Ru (λn s'=>∃i o H',Inv X' [] (o::Fv σ js) H' s'/\tn i s'.heap/\(∀b∈fp,H' b=none)/\W i n H') ?_ m0
   ⟨0,none,_,I4 _,st4,λb hb=>(f3 b hb).1,w0⟩
  (intro n s6 q_; obtain ⟨i,o,H6,I6,st6,fr6,w6⟩ := q_)
  rcases turn i n H6 w6 with ⟨stop,qn⟩ | ⟨go,step⟩
  ·have hd:=T.done X' eP eW eK eC i [] s6 _ H6 (λ_ _=>False) I6 (stat fr6) st6 stop
   rw[eA] at hd
   refine Gk hd λr s7 q0_ => ?_
   obtain ⟨hr,I7⟩ := q0_
   subst hr
   obtain ⟨⟨m7,hn7'⟩,I7f,J7⟩:=mP hX' I3 f3 I7
   have fC:Lv X pins H6 s3.heap.objs.size:=I3.fpOk (Ai _) I7f
   obtain ⟨oC,esC,epC,hoC,rC⟩:=id hn7'
   have J8:Inv X (pins++[(s3.heap.objs.size,oC)]) σ H6 s7:=J7.pins_of λp hp=>by
    rcases Bl.mp hp with z | z
    ·have q:=J7.pin p (Ap _ z)
     exact q
    ·rw[Ah.mp z]
     exact ⟨hoC,I7f,fC.2.1,fC.2.2.1,λv hv=>by rw[rC.1] at hv; cases hv⟩
   refine Gk (Mm (X:=X) (i:=i0) (x:=y0) (pos:=py) hN hi0 (.inl hy0) (.inr hy0) (pins++[(s3.heap.objs.size,oC)]) s7 σ H6 (.ref s2.heap.objs.size) (.ref s2.heap.objs.size) (λσ' H'=>σ'=σ.set i0 (some (.ref s2.heap.objs.size))/\H'=H6) J8 rfl ⟨rfl,rfl⟩) λ_ s9 q0_ => ?_
   obtain ⟨σ9,H9,I9,e9,e9'⟩ := q0_
   subst e9 e9'
   have hoC9:=(I9.pin (s3.heap.objs.size,oC) (Ap _ (Ap _ Aa))).1
   have I9':Inv X pins (σ.set i0 (some (.ref s2.heap.objs.size))) H9 s9:=I9.pins_of λp hp=>I9.pin p (Ap _ (Ay _ hp))
   refine ⟨m7,hn7'.at λo e=>by rw[hoC] at e; cases e; exact hoC9,λh10 hs10=>?_⟩
   exact ⟨_,H9,Tj (t':=s9.toks) (fp:=[s3.heap.objs.size]) I9' (λb o hb e=>(hs10.2 b (λz=>hb (by rw[z]; exact Aa))).trans e) (λb hb=>by rw[Ah.mp hb]; exact fC),qn⟩
  ·have hit:=T.item X' eP eW eK eC i [] s6 _ H6 (λ_ _=>False) I6 (stat fr6) st6 go
   rw[eA] at hit
   refine Gk hit λr s7 q0_ => ?_
   obtain ⟨u,hr,h7⟩ := q0_
   subst hr
   refine Gk h7 λ_ s8 q0_ => ?_
   obtain ⟨y,H8,I8,r8,y8,st8,fr8⟩ := q0_
   have I8':=I8.pinned (stat fr8) (T.obj _ _ st8)
   obtain ⟨N1,N2,hN1,hN2,hst⟩:=step y H8 y8
   have again:∀{H9:Hp} {s9:Af} {m':Nat},Inv X' ([]++Rq fp s8.heap) (some y::Fv σ js) H9 s9->m'<n->W (i+1) m' H9->∃m,m<n/\∃i o H',Inv X' [] (o::Fv σ js) H' s9/\tn i s9.heap/\(∀b∈fp,H' b=none)/\W i m H':=λ{H9 s9 m'} I9 hm w9=>by
    refine ⟨m',hm,i+1,some y,H9,I9.unpinned,T.keep _ _ _ st8 λb hb o e=>(I9.pin (b,o) (Ap _ (Ap _ (Ht hb e)))).1,λb hb=>?_,w9⟩
    obtain ⟨o,e,_⟩:=T.obj _ _ st8 b hb
    exact (I9.pin (b,o) (Ap _ (Ap _ (Ht hb e)))).2.1
   subst hX'
   refine Gk (Mm (i:=0) (x:=x) (pos:=px) C.nd rfl (Wk C.own) (dP C.own) _ s8 _ H8 y u (λσ' H'=>σ'=some y::Fv σ js/\H'=H8) I8' r8 ⟨rfl,rfl⟩) λ_ s9 q0_ => ?_
   obtain ⟨σ9,H9,I9,e9,e9'⟩ := q0_
   subst e9 e9'
   refine Gk (ht fp s3 _ _ s9 _ _ _ I9 hst) λok s10 q0_ => ?_
   obtain ⟨H10,I10,q10⟩ := q0_
   cases ok with
   | false =>
    rw[if_neg Bx] at q10 ⊢
    obtain ⟨m',hm,w10⟩:=hN1 _ q10
    exact again I10 hm w10
   | true =>
    rw[if_pos rfl] at q10 ⊢
    refine Gk (he fp s3 _ _ s10 _ _ _ I10 q10) λz s11 q0_ => ?_
    obtain ⟨vz,H11,I11,r11,q11⟩ := q0_
    obtain ⟨acc,ha,hz,m',hm,w11⟩:=hN2 _ _ q11
    refine Gk (Qb _ s11 _ H11 (.ref s2.heap.objs.size) [vz] (.ref s2.heap.objs.size) [z] (λ_ H'=>H'=upd H11 s2.heap.objs.size (.lst (acc++[vz]))) I11 rfl (.cons r11 .nil) ⟨_,acc,vz,rfl,rfl,ha,hz,rfl⟩) λ_ s12 q0_ => ?_
    obtain ⟨_,H12,I12,_,e12⟩ := q0_
    subst e12
    exact again I12 hm w11
 exact Sf (loop _ rfl) (T.self X.A 0 _ _ _ st4 (loop _ rfl))
end
end Nd
namespace Nd
open PySem L2
end Nd
namespace Nd
open PySem PySem.Spec PyProof.Rows L2
end Nd
namespace Nd
open PySem L2
theorem compScope0{X:Cx}{scope:Scope}{x:Str}(clos:Zf scope X.env=pure [])(nocell:∀y∈scope.names,y.2≠.cell)(kind:scope.kind=.function)(locs:∀y∈scope.names,y.2=.local->scope.names.lookup y.1=some .local)(own:scope.names.lookup x=some .local)(has_:(scope.names.all λy=>!(y.2 == Dq) || (([]:List (Str×Addr)).lookup y.1).isSome)=true):CompScope X scope [] x [] [] :=
 ⟨clos,.inl nocell,kind,locs,.inl own,λ_ _ h=>by simp at h,has_,Ci.mpr ⟨Ba,Ct⟩,rfl,λk y j e1 _=>by simp at e1⟩
theorem sz{n:Nat}(h:n<=1000:=by first | decide | simp | (simp; omega)):n<=Aq:=Jg (aE h)
end Nd
namespace Nd
open PySem PySem.Spec PyProof.Rows L2
theorem yU:∀{vs:List Value} {ns:List Int},Ig vs ns->Ep (ns.map V.int) vs
 | _,_,.nil=>.nil
 | _,_,.cons n t h=>.cons ⟨t,rfl⟩ (yU h)
section
variable{X:Cx}
def fN(K:PySem.W.Frag):List V->Hp->VK->Prop:=λxs H Q=>∃(a:Addr) (ns:List Int),xs=[.ref a]/\Kw K H a (ns.map V.int)/\ns.length<64 /\
 ∀(p:Addr) (ms:List Int),H p=none->ms.Perm ns->ms.Pairwise (·<=·)->Q (.ref p) (upd H p (.lst (ms.map V.int)))
theorem cP:Kc X (.builtin "sorted") (fN X.K):=by
 intro pins s σ H xs us Q I r h
 obtain ⟨a,ns,rfl,hs,hl,q⟩:=h
 obtain ⟨u,rfl,ru⟩:=vals1 r
 cases ru
 obtain ⟨its,rv,p,hz⟩:=I.list hs
 have len:its.length<64:=by rw[<- rv.length,Ab]; exact hl
 refine sorted_ints p.isList (intsAre_of rv) len λout ms a1 a2 a3=>?_
 obtain ⟨e,he⟩:=sortedAll_at s.heap its out
 have ml:ms.length<64:=by rw[a2.length_eq]; exact hl
 exact ⟨.ref (s.heap.objs.size+1),_,I.laid (t':=s.toks) (o:=.lst (ms.map V.int)) (λ_ _=>sortedAll_old) (Oe _) ⟨by rw[Ab,Ha]; omega,out.toList,e,yU a1,by simpa using he⟩,rfl,q _ ms (I.hok.fresh (Oe _)) a2 a3⟩
end
end Nd
namespace NdS
open PySem
def st(m i:Nat):Nat:=(i * 5+1) % m
def it(m:Nat):Nat->Nat->Nat
 | 0,i=>i
 | t+1,i=>it m t (st m i)
def S8(m:Nat):Nat->Nat->List Nat
 | 0,_=>[]
 | f+1,i=>i::S8 m f (st m i)
def J5(m:Nat):Prop:=0<m/\it m m 0=0/\∀e,e<m->e∈S8 m m 0
def lp(m:Nat):Nat->Nat->Nat->Nat×Nat
 | 0,i,p=>(i,p)
 | t+1,i,p=>lp m t ((i * 5+1+p / 32) % m) (p / 32)
abbrev O0(p:Array Nat):Prop:=p.toList.Pairwise (· < ·)
structure TabOk(n:Nat)(t:SetTable):Prop where
 good:J5 (t.mask+1)
 dum:t.dummies=#[]
 plain:t.plain=true
 rise:O0 t.place
 Nq:∀j∈t.place.toList,j<=t.mask
 size:t.place.size=n
structure Tab(n:Nat)(t:SetTable):Prop extends TabOk n t where
 room:n * 5<t.mask * 3
abbrev bt(w:World):Bool:=w.params.followText "set-order"
def K3:Int×Value->Int
 | (_,.int k _)=>k
 | _=>0
def B1(e:Int×Value):Prop:=∃k tk,e=(hashInt k,Rx k tk)
abbrev keys(es:Array (Int×Value)):List Int:=es.toList.map K3
abbrev zK(es:Array (Int×Value))(ep:Nat)(t:SetTable):Obj:={ cls:=.type "set",dict:=none,data:=.set es ep t }
structure SetS(w:World)(h:Heap)(a:Addr)(es:Array (Int×Value))(ep:Nat)(t:SetTable):Prop where
 obj:h.get? a=some (zK es ep t)
 ent:∀e∈es.toList,B1 e
 nd:(keys es).Nodup
 tab:Tab es.size t
 led:bt w=false->t.led=true
 few:es.size<64
def ins(k:Int)(l:List Int):List Int:=if k∈l then l else k::l
theorem small{n:Nat}(h:n<64):n<=Aq:=by rw[Ha]; omega
theorem len_leI:∀{l1 l2:List Int},l1.Nodup->(∀e∈l1,e∈l2)->l1.length<=l2.length
 | [],_,_,_=>Dj _
 | a::l1,l2,nd,h=>by
  have nd':=Ci.mp nd
  have ha:=h a (Aa ..)
  have:=len_leI (l2:=l2.erase a) nd'.2 λe he=>(List.mem_erase_of_ne (show e≠a from λz=>nd'.1 (by rw[<- z]; exact he))).mpr (h e (Ag _ he))
  rw[gW ha] at this
  have p:0<l2.length:=jV ha
  rw[Bt]
  omega
end NdS
namespace NdS
open PySem PyProof.Rows
def arrOf(w:World)(a:Addr)(ep:Nat)(es:Array (Int×Value)):Array (Int×Value):=if bt w then pickOrder (w.params.setOrder a ep) es else es
end NdS
namespace Nd
open PySem PySem.Spec PyProof.Rows L2 NdS
def K1(w:World)(a:Addr)(ks:List Int)(h:Heap):Prop:=∃es ep t,SetS w h a es ep t/\∀x,x∈keys es↔x∈ks
abbrev Q1(w:World)(a:Addr)(ks:List Int):HO:=.ext (K1 w a ks)
end Nd
namespace Nd
open PySem L2
def Rb(d:Addr)(H H':Hp):Prop:=∀b o,b≠d->H b=some o->H' b=some o
theorem Rb.trans{d:Addr}{H H1 H2:Hp}(a:Rb d H H1)(b:Rb d H1 H2):Rb d H H2:=λc o n h=>b c o n (a c o n h)
theorem Rb.upd{d:Addr}{H:Hp}{o:HO}:Rb d H (upd H d o):=λb o n h=>by rw[Co n]; exact h
theorem small{n:Nat}(h:n<=1000):n<=Aq:=Jg (aE h)
theorem lI{n:Nat}(h:n<=1000000):n<=Aq:=by rw[Ha]; omega
theorem Tb(a b:Int)(h:0<b):0<=a % b/\a % b<b:=⟨Fc _ (by omega),Int.emod_lt_of_pos _ h⟩
def Ec(h:Int)(ns:List Int):Prop:=ns.Pairwise (· < ·)/\∀x∈ns,0<=x/\x<h
theorem Ec.nil(h:Int):Ec h []:=⟨Hf,λx hx=>by cases hx⟩
theorem Ec.more{h:Int}{ns:List Int}(r:Ec h ns)(h0:0<=h):Ec (h+1) (ns++[h]) :=
 ⟨Da.mpr ⟨r.1,Fk _ _,λa ha b hb=>by rw[Ah.mp hb]; exact (r.2 a ha).2⟩,λx hx=>by
  rcases Bl.mp hx with z | z
  ·have:=r.2 x z; omega
  ·have:=Ah.mp z; omega⟩
theorem Ec.up{h h':Int}{ns:List Int}(r:Ec h ns)(l:h<=h'):Ec h' ns:=⟨r.1,λx hx=>by have:=r.2 x hx; omega⟩
def Zk(H:Hp)(d:Addr)(c k:Int)(f:Bool):Prop:=H d=some (.lst [.int c,.int k,.bl f])
def sZ:Sp:=λvs H Q _=>∃(d:Addr) (c k:Int) (f:Bool),vs=[.ref d]/\Zk H d c k f/\0<=k/\k<=1000000/\∀(r c':Int) (H':Hp),Zk H' d c' (k+1) f->Rb d H H'->Q (.int r) H'
def Cn(ns:List Int):Ad:=.tuple (ns.map An)
theorem iJ(ns:List Int):(Cn ns).depth<=1:=by
 have : (Cn ns).depth<=Bp (ns.map An)+1:=by simp [Cn,Cy]
 rw[iA] at this
 exact this
theorem vN(TD:List Ad):Dz (.list TD) (.list [])=TD.isEmpty:=by cases TD <;> simp [Dz,Ma]
def pF(b:Bool):Str:=if b=true then "back" else "front"
def order{α:Type}(a b:α)(l:List α):Option Bool->List α
 | none=>l
 | some true=>[a,b]
 | some false=>[b,a]
structure TD(K:PySem.W.Frag)(H:Hp)(x:V)(d:Ad)(n m:Nat):Prop where
 rd:RdV K H x d
 fits:L3 22 d
 nd:xZ d<=n
 dp:d.depth<=m
abbrev xO(K:PySem.W.Frag):List V->Hp->VK->Prop:=λxs H Q=>∃p ys,xs=[V.ref p]/\(Kw K H p ys\/Rr K H p ys)/\∀l,H l=none->Q (.ref l) (upd H l (.lst ys))
theorem wR{X:Cx}:Kc X (.type "list") (xO X.K):=bO
abbrev yB(K:PySem.W.Frag):List V->Hp->VK->Prop:=λxs H Q=>∃p ys,xs=[V.ref p]/\((Kw K H p ys/\∀l,H l=none->Q (.ref l) (upd H l (.tup ys)))\/(Rr K H p ys/\Q (.ref p) H))
theorem eQ{X:Cx}:Kc X (.type "tuple") (yB X.K):=Zn
end Nd
namespace DL
open PySem L2 Nd
def KL(K:PySem.W.Frag)(H:Hp)(a:Addr)(xs:List V):Prop :=
 (∃o,H a=some (.frz o (.lst xs)))\/∃(its:Array Value) (n:Nat),K.lookup a=some { cls:=.type "list",data:=.seq its n }/\its.size<=Aq/\Ep xs its.toList
def Yh:Nat->Ad
 | 0=>.none
 | n+1=>.tuple [Yh n]
def Ua(ks:List (List Int×Ad)):List (Ad×Ad):=(Yh 100,.none)::ks.map λp=>(Cn p.1,p.2)
def O3(ks:List (Int×Ad)):List (Ad×Ad):=(Yh 100,.bool true)::ks.map λp=>(.int p.1,p.2)
def uW:List (Ad×Ad)->Bool
 | (_,.none)::_=>true
 | _=>false
def o7(a:Addr)(ks:List (List Int×Ad)):List (Ad×Ad):=(Yh 100,.int a)::ks.map λp=>(Cn p.1,p.2)
def Jy(w:List Int):List Iy:=w.map Qs
mutual
inductive RdF (K:PySem.W.Frag) (H:Hp):V->Ad->List Addr->Prop
 | non:RdF K H .non .none []
 | bl (b:Bool):RdF K H (.bl b) (.bool b) []
 | int (i:Int):RdF K H (.int i) (.int i) []
 | str (x:Str):RdF K H (.str x) (.str x) []
 | lst {a:Addr} {xs:List V} {ds:List Ad} {F:List Addr}:H a=some (.lst xs)->ds.length<=Aq->RdFs K H xs ds F->RdF K H (.ref a) (.list ds) (a::F)
 | tup {a:Addr} {xs:List V} {ds:List Ad} {F:List Addr}:H a=some (.tup xs)->ds.length<=Aq->RdFs K H xs ds F->RdF K H (.ref a) (.tuple ds) F
 | dic {a:Addr} {kv:List (List Iy×V)} {ks:List (List Int×Ad)}:H a=some (.dT kv)->kv.map (·.1)=ks.map (λp=>Jy p.1)->RdFs K H (kv.map (·.2)) (ks.map (·.2)) []->RdF K H (.ref a) (.dict (Ua ks)) [a]
 | dik {a:Addr} {kv:List (Iy×V)} {ks:List (Int×Ad)}:H a=some (.dK kv)->kv.map (·.1)=ks.map (λp=>(Qs p.1:Iy))->RdFs K H (kv.map (·.2)) (ks.map (·.2)) []->RdF K H (.ref a) (.dict (O3 ks)) [a]
 | dnm {a:Addr} {kv:List (List Iy×V)} {ks:List (List Int×Ad)}:H a=some (.dT kv)->kv.map (·.1)=ks.map (λp=>Jy p.1)->RdFs K H (kv.map (·.2)) (ks.map (·.2)) []->RdF K H (.ref a) (.dict (o7 a ks)) [a]
inductive RdFs (K:PySem.W.Frag) (H:Hp):List V->List Ad->List Addr->Prop
 | nil:RdFs K H [] [] []
 | cons {x:V} {d:Ad} {xs:List V} {ds:List Ad} {F G:List Addr}:RdF K H x d F->RdFs K H xs ds G->RdFs K H (x::xs) (d::ds) (F++G)
end
def U1(o:HO):Prop:=(∃xs,o=.tup xs)\/∃ob u,o=.frz ob u
def Kp(F:List Addr)(H H':Hp):Prop:=∀b o,H b=some o->(b∈F\/U1 o)->H' b=some o
theorem Kp.of{F:List Addr}{H H':Hp}(s:Kt H H'):Kp F H H':=λb o e _=>s b o e
theorem Kp.sub{F G:List Addr}{H H':Hp}(k:Kp F H H')(h:∀a∈G,a∈F):Kp G H H':=λb o e z=>k b o e (z.imp (h b) id)
section
variable{K:PySem.W.Frag}{H H':Hp}
theorem KL.kp{a:Addr}{xs:List V}{F:List Addr}(h:KL K H a xs)(k:Kp F H H'):KL K H' a xs:=by
 rcases h with ⟨o,h⟩ | h
 ·exact .inl ⟨o,k _ _ h (.inr (.inr ⟨_,_,rfl⟩))⟩
 ·exact .inr h
theorem KL.sq{a:Addr}{xs:List V}(h:KL K H a xs):Kw K H a xs:=by
 rcases h with ⟨o,h⟩ | ⟨its,n,h,hz,r⟩
 ·exact .inl (.inr ⟨o,h⟩)
 ·exact .inr ⟨_,its,n,h,rfl,rfl,rfl,hz,r⟩
mutual
theorem RdF.kp:∀{v:V} {d:Ad} {F:List Addr},RdF K H v d F->Kp F H H'->RdF K H' v d F
 | _,_,_,.non,_=>.non
 | _,_,_,.bl b,_=>.bl b
 | _,_,_,.int i,_=>.int i
 | _,_,_,.str x,_=>.str x
 | _,_,_,.lst h l hs,k=>.lst (k _ _ h (.inl Aa)) l (RdFs.kp hs (k.sub λ_ z=>Ag _ z))
 | _,_,_,.tup h l hs,k=>.tup (k _ _ h (.inr (.inl ⟨_,rfl⟩))) l (RdFs.kp hs k)
 | _,_,_,.dic h e hs,k=>.dic (k _ _ h (.inl Aa)) e (RdFs.kp hs (k.sub λ_ z=>nomatch z))
 | _,_,_,.dik h e hs,k=>.dik (k _ _ h (.inl Aa)) e (RdFs.kp hs (k.sub λ_ z=>nomatch z))
 | _,_,_,.dnm h e hs,k=>.dnm (k _ _ h (.inl Aa)) e (RdFs.kp hs (k.sub λ_ z=>nomatch z))
theorem RdFs.kp:∀{v:List V} {d:List Ad} {F:List Addr},RdFs K H v d F->Kp F H H'->RdFs K H' v d F
 | _,_,_,.nil,_=>.nil
 | _,_,_,.cons h hs,k=>.cons (RdF.kp h (k.sub λ_ z=>Ay _ z)) (RdFs.kp hs (k.sub λ_ z=>Ap _ z))
end
theorem Mf:∀n,(Yh n).depth=n
 | 0=>by simp [Yh,Cy]
 | n+1=>by
  have:=Mf n
  simp only[Yh,Cy,Bp,this]
  omega
theorem qP{ks:List (Int×Ad)}:100<=(PyData.dict (O3 ks)).depth:=by
 have:=Mf 100
 simp only[O3,Cy,PyData.depthKv,this]
 omega
theorem sL{a:Addr}{ks:List (List Int×Ad)}:100<=(PyData.dict (o7 a ks)).depth:=by
 have:=Mf 100
 simp only[o7,Cy,PyData.depthKv,this]
 omega
theorem qB{ks:List (List Int×Ad)}:100<=(PyData.dict (Ua ks)).depth:=by
 have:=Mf 100
 simp only[Ua,Cy,PyData.depthKv,this]
 omega
mutual
theorem RdF.rd:∀{v:V} {d:Ad} {F:List Addr},RdF K H v d F->d.depth<=90->RdV K H v d
 | _,_,_,.non,_=>.non
 | _,_,_,.bl b,_=>.bl b
 | _,_,_,.int i,_=>.int i
 | _,_,_,.str x,_=>.str x
 | _,_,_,.lst h l hs,z=>.lst (Kw.of h) (RdFs.rd hs (by simp only[Cy] at z; omega))
 | _,_,_,.tup h l hs,z=>.tup (Rr.of h) (RdFs.rd hs (by simp only[Cy] at z; omega))
 | _,_,_,.dic h e hs,z=>absurd (Cg qB z) (by decide)
 | _,_,_,.dik h e hs,z=>absurd (Cg qP z) (by decide)
 | _,_,_,.dnm h e hs,z=>absurd (Cg sL z) (by decide)
theorem RdFs.rd:∀{v:List V} {d:List Ad} {F:List Addr},RdFs K H v d F->Bp d<=90->RdVs K H v d
 | _,_,_,.nil,_=>.nil
 | _,_,_,.cons h hs,z=>.cons (RdF.rd h (by simp only[Bp] at z; omega)) (RdFs.rd hs (by simp only[Bp] at z; omega))
end
mutual
theorem RdF.dom:∀{v:V} {d:Ad} {F:List Addr},RdF K H v d F->∀a∈F,∃o,H a=some o
 | _,_,_,.non,_,z=>nomatch z
 | _,_,_,.bl b,_,z=>nomatch z
 | _,_,_,.int i,_,z=>nomatch z
 | _,_,_,.str x,_,z=>nomatch z
 | _,_,_,.lst h l hs,b,z=>by
  rcases Aj.mp z with rfl | z
  ·exact ⟨_,h⟩
  ·exact RdFs.dom hs b z
 | _,_,_,.tup h l hs,b,z=>RdFs.dom hs b z
 | _,_,_,.dic h e hs,b,z=>⟨_,Ah.mp z▸h⟩
 | _,_,_,.dik h e hs,b,z=>⟨_,Ah.mp z▸h⟩
 | _,_,_,.dnm h e hs,b,z=>⟨_,Ah.mp z▸h⟩
theorem RdFs.dom:∀{v:List V} {d:List Ad} {F:List Addr},RdFs K H v d F->∀a∈F,∃o,H a=some o
 | _,_,_,.nil,_,z=>nomatch z
 | _,_,_,.cons h hs,b,z=>by
  rcases Bl.mp z with z | z
  ·exact RdF.dom h b z
  ·exact RdFs.dom hs b z
end
theorem RdFs.len:∀{v:List V} {d:List Ad} {F:List Addr},RdFs K H v d F->v.length=d.length
 | _,_,_,.nil=>rfl
 | _,_,_,.cons _ t=>by rw[Bt,Bt,RdFs.len t]
theorem RdFs.get:∀{v:List V} {d:List Ad} {F:List Addr} {i:Nat} {e:Ad},RdFs K H v d F->d[i]? = some e->∃x G,v[i]? = some x/\RdF K H x e G/\G.Sublist F
 | _,_,_,_,_,.nil,z=>by simp at z
 | _,_,_,0,_,.cons h _,z=>by
  simp at z
  subst z
  exact ⟨_,_,rfl,h,List.sublist_append_left _ _⟩
 | _,_,_,i+1,e,.cons _ t,z=>by
  obtain ⟨x,G,h1,h2,h3⟩:=RdFs.get (i:=i) (e:=e) t (by simpa using z)
  exact ⟨x,G,by simpa using h1,h2,h3.trans (Dw _ _)⟩
theorem RdFs.app:∀{v w:List V} {d e:List Ad} {F G:List Addr},RdFs K H v d F->RdFs K H w e G->RdFs K H (v++w) (d++e) (F++G)
 | _,_,_,_,_,_,.nil,h=>h
 | _,_,_,_,_,_,.cons a t,h=>by
  rw[Ck]
  exact .cons a (RdFs.app t h)
theorem RdFs.snoc{v:List V}{d:List Ad}{F G:List Addr}{x:V}{e:Ad}(t:RdFs K H v d F)(h:RdF K H x e G):RdFs K H (v++[x]) (d++[e]) (F++G):=by
 have:=t.app (.cons h .nil)
 rw[Ee] at this
 exact this
end
mutual
def imm:Ad->Bool
 | .list _=>false
 | .dict _=>false
 | .tuple xs=>Du xs
 | _=>true
def Du:List Ad->Bool
 | []=>true
 | x::xs=>imm x && Du xs
end
theorem jE:∀{xs:List Ad},Du xs=true↔∀x∈xs,imm x=true
 | []=>by simp [Du]
 | x::xs=>by simp [Du,jE (xs:=xs)]
theorem Ro{α:Type}{f:α->Ad}(h:∀a,imm (f a)=true)(l:List α):Du (l.map f)=true:=jE.mpr λx hx=>by
 obtain ⟨a,_,rfl⟩:=Bg.mp hx
 exact h a
theorem sX(ns:List Int):imm (Cn ns)=true:=by
 unfold Cn
 rw[imm]
 exact Ro (λ_=>by simp [imm]) ns
section
variable{K:PySem.W.Frag}{H H':Hp}
mutual
theorem RdF.imm:∀{v:V} {d:Ad} {F:List Addr},RdF K H v d F->DL.imm d=true->F=[]
 | _,_,_,.non,_=>rfl
 | _,_,_,.bl b,_=>rfl
 | _,_,_,.int i,_=>rfl
 | _,_,_,.str x,_=>rfl
 | _,_,_,.lst h l hs,k=>by simp [DL.imm] at k
 | _,_,_,.tup h l hs,k=>RdFs.imm hs (by simpa [DL.imm] using k)
 | _,_,_,.dic h e hs,k=>by simp [DL.imm] at k
 | _,_,_,.dik h e hs,k=>by simp [DL.imm] at k
 | _,_,_,.dnm h e hs,k=>by simp [DL.imm] at k
theorem RdFs.imm:∀{v:List V} {d:List Ad} {F:List Addr},RdFs K H v d F->Du d=true->F=[]
 | _,_,_,.nil,_=>rfl
 | _,_,_,.cons h hs,k=>by
  rw[Du,Bv] at k
  rw[RdF.imm h k.1,RdFs.imm hs k.2]
  rfl
end
end
inductive Md where
 | pk | sh | tp | ow
 deriving DecidableEq
inductive DV where
 | un
 | dat (m:Md) (d:Ad)
 | drw
 | dT (kvs:List (List Iy×Ad))
 | val (v:V)
 | scr (ns:List Int)
 | acc (ds:List Ad)
 | grd (Hc:Hp)
 | tpl (xs:List V)
structure DS where
 sl:List DV
 n:Nat
structure Ent where
 v:Option V
 x:DV
 F:List Addr
def Om:DV->Bool
 | .dat .pk _=>true
 | _=>false
def I0:DV->Bool
 | .drw=>true
 | _=>false
def yY:DV->Bool
 | .drw=>true
 | .acc _=>true
 | .dT _=>true
 | .grd _=>true
 | _=>false
def cells(e:Ent):List Addr:=match e.x with
 | .dat .ow _=>e.F
 | .dat .tp _=>e.F.take 1
 | .drw=>e.F
 | .dT _=>e.F
 | .acc _=>e.F.take 1
 | .grd _=>e.F
 | _=>[]
theorem Gb(e:Ent):∀a∈cells e,a∈e.F:=by
 obtain ⟨v,x,F⟩:=e
 intro a h
 cases x with
 | un=>exact nomatch h
 | val _=>exact nomatch h
 | scr _=>exact nomatch h
 | drw=>exact h
 | dT _=>exact h
 | grd _=>exact h
 | tpl _=>exact nomatch h
 | acc _=>exact (Kn _ _).subset h
 | dat m d =>
  cases m with
  | pk=>exact nomatch h
  | sh=>exact nomatch h
  | tp=>exact (Kn _ _).subset h
  | ow=>exact h
def Xg(e f:Ent):Prop:=((Om f.x=false\/yY e.x=true)->∀a∈cells e,a∉f.F)/\((Om e.x=false\/yY f.x=true)->∀a∈cells f,a∉e.F)
theorem Xg.symm{e f:Ent}(h:Xg e f):Xg f e:=⟨h.2,h.1⟩
def Ip(K:PySem.W.Frag)(H:Hp)(n:Nat)(e:Ent):Prop:=match e.x with
 | .un=>e.F=[]
 | .dat m d=>∃v,e.v=some v/\RdF K H v d e.F/\(m=.ow->e.F.Nodup)/\(m=.tp->∀a l,e.F=a::l->a∉l)
 | .drw=>∃dr c k f,e.v=some (.ref dr)/\e.F=[dr]/\Zk H dr c k f/\0<=k/\k<=(n:Int)
 | .dT kvs=>∃a ks,e.v=some (.ref a)/\e.F=[a]/\H a=some (.dT ks)/\ks.map (·.1)=kvs.map (·.1)/\RdFs K H (ks.map (·.2)) (kvs.map (·.2)) []
 | .val v=>e.v=some v/\e.F=[]
 | .scr ns=>∃a,e.v=some (.ref a)/\e.F=[]/\KL K H a (ns.map V.int)/\ns.length<=63
 | .acc ds=>∃a xs G,e.v=some (.ref a)/\e.F=a::G/\H a=some (.lst xs)/\RdFs K H xs ds G/\ds.length<=Aq/\a∉G
 | .grd Hc=>∀a∈e.F,∃o,Hc a=some o/\H a=some o
 | .tpl xs=>∃t,e.v=some (.ref t)/\H t=some (.tup xs)/\e.F=[]
structure At(K:PySem.W.Frag)(H0:Hp)(X:Addr->Prop)(n:Nat)(E:List Ent)(H:Hp):Prop where
 ok:∀e∈E,Ip K H n e
 sep:E.Pairwise Xg
 new:∀e∈E,∀a∈cells e,H0 a=none\/(X a/\I0 e.x=true)
 same:∀b o,¬ X b->H0 b=some o->H b=some o
 dom:∀b o,H0 b=some o->∃o',H b=some o'
 xd:∀b,X b->H0 b≠none/\∃c k f,Zk H b c k f/\0<=k/\k<=(n:Int)
section
variable{K:PySem.W.Frag}{H0 H H':Hp}{X:Addr->Prop}{n n':Nat}{E E' S T:List Ent}{e f:Ent}
theorem At.perm(h:At K H0 X n E H)(p:E.Perm E'):At K H0 X n E' H :=
 ⟨λe he=>h.ok e (p.mem_iff.mpr he),(p.pairwise_iff λ{a b}=>Xg.symm).mp h.sep,λe he=>h.new e (p.mem_iff.mpr he),h.same,h.dom,h.xd⟩
theorem At.sub(h:At K H0 X n E H)(p:E'.Sublist E):At K H0 X n E' H :=
 ⟨λe he=>h.ok e (p.subset he),h.sep.sublist p,λe he=>h.new e (p.subset he),h.same,h.dom,h.xd⟩
theorem At.drop(h:At K H0 X n (S++e::T) H):At K H0 X n (S++T) H:=h.sub ((Ef S).append (Cz _ _))
theorem sH:(S++e::T).Perm (e::(S++T)):=Jb
theorem At.mid(h:At K H0 X n (S++e::T) H):At K H0 X n (e::(S++T)) H:=h.perm sH
theorem At.tomid(h:At K H0 X n (e::(S++T)) H):At K H0 X n (S++e::T) H:=h.perm sH.symm
theorem Ip.dom(h:Ip K H n e):∀a∈e.F,∃o,H a=some o:=by
 obtain ⟨v,x,F⟩:=e
 intro a ha
 cases x with
 | un=>rw[show F=[] from h] at ha; cases ha
 | val _=>rw[show F=[] from h.2] at ha; cases ha
 | scr _ =>
  obtain ⟨_,_,hF,_⟩:=h
  rw[show F=[] from hF] at ha; cases ha
 | dat m d =>
  obtain ⟨w,_,h,_⟩:=h
  obtain ⟨xs,z⟩:=h.dom a ha
  exact ⟨_,z⟩
 | drw =>
  obtain ⟨dr,c,k,f,_,hF,h,_⟩:=h
  rw[show F=[dr] from hF] at ha
  rw[Ah.mp ha]
  exact ⟨_,h⟩
 | grd Hc =>
  obtain ⟨o,_,z⟩:=h a ha
  exact ⟨o,z⟩
 | tpl xs =>
  obtain ⟨_,_,_,hF⟩:=h
  rw[show F=[] from hF] at ha; cases ha
 | dT kvs =>
  obtain ⟨b,ks,_,hF,h,_⟩:=h
  rw[show F=[b] from hF] at ha
  rw[Ah.mp ha]
  exact ⟨_,h⟩
 | acc ds =>
  obtain ⟨b,ks,G,_,hF,h,hr,_⟩:=h
  rw[show F=b::G from hF] at ha
  rcases Aj.mp ha with rfl | ha
  ·exact ⟨_,h⟩
  ·obtain ⟨xs,z⟩:=hr.dom a ha
   exact ⟨_,z⟩
theorem Ip.kp(h:Ip K H n e)(k:Kp e.F H H')(hn:n<=n'):Ip K H' n' e:=by
 obtain ⟨v,x,F⟩:=e
 cases x with
 | un=>exact h
 | val _=>exact h
 | scr _ =>
  obtain ⟨a,h1,h2,h3,h4⟩:=h
  exact ⟨a,h1,h2,h3.kp k,h4⟩
 | dat m d =>
  obtain ⟨w,h1,h2,h3⟩:=h
  exact ⟨w,h1,h2.kp k,h3⟩
 | drw =>
  obtain ⟨dr,c,kk,f,h1,hF,h2,h3,h4⟩:=h
  have hF':F=[dr]:=hF
  subst hF'
  exact ⟨dr,c,kk,f,h1,rfl,k _ _ h2 (.inl Aa),h3,by omega⟩
 | tpl xs =>
  obtain ⟨t,h1,h2,h3⟩:=h
  exact ⟨t,h1,k _ _ h2 (.inr (.inl ⟨_,rfl⟩)),h3⟩
 | grd Hc =>
  intro a ha
  obtain ⟨o,h1,h2⟩:=h a ha
  exact ⟨o,h1,k _ _ h2 (.inl ha)⟩
 | dT kvs =>
  obtain ⟨b,ks,h1,hF,h2,h3,h4⟩:=h
  have hF':F=[b]:=hF
  subst hF'
  exact ⟨b,ks,h1,rfl,k _ _ h2 (.inl Aa),h3,h4.kp (k.sub λ_ z=>nomatch z)⟩
 | acc ds =>
  obtain ⟨b,ks,G,h1,hF,h2,h3,h4⟩:=h
  have hF':F=b::G:=hF
  subst hF'
  exact ⟨b,ks,G,h1,rfl,k _ _ h2 (.inl Aa),h3.kp (k.sub λ_ z=>Ag _ z),h4⟩
theorem At.grow(h:At K H0 X n E H)(s:Kt H H')(hn:n<=n'):At K H0 X n' E H' :=
 ⟨λe he=>(h.ok e he).kp (Kp.of s) hn,h.sep,h.new,λb o nx e=>s _ _ (h.same b o nx e),λb o e=>let ⟨o',q⟩:=h.dom b o e; ⟨o',s _ _ q⟩,λb hb=>let ⟨z,c,k,f,h1,h2,h3⟩:=h.xd b hb; ⟨z,c,k,f,s _ _ h1,h2,by omega⟩⟩
theorem At.free(h:At K H0 X n E H){a:Addr}(ha:H a=none):∀e∈E,a∉e.F:=λe he z=>by
 obtain ⟨o,q⟩:=(h.ok e he).dom a z
 rw[ha] at q; cases q
theorem At.push(h:At K H0 X n E H)(ok:Ip K H n e)(sep:∀f∈E,Xg e f)(new:∀a∈cells e,H0 a=none\/(X a/\I0 e.x=true)):At K H0 X n (e::E) H :=
 ⟨λg hg=>by
  rcases Aj.mp hg with rfl | hg
  ·exact ok
  ·exact h.ok g hg,Bh.mpr ⟨sep,h.sep⟩,λg hg=>by
  rcases Aj.mp hg with rfl | hg
  ·exact new
  ·exact h.new g hg,h.same,h.dom,h.xd⟩
theorem At.new0(h:At K H0 X n E H){p:Addr}(hp:H p=none):H0 p=none:=by
 cases q:H0 p with
 | none=>rfl
 | some o =>
  obtain ⟨o',z⟩:=h.dom p o q
  rw[hp] at z; cases z
theorem wW{v:Option V}{m:Md}{d:Ad}:Xg ⟨v,.dat m d,[]⟩ f:=by
 refine ⟨λ_ a ha=>?_,λ_ a _=>Ba⟩
 have:=Gb _ a ha
 cases this
theorem At.pushI(h:At K H0 X n (S++T) H){v:V}{m:Md}{d:Ad}(r:RdF K H v d []):At K H0 X n (S++⟨some v,.dat m d,[]⟩::T) H :=
 (h.push (e:=⟨some v,.dat m d,[]⟩) ⟨v,rfl,r,λ_=>Ct,λ_ a l z=>nomatch z⟩ (λf _=>wW) (λa ha=>nomatch Gb _ a ha)).tomid
def wk:Md->Md->Bool
 | _,.pk=>true
 | .pk,_=>false
 | _,.sh=>true
 | .sh,_=>false
 | _,.tp=>true
 | .tp,.ow=>false
 | .ow,.ow=>true
theorem eM{v:Option V}{m m':Md}{d:Ad}{F:List Addr}(w:wk m m'=true):∀a∈cells ⟨v,.dat m' d,F⟩,a∈cells ⟨v,.dat m d,F⟩:=by
 intro a ha
 cases m <;> cases m' <;> first | exact absurd w (by decide) | exact ha | exact absurd ha Ba | exact (Kn 1 F).subset ha
theorem lY{α:Type}{F:List α}(h:F.Nodup):∀a l,F=a::l->a∉l:=λa l e=>by
 subst e
 exact (Ci.mp h).1
theorem Ip.wk{v:Option V}{m m':Md}{d:Ad}{F:List Addr}(w:wk m m'=true)(h:Ip K H n ⟨v,.dat m d,F⟩):Ip K H n ⟨v,.dat m' d,F⟩:=by
 obtain ⟨u,h1,h2,h3,h4⟩:=h
 refine ⟨u,h1,h2,λe=>?_,λe=>?_⟩
 ·subst e
  cases m <;> first | exact absurd w (by decide) | exact h3 rfl
 ·subst e
  cases m <;> first | exact absurd w (by decide) | exact h4 rfl | exact lY (h3 rfl)
theorem Xg.wk{v:Option V}{m m':Md}{d:Ad}{F:List Addr}(w:wk m m'=true)(h:Xg ⟨v,.dat m d,F⟩ f):Xg ⟨v,.dat m' d,F⟩ f:=by
 refine ⟨λhp a ha=>?_,λhp a ha=>?_⟩
 ·rcases hp with hp | hp
  ·exact h.1 (.inl hp) a (eM w a ha)
  ·cases hp
 ·rcases hp with hp | hp
  ·refine h.2 (.inl ?_) a ha
   cases m <;> cases m' <;> first | rfl | exact absurd w (by decide) | exact absurd hp (by show ¬ (true=false); decide)
  ·exact h.2 (.inr hp) a ha
theorem At.wk{v:Option V}{m m':Md}{d:Ad}{F:List Addr}(w:wk m m'=true)(h:At K H0 X n (⟨v,.dat m d,F⟩::E) H):At K H0 X n (⟨v,.dat m' d,F⟩::E) H:=by
 have hs:=Bh.mp h.sep
 refine (h.sub (Cz _ _)).push ((h.ok _ Aa).wk w) (λf hf=>(hs.1 f hf).wk w) λa ha=>?_
 rcases h.new _ Aa a (eM w a ha) with z | z
 ·exact .inl z
 ·cases z.2
end
abbrev DE:=DS->(DV->DS->Prop)->Prop
abbrev DT:=DS->(Bool->DS->Prop)->Prop
abbrev DA:=DS->(List DV->DS->Prop)->Prop
structure DEnds where
 nx:DS->Prop
 rt:DV->DS->Prop
 bk:DS->Prop:=λ_=>False
 ct:DS->Prop:=λ_=>False
abbrev DB:=DEnds->DS->Prop
abbrev DG:=DV->DS->(DS->Prop)->Prop
def vs(S:List Ent):L2.St:=S.map Ent.v
def Sl(S:List Ent)(δ:DS):Prop:=S.map Ent.x=δ.sl
section
variable(K:PySem.W.Frag)
def LE(de:DE):TE:=λσ H Q=>∃(H0:Hp) (X:Addr->Prop) (S T:List Ent) (δ:DS) (P:DV->DS->Prop),vs S=σ/\Sl S δ/\At K H0 X δ.n (S++T) H/\de δ P /\
 ∀x δ' v F S' H',vs S'=σ->Sl S' δ'->At K H0 X δ'.n (S'++⟨some v,x,F⟩::T) H'->P x δ'->Q v H'
def LT(dt:DT):TT:=λσ H Q=>∃(H0:Hp) (X:Addr->Prop) (S T:List Ent) (δ:DS) (P:Bool->DS->Prop),vs S=σ/\Sl S δ/\At K H0 X δ.n (S++T) H/\dt δ P /\
 ∀b δ' S' H',vs S'=σ->Sl S' δ'->At K H0 X δ'.n (S'++T) H'->P b δ'->Q b H'
def LA(da:DA):TA:=λσ H Q=>∃(H0:Hp) (X:Addr->Prop) (S T:List Ent) (δ:DS) (P:List DV->DS->Prop),vs S=σ/\Sl S δ/\At K H0 X δ.n (S++T) H/\da δ P /\
 ∀xs δ' As us S' H',vs S'=σ->Sl S' δ'->As.map Ent.x=xs->As.map Ent.v=us.map some->At K H0 X δ'.n (S'++(As++T)) H'->P xs δ'->Q us H'
def LS(db:DB):TS:=λD σ H=>∃(H0:Hp) (X:Addr->Prop) (S T:List Ent) (δ:DS) (P:DEnds),vs S=σ/\Sl S δ/\(∀e∈T,Om e.x=false)/\At K H0 X δ.n (S++T) H/\db P δ /\
 (∀δ' S' H',Sl S' δ'->At K H0 X δ'.n (S'++T) H'->P.nx δ'->D.nx (vs S') H') /\
 (∀x δ' v F S' H',Sl S' δ'->At K H0 X δ'.n (S'++⟨some v,x,F⟩::T) H'->P.rt x δ'->D.rt v H') /\
 (∀δ' S' H',Sl S' δ'->At K H0 X δ'.n (S'++T) H'->P.bk δ'->D.bk (vs S') H') /\
 (∀δ' S' H',Sl S' δ'->At K H0 X δ'.n (S'++T) H'->P.ct δ'->D.ct (vs S') H')
def LG(dg:DG):TG:=λv σ H Q=>∃(H0:Hp) (X:Addr->Prop) (S T:List Ent) (δ:DS) (x:DV) (F:List Addr) (P:DS->Prop),vs S=σ/\Sl S δ/\At K H0 X δ.n (S++⟨some v,x,F⟩::T) H/\dg x δ P /\
 ∀δ' S' H',Sl S' δ'->At K H0 X δ'.n (S'++T) H'->P δ'->Q (vs S') H'
end
abbrev Fi(X:Cx)(e:Expr)(de:DE):Prop:=PE X e (LE X.K de)
abbrev oF(X:Cx)(e:Expr)(dt:DT):Prop:=PT X e (LT X.K dt)
abbrev N4(X:Cx)(e:Expr)(dt:DT):Prop:=PW X e (LT X.K dt)
abbrev lS(X:Cx)(es:List Expr)(da:DA):Prop:=PA X es (LA X.K da)
abbrev oM(X:Cx)(st:Stmt)(db:DB):Prop:=PS X st (LS X.K db)
abbrev Yr(X:Cx)(st:List Stmt)(db:DB):Prop:=jL X st (LS X.K db)
abbrev S9(X:Cx)(tg:Expr)(dg:DG):Prop:=PG X tg (LG X.K dg)
theorem PE.imp{X:Cx}{e:Expr}{t t':TE}(h:PE X e t)(k:∀σ H Q,t' σ H Q->t σ H Q):PE X e t':=λpins s σ H Q I q=>h pins s σ H Q I (k σ H Q q)
theorem PT.imp{X:Cx}{e:Expr}{t t':TT}(h:PT X e t)(k:∀σ H Q,t' σ H Q->t σ H Q):PT X e t':=λpins s σ H Q I q=>h pins s σ H Q I (k σ H Q q)
theorem PW.imp{X:Cx}{e:Expr}{t t':TT}(h:PW X e t)(k:∀σ H Q,t' σ H Q->t σ H Q):PW X e t':=λwh pins s σ H Q I q=>h wh pins s σ H Q I (k σ H Q q)
theorem PA.imp{X:Cx}{e:List Expr}{t t':TA}(h:PA X e t)(k:∀σ H Q,t' σ H Q->t σ H Q):PA X e t':=λpos pins s σ H Q I q=>h pos pins s σ H Q I (k σ H Q q)
theorem PG.imp{X:Cx}{e:Expr}{t t':TG}(h:PG X e t)(k:∀v σ H Q,t' v σ H Q->t v σ H Q):PG X e t':=λpins s σ H v u Q I r q=>h pins s σ H v u Q I r (k v σ H Q q)
section
variable{K:PySem.W.Frag}{H:Hp}{v:V}{F:List Addr}
theorem RdF.int_inv{i:Int}(h:RdF K H v (.int i) F):v=.int i/\F=[]:=by cases h; exact ⟨rfl,rfl⟩
theorem RdF.bl_inv{i:Bool}(h:RdF K H v (.bool i) F):v=.bl i/\F=[]:=by cases h; exact ⟨rfl,rfl⟩
theorem RdF.str_inv{i:Str}(h:RdF K H v (.str i) F):v=.str i/\F=[]:=by cases h; exact ⟨rfl,rfl⟩
theorem RdF.list_inv{ds:List Ad}(h:RdF K H v (.list ds) F):∃a xs G,v=.ref a/\H a=some (.lst xs)/\RdFs K H xs ds G/\F=a::G/\ds.length<=Aq:=by
 cases h with
 | lst h l hs=>exact ⟨_,_,_,rfl,h,hs,rfl,l⟩
theorem RdF.tup_inv{ds:List Ad}(h:RdF K H v (.tuple ds) F):∃a xs,v=.ref a/\H a=some (.tup xs)/\RdFs K H xs ds F/\ds.length<=Aq:=by
 cases h with
 | tup h l hs=>exact ⟨_,_,rfl,h,hs,l⟩
end
section
variable{K:PySem.W.Frag}{H0 H H':Hp}{X:Addr->Prop}{n:Nat}{E S T:List Ent}{v:V}{m:Md}{d:Ad}{F:List Addr}
theorem At.told(h:At K H0 X n E H)(he:⟨some v,.dat m d,F⟩∈E):RdF K H v d F:=by
 obtain ⟨w,e1,h1,_⟩:=h.ok _ he
 cases e1
 exact h1
theorem mem_mid{e:Ent}:e∈S++e::T:=Ap _ Aa
theorem Er{e f:Ent}:f∈S++e::f::T:=Ap _ (Ag _ Aa)
theorem At.drop2{e f:Ent}(h:At K H0 X n (S++e::f::T) H):At K H0 X n (S++T) H:=h.drop.drop
theorem At.dropL{As:List Ent}(h:At K H0 X n (S++(As++T)) H):At K H0 X n (S++T) H:=h.sub ((Ef S).append (Dw As T))
end
def bT:Md->Md
 | .ow=>.pk
 | .tp=>.pk
 | m=>m
def i9(i:Nat):DE:=λδ P=>match δ.sl[i]? with
 | some (.dat m d)=>P (.dat (bT m) d) δ
 | _=>False
def dC(d:Ad):DE:=λδ P=>P (.dat .ow d) δ
theorem Je{S:List Ent}{δ:DS}{i:Nat}{x:DV}(h:Sl S δ)(e:δ.sl[i]? = some x):∃ent,S[i]? = some ent/\ent.x=x:=by
 unfold Sl at h
 rw[<- h,Az] at e
 cases q:S[i]? with
 | none=>rw[q] at e; cases e
 | some ent=>rw[q] at e; exact ⟨ent,rfl,Bj e⟩
theorem Lw{S:List Ent}{i:Nat}{e:Ent}(h:S[i]? = some e):(vs S)[i]? = some e.v:=by
 unfold vs
 rw[Az,h]
 rfl
theorem At.look{K:PySem.W.Frag}{H0 H:Hp}{X:Addr->Prop}{n:Nat}{S T:List Ent}{u:Option V}{v:V}{m:Md}{d:Ad}{F:List Addr}(h:At K H0 X n (S++T) H)(he:⟨u,.dat m d,F⟩∈S)(hu:u=some v):At K H0 X n (S++⟨some v,.dat (bT m) d,F⟩::T) H:=by
 subst hu
 obtain ⟨S1,S2,rfl⟩:=List.append_of_mem he
 have hp:((S1++⟨some v,.dat m d,F⟩::S2)++T).Perm (⟨some v,.dat m d,F⟩::(S1++(S2++T))):=by
  rw[Ck,He]
  exact Jb
 have h2:=h.perm hp
 have hs:=Bh.mp h2.sep
 refine (h.push (e:=⟨some v,.dat (bT m) d,F⟩) ?_ (λf hf=>?_) λa ha=>?_).tomid
 ·obtain ⟨w,e1,h1,_⟩:=h2.ok _ Aa
  refine ⟨w,e1,h1,λz=>?_,λz=>?_⟩ <;> cases m <;> cases z
 ·refine ⟨λ_ a ha=>?_,λhq a ha=>?_⟩
  ·cases m <;> exact nomatch ha
  ·rcases Aj.mp (hp.mem_iff.mp hf) with rfl | hf
   ·rcases hq with hq | hq
    ·cases m <;> first | cases hq; done | exact nomatch ha
    ·cases hq
   ·refine (hs.1 f hf).2 ?_ a ha
    rcases hq with hq | hq
    ·refine .inl ?_
     cases m <;> first | rfl | exact hq
    ·exact .inr hq
 ·cases m <;> exact nomatch ha
section
variable{X:Cx}{e:Expr}
theorem Ar{i:Nat}(h:PE X e (Zw i)):Fi X e (i9 i):=by
 refine PE.imp h λσ H Q h=>?_
 obtain ⟨H0,Y,S,T,δ,P,rfl,hS,hA,hd,k⟩:=h
 unfold i9 at hd
 split at hd
 ·rename_i m d e1
  obtain ⟨ent,e2,e3⟩:=Je hS e1
  have hm:ent∈S:=Au e2
  obtain ⟨u,x,F⟩:=ent
  subst e3
  obtain ⟨v,hv,_⟩:=hA.ok _ (Ay _ hm)
  refine ⟨v,by rw[Lw e2]; exact congrArg some hv,k _ δ v F S H rfl hS (hA.look hm hv) hd⟩
 ·exact hd.elim
theorem qS{v:V}{d:Ad}(h:PE X e (tC v))(r:∀H,RdF X.K H v d []):Fi X e (dC d):=by
 refine PE.imp h λσ H Q h=>?_
 obtain ⟨H0,Y,S,T,δ,P,rfl,hS,hA,hd,k⟩:=h
 exact k _ δ v [] S H rfl hS (hA.pushI (r H)) hd
theorem Di{i j pos}:Fi X (.Constant (.int i) j pos) (dC (.int i)):=qS Cw λ_=>.int i
theorem aM{i j pos}:Fi X (.Constant (.bool i) j pos) (dC (.bool i)):=qS qL λ_=>.bl i
end
def J2(de:DE):DE:=λδ P=>de δ λx δ'=>match x with
 | .dat _ d=>imm d=true/\P (.dat .ow d) δ'
 | _=>False
theorem dU{X:Cx}{e:Expr}{de:DE}(h:Fi X e de):Fi X e (J2 de):=by
 refine PE.imp h λσ H Q h=>?_
 obtain ⟨H0,Y,S,T,δ,P,rfl,hS,hA,hd,k⟩:=h
 refine ⟨H0,Y,S,T,δ,_,rfl,hS,hA,hd,λx δ' v F S' H' e1 e2 hA' p=>?_⟩
 cases x with
 | dat m d =>
  have r:=hA'.told mem_mid
  obtain rfl:=r.imm p.1
  exact k _ δ' v [] S' H' e1 e2 (hA'.drop.pushI r) p.2
 | _=>exact p.elim
def qE(i:Nat):DE:=λδ P=>match δ.sl[i]? with
 | some (.dat m d)=>P (.dat m d) ⟨δ.sl.set i .un,δ.n⟩
 | _=>False
theorem Yc{α:Type}:∀{l:List α} {i:Nat} {x y:α},l[i]? = some x->(y::l).Perm (x::l.set i y)
 | [],i,x,y,h=>by simp at h
 | z::l,0,x,y,h=>by
  simp at h
  subst h
  exact Hr _ _ _
 | z::l,i+1,x,y,h=>by
  have ih:=Yc (l:=l) (i:=i) (x:=x) (y:=y) (by simpa using h)
  rw[List.set_cons_succ]
  exact (Hr z y l).trans ((ih.cons z).trans (Hr x z _))
theorem dF{X:Cx}{e:Expr}{i:Nat}(h:PE X e (Zw i)):Fi X e (qE i):=by
 refine PE.imp h λσ H Q h=>?_
 obtain ⟨H0,Y,S,T,δ,P,rfl,hS,hA,hd,k⟩:=h
 unfold qE at hd
 split at hd
 ·rename_i m d e1
  obtain ⟨ent,e2,e3⟩:=Je hS e1
  have hm:ent∈S:=Au e2
  obtain ⟨u,x,F⟩:=ent
  subst e3
  obtain ⟨v,hv,hv2⟩:=hA.ok _ (Ay _ hm)
  have hv':u=some v:=hv
  subst hv'
  refine ⟨v,by rw[Lw e2],k _ _ v F (S.set i ⟨some v,.un,[]⟩) H ?_ ?_ ?_ hd⟩
  ·unfold vs
   rw[Hj]
   apply Gu
   intro j
   rw[Ko]
   split
   ·rename_i hij
    subst hij
    rw[Az,e2]
    split
    ·rfl
    ·rename_i hj
     rw[Ab] at hj
     exact absurd (Ak.mp e2).1 hj
   ·rfl
  ·unfold Sl at hS ⊢
   rw[Hj,hS]
  ·have hp:=hA.push (e:=⟨some v,.un,[]⟩) (show Ip X.K H δ.n ⟨some v,.un,[]⟩ from rfl) (λf _=>⟨λ_ a ha=>(nomatch ha),λ_ a _=>Ba⟩) (λa ha=>(nomatch ha))
   have p1:(⟨some v,.un,[]⟩::(S++T)).Perm ((S.set i ⟨some v,.un,[]⟩)++⟨some v,.dat m d,F⟩::T):=by
    rw[<- He]
    exact ((Yc (y:=(⟨some v,.un,[]⟩ : Ent)) e2).append_right T).trans (by rw[He]; exact List.perm_middle.symm)
   exact hp.perm p1
 ·exact hd.elim
abbrev D2:=DV->DV->(DV->Prop)->Prop
def jY(K:PySem.W.Frag)(r:R2)(rd:D2):Prop:=∀(H0:Hp) (X:Addr->Prop) (n:Nat) (S T:List Ent) (x y:DV) (v w:V) (F G:List Addr) (H:Hp) (Q:VK) (P:DV->Prop),
 At K H0 X n (S++⟨some w,y,G⟩::⟨some v,x,F⟩::T) H->rd x y P->(∀z u F' H',At K H0 X n (S++⟨some u,z,F'⟩::T) H'->P z->Q u H')->r v w H Q
def Wo(rd:D2)(da db:DE):DE:=λδ P=>da δ λx δ1=>db δ1 λy δ2=>rd x y λz=>P z δ2
theorem eY{K:PySem.W.Frag}{r:R2}{rd:D2}{da db:DE}(o:jY K r rd):∀σ H Q,LE K (Wo rd da db) σ H Q->E7 r (LE K da) (LE K db) σ H Q:=by
 intro σ H Q h
 obtain ⟨H0,Y,S,T,δ,P,rfl,hS,hA,hd,k⟩:=h
 refine ⟨H0,Y,S,T,δ,_,rfl,hS,hA,hd,λx δ1 v F S1 H1 e1 e2 hA1 p1=>?_⟩
 refine ⟨H0,Y,S1,⟨some v,x,F⟩::T,δ1,_,e1,e2,hA1,p1,λy δ2 w G S2 H2 e3 e4 hA2 p2=>?_⟩
 exact o H0 Y δ2.n S2 T x y v w F G H2 Q _ hA2 p2 λz u F' H' hA3 p3=>k z δ2 u F' S2 H' e3 e4 hA3 p3
section
variable{X:Cx}{a b:Expr}{da db:DE}{pos:Pos}{r:R2}{rd:D2}
theorem Sn{op:Operator}(ho:Vb X (Hl op) r)(o:jY X.K r rd)(ha:Fi X a da)(hb:Fi X b db):Fi X (.BinOp a op b pos) (Wo rd da db):=PE.imp (Eh ho ha hb) (eY o)
theorem iH{op:CmpOp}(ho:Vb X (Iv op) r)(o:jY X.K r rd)(ha:Fi X a da)(hb:Fi X b db)(hm:Gj op b=false):Fi X (.Compare a [op] [b] pos) (Wo rd da db):=PE.imp (vT ho ha hb hm) (eY o)
theorem F5(ho:vK X r)(o:jY X.K r rd)(ha:Fi X a da)(hb:Fi X b db)(hs:dI b):Fi X (.Subscript a b pos) (Wo rd da db):=PE.imp (Nf ho ha hb hs) (eY o)
end
def j8(C:Int->Int->Prop)(g:Int->Int->Ad):D2:=λx y P=>match x,y with
 | .dat _ (.int i),.dat _ (.int j)=>C i j/\P (.dat .ow (g i j))
 | _,_=>False
def cS(g:Int->Int->Ad):D2:=λx y P=>match x,y with
 | .dat _ (.int i),.dat _ (.int j)=>P (.dat .ow (g i j))
 | _,_=>False
section
variable{K:PySem.W.Frag}
theorem uY{C:Int->Int->Prop}{g:Int->Int->V}{g':Int->Int->Ad}(h:∀i j H,RdF K H (g i j) (g' i j) []):jY K (rI C g) (j8 C g'):=by
 intro H0 X n S T x y v w F G H Q P hA hd k
 unfold j8 at hd
 split at hd
 ·obtain ⟨rfl,_⟩:=(hA.told Er).int_inv
  obtain ⟨rfl,_⟩:=(hA.told mem_mid).int_inv
  exact ⟨_,_,rfl,rfl,hd.1,k _ _ [] H (hA.drop2.pushI (h _ _ H)) hd.2⟩
 ·exact hd.elim
theorem aV{g:Int->Int->V}{g':Int->Int->Ad}(h:∀i j H,RdF K H (g i j) (g' i j) []):jY K (uK g) (cS g'):=by
 intro H0 X n S T x y v w F G H Q P hA hd k
 unfold cS at hd
 split at hd
 ·obtain ⟨rfl,_⟩:=(hA.told Er).int_inv
  obtain ⟨rfl,_⟩:=(hA.told mem_mid).int_inv
  exact ⟨_,_,rfl,rfl,k _ _ [] H (hA.drop2.pushI (h _ _ H)) hd⟩
 ·exact hd.elim
end
abbrev rdAdd:D2:=cS λi j=>.int (i+j)
abbrev rdSub:D2:=cS λi j=>.int (i - j)
abbrev rdMul:D2:=j8 i7 λi j=>.int (i * j)
abbrev rdDiv:D2:=j8 i5 λi j=>.int (i / j)
abbrev rdMod:D2:=j8 (λ_ j=>0<j) λi j=>.int (i % j)
abbrev rdPow:D2:=j8 q9 λi j=>.int (i ^ j.toNat)
abbrev rdXor:D2:=cS λi j=>.int (Builtin.bitXor i j)
abbrev rdLt:D2:=cS λi j=>.bool (decide (i<j))
abbrev rdGt:D2:=cS λi j=>.bool (decide (j<i))
abbrev rdGe:D2:=cS λi j=>.bool (decide (j<=i))
section
variable{X:Cx}{a b:Expr}{da db:DE}{pos:Pos}
theorem Lq(ha:Fi X a da)(hb:Fi X b db):Fi X (.BinOp a .Add b pos) (Wo rdAdd da db):=Sn Nr (aV λ_ _ _=>.int _) ha hb
theorem iY(ha:Fi X a da)(hb:Fi X b db):Fi X (.BinOp a .Sub b pos) (Wo rdSub da db):=Sn zL (aV λ_ _ _=>.int _) ha hb
theorem n8(ha:Fi X a da)(hb:Fi X b db):Fi X (.BinOp a .Mult b pos) (Wo rdMul da db):=Sn Lp (uY λ_ _ _=>.int _) ha hb
theorem dN(ha:Fi X a da)(hb:Fi X b db):Fi X (.BinOp a .FloorDiv b pos) (Wo rdDiv da db):=Sn Tg (uY λ_ _ _=>.int _) ha hb
theorem Hu(ha:Fi X a da)(hb:Fi X b db):Fi X (.BinOp a .Mod b pos) (Wo rdMod da db):=Sn Lx (uY λ_ _ _=>.int _) ha hb
theorem zG(ha:Fi X a da)(hb:Fi X b db):Fi X (.BinOp a .Pow b pos) (Wo rdPow da db):=Sn Rw (uY λ_ _ _=>.int _) ha hb
theorem i3(ha:Fi X a da)(hb:Fi X b db):Fi X (.BinOp a .BitXor b pos) (Wo rdXor da db):=Sn j5 (aV λ_ _ _=>.int _) ha hb
theorem K4(ha:Fi X a da)(hb:Fi X b db):Fi X (.Compare a [.GtE] [b] pos) (Wo rdGe da db):=iH xV (aV λ_ _ _=>.bl _) ha hb (Rt _)
end
def bW(ne:Bool):D2:=λx y P=>match x,y with
 | .dat _ d,.dat _ e=>d.depth<=60/\e.depth<=60/\P (.dat .ow (.bool (match ne with | true=>!Dz d e | false=>Dz d e)))
 | _,_=>False
def wH(ne:Bool):D2:=λx y P=>match x,y with
 | .dat _ d,.dat _ (.list es)=>Bp es<=60/\d.depth<=60/\P (.dat .ow (.bool (match ne with | true=>!(es.any λe=>Dz e d) | false=>es.any λe=>Dz e d)))
 | .dat _ d,.dat _ (.tuple es)=>Bp es<=60/\d.depth<=60/\P (.dat .ow (.bool (match ne with | true=>!(es.any λe=>Dz e d) | false=>es.any λe=>Dz e d)))
 | _,_=>False
section
variable{K:PySem.W.Frag}
theorem xP:jY K (E4 K) (bW false):=by
 intro H0 X n S T x y v w F G H Q P hA hd k
 unfold bW at hd
 split at hd
 ·exact ⟨_,_,(hA.told Er).rd (Cg hd.1 (by decide)),(hA.told mem_mid).rd (Cg hd.2.1 (by decide)),hd.1,k _ _ [] H (hA.drop2.pushI (.bl _)) hd.2.2⟩
 ·exact hd.elim
theorem B6:jY K (E6 K) (bW true):=by
 intro H0 X n S T x y v w F G H Q P hA hd k
 unfold bW at hd
 split at hd
 ·exact ⟨_,_,(hA.told Er).rd (Cg hd.1 (by decide)),(hA.told mem_mid).rd (Cg hd.2.1 (by decide)),hd.1,k _ _ [] H (hA.drop2.pushI (.bl _)) hd.2.2⟩
 ·exact hd.elim
theorem B9{ne:Bool}:jY K (K5 K ne) (wH ne):=by
 intro H0 X n S T x y v w F G H Q P hA hd k
 unfold wH at hd
 split at hd
 ·obtain ⟨a,xs,G',rfl,hq,hs,_,_⟩:=(hA.told mem_mid).list_inv
  refine ⟨a,xs,_,_,rfl,.inl (Kw.of hq),(hA.told Er).rd (Cg hd.2.1 (by decide)),hs.rd (Cg hd.1 (by decide)),hd.1,?_⟩
  cases ne with
  | true=>exact k _ _ [] H (hA.drop2.pushI (.bl _)) hd.2.2
  | false=>exact k _ _ [] H (hA.drop2.pushI (.bl _)) hd.2.2
 ·obtain ⟨a,xs,rfl,hq,hs,_⟩:=(hA.told mem_mid).tup_inv
  refine ⟨a,xs,_,_,rfl,.inr (Rr.of hq),(hA.told Er).rd (Cg hd.2.1 (by decide)),hs.rd (Cg hd.1 (by decide)),hd.1,?_⟩
  cases ne with
  | true=>exact k _ _ [] H (hA.drop2.pushI (.bl _)) hd.2.2
  | false=>exact k _ _ [] H (hA.drop2.pushI (.bl _)) hd.2.2
 ·exact hd.elim
end
section
variable{X:Cx}{a b:Expr}{da db:DE}{pos:Pos}
theorem Yt(hu:X.A.units+64<cLine)(ha:Fi X a da)(hb:Fi X b db):Fi X (.Compare a [.Eq] [b] pos) (Wo (bW false) da db):=iH (oV hu) xP ha hb (Rt _)
theorem C3(hu:X.A.units+64<cLine)(ha:Fi X a da)(hb:Fi X b db)(hm:Gj .In b=false:=by with_unfolding_all rfl):Fi X (.Compare a [.In] [b] pos) (Wo (wH false) da db):=iH (j4 hu) B9 ha hb hm
end
def bP:Md->Md
 | .ow=>.ow
 | .tp=>.sh
 | m=>m
theorem At.part{K:PySem.W.Frag}{H0 H:Hp}{X:Addr->Prop}{n:Nat}{S T:List Ent}{v w:V}{m:Md}{d e:Ad}{F G:List Addr}(h:At K H0 X n (S++⟨some v,.dat m d,F⟩::T) H)(r:RdF K H w e G)(hG:G.Sublist F):At K H0 X n (S++⟨some w,.dat (bP m) e,G⟩::T) H:=by
 have h2:=h.mid
 have hs:=Bh.mp h2.sep
 obtain ⟨v',e1,h1,hn,ht⟩:=h2.ok _ Aa
 have cs:∀a∈cells ⟨some w,.dat (bP m) e,G⟩,a∈cells ⟨some v,.dat m d,F⟩:=λa ha=>by
  cases m with
  | ow=>exact hG.subset ha
  | tp=>exact nomatch ha
  | sh=>exact nomatch ha
  | pk=>exact nomatch ha
 refine (h.drop.push (e:=⟨some w,.dat (bP m) e,G⟩) ⟨w,rfl,r,λz=>?_,λz=>?_⟩ (λf hf=>?_) λa ha=>?_).tomid
 ·cases m with
  | ow=>exact (hn rfl).sublist hG
  | _=>cases z
 ·cases m <;> cases z
 ·refine ⟨λhp a ha=>(hs.1 f hf).1 ?_ a (cs a ha),λhp a ha z=>(hs.1 f hf).2 ?_ a ha (hG.subset z)⟩
  ·rcases hp with hp | hp
   ·exact .inl hp
   ·cases hp
  ·rcases hp with hp | hp
   ·refine .inl ?_
    cases m <;> first | rfl | exact hp
   ·exact .inr hp
 ·rcases h2.new _ Aa a (cs a ha) with z | z
  ·exact .inl z
  ·cases z.2
def xE:D2:=λx y P=>match x,y with
 | .dat m (.list ds),.dat _ (.int i)=>∃d,Sv ds i=some d/\P (.dat (bP m) d)
 | .dat m (.tuple ds),.dat _ (.int i)=>∃d,Sv ds i=some d/\P (.dat (bP m) d)
 | .dat _ (.str z),.dat _ (.int i)=>z.length<=Aq/\∃c,Sv z.cps.toList i=some c/\P (.dat .ow (.str ⟨#[c]⟩))
 | _,_=>False
theorem sF{K:PySem.W.Frag}{H:Hp}{xs:List V}{ds:List Ad}{F:List Addr}{i:Int}{d:Ad}(r:RdFs K H xs ds F)(h:Sv ds i=some d):∃x G,Sv xs i=some x/\RdF K H x d G/\G.Sublist F:=by
 unfold Sv at h ⊢
 rw[r.len]
 cases e:oQ ds.length i with
 | none=>rw[e] at h; cases h
 | some j =>
  rw[e] at h
  exact r.get h
theorem G7{K:PySem.W.Frag}:jY K (S7 K) xE:=by
 intro H0 X n S T x y v w F G H Q P hA hd k
 unfold xE at hd
 split at hd
 ·obtain ⟨d,hi,p⟩:=hd
  obtain ⟨rfl,_⟩:=(hA.told mem_mid).int_inv
  have r:=hA.told Er
  have hA':=hA.drop
  obtain ⟨a,xs,G0,rfl,hq,hs,hG,_⟩:=r.list_inv
  obtain ⟨x,G',h1,h2,h3⟩:=sF hs hi
  subst hG
  exact .inl ⟨_,_,_,_,rfl,rfl,Kw.of hq,h1,k _ _ G' H (hA'.part h2 (h3.trans (Cz _ _))) p⟩
 ·obtain ⟨d,hi,p⟩:=hd
  obtain ⟨rfl,_⟩:=(hA.told mem_mid).int_inv
  have r:=hA.told Er
  have hA':=hA.drop
  obtain ⟨a,xs,rfl,hq,hs,_⟩:=r.tup_inv
  obtain ⟨x,G',h1,h2,h3⟩:=sF hs hi
  exact .inr (.inl ⟨_,_,_,_,rfl,rfl,Rr.of hq,h1,k _ _ G' H (hA'.part h2 h3) p⟩)
 ·obtain ⟨hz,c,hi,p⟩:=hd
  obtain ⟨rfl,_⟩:=(hA.told mem_mid).int_inv
  obtain ⟨rfl,_⟩:=(hA.told Er).str_inv
  exact .inr (.inr ⟨_,_,_,rfl,rfl,hz,hi,k _ _ [] H (hA.drop2.pushI (.str _)) p⟩)
 ·exact hd.elim
theorem Kh{X:Cx}{a b:Expr}{da db:DE}{pos:Pos}(ha:Fi X a da)(hb:Fi X b db)(hs:dI b:=by intro _ _; rfl):Fi X (.Subscript a b pos) (Wo xE da db):=F5 j6 G7 ha hb hs
def kI:Md->Md
 | .ow=>.ow
 | .pk=>.pk
 | _=>.tp
def gR(i:Bool)(m:Md)(ds:List Ad)(P:DV->Prop):Prop:=match i with
 | true=>Du ds=true/\P (.dat .ow (.list ds))
 | false=>P (.dat (kI m) (.list ds))
def mD(i:Bool)(m:Md)(ds:List Ad)(P:DV->Prop):Prop:=match i with
 | true=>Du ds=true/\P (.dat .ow (.tuple ds))
 | false=>P (.dat (bP m) (.tuple ds))
section
variable{K:PySem.W.Frag}{H0 H:Hp}{X:Addr->Prop}{n:Nat}{S T:List Ent}{v w:V}{m:Md}{d e:Ad}{F G:List Addr}{p:Addr}{xs:List V}{ds:List Ad}{P:DV->Prop}{i:Bool}
theorem At.newI(h:At K H0 X n (S++T) H)(r:RdFs K H xs ds G)(hi:Du ds=true)(hz:ds.length<=Aq)(hp:H p=none)(m:Md):At K H0 X n (S++⟨some (.ref p),.dat m (.list ds),[p]⟩::T) (upd H p (.lst xs)):=by
 obtain rfl:=r.imm hi
 have s1:=Dk hp (.lst xs)
 have h1:=h.grow (n':=n) s1 (Ai _)
 refine (h1.push (e:=⟨some (.ref p),.dat m (.list ds),[p]⟩) ⟨_,rfl,.lst Cj hz (r.kp (Kp.of s1)),λ_=>Ci.mpr ⟨Ba,Ct⟩,λ_ a l z=>by cases z; exact Ba⟩ (λf hf=>?_) λa ha=>?_).tomid
 ·have nf:=h.free hp f hf
  refine ⟨λ_ a ha z=>?_,λ_ a ha z=>?_⟩
  ·have:=Gb _ a ha
   rw[Ah.mp this] at z
   exact nf z
  ·rw[Ah.mp z] at ha
   exact nf (Gb _ _ ha)
 ·have:=Gb _ a ha
  rw[Ah.mp this]
  exact .inl (h.new0 hp)
theorem At.newL(h:At K H0 X n (S++⟨some v,.dat m d,F⟩::T) H)(r:RdFs K H xs ds G)(hG:G.Sublist F)(hz:ds.length<=Aq)(hp:H p=none)(q:gR i m ds P):∃z F',At K H0 X n (S++⟨some (.ref p),z,F'⟩::T) (upd H p (.lst xs))/\P z:=by
 cases i with
 | true=>exact ⟨_,_,h.drop.newI r q.1 hz hp .ow,q.2⟩
 | false =>
  have q:P (.dat (kI m) (.list ds)):=q
  refine ⟨_,p::G,?_,q⟩
  have s1:=Dk hp (.lst xs)
  have h2:=h.mid
  have hs:=Bh.mp h2.sep
  obtain ⟨v',e1,_,hn,_⟩:=h2.ok _ Aa
  have h1:=h.drop.grow (n':=n) s1 (Ai _)
  have npF:p∉F:=h2.free hp _ Aa
  have npG:p∉G:=λz=>npF (hG.subset z)
  have cs:∀a∈cells ⟨some (.ref p),.dat (kI m) (.list ds),p::G⟩,a=p\/(a∈cells ⟨some v,.dat m d,F⟩):=λa ha=>by
   cases m with
   | ow =>
    rcases Aj.mp ha with z | z
    ·exact .inl z
    ·exact .inr (hG.subset z)
   | tp=>exact .inl (Ah.mp ha)
   | sh=>exact .inl (Ah.mp ha)
   | pk=>exact nomatch ha
  refine (h1.push (e:=⟨some (.ref p),.dat (kI m) (.list ds),p::G⟩) ⟨_,rfl,.lst Cj hz (r.kp (Kp.of s1)),λz=>?_,λz a l e=>?_⟩ (λf hf=>?_) λa ha=>?_).tomid
  ·cases m with
   | ow=>exact Ci.mpr ⟨npG,(hn rfl).sublist hG⟩
   | _=>cases z
  ·cases e
   exact npG
  ·have nf:=h2.free hp f (Ag _ hf)
   refine ⟨λhq a ha z=>?_,λhq a ha z=>?_⟩
   ·rcases cs a ha with rfl | hc
    ·exact nf z
    ·refine (hs.1 f hf).1 ?_ a hc z
     rcases hq with hq | hq
     ·exact .inl hq
     ·cases hq
   ·rcases Aj.mp z with rfl | z
    ·exact nf (Gb _ _ ha)
    ·refine (hs.1 f hf).2 ?_ a ha (hG.subset z)
     rcases hq with hq | hq
     ·refine .inl ?_
      cases m <;> first | rfl | exact hq
     ·exact .inr hq
  ·rcases cs a ha with rfl | hc
   ·exact .inl (h2.new0 hp)
   ·rcases h2.new _ Aa a hc with z | z
    ·exact .inl z
    ·cases z.2
theorem At.newT(h:At K H0 X n (S++⟨some v,.dat m d,F⟩::T) H)(r:RdFs K H xs ds G)(hG:G.Sublist F)(hz:ds.length<=Aq)(hp:H p=none)(q:mD i m ds P):∃z F',At K H0 X n (S++⟨some (.ref p),z,F'⟩::T) (upd H p (.tup xs))/\P z:=by
 have s1:=Dk hp (.tup xs)
 have h1:=h.grow (n':=n) s1 (Ai _)
 cases i with
 | true =>
  obtain rfl:=r.imm q.1
  exact ⟨_,[],h1.drop.pushI (.tup Cj hz (r.kp (Kp.of s1))),q.2⟩
 | false=>exact ⟨_,G,h1.part (.tup Cj hz (r.kp (Kp.of s1))) hG,q⟩
end
def zR:DA:=λδ P=>P [] δ
def yX(de:DE)(da:DA):DA:=λδ P=>de δ λx δ1=>da δ1 λxs δ2=>P (x::xs) δ2
section
variable{X:Cx}{e:Expr}{es:List Expr}{de:DE}{da:DA}
theorem Bs:lS X [] zR:=by
 refine PA.imp Hw λσ H Q h=>?_
 obtain ⟨H0,Y,S,T,δ,P,rfl,hS,hA,hd,k⟩:=h
 exact k [] δ [] [] S H rfl hS rfl rfl hA hd
theorem Ao(ha:Fi X e de)(hr:lS X es da)(hs:Bo (e::es) X.env=(false,eval e X.env)::Bo es X.env:=by rfl):lS X (e::es) (yX de da):=by
 refine PA.imp (Fd ha hr hs) λσ H Q h=>?_
 obtain ⟨H0,Y,S,T,δ,P,rfl,hS,hA,hd,k⟩:=h
 refine ⟨H0,Y,S,T,δ,_,rfl,hS,hA,hd,λx δ1 v F S1 H1 e1 e2 hA1 p1=>?_⟩
 refine ⟨H0,Y,S1,⟨some v,x,F⟩::T,δ1,_,e1,e2,hA1,p1,λxs δ2 As us S2 H2 e3 e4 ex eu hA2 p2=>?_⟩
 refine k (x::xs) δ2 (⟨some v,x,F⟩::As) (v::us) S2 H2 e3 e4 (by rw[Av,ex]) (by rw[Av,Av,eu]) (hA2.perm ((Hs S2).append ?_)) p2
 exact Jb
end
def allOw:List DV->Bool
 | []=>true
 | .dat .ow _::xs=>allOw xs
 | _=>false
def noPk:List DV->Bool
 | []=>true
 | .dat .pk _::_=>false
 | .dat _ _::xs=>noPk xs
 | _=>false
def datas:List DV->Option (List Ad)
 | []=>some []
 | .dat _ d::xs=>(datas xs).map (d::·)
 | _=>none
def pkMd(Nq:Md)(xs:List DV):Md:=if allOw xs=true then .ow else if noPk xs=true then Nq else .pk
section
variable{K:PySem.W.Frag}{H0 H:Hp}{X:Addr->Prop}{n:Nat}{S T As:List Ent}
theorem Te:∀{As:List Ent} {us:List V} {ds:List Ad},As.map Ent.v=us.map some->datas (As.map Ent.x)=some ds->(∀e∈As,Ip K H n e)->RdFs K H us ds (As.flatMap Ent.F)
 | [],us,ds,e,h,_=>by
  cases us with
  | nil=>cases h; exact .nil
  | cons _ _=>cases e
 | ent::As,us,ds,e,h,ok=>by
  cases us with
  | nil=>cases e
  | cons u us =>
   rw[Av,Av] at e
   obtain ⟨e1,e2⟩:=Ei e
   obtain ⟨v,x,F⟩:=ent
   have e1':v=some u:=e1
   subst e1'
   rw[Av] at h
   cases x with
   | dat m d =>
    rw[show datas (DV.dat m d::As.map Ent.x)=(datas (As.map Ent.x)).map (d::·) from rfl] at h
    cases q:datas (As.map Ent.x) with
    | none=>rw[q] at h; cases h
    | some es =>
     rw[q] at h
     cases h
     obtain ⟨w,ew,rw',_⟩:=ok _ Aa
     cases ew
     rw[List.flatMap_cons]
     exact .cons rw' (Te e2 q λf hf=>ok f (Ag _ hf))
   | _=>cases h
theorem Ni:∀{As:List Ent},allOw (As.map Ent.x)=true->∀e∈As,∃d,e.x=.dat .ow d
 | [],_,_,h=>nomatch h
 | ⟨v,x,F⟩::As,h,e,he=>by
  rw[Av] at h
  have hx:(∃d,x=.dat .ow d)/\allOw (As.map Ent.x)=true:=by
   cases x with
   | dat m d=>cases m <;> first | exact ⟨⟨d,rfl⟩,h⟩ | cases h
   | _=>cases h
  rcases Aj.mp he with rfl | he
  ·exact hx.1
  ·exact Ni hx.2 e he
theorem fY:∀{As:List Ent},noPk (As.map Ent.x)=true->∀e∈As,Om e.x=false
 | [],_,_,h=>nomatch h
 | ⟨v,x,F⟩::As,h,e,he=>by
  rw[Av] at h
  have hx:Om x=false/\noPk (As.map Ent.x)=true:=by
   cases x with
   | dat m d=>cases m <;> first | exact ⟨rfl,h⟩ | cases h
   | _=>cases h
  rcases Aj.mp he with rfl | he
  ·exact hx.1
  ·exact fY hx.2 e he
theorem Yb:∀{As:List Ent},(∀e∈As,∃d,e.x=.dat .ow d)->(∀e∈As,Ip K H n e)->As.Pairwise Xg->(As.flatMap Ent.F).Nodup
 | [],_,_,_=>Ct
 | ent::As,ho,ok,hs=>by
  rw[List.flatMap_cons]
  have hc:=Bh.mp hs
  obtain ⟨v,x,F⟩:=ent
  obtain ⟨d,hd⟩:=ho _ Aa
  have hd':x=.dat .ow d:=hd
  subst hd'
  obtain ⟨w,_,_,hn,_⟩:=ok _ Aa
  refine Wh.mpr ⟨hn rfl,Yb (λe he=>ho e (Ag _ he)) (λe he=>ok e (Ag _ he)) hc.2,λa ha b hb z=>?_⟩
  subst z
  obtain ⟨f,hf,hb⟩:=Oq.mp hb
  obtain ⟨d',hd'⟩:=ho f (Ag _ hf)
  exact (hc.1 f hf).1 (.inl (by rw[hd']; rfl)) a ha hb
theorem At.pack{v:V}{d:Ad}{N:List Addr}{H':Hp}{Nq:Md}(h:At K H0 X n (S++(As++T)) H)(s:Kt H H')(hN:∀a∈N,H a=none)(ndN:N.Nodup)(htop:(Nq=.tp/\N.length=1)\/(Nq=.sh/\N=[]))(r:RdF K H' v d (N++As.flatMap Ent.F)):At K H0 X n (S++⟨some v,.dat (pkMd Nq (As.map Ent.x)) d,N++As.flatMap Ent.F⟩::T) H':=by
 have hp:(S++(As++T)).Perm (As++(S++T)):=by
  rw[<- Ck,<- Ck]
  exact List.perm_append_comm.append_right T
 have h2:=h.perm hp
 have hs:=Da.mp h2.sep
 have h1:=(h.dropL).grow (n':=n) s (Ai _)
 have nN:∀a∈N,∀f∈As++(S++T),a∉f.F:=λa ha f hf=>h2.free (hN a ha) f hf
 have nFlat:∀a∈N,a∉As.flatMap Ent.F:=λa ha z=>by
  obtain ⟨f,hf,z⟩:=Oq.mp z
  exact nN a ha f (Ay _ hf) z
 have cs:∀a∈cells ⟨some v,.dat (pkMd Nq (As.map Ent.x)) d,N++As.flatMap Ent.F⟩,a∈N\/(allOw (As.map Ent.x)=true/\∃f∈As,a∈cells f):=λa ha=>by
  unfold pkMd at ha
  by_cases hw:allOw (As.map Ent.x)=true
  ·rw[if_pos hw] at ha
   rcases Bl.mp ha with z | z
   ·exact .inl z
   ·obtain ⟨f,hf,z⟩:=Oq.mp z
    obtain ⟨d',hd'⟩:=Ni hw f hf
    refine .inr ⟨hw,f,hf,?_⟩
    unfold cells
    rw[hd']
    exact z
  ·rw[if_neg hw] at ha
   by_cases hk:noPk (As.map Ent.x)=true
   ·rw[if_pos hk] at ha
    rcases htop with ⟨rfl,h1⟩ | ⟨rfl,rfl⟩
    ·match N,h1,ha with
     | [b],_,ha=>exact .inl ha
    ·exact nomatch ha
   ·rw[if_neg hk] at ha
    exact nomatch ha
 refine (h1.push (e:=⟨some v,.dat (pkMd Nq (As.map Ent.x)) d,N++As.flatMap Ent.F⟩) ⟨_,rfl,r,λz=>?_,λz a l e=>?_⟩ (λf hf=>?_) λa ha=>?_).tomid
 ·have hw:allOw (As.map Ent.x)=true:=by
   unfold pkMd at z
   by_cases hw:allOw (As.map Ent.x)=true
   ·exact hw
   ·rw[if_neg hw] at z
    split at z
    ·rcases htop with ⟨rfl,_⟩ | ⟨rfl,_⟩ <;> cases z
    ·cases z
  refine Wh.mpr ⟨ndN,Yb (Ni hw) (λe he=>h2.ok e (Ay _ he)) hs.1,λa ha b hb e=>?_⟩
  subst e
  exact nFlat a ha hb
 ·have ht:Nq=.tp:=by
   unfold pkMd at z
   split at z
   ·cases z
   ·split at z
    ·exact z
    ·cases z
  subst ht
  rcases htop with ⟨_,h1⟩ | ⟨h1,_⟩
  ·match N,h1,e,nFlat with
   | [b],_,e,nFlat =>
    cases e
    exact nFlat a Aa
  ·cases h1
 ·have hf':f∈As++(S++T):=Ap _ hf
  refine ⟨λhq a ha z=>?_,λhq a ha z=>?_⟩
  ·rcases cs a ha with hn | ⟨_,g,hg,hc⟩
   ·exact nN a hn f hf' z
   ·refine (hs.2.2 g hg f hf).1 ?_ a hc z
    rcases hq with hq | hq
    ·exact .inl hq
    ·cases hq
  ·rcases Bl.mp z with z | z
   ·exact nN a z f hf' (Gb _ _ ha)
   ·obtain ⟨g,hg,z⟩:=Oq.mp z
    refine (hs.2.2 g hg f hf).2 ?_ a ha z
    rcases hq with hq | hq
    ·refine .inl ?_
     have hq':Om (.dat (pkMd Nq (As.map Ent.x)) d)=false:=hq
     unfold pkMd at hq'
     by_cases hw:allOw (As.map Ent.x)=true
     ·obtain ⟨d',hd'⟩:=Ni hw g hg
      rw[hd']
      rfl
     ·rw[if_neg hw] at hq'
      by_cases hk:noPk (As.map Ent.x)=true
      ·exact fY hk g hg
      ·rw[if_neg hk] at hq'
       cases hq'
    ·exact .inr hq
 ·rcases cs a ha with hn | ⟨_,g,hg,hc⟩
  ·exact .inl (h2.new0 (hN a hn))
  ·rcases h2.new g (Ay _ hg) a hc with z | z
   ·exact .inl z
   ·obtain ⟨d',hd'⟩:=Ni (by assumption) g hg
    rw[hd'] at z
    cases z.2
end
def O1(da:DA):DE:=λδ P=>da δ λxs δ'=>match datas xs with
 | some ds=>ds.length<=1000/\P (.dat (pkMd .sh xs) (.tuple ds)) δ'
 | none=>False
def E3(da:DA):DE:=λδ P=>da δ λxs δ'=>match datas xs with
 | some ds=>ds.length<=1000/\P (.dat (pkMd .tp xs) (.list ds)) δ'
 | none=>False
section
variable{X:Cx}{es:List Expr}{da:DA}{pos:Pos}
theorem Q0{x1}(h:lS X es da):Fi X (.Tuple es x1 pos) (O1 da):=by
 refine PE.imp (Yn h) λσ H Q h=>?_
 obtain ⟨H0,Y,S,T,δ,P,rfl,hS,hA,hd,k⟩:=h
 refine ⟨H0,Y,S,T,δ,_,rfl,hS,hA,hd,λxs δ' As us S' H' e1 e2 ex eu hA' p=>?_⟩
 cases q:datas xs with
 | none=>rw[q] at p; exact p.elim
 | some ds =>
  rw[q] at p
  subst ex
  have r:=Te eu q λe he=>hA'.ok e (Ap _ (Ay _ he))
  have hl:=r.len
  have hz:ds.length<=Aq:=sz p.1
  refine ⟨by omega,λt ht=>?_⟩
  have s1:=Dk ht (.tup us)
  exact k _ δ' _ _ S' _ e1 e2 (hA'.pack (N:=[]) s1 (λ_ z=>nomatch z) Ct (.inr ⟨rfl,rfl⟩) (.tup Cj hz (r.kp (Kp.of s1)))) p.2
theorem Jq(h:lS X es da):Fi X (.List es pos) (E3 da):=by
 refine PE.imp (Yu h) λσ H Q h=>?_
 obtain ⟨H0,Y,S,T,δ,P,rfl,hS,hA,hd,k⟩:=h
 refine ⟨H0,Y,S,T,δ,_,rfl,hS,hA,hd,λxs δ' As us S' H' e1 e2 ex eu hA' p=>?_⟩
 cases q:datas xs with
 | none=>rw[q] at p; exact p.elim
 | some ds =>
  rw[q] at p
  subst ex
  have r:=Te eu q λe he=>hA'.ok e (Ap _ (Ay _ he))
  have hl:=r.len
  have hz:ds.length<=Aq:=sz p.1
  refine ⟨by omega,λt ht=>?_⟩
  have s1:=Dk ht (.lst us)
  exact k _ δ' _ _ S' _ e1 e2 (hA'.pack (N:=[t]) s1 (λa z=>by rw[Ah.mp z]; exact ht) (Ci.mpr ⟨Ba,Ct⟩) (.inl ⟨rfl,rfl⟩) (.lst Cj hz (r.kp (Kp.of s1)))) p.2
end
end DL
namespace Nd
open PySem PySem.Spec PyProof.Rows L2
theorem Ls:∀{vs:List Value} {ns:List Int},Ep (ns.map V.int) vs->∃xs:List (Int×Tok),vs=xs.map (λp=>Rx p.1 p.2)/\xs.map (·.1)=ns
 | [],[],_=>⟨[],rfl,rfl⟩
 | v::vs,n::ns,h=>by
  cases h with
  | cons h1 h2 =>
   obtain ⟨t,rfl⟩:=h1
   obtain ⟨xs,e1,e2⟩:=Ls h2
   exact ⟨(n,t)::xs,by rw[e1]; rfl,by rw[<- e2]; rfl⟩
 | [],n::ns,h=>nomatch h
 | v::vs,[],h=>nomatch h
section
variable{X:Cx}
def yH(K:PySem.W.Frag):List V->Hp->VK->Prop:=λxs H Q=>∃(a:Addr) (ns:List Int),xs=[.ref a]/\Kw K H a (ns.map V.int)/\ns≠[]/\∀M∈ns,(∀x∈ns,M<=x)->Q (.int M) H
theorem lZ(hc:X.calm=true):Kc X (.builtin "min") (yH X.K):=by
 intro pins s σ H xs us Q I r h
 obtain ⟨p,ns,rfl,hp,ne,q⟩:=h
 obtain ⟨u,rfl,ru⟩:=vals1 r
 cases ru
 obtain ⟨its,rv,pl,_⟩:=I.list hp
 obtain ⟨ps,rfl,rfl⟩:=Ls rv
 have hl:s.heap.IsList p (Lc ps.toArray):=by simpa [Lc] using pl.isList
 have hpos:0<ps.toArray.size:=by rcases ps with _ | ⟨x,ps⟩ <;> simp at ne ⊢
 refine min_intList (I.ok.hd hc) hl hpos λv h' tk hv k=>?_
 obtain ⟨t,rfl⟩:=intItems_at hv
 obtain ⟨h1,h2⟩:=argBest_lt (numAt ps.toArray) (ps.toArray.size - 1)
 refine ⟨.int _,H,I.kept k,⟨t,rfl⟩,q _ ?_ λx hx=>?_⟩
 ·rw[numAt_eq]; exact getD_mem (by rw[Ab]; show _<ps.length; have hs:ps.toArray.size=ps.length:=Al; omega)
 ·obtain ⟨j,hj,rfl⟩:=mem_getD hx
  rw[Ab] at hj
  have:=h2 j (by have hs:ps.toArray.size=ps.length:=Al; have hj':j<ps.length:=hj; omega)
  rw[numAt_eq ps.toArray j] at this
  exact this
end
end Nd
namespace Ts
open PySem PyProof.Rows
def Qh:Bool->Keyed->Array Keyed->Nat->Nat->Nat->StateT Bq Sem (Option Nat):=sortPriv% PySem.Builtin.gallop
structure Cmp(prog:Bu)(w:World)(A:Cq)(s:Af)(kd:Kf)(Ok:Keyed->Prop)(blt:Keyed->Keyed->Bool):Prop where
 run:∀(x y:Keyed) (Q:Bool->Af->Prop) (E:Value->Af->Prop),Ok x->Ok y->Q (blt x y) s->wpAny (model prog w) A (keyLt' kd x.1 y.1) Q E s
 irr:∀x,blt x x=false
 tr:∀x y z,blt x y=true->blt y z=true->blt x z=true
 neg:∀x y z,blt x z=true->blt x y=true\/blt y z=true
def le(blt:Keyed->Keyed->Bool)(x y:Keyed):Prop:=blt y x=false
section
variable{prog:Bu}{w:World}{A:Cq}{s:Af}{kd:Kf}{Ok:Keyed->Prop}{blt:Keyed->Keyed->Bool}
theorem Cmp.refl(C:Cmp prog w A s kd Ok blt)(x:Keyed):le blt x x:=C.irr x
theorem Cmp.ofLt(C:Cmp prog w A s kd Ok blt){x y:Keyed}(h:blt x y=true):le blt x y:=by
 unfold le
 cases q:blt y x with
 | false=>rfl
 | true=>have:=C.tr _ _ _ h q; rw[C.irr] at this; cases this
theorem Cmp.trans(C:Cmp prog w A s kd Ok blt){x y z:Keyed}(h1:le blt x y)(h2:le blt y z):le blt x z:=by
 unfold le at *
 cases q:blt z x with
 | false=>rfl
 | true =>
  rcases C.neg _ y _ q with h | h
  ·rw[h2] at h; cases h
  ·rw[h1] at h; cases h
theorem Cmp.ltLe(C:Cmp prog w A s kd Ok blt){x y z:Keyed}(h1:blt x y=true)(h2:le blt y z):blt x z=true:=by
 unfold le at h2
 rcases C.neg _ z _ h1 with h | h
 ·exact h
 ·rw[h2] at h; cases h
theorem Cmp.leLt(C:Cmp prog w A s kd Ok blt){x y z:Keyed}(h1:le blt x y)(h2:blt y z=true):blt x z=true:=by
 unfold le at h1
 rcases C.neg _ x _ h2 with h | h
 ·rw[h1] at h; cases h
 ·exact h
variable{E:Value->Af->Prop}
structure Kept(st st':Bq):Prop where
 kind:kindOf st'=kindOf st
 arr:arrOf st'=arrOf st
 pend:Bd st'=Bd st
 fail:Jm st'=Jm st
theorem Kept.refl(st:Bq):Kept st st:=⟨rfl,rfl,rfl,rfl⟩
theorem Kept.trans{a b c:Bq}(h:Kept a b)(k:Kept b c):Kept a c:=⟨k.kind.trans h.kind,k.arr.trans h.arr,k.pend.trans h.pend,k.fail.trans h.fail⟩
theorem gO(C:Cmp prog w A s kd Ok blt){st:Bq}{x y:Keyed}{Q:Option Bool->Bq->Prop}(hk:kindOf st=kd)(ox:Ok x)(oy:Ok y)(h:Q (some (blt x y)) st):wpS (model prog w) A E s (lt' x y) Q st:=by
 rw[lt'_eq]
 refine Aw (Lb ?_)
 rw[hk]
 exact Aw (wpS_lift (Qp (C.run x y _ _ ox oy ⟨rfl,Be h⟩)))
theorem Et{st:Bq}{xs:Array Keyed}{i:Nat}{p:Keyed}{Q:Keyed->Bq->Prop}(h:xs[i]? = some p)(q:Q p st):wpS (model prog w) A E s (elem' xs i) Q st:=by
 rw[elem'_eq,h]
 exact Be q
def Pz(left:Bool)(key:Keyed)(arr:Array Keyed)(base i:Nat):StateT Bq Sem (Option Bool):=do
 let x <- elem' arr (base+i)
 if left then lt' x key else return (<- lt' key x).map (!·)
def kT(left:Bool)(key:Keyed)(arr:Array Keyed)(base n lo0 hi0:Nat):StateT Bq Sem (Option Nat):=do
 let mut lo:=lo0
 let mut hi:=hi0
 for _ in [0:n] do
  if lo ≥ hi then break
  let mid:=lo+(hi - lo) / 2
  let some up <- Pz left key arr base mid | return none
  if up then lo:=mid+1 else hi:=mid
 return some hi
theorem iQ(left:Bool)(key:Keyed)(arr:Array Keyed)(base n hint:Nat):Qh left key arr base n hint=(do
  let some right <- Pz left key arr base hint | return none
  let mut last:=0
  let mut ofs:=1
  if right then
   let Nq:=n - hint
   for _ in [0:n] do
    if ofs ≥ Nq then break
    let some up <- Pz left key arr base (hint+ofs) | return none
    if !up then break
    last:=ofs
    ofs:=2 * ofs+1
   kT left key arr base n (hint+last+1) (hint+min ofs Nq)
  else
   let Nq:=hint+1
   for _ in [0:n] do
    if ofs ≥ Nq then break
    let some got <- Pz left key arr base (hint - ofs) | return none
    if got then break
    last:=ofs
    ofs:=2 * ofs+1
   kT left key arr base n (hint+1 - min ofs Nq) (hint - last)):=rfl
def Fm(blt:Keyed->Keyed->Bool)(left:Bool)(key x:Keyed):Bool:=if left then blt x key else !blt key x
structure Row(Ok:Keyed->Prop)(arr:Array Keyed)(base n:Nat)(el:Nat->Keyed):Prop where
 at_:∀i,i<n->arr[base+i]? = some (el i)
 ok:∀i,i<n->Ok (el i)
theorem Qe(C:Cmp prog w A s kd Ok blt){st:Bq}{left:Bool}{key:Keyed}{arr:Array Keyed}{base n i:Nat}{el:Nat->Keyed}(R:Row Ok arr base n el)(ok:Ok key)(hk:kindOf st=kd)(hi:i<n){Q:Option Bool->Bq->Prop}(h:Q (some (Fm blt left key (el i))) st):wpS (model prog w) A E s (Pz left key arr base i) Q st:=by
 unfold Pz
 refine Aw (Et (R.at_ i hi) ?_)
 cases left with
 | true =>
  rw[if_pos rfl]
  exact gO C hk (R.ok i hi) ok h
 | false =>
  rw[if_neg Bx]
  exact Aw (gO C hk ok (R.ok i hi) (Be h))
theorem lD(C:Cmp prog w A s kd Ok blt){st:Bq}{left:Bool}{key:Keyed}{arr:Array Keyed}{base n lo hi:Nat}{el:Nat->Keyed}(R:Row Ok arr base n el)(ok:Ok key)(hk:kindOf st=kd)(mono:∀i j,i<=j->j<n->Fm blt left key (el j)=true->Fm blt left key (el i)=true)(h1:lo<=hi)(h2:hi<=n)(t1:∀i,i<lo->Fm blt left key (el i)=true)(t2:∀i,hi<=i->i<n->Fm blt left key (el i)=false){Q:Option Nat->Bq->Prop}(h:∀k,k<=n->(∀i,i<k->Fm blt left key (el i)=true)->(∀i,k<=i->i<n->Fm blt left key (el i)=false)->Q (some k) st):wpS (model prog w) A E s (kT left key arr base n lo hi) Q st:=by
 unfold kT
 refine Aw (Fw (Eb (I:=λx c st'=>∃l r,c=(none,l,r)/\st'=st/\l<=r/\r<=n/\r - l+x<=n/\(∀i,i<l->Fm blt left key (el i)=true)/\(∀i,r<=i->i<n->Fm blt left key (el i)=false))
  (Q:=λc st'=>∃r,c=(none,r,r)/\st'=st/\r<=n/\(∀i,i<r->Fm blt left key (el i)=true)/\(∀i,r<=i->i<n->Fm blt left key (el i)=false)) ?_ ?_ ⟨lo,hi,rfl,rfl,h1,h2,by omega,t1,t2⟩) ?_)
 ·(intro x c st' _ hx q_; obtain ⟨l,r,rfl,rfl,a1,a2,a3,b1,b2⟩ := q_)
  dsimp only
  by_cases hlr:l ≥ r
  ·rw[if_pos hlr]
   have e:l=r:=by omega
   subst e
   exact Be ⟨l,rfl,rfl,a2,b1,b2⟩
  ·rw[if_neg hlr]
   have hm:l+(r - l) / 2<n:=by omega
   refine Aw (Qe C R ok hk hm ?_)
   dsimp only
   cases hb:Fm blt left key (el (l+(r - l) / 2)) with
   | true =>
    rw[if_pos rfl]
    exact Be ⟨l+(r - l) / 2+1,r,rfl,rfl,by omega,a2,by omega,λi hi=>mono i _ (by omega) hm hb,b2⟩
   | false =>
    rw[if_neg Bx]
    refine Be ⟨l,l+(r - l) / 2,rfl,rfl,by omega,by omega,by omega,b1,λi hi hn=>?_⟩
    cases q:Fm blt left key (el i) with
    | false=>rfl
    | true=>rw[mono _ i hi hn q] at hb; cases hb
 ·(intro c st' q_; obtain ⟨l,r,rfl,rfl,a1,a2,a3,b1,b2⟩ := q_)
  have e:l=r:=by
   have : max 0 n=n:=by omega
   rw[this] at a3
   omega
  subst e
  exact ⟨l,rfl,rfl,a2,b1,b2⟩
 ·(intro c st' q_; obtain ⟨r,rfl,rfl,a2,b1,b2⟩ := q_)
  exact Be (h r a2 b1 b2)
theorem Lj(C:Cmp prog w A s kd Ok blt){st:Bq}{left:Bool}{key:Keyed}{arr:Array Keyed}{base n hint:Nat}{el:Nat->Keyed}(R:Row Ok arr base n el)(ok:Ok key)(hk:kindOf st=kd)(hh:hint<n)(mono:∀i j,i<=j->j<n->Fm blt left key (el j)=true->Fm blt left key (el i)=true){Q:Option Nat->Bq->Prop}(h:∀k,k<=n->(∀i,i<k->Fm blt left key (el i)=true)->(∀i,k<=i->i<n->Fm blt left key (el i)=false)->Q (some k) st):wpS (model prog w) A E s (Qh left key arr base n hint) Q st:=by
 have anti:∀i j,i<=j->j<n->Fm blt left key (el i)=false->Fm blt left key (el j)=false:=λi j hij hj q=>by
  cases z:Fm blt left key (el j) with
  | false=>rfl
  | true=>rw[mono i j hij hj z] at q; cases q
 rw[iQ]
 refine Aw (Qe C R ok hk hh ?_)
 dsimp only
 cases hb:Fm blt left key (el hint) with
 | true =>
  rw[if_pos rfl]
  refine Aw (Fw (Eb (I:=λx c st'=>∃la o,c=(none,la,o)/\st'=st/\la<o/\x+1<=o/\hint+la<n/\Fm blt left key (el (hint+la))=true)
   (Q:=λc st'=>∃la o,c=(none,la,o)/\st'=st/\la<o/\hint+la<n/\Fm blt left key (el (hint+la))=true/\(o ≥ n - hint\/(hint+o<n/\Fm blt left key (el (hint+o))=false))) ?_ ?_
   ⟨0,1,rfl,rfl,by omega,by omega,by omega,hb⟩) ?_)
  ·(intro x c st' _ hx q_; obtain ⟨la,o,rfl,rfl,a1,a2,a3,b1⟩ := q_)
   dsimp only
   by_cases ho:o ≥ n - hint
   ·rw[if_pos ho]
    exact Be ⟨la,o,rfl,rfl,a1,a3,b1,.inl ho⟩
   ·rw[if_neg ho]
    have hm:hint+o<n:=by omega
    refine Aw (Qe C R ok hk hm ?_)
    dsimp only
    cases hb2:Fm blt left key (el (hint+o)) with
    | true =>
     simp only[Bool.not_true,By,if_false]
     exact Be ⟨o,2 * o+1,rfl,rfl,by omega,by omega,hm,hb2⟩
    | false =>
     simp only[Bool.not_false,if_true]
     exact Be ⟨la,o,rfl,rfl,a1,a3,b1,.inr ⟨hm,hb2⟩⟩
  ·(intro c st' q_; obtain ⟨la,o,rfl,rfl,a1,a2,a3,b1⟩ := q_)
   have : max 0 n=n:=by omega
   rw[this] at a2
   exact ⟨la,o,rfl,rfl,a1,a3,b1,.inl (by omega)⟩
  ·(intro c st' q_; obtain ⟨la,o,rfl,rfl,a1,a3,b1,b2⟩ := q_)
   dsimp only
   refine lD C R ok hk mono (by omega) (by omega) (λi hi=>mono i _ (by omega) a3 b1) (λi hi hn=>?_) h
   rcases b2 with b2 | ⟨b2,b3⟩
   ·exfalso; omega
   ·exact anti _ i (by omega) hn b3
 | false =>
  rw[if_neg Bx]
  refine Aw (Fw (Eb (I:=λx c st'=>∃la o,c=(none,la,o)/\st'=st/\la<o/\x+1<=o/\la<=hint/\Fm blt left key (el (hint - la))=false)
   (Q:=λc st'=>∃la o,c=(none,la,o)/\st'=st/\la<o/\la<=hint/\Fm blt left key (el (hint - la))=false/\(o ≥ hint+1\/(o<=hint/\Fm blt left key (el (hint - o))=true))) ?_ ?_
   ⟨0,1,rfl,rfl,by omega,by omega,by omega,hb⟩) ?_)
  ·(intro x c st' _ hx q_; obtain ⟨la,o,rfl,rfl,a1,a2,a3,b1⟩ := q_)
   dsimp only
   by_cases ho:o ≥ hint+1
   ·rw[if_pos ho]
    exact Be ⟨la,o,rfl,rfl,a1,a3,b1,.inl ho⟩
   ·rw[if_neg ho]
    have hm:hint - o<n:=by omega
    refine Aw (Qe C R ok hk hm ?_)
    dsimp only
    cases hb2:Fm blt left key (el (hint - o)) with
    | true =>
     rw[if_pos rfl]
     exact Be ⟨la,o,rfl,rfl,a1,a3,b1,.inr ⟨by omega,hb2⟩⟩
    | false =>
     rw[if_neg Bx]
     exact Be ⟨o,2 * o+1,rfl,rfl,by omega,by omega,by omega,hb2⟩
  ·(intro c st' q_; obtain ⟨la,o,rfl,rfl,a1,a2,a3,b1⟩ := q_)
   have : max 0 n=n:=by omega
   rw[this] at a2
   exact ⟨la,o,rfl,rfl,a1,a3,b1,.inl (by omega)⟩
  ·(intro c st' q_; obtain ⟨la,o,rfl,rfl,a1,a3,b1,b2⟩ := q_)
   dsimp only
   refine lD C R ok hk mono (by omega) (by omega) (λi hi=>?_) (λi hi hn=>anti _ i hi hn b1) h
   rcases b2 with b2 | ⟨b2,b3⟩
   ·exfalso; omega
   ·exact mono i _ (by omega) (by omega) b3
end
structure MI{α:Type}(R:α->α->Prop)(xs ys out:List α)(i j:Nat):Prop where
 perm:out.Perm (xs.take i++ys.take j)
 srt:out.Pairwise R
 lx:∀o∈out,∀z∈xs.drop i,R o z
 ly:∀o∈out,∀z∈ys.drop j,R o z
section
variable{α:Type}{R:α->α->Prop}{xs ys out:List α}{i j:Nat}
theorem aJ{l:List α}{n:Nat}{a:α}(h:l[n]? = some a):l.drop n=a::l.drop (n+1):=by
 obtain ⟨hn,e⟩:=Ak.mp h
 rw[List.drop_eq_getElem_cons hn,e]
theorem take_snoc{l:List α}{n:Nat}{a:α}(h:l[n]? = some a):l.take (n+1)=l.take n++[a]:=by
 rw[List.take_succ,h]; rfl
theorem MI.pushY(M:MI R xs ys out i j)(sy:ys.Pairwise R){y:α}(hy:ys[j]? = some y)(hx:∀z∈xs.drop i,R y z):MI R xs ys (out++[y]) i (j+1):=by
 have dy:=aJ hy
 have sd:(y::ys.drop (j+1)).Pairwise R:=by rw[<- dy]; exact Hb (Ie _ _) sy
 obtain ⟨s1,s2⟩:=Bh.mp sd
 refine ⟨?_,?_,λo ho z hz=>?_,λo ho z hz=>?_⟩
 ·rw[take_snoc hy,<- Ck]
  exact M.perm.append_right _
 ·refine Da.mpr ⟨M.srt,Fk _ _,λo ho z hz=>?_⟩
  have e:z=y:=by simpa using hz
  rw[e]
  exact M.ly o ho y (by rw[dy]; exact Aa)
 ·rcases Bl.mp ho with ho | ho
  ·exact M.lx o ho z hz
  ·have e:o=y:=by simpa using ho
   rw[e]; exact hx z hz
 ·rcases Bl.mp ho with ho | ho
  ·exact M.ly o ho z (by rw[dy]; exact Ag _ hz)
  ·have e:o=y:=by simpa using ho
   rw[e]; exact s1 z hz
theorem MI.pushX(M:MI R xs ys out i j)(sx:xs.Pairwise R){x:α}(hx:xs[i]? = some x)(hy:∀z∈ys.drop j,R x z):MI R xs ys (out++[x]) (i+1) j:=by
 have dx:=aJ hx
 have sd:(x::xs.drop (i+1)).Pairwise R:=by rw[<- dx]; exact Hb (Ie _ _) sx
 obtain ⟨s1,s2⟩:=Bh.mp sd
 refine ⟨?_,?_,λo ho z hz=>?_,λo ho z hz=>?_⟩
 ·rw[take_snoc hx]
  have p1:(out++[x]).Perm ((xs.take i++ys.take j)++[x]):=M.perm.append_right _
  refine p1.trans ?_
  rw[Ck,Ck]
  exact Ka _ Gf
 ·refine Da.mpr ⟨M.srt,Fk _ _,λo ho z hz=>?_⟩
  have e:z=x:=by simpa using hz
  rw[e]
  exact M.lx o ho x (by rw[dx]; exact Aa)
 ·rcases Bl.mp ho with ho | ho
  ·exact M.lx o ho z (by rw[dx]; exact Ag _ hz)
  ·have e:o=x:=by simpa using ho
   rw[e]; exact s1 z hz
 ·rcases Bl.mp ho with ho | ho
  ·exact M.ly o ho z hz
  ·have e:o=x:=by simpa using ho
   rw[e]; exact hy z hz
theorem Pb{l:List α}{n k:Nat}{a:α}(h:l[n+k]? = some a):(l.drop n).take (k+1)=(l.drop n).take k++[a]:=take_snoc (by rw[Vk]; exact h)
theorem MI.blockX(M:MI R xs ys out i j)(sx:xs.Pairwise R):∀k,i+k<=xs.length->(∀m,m<k->∀x,xs[i+m]? = some x->∀z∈ys.drop j,R x z)->MI R xs ys (out++(xs.drop i).take k) (i+k) j
 | 0,_,_=>by simpa using M
 | k+1,hk,h=>by
  have ih:=MI.blockX M sx k (by omega) λm hm=>h m (by omega)
  obtain ⟨x,hx⟩ : ∃x,xs[i+k]? = some x:=⟨xs[i+k],by simp⟩
  rw[Pb hx,<- Ck]
  exact ih.pushX sx hx (h k (by omega) x hx)
theorem MI.blockY(M:MI R xs ys out i j)(sy:ys.Pairwise R):∀k,j+k<=ys.length->(∀m,m<k->∀y,ys[j+m]? = some y->∀z∈xs.drop i,R y z)->MI R xs ys (out++(ys.drop j).take k) i (j+k)
 | 0,_,_=>by simpa using M
 | k+1,hk,h=>by
  have ih:=MI.blockY M sy k (by omega) λm hm=>h m (by omega)
  obtain ⟨y,hy⟩ : ∃y,ys[j+k]? = some y:=⟨ys[j+k],by simp⟩
  rw[Pb hy,<- Ck]
  exact ih.pushY sy hy (h k (by omega) y hy)
theorem MI.endX(M:MI R xs ys out i j)(sx:xs.Pairwise R)(hj:ys.length<=j):(out++xs.drop i++ys.drop j).Perm (xs++ys)/\(out++xs.drop i++ys.drop j).Pairwise R:=by
 rw[jX hj,Ee]
 constructor
 ·have p1:(out++xs.drop i).Perm ((xs.take i++ys.take j)++xs.drop i):=M.perm.append_right _
  refine p1.trans ?_
  rw[Dx hj]
  have p2:(xs.take i++ys++xs.drop i).Perm (xs.take i++(xs.drop i++ys)):=by
   rw[Ck]
   exact Ka _ Gf
  refine p2.trans ?_
  rw[<- Ck,Ge]
 ·exact Da.mpr ⟨M.srt,Hb (Ie _ _) sx,M.lx⟩
theorem MI.endYX(M:MI R xs ys out i j)(sx:xs.Pairwise R)(sy:ys.Pairwise R)(h:∀y∈ys.drop j,∀x∈xs.drop i,R y x):(out++ys.drop j++xs.drop i).Perm (xs++ys)/\(out++ys.drop j++xs.drop i).Pairwise R:=by
 constructor
 ·have p1:(out++(ys.drop j++xs.drop i)).Perm ((xs.take i++ys.take j)++(ys.drop j++xs.drop i)):=M.perm.append_right _
  rw[Ck]
  refine p1.trans ?_
  rw[Ck,<- Ck (ys.take j),Ge]
  have p2:(xs.take i++(ys++xs.drop i)).Perm (xs.take i++(xs.drop i++ys)):=Ka _ Gf
  refine p2.trans ?_
  rw[<- Ck,Ge]
 ·refine Da.mpr ⟨Da.mpr ⟨M.srt,Hb (Ie _ _) sy,M.ly⟩,Hb (Ie _ _) sx,λa ha b hb=>?_⟩
  rcases Bl.mp ha with ha | ha
  ·exact M.lx a ha b hb
  ·exact h a ha b hb
end
def fQ:Array Keyed->Array Keyed->StateT Bq Sem (Array Keyed):=sortPriv% PySem.Builtin.mergeLo
def Wv:Nat->StateT Bq Sem Unit:=sortPriv% PySem.Builtin.setMinGallop
abbrev r9(st:Bq)(g:Nat):Bq:=Tw (kindOf st) (arrOf st) (Bd st) g (Jm st)
theorem iP(g:Nat):Wv g=modify λst=>r9 st g:=rfl
theorem Wq(p:Array Keyed)(i:Nat):(p.extract i p.size).toList=p.toList.drop i:=by
 rw[Lf,Ji,Dx]
 rw[Ot,Ax]
 exact Ai _
theorem Ta(p:Array Keyed)(i k:Nat):(p.extract i (i+k)).toList=(p.toList.drop i).take k:=by
 rw[Lf,Ji,Nat.add_sub_cancel_left]
abbrev dn(p q out:Array Keyed)(i j:Nat):Array Keyed:=out++p.extract i p.size++q.extract j q.size
abbrev lst(p q out:Array Keyed)(i j:Nat):Array Keyed:=out++q.extract j q.size++p.extract i p.size
theorem vZ(p q out:Array Keyed)(i j:Nat):(dn p q out i j).toList=out.toList++p.toList.drop i++q.toList.drop j:=by
 rw[Cr,Cr,Wq,Wq]
theorem tN(p q out:Array Keyed)(i j:Nat):(lst p q out i j).toList=out.toList++q.toList.drop j++p.toList.drop i:=by
 rw[Cr,Cr,Wq,Wq]
abbrev wK:=Option (Array Keyed)×Array Keyed×Nat×Nat×Nat×Nat×Nat
def vF(p q out:Array Keyed)(i j g ac k:Nat):StateT Bq Sem (ForInStep wK):=do
 let x <- elem' p i
 if (i+1+1 == p.size)=true then pure (Cm (some (lst p q (out.push x) (i+1) j),out.push x,i+1,j,g,ac,k))
 else if (decide (ac<7) && decide (k<7))=true then pure (Cm (none,out.push x,i+1,j,g,ac,k))
 else pure (Eu (none,out.push x,i+1,j,g,ac,k))
def wU(p q out:Array Keyed)(i j g ac bc:Nat):StateT Bq Sem (ForInStep wK):=do
 let y <- elem' q j
 if (j+1 == q.size)=true then pure (Cm (some (dn p q (out.push y) i (j+1)),out.push y,i,j+1,g,ac,bc))
 else do
  let x <- elem' p i
  let some k <- Qh true x q (j+1) (q.size - (j+1)) 0 | pure (Cm (some (dn p q (out.push y) i (j+1)),out.push y,i,j+1,g,ac,bc))
  if k > 0 then
   if (j+1+k == q.size)=true then pure (Cm (some (dn p q (out.push y++q.extract (j+1) (j+1+k)) i (j+1+k)),out.push y++q.extract (j+1) (j+1+k),i,j+1+k,g,ac,k))
   else vF p q (out.push y++q.extract (j+1) (j+1+k)) i (j+1+k) g ac k
  else vF p q (out.push y) i (j+1) g ac k
def zO(p q out:Array Keyed)(i j g ac bc:Nat):StateT Bq Sem (ForInStep wK):=do
 Wv g
 let y <- elem' q j
 let some k <- Qh false y p i (p.size - i) 0 | pure (Cm (some (dn p q out i j),out,i,j,g,ac,bc))
 if k > 0 then
  if (i+k+1 == p.size)=true then pure (Cm (some (lst p q (out++p.extract i (i+k)) (i+k) j),out++p.extract i (i+k),i+k,j,g,k,bc))
  else if (i+k == p.size)=true then pure (Cm (some (dn p q (out++p.extract i (i+k)) (i+k) j),out++p.extract i (i+k),i+k,j,g,k,bc))
  else wU p q (out++p.extract i (i+k)) (i+k) j g k bc
 else wU p q out i j g k bc
section
variable{prog:Bu}{w:World}{A:Cq}{s:Af}{kd:Kf}{Ok:Keyed->Prop}{blt:Keyed->Keyed->Bool}{E:Value->Af->Prop}
theorem Qd{st:Bq}{x:String}{Q:Unit->Bq->Prop}(h:Q () st):wpS (model prog w) A E s (liftM (rule x):StateT Bq Sem Unit) Q st:=wpS_lift (Oh ⟨rfl,h⟩)
theorem Qk{st:Bq}{g:Nat}{Q:Unit->Bq->Prop}(h:∀st',Kept st st'->Q () st'):wpS (model prog w) A E s (Wv g) Q st:=by
 rw[iP]
 exact Ib (h _ ⟨rfl,rfl,rfl,rfl⟩)
structure Two(Ok:Keyed->Prop)(blt:Keyed->Keyed->Bool)(p q:Array Keyed)(x0 y0 xl:Keyed):Prop where
 op:∀x∈p.toList,Ok x
 oq:∀x∈q.toList,Ok x
 sp:p.toList.Pairwise (le blt)
 sq:q.toList.Pairwise (le blt)
 hx0:p[0]? = some x0
 hy0:q[0]? = some y0
 hxl:p[p.size - 1]? = some xl
 first:blt y0 x0=true
 last:∀y∈q.toList,blt y xl=true
abbrev hZ(blt:Keyed->Keyed->Bool)(p q r:Array Keyed):Prop:=r.toList.Perm (p.toList++q.toList)/\r.toList.Pairwise (le blt)
theorem Dy{p:Array Keyed}{i:Nat}{x:Keyed}(h:p[i]? = some x):p.toList[i]? = some x:=by simpa using h
theorem Ew{p:Array Keyed}{i:Nat}(h:i<p.size):∃x,p[i]? = some x:=⟨p[i],by simp [h]⟩
theorem Hv{p:Array Keyed}{i:Nat}{x:Keyed}(h:p[i]? = some x):x∈p.toList:=Au (Dy h)
theorem fU{α:Type}{l:List α}{i:Nat}{z:α}(h:z∈l.drop i):∃k,l[i+k]? = some z:=by
 obtain ⟨k,hk,e⟩:=Fh.mp h
 exact ⟨k,by rw[<- Vk,Am hk,e]⟩
theorem Jk(C:Cmp prog w A s kd Ok blt){l:List Keyed}(sl:l.Pairwise (le blt)){i j:Nat}{x y:Keyed}(hij:i<=j)(hx:l[i]? = some x)(hy:l[j]? = some y):le blt x y:=by
 by_cases e:i=j
 ·subst e
  rw[hx] at hy
  cases hy
  exact C.refl x
 ·obtain ⟨hi,ex⟩:=Ak.mp hx
  obtain ⟨hj,ey⟩:=Ak.mp hy
  have:=Dg.mp sl i j hi hj (by omega)
  rw[ex,ey] at this
  exact this
theorem Mo(C:Cmp prog w A s kd Ok blt){l:List Keyed}(sl:l.Pairwise (le blt)){i:Nat}{x y:Keyed}(hx:l[i]? = some x)(h:le blt y x):∀z∈l.drop i,le blt y z:=λz hz=>by
 obtain ⟨k,hk⟩:=fU hz
 exact C.trans h (Jk C sl (Ox i k) hx hk)
abbrev LI(blt:Keyed->Keyed->Bool)(p q out:Array Keyed)(i j:Nat):Prop:=MI (le blt) p.toList q.toList out.toList i j
theorem Lk(out:Array Keyed)(x:Keyed):(out.push x).toList=out.toList++[x]:=by simp
theorem Two.last_end(C:Cmp prog w A s kd Ok blt){p q out:Array Keyed}{x0 y0 xl:Keyed}(T:Two Ok blt p q x0 y0 xl){i j:Nat}(M:LI blt p q out i j)(hi:i+1=p.size):hZ blt p q (lst p q out i j):=by
 have h:=M.endYX T.sp T.sq (λy hy x hx=>?_)
 ·rw[<- tN] at h
  exact h
 ·obtain ⟨k,hk⟩:=fU hx
  have : k=0:=by
   have:=(Ak.mp hk).1
   rw[Ax] at this
   omega
  subst this
  have e:x=xl:=by
   have:=Dy T.hxl
   rw[show p.size - 1=i+0 by omega,hk] at this
   exact Bj this
  rw[e]
  exact C.ofLt (T.last y (List.mem_of_mem_drop hy))
theorem Two.done_end{p q out:Array Keyed}{x0 y0 xl:Keyed}(T:Two Ok blt p q x0 y0 xl){i j:Nat}(M:LI blt p q out i j)(hj:q.size<=j):hZ blt p q (dn p q out i j):=by
 have h:=M.endX T.sp (by rw[Ax]; exact hj)
 rw[<- vZ] at h
 exact h
def E8(blt:Keyed->Keyed->Bool)(p q:Array Keyed)(st:Bq)(n:Nat)(r:ForInStep wK)(st':Bq):Prop:=Kept st st'/\match r with
 | .done (some r,_)=>hZ blt p q r
 | .done (none,out,i,j,_)=>LI blt p q out i j/\i+1<p.size/\j<q.size/\n<i+j
 | .yield (none,out,i,j,_)=>LI blt p q out i j/\i+1<p.size/\j<q.size/\n<i+j
 | .yield (some _,_)=>False
theorem kF(C:Cmp prog w A s kd Ok blt){p q out:Array Keyed}{x0 y0 xl:Keyed}(T:Two Ok blt p q x0 y0 xl){i j g ac k n:Nat}{st0 st:Bq}(kp:Kept st0 st)(M:LI blt p q out i j)(hi:i+1<p.size)(hj:j<q.size)(hn:n<=i+j){x:Keyed}(hx:p[i]? = some x)(hq:∀z∈q.toList.drop j,le blt x z):wpS (model prog w) A E s (vF p q out i j g ac k) (E8 blt p q st0 n) st:=by
 unfold vF
 refine Aw (Et hx ?_)
 have M1:LI blt p q (out.push x) (i+1) j:=by
  have:=M.pushX T.sp (Dy hx) hq
  rw[<- Lk] at this
  exact this
 by_cases h1:i+1+1=p.size
 ·rw[if_pos (by rw[h1]; exact beq_self_eq_true _)]
  exact Be ⟨kp,T.last_end C M1 h1⟩
 ·rw[if_neg (λz=>h1 (Dv z))]
  by_cases h2:(decide (ac<7) && decide (k<7))=true
  ·rw[if_pos h2]
   exact Be ⟨kp,M1,by omega,hj,by omega⟩
  ·rw[if_neg h2]
   exact Be ⟨kp,M1,by omega,hj,by omega⟩
theorem kU(C:Cmp prog w A s kd Ok blt){p q out:Array Keyed}{x0 y0 xl:Keyed}(T:Two Ok blt p q x0 y0 xl){i j g ac bc n:Nat}{st0 st:Bq}(kp:Kept st0 st)(hk:kindOf st=kd)(M:LI blt p q out i j)(hi:i+1<p.size)(hj:j<q.size)(hn:n<=i+j){x y:Keyed}(hx:p[i]? = some x)(hy:q[j]? = some y)(hyx:blt y x=true):wpS (model prog w) A E s (wU p q out i j g ac bc) (E8 blt p q st0 n) st:=by
 unfold wU
 refine Aw (Et hy ?_)
 have M1:LI blt p q (out.push y) i (j+1):=by
  have:=M.pushY T.sq (Dy hy) (Mo C T.sp (Dy hx) (C.ofLt hyx))
  rw[<- Lk] at this
  exact this
 by_cases h1:j+1=q.size
 ·rw[if_pos (by rw[h1]; exact beq_self_eq_true _)]
  exact Be ⟨kp,T.done_end M1 (by omega)⟩
 ·rw[if_neg (λz=>h1 (Dv z))]
  refine Aw (Et hx ?_)
  have R:Row Ok q (j+1) (q.size - (j+1)) (λm=>q.getD (j+1+m) y):=⟨λm hm=>?_,λm hm=>?_⟩
  ·refine Aw (Lj C R (T.op x (Hv hx)) hk (by omega) (λa b hab hb q1=>?_) λk hk1 t1 t2=>?_)
   ·obtain ⟨ya,ea⟩:=Ew (p:=q) (i:=j+1+a) (by omega)
    obtain ⟨yb,eb⟩:=Ew (p:=q) (i:=j+1+b) (by omega)
    have ga:q.getD (j+1+a) y=ya:=by simp [Dm,ea]
    have gb:q.getD (j+1+b) y=yb:=by simp [Dm,eb]
    simp only[ga,gb,Fm,if_true] at q1 ⊢
    exact C.leLt (Jk C T.sq (by omega) (Dy ea) (Dy eb)) q1
   ·dsimp only
    have val:∀m yy,q[j+1+m]? = some yy->q.getD (j+1+m) y=yy:=λm yy e=>by simp [Dm,e]
    have M2:LI blt p q (out.push y++q.extract (j+1) (j+1+k)) i (j+1+k):=by
     have:=M1.blockY T.sq k (by rw[Ax]; omega) (λm hm yy ey=>by
      have ey':q[j+1+m]? = some yy:=by simpa using ey
      have:=t1 m hm
      rw[val m yy ey'] at this
      simp only[Fm,if_true] at this
      exact Mo C T.sp (Dy hx) (C.ofLt this))
     rw[<- Ta,<- Cr] at this
     exact this
    by_cases h2:k > 0
    ·rw[if_pos h2]
     by_cases h3:j+1+k=q.size
     ·rw[if_pos (by rw[h3]; exact beq_self_eq_true _)]
      exact Be ⟨kp,T.done_end M2 (by omega)⟩
     ·rw[if_neg (λz=>h3 (Dv z))]
      obtain ⟨yk,ek⟩:=Ew (p:=q) (i:=j+1+k) (by omega)
      refine kF C T kp M2 hi (by omega) (by omega) hx (Mo C T.sq (Dy ek) ?_)
      have:=t2 k (Ai _) (by omega)
      rw[val k yk ek] at this
      have z:blt yk x=false:=by simpa only [Fm,if_true] using this
      exact z
    ·rw[if_neg h2]
     have hk0:k=0:=by omega
     subst hk0
     obtain ⟨yk,ek⟩:=Ew (p:=q) (i:=j+1) (by omega)
     refine kF C T kp M1 hi (by omega) (by omega) hx (Mo C T.sq (Dy ek) ?_)
     have:=t2 0 (Ai _) (by omega)
     rw[val 0 yk ek] at this
     have z:blt yk x=false:=by simpa only [Fm,if_true] using this
     exact z
  ·obtain ⟨ya,ea⟩:=Ew (p:=q) (i:=j+1+m) (by omega)
   rw[ea]
   simp [Dm,ea]
  ·obtain ⟨ya,ea⟩:=Ew (p:=q) (i:=j+1+m) (by omega)
   have : q.getD (j+1+m) y=ya:=by simp [Dm,ea]
   rw[this]
   exact T.oq ya (Hv ea)
theorem vY(C:Cmp prog w A s kd Ok blt){p q out:Array Keyed}{x0 y0 xl:Keyed}(T:Two Ok blt p q x0 y0 xl){i j g ac bc n:Nat}{st0 st:Bq}(kp:Kept st0 st)(hk:kindOf st=kd)(M:LI blt p q out i j)(hi:i+1<p.size)(hj:j<q.size)(hn:n<=i+j):wpS (model prog w) A E s (zO p q out i j g ac bc) (E8 blt p q st0 n) st:=by
 unfold zO
 refine Aw (Qk λst1 kp1=>?_)
 have kp':=kp.trans kp1
 have hk':kindOf st1=kd:=kp1.kind.trans hk
 obtain ⟨y,hy⟩:=Ew (p:=q) hj
 refine Aw (Et hy ?_)
 have val:∀m xx,p[i+m]? = some xx->p.getD (i+m) y=xx:=λm xx e=>by simp [Dm,e]
 have R:Row Ok p i (p.size - i) (λm=>p.getD (i+m) y):=⟨λm hm=>by
  obtain ⟨xa,ea⟩:=Ew (p:=p) (i:=i+m) (by omega)
  rw[val m xa ea,ea],λm hm=>by
  obtain ⟨xa,ea⟩:=Ew (p:=p) (i:=i+m) (by omega)
  show Ok (p.getD (i+m) y)
  rw[val m xa ea]
  exact T.op xa (Hv ea)⟩
 refine Aw (Lj C R (T.oq y (Hv hy)) hk' (by omega) (λa b hab hb q1=>?_) λk hk1 t1 t2=>?_)
 ·obtain ⟨xa,ea⟩:=Ew (p:=p) (i:=i+a) (by omega)
  obtain ⟨xb,eb⟩:=Ew (p:=p) (i:=i+b) (by omega)
  simp only[val a xa ea,val b xb eb,Fm,By,if_false,Ih] at q1 ⊢
  exact C.trans (Jk C T.sp (by omega) (Dy ea) (Dy eb)) q1
 ·dsimp only
  -- the last one is beyond y: so k does not reach it
  have hkl:i+k+1<=p.size:=by
   rcases Nat.lt_or_ge (i+k) p.size with z | z
   ·omega
   ·exfalso
    have:=t1 (p.size - 1 - i) (by omega)
    have e:p[i+(p.size - 1 - i)]? = some xl:=by
     rw[show i+(p.size - 1 - i)=p.size - 1 by omega]
     exact T.hxl
    rw[val _ xl e] at this
    simp only[Fm,By,if_false,T.last y (Hv hy),Bool.not_true] at this
  have M1:LI blt p q (out++p.extract i (i+k)) (i+k) j:=by
   have:=M.blockX T.sp k (by rw[Ax]; omega) (λm hm xx ex=>by
    have ex':p[i+m]? = some xx:=by simpa using ex
    have:=t1 m hm
    rw[val m xx ex'] at this
    simp only[Fm,By,if_false,Ih] at this
    exact Mo C T.sq (Dy hy) this)
   rw[<- Ta,<- Cr] at this
   exact this
  obtain ⟨xk,ek⟩:=Ew (p:=p) (i:=i+k) (by omega)
  have hyx:blt y xk=true:=by
   have:=t2 k (Ai _) (by omega)
   rw[val k xk ek] at this
   simpa only [Fm,By,if_false,Vl] using this
  by_cases h2:k > 0
  ·rw[if_pos h2]
   by_cases h3:i+k+1=p.size
   ·rw[if_pos (by rw[h3]; exact beq_self_eq_true _)]
    exact Be ⟨kp',T.last_end C M1 h3⟩
   ·rw[if_neg (λz=>h3 (Dv z)),if_neg (λz=>by have:=Dv z; omega)]
    exact kU C T kp' hk' M1 (by omega) hj (by omega) ek hy hyx
  ·rw[if_neg h2]
   have hk0:k=0:=by omega
   subst hk0
   exact kU C T kp' hk' M hi hj hn ek hy hyx
theorem jA(C:Cmp prog w A s kd Ok blt){p q:Array Keyed}{x0 y0 xl:Keyed}(T:Two Ok blt p q x0 y0 xl){st:Bq}(hk:kindOf st=kd){Q:Array Keyed->Bq->Prop}(h:∀r st',Kept st st'->hZ blt p q r->Q r st'):wpS (model prog w) A E s (fQ p q) Q st:=by
 have p0:0<p.size:=by
  have:=(Ir.mp T.hx0).1
  exact this
 have q0:0<q.size:=by
  have:=(Ir.mp T.hy0).1
  exact this
 have M0:LI blt p q #[y0] 0 1:=by
  have m:LI blt p q #[] 0 0:=⟨by simp,by simp,λo ho=>by simp at ho,λo ho=>by simp at ho⟩
  have:=m.pushY T.sq (Dy T.hy0) (Mo C T.sp (Dy T.hx0) (C.ofLt T.first))
  simpa using this
 unfold fQ
 refine Aw (Qd ?_)
 refine Aw (Et T.hy0 ?_)
 dsimp only
 by_cases h1:1=q.size
 ·rw[if_pos (by rw[<- h1]; rfl)]
  exact Be (h _ _ (Kept.refl _) (T.done_end M0 (by omega)))
 rw[if_neg (λz=>h1 (Dv z))]
 by_cases h2:0+1=p.size
 ·rw[if_pos (by rw[<- h2]; rfl)]
  exact Be (h _ _ (Kept.refl _) (T.last_end C M0 (by omega)))
 rw[if_neg (λz=>h2 (Dv z))]
 refine Aw (Lb ?_)
 refine Aw (Fw (Eb
  (I:=λx c st'=>Kept st st'/\∃out i j g,c=(none,out,i,j,g)/\LI blt p q out i j/\i+1<p.size/\j<q.size/\x+1<=i+j)
  (Q:=λc st'=>Kept st st'/\∃r Gq,c=(some r,Gq)/\hZ blt p q r) ?_ ?_ ⟨Kept.refl _,_,0,1,_,rfl,M0,by omega,by omega,by omega⟩) ?_)
 ·(intro x c st1 _ hx q_; obtain ⟨kp1,out,i,j,g,rfl,M,hi,hj,hn⟩ := q_)
  dsimp only
  -- one by one
  refine Aw (Fw (Eb
   (I:=λ_ c st'=>st'=st1/\∃out i j ac bc,c=(none,out,i,j,ac,bc)/\LI blt p q out i j/\i+1<p.size/\j<q.size/\x+1<=i+j)
   (Q:=λc st'=>st'=st1/\((∃r Gq,c=(some r,Gq)/\hZ blt p q r)\/∃out i j ac bc,c=(none,out,i,j,ac,bc)/\LI blt p q out i j/\i+1<p.size/\j<q.size/\x+1<=i+j)) ?_ ?_ ⟨rfl,out,i,j,0,0,rfl,M,hi,hj,hn⟩) ?_)
  ·(intro z c st2 _ hz q_; obtain ⟨rfl,out,i,j,ac,bc,rfl,M,hi,hj,hn⟩ := q_)
   dsimp only
   obtain ⟨yy,hy⟩:=Ew (p:=q) hj
   obtain ⟨xx,hx⟩:=Ew (p:=p) (i:=i) (by omega)
   refine Aw (Et hy ?_)
   refine Aw (Et hx ?_)
   refine Aw (gO C (kp1.kind.trans hk) (T.oq yy (Hv hy)) (T.op xx (Hv hx)) ?_)
   dsimp only
   cases hb:blt yy xx with
   | true =>
    rw[if_pos rfl]
    refine Aw (Et hy ?_)
    have M1:LI blt p q (out.push yy) i (j+1):=by
     have:=M.pushY T.sq (Dy hy) (Mo C T.sp (Dy hx) (C.ofLt hb))
     rw[<- Lk] at this
     exact this
    by_cases e1:j+1=q.size
    ·rw[if_pos (by rw[e1]; exact beq_self_eq_true _)]
     exact Be ⟨rfl,.inl ⟨_,_,rfl,T.done_end M1 (by omega)⟩⟩
    ·rw[if_neg (λz=>e1 (Dv z))]
     split
     ·exact Be ⟨rfl,.inr ⟨_,_,_,_,_,rfl,M1,hi,by omega,by omega⟩⟩
     ·exact Be ⟨rfl,_,_,_,_,_,rfl,M1,hi,by omega,by omega⟩
   | false =>
    rw[if_neg Bx]
    refine Aw (Et hx ?_)
    have M1:LI blt p q (out.push xx) (i+1) j:=by
     have:=M.pushX T.sp (Dy hx) (Mo C T.sq (Dy hy) hb)
     rw[<- Lk] at this
     exact this
    by_cases e1:i+1+1=p.size
    ·rw[if_pos (by rw[e1]; exact beq_self_eq_true _)]
     exact Be ⟨rfl,.inl ⟨_,_,rfl,T.last_end C M1 (by omega)⟩⟩
    ·rw[if_neg (λz=>e1 (Dv z))]
     split
     ·exact Be ⟨rfl,.inr ⟨_,_,_,_,_,rfl,M1,by omega,hj,by omega⟩⟩
     ·exact Be ⟨rfl,_,_,_,_,_,rfl,M1,by omega,hj,by omega⟩
  ·(intro c st2 q_; obtain ⟨rfl,out,i,j,ac,bc,rfl,M⟩ := q_)
   exact ⟨rfl,.inr ⟨out,i,j,ac,bc,rfl,M⟩⟩
  ·rintro c st2 ⟨rfl,hc⟩
   rcases hc with hc | hc
   ·obtain ⟨r,Gq,rfl,hr⟩:=hc
    exact Be ⟨kp1,r,_,rfl,hr⟩
   ·obtain ⟨out,i,j,ac,bc,rfl,M,hi,hj,hn⟩:=hc
    dsimp only
    refine Aw (Qd ?_)
    -- the gallop
    refine Aw (Fw (Eb
     (I:=λy c st'=>Kept st st'/\∃out i j g ac bc,c=(none,out,i,j,g,ac,bc)/\LI blt p q out i j/\i+1<p.size/\j<q.size/\(if y=0 then x+1<=i+j else x+2<=i+j))
     (Q:=λc st'=>Kept st st'/\((∃r Gq,c=(some r,Gq)/\hZ blt p q r)\/∃out i j g ac bc,c=(none,out,i,j,g,ac,bc)/\LI blt p q out i j/\i+1<p.size/\j<q.size/\x+2<=i+j)) ?_ ?_
     ⟨kp1,out,i,j,_,ac,bc,rfl,M,hi,hj,by rw[if_pos rfl]; exact hn⟩) ?_)
    ·(intro y c Pq _ hy q_; obtain ⟨kp3,out,i,j,g,ac,bc,rfl,M,hi,hj,hn⟩ := q_)
     have hn':x+1<=i+j:=by split at hn <;> omega
     have key:∀g',wpS (model prog w) A E s (zO p q out i j g' ac bc) (E8 blt p q st (x+1)) Pq:=λg'=>vY C T kp3 (kp3.kind.trans hk) M hi hj hn'
     dsimp only
     refine Fw (?_:wpS (model prog w) A E s _ (E8 blt p q st (x+1)) Pq) λr st4 hr=>?_
     ·by_cases hg:g > 1
      ·rw[if_pos hg]
       exact key _
      ·rw[if_neg hg]
       exact key _
     ·obtain ⟨kp4,hr⟩:=hr
      match r,hr with
      | .done (some r,Gq),hr=>exact ⟨kp4,.inl ⟨r,Gq,rfl,hr⟩⟩
      | .done (none,out,i,j,g,ac,bc),hr=>exact ⟨kp4,.inr ⟨out,i,j,g,ac,bc,rfl,hr.1,hr.2.1,hr.2.2.1,by have:=hr.2.2.2; omega⟩⟩
      | .yield (none,out,i,j,g,ac,bc),hr=>exact ⟨kp4,out,i,j,g,ac,bc,rfl,hr.1,hr.2.1,hr.2.2.1,by rw[if_neg (by omega)]; have:=hr.2.2.2; omega⟩
    ·(intro c Pq q_; obtain ⟨kp3,out,i,j,g,ac,bc,rfl,M,hi,hj,hn⟩ := q_)
     rw[if_neg (by omega)] at hn
     exact ⟨kp3,.inr ⟨out,i,j,g,ac,bc,rfl,M,hi,hj,hn⟩⟩
    ·rintro c Pq ⟨kp3,hc⟩
     rcases hc with hc | hc
     ·obtain ⟨r,Gq,rfl,hr⟩:=hc
      exact Be ⟨kp3,r,_,rfl,hr⟩
     ·obtain ⟨out,i,j,g,ac,bc,rfl,M,hi,hj,hn⟩:=hc
      dsimp only
      refine Aw (Qk λst4 kp4=>?_)
      exact Be ⟨kp3.trans kp4,out,i,j,_,rfl,M,hi,hj,by omega⟩
 ·(intro c st1 q_; obtain ⟨kp1,out,i,j,g,rfl,M,hi,hj,hn⟩ := q_)
  exfalso
  have : max 0 (p.size+q.size)=p.size+q.size:=by omega
  rw[this] at hn
  omega
 ·(intro c st1 q_; obtain ⟨kp1,r,Gq,rfl,hr⟩ := q_)
  exact Be (h r st1 kp1 hr)
end
def gF:Array Keyed->Array Keyed->StateT Bq Sem (Array Keyed):=sortPriv% PySem.Builtin.mergeHi
abbrev zP(p q out:Array Keyed)(m n:Nat):Array Keyed:=p.extract 0 m++q.extract 0 n++out.reverse
abbrev M8(p q out:Array Keyed)(m n:Nat):Array Keyed:=q.extract 0 n++p.extract 0 m++out.reverse
abbrev vW:=Option (Array Keyed)×Nat×Nat×Array Keyed×Nat×Nat×Nat
def uM(p q out:Array Keyed)(m n g ac k:Nat):StateT Bq Sem (ForInStep vW):=do
 let x <- elem' p (m - 1)
 if (m - 1 == 0)=true then pure (Cm (some (zP p q (out.push x) (m - 1) n),m - 1,n,out.push x,g,ac,k))
 else if (decide (ac<7) && decide (k<7))=true then pure (Cm (none,m - 1,n,out.push x,g,ac,k))
 else pure (Eu (none,m - 1,n,out.push x,g,ac,k))
def uX(p q out:Array Keyed)(m n g ac bc:Nat):StateT Bq Sem (ForInStep vW):=do
 let y <- elem' q (n - 1)
 if (n - 1 == 1)=true then pure (Cm (some (M8 p q (out.push y) m (n - 1)),m,n - 1,out.push y,g,ac,bc))
 else do
  let x <- elem' p (m - 1)
  let some t <- Qh true x q 0 (n - 1) (n - 1 - 1) | pure (Cm (some (zP p q (out.push y) m (n - 1)),m,n - 1,out.push y,g,ac,bc))
  if n - 1 - t > 0 then
   if (t == 1)=true then pure (Cm (some (M8 p q (out.push y++(q.extract t (n - 1)).reverse) m t),m,t,out.push y++(q.extract t (n - 1)).reverse,g,ac,n - 1 - t))
   else if (t == 0)=true then pure (Cm (some (zP p q (out.push y++(q.extract t (n - 1)).reverse) m t),m,t,out.push y++(q.extract t (n - 1)).reverse,g,ac,n - 1 - t))
   else uM p q (out.push y++(q.extract t (n - 1)).reverse) m t g ac (n - 1 - t)
  else uM p q (out.push y) m (n - 1) g ac (n - 1 - t)
def t8(p q out:Array Keyed)(m n g ac bc:Nat):StateT Bq Sem (ForInStep vW):=do
 Wv g
 let y <- elem' q (n - 1)
 let some t <- Qh false y p 0 m (m - 1) | pure (Cm (some (zP p q out m n),m,n,out,g,ac,bc))
 if m - t > 0 then
  if (t == 0)=true then pure (Cm (some (zP p q (out++(p.extract t m).reverse) t n),t,n,out++(p.extract t m).reverse,g,m - t,bc))
  else uX p q (out++(p.extract t m).reverse) t n g (m - t) bc
 else uX p q out m n g (m - t) bc
section
variable{α:Type}{R:α->α->Prop}{xs ys out:List α}{i j:Nat}
theorem MI.swap(M:MI R xs ys out i j):MI R ys xs out j i:=⟨M.perm.trans Gf,M.srt,M.ly,M.lx⟩
theorem MI.endXY(M:MI R xs ys out i j)(sx:xs.Pairwise R)(sy:ys.Pairwise R)(h:∀x∈xs.drop i,∀y∈ys.drop j,R x y):(out++xs.drop i++ys.drop j).Perm (xs++ys)/\(out++xs.drop i++ys.drop j).Pairwise R:=by
 have:=M.swap.endYX sy sx h
 exact ⟨this.1.trans Gf,this.2⟩
end
abbrev ge(blt:Keyed->Keyed->Bool)(x y:Keyed):Prop:=le blt y x
abbrev HI(blt:Keyed->Keyed->Bool)(p q out:Array Keyed)(m n:Nat):Prop:=MI (ge blt) p.toList.reverse q.toList.reverse out.toList (p.size - m) (q.size - n)
theorem Hz(p:Array Keyed){m:Nat}(h:m<=p.size):p.toList.reverse.drop (p.size - m)=(p.toList.take m).reverse:=by
 rw[List.drop_reverse,Ax]
 congr 2
 omega
theorem tE{p:Array Keyed}{m:Nat}{x:Keyed}(h0:0<m)(h:m<=p.size)(e:p[m - 1]? = some x):p.toList.reverse[p.size - m]? = some x:=by
 rw[Qy (by rw[Ax]; omega),Ax,show p.size - 1 - (p.size - m)=m - 1 by omega]
 exact Dy e
theorem vG(p:Array Keyed)(m:Nat):(p.extract 0 m).toList=p.toList.take m:=by
 rw[Lf,Ji,Rz,Nat.sub_zero]
theorem L0(p:Array Keyed){t m:Nat}(h1:t<=m)(h2:m<=p.size):(p.extract t m).reverse.toList=(p.toList.reverse.drop (p.size - m)).take (m - t):=by
 rw[Hz p h2,List.take_reverse,Rj,Lf,Ji,Cp,Ax,List.drop_take]
 congr 2
 ·omega
 ·congr 1
  omega
section
variable{prog:Bu}{w:World}{A:Cq}{s:Af}{kd:Kf}{Ok:Keyed->Prop}{blt:Keyed->Keyed->Bool}{E:Value->Af->Prop}
theorem Hy{l:List Keyed}(h:l.Pairwise (le blt)):l.reverse.Pairwise (ge blt):=Qx.mpr h
theorem Two.dn_end{p q out:Array Keyed}{x0 y0 xl:Keyed}(T:Two Ok blt p q x0 y0 xl){m n:Nat}(M:HI blt p q out m n)(hm:m<=p.size)(hn:n<=q.size)(h:m=0\/n=0):hZ blt p q (zP p q out m n):=by
 have h1:=M.endYX (Hy T.sp) (Hy T.sq) (λy hy x hx=>by
  rw[Hz p hm] at hx
  rw[Hz q hn] at hy
  rcases h with h | h
  ·subst h; simp at hx
  ·subst h; simp at hy)
 rw[Hz p hm,Hz q hn] at h1
 have e:(zP p q out m n).toList=(out.toList++(q.toList.take n).reverse++(p.toList.take m).reverse).reverse:=by
  rw[Cr,Cr,vG,vG,Rj]
  simp
 refine ⟨?_,?_⟩
 ·rw[e]
  refine (Ic _).trans (h1.1.trans ?_)
  exact List.Perm.append (Ic _) (Ic _)
 ·rw[e]
  exact Qx.mpr h1.2
theorem Two.fs_end(C:Cmp prog w A s kd Ok blt){p q out:Array Keyed}{x0 y0 xl:Keyed}(T:Two Ok blt p q x0 y0 xl){m n:Nat}(M:HI blt p q out m n)(hm:m<=p.size)(hn:n=1)(hq:1<=q.size):hZ blt p q (M8 p q out m n):=by
 subst hn
 have h1:=M.endXY (Hy T.sp) (Hy T.sq) (λx hx y hy=>by
  rw[Hz p hm] at hx
  rw[Hz q hq] at hy
  have ey:y=y0:=by
   have : y∈q.toList.take 1:=Oo.mp hy
   obtain ⟨k,hk,e⟩:=Fh.mp this
   have hk0:k=0:=by
    rw[Cp] at hk
    omega
   subst hk0
   have e2:q.toList[0]? = some y:=by
    rw[<- e,<- Am hk,Dl (by omega)]
   rw[Dy T.hy0] at e2
   exact (Bj e2).symm
  rw[ey]
  have hx':x∈p.toList:=List.mem_of_mem_take (Oo.mp hx)
  obtain ⟨k,hk,e⟩:=Fh.mp hx'
  have e2:p.toList[k]? = some x:=by rw[<- e,Am hk]
  exact C.trans (C.ofLt T.first) (Jk C T.sp (Dj k) (Dy T.hx0) e2))
 rw[Hz p hm,Hz q hq] at h1
 have e:(M8 p q out m 1).toList=(out.toList++(p.toList.take m).reverse++(q.toList.take 1).reverse).reverse:=by
  rw[Cr,Cr,vG,vG,Rj]
  simp
 refine ⟨?_,?_⟩
 ·rw[e]
  refine (Ic _).trans (h1.1.trans ?_)
  exact List.Perm.append (Ic _) (Ic _)
 ·rw[e]
  exact Qx.mpr h1.2
theorem Qm(C:Cmp prog w A s kd Ok blt){p:Array Keyed}(sp:p.toList.Pairwise (le blt)){m:Nat}{x y:Keyed}(h0:0<m)(hm:m<=p.size)(hx:p[m - 1]? = some x)(h:le blt x y):∀z∈p.toList.reverse.drop (p.size - m),ge blt y z:=λz hz=>by
 rw[Hz p hm] at hz
 obtain ⟨k,hk,e⟩:=Fh.mp (Oo.mp hz)
 have e2:p.toList[k]? = some z:=by
  rw[Cp] at hk
  rw[<- e,<- Am (by rw[Cp]; exact hk),Dl (by omega)]
 rw[Cp] at hk
 exact C.trans (Jk C sp (by omega) e2 (Dy hx)) h
theorem HI.pushX(C:Cmp prog w A s kd Ok blt){p q out:Array Keyed}{x0 y0 xl:Keyed}(T:Two Ok blt p q x0 y0 xl){m n:Nat}(M:HI blt p q out m n)(h0:0<m)(hm:m<=p.size){x:Keyed}(hx:p[m - 1]? = some x)(h:∀z∈q.toList.reverse.drop (q.size - n),ge blt x z):HI blt p q (out.push x) (m - 1) n:=by
 have:=MI.pushX M (Hy T.sp) (tE h0 hm hx) h
 rw[<- Lk,show p.size - m+1=p.size - (m - 1) by omega] at this
 exact this
theorem HI.pushY(C:Cmp prog w A s kd Ok blt){p q out:Array Keyed}{x0 y0 xl:Keyed}(T:Two Ok blt p q x0 y0 xl){m n:Nat}(M:HI blt p q out m n)(h0:0<n)(hn:n<=q.size){y:Keyed}(hy:q[n - 1]? = some y)(h:∀z∈p.toList.reverse.drop (p.size - m),ge blt y z):HI blt p q (out.push y) m (n - 1):=by
 have:=MI.pushY M (Hy T.sq) (tE h0 hn hy) h
 rw[<- Lk,show q.size - n+1=q.size - (n - 1) by omega] at this
 exact this
def J1(blt:Keyed->Keyed->Bool)(p q:Array Keyed)(st:Bq)(b:Nat)(r:ForInStep vW)(st':Bq):Prop:=Kept st st'/\match r with
 | .done (some r,_)=>hZ blt p q r
 | .done (none,m,n,out,_)=>HI blt p q out m n/\0<m/\m<=p.size/\1<n/\n<=q.size/\m+n<b
 | .yield (none,m,n,out,_)=>HI blt p q out m n/\0<m/\m<=p.size/\1<n/\n<=q.size/\m+n<b
 | .yield (some _,_)=>False
theorem lJ(C:Cmp prog w A s kd Ok blt){p q out:Array Keyed}{x0 y0 xl:Keyed}(T:Two Ok blt p q x0 y0 xl){m n g ac k b:Nat}{st0 st:Bq}(kp:Kept st0 st)(M:HI blt p q out m n)(m0:0<m)(hm:m<=p.size)(n0:1<n)(hn:n<=q.size)(hb:m+n<=b){x:Keyed}(hx:p[m - 1]? = some x)(hq:∀z∈q.toList.reverse.drop (q.size - n),ge blt x z):wpS (model prog w) A E s (uM p q out m n g ac k) (J1 blt p q st0 b) st:=by
 unfold uM
 refine Aw (Et hx ?_)
 have M1:=HI.pushX C T M m0 hm hx hq
 by_cases h1:m - 1=0
 ·rw[if_pos (by rw[h1]; rfl)]
  exact Be ⟨kp,T.dn_end M1 (by omega) hn (.inl h1)⟩
 ·rw[if_neg (λz=>h1 (Dv z))]
  by_cases h2:(decide (ac<7) && decide (k<7))=true
  ·rw[if_pos h2]
   exact Be ⟨kp,M1,by omega,by omega,n0,hn,by omega⟩
  ·rw[if_neg h2]
   exact Be ⟨kp,M1,by omega,by omega,n0,hn,by omega⟩
theorem kP(C:Cmp prog w A s kd Ok blt){p q out:Array Keyed}{x0 y0 xl:Keyed}(T:Two Ok blt p q x0 y0 xl){m n g ac bc b:Nat}{st0 st:Bq}(kp:Kept st0 st)(hk:kindOf st=kd)(M:HI blt p q out m n)(m0:0<m)(hm:m<=p.size)(n0:1<n)(hn:n<=q.size)(hb:m+n<=b){x y:Keyed}(hx:p[m - 1]? = some x)(hy:q[n - 1]? = some y)(hxy:le blt x y):wpS (model prog w) A E s (uX p q out m n g ac bc) (J1 blt p q st0 b) st:=by
 unfold uX
 refine Aw (Et hy ?_)
 have M1:=HI.pushY C T M (by omega) hn hy (Qm C T.sp m0 hm hx hxy)
 by_cases h1:n - 1=1
 ·rw[if_pos (by rw[h1]; rfl)]
  exact Be ⟨kp,T.fs_end C M1 hm h1 (by omega)⟩
 rw[if_neg (λz=>h1 (Dv z))]
 refine Aw (Et hx ?_)
 have val:∀i yy,q[i]? = some yy->q.getD (0+i) y=yy:=λi yy e=>by rw[Mq]; simp [Dm,e]
 have R:Row Ok q 0 (n - 1) (λi=>q.getD (0+i) y):=⟨λi hi=>by
  obtain ⟨ya,ea⟩:=Ew (p:=q) (i:=i) (by omega)
  rw[val i ya ea,Mq,ea],λi hi=>by
  obtain ⟨ya,ea⟩:=Ew (p:=q) (i:=i) (by omega)
  show Ok (q.getD (0+i) y)
  rw[val i ya ea]
  exact T.oq ya (Hv ea)⟩
 refine Aw (Lj C R (T.op x (Hv hx)) hk (by omega) (λa c hab hc q1=>?_) λt ht t1 t2=>?_)
 ·obtain ⟨ya,ea⟩:=Ew (p:=q) (i:=a) (by omega)
  obtain ⟨yc,ec⟩:=Ew (p:=q) (i:=c) (by omega)
  simp only[val a ya ea,val c yc ec,Fm,if_true] at q1 ⊢
  exact C.leLt (Jk C T.sq hab (Dy ea) (Dy ec)) q1
 dsimp only
 have M2:HI blt p q (out.push y++(q.extract t (n - 1)).reverse) m t:=by
  have:=MI.blockY M1 (Hy T.sq) (n - 1 - t) (by rw[List.length_reverse,Ax]; omega) (λi hi yy ey=>by
   have e1:q[n - 1 - i - 1]? = some yy:=by
    rw[Qy (by rw[Ax]; omega),Ax,show q.size - 1 - (q.size - (n - 1)+i)=n - 1 - i - 1 by omega] at ey
    simpa using ey
   have:=t2 (n - 1 - i - 1) (by omega) (by omega)
   rw[val _ yy e1] at this
   have z:blt yy x=false:=by simpa only [Fm,if_true] using this
   exact Qm C T.sp m0 hm hx z)
  rw[<- L0 q (by omega) (by omega),<- Cr,show q.size - (n - 1)+(n - 1 - t)=q.size - t by omega] at this
  exact this
 -- what is left of q is below x
 have below:∀z∈q.toList.reverse.drop (q.size - t),ge blt x z:=λz hz=>by
  rw[Hz q (by omega)] at hz
  obtain ⟨k,hk',e⟩:=Fh.mp (Oo.mp hz)
  rw[Cp] at hk'
  have e2:q.toList[k]? = some z:=by
   rw[<- e,<- Am (by rw[Cp]; exact hk'),Dl (by omega)]
  have e3:q[k]? = some z:=by simpa using e2
  have:=t1 k (by omega)
  rw[val k z e3] at this
  exact C.ofLt (by simpa only [Fm,if_true] using this)
 by_cases h2:n - 1 - t > 0
 ·rw[if_pos h2]
  by_cases h3:t=1
  ·rw[if_pos (by rw[h3]; rfl)]
   exact Be ⟨kp,T.fs_end C M2 hm h3 (by omega)⟩
  ·rw[if_neg (λz=>h3 (Dv z))]
   by_cases h4:t=0
   ·rw[if_pos (by rw[h4]; rfl)]
    exact Be ⟨kp,T.dn_end M2 hm (by omega) (.inr h4)⟩
   ·rw[if_neg (λz=>h4 (Dv z))]
    exact lJ C T kp M2 m0 hm (by omega) (by omega) (by omega) hx below
 ·rw[if_neg h2]
  have et:t=n - 1:=by omega
  rw[et] at below
  exact lJ C T kp M1 m0 hm (by omega) (by omega) (by omega) hx below
theorem wY(C:Cmp prog w A s kd Ok blt){p q out:Array Keyed}{x0 y0 xl:Keyed}(T:Two Ok blt p q x0 y0 xl){m n g ac bc b:Nat}{st0 st:Bq}(kp:Kept st0 st)(hk:kindOf st=kd)(M:HI blt p q out m n)(m0:0<m)(hm:m<=p.size)(n0:1<n)(hn:n<=q.size)(hb:m+n<=b):wpS (model prog w) A E s (t8 p q out m n g ac bc) (J1 blt p q st0 b) st:=by
 unfold t8
 refine Aw (Qk λst1 kp1=>?_)
 have kp':=kp.trans kp1
 have hk':kindOf st1=kd:=kp1.kind.trans hk
 obtain ⟨y,hy⟩:=Ew (p:=q) (i:=n - 1) (by omega)
 refine Aw (Et hy ?_)
 have val:∀i xx,p[i]? = some xx->p.getD (0+i) y=xx:=λi xx e=>by rw[Mq]; simp [Dm,e]
 have R:Row Ok p 0 m (λi=>p.getD (0+i) y):=⟨λi hi=>by
  obtain ⟨xa,ea⟩:=Ew (p:=p) (i:=i) (by omega)
  rw[val i xa ea,Mq,ea],λi hi=>by
  obtain ⟨xa,ea⟩:=Ew (p:=p) (i:=i) (by omega)
  show Ok (p.getD (0+i) y)
  rw[val i xa ea]
  exact T.op xa (Hv ea)⟩
 refine Aw (Lj C R (T.oq y (Hv hy)) hk' (by omega) (λa c hab hc q1=>?_) λt ht t1 t2=>?_)
 ·obtain ⟨xa,ea⟩:=Ew (p:=p) (i:=a) (by omega)
  obtain ⟨xc,ec⟩:=Ew (p:=p) (i:=c) (by omega)
  simp only[val a xa ea,val c xc ec,Fm,By,if_false,Ih] at q1 ⊢
  exact C.trans (Jk C T.sp hab (Dy ea) (Dy ec)) q1
 dsimp only
 have M1:HI blt p q (out++(p.extract t m).reverse) t n:=by
  have:=MI.blockX M (Hy T.sp) (m - t) (by rw[List.length_reverse,Ax]; omega) (λi hi xx ex=>by
   have e1:p[m - i - 1]? = some xx:=by
    rw[Qy (by rw[Ax]; omega),Ax,show p.size - 1 - (p.size - m+i)=m - i - 1 by omega] at ex
    simpa using ex
   have:=t2 (m - i - 1) (by omega) (by omega)
   rw[val _ xx e1] at this
   have z:blt y xx=true:=by simpa only [Fm,By,if_false,Vl] using this
   exact Qm C T.sq (by omega) hn hy (C.ofLt z))
  rw[<- L0 p (by omega) hm,<- Cr,show p.size - m+(m - t)=p.size - t by omega] at this
  exact this
 have below:∀x,0<t->p[t - 1]? = some x->le blt x y:=λx h0 hx=>by
  have:=t1 (t - 1) (by omega)
  rw[val _ x hx] at this
  have z:blt y x=false:=by simpa only [Fm,By,if_false,Ih] using this
  exact z
 by_cases h2:m - t > 0
 ·rw[if_pos h2]
  by_cases h3:t=0
  ·rw[if_pos (by rw[h3]; rfl)]
   exact Be ⟨kp',T.dn_end M1 (by omega) hn (.inl h3)⟩
  ·rw[if_neg (λz=>h3 (Dv z))]
   obtain ⟨x,hx⟩:=Ew (p:=p) (i:=t - 1) (by omega)
   exact kP C T kp' hk' M1 (by omega) (by omega) n0 hn (by omega) hx hy (below x (by omega) hx)
 ·rw[if_neg h2]
  have et:t=m:=by omega
  subst et
  obtain ⟨x,hx⟩:=Ew (p:=p) (i:=t - 1) (by omega)
  exact kP C T kp' hk' M m0 hm n0 hn hb hx hy (below x m0 hx)
theorem hU(C:Cmp prog w A s kd Ok blt){p q:Array Keyed}{x0 y0 xl:Keyed}(T:Two Ok blt p q x0 y0 xl){st:Bq}(hk:kindOf st=kd){Q:Array Keyed->Bq->Prop}(h:∀r st',Kept st st'->hZ blt p q r->Q r st'):wpS (model prog w) A E s (gF p q) Q st:=by
 have p0:0<p.size:=(Ir.mp T.hx0).1
 have q0:0<q.size:=(Ir.mp T.hy0).1
 obtain ⟨yl,hyl⟩:=Ew (p:=q) (i:=q.size - 1) (by omega)
 have M0:HI blt p q #[xl] (p.size - 1) q.size:=by
  have m:HI blt p q #[] p.size q.size:=⟨by simp,by simp,λo ho=>by simp at ho,λo ho=>by simp at ho⟩
  have:=HI.pushX C T m p0 (Ai _) T.hxl (Qm C T.sq q0 (Ai _) hyl (C.ofLt (T.last yl (Hv hyl))))
  simpa using this
 unfold gF
 refine Aw (Qd ?_)
 refine Aw (Et T.hxl ?_)
 dsimp only
 by_cases h1:p.size - 1=0
 ·rw[if_pos (by rw[h1]; rfl)]
  exact Be (h _ _ (Kept.refl _) (T.dn_end M0 (by omega) (by omega) (.inl h1)))
 rw[if_neg (λz=>h1 (Dv z))]
 by_cases h2:q.size=1
 ·rw[if_pos (by rw[h2]; rfl)]
  exact Be (h _ _ (Kept.refl _) (T.fs_end C M0 (by omega) h2 (by omega)))
 rw[if_neg (λz=>h2 (Dv z))]
 refine Aw (Lb ?_)
 refine Aw (Fw (Eb
  (I:=λx c st'=>Kept st st'/\∃m n out g,c=(none,m,n,out,g)/\HI blt p q out m n/\0<m/\m<=p.size/\1<n/\n<=q.size/\m+n+x+1<=p.size+q.size)
  (Q:=λc st'=>Kept st st'/\∃r Gq,c=(some r,Gq)/\hZ blt p q r) ?_ ?_ ⟨Kept.refl _,_,_,_,_,rfl,M0,by omega,by omega,by omega,by omega,by omega⟩) ?_)
 ·(intro x c st1 _ hx q_; obtain ⟨kp1,m,n,out,g,rfl,M,m0,hm,n0,hn,hb⟩ := q_)
  dsimp only
  -- one by one
  refine Aw (Fw (Eb
   (I:=λ_ c st'=>st'=st1/\∃m n out ac bc,c=(none,m,n,out,ac,bc)/\HI blt p q out m n/\0<m/\m<=p.size/\1<n/\n<=q.size/\m+n+x+1<=p.size+q.size)
   (Q:=λc st'=>st'=st1/\((∃r Gq,c=(some r,Gq)/\hZ blt p q r)\/∃m n out ac bc,c=(none,m,n,out,ac,bc)/\HI blt p q out m n/\0<m/\m<=p.size/\1<n/\n<=q.size/\m+n+x+1<=p.size+q.size)) ?_ ?_ ⟨rfl,m,n,out,0,0,rfl,M,m0,hm,n0,hn,hb⟩) ?_)
  ·(intro z c st2 _ hz q_; obtain ⟨rfl,m,n,out,ac,bc,rfl,M,m0,hm,n0,hn,hb⟩ := q_)
   dsimp only
   obtain ⟨yy,hy⟩:=Ew (p:=q) (i:=n - 1) (by omega)
   obtain ⟨xx,hx⟩:=Ew (p:=p) (i:=m - 1) (by omega)
   refine Aw (Et hy ?_)
   refine Aw (Et hx ?_)
   refine Aw (gO C (kp1.kind.trans hk) (T.oq yy (Hv hy)) (T.op xx (Hv hx)) ?_)
   dsimp only
   cases hlt:blt yy xx with
   | true =>
    rw[if_pos rfl]
    refine Aw (Et hx ?_)
    have M1:=HI.pushX C T M m0 hm hx (Qm C T.sq (by omega) hn hy (C.ofLt hlt))
    by_cases e1:m - 1=0
    ·rw[if_pos (by rw[e1]; rfl)]
     exact Be ⟨rfl,.inl ⟨_,_,rfl,T.dn_end M1 (by omega) hn (.inl e1)⟩⟩
    ·rw[if_neg (λz=>e1 (Dv z))]
     split
     ·exact Be ⟨rfl,.inr ⟨_,_,_,_,_,rfl,M1,by omega,by omega,n0,hn,by omega⟩⟩
     ·exact Be ⟨rfl,_,_,_,_,_,rfl,M1,by omega,by omega,n0,hn,by omega⟩
   | false =>
    rw[if_neg Bx]
    refine Aw (Et hy ?_)
    have M1:=HI.pushY C T M (by omega) hn hy (Qm C T.sp m0 hm hx hlt)
    by_cases e1:n - 1=1
    ·rw[if_pos (by rw[e1]; rfl)]
     exact Be ⟨rfl,.inl ⟨_,_,rfl,T.fs_end C M1 hm e1 (by omega)⟩⟩
    ·rw[if_neg (λz=>e1 (Dv z))]
     split
     ·exact Be ⟨rfl,.inr ⟨_,_,_,_,_,rfl,M1,m0,hm,by omega,by omega,by omega⟩⟩
     ·exact Be ⟨rfl,_,_,_,_,_,rfl,M1,m0,hm,by omega,by omega,by omega⟩
  ·(intro c st2 q_; obtain ⟨rfl,m,n,out,ac,bc,rfl,M⟩ := q_)
   exact ⟨rfl,.inr ⟨m,n,out,ac,bc,rfl,M⟩⟩
  ·rintro c st2 ⟨rfl,hc⟩
   rcases hc with hc | hc
   ·obtain ⟨r,Gq,rfl,hr⟩:=hc
    exact Be ⟨kp1,r,_,rfl,hr⟩
   ·obtain ⟨m,n,out,ac,bc,rfl,M,m0,hm,n0,hn,hb⟩:=hc
    dsimp only
    refine Aw (Qd ?_)
    -- the gallop
    refine Aw (Fw (Eb
     (I:=λy c st'=>Kept st st'/\∃m n out g ac bc,c=(none,m,n,out,g,ac,bc)/\HI blt p q out m n/\0<m/\m<=p.size/\1<n/\n<=q.size/\(if y=0 then m+n+x+1<=p.size+q.size else m+n+x+2<=p.size+q.size))
     (Q:=λc st'=>Kept st st'/\((∃r Gq,c=(some r,Gq)/\hZ blt p q r)\/∃m n out g ac bc,c=(none,m,n,out,g,ac,bc)/\HI blt p q out m n/\0<m/\m<=p.size/\1<n/\n<=q.size/\m+n+x+2<=p.size+q.size)) ?_ ?_
     ⟨kp1,m,n,out,_,ac,bc,rfl,M,m0,hm,n0,hn,by rw[if_pos rfl]; exact hb⟩) ?_)
    ·(intro y c Pq _ hy q_; obtain ⟨kp3,m,n,out,g,ac,bc,rfl,M,m0,hm,n0,hn,hb⟩ := q_)
     have hb':m+n+x+1<=p.size+q.size:=by split at hb <;> omega
     have key:∀g',wpS (model prog w) A E s (t8 p q out m n g' ac bc) (J1 blt p q st (m+n)) Pq:=λg'=>wY C T kp3 (kp3.kind.trans hk) M m0 hm n0 hn (Ai _)
     dsimp only
     refine Fw (?_:wpS (model prog w) A E s _ (J1 blt p q st (m+n)) Pq) λr st4 hr=>?_
     ·by_cases hg:g > 1
      ·rw[if_pos hg]
       exact key _
      ·rw[if_neg hg]
       exact key _
     ·obtain ⟨kp4,hr⟩:=hr
      match r,hr with
      | .done (some r,Gq),hr=>exact ⟨kp4,.inl ⟨r,Gq,rfl,hr⟩⟩
      | .done (none,m',n',out',g',ac',bc'),hr=>exact ⟨kp4,.inr ⟨m',n',out',g',ac',bc',rfl,hr.1,hr.2.1,hr.2.2.1,hr.2.2.2.1,hr.2.2.2.2.1,by have:=hr.2.2.2.2.2; omega⟩⟩
      | .yield (none,m',n',out',g',ac',bc'),hr=>exact ⟨kp4,m',n',out',g',ac',bc',rfl,hr.1,hr.2.1,hr.2.2.1,hr.2.2.2.1,hr.2.2.2.2.1,by rw[if_neg (by omega)]; have:=hr.2.2.2.2.2; omega⟩
    ·(intro c Pq q_; obtain ⟨kp3,m,n,out,g,ac,bc,rfl,M,m0,hm,n0,hn,hb⟩ := q_)
     rw[if_neg (by omega)] at hb
     exact ⟨kp3,.inr ⟨m,n,out,g,ac,bc,rfl,M,m0,hm,n0,hn,hb⟩⟩
    ·rintro c Pq ⟨kp3,hc⟩
     rcases hc with hc | hc
     ·obtain ⟨r,Gq,rfl,hr⟩:=hc
      exact Be ⟨kp3,r,_,rfl,hr⟩
     ·obtain ⟨m,n,out,g,ac,bc,rfl,M,m0,hm,n0,hn,hb⟩:=hc
      dsimp only
      refine Aw (Qk λst4 kp4=>?_)
      exact Be ⟨kp3.trans kp4,m,n,out,_,rfl,M,m0,hm,n0,hn,by omega⟩
 ·(intro c st1 q_; obtain ⟨kp1,m,n,out,g,rfl,M,m0,hm,n0,hn,hb⟩ := q_)
  exfalso
  have : max 0 (p.size+q.size)=p.size+q.size:=by omega
  rw[this] at hb
  omega
 ·(intro c st1 q_; obtain ⟨kp1,r,Gq,rfl,hr⟩ := q_)
  exact Be (h r st1 kp1 hr)
end
def aK:Nat->Nat->StateT Bq Sem (Option Nat):=sortPriv% PySem.Builtin.countRun
def Vr:Nat->Nat->Nat->StateT Bq Sem Bool:=sortPriv% PySem.Builtin.binarySort
def X(xs:Array Keyed)(i:Nat):Keyed:=xs[i]?.getD (Ub,Ub)
theorem Uj{xs:Array Keyed}{i:Nat}(h:i<xs.size):xs[i]? = some (X xs i):=by
 unfold X
 rw[getElem?_pos xs i h]
 rfl
theorem Nm{xs ys:Array Keyed}{i j:Nat}(h:xs[i]? = ys[j]?):X xs i=X ys j:=by unfold X; rw[h]
theorem Pg{xs:Array Keyed}{i j:Nat}(hj:j<=xs.size)(k:Nat):X (mirror xs i j ((j - i) / 2)) k=if i<=k/\k<j then X xs (i+j - 1 - k) else X xs k:=by
 have e:=getElem?_mirror_all (i:=i) hj k
 by_cases h:i<=k/\k<j
 ·rw[if_pos h] at e ⊢; exact Nm e
 ·rw[if_neg h] at e ⊢; exact Nm e
theorem pB{xs:Array Keyed}{src d:Nat}(hs:src<xs.size)(hd:d<=src)(k:Nat):X (bubble xs src d) k=if k=src - d then X xs src else if src - d<k/\k<=src then X xs (k - 1) else X xs k:=by
 have e:=getElem?_bubble hs d hd k
 by_cases h1:k=src - d
 ·rw[if_pos h1] at e ⊢; exact Nm e
 ·rw[if_neg h1] at e ⊢
  by_cases h2:src - d<k/\k<=src
  ·rw[if_pos h2] at e ⊢; exact Nm e
  ·rw[if_neg h2] at e ⊢; exact Nm e
def Ov(blt:Keyed->Keyed->Bool)(xs:Array Keyed)(a b:Nat):Prop:=∀i j,a<=i->i<=j->j<b->le blt (X xs i) (X xs j)
def oO(blt:Keyed->Keyed->Bool)(xs:Array Keyed)(a b:Nat):Prop:=∀i j,a<=i->i<=j->j<b->le blt (X xs j) (X xs i)
structure Good(kd:Kf)(a₀:Array Keyed)(pend:Array (Nat×Nat×Nat))(st:Bq):Prop where
 kind:kindOf st=kd
 fail:Jm st=none
 perm:(arrOf st).Perm a₀
 pd:Bd st=pend
def dW(xs ys:Array Keyed)(a b:Nat):Prop:=∀i,(i<a\/b<=i)->X ys i=X xs i
theorem dW.refl(xs:Array Keyed)(a b:Nat):dW xs xs a b:=λ_ _=>rfl
theorem dW.trans{xs ys zs:Array Keyed}{a b:Nat}(h:dW xs ys a b)(k:dW ys zs a b):dW xs zs a b:=λi hi=>(k i hi).trans (h i hi)
section
variable{prog:Bu}{w:World}{A:Cq}{s:Af}{kd:Kf}{Ok:Keyed->Prop}{blt:Keyed->Keyed->Bool}{E:Value->Af->Prop}{a₀:Array Keyed}{pend:Array (Nat×Nat×Nat)}
theorem Good.size{st:Bq}(g:Good kd a₀ pend st):(arrOf st).size=a₀.size:=g.perm.size_eq
theorem Good.okX{st:Bq}(g:Good kd a₀ pend st)(h0:∀x∈a₀.toList,Ok x){i:Nat}(hi:i<a₀.size):Ok (X (arrOf st) i):=by
 have e:=Uj (xs:=arrOf st) (i:=i) (by rw[g.size]; exact hi)
 exact h0 _ ((Mt.mp g.perm).mem_iff.mp (Hv e))
theorem Good.set{st:Bq}(g:Good kd a₀ pend st){xs:Array Keyed}(h:xs.Perm (arrOf st)):Good kd a₀ pend (setArr st xs):=⟨g.kind,g.fail,h.trans g.perm,g.pd⟩
theorem Tn(C:Cmp prog w A s kd Ok blt){st:Bq}(g:Good kd a₀ pend st)(h0:∀x∈a₀.toList,Ok x){i j:Nat}(hi:i<a₀.size)(hj:j<a₀.size){Q:Option Bool->Bq->Prop}(h:Q (some (blt (X (arrOf st) i) (X (arrOf st) j))) st):wpS (model prog w) A E s (ltAt' i j) Q st:=by
 rw[ltAt'_eq]
 refine Aw (Lb ?_)
 refine Aw (Et (Uj (by rw[g.size]; exact hi)) ?_)
 refine Aw (Et (Uj (by rw[g.size]; exact hj)) ?_)
 exact gO C g.kind (g.okX h0 hi) (g.okX h0 hj) h
theorem Nn{st:Bq}{i j:Nat}{Q:Unit->Bq->Prop}(h:Q () (setArr st (mirror (arrOf st) i j ((j - i) / 2)))):wpS (model prog w) A E s (Qq i j) Q st:=by
 rw[reverseSlice'_eq]
 exact Ib h
def L6(lo a b:Nat):StateT Bq Sem (Option (Option Nat)×Nat) :=
 forIn [a:b] ((none,a):Option (Option Nat)×Nat) λ_ c=>do
  let some eI <- ltAt' (lo+c.2) (lo+c.2 - 1) | pure (Cm (some none,c.2))
  if eI=true then pure (Cm (none,c.2)) else pure (Eu (none,c.2+1))
theorem qG(C:Cmp prog w A s kd Ok blt){st:Bq}(g:Good kd a₀ pend st)(h0:∀x∈a₀.toList,Ok x){lo a b:Nat}(hb:lo+b<=a₀.size)(ha:1<=a)(hab:a<=b)(h1:Ov blt (arrOf st) lo (lo+a)){Q:Option (Option Nat)×Nat->Bq->Prop}(h:∀n,a<=n->n<=b->Ov blt (arrOf st) lo (lo+n)->(n=b\/blt (X (arrOf st) (lo+n)) (X (arrOf st) (lo+n - 1))=true)->Q (none,n) st):wpS (model prog w) A E s (L6 lo a b) Q st:=by
 unfold L6
 refine Eb (I:=λx c st'=>st'=st/\c=(none,x)/\Ov blt (arrOf st) lo (lo+x)) ?_ ?_ ⟨rfl,rfl,h1⟩
 ·(intro x c st' hx1 hx2 q_; obtain ⟨rfl,rfl,hs⟩ := q_)
  dsimp only
  refine Aw (Tn C g h0 (by omega) (by omega) ?_)
  dsimp only
  cases hl:blt (X (arrOf st') (lo+x)) (X (arrOf st') (lo+x - 1)) with
  | true =>
   rw[if_pos rfl]
   exact Be (h x hx1 (by omega) hs (.inr hl))
  | false =>
   rw[if_neg Bx]
   refine Be ⟨rfl,rfl,λi j hi hij hj=>?_⟩
   by_cases hjx:j<lo+x
   ·exact hs i j hi hij hjx
   ·have ej:j=lo+x:=by omega
    subst ej
    by_cases hi':i=lo+x
    ·subst hi'; exact C.refl _
    ·exact C.trans (hs i (lo+x - 1) hi (by omega) (by omega)) hl
 ·(intro c st' q_; obtain ⟨rfl,rfl,hs⟩ := q_)
  rw[show max a b=b by omega] at hs ⊢
  exact h b hab (Ai _) hs (.inl rfl)
theorem jH{xs:Array Keyed}{lo n:Nat}(hn:lo+n<=xs.size)(h:oO blt xs lo (lo+n)):Ov blt (mirror xs lo (lo+n) ((lo+n - lo) / 2)) lo (lo+n):=λi j hi hij hj=>by
 rw[Pg hn,Pg hn,if_pos (by omega),if_pos (by omega)]
 exact h _ _ (by omega) (by omega) (by omega)
theorem Ui{xs:Array Keyed}{lo n b e:Nat}(hn:lo+n<=xs.size)(he:e<=lo+n)(hb:lo<=b)(h:oO blt xs lo (lo+n))(eqv:∀i j,b<=i->i<e->b<=j->j<e->le blt (X xs i) (X xs j)):oO blt (mirror xs b e ((e - b) / 2)) lo (lo+n):=λi j hi hij hj=>by
 rw[Pg (by omega),Pg (by omega)]
 by_cases h1:b<=j/\j<e
 ·rw[if_pos h1]
  by_cases h2:b<=i/\i<e
  ·rw[if_pos h2]
   exact eqv _ _ (by omega) (by omega) (by omega) (by omega)
  ·rw[if_neg h2]
   exact h _ _ hi (by omega) (by omega)
 ·rw[if_neg h1]
  by_cases h2:b<=i/\i<e
  ·rw[if_pos h2]
   exact h _ _ (by omega) (by omega) (by omega)
  ·rw[if_neg h2]
   exact h i j hi hij hj
theorem Nx{xs:Array Keyed}{a b i j:Nat}(h1:a<=i)(h2:j<=b)(h3:j<=xs.size):dW xs (mirror xs i j ((j - i) / 2)) a b:=λk hk=>by
 rw[Pg h3,if_neg (by omega)]
def tZ(lo n b:Nat):StateT Bq Sem (Option Nat):=do
 Qq lo (lo+n)
 let mut m:=n
 for _ in [n:b] do
  let some eI <- ltAt' (lo+m) (lo+m - 1) | return none
  if eI then break
  m:=m+1
 return some m
theorem lO(C:Cmp prog w A s kd Ok blt){st:Bq}(g:Good kd a₀ pend st)(h0:∀x∈a₀.toList,Ok x){lo n b:Nat}(hb:lo+b<=a₀.size)(hn:1<=n)(hnb:n<=b)(h1:oO blt (arrOf st) lo (lo+n)){Q:Option Nat->Bq->Prop}(h:∀m st',Good kd a₀ pend st'->1<=m->m<=b->Ov blt (arrOf st') lo (lo+m)->dW (arrOf st) (arrOf st') lo (lo+b)->Q (some m) st'):wpS (model prog w) A E s (tZ lo n b) Q st:=by
 unfold tZ
 have hsz:lo+n<=(arrOf st).size:=by rw[g.size]; omega
 refine Aw (Nn ?_)
 have g':Good kd a₀ pend (setArr st (mirror (arrOf st) lo (lo+n) ((lo+n - lo) / 2))):=g.set (mirror_perm _ _ _ _)
 refine Aw (qG C g' h0 hb hn hnb (jH hsz h1) λm hm1 hm2 hs _=>?_)
 exact Be (h m _ g' (by omega) hm2 hs (Nx (Ai _) (by omega) hsz))
abbrev i6:=Option (Option Nat)×Nat×Nat
def L1(lo a b:Nat):StateT Bq Sem i6 :=
 forIn [a:b] ((none,a,0):i6) λ_ c=>do
  let some eI <- ltAt' (lo+c.2.1) (lo+c.2.1 - 1) | pure (Cm (some none,c.2.1,c.2.2))
  if eI=true then
   if c.2.2 > 0 then do
    Qq (lo+c.2.1 - (c.2.2+1)) (lo+c.2.1)
    pure (Eu (none,c.2.1+1,0))
   else pure (Eu (none,c.2.1+1,0))
  else do
   let some more <- ltAt' (lo+c.2.1 - 1) (lo+c.2.1) | pure (Cm (some none,c.2.1,c.2.2))
   if more=true then pure (Cm (none,c.2.1,c.2.2)) else pure (Eu (none,c.2.1+1,c.2.2+1))
def vR(blt:Keyed->Keyed->Bool)(xs:Array Keyed)(lo n e:Nat):Prop:=e+1<=n/\∀i j,lo+n - (e+1)<=i->i<lo+n->lo+n - (e+1)<=j->j<lo+n->le blt (X xs i) (X xs j)
theorem tP(C:Cmp prog w A s kd Ok blt){xs:Array Keyed}{lo n:Nat}(h:1<=n):vR blt xs lo n 0:=⟨by omega,λi j i1 i2 j1 j2=>by
 have e:i=j:=by omega
 subst e
 exact C.refl _⟩
theorem Tf(C:Cmp prog w A s kd Ok blt){xs:Array Keyed}{lo n:Nat}(hn:1<=n)(h:oO blt xs lo (lo+n))(hl:le blt (X xs (lo+n)) (X xs (lo+n - 1))):oO blt xs lo (lo+(n+1)):=λi j hi hij hj=>by
 by_cases hjx:j<lo+n
 ·exact h i j hi hij hjx
 ·have ej:j=lo+n:=by omega
  subst ej
  by_cases hi':i=lo+n
  ·subst hi'; exact C.refl _
  ·exact C.trans hl (h i (lo+n - 1) hi (by omega) (by omega))
theorem uF(C:Cmp prog w A s kd Ok blt){st:Bq}(g:Good kd a₀ pend st)(h0:∀x∈a₀.toList,Ok x){lo a b:Nat}(hb:lo+b<=a₀.size)(ha:1<=a)(hab:a<=b)(h1:oO blt (arrOf st) lo (lo+a)){Q:i6->Bq->Prop}(h:∀n e st',Good kd a₀ pend st'->a<=n->n<=b->oO blt (arrOf st') lo (lo+n)->vR blt (arrOf st') lo n e->dW (arrOf st) (arrOf st') lo (lo+b)->Q (none,n,e) st'):wpS (model prog w) A E s (L1 lo a b) Q st:=by
 unfold L1
 refine Eb (I:=λx c st'=>∃e,c=(none,x,e)/\Good kd a₀ pend st'/\oO blt (arrOf st') lo (lo+x)/\vR blt (arrOf st') lo x e/\dW (arrOf st) (arrOf st') lo (lo+b)) ?_ ?_
  ⟨0,rfl,g,h1,tP C ha,dW.refl _ _ _⟩
 ·(intro x c st' hx1 hx2 q_; obtain ⟨e,rfl,g',hs,lk,ou⟩ := q_)
  have hsz:(arrOf st').size=a₀.size:=g'.size
  dsimp only
  refine Aw (Tn C g' h0 (by omega) (by omega) ?_)
  dsimp only
  cases hl:blt (X (arrOf st') (lo+x)) (X (arrOf st') (lo+x - 1)) with
  | true =>
   rw[if_pos rfl]
   have d1:=Tf C (by omega) hs (C.ofLt hl)
   have one:∀ys:Array Keyed,vR blt ys lo (x+1) 0:=λys=>⟨by omega,λi j i1 i2 j1 j2=>by
    have : i=j:=by omega
    subst this
    exact C.refl _⟩
   by_cases he:e > 0
   ·rw[if_pos he]
    refine Aw (Nn ?_)
    refine Be ⟨0,rfl,g'.set (mirror_perm _ _ _ _),?_,one _,ou.trans (Nx (by have:=lk.1; omega) (by omega) (by omega))⟩
    exact Ui (by omega) (by omega) (by have:=lk.1; omega) d1 λi j i1 i2 j1 j2=>lk.2 i j i1 i2 j1 j2
   ·rw[if_neg he]
    exact Be ⟨0,rfl,g',d1,one _,ou⟩
  | false =>
   rw[if_neg Bx]
   refine Aw (Tn C g' h0 (by omega) (by omega) ?_)
   dsimp only
   cases hm:blt (X (arrOf st') (lo+x - 1)) (X (arrOf st') (lo+x)) with
   | true =>
    rw[if_pos rfl]
    exact Be (h x e st' g' hx1 (by omega) hs lk ou)
   | false =>
    rw[if_neg Bx]
    refine Be ⟨e+1,rfl,g',Tf C (by omega) hs hm,⟨by have:=lk.1; omega,λi j i1 i2 j1 j2=>?_⟩,ou⟩
    have l1:le blt (X (arrOf st') (lo+x - 1)) (X (arrOf st') (lo+x)):=hl
    have l2:le blt (X (arrOf st') (lo+x)) (X (arrOf st') (lo+x - 1)):=hm
    by_cases ei:i=lo+x
    ·by_cases ej:j=lo+x
     ·rw[ei,ej]; exact C.refl _
     ·rw[ei]
      exact C.trans l2 (lk.2 (lo+x - 1) j (by omega) (by omega) (by omega) (by omega))
    ·by_cases ej:j=lo+x
     ·rw[ej]
      exact C.trans (lk.2 i (lo+x - 1) (by omega) (by omega) (by omega) (by omega)) l1
     ·exact lk.2 i j (by omega) (by omega) (by omega) (by omega)
 ·(intro c st' q_; obtain ⟨e,rfl,g',hs,lk,ou⟩ := q_)
  rw[show max a b=b by omega] at hs lk ⊢
  exact h b e st' g' hab (Ai _) hs lk ou
def xR(lo n b:Nat):StateT Bq Sem (Option Nat):=do
 liftM (rule "list.sort.descending-run")
 let mut m:=n+1
 let mut e:=0
 for _ in [m:b] do
  let some eI <- ltAt' (lo+m) (lo+m - 1) | return none
  if eI then
   if e > 0 then Qq (lo+m - (e+1)) (lo+m)
   e:=0
  else
   let some more <- ltAt' (lo+m - 1) (lo+m) | return none
   if more then break
   e:=e+1
  m:=m+1
 if e > 0 then Qq (lo+m - (e+1)) (lo+m)
 tZ lo m b
theorem lF(C:Cmp prog w A s kd Ok blt){st:Bq}(g:Good kd a₀ pend st)(h0:∀x∈a₀.toList,Ok x){lo n b:Nat}(hb:lo+b<=a₀.size)(hnb:n+1<=b)(h1:oO blt (arrOf st) lo (lo+(n+1))){Q:Option Nat->Bq->Prop}(h:∀m st',Good kd a₀ pend st'->1<=m->m<=b->Ov blt (arrOf st') lo (lo+m)->dW (arrOf st) (arrOf st') lo (lo+b)->Q (some m) st'):wpS (model prog w) A E s (xR lo n b) Q st:=by
 unfold xR
 refine Aw (Qd ?_)
 refine Aw (uF C g h0 hb (by omega) hnb h1 λk e st1 g1 k1 k2 d1 lk ou=>?_)
 dsimp only
 have hsz:(arrOf st1).size=a₀.size:=g1.size
 by_cases he:e > 0
 ·rw[if_pos he]
  refine Aw (Nn ?_)
  refine lO C (g1.set (mirror_perm _ _ _ _)) h0 hb (by omega) k2 (Ui (by omega) (by omega) (by have:=lk.1; omega) d1 λi j i1 i2 j1 j2=>lk.2 i j i1 i2 j1 j2) λm st2 g2 m1 m2 as ou2=>?_
  exact h m st2 g2 m1 m2 as ((ou.trans (Nx (by have:=lk.1; omega) (by omega) (by omega))).trans ou2)
 ·rw[if_neg he]
  exact lO C g1 h0 hb (by omega) k2 d1 λm st2 g2 m1 m2 as ou2=>h m st2 g2 m1 m2 as (ou.trans ou2)
theorem rA(C:Cmp prog w A s kd Ok blt){st:Bq}(g:Good kd a₀ pend st)(h0:∀x∈a₀.toList,Ok x){lo b:Nat}(hb:lo+b<=a₀.size)(b1:1<=b){Q:Option Nat->Bq->Prop}(h:∀m st',Good kd a₀ pend st'->1<=m->m<=b->Ov blt (arrOf st') lo (lo+m)->dW (arrOf st) (arrOf st') lo (lo+b)->Q (some m) st'):wpS (model prog w) A E s (aK lo b) Q st:=by
 unfold aK
 have hsz:(arrOf st).size=a₀.size:=g.size
 refine Aw (qG C g h0 hb (Ai _) b1 (λi j i1 i2 j1=>by
  have : i=j:=by omega
  subst this
  exact C.refl _) λn n1 n2 hs hor=>?_)
 dsimp only
 by_cases e:n=b
 ·rw[if_pos (by rw[e]; exact beq_self_eq_true _)]
  exact Be (h n st g n1 n2 hs (dW.refl _ _ _))
 rw[if_neg (λz=>e (Dv z))]
 have hlt:blt (X (arrOf st) (lo+n)) (X (arrOf st) (lo+n - 1))=true:=hor.resolve_left e
 by_cases hg:n > 1
 ·rw[if_pos hg]
  refine Aw (Tn C g h0 (by omega) (by omega) ?_)
  dsimp only
  cases hr:blt (X (arrOf st) lo) (X (arrOf st) (lo+n - 1)) with
  | true =>
   rw[if_pos rfl]
   exact Be (h n st g n1 n2 hs (dW.refl _ _ _))
  | false =>
   rw[if_neg Bx]
   refine Aw (Nn ?_)
   -- all of it are alike
   have like:∀i j,lo<=i->i<lo+n->lo<=j->j<lo+n->le blt (X (arrOf st) i) (X (arrOf st) j):=λi j i1 i2 j1 j2 =>
    C.trans (hs i (lo+n - 1) i1 (by omega) (by omega)) (C.trans hr (hs lo j (Ai _) j1 j2))
   have d1:oO blt (arrOf st) lo (lo+(n+1)):=Tf C n1 (λi j i1 i2 j1=>like j i (by omega) j1 i1 (by omega)) (C.ofLt hlt)
   exact lF C (g.set (mirror_perm _ _ _ _)) h0 hb (by omega) (Ui (by omega) (by omega) (Ai _) d1 like) λm st2 g2 m1 m2 as ou2=>h m st2 g2 m1 m2 as ((Nx (Ai _) (by omega) (by omega)).trans ou2)
 ·rw[if_neg hg]
  have en:n=1:=by omega
  subst en
  have d1:oO blt (arrOf st) lo (lo+(1+1)):=Tf C (Ai _) (λi j i1 i2 j1=>by
   have : i=j:=by omega
   subst this
   exact C.refl _) (C.ofLt hlt)
  exact lF C g h0 hb (by omega) d1 h
end
def Sy:Nat->StateT Bq Sem Bool:=sortPriv% PySem.Builtin.mergeAt
section
variable{prog:Bu}{w:World}{A:Cq}{s:Af}{kd:Kf}{Ok:Keyed->Prop}{blt:Keyed->Keyed->Bool}{E:Value->Af->Prop}{a₀:Array Keyed}{pend:Array (Nat×Nat×Nat)}
theorem fL{st:Bq}{i j:Nat}{Q:Unit->Bq->Prop}(h:Q () (setArr st (bubble (arrOf st) i (i - j)))):wpS (model prog w) A E s (moveDown' i j) Q st:=by
 rw[moveDown'_eq]
 exact Ib h
theorem nV(C:Cmp prog w A s kd Ok blt){st:Bq}(g:Good kd a₀ pend st)(h0:∀x∈a₀.toList,Ok x){lo n ok:Nat}(hb:lo+n<=a₀.size)(h1:Ov blt (arrOf st) lo (lo+ok))(hok:ok<=n){Q:Bool->Bq->Prop}(h:∀st',Good kd a₀ pend st'->Ov blt (arrOf st') lo (lo+n)->dW (arrOf st) (arrOf st') lo (lo+n)->Q true st'):wpS (model prog w) A E s (Vr lo n ok) Q st:=by
 unfold Vr
 refine Aw (Fw (Eb
  (I:=λk c st'=>c=(none,())/\Good kd a₀ pend st'/\Ov blt (arrOf st') lo (lo+k)/\dW (arrOf st) (arrOf st') lo (lo+n))
  (Q:=λc st'=>c=(none,())/\Good kd a₀ pend st'/\Ov blt (arrOf st') lo (lo+n)/\dW (arrOf st) (arrOf st') lo (lo+n)) ?_ ?_ ⟨rfl,g,?_,dW.refl _ _ _⟩) ?_)
 ·(intro k c st1 hk1 hk2 q_; obtain ⟨rfl,g1,hs,ou⟩ := q_)
  have hsz:(arrOf st1).size=a₀.size:=g1.size
  dsimp only
  refine Aw (Fw (Eb
   (I:=λy c st'=>st'=st1/\∃l r,c=(none,l,r)/\l<=r/\r<=k/\r - l+y<=k/\(∀i,i<l->le blt (X (arrOf st1) (lo+i)) (X (arrOf st1) (lo+k)))/\(∀i,r<=i->i<k->blt (X (arrOf st1) (lo+k)) (X (arrOf st1) (lo+i))=true))
   (Q:=λc st'=>st'=st1/\∃l,c=(none,l,l)/\l<=k/\(∀i,i<l->le blt (X (arrOf st1) (lo+i)) (X (arrOf st1) (lo+k)))/\(∀i,l<=i->i<k->blt (X (arrOf st1) (lo+k)) (X (arrOf st1) (lo+i))=true)) ?_ ?_
   ⟨rfl,0,k,rfl,by omega,by omega,by omega,λi hi=>by omega,λi h1 h2=>by omega⟩) ?_)
  ·(intro y c st2 _ hy q_; obtain ⟨rfl,l,r,rfl,a1,a2,a3,b1,b2⟩ := q_)
   dsimp only
   by_cases hlr:l ≥ r
   ·rw[if_pos hlr]
    have e:l=r:=by omega
    subst e
    exact Be ⟨rfl,l,rfl,a2,b1,b2⟩
   ·rw[if_neg hlr]
    refine Aw (Tn C g1 h0 (by omega) (by omega) ?_)
    dsimp only
    cases hl:blt (X (arrOf st2) (lo+k)) (X (arrOf st2) (lo+(l+r) / 2)) with
    | true =>
     rw[if_pos rfl]
     exact Be ⟨rfl,l,(l+r) / 2,rfl,by omega,by omega,by omega,b1,λi i1 i2=>C.ltLe hl (hs _ _ (by omega) (by omega) (by omega))⟩
    | false =>
     rw[if_neg Bx]
     exact Be ⟨rfl,(l+r) / 2+1,r,rfl,by omega,a2,by omega,λi hi=>C.trans (hs _ _ (by omega) (by omega) (by omega)) hl,b2⟩
  ·(intro c st2 q_; obtain ⟨rfl,l,r,rfl,a1,a2,a3,b1,b2⟩ := q_)
   have : max 0 k=k:=by omega
   rw[this] at a3
   have e:l=r:=by omega
   subst e
   exact ⟨rfl,l,rfl,a2,b1,b2⟩
  ·(intro c st2 q_; obtain ⟨rfl,l,rfl,a2,b1,b2⟩ := q_)
   dsimp only
   refine Aw (fL ?_)
   have xb:=λi=>pB (xs:=arrOf st2) (src:=lo+k) (d:=lo+k - (lo+l)) (by omega) (by omega) i
   have ed:lo+k - (lo+k - (lo+l))=lo+l:=by omega
   refine Be ⟨rfl,g1.set (bubble_perm _ _ _),λi j i1 i2 j1=>?_,ou.trans λi hi=>?_⟩
   ·show le blt (X (bubble (arrOf st2) (lo+k) (lo+k - (lo+l))) i) (X (bubble (arrOf st2) (lo+k) (lo+k - (lo+l))) j)
    rw[xb,xb,ed]
    by_cases e1:i=lo+l
    ·rw[if_pos e1]
     by_cases e2:j=lo+l
     ·rw[if_pos e2]; exact C.refl _
     ·rw[if_neg e2]
      by_cases e3:lo+l<j/\j<=lo+k
      ·rw[if_pos e3]
       have:=b2 (j - 1 - lo) (by omega) (by omega)
       rw[show lo+(j - 1 - lo)=j - 1 by omega] at this
       exact C.ofLt this
      ·exfalso; omega
    ·rw[if_neg e1]
     by_cases e2:j=lo+l
     ·rw[if_pos e2,if_neg (by omega)]
      have:=b1 (i - lo) (by omega)
      rw[show lo+(i - lo)=i by omega] at this
      exact this
     ·rw[if_neg e2]
      by_cases e3:lo+l<i/\i<=lo+k
      ·rw[if_pos e3,if_pos (by omega)]
       exact hs _ _ (by omega) (by omega) (by omega)
      ·rw[if_neg e3]
       by_cases e4:lo+l<j/\j<=lo+k
       ·rw[if_pos e4]
        exact hs _ _ (by omega) (by omega) (by omega)
       ·rw[if_neg e4]
        exact hs _ _ (by omega) (by omega) (by omega)
   ·show X (bubble (arrOf st2) (lo+k) (lo+k - (lo+l))) i=X (arrOf st2) i
    rw[xb,ed,if_neg (by omega),if_neg (by omega)]
 ·(intro c st1 q_; obtain ⟨rfl,g1,hs,ou⟩ := q_)
  refine ⟨rfl,g1,λi j i1 i2 j1=>hs i j i1 i2 (by omega),ou⟩
 ·intro i j i1 i2 j1
  by_cases e:i=j
  ·subst e; exact C.refl _
  ·exact h1 i j i1 i2 (by omega)
 ·(intro c st1 q_; obtain ⟨rfl,g1,hs,ou⟩ := q_)
  exact Be (h st1 g1 hs ou)
end
abbrev Lo(xs:Array Keyed)(b:Nat)(l:List (Keyed×Nat)):Array Keyed:=l.foldl (λa x=>match x with | (p,j)=>a.setIfInBounds (b+j) p) xs
theorem Ye(b:Nat):∀(l:List Keyed) (o:Nat) (xs:Array Keyed),b+o+l.length<=xs.size->(Lo xs b (l.zipIdx o)).size=xs.size/\∀i:Nat,(Lo xs b (l.zipIdx o))[i]? = if b+o<=i/\i<b+o+l.length then l[i - (b+o)]? else xs[i]?
 | [],o,xs,_=>⟨rfl,λi=>by rw[if_neg (by rw[Jn]; omega)]; rfl⟩
 | x::l,o,xs,h=>by
  rw[Bt] at h
  have ih:=Ye b l (o+1) (xs.setIfInBounds (b+o) x) (by rw[eB]; omega)
  have e:Lo xs b ((x::l).zipIdx o)=Lo (xs.setIfInBounds (b+o) x) b (l.zipIdx (o+1)):=by
   rw[List.zipIdx_cons]
   rfl
  rw[e]
  refine ⟨ih.1.trans (eB),λi=>?_⟩
  rw[ih.2 i,Bt]
  by_cases h1:b+(o+1)<=i/\i<b+(o+1)+l.length
  ·rw[if_pos h1,if_pos (by omega)]
   rw[show i - (b+o)=(i - (b+(o+1)))+1 by omega,List.getElem?_cons_succ]
  ·rw[if_neg h1]
   by_cases h2:i=b+o
   ·subst h2
    rw[if_pos (by omega),Array.getElem?_setIfInBounds_self_of_lt (by omega),Nat.sub_self]
    rfl
   ·rw[if_neg (by omega),Array.getElem?_setIfInBounds_ne (by omega)]
theorem jF{xs m:Array Keyed}{b n:Nat}(hb:b+n<=xs.size)(hn:m.size=n)(hp:m.toList.Perm ((xs.toList.drop b).take n)):(Lo xs b m.toList.zipIdx).Perm xs:=by
 have ha:=Ye b m.toList 0 xs (by rw[Ax]; omega)
 have e:(Lo xs b m.toList.zipIdx).toList=xs.toList.take b++(m.toList++xs.toList.drop (b+n)):=by
  apply Gu
  intro i
  have h1:=ha.2 i
  rw[Ax,hn] at h1
  have h2:(Lo xs b m.toList.zipIdx).toList[i]? = (Lo xs b m.toList.zipIdx)[i]?:=by simp
  rw[h2,h1]
  have lt:(xs.toList.take b).length=b:=by rw[Cp,Ax]; omega
  by_cases c1:i<b
  ·rw[if_neg (by omega),Gm (by omega),Dl c1]
   simp
  ·rw[Ey (by omega),lt]
   by_cases c2:i<b+n
   ·rw[if_pos (by omega),Gm (by rw[Ax]; omega)]
    congr 1
   ·rw[if_neg (by omega),Ey (by rw[Ax]; omega),Vk,Ax]
    rw[show b+n+(i - b - m.size)=i by omega]
    simp
 refine Array.perm_iff_toList_perm.mpr ?_
 rw[e]
 have e2:xs.toList=xs.toList.take b++((xs.toList.drop b).take n++xs.toList.drop (b+n)):=by
  conv=>lhs; rw[<- Ge b xs.toList]
  congr 1
  conv=>lhs; rw[<- Ge n (xs.toList.drop b)]
  rw[List.drop_drop]
 conv=>rhs; rw[e2]
 exact Ka _ (List.Perm.append_right _ hp)
theorem Vf{xs:Array Keyed}{a n:Nat}(h:a+n<=xs.size){i:Nat}(hi:i<n):(xs.extract a (a+n))[i]? = some (X xs (a+i)):=by
 rw[Array.getElem?_extract,if_pos (by omega)]
 exact Uj (by omega)
theorem Pa{xs:Array Keyed}{a n:Nat}(h:a+n<=xs.size):(xs.extract a (a+n)).size=n:=by
 rw[Array.size_extract]
 omega
theorem Tt{xs:Array Keyed}{a n:Nat}(h:a+n<=xs.size){x:Keyed}(hx:x∈(xs.extract a (a+n)).toList):∃i,i<n/\x=X xs (a+i):=by
 obtain ⟨i,hi,e⟩:=Fh.mp hx
 rw[Ax,Pa h] at hi
 refine ⟨i,hi,?_⟩
 have h1:=Vf h hi
 have h2:(xs.extract a (a+n)).toList[i]? = some x:=by rw[<- e,<- Am]
 rw[Qu,h1] at h2
 exact (Bj h2).symm
section
variable{prog:Bu}{w:World}{A:Cq}{s:Af}{kd:Kf}{Ok:Keyed->Prop}{blt:Keyed->Keyed->Bool}{E:Value->Af->Prop}{a₀:Array Keyed}{pend:Array (Nat×Nat×Nat)}
theorem Xr(C:Cmp prog w A s kd Ok blt){xs:Array Keyed}{a n c d:Nat}(h:a+n<=xs.size)(hs:Ov blt xs c d)(h1:c<=a)(h2:a+n<=d):(xs.extract a (a+n)).toList.Pairwise (le blt):=by
 rw[Dg]
 intro i j hi hj hij
 rw[Ax,Pa h] at hi hj
 have e1:(xs.extract a (a+n)).toList[i]? = some (X xs (a+i)):=by rw[Qu]; exact Vf h hi
 have e2:(xs.extract a (a+n)).toList[j]? = some (X xs (a+j)):=by rw[Qu]; exact Vf h hj
 obtain ⟨_,f1⟩:=Ak.mp e1
 obtain ⟨_,f2⟩:=Ak.mp e2
 rw[f1,f2]
 exact hs _ _ (by omega) (by omega) (by omega)
theorem gL(C:Cmp prog w A s kd Ok blt){xs:Array Keyed}{a b c:Nat}(hab:a<b)(h1:Ov blt xs a b)(h2:Ov blt xs b c)(h:le blt (X xs (b - 1)) (X xs b)):Ov blt xs a c:=λi j i1 i2 j1=>by
 by_cases e1:j<b
 ·exact h1 i j i1 i2 e1
 ·by_cases e2:b<=i
  ·exact h2 i j e2 i2 j1
  ·exact C.trans (h1 i (b - 1) i1 (by omega) (by omega)) (C.trans h (h2 b j (Ai _) (by omega) j1))
structure Good0(kd:Kf)(a₀:Array Keyed)(st:Bq):Prop where
 kind:kindOf st=kd
 fail:Jm st=none
 perm:(arrOf st).Perm a₀
theorem Good0.size{st:Bq}(g:Good0 kd a₀ st):(arrOf st).size=a₀.size:=g.perm.size_eq
theorem Good0.okX{st:Bq}(g:Good0 kd a₀ st)(h0:∀x∈a₀.toList,Ok x){i:Nat}(hi:i<a₀.size):Ok (X (arrOf st) i):=by
 have e:=Uj (xs:=arrOf st) (i:=i) (by rw[g.size]; exact hi)
 exact h0 _ ((Mt.mp g.perm).mem_iff.mp (Hv e))
theorem qC{st:Bq}(g:Good0 kd a₀ st)(h0:∀x∈a₀.toList,Ok x){b n:Nat}(h:b+n<=a₀.size):Row Ok (arrOf st) b n (λi=>X (arrOf st) (b+i)) :=
 ⟨λi hi=>Uj (by rw[g.size]; omega),λi hi=>g.okX h0 (by omega)⟩
theorem r6{st st':Bq}{Q:Unit->Bq->Prop}(h:Q () st'):wpS (model prog w) A E s (set st':StateT Bq Sem Unit) Q st:=by
 unfold wpS
 rw[StateT.run_set]
 exact Bb ⟨rfl,h⟩
theorem iX(C:Cmp prog w A s kd Ok blt){st:Bq}(g:Good0 kd a₀ st)(h0:∀x∈a₀.toList,Ok x){i sa na pa sb nb pb:Nat}(hi:(Bd st)[i]? = some (sa,na,pa))(hj:(Bd st)[i+1]? = some (sb,nb,pb))(e1:sb=sa+na)(n1:1<=na)(n2:1<=nb)(hz:sb+nb<=a₀.size)(s1:Ov blt (arrOf st) sa sb)(s2:Ov blt (arrOf st) sb (sb+nb)){Q:Bool->Bq->Prop}(h:∀st',Good0 kd a₀ st'->Bd st'=((Bd st).setIfInBounds i (sa,na+nb,pa)).eraseIdxIfInBounds (i+1)->Ov blt (arrOf st') sa (sb+nb)->dW (arrOf st) (arrOf st') sa (sb+nb)->Q true st'):wpS (model prog w) A E s (Sy i) Q st:=by
 have hsz:(arrOf st).size=a₀.size:=g.size
 unfold Sy
 refine Aw (Lb ?_)
 rw[hi,hj]
 dsimp only
 refine Aw (r6 ?_)
 refine Aw (Et (Uj (xs:=arrOf st) (i:=sb) (by rw[hsz]; omega)) ?_)
 show wpS (model prog w) A E s _ _ (Tw (kindOf st) (arrOf st) (((Bd st).setIfInBounds i (sa,na+nb,pa)).eraseIdxIfInBounds (i+1)) (gallopOf st) (Jm st))
 generalize hst1:Tw (kindOf st) (arrOf st) (((Bd st).setIfInBounds i (sa,na+nb,pa)).eraseIdxIfInBounds (i+1)) (gallopOf st) (Jm st)=st1
 have k1:kindOf st1=kd:=by rw[<- hst1]; exact g.kind
 have ar1:arrOf st1=arrOf st:=by rw[<- hst1]
 have pd1:Bd st1=((Bd st).setIfInBounds i (sa,na+nb,pa)).eraseIdxIfInBounds (i+1):=by rw[<- hst1]
 have fl1:Jm st1=none:=by rw[<- hst1]; exact g.fail
 have g1:Good0 kd a₀ st1:=⟨k1,fl1,by rw[ar1]; exact g.perm⟩
 have same:Good0 kd a₀ st1->Ov blt (arrOf st) sa (sb+nb)->Q true st1:=λgg as=>h st1 gg pd1 (by rw[ar1]; exact as) (by rw[ar1]; exact dW.refl _ _ _)
 refine Aw (Lj C (hint:=0) (n:=na) (qC g h0 (b:=sa) (n:=na) (by omega)) (g.okX h0 (i:=sb) (by omega)) k1 (by omega) (λa c hac hc q1=>?_) λk kn t1 t2=>?_)
 ·simp only[Fm,By,if_false,Ih] at q1 ⊢
  exact C.trans (s1 _ _ (by omega) (by omega) (by omega)) q1
 dsimp only
 have f1:∀m,m<k->le blt (X (arrOf st) (sa+m)) (X (arrOf st) sb):=λm hm=>by
  have:=t1 m hm
  have z:blt (X (arrOf st) sb) (X (arrOf st) (sa+m))=false:=by simpa only [Fm,By,if_false,Ih] using this
  exact z
 by_cases c1:na - k=0
 ·rw[if_pos (by rw[c1]; rfl)]
  refine Be (same g1 (gL C (by omega) s1 s2 ?_))
  have:=f1 (na - 1) (by omega)
  rw[show sa+(na - 1)=sb - 1 by omega] at this
  exact this
 rw[if_neg (λz=>c1 (Dv z))]
 have f2:blt (X (arrOf st) sb) (X (arrOf st) (sa+k))=true:=by
  have:=t2 k (Ai _) (by omega)
  simpa only [Fm,By,if_false,Vl] using this
 have el:sa+k+(na - k) - 1=sb - 1:=by omega
 rw[el]
 refine Aw (Et (Uj (xs:=arrOf st) (i:=sb - 1) (by rw[hsz]; omega)) ?_)
 refine Aw (Lj C (hint:=nb - 1) (n:=nb) (qC g h0 (b:=sb) (n:=nb) (by omega)) (g.okX h0 (i:=sb - 1) (by omega)) k1 (by omega) (λa c hac hc q1=>?_) λl ln u1 u2=>?_)
 ·simp only[Fm,if_true] at q1 ⊢
  exact C.leLt (s2 _ _ (by omega) (by omega) (by omega)) q1
 dsimp only
 have f3:∀m,m<l->blt (X (arrOf st) (sb+m)) (X (arrOf st) (sb - 1))=true:=λm hm=>by
  have:=u1 m hm
  simpa only [Fm,if_true] using this
 have f4:∀m,l<=m->m<nb->le blt (X (arrOf st) (sb - 1)) (X (arrOf st) (sb+m)):=λm h1 h2=>by
  have:=u2 m h1 h2
  have z:blt (X (arrOf st) (sb+m)) (X (arrOf st) (sb - 1))=false:=by simpa only [Fm,if_true] using this
  exact z
 by_cases c2:l=0
 ·rw[if_pos (by rw[c2]; rfl)]
  subst c2
  exact Be (same g1 (gL C (by omega) s1 s2 (f4 0 (Ai _) (by omega))))
 rw[if_neg (λz=>c2 (Dv z))]
 have ep:(arrOf st).extract (sa+k) sb=(arrOf st).extract (sa+k) (sa+k+(na - k)):=by rw[show sa+k+(na - k)=sb by omega]
 rw[ep]
 have hp:sa+k+(na - k)<=(arrOf st).size:=by omega
 have hq:sb+l<=(arrOf st).size:=by omega
 have T:Two Ok blt ((arrOf st).extract (sa+k) (sa+k+(na - k))) ((arrOf st).extract sb (sb+l)) (X (arrOf st) (sa+k)) (X (arrOf st) sb) (X (arrOf st) (sb - 1)):=by
  refine ⟨λx hx=>?_,λx hx=>?_,Xr C hp s1 (by omega) (by omega),Xr C hq s2 (by omega) (by omega),?_,?_,?_,f2,λy hy=>?_⟩
  ·obtain ⟨m,hm,rfl⟩:=Tt hp hx
   exact g.okX h0 (by omega)
  ·obtain ⟨m,hm,rfl⟩:=Tt hq hx
   exact g.okX h0 (by omega)
  ·exact Vf hp (by omega)
  ·exact Vf hq (by omega)
  ·rw[Pa hp,Vf hp (by omega),show sa+k+(na - k - 1)=sb - 1 by omega]
  ·obtain ⟨m,hm,rfl⟩:=Tt hq hy
   exact f3 m hm
 -- Uk the merge
 have fin:∀(r:Array Keyed) (st2:Bq),Kept st1 st2->hZ blt ((arrOf st).extract (sa+k) (sa+k+(na - k))) ((arrOf st).extract sb (sb+l)) r ->
   Q (Jm (setArr st2 (Lo (arrOf st2) (sa+k) r.toList.zipIdx))).isNone (setArr st2 (Lo (arrOf st2) (sa+k) r.toList.zipIdx)):=by
  intro r st2 kp hr
  have ar2:arrOf st2=arrOf st:=kp.arr.trans ar1
  have fl2:Jm st2=none:=kp.fail.trans fl1
  have rsz:r.size=na - k+l:=by
   have:=hr.1.length_eq
   rw[Cb,Ax,Ax,Ax,Pa hp,Pa hq] at this
   exact this
  have seg:((arrOf st).toList.drop (sa+k)).take (na - k+l)=((arrOf st).extract (sa+k) (sa+k+(na - k))).toList++((arrOf st).extract sb (sb+l)).toList:=by
   rw[Ta,Ta,List.take_add,List.drop_drop,show sa+k+(na - k)=sb by omega]
  have pa':=Ye (sa+k) r.toList 0 (arrOf st) (by rw[Ax]; omega)
  have xat:∀m,X (Lo (arrOf st) (sa+k) r.toList.zipIdx) m=if sa+k<=m/\m<sb+l then X r (m - (sa+k)) else X (arrOf st) m:=λm=>by
   have:=pa'.2 m
   rw[Ax,rsz,Nat.add_zero] at this
   by_cases hm:sa+k<=m/\m<sb+l
   ·rw[if_pos hm]
    rw[if_pos (by omega)] at this
    refine Nm (this.trans ?_)
    simp
   ·rw[if_neg hm]
    rw[if_neg (by omega)] at this
    exact Nm this
  -- each thing of the merged is one of the two runs'
  have from2:∀m,m<na - k+l->(∃c,sa+k<=c/\c<sb/\X r m=X (arrOf st) c)\/(∃c,sb<=c/\c<sb+l/\X r m=X (arrOf st) c):=λm hm=>by
   have hx:=Hv (Uj (xs:=r) (i:=m) (by omega))
   rcases Bl.mp (hr.1.mem_iff.mp hx) with z | z
   ·obtain ⟨c,hc,e⟩:=Tt hp z
    exact .inl ⟨sa+k+c,by omega,by omega,e⟩
   ·obtain ⟨c,hc,e⟩:=Tt hq z
    exact .inr ⟨sb+c,by omega,by omega,e⟩
  have rs:∀m n,m<=n->n<na - k+l->le blt (X r m) (X r n):=λm n hmn hn=>Jk C hr.2 hmn (Dy (Uj (by omega))) (Dy (Uj (by omega)))
  have e3:Jm (setArr st2 (Lo (arrOf st2) (sa+k) r.toList.zipIdx))=none:=fl2
  rw[e3]
  refine h _ ⟨kp.kind.trans k1,e3,?_⟩ (kp.pend.trans pd1) ?_ ?_
  ·show (Lo (arrOf st2) (sa+k) r.toList.zipIdx).Perm a₀
   rw[ar2]
   refine (jF (by omega) rsz ?_).trans g.perm
   rw[seg]
   exact hr.1
  ·show Ov blt (Lo (arrOf st2) (sa+k) r.toList.zipIdx) sa (sb+nb)
   rw[ar2]
   intro c d c1 cd d1
   rw[xat,xat]
   by_cases zc:sa+k<=c/\c<sb+l
   ·rw[if_pos zc]
    by_cases zd:sa+k<=d/\d<sb+l
    ·rw[if_pos zd]
     exact rs _ _ (by omega) (by omega)
    ·rw[if_neg zd]
     rcases from2 (c - (sa+k)) (by omega) with ⟨b,b1,b2,e⟩ | ⟨b,b1,b2,e⟩
     ·rw[e]
      refine C.trans (s1 b (sb - 1) (by omega) (by omega) (by omega)) ?_
      have:=f4 (d - sb) (by omega) (by omega)
      rw[show sb+(d - sb)=d by omega] at this
      exact this
     ·rw[e]
      exact s2 b d b1 (by omega) (by omega)
   ·rw[if_neg zc]
    by_cases zd:sa+k<=d/\d<sb+l
    ·rw[if_pos zd]
     rcases from2 (d - (sa+k)) (by omega) with ⟨b,b1,b2,e⟩ | ⟨b,b1,b2,e⟩
     ·rw[e]
      exact s1 c b c1 (by omega) b2
     ·rw[e]
      have:=f1 (c - sa) (by omega)
      rw[show sa+(c - sa)=c by omega] at this
      exact C.trans this (s2 sb b (Ai _) b1 (by omega))
    ·rw[if_neg zd]
     by_cases y1:d<sb
     ·exact s1 c d c1 cd y1
     ·by_cases y2:sb<=c
      ·exact s2 c d y2 cd d1
      ·have:=f1 (c - sa) (by omega)
       rw[show sa+(c - sa)=c by omega] at this
       exact C.trans this (s2 sb d (Ai _) (by omega) d1)
  ·show dW (arrOf st) (Lo (arrOf st2) (sa+k) r.toList.zipIdx) sa (sb+nb)
   rw[ar2]
   intro m hm
   rw[xat,if_neg (by omega)]
 by_cases c3:na - k<=l
 ·rw[if_pos c3]
  refine Aw (jA C T k1 λr st2 kp hr=>?_)
  exact Aw (Ib (Aw (Lb (Be (fin r st2 kp hr)))))
 ·rw[if_neg c3]
  refine Aw (hU C T k1 λr st2 kp hr=>?_)
  exact Aw (Ib (Aw (Lb (Be (fin r st2 kp hr)))))
end
def aW:StateT Bq Sem Unit:=sortPriv% PySem.Builtin.sortRuns
def Runs(blt:Keyed->Keyed->Bool)(xs:Array Keyed):List (Nat×Nat×Nat)->Nat->Nat->Prop
 | [],a,b=>a=b
 | (s,n,_)::r,a,b=>s=a/\1<=n/\Ov blt xs a (a+n)/\Runs blt xs r (a+n) b
variable{blt:Keyed->Keyed->Bool}
theorem Runs.len{xs:Array Keyed}:∀{l:List (Nat×Nat×Nat)} {a b:Nat},Runs blt xs l a b->a+l.length<=b
 | [],a,b,h=>by
  have e:a=b:=h
  rw[Jn]
  omega
 | (s,n,p)::r,a,b,h=>by
  have:=Runs.len h.2.2.2
  have:=h.2.1
  rw[Bt]
  omega
theorem Ov.out{xs ys:Array Keyed}{a b c d:Nat}(h:Ov blt xs a b)(o:dW xs ys c d)(e:b<=c\/d<=a):Ov blt ys a b:=λi j i1 i2 j1=>by
 rw[o i (by omega),o j (by omega)]
 exact h i j i1 i2 j1
theorem Runs.out{xs ys:Array Keyed}{c d:Nat}(o:dW xs ys c d):∀{l:List (Nat×Nat×Nat)} {a b:Nat},(b<=c\/d<=a)->Runs blt xs l a b->Runs blt ys l a b
 | [],_,_,_,h=>h
 | (s,n,p)::r,a,b,e,h=>by
  have hl:=Runs.len h.2.2.2
  exact ⟨h.1,h.2.1,h.2.2.1.out o (by omega),Runs.out o (by omega) h.2.2.2⟩
theorem Runs.push{xs:Array Keyed}{m q:Nat}(hm:1<=m):∀{l:List (Nat×Nat×Nat)} {a b:Nat},Runs blt xs l a b->Ov blt xs b (b+m)->Runs blt xs (l++[(b,m,q)]) a (b+m)
 | [],a,b,h,hs=>by
  have e:a=b:=h
  subst e
  exact ⟨rfl,hm,hs,rfl⟩
 | (s,n,p)::r,a,b,h,hs=>⟨h.1,h.2.1,h.2.2.1,Runs.push hm h.2.2.2 hs⟩
theorem Runs.power{xs:Array Keyed}{pw:Nat}:∀{l:List (Nat×Nat×Nat)} {a b:Nat} (k:Nat),Runs blt xs l a b->Runs blt xs (l.modify k λx=>(x.1,x.2.1,pw)) a b
 | [],_,_,k,h=>by simpa using h
 | (s,n,p)::r,a,b,0,h=>by
  rw[List.modify_zero_cons]
  exact h
 | (s,n,p)::r,a,b,k+1,h=>by
  rw[List.modify_succ_cons]
  exact ⟨h.1,h.2.1,h.2.2.1,Runs.power k h.2.2.2⟩
theorem Runs.two{xs:Array Keyed}:∀{l:List (Nat×Nat×Nat)} {a b i sa na pa sb nb pb:Nat},Runs blt xs l a b->l[i]? = some (sa,na,pa)->l[i+1]? = some (sb,nb,pb)->sb=sa+na/\1<=na/\1<=nb/\a<=sa/\sb+nb<=b/\Ov blt xs sa sb/\Ov blt xs sb (sb+nb)
 | [],_,_,_,_,_,_,_,_,_,_,h,_=>by simp at h
 | (s,n,p)::r,a,b,0,sa,na,pa,sb,nb,pb,h,h1,h2=>by
  obtain ⟨e,hn,hs,hr⟩:=h
  have q:s=sa/\n=na/\p=pa:=by simpa using h1
  obtain ⟨q1,q2,q3⟩:=q
  subst q1 q2 q3
  subst e
  cases r with
  | nil=>simp at h2
  | cons y r' =>
   obtain ⟨s',n',p'⟩:=y
   have q':s'=sb/\n'=nb/\p'=pb:=by simpa using h2
   obtain ⟨q1,q2,q3⟩:=q'
   subst q1 q2 q3
   obtain ⟨e',hn',hs',hr'⟩:=hr
   have:=Runs.len hr'
   exact ⟨e',hn,hn',Ai _,by omega,by rw[e']; exact hs,by rw[e']; exact hs'⟩
 | (s,n,p)::r,a,b,i+1,sa,na,pa,sb,nb,pb,h,h1,h2=>by
  have:=Runs.two h.2.2.2 (by simpa using h1) (by simpa using h2)
  exact ⟨this.1,this.2.1,this.2.2.1,by have:=this.2.2.2.1; have:=h.2.1; omega,this.2.2.2.2.1,this.2.2.2.2.2⟩
theorem Runs.merge{xs ys:Array Keyed}:∀{l:List (Nat×Nat×Nat)} {a b i sa na pa sb nb pb:Nat},Runs blt xs l a b->l[i]? = some (sa,na,pa)->l[i+1]? = some (sb,nb,pb)->dW xs ys sa (sb+nb)->Ov blt ys sa (sb+nb)->Runs blt ys ((l.set i (sa,na+nb,pa)).eraseIdx (i+1)) a b
 | [],_,_,_,_,_,_,_,_,_,_,h,_,_,_=>by simp at h
 | (s,n,p)::r,a,b,0,sa,na,pa,sb,nb,pb,h,h1,h2,o,as=>by
  have tw:=Runs.two h h1 h2
  obtain ⟨e,hn,hs,hr⟩:=h
  have q:s=sa/\n=na/\p=pa:=by simpa using h1
  obtain ⟨q1,q2,q3⟩:=q
  subst q1 q2 q3
  subst e
  cases r with
  | nil=>simp at h2
  | cons y r' =>
   obtain ⟨s',n',p'⟩:=y
   have q':s'=sb/\n'=nb/\p'=pb:=by simpa using h2
   obtain ⟨q1,q2,q3⟩:=q'
   subst q1 q2 q3
   obtain ⟨e',hn',hs',hr'⟩:=hr
   rw[List.set_cons_zero,Ou,List.eraseIdx_cons_zero]
   refine ⟨rfl,by omega,?_,?_⟩
   ·rw[show s+(n+n')=s'+n' by omega]
    exact as
   ·rw[show s+(n+n')=s+n+n' by omega]
    exact Runs.out o (.inr (by omega)) hr'
 | (s,n,p)::r,a,b,i+1,sa,na,pa,sb,nb,pb,h,h1,h2,o,as=>by
  have tw:=Runs.two (i:=i) h.2.2.2 (by simpa using h1) (by simpa using h2)
  rw[List.set_cons_succ,Ou]
  exact ⟨h.1,h.2.1,h.2.2.1.out o (.inl tw.2.2.2.1),Runs.merge h.2.2.2 (by simpa using h1) (by simpa using h2) o as⟩
theorem aF(P:Array (Nat×Nat×Nat))(i:Nat)(v:Nat×Nat×Nat):((P.setIfInBounds i v).eraseIdxIfInBounds (i+1)).toList=(P.toList.set i v).eraseIdx (i+1):=by
 rw[Array.toList_eraseIdxIfInBounds,Array.toList_setIfInBounds]
section
variable{prog:Bu}{w:World}{A:Cq}{s:Af}{kd:Kf}{Ok:Keyed->Prop}{E:Value->Af->Prop}{a₀:Array Keyed}
theorem Mk{α:Type}{c:Prop}[Decidable c]{p q:StateT Bq Sem α}{Q:α->Bq->Prop}{st:Bq}(h1:c->wpS (model prog w) A E s p Q st)(h2:¬ c->wpS (model prog w) A E s q Q st):wpS (model prog w) A E s (if c then p else q) Q st:=by
 by_cases h:c
 ·rw[if_pos h]; exact h1 h
 ·rw[if_neg h]; exact h2 h
theorem bJ(C:Cmp prog w A s kd Ok blt){st:Bq}(g:Good0 kd a₀ st)(h0:∀x∈a₀.toList,Ok x){lo i:Nat}(hlo:lo<=a₀.size)(rn:Runs blt (arrOf st) (Bd st).toList 0 lo)(hi:i+1<(Bd st).size){Q:Bool->Bq->Prop}(h:∀st',Good0 kd a₀ st'->Runs blt (arrOf st') (Bd st').toList 0 lo->(Bd st').size+1=(Bd st).size->(∀c d,lo<=c->Ov blt (arrOf st) c d->Ov blt (arrOf st') c d)->Q true st'):wpS (model prog w) A E s (Sy i) Q st:=by
 obtain ⟨⟨sa,na,pa⟩,ha⟩ : ∃x,(Bd st)[i]? = some x:=⟨(Bd st)[i],by simp⟩
 obtain ⟨⟨sb,nb,pb⟩,hb⟩ : ∃x,(Bd st)[i+1]? = some x:=⟨(Bd st)[i+1],by simp⟩
 have la:(Bd st).toList[i]? = some (sa,na,pa):=by simpa using ha
 have lb:(Bd st).toList[i+1]? = some (sb,nb,pb):=by simpa using hb
 obtain ⟨t1,t2,t3,t4,t5,t6,t7⟩:=rn.two la lb
 refine iX C g h0 ha hb t1 t2 t3 (by omega) t6 t7 λst' g' pd as ou=>?_
 refine h st' g' ?_ ?_ λc d hc hs=>hs.out ou (.inr (by omega))
 ·rw[pd,aF]
  exact rn.merge la lb ou as
 ·have : (Bd st').toList.length+1=(Bd st).toList.length:=by
   rw[pd,aF,List.length_eraseIdx,List.length_set,Ax,if_pos hi]
   omega
  simpa using this
theorem uV{st:Bq}(g:Good0 kd a₀ st):Good kd a₀ (Bd st) st:=⟨g.kind,g.fail,g.perm,rfl⟩
theorem eR{st:Bq}{p:Array (Nat×Nat×Nat)}(g:Good kd a₀ p st):Good0 kd a₀ st:=⟨g.kind,g.fail,g.perm⟩
theorem aZ(C:Cmp prog w A s kd Ok blt){st:Bq}(g:Good0 kd a₀ st)(h0:∀x∈a₀.toList,Ok x)(hp:Bd st=#[])(hz:1<=a₀.size){Q:Unit->Bq->Prop}(h:∀st',Good0 kd a₀ st'->Ov blt (arrOf st') 0 a₀.size->Q () st'):wpS (model prog w) A E s aW Q st:=by
 unfold aW
 refine Aw (Lb ?_)
 have hsz:(arrOf st).size=a₀.size:=g.size
 dsimp only
 rw[hsz]
 generalize (sortPriv% PySem.Builtin.minRun) a₀.size a₀.size 0=mr
 refine Aw (Fw (Eb
  (I:=λx c st'=>∃lo,c=(none,lo)/\Good0 kd a₀ st'/\Runs blt (arrOf st') (Bd st').toList 0 lo/\lo<=a₀.size/\x<=lo)
  (Q:=λc st'=>c=(none,a₀.size)/\Good0 kd a₀ st'/\Runs blt (arrOf st') (Bd st').toList 0 a₀.size) ?_ ?_ ⟨0,rfl,g,by rw[hp]; exact rfl,by omega,by omega⟩) ?_)
 ·(intro x c st1 _ hx q_; obtain ⟨lo,rfl,g1,rn,hlo,hxl⟩ := q_)
  dsimp only
  by_cases hge:lo ≥ a₀.size
  ·rw[if_pos hge]
   have e:lo=a₀.size:=by omega
   subst e
   exact Be ⟨rfl,g1,rn⟩
  rw[if_neg hge]
  refine Aw (rA C (uV g1) h0 (lo:=lo) (b:=a₀.size - lo) (by omega) (by omega) λm st2 g2 m1 m2 as ou=>?_)
  dsimp only
  have rn2:Runs blt (arrOf st2) (Bd st2).toList 0 lo:=by
   rw[g2.pd]
   exact rn.out ou (.inl (Ai _))
  have g2':=eR g2
  clear rn g1
  refine Mk (λhmin=>?_) (λhmin=>?_)
  ·refine Aw (Qd ?_)
   refine Aw (nV C g2 h0 (lo:=lo) (n:=min (a₀.size - lo) mr) (ok:=m) (by omega) as (by omega) λPq g3 as3 ou3=>?_)
   refine Mk (λz=>absurd z (by decide)) (λ_=>?_)
   have n1:1<=min (a₀.size - lo) mr:=by omega
   have n2:lo+min (a₀.size - lo) mr<=a₀.size:=by omega
   have rn3:Runs blt (arrOf Pq) (Bd Pq).toList 0 lo:=by
    rw[g3.pd,<- g2.pd]
    exact rn2.out ou3 (.inl (Ai _))
   have g3':=eR g3
   generalize min (a₀.size - lo) mr=n at as3 n1 n2
   clear g2 g2' rn2 as ou ou3 g3 m1 m2 hmin
   refine Aw (Lb ?_)
   cases hb:(Bd Pq).back? with
   | none =>
    dsimp only
    refine Aw (Ib ?_)
    refine Be ⟨lo+n,rfl,⟨g3'.kind,g3'.fail,g3'.perm⟩,?_,n2,by omega⟩
    show Runs blt (arrOf Pq) ((Bd Pq).push (lo,n,0)).toList 0 (lo+n)
    rw[Kg]
    exact rn3.push n1 as3
   | some y =>
    obtain ⟨s1,l1,p1⟩:=y
    dsimp only
    refine Aw (Fw (Eb
     (I:=λ_ c st'=>c=(none,())/\Good0 kd a₀ st'/\Runs blt (arrOf st') (Bd st').toList 0 lo/\Ov blt (arrOf st') lo (lo+n))
     (Q:=λc st'=>c=(none,())/\Good0 kd a₀ st'/\Runs blt (arrOf st') (Bd st').toList 0 lo/\Ov blt (arrOf st') lo (lo+n)) ?_ (λ_ _ z=>z) ⟨rfl,g3',rn3,as3⟩) ?_)
    ·(intro z c st4 _ _ q_; obtain ⟨rfl,g4,rn4,as4⟩ := q_)
     refine Aw (Lb ?_)
     by_cases hs1:(Bd st4).size > 1
     ·rw[if_pos hs1]
      obtain ⟨⟨a1,b1,older⟩,ho⟩ : ∃x,(Bd st4)[(Bd st4).size - 2]? = some x:=⟨(Bd st4)[(Bd st4).size - 2],by simp⟩
      rw[ho]
      dsimp only
      refine Mk (λ_=>Be ⟨rfl,g4,rn4,as4⟩) (λ_=>?_)
      refine Aw (bJ C g4 h0 hlo rn4 (i:=(Bd st4).size - 2) (show (Bd st4).size - 2+1<(Bd st4).size by omega) λst5 g5 rn5 _ keep=>?_)
      refine Mk (λz=>absurd z (by decide)) (λ_=>?_)
      exact Be ⟨rfl,g5,rn5,keep _ _ (Ai _) as4⟩
     ·rw[if_neg hs1]
      exact Be ⟨rfl,g4,rn4,as4⟩
    ·(intro c st4 q_; obtain ⟨rfl,g4,rn4,as4⟩ := q_)
     dsimp only
     refine Aw (Ib ?_)
     refine Aw (Ib ?_)
     refine Be ⟨lo+n,rfl,⟨g4.kind,g4.fail,g4.perm⟩,?_,n2,by omega⟩
     show Runs blt (arrOf st4) (((Bd st4).modify ((Bd st4).size - 1) _).push (lo,n,0)).toList 0 (lo+n)
     rw[Kg,Array.toList_modify]
     exact (rn4.power _).push n1 as4
  ·have n2:lo+m<=a₀.size:=by omega
   refine Aw (Lb ?_)
   cases hb:(Bd st2).back? with
   | none =>
    dsimp only
    refine Aw (Ib ?_)
    refine Be ⟨lo+m,rfl,⟨g2'.kind,g2'.fail,g2'.perm⟩,?_,n2,by omega⟩
    show Runs blt (arrOf st2) ((Bd st2).push (lo,m,0)).toList 0 (lo+m)
    rw[Kg]
    exact rn2.push m1 as
   | some y =>
    obtain ⟨s1,l1,p1⟩:=y
    dsimp only
    refine Aw (Fw (Eb
     (I:=λ_ c st'=>c=(none,())/\Good0 kd a₀ st'/\Runs blt (arrOf st') (Bd st').toList 0 lo/\Ov blt (arrOf st') lo (lo+m))
     (Q:=λc st'=>c=(none,())/\Good0 kd a₀ st'/\Runs blt (arrOf st') (Bd st').toList 0 lo/\Ov blt (arrOf st') lo (lo+m)) ?_ (λ_ _ z=>z) ⟨rfl,g2',rn2,as⟩) ?_)
    ·(intro z c st4 _ _ q_; obtain ⟨rfl,g4,rn4,as4⟩ := q_)
     refine Aw (Lb ?_)
     by_cases hs1:(Bd st4).size > 1
     ·rw[if_pos hs1]
      obtain ⟨⟨a1,b1,older⟩,ho⟩ : ∃x,(Bd st4)[(Bd st4).size - 2]? = some x:=⟨(Bd st4)[(Bd st4).size - 2],by simp⟩
      rw[ho]
      dsimp only
      refine Mk (λ_=>Be ⟨rfl,g4,rn4,as4⟩) (λ_=>?_)
      refine Aw (bJ C g4 h0 hlo rn4 (i:=(Bd st4).size - 2) (show (Bd st4).size - 2+1<(Bd st4).size by omega) λst5 g5 rn5 _ keep=>?_)
      refine Mk (λz=>absurd z (by decide)) (λ_=>?_)
      exact Be ⟨rfl,g5,rn5,keep _ _ (Ai _) as4⟩
     ·rw[if_neg hs1]
      exact Be ⟨rfl,g4,rn4,as4⟩
    ·(intro c st4 q_; obtain ⟨rfl,g4,rn4,as4⟩ := q_)
     dsimp only
     refine Aw (Ib ?_)
     refine Aw (Ib ?_)
     refine Be ⟨lo+m,rfl,⟨g4.kind,g4.fail,g4.perm⟩,?_,n2,by omega⟩
     show Runs blt (arrOf st4) (((Bd st4).modify ((Bd st4).size - 1) _).push (lo,m,0)).toList 0 (lo+m)
     rw[Kg,Array.toList_modify]
     exact (rn4.power _).push m1 as4
 ·(intro c st1 q_; obtain ⟨lo,rfl,g1,rn,hlo,hxl⟩ := q_)
  have : max 0 a₀.size=a₀.size:=by omega
  rw[this] at hxl
  have e:lo=a₀.size:=by omega
  subst e
  exact ⟨rfl,g1,rn⟩
 ·(intro c st1 q_; obtain ⟨rfl,g1,rn⟩ := q_)
  dsimp only
  have len0:=Runs.len rn
  rw[Ax] at len0
  refine Aw (Fw (Eb
   (I:=λx c st'=>c=(none,())/\Good0 kd a₀ st'/\Runs blt (arrOf st') (Bd st').toList 0 a₀.size/\((Bd st').size<=1\/(Bd st').size+x<=a₀.size))
   (Q:=λc st'=>c=(none,())/\Good0 kd a₀ st'/\Runs blt (arrOf st') (Bd st').toList 0 a₀.size/\(Bd st').size<=1) ?_ ?_ ⟨rfl,g1,rn,.inr (by omega)⟩) ?_)
  ·(intro x c st2 _ hx q_; obtain ⟨rfl,g2,rn2,hs⟩ := q_)
   refine Aw (Lb ?_)
   refine Mk (λh1=>Be ⟨rfl,g2,rn2,h1⟩) (λh1=>?_)
   have h1':¬ (Bd st2).size<=1:=h1
   generalize hB:Option.any _ _=bb
   have key:∀i,i+1<(Bd st2).size->wpS (model prog w) A E s (Sy i) (λr Pq=>r=true/\Good0 kd a₀ Pq/\Runs blt (arrOf Pq) (Bd Pq).toList 0 a₀.size/\(Bd Pq).size+1=(Bd st2).size) st2 :=
    λi hi=>bJ C g2 h0 (Ai _) rn2 hi λPq g3 rn3 sz _=>⟨rfl,g3,rn3,sz⟩
   refine Aw (Fw (key _ ?_) λr Pq ⟨er,g3,rn3,sz⟩=>?_)
   ·cases bb with
    | true=>show (Bd st2).size - 2 - 1+1<(Bd st2).size; omega
    | false=>show (Bd st2).size - 2+1<(Bd st2).size; omega
   subst er
   refine Mk (λz=>absurd z (by decide)) (λ_=>?_)
   exact Be ⟨rfl,g3,rn3,.inr (by omega)⟩
  ·(intro c st2 q_; obtain ⟨rfl,g2,rn2,hs⟩ := q_)
   have : max 0 a₀.size=a₀.size:=by omega
   rw[this] at hs
   exact ⟨rfl,g2,rn2,by omega⟩
  ·(intro c st2 q_; obtain ⟨rfl,g2,rn2,hs⟩ := q_)
   dsimp only
   refine Be (h st2 g2 ?_)
   generalize hl:(Bd st2).toList=l at rn2
   have hll:l.length<=1:=by rw[<- hl,Ax]; exact hs
   match l,rn2,hll with
   | [],rn2,_ =>
    have e:0=a₀.size:=rn2
    omega
   | [(s1,n1,p1)],rn2,_ =>
    obtain ⟨_,_,as,e⟩:=rn2
    have e':0+n1=a₀.size:=e
    rw[e'] at as
    exact as
end
end Ts
namespace Ts
open PySem PyProof.Rows L2
theorem kJ:∀l:List Int,HT.lexLt l l=false
 | []=>rfl
 | x::r=>by rw[HT.lexLt_cons,if_pos rfl]; exact kJ r
theorem iG:∀{a b c:List Int},HT.lexLt a b=true->HT.lexLt b c=true->HT.lexLt a c=true
 | [],[],_,h,_=>by rw[HT.lexLt_nil_nil] at h; cases h
 | [],_::_,[],_,h=>by rw[HT.lexLt_cons_nil] at h; cases h
 | [],_::_,_::_,_,_=>HT.lexLt_nil_cons _ _
 | _::_,[],_,h,_=>by rw[HT.lexLt_cons_nil] at h; cases h
 | _::_,_::_,[],_,h=>by rw[HT.lexLt_cons_nil] at h; cases h
 | x::a,y::b,z::c,h1,h2=>by
  rw[HT.lexLt_cons] at h1 h2 ⊢
  by_cases e1:x=y
  ·subst e1
   rw[if_pos rfl] at h1
   by_cases e2:x=z
   ·subst e2
    rw[if_pos rfl] at h2 ⊢
    exact iG h1 h2
   ·rw[if_neg e2] at h2 ⊢
    exact h2
  ·rw[if_neg e1] at h1
   have l1:x<y:=of_decide_eq_true h1
   by_cases e2:y=z
   ·subst e2
    rw[if_neg e1]
    exact h1
   ·rw[if_neg e2] at h2
    have l2:y<z:=of_decide_eq_true h2
    rw[if_neg (by omega)]
    exact decide_eq_true (by omega)
theorem cU:∀{a b:List Int},HT.lexLt a b=false->HT.lexLt b a=false->a=b
 | [],[],_,_=>rfl
 | [],_::_,h,_=>by rw[HT.lexLt_nil_cons] at h; cases h
 | _::_,[],_,h=>by rw[HT.lexLt_nil_cons] at h; cases h
 | x::a,y::b,h1,h2=>by
  rw[HT.lexLt_cons] at h1 h2
  by_cases e:x=y
  ·subst e
   rw[if_pos rfl] at h1 h2
   rw[cU h1 h2]
  ·rw[if_neg e] at h1
   rw[if_neg (Ln e)] at h2
   have l1:=of_decide_eq_false h1
   have l2:=of_decide_eq_false h2
   omega
theorem wN{a b c:List Int}(h:HT.lexLt a c=true):HT.lexLt a b=true\/HT.lexLt b c=true:=by
 cases h1:HT.lexLt a b with
 | true=>exact .inl rfl
 | false =>
  cases h2:HT.lexLt b a with
  | true=>exact .inr (iG h2 h)
  | false =>
   rw[<- cU h1 h2]
   exact .inr h
def S6(c:Addr->List Int)(x:Keyed):List Int:=match x.1 with
 | .ref a=>c a
 | _=>[]
def R9(c:Addr->List Int)(x y:Keyed):Bool:=HT.lexLt (S6 c x) (S6 c y)
def oE(c:Addr->List Int)(rs:List Addr)(h:Heap):Prop:=∀r∈rs,∃its:List Value,Ig its (c r)/\IsTup h r its.toArray
section
variable{prog:Bu}{w:World}{A:Cq}{E:Value->Af->Prop}{s:Af}{c:Addr->List Int}{rs:List Addr}
theorem mO(hH:oE c rs s.heap)(hu:A.units<cLine){a b:Addr}(ha:a∈rs)(hb:b∈rs){Q:Bool->Af->Prop}(h:Q (HT.lexLt (c a) (c b)) s):wpAny (model prog w) A (oneLt' true (.ref a) (.ref b)) Q E s:=by
 obtain ⟨i1,t1,⟨c1,d1,dt1,sl1⟩,g1,k1,n1,e1⟩:=hH a ha
 obtain ⟨i2,t2,⟨c2,d2,dt2,sl2⟩,g2,k2,n2,e2⟩:=hH b hb
 simp only at k1 e1 k2 e2
 subst k1 e1 k2 e2
 rw[oneLt'_eq]
 simp only[if_true]
 refine Ac (wpAny_cRoomFor hu (Ac (wpAny_callSpecialIfBound?_slot ⟨_,g1,rfl⟩ PySem.F.slot_tuple_lt ?_)))
 refine Sg PySem.F.slot_tuple_lt ⟨_,g1,rfl⟩ PySem.F.entry_tuple_lt (PySem.F.args_tuple_lt_2 _ _) (HT.tuple_lt_ints a b _ _ n1 n2 d1 d2 sl1 sl2 (c a) (c b) (by simpa using t1) (by simpa using t2)) ⟨g1,g2,?_⟩
 exact Gy h
theorem wX(hH:oE c rs s.heap)(hu:A.units<cLine):Cmp prog w A s Rh (λx=>∃r∈rs,x.1=.ref r) (R9 c) where
 run:=λx y Q E ⟨r,hr,ex⟩ ⟨r',hr',ey⟩ h=>by
  obtain ⟨x1,x2⟩:=x
  obtain ⟨y1,y2⟩:=y
  simp only at ex ey
  subst ex ey
  rw[keyLt'_oneType]
  exact mO hH hu hr hr' h
 irr:=λx=>kJ _
 tr:=λx y z h1 h2=>iG h1 h2
 neg:=λx y z h=>wN h
theorem Xf:∀{l:List Addr} {Q:List (Option Value)->Af->Prop},(∀r∈l,∃its:List Value,Ig its (c r)/\IsTup s.heap r its.toArray)->(∀fs:List (Option Value),fs.length=l.length->(∀(i:Nat) (r:Addr),l[i]? = some r->∃f,fs[i]? = some f/\(f.isSome=true↔c r≠[]))->Q fs s)->wpAny (model prog w) A ((l.map Bf).mapM Yx) Q E s
 | [],Q,_,h=>by
  rw[Mc,List.mapM_nil]
  exact Bb (h [] rfl λi r e=>by simp at e)
 | r::l,Q,hH,h=>by
  obtain ⟨its,ti,o,g,k,n,e⟩:=hH r Aa
  rw[Av,List.mapM_cons]
  have one:∀{R:Option Value->Af->Prop},R its.toArray[0]? s->wpAny (model prog w) A (Yx (.ref r)) R E s:=λ{R} hR=>by
   unfold Yx
   refine Ac (Sb (T := "tuple") ⟨o,g,k⟩ ?_)
   rw[if_neg (by simp)]
   exact Ac (bF g e (Bb hR))
  refine Ac (one (Ac (Xf (λr' hr'=>hH r' (Ag _ hr')) λfs hl hf=>Bb (h _ (by rw[Bt,Bt,hl]) λi r' er=>?_))))
  cases i with
  | zero =>
   have e':r=r':=by simpa using er
   subst e'
   refine ⟨_,rfl,?_⟩
   have hlen:=ti.length
   cases its with
   | nil =>
    cases hc:c r with
    | nil=>simp
    | cons _ _=>rw[hc] at hlen; simp at hlen
   | cons a b =>
    cases hc:c r with
    | nil=>rw[hc] at hlen; simp at hlen
    | cons _ _=>simp
  | succ i =>
   obtain ⟨f,h1,h2⟩:=hf i r' (by simpa using er)
   exact ⟨f,by simpa using h1,h2⟩
theorem aG:∀{l:List Addr} {Q:List Value->Af->Prop},(∀r∈l,∃its:List Value,Ig its (c r)/\IsTup s.heap r its.toArray)->Q (l.map λ_=>Ow "tuple") s->wpAny (model prog w) A ((l.map Bf).mapM typeOf) Q E s
 | [],Q,_,h=>by
  rw[Mc,List.mapM_nil]
  exact Bb h
 | r::l,Q,hH,h=>by
  obtain ⟨its,ti,o,g,k,n,e⟩:=hH r Aa
  rw[Av,List.mapM_cons]
  exact Ac (Sb (T := "tuple") ⟨o,g,k⟩ (Ac (aG (λr' hr'=>hH r' (Ag _ hr')) (Bb h))))
theorem pZ{r:Addr}{l:List Addr}(hH:oE c (r::l) s.heap)(h0:c r=[]){Q:Kf->Af->Prop}(h:Q Rh s):wpAny (model prog w) A (keyKind' ((r::l).map Bf).toArray) Q E s:=by
 rw[keyKind'_eq,List.mapM_toArray]
 refine Ac ?_
 show wpAny (model prog w) A (List.toArray <$> ((r::l).map Bf).mapM Yx) _ E s
 rw[map_eq_pure_bind]
 refine Ac (Xf hH λfs hl hf=>Bb ?_)
 obtain ⟨f,h1,h2⟩:=hf 0 r rfl
 have fn:f=none:=by
  cases f with
  | none=>rfl
  | some v=>exact absurd h0 (h2.mp rfl)
 subst fn
 have na:¬ (fs.toArray.all λx=>x.isSome)=true:=by
  intro z
  have:=Array.all_eq_true'.mp z none (by
   have:=Au h1
   simpa using this)
  simp at this
 have n0:¬ (fs.toArray[0]?.bind id).isSome=true:=by
  rw[List.getElem?_toArray,h1]
  simp
 rw[if_neg na,if_neg n0,oneTypeOnly'_eq,List.mapM_toArray]
 refine Ac (Ac ?_)
 show wpAny (model prog w) A (List.toArray <$> ((r::l).map Bf).mapM typeOf) _ E s
 rw[map_eq_pure_bind]
 refine Ac (aG hH (Bb ?_))
 have e0:((r::l).map λ_=>Ow "tuple").toArray[0]? = some (Ow "tuple"):=by simp
 have ea:(((r::l).map λ_=>Ow "tuple").toArray.all λx=>x == Ow "tuple")=true:=by
  simp only[List.all_toArray,Wi,Yz]
  intro _ _
  rfl
 rw[e0]
 dsimp only
 rw[ea,if_pos rfl]
 exact Bb (Bb h)
theorem oG{a:Addr}{n:Nat}{P:Fin->Af->Prop}(hl:s.heap.get? a=some (Dc "list" (rs.map Bf).toArray n))(hH:oE c rs s.heap)(h0:∀r l,rs=r::l->c r=[])(hu:A.units<cLine)(hz:rs.length<=Aq)(h:∀rs':List Addr,rs'.Perm rs->rs'.Pairwise (λx y=>HT.lexLt (c y) (c x)=false)->P (.done (.ret .none)) { s with heap:=sortedHeap s.heap a (rs.map Bf) (rs'.map Bf).toArray }):wpAny (model prog w) A (Builtin.«list.sort» ⟨[.ref a],[]⟩) P E s:=by
 have lt:=Bc hl
 have hsz:(rs.map Bf).toArray.size=rs.length:=by simp
 rw[list_sort_plain]
 refine Ac (bF hl rfl (Ac (Ke hl rfl ?_ (by rw[hsz]; exact hz))))
 obtain ⟨ep,hl1⟩ : ∃ep,(s.heap.update a (Cu λ_=>#[])).get? a=some (Dc "list" #[] ep):=⟨_,Kl hl (λ_=>#[])⟩
 refine Ac (Vu hl1 rfl (Ac (wpAny_newTuple (Ac (Yw (Dh ?_)) ))))
 have hl2:(((s.heap.update a (Cu λ_=>#[])).push (Dc "tuple" (rs.map Bf).toArray 0)).push (Dc "list" #[] 0)).get? a=some (Dc "list" #[] ep):=by
  rw[Heap.get?_push_ne _ _ _ (by rw[Zd,Jc]; exact Cf (Nat.lt_succ_of_lt lt)),
   Heap.get?_push_ne _ _ _ (by rw[Jc]; exact Cf lt)]
  exact hl1
 have kept:∀b o,b≠a->s.heap.get? b=some o->(((s.heap.update a (Cu λ_=>#[])).push (Dc "tuple" (rs.map Bf).toArray 0)).push (Dc "list" #[] 0)).get? b=some o:=λb o hb e=>by
  refine Ae _ (Ae _ ?_)
  exact ((Cv s.heap a _).2 b hb).trans e
 have hH2:oE c rs (((s.heap.update a (Cu λ_=>#[])).push (Dc "tuple" (rs.map Bf).toArray 0)).push (Dc "list" #[] 0)):=λr hr=>by
  obtain ⟨its,t1,o,g1,k1,m1,e1⟩:=hH r hr
  refine ⟨its,t1,o,kept r o ?_ g1,k1,m1,e1⟩
  rintro rfl
  rw[hl] at g1
  cases g1
  exact absurd k1 (by simp)
 show wpAny (model prog w) A _ P E { s with heap:=((s.heap.update a (Cu λ_=>#[])).push (Dc "tuple" (rs.map Bf).toArray 0)).push (Dc "list" #[] 0) }
 dsimp only
 -- what is left Uk the runs
 have fin:∀(out:Array Value) (rs':List Addr),out=(rs'.map Bf).toArray->rs'.Perm rs->rs'.Pairwise (λx y=>HT.lexLt (c y) (c x)=false) ->
   P (.done (.ret .none)) { s with heap:=sortedHeap s.heap a (rs.map Bf) out }:=λout rs' e p1 p2=>by rw[e]; exact h rs' p1 p2
 by_cases h2:(rs.map Bf).toArray.size<2
 ·rw[if_pos h2,if_pos h2]
  refine Ac (Bb ?_)
  rw[StateT.run_pure]
  refine Ac (Bb (Ac (Vu hl2 rfl (Ac (Ke hl2 rfl ?_ (by simp) ?_)))))
  ·simp only[bne_self_eq_false,By,if_false]
   refine Bb (fin _ rs ?_ (Hs _) ?_)
   ·show Array.map (λx=>x.2) ((rs.map Bf).toArray.zip (rs.map Bf).toArray)=_
    apply Array.ext'
    simp [List.map_snd_zip]
   ·rw[hsz] at h2
    match rs,h2 with
    | [],_=>exact Hf
    | [_],_=>exact Fk _ _
    | _::_::_,h2=>simp only[Bt] at h2; omega
  ·show (Array.map (λx:Keyed=>x.2) ((rs.map Bf).toArray.zip (rs.map Bf).toArray)).size<=Aq+1
   rw[Array.size_map,Array.size_zip,hsz]
   omega
 ·rw[if_neg h2,if_neg h2]
  rw[hsz] at h2
  obtain ⟨r0,Gq,e0⟩ : ∃r l,rs=r::l:=by
   cases rs with
   | nil=>simp at h2
   | cons r l=>exact ⟨r,l,rfl⟩
  have hk:∀{R:Kf->Af->Prop},R Rh { s with heap:=((s.heap.update a (Cu λ_=>#[])).push (Dc "tuple" (rs.map Bf).toArray 0)).push (Dc "list" #[] 0) } ->
    wpAny (model prog w) A (keyKind' (rs.map Bf).toArray) R E { s with heap:=((s.heap.update a (Cu λ_=>#[])).push (Dc "tuple" (rs.map Bf).toArray 0)).push (Dc "list" #[] 0) }:=λ{R} hR=>by
   have hH3:=hH2
   rw[e0] at hH3 hR ⊢
   exact pZ hH3 (h0 r0 Gq e0) hR
  refine Ac (hk ?_)
  have C:=wX (prog:=prog) (w:=w) (A:=A) (s:={ s with heap:=((s.heap.update a (Cu λ_=>#[])).push (Dc "tuple" (rs.map Bf).toArray 0)).push (Dc "list" #[] 0) }) hH2 hu
  have a0:(pairsOf (rs.map Bf)).size=rs.length:=by rw[pairsOf_size,Ab]
  refine Ac (En (aZ C (a₀:=pairsOf (rs.map Bf)) (st:=Tw Rh ((rs.map Bf).toArray.zip (rs.map Bf).toArray) #[] 7 none) (E:=E)
   (Q:=λ_ st'=>Good0 Rh (pairsOf (rs.map Bf)) st'/\Ov (R9 c) (arrOf st') 0 (pairsOf (rs.map Bf)).size)
   ⟨rfl,rfl,Array.Perm.refl _⟩ (λx hx=>?_) rfl (by rw[a0]; omega) λst' g as=>⟨g,as⟩) ?_ λ_ _ z=>z)
  ·rw[pairsOf_toList] at hx
   obtain ⟨_,hm⟩:=mem_zip_self hx
   obtain ⟨r,hr,e⟩:=Bg.mp hm
   exact ⟨r,hr,e.symm⟩
  ·(rintro ⟨⟨⟩,st'⟩ s' q_; obtain ⟨rfl,g,as⟩ := q_)
   dsimp only
   -- the things of the new order
   have pl:(arrOf st').toList.Perm ((rs.map Bf).zip (rs.map Bf)):=by rw[<- pairsOf_toList]; exact Mt.mp g.perm
   have each:∀x∈(arrOf st').toList,∃r∈rs,x=(Bf r,Bf r):=λx hx=>by
    obtain ⟨e,hm⟩:=mem_zip_self (pl.mem_iff.mp hx)
    obtain ⟨r,hr,e2⟩:=Bg.mp hm
    refine ⟨r,hr,?_⟩
    obtain ⟨x1,x2⟩:=x
    simp only at e e2
    rw[<- e,e2]
   have ex:∀l:List Keyed,(∀x∈l,∃r∈rs,x=(Bf r,Bf r))->∃rs':List Addr,l=rs'.map λr=>(Bf r,Bf r):=by
    intro l
    induction l with
    | nil=>intro _; exact ⟨[],rfl⟩
    | cons x l ih =>
     intro hx
     obtain ⟨r,_,e⟩:=hx x Aa
     obtain ⟨rs',e'⟩:=ih λy hy=>hx y (Ag _ hy)
     exact ⟨r::rs',by rw[Av,e,e']⟩
   obtain ⟨rs',ers⟩:=ex _ each
   have zz:(rs.map Bf).zip (rs.map Bf)=rs.map λr=>(Bf r,Bf r):=by
    rw[List.zip_map',]
   rw[ers,zz] at pl
   have inj:∀x:Keyed,∃a:Addr,True:=λ_=>⟨0,trivial⟩
   have pr:rs'.Perm rs:=by
    have:=pl.map (λx:Keyed=>match x.1 with | .ref a=>a | _=>0)
    rw[Br,Br] at this
    simpa [Function.comp_def] using this
   have so:rs'.Pairwise (λx y=>HT.lexLt (c y) (c x)=false):=by
    rw[Dg]
    intro i j hi hj hij
    have ls:(arrOf st').size=rs'.length:=by
     have:=congrArg Gr ers
     rw[Ax,Ab] at this
     exact this
    have xe:∀k (hk:k<rs'.length),X (arrOf st') k=(Bf rs'[k],Bf rs'[k]):=λk hk=>by
     have e1:=Dy (Uj (xs:=arrOf st') (i:=k) (by omega))
     rw[ers,Az,Am hk] at e1
     exact (Bj e1).symm
    have:=as i j (Dj _) (by omega) (by rw[a0,<- pr.length_eq]; exact hj)
    rw[xe i hi,xe j hj] at this
    exact this
   refine Ac (Vu hl2 rfl (Ac (Ke hl2 rfl ?_ (by simp) ?_)))
   ·have fl:Jm st'=none:=g.fail
    rw[fl]
    simp only[bne_self_eq_false,By,if_false]
    refine Bb (fin _ rs' ?_ pr so)
    apply Array.ext'
    rw[Array.toList_map,ers,Br]
    rfl
   ·show (Array.map (λx:Keyed=>x.2) (arrOf st')).size<=Aq+1
    rw[Array.size_map,g.size,a0]
    omega
end
theorem Ul:∀{rs:List Addr} {us:List Value},Ep (rs.map V.ref) us->us=rs.map Bf
 | [],_,r=>by cases r; rfl
 | a::l,_,r=>by
  rw[Av] at r
  cases r with
  | cons r1 r2 =>
   cases r1
   rw[Ul r2]
   rfl
theorem bC:∀rs:List Addr,Ep (rs.map V.ref) (rs.map Bf)
 | []=>.nil
 | _::l=>.cons rfl (bC l)
section
variable{prog:Bu}{w:World}{A:Cq}{E:Value->Af->Prop}{s:Af}{c:Addr->List Int}{rs:List Addr}
theorem fH{l:Addr}{Q:Value->Af->Prop}(hl:s.heap.IsList l (rs.map Bf).toArray)(hH:oE c rs s.heap)(h0:∀r l,rs=r::l->c r=[])(hu:A.units+2<cLine)(hz:rs.length<=Aq)(h:∀rs':List Addr,rs'.Perm rs->rs'.Pairwise (λx y=>HT.lexLt (c y) (c x)=false)->Q (.ref (s.heap.objs.size+1)) { s with heap:=sortedAll s.heap (rs.map Bf) (rs'.map Bf).toArray }):wpAny (model prog w) A (call (.builtin "sorted") [.ref l]) Q E s:=by
 refine Calls.call_function_entry (by exact kind_sorted) plain_sorted entry_sorted (args_sorted1 _) ?_
 unfold Builtin.«sorted»
 refine Ac (m:=checkCount "sorted" 1 1 _) (Bb (Ac (collect_list hl (Ac (Yw ?_)) (by rw[Ab]; exact hz))))
 have z1:((s.heap.push (Dc "list" #[] 0)).update s.heap.objs.size (Cu (·++(rs.map Bf).toArray))).objs.size=s.heap.objs.size+1:=by rw[Jc,Zd]
 have g1:(((s.heap.push (Dc "list" #[] 0)).update s.heap.objs.size (Cu (·++(rs.map Bf).toArray))).push (Dc "list" (rs.map Bf).toArray 0)).get? (s.heap.objs.size+1)=some (Dc "list" (rs.map Bf).toArray 0):=by
  rw[<- z1]
  exact Bi _ rfl
 have kept:∀b o,s.heap.get? b=some o->(((s.heap.push (Dc "list" #[] 0)).update s.heap.objs.size (Cu (·++(rs.map Bf).toArray))).push (Dc "list" (rs.map Bf).toArray 0)).get? b=some o:=λb o e=>by
  refine Ae _ (((Cv _ _ _).2 b (Cf (Bc e))).trans (Ae _ e))
 show wpAny _ _ _ _ _ { s with heap:=((s.heap.push (Dc "list" #[] 0)).update s.heap.objs.size (Cu (·++(rs.map Bf).toArray))).push (Dc "list" (rs.map Bf).toArray 0) }
 rw[z1]
 refine Ac (Dh (Re slot_list_sort ⟨_,g1,rfl⟩ entry_list_sort (oG g1 (λr hr=>?_) h0 ?_ hz λrs' p1 p2=>⟨_,rfl,?_⟩) (args_list_sort _)))
 ·obtain ⟨its,t1,o,q1,k1,m1,e1⟩:=hH r hr
  exact ⟨its,t1,o,kept r o q1,k1,m1,e1⟩
 ·first | exact Hm (by show A.units+2<=A.units+2; exact Ai _) hu | exact Hm (Ox _ 2) hu | (show A.units+1<cLine; omega) | trace_state
 ·exact Bb ⟨_,rfl,h rs' p1 p2⟩
theorem Wc{h:Heap}{vs:List Value}{out:Array Value}{b:Addr}{o:Obj}(e:h.get? b=some o):(sortedAll h vs out).get? b=some o:=by
 have lt:=Bc e
 unfold sortedAll sortedHeap
 have z1:((h.push (Dc "list" #[] 0)).update h.objs.size (Cu (·++vs.toArray))).objs.size=h.objs.size+1:=by rw[Jc,Zd]
 have n1:b≠h.objs.size+1:=Cf (Nat.lt_succ_of_lt lt)
 refine ((Cv _ _ _).2 b n1).trans (Ae _ (Ae _ (((Cv _ _ _).2 b n1).trans (Ae _ ?_))))
 exact ((Cv _ _ _).2 b (Cf lt)).trans (Ae _ e)
theorem Zo{h:Heap}{vs:List Value}{out:Array Value}:∃n,(sortedAll h vs out).get? (h.objs.size+1)=some (Dc "list" out n):=by
 unfold sortedAll sortedHeap
 have z1:((h.push (Dc "list" #[] 0)).update h.objs.size (Cu (·++vs.toArray))).objs.size=h.objs.size+1:=by rw[Jc,Zd]
 have g1:(((h.push (Dc "list" #[] 0)).update h.objs.size (Cu (·++vs.toArray))).push (Dc "list" vs.toArray 0)).get? (h.objs.size+1)=some (Dc "list" vs.toArray 0):=by
  rw[<- z1]
  exact Bi _ rfl
 have g2:=Kl g1 (λ_=>#[])
 have g3:=Ae (Dc "list" #[] 0) (Ae (Dc "tuple" vs.toArray 0) g2)
 exact ⟨_,Kl g3 (λ_=>out)⟩
end
section
variable{X:Cx}
theorem call_sorted(hu:X.A.units+2<cLine):Kc X (.builtin "sorted") (λxs H Q=>∃(a:Addr) (rs:List Addr) (c:Addr->List Int),xs=[.ref a]/\Kw X.K H a (rs.map V.ref)/\(∀r∈rs,Rr X.K H r ((c r).map V.int))/\(∀r l,rs=r::l->c r=[])/\∀(p:Addr) (rs':List Addr),H p=none->rs'.Perm rs->rs'.Pairwise (λx y=>HT.lexLt (c y) (c x)=false)->Q (.ref p) (upd H p (.lst (rs'.map V.ref)))):=by
 intro pins s σ H xs us Q I r h
 obtain ⟨a,rs,c,rfl,hl,hc,h0,q⟩:=h
 obtain ⟨u,rfl,ru⟩:=vals1 r
 cases ru
 obtain ⟨its,rv,pl,hz⟩:=I.list hl
 have e:=Ul rv
 subst e
 rw[Ab] at hz
 refine fH (c:=c) pl.isList (λr hr=>?_) h0 hu hz λrs' p1 p2=>?_
 ·obtain ⟨ti,t1,t2,_⟩:=I.tuple (hc r hr)
  exact ⟨ti,intsAre_of t1,t2⟩
 ·obtain ⟨n,hn⟩:=Zo (h:=s.heap) (vs:=rs.map Bf) (out:=(rs'.map Bf).toArray)
  refine ⟨.ref (s.heap.objs.size+1),upd H (s.heap.objs.size+1) (.lst (rs'.map V.ref)),I.laid (t':=s.toks) (λb o e=>Wc e) (Oe _) ⟨?_,_,n,bC rs',hn⟩,rfl,q _ rs' (I.hok.fresh (Oe _)) p1 p2⟩
  rw[Ab,p1.length_eq]
  exact hz
end
section
variable{prog:Bu}{w:World}{A:Cq}{E:Value->Af->Prop}{s:Af}{c:Addr->List Int}{rs:List Addr}
theorem wZ{b:Bool}{x y:Int}{t u:Tok}{Q:Bool->Af->Prop}(h:Q (decide (x<y)) s):wpAny (model prog w) A (oneLt' b (.int x t) (.int y u)) Q E s:=by
 cases b with
 | true=>exact oneLt_int h
 | false=>exact PySem.W.kat_one _ _ (lt_int h)
end
end Ts
namespace DL
open PySem L2 Nd
def Us{α:Type}(xs:List α)(lo hi:Option Int):List α:=(xs.drop (HT.sIx xs.length 0 lo)).take (HT.sIx xs.length xs.length hi - HT.sIx xs.length 0 lo)
theorem fV{α β:Type}(f:α->β)(xs:List α)(lo hi:Option Int):Us (xs.map f) lo hi=(Us xs lo hi).map f:=by
 unfold Us
 rw[Ab,List.map_take,List.map_drop]
theorem pU{α:Type}(xs:List α)(lo hi:Option Int):(Us xs lo hi).Sublist xs:=(Kn _ _).trans (Ie _ _)
theorem mH{α:Type}(xs:List α)(k:Nat):Us xs none (some (k:Int))=xs.take k:=by
 unfold Us
 rw[HT.sIx_none,HT.sIx_nat,Rz,Nat.sub_zero]
 by_cases h:k<=xs.length
 ·rw[Nat.min_eq_left h]
 ·rw[Nat.min_eq_right (by omega),Ft,Dx (by omega)]
section
variable{K:PySem.W.Frag}{H:Hp}
theorem RdFs.rep{xs:List V}{ds:List Ad}(h:RdFs K H xs ds []):∀k:Nat,RdFs K H (Ca k xs).flatten (Ca k ds).flatten []
 | 0=>.nil
 | k+1=>by
  rw[Fb,Fb,Gs,Gs]
  exact h.app (RdFs.rep h k)
theorem RdFs.ints:∀ns:List Int,RdFs K H (ns.map V.int) (ns.map An) []
 | []=>.nil
 | n::ns=>RdFs.cons (F:=[]) (.int n) (RdFs.ints ns)
theorem RdFs.ints_inv:∀{ns:List Int} {xs:List V} {F:List Addr},RdFs K H xs (ns.map An) F->xs=ns.map V.int/\F=[]
 | [],_,_,h=>by cases h; exact ⟨rfl,rfl⟩
 | n::ns,_,_,h=>by
  rw[Av] at h
  cases h with
  | cons a t =>
   obtain ⟨rfl,rfl⟩:=a.int_inv
   obtain ⟨rfl,rfl⟩:=RdFs.ints_inv t
   exact ⟨rfl,rfl⟩
theorem RdFs.bools_inv:∀{ns:List Bool} {xs:List V} {F:List Addr},RdFs K H xs (ns.map PyData.bool) F->xs=ns.map V.bl/\F=[]
 | [],_,_,h=>by cases h; exact ⟨rfl,rfl⟩
 | n::ns,_,_,h=>by
  rw[Av] at h
  cases h with
  | cons a t =>
   obtain ⟨rfl,rfl⟩:=a.bl_inv
   obtain ⟨rfl,rfl⟩:=RdFs.bools_inv t
   exact ⟨rfl,rfl⟩
end
theorem Xa{a b:List Ad}:Du (a++b)=(Du a && Du b):=by
 induction a with
 | nil=>simp [Du]
 | cons x a ih=>simp [Du,ih,Bool.and_assoc]
theorem Mi(ns:List Int):Du (ns.map An)=true:=Ro (λ_=>by simp [imm]) ns
def lQ:D2:=λx y P=>match x,y with
 | .dat _ (.list ds),.dat _ (.list es)=>Du ds=true/\Du es=true/\ds.length+es.length<=1000000/\P (.dat .ow (.list (ds++es)))
 | _,_=>False
def kZ:D2:=λx y P=>match x,y with
 | .dat _ (.list ds),.dat _ (.int k)=>Du ds=true /\ -1000000<=k/\k<=1000000/\ds.length * k.toNat<=1000000/\P (.dat .ow (.list (Ca k.toNat ds).flatten))
 | _,_=>False
section
variable{K:PySem.W.Frag}
theorem o5:jY K C9 lQ:=by
 intro H0 X n S T x y v w F G H Q P hA hd k
 unfold lQ at hd
 split at hd
 ·obtain ⟨i1,i2,hz,p⟩:=hd
  obtain ⟨b,ys,G1,rfl,hb,rb,_,_⟩:=(hA.told mem_mid).list_inv
  obtain ⟨a,xs,G2,rfl,ha,ra,_,_⟩:=(hA.told Er).list_inv
  have l1:=ra.len
  have l2:=rb.len
  refine ⟨a,b,xs,ys,rfl,rfl,ha,hb,lI (by omega),λq hq=>?_⟩
  exact k _ _ _ _ (hA.drop2.newI (ra.app rb) (by rw[Xa,i1,i2]; rfl) (by rw[Cb]; exact lI (by omega)) hq .ow) p
 ·exact hd.elim
theorem i8:jY K A1 kZ:=by
 intro H0 X n S T x y v w F G H Q P hA hd k
 unfold kZ at hd
 split at hd
 ·obtain ⟨i1,k0,k1,hz,p⟩:=hd
  obtain ⟨rfl,_⟩:=(hA.told mem_mid).int_inv
  obtain ⟨a,xs,G2,rfl,ha,ra,_,_⟩:=(hA.told Er).list_inv
  have l1:=ra.len
  obtain rfl:=ra.imm i1
  rename_i j
  refine ⟨a,_,xs,rfl,rfl,ha,by omega,by omega,lI (by rw[l1]; exact hz),λq hq=>?_⟩
  refine k _ _ _ _ (hA.drop2.newI (ra.rep _) ?_ (by rw[kH,Nat.mul_comm]; exact lI hz) hq .ow) p
  refine jE.mpr λz hz'=>?_
  obtain ⟨l,hl,hz'⟩:=List.mem_flatten.mp hz'
  rw[(Hi.mp hl).2] at hz'
  exact jE.mp i1 z hz'
 ·exact hd.elim
end
section
variable{X:Cx}{a b:Expr}{da db:DE}{pos:Pos}
theorem dH(ha:Fi X a da)(hb:Fi X b db):Fi X (.BinOp a .Add b pos) (Wo lQ da db):=Sn hC o5 ha hb
theorem n9(ha:Fi X a da)(hb:Fi X b db):Fi X (.BinOp a .Mult b pos) (Wo kZ da db):=Sn o9 i8 ha hb
end
abbrev DO:=DS->(Option Int->DS->Prop)->Prop
def LO(K:PySem.W.Frag)(do_:DO):TO:=λσ H Q=>∃(H0:Hp) (X:Addr->Prop) (S T:List Ent) (δ:DS) (P:Option Int->DS->Prop),vs S=σ/\Sl S δ/\At K H0 X δ.n (S++T) H/\do_ δ P /\
 ∀o δ' S' H',vs S'=σ->Sl S' δ'->At K H0 X δ'.n (S'++T) H'->P o δ'->Q o H'
abbrev M6(X:Cx)(e:Option Expr)(d:DO):Prop:=PO X e (LO X.K d)
theorem PO.imp{X:Cx}{e:Option Expr}{t t':TO}(h:PO X e t)(k:∀σ H Q,t' σ H Q->t σ H Q):PO X e t':=λpins s σ H Q I q=>h pins s σ H Q I (k σ H Q q)
def kR:DO:=λδ P=>P none δ
def xQ(de:DE):DO:=λδ P=>de δ λx δ'=>match x with
 | .dat _ (.int i)=>P (some i) δ'
 | _=>False
section
variable{X:Cx}{e:Expr}{de:DE}{lo hi:Option Expr}{dl dh:DO}{pos p2:Pos}
theorem sA:M6 X none kR:=by
 refine PO.imp vX λσ H Q h=>?_
 obtain ⟨H0,Y,S,T,δ,P,rfl,hS,hA,hd,k⟩:=h
 exact k _ δ S H rfl hS hA hd
theorem oU(h:Fi X e de):M6 X (some e) (xQ de):=by
 refine PO.imp (vU h) λσ H Q h=>?_
 obtain ⟨H0,Y,S,T,δ,P,rfl,hS,hA,hd,k⟩:=h
 refine ⟨H0,Y,S,T,δ,_,rfl,hS,hA,hd,λx δ' v F S' H' e1 e2 hA' p=>?_⟩
 split at p
 ·obtain ⟨rfl,_⟩:=(hA'.told mem_mid).int_inv
  exact ⟨_,rfl,k _ δ' S' H' e1 e2 hA'.drop p⟩
 ·exact p.elim
end
end DL
namespace NdS
open PySem PyProof.Rows
end NdS
namespace Nd
open PySem PySem.Spec PyProof.Rows L2 NdS
end Nd
namespace DL
open PySem L2 Nd
def pC(x:Int):List Int->List Int
 | []=>[x]
 | y::l=>if x<y then x::y::l else if x=y then y::l else y::pC x l
def A4(ns:List Int):List Int:=ns.foldr pC []
theorem pH{x z:Int}:∀{l:List Int},z∈pC x l↔z=x\/z∈l
 | []=>by simp [pC]
 | y::l=>by
  unfold pC
  split
  ·simp
  ·split
   ·rename_i h1 h2
    subst h2
    simp
   ·simp only[Aj,pH (l:=l)]
    constructor
    ·rintro (h | h | h) <;> simp [h]
    ·rintro (h | h | h) <;> simp [h]
theorem Xs:∀{l m:List Int},l.Perm m->l.Pairwise (·<=·)->m.Pairwise (·<=·)->l=m
 | [],m,p,_,_=>(List.nil_perm.mp p).symm
 | a::l,[],p,_,_=>(List.perm_nil.mp p)
 | a::l,b::m,p,h1,h2=>by
  obtain ⟨q1,r1⟩:=Bh.mp h1
  obtain ⟨q2,r2⟩:=Bh.mp h2
  have e:a=b:=by
   rcases Aj.mp (p.mem_iff.mp Aa) with z | z
   ·exact z
   ·rcases Aj.mp (p.mem_iff.mpr Aa) with y | y
    ·exact y.symm
    ·have:=q2 a z; have:=q1 b y; omega
  subst e
  rw[Xs (List.perm_cons _ |>.mp p) r1 r2]
def oK(x:Int):List Int->List Int
 | []=>[x]
 | y::l=>if x<=y then x::y::l else y::oK x l
def Vo(ns:List Int):List Int:=ns.foldr oK []
theorem mE{x:Int}:∀{l:List Int},(oK x l).Perm (x::l)
 | []=>Hs _
 | y::l=>by
  unfold oK
  split
  ·exact Hs _
  ·exact ((mE (l:=l)).cons y).trans (Hr _ _ _)
theorem Lu:∀ns:List Int,(Vo ns).Perm ns
 | []=>Hs _
 | n::ns=>mE.trans ((Lu ns).cons n)
theorem lA{x:Int}:∀{l:List Int},l.Pairwise (·<=·)->(oK x l).Pairwise (·<=·)
 | [],_=>Fk _ _
 | y::l,h=>by
  obtain ⟨h1,h2⟩:=Bh.mp h
  unfold oK
  split
  ·rename_i hx
   refine Bh.mpr ⟨λz hz=>?_,h⟩
   rcases Aj.mp hz with rfl | hz
   ·exact hx
   ·exact Int.le_trans hx (h1 z hz)
  ·refine Bh.mpr ⟨λz hz=>?_,lA h2⟩
   rcases Aj.mp (mE.mem_iff.mp hz) with rfl | hz
   ·omega
   ·exact h1 z hz
theorem Xi:∀ns:List Int,(Vo ns).Pairwise (·<=·)
 | []=>Hf
 | n::ns=>lA (Xi ns)
theorem sG{l ns:List Int}(p:l.Perm ns)(h:l.Pairwise (·<=·)):l=Vo ns:=Xs (p.trans (Lu ns).symm) h (Xi ns)
theorem nR(ns:List Int):(Vo ns).length=ns.length:=(Lu ns).length_eq
abbrev DC:=List DV->(DV->Prop)->Prop
def Mj(K:PySem.W.Frag)(r:List V->Hp->VK->Prop)(rd:DC):Prop:=∀(H0:Hp) (X:Addr->Prop) (n:Nat) (S T As:List Ent) (us:List V) (H:Hp) (Q:VK) (P:DV->Prop),
 As.map Ent.v=us.map some->At K H0 X n (S++(As++T)) H->rd (As.map Ent.x) P->(∀z u F' H',At K H0 X n (S++⟨some u,z,F'⟩::T) H'->P z->Q u H')->r us H Q
def B5(rd:DC)(da:DA):DE:=λδ P=>da δ λxs δ1=>rd xs λz=>P z δ1
section
variable{X:Cx}{x:Str}{p pos:Pos}{e:Expr}{es:List Expr}{da:DA}{id T:String}{r:List V->Hp->VK->Prop}{rd:DC}
theorem rS{K:PySem.W.Frag}(o:Mj K r rd):∀σ H Q,LE K (B5 rd da) σ H Q->M3 r (LA K da) σ H Q:=by
 intro σ H Q h
 obtain ⟨H0,Y,S,T,δ,P,rfl,hS,hA,hd,k⟩:=h
 refine ⟨H0,Y,S,T,δ,_,rfl,hS,hA,hd,λxs δ' As us S' H' e1 e2 ex eu hA' p=>?_⟩
 subst ex
 exact o H0 Y δ'.n S' T As us H' Q _ eu hA' p λz u F' H'' hA3 p3=>k z δ' u F' S' H'' e1 e2 hA3 p3
theorem Hx(hc:Kc X (.builtin id) r)(o:Mj X.K r rd)(hg:Gl X x)(hm:X.mg x=none)(hv:Ld x=some (.builtin id))(ha:lS X (e::es) da)(hn:x ≠ "__name__" := by decide)(hdb:(x == ("__debug__" : Str))=false:=by decide)(he:Bo (e::es) X.env=(false,eval e X.env)::Bo es X.env:=by rfl)(hpl:(Gx pos (Bo es X.env)).any (·.1)=false:=by rfl):Fi X (.Call (.Name x p) (e::es) [] pos) (B5 rd da) :=
 PE.imp (Yp hc hg hm hv ha hn hdb he hpl) (rS o)
theorem Ki(hc:Kc X (.type T) r)(o:Mj X.K r rd)(hg:Gl X x)(hm:X.mg x=none)(hv:Ld x=some (.type T))(ha:lS X (e::es) da)(hn:x ≠ "__name__" := by decide)(hdb:(x == ("__debug__" : Str))=false:=by decide)(he:Bo (e::es) X.env=(false,eval e X.env)::Bo es X.env:=by rfl)(hpl:(Gx pos (Bo es X.env)).any (·.1)=false:=by rfl):Fi X (.Call (.Name x p) (e::es) [] pos) (B5 rd da) :=
 PE.imp (Zz hc hg hm hv ha hn hdb he hpl) (rS o)
end
theorem zX{α β:Type}{f:α->β}{l:List α}{x:β}(h:l.map f=[x]):∃a,l=[a]/\f a=x:=by
 cases l with
 | nil=>cases h
 | cons a t =>
  obtain ⟨h1,h2⟩:=Ei h
  exact ⟨a,by rw[List.map_eq_nil_iff.mp h2],h1⟩
theorem G5{α β:Type}{f:α->β}{l:List α}{x y:β}(h:l.map f=[x,y]):∃a b,l=[a,b]/\f a=x/\f b=y:=by
 cases l with
 | nil=>cases h
 | cons a t =>
  obtain ⟨h1,h2⟩:=Ei h
  obtain ⟨b,rfl,h3⟩:=zX h2
  exact ⟨a,b,rfl,h1,h3⟩
theorem Fq{K:PySem.W.Frag}{H0 H:Hp}{X:Addr->Prop}{n:Nat}{S T As:List Ent}{us:List V}{x:DV}(eu:As.map Ent.v=us.map some)(hA:At K H0 X n (S++(As++T)) H)(ex:As.map Ent.x=[x]):∃v F,us=[v]/\At K H0 X n (S++⟨some v,x,F⟩::T) H:=by
 obtain ⟨⟨v,y,F⟩,rfl,h1⟩:=zX ex
 obtain ⟨u,rfl,h2⟩:=zX eu.symm
 have h1':y=x:=h1
 have h2':some u=v:=h2
 subst h1' h2'
 exact ⟨u,F,rfl,hA⟩
theorem Xx{K:PySem.W.Frag}{H0 H:Hp}{X:Addr->Prop}{n:Nat}{S T As:List Ent}{us:List V}{x y:DV}(eu:As.map Ent.v=us.map some)(hA:At K H0 X n (S++(As++T)) H)(ex:As.map Ent.x=[x,y]):∃v F w G,us=[v,w]/\At K H0 X n (S++⟨some v,x,F⟩::⟨some w,y,G⟩::T) H:=by
 obtain ⟨⟨v,x',F⟩,⟨w,y',G⟩,rfl,h1,h2⟩:=G5 ex
 obtain ⟨u,u',rfl,h3,h4⟩:=G5 eu.symm
 have h1':x'=x:=h1
 have h2':y'=y:=h2
 have h3':some u=v:=h3
 have h4':some u'=w:=h4
 subst h1' h2' h3' h4'
 exact ⟨u,F,u',G,rfl,hA⟩
def kO:DC:=λxs P=>match xs with
 | [.dat _ (.list ds)]=>P (.dat .ow (.int ds.length))
 | [.dat _ (.tuple ds)]=>P (.dat .ow (.int ds.length))
 | [.dat _ (.str z)]=>z.length<=1000000/\P (.dat .ow (.int z.length))
 | _=>False
def jI(i:Bool):DC:=λxs P=>match xs with
 | [.dat m (.list ds)]=>gR i m ds P
 | [.dat m (.tuple ds)]=>gR i m ds P
 | _=>False
def bL(i:Bool):DC:=λxs P=>match xs with
 | [.dat m (.list ds)]=>mD i m ds P
 | [.dat m (.tuple ds)]=>P (.dat m (.tuple ds))
 | _=>False
def tK:DC:=λxs P=>match xs with
 | [.dat _ (.int i)]=>P (.dat .ow (.int i))
 | [.dat _ (.bool b)]=>P (.dat .ow (.int (if b=true then 1 else 0)))
 | _=>False
def jQ:DC:=λxs P=>match xs with
 | [.dat _ (.int i),.dat _ (.int j)]=>P (.dat .ow (.int (if j > i then j else i)))
 | _=>False
def iS:DC:=λxs P=>match xs with
 | [.dat _ (.int i),.dat _ (.int j)]=>P (.dat .ow (.int (if j<i then j else i)))
 | _=>False
def iC:DC:=λxs P=>match xs with
 | [.dat _ (.list ds)]=>∃ns:List Int,ds=ns.map An/\ns≠[]/\∀M∈ns,(∀x∈ns,M<=x)->P (.dat .ow (.int M))
 | _=>False
def rJ:DC:=λxs P=>match xs with
 | [.dat _ (.list ds)]=>∃bs:List Bool,ds=bs.map PyData.bool/\P (.dat .ow (.bool (bs.all id)))
 | _=>False
def dA:DC:=λxs P=>match xs with
 | [.dat _ (.list ds)]=>∃ns:List Int,ds=ns.map An/\ns.length<64/\P (.dat .ow (.list ((Vo ns).map An)))
 | _=>False
def P2:Ad->String
 | .none => "NoneType"
 | .bool _ => "bool"
 | .int _ => "int"
 | .str _ => "str"
 | .list _ => "list"
 | .tuple _ => "tuple"
 | .dict _ => "dict"
section
variable{K:PySem.W.Frag}
theorem bZ:Mj K (λxs H Q=>∃x n,xs=[x]/\E1 K x H n/\Q (.int n) H) kO:=by
 intro H0 X n S T As us H Q P eu hA hd k
 unfold kO at hd
 split at hd
 ·rename_i ex
  obtain ⟨v,F,rfl,hA⟩:=Fq eu hA ex
  obtain ⟨a,xs,G,rfl,ha,ra,_,_⟩:=(hA.told mem_mid).list_inv
  exact ⟨_,_,rfl,.inl ⟨xs,Kw.of ha,ra.len.symm⟩,k _ _ [] H (hA.drop.pushI (.int _)) hd⟩
 ·rename_i ex
  obtain ⟨v,F,rfl,hA⟩:=Fq eu hA ex
  obtain ⟨a,xs,rfl,ha,ra,_⟩:=(hA.told mem_mid).tup_inv
  exact ⟨_,_,rfl,.inr ⟨xs,Rr.of ha,ra.len.symm⟩,k _ _ [] H (hA.drop.pushI (.int _)) hd⟩
 ·rename_i ex
  obtain ⟨v,F,rfl,hA⟩:=Fq eu hA ex
  obtain ⟨rfl,_⟩:=(hA.told mem_mid).str_inv
  exact ⟨_,_,rfl,⟨lI hd.1,rfl⟩,k _ _ [] H (hA.drop.pushI (.int _)) hd.2⟩
 ·exact hd.elim
theorem xD{i:Bool}:Mj K (xO K) (jI i):=by
 intro H0 X n S T As us H Q P eu hA hd k
 unfold jI at hd
 split at hd
 ·rename_i ex
  obtain ⟨v,F,rfl,hA⟩:=Fq eu hA ex
  obtain ⟨a,xs,G,rfl,ha,ra,rfl,hz⟩:=(hA.told mem_mid).list_inv
  refine ⟨a,xs,rfl,.inl (Kw.of ha),λl hl=>?_⟩
  obtain ⟨z,F',h1,h2⟩:=hA.newL ra (Cz _ _) hz hl hd
  exact k _ _ _ _ h1 h2
 ·rename_i ex
  obtain ⟨v,F,rfl,hA⟩:=Fq eu hA ex
  obtain ⟨a,xs,rfl,ha,ra,hz⟩:=(hA.told mem_mid).tup_inv
  refine ⟨a,xs,rfl,.inr (Rr.of ha),λl hl=>?_⟩
  obtain ⟨z,F',h1,h2⟩:=hA.newL ra (Ef _) hz hl hd
  exact k _ _ _ _ h1 h2
 ·exact hd.elim
theorem gS{i:Bool}:Mj K (yB K) (bL i):=by
 intro H0 X n S T As us H Q P eu hA hd k
 unfold bL at hd
 split at hd
 ·rename_i ex
  obtain ⟨v,F,rfl,hA⟩:=Fq eu hA ex
  obtain ⟨a,xs,G,rfl,ha,ra,rfl,hz⟩:=(hA.told mem_mid).list_inv
  refine ⟨a,xs,rfl,.inl ⟨Kw.of ha,λl hl=>?_⟩⟩
  obtain ⟨z,F',h1,h2⟩:=hA.newT ra (Cz _ _) hz hl hd
  exact k _ _ _ _ h1 h2
 ·rename_i ex
  obtain ⟨v,F,rfl,hA⟩:=Fq eu hA ex
  obtain ⟨a,xs,rfl,ha,ra,hz⟩:=(hA.told mem_mid).tup_inv
  exact ⟨a,xs,rfl,.inr ⟨Rr.of ha,k _ _ F H hA hd⟩⟩
 ·exact hd.elim
theorem dS:Mj K (λxs H Q=>(∃i,xs=[V.int i]/\Q (.int i) H)\/∃k,xs=[V.bl k]/\Q (.int (if k then 1 else 0)) H) tK:=by
 intro H0 X n S T As us H Q P eu hA hd k
 unfold tK at hd
 split at hd
 ·rename_i ex
  obtain ⟨v,F,rfl,hA⟩:=Fq eu hA ex
  obtain ⟨rfl,_⟩:=(hA.told mem_mid).int_inv
  exact .inl ⟨_,rfl,k _ _ [] H (hA.drop.pushI (.int _)) hd⟩
 ·rename_i ex
  obtain ⟨v,F,rfl,hA⟩:=Fq eu hA ex
  obtain ⟨rfl,_⟩:=(hA.told mem_mid).bl_inv
  exact .inr ⟨_,rfl,k _ _ [] H (hA.drop.pushI (.int _)) hd⟩
 ·exact hd.elim
theorem vE:Mj K (λxs H Q=>∃i j,xs=[V.int i,V.int j]/\Q (.int (if j > i then j else i)) H) jQ:=by
 intro H0 X n S T As us H Q P eu hA hd k
 unfold jQ at hd
 split at hd
 ·rename_i ex
  obtain ⟨v,F,w,G,rfl,hA⟩:=Xx eu hA ex
  obtain ⟨rfl,_⟩:=(hA.told mem_mid).int_inv
  obtain ⟨rfl,_⟩:=(hA.told Er).int_inv
  exact ⟨_,_,rfl,k _ _ [] H (hA.drop2.pushI (.int _)) hd⟩
 ·exact hd.elim
theorem lG:Mj K (λxs H Q=>∃i j,xs=[V.int i,V.int j]/\Q (.int (if j<i then j else i)) H) iS:=by
 intro H0 X n S T As us H Q P eu hA hd k
 unfold iS at hd
 split at hd
 ·rename_i ex
  obtain ⟨v,F,w,G,rfl,hA⟩:=Xx eu hA ex
  obtain ⟨rfl,_⟩:=(hA.told mem_mid).int_inv
  obtain ⟨rfl,_⟩:=(hA.told Er).int_inv
  exact ⟨_,_,rfl,k _ _ [] H (hA.drop2.pushI (.int _)) hd⟩
 ·exact hd.elim
theorem vS:Mj K (yH K) iC:=by
 intro H0 X n S T As us H Q P eu hA hd k
 unfold iC at hd
 split at hd
 ·rename_i ex
  obtain ⟨v,F,rfl,hA⟩:=Fq eu hA ex
  obtain ⟨ns,rfl,h0,h1⟩:=hd
  obtain ⟨a,xs,G,rfl,ha,ra,rfl,hz⟩:=(hA.told mem_mid).list_inv
  obtain ⟨rfl,_⟩:=ra.ints_inv
  exact ⟨a,ns,rfl,Kw.of ha,h0,λM hM hm=>k _ _ [] H (hA.drop.pushI (.int _)) (h1 M hM hm)⟩
 ·exact hd.elim
theorem w8:Mj K (λxs H Q=>∃(p:Addr) (bs:List Bool),xs=[.ref p]/\Kw K H p (bs.map V.bl)/\Q (.bl (bs.all id)) H) rJ:=by
 intro H0 X n S T As us H Q P eu hA hd k
 unfold rJ at hd
 split at hd
 ·rename_i ex
  obtain ⟨v,F,rfl,hA⟩:=Fq eu hA ex
  obtain ⟨bs,rfl,h1⟩:=hd
  obtain ⟨a,xs,G,rfl,ha,ra,rfl,hz⟩:=(hA.told mem_mid).list_inv
  obtain ⟨rfl,_⟩:=ra.bools_inv
  exact ⟨a,bs,rfl,Kw.of ha,k _ _ [] H (hA.drop.pushI (.bl _)) h1⟩
 ·exact hd.elim
theorem sV:Mj K (fN K) dA:=by
 intro H0 X n S T As us H Q P eu hA hd k
 unfold dA at hd
 split at hd
 ·rename_i ex
  obtain ⟨v,F,rfl,hA⟩:=Fq eu hA ex
  obtain ⟨ns,rfl,h0,h1⟩:=hd
  obtain ⟨a,xs,G,rfl,ha,ra,rfl,hz⟩:=(hA.told mem_mid).list_inv
  obtain ⟨rfl,_⟩:=ra.ints_inv
  refine ⟨a,ns,rfl,Kw.of ha,h0,λq us nq pe pw=>?_⟩
  rw[sG pe pw]
  exact k _ _ _ _ (hA.drop.newI (RdFs.ints _) (Mi _) (by rw[Ab,nR]; exact sz (by omega)) nq .ow) h1
 ·exact hd.elim
end
def dV(v:V):DE:=λδ P=>P (.val v) δ
end DL
namespace Nd
open PySem PySem.Spec PyProof.Rows L2
theorem oH(I l1 l2:Nat)(h1:l1<I)(h2:l2<I):Ol (I+4) (I+2) (I+3) I (I+1) l1 l2:=by
 constructor <;> (intro e; have e':(_:Nat)=_:=e; omega)
end Nd
namespace Nd
open PySem PySem.Spec PyProof.Rows L2
open AutoSeq1 (wpAny_loadPart')
end Nd
namespace DL
open PySem L2 Nd
def dB(de:DE):DT:=λδ P=>de δ λx δ'=>match x with
 | .dat _ (.bool b)=>P b δ'
 | _=>False
def yA(dt:DT):DT:=λδ P=>dt δ λb δ'=>P (!b) δ'
def yI(dt du:DT):DT:=λδ P=>dt δ λb δ'=>match b with
 | true=>du δ' P
 | false=>P false δ'
section
variable{K:PySem.W.Frag}{de:DE}
theorem C4:∀σ H Q,LT K (dB de) σ H Q->LE K de σ H λx H'=>∃k,x=.bl k/\Q k H':=by
 intro σ H Q h
 obtain ⟨H0,Y,S,T,δ,P,rfl,hS,hA,hd,k⟩:=h
 refine ⟨H0,Y,S,T,δ,_,rfl,hS,hA,hd,λx δ1 v F S1 H1 e1 e2 hA1 p1=>?_⟩
 split at p1
 ·obtain ⟨rfl,_⟩:=(hA1.told mem_mid).bl_inv
  exact ⟨_,rfl,k _ δ1 S1 H1 e1 e2 hA1.drop p1⟩
 ·exact p1.elim
end
section
variable{X:Cx}{a b c e:Expr}{da db de:DE}{dt du:DT}{pos:Pos}{Gq:List Expr}
theorem Wy(h:Fi X e de)(he:∀whole,isTrue e X.env whole=(do let v <- whole; standAt e.pos; Pu [v] (truthy v)):=by intro _; rfl):oF X e (dB de):=PT.imp (iW h he) C4
theorem bK{op:CmpOp}{r:R2}{rd:D2}(ho:Vb X (Iv op) r)(o:jY X.K r rd)(ha:Fi X a da)(hb:Fi X b db)(hm:Gj op b=false):oF X (.Compare a [op] [b] pos) (dB (Wo rd da db)):=by
 refine PT.imp (jZ ho ha hb hm) λσ H Q h=>?_
 exact eY o _ _ _ (C4 σ H Q h)
theorem qX(ha:Fi X a da)(hb:Fi X b db):oF X (.Compare a [.Lt] [b] pos) (dB (Wo rdLt da db)):=bK B3 (aV λ_ _ _=>.bl _) ha hb (Rt _)
theorem C6(ha:Fi X a da)(hb:Fi X b db):oF X (.Compare a [.Gt] [b] pos) (dB (Wo rdGt da db)):=bK F6 (aV λ_ _ _=>.bl _) ha hb (Rt _)
theorem E2(hu:X.A.units+64<cLine)(ha:Fi X a da)(hb:Fi X b db):oF X (.Compare a [.Eq] [b] pos) (dB (Wo (bW false) da db)):=bK (oV hu) xP ha hb (Rt _)
theorem yT(hu:X.A.units+64<cLine)(ha:Fi X a da)(hb:Fi X b db):oF X (.Compare a [.NotEq] [b] pos) (dB (Wo (bW true) da db)):=bK (x5 hu) B6 ha hb (Rt _)
theorem bR(h:oF X a dt):oF X (.UnaryOp .Not a pos) (yA dt):=by
 refine PT.imp (zD h) λσ H Q h=>?_
 obtain ⟨H0,Y,S,T,δ,P,rfl,hS,hA,hd,k⟩:=h
 exact ⟨H0,Y,S,T,δ,_,rfl,hS,hA,hd,λb δ' S' H' e1 e2 hA' p=>k _ δ' S' H' e1 e2 hA' p⟩
theorem cN(h:oF X a dt):N4 X (.BoolOp .And [a] pos) dt:=wJ h
theorem iB(h:oF X a dt)(hb:N4 X (.BoolOp .And (b::Gq) pos) du):N4 X (.BoolOp .And (a::b::Gq) pos) (yI dt du):=by
 refine PW.imp (o6 h hb) λσ H Q h=>?_
 obtain ⟨H0,Y,S,T,δ,P,rfl,hS,hA,hd,k⟩:=h
 refine ⟨H0,Y,S,T,δ,_,rfl,hS,hA,hd,λb δ' S' H' e1 e2 hA' p=>?_⟩
 cases b with
 | true=>exact uJ ⟨H0,Y,S',T,δ',P,e1,e2,hA',p,k⟩
 | false=>exact zH (k _ δ' S' H' e1 e2 hA' p)
theorem w5(h:N4 X a dt):oF X a dt:=PW.pt h
end
theorem PS.impD{X:Cx}{st:Stmt}{t t':TS}(h:PS X st t)(k:∀D σ H,t' D σ H->t D σ H):PS X st t':=λpins s σ H D I q=>h pins s σ H D I (k D σ H q)
theorem jL.impD{X:Cx}{st:List Stmt}{t t':TS}(h:jL X st t)(k:∀D σ H,t' D σ H->t D σ H):jL X st t':=λpins s σ H D I q=>h pins s σ H D I (k D σ H q)
def xN:DB:=λD δ=>D.nx δ
def B2(t u:DB):DB:=λD δ=>t { D with nx:=λδ'=>u D δ' } δ
def K0(de:DE):DB:=λD δ=>de δ D.rt
def T2(dt:DT)(t u:DB):DB:=λD δ=>dt δ λb δ'=>match b with
 | true=>t D δ'
 | false=>u D δ'
def sN(de:DE)(dg:DG):DB:=λD δ=>de δ λx δ'=>dg x δ' D.nx
section
variable{X:Cx}{st:Stmt}{e tg c:Expr}{t u:DB}{Gq:List Stmt}{de:DE}{dg:DG}{dt:DT}{pos:Pos}
theorem Xj:Yr X [] xN:=by
 refine jL.impD Wm λD σ H h=>?_
 obtain ⟨H0,Y,S,T,δ,P,rfl,hS,hT,hA,hd,k1,k2,k3,k4⟩:=h
 exact k1 δ S H hS hA hd
theorem Cs(h1:oM X st t)(h2:Yr X Gq u):Yr X (st::Gq) (B2 t u):=by
 refine jL.impD (Eo h1 h2) λD σ H h=>?_
 obtain ⟨H0,Y,S,T,δ,P,rfl,hS,hT,hA,hd,k1,k2,k3,k4⟩:=h
 exact ⟨H0,Y,S,T,δ,_,rfl,hS,hT,hA,hd,λδ' S' H' e2 hA' p=>⟨H0,Y,S',T,δ',P,rfl,e2,hT,hA',p,k1,k2,k3,k4⟩,k2,k3,k4⟩
theorem Ff(h1:oM X st t):Yr X [st] t:=Jt h1
theorem Gw(he:Fi X e de):oM X (.Return (some e) pos) (K0 de):=by
 refine PS.impD (Nu he) λD σ H h=>?_
 obtain ⟨H0,Y,S,T,δ,P,rfl,hS,hT,hA,hd,k1,k2,k3,k4⟩:=h
 exact ⟨H0,Y,S,T,δ,_,rfl,hS,hA,hd,λx δ' v F S' H' e1 e2 hA' p=>k2 x δ' v F S' H' e2 hA' p⟩
theorem eS{a b:List Stmt}(hc:oF X c dt)(ha:Yr X a t)(hb:Yr X b u):oM X (.If c a b pos) (T2 dt t u):=by
 refine PS.impD (lN hc ha hb) λD σ H h=>?_
 obtain ⟨H0,Y,S,T,δ,P,rfl,hS,hT,hA,hd,k1,k2,k3,k4⟩:=h
 refine ⟨H0,Y,S,T,δ,_,rfl,hS,hA,hd,λb δ' S' H' e1 e2 hA' p=>?_⟩
 cases b with
 | true=>exact uJ ⟨H0,Y,S',T,δ',P,e1,e2,hT,hA',p,k1,k2,k3,k4⟩
 | false=>exact zH ⟨H0,Y,S',T,δ',P,e1,e2,hT,hA',p,k1,k2,k3,k4⟩
theorem jT{K:PySem.W.Frag}{te:TE}{g:TG}(h1:∀σ H Q,LE K de σ H Q->te σ H Q)(h2:∀v σ H Q,LG K dg v σ H Q->g v σ H Q):∀D σ H,LS K (sN de dg) D σ H->uP te g D σ H:=by
 intro D σ H h
 obtain ⟨H0,Y,S,T,δ,P,rfl,hS,hT,hA,hd,k1,k2,k3,k4⟩:=h
 refine h1 _ _ _ ⟨H0,Y,S,T,δ,_,rfl,hS,hA,hd,λx δ' v F S' H' e1 e2 hA' p=>?_⟩
 exact h2 _ _ _ _ ⟨H0,Y,S',T,δ',x,F,P.nx,e1,e2,hA',p,λδ2 S2 H2 e3 hA2 q=>k1 δ2 S2 H2 e3 hA2 q⟩
end
def Np(i:Nat):DG:=λx δ P=>match x with
 | .dat .pk _=>False
 | .dat _ d=>P ⟨δ.sl.set i (.dat .sh d),δ.n⟩
 | .val v=>P ⟨δ.sl.set i (.val v),δ.n⟩
 | .drw=>P ⟨δ.sl.set i .drw,δ.n⟩
 | .dT kvs=>P ⟨δ.sl.set i (.dT kvs),δ.n⟩
 | _=>False
def fJ(i:Nat):DG:=λx δ P=>match x with
 | .dat .ow d=>P ⟨δ.sl.set i (.dat .ow d),δ.n⟩
 | .dat .tp d=>P ⟨δ.sl.set i (.dat .tp d),δ.n⟩
 | _=>False
theorem At.store{K:PySem.W.Frag}{H0 H:Hp}{X:Addr->Prop}{n:Nat}{S T:List Ent}{e:Ent}{i:Nat}(h:At K H0 X n (S++e::T) H):At K H0 X n (S.set i e++T) H:=by
 by_cases hi:i<S.length
 ·have hx:S[i]? = some S[i]:=by simp [hi]
  have p:(S++e::T).Perm (S[i]::(S.set i e++T)):=by
   refine Jb.trans ?_
   rw[<- He,<- He]
   exact (Yc hx).append_right T
  exact (h.perm p).sub (Cz _ _)
 ·rw[List.set_eq_of_length_le (by omega)]
  exact h.drop
theorem qH{S:List Ent}{i:Nat}{v:V}{x:DV}{F:List Addr}:vs (S.set i ⟨some v,x,F⟩)=(vs S).set i (some v):=by
 unfold vs
 rw[Hj]
theorem pA{S:List Ent}{δ:DS}{i n:Nat}{v:V}{x:DV}{F:List Addr}(h:Sl S δ):Sl (S.set i ⟨some v,x,F⟩) ⟨δ.sl.set i x,n⟩:=by
 unfold Sl at h ⊢
 rw[Hj,h]
theorem dD{K:PySem.W.Frag}{i:Nat}:∀v σ H Q,LG K (Np i) v σ H Q->Vp i v σ H Q:=by
 intro v σ H Q h
 obtain ⟨H0,Y,S,T,δ,x,F,P,rfl,hS,hA,hd,k⟩:=h
 show Q ((vs S).set i (some v)) H
 have fin:∀y,At K H0 Y δ.n (S++⟨some v,y,F⟩::T) H->P ⟨δ.sl.set i y,δ.n⟩->Q ((vs S).set i (some v)) H:=λy hA' p=>by
  rw[<- qH (x:=y) (F:=F)]
  exact k _ _ H (pA hS) hA'.store p
 unfold Np at hd
 split at hd
 ·exact hd.elim
 ·rename_i m d hm
  refine fin _ ?_ hd
  refine (hA.mid.wk ?_).tomid
  cases m <;> first | rfl | exact (hm rfl).elim
 ·exact fin _ hA hd
 ·exact fin _ hA hd
 ·exact fin _ hA hd
 ·exact hd.elim
theorem rE{K:PySem.W.Frag}{i:Nat}:∀v σ H Q,LG K (fJ i) v σ H Q->Vp i v σ H Q:=by
 intro v σ H Q h
 obtain ⟨H0,Y,S,T,δ,x,F,P,rfl,hS,hA,hd,k⟩:=h
 show Q ((vs S).set i (some v)) H
 have fin:∀y,At K H0 Y δ.n (S++⟨some v,y,F⟩::T) H->P ⟨δ.sl.set i y,δ.n⟩->Q ((vs S).set i (some v)) H:=λy hA' p=>by
  rw[<- qH (x:=y) (F:=F)]
  exact k _ _ H (pA hS) hA'.store p
 unfold fJ at hd
 split at hd
 ·exact fin _ hA hd
 ·exact fin _ hA hd
 ·exact hd.elim
section
variable{X:Cx}{pos:Pos}
theorem Qg{i:Nat}{x:Str}(hN:X.N.Nodup)(hi:X.N[i]? = some x)(hx:Loc X.env.scope x)(hf:X.fn x=true\/X.env.scope.names.lookup x=some .local:=by first | exact .inl rfl | exact .inr rfl | assumption):S9 X (.Name x pos) (Np i):=PG.imp (Mm hN hi hx hf) dD
theorem Fl{i:Nat}{x:Str}{e:Expr}{de:DE}{pos':Pos}(hN:X.N.Nodup)(hi:X.N[i]? = some x)(hx:Loc X.env.scope x)(he:Fi X e de)(hs:Kv e (some (.Name x pos')) pos.line X.env=pure false:=by rfl)(hf:X.fn x=true\/X.env.scope.names.lookup x=some .local:=by first | exact .inl rfl | exact .inr rfl | assumption):oM X (.Assign [.Name x pos'] e pos) (sN de (Np i)):=PS.impD (Jr hN hi hx he hs hf) (jT (λ_ _ _ h=>h) dD)
theorem Wp{i:Nat}{x:Str}{e:Expr}{de:DE}{pos':Pos}(hN:X.N.Nodup)(hi:X.N[i]? = some x)(hx:Loc X.env.scope x)(he:Fi X e de)(hs:Kv e (some (.Name x pos')) pos.line X.env=pure false:=by rfl)(hf:X.fn x=true\/X.env.scope.names.lookup x=some .local:=by first | exact .inl rfl | exact .inr rfl | assumption):oM X (.Assign [.Name x pos'] e pos) (sN de (fJ i)):=PS.impD (Jr hN hi hx he hs hf) (jT (λ_ _ _ h=>h) rE)
end
theorem gZ{K:PySem.W.Frag}{H0 H:Hp}{X:Addr->Prop}{n:Nat}{E:List Ent}(h:At K H0 X n E H):∀{e f:Ent},e∈E->f∈E->e=f\/Xg e f:=by
 have main:∀{E:List Ent},E.Pairwise Xg->∀{e f:Ent},e∈E->f∈E->e=f\/Xg e f:=by
  intro E
  induction E with
  | nil=>intro _ e f he; cases he
  | cons g E ih =>
   intro hp e f he hf
   have hc:=Bh.mp hp
   rcases Aj.mp he with he | he
   ·subst he
    rcases Aj.mp hf with hf | hf
    ·exact .inl hf.symm
    ·exact .inr (hc.1 f hf)
   ·rcases Aj.mp hf with hf | hf
    ·rw[hf]
     exact .inr (hc.1 e he).symm
    ·exact ih hc.2 he hf
 intro e f he hf
 exact main h.sep he hf
abbrev DI:=DS->(Md->List Ad->DS->Prop)->Prop
structure IterOk(K:PySem.W.Frag)(J:It)(hid:List Ent)(m:Md)(ds:List Ad):Prop where
 md:m=.sh\/m=.pk
 hd:∀e∈hid,cells e=[]
 np:m=.sh->∀e∈hid,Om e.x=false
 go:∀H n i,(∀e∈hid,Ip K H n e)->i<ds.length->J.go i H
 yld:∀H n i x H',(∀e∈hid,Ip K H n e)->i<ds.length->J.yld i H x H'->Kt H H'/\∃d F,ds[i]? = some d/\RdF K H' x d F/\∀a∈F,∃e∈hid,a∈e.F
 stop:∀H n,(∀e∈hid,Ip K H n e)->J.stop ds.length H
def LI(K:PySem.W.Frag)(di:DI):TI:=λσ H R=>∃(H0:Hp) (X:Addr->Prop) (S T:List Ent) (δ:DS) (P:Md->List Ad->DS->Prop),vs S=σ/\Sl S δ/\At K H0 X δ.n (S++T) H/\di δ P /\
 ∀m ds δ' J hid S' H',vs S'=σ->Sl S' δ'->At K H0 X δ'.n (S'++(hid++T)) H'->IterOk K J hid m ds->ds.length<=Aq->P m ds δ'->R J H'
abbrev yE(X:Cx)(tg iter:Expr)(di:DI):Prop:=PI X tg iter (LI X.K di)
theorem PI.imp{X:Cx}{tg e:Expr}{t t':TI}(h:PI X tg e t)(k:∀σ H Q,t' σ H Q->t σ H Q):PI X tg e t':=λpins s σ H Q I q=>h pins s σ H Q I (k σ H Q q)
def Jp:Md->Md
 | .pk=>.pk
 | _=>.sh
theorem cE(m:Md):wk m (Jp m)=true:=by cases m <;> rfl
theorem At.item{K:PySem.W.Frag}{H0 H H':Hp}{X:Addr->Prop}{n:Nat}{S T hid:List Ent}{m:Md}{v:V}{d:Ad}{F:List Addr}(h:At K H0 X n (S++(hid++T)) H)(s:Kt H H')(r:RdF K H' v d F)(hF:∀a∈F,∃e∈hid,a∈e.F)(md:m=.sh\/m=.pk)(hh:∀e∈hid,cells e=[])(np:m=.sh->∀e∈hid,Om e.x=false):At K H0 X n (S++⟨some v,.dat m d,F⟩::(hid++T)) H':=by
 have h1:=h.grow (n':=n) s (Ai _)
 have c0:∀a,a∉cells ⟨some v,.dat m d,F⟩:=λa ha=>by
  rcases md with rfl | rfl <;> exact nomatch ha
 refine (h1.push (e:=⟨some v,.dat m d,F⟩) ⟨v,rfl,r,λz=>?_,λz=>?_⟩ (λf hf=>⟨λ_ a ha=>absurd ha (c0 a),λhq a ha z=>?_⟩) λa ha=>absurd ha (c0 a)).tomid
 ·rcases md with rfl | rfl <;> cases z
 ·rcases md with rfl | rfl <;> cases z
 ·obtain ⟨e,he,ze⟩:=hF a z
  have he':e∈S++(hid++T):=Ap _ (Ay _ he)
  rcases gZ h he' hf with rfl | q
  ·rw[hh e he] at ha
   cases ha
  ·refine q.2 ?_ a ha ze
   rcases hq with hq | hq
   ·refine .inl (np ?_ e he)
    rcases md with rfl | rfl
    ·rfl
    ·cases hq
   ·exact .inr hq
def R4(de:DE):DI:=λδ P=>de δ λx δ'=>match x with
 | .dat m (.list ds)=>P (Jp m) ds δ'
 | .dat m (.tuple ds)=>P (Jp m) ds δ'
 | _=>False
def eV(da:DA):DI:=λδ P=>da δ λxs δ'=>match xs with
 | [.dat _ (.int j)]=>-1000000<=j/\j<=1000000/\P .sh ((Dd j.toNat).map λi:Nat=>.int i) δ'
 | _=>False
def pY(da:DA):DI:=λδ P=>da δ λxs δ'=>match xs with
 | [.dat m (.list ds)]=>P (Jp m) (ds.zipIdx.map λp=>.tuple [.int p.2,p.1]) δ'
 | _=>False
def N3(da:DA):DI:=λδ P=>da δ λxs δ'=>match xs with
 | [.dat m (.tuple ds)]=>P (Jp m) (ds.zipIdx.map λp=>.tuple [.int p.2,p.1]) δ'
 | _=>False
section
variable{K:PySem.W.Frag}
theorem Lg{H:Hp}{n:Nat}{v:V}{m:Md}{d:Ad}{F:List Addr}{hid:List Ent}(h:∀e∈hid,Ip K H n e)(he:⟨some v,.dat m d,F⟩∈hid):RdF K H v d F:=by
 obtain ⟨w,e1,h1,_⟩:=h _ he
 cases e1
 exact h1
theorem rU{v:Option V}{m:Md}{d:Ad}{F:List Addr}:cells ⟨v,.dat (Jp m) d,F⟩=[]:=by cases m <;> rfl
theorem iU{v:Option V}{m:Md}{d:Ad}{F:List Addr}:∀e∈[(⟨v,.dat (Jp m) d,F⟩ : Ent)],cells e=[]:=λe he=>by
 rw[Ah.mp he]
 exact rU
theorem pJ{v:Option V}{m:Md}{d:Ad}{F:List Addr}:Jp m=.sh->∀e∈[(⟨v,.dat (Jp m) d,F⟩ : Ent)],Om e.x=false:=λz e he=>by
 rw[Ah.mp he]
 show Om (.dat (Jp m) d)=false
 rw[z]
 rfl
theorem cH(m:Md):Jp m=.sh\/Jp m=.pk:=by cases m <;> simp [Jp]
theorem mF{a:Addr}{m:Md}{ds:List Ad}{F:List Addr}:IterOk K (M5 K a) [⟨some (.ref a),.dat (Jp m) (.list ds),F⟩] (Jp m) ds where
 md:=cH m
 hd:=iU
 np:=pJ
 go:=λH n i h hi=>by
  obtain ⟨b,xs,G,e,hb,rb,_,_⟩:=(Lg h Aa).list_inv
  cases e
  have hl:=rb.len
  exact ⟨xs,xs[i],Kw.of hb,by simp [show i<xs.length by omega]⟩
 yld:=λH n i x H' h hi y=>by
  obtain ⟨b,xs,G,e,hb,rb,rfl,_⟩:=(Lg h Aa).list_inv
  cases e
  obtain ⟨rfl,y⟩:=y
  have hx:=y xs (Kw.of hb)
  obtain ⟨x',F',h1,h2,h3⟩:=rb.get (i:=i) (e:=ds[i]) (by simp [hi])
  rw[hx] at h1
  cases h1
  exact ⟨Kt.refl _,ds[i],F',by simp [hi],h2,λc hc=>⟨_,Aa,Ag _ (h3.subset hc)⟩⟩
 stop:=λH n h=>by
  obtain ⟨b,xs,G,e,hb,rb,_,_⟩:=(Lg h Aa).list_inv
  cases e
  exact ⟨xs,Kw.of hb,by rw[rb.len]; exact Ai _⟩
theorem rK{a:Addr}{m:Md}{ds:List Ad}{F:List Addr}:IterOk K (O9 K a) [⟨some (.ref a),.dat (Jp m) (.tuple ds),F⟩] (Jp m) ds where
 md:=cH m
 hd:=iU
 np:=pJ
 go:=λH n i h hi=>by
  obtain ⟨b,xs,e,hb,rb,_⟩:=(Lg h Aa).tup_inv
  cases e
  have hl:=rb.len
  exact ⟨xs,xs[i],Rr.of hb,by simp [show i<xs.length by omega]⟩
 yld:=λH n i x H' h hi y=>by
  obtain ⟨b,xs,e,hb,rb,_⟩:=(Lg h Aa).tup_inv
  cases e
  obtain ⟨rfl,y⟩:=y
  have hx:=y xs (Rr.of hb)
  obtain ⟨x',F',h1,h2,h3⟩:=rb.get (i:=i) (e:=ds[i]) (by simp [hi])
  rw[hx] at h1
  cases h1
  exact ⟨Kt.refl _,ds[i],F',by simp [hi],h2,λc hc=>⟨_,Aa,h3.subset hc⟩⟩
 stop:=λH n h=>by
  obtain ⟨b,xs,e,hb,rb,_⟩:=(Lg h Aa).tup_inv
  cases e
  exact ⟨xs,Rr.of hb,by rw[rb.len]; exact Ai _⟩
theorem jC{lo:Int}{n:Nat}:IterOk K (yP lo n) [] .sh ((Dd n).map λi:Nat=>.int (lo+i)) where
 md:=.inl rfl
 hd:=λ_ z=>nomatch z
 np:=λ_ _ z=>nomatch z
 go:=λH k i h hi=>by
  show i<n
  simpa using hi
 yld:=λH k i x H' h hi y=>by
  obtain ⟨rfl,rfl⟩:=y
  rw[Ab,Dt] at hi
  exact ⟨Kt.refl _,.int (lo+i),[],by simp [hi],.int _,λ_ z=>nomatch z⟩
 stop:=λH k h=>by simp [yP]
theorem mW{a:Addr}{m:Md}{ds:List Ad}{F:List Addr}:IterOk K (N8 K a) [⟨some (.ref a),.dat (Jp m) (.list ds),F⟩] (Jp m) (ds.zipIdx.map λp=>.tuple [.int p.2,p.1]) where
 md:=cH m
 hd:=iU
 np:=pJ
 go:=λH n i h hi=>by
  obtain ⟨b,xs,G,e,hb,rb,_,_⟩:=(Lg h Aa).list_inv
  cases e
  have hl:=rb.len
  rw[Ab,My] at hi
  exact ⟨xs,xs[i],Kw.of hb,by simp [show i<xs.length by omega]⟩
 yld:=λH n i x H' h hi y=>by
  obtain ⟨b,xs,G,e,hb,rb,rfl,_⟩:=(Lg h Aa).list_inv
  cases e
  rw[Ab,My] at hi
  obtain ⟨t,z,rfl,nt,rfl,y⟩:=y
  have hx:=y xs (Kw.of hb)
  obtain ⟨x',F',h1,h2,h3⟩:=rb.get (i:=i) (e:=ds[i]) (by simp [hi])
  rw[hx] at h1
  cases h1
  have s1:=Dk nt (.tup [.int i,z])
  refine ⟨s1,.tuple [.int i,ds[i]],F',by simp [hi],.tup Cj (by simp [Ha]) ?_,λc hc=>⟨_,Aa,Ag _ (h3.subset hc)⟩⟩
  have:=RdFs.cons (F:=[]) (.int (i:Int)) (RdFs.cons (h2.kp (Kp.of s1)) RdFs.nil)
  rw[Ee] at this
  exact this
 stop:=λH n h=>by
  obtain ⟨b,xs,G,e,hb,rb,_,_⟩:=(Lg h Aa).list_inv
  cases e
  exact ⟨xs,Kw.of hb,by rw[Ab,My,rb.len]; exact Ai _⟩
end
section
variable{X:Cx}{tg e:Expr}{de:DE}{di:DI}
def dL(de:DE):DI:=λδ P=>de δ λx δ'=>match x with
 | .dat m (.list ds)=>P (Jp m) ds δ'
 | _=>False
def R8(de:DE):DI:=λδ P=>de δ λx δ'=>match x with
 | .dat m (.tuple ds)=>P (Jp m) ds δ'
 | _=>False
theorem iO(h:Fi X e de):yE X tg e (dL de):=by
 refine PI.imp (bV h) λσ H R h=>?_
 obtain ⟨H0,Y,S,T,δ,P,rfl,hS,hA,hd,k⟩:=h
 refine ⟨H0,Y,S,T,δ,_,rfl,hS,hA,hd,λx δ1 v F S1 H1 e1 e2 hA1 p1=>?_⟩
 split at p1
 ·obtain ⟨a,xs,G,rfl,ha,ra,rfl,hz⟩:=(hA1.told mem_mid).list_inv
  exact ⟨a,rfl,⟨xs,Kw.of ha⟩,k _ _ δ1 _ [_] S1 H1 e1 e2 ((hA1.mid.wk (cE _)).tomid) mF hz p1⟩
 ·exact p1.elim
theorem M4(h:Fi X e de):yE X tg e (R8 de):=by
 refine PI.imp (o4 h) λσ H R h=>?_
 obtain ⟨H0,Y,S,T,δ,P,rfl,hS,hA,hd,k⟩:=h
 refine ⟨H0,Y,S,T,δ,_,rfl,hS,hA,hd,λx δ1 v F S1 H1 e1 e2 hA1 p1=>?_⟩
 split at p1
 ·obtain ⟨a,xs,rfl,ha,ra,hz⟩:=(hA1.told mem_mid).tup_inv
  exact ⟨a,rfl,⟨xs,Rr.of ha⟩,k _ _ δ1 _ [_] S1 H1 e1 e2 ((hA1.mid.wk (cE _)).tomid) rK hz p1⟩
 ·exact p1.elim
variable{es:List Expr}{da:DA}{a b:Expr}{p pos tp:Pos}{elts:List Expr}{kt:Nat}
theorem aQ(hg:Gl X "range")(hm:X.mg "range" = none)(ha:lS X [a] da)(hs:Bo [a] X.env=[(false,eval a X.env)]:=by rfl):yE X tg (.Call (.Name "range" p) [a] [] pos) (eV da):=by
 refine PI.imp (Vc hg hm ha hs) λσ H R h=>?_
 obtain ⟨H0,Y,S,T,δ,P,rfl,hS,hA,hd,k⟩:=h
 refine ⟨H0,Y,S,T,δ,_,rfl,hS,hA,hd,λxs δ' As us S' H' e1 e2 ex eu hA' p=>?_⟩
 split at p
 ·obtain ⟨v,F,rfl,hA2⟩:=Fq eu hA' ex
  obtain ⟨rfl,_⟩:=(hA2.told mem_mid).int_inv
  obtain ⟨j0,j1,pp⟩:=p
  refine ⟨_,rfl,by omega,by omega,k _ _ δ' _ [] S' H' e1 e2 hA2.drop jC (by rw[Ab,Dt]; exact lI (by omega)) ?_⟩
  simpa using pp
 ·exact p.elim
theorem kW(hg:Gl X "enumerate")(hm:X.mg "enumerate" = none)(ha:lS X [a] da)(hs:Bo [a] X.env=[(false,eval a X.env)]:=by rfl):yE X (.Tuple elts kt tp) (.Call (.Name "enumerate" p) [a] [] pos) (pY da):=by
 refine PI.imp (uE hg hm ha hs) λσ H R h=>?_
 obtain ⟨H0,Y,S,T,δ,P,rfl,hS,hA,hd,k⟩:=h
 refine ⟨H0,Y,S,T,δ,_,rfl,hS,hA,hd,λxs δ' As us S' H' e1 e2 ex eu hA' p=>?_⟩
 split at p
 ·obtain ⟨v,F,rfl,hA2⟩:=Fq eu hA' ex
  obtain ⟨a,xs,G,rfl,ha,ra,rfl,hz⟩:=(hA2.told mem_mid).list_inv
  exact ⟨a,rfl,⟨xs,Kw.of ha⟩,k _ _ δ' _ [_] S' H' e1 e2 ((hA2.mid.wk (cE _)).tomid) mW (by rw[Ab,My]; exact hz) p⟩
 ·exact p.elim
end
def G4(di:DI)(dg:DG)(db:DB):DB:=λD δ=>di δ λm ds δ1=>m=.sh/\∃I:Nat->DS->Prop,I 0 δ1 /\
 (∀i d δ',ds[i]? = some d->I i δ'->dg (.dat .sh d) δ' λδ2=>db { D with nx:=I (i+1),ct:=I (i+1),bk:=D.nx } δ2)/\∀δ',I ds.length δ'->D.nx δ'
section
variable{X:Cx}{tg iter:Expr}{di:DI}{dg:DG}{db:DB}{body:List Stmt}{pos:Pos}
theorem At.dropH{K:PySem.W.Frag}{H0 H:Hp}{X:Addr->Prop}{n:Nat}{S T hid:List Ent}{e:Ent}(h:At K H0 X n (S++e::(hid++T)) H):At K H0 X n (S++e::T) H:=h.sub ((Ef S).append ((Dw hid T).cons₂ e))
theorem Va(hp:PassesOwn (model X.prog X.w) X.A X.env X.xe)(hc:X.calm=true)(hi:yE X tg iter di)(hg:S9 X tg dg)(hb:Yr X body db)(hs:∀x,Fp iter X.env x=pure x:=by intro _; rfl):oM X (.For tg iter body [] pos) (G4 di dg db):=by
 refine PS.impD (iT hp hc hi hg hb hs) λD σ H h=>?_
 obtain ⟨H0,Y,S,T,δ,P,rfl,hS,hT,hA,hd,k1,k2,k3,k4⟩:=h
 refine ⟨H0,Y,S,T,δ,_,rfl,hS,hA,hd,λm ds δ1 J hid S1 H1 e1 e2 hA1 it hz p1=>?_⟩
 obtain ⟨rfl,I,h0,hs,hf⟩:=p1
 rw[<- e1]
 have hT':∀e∈hid++T,Om e.x=false:=λe he=>by
  rcases Bl.mp he with he | he
  ·exact it.np rfl e he
  ·exact hT e he
 refine ⟨λi q σ H=>q=ds.length - i/\i<=ds.length/\∃S δ,vs S=σ/\Sl S δ/\At X.K H0 Y δ.n (S++(hid++T)) H/\I i δ,⟨ds.length,by simp,Dj _,S1,δ1,rfl,e2,hA1,h0⟩,?_⟩
 (intro i q σ H q_; obtain ⟨rfl,hi,S2,δ2,rfl,e3,hA2,hI⟩ := q_)
 have hid_ok:∀e∈hid,Ip X.K H δ2.n e:=λe he=>hA2.ok e (Ap _ (Ay _ he))
 by_cases hlt:i<ds.length
 ·refine .inr ⟨it.go H δ2.n i hid_ok hlt,λσ' H'=>∃S δ,vs S=σ'/\Sl S δ/\At X.K H0 Y δ.n (S++(hid++T)) H'/\I (i+1) δ,λσ' H' q=>⟨ds.length - (i+1),by omega,rfl,hlt,q⟩,λx H' y=>?_⟩
  obtain ⟨s1,d,F,h1,h2,h3⟩:=it.yld H δ2.n i x H' hid_ok hlt y
  refine ⟨H0,Y,S2,hid++T,δ2,.dat .sh d,F,_,rfl,e3,hA2.item s1 h2 h3 it.md it.hd it.np,hs i d δ2 h1 hI,λδ3 S3 H3 e4 hA3 p3=>?_⟩
  refine ⟨H0,Y,S3,hid++T,δ3,_,rfl,e4,hT',hA3,p3,λδ4 S4 H4 e5 hA4 p4=>⟨S4,δ4,rfl,e5,hA4,p4⟩,λx δ4 v F S4 H4 e5 hA4 p4=>k2 x δ4 v F S4 H4 e5 hA4.dropH p4,
   λδ4 S4 H4 e5 hA4 p4=>k1 δ4 S4 H4 e5 hA4.dropL p4,λδ4 S4 H4 e5 hA4 p4=>⟨S4,δ4,rfl,e5,hA4,p4⟩⟩
 ·have e:i=ds.length:=by omega
  subst e
  exact .inl ⟨it.stop H δ2.n hid_ok,k1 δ2 S2 H e3 hA2.dropL (hf δ2 hI)⟩
end
end DL
namespace Nd
open PySem PySem.Spec PyProof.Rows L2
end Nd
namespace DL
open PySem L2 Nd
def al(e:Ent):Ent:=match e.x with
 | .dat m d=>⟨e.v,.dat (bT m) d,e.F⟩
 | .val _=>e
 | .scr _=>e
 | _=>⟨e.v,.un,[]⟩
def alD:DV->DV
 | .dat m d=>.dat (bT m) d
 | .val v=>.val v
 | .scr ns=>.scr ns
 | _=>.un
def tL(S:List Ent)(j:Nat):Ent:=match S[j]? with
 | some e=>al e
 | none=>⟨none,.un,[]⟩
def oP(S:List Ent)(js:List Nat):List Ent:=js.map (tL S)
def frD1(sl:List DV)(j:Nat):DV:=match sl[j]? with
 | some x=>alD x
 | none=>.un
def frD(sl:List DV)(js:List Nat):List DV:=js.map (frD1 sl)
theorem R0(e:Ent):(al e).v=e.v:=by
 obtain ⟨v,x,F⟩:=e
 cases x <;> rfl
theorem Q3(e:Ent):(al e).x=alD e.x:=by
 obtain ⟨v,x,F⟩:=e
 cases x <;> rfl
theorem yW(S:List Ent)(js:List Nat):vs (oP S js)=Fv (vs S) js:=by
 unfold vs oP Fv
 rw[Br]
 refine Ek λj _=>?_
 rw[Az]
 simp only[Function.comp,tL]
 cases S[j]? with
 | none=>rfl
 | some e=>exact R0 e
theorem yS{S:List Ent}{δ:DS}(h:Sl S δ)(js:List Nat):(oP S js).map Ent.x=frD δ.sl js:=by
 unfold Sl at h
 unfold oP frD
 rw[Br]
 refine Ek λj _=>?_
 simp only[Function.comp,tL,frD1]
 rw[<- h,Az]
 cases S[j]? with
 | none=>rfl
 | some e=>exact Q3 e
section
variable{K:PySem.W.Frag}{H0 H H':Hp}{X:Addr->Prop}{n:Nat}{E S T:List Ent}
theorem gH(e:Ent):cells (al e)=[]:=by
 obtain ⟨v,x,F⟩:=e
 cases x with
 | dat m d=>cases m <;> rfl
 | _=>rfl
theorem At.view1(h:At K H0 X n E H){e:Ent}(he:e∈E):At K H0 X n (al e::E) H:=by
 refine h.push ?_ (λf hf=>⟨λ_ a ha=>(by rw[gH] at ha; cases ha),λhq a ha z=>?_⟩) λa ha=>(by rw[gH] at ha; cases ha)
 ·have:=h.ok e he
  obtain ⟨v,x,F⟩:=e
  cases x with
  | dat m d =>
   obtain ⟨w,h1,h2,_⟩:=this
   exact ⟨w,h1,h2,λz=>(by cases m <;> cases z),λz=>(by cases m <;> cases z)⟩
  | val v=>exact this
  | scr ns=>exact this
  | _=>exact (rfl:([]:List Addr)=[])
 ·obtain ⟨v,x,F⟩:=e
  cases x with
  | dat m d =>
   rcases gZ h he hf with rfl | q
   ·rcases hq with hq | hq
    ·cases m <;> first | cases hq; done | exact nomatch ha
    ·cases hq
   ·refine q.2 ?_ a ha z
    rcases hq with hq | hq
    ·refine .inl ?_
     cases m <;> first | rfl | exact hq
    ·exact .inr hq
  | val v =>
   rw[show F=[] from (h.ok _ he).2] at z
   cases z
  | scr ns =>
   obtain ⟨_,_,hF,_⟩:=h.ok _ he
   rw[show F=[] from hF] at z
   cases z
  | _=>exact nomatch z
theorem At.blank(h:At K H0 X n E H){v:Option V}:At K H0 X n (⟨v,.un,[]⟩::E) H :=
 h.push (rfl:([]:List Addr)=[]) (λf _=>⟨λ_ a ha=>(nomatch ha),λ_ a _=>Ba⟩) (λa ha=>(nomatch ha))
theorem At.view(h:At K H0 X n E H)(hS:∀e∈S,e∈E):∀js:List Nat,At K H0 X n (oP S js++E) H
 | []=>h
 | j::js=>by
  have ih:=At.view h hS js
  show At K H0 X n (tL S j::(oP S js++E)) H
  unfold tL
  cases e:S[j]? with
  | none=>exact ih.blank
  | some x=>exact ih.view1 (Ap _ (hS x (Au e)))
theorem At.accNew(h:At K H0 X n E H){D:Addr}(hD:H D=Na):At K H0 X n (⟨some (.ref D),.acc [],[D]⟩::E) (upd H D (.lst [])):=by
 have s1:=Dk hD (.lst [])
 refine (h.grow (n':=n) s1 (Ai _)).push ⟨D,[],[],rfl,rfl,Cj,.nil,Dj _,Ba⟩ (λf hf=>?_) λa ha=>?_
 ·have nf:=h.free hD f hf
  refine ⟨λ_ a ha z=>?_,λ_ a ha z=>?_⟩
  ·rw[Ah.mp ha] at z
   exact nf z
  ·rw[Ah.mp z] at ha
   exact nf (Gb _ _ ha)
 ·rw[Ah.mp ha]
  exact .inl (h.new0 hD)
theorem At.accPutG{D:Addr}{ds:List Ad}{v:V}{m:Md}{e:Ad}{F G:List Addr}(h:At K H0 X n (⟨some (.ref D),.acc ds,D::G⟩::⟨some v,.dat m e,F⟩::E) H)(hm:m≠.pk)(hz:ds.length+1<=Aq):∃xs,H D=some (.lst xs)/\xs.length=ds.length/\At K H0 X n (⟨some (.ref D),.acc (ds++[e]),D::(G++F)⟩::E) (upd H D (.lst (xs++[v]))):=by
 obtain ⟨a,xs,G',e1,e0,ha,ra,_,nG⟩:=h.ok _ Aa
 have e1':some (V.ref D)=some (V.ref a):=e1
 cases e1'
 have e0':D::G=D::G':=e0
 cases e0'
 have r:RdF K H v e F:=h.told (Ag _ Aa)
 have hs:=Bh.mp h.sep
 have hs2:=Bh.mp hs.2
 have h1:=(h.sub (Cz _ _)).sub (Cz _ _)
 have npk:Om (.dat m e)=false:=by cases m <;> first | rfl | exact absurd rfl hm
 have nF:D∉F:=(hs.1 _ Aa).1 (.inr rfl) D Aa
 have kp:∀{F:List Addr},D∉F->Kp F H (upd H D (.lst (xs++[v]))):=λ{F} hF b o q z=>by
  have : b≠D:=by
   rintro rfl
   rw[ha] at q
   cases q
   rcases z with z | z
   ·exact hF z
   ·rcases z with ⟨_,z⟩ | ⟨_,_,z⟩ <;> cases z
  rw[Co this]
  exact q
 have nD:H0 D=Na:=by
  rcases h.new _ Aa D Aa with z | z
  ·exact z
  ·cases z.2
 refine ⟨xs,ha,ra.len,?_⟩
 refine ⟨λf hf=>?_,?_,λf hf=>?_,λb o nx q=>?_,λb o q=>?_,λb hb=>?_⟩
 rotate_right
 ·obtain ⟨z,c,k,f,h1,h2⟩:=h.xd b hb
  refine ⟨z,c,k,f,(Co ?_).trans h1,h2⟩
  rintro rfl
  exact z nD
 ·rcases Aj.mp hf with rfl | hf
  ·exact ⟨D,xs++[v],G++F,rfl,rfl,Cj,(ra.kp (kp nG)).snoc (r.kp (kp nF)),by rw[Cb]; exact hz,λz=>(Bl.mp z).elim nG nF⟩
  ·exact (h1.ok f hf).kp (kp ((hs.1 f (Ag _ hf)).1 (.inr rfl) D Aa)) (Ai _)
 ·refine Bh.mpr ⟨λf hf=>⟨λhq a ha'=>(hs.1 f (Ag _ hf)).1 (.inr rfl) a ha',λhq a ha' z=>?_⟩,hs2.2⟩
  have z1:=(hs.1 f (Ag _ hf)).2 (.inl rfl) a ha'
  rcases Aj.mp z with z | z
  ·exact z1 (z▸Aa)
  ·rcases Bl.mp z with z | z
   ·exact z1 (Ag _ z)
   ·exact (hs2.1 f hf).2 (.inl npk) a ha' z
 ·rcases Aj.mp hf with rfl | hf
  ·intro a ha'
   rw[Ah.mp ha']
   exact .inl nD
  ·exact h1.new f hf
 ·rw[Co (Df q nD)]
  exact h.same b o nx q
 ·rw[Co (Df q nD)]
  exact h.dom b o q
theorem At.accPut{D:Addr}{ds:List Ad}{v:V}{e:Ad}(h:At K H0 X n (⟨some (.ref D),.acc ds,[D]⟩::E) H)(r:RdF K H v e [])(hz:ds.length+1<=Aq):∃xs,H D=some (.lst xs)/\xs.length=ds.length/\At K H0 X n (⟨some (.ref D),.acc (ds++[e]),[D]⟩::E) (upd H D (.lst (xs++[v]))) :=
 At.accPutG (m:=.ow) (At.pushI (S:=[⟨some (.ref D),.acc ds,[D]⟩]) h r) (by decide) hz
def aA:Bool->Md
 | true=>.ow
 | false=>.tp
theorem At.accGetG{D:Addr}{ds:List Ad}{b:Bool}{G:List Addr}(h:At K H0 X n (⟨some (.ref D),.acc ds,D::G⟩::E) H)(hb:b=true->G=[]):At K H0 X n (⟨some (.ref D),.dat (aA b) (.list ds),D::G⟩::E) H:=by
 obtain ⟨a,xs,G',e1,e0,ha,ra,hz,nG⟩:=h.ok _ Aa
 have e1':some (V.ref D)=some (V.ref a):=e1
 cases e1'
 have e0':D::G=D::G':=e0
 cases e0'
 have hs:=Bh.mp h.sep
 have cs:∀a∈cells ⟨some (.ref D),.dat (aA b) (.list ds),D::G⟩,a=D:=λa ha'=>by
  cases b with
  | true=>rw[hb rfl] at ha'; exact Ah.mp ha'
  | false=>exact Ah.mp ha'
 refine (h.sub (Cz _ _)).push ⟨_,rfl,.lst ha hz ra,λz=>?_,λ_ a l e=>?_⟩ (λf hf=>⟨λhq a ha'=>?_,λhq a ha'=>(hs.1 f hf).2 (.inl rfl) a ha'⟩) λa ha'=>?_
 ·cases b with
  | true=>rw[hb rfl]; exact Ci.mpr ⟨Ba,Ct⟩
  | false=>cases z
 ·have e:D::G=a::l:=e
  cases e
  exact nG
 ·rw[cs a ha']
  exact (hs.1 f hf).1 (.inr rfl) D Aa
 ·rw[cs a ha']
  rcases h.new _ Aa D Aa with z | z
  ·exact .inl z
  ·cases z.2
end
def cJ:DT:=λδ P=>P true δ
def j7(b:Bool)(m:Md)(e:Ad):Prop:=match b with
 | true=>imm e=true
 | false=>m≠.pk
def Qj(b:Bool)(dc:DT)(de:DE)(δ:DS)(yes:Ad->Nat->Prop)(no:Nat->Prop):Prop:=dc δ λc δ2=>match c with
 | true=>de δ2 λy δ3=>match y with
  | .dat m e=>j7 b m e/\yes e δ3.n
  | _=>False
 | false=>no δ2.n
def pW(b:Bool)(di:DI)(js:List Nat)(dc:DT)(de:DE):DE:=λδ P=>di δ λm ds δ1=>∃I:Nat->List Ad->Nat->Prop,I 0 [] δ1.n /\
 (∀i d acc n,ds[i]? = some d->I i acc n->Qj b dc de ⟨.dat m d::frD δ1.sl js,n⟩ (λe n'=>I (i+1) (acc++[e]) n') (λn'=>I (i+1) acc n')) /\
 ∀acc n,I ds.length acc n->P (.dat (aA b) (.list acc)) ⟨δ1.sl,n⟩
def lC(b:Bool)(di:DI)(js:List Nat)(dc:DT)(de:DE):DE:=λδ P=>di δ λm ds δ1=>∃I:Nat->List Ad->Nat->Prop,I 0 [] δ1.n /\
 (∀i d acc n,ds[i]? = some d->I i acc n->∃d1 d2,d=.tuple [d1,d2]/\Qj b dc de ⟨.dat m d1::.dat m d2::frD δ1.sl js,n⟩ (λe n'=>I (i+1) (acc++[e]) n') (λn'=>I (i+1) acc n')) /\
 ∀acc n,I ds.length acc n->P (.dat (aA b) (.list acc)) ⟨δ1.sl,n⟩
def Nb:DT->DE->DS->(Ad->Nat->Prop)->(Nat->Prop)->Prop:=Qj true
def rF:DI->List Nat->DT->DE->DE:=pW true
def pI:DI->List Nat->DT->DE->DE:=lC true
section
variable{K:PySem.W.Frag}{H0 H H':Hp}{Y:Addr->Prop}{n:Nat}{E S T:List Ent}
theorem gC{b:Bool}{dc:DT}{de:DE}{δ:DS}{yes:Ad->Nat->Prop}{no:Nat->Prop}{D:Addr}{G:List Addr}{acc:List Ad}{N1:Hp->Prop}{N2:VK}(hS:Sl S δ)(hb:b=true->G=[])(hA:At K H0 Y δ.n (S++⟨some (.ref D),.acc acc,D::G⟩::T) H)(h:Qj b dc de δ yes no)(hz:acc.length+1<=Aq)(k1:∀n' H',At K H0 Y n' (⟨some (.ref D),.acc acc,D::G⟩::T) H'->no n'->N1 H')(k2:∀e n' v H' G',(b=true->G'=[])->(∃xs,H' D=some (.lst xs)/\xs.length=acc.length/\At K H0 Y n' (⟨some (.ref D),.acc (acc++[e]),D::G'⟩::T) (upd H' D (.lst (xs++[v]))))->yes e n'->N2 v H'):LT K dc (vs S) H λc H2=>if c=true then LE K de (vs S) H2 N2 else N1 H2:=by
 refine ⟨H0,Y,S,⟨some (.ref D),.acc acc,D::G⟩::T,δ,_,rfl,hS,hA,h,λc δ2 S2 H2 e1 e2 hA2 p2=>?_⟩
 cases c with
 | false=>exact zH (k1 _ _ (hA2.sub (Dw _ _)) p2)
 | true =>
  refine uJ ⟨H0,Y,S2,⟨some (.ref D),.acc acc,D::G⟩::T,δ2,_,e1,e2,hA2,p2,λy δ3 v F S3 H3 e3 e4 hA3 p3=>?_⟩
  split at p3
  ·rename_i m e
   have r:=hA3.told mem_mid
   cases b with
   | true =>
    obtain rfl:=r.imm p3.1
    obtain rfl:=hb rfl
    exact k2 _ _ _ _ [] (λ_=>rfl) ((hA3.drop.sub (Dw _ _)).accPut r hz) p3.2
   | false =>
    have hA4:At K H0 Y δ3.n (⟨some v,.dat m e,F⟩::⟨some (.ref D),.acc acc,D::G⟩::T) H3:=hA3.sub (Dw _ _)
    exact k2 _ _ _ _ (G++F) (λz=>nomatch z) ((hA4.perm (Hr _ _ _)).accPutG p3.1 hz) p3.2
  ·exact p3.elim
theorem nW{dt:TT}:∀σ H Q,LT K cJ σ H Q->Wl σ H Q:=by
 intro σ H Q h
 obtain ⟨H0,Y,S,T,δ,P,rfl,hS,hA,hd,k⟩:=h
 exact k true δ S H rfl hS hA hd
theorem oR.imp{X:Cx}{e:List Expr}{t t':TT}(h:oR X e t)(k:∀σ H Q,t' σ H Q->t σ H Q):oR X e t':=λpins s σ H Q I q=>h pins s σ H Q I (k σ H Q q)
theorem kD{b:Bool}{di:DI}{js:List Nat}{dc:DT}{de:DE}:∀σ H Q,LE K (pW b di js dc de) σ H Q->lU (LI K di) js (LT K dc) (LE K de) σ H Q:=by
 intro σ H Q h
 obtain ⟨H0,Y,S,T,δ,P,rfl,hS,hA,hd,k⟩:=h
 refine ⟨H0,Y,S,T,δ,_,rfl,hS,hA,hd,λm ds δ1 J hid S1 H1 e1 e2 hA1 it hz p1=>?_⟩
 obtain ⟨I,h0,hs,hf⟩:=p1
 rw[<- e1]
 intro D hD
 refine ⟨λi q H=>q=ds.length - i/\i<=ds.length/\∃acc n G,(b=true->G=[])/\At K H0 Y n (⟨some (.ref D),.acc acc,D::G⟩::(S1++(hid++T))) H/\acc.length<=i/\I i acc n,⟨ds.length,by simp,Dj _,[],δ1.n,[],λ_=>rfl,hA1.accNew hD,Ai _,h0⟩,?_⟩
 (intro i q H q_; obtain ⟨rfl,hi,acc,n,G,hG,hA2,hl,hI⟩ := q_)
 have hid_ok:∀e∈hid,Ip K H n e:=λe he=>hA2.ok e (Ag _ (Ap _ (Ay _ he)))
 by_cases hlt:i<ds.length
 ·refine .inr ⟨it.go H n i hid_ok hlt,λx H' y=>?_⟩
  obtain ⟨s1,d,F,h1,h2,h3⟩:=it.yld H n i x H' hid_ok hlt y
  have hA3:At K H0 Y n ((⟨some (.ref D),.acc acc,D::G⟩::S1)++⟨some x,.dat m d,F⟩::(hid++T)) H':=At.item (S:=⟨some (.ref D),.acc acc,D::G⟩::S1) hA2 s1 h2 h3 it.md it.hd it.np
  have hA4:=hA3.mid
  have hA5:=At.view (S:=S1) hA4 (λe he=>Ag _ (Ay _ (Ag _ he))) js
  have hA6:At K H0 Y n ((⟨some x,.dat m d,F⟩::oP S1 js)++⟨some (.ref D),.acc acc,D::G⟩::(S1++(hid++T))) H':=hA5.mid
  have hS6:Sl (⟨some x,.dat m d,F⟩::oP S1 js) ⟨.dat m d::frD δ1.sl js,n⟩:=by
   unfold Sl
   rw[Av,yS e2]
  have hv:vs (⟨some x,.dat m d,F⟩::oP S1 js)=some x::Fv (vs S1) js:=by
   rw[<- yW]
   rfl
  refine ⟨λH2=>∃m',m'<ds.length - i/\_,λy H3=>∃acc,H3 D=some (.lst acc)/\acc.length<Aq/\∃m',m'<ds.length - i/\_,λH2 q=>q,λy H3 q=>q,?_⟩
  rw[<- hv]
  refine gC hS6 hG hA6 (hs i d acc n h1 hI) (by omega) (λn' H2 hA7 p=>?_) (λe n' v H2 G' hG' hA7 p=>?_)
  ·exact ⟨ds.length - (i+1),by omega,rfl,hlt,acc,n',G,hG,hA7,by omega,p⟩
  ·obtain ⟨xs,g1,g2,g3⟩:=hA7
   exact ⟨xs,g1,by omega,ds.length - (i+1),by omega,rfl,hlt,acc++[e],n',G',hG',g3,by rw[Cb]; simp; omega,p⟩
 ·have e:i=ds.length:=by omega
  subst e
  refine .inl ⟨it.stop H n hid_ok,k _ ⟨δ1.sl,n⟩ _ (D::G) S1 H e1 e2 ?_ (hf acc n hI)⟩
  have hA3:=hA2.accGetG hG
  have hA4:At K H0 Y n (⟨some (.ref D),.dat (aA b) (.list acc),D::G⟩::(S1++T)) H:=hA3.sub (((Ef S1).append (Dw hid T)).cons₂ _)
  exact hA4.tomid
theorem tG{b:Bool}{di:DI}{js:List Nat}{dc:DT}{de:DE}:∀σ H Q,LE K (lC b di js dc de) σ H Q->pP K (LI K di) js (LT K dc) (LE K de) σ H Q:=by
 intro σ H Q h
 obtain ⟨H0,Y,S,T,δ,P,rfl,hS,hA,hd,k⟩:=h
 refine ⟨H0,Y,S,T,δ,_,rfl,hS,hA,hd,λm ds δ1 J hid S1 H1 e1 e2 hA1 it hz p1=>?_⟩
 obtain ⟨I,h0,hs,hf⟩:=p1
 rw[<- e1]
 intro D hD
 refine ⟨λi q H=>q=ds.length - i/\i<=ds.length/\∃acc n G,(b=true->G=[])/\At K H0 Y n (⟨some (.ref D),.acc acc,D::G⟩::(S1++(hid++T))) H/\acc.length<=i/\I i acc n,⟨ds.length,by simp,Dj _,[],δ1.n,[],λ_=>rfl,hA1.accNew hD,Ai _,h0⟩,?_⟩
 (intro i q H q_; obtain ⟨rfl,hi,acc,n,G,hG,hA2,hl,hI⟩ := q_)
 have hid_ok:∀e∈hid,Ip K H n e:=λe he=>hA2.ok e (Ag _ (Ap _ (Ay _ he)))
 by_cases hlt:i<ds.length
 ·refine .inr ⟨it.go H n i hid_ok hlt,λx H' y=>?_⟩
  obtain ⟨s1,d,F,h1,h2,h3⟩:=it.yld H n i x H' hid_ok hlt y
  obtain ⟨d1,d2,rfl,hst⟩:=hs i d acc n h1 hI
  obtain ⟨t,xs,rfl,ht,rt,_⟩:=h2.tup_inv
  cases rt with
  | @cons w1 _ xs _ F1 _ r1 rt =>
   cases rt with
   | @cons w2 _ xs _ F2 G r2 rt =>
    cases rt
    have hA3:At K H0 Y n ((⟨some (.ref D),.acc acc,D::G⟩::S1)++⟨some w1,.dat m d1,F1⟩::(hid++T)) H':=At.item (S:=⟨some (.ref D),.acc acc,D::G⟩::S1) hA2 s1 r1 (λa ha=>h3 a (Ay _ ha)) it.md it.hd it.np
    have hA3':At K H0 Y n ((⟨some w1,.dat m d1,F1⟩::⟨some (.ref D),.acc acc,D::G⟩::S1)++(hid++T)) H':=hA3.mid
    have hA3'':At K H0 Y n ((⟨some w1,.dat m d1,F1⟩::⟨some (.ref D),.acc acc,D::G⟩::S1)++⟨some w2,.dat m d2,F2⟩::(hid++T)) H':=At.item hA3' (Kt.refl _) r2 (λa ha=>h3 a (Ap _ (Ay _ ha))) it.md it.hd it.np
    have hA4:At K H0 Y n (⟨some w1,.dat m d1,F1⟩::⟨some w2,.dat m d2,F2⟩::⟨some (.ref D),.acc acc,D::G⟩::(S1++(hid++T))) H':=hA3''.mid.perm (Hr _ _ _)
    have hA5:=At.view (S:=S1) hA4 (λe he=>Ag _ (Ag _ (Ag _ (Ay _ he)))) js
    have hA6:At K H0 Y n ((⟨some w1,.dat m d1,F1⟩::⟨some w2,.dat m d2,F2⟩::oP S1 js)++⟨some (.ref D),.acc acc,D::G⟩::(S1++(hid++T))) H':=by
     have z:=hA5.mid
     refine z.perm ?_
     exact (Jb).cons _
    have hS6:Sl (⟨some w1,.dat m d1,F1⟩::⟨some w2,.dat m d2,F2⟩::oP S1 js) ⟨.dat m d1::.dat m d2::frD δ1.sl js,n⟩:=by
     unfold Sl
     rw[Av,Av,yS e2]
    have hv:vs (⟨some w1,.dat m d1,F1⟩::⟨some w2,.dat m d2,F2⟩::oP S1 js)=some w1::some w2::Fv (vs S1) js:=by
     rw[<- yW]
     rfl
    refine ⟨t,w1,w2,rfl,Rr.of ht,λH2=>∃m',m'<ds.length - i/\_,λy H3=>∃acc,H3 D=some (.lst acc)/\acc.length<Aq/\∃m',m'<ds.length - i/\_,λH2 q=>q,λy H3 q=>q,?_⟩
    rw[<- hv]
    refine gC hS6 hG hA6 hst (by omega) (λn' H2 hA7 p=>?_) (λe n' v H2 G' hG' hA7 p=>?_)
    ·exact ⟨ds.length - (i+1),by omega,rfl,hlt,acc,n',G,hG,hA7,by omega,p⟩
    ·obtain ⟨xs,g1,g2,g3⟩:=hA7
     exact ⟨xs,g1,by omega,ds.length - (i+1),by omega,rfl,hlt,acc++[e],n',G',hG',g3,by rw[Cb]; simp; omega,p⟩
 ·have e:i=ds.length:=by omega
  subst e
  refine .inl ⟨it.stop H n hid_ok,k _ ⟨δ1.sl,n⟩ _ (D::G) S1 H e1 e2 ?_ (hf acc n hI)⟩
  have hA3:=hA2.accGetG hG
  have hA4:At K H0 Y n (⟨some (.ref D),.dat (aA b) (.list acc),D::G⟩::(S1++T)) H:=hA3.sub (((Ef S1).append (Dw hid T)).cons₂ _)
  exact hA4.tomid
end
section
variable{X:Cx}{elt iter c:Expr}{x x2 y0:Str}{px px2 pt py pos spos:Pos}{kt i0:Nat}{ifs:List Expr}{scope:Scope}{cl:List (Str×Addr)}{ys:List Str}{js:List Nat}{di:DI}{dc:DT}{de:DE}
theorem Gv:oR X [] (LT X.K cJ):=oR.imp Ym (nW (dt:=Wl))
theorem Wu(h:oF X c dc):oR X [c] (LT X.K dc):=wM h
theorem Kq(C:CompScope X scope cl x ys js)(hc:X.calm=true)(hi:yE X (.Name x px) iter di)(ht:∀fp s H,oR (Es X scope cl (x::ys) fp s H) ifs (LT X.K dc))(he:∀fp s H,Fi (Es X scope cl (x::ys) fp s H) elt de)(hs:∀x,Fp iter X.env x=pure x:=by intro _; rfl):Fi X (.ListComp elt [⟨.Name x px,iter,ifs,0⟩] scope pos) (rF di js dc de):=PE.imp (cT C hc hi ht he hs) kD
theorem fK(C:CompScope X scope cl x ys js)(own2:sP scope x2)(nd2:(x::x2::ys).Nodup)(hc:X.calm=true)(hi:yE X (.Tuple [.Name x px,.Name x2 px2] kt pt) iter di)(ht:∀fp s H,oR (Es X scope cl (x::x2::ys) fp s H) ifs (LT X.K dc))(he:∀fp s H,Fi (Es X scope cl (x::x2::ys) fp s H) elt de)(hs:∀x,Fp iter X.env x=pure x:=by intro _; rfl):Fi X (.ListComp elt [⟨.Tuple [.Name x px,.Name x2 px2] kt pt,iter,ifs,0⟩] scope pos) (pI di js dc de):=PE.imp (oY C own2 nd2 hc hi ht he hs) tG
def P1(o:Bool)(i:Nat):DG:=match o with
 | true=>fJ i
 | false=>Np i
theorem Q7{K:PySem.W.Frag}{o:Bool}{i:Nat}:∀v σ H Q,LG K (P1 o i) v σ H Q->Vp i v σ H Q:=by
 cases o with
 | true=>exact rE
 | false=>exact dD
theorem Th{o:Bool}(hN:X.N.Nodup)(hi0:X.N[i0]? = some y0)(hy0:X.env.scope.names.lookup y0=some .local)(C:CompScope X scope cl x ys js)(hc:X.calm=true)(hi:yE X (.Name x px) iter di)(ht:∀fp s H,oR (Es X scope cl (x::ys) fp s H) ifs (LT X.K dc))(he:∀fp s H,Fi (Es X scope cl (x::ys) fp s H) elt de)(hs:∀x,Fp iter X.env x=pure x:=by intro _; rfl)(hsw:Kv (.ListComp elt [⟨.Name x px,iter,ifs,0⟩] scope pos) (some (.Name y0 py)) spos.line X.env=pure true:=by rfl):oM X (.Assign [.Name y0 py] (.ListComp elt [⟨.Name x px,iter,ifs,0⟩] scope pos) spos) (sN (rF di js dc de) (P1 o i0)):=PS.impD (uH hN hi0 hy0 C hc hi ht he hs hsw) (jT kD Q7)
end
end DL
namespace DL
open PySem PySem.Spec PyProof.Rows L2 Nd
section
variable{K:PySem.W.Frag}{H0 H H':Hp}{X:Addr->Prop}{n n':Nat}{E S T:List Ent}
theorem At.pushF(h:At K H0 X n E H){v:V}{d:Ad}{F:List Addr}(r:RdF K H v d F)(nd:F.Nodup)(fr:∀a∈F,∀f∈E,a∉f.F)(f0:∀a∈F,H0 a=none):At K H0 X n (⟨some v,.dat .ow d,F⟩::E) H:=by
 refine h.push ⟨v,rfl,r,λ_=>nd,λz=>nomatch z⟩ (λf hf=>⟨λ_ a ha z=>fr a ha f hf z,λ_ a ha z=>fr a z f hf (Gb _ _ ha)⟩) λa ha=>.inl (f0 a ha)
theorem At.drawn(h:At K H0 X n E H){e:Ent}{dr:Addr}(he:e∈E)(hx:e.x=.drw)(hv:e.v=some (.ref dr))(s:Rb dr H H')(hd:∃c k f,Zk H' dr c k f/\0<=k/\k<=(n':Int))(hn:n<=n'):At K H0 X n' E H':=by
 obtain ⟨v,x,F⟩:=e
 have hx':x=.drw:=hx
 subst hx'
 obtain ⟨dr',c0,k0,f0,hv',hF,hd0,_⟩:=h.ok _ he
 have e1:some (V.ref dr)=some (V.ref dr'):=hv.symm.trans hv'
 cases e1
 have hF':F=[dr]:=hF
 subst hF'
 refine ⟨λf hf=>?_,h.sep,h.new,λb o nx q=>?_,λb o q=>?_,λb hb=>?_⟩
 rotate_right
 ·obtain ⟨z,c,k,f,h1,h2,h3⟩:=h.xd b hb
  by_cases hbd:b=dr
  ·subst hbd
   exact ⟨z,hd⟩
  ·exact ⟨z,c,k,f,s _ _ hbd h1,h2,by omega⟩
 ·rcases gZ h he hf with rfl | q
  ·obtain ⟨c,k,fl,h1,h2,h3⟩:=hd
   exact ⟨dr,c,k,fl,hv',rfl,h1,h2,h3⟩
  ·have nf:dr∉f.F:=q.1 (.inr rfl) dr Aa
   refine (h.ok f hf).kp (λb o eb z=>?_) hn
   by_cases hb:b=dr
   ·subst hb
    rcases z with z | z
    ·exact absurd z nf
    ·have hd0':H b=some (.lst _):=hd0
     rw[eb] at hd0'
     cases hd0'
     rcases z with ⟨_,z⟩ | ⟨_,_,z⟩ <;> cases z
   ·exact s b o hb eb
 ·have hb:b≠dr:=by
   rintro rfl
   rcases h.new _ he b Aa with z | z
   ·rw[z] at q; cases q
   ·exact nx z.1
  exact s b o hb (h.same b o nx q)
 ·by_cases hb:b=dr
  ·subst hb
   obtain ⟨c,k,fl,h1,_⟩:=hd
   exact ⟨_,h1⟩
  ·obtain ⟨o',z⟩:=h.dom b o q
   exact ⟨o',s b o' hb z⟩
end
abbrev PF:=List Ad->(Ad->Prop)->Prop
abbrev DF:=List Ad->Nat->(Ad->Nat->Prop)->Prop
def Po(K:PySem.W.Frag)(pf:PF):Sp:=λus H Q _=>∃(As:List Ent) (n:Nat) (ds:List Ad) (R:Ad->Prop),As.map Ent.v=us.map some/\(∀e∈As,Ip K H n e)/\datas (As.map Ent.x)=some ds/\pf ds R /\
 ∀v d F H',R d->RdF K H' v d F->F.Nodup->(∀a∈F,H a=none)->Kt H H'->Q v H'
def dR(K:PySem.W.Frag)(df:DF):Sp:=λus H Q _=>∃(dr:Addr) (ws:List V) (As:List Ent) (n:Nat) (ds:List Ad) (R:Ad->Nat->Prop),us=.ref dr::ws/\As.map Ent.v=ws.map some/\(∀e∈As,Ip K H n e)/\(∀e∈As,dr∉e.F)/\(∃c k f,Zk H dr c k f/\0<=k/\k<=(n:Int))/\datas (As.map Ent.x)=some ds/\df ds n R /\
 ∀v d F n' H',n<=n'->R d n'->RdF K H' v d F->F.Nodup->(∀a∈F,H a=none)->(∃c k f,Zk H' dr c k f/\0<=k/\k<=(n':Int))->Rb dr H H'->Q v H'
def pG(pf:PF)(da:DA):DE:=λδ P=>da δ λxs δ1=>match datas xs with
 | some ds=>pf ds λd=>P (.dat .ow d) δ1
 | none=>False
def jR(i:Nat)(df:DF)(da:DA):DE:=λδ P=>match δ.sl[i]? with
 | some .drw=>da δ λxs δ1=>match δ1.sl[i]? with
  | some .drw=>match datas xs with
   | some ds=>df ds δ1.n λd n'=>P (.dat .ow d) ⟨δ1.sl,n'⟩
   | none=>False
  | _=>False
 | _=>False
section
variable{X:Cx}{CX:oN}{k:Nat}{f:Addr}{fd:Bz}{ps:List Str}{pf:PF}{df:DF}{E:XK}{x:Str}{p pos:Pos}{e e0:Expr}{es:List Expr}{da:DA}
theorem Fs(F:FnOk X.prog X.w X.K X.mg X.base CX k f fd ps (Po X.K pf))(hr:Room k X.A)(hg:Gl X x)(hm:X.mg x=some (.ref f))(hk:PySem.W.keepIn X.K (.ref f)=true)(hb:Binds X.K fd ps [])(hx:Pp CX X E)(ha:lS X (e::es) da)(hdb:(x == ("__debug__" : Str))=false:=by decide)(he:Bo (e::es) X.env=(false,eval e X.env)::Bo es X.env:=by rfl)(hpl:(Gx pos (Bo es X.env)).any (·.1)=false:=by rfl):Fi X (.Call (.Name x p) (e::es) [] pos) (pG pf da):=by
 refine PE.imp (dJ F hr hg hm hk hb .nil hx ha hdb he hpl) λσ H Q h=>?_
 obtain ⟨H0,Y,S,T,δ,P,rfl,hS,hA,hd,kk⟩:=h
 refine ⟨H0,Y,S,T,δ,_,rfl,hS,hA,hd,λxs δ' As us S' H' e1 e2 ex eu hA' p=>?_⟩
 subst ex
 cases q:datas (As.map Ent.x) with
 | none=>rw[q] at p; exact p.elim
 | some ds =>
  rw[q] at p
  rw[Ee]
  refine ⟨As,δ'.n,ds,_,eu,λe he=>hA'.ok e (Ap _ (Ay _ he)),q,p,λv d F H'' r rd nd fr s=>?_⟩
  exact kk _ δ' v F S' H'' e1 e2 (((hA'.dropL.grow s (Ai _)).pushF rd nd (λa ha=>hA'.dropL.free (fr a ha)) (λa ha=>hA'.new0 (fr a ha))).tomid) r
theorem C8(F:FnOk X.prog X.w X.K X.mg X.base CX k f fd ps (Po X.K pf))(hr:Room k X.A)(hg:Gl X x)(hm:X.mg x=some (.ref f))(hk:PySem.W.keepIn X.K (.ref f)=true)(hb:Binds X.K fd ps [])(hx:Pp CX X E)(hdb:(x == ("__debug__" : Str))=false:=by decide):Fi X (.Call (.Name x p) [] [] pos) (pG pf zR):=by
 refine PE.imp (sQ F hr hg hm hk hb .nil hx hdb) λσ H Q h=>?_
 obtain ⟨H0,Y,S,T,δ,P,rfl,hS,hA,hd,kk⟩:=h
 show Po X.K pf [] H Q E
 refine ⟨[],δ.n,[],_,rfl,λe he=>(nomatch he),rfl,hd,λv d F H'' r rd nd fr s=>?_⟩
 exact kk _ δ v F S H'' rfl hS (((hA.grow s (Ai _)).pushF rd nd (λa ha=>hA.free (fr a ha)) (λa ha=>hA.new0 (fr a ha))).tomid) r
theorem Ja{i:Nat}(F:FnOk X.prog X.w X.K X.mg X.base CX k f fd ps (dR X.K df))(hr:Room k X.A)(hg:Gl X x)(hm:X.mg x=some (.ref f))(hk:PySem.W.keepIn X.K (.ref f)=true)(hb:Binds X.K fd ps [])(hx:Pp CX X E)(h0:PE X e0 (Zw i))(ha:lS X es da)(hdb:(x == ("__debug__" : Str))=false:=by decide)(he:Bo (e0::es) X.env=(false,eval e0 X.env)::Bo es X.env:=by rfl)(hpl:(Gx pos (Bo es X.env)).any (·.1)=false:=by rfl):Fi X (.Call (.Name x p) (e0::es) [] pos) (jR i df da):=by
 refine PE.imp (dJ F hr hg hm hk hb .nil hx (Fd h0 ha he) hdb he hpl) λσ H Q h=>?_
 obtain ⟨H0,Y,S,T,δ,P,rfl,hS,hA,hd,kk⟩:=h
 unfold jR at hd
 split at hd
 case h_2=>exact hd.elim
 rename_i hsl0
 have main:∀w,(vs S)[i]? = some (some w)->LA X.K da (vs S) H λxs H2=>dR X.K df ((w::xs)++[]) H2 Q E:=λw hw=>by
  refine ⟨H0,Y,S,T,δ,_,rfl,hS,hA,hd,λxs δ' As us S' H' e1 e2 ex eu hA' p=>?_⟩
  subst ex
  split at p
  ·rename_i hsl
   obtain ⟨ent,s1,s2⟩:=Je e2 hsl
   have hm':ent∈S':=Au s1
   have hv:ent.v=some w:=by
    have:=Lw s1
    rw[e1,hw] at this
    exact (Bj this).symm
   obtain ⟨u,z,F⟩:=ent
   have s2':z=.drw:=s2
   subst s2'
   have hE:(⟨u,.drw,F⟩ : Ent)∈S'++(As++T):=Ay _ hm'
   obtain ⟨dr,c0,k0,f0,hv0,hF0,hd0,hk0,hk1⟩:=hA'.ok _ hE
   have ew:some w=some (V.ref dr):=hv.symm.trans hv0
   cases ew
   have hF':F=[dr]:=hF0
   subst hF'
   cases q:datas (As.map Ent.x) with
   | none=>rw[q] at p; exact p.elim
   | some ds =>
    rw[q] at p
    rw[Ee]
    refine ⟨dr,us,As,δ'.n,ds,_,rfl,eu,λe he=>hA'.ok e (Ap _ (Ay _ he)),λe he=>?_,⟨c0,k0,f0,hd0,hk0,hk1⟩,q,p,λv d F n' H'' hn r rd nd fr hdr s=>?_⟩
    ·obtain ⟨_,_,hp⟩ := Da.mp hA'.sep
     exact (hp _ hm' e (Ay _ he)).1 (.inr rfl) dr Aa
    ·have hA2:=hA'.dropL.drawn (Ay _ hm') rfl hv s hdr hn
     exact kk _ ⟨δ'.sl,n'⟩ v F S' H'' e1 e2 ((hA2.pushF rd nd (λa ha=>hA'.dropL.free (fr a ha)) (λa ha=>hA'.new0 (fr a ha))).tomid) r
  ·exact p.elim
 obtain ⟨ent,s1,s2⟩:=Je hS hsl0
 have hm':ent∈S:=Au s1
 obtain ⟨u,z,F⟩:=ent
 have s2':z=.drw:=s2
 subst s2'
 obtain ⟨dr,c0,k0,f0,hv0,_⟩:=hA.ok _ (Ay _ hm')
 have hw:(vs S)[i]? = some (some (.ref dr)):=(Lw s1).trans (congrArg some hv0)
 exact ⟨_,hw,main _ hw⟩
def Ss:Sp:=λvs H Q _=>∃c:Int,vs=[.int c]/\∀(p:Addr) (c':Int) (f:Bool) (H':Hp),H p=none->Zk H' p c' 0 f->Kt H H'->Q (.ref p) H'
def pR(da:DA):DE:=λδ P=>da δ λxs δ1=>match xs with
 | [.dat _ (.int _)]=>P .drw δ1
 | _=>False
theorem qY(F:FnOk X.prog X.w X.K X.mg X.base CX k f fd ps Ss)(hr:Room k X.A)(hg:Gl X x)(hm:X.mg x=some (.ref f))(hk:PySem.W.keepIn X.K (.ref f)=true)(hb:Binds X.K fd ps [])(hx:Pp CX X E)(ha:lS X (e::es) da)(hdb:(x == ("__debug__" : Str))=false:=by decide)(he:Bo (e::es) X.env=(false,eval e X.env)::Bo es X.env:=by rfl)(hpl:(Gx pos (Bo es X.env)).any (·.1)=false:=by rfl):Fi X (.Call (.Name x p) (e::es) [] pos) (pR da):=by
 refine PE.imp (dJ F hr hg hm hk hb .nil hx ha hdb he hpl) λσ H Q h=>?_
 obtain ⟨H0,Y,S,T,δ,P,rfl,hS,hA,hd,kk⟩:=h
 refine ⟨H0,Y,S,T,δ,_,rfl,hS,hA,hd,λxs δ' As us S' H' e1 e2 ex eu hA' p=>?_⟩
 split at p
 ·obtain ⟨v,F,rfl,hA2⟩:=Fq eu hA' ex
  obtain ⟨rfl,_⟩:=(hA2.told mem_mid).int_inv
  refine ⟨_,rfl,λq c' fl H'' nq hdr s=>?_⟩
  have h3:=hA2.drop.grow (n':=δ'.n) s (Ai _)
  refine kk _ δ' _ [q] S' H'' e1 e2 ((h3.push (e:=⟨some (.ref q),.drw,[q]⟩) ⟨q,_,0,fl,rfl,rfl,hdr,by decide,by omega⟩ (λf hf=>?_) λa ha=>?_).tomid) p
  ·have nf:=hA2.drop.free nq f hf
   refine ⟨λ_ a ha z=>?_,λ_ a ha z=>?_⟩
   ·rw[Ah.mp ha] at z
    exact nf z
   ·rw[Ah.mp z] at ha
    exact nf (Gb _ _ ha)
  ·rw[Ah.mp ha]
   exact .inl (hA2.new0 nq)
 ·exact p.elim
end
def args0(ds:List Ad)(k:Nat):List DV:=ds.map (λd=>.dat .sh d)++Ca k .un
def fO(e:Ent):Ent:=match e.x with
 | .dat _ d=>⟨e.v,.dat .sh d,e.F⟩
 | _=>e
theorem Ij:∀{xs:List DV} {ds:List Ad},datas xs=some ds->xs.length=ds.length
 | [],ds,h=>by cases h; rfl
 | x::xs,ds,h=>by
  cases x with
  | dat m d =>
   cases q:datas xs with
   | none=>simp [datas,q] at h
   | some es =>
    simp [datas,q] at h
    subst h
    rw[Bt,Bt,Ij q]
  | _=>cases h
theorem Sm:∀{As:List Ent} {ds:List Ad},datas (As.map Ent.x)=some ds->(As.map fO).map Ent.x=ds.map (λd=>.dat .sh d)
 | [],ds,h=>by cases h; rfl
 | ⟨v,x,F⟩::As,ds,h=>by
  rw[Av] at h
  cases x with
  | dat m d =>
   cases q:datas (As.map Ent.x) with
   | none=>simp [datas,q] at h
   | some es =>
    simp [datas,q] at h
    subst h
    rw[Av,Av,Av,Sm q]
    rfl
  | _=>cases h
theorem Uo:∀{As:List Ent} {ds:List Ad},datas (As.map Ent.x)=some ds->∀e∈As,∃m d,e.x=.dat m d
 | [],ds,h,e,he=>nomatch he
 | ⟨v,x,F⟩::As,ds,h,e,he=>by
  rw[Av] at h
  cases x with
  | dat m d =>
   cases q:datas (As.map Ent.x) with
   | none=>simp [datas,q] at h
   | some es =>
    rcases Aj.mp he with rfl | he
    ·exact ⟨m,d,rfl⟩
    ·exact Uo q e he
  | _=>cases h
theorem u7(As:List Ent):(As.map fO).map Ent.v=As.map Ent.v:=by
 rw[Br]
 refine Ek λe _=>?_
 obtain ⟨v,x,F⟩:=e
 cases x <;> rfl
def Iu(k:Nat):List Ent:=Ca k ⟨none,.un,[]⟩
theorem cW{As:List Ent}{ds:List Ad}(q:datas (As.map Ent.x)=some ds)(k:Nat):∀e∈As.map fO++Iu k,cells e=[]/\yY e.x=false:=λe he=>by
 rcases Bl.mp he with he | he
 ·obtain ⟨f,hf,rfl⟩:=Bg.mp he
  obtain ⟨m,d,hx⟩:=Uo q f hf
  obtain ⟨v,x,F⟩:=f
  have hx':x=.dat m d:=hx
  subst hx'
  exact ⟨rfl,rfl⟩
 ·rw[(Hi.mp he).2]
  exact ⟨rfl,rfl⟩
theorem Oz{α:Type}{R:α->α->Prop}:∀{l:List α},(∀a∈l,∀b∈l,R a b)->l.Pairwise R
 | [],_=>Hf
 | a::l,h=>Bh.mpr ⟨λb hb=>h a Aa b (Ag _ hb),Oz λx hx y hy=>h x (Ag _ hx) y (Ag _ hy)⟩
theorem tV{K:PySem.W.Frag}{H:Hp}{n:Nat}{As:List Ent}{ds:List Ad}(q:datas (As.map Ent.x)=some ds)(ok:∀e∈As,Ip K H n e)(k:Nat):∀e∈As.map fO++Iu k,Ip K H n e:=λe he=>by
 rcases Bl.mp he with he | he
 ·obtain ⟨f,hf,rfl⟩:=Bg.mp he
  obtain ⟨m,d,hx⟩:=Uo q f hf
  have o:=ok f hf
  obtain ⟨v,x,F⟩:=f
  have hx':x=.dat m d:=hx
  subst hx'
  obtain ⟨w,h1,h2,_⟩:=o
  exact ⟨w,h1,h2,λz=>(nomatch z),λz=>(nomatch z)⟩
 ·rw[(Hi.mp he).2]
  exact (rfl:([]:List Addr)=[])
theorem Mh{α β:Type}(f:α->β)(k:Nat)(a:α):(Ca k a).map f=Ca k (f a):=by
 rw[List.map_replicate]
def retE(R:Ad->Prop):DEnds where
 nx:=λ_=>R .none
 rt:=λx _=>∃d,x=.dat .ow d/\R d
def retW(n:Nat)(R:Ad->Nat->Prop):DEnds where
 nx:=λδ=>n<=δ.n/\R .none δ.n
 rt:=λx δ=>n<=δ.n/\∃d,x=.dat .ow d/\R d δ.n
section
variable{P:Bu}{w:World}{K:PySem.W.Frag}{mg:Str->Option Value}{base:Heap}
theorem Lh{x qual:Str}{st:Stmt}{f:Addr}{fd:Bz}{N ps:List Str}{k:Nat}{pf:PF}{db:DB}(F:Fun K x qual st f fd)(S:FnScope N ps (Bn st))(hb:∀(cdv:Value) (A:Cq) (outer:List Env) (s:Af) (H:Hp) (E:XK),Room k (A.deeper (envOfC qual (Bn st) s.heap.objs.size f cdv))->Yr (Jz Gd P w K mg base N qual (Bn st) f cdv A outer s H E).nox (Hk st) db)(h:∀ds R,pf ds R->ds.length=ps.length/\db (retE R) ⟨args0 ds (N.length - ps.length),0⟩):FnOk P w K mg base Gd (k+1) f fd ps (Po K pf):=by
 refine F.ok S (λvs H Q E z=>?_) λcdv A outer s H us Q E hr z=>?_
 ·obtain ⟨As,n,ds,R,eu,ok,q,hp,_⟩:=z
  have l1:=(h ds R hp).1
  have l2:=Ij q
  rw[Ab] at l2
  have l3:=congrArg Gr eu
  rw[Ab,Ab] at l3
  omega
 ·obtain ⟨As,n,ds,R,eu,ok,q,hp,k1⟩:=z
  obtain ⟨l1,hd⟩:=h ds R hp
  have l2:=Ij q
  rw[Ab] at l2
  have l3:=congrArg Gr eu
  rw[Ab,Ab] at l3
  refine ⟨_,hb cdv A outer s H E hr,H,λ_=>False,As.map fO++Iu (N.length - ps.length),[],⟨args0 ds (N.length - ps.length),0⟩,retE R,?_,?_,λ_ z=>(nomatch z),?_,hd,λδ' S' H' e1 hA p=>?_,λx δ' v F' S' H' e1 hA p=>?_,λ_ _ _ _ _ p=>p.elim,λ_ _ _ _ _ p=>p.elim⟩
  ·unfold vs L2.start Iu
   rw[Bm,u7,eu,Mh,show us.length=ps.length by omega]
  ·unfold Sl args0 Iu
   rw[Bm,Sm q,Mh]
  ·rw[Ee]
   have hs:=cW q (N.length - ps.length)
   refine ⟨λe he=>?_,Oz λa ha b hb'=>⟨λhq c hc=>?_,λhq c hc=>?_⟩,λe he a ha=>?_,λb o _ e=>e,λb o e=>⟨o,e⟩,λb hb=>hb.elim⟩
   ·have:=tV q ok (N.length - ps.length) e he
    obtain ⟨v,x,F⟩:=e
    cases x with
    | drw=>exact absurd (hs _ he).2 (by show ¬ (true=false); decide)
    | _=>exact this
   ·rw[(hs a ha).1] at hc; cases hc
   ·rw[(hs b hb').1] at hc; cases hc
   ·rw[(hs e he).1] at ha; cases ha
  ·exact k1 .non .none [] H' p .non Ct (λ_ z=>(nomatch z)) λb o e=>hA.same b o (λz=>z) e
  ·obtain ⟨d,rfl,r⟩:=p
   rw[show S'++[(⟨some v,.dat .ow d,F'⟩ : Ent)]=S'++⟨some v,.dat .ow d,F'⟩::[] from rfl] at hA
   obtain ⟨u,e2,rd,nd,_⟩:=hA.ok _ mem_mid
   cases e2
   refine k1 v d F' H' r rd (nd rfl) (λa ha=>?_) λb o e=>hA.same b o (λz=>z) e
   rcases hA.new _ mem_mid a ha with z | z
   ·exact z
   ·exact z.1.elim
theorem Wt{x qual:Str}{st:Stmt}{f:Addr}{fd:Bz}{N ps:List Str}{p0:Str}{k:Nat}{df:DF}{db:DB}(F:Fun K x qual st f fd)(S:FnScope N (p0::ps) (Bn st))(hb:∀(cdv:Value) (A:Cq) (outer:List Env) (s:Af) (H:Hp) (E:XK),Room k (A.deeper (envOfC qual (Bn st) s.heap.objs.size f cdv))->Yr (Jz Gd P w K mg base N qual (Bn st) f cdv A outer s H E).nox (Hk st) db)(h:∀ds n R,df ds n R->ds.length=ps.length/\db (retW n R) ⟨.drw::args0 ds (N.length - (p0::ps).length),n⟩):FnOk P w K mg base Gd (k+1) f fd (p0::ps) (dR K df):=by
 refine F.ok S (λvs H Q E z=>?_) λcdv A outer s H us Q E hr z=>?_
 ·obtain ⟨dr,ws,As,n,ds,R,rfl,eu,ok,nd,hdr,q,hp,_⟩:=z
  have l1:=(h ds n R hp).1
  have l2:=Ij q
  rw[Ab] at l2
  have l3:=congrArg Gr eu
  rw[Ab,Ab] at l3
  rw[Bt,Bt]
  omega
 ·obtain ⟨dr,ws,As,n,ds,R,rfl,eu,ok,ndr,hdr,q,hp,k1⟩:=z
  obtain ⟨l1,hd⟩:=h ds n R hp
  have l2:=Ij q
  rw[Ab] at l2
  have l3:=congrArg Gr eu
  rw[Ab,Ab] at l3
  -- what the end tells of the draws: they stand in an old cell
  have ends:∀{E':List Ent} {n':Nat} {H':Hp},At K H (·=dr) n' E' H'->∀b o,b≠dr->H b=some o->H' b=some o:=λhA b o nb e=>hA.same b o nb e
  refine ⟨_,hb cdv A outer s H E hr,H,(·=dr),⟨some (.ref dr),.drw,[dr]⟩::(As.map fO++Iu (N.length - (p0::ps).length)),[],⟨.drw::args0 ds (N.length - (p0::ps).length),n⟩,retW n R,?_,?_,λ_ z=>(nomatch z),?_,hd,λδ' S' H' e1 hA p=>?_,λx δ' v F' S' H' e1 hA p=>?_,λ_ _ _ _ _ p=>p.elim,λ_ _ _ _ _ p=>p.elim⟩
  ·unfold vs L2.start Iu
   rw[Av,Bm,u7,eu,Mh,Bt,Bt,show ws.length=ps.length by omega]
   rfl
  ·unfold Sl args0 Iu
   rw[Av,Bm,Sm q,Mh]
  ·rw[Ee]
   have hs:=cW q (N.length - (p0::ps).length)
   have hsub:∀e∈As.map fO++Iu (N.length - (p0::ps).length),dr∉e.F:=λe he=>by
    rcases Bl.mp he with he | he
    ·obtain ⟨f,hf,rfl⟩:=Bg.mp he
     obtain ⟨v,x,F⟩:=f
     have:=ndr _ hf
     cases x <;> exact this
    ·rw[(Hi.mp he).2]
     exact Ba
   refine ⟨λe he=>?_,Bh.mpr ⟨λb hb'=>⟨λhq c hc=>?_,λhq c hc=>?_⟩,Oz λa ha b hb'=>⟨λhq c hc=>?_,λhq c hc=>?_⟩⟩,λe he a ha=>?_,λb o _ e=>e,λb o e=>⟨o,e⟩,λb hb=>?_⟩
   rotate_right
   ·subst hb
    obtain ⟨c,kk,fl,z1,z2⟩:=hdr
    exact ⟨λz=>(by rw[show H b=some _ from z1] at z; cases z),c,kk,fl,z1,z2⟩
   ·rcases Aj.mp he with rfl | he
    ·obtain ⟨c,kk,fl,z1,z2,z3⟩:=hdr
     exact ⟨dr,c,kk,fl,rfl,rfl,z1,z2,z3⟩
    ·exact tV q ok _ e he
   ·rw[Ah.mp hc]
    exact hsub b hb'
   ·rw[(hs b hb').1] at hc; cases hc
   ·rw[(hs a ha).1] at hc; cases hc
   ·rw[(hs b hb').1] at hc; cases hc
   ·rcases Aj.mp he with rfl | he
    ·rw[Ah.mp ha]
     exact .inr ⟨rfl,rfl⟩
    ·rw[(hs e he).1] at ha; cases ha
  ·exact k1 .non .none [] δ'.n H' p.1 p.2 .non Ct (λ_ z=>(nomatch z)) (hA.xd dr rfl).2 (ends hA)
  ·obtain ⟨hn,d,rfl,r⟩:=p
   rw[show S'++[(⟨some v,.dat .ow d,F'⟩ : Ent)]=S'++⟨some v,.dat .ow d,F'⟩::[] from rfl] at hA
   obtain ⟨u,e2,rd,nd,_⟩:=hA.ok _ mem_mid
   cases e2
   refine k1 v d F' δ'.n H' hn r rd (nd rfl) (λa ha=>?_) (hA.xd dr rfl).2 (ends hA)
   rcases hA.new _ mem_mid a ha with z | z
   ·exact z
   ·cases z.2
end
end DL
namespace L2
open PySem PySem.Spec PyProof.Rows
def qQ(H:Hp):Prop:=∀b,H b=none\/(∃o xs,H b=some (.frz o (.lst xs)))\/∃ps,H b=some (.tbl ps)
def eX(tabs:List (Addr×Addr×Str))(H:Hp):Hp:=λb=>match tabs.find? (λr=>r.2.1 == b) with | some t=>some (.tbl #[.str t.2.2 0]) | none=>H b
theorem Rn{tabs:List (Addr×Addr×Str)}{H:Hp}{b:Addr}{t:Addr×Addr×Str}(h:tabs.find? (λr=>r.2.1 == b)=some t):eX tabs H b=some (.tbl #[.str t.2.2 0]):=by unfold eX; rw[h]
theorem Kj{tabs:List (Addr×Addr×Str)}{H:Hp}{b:Addr}(h:tabs.find? (λr=>r.2.1 == b)=none):eX tabs H b=H b:=by unfold eX; rw[h]
def cK(q:Bu)(K:PySem.W.Frag):Prop:=∃tabs:List (Addr×Addr×Str),(∀t∈tabs,∃x d,(recsOf q).find? (λe=>e.name == x)=some d/\PySem.W.tabIn K x=some (t.1,t.2.1))/\(∀t∈tabs,∀t'∈tabs,t.2.1=t'.2.1->t=t') /\
 (∀x∈Nc,∀c P,PySem.W.tabIn K x=some (c,P)->(c,P,Zv x)∈tabs)/\∀t∈tabs,K.lookup t.2.1=none
theorem uS{x:Str}(hx:x∈Nc):x = "often" \/ x = "cut_by" := by
 rcases Aj.mp hx with h | hx
 ·exact .inl h
 ·exact .inr (Ah.mp hx)
theorem iE{q:Bu}{K:PySem.W.Frag}{c P:Addr}{d:DefRec}(h1:PySem.W.tabIn K "often" = some (c,P))(hd:(recsOf q).find? (λe=>e.name == ("often" : Str))=some d)(hl:K.lookup P=none)(h2:PySem.W.tabIn K "cut_by" = none):cK q K:=by
 refine ⟨[(c,P,Zv "often")],λt ht=>⟨"often",d,hd,?_⟩,λt ht t' ht' _=>?_,λx hx c' P' e=>?_,λt ht=>?_⟩
 ·rw[Ah.mp ht]; exact h1
 ·rw[Ah.mp ht,Ah.mp ht']
 ·rcases uS hx with rfl | rfl
  ·rw[h1] at e; cases e; exact Ah.mpr rfl
  ·rw[h2] at e; cases e
 ·rw[Ah.mp ht]; exact hl
theorem mJ{P:Bu}{w:World}{K:PySem.W.Frag}{mg mb:Str->Option Value}{CX:oN}{k:Nat}{fa a:Addr}{fd:Bz}{x:Str}{sp:Sp}{s₁:Af}{vs:List Value}{ns:List Int}(tabs:List (Addr×Addr×Str))(hT:∀t∈tabs,PySem.W.CodeHd s₁.heap t.1 t.2.1/\s₁.heap.get? t.2.1=some (PySem.W.tabObj #[]))(hu:∀t∈tabs,∀t'∈tabs,t.2.1=t'.2.1->t=t')(hL:∀x∈Nc,∀c P,PySem.W.tabIn K x=some (c,P)->(c,P,Zv x)∈tabs)(hnt:∀t∈tabs,K.lookup t.2.1=none)(hbm:∃bm ob,mg "__builtins__" = some (.ref bm)/\bm≠Sh/\s₁.heap.get? bm=some ob/\ob.cls=.type "module" /\ ob.dict=some Sh/\ob.data=.plain)(KX:K.In s₁.heap)(hns:s₁.heap.Ns Ce mg)(hb:s₁.heap.Ns Sh mb)(hbb:∀x:Str,x ≠ "__name__" -> mb x=Ld x)(hlim:s₁.heap.NoLimit)(hg:s₁.gens=#[])(ha:s₁.heap.get? a=some { cls:=.type "list",data:=.seq vs.toArray })(hi:Ig vs ns)(hl:ns.length<=Aq)(hr:Room k We)(F:∀base:Heap,K.In base->base.Ns Ce mg->FnOk P w K mg base CX k fa fd [x] sp)(hbind:∀(s:Af) (u:Value),BindsTo s fd ⟨[u],[]⟩ [(x,u)])(hsp:∀H:Hp,qQ H->DL.KL K H a (ns.map V.int)->sp [.ref a] H (λv _=>v=.bl true) λ_ _ _=>False)(hCX:∀H e s',CX [] H s₁ (λ_ _ _=>False) e s'->False):Mb (model P w) We (.call (.ref fa) ⟨[.ref a],[]⟩) (λr s'=>r=.ok (.ret (.bool true))/\OldK s₁.heap s'.heap/\s'.os=s₁.os/\Py s'.gens) s₁:=by
 have rv:=aH hi
 have lenV:=hi.length
 -- from an abstract heap in which nothing but the script may be tracked
 have core:∀H:Hp,qQ H->DL.KL K H a (ns.map V.int)->Uh P w H s₁.heap->(∀b,H b≠none->b=a\/∃t∈tabs,b=t.2.1)->(H a≠none->K.lookup a=none)->(∀t∈tabs,yC H t.2.1 t.2.2) ->
   Mb (model P w) We (.call (.ref fa) ⟨[.ref a],[]⟩) (λr s'=>r=.ok (.ret (.bool true))/\OldK s₁.heap s'.heap/\s'.os=s₁.os/\Py s'.gens) s₁:=by
  intro H hO hS hok hA hK hTH
  have base_of:∀{b:Addr} {o:Obj},s₁.heap.get? b=some o->H b=none->(Zj s₁.heap H).get? b=some o:=λe n=>qA e n
  have noA:∀{b:Addr} {o:Obj} {es:Array DictEntry} {ep:Nat},s₁.heap.get? b=some o->o.data=.dict es ep->H b=none:=λ{b o es ep} e d=>by
   cases q:H b with
   | none=>rfl
   | some u =>
    rcases hA b (by rw[q]; simp) with e' | ⟨t,ht,e'⟩
    ·subst e'
     rw[ha] at e; cases e
     have d':Data.seq vs.toArray _=Data.dict es ep:=d
     cases d'
    ·rw[e',(hT t ht).2] at e; cases e
     cases d
  have nsK:∀{b:Addr} {m:Str->Option Value},s₁.heap.Ns b m->(Zj s₁.heap H).Ns b m:=λ{b m} ⟨o,es,ep,e,d,r⟩=>⟨o,es,ep,base_of e (noA e d),d,r⟩
  have hKb:K.In (Zj s₁.heap H):=λb o e=>base_of (KX b o e) (by
   cases q:H b with
   | none=>rfl
   | some u =>
    rcases hA b (by rw[q]; simp) with e' | ⟨t,ht,e'⟩
    ·subst e'
     rw[hK (by rw[q]; simp)] at e; cases e
    ·rw[e',hnt t ht] at e; cases e)
  have noC:∀{b:Addr} {o:Obj},s₁.heap.get? b=some o->o.cls≠.none->o.cls≠.type "list" -> H b=none:=λ{b o} e d d2=>by
   cases q:H b with
   | none=>rfl
   | some u =>
    rcases hA b (by rw[q]; simp) with e' | ⟨t,ht,e'⟩
    ·subst e'
     rw[ha] at e; cases e
     exact absurd rfl d2
    ·rw[e',(hT t ht).2] at e; cases e
     exact absurd rfl d
  have hTb:oW K mg (Zj s₁.heap H) H:=λx hx c P e=>by
   have ht:=hL x hx c P e
   obtain ⟨bm,ob,b1,b2,b3,b4,b5,b6⟩:=hbm
   obtain ⟨⟨o,us,file,tf,flags,tg,inF,text,tt,e1,r1,r2⟩,hP⟩:=hT _ ht
   refine ⟨⟨o,us,file,tf,flags,tg,inF,text,tt,base_of e1 (noC e1 (by rw[r1]; nofun) (by rw[r1]; simp)),r1,r2⟩,⟨bm,ob,b1,b2,λz=>?_,λz=>?_,base_of b3 (noC b3 (by rw[b4]; nofun) (by rw[b4]; simp)),b4,b5,b6⟩,hTH _ ht⟩
   ·obtain ⟨o',es,ep,e',d,_⟩:=hns
    rw[<- z,b3] at e'; cases e'; rw[b6] at d; cases d
   ·have hP:s₁.heap.get? P=_:=hP
    rw[<- z,b3] at hP; cases hP; cases b4
  have hM:Mod K mg (Zj s₁.heap H):=⟨hKb,nsK hns,⟨mb,nsK hb,hbb⟩,let ⟨mc,h1,h2⟩:=hlim; ⟨mc,nsK h1,h2⟩⟩
  have e0:Env0 P w K mg (Zj s₁.heap H) We [] s₁ H:=⟨rfl,hM,λb o e=>vI e,Nat.le_of_eq (mC _ _),trivial,λb hb=>absurd (show b∈([]:List Addr) from hb) (by simp),hok,.of_eq hg,hTb⟩
  refine bG ((F _ hKb (nsK hns)).run We [] s₁ H ⟨[.ref a],[]⟩ [.ref a] [.ref a] _ _ hr e0 (hbind s₁ (.ref a)) (.cons rfl .nil) (hsp H hO hS)) λr s' h=>?_
  cases r with
  | error e=>exact (hCX H e s' h).elim
  | ok fl =>
   cases fl with
   | next=>exact Iq h
   | brk=>exact Iq h
   | cont=>exact Iq h
   | ret u =>
    obtain ⟨v,H',os,bare,un,hok',r',q⟩:=h
    have q':v=.bl true:=q
    subst q'
    obtain rfl:u=Value.bool true:=r'
    have old:∀b o,s₁.heap.get? b=some o->s'.heap.get? b=some o\/∃t∈tabs,b=t.2.1:=λb o e=>by
     cases q:H b with
     | none=>exact .inl (un.keep b o e q (by intro z; exact absurd (show b∈([]:List Addr) from z) (by simp)) (by simp))
     | some u =>
      rcases hO b with z | ⟨ob,xs,z⟩ | ⟨ps,z⟩
      ·rw[q] at z; cases z
      ·have z2:=un.frzs b ob _ z
       obtain ⟨e1,_⟩:=hok b _ z
       obtain ⟨e2,_⟩:=hok' b _ z2
       rw[e] at e1; cases e1
       exact .inl e2
      ·rcases hA b (by rw[q]; simp) with e' | h'
       ·obtain ⟨_,e1,_⟩:=hok b _ z
        rw[e',ha] at e1; cases e1
       ·exact .inr h'
    have grown:∀t∈tabs,∃ps,s'.heap.get? t.2.1=some (PySem.W.tabObj ps):=λt ht=>by
     obtain ⟨ps,t0,h3,_⟩:=hTH t ht
     obtain ⟨more,h5⟩:=un.tbls _ _ h3
     obtain ⟨qs,e1,_⟩:=hok' _ _ h5
     exact ⟨qs,e1⟩
    refine ⟨rfl,⟨λb o e=>?_,λb o e=>?_⟩,os,bare⟩
    ·rcases old b o e with z | ⟨t,ht,rfl⟩
     ·exact .inl z
     ·obtain ⟨ps,hP⟩:=grown t ht
      have e2:=(hT t ht).2
      rw[e] at e2
      cases e2
      exact .inr (.inl ⟨((hT t ht).1.tab (hT t ht).2).isCodeTable,rfl,#[],ps,rfl,by rw[Array.empty_append]; exact hP⟩)
    ·rcases old b o e with z | ⟨t,ht,rfl⟩
     ·exact ⟨_,z⟩
     ·obtain ⟨ps,hP⟩:=grown t ht
      exact ⟨_,hP⟩
 have tabH:∀(t:Addr×Addr×Str),t∈tabs->tabs.find? (λr=>r.2.1 == t.2.1)=some t:=λt ht=>by
  cases q:tabs.find? (λr=>r.2.1 == t.2.1) with
  | none=>exact absurd (List.find?_eq_none.mp q t ht) (by simp)
  | some r=>exact congrArg some (hu r (Jh q) t ht (by have:=Qt q; simpa using this))
 have neA:∀t∈tabs,t.2.1≠a:=λt ht z=>by
  have e:=(hT t ht).2
  rw[z,ha] at e; cases e
 have all:∀H:Hp,(∀b,H b=none\/∃o xs,H b=some (.frz o (.lst xs)))->(∀b,H b≠none->b=a)->(H a≠none->K.lookup a=none)->DL.KL K H a (ns.map V.int)->Uh P w H s₁.heap ->
   Mb (model P w) We (.call (.ref fa) ⟨[.ref a],[]⟩) (λr s'=>r=.ok (.ret (.bool true))/\OldK s₁.heap s'.heap/\s'.os=s₁.os/\Py s'.gens) s₁:=by
  intro H h1 h2 h3 h4 h5
  refine core (eX tabs H) (λb=>?_) ?_ (λb u z=>?_) (λb z=>?_) (λz=>?_) λt ht=>?_
  ·cases q:tabs.find? (λr=>r.2.1 == b) with
   | some t=>exact .inr (.inr ⟨_,Rn q⟩)
   | none =>
    rcases h1 b with z | ⟨o,xs,z⟩
    ·exact .inl (by rw[Kj q]; exact z)
    ·exact .inr (.inl ⟨o,xs,by rw[Kj q]; exact z⟩)
  ·have na:tabs.find? (λr=>r.2.1 == a)=none:=uA.mpr λt ht z=>neA t ht (by simpa using z)
   rcases h4 with ⟨o,h⟩ | h
   ·exact .inl ⟨o,by rw[Kj na]; exact h⟩
   ·exact .inr h
  ·cases q:tabs.find? (λr=>r.2.1 == b) with
   | some t =>
    rw[Rn q] at z
    cases z
    have eb:t.2.1=b:=by have:=Qt q; simpa using this
    exact ⟨#[],by rw[<- eb]; exact (hT t (Jh q)).2,by simp [TriplesOk],λpos v y=>by simp [Od] at y⟩
   | none =>
    rw[Kj q] at z
    rcases h1 b with y | ⟨o,xs,y⟩
    ·rw[z] at y; cases y
    ·rw[z] at y
     cases y
     exact h5 b _ z
  ·cases q:tabs.find? (λr=>r.2.1 == b) with
   | some t=>exact .inr ⟨t,Jh q,by have:=Qt q; exact (by simpa using this : t.2.1=b).symm⟩
   | none =>
    rw[Kj q] at z
    exact .inl (h2 b z)
  ·have na:tabs.find? (λr=>r.2.1 == a)=none:=uA.mpr λt ht z=>neA t ht (by simpa using z)
   rw[Kj na] at z
   exact h3 z
  ·exact ⟨#[.str t.2.2 0],0,Rn (tabH t ht),rfl⟩
 cases hk:K.lookup a with
 | some o =>
  -- the script is one of the module's own objects
  have e:=KX a o hk
  rw[ha] at e
  cases e
  exact all (λ_=>none) (λ_=>.inl rfl) (λb z=>absurd rfl z) (λz=>absurd rfl z) (.inr ⟨vs.toArray,_,hk,by rw[Al,lenV]; exact hl,by simpa using rv⟩) (λb u z=>by have z':(none:Option HO)=some u:=z; cases z')
 | none =>
  refine all (λb=>if b=a then some (.frz { cls:=.type "list",data:=.seq vs.toArray } (.lst (ns.map V.int))) else none) (λb=>?_) (λb z=>?_) (λ_=>hk) (.inl ⟨{ cls:=.type "list",data:=.seq vs.toArray },if_pos rfl⟩) (λb u z=>?_)
  ·by_cases hb:b=a
   ·exact .inr ⟨_,_,if_pos hb⟩
   ·exact .inl (if_neg hb)
  ·by_cases hb:b=a
   ·exact hb
   ·exact absurd (if_neg hb) z
  ·by_cases hb:b=a
   ·have z':=(if_pos hb).symm.trans z
    cases z'
    subst hb
    exact ⟨ha,by rw[Ab]; exact hl,vs,_,rv,ha⟩
   ·have z':=(if_neg hb).symm.trans z
    cases z'
theorem walk_ofD{l:PySem.W.OpenLaw}{n k:Nat}{q:Bu}{loose:List Str}{XP:(Str->Option Value)->Heap->Prop}{YP:World->Heap->Prop}{d:DefRec}{K:Params->PySem.W.Frag}{CX:World->oN}{sp:World->Sp}{x:Str}(hn:l.most=some n)(hn2:n<=Aq)(hdf:d.params.defaults=[])(hr:Room k We)(hY:∀(w:World) (h:Heap),YP w h->(K w.params).In h)(F:∀(w:World) (mg:Str->Option Value) (fa:Addr) (h:Heap),(K w.params).In h->h.Ns Ce mg->mg d.name=some (.ref fa)->(cK q (K w.params))/\∃fd:Bz,(∀(s:Af) (u:Value),BindsTo s fd ⟨[u],[]⟩ [(x,u)])/\∀base:Heap,(K w.params).In base->base.Ns Ce mg->FnOk l.prog w (K w.params) mg base (CX w) k fa fd [x] (sp w))(hsp:∀(w:World) (H:Hp) (a:Addr) (ns:List Int),ns.length<=n->qQ H->DL.KL (K w.params) H a (ns.map V.int)->sp w [.ref a] H (λv _=>v=.bl true) λ_ _ _=>False)(hCX:∀(w:World) (H:Hp) (s:Af) (e:Value) (s':Af),CX w [] H s (λ_ _ _=>False) e s'->False):PySem.W.WalkO q loose XP YP l.row.toRowW d [] (λf vs=>PySem.call f vs):=by
 refine Att.attach_call hn hdf λw s₀ s₁ mg mb fa o pm cd doc a vs ns G Y ho hd hcd hmg hobj hints hlen hg=>?_
 have KX:=hY w _ Y
 obtain ⟨⟨tabs,t1,t2,t3,t4⟩,fd,hb,hF⟩:=F w mg fa _ KX G.T.g hmg
 exact mJ tabs (λt ht=>by
  obtain ⟨x,d,h1,h2⟩:=t1 t ht
  exact PySem.W.tab_of G.T KX h1 h2) t2 t3 t4 G.T.bmain KX G.T.g G.T.b G.T.builtins G.T.nolimit hg hobj hints (Cg hlen hn2) hr hF hb (λH hO hS=>hsp w H a ns hlen hO hS) λH e s'=>hCX w H s₁ e s'
end L2
namespace DL
open PySem PySem.Spec PyProof.Rows L2 Nd
def npk:List DV->Bool
 | []=>true
 | .dat .pk _::_=>false
 | _::xs=>npk xs
theorem iR:∀{S:List Ent} {sl:List DV},S.map Ent.x=sl->npk sl=true->∀e∈S,Om e.x=false
 | [],_,_,_,e,he=>nomatch he
 | ⟨v,x,F⟩::S,_,h,hn,e,he=>by
  subst h
  rw[Av] at hn
  have : Om x=false/\npk (S.map Ent.x)=true:=by
   cases x with
   | dat m d=>cases m <;> first | exact ⟨rfl,hn⟩ | cases hn
   | _=>exact ⟨rfl,hn⟩
  rcases Aj.mp he with rfl | he
  ·exact this.1
  ·exact iR rfl this.2 e he
def own1:Md->Bool
 | .ow=>true
 | .tp=>true
 | _=>false
section
variable{K:PySem.W.Frag}{H0 H:Hp}{X:Addr->Prop}{n:Nat}{E:List Ent}
theorem At.write{v:Option V}{m:Md}{ds es:List Ad}{a:Addr}{F G:List Addr}{ys:List V}(h:At K H0 X n (⟨v,.dat m (.list ds),a::F⟩::E) H)(ho:own1 m=true)(hv:v=some (.ref a))(np:∀e∈E,Om e.x=false)(r:RdFs K H ys es G)(hG:G.Sublist F)(hz:es.length<=Aq):At K H0 X n (⟨v,.dat m (.list es),a::G⟩::E) (upd H a (.lst ys)):=by
 obtain ⟨w,e1,rd,hn,ht⟩:=h.ok _ Aa
 obtain ⟨b,xs,G0,e2,ha,ra,eF,_⟩:=rd.list_inv
 have eF':a::F=b::G0:=eF
 cases eF'
 have hs:=Bh.mp h.sep
 have naF:a∉F:=by
  cases m with
  | ow=>exact (Ci.mp (hn rfl)).1
  | tp=>exact ht rfl a F rfl
  | sh=>cases ho
  | pk=>cases ho
 have ca:a∈cells ⟨v,.dat m (.list ds),a::F⟩:=by
  cases m <;> first | exact Aa | cases ho
 have kp:∀{F':List Addr},a∉F'->Kp F' H (upd H a (.lst ys)):=λ{F'} hF b o q z=>by
  have : b≠a:=by
   rintro rfl
   rw[ha] at q
   cases q
   rcases z with z | z
   ·exact hF z
   ·rcases z with ⟨_,z⟩ | ⟨_,_,z⟩ <;> cases z
  rw[Co this]
  exact q
 have n0:H0 a=none:=by
  rcases h.new _ Aa a ca with z | z
  ·exact z
  ·cases z.2
 have cs:∀c∈cells ⟨v,.dat m (.list es),a::G⟩,c∈cells ⟨v,.dat m (.list ds),a::F⟩:=λc hc=>by
  cases m with
  | ow =>
   rcases Aj.mp hc with z | z
   ·exact Aj.mpr (.inl z)
   ·exact Aj.mpr (.inr (hG.subset z))
  | tp=>exact hc
  | sh=>cases ho
  | pk=>cases ho
 have hsub:∀c∈a::G,c∈a::F:=λc hc=>by
  rcases Aj.mp hc with z | z
  ·exact Aj.mpr (.inl z)
  ·exact Aj.mpr (.inr (hG.subset z))
 have naG:a∉G:=λz=>naF (hG.subset z)
 refine ⟨λf hf=>?_,?_,λf hf=>?_,λb o nx q=>?_,λb o q=>?_,λb hb=>?_⟩
 ·rcases Aj.mp hf with rfl | hf
  ·refine ⟨.ref a,hv,.lst Cj hz (r.kp (kp naG)),λz=>?_,λz c l e=>?_⟩
   ·exact Ci.mpr ⟨naG,(Ci.mp (hn z)).2.sublist hG⟩
   ·cases e
    exact naG
  ·exact (h.ok f (Ag _ hf)).kp (kp ((hs.1 f hf).1 (.inl (np f hf)) a ca)) (Ai _)
 ·refine Bh.mpr ⟨λf hf=>⟨λhq c hc=>(hs.1 f hf).1 (.inl (np f hf)) c (cs c hc),λhq c hc z=>(hs.1 f hf).2 (.inl ?_) c hc (hsub c z)⟩,hs.2⟩
  cases m <;> first | rfl | cases ho
 ·rcases Aj.mp hf with rfl | hf
  ·exact λc hc=>h.new _ Aa c (cs c hc)
  ·exact h.new f (Ag _ hf)
 ·rw[Co (Df q n0)]
  exact h.same b o nx q
 ·rw[Co (Df q n0)]
  exact h.dom b o q
 ·obtain ⟨z,c,k,f,h1,h2⟩:=h.xd b hb
  refine ⟨z,c,k,f,(Co ?_).trans h1,h2⟩
  rintro rfl
  exact z n0
end
theorem Oa{α:Type}:∀{l:List α} {i:Nat} {x:α},l[i]? = some x->l.Perm (x::l.eraseIdx i)
 | [],i,x,h=>by simp at h
 | z::l,0,x,h=>by
  simp at h
  subst h
  exact Hs _
 | z::l,i+1,x,h=>by
  have ih:=Oa (l:=l) (i:=i) (x:=x) (by simpa using h)
  rw[Ou]
  exact (ih.cons z).trans (Hr x z _)
theorem aR{α:Type}{l:List α}{i:Nat}{x y:α}(h:l[i]? = some x):(l.set i y).Perm (y::l.eraseIdx i):=by
 have hlt:=(Ak.mp h).1
 have q:=Oa (l:=l.set i y) (i:=i) (x:=y) (by rw[Ko]; simp [hlt])
 rw[List.eraseIdx_set_eq] at q
 exact q
theorem Rv{K:PySem.W.Frag}{H0 H:Hp}{X:Addr->Prop}{S T:List Ent}{δ:DS}{i:Nat}{m:Md}{ds es:List Ad}(hS:Sl S δ)(hT:∀e∈T,Om e.x=false)(hA:At K H0 X δ.n (S++T) H)(hi:δ.sl[i]? = some (.dat m (.list ds)))(ho:own1 m=true)(np:npk δ.sl=true):∃a xs G,(vs S)[i]? = some (some (.ref a))/\H a=some (.lst xs)/\RdFs K H xs ds G/\ds.length<=Aq/\∀ys G',RdFs K H ys es G'->G'.Sublist G->es.length<=Aq->∃S',vs S'=vs S/\Sl S' ⟨δ.sl.set i (.dat m (.list es)),δ.n⟩/\At K H0 X δ.n (S'++T) (upd H a (.lst ys)):=by
 obtain ⟨ent,e2,e3⟩:=Je hS hi
 have hm:ent∈S:=Au e2
 obtain ⟨u,x,F⟩:=ent
 have e3':x=.dat m (.list ds):=e3
 subst e3'
 obtain ⟨v,hv,rd,_⟩:=hA.ok _ (Ay _ hm)
 obtain ⟨a,xs,G,rfl,ha,ra,eF,hz⟩:=rd.list_inv
 have eF':F=a::G:=eF
 subst eF'
 refine ⟨a,xs,G,by rw[Lw e2]; exact congrArg some hv,ha,ra,hz,λys G' r hG hz'=>?_⟩
 have hn:=iR hS np
 have pm:(S++T).Perm (⟨u,.dat m (.list ds),a::G⟩::(S.eraseIdx i++T)):=by
  exact (Oa e2).append_right T
 have h1:=(hA.perm pm).write (es:=es) (ys:=ys) ho hv (λe he=>?_) r hG hz'
 ·refine ⟨S.set i ⟨u,.dat m (.list es),a::G'⟩,?_,?_,h1.perm ?_⟩
  ·unfold vs
   rw[Hj]
   apply Gu
   intro j
   rw[Ko]
   split
   ·rename_i hij
    subst hij
    rw[Az,e2]
    split
    ·rfl
    ·rename_i hj
     rw[Ab] at hj
     exact absurd (Ak.mp e2).1 hj
   ·rfl
  ·unfold Sl at hS ⊢
   rw[Hj,hS]
  ·exact ((aR e2).append_right T).symm
 ·rcases Bl.mp he with he | he
  ·exact hn e ((List.eraseIdx_sublist S i).subset he)
  ·exact hT e he
def cQ(i:Nat)(de:DE):DB:=λD δ=>match δ.sl[i]? with
 | some (.dat _ (.list _))=>de δ λy δ1=>match δ1.sl[i]?,y with
  | some (.dat m (.list ds)),.dat _ e=>own1 m=true/\npk δ1.sl=true/\imm e=true/\ds.length<1000000/\D.nx ⟨δ1.sl.set i (.dat m (.list (ds++[e]))),δ1.n⟩
  | _,_=>False
 | _=>False
section
variable{X:Cx}{o e:Expr}{de:DE}{apos cpos pos:Pos}{i:Nat}
theorem nI(ho:PE X o (Zw i))(he:Fi X e de)(hbase:Qr o "append" X.env (eval o X.env)=eval o X.env:=by rfl)
  (hfew:((Gx cpos (Bo [e] X.env)).all (λx=>!x.1) && (backToKw cpos (Vw [] X.env)).all (λx=>x.1.isSome)
   && decide (([e]:List Expr).length+([]:List Px).length+(if ([]:List Px).isEmpty then 0 else 1)<30))=true:=by rfl)
  (hline:(apos.endLine == cpos.line)=true:=by rfl) (hs:Bo [e] X.env=(false,eval e X.env)::Bo [] X.env:=by rfl) (hplain:(Gx cpos (Bo [] X.env)).any (·.1)=false:=by rfl)
  (hsw:Kv (.Call (.Attribute o "append" apos) [e] [] cpos) none pos.line X.env=pure false:=by rfl) :
  oM X (.Expr (.Call (.Attribute o "append" apos) [e] [] cpos) pos) (cQ i de):=by
 refine PS.impD (kB (xT PySem.F.plainAttrs_list PySem.F.slot_list_append PySem.F.type_list_append Qb ho (Fd he Hw hs) hbase hfew hline hs hplain) hsw) λD σ H h=>?_
 obtain ⟨H0,Y,S,T,δ,P,rfl,hS,hT,hA,hd,k1,k2,k3,k4⟩:=h
 unfold cQ at hd
 split at hd
 case h_2=>exact hd.elim
 rename_i m0 ds0 hsl
 obtain ⟨ent,e2,e3⟩:=Je hS hsl
 have hm:ent∈S:=Au e2
 obtain ⟨u,x,F⟩:=ent
 have e3':x=.dat m0 (.list ds0):=e3
 subst e3'
 obtain ⟨v,hv,rd,_⟩:=hA.ok _ (Ay _ hm)
 obtain ⟨a,xs,G,rfl,ha,ra,eF,hz⟩:=rd.list_inv
 refine ⟨.ref a,by rw[Lw e2]; exact congrArg some hv,.inl ⟨rfl,xs,Kw.of ha⟩,H0,Y,S,T,δ,_,rfl,hS,hA,hd,λy δ1 w F1 S1 H1 e4 e5 hA1 p1=>?_⟩
 split at p1
 ·rename_i m ds m' e' hsl1
  obtain ⟨p1,p2,p3,p4,p5⟩:=p1
  have r:=hA1.told mem_mid
  obtain rfl:=r.imm p3
  obtain ⟨b,xs1,G1,g1,g2,g3,g4,g5⟩:=Rv (es:=ds++[e']) e5 hT hA1.drop hsl1 p1 p2
  rw[e4,Lw e2] at g1
  have : some (V.ref b)=some (V.ref a):=(Bj g1).symm.trans hv
  cases this
  obtain ⟨S2,h1,h2,h3⟩:=g5 (xs1++[w]) (G1++[]) (g3.snoc r) (by rw[Ee]; exact Ef _) (by rw[Cb]; exact lI (by simp; omega))
  have hl:=g3.len
  refine ⟨a,xs1,w,rfl,rfl,g2,Cc (by omega) (lI (n:=1000000) (Ai _)),?_⟩
  rw[<- e4,<- h1]
  exact k1 ⟨_,_⟩ S2 _ h2 h3 p5
 ·exact p1.elim
end
def yL(i:Nat)(dk de:DE):DB:=λD δ=>de δ λy δ1=>match δ1.sl[i]? with
 | some (.dat _ (.list _))=>dk δ1 λz δ2=>match δ2.sl[i]?,y,z with
  | some (.dat m (.list ds)),.dat _ e,.dat _ (.int k)=>own1 m=true/\npk δ2.sl=true/\imm e=true/\Du ds=true/\∃j,oQ ds.length k=some j/\D.nx ⟨δ2.sl.set i (.dat m (.list (ds.set j e))),δ2.n⟩
  | _,_,_=>False
 | _=>False
theorem RdFs.setI{K:PySem.W.Frag}{H:Hp}:∀{xs:List V} {ds:List Ad} {j:Nat} {v:V} {e:Ad},RdFs K H xs ds []->RdF K H v e []->RdFs K H (xs.set j v) (ds.set j e) []:=by
 have main:∀{xs:List V} {ds:List Ad} {F:List Addr} {j:Nat} {v:V} {e:Ad},RdFs K H xs ds F->F=[]->RdF K H v e []->RdFs K H (xs.set j v) (ds.set j e) []:=by
  intro xs ds F j v e h
  induction j generalizing xs ds F with
  | zero =>
   intro hF r
   cases h with
   | nil=>exact .nil
   | cons a t =>
    obtain ⟨rfl,rfl⟩:=Pw.mp hF
    exact RdFs.cons (F:=[]) r t
  | succ j ih =>
   intro hF r
   cases h with
   | nil=>exact .nil
   | cons a t =>
    obtain ⟨rfl,rfl⟩:=Pw.mp hF
    exact RdFs.cons (F:=[]) a (ih t rfl r)
 intro xs ds j v e h r
 exact main h rfl r
section
variable{X:Cx}{o ie e:Expr}{de dk:DE}{pos spos:Pos}{i:Nat}
theorem wA(ho:PE X o (Zw i))(hk:Fi X ie dk)(he:Fi X e de)
  (ha:∀v,Vx (.Subscript o ie spos) X.env v=(do
   let ov <- Pu [v] (eval o X.env)
   let iv <- Pu [v,ov] (eval ie X.env)
   standAt spos
   Pu [v,ov,iv] (setItem ov iv v)
   release [v,ov,iv] []):=by intro _; rfl)
  (hs:swapsWithSole [.Subscript o ie spos] e pos.line X.env=pure false:=by rfl) (hw:swappedStores [.Subscript o ie spos] e X.env=pure none:=by rfl)
  (h1:(Oj [.Subscript o ie spos] X.env).map (·.2)=[Vx (.Subscript o ie spos) X.env]:=by rfl):oM X (.Assign [.Subscript o ie spos] e pos) (yL i dk de):=by
 refine PS.impD (Xz he (Xw ho hk Pr ha) hs hw h1) λD σ H h=>?_
 obtain ⟨H0,Y,S,T,δ,P,rfl,hS,hT,hA,hd,k1,k2,k3,k4⟩:=h
 refine ⟨H0,Y,S,T,δ,_,rfl,hS,hA,hd,λy δ1 w F1 S1 H1 e4 e5 hA1 p1=>?_⟩
 split at p1
 case h_2=>exact p1.elim
 rename_i m0 ds0 hsl
 obtain ⟨ent,e2,e3⟩:=Je e5 hsl
 have hm:ent∈S1:=Au e2
 obtain ⟨u,x,F⟩:=ent
 have e3':x=.dat m0 (.list ds0):=e3
 subst e3'
 obtain ⟨v,hv,rd,_⟩:=hA1.ok _ (Ay _ hm)
 obtain ⟨a,xs,G,rfl,ha,ra,eF,hz⟩:=rd.list_inv
 refine ⟨.ref a,by rw[<- e4,Lw e2]; exact congrArg some hv,H0,Y,S1,⟨some w,y,F1⟩::T,δ1,_,e4,e5,hA1,p1,λz δ2 w2 F2 S2 H2 e6 e7 hA2 p2=>?_⟩
 split at p2
 ·rename_i m ds m' e' m'' k hsl2
  obtain ⟨q1,q2,q3,q4,j,q5,q6⟩:=p2
  obtain ⟨rfl,_⟩:=(hA2.told mem_mid).int_inv
  have r:=hA2.told Er
  obtain rfl:=r.imm q3
  obtain ⟨b,xs1,G1,g1,g2,g3,g4,g5⟩:=Rv (es:=ds.set j e') e7 hT hA2.drop2 hsl2 q1 q2
  rw[e6,<- e4,Lw e2] at g1
  have : some (V.ref b)=some (V.ref a):=(Bj g1).symm.trans hv
  cases this
  obtain rfl:=g3.imm q4
  obtain ⟨S3,h1,h2,h3⟩:=g5 (xs1.set j w) [] (g3.setI r) (Ef _) (by rw[List.length_set]; exact g4)
  refine ⟨a,xs1,k,j,rfl,rfl,g2,by rw[g3.len]; exact q5,?_⟩
  rw[<- e6,<- h1]
  exact k1 ⟨_,_⟩ S3 _ h2 h3 q6
 ·exact p2.elim
end
def spLawD(K:PySem.W.Frag):Sp:=λus H Q _=>∃(a:Addr) (ns:List Int),us=[.ref a]/\KL K H a (ns.map V.int)/\ns.length<=63/\∀H',Q (.bl true) H'
def retL:DEnds where
 nx:=λ_=>False
 rt:=λx _=>∃m,x=.dat m (.bool true)
section
variable{P:Bu}{w:World}{K:PySem.W.Frag}{mg:Str->Option Value}{base:Heap}
theorem p9{x qual p0:Str}{st:Stmt}{f:Addr}{fd:Bz}{N:List Str}{k:Nat}{db:DB}(F:Fun K x qual st f fd)(S:FnScope N [p0] (Bn st))(hb:∀(cdv:Value) (A:Cq) (outer:List Env) (s:Af) (H:Hp) (E:XK),Room k (A.deeper (envOfC qual (Bn st) s.heap.objs.size f cdv))->Yr (Jz Gd P w K mg base N qual (Bn st) f cdv A outer s H E).nox (Hk st) db)(h:∀ns:List Int,ns.length<=63->db retL ⟨.scr ns::Ca (N.length - 1) .un,0⟩):FnOk P w K mg base Gd (k+1) f fd [p0] (spLawD K):=by
 refine F.ok S (λvs H Q E z=>?_) λcdv A outer s H us Q E hr z=>?_
 ·obtain ⟨a,ns,rfl,_⟩:=z
  rfl
 ·obtain ⟨a,ns,rfl,hK,h63,k1⟩:=z
  refine ⟨_,hb cdv A outer s H E hr,H,λ_=>False,⟨some (.ref a),.scr ns,[]⟩::Iu (N.length - 1),[],⟨.scr ns::Ca (N.length - 1) .un,0⟩,retL,?_,?_,λ_ z=>(nomatch z),?_,h ns h63,λδ' S' H' e1 hA p=>p.elim,λx δ' v F' S' H' e1 hA p=>?_,λ_ _ _ _ _ p=>p.elim,λ_ _ _ _ _ p=>p.elim⟩
  ·unfold vs L2.start Iu
   rw[Av,Mh]
   rfl
  ·unfold Sl Iu
   rw[Av,Mh]
  ·rw[Ee]
   have hc:∀e∈(⟨some (.ref a),.scr ns,[]⟩::Iu (N.length - 1):List Ent),cells e=[]:=λe he=>by
    rcases Aj.mp he with rfl | he
    ·rfl
    ·rw[(Hi.mp he).2]
     rfl
   refine ⟨λe he=>?_,Oz λa ha b hb'=>⟨λhq c z=>?_,λhq c z=>?_⟩,λe he a ha=>?_,λb o _ e=>e,λb o e=>⟨o,e⟩,λb hb=>hb.elim⟩
   ·rcases Aj.mp he with rfl | he
    ·exact ⟨a,rfl,rfl,hK,h63⟩
    ·rw[(Hi.mp he).2]
     exact (rfl:([]:List Addr)=[])
   ·rw[hc a ha] at z; cases z
   ·rw[hc b hb'] at z; cases z
   ·rw[hc e he] at ha; cases ha
  ·obtain ⟨m,rfl⟩:=p
   rw[show S'++[(⟨some v,.dat m (.bool true),F'⟩ : Ent)]=S'++⟨some v,.dat m (.bool true),F'⟩::[] from rfl] at hA
   obtain ⟨rfl,_⟩:=(hA.told mem_mid).bl_inv
   exact k1 H'
end
def iF(i:Nat)(dl dh:DO):DE:=λδ P=>match δ.sl[i]? with
 | some (.scr ns)=>dl δ λl δ2=>dh δ2 λh δ3=>P (.dat .ow (.list ((Us ns l h).map An))) δ3
 | _=>False
section
variable{X:Cx}{e b:Expr}{de:DE}{lo hi:Option Expr}{dl dh:DO}{pos p2:Pos}{i:Nat}
theorem d0{K:PySem.W.Frag}{H0 H:Hp}{Y:Addr->Prop}{S T:List Ent}{δ:DS}{ns:List Int}(hS:Sl S δ)(hA:At K H0 Y δ.n (S++T) H)(hi:δ.sl[i]? = some (.scr ns)):∃a,(vs S)[i]? = some (some (.ref a))/\(⟨some (.ref a),.scr ns,[]⟩ : Ent)∈S/\KL K H a (ns.map V.int)/\ns.length<=63:=by
 obtain ⟨ent,e2,e3⟩:=Je hS hi
 have hm:ent∈S:=Au e2
 obtain ⟨u,x,F⟩:=ent
 have e3':x=.scr ns:=e3
 subst e3'
 obtain ⟨a,h1,h2,h3⟩:=hA.ok _ (Ay _ hm)
 have h1':u=some (.ref a):=h1
 have h2':F=[]:=h2
 subst h1' h2'
 exact ⟨a,by rw[Lw e2],hm,h3⟩
theorem pE(he:PE X e (Zw i))(hl:M6 X lo dl)(hh:M6 X hi dh):Fi X (.Subscript e (.Slice lo hi none p2) pos) (iF i dl dh):=by
 refine PE.imp (qT (r:=C2 X.K) xC he hl hh) λσ H Q h=>?_
 obtain ⟨H0,Y,S,T,δ,P,rfl,hS,hA,hd,k⟩:=h
 unfold iF at hd
 split at hd
 case h_2=>exact hd.elim
 rename_i ns hsl
 obtain ⟨a,ha,hm,hK,h63⟩:=d0 hS hA hsl
 have hA0:At X.K H0 Y δ.n (S++⟨some (.ref a),.scr ns,[]⟩::T) H:=(At.view1 hA (Ay _ hm)).tomid
 refine ⟨.ref a,ha,H0,Y,S,⟨some (.ref a),.scr ns,[]⟩::T,δ,_,rfl,hS,hA0,hd,λl δ2 S2 H2 e3 e4 hA2 p2=>?_⟩
 refine ⟨H0,Y,S2,⟨some (.ref a),.scr ns,[]⟩::T,δ2,_,e3,e4,hA2,p2,λh δ3 S3 H3 e5 e6 hA3 p3=>?_⟩
 obtain ⟨a',h1,_,hK3,_⟩:=hA3.ok _ mem_mid
 cases h1
 refine ⟨a,_,rfl,hK3.sq,λp hp=>?_⟩
 have : qF (ns.map V.int) l h=(Us ns l h).map V.int:=by
  rw[<- fV]; rfl
 rw[this]
 refine k _ δ3 _ _ S3 _ e5 e6 (hA3.drop.newI (RdFs.ints _) (Mi _) ?_ hp .ow) p3
 rw[Ab]
 have l1:=(pU ns l h).length_le
 exact sz (by omega)
end
def B7(i j:Int):Prop:=0<=j/\(Builtin.Int.intBits i:Int) * j<=2 ^ 27
theorem uI{X:Cx}:Vb X (Hl .Pow) (rI B7 λi j=>.int (i ^ j.toNat)):=J3 λ_ _ _ _ _ _ _ hc q=>pow_int hc.1 hc.2 q
def Yq:DF:=λds n R=>ds=[]/\n<=100000/\∀r:Int,R (.int r) (n+1)
theorem vQ{P:Bu}{w:World}{K:PySem.W.Frag}{mg:Str->Option Value}{base:Heap}{k:Nat}{f:Addr}{fd:Bz}{ps:List Str}(F:FnOk P w K mg base Gd k f fd ps sZ):FnOk P w K mg base Gd k f fd ps (dR K Yq):=by
 refine F.imp λus H Q E h=>?_
 obtain ⟨dr,ws,As,n,ds,R,rfl,eu,ok,nd,⟨c,kk,fl,hdr,h0,h1⟩,q,hp,k1⟩:=h
 obtain ⟨rfl,hn,hR⟩:=hp
 have hAs:As=[]:=by
  have:=Ij q
  rw[Ab] at this
  exact Os.mp this
 subst hAs
 have hws:ws=[]:=by
  cases ws with
  | nil=>rfl
  | cons _ _=>cases eu
 subst hws
 refine ⟨dr,c,kk,fl,rfl,hdr,h0,by omega,λr c' H' hd' s=>?_⟩
 exact k1 (.int r) (.int r) [] (n+1) H' (by omega) (hR r) (.int r) Ct (λ_ z=>(nomatch z)) ⟨c',kk+1,fl,hd',by omega,by omega⟩ s
theorem vC{K:PySem.W.Frag}{H:Hp}{a:Addr}{ns:List Int}(h:H a=some (.tup (ns.map V.int)))(l:ns.length<=1000000):RdF K H (.ref a) (Cn ns) []:=.tup h (by rw[Ab]; exact lI l) (RdFs.ints ns)
theorem tI{K:PySem.W.Frag}{H:Hp}{n:Nat}{As:List Ent}{us:List V}{d1:Ad}(eu:As.map Ent.v=us.map some)(ok:∀e∈As,Ip K H n e)(q:datas (As.map Ent.x)=some [d1]):∃v1 F1,us=[v1]/\RdF K H v1 d1 F1:=by
 have r:=Te eu q ok
 generalize As.flatMap Ent.F=G0 at r
 cases r with
 | cons a t =>
  cases t
  exact ⟨_,_,rfl,a⟩
def Kb{α:Type}(xs:List α)(k:Nat)(y:α):List α:=xs.take k++y::xs.drop k
def vV:V->List V->Hp->VK->Prop:=λx us H Q=>∃(l:Addr) (xs:List V) (k:Int) (y:V),x=.ref l/\us=[.int k,y]/\H l=some (.lst xs)/\xs.length<Aq/\0<=k/\k<=1000000/\Q .non (upd H l (.lst (Kb xs k.toNat y)))
theorem jO{k:Int}(h0:0<=k)(h1:k<=1000000):La k=true:=by
 unfold La
 simp
 omega
theorem mN{α:Type}(xs:List α)(k:Nat)(y:α):Kb xs (min k xs.length) y=Kb xs k y:=by
 unfold Kb
 by_cases h:k<=xs.length
 ·rw[Nat.min_eq_left h]
 ·rw[Nat.min_eq_right (by omega),Ft,List.drop_length,Dx (by omega),jX (by omega)]
theorem bD{α:Type}(xs:List α)(k:Nat)(y:α):(Kb xs k y).length=xs.length+1:=by
 unfold Kb
 rw[Cb,Bt,Cp,Ot]
 omega
section
variable{X:Cx}
theorem mT:Q4 X "list.insert" vV:=by
 intro pins s σ H x vs v us Q I rx rv h
 obtain ⟨l,xs,k,y,rfl,rfl,hH,hz,k0,k1,q⟩:=h
 cases rx
 obtain ⟨u1,u2,rfl,r1,r2⟩:=rv.two
 obtain ⟨t,rfl⟩:=r1
 obtain ⟨z,its,n,r,hl,e⟩:=I.lstM hH
 refine Sg F.slot_list_insert ⟨_,e,rfl⟩ F.entry_list_insert (F.args_list_insert_3 _ _ _)
  (AutoSeq1.list_insert_list_int_val_1 l its.toArray n k t u2 (by simp [jO k0 k1]) (by rw[Al]; omega)) ⟨e,?_⟩
 refine ⟨.non,_,I.lset (its':=Kb its k.toNat u2) hH e ?_ ?_ ?_,rfl,q⟩
 ·show (its.toArray.extract 0 (if k<0 then (k+(its.toArray.size:Int)).toNat else min k.toNat its.toArray.size)).push u2++its.toArray.extract (if k<0 then (k+(its.toArray.size:Int)).toNat else min k.toNat its.toArray.size)=(Kb its k.toNat u2).toArray
  rw[if_neg (by omega),Al,<- mN]
  unfold Kb
  simp
  exact Dx (by rw[Ot]; omega)
 ·exact (r.take _).append (.cons r2 (r.drop _))
 ·rw[bD]
  omega
end
def insB(i:Nat)(z y:DV)(δ:DS)(D:DEnds):Prop:=match δ.sl[i]?,z,y with
 | some (.dat m (.list ds)),.dat _ (.int k),.dat _ e=>own1 m=true/\npk δ.sl=true/\imm e=true/\Du ds=true/\ds.length<1000000/\0<=k/\k<=1000000/\D.nx ⟨δ.sl.set i (.dat m (.list (Kb ds k.toNat e))),δ.n⟩
 | _,_,_=>False
def cF(i:Nat)(dk de:DE):DB:=λD δ=>match δ.sl[i]? with
 | some (.dat _ (.list _))=>dk δ λz δ1=>de δ1 λy δ2=>insB i z y δ2 D
 | _=>False
theorem RdFs.takeI{K:PySem.W.Frag}{H:Hp}{xs:List V}{ds:List Ad}{F:List Addr}(h:RdFs K H xs ds F)(hi:Du ds=true)(k:Nat):RdFs K H (xs.take k) (ds.take k) []:=by
 induction k generalizing xs ds F with
 | zero=>exact .nil
 | succ k ih =>
  cases h with
  | nil=>exact .nil
  | cons a t =>
   rw[Du,Bv] at hi
   obtain rfl:=a.imm hi.1
   exact RdFs.cons (F:=[]) a (ih t hi.2)
theorem RdFs.dropI{K:PySem.W.Frag}{H:Hp}{xs:List V}{ds:List Ad}{F:List Addr}(h:RdFs K H xs ds F)(hi:Du ds=true)(k:Nat):RdFs K H (xs.drop k) (ds.drop k) []:=by
 induction k generalizing xs ds F with
 | zero=>rw[Rz,Rz]; exact (h.imm hi)▸h
 | succ k ih =>
  cases h with
  | nil=>exact .nil
  | cons a t =>
   rw[Du,Bv] at hi
   exact ih t hi.2
section
variable{X:Cx}{o e ke:Expr}{de dk:DE}{apos cpos pos:Pos}{i:Nat}
theorem mG(ho:PE X o (Zw i))(hk:Fi X ke dk)(he:Fi X e de)(hbase:Qr o "insert" X.env (eval o X.env)=eval o X.env:=by rfl)
  (hfew:((Gx cpos (Bo [ke,e] X.env)).all (λx=>!x.1) && (backToKw cpos (Vw [] X.env)).all (λx=>x.1.isSome)
   && decide (([ke,e]:List Expr).length+([]:List Px).length+(if ([]:List Px).isEmpty then 0 else 1)<30))=true:=by rfl)
  (hline:(apos.endLine == cpos.line)=true:=by rfl) (hs0:Bo [ke,e] X.env=(false,eval ke X.env)::Bo [e] X.env:=by rfl) (hs:Bo [e] X.env=(false,eval e X.env)::Bo [] X.env:=by rfl) (hplain:(Gx cpos (Bo [e] X.env)).any (·.1)=false:=by rfl)
  (hsw:Kv (.Call (.Attribute o "insert" apos) [ke,e] [] cpos) none pos.line X.env=pure false:=by rfl) :
  oM X (.Expr (.Call (.Attribute o "insert" apos) [ke,e] [] cpos) pos) (cF i dk de):=by
 refine PS.impD (kB (xT PySem.F.plainAttrs_list F.slot_list_insert F.type_list_insert mT ho (Fd hk (Fd he Hw hs) hs0) hbase hfew hline hs0 hplain) hsw) λD σ H h=>?_
 obtain ⟨H0,Y,S,T,δ,P,rfl,hS,hT,hA,hd,k1,k2,k3,k4⟩:=h
 unfold cF at hd
 split at hd
 case h_2=>exact hd.elim
 rename_i m0 ds0 hsl
 obtain ⟨ent,e2,e3⟩:=Je hS hsl
 have hm:ent∈S:=Au e2
 obtain ⟨u,x,F⟩:=ent
 have e3':x=.dat m0 (.list ds0):=e3
 subst e3'
 obtain ⟨v,hv,rd,_⟩:=hA.ok _ (Ay _ hm)
 obtain ⟨a,xs,G,rfl,ha,ra,eF,hz⟩:=rd.list_inv
 refine ⟨.ref a,by rw[Lw e2]; exact congrArg some hv,.inl ⟨rfl,xs,Kw.of ha⟩,H0,Y,S,T,δ,_,rfl,hS,hA,hd,λz δ1 w F1 S1 H1 e4 e5 hA1 p1=>?_⟩
 refine ⟨H0,Y,S1,⟨some w,z,F1⟩::T,δ1,_,e4,e5,hA1,p1,λy δ2 w2 F2 S2 H2 e6 e7 hA2 p2=>?_⟩
 unfold insB at p2
 split at p2
 ·rename_i m ds mz k my e' hsl2
  obtain ⟨q1,q2,q3,q4,q5,q6,q7,q8⟩:=p2
  obtain ⟨rfl,_⟩:=(hA2.told Er).int_inv
  have r:=hA2.told mem_mid
  obtain rfl:=r.imm q3
  obtain ⟨b,xs1,G1,g1,g2,g3,g4,g5⟩:=Rv (es:=Kb ds k.toNat e') e7 hT hA2.drop2 hsl2 q1 q2
  rw[e6,Lw e2] at g1
  have : some (V.ref b)=some (V.ref a):=(Bj g1).symm.trans hv
  cases this
  have hl:=g3.len
  obtain ⟨S3,h1,h2,h3⟩:=g5 (Kb xs1 k.toNat w2) [] ((g3.takeI q4 _).app (RdFs.cons (F:=[]) r (g3.dropI q4 _))) (List.nil_sublist _) (by rw[bD]; exact lI (by omega))
  refine ⟨a,xs1,k,w2,rfl,rfl,g2,Cc (by omega) (lI (n:=1000000) (Ai _)),q6,q7,?_⟩
  rw[<- e6,<- h1]
  exact k1 ⟨_,_⟩ S3 _ h2 h3 q8
 ·exact p2.elim
end
def xI(K:PySem.W.Frag):List V->Hp->VK->Prop:=λxs H Q=>∃(a:Addr) (ns:List Int),xs=[.ref a]/\(Kw K H a (ns.map V.int)\/Rr K H a (ns.map V.int))/\Q (.int ns.sum) H
section
variable{X:Cx}
theorem mL(hc:X.calm=true):Kc X (.builtin "sum") (xI X.K):=by
 intro pins s σ H xs us Q I r h
 obtain ⟨p,ns,rfl,hp,q⟩:=h
 obtain ⟨u,rfl,ru⟩:=vals1 r
 cases ru
 rcases hp with hp | hp
 ·obtain ⟨its,rv,pl,_⟩:=I.list hp
  obtain ⟨ps,rfl,rfl⟩:=Ls rv
  have hl:s.heap.IsList p (Lc ps.toArray):=by simpa [Lc] using pl.isList
  refine sum_intListG (I.ok.hd hc) hl λh' tk t' k=>?_
  rw[preSum_eq,Dx (by simp)]
  exact ⟨.int _,H,I.kept k,⟨t',rfl⟩,q⟩
 ·obtain ⟨its,rv,pl,_⟩:=I.tuple hp
  obtain ⟨ps,rfl,rfl⟩:=Ls rv
  obtain ⟨o,ho,hoc,m,hd⟩:=pl
  have hl:s.heap.IsTuple p (Lc ps.toArray):=⟨o,ho,hoc,m,by rw[hd]; simp [Lc]⟩
  refine PySem.W.ktm_sumG (I.ok.hd hc) hl λh' tk t' k=>?_
  rw[preSum_eq,Dx (by simp)]
  exact ⟨.int _,H,I.kept k,⟨t',rfl⟩,q⟩
end
def qZ:DC:=λxs P=>match xs with
 | [.dat _ (.list ds)]=>∃ns:List Int,ds=ns.map An/\P (.dat .ow (.int ns.sum))
 | [.dat _ (.tuple ds)]=>∃ns:List Int,ds=ns.map An/\P (.dat .ow (.int ns.sum))
 | _=>False
section
variable{K:PySem.W.Frag}
theorem zI:Mj K (xI K) qZ:=by
 intro H0 X n S T As us H Q P eu hA hd k
 unfold qZ at hd
 split at hd
 ·rename_i ex
  obtain ⟨v,F,rfl,hA⟩:=Fq eu hA ex
  obtain ⟨ns,rfl,h1⟩:=hd
  obtain ⟨a,xs,G,rfl,ha,ra,rfl,hz⟩:=(hA.told mem_mid).list_inv
  obtain ⟨rfl,_⟩:=ra.ints_inv
  exact ⟨a,ns,rfl,.inl (Kw.of ha),k _ _ [] H (hA.drop.pushI (.int _)) h1⟩
 ·rename_i ex
  obtain ⟨v,F,rfl,hA⟩:=Fq eu hA ex
  obtain ⟨ns,rfl,h1⟩:=hd
  obtain ⟨a,xs,rfl,ha,ra,hz⟩:=(hA.told mem_mid).tup_inv
  obtain ⟨rfl,_⟩:=ra.ints_inv
  exact ⟨a,ns,rfl,.inr (Rr.of ha),k _ _ [] H (hA.drop.pushI (.int _)) h1⟩
 ·exact hd.elim
end
end DL
namespace Nd
open PySem PySem.Spec PyProof.Rows L2
end Nd
namespace DL
open PySem PySem.Spec PyProof.Rows L2 Nd
end DL
namespace Nd
open PySem PySem.Spec PyProof.Rows
section
variable{prog:Bu}{w:World}{κ:Type}[DecidableEq κ](knd:HeapKind prog w κ)
def DictE(h:Heap)(d:Addr)(xs:List (κ×Addr×Value)):Prop :=
 ∃(o:Obj) (es:Array DictEntry) (ep:Nat),h.get? d=some o/\o.ExactDict/\o.data=.dict es ep/\es.toList=xs.map (Ze knd)/\(∀x∈xs,knd.is h x.1 x.2.1)/\(xs.map (·.1)).Nodup/\ep=es.size
variable{knd}
theorem DictE.of{h:Heap}{d:Addr}{xs:List (κ×Addr×Value)}(x:DictE knd h d xs):h.DictOfH knd d xs:=let ⟨o,es,ep,a,b,c,e,f,g,_⟩:=x; ⟨o,es,ep,a,b,c,e,f,g⟩
variable{A:Cq}{E:Value->Af->Prop}{s:Af}{d a:Addr}{xs:List (κ×Addr×Value)}{k:κ}{v:Value}
theorem nC{xs:List (κ×Addr×Value)}{k:κ}{a:Addr}{v:Value}(hn:(xs.map (·.1)).Nodup)(hk:k∉xs.map (·.1)):((xs++[(k,a,v)]).map (·.1)).Nodup:=by
 rw[Bm,List.nodup_append]
 refine ⟨hn,by simp,λx hx y hy e=>hk ?_⟩
 rw[Av,Mc,List.mem_singleton] at hy
 have hy:y=k:=hy
 rw[<- hy,<- e]
 exact hx
theorem rB{o:Obj}{es:Array DictEntry}{ep:Nat}{h:Heap}(ho:h.get? d=some o)(hc:o.ExactDict)(hd:o.data=.dict es ep)(he:es.toList=xs.map (Ze knd))(his:∀x∈xs,knd.is h x.1 x.2.1)(hn:(xs.map (·.1)).Nodup)(hep:ep=es.size)(hkey:knd.is h k a)(ha:atKey xs k=none)(hk:k∉xs.map (·.1)):DictE knd (h.update d (Obj.mapDictKeys λes=>es.push ⟨knd.hash k,.ref a,v⟩)) d (storedH xs k a v):=by
 rw[storedH_new ha]
 refine ⟨_,_,ep+1,Gg _ ho (Obj.isFreed_of_dict (Obj.data_mapDictKeys hd _)),hc.mapDictKeys _,Obj.data_mapDictKeys hd _,by simp [he,Ze],λx hx=>?_,nC hn hk,by rw[hep,Array.size_push]⟩
 rcases Bl.mp hx with z | z
 ·exact knd.keeps (his x z) ho hd (Cv ..)
 ·rw[Ah.mp z]
  exact knd.keeps hkey ho hd (Cv ..)
theorem gQ{Q:Unit->Af->Prop}(hu:knd.room A)(hkey:knd.is s.heap k a)(hm:DictE knd s.heap d xs)(q:∀h',DictE knd h' d (storedH xs k a v)->Jd d s.heap h'->Q () { s with heap:=h',toks:=s.toks+knd.draws k })(hz:xs.length<=Aq):wpAny (model prog w) A (dictSet d (.ref a) v) Q E s:=by
 obtain ⟨o,es,ep,ho,hc,hd,he,his,hn,hep⟩:=hm
 unfold dictSet
 try with_reducible refine Dh ?_
 refine Ac (knd.pyHash hu hkey ?_)
 unfold dictSetHashed
 try with_reducible refine Dh ?_
 refine Ac (wpAny_dictFind_heap (s:={ s with toks:=s.toks+knd.draws k }) hu hkey ho hd he his hn (λno=>?_) λj p hj=>?_)
 ·exact Ac (Oh (wpAny_updateDictKeys (hz:=by have e:=size_of_entries he; omega) (s:={ s with toks:=s.toks+knd.draws k }) ho hd (q _ (rB ho hc hd he his hn hep hkey (atKey_none_of_get no) (not_mem_keys_of_get no)) (Cv ..))))
 ·refine Ac (Oh (Ac (wpAny_updateDict (s:={ s with toks:=s.toks+knd.draws k }) ho hd (wpAny_point (q _ ?_ (Cv ..))))))
  rw[storedH_old (atKey_of_get hn hj)]
  refine ⟨_,_,ep,Gg _ ho (Obj.isFreed_of_dict (Obj.data_mapDict hd _)),hc.mapDict _,Obj.data_mapDict hd _,?_,λx hx=>?_,by rw[keys_map_putAt]; exact hn,by rw[hep]; simp⟩
  ·have e1:=modify_map_putAt (Ze knd) (λe:DictEntry=>{ e with val:=v }) k v (λ_ _=>rfl) hn hj
   rw[<- he] at e1
   obtain ⟨l⟩:=es
   simpa using e1
  ·obtain ⟨y,hy,rfl⟩:=Bg.mp hx
   unfold putAt
   split <;> exact knd.keeps (his y hy) ho hd (Cv ..)
theorem setItemE{Q:Unit->Af->Prop}(hu:knd.room A.in1)(hkey:knd.is s.heap k a)(hm:DictE knd s.heap d xs)(q:∀h',DictE knd h' d (storedH xs k a v)->Jd d s.heap h'->Q () { s with heap:=h',toks:=s.toks+knd.draws k })(hz:xs.length<=Aq):wpAny (model prog w) A (setItem (.ref d) (.ref a) v) Q E s:=by
 have tD:=hm.of.typeIs
 unfold setItem
 try with_reducible refine Dh ?_
 refine Ac (wpAny_sequenceKey tD (by decide) ?_)
 refine Ac (Rf (name:=Kr "__setitem__") tD slot_dict_setitem (Re slot_dict_setitem tD entry_dict_setitem ?_ (args_dict_setitem _ _ _)))
 show wpAny _ _ (bind (Builtin.Dict.notOrdered "__setitem__" ⟨[.ref d,.ref a,v],[]⟩) _) _ _ s
 refine Ac (wpAny_notOrdered_dict tD ?_)
 show wpAny _ _ (bind (dictSet d (.ref a) v) _) _ _ s
 exact Ac (gQ hu hkey hm (λh' a b=>Bb ⟨.none,rfl,Bb (q h' a b)⟩) hz)
end
end Nd
namespace L2
open PySem PySem.Spec PyProof.Rows
section
variable{κ:Type}[DecidableEq κ]
def Vd(kvs:List (κ×V))(k:κ):Option V:=(kvs.find? λkv=>decide (kv.1=k)).map (·.2)
def Mv(kvs:List (κ×V))(k:κ)(v:V):List (κ×V) :=
 if (kvs.any λkv=>decide (kv.1=k))=true then kvs.map (λkv=>if kv.1=k then (kv.1,v) else kv) else kvs++[(k,v)]
theorem To{p:κ×V}{r:List (κ×V)}{k:κ}(e:p.1=k):Vd (p::r) k=some p.2:=by simp [Vd,Ho,e]
theorem Tp{p:κ×V}{r:List (κ×V)}{k:κ}(e:¬ p.1=k):Vd (p::r) k=Vd r k:=by simp [Vd,Ho,e]
theorem gD(k:κ):∀kvs:List (κ×V),(kvs.any λkv=>decide (kv.1=k))=(Vd kvs k).isSome
 | []=>rfl
 | p::r=>by
  rw[Le]
  by_cases e:p.1=k
  ·simp only[To e,decide_eq_true e,Bool.true_or,Option.isSome_some]
  ·rw[Tp e,decide_eq_false e,Bool.false_or]; exact gD k r
theorem Pn(kvs:List (κ×V))(k:κ)(v:V):(Mv kvs k v).length<=kvs.length+1:=by
 unfold Mv
 split
 ·rw[Ab]; omega
 ·rw[Cb,Bt,Jn]; omega
theorem oB.isSome_eq{o:Option V}{u:Option Value}(r:oB o u):o.isSome=u.isSome:=by
 cases o with
 | none=>cases u with
  | none=>rfl
  | some _=>exact (show False from r).elim
 | some _=>cases u with
  | none=>exact (show False from r).elim
  | some _=>rfl
theorem KV.val{kvs:List (κ×V)}{vs:List (κ×Value)}(r:KV kvs vs)(k:κ):oB (Vd kvs k) (valueAt vs k):=by
 unfold KV at r
 induction r with
 | nil=>exact Vi
 | @cons p q ps qs h t ih =>
  obtain ⟨h1,h2⟩:=h
  by_cases e:p.1=k
  ·have e':q.1=k:=h1.symm.trans e
   have b:valueAt (q::qs) k=some q.2:=by simp [valueAt,Ho,e']
   rw[To e,b]; exact h2
  ·have e':¬ q.1=k:=λz=>e (h1.trans z)
   have b:valueAt (q::qs) k=valueAt qs k:=by simp [valueAt,Ho,e']
   rw[Tp e,b]; exact ih
theorem KV.any{kvs:List (κ×V)}{vs:List (κ×Value)}(r:KV kvs vs)(k:κ):(kvs.any λkv=>decide (kv.1=k))=vs.any λkv=>decide (kv.1=k):=by
 unfold KV at r
 induction r with
 | nil=>rfl
 | cons h t ih=>rw[Le,Le,ih,h.1]
theorem KV.repl{kvs:List (κ×V)}{vs:List (κ×Value)}(r:KV kvs vs)(k:κ){y:V}{u:Value}(ry:RelV y u):KV (kvs.map λkv=>if kv.1=k then (kv.1,y) else kv) (vs.map λkv=>if kv.1=k then (kv.1,u) else kv):=by
 unfold KV at r ⊢
 induction r with
 | nil=>exact .nil
 | @cons p q ps qs h t ih =>
  rw[Av,Av]
  refine .cons ?_ ih
  obtain ⟨h1,h2⟩:=h
  by_cases e:p.1=k
  ·rw[if_pos e,if_pos (h1.symm.trans e)]; exact ⟨h1,ry⟩
  ·rw[if_neg e,if_neg (λz=>e (h1.trans z))]; exact ⟨h1,h2⟩
theorem KV.put{kvs:List (κ×V)}{vs:List (κ×Value)}(r:KV kvs vs)(k:κ){y:V}{u:Value}(ry:RelV y u):KV (Mv kvs k y) (stored vs k u):=by
 unfold Mv stored
 rw[r.any k]
 by_cases e:(vs.any λkv=>decide (kv.1=k))=true
 ·rw[if_pos e,if_pos e]; exact r.repl k ry
 ·rw[if_neg e,if_neg e]; exact Paired.snoc r ⟨rfl,ry⟩
theorem KV.length{kvs:List (κ×V)}{vs:List (κ×Value)}(r:KV kvs vs):kvs.length=vs.length:=Paired.length r
end
theorem tJ{P:Bu}{w:World}{k:Iy}{u:Value}(r:RelV (kV k) u):(Hd P w).is k u=true:=by
 cases k with
 | inl i=>obtain ⟨t,e⟩:=(show ∃t,u=Rx i t from r); subst e; exact gJ P w i t
 | inr x=>obtain ⟨t,e⟩:=(show ∃t,u=Value.str x t from r); subst e; exact fZ P w x t
theorem aY{P:Bu}{w:World}:∀{ks:List Iy} {us:List Value},Ep (ks.map kV) us->ItemsAre (Hd P w) ks us
 | [],_,r=>by rw[Mc] at r; cases r; exact .nil
 | k::ks,_,r=>by
  rw[Av] at r
  cases r with
  | cons h t=>exact .cons (tJ h) (aY t)
abbrev KT(H:Hp):List (List Iy×V)->List (List Iy×Addr×Value)->Prop:=Paired λp q=>p.1=q.1/\H q.2.1=some (.tup (p.1.map kV))/\RelV p.2 q.2.2
theorem KT.val{H:Hp}{kvs:List (List Iy×V)}{xs:List (List Iy×Addr×Value)}(r:KT H kvs xs)(k:List Iy):oB (Vd kvs k) ((atKey xs k).map (·.2)):=by
 induction r with
 | nil=>exact Vi
 | @cons p q ps qs h t ih =>
  obtain ⟨h1,_,h2⟩:=h
  by_cases e:p.1=k
  ·have e':q.1=k:=h1.symm.trans e
   have b:atKey (q::qs) k=some q.2:=by simp [atKey,Ho,e']
   rw[To e,b]; exact h2
  ·have e':¬ q.1=k:=λz=>e (h1.trans z)
   have b:atKey (q::qs) k=atKey qs k:=by simp [atKey,Ho,e']
   rw[Tp e,b]; exact ih
theorem KT.repl{H:Hp}{kvs:List (List Iy×V)}{xs:List (List Iy×Addr×Value)}(r:KT H kvs xs)(k:List Iy){y:V}{u:Value}(ry:RelV y u):KT H (kvs.map λkv=>if kv.1=k then (kv.1,y) else kv) (xs.map (putAt k u)):=by
 induction r with
 | nil=>exact .nil
 | @cons p q ps qs h t ih =>
  rw[Av,Av]
  refine .cons ?_ ih
  obtain ⟨h1,h2,h3⟩:=h
  unfold putAt
  by_cases e:p.1=k
  ·rw[if_pos e,if_pos (h1.symm.trans e)]; exact ⟨h1,h2,ry⟩
  ·rw[if_neg e,if_neg (λz=>e (h1.trans z))]; exact ⟨h1,h2,h3⟩
theorem KT.put{H:Hp}{kvs:List (List Iy×V)}{xs:List (List Iy×Addr×Value)}(r:KT H kvs xs)(k:List Iy){b:Addr}{y:V}{u:Value}(hb:H b=some (.tup (k.map kV)))(ry:RelV y u):KT H (Mv kvs k y) (storedH xs k b u):=by
 have e:(kvs.any λkv=>decide (kv.1=k))=(atKey xs k).isSome:=by
  rw[gD,(r.val k).isSome_eq,Option.isSome_map]
 unfold Mv storedH
 rw[e]
 by_cases q:(atKey xs k).isSome=true
 ·rw[if_pos q,if_pos q]; exact r.repl k ry
 ·rw[if_neg q,if_neg q]; exact Paired.snoc r ⟨rfl,hb,ry⟩
theorem KT.keeps{H H':Hp}{kvs:List (List Iy×V)}{xs:List (List Iy×Addr×Value)}(r:KT H kvs xs)(ht:∀b ys,H b=some (.tup ys)->H' b=some (.tup ys)):KT H' kvs xs :=
 Paired.mapP r λ_ _ z=>⟨z.1,ht _ _ z.2.1,z.2.2⟩
section
variable{P:Bu}{w:World}{H:Hp}{h:Heap}{a:Addr}
theorem rY{u:HO}(ok:Uh P w H h)(e:Rd H a u):Il P w H h a u:=e.ok ok
theorem sR{kvs:List (Iy×V)}(ok:Uh P w H h)(e:Rd H a (.dK kvs)):kvs.length<=Aq/\(a == Jl)=false/\∃vs,KV kvs vs/\h.DictOf (Hd P w) a vs :=
 show Il P w H h a (.dK kvs) from rY ok e
theorem F7{kvs:List (Iy×V)}(ok:Uh P w H h)(e:H a=some (.dK kvs)):kvs.length<=Aq/\(a == Jl)=false/\∃vs,KV kvs vs/\h.DictOf (Hd P w) a vs:=sR ok (.inl e)
theorem Yk{ks:List Iy}(ok:Uh P w H h)(e:H a=some (.tup (ks.map kV))):(Rg (Hd P w)).is h ks a:=by
 obtain ⟨_,its,r,o,h1,h2,n,h3⟩:=(show Il P w H h a (.tup (ks.map kV)) from ok a _ e)
 exact ⟨o,its.toArray,n,h1,h2,h3,by simpa using aY r⟩
theorem yO{kvs:List (List Iy×V)}(ok:Uh P w H h)(e:Rd H a (.dT kvs)):kvs.length<=Aq/\(a == Jl)=false/\∃xs,KT H kvs xs/\h.DictOfH (Rg (Hd P w)) a xs:=by
 obtain ⟨z,y,xs,r,o,es,ep,h1,h2,h3,h4,h5,h6⟩:=(show Il P w H h a (.dT kvs) from rY ok e)
 refine ⟨z,y,xs,r,o,es,ep,h1,h2,h3,h4,λx hx=>?_,h5⟩
 have all:∀{l:List (List Iy×V)} {m:List (List Iy×Addr×Value)},KT H l m->∀x∈m,(Rg (Hd P w)).is h x.1 x.2.1:=by
  intro l m q
  induction q with
  | nil=>intro x hx; exact nomatch hx
  | @cons p q ps qs hq t ih =>
   intro x hx
   rcases Aj.mp hx with e | hx
   ·subst e
    exact Yk ok (by rw[<- hq.1]; exact hq.2.1)
   ·exact ih x hx
 exact all r x hx
theorem pN{kvs:List (List Iy×V)}(ok:Uh P w H h)(e:Rd H a (.dT kvs)):kvs.length<=Aq/\(a == Jl)=false/\∃xs,KT H kvs xs/\Nd.DictE (Rg (Hd P w)) h a xs:=by
 obtain ⟨z,y,xs,r,o,es,ep,h1,h2,h3,h4,h5,h6⟩:=(show Il P w H h a (.dT kvs) from rY ok e)
 refine ⟨z,y,xs,r,o,es,ep,h1,h2,h3,h4,λx hx=>?_,h5,h6⟩
 have all:∀{l:List (List Iy×V)} {m:List (List Iy×Addr×Value)},KT H l m->∀x∈m,(Rg (Hd P w)).is h x.1 x.2.1:=by
  intro l m q
  induction q with
  | nil=>intro x hx; exact nomatch hx
  | @cons p q ps qs hq t ih =>
   intro x hx
   rcases Aj.mp hx with e | hx
   ·subst e
    exact Yk ok (by rw[<- hq.1]; exact hq.2.1)
   ·exact ih x hx
 exact all r x hx
end
def tT(H:Hp)(a:Addr)(y:V)(r:Option V):Prop :=
 (∃kvs k,Rd H a (.dK kvs)/\y=kV k/\r=Vd kvs k)\/∃kvs k b,Rd H a (.dT kvs)/\y=.ref b/\H b=some (.tup (k.map kV))/\r=Vd kvs k
def zQ(H:Hp)(a:Addr)(y v:V)(H':Hp):Prop :=
 (∃kvs k,H a=some (.dK kvs)/\y=kV k/\kvs.length<Aq/\H'=upd H a (.dK (Mv kvs k v))) \/
 ∃kvs k b,H a=some (.dT kvs)/\y=.ref b/\H b=some (.tup (k.map kV))/\kvs.length<Aq/\H'=upd H a (.dT (Mv kvs k v))
theorem tT.t{H:Hp}{a b:Addr}{kvs:List (List Iy×V)}{k:List Iy}(e:H a=some (.dT kvs))(eb:H b=some (.tup (k.map kV))):tT H a (.ref b) (Vd kvs k):=.inr ⟨kvs,k,b,.inl e,rfl,eb,rfl⟩
theorem zQ.t{H:Hp}{a b:Addr}{kvs:List (List Iy×V)}{k:List Iy}{v:V}(e:H a=some (.dT kvs))(eb:H b=some (.tup (k.map kV)))(hl:kvs.length<Aq):zQ H a (.ref b) v (upd H a (.dT (Mv kvs k v))):=.inr ⟨kvs,k,b,e,rfl,eb,hl,rfl⟩
section
variable{X:Cx}{pins:List (Addr×Obj)}{σ:St}{H:Hp}{s:Af}{a:Addr}{y v:V}{u r:Value}{o:Option V}{A:Cq}{E:Value->Af->Prop}
theorem Inv.big(I:Inv X pins σ H s):Jl<s.heap.objs.size:=by
 have h:Ce<s.heap.objs.size:=(I.mod.glob.keeps I.bk).lt
 exact Nat.lt_trans (by decide) h
theorem mU{Q:Value->Af->Prop}(hu:A.units+1<cLine)(I:Inv X pins σ H s)(g:tT H a y (some v))(ry:RelV y u)(h:∀w' s',Inv X pins σ H s'->RelV v w'->Q w' s'):wpAny (model X.prog X.w) A (getItem (.ref a) u) Q E s:=by
 rcases g with ⟨kvs,k,e,ey,l⟩ | ⟨kvs,k,b,e,ey,eb,l⟩
 ·subst ey
  obtain ⟨z,hd,vs,rel,dd⟩:=sR I.hok e
  obtain ⟨w',hw,rw'⟩:=oB.some_of (v:=v) (o:=valueAt vs k) (by rw[l]; exact rel.val k)
  exact wpAny_getItem_of (tJ ry) dd.mapOf hw (h w' _ (I.tok _) rw')
 ·subst ey
  cases (show u=Bf b from ry)
  obtain ⟨z,hd,xs,rel,dd⟩:=yO I.hok e
  obtain ⟨w',hw,rw'⟩:=oB.some_of (v:=v) (o:=(atKey xs k).map (·.2)) (by rw[l]; exact rel.val k)
  obtain ⟨p,hp,hp2⟩:=Option.map_eq_some_iff.mp hw
  refine wpAny_getItem_heap (tupleKind_room_in1 hu) (Yk I.hok eb) dd hp ?_
  rw[hp2]
  exact h w' _ (I.tok _) rw'
theorem cB{h':Heap}{t':Nat}{ob:HO}(I:Inv X pins σ H s)(mu:J0 (H a))(hs:Jd a s.heap h')(he:∃q,h'.get? a=some q)(new:Il X.prog X.w (upd H a ob) h' a ob):Inv X pins σ (upd H a ob) { s with heap:=h',toks:=t' } :=
 I.write (x:=a) (e:=a) mu (.inl rfl) (λb q hb z=>(hs.2 b hb).trans z) he new
theorem x3{P:Bu}{w:World}{H':Hp}{h':Heap}{kvs:List (Iy×V)}{vs:List (Iy×Value)}(z:kvs.length<=Aq)(hd:(a == Jl)=false)(rel:KV kvs vs)(dd:h'.DictOf (Hd P w) a vs):Il P w H' h' a (.dK kvs):=⟨z,hd,vs,rel,dd⟩
theorem oA{H':Hp}{Q:Unit->Af->Prop}(hu:A.units+1<cLine)(I:Inv X pins σ H s)(g:zQ H a y v H')(ry:RelV y u)(rv:RelV v r)(h:∀s',Inv X pins σ H' s'->Q () s'):wpAny (model X.prog X.w) A (setItem (.ref a) u r) Q E s:=by
 rcases g with ⟨kvs,k,e,ey,l,eH⟩ | ⟨kvs,k,b,e,ey,eb,l,eH⟩
 ·subst ey eH
  obtain ⟨z,hd,vs,rel,dd⟩:=F7 I.hok e
  have hz:vs.length<=Aq:=by rw[<- rel.length]; exact z
  have hl:(Mv kvs k v).length<=Aq:=by have:=Pn kvs k v; omega
  refine wpAny_setItem_pairs (hsz:=hz) (tJ ry) dd λh' dd' hs=>h _ ?_
  have he:∃q,h'.get? a=some q:=let ⟨q,_,_,hq,_⟩:=dd'; ⟨q,hq⟩
  exact cB I (by rw[e]; exact Vi) hs he (x3 hl hd (rel.put k rv) dd')
 ·subst ey eH
  cases (show u=Bf b from ry)
  obtain ⟨z,hd,xs,rel,dd⟩:=pN I.hok (.inl e)
  have hz:xs.length<=Aq:=by rw[<- Paired.length rel]; exact z
  have hl:(Mv kvs k v).length<=Aq:=by have:=Pn kvs k v; omega
  refine Nd.setItemE (hz:=hz) (tupleKind_room_in1 hu) (Yk I.hok eb) dd λh' dd' hs=>h _ ?_
  obtain ⟨q,es,ep,hq,h2,h3,h4,_,h5⟩:=dd'
  refine cB I (by rw[e]; exact Vi) hs ⟨q,hq⟩ ⟨hl,hd,_,(rel.put k eb rv).keeps λc ys ec=>?_,q,es,ep,hq,h2,h3,h4,h5⟩
  rw[Co (lP ec e (λz=>nomatch z))]
  exact ec
end
def u4(i:Expr):Prop:=∀ov iv,subscripted i false ov iv=operate [ov,iv] (getItem ov iv)
theorem uO{prog:Bu}{w:World}{A:Cq}{E:Value->Af->Prop}{s:Af}{env:Env}{value slice:Expr}{pos:Pos}{T id:String}{Q:Value->Af->Prop}(hl:typeLookup (.type T) "__getitem__" = pure (some (.builtin id)))(hs:u4 slice)(h:wpAny (model prog w) A (eval value env) (λo s₁=>wpAny (model prog w) A (eval slice env) (λi s₂=>s₂.TypeIs o T/\wpAny (model prog w) A (getItem o i) Q E s₂) E s₁) E s):wpAny (model prog w) A (eval (.Subscript value slice pos) env) Q E s:=by
 refine Subscript_ (En h (λo s₁ h₁=>En h₁ (λi s₂ h₂=>?_) λ_ _ x=>x) λ_ _ x=>x)
 obtain ⟨hT,h₂⟩:=h₂
 unfold subscriptTail
 refine Ac ?_
 rw[getitemInPython_of_ne hT.not_modules]
 refine Ac (wpAny_specialOf hT hl ?_)
 have fin:wpAny (model prog w) A (subscripted slice false o i) (λr s₃=>wpAny (model prog w) A (letTemporaryGo value o r >>= λ_=>pure r) Q E s₃) E s₂:=by
  rw[hs o i]
  exact wpAny_operating (En h₂ (λr s₃ h₃=>Ac (wpAny_letTemporaryGo (Bb h₃))) λ_ _ x=>x)
 first
  | exact Bb (Ac fin)
  | exact Ac (Bb (Ac fin))
  | exact Ac fin
theorem eD{X:Cx}{pins:List (Addr×Obj)}{σ:St}{H:Hp}{s:Af}{a:Addr}{y:V}{o:Option V}(I:Inv X pins σ H s)(g:tT H a y o):s.TypeIs (.ref a) "dict" := by
 rcases g with ⟨kvs,k,e,_,_⟩ | ⟨kvs,k,b,e,_,_,_⟩
 ·obtain ⟨_,_,vs,_,dd⟩:=sR I.hok e
  exact dd.typeIs
 ·obtain ⟨_,_,xs,_,dd⟩:=yO I.hok e
  exact dd.typeIs
def D0(td ty:TE):TE:=λσ H Q=>td σ H λx H1=>ty σ H1 λy H2=>∃a v,x=.ref a/\tT H2 a y (some v)/\Q v H2
def F4(td ty tv:TE):TS:=λD σ H=>tv σ H λv H1=>td σ H1 λx H2=>ty σ H2 λy H3=>∃a H4,x=.ref a/\zQ H3 a y v H4/\D.nx σ H4
section
variable{X:Cx}{o i e value:Expr}{pos pos' tpos:Pos}{td ty tv:TE}
theorem uG(hu:X.A.units+1<cLine)(ho:PE X o td)(hi:PE X i ty)(hs:u4 i):PE X (.Subscript o i pos) (D0 td ty):=by
 intro pins s σ H Q I h
 refine uO PySem.F.slot_dict_getitem.lookup hs (Gk (ho pins s σ H _ I h) λu s1 ⟨x,H1,I1,rx,q1⟩=>Gk (hi pins s1 σ H1 _ I1 q1) λiv s2 q0_ => ?_)
 obtain ⟨y,H2,I2,ry,a,v,ex,g,q2⟩ := q0_
 subst ex
 obtain rfl:u=Bf a:=rx
 exact ⟨eD I2 g,mU hu I2 g ry λw' s3 I3 rw'=>⟨v,H2,I3,rw',q2⟩⟩
theorem wF(hu:X.A.units+1<cLine)(ho:PE X o td)(hi:PE X i ty)(hv:PE X value tv)(hs:Kv value (some (.Subscript o i pos')) pos.line X.env=pure false):PS X (.Assign [.Subscript o i pos'] value pos) (F4 td ty tv):=by
 intro pins s σ H D I h
 refine wpAny_Assign_Subscript (Gk (hv pins s σ H _ I h) λr s1 ⟨v,H1,I1,rv,q1⟩=>Gk (ho pins s1 σ H1 _ I1 q1) λu s2 ⟨x,H2,I2,rx,q2⟩=>Gk (hi pins s2 σ H2 _ I2 q2) λiv s3 ⟨y,H3,I3,ry,a,H4,ex,g,q3⟩=>?_) hs
 subst ex
 obtain rfl:u=Bf a:=rx
 exact oA hu I3 g ry rv λs4 I4=>⟨σ,H4,I4,q3⟩
end
theorem fI{P:Bu}{w:World}{H:Hp}(h:Heap)(hb:Jl<h.objs.size):Il P w H (h.push { cls:=.type "dict",data:=.dict #[] }) h.objs.size (.dT []) :=
 ⟨Dj _,beq_eq_false_iff_ne.mpr (Ln (Cf hb)),[],.nil,_,#[],0,Bi _ rfl,⟨rfl,rfl,rfl⟩,rfl,rfl,Ct,rfl⟩
def zJ:TE:=λ_ H Q=>∀p,H p=none->Q (.ref p) (upd H p (.dT []))
section
variable{X:Cx}{pos:Pos}
theorem rN:PE X (.Dict [] [] pos) zJ:=λpins s σ H Q I h =>
 wpAny_Dict_empty ⟨.ref s.heap.objs.size,_,I.laid (a:=s.heap.objs.size) (o:=.dT []) (t':=s.toks) (λ_ _ q=>Ae _ q) (Ai _) (fI s.heap I.big),rfl,h _ (I.hok.fresh (Ai _))⟩
end
structure M1(X:Cx)(o:Expr)(m:Str)(apos:Pos)(e:Expr)(cpos:Pos):Prop where
 base:Qr o m X.env (eval o X.env)=eval o X.env
 few:((Gx cpos (Bo [e] X.env)).all (λx=>!x.1) && (backToKw cpos (Vw [] X.env)).all (λx=>x.1.isSome)
  && decide (([e]:List Expr).length+([]:List Px).length+(if ([]:List Px).isEmpty then 0 else 1)<30))=true
 line:(apos.endLine == cpos.line)=true
 trees:Gx cpos (Bo [e] X.env)=[(false,eval e X.env)]
structure M2(X:Cx)(o:Expr)(m:Str)(apos:Pos)(e f:Expr)(cpos:Pos):Prop where
 base:Qr o m X.env (eval o X.env)=eval o X.env
 few:((Gx cpos (Bo [e,f] X.env)).all (λx=>!x.1) && (backToKw cpos (Vw [] X.env)).all (λx=>x.1.isSome)
  && decide (([e,f]:List Expr).length+([]:List Px).length+(if ([]:List Px).isEmpty then 0 else 1)<30))=true
 line:(apos.endLine == cpos.line)=true
 trees:Gx cpos (Bo [e,f] X.env)=[(false,eval e X.env),(false,eval f X.env)]
end L2
namespace Nd
open PySem PySem.Spec PyProof.Rows L2
end Nd
namespace DL
open PySem PySem.Spec PyProof.Rows L2 Nd
def Td(ks:List (List Int×Ad))(w:List Int):Option Ad:=(ks.find? λp=>decide (p.1=w)).map (·.2)
def Pc(ks:List (List Int×Ad))(w:List Int)(d:Ad):List (List Int×Ad) :=
 if (ks.any λp=>decide (p.1=w))=true then ks.map (λp=>if p.1=w then (p.1,d) else p) else ks++[(w,d)]
theorem Tc{α β:Type}{f:α->β}(hf:∀a b,f a=f b->a=b):∀{l m:List α},l.map f=m.map f->l=m
 | [],[],_=>rfl
 | [],_::_,h=>by cases h
 | _::_,[],h=>by cases h
 | a::l,b::m,h=>by
  obtain ⟨h1,h2⟩:=Ei h
  rw[hf a b h1,Tc hf h2]
theorem Pe{a b:List Int}(h:Cn a=Cn b):a=b:=Tc (λx y e=>by cases e; rfl) (PyData.tuple.inj h)
theorem Wr{a b:List (List Int×Ad)}(h:Ua a=Ua b):a=b:=Tc (λx y e=>by
 obtain ⟨e1,e2⟩:=Prod.mk.inj e
 exact Prod.ext (Pe e1) e2) (Ei h).2
theorem Xq{a b:List Int}(h:Jy a=Jy b):a=b:=Tc (λx y e=>by cases e; rfl) h
theorem kX(w:List Int):(Jy w).map kV=w.map V.int:=by
 unfold Jy
 rw[Br]
 rfl
section
variable{K:PySem.W.Frag}{H H':Hp}
structure DRel(K:PySem.W.Frag)(H:Hp)(kv:List (List Iy×V))(ks:List (List Int×Ad)):Prop where
 key:kv.map (·.1)=ks.map λp=>Jy p.1
 val:RdFs K H (kv.map (·.2)) (ks.map (·.2)) []
theorem RdF.dict_inv{v:V}{X:List (Ad×Ad)}{F:List Addr}(h:RdF K H v (.dict X) F)(hX:uW X=true:=by first | rfl | assumption):∃a kv ks,v=.ref a/\X=Ua ks/\H a=some (.dT kv)/\DRel K H kv ks/\F=[a]:=by
 cases h with
 | dic h e hs=>exact ⟨_,_,_,rfl,rfl,h,⟨e,hs⟩,rfl⟩
 | dik h e hs=>cases hX
 | dnm h e hs=>cases hX
theorem RdFs.cons_nil{x:V}{d:Ad}{xs:List V}{ds:List Ad}{F:List Addr}(h:RdFs K H (x::xs) (d::ds) F)(hF:F=[]):RdF K H x d []/\RdFs K H xs ds []:=by
 cases h with
 | cons a t =>
  obtain ⟨rfl,rfl⟩:=Pw.mp hF
  exact ⟨a,t⟩
theorem fF{kv:List (List Iy×V)}{ks:List (List Int×Ad)}(r:DRel K H kv ks):kv.length=ks.length:=by
 have:=congrArg Gr r.key
 simpa using this
theorem fA(w:List Int):∀{kv:List (List Iy×V)} {ks:List (List Int×Ad)},DRel K H kv ks->(Vd kv (Jy w)=none/\Td ks w=none)\/∃v d,Vd kv (Jy w)=some v/\Td ks w=some d/\RdF K H v d []
 | [],[],_=>.inl ⟨rfl,rfl⟩
 | [],_::_,r=>by cases r.key
 | _::_,[],r=>by cases r.key
 | (k,v)::kv,(u,d)::ks,r=>by
  obtain ⟨e1,e2⟩:=Ei r.key
  have e1:k=Jy u:=e1
  obtain ⟨r1,r2⟩:=RdFs.cons_nil r.val rfl
  by_cases h:u=w
  ·subst h e1
   refine .inr ⟨v,d,To rfl,by simp [Td],r1⟩
  ·have hk:¬ k=Jy w:=λz=>h (Xq (e1.symm.trans z))
   rw[Tp hk,show Td ((u,d)::ks) w=Td ks w by simp [Td,h]]
   exact fA w ⟨e2,r2⟩
theorem qO(w:List Int){kv:List (List Iy×V)}{ks:List (List Int×Ad)}(r:DRel K H kv ks):(kv.any λp=>decide (p.1=Jy w))=(ks.any λp=>decide (p.1=w)):=by
 have h1:(kv.any λp=>decide (p.1=Jy w))=((kv.map (·.1)).any λk=>decide (k=Jy w)):=by rw[List.any_map]; rfl
 rw[h1,r.key,List.any_map]
 congr 1
 funext p
 exact decide_eq_decide.mpr ⟨λz=>Xq z,λz=>by show Jy p.1=Jy w; rw[z]⟩
theorem aC(w:List Int){v:V}{d:Ad}(rv:RdF K H v d []):∀{kv:List (List Iy×V)} {ks:List (List Int×Ad)},DRel K H kv ks->DRel K H (kv.map λp=>if p.1=Jy w then (p.1,v) else p) (ks.map λp=>if p.1=w then (p.1,d) else p)
 | [],[],r=>r
 | [],_::_,r=>by cases r.key
 | _::_,[],r=>by cases r.key
 | (k,v')::kv,(u,d')::ks,r=>by
  obtain ⟨e1,e2⟩:=Ei r.key
  have e1:k=Jy u:=e1
  obtain ⟨r1,r2⟩:=RdFs.cons_nil r.val rfl
  have ih:=aC w rv (kv:=kv) (ks:=ks) ⟨e2,r2⟩
  rw[Av,Av]
  by_cases h:u=w
  ·rw[if_pos (show k=Jy w by rw[e1,h]),if_pos h]
   exact ⟨by rw[Av,Av,ih.key]; exact congrArg (·::_) e1,RdFs.cons (F:=[]) (G:=[]) rv ih.val⟩
  ·have hk:¬ k=Jy w:=λz=>h (Xq (e1.symm.trans z))
   rw[if_neg (show ¬ (k,v').1=Jy w from hk),if_neg (show ¬ (u,d').1=w from h)]
   exact ⟨by rw[Av,Av,ih.key]; exact congrArg (·::_) e1,RdFs.cons (F:=[]) (G:=[]) r1 ih.val⟩
theorem eG(w:List Int){v:V}{d:Ad}(rv:RdF K H v d []){kv:List (List Iy×V)}{ks:List (List Int×Ad)}(r:DRel K H kv ks):DRel K H (Mv kv (Jy w) v) (Pc ks w d):=by
 unfold Mv Pc
 rw[qO w r]
 split
 ·exact aC w rv r
 ·refine ⟨by rw[Bm,Bm,r.key]; rfl,?_⟩
  rw[Bm,Bm]
  exact r.val.snoc rv
theorem DRel.kp{kv:List (List Iy×V)}{ks:List (List Int×Ad)}(r:DRel K H kv ks)(k:Kp [] H H'):DRel K H' kv ks:=⟨r.key,r.val.kp k⟩
end
def L5:R2:=λx y H Q=>∃a v,x=.ref a/\tT H a y (some v)/\Q v H
def dG:D2:=λx y P=>match x,y with
 | .dat _ (.dict X),.dat _ k=>∃ks w d,X=Ua ks/\k=Cn w/\Td ks w=some d/\P (.dat .ow d)
 | _,_=>False
section
variable{K:PySem.W.Frag}
theorem Wn{H:Hp}{v:V}{w:List Int}{F:List Addr}(r:RdF K H v (Cn w) F):∃b,v=.ref b/\H b=some (.tup ((Jy w).map kV)):=by
 obtain ⟨b,xs,rfl,hb,rb,_⟩:=r.tup_inv
 obtain ⟨rfl,_⟩:=rb.ints_inv
 exact ⟨b,rfl,by rw[kX]; exact hb⟩
theorem uZ:jY K L5 dG:=by
 intro H0 X n S T x y v w F G H Q P hA hd k
 unfold dG at hd
 split at hd
 ·obtain ⟨ks,u,d,rfl,rfl,hg,p⟩:=hd
  obtain ⟨b,rfl,hb⟩:=Wn (hA.told mem_mid)
  obtain ⟨a,kv,ks',rfl,ek,ha,rel,_⟩:=(hA.told Er).dict_inv
  obtain rfl:=Wr ek
  rcases fA u rel with ⟨_,z⟩ | ⟨v',d',h1,h2,h3⟩
  ·rw[z] at hg; cases hg
  ·rw[h2] at hg; cases hg
   exact ⟨a,v',rfl,h1▸tT.t ha hb,k _ _ [] H (hA.drop2.pushI h3) p⟩
 ·exact hd.elim
end
section
variable{X:Cx}{a b:Expr}{da db:DE}{pos:Pos}
theorem S5{n:Nat}(hu:n+64<cLine):n+1<cLine:=by omega
theorem Qn(hu:X.A.units+64<cLine)(ha:Fi X a da)(hb:Fi X b db)(hs:u4 b:=by intro _ _; rfl):Fi X (.Subscript a b pos) (Wo dG da db):=PE.imp (uG (S5 hu) ha hb hs) (eY uZ)
end
def xX:DE:=λδ P=>P (.dat .ow (.dict (Ua []))) δ
theorem At.newD{K:PySem.W.Frag}{H0 H:Hp}{X:Addr->Prop}{n:Nat}{S T:List Ent}{p:Addr}(h:At K H0 X n (S++T) H)(hp:H p=none):At K H0 X n (S++⟨some (.ref p),.dat .ow (.dict (Ua [])),[p]⟩::T) (upd H p (.dT [])):=by
 have s1:=Dk hp (.dT [])
 refine ((h.grow (n':=n) s1 (Ai _)).push (e:=⟨some (.ref p),.dat .ow (.dict (Ua [])),[p]⟩) ⟨_,rfl,.dic Cj rfl .nil,λ_=>Ci.mpr ⟨Ba,Ct⟩,λz=>nomatch z⟩ (λf hf=>?_) λa ha=>?_).tomid
 ·have nf:=h.free hp f hf
  refine ⟨λ_ a ha z=>?_,λ_ a ha z=>?_⟩
  ·rw[Ah.mp ha] at z
   exact nf z
  ·rw[Ah.mp z] at ha
   exact nf (Gb _ _ ha)
 ·rw[Ah.mp ha]
  exact .inl (h.new0 hp)
theorem uT{X:Cx}{pos:Pos}:Fi X (.Dict [] [] pos) xX:=by
 refine PE.imp rN λσ H Q h=>?_
 obtain ⟨H0,Y,S,T,δ,P,rfl,hS,hA,hd,k⟩:=h
 exact λp hp=>k _ δ _ _ S _ rfl hS (hA.newD hp) hd
theorem At.writeD{K:PySem.W.Frag}{H0 H:Hp}{X:Addr->Prop}{n:Nat}{E:List Ent}{v:Option V}{ks ks':List (List Int×Ad)}{a:Addr}{kv':List (List Iy×V)}(h:At K H0 X n (⟨v,.dat .ow (.dict (Ua ks)),[a]⟩::E) H)(hv:v=some (.ref a))(np:∀e∈E,Om e.x=false)(r:DRel K H kv' ks'):At K H0 X n (⟨v,.dat .ow (.dict (Ua ks')),[a]⟩::E) (upd H a (.dT kv')):=by
 obtain ⟨w,e1,rd,hn,ht⟩:=h.ok _ Aa
 obtain ⟨b,kv,ks0,e2,ek,ha,_,eF⟩:=rd.dict_inv
 have eF':[a]=[b]:=eF
 cases eF'
 have hs:=Bh.mp h.sep
 have kp:∀{F':List Addr},a∉F'->Kp F' H (upd H a (.dT kv')):=λ{F'} hF b o q z=>by
  have : b≠a:=by
   rintro rfl
   rw[ha] at q
   cases q
   rcases z with z | z
   ·exact hF z
   ·rcases z with ⟨_,z⟩ | ⟨_,_,z⟩ <;> cases z
  rw[Co this]
  exact q
 have n0:H0 a=none:=by
  rcases h.new _ Aa a Aa with z | z
  ·exact z
  ·cases z.2
 refine ⟨λf hf=>?_,Bh.mpr ⟨λf hf=>⟨λhq c hc=>(hs.1 f hf).1 (.inl (np f hf)) c hc,λhq c hc=>(hs.1 f hf).2 (.inl rfl) c hc⟩,hs.2⟩,λf hf=>?_,λb o nx q=>?_,λb o q=>?_,λb hb=>?_⟩
 ·rcases Aj.mp hf with rfl | hf
  ·exact ⟨.ref a,hv,.dic Cj r.key (r.val.kp (kp Ba)),λ_=>Ci.mpr ⟨Ba,Ct⟩,λz=>nomatch z⟩
  ·exact (h.ok f (Ag _ hf)).kp (kp ((hs.1 f hf).1 (.inl (np f hf)) a Aa)) (Ai _)
 ·rcases Aj.mp hf with rfl | hf
  ·exact λc hc=>h.new _ Aa c hc
  ·exact h.new f (Ag _ hf)
 ·rw[Co (Df q n0)]
  exact h.same b o nx q
 ·rw[Co (Df q n0)]
  exact h.dom b o q
 ·obtain ⟨z,c,k,f,h1,h2⟩:=h.xd b hb
  refine ⟨z,c,k,f,(Co ?_).trans h1,h2⟩
  rintro rfl
  exact z n0
theorem fE{K:PySem.W.Frag}{H0 H:Hp}{X:Addr->Prop}{S T:List Ent}{δ:DS}{i:Nat}{ks ks':List (List Int×Ad)}(hS:Sl S δ)(hT:∀e∈T,Om e.x=false)(hA:At K H0 X δ.n (S++T) H)(hi:δ.sl[i]? = some (.dat .ow (.dict (Ua ks))))(np:npk δ.sl=true):∃a kv,(vs S)[i]? = some (some (.ref a))/\H a=some (.dT kv)/\DRel K H kv ks/\∀kv',DRel K H kv' ks'->∃S',vs S'=vs S/\Sl S' ⟨δ.sl.set i (.dat .ow (.dict (Ua ks'))),δ.n⟩/\At K H0 X δ.n (S'++T) (upd H a (.dT kv')):=by
 obtain ⟨ent,e2,e3⟩:=Je hS hi
 have hm:ent∈S:=Au e2
 obtain ⟨u,x,F⟩:=ent
 have e3':x=.dat .ow (.dict (Ua ks)):=e3
 subst e3'
 obtain ⟨v,hv,rd,_⟩:=hA.ok _ (Ay _ hm)
 obtain ⟨a,kv,ks0,rfl,ek,ha,rel,eF⟩:=rd.dict_inv
 obtain rfl:=Wr ek
 have eF':F=[a]:=eF
 subst eF'
 refine ⟨a,kv,by rw[Lw e2]; exact congrArg some hv,ha,rel,λkv' r=>?_⟩
 have hn:=iR hS np
 have h1:=(hA.perm ((Oa e2).append_right T)).writeD (ks':=ks') (kv':=kv') hv (λe he=>?_) r
 ·refine ⟨S.set i ⟨u,.dat .ow (.dict (Ua ks')),[a]⟩,?_,?_,h1.perm ((aR e2).append_right T).symm⟩
  ·unfold vs
   rw[Hj]
   apply Gu
   intro j
   rw[Ko]
   split
   ·rename_i hij
    subst hij
    rw[Az,e2]
    split
    ·rfl
    ·rename_i hj
     rw[Ab] at hj
     exact absurd (Ak.mp e2).1 hj
   ·rfl
  ·unfold Sl at hS ⊢
   rw[Hj,hS]
 ·rcases Bl.mp he with he | he
  ·exact hn e ((List.eraseIdx_sublist S i).subset he)
  ·exact hT e he
def dputB(i:Nat)(y z:DV)(δ:DS)(D:DEnds):Prop:=match δ.sl[i]?,y,z with
 | some (.dat .ow (.dict X)),.dat _ e,.dat _ k=>npk δ.sl=true/\imm e=true/\∃ks w,X=Ua ks/\k=Cn w/\ks.length<1000000/\D.nx ⟨δ.sl.set i (.dat .ow (.dict (Ua (Pc ks w e)))),δ.n⟩
 | _,_,_=>False
def isDct:Option DV->Bool
 | some (.dat _ (.dict X))=>uW X
 | _=>false
def yQ(i:Nat)(dk de:DE):DB:=λD δ=>de δ λy δ1=>isDct δ1.sl[i]? = true/\dk δ1 λz δ2=>dputB i y z δ2 D
section
variable{X:Cx}{o i e:Expr}{dk de:DE}{apos cpos pos pos':Pos}{n:Nat}
theorem pX{K:PySem.W.Frag}{H0 H:Hp}{Y:Addr->Prop}{S T:List Ent}{δ:DS}(hS:Sl S δ)(hA:At K H0 Y δ.n (S++T) H)(hi:isDct δ.sl[n]? = true):∃a kv,(vs S)[n]? = some (some (.ref a))/\H a=some (.dT kv):=by
 cases q:δ.sl[n]? with
 | none=>rw[q] at hi; cases hi
 | some x =>
  rw[q] at hi
  obtain ⟨ent,e2,e3⟩:=Je hS q
  obtain ⟨u,y,F⟩:=ent
  have e3':y=x:=e3
  subst e3'
  have hm:(⟨u,y,F⟩ : Ent)∈S:=Au e2
  match y,hi with
  | .dat m (.dict X),hi =>
   have hX:uW X=true:=hi
   obtain ⟨v,hv,rd,_⟩:=hA.ok _ (Ay _ hm)
   obtain ⟨a,kv,ks,rfl,_,ha,_⟩:=rd.dict_inv
   exact ⟨a,kv,by rw[Lw e2]; exact congrArg some hv,ha⟩
theorem vB(hu:X.A.units+64<cLine)(ho:PE X o (Zw n))(hi:Fi X i dk)(he:Fi X e de)(hs:Kv e (some (.Subscript o i pos')) pos.line X.env=pure false:=by rfl):oM X (.Assign [.Subscript o i pos'] e pos) (yQ n dk de):=by
 refine PS.impD (wF (S5 hu) ho hi he hs) λD σ H h=>?_
 obtain ⟨H0,Y,S,T,δ,P,rfl,hS,hT,hA,hd,k1,k2,k3,k4⟩:=h
 refine ⟨H0,Y,S,T,δ,_,rfl,hS,hA,hd,λy δ1 v F S1 H1 e1 e2 hA1 p1=>?_⟩
 obtain ⟨p1,p2⟩:=p1
 obtain ⟨a,kv,hv,ha⟩:=pX e2 hA1.drop p1
 rw[e1] at hv
 refine ⟨.ref a,hv,H0,Y,S1,⟨some v,y,F⟩::T,δ1,_,e1,e2,hA1,p2,λz δ2 w G S2 H2 e3 e4 hA2 p3=>?_⟩
 unfold dputB at p3
 split at p3
 ·rename_i X0 m1 d m2 k hsl
  obtain ⟨p3,p4,ks,u,rfl,rfl,p5,p6⟩:=p3
  obtain ⟨b,rfl,hb⟩:=Wn (hA2.told mem_mid)
  have r:=hA2.told Er
  obtain rfl:=r.imm p4
  obtain ⟨a',kv',g1,g2,g3,g4⟩:=fE (ks':=Pc ks u d) e4 hT hA2.drop2 hsl p3
  rw[e3,hv] at g1
  cases g1
  obtain ⟨S3,h1,h2,h3⟩:=g4 (Mv kv' (Jy u) v) (eG u r g3)
  refine ⟨a,_,rfl,zQ.t g2 hb (by rw[fF g3]; exact Cc p5 (lI (n:=1000000) (Ai _))),?_⟩
  rw[<- e3,<- h1]
  exact k1 ⟨_,_⟩ S3 _ h2 h3 p6
 ·exact p3.elim
end
def xW:V->Int
 | .int i=>i
 | _=>0
def A0(H:Hp)(r:Addr):List Int:=match H r with
 | some (.tup xs)=>xs.map xW
 | _=>[]
theorem u9{H:Hp}{r:Addr}{w:List Int}(h:H r=some (.tup (w.map V.int))):A0 H r=w:=by
 unfold A0
 rw[h]
 show (w.map V.int).map xW=w
 rw[Br]
 exact List.map_id' w
section
variable{K:PySem.W.Frag}{H:Hp}
theorem eN:∀{ws:List (List Int)} {xs:List V} {ds:List Ad} {G:List Addr},RdFs K H xs ds G->ds=ws.map Cn->∃rs:List Addr,xs=rs.map V.ref/\ws=rs.map (A0 H)/\G=[]/\(∀r∈rs,H r=some (.tup ((A0 H r).map V.int)))/\∀r∈rs,RdF K H (.ref r) (Cn (A0 H r)) []
 | [],_,_,_,h,e=>by
  subst e
  cases h
  exact ⟨[],rfl,rfl,rfl,(λ_ z=>nomatch z),(λ_ z=>nomatch z)⟩
 | w::ws,_,_,_,h,e=>by
  cases h with
  | nil=>cases e
  | cons a t =>
   obtain ⟨e1,e2⟩:=Ei e
   obtain ⟨rs,rfl,rfl,rfl,h1,h2⟩:=eN t e2
   subst e1
   obtain ⟨r,rfl,hr⟩:=Wn a
   rw[kX] at hr
   have ew:=u9 hr
   obtain rfl:=a.imm (show imm (Cn w)=true from Mi w)
   refine ⟨r::rs,rfl,by rw[Av,ew],rfl,λx hx=>?_,λx hx=>?_⟩
   ·rcases Aj.mp hx with rfl | hx
    ·rw[ew]; exact hr
    ·exact h1 x hx
   ·rcases Aj.mp hx with rfl | hx
    ·rw[ew]; exact a
    ·exact h2 x hx
end
end DL
namespace Nd
open PySem PySem.Spec PyProof.Rows L2
end Nd
namespace DL
open PySem PySem.Spec PyProof.Rows L2 Nd
def sY(ks:List (List Int×Ad)):List (List Iy×Ad):=ks.map λp=>(Jy p.1,p.2)
section
variable{K:PySem.W.Frag}{H0 H H':Hp}{X:Addr->Prop}{n:Nat}{E S T:List Ent}
theorem rR{kv:List (List Iy×V)}{ks:List (List Int×Ad)}(h1:kv.map (·.1)=(sY ks).map (·.1))(h2:RdFs K H (kv.map (·.2)) ((sY ks).map (·.2)) []):DRel K H kv ks:=by
 unfold sY at h1 h2
 rw[Br] at h1 h2
 exact ⟨h1,h2⟩
theorem zE{kv:List (List Iy×V)}{ks:List (List Int×Ad)}(r:DRel K H kv ks):kv.map (·.1)=(sY ks).map (·.1)/\RdFs K H (kv.map (·.2)) ((sY ks).map (·.2)) []:=by
 unfold sY
 rw[Br,Br]
 exact ⟨r.key,r.val⟩
theorem At.dNew(h:At K H0 X n E H){D:Addr}(hD:H D=Na):At K H0 X n (⟨some (.ref D),.dT (sY []),[D]⟩::E) (upd H D (.dT [])):=by
 have s1:=Dk hD (.dT [])
 refine (h.grow (n':=n) s1 (Ai _)).push ⟨D,[],rfl,rfl,Cj,rfl,.nil⟩ (λf hf=>?_) λa ha=>?_
 ·have nf:=h.free hD f hf
  refine ⟨λ_ a ha z=>?_,λ_ a ha z=>?_⟩
  ·rw[Ah.mp ha] at z
   exact nf z
  ·rw[Ah.mp z] at ha
   exact nf (Gb _ _ ha)
 ·rw[Ah.mp ha]
  exact .inl (h.new0 hD)
theorem At.dPut{D:Addr}{ks:List (List Int×Ad)}{w:List Int}{v:V}{e:Ad}(h:At K H0 X n (⟨some (.ref D),.dT (sY ks),[D]⟩::E) H)(r:RdF K H v e []):∃kv,H D=some (.dT kv)/\kv.length=ks.length/\At K H0 X n (⟨some (.ref D),.dT (sY (Pc ks w e)),[D]⟩::E) (upd H D (.dT (Mv kv (Jy w) v))):=by
 obtain ⟨a,kv,e1,e0,ha,h1,h2⟩:=h.ok _ Aa
 have e1':some (V.ref D)=some (V.ref a):=e1
 cases e1'
 have rel:=rR h1 h2
 have hs:=Bh.mp h.sep
 have hE:=h.sub (Cz _ _)
 have kp:∀{F:List Addr},D∉F->Kp F H (upd H D (.dT (Mv kv (Jy w) v))):=λ{F} hF b o q z=>by
  have : b≠D:=by
   rintro rfl
   rw[ha] at q
   cases q
   rcases z with z | z
   ·exact hF z
   ·rcases z with ⟨_,z⟩ | ⟨_,_,z⟩ <;> cases z
  rw[Co this]
  exact q
 have nD:H0 D=Na:=by
  rcases h.new _ Aa D Aa with z | z
  ·exact z
  ·cases z.2
 have rel':=(eG w r rel).kp (kp Ba)
 obtain ⟨g1,g2⟩:=zE rel'
 refine ⟨kv,ha,fF rel,?_⟩
 refine ⟨λf hf=>?_,Bh.mpr ⟨λf hf=>⟨λhq a ha'=>(hs.1 f hf).1 hq a ha',λhq a ha'=>(hs.1 f hf).2 (hq.imp id id) a ha'⟩,hs.2⟩,λf hf=>?_,λb o nx q=>?_,λb o q=>?_,λb hb=>?_⟩
 rotate_right
 ·obtain ⟨z,c,k,f,h1,h2⟩:=h.xd b hb
  refine ⟨z,c,k,f,(Co ?_).trans h1,h2⟩
  rintro rfl
  exact z nD
 ·rcases Aj.mp hf with rfl | hf
  ·exact ⟨D,_,rfl,rfl,Cj,g1,g2⟩
  ·exact (hE.ok f hf).kp (kp ((hs.1 f hf).1 (.inr rfl) D Aa)) (Ai _)
 ·rcases Aj.mp hf with rfl | hf
  ·intro a ha'
   rw[Ah.mp ha']
   exact .inl nD
  ·exact hE.new f hf
 ·rw[Co (Df q nD)]
  exact h.same b o nx q
 ·rw[Co (Df q nD)]
  exact h.dom b o q
theorem At.dGot{D:Addr}{ks:List (List Int×Ad)}(h:At K H0 X n (⟨some (.ref D),.dT (sY ks),[D]⟩::E) H):At K H0 X n (⟨some (.ref D),.dat .ow (.dict (Ua ks)),[D]⟩::E) H:=by
 obtain ⟨a,kv,e1,e0,ha,h1,h2⟩:=h.ok _ Aa
 have e1':some (V.ref D)=some (V.ref a):=e1
 cases e1'
 have rel:=rR h1 h2
 have hs:=Bh.mp h.sep
 refine (h.sub (Cz _ _)).push ⟨_,rfl,.dic ha rel.key rel.val,λ_=>Ci.mpr ⟨Ba,Ct⟩,λz=>nomatch z⟩ (λf hf=>⟨λhq a ha'=>(hs.1 f hf).1 (.inr rfl) a ha',λhq a ha'=>(hs.1 f hf).2 (.inl rfl) a ha'⟩) λa ha'=>?_
 rcases h.new _ Aa a ha' with z | z
 ·exact .inl z
 ·cases z.2
end
theorem pQ(ks:List (List Int×Ad))(w:List Int)(d:Ad):(Pc ks w d).length<=ks.length+1:=by
 unfold Pc
 split
 ·rw[Ab]; omega
 ·rw[Cb]; simp
end DL
namespace Nd
open PySem PySem.Spec PySem.Calls PyProof.Rows PyProof.V L2
def A7(r:Addr)(j:Int)(h:Heap):Prop:=∃t u v,IsRange h r 0 j 1 t u v
abbrev sU(r:Addr)(j:Int):HO:=.ext (A7 r j)
section
variable{X:Cx}
def E5:List V->Hp->VK->Prop:=λxs H Q=>∃j:Int,xs=[.int j]/\∀r,H r=none->Q (.ref r) (upd H r (sU r j))
theorem gN:Kc X (.type "range") E5:=by
 intro pins s σ H xs us Q I r h
 obtain ⟨j,rfl,q⟩:=h
 obtain ⟨u,rfl,t,rfl⟩:=vals1 r
 refine call_range_1 ⟨.ref s.heap.objs.size,_,I.laid (a:=s.heap.objs.size) (o:=sU s.heap.objs.size j) (t':=s.toks+1+1) (λb o e=>Ae _ e) (Ai _) ?_,rfl,q _ (I.hok.fresh (Ai _))⟩
 refine ⟨⟨_,_,_,Bi _ rfl⟩,⟨_,Bi _ rfl⟩,λh1 h2 ⟨t,u,v,e⟩ k=>⟨t,u,v,k _ e⟩⟩
end
end Nd
namespace DL
open PySem PySem.Spec PyProof.Rows L2 Nd
def Sw(j:Nat):List Int:=(Dd j).map λn:Nat=>(n:Int)
abbrev PX:=List Ad->(Ad->Prop)->(Addr->Prop)->Prop
end DL
namespace Nd
open PySem PySem.Spec PyProof.Rows L2
end Nd
namespace DL
open PySem PySem.Spec PyProof.Rows L2 Nd
end DL
namespace Nd
open PySem PySem.Spec PyProof.Rows L2
abbrev ZF(h:Heap)(z TI TO:Addr)(f0 f1:Value):Prop:=h.get? z=some { cls:=.type "zip",dict:=none,data:=.fields #[f0,f1,.bool false,.ref TI,.ref TO],slots:=#[] }
section
variable{prog:Bu}{w:World}{A:Cq}{E:Value->Af->Prop}{s:Af}
theorem fG{a:Addr}{o:Obj}{Q:Option Obj->Af->Prop}(ho:s.heap.get? a=some o)(h:Q (some o) s):wpAny (model prog w) A (loadIfAlive a) Q E s:=λΓ p _=>by
 unfold loadIfAlive
 rw[Sem.wp_loadIfAlive,ho]
 exact (Sem.wp_pure ..)▸h
theorem Xb{z TI TO a:Addr}{oa:Obj}{fl:Bool}(hz:ZF s.heap z TI TO (Jw (a:Int)) (.bool fl))(ha:s.heap.get? a=some oa):wpAny (model prog w) A (Fe (.ref z)) (λb s'=>b=false/\∃h',s'={ s with heap:=h' }/\ZF h' z TI TO (Jw (a:Int)) (.bool true)/\Jd z s.heap h') E s:=by
 unfold Fe
 refine Ac (Pt hz rfl (x:=Jw (a:Int)) rfl ?_)
 show wpAny _ _ (loadIfAlive ((a:Int).toNat) >>= _) _ _ _
 refine Ac (fG (a:=(a:Int).toNat) (o:=oa) (by rw[Fn]; exact ha) ?_)
 simp only[Option.isNone_some,By,if_false]
 refine Ac (Pt hz rfl (x:=.bool fl) rfl ?_)
 cases fl with
 | false =>
  rw[if_pos (by decide)]
  exact Ac (wpAny_setField_rec hz (by simp) λg1 hz1 hs1=>Bb ⟨rfl,g1,rfl,hz1,hs1⟩)
 | true =>
  rw[if_neg (by decide)]
  exact Bb ⟨rfl,s.heap,rfl,hz,⟨rfl,λ_ _=>rfl⟩⟩
theorem nO{z TI TO i1 i2 l1 l2 a:Addr}{oa:Obj}{fl:Bool}{k1 k2:Nat}{xs ys:Array Value}{x y:Value}{Q:Value->Af->Prop}(D:Ol z TI TO i1 i2 l1 l2)(hz:ZF s.heap z TI TO (Jw (a:Int)) (.bool fl))(ha:s.heap.get? a=some oa)(hTI:Si s.heap TI (.ref i1) (.ref i2))(h1:s.heap.IsListIter i1 l1 k1)(h2:s.heap.IsListIter i2 l2 k2)(hl1:s.heap.IsList l1 xs)(hl2:s.heap.IsList l2 ys)(hx:xs[k1]? = some x)(hy:ys[k2]? = some y)(hQ:∀h',ZF h' z TI TO (Jw (a:Int)) (.bool true)->h'.IsListIter i1 l1 (k1+1)->h'.IsListIter i2 l2 (k2+1)->Si h' s.heap.objs.size x y->h'.objs.size=s.heap.objs.size+1->(∀c o,c≠z->c≠i1->c≠i2->s.heap.get? c=some o->h'.get? c=some o)->Q (.ref s.heap.objs.size) { s with heap:=h' }):wpAny (model prog w) A (Builtin.«zip.__next__» ⟨[.ref z],[]⟩) (λfin s'=>∃v,fin=.done (.ret v)/\Q v s') E s:=by
 unfold Builtin.«zip.__next__»
 refine Ac (Bb (Ac (Pt hz rfl (x:=.bool false) rfl (Ac (Pt hz rfl (x:=.ref TI) rfl (Ac (Og hTI rfl ?_)))))))
 show wpAny _ _ (Fe (.ref z) >>= _) _ _ _
 refine Ac (Gk (Xb (E:=E) hz ha) λbb s1 q0_ => ?_)
 obtain ⟨eb,g1,e1,hz1,hs1⟩ := q0_
 subst eb e1
 simp only[By,if_false]
 simp only[<- Ud,List.forIn_cons,List.forIn_nil]
 refine Ac (Ac (Ac (Dh ?_)))
 show wpAny _ _ (Hg (.ref i1) >>= _) _ _ _
 refine Ac (Sd (h1.extBut hs1.extBut D.i1z) (hl1.extBut hs1.extBut D.l1z) hx λg2 q1 hs2=>Bb (Bb ?_))
 refine Ac (Ac (Dh ?_))
 show wpAny _ _ (Hg (.ref i2) >>= _) _ _ _
 refine Ac (Sd ((h2.extBut hs1.extBut D.i2z).extBut hs2.extBut D.i12.symm) ((hl2.extBut hs1.extBut D.l2z).extBut hs2.extBut D.l2i1) hy λg3 q2 hs3=>Bb (Bb (Bb ?_)))
 show wpAny _ _ (newTuple [x,y] >>= _) _ _ _
 refine Ac (wpAny_newTuple ?_)
 have sz:g3.objs.size=s.heap.objs.size:=by rw[hs3.1,hs2.1,hs1.1]
 have up:∀c o,c≠z->c≠i1->c≠i2->s.heap.get? c=some o->g3.get? c=some o:=λc o c1 c2 c3 e=>hs3.extBut _ _ c3 (hs2.extBut _ _ c2 (hs1.extBut _ _ c1 e))
 have hz3:ZF g3 z TI TO (Jw (a:Int)) (.bool true):=hs3.extBut _ _ D.i2z.symm (hs2.extBut _ _ D.i1z.symm hz1)
 have fin:=hQ (g3.push { cls:=.type "tuple",data:=.seq #[x,y] }) (Ae _ hz3) ((q1.extBut hs3.extBut D.i12).at λo e=>Ae _ e) (q2.at λo e=>Ae _ e) (by rw[<- sz]; exact Bi _ rfl) (by rw[Heap.size_push,sz]) (λc o c1 c2 c3 e=>Ae _ (up c o c1 c2 c3 e))
 refine Bb ⟨_,rfl,?_⟩
 rw[<- sz] at fin
 exact fin
theorem Zi{z TI TO i1 i2 l1 l2 a:Addr}{oa:Obj}{fl:Bool}{k1 k2:Nat}{xs ys:Array Value}{Q:PySem.Fin->Af->Prop}(hh:A.handled=none)(D:Ol z TI TO i1 i2 l1 l2)(hz:ZF s.heap z TI TO (Jw (a:Int)) (.bool fl))(ha:s.heap.get? a=some oa)(hTI:Si s.heap TI (.ref i1) (.ref i2))(h1:s.heap.IsListIter i1 l1 k1)(h2:s.heap.IsListIter i2 l2 k2)(hl1:s.heap.IsList l1 xs)(hl2:s.heap.IsList l2 ys)(hend:xs[k1]? = none\/ys[k2]? = none)(hE:∀h' e,(∀c o,c≠z->c≠i1->c≠i2->s.heap.get? c=some o->h'.get? c=some o)->(∃o,h'.get? e=some o/\o.cls=.type "StopIteration")->E (.ref e) { s with heap:=h' }):wpAny (model prog w) A (Builtin.«zip.__next__» ⟨[.ref z],[]⟩) Q E s:=by
 unfold Builtin.«zip.__next__»
 refine Ac (Bb (Ac (Pt hz rfl (x:=.bool false) rfl (Ac (Pt hz rfl (x:=.ref TI) rfl (Ac (Og hTI rfl ?_)))))))
 show wpAny _ _ (Fe (.ref z) >>= _) _ _ _
 refine Ac (Gk (Xb (E:=E) hz ha) λbb s1 q0_ => ?_)
 obtain ⟨eb,g1,e1,hz1,hs1⟩ := q0_
 subst eb e1
 simp only[By,if_false]
 simp only[<- Ud,List.forIn_cons,List.forIn_nil]
 refine Ac (Ac (Ac (Dh ?_)))
 show wpAny _ _ (Hg (.ref i1) >>= _) _ _ _
 cases hx:xs[k1]? with
 | none =>
  refine Ac (wpAny_nextOf_list_end hh (h1.extBut hs1.extBut D.i1z) (hl1.extBut hs1.extBut D.l1z) hx λg2 e hs2 he=>?_)
  exact hE g2 e (λc o c1 c2 _ q=>hs2 _ _ c2 (hs1.extBut _ _ c1 q)) he
 | some x =>
  have hy:ys[k2]? = none:=hend.resolve_left λq=>by rw[hx] at q; cases q
  refine Ac (Sd (h1.extBut hs1.extBut D.i1z) (hl1.extBut hs1.extBut D.l1z) hx λg2 q1 hs2=>Bb (Bb ?_))
  refine Ac (Ac (Dh ?_))
  show wpAny _ _ (Hg (.ref i2) >>= _) _ _ _
  refine Ac (wpAny_nextOf_list_end hh ((h2.extBut hs1.extBut D.i2z).extBut hs2.extBut D.i12.symm) ((hl2.extBut hs1.extBut D.l2z).extBut hs2.extBut D.l2i1) hy λg3 e hs3 he=>?_)
  exact hE g3 e (λc o c1 c2 c3 q=>hs3 _ _ c3 (hs2.extBut _ _ c2 (hs1.extBut _ _ c1 q))) he
theorem jD{z TI TO i1 i2 l1 l2 a:Addr}{oa:Obj}{fl:Bool}{k1 k2:Nat}{xs ys:Array Value}{x y:Value}{Q:Option Value->Af->Prop}(D:Ol z TI TO i1 i2 l1 l2)(hz:ZF s.heap z TI TO (Jw (a:Int)) (.bool fl))(ha:s.heap.get? a=some oa)(hTI:Si s.heap TI (.ref i1) (.ref i2))(h1:s.heap.IsListIter i1 l1 k1)(h2:s.heap.IsListIter i2 l2 k2)(hl1:s.heap.IsList l1 xs)(hl2:s.heap.IsList l2 ys)(hx:xs[k1]? = some x)(hy:ys[k2]? = some y)(hQ:∀h',ZF h' z TI TO (Jw (a:Int)) (.bool true)->h'.IsListIter i1 l1 (k1+1)->h'.IsListIter i2 l2 (k2+1)->Si h' s.heap.objs.size x y->h'.objs.size=s.heap.objs.size+1->(∀c o,c≠z->c≠i1->c≠i2->s.heap.get? c=some o->h'.get? c=some o)->Q (some (.ref s.heap.objs.size)) { s with heap:=h' }):wpAny (model prog w) A (Se (.ref z)) Q E s:=by
 have ty:s.TypeIs (.ref z) "zip" := ⟨_,hz,rfl⟩
 unfold Se
 refine Ac (Qp (Rf (name:=Kr "__next__") ty Sa (Re Sa ty F.entry_zip_next (nO D hz ha hTI h1 h2 hl1 hl2 hx hy λg' b1 b2 b3 b4 b5 b6=>Bb (hQ g' b1 b2 b3 b4 b5 b6)) (F.args_zip_next_1 _))))
theorem Xc{z TI TO i1 i2 l1 l2 a:Addr}{oa:Obj}{fl:Bool}{k1 k2:Nat}{xs ys:Array Value}{Q:Option Value->Af->Prop}(hh:A.handled=none)(D:Ol z TI TO i1 i2 l1 l2)(hz:ZF s.heap z TI TO (Jw (a:Int)) (.bool fl))(ha:s.heap.get? a=some oa)(hTI:Si s.heap TI (.ref i1) (.ref i2))(h1:s.heap.IsListIter i1 l1 k1)(h2:s.heap.IsListIter i2 l2 k2)(hl1:s.heap.IsList l1 xs)(hl2:s.heap.IsList l2 ys)(hend:xs[k1]? = none\/ys[k2]? = none)(hQ:∀h',(∀c o,c≠z->c≠i1->c≠i2->s.heap.get? c=some o->h'.get? c=some o)->Q none { s with heap:=h' }):wpAny (model prog w) A (Se (.ref z)) Q E s:=by
 have ty:s.TypeIs (.ref z) "zip" := ⟨_,hz,rfl⟩
 unfold Se
 refine Ac (Qp (Rf (name:=Kr "__next__") ty Sa (Re Sa ty F.entry_zip_next (Zi hh D hz ha hTI h1 h2 hl1 hl2 hend λg' e kp he=>?_) (F.args_zip_next_1 _))))
 obtain ⟨o,ho,hc⟩:=he
 exact Ac (dX (T := "StopIteration") (b:=true) ⟨o,ho,hc⟩ isSubtype_stop (Bb (hQ _ kp)))
end
end Nd
namespace Nd
open PySem PySem.Spec
theorem bY:entryFor table "zip.__getattribute__" = some Builtin.«object.__getattribute__» :=
 entryFor_alias (id' := "object.__getattribute__") (by kernel_rfl) (by first | rfl | decide +kernel) (by decide +kernel) (by kernel_rfl)
theorem fP:typeLookup (.type "zip") "keys" = pure none:=by rw[typeLookup_type,builtinLookup_eq_fast]; kernel_rfl
section
variable{prog:Bu}{w:World}{A:Cq}{E:Value->Af->Prop}{h:Heap}{g:Array GenState}{d:Drawn}{t:Nat}{os:OsState}{a:Addr}{fs:Array Value}
theorem Xo:isSubtype (.type "AttributeError") (.type "AttributeError")=pure true:=by rw[isSubtype_type]; kernel_rfl
theorem jB(args:List Value):firstArgMember (.type "AttributeError") args=pure Ub:=by
 have h:((Manifest.find? "AttributeError").elim false λt=>t.mro.contains "StopIteration" || t.mro.contains "SystemExit")=false:=by decide +kernel
 simp only[firstArgMember,h]
 rfl
theorem jM{α:Type}{name msg:Str}{v:Value}{Q:α->Af->Prop}(hh:A.handled=none)(hm:msg.length<=Aq)(hE:∀h' t' e,(∀c o,h.get? c=some o->h'.get? c=some o)->t<=t'->(∃o,h'.get? e=some o/\o.cls=.type "AttributeError")->E (.ref e) ⟨h',g,d,t',os⟩):wpAny (model prog w) A (raiseAttrError v name msg:Sem α) Q E ⟨h,g,d,t,os⟩:=by
 unfold raiseAttrError newExc newTuple
 refine Ac (wpAny_mkStr' ?_ hm)
 refine Ac (Ac (Gz ?_ (by show (1:Nat)<=Aq; decide)))
 refine Ac (wpAny_of_eq (jB _) (Gz ?_))
 generalize hh1:h.push { cls:=.type "tuple",data:=.seq [Value.str msg t].toArray }=h1
 have k1:∀c o,h.get? c=some o->h1.get? c=some o:=λc o q=>by rw[<- hh1]; exact Ae _ q
 have g0:(h1.push { cls:=.type "AttributeError",data:=.fields #[.ref h.objs.size,.none,.none,.none,.bool false,.none,Ia,Ia] }).get? h1.objs.size=some { cls:=.type "AttributeError",data:=.fields #[.ref h.objs.size,.none,.none,.none,.bool false,.none,Ia,Ia] }:=Bi _ rfl
 show wpAny _ _ _ _ _ ⟨h1.push { cls:=.type "AttributeError",data:=.fields #[.ref h.objs.size,.none,.none,.none,.bool false,.none,Ia,Ia] },g,d,t+1,os⟩
 have k2:∀c o,h1.get? c=some o->(h1.push { cls:=.type "AttributeError",data:=.fields #[.ref h.objs.size,.none,.none,.none,.bool false,.none,Ia,Ia] }).get? c=some o:=λc o q=>Ae _ q
 have k3:∀c o,h1.get? c=some o->c≠h1.objs.size:=λc o q=>Cf (Bc q)
 generalize h1.push { cls:=.type "AttributeError",data:=.fields #[.ref h.objs.size,.none,.none,.none,.bool false,.none,Ia,Ia] }=h2 at g0 k2 ⊢
 refine Ac (wpAny_mkText ?_)
 refine Ac ?_
 unfold noteAttr
 show wpAny _ _ (lacksNameAndObj (.ref h1.objs.size) >>= _) _ _ _
 refine Ac ?_
 unfold lacksNameAndObj
 have ty:(⟨h2,g,d,t+1+1,os⟩ : Af).TypeIs (.ref h1.objs.size) "AttributeError" := ⟨_,g0,rfl⟩
 refine Ac (dX ty Xo ?_)
 simp only[Bool.not_true,By,if_false]
 refine Ac (Zb g0 ?_)
 show wpAny _ _ (pure true) _ _ _
 refine Bb ?_
 simp only[if_true]
 refine Ac (Oh ?_)
 refine Ac (Sb ty ?_)
 show wpAny _ _ (layMembers h1.objs.size 6 _) _ _ _
 unfold layMembers
 refine Ac (Zb g0 ?_)
 refine wpAny_update g0 ?_
 refine wpAny_raiseNew_none hh (hE _ _ _ (λc o q=>?_) (by show t<=t+1+1; omega) ⟨_,Gg _ g0 rfl,rfl⟩)
 exact Heap.get?_update_of_ne _ (k3 c o (k1 c o q)).symm (k2 c o (k1 c o q))
theorem jG{tk:Tok}{Q:PySem.Fin->Af->Prop}(hh:A.handled=none)(hx:h.get? a=some { cls:=.type "zip",dict:=none,data:=.fields fs,slots:=#[] })(hE:∀h' t' e,(∀c o,h.get? c=some o->h'.get? c=some o)->t<=t'->(∃o,h'.get? e=some o/\o.cls=.type "AttributeError")->E (.ref e) ⟨h',g,d,t',os⟩):wpAny (model prog w) A (Builtin.«object.__getattribute__» ⟨[.ref a,.str "keys" tk],[]⟩) Q E ⟨h,g,d,t,os⟩:=by
 have hT:(⟨h,g,d,t,os⟩ : Af).TypeIs (.ref a) "zip" := ⟨_,hx,rfl⟩
 have f4:=fP
 repeat (any_goals (first | assumption | wp_step))
 exact jM hh (by decide +kernel) hE
theorem nB{tk:Tok}{R:Result->Af->Prop}(hh:A.handled=none)(hx:h.get? a=some { cls:=.type "zip",dict:=none,data:=.fields fs,slots:=#[] })(hE:∀h' t' e,(∀c o,h.get? c=some o->h'.get? c=some o)->t<=t'->(∃o,h'.get? e=some o/\o.cls=.type "AttributeError")->R (.error (.ref e)) ⟨h',g,d,t',os⟩):Mb (model prog w) A (.call (.builtin "zip.__getattribute__") ⟨[.ref a,.str "keys" tk],[]⟩) R ⟨h,g,d,t,os⟩ :=
 codeAny_call_builtin F.slot_zip_getattribute.plain bY (F.slot_zip_getattribute.check _ _ _ _ _ _ _ _ (show (⟨h,g,d,t,os⟩ : Af).TypeIs (.ref a) "zip" from ⟨_,hx,rfl⟩) (F.args_zip_getattribute_2 _ _) (jG hh hx hE))
theorem lW:typeLookup (.type "zip") "__getattr__" = pure none:=by rw[typeLookup_type,builtinLookup_eq_fast]; kernel_rfl
theorem wO{tk:Tok}{Q:Value->Af->Prop}(hh:A.handled=none)(hx:h.get? a=some { cls:=.type "zip",dict:=none,data:=.fields fs,slots:=#[] })(hE:∀h' t' e,(∀c o,h.get? c=some o->h'.get? c=some o)->t<=t'->(∃o,h'.get? e=some o/\o.cls=.type "AttributeError")->E (.ref e) ⟨h',g,d,t',os⟩):wpAny (model prog w) A (getAttrBy (.ref a) (.str "keys" tk) false) Q E ⟨h,g,d,t,os⟩:=by
 have hT:(⟨h,g,d,t,os⟩ : Af).TypeIs (.ref a) "zip" := ⟨_,hx,rfl⟩
 have f2:=F.slot_zip_getattribute.lookup
 have f3:=F.slot_zip_getattribute.bind (.ref a)
 have f5:=lW
 repeat (any_goals (first | assumption | wp_step))
 refine nB hh hx λh' t' e kp lt he=>?_
 obtain ⟨o,ho,hc⟩:=he
 have ty:(⟨h',g,d,t',os⟩ : Af).TypeIs (.ref e) "AttributeError" := ⟨_,ho,hc⟩
 have f6:=Xo
 have fin:=hE h' t' e kp lt ⟨o,ho,hc⟩
 repeat (any_goals (first | assumption | wp_step))
theorem oD{Q:Option Value->Af->Prop}(hh:A.handled=none)(hx:h.get? a=some { cls:=.type "zip",dict:=none,data:=.fields fs,slots:=#[] })(hQ:∀h' t',(∀c o,h.get? c=some o->h'.get? c=some o)->t<=t'->Q none ⟨h',g,d,t',os⟩):wpAny (model prog w) A (getAttr? (.ref a) "keys") Q E ⟨h,g,d,t,os⟩:=by
 unfold getAttr? getAttrBy?
 refine Ac (wpAny_mkText (Ac (Qp (wO hh hx λh' t' e kp lt he=>?_))))
 obtain ⟨o,ho,hc⟩:=he
 exact Ac (dX (T := "AttributeError") (b:=true) ⟨o,ho,hc⟩ Xo (Bb (hQ _ _ kp (Nat.le_of_succ_le lt))))
end
end Nd
namespace Nd
open PySem PySem.Spec PyProof.Rows L2
theorem Oy:entryFor table "dict.update.loop" = some Builtin.«dict.update.loop»:=entryFor_of_tree (by kernel_rfl)
theorem Jo:plainId "dict.update.loop" = true:=by decide +kernel
def zZ(h:Heap)(z TI TO i1 i2 l1 l2:Addr)(k:Nat):Prop:=Si h TI (.ref i1) (.ref i2)/\h.IsListIter i1 l1 k/\h.IsListIter i2 l2 k /\
 ((IsZip h z TI TO .none/\∃u v,Si h TO u v)\/∃(a:Addr) (oa:Obj) (fl:Bool),ZF h z TI TO (Jw (Int.ofNat a)) (.bool fl)/\h.get? a=some oa)
theorem zZ.keep{h h':Heap}{z TI TO i1 i2 l1 l2 D:Addr}{k:Nat}(st:zZ h z TI TO i1 i2 l1 l2 k)(hs:∀c,c≠D->h'.get? c=h.get? c)(hD:∃o,h'.get? D=some o)(n:∀c∈[z,TI,TO,i1,i2],c≠D):zZ h' z TI TO i1 i2 l1 l2 k:=by
 obtain ⟨a,b,c,d⟩:=st
 have n1:=n z (by simp)
 have n2:=n TI (by simp)
 have n3:=n TO (by simp)
 have n4:=n i1 (by simp)
 have n5:=n i2 (by simp)
 refine ⟨(hs TI n2).trans a,b.at λo q=>(hs i1 n4).trans q,c.at λo q=>(hs i2 n5).trans q,?_⟩
 rcases d with ⟨d,u,v,e⟩ | ⟨a,oa,fl,d,e⟩
 ·exact .inl ⟨(hs z n1).trans d,u,v,(hs TO n3).trans e⟩
 ·refine .inr ?_
  by_cases q:a=D
  ·obtain ⟨o,ho⟩:=hD
   exact ⟨a,o,fl,(hs z n1).trans d,by rw[q]; exact ho⟩
  ·exact ⟨a,oa,fl,(hs z n1).trans d,(hs a q).trans e⟩
section
variable{prog:Bu}{w:World}{A:Cq}{E:Value->Af->Prop}{s:Af}{z TI TO i1 i2 l1 l2:Addr}{k:Nat}{xs ys:Array Value}{x y:Value}{Q:Option Value->Af->Prop}
theorem pK(D:Ol z TI TO i1 i2 l1 l2)(st:zZ s.heap z TI TO i1 i2 l1 l2 k)(hl1:s.heap.IsList l1 xs)(hl2:s.heap.IsList l2 ys)(hx:xs[k]? = some x)(hy:ys[k]? = some y)(hQ:∀h',zZ h' z TI TO i1 i2 l1 l2 (k+1)->Si h' s.heap.objs.size x y->(∀c o,c∉[z,TI,TO,i1,i2]->s.heap.get? c=some o->h'.get? c=some o)->Q (some (.ref s.heap.objs.size)) { s with heap:=h' }):wpAny (model prog w) A (Se (.ref z)) Q E s:=by
 obtain ⟨a,b,c,d⟩:=st
 rcases d with ⟨d,u,v,e⟩ | ⟨a',oa,fl,d,e⟩
 ·refine wpAny_pyNext_zip_item D d a e b c hl1 hl2 hx hy λh' q1 q2 q3 q4 q5 q6 q7=>hQ h' ⟨q7 TI _ D.TIz D.TITO D.TIi1 D.TIi2 a,q3,q4,.inr ⟨_,_,false,q1,q5⟩⟩ q5 λc o hc q=>?_
  simp only[Aj,Ba,or_false,not_or] at hc
  exact q7 c o hc.1 hc.2.2.1 hc.2.2.2.1 hc.2.2.2.2 q
 ·refine jD D d e a b c hl1 hl2 hx hy λh' q1 q2 q3 q4 q5 q6=>?_
  have up:∀c o,c∉[z,TI,TO,i1,i2]->s.heap.get? c=some o->h'.get? c=some o:=λc o hc q=>by
   simp only[Aj,Ba,or_false,not_or] at hc
   exact q6 c o hc.1 hc.2.2.2.1 hc.2.2.2.2 q
  refine hQ h' ⟨q6 TI _ D.TIz D.TIi1 D.TIi2 a,q2,q3,.inr ?_⟩ q4 up
  by_cases g1:a'=z
  ·subst g1
   exact ⟨a',_,true,q1,q1⟩
  by_cases g2:a'=i1
  ·subst g2
   obtain ⟨o,q,_⟩:=q2
   exact ⟨a',o,true,q1,q⟩
  by_cases g3:a'=i2
  ·subst g3
   obtain ⟨o,q,_⟩:=q3
   exact ⟨a',o,true,q1,q⟩
  exact ⟨a',oa,true,q1,q6 a' _ g1 g2 g3 e⟩
theorem uQ(hh:A.handled=none)(D:Ol z TI TO i1 i2 l1 l2)(st:zZ s.heap z TI TO i1 i2 l1 l2 k)(hl1:s.heap.IsList l1 xs)(hl2:s.heap.IsList l2 ys)(he:xs[k]? = none\/ys[k]? = none)(hQ:∀h',(∀c o,c∉[z,TI,TO,i1,i2]->s.heap.get? c=some o->h'.get? c=some o)->Q none { s with heap:=h' }):wpAny (model prog w) A (Se (.ref z)) Q E s:=by
 obtain ⟨a,b,c,d⟩:=st
 rcases d with ⟨d,u,v,e⟩ | ⟨a',oa,fl,d,e⟩
 ·refine wpAny_pyNext_zip_end hh D d a e b c hl1 hl2 he λh' q7=>hQ h' λc o hc q=>?_
  simp only[Aj,Ba,or_false,not_or] at hc
  exact q7 c o hc.1 hc.2.2.1 hc.2.2.2.1 hc.2.2.2.2 q
 ·refine Xc hh D d e a b c hl1 hl2 he λh' q6=>hQ h' λc o hc q=>?_
  simp only[Aj,Ba,or_false,not_or] at hc
  exact q6 c o hc.1 hc.2.2.2.1 hc.2.2.2.2 q
end
section
variable{X:Cx}{pins:List (Addr×Obj)}{σ:L2.St}{H:Hp}{s:Af}{a b:Addr}{v:V}{r:Value}{A:Cq}{E:Value->Af->Prop}{kvs:List (List Iy×V)}{k:List Iy}
theorem iN{Q:Unit->Af->Prop}(hu:A.units+1<cLine)(I:Inv X pins σ H s)(e:H a=some (.dT kvs))(eb:H b=some (.tup (k.map kV)))(l:kvs.length<Aq)(rv:RelV v r)(h:∀s',Inv X pins σ (upd H a (.dT (Mv kvs k v))) s'->(∀c,c≠a->s'.heap.get? c=s.heap.get? c)->(∃o,s'.heap.get? a=some o)->Q () s'):wpAny (model X.prog X.w) A (dictSet a (.ref b) r) Q E s:=by
 obtain ⟨z,hd,xs,rel,dd⟩:=pN I.hok (.inl e)
 have hz:xs.length<=Aq:=by rw[<- Paired.length rel]; exact z
 have hl:(Mv kvs k v).length<=Aq:=by have:=Pn kvs k v; omega
 refine gQ (hz:=hz) (show (Rg _).room A from Nat.lt_of_succ_lt hu) (Yk I.hok eb) dd λh' dd' hs=>?_
 obtain ⟨q,es,ep,hq,h2,h3,h4,_,h5⟩:=dd'
 exact h _ (cB I (by rw[e]; exact Vi) hs ⟨q,hq⟩ ⟨hl,hd,_,(rel.put k eb rv).keeps λc ys ec=>(Co (lP ec e (λz=>nomatch z))).trans ec,q,es,ep,hq,h2,h3,h4,h5⟩) (λc hc=>hs.2 c hc) ⟨q,hq⟩
theorem rV{R:Result->Af->Prop}{z TI TO i1 i2 l1 l2 D:Addr}{xs ys:List V}(hh:A.handled=none)(hu:A.units+2<cLine)(Z:Ol z TI TO i1 i2 l1 l2)(W:Nat->Hp->Prop)(hW:∀i H x y,xs[i]? = some x->ys[i]? = some y->W i H->Kw X.K H l1 xs/\Kw X.K H l2 ys/\∃kvs k p,H D=some (.dT kvs)/\x=.ref p/\H p=some (.tup (k.map kV))/\kvs.length<Aq/\W (i+1) (upd H D (.dT (Mv kvs k y))))(hE:∀H,W (min xs.length ys.length) H->Kw X.K H l1 xs/\Kw X.K H l2 ys)(hR:∀H s',W (min xs.length ys.length) H->Inv X pins σ H s'->R (.ok (.ret .none)) s'):∀n i s H,n=min xs.length ys.length - i->i<=min xs.length ys.length->Inv X pins σ H s->zZ s.heap z TI TO i1 i2 l1 l2 i->(∀c∈[z,TI,TO,i1,i2],Lv X pins H c)->W i H->Mb (model X.prog X.w) A (.builtin "dict.update.loop" ⟨[.ref D,.ref z,Jw (i:Int),.none],[]⟩) R s:=by
 intro n
 induction n with
 | zero =>
  intro i s H hn hi I st hf w0
  have e:i=min xs.length ys.length:=by omega
  subst e
  obtain ⟨q1,q2⟩:=hE H w0
  obtain ⟨its1,rv1,p1,_⟩:=I.list q1
  obtain ⟨its2,rv2,p2,_⟩:=I.list q2
  have hl1:=rv1.length
  have hl2:=rv2.length
  refine Km Oy ?_
  rw[Gn Jo _]
  unfold Builtin.«dict.update.loop»
  refine Ac (uQ (A:=A.in1) hh Z st p1.isList p2.isList ?_ λh' kp=>?_)
  ·by_cases q:xs.length<=min xs.length ys.length
   ·exact .inl (by simp; omega)
   ·exact .inr (by simp; omega)
  have I':=Tj (t':=s.toks) I kp hf
  show wpAny _ _ (Builtin.Dict.addKeywords D [] >>= _) _ _ _
  exact Ac (Bb (Bb (hR _ _ w0 I')))
 | succ n ih =>
  intro i s H hn hi I st hf w0
  have l1:i<xs.length:=by omega
  have l2:i<ys.length:=by omega
  obtain ⟨q1,q2,kvs,k,p,hD,ex,hp,hz,w1⟩:=hW i H _ _ (Am l1) (Am l2) w0
  obtain ⟨its1,rv1,p1,_⟩:=I.list q1
  obtain ⟨its2,rv2,p2,_⟩:=I.list q2
  obtain ⟨u1,hu1,ru1⟩:=rv1.get (Am l1)
  obtain ⟨u2,hu2,ru2⟩:=rv2.get (Am l2)
  rw[ex] at ru1
  cases (show u1=Bf p from ru1)
  refine Km Oy ?_
  rw[Gn Jo _]
  unfold Builtin.«dict.update.loop»
  refine Ac (pK (A:=A.in1) Z st p1.isList p2.isList (x:=.ref p) (y:=u2) (by simpa using hu1) (by simpa using hu2) λh' st' hpr kp=>?_)
  have I':=Tj (t':=s.toks) I kp hf
  have nD:∀c∈[z,TI,TO,i1,i2],c≠D:=λc hc e=>by
   have:=(hf c hc).1
   rw[e,hD] at this
   cases this
  refine Ac (Dh ?_)
  refine Ac (Vs ?_)
  unfold Builtin.Dict.pairItems
  have ty:({ s with heap:=h' }:Af).TypeIs (.ref s.heap.objs.size) "tuple" := ⟨_,hpr,rfl⟩
  refine Ac (Sb ty ?_)
  rw[if_pos (by decide)]
  refine Ac (Og hpr rfl (Bb ?_))
  show wpAny _ _ (Pu [.ref p,u2] (dictSet D (.ref p) u2)) _ _ _
  refine Dh (iN (A:=A.in1) hu I' hD hp hz ru2 λs2 I2 k2 o2=>?_)
  refine Bb ⟨Kd Jo _,?_⟩
  have g:=ih (i+1) s2 _ (by omega) (by omega) I2 (st'.keep k2 o2 nD) (λc hc=>⟨by rw[Co (nD c hc)]; exact (hf c hc).1,(hf c hc).2⟩) w1
  rw[show ((i+1:Nat):Int)=(i:Int)+1 by omega] at g
  exact g
theorem fW{Q:Value->Af->Prop}{z TI TO i1 i2 l1 l2:Addr}{xs ys:List V}{s:Af}{H1:Hp}(hh:A.handled=none)(hu:A.units+8<cLine)(Z:Ol z TI TO i1 i2 l1 l2)(I:Inv X pins σ H1 s)(hz:IsZip s.heap z TI TO .none)(hTI:Si s.heap TI (.ref i1) (.ref i2))(hTO:∃u v,Si s.heap TO u v)(h1:s.heap.IsListIter i1 l1 0)(h2:s.heap.IsListIter i2 l2 0)(hf:∀c∈[z,TI,TO,i1,i2],Lv X pins H1 c)(hq:∀D,H1 D=none->∃W:Nat->Hp->Prop,W 0 (upd H1 D (.dT []))/\(∀i H x y,xs[i]? = some x->ys[i]? = some y->W i H->Kw X.K H l1 xs/\Kw X.K H l2 ys/\∃kvs k p,H D=some (.dT kvs)/\x=.ref p/\H p=some (.tup (k.map kV))/\kvs.length<Aq/\W (i+1) (upd H D (.dT (Mv kvs k y))))/\∀H,W (min xs.length ys.length) H->Kw X.K H l1 xs/\Kw X.K H l2 ys/\∀s',Inv X pins σ H s'->Q (.ref D) s'):wpAny (model X.prog X.w) A (call (.type "dict") [.ref z]) Q E s:=by
 refine callType_codes (Q₁:=λobj s₁=>obj=.ref s.heap.objs.size/\s₁={ s with heap:=s.heap.push { cls:=.type "dict",data:=.dict #[] } }) F.kt_called_dict (F.kt_typeCall_dict_1 _) F.entry_dict_init (kt_code_dict_new _ ⟨rfl,rfl⟩) ?_
 rintro obj s₁ ⟨rfl,rfl⟩
 have fD:H1 s.heap.objs.size=none:=I.hok.fresh (Ai _)
 obtain ⟨W,w0,hW,hE⟩:=hq s.heap.objs.size fD
 have P2:({ s with heap:=s.heap.push { cls:=.type "dict",data:=.dict #[] } }:Af).TypeIs (.ref s.heap.objs.size) "dict" := ⟨_,Bi _ rfl,rfl⟩
 have I3:Inv X pins σ (upd H1 s.heap.objs.size (.dT [])) { s with heap:=s.heap.push { cls:=.type "dict",data:=.dict #[] } } :=
  I.laid (t':=s.toks) (λb u q=>Ae _ q) (Ai _) (fI s.heap I.big)
 have z3:IsZip (s.heap.push { cls:=.type "dict",data:=.dict #[] }) z TI TO .none:=Ae _ hz
 have tyz:({ s with heap:=s.heap.push { cls:=.type "dict",data:=.dict #[] } }:Af).TypeIs (.ref z) "zip" := ⟨_,z3,rfl⟩
 refine ⟨P2,F.args_dict_init_2 _ _,?_⟩
 unfold Builtin.«dict.__init__»
 refine Ac ?_
 unfold Builtin.Dict.selfAndRest
 refine Ac (wpAny_notOrdered_dict P2 ?_)
 show wpAny _ _ (pure (s.heap.objs.size,[Bf z])) _ _ _
 refine Bb ?_
 show wpAny _ _ (Wx "dict.__init__" s.heap.objs.size (.ref z) [] .none) _ _ _
 unfold Wx
 refine Ac (Sb tyz ?_)
 rw[if_pos (by decide)]
 refine Ac (oD (A:=A.in1.in1) hh z3 λh4 t4 kp4 _=>?_)
 simp only[Option.isNone_none,if_true]
 refine Ac (Oh ?_)
 have z4:IsZip h4 z TI TO .none:=kp4 _ _ z3
 refine Ac (wpAny_pyIter_zip z4 ?_)
 have I4:=I3.kept (h':=h4) (t':=t4) kp4
 have up:∀c o,s.heap.get? c=some o->h4.get? c=some o:=λc o q=>kp4 c o (Ae _ q)
 obtain ⟨u,v,hTO⟩:=hTO
 have st4:zZ h4 z TI TO i1 i2 l1 l2 0:=⟨up _ _ hTI,h1.at λo q=>up _ _ q,h2.at λo q=>up _ _ q,.inl ⟨z4,u,v,up _ _ hTO⟩⟩
 have nz:∀c∈[z,TI,TO,i1,i2],c≠s.heap.objs.size:=λc hc=>by
  obtain ⟨o1,e1,_⟩:=h1
  obtain ⟨o2,e2,_⟩:=h2
  simp only[Aj,Ba,or_false] at hc
  rcases hc with rfl | rfl | rfl | rfl | rfl
  ·exact Cf (Bc hz)
  ·exact Cf (Bc hTI)
  ·exact Cf (Bc hTO)
  ·exact Cf (Bc e1)
  ·exact Cf (Bc e2)
 refine Bb ⟨Kd Jo _,?_⟩
 exact rV (A:=A.in1) hh (Hm (Jg (show A.in1.units+2<A.units+8 from by show A.units+1+2<A.units+8; omega)) hu) Z W hW (λH w=>⟨(hE H w).1,(hE H w).2.1⟩) (λH s' w I'=>⟨rfl,(hE H w).2.2 s' I'⟩) _ 0 _ _ rfl (Dj _) I4 st4 (λc hc=>⟨by rw[Co (nz c hc)]; exact (hf c hc).1,(hf c hc).2⟩) w0
end
section
variable{X:Cx}
def rM(K:PySem.W.Frag)(ta:TA):TE:=λσ H Q=>ta σ H λvs H1=>∃l1 l2 xs ys,vs=[.ref l1,.ref l2]/\Kw K H1 l1 xs/\Kw K H1 l2 ys/\∀D,H1 D=none->∃W:Nat->Hp->Prop,W 0 (upd H1 D (.dT [])) /\
   (∀i H x y,xs[i]? = some x->ys[i]? = some y->W i H->Kw K H l1 xs/\Kw K H l2 ys/\∃kvs k p,H D=some (.dT kvs)/\x=.ref p/\H p=some (.tup (k.map kV))/\kvs.length<Aq/\W (i+1) (upd H D (.dT (Mv kvs k y)))) /\
   ∀H,W (min xs.length ys.length) H->Kw K H l1 xs/\Kw K H l2 ys/\Q (.ref D) H
theorem tR{a b:Expr}{ta:TA}{p p2 pos pos2:Pos}(hgd:Gl X "dict")(hmd:X.mg "dict" = none)(hg:Gl X "zip")(hm:X.mg "zip" = none)(hc:X.calm=true)(hu:X.A.units+64<cLine)(ha:PA X [a,b] ta)(hs:Bo [a,b] X.env=(false,eval a X.env)::Bo [b] X.env:=by rfl)(hp:(Gx pos (Bo [b] X.env)).any (·.1)=false:=by rfl):PE X (.Call (.Name "dict" p2) [.Call (.Name "zip" p) [a,b] [] pos] [] pos2) (rM X.K ta):=by
 intro pins s σ H R I h
 refine Call_ (Pd I hgd hmd (u:=.type "dict") (by decide +kernel) (Fg ?_ rfl rfl))
 show wpAny _ _ (spliced ((false,eval (.Call (.Name "zip" p) [a,b] [] pos) X.env)::Gx pos2 (Bo [] X.env))) _ _ s
 refine Uc ?_
 refine Call_ (Pd I hg hm (u:=.type "zip") (by decide +kernel) (Fg (Gk (ha pos pins s σ H _ I h) λus s1 ⟨vs,H1,I1,r1,q1⟩=>?_) hs hp))
 obtain ⟨l1,l2,xs,ys,e,hq1,hq2,q⟩:=q1
 subst e
 obtain ⟨u1,u2,rfl,ru1,ru2⟩:=vals2 r1
 cases ru1
 cases ru2
 obtain ⟨its1,rv1,pl1,hz1⟩:=I1.list hq1
 obtain ⟨its2,rv2,pl2,hz2⟩:=I1.list hq2
 have hlt1:l1<s1.heap.objs.size:=let ⟨o,q,_⟩:=pl1.isList; Bc q
 have hlt2:l2<s1.heap.objs.size:=let ⟨o,q,_⟩:=pl2.isList; Bc q
 refine call_zip_2 pl1.isList pl2.isList λh2 hz hTI hTO hi1 hi2 hsz hk=>?_
 have fr1:∀n,Lv X pins H1 (s1.heap.objs.size+n):=λn=>I1.fpOk (Ox _ _) (I1.hok.fresh (Ox _ _))
 have fr:∀c∈[s1.heap.objs.size+4,s1.heap.objs.size+2,s1.heap.objs.size+3,s1.heap.objs.size,s1.heap.objs.size+1],Lv X pins H1 c:=λc hc=>by
  simp only[Aj,Ba,or_false] at hc
  rcases hc with rfl | rfl | rfl | rfl | rfl
  ·exact fr1 4
  ·exact fr1 2
  ·exact fr1 3
  ·exact fr1 0
  ·exact fr1 1
 refine Vy ?_
 refine fW (xs:=xs) (ys:=ys) (I.ok.hd hc) (by omega) (oH _ _ _ hlt1 hlt2) (I1.kept (t':=s1.toks) hk) hz hTI ⟨_,_,hTO⟩ hi1 hi2 fr λD hD=>?_
 obtain ⟨W,w0,hW,hE⟩:=q D hD
 exact ⟨W,w0,hW,λH w=>⟨(hE H w).1,(hE H w).2.1,λs' I'=>⟨.ref D,H,I',rfl,(hE H w).2.2⟩⟩⟩
end
end Nd
namespace DL
open PySem PySem.Spec PyProof.Rows L2 Nd
def Of(acc:List (List Int×Ad))(l:List (List Int×Ad)):List (List Int×Ad):=l.foldl (λa p=>Pc a p.1 p.2) acc
def dO(xs:List DV)(δ:DS)(P:DV->DS->Prop):Prop:=match xs with
 | [.dat _ (.list ds),.dat _ (.list es)]=>ds.length<=1000000/\Du es=true/\∃ws:List (List Int),ds=ws.map Cn/\P (.dat .ow (.dict (Ua (Of [] (ws.zip es))))) δ
 | _=>False
def iV(da:DA):DE:=λδ P=>da δ λxs δ'=>dO xs δ' P
theorem aB:∀(l:List (List Int×Ad)) (acc:List (List Int×Ad)),(Of acc l).length<=acc.length+l.length
 | [],acc=>Ai _
 | p::l,acc=>by
  have h1:=aB l (Pc acc p.1 p.2)
  have h2:=pQ acc p.1 p.2
  show (Of (Pc acc p.1 p.2) l).length<=_
  rw[Bt]
  omega
theorem iZ{ws:List (List Int)}{es:List Ad}{i:Nat}{w:List Int}{e:Ad}(h1:ws[i]? = some w)(h2:es[i]? = some e):Of [] ((ws.zip es).take (i+1))=Pc (Of [] ((ws.zip es).take i)) w e:=by
 have hz:(ws.zip es)[i]? = some (w,e):=by
  rw[List.getElem?_zip_eq_some]
  exact ⟨h1,h2⟩
 rw[Nk,hz]
 unfold Of
 rw[List.foldl_append]
 rfl
section
variable{X:Cx}{a b:Expr}{da:DA}{p p2 pos pos2:Pos}
theorem oZ{K:PySem.W.Frag}:∀σ H Q,LE K (iV da) σ H Q->rM K (LA K da) σ H Q:=by
 intro σ H Q h
 obtain ⟨H0,Y,S,T,δ,P,rfl,hS,hA,hd,k⟩:=h
 refine ⟨H0,Y,S,T,δ,_,rfl,hS,hA,hd,λxs δ' As us S' H' e1 e2 ex eu hA' p=>?_⟩
 unfold dO at p
 split at p
 ·rename_i m ds m' es
  obtain ⟨hl,im,ws,rfl,pk⟩:=p
  obtain ⟨v,F,w,G,rfl,hA2⟩:=Xx eu hA' ex
  obtain ⟨a,xs,G1,rfl,ha,ra,rfl,hz⟩:=(hA2.told mem_mid).list_inv
  obtain ⟨b,ys,G2,rfl,hb,rb,rfl,hz2⟩:=(hA2.told Er).list_inv
  refine ⟨a,b,xs,ys,rfl,Kw.of ha,Kw.of hb,λD hD=>?_⟩
  have hz3:=lI (n:=1000000) (Ai _)
  have nDa:a≠D:=λz=>by rw[z,hD] at ha; cases ha
  have nDb:b≠D:=λz=>by rw[z,hD] at hb; cases hb
  have l1:ws.length=xs.length:=by have:=ra.len; rw[Ab] at this; exact this.symm
  have l2:=rb.len
  refine ⟨λi H=>H a=some (.lst xs)/\H b=some (.lst ys)/\At K H0 Y δ'.n (⟨some (.ref D),.dT (sY (Of [] ((ws.zip es).take i))),[D]⟩::(S'++(⟨some (.ref a),.dat m (.list (ws.map Cn)),a::G1⟩::⟨some (.ref b),.dat m' (.list es),b::G2⟩::T))) H,⟨?_,?_,?_⟩,?_,?_⟩
  ·rw[Co nDa]; exact ha
  ·rw[Co nDb]; exact hb
  ·exact hA2.dNew hD
  ·(intro i H x y hx hy q_; obtain ⟨h1,h2,hA3⟩ := q_)
   have li:=(Ak.mp hx).1
   have li2:=(Ak.mp hy).1
   obtain ⟨a2,xs2,F2,ea,ha2,ra2,_,_⟩:=(hA3.told (Ag _ mem_mid)).list_inv
   cases ea
   rw[h1] at ha2
   cases ha2
   obtain ⟨b2,ys2,F3,eb,hb2,rb2,_,_⟩:=(hA3.told (Ag _ Er)).list_inv
   cases eb
   rw[h2] at hb2
   cases hb2
   have e1:ws[i]? = some (ws[i]'(by omega)):=Am _
   have e2:es[i]? = some (es[i]'(by omega)):=Am _
   obtain ⟨x',Fx,g1,g2,_⟩:=ra2.get (by rw[Az,e1]; rfl)
   rw[hx] at g1
   cases g1
   obtain ⟨p,rfl,hp⟩:=Wn g2
   obtain ⟨y',Fy,g3,g4,_⟩:=rb2.get e2
   rw[hy] at g3
   cases g3
   obtain rfl:=g4.imm (jE.mp im _ (Au e2))
   obtain ⟨kv,q1,q2,q3⟩:=hA3.dPut (w:=ws[i]'(by omega)) g4
   refine ⟨Kw.of h1,Kw.of h2,kv,Jy _,p,q1,rfl,hp,?_,?_,?_,?_⟩
   ·have:=aB ((ws.zip es).take i) []
    rw[Cp] at this
    rw[Ab] at hl
    rw[q2]
    show _<Aq
    have h0:([]:List (List Int×Ad)).length=0:=rfl
    omega
   ·rw[Co nDa]; exact h1
   ·rw[Co nDb]; exact h2
   ·rw[iZ e1 e2]
    exact q3
  ·(intro H q_; obtain ⟨h1,h2,hA3⟩ := q_)
   refine ⟨Kw.of h1,Kw.of h2,k _ δ' _ [D] S' H e1 e2 ?_ pk⟩
   have et:(ws.zip es).take (min xs.length ys.length)=ws.zip es:=Dx (by rw[List.length_zip]; omega)
   rw[et] at hA3
   have hA4:=hA3.dGot
   exact (hA4.sub (((Ef S').append ((Ef T).cons _ |>.cons _)).cons₂ _)).tomid
 ·exact p.elim
theorem Sr(hu:X.A.units+64<cLine)(hgd:Gl X "dict")(hmd:X.mg "dict" = none)(hg:Gl X "zip")(hm:X.mg "zip" = none)(hc:X.calm=true)(ha:lS X [a,b] da)(hs:Bo [a,b] X.env=(false,eval a X.env)::Bo [b] X.env:=by rfl)(hp:(Gx pos (Bo [b] X.env)).any (·.1)=false:=by rfl):Fi X (.Call (.Name "dict" p2) [.Call (.Name "zip" p) [a,b] [] pos] [] pos2) (iV da):=PE.imp (tR hgd hmd hg hm hc hu ha hs hp) oZ
end
end DL
namespace Nd
open PySem PySem.Spec PyProof.Rows L2
end Nd
namespace DL
open PySem PySem.Spec PyProof.Rows L2 Nd
end DL
namespace Nd
open PySem PySem.Spec PyProof.Rows L2
end Nd
namespace DL
open PySem PySem.Spec PyProof.Rows L2 Nd
end DL
namespace Ts
open PySem PyProof.Rows L2
def Io(h h':Heap):Prop:=∀b o,h.get? b=some o->h'.get? b=some o
theorem Io.trans{a b c:Heap}(x:Io a b)(y:Io b c):Io a c:=λi o e=>y i o (x i o e)
def z0(x y:Keyed):Bool:=decide (numOf x.1<numOf y.1)
section
variable{prog:Bu}{w:World}{A:Cq}{E:Value->Af->Prop}{s:Af}
theorem rH:Cmp prog w A s Rh (λx=>∃n t,x.1=.int n t) z0 where
 run:=λx y Q E ⟨n,t,ex⟩ ⟨n',t',ey⟩ h=>by
  obtain ⟨x1,x2⟩:=x
  obtain ⟨y1,y2⟩:=y
  simp only at ex ey
  subst ex ey
  rw[keyLt'_oneType]
  exact wZ h
 irr:=λx=>by simp [z0]
 tr:=λx y z h1 h2=>by simp only[z0,decide_eq_true_eq] at *; omega
 neg:=λx y z h=>by simp only[z0,decide_eq_true_eq] at *; omega
variable{a kS:Addr}{vs:List Value}{kz:List Int}{P:PySem.Fin->Af->Prop}
structure Fresh2(h0:Heap)(h:Heap)(a kS:Addr)(keys:Array Value)(e1:Nat):Prop where
 keep:Io h0 h
 na:h0.get? a=none
 nk:h0.get? kS=none
 ne:kS≠a
 ga:h.get? a=some (Dc "list" #[] e1)
 gk:∃e,h.get? kS=some (Dc "list" keys e)
theorem Tq{h0 h:Heap}{b:Addr}{f:Obj->Obj}(k:Io h0 h)(n:h0.get? b=none):Io h0 (h.update b f):=λi o e =>
 ((Cv h b f).2 i (λz=>by rw[z,n] at e; cases e)).trans (k i o e)
theorem yK{h0:Heap}{keys:Array Value}{e1:Nat}{st:Bq}(F:Fresh2 h0 s.heap a kS keys e1)(hk:Ig keys.toList kz)(hlen:kz.length=vs.length)(hz:vs.length<Aq)(hp:(arrOf st).Perm (keys.zip vs.toArray))(hs:SortedTo (arrOf st) (arrOf st).size)(hf:Jm st=none)(h:∀h' tk out c,Io h0 h'->h'.get? a=some (Dc "list" out c)->KskOut false kz vs out.toList->P (.done (.ret .none)) { s with heap:=h',toks:=tk }):wpAny (model prog w) A (ksk_tail a false e1 (.ref kS) st) P E s:=by
 obtain ⟨ek,gk⟩:=F.gk
 have l1:=hk.length
 rw[Ax] at l1
 have vz:vs.toArray.size=vs.length:=Al
 have l2:(arrOf st).size=vs.length:=by rw[hp.size_eq,Array.size_zip,vz]; omega
 have ga:(s.heap.update kS (Cu λ_=>(#[]:Array Value))).get? a=some (Dc "list" #[] e1):=((Cv s.heap kS _).2 a F.ne.symm).trans F.ga
 have out:=ksk_out (b:=false) hk hp hs
 rw[if_neg Bx] at out
 obtain ⟨c2,g2⟩ : ∃c2,((s.heap.update kS (Cu λ_=>(#[]:Array Value))).update a (Cu λ_=>(arrOf st).map (·.2))).get? a=some (Dc "list" ((arrOf st).map (·.2)) c2):=⟨_,Kl ga λ_=>(arrOf st).map (·.2)⟩
 unfold ksk_tail
 dsimp only
 refine Ac (Ke gk rfl ?_ (by omega) (Dj _))
 refine Ac (Vt (Ac (Vu ga rfl (Ac (Ke ga rfl ?_ (Dj _) ?_)))))
 ·rw[hf]
  simp only[bne_self_eq_false,By,if_false]
  exact Bb (h _ _ _ c2 (Tq (Tq F.keep F.nk) F.na) g2 out)
 ·simp only[By,if_false,Array.size_map]
  omega
theorem Q2{h0:Heap}{keys:Array Value}{e1:Nat}(F:Fresh2 h0 s.heap a kS keys e1)(hk:Ig keys.toList kz)(hlen:kz.length=vs.length)(hz:vs.length<Aq)(h:∀h' tk out c,Io h0 h'->h'.get? a=some (Dc "list" out c)->KskOut false kz vs out.toList->P (.done (.ret .none)) { s with heap:=h',toks:=tk }):wpAny (model prog w) A (ksk_end a false vs.toArray e1 (.ref kS) keys) P E s:=by
 have l1:=hk.length
 rw[Ax] at l1
 have vz:vs.toArray.size=vs.length:=Al
 have l2:(keys.zip vs.toArray).size=vs.length:=by rw[Array.size_zip,vz]; omega
 unfold ksk_end
 dsimp only
 rw[if_neg Bx]
 by_cases h2:vs.toArray.size<2
 ·rw[if_pos h2,if_pos h2]
  refine Ac (Bb ?_)
  rw[StateT.run_pure]
  refine Ac (Bb ?_)
  refine yK F hk hlen hz (Array.Perm.refl _) (λi j hij hj=>?_) rfl h
  have hj':j<(keys.zip vs.toArray).size:=hj
  rw[l2] at hj'
  rw[Al] at h2
  obtain rfl:i=j:=by omega
  exact Fu _
 ·rw[if_neg h2,if_neg h2]
  rw[Al] at h2
  rw[ksk_kind hk (by omega)]
  refine Ac (Bb ?_)
  refine Ac (En (aZ rH (a₀:=keys.zip vs.toArray) (st:=Tw Rh (keys.zip vs.toArray) #[] 7 none) (E:=E)
   (Q:=λ_ st'=>Good0 Rh (keys.zip vs.toArray) st'/\Ov z0 (arrOf st') 0 (keys.zip vs.toArray).size) ⟨rfl,rfl,Array.Perm.refl _⟩ (ksk_intKeys hk) rfl (by omega) λst' g as=>⟨g,as⟩) ?_ λ_ _ z=>z)
  (rintro ⟨⟨⟩,st'⟩ s' q_; obtain ⟨rfl,g,as⟩ := q_)
  refine yK F hk hlen hz g.perm (λi j hij hj=>?_) g.fail h
  rw[g.size] at hj
  have q:=as i j (Dj _) hij hj
  unfold le z0 at q
  have xi:∀k,k<(arrOf st').size->K (arrOf st') k=numOf (X (arrOf st') k).1:=λk hk=>by
   rw[K_eq hk]
   have e1:=Uj (xs:=arrOf st') (i:=k) hk
   rw[Array.getElem?_eq_getElem hk] at e1
   rw[Bj e1]
  have gs:(arrOf st').size=_:=g.size
  have hj0:j<(arrOf st').size:=by rw[gs]; exact hj
  refine Eq.symm (xi i (by omega))▸Eq.symm (xi j hj0)▸?_
  simp only[decide_eq_false_iff_not] at q
  omega
theorem K9{f:Value}{h0:Heap}{e1:Nat}(F:Fresh2 h0 s.heap a kS #[] e1)(hlen:kz.length=vs.length)(hz:vs.length<Aq)(turn:∀(i:Nat) (v:Value) (k:Int),vs[i]? = some v->kz[i]? = some k->∀(h:Heap) (tk:Nat),Io h0 h->∀R:Value->Af->Prop,(∀t h2 tk2,Io h h2->R (.int k t) { s with heap:=h2,toks:=tk2 })->wpAny (model prog w) A (call f [v]) R (λ_ _=>False) { s with heap:=h,toks:=tk })(h:∀h' tk out c,Io h0 h'->h'.get? a=some (Dc "list" out c)->KskOut false kz vs out.toList->P (.done (.ret .none)) { s with heap:=h',toks:=tk }):wpAny (model prog w) A (ksk_rest a f false vs.toArray e1 (.ref kS)) P E s:=by
 unfold ksk_rest
 refine Ac (Oh ?_)
 rw[<- Ud]
 simp only[List.toList_toArray]
 refine Ac (ksk_fold (λi s'=>∃h' tk kA,s'={ s with heap:=h',toks:=tk }/\Fresh2 h0 h' a kS kA e1/\Ig kA.toList (kz.take i)) vs 0 s ⟨s.heap,s.toks,#[],rfl,F,by simpa using IntsAre.nil⟩ ?_ ?_)
 ·(intro j x s' hx q_; obtain ⟨h',tk,kA,rfl,F',hk⟩ := q_)
  simp only[Mq] at hk ⊢
  have hj:j<vs.length:=(Ak.mp hx).1
  obtain ⟨k,hkj⟩ : ∃k,kz[j]? = some k:=⟨_,Am (by omega)⟩
  have l1:=hk.length
  rw[Ax,Cp] at l1
  refine Ac (Qp (En (turn j x k hx hkj h' tk F'.keep (λv s''=>∃t h2 tk2,v=.int k t/\s''={ s with heap:=h2,toks:=tk2 }/\Io h' h2) λt h2 tk2 q=>⟨t,h2,tk2,rfl,rfl,q⟩) (λv s'' q=>?_) λ_ _ z=>z.elim))
  obtain ⟨t,h2,tk2,rfl,rfl,q⟩:=q
  dsimp only
  obtain ⟨ek,gk⟩:=F'.gk
  have gk2:=q _ _ gk
  refine Ac (Ke gk2 rfl ?_ (by omega) (by rw[Array.size_push]; omega))
  refine Bb ⟨rfl,_,_,kA.push (.int k t),rfl,⟨Tq (F'.keep.trans q) F'.nk,F'.na,F'.nk,F'.ne,((Cv h2 kS _).2 a F'.ne.symm).trans (q _ _ F'.ga),_,Kl gk2 (·.push (.int k t))⟩,?_⟩
  have e1:kz.take (j+1)=kz.take j++[k]:=by rw[Nk,hkj]; rfl
  rw[Kg,e1]
  exact ksk_snoc hk
 ·(intro s' q_; obtain ⟨h',tk,kA,rfl,F',hk⟩ := q_)
  rw[Mq,Dx (by omega)] at hk
  obtain ⟨ek,gk⟩:=F'.gk
  refine Ac (bF gk rfl ?_)
  exact Q2 (s:={ s with heap:=h',toks:=tk }) F' hk hlen hz λh3 tk3 out c a1 a2 a3=>h h3 tk3 out c a1 a2 a3
end
end Ts
namespace DL
open PySem PySem.Spec PyProof.Rows L2 Nd Ts
end DL
namespace DL
open PySem PySem.Spec PyProof.Rows L2 Nd
end DL
namespace Nd
open PySem PySem.Spec PyProof.Rows L2
def G3(bt:Nat->Nat->Bool)(P:Nat->Value->Prop)(j:Nat)(its:Array Value):Prop:=(j=0/\its=#[])\/∃i v,j=i+1/\P (argBest bt i) v/\its=#[v,v]
section
variable{prog:Bu}{w:World}{A:Cq}{R:Result->Af->Prop}{I:Addr}{fp wr:List Addr}{n:Nat}{P:Nat->Value->Prop}{St:Nat->Heap->Prop}
theorem mM(W:Walks prog w A.in1 I fp wr n P St)(bt:Nat->Nat->Bool)(hcmp:CmpOf prog w A.in1 .Gt P bt)(S:Addr)(hSf:S∉fp)(d:Value):∀(k j:Nat) (s:Af) (its:Array Value) (c:Nat),n - j=k->j<=n->St j s.heap->G3 bt P j its->s.heap.get? S=some { cls:=.type "list",dict:=none,data:=.seq its c,slots:=#[] }->(∀v h' tk,(n=0->v=d)->(0<n->P (argBest bt (n - 1)) v)->(∀b o,b∉wr->b≠S->s.heap.get? b=some o->h'.get? b=some o)->R (.ok (.ret v)) { s with heap:=h',toks:=tk })->Mb (model prog w) A (.builtin "max.loop" ⟨[.ref I,.none,.ref S],[("default",d)]⟩) R s:=by
 have hSw:S∉wr:=λh=>hSf (W.sub _ h)
 have nm:(toString "max" ++ toString ".loop" : String) = "max.loop" := by decide
 intro k
 induction k with
 | zero =>
  intro j s its c hk hj hst hP hS hR
  have e:j=n:=by omega
  subst e
  refine Km PySem.F.entry_max_loop ?_
  rw[Gn PySem.F.plain_max_loop _]
  refine Ac (m:=seqItems? (.ref S)) (Og hS rfl ?_)
  refine Ac (m:=tryCatch (Se (.ref I)) _) (Vs (W.done s _ _ hst λh' tk kp=>?_))
  rcases hP with ⟨z,rfl⟩ | ⟨i,v,z,pv,rfl⟩
  ·exact Ac (Oh (Bb (hR d h' tk (λ_=>rfl) (λq=>absurd q (by omega)) λb o h1 _ e=>kp b o h1 e)))
  ·refine Ac (m:=updateSeq S (λ_=>#[])) (wpAny_updateSeq (kp S _ hSw hS) rfl (Ac (Vt (Bb ?_))))
   exact hR v _ tk (λq=>by omega) (λ_=>by subst z; exact pv) λb o h1 h2 e=>(Ez _ _ (Ln h2)).trans (kp b o h1 e)
 | succ k ih =>
  intro j s its c hk hj hst hP hS hR
  have hlt:j<n:=by omega
  refine Km PySem.F.entry_max_loop ?_
  rw[Gn PySem.F.plain_max_loop _]
  refine Ac (m:=seqItems? (.ref S)) (Og hS rfl ?_)
  refine Ac (m:=tryCatch (Se (.ref I)) _) (Vs (W.item j s _ _ hlt hst λv h' tk pv hst' kp=>?_))
  have hS':=kp S _ hSw hS
  rcases hP with ⟨z,rfl⟩ | ⟨i,vb,z,pb,rfl⟩
  ·subst z
   refine Ac (m:=updateSeq S (λ_=>#[v,v])) (wpAny_updateSeq hS' rfl ?_)
   rw[nm]
   refine Bb ⟨Kd PySem.F.plain_max_loop _,ih 1 _ #[v,v] _ (by omega) (by omega) (W.frame _ _ _ hst' λb hb o e=>?_) (.inr ⟨0,v,rfl,pv,rfl⟩) (Gg _ hS' rfl) λv' h2 tk2 q1 q2 q3=>?_⟩
   ·exact (Ez _ _ (λh:S=b=>hSf (by rw[h]; exact hb))).trans e
   ·exact hR v' h2 tk2 q1 q2 λb o h1 h3 e=>q3 b o h1 h3 ((Ez _ _ (Ln h3)).trans (kp b o h1 e))
  ·subst z
   refine Ac (m:=tryCatch (Pu [v,v] (richCompare .Gt v vb >>= _)) _) (Vs (Dh (Ac (hcmp (i+1) (argBest bt i) v vb _ _ _ pv pb ?_))))
   refine Ac (Dh (Gy (Ac (Vt (Bb ?_)))))
   cases hb:bt (i+1) (argBest bt i) with
   | true =>
    simp only[if_true]
    refine Ac ?_
    refine wpAny_updateSeq hS' rfl (Ac (Vt ?_))
    rw[nm]
    refine Bb ⟨Kd PySem.F.plain_max_loop _,ih (i+2) _ #[v,v] _ (by omega) (by omega) (W.frame _ _ _ hst' λb hb o e=>?_) (.inr ⟨i+1,v,rfl,by simp only[argBest,hb,if_true]; exact pv,rfl⟩) (Gg _ hS' rfl) λv' h2 tk2 q1 q2 q3=>?_⟩
    ·exact (Ez _ _ (λh:S=b=>hSf (by rw[h]; exact hb))).trans e
    ·exact hR v' h2 tk2 q1 q2 λb o h1 h3 e=>q3 b o h1 h3 ((Ez _ _ (Ln h3)).trans (kp b o h1 e))
   | false =>
    simp only[By,if_false]
    refine Ac (Vt ?_)
    rw[nm]
    refine Bb ⟨Kd PySem.F.plain_max_loop _,ih (i+2) _ #[vb,vb] c (by omega) (by omega) hst' (.inr ⟨i+1,vb,rfl,by simp only[argBest,hb,By,if_false]; exact pb,rfl⟩) hS' λv' h2 tk2 q1 q2 q3=>?_⟩
    exact hR v' h2 tk2 q1 q2 λb o h1 h3 e=>q3 b o h1 h3 (kp b o h1 e)
end
theorem nP(a v:Value):argsOk "max" ⟨[a],[(Kr "default",v)]⟩:=by unfold argsOk; kernel_rfl
section
variable{X:Cx}{pins:List (Addr×Obj)}{σ:List (Option V)}{H:Hp}{s:Af}
def rO(K:PySem.W.Frag):V->V->Hp->VK->Prop:=λx d H Q=>∃(a:Addr) (ns:List Int),x=.ref a/\Kw K H a (ns.map V.int)/\(ns=[]->Q d H)/\∀M∈ns,(∀x∈ns,x<=M)->Q (.int M) H
theorem mI(hc:X.calm=true){x d:V}{u ud:Value}{Q:VK}(I:Inv X pins σ H s)(ru:RelV x u)(rd:RelV d ud)(h:rO X.K x d H Q):wpAny (model X.prog X.w) X.A (call (.builtin "max") [u] [(Kr "default",ud)]) (EP X pins σ Q) X.xe s:=by
 obtain ⟨p,ns,rfl,hp,q0,q⟩:=h
 cases ru
 obtain ⟨its,rv,pl,_⟩:=I.list hp
 obtain ⟨ps,rfl,rfl⟩:=Ls rv
 have hl:s.heap.IsList p (Lc ps.toArray):=by simpa [Lc] using pl.isList
 have nm:(toString "max" ++ toString ".loop" : String) = "max.loop" := by decide
 refine kmb_tree PySem.F.kind_max PySem.F.plain_max PySem.F.entry_max (nP _ _) ?_
 refine Ac (m:=Ri "max" ["key", "default"] 0 ⟨[],[(Kr "default",ud)]⟩) (wpAny_of_eq (show Ri "max" ["key", "default"] 0 ⟨[],[(Kr "default",ud)]⟩=pure [none,some ud] from rfl) ?_)
 refine Ac (Bb (Ac (iter_intList hl λs₂ e st hfp hlI=>?_)))
 subst e
 refine Ac (Gz ?_)
 rw[nm]
 have W:=Walks.list (prog:=X.prog) (w:=X.w) (A:=X.A.in1) (I.ok.hd hc) s.heap.objs.size p hlI (Lc ps.toArray)
 have nf:=λhm=>Ex _ (hfp _ hm)
 refine Bb ⟨Kd PySem.F.plain_max_loop _,mM W _ (CmpOf.ints_gt (numAt ps.toArray) (λ_ _=>intItems_at)) _ nf ud _ 0 _ #[] _ rfl (Dj _) (W.frame _ _ _ st λb _ o e=>Ae _ e) (.inl ⟨rfl,rfl⟩) (Bi _ rfl) λv h' tk q1 q2 q3=>?_⟩
 have kept:∀b o,s.heap.get? b=some o->h'.get? b=some o:=λb o e=>by
  have hb:=Bc e
  refine q3 b o (λz=>?_) (λz=>?_) (Ae _ (Ae _ e))
  ·rw[Ah.mp z] at hb
   exact Ex _ hb
  ·rw[z,Heap.size_push] at hb
   exact Ex _ (Nat.lt_of_succ_lt hb)
 have sz:(Lc ps.toArray).size=ps.length:=by simp [Lc]
 cases ps with
 | nil=>exact ⟨d,H,I.kept kept,by rw[q1 (by rw[sz]; rfl)]; exact rd,q0 rfl⟩
 | cons y ps =>
  have hv:=q2 (by rw[sz]; exact Nat.succ_pos _)
  rw[sz] at hv
  obtain ⟨t,rfl⟩:=intItems_at hv
  obtain ⟨h1,h2⟩:=argBest_gt (numAt (y::ps).toArray) ((y::ps).length - 1)
  refine ⟨.int _,H,I.kept kept,⟨t,rfl⟩,q _ ?_ λx hx=>?_⟩
  ·rw[numAt_eq]; exact getD_mem (by rw[Ab]; show _<(y::ps).length; have:=Bt (a:=y) (as:=ps); omega)
  ·obtain ⟨j,hj,rfl⟩:=mem_getD hx
   rw[Ab] at hj
   have:=h2 j (by have hj':j<(y::ps).length:=hj; omega)
   rw[numAt_eq (y::ps).toArray j] at this
   exact this
end
end Nd
namespace DL
open PySem PySem.Spec PyProof.Rows L2 Nd
section
variable{X:Cx}{e:Expr}{t:TA}{p1 kp cp pos:Pos}{k:Int}{j:Nat}
theorem xB(hc:X.calm=true)(hg:Gl X "max")(hm:X.mg "max" = none)(ha:PA X [e] t)(hs:Bo [e] X.env=[(false,eval e X.env)]:=by rfl):PE X (.Call (.Name "max" p1) [e] [⟨some "default",.Constant (.int k) j cp,kp⟩] pos) (M3 (λxs H Q=>∃x,xs=[x]/\rO X.K x (.int k) H Q) t):=by
 intro pins s σ H Q I h
 refine Gp (Pd I hg hm (u:=.builtin "max") (by decide +kernel) ?_)
 refine Wf (Gk (ha pos pins s σ H _ I h) λus s1 ⟨vs,H1,I1,r1,q1⟩=>?_) (by rw[hs]; rfl) (by rw[hs]; rfl)
 obtain ⟨x,rfl,q⟩:=q1
 obtain ⟨u,rfl,ru⟩:=vals1 r1
 refine kws_cons (wpAny_Constant_int (kws_nil ?_))
 exact mI (d:=.int k) hc (I1.tok _) ru ⟨_,rfl⟩ q
end
def bI(k:Int):DC:=λxs P=>match xs with
 | [.dat _ (.list ds)]=>∃ns:List Int,ds=ns.map An/\(ns=[]->P (.dat .ow (.int k)))/\∀M∈ns,(∀x∈ns,x<=M)->P (.dat .ow (.int M))
 | _=>False
section
variable{K:PySem.W.Frag}{k:Int}
theorem vA:Mj K (λxs H Q=>∃x,xs=[x]/\rO K x (.int k) H Q) (bI k):=by
 intro H0 X n S T As us H Q P eu hA hd kk
 unfold bI at hd
 split at hd
 ·rename_i ex
  obtain ⟨v,F,rfl,hA⟩:=Fq eu hA ex
  obtain ⟨ns,rfl,h0,h1⟩:=hd
  obtain ⟨a,xs,G,rfl,ha,ra,rfl,hz⟩:=(hA.told mem_mid).list_inv
  obtain ⟨rfl,_⟩:=ra.ints_inv
  exact ⟨_,rfl,a,ns,rfl,Kw.of ha,λz=>kk _ _ [] H (hA.drop.pushI (.int _)) (h0 z),λM hM hle=>kk _ _ [] H (hA.drop.pushI (.int _)) (h1 M hM hle)⟩
 ·exact hd.elim
variable{X:Cx}{e:Expr}{da:DA}{p1 kp cp pos:Pos}{j:Nat}
theorem wD(hc:X.calm=true)(hg:Gl X "max")(hm:X.mg "max" = none)(ha:lS X [e] da)(hs:Bo [e] X.env=[(false,eval e X.env)]:=by rfl):Fi X (.Call (.Name "max" p1) [e] [⟨some "default",.Constant (.int k) j cp,kp⟩] pos) (B5 (bI k) da):=PE.imp (xB hc hg hm ha hs) (rS vA)
end
theorem uR{a b:Addr}{x y:List (List Int×Ad)}(h:o7 a x=o7 b y):a=b/\x=y:=by
 obtain ⟨h1,h2⟩:=Ei h
 refine ⟨Int.ofNat.inj (PyData.int.inj (Prod.mk.inj h1).2),?_⟩
 refine Tc (λx y e=>?_) h2
 obtain ⟨e1,e2⟩:=Prod.mk.inj e
 exact Prod.ext (Pe e1) e2
def wI:D2:=λx y P=>match x,y with
 | .dat _ (.dict X),.dat _ k=>∃a ks w d,X=o7 a ks/\k=Cn w/\Td ks w=some d/\P (.dat .ow d)
 | _,_=>False
end DL
namespace Nd
open PySem PySem.Spec PySem.Calls PyProof.Rows PyProof.V L2 Ts
theorem Zt{pos:Pos}{a b:Int}{c v:Value}(l:List Value):TriplesOk l->Od pos (l++[Jw a,Jw b,c])=some v->Od pos l=some v\/v=c:=by
 fun_induction TriplesOk l with
 | case1 =>
  intro _ e
  simp only[List.nil_append,Od,Jw] at e
  split at e
  ·exact .inr (Bj e).symm
  ·simp [Od] at e
 | case2 a' t b' u x Gq ih =>
  intro h e
  simp only[He,Od] at e ⊢
  split at e
  ·rename_i hc; rw[if_pos hc]; exact .inl e
  ·rename_i hc; rw[if_neg hc]; exact ih h e
 | case3 l h1 h2=>intro h; exact h.elim
section
variable{X:Cx}{pins:List (Addr×Obj)}{σ:List (Option V)}{H:Hp}{s:Af}
theorem u6{x:Str}{c P:Addr}{params:Rk}{body:Expr}{scope:Scope}{pos:Pos}{clos:List (Str×Addr)}{Q:Value->Af->Prop}(I:Inv X pins σ H s)(hx:x∈Nc)(ht:PySem.W.tabIn X.K x=some (c,P))(hcode:X.env.code=.ref c)(hq:X.env.qual ++ "<lambda>" = Zv x)(hdef:defaultsOf params X.env=([],[]))(hcl:Zf scope X.env=pure clos)(h:∀(f c':Addr) (pm ctv:Value) (H1:Hp) (s1:Af),Inv X pins σ H1 s1->Kt H H1->s1.heap.get? f=some (PySem.W.kla_obj "<lambda>" (Zv x) params body scope clos pm c' ctv)->s1.heap.CodeRec (.ref c') (Zv x)->Q (.ref f) s1):wpAny (model X.prog X.w) X.A (eval (.Lambda params body scope pos) X.env) Q X.xe s:=by
 obtain ⟨C0,B0,ps,t0,hP,hps⟩:=(I.ok.tab.un I.base) x hx c P ht
 obtain ⟨qs,gP,tri,each⟩:=(show Il X.prog X.w H s.heap P (.tbl ps) from I.hok P _ hP)
 have C:=C0.keeps I.bk
 have B:s.heap.BuiltinsAt X.mg P:=by
  obtain ⟨bm,o,b1,b2,b3,b4,b5,r⟩:=B0
  exact ⟨bm,o,b1,b2,b3,b4,I.bk _ _ b5,r⟩
 have G:s.heap.Ns Ce X.mg:=I.mod.glob.keeps I.bk
 refine PySem.W.kla_eval hdef ?_
 rw[hq]
 cases hf:Od pos qs.toList with
 | some cv =>
  obtain ⟨c1,oc,us,q,t,t1,rfl,h2,h3,h4,h5,h6⟩:=each pos cv hf
  rw[hps] at h6
  cases h6
  refine PySem.W.kla_makeFunctionHit (mg:=X.mg) hcl I.ok.glob G hcode C gP tri hf B λctv h' tk hk hsz=>?_
  exact h _ c1 _ ctv H _ (I.kept (t':=tk) λb u e=>Ae _ (hk b u e)) (λ_ _ e=>e) (Bi _ rfl) ⟨c1,oc,us,t,rfl,Ae _ (hk _ _ h3),h4,h5⟩
 | none =>
  have hgP:Ce≠P:=λz=>by
   obtain ⟨o,es,ep,e,d,_⟩:=G
   rw[z,gP] at e; cases e; cases d
  refine PySem.W.kla_makeFunction (mg:=X.mg) hcl I.ok.glob G hcode C gP tri hf hgP B λc' ctv h' tk hx' hge hlt hrec htb=>?_
  have Hn:H c'=none:=I.hok.fresh hge
  have neP:∀b,H b=none->b≠P:=λb n z=>by rw[z,hP] at n; cases n
  obtain ⟨c2,oc,us,t,e2,g3,g4,g5⟩:=id hrec
  cases e2
  have ncP:c'≠P:=neP c' Hn
  generalize hfo:(PySem.W.kla_obj "<lambda>" (Zv x) params body scope clos ((X.mg "__name__").getD .none) c' ctv)=fo
  have keepH:∀b o,b≠P->s.heap.get? b=some o->(h'.push fo).get? b=some o:=λb o n e=>Ae _ (hx' b o n e)
  have gPn:(h'.push fo).get? P=some { cls:=.none,data:=.fields (qs++#[Jw pos.line,Jw pos.col,.ref c']) }:=Ae _ htb
  have hok:Uh X.prog X.w (upd H c' (.own P)) (h'.push fo):=λb u e=>by
   by_cases hb:b=c'
   ·subst hb
    rw[Cj] at e
    cases e
    exact ⟨oc,Ae _ g3⟩
   ·rw[Co hb] at e
    by_cases hbP:b=P
    ·subst hbP
     rw[hP] at e
     cases e
     refine ⟨_,gPn,by rw[Cr]; exact TriplesOk_snoc _ _ _ _ tri,λpos' v y=>?_⟩
     rw[Cr] at y
     rcases Zt qs.toList tri y with y | rfl
     ·obtain ⟨c1,oc1,us1,q1,t1,t2,r1,r2,r3,r4⟩:=each pos' v y
      have n1:c1≠c':=λz=>by rw[z,Hn] at r2; cases r2
      exact ⟨c1,oc1,us1,q1,t1,t2,r1,by rw[Co n1]; exact r2,keepH _ _ (λz=>by rw[z,hP] at r2; cases r2) r3,r4⟩
     ·exact ⟨c',oc,us,_,t,t0,rfl,Cj,Ae _ g3,g4,g5,hps⟩
    ·refine (I.hok b u e).stay (λd v hc q=>keepH d v ?_ q) (λd q=>by rw[Co (Df q Hn)]; exact q) λd xs q=>by rw[Co (Df q Hn)]; exact q
     rcases hc with rfl | hc
     ·exact hbP
     ·intro z; rw[z,hP] at hc; cases hc
  have I1:Inv X pins σ (upd H c' (.own P)) { s with heap:=h'.push fo,toks:=tk }:=by
   refine I.step (g':=s.gens) (d':=s.drawn) (t':=tk) (ch:=[]) (λ_ z=>nomatch z) (λb o _ _ _ e n=>keepH b o (neP b n) e) (λb o _ _ _ e n=>⟨o.slots,keepH b o (neP b n) e⟩) (λb o _ e n=>?_) (λb o _ e=>?_)
    (λb xs e=>by rw[Co (Df e Hn)]; exact e) (λb o u e=>by rw[Co (Df e Hn)]; exact e) (λb xs e=>⟨#[],by rw[Co (Df e Hn),e]; simp⟩) (λm hm=>?_) hok I.bare
   ·rw[Co (Cf (Cc (Bc e) hge))]
    exact n
   ·by_cases hb:b=P
    ·subst hb; exact ⟨_,gPn⟩
    ·exact ⟨o,keepH b o hb e⟩
   ·obtain ⟨o,es,ep,e,r⟩:=hm
    exact ⟨o,es,ep,keepH _ o (neP _ I.free) e,r⟩
  refine h _ c' ((X.mg "__name__").getD .none) ctv _ _ I1 (λb o e=>by rw[Co (Df e Hn)]; exact e) ?_ ⟨c',oc,us,t,rfl,Ae _ g3,g4,g5⟩
  rw[<- hfo]
  exact Bi _ rfl
end
section
variable{prog:Bu}{w:World}{A:Cq}{E:Value->Af->Prop}{s:Af}
theorem Xk{R:List Value->Af->Prop}{r:Addr}{a b c:Int}{t u v:Tok}{n:Nat}(hh:A.handled=none)(hr:IsRange s.heap r a b c t u v)(hsmall:Builtin.Range.small a b c=true)(hn:Wj a b c=n)(hlen:n<=2 ^ 24)(h:∀(h':Heap) (tk:Nat) (acc:Array Value),(∀b o,s.heap.get? b=some o->h'.get? b=some o)->ItemsOf (λi v=>∃t,v=.int (a+i * c) t) acc n->s.heap.objs.size<=h'.objs.size->R acc.toList { s with heap:=h',toks:=tk }):wpAny (model prog w) A (collect (.ref r)) R E s:=by
 unfold collect
 refine Ac (wpAny_runValue (Km PyProof.Rows.entry_proto_collect' ?_))
 rw[Gn PySem.F.plain_proto_collect _]
 show wpAny _ A.in1 (newList [] >>= λl=>again (.builtin "list.__iadd__" ⟨[l,.ref r],[]⟩)) _ _ s
 refine Ac (Gz ?_)
 refine Bb ⟨Kd PySem.F.plain_list_iadd _,Km PyProof.Rows.entry_list_iadd' ?_⟩
 rw[Gn PySem.F.plain_list_iadd _]
 have hS₁:(s.heap.push { cls:=.type "list",data:=.seq ([]:List Value).toArray }).get? s.heap.objs.size=some { cls:=.type "list",data:=.seq #[] }:=Bi _ rfl
 show wpAny _ A.in1 (Builtin.List.listExtendWith (.ref s.heap.objs.size) (.ref r) (.ref s.heap.objs.size)) _ _ _
 have key:=wpAny_extend_range (prog:=prog) (w:=w) (A:=A) (s:={ s with heap:=s.heap.push { cls:=.type "list",data:=.seq ([]:List Value).toArray } })
  (R:=λ(q:Result) (s':Af)=>∃(h':Heap) (tk:Nat) (acc':Array Value) (c':Nat),q=.ok (.ret (.ref s.heap.objs.size))/\s'={ s with heap:=h',toks:=tk } /\
   (∀b o,s.heap.get? b=some o->h'.get? b=some o)/\h'.get? s.heap.objs.size=some { cls:=.type "list",dict:=none,data:=.seq acc' c',slots:=#[] }/\ItemsOf (λi v=>∃t,v=.int (a+i * c) t) acc' n)
  hh (Ae _ hr) hsmall hn hlen s.heap.objs.size (.ref s.heap.objs.size) 0 hS₁
  (λh' tk acc' c' hk hS' hacc=>⟨h',tk,acc',c',rfl,rfl,λb o e=>hk b o (Cf (Bc e)) (Ae _ e),hS',hacc⟩)
 refine En key (λfin s' x=>?_) λe s' x=>?_
 ·cases fin with
  | done f =>
   obtain ⟨h',tk,acc',c',e,rfl,hk,hS',hacc⟩:=x
   cases e
   show wpAny _ A (load s.heap.objs.size >>= _) _ _ _
   refine Ac (Zb hS' ?_)
   exact Bb (h h' tk acc' hk hacc (Jg (Bc hS')))
  | again c₁ =>
   refine ⟨x.1,bG x.2 λq s₂ y=>?_⟩
   obtain ⟨h',tk,acc',c',rfl,rfl,hk,hS',hacc⟩:=y
   show wpAny _ A (load s.heap.objs.size >>= _) _ _ _
   refine Ac (Zb hS' ?_)
   exact Bb (h h' tk acc' hk hacc (Jg (Bc hS')))
 ·obtain ⟨_,_,_,_,e',_⟩:=x
  cases e'
theorem sC{f c':Addr}{q x:Str}{params:Rk}{body:Expr}{scope:Scope}{clos:List (Str×Addr)}{pm ctv v:Value}{R:Value->Af->Prop}(hroom:A.depth<Vv)(ho:s.heap.get? f=some (PySem.W.kla_obj "<lambda>" q params body scope clos pm c' ctv))(hcd:s.heap.CodeRec (.ref c') q)(hnl:s.heap.NoLimit)(hbind:bindArgs (PySem.W.kla_fn "<lambda>" q params body scope clos pm (.ref c') ctv) ⟨[v],[]⟩=pure [(x,v)])(hx:scope.names.lookup x=some .local)(hco:scope.isCoroutine=false)(hgen:scope.isGenerator=false)(hk:scope.kind=.function)(hcell:∀y∈scope.names,y.2≠.cell)(hb:∀L h₁,h₁.Ns L (λy=>[(x,v)].reverse.lookup y)->Io s.heap h₁->wpAny (model prog w) (A.deeper (PySem.W.envX q scope L f (.ref c') clos)) (eval body (PySem.W.envX q scope L f (.ref c') clos)) R (λ_ _=>False) { s with heap:=h₁,toks:=s.toks+1 }):wpAny (model prog w) A (call (.ref f) [v]) R E s:=by
 refine wpAny_call (PySem.W.kla_callFunE hroom ho rfl hco hgen rfl hcd ?_)
 rw[hbind]
 refine Bb (wpAny_newFunctionEnv hcell (λy hy=>?_) (λh₁ hns hsb=>⟨hnl.fresh _ hsb,?_⟩) hk)
 ·rw[Ah.mp hy]; exact hx
 have hk₁:Io s.heap h₁:=λb o e=>hsb.extBut b o (Cf (Bc e)) (Ae _ e)
 exact PySem.W.kla_codeExpr (En (hb _ h₁ hns hk₁) (λv s' z=>z) λ_ _ z=>z.elim)
theorem iI{env:Env}{p1 p2 p3 p4 p5 p6:Pos}{m mg mb:Str->Option Value}{c l r:Addr}{its us:List Value}{i:Int}{t:Tok}{R:Value->Af->Prop}(hk:env.scope.kind=.function)(hn:env.kindOf "number" = some .local)(hw:env.kindOf "words" = some .free)(hl:env.kindOf "len" = some .globalImplicit)(hm:s.heap.Ns env.locals m)(hv:m "number" = some (.int i t))(hc:env.cells.lookup ("words" : Str)=some c)(hcv:s.heap.IsCell c (some (.ref l)))(hg:s.heap.Ns env.globals mg)(hg0:mg "len" = none)(hb:s.heap.Ns env.builtins mb)(hb0:mb "len" = some (.builtin "len"))(hL:s.heap.IsList l its.toArray)(h0:0<=i)(hi:i<2 ^ 63)(hr:its.toArray[i.toNat]? = some (.ref r))(hT:IsTup s.heap r us.toArray)(hz:us.length<2 ^ 62)(h:∀t' tk,R (.int (-(us.length:Int)) t') { s with toks:=tk }):wpAny (model prog w) A (eval (.UnaryOp .USub (.Call (.Name "len" p1) [.Subscript (.Name "words" p2) (.Name "number" p3) p4] [] p5) p6) env) R E s:=by
 refine UnaryOp_ (Gp (Ms hk hl (dZ hg hg0 hb hb0 ?_)))
 refine Ry ?_ rfl rfl
 refine Uc (Subscript_ (Zc (wpAny_loadName_free hk hw hc hcv (Zc (wpAny_loadName_local hk hn hm hv ?_) (by decide))) (by decide)))
 refine item_listR hL h0 hi hr (Vy ?_)
 refine len_tuple hT (by rw[Al]; omega) (neg_int ?_)
 rw[Al]
 exact h _ _
theorem cZ{f u:Value}{kz:List Int}{Pv:List Value->Prop}{kw:List (Str×Value)}{Q:Value->Af->Prop}(hcol:∀R:List Value->Af->Prop,(∀h' tk vs,Io s.heap h'->s.heap.objs.size<=h'.objs.size->Pv vs->R vs { s with heap:=h',toks:=tk })->wpAny (model prog w) A.in1 (collect u) R E s)(hlen:∀vs,Pv vs->kz.length=vs.length)(hz:kz.length<Aq)(ha1:argsOk "sorted" ⟨[u],kw⟩)(ha2:∀x,argsOk "list.sort" ⟨[.ref x],kw⟩)(ht:∀x,Builtin.«list.sort» ⟨[.ref x],kw⟩=ksk_tree x f false)(turn:∀vs,Pv vs->∀(i:Nat) (v:Value) (k:Int),vs[i]? = some v->kz[i]? = some k->∀(h:Heap) (tk:Nat),Io s.heap h->∀R:Value->Af->Prop,(∀t h2 tk2,Io h h2->R (.int k t) { s with heap:=h2,toks:=tk2 })->wpAny (model prog w) A.in1.in1 (call f [v]) R (λ_ _=>False) { s with heap:=h,toks:=tk })(h:∀D h' tk out c vs,Pv vs->Io s.heap h'->s.heap.objs.size<=D->h'.get? D=some (Dc "list" out c)->KskOut false kz vs out.toList->Q (.ref D) { s with heap:=h',toks:=tk }):wpAny (model prog w) A (call (.builtin "sorted") [u] kw) Q E s:=by
 refine call_function_entry_kw kind_sorted plain_sorted entry_sorted ha1 ?_
 unfold Builtin.«sorted»
 refine Ac (m:=checkCount "sorted" 1 1 _) (Bb (Ac (hcol _ λh0 tk0 vs hk0 hs0 hvs=>?_)))
 have hl0:=hlen vs hvs
 refine Ac (Yw ?_ (by omega))
 have g1:(h0.push (Dc "list" vs.toArray 0)).get? h0.objs.size=some (Dc "list" vs.toArray 0):=Bi _ rfl
 have kept:Io s.heap (h0.push (Dc "list" vs.toArray 0)):=λb o e=>Ae _ (hk0 b o e)
 show wpAny _ _ _ _ _ { s with heap:=h0.push (Dc "list" vs.toArray 0),toks:=tk0 }
 generalize hH:h0.push (Dc "list" vs.toArray 0)=H1 at g1 kept
 have none_:∀b,s.heap.objs.size<=b->s.heap.get? b=none:=λb hb=>Heap.get?_none_of_le hb
 refine Ac (Dh (wpAny_call_entry_kw slot_list_sort ⟨_,g1,rfl⟩ entry_list_sort ?_ (ha2 _)))
 show wpAny (model prog w) A.in1.in1 (Builtin.«list.sort» ⟨[.ref h0.objs.size],kw⟩) _ _ _
 rw[ht]
 unfold ksk_tree
 have lt:h0.objs.size<H1.objs.size:=Bc g1
 obtain ⟨ep,g2⟩ : ∃ep,(H1.update h0.objs.size (Cu λ_=>(#[]:Array Value))).get? h0.objs.size=some (Dc "list" #[] ep):=⟨_,Kl g1 λ_=>#[]⟩
 have k2:Io s.heap (H1.update h0.objs.size (Cu λ_=>(#[]:Array Value))):=Tq kept (none_ _ hs0)
 refine Ac (bF g1 rfl (Ac (Ke g1 rfl ?_ (by rw[Al]; omega) (Dj _))))
 refine Ac (Vu g2 rfl (Ac (wpAny_newTuple (Ac (Yw (Dh ?_) (Dj _))) (by show vs.length<=_; omega))))
 have e3:((H1.update h0.objs.size (Cu λ_=>(#[]:Array Value))).push (Dc "tuple" vs.toArray 0)).objs.size=H1.objs.size+1:=by rw[Zd,Jc]
 refine K9 (s:={ s with heap:=((H1.update h0.objs.size (Cu λ_=>(#[]:Array Value))).push (Dc "tuple" vs.toArray 0)).push (Dc "list" #[] 0),toks:=tk0 }) (h0:=s.heap) (a:=h0.objs.size)
  (kS:=((H1.update h0.objs.size (Cu λ_=>(#[]:Array Value))).push (Dc "tuple" vs.toArray 0)).objs.size)
  ⟨λb o e=>Ae _ (Ae _ (k2 b o e)),none_ _ hs0,none_ _ (by rw[e3]; omega),λz=>(by have:=e3.symm.trans z; omega),Ae _ (Ae _ g2),0,Bi _ rfl⟩ hl0 (by omega)
  (λi v k h1 h2 hh tk hk R hR=>turn vs hvs i v k h1 h2 hh tk hk R hR) ?_
 intro h' tk out c a1 a2 a3
 exact ⟨_,rfl,Bb ⟨_,rfl,h _ h' tk out c vs hvs a1 hs0 a2 a3⟩⟩
end
theorem fS{α β:Type}{g:α->β}{q ps:List β}(h:q.Perm ps):∀l0:List α,q=l0.map g->∃l:List α,l.Perm l0/\ps=l.map g:=by
 induction h with
 | nil =>
  intro l0 e
  cases l0 with
  | nil=>exact ⟨[],.refl _,rfl⟩
  | cons a l=>cases e
 | cons x p ih =>
  intro l0 e
  cases l0 with
  | nil=>cases e
  | cons a l =>
   rw[Av] at e
   obtain ⟨e1,e2⟩:=Ei e
   obtain ⟨l',h1,h2⟩:=ih l e2
   exact ⟨a::l',h1.cons a,by rw[Av,e1,h2]⟩
 | swap x y p =>
  intro l0 e
  match l0,e with
  | a::b::l,e =>
   rw[Av,Av] at e
   obtain ⟨e1,e2⟩:=Ei e
   obtain ⟨e2,e3⟩:=Ei e2
   exact ⟨b::a::l,.swap a b l,by rw[Av,Av,e1,e2,e3]⟩
 | trans p1 p2 ih1 ih2 =>
  intro l0 e
  obtain ⟨l1,h1,h2⟩:=ih1 l0 e
  obtain ⟨l2,h3,h4⟩:=ih2 l1 h2
  exact ⟨l2,h3.trans h1,h4⟩
def u5(K:PySem.W.Frag)(xs:List V)(w:V)(H:Hp)(Q:VK):Prop:=∃(r:Addr) (n:Nat) (p:Addr) (rs:List Addr) (kf:Nat->Nat),xs=[.ref r]/\H r=some (sU r n)/\n<=1000000/\w=.ref p/\Kw K H p (rs.map V.ref)/\rs.length=n /\
 (∀(i:Nat) a,rs[i]? = some a->∃ys,Rr K H a ys/\ys.length=kf i) /\
 ∀(a:Addr) (l:List Nat) (H1:Hp),Kt H H1->H1 a=none->l.Perm (Dd n)->l.Pairwise (λi j=>kf j<=kf i)->Q (.ref a) (upd H1 a (.lst (l.map λi:Nat=>V.int i)))
def p8(K:PySem.W.Frag)(j:Nat)(t:TA):TE:=λσ H Q=>t σ H λxs H1=>∃w,σ[j]? = some (some w)/\u5 K xs w H1 Q
theorem j3{K:PySem.W.Frag}{H H1:Hp}{p:Addr}{xs:List V}(h:Kw K H p xs)(s:Kt H H1):Kw K H1 p xs:=by
 rcases h with (h | ⟨o,h⟩) | h
 ·exact .inl (.inl (s _ _ h))
 ·exact .inl (.inr ⟨o,s _ _ h⟩)
 ·exact .inr h
theorem zB{K:PySem.W.Frag}{H H1:Hp}{p:Addr}{xs:List V}(h:Rr K H p xs)(s:Kt H H1):Rr K H1 p xs:=by
 rcases h with (h | ⟨o,h⟩) | h
 ·exact .inl (.inl (s _ _ h))
 ·exact .inl (.inr ⟨o,s _ _ h⟩)
 ·exact .inr h
structure LamOf(X:Cx)(x:Str)(params:Rk)(body:Expr)(scope:Scope)(pn:Str)(clos:List (Str×Addr)):Prop where
 mem:x∈Nc
 tab:∃c P,PySem.W.tabIn X.K x=some (c,P)/\X.env.code=.ref c
 qual:X.env.qual ++ "<lambda>" = Zv x
 dfl:defaultsOf params X.env=([],[])
 cl:Zf scope X.env=pure clos
 bind:∀(pm cd ctv v:Value),bindArgs (PySem.W.kla_fn "<lambda>" (Zv x) params body scope clos pm cd ctv) ⟨[v],[]⟩=pure [(pn,v)]
 loc:scope.names.lookup pn=some .local
 co:scope.isCoroutine=false
 gen:scope.isGenerator=false
 kind:scope.kind=.function
 cell:∀y∈scope.names,y.2≠.cell
section
variable{X:Cx}{e:Expr}{t:TA}{p1 kp pos lp q1 q2 q3 q4 q5 q6:Pos}{k j:Nat}{x:Str}{params:Rk}{scope:Scope}{cw:Addr}
theorem rG(hg:Gl X "sorted")(hm:X.mg "sorted" = none)(hml:X.mg "len" = none)(hr:Room k X.A)(hcalm:X.calm=true)(Lm:LamOf X x params (.UnaryOp .USub (.Call (.Name "len" q1) [.Subscript (.Name "words" q2) (.Name "number" q3) q4] [] q5) q6) scope "number" [("words",cw)])(hcw:X.env.cells.lookup ("words" : Str)=some cw)(hkc:X.env.kindOf "words" = some .cell)(hN:X.N[j]? = some "words")(hwf:scope.names.lookup ("words" : Str)=some .free)(hlg:scope.names.lookup ("len" : Str)=some .globalImplicit)(ha:PA X [e] t)(hs:Bo [e] X.env=[(false,eval e X.env)]:=by rfl):PE X (.Call (.Name "sorted" p1) [e] [⟨some "key",.Lambda params (.UnaryOp .USub (.Call (.Name "len" q1) [.Subscript (.Name "words" q2) (.Name "number" q3) q4] [] q5) q6) scope lp,kp⟩] pos) (p8 X.K j t):=by
 intro pins s σ H Q I h
 refine Gp (Pd I hg hm (u:=.builtin "sorted") (by decide +kernel) ?_)
 refine Wf (Gk (ha pos pins s σ H _ I h) λus s1 ⟨vs,H1,I1,r1,q1⟩=>?_) (by rw[hs]; rfl) (by rw[hs]; rfl)
 obtain ⟨w,hw,r,n,p,rs,kf,rfl,hR,hn,rfl,hp,hlen,hx',q⟩:=q1
 obtain ⟨u,rfl,ru⟩:=vals1 r1
 cases ru
 obtain ⟨c,P,ht,hcode⟩:=Lm.tab
 refine kws_cons (u6 I1 Lm.mem ht hcode Lm.qual Lm.dfl Lm.cl λf c' pm ctv H2 s2 I2 sm ho hcd=>kws_nil ?_)
 obtain ⟨⟨t,u,v,hr'⟩,_,_⟩:=(show Il X.prog X.w H2 s2.heap r (sU r n) from I2.hok r _ (sm r _ hR))
 have hs:Aq=16777216:=Ha
 have cellW:s2.heap.IsCell cw (some (.ref p)):=by
  obtain ⟨m,hns,hl⟩:=I2.loc
  obtain ⟨u,ru,l⟩:=hl j "words" (.ref p) hN hw (.inr (.inl hkc))
  cases ru
  rcases l with ⟨hk,_⟩ | ⟨hk,c1,hc1,hcell⟩
  ·rw[hkc] at hk; cases hk
  ·rw[hcw] at hc1; cases hc1; exact hcell
 obtain ⟨its,rv,pl,hz⟩:=I2.list (j3 hp sm)
 have e1:=Ul rv
 subst e1
 obtain ⟨mb,hb1,hb2⟩:=I2.mod.blt
 have hbl:mb "len" = some (.builtin "len"):=(hb2 "len" (by decide)).trans (by decide +kernel)
 have vvOf:∀vs:List Value,ItemsOf (λi v=>∃t,v=.int (0+i * 1) t) vs.toArray n->vs.length=n/\∀(i:Nat) v,vs[i]? = some v->∃t,v=.int (i:Int) t:=λvs hv=>by
  refine ⟨by simpa using hv.1,λi v e=>?_⟩
  obtain ⟨t,e2⟩:=hv.2 i v (by simpa using e)
  exact ⟨t,by rw[e2]; congr 1; omega⟩
 refine cZ (f:=.ref f) (kz:=(Dd n).map λi=>-((kf i:Nat):Int)) (Pv:=λvs=>vs.length=n/\∀(i:Nat) v,vs[i]? = some v->∃t,v=.int (i:Int) t)
  (λR hR=>Xk (n:=n) (show X.A.in1.handled=none from I2.ok.hd hcalm) hr' (small_one (by omega) (by omega) (by omega) (by omega)) (by rw[rangeSize_one]; split <;> omega) (by omega) λh' tk acc hk hacc hsz=>hR h' tk acc.toList hk hsz (vvOf _ (by simpa using hacc)))
  (λvs hv=>by rw[Ab,Dt]; exact hv.1.symm) (by rw[Ab,Dt]; omega) (ksk_s1 _ _) (λx=>ksk_l1 _ _) (λx=>ksk_t1 _ _) (λvs hvs i v k hv hk hh tk hkeep R hR=>?_) λD h' tk out c3 vs hvs k1 k2 k3 k4=>?_
 ·have hi:i<n:=by rw[<- hvs.1]; exact (Ak.mp hv).1
  obtain ⟨t,rfl⟩:=hvs.2 i v hv
  rw[Az,Tx hi] at hk
  cases hk
  obtain ⟨a,hra⟩ : ∃a,rs[i]? = some a:=⟨_,Am (by omega)⟩
  obtain ⟨ys,hy,hyl⟩:=hx' i a hra
  obtain ⟨us,ru,pt,hz2⟩:=I2.tuple (zB hy sm)
  have hlu:=ru.length
  have k0:Io s2.heap hh:=hkeep
  refine sC (x := "number") (show X.A.in1.in1.depth<Vv from hr.depth) (k0 _ _ ho) ?_ ?_ (Lm.bind _ _ _ _) Lm.loc Lm.co Lm.gen Lm.kind Lm.cell λL h₁ hns hk1=>?_
  ·obtain ⟨c2,oc,vs2,t2,e2,g3,g4⟩:=hcd
   exact ⟨c2,oc,vs2,t2,e2,k0 _ _ g3,g4⟩
  ·exact I2.nolimit.keeps k0
  ·have kk:Io s2.heap h₁:=k0.trans hk1
   obtain ⟨oL,nL,eL,rL⟩:=pl
   obtain ⟨oc,ec,dc⟩:=cellW
   obtain ⟨ot,et,dt⟩:=pt
   refine iI (l:=p) (r:=a) (us:=us) (its:=rs.map Bf) (i:=(i:Int)) (t:=t) Lm.kind Lm.loc hwf hlg hns rfl (List.lookup_cons_self ..) ⟨oc,kk _ _ ec,dc⟩ ((I2.mod.glob.keeps I2.bk).keeps kk) hml ((hb1.keeps I2.bk).keeps kk) hbl (PlainL.isList ⟨oL,nL,kk _ _ eL,rL⟩) (by omega) (by omega) ?_ ⟨ot,kk _ _ et,dt⟩ (by omega) λt' tk'=>?_
   ·rw[Fn,List.getElem?_toArray,Az,hra]; rfl
   ·rw[<- hlu,hyl]
    exact hR _ _ _ hk1
 ·obtain ⟨ps,h1,e2,h3⟩:=k4
  obtain ⟨hl,hv⟩:=hvs
  have ez:((Dd n).map λi=>-((kf i:Nat):Int)).zip vs=(Dd n).map λi=>(-((kf i:Nat):Int),vs.getD i .none):=by
   have ev:vs=(Dd n).map λi=>vs.getD i .none:=by
    refine Gu λi=>?_
    rw[Az]
    by_cases hi:i<n
    ·rw[Tx hi,Am (by omega)]
     simp [List.getD,Am (show i<vs.length by omega)]
    ·rw[Kz (by omega),Kz (by rw[Dt]; omega)]
     rfl
   conv=>lhs; rw[ev]
   exact List.zip_map' ..
  rw[ez] at h1
  obtain ⟨l,p1,rfl⟩:=fS h1.symm (Dd n) rfl
  have p2:l.Pairwise λi j=>kf j<=kf i:=by
   have h4:(l.map λi=>(-((kf i:Nat):Int),vs.getD i .none)).Pairwise (λp q=>p.1<=q.1):=h3
   rw[Wg] at h4
   exact h4.imp λq=>by simp only at q; omega
  have eo:out=(l.map λi=>vs.getD i .none).toArray:=by
   rw[Br] at e2
   have e3:out.toList=l.map λi=>vs.getD i .none:=e2
   rw[<- e3,Array.toArray_toList]
  subst eo
  have vv:∀l:List Nat,(∀i∈l,i<n)->Ep (l.map λi:Nat=>V.int i) (l.map λi=>vs.getD i .none):=by
   intro l
   induction l with
   | nil=>exact λ_=>.nil
   | cons i l ih =>
    intro hi
    have hin:=hi i Aa
    obtain ⟨t,e⟩:=hv i _ (Am (by omega))
    refine .cons ⟨t,?_⟩ (ih λj hj=>hi j (Ag _ hj))
    show vs.getD i .none=Rx (i:Int) t
    rw[Ed,Am (by omega)]
    exact e
  refine ⟨.ref D,upd H2 D (.lst (l.map λi:Nat=>V.int i)),I2.laid (t':=tk) k1 k2 ⟨?_,_,c3,vv l λi hi=>Ga.mp (p1.mem_iff.mp hi),k3⟩,rfl,q D l H2 sm (I2.hok.fresh k2) p1 p2⟩
  rw[Ab,p1.length_eq,Dt]
  omega
end
end Nd
namespace DL
open PySem PySem.Spec PyProof.Rows L2 Nd Ts
section
variable{P:Bu}{w:World}{K:PySem.W.Frag}{mg:Str->Option Value}{base:Heap}
theorem wV{x qual:Str}{st:Stmt}{f:Addr}{fd:Bz}{N ps:List Str}{k:Nat}{sp:Sp}(F:Fun K x qual st f fd)(S:FnScope N ps (Bn st))(len:∀vs H Q E,sp vs H Q E->vs.length=ps.length)(hbody:∀(cdv:Value) (A:Cq) (outer:List Env) (s:Af) (H:Hp) (vs:List V) (Q:VK) (E:XK),fd.code=cdv->Room k (A.deeper (envOfC qual (Bn st) s.heap.objs.size f cdv))->sp vs H Q E->∃t,jL (Jz Gd P w K mg base N qual (Bn st) f cdv A outer s H E).nox (Hk st) t/\t { nx:=λ_ H'=>Q .non H',rt:=Q } (L2.start N vs) H):FnOk P w K mg base Gd (k+1) f fd ps sp:=by
 obtain ⟨oc,od,kV,doc,pm,an,cdv,ct,osl,rfl,lk,hcd⟩:=F.ex
 refine yG lk hcd S len λA outer s H vs Q E hr hsp=>?_
 obtain ⟨t,h,q⟩:=hbody cdv A outer s H vs Q E rfl hr hsp
 exact ⟨t,h.nox,q⟩
theorem qU{x qual:Str}{st:Stmt}{f:Addr}{fd:Bz}{N ps:List Str}{k:Nat}{pf:PF}{db:DB}(F:Fun K x qual st f fd)(S:FnScope N ps (Bn st))(hb:∀(cdv:Value) (A:Cq) (outer:List Env) (s:Af) (H:Hp) (E:XK),fd.code=cdv->Room k (A.deeper (envOfC qual (Bn st) s.heap.objs.size f cdv))->Yr (Jz Gd P w K mg base N qual (Bn st) f cdv A outer s H E).nox (Hk st) db)(h:∀ds R,pf ds R->ds.length=ps.length/\db (retE R) ⟨args0 ds (N.length - ps.length),0⟩):FnOk P w K mg base Gd (k+1) f fd ps (Po K pf):=by
 refine wV F S (λvs H Q E z=>?_) λcdv A outer s H us Q E hcv hr z=>?_
 ·obtain ⟨As,n,ds,R,eu,ok,q,hp,_⟩:=z
  have l1:=(h ds R hp).1
  have l2:=Ij q
  rw[Ab] at l2
  have l3:=congrArg Gr eu
  rw[Ab,Ab] at l3
  omega
 ·obtain ⟨As,n,ds,R,eu,ok,q,hp,k1⟩:=z
  obtain ⟨l1,hd⟩:=h ds R hp
  have l2:=Ij q
  rw[Ab] at l2
  have l3:=congrArg Gr eu
  rw[Ab,Ab] at l3
  refine ⟨_,hb cdv A outer s H E hcv hr,H,λ_=>False,As.map fO++Iu (N.length - ps.length),[],⟨args0 ds (N.length - ps.length),0⟩,retE R,?_,?_,λ_ z=>(nomatch z),?_,hd,λδ' S' H' e1 hA p=>?_,λx δ' v F' S' H' e1 hA p=>?_,λ_ _ _ _ _ p=>p.elim,λ_ _ _ _ _ p=>p.elim⟩
  ·unfold vs L2.start Iu
   rw[Bm,u7,eu,Mh,show us.length=ps.length by omega]
  ·unfold Sl args0 Iu
   rw[Bm,Sm q,Mh]
  ·rw[Ee]
   have hs:=cW q (N.length - ps.length)
   refine ⟨λe he=>?_,Oz λa ha b hb'=>⟨λhq c hc=>?_,λhq c hc=>?_⟩,λe he a ha=>?_,λb o _ e=>e,λb o e=>⟨o,e⟩,λb hb=>hb.elim⟩
   ·have:=tV q ok (N.length - ps.length) e he
    obtain ⟨v,x,F⟩:=e
    cases x with
    | drw=>exact absurd (hs _ he).2 (by show ¬ (true=false); decide)
    | _=>exact this
   ·rw[(hs a ha).1] at hc; cases hc
   ·rw[(hs b hb').1] at hc; cases hc
   ·rw[(hs e he).1] at ha; cases ha
  ·exact k1 .non .none [] H' p .non Ct (λ_ z=>(nomatch z)) λb o e=>hA.same b o (λz=>z) e
  ·obtain ⟨d,rfl,r⟩:=p
   rw[show S'++[(⟨some v,.dat .ow d,F'⟩ : Ent)]=S'++⟨some v,.dat .ow d,F'⟩::[] from rfl] at hA
   obtain ⟨u,e2,rd,nd,_⟩:=hA.ok _ mem_mid
   cases e2
   refine k1 v d F' H' r rd (nd rfl) (λa ha=>?_) λb o e=>hA.same b o (λz=>z) e
   rcases hA.new _ mem_mid a ha with z | z
   ·exact z
   ·exact z.1.elim
end
theorem code_tab{K:PySem.W.Frag}{x qual:Str}{st:Stmt}{f c P:Addr}{fd:Bz}(nm:PySem.W.nsIn K Ce x=some (some (.ref f)))(F:Fun K x qual st f fd)(t:PySem.W.tabIn K x=some (c,P)):fd.code=.ref c:=by
 obtain ⟨oc,od,kV,doc,pm,an,cdv,ct,osl,e,lk,hcd⟩:=F.ex
 unfold PySem.W.tabIn at t
 rw[nm] at t
 dsimp only at t
 rw[lk] at t
 dsimp only at t
 split at t
 ·rename_i c2 h
  rw[h]
  split at t
  ·split at t
   ·cases t; rfl
   ·cases t
  ·cases t
 ·cases t
theorem tab_mk{K:PySem.W.Frag}{x qual:Str}{st:Stmt}{f c P:Addr}{fd:Bz}{o2:Value}{d2:Option Addr}{vs:Array Value}{sl2:Array (Option Value)}(nm:PySem.W.nsIn K Ce x=some (some (.ref f)))(F:Fun K x qual st f fd)(hc:fd.code=.ref c)(lc:K.lookup c=some ⟨o2,d2,.fields vs,sl2⟩)(hv:vs[11]? = some (.ref P)):PySem.W.tabIn K x=some (c,P):=by
 obtain ⟨oc,od,kV,doc,pm,an,cdv,ct,osl,e,lk,hcd⟩:=F.ex
 unfold PySem.W.tabIn
 rw[nm]
 dsimp only
 rw[lk]
 dsimp only
 rw[hc]
 dsimp only
 rw[lc]
 dsimp only
 rw[hv]
theorem tab_no{K:PySem.W.Frag}{x:Str}(nm:PySem.W.nsIn K Ce x=some none):PySem.W.tabIn K x=none:=by
 unfold PySem.W.tabIn
 rw[nm]
def F8(j:Nat)(x:DV)(δ:DS)(P:DV->DS->Prop):Prop:=match x,δ.sl[j]? with
 | .dat _ (.int n),some (.dat _ (.list ds))=>∃ws:List (List Int),ds=ws.map Cn/\n=ws.length/\ws.length<=1000000/\∀l:List Nat,l.Perm (Dd ws.length)->l.Pairwise (λa b=>(ws.getD b []).length<=(ws.getD a []).length)->P (.dat .ow (.list (l.map λi:Nat=>An i))) δ
 | _,_=>False
def rT(j:Nat)(de:DE):DE:=λδ P=>de δ λx δ1=>F8 j x δ1 P
theorem zU{j:Nat}{m m':Md}{n:Int}{δ:DS}{P:DV->DS->Prop}{ws:List (List Int)}(h:δ.sl[j]? = some (.dat m' (.list (ws.map Cn))))(hn:n=ws.length)(hz:ws.length<=1000000)(k:∀l:List Nat,l.Perm (Dd ws.length)->l.Pairwise (λa b=>(ws.getD b []).length<=(ws.getD a []).length)->P (.dat .ow (.list (l.map λi:Nat=>An i))) δ):F8 j (.dat m (.int n)) δ P:=by
 unfold F8
 rw[h]
 exact ⟨ws,rfl,hn,hz,k⟩
section
variable{X:Cx}{e:Expr}{de:DE}{p1 p2 kp pos pos2 lp q1 q2 q3 q4 q5 q6:Pos}{k j:Nat}{x:Str}{params:Rk}{scope:Scope}{cw:Addr}
theorem oX(hc:X.calm=true)(hr:Room k X.A)(hg:Gl X "sorted")(hm:X.mg "sorted" = none)(hml:X.mg "len" = none)(hg2:Gl X "range")(hm2:X.mg "range" = none)(Lm:LamOf X x params (.UnaryOp .USub (.Call (.Name "len" q1) [.Subscript (.Name "words" q2) (.Name "number" q3) q4] [] q5) q6) scope "number" [("words",cw)])(hcw:X.env.cells.lookup ("words" : Str)=some cw)(hkc:X.env.kindOf "words" = some .cell)(hN:X.N[j]? = some "words")(hwf:scope.names.lookup ("words" : Str)=some .free)(hlg:scope.names.lookup ("len" : Str)=some .globalImplicit)(ha:Fi X e de)(he:Bo [e] X.env=[(false,eval e X.env)]:=by rfl)(he2:Bo [.Call (.Name "range" p2) [e] [] pos2] X.env=[(false,eval (.Call (.Name "range" p2) [e] [] pos2) X.env)]:=by rfl):Fi X (.Call (.Name "sorted" p1) [.Call (.Name "range" p2) [e] [] pos2] [⟨some "key",.Lambda params (.UnaryOp .USub (.Call (.Name "len" q1) [.Subscript (.Name "words" q2) (.Name "number" q3) q4] [] q5) q6) scope lp,kp⟩] pos) (rT j de):=by
 refine PE.imp (rG hg hm hml hr hc Lm hcw hkc hN hwf hlg (Fd (Zz gN hg2 hm2 (by decide +kernel) (Fd ha Hw he) (by decide) (by decide) he rfl) Hw he2) he2) λσ H Q h=>?_
 obtain ⟨H0,Y,S,T,δ,P,rfl,hS,hA,hd,k⟩:=h
 refine ⟨H0,Y,S,T,δ,_,rfl,hS,hA,hd,λx δ' v F S' H' e1 e2 hA' p=>?_⟩
 unfold F8 at p
 split at p
 ·rename_i m n m' ds hsl
  obtain ⟨ws,rfl,hn,hz,p⟩:=p
  obtain ⟨rfl,_⟩:=(hA'.told mem_mid).int_inv
  refine ⟨n,rfl,λr nr=>?_⟩
  obtain ⟨⟨u,y,G⟩,es,ex⟩:=Je e2 hsl
  have ex:y=.dat m' (.list (ws.map Cn)):=ex
  subst ex
  obtain ⟨v,ev,rd,_⟩:=hA'.ok _ (Ay _ (Au es))
  have ev:u=some v:=ev
  subst ev
  obtain ⟨a,xs,G',rfl,hla,ra,rfl,hz'⟩:=rd.list_inv
  obtain ⟨rs,rfl,ews,rfl,c1,c2⟩:=eN ra rfl
  have s1:=Dk nr (sU r n)
  have lrs:rs.length=ws.length:=by rw[ews,Ab]
  refine ⟨.ref a,by rw[<- e1]; exact Lw es,r,ws.length,a,rs,λi=>(ws.getD i []).length,rfl,by rw[hn]; exact Cj,hz,rfl,Kw.of (s1 _ _ hla),lrs,λi b hb=>?_,λq l H1 sm nq pe pw=>?_⟩
  ·refine ⟨_,Rr.of (s1 _ _ (c1 b (Au hb))),?_⟩
   have : ws[i]? = some (A0 H' b):=by rw[ews,Az,hb]; rfl
   rw[Ab]
   show _=(ws.getD i []).length
   rw[Ed,this]
   rfl
  ·have hI:RdFs X.K H1 (l.map λi:Nat=>V.int i) (l.map λi:Nat=>An i) []:=by
    have:=RdFs.ints (K:=X.K) (H:=H1) (l.map λi:Nat=>(i:Int))
    rw[Br,Br] at this
    exact this
   refine k _ δ' _ _ S' _ e1 e2 (((hA'.drop.grow s1 (Ai _)).grow sm (Ai _)).newI hI ?_ ?_ nq .ow) (p l pe pw)
   ·have:=Mi (l.map λi:Nat=>(i:Int))
    rw[Br] at this
    exact this
   ·rw[Ab,pe.length_eq,Dt,Ha]
    omega
 ·exact p.elim
end
end DL
namespace DL
open PySem PySem.Spec PyProof.Rows L2 Nd
def T3(t u:DB)(D:DEnds)(b:Bool)(δ:DS):Prop:=match b with
 | true=>t D δ
 | false=>u D δ
def C7(x:DV)(δ:DS)(P:DV->DS->Prop):Prop:=match x with
 | .dat _ d=>imm d=true/\P (.dat .ow d) δ
 | _=>False
def T4(i:Nat)(s:Option DV)(δ:DS)(P:DV->DS->Prop):Prop:=match s with
 | some (.dat .pk _)=>False
 | some (.dat _ d)=>P (.dat .sh d) ⟨δ.sl.set i (.dat .sh d),δ.n⟩
 | _=>False
def T7(xs:List DV)(δ:DS)(P:DV->DS->Prop):Prop:=match datas xs with
 | some ds=>ds.length<=1000/\P (.dat (pkMd .sh xs) (.tuple ds)) δ
 | none=>False
def lstB(xs:List DV)(δ:DS)(P:DV->DS->Prop):Prop:=match datas xs with
 | some ds=>ds.length<=1000/\P (.dat (pkMd .tp xs) (.list ds)) δ
 | none=>False
def xM(x:DV)(δ:DS)(P:Option Int->DS->Prop):Prop:=match x with
 | .dat _ (.int i)=>P (some i) δ
 | _=>False
def U3(xs:List DV)(δ:DS)(P:DV->DS->Prop):Prop:=match xs with
 | [.dat _ (.list ds)]=>∃ns:List Int,ds=ns.map An/\(∀x∈ns,0<=x/\x<60)/\P (.dat .ow (.list ((A4 ns).map An))) δ
 | [.dat _ (.tuple ds)]=>∃ns:List Int,ds=ns.map An/\(∀x∈ns,0<=x/\x<60)/\P (.dat .ow (.list ((A4 ns).map An))) δ
 | _=>False
def bB(x:DV)(δ:DS)(P:Bool->DS->Prop):Prop:=match x with
 | .dat _ (.bool b)=>P b δ
 | _=>False
def C5(du:DT)(b:Bool)(δ:DS)(P:Bool->DS->Prop):Prop:=match b with
 | true=>du δ P
 | false=>P false δ
def lB(x:DV)(δ:DS)(P:Md->List Ad->DS->Prop):Prop:=match x with
 | .dat m (.list ds)=>P (Jp m) ds δ
 | _=>False
def S0(x:DV)(δ:DS)(P:Md->List Ad->DS->Prop):Prop:=match x with
 | .dat m (.tuple ds)=>P (Jp m) ds δ
 | _=>False
def yJ(xs:List DV)(δ:DS)(P:Md->List Ad->DS->Prop):Prop:=match xs with
 | [.dat _ (.int j)]=>-1000000<=j/\j<=1000000/\P .sh ((Dd j.toNat).map λi:Nat=>.int i) δ
 | _=>False
def xU(xs:List DV)(δ:DS)(P:Md->List Ad->DS->Prop):Prop:=match xs with
 | [.dat m (.list ds)]=>P (Jp m) (ds.zipIdx.map λp=>.tuple [.int p.2,p.1]) δ
 | _=>False
def C1(dg:DG)(db:DB)(D:DEnds)(m:Md)(ds:List Ad)(δ1:DS):Prop:=m=.sh/\∃I:Nat->DS->Prop,I 0 δ1 /\
 (∀i d δ',ds[i]? = some d->I i δ'->dg (.dat .sh d) δ' λδ2=>db { D with nx:=I (i+1),ct:=I (i+1),bk:=D.nx } δ2)/\∀δ',I ds.length δ'->D.nx δ'
def sW(js:List Nat)(dc:DT)(de:DE)(P:DV->DS->Prop)(m:Md)(ds:List Ad)(δ1:DS):Prop:=∃I:Nat->List Ad->Nat->Prop,I 0 [] δ1.n /\
 (∀i d acc n,ds[i]? = some d->I i acc n->Nb dc de ⟨.dat m d::frD δ1.sl js,n⟩ (λe n'=>I (i+1) (acc++[e]) n') (λn'=>I (i+1) acc n')) /\
 ∀acc n,I ds.length acc n->P (.dat .ow (.list acc)) ⟨δ1.sl,n⟩
def qV(js:List Nat)(dc:DT)(de:DE)(P:DV->DS->Prop)(m:Md)(ds:List Ad)(δ1:DS):Prop:=∃I:Nat->List Ad->Nat->Prop,I 0 [] δ1.n /\
 (∀i d acc n,ds[i]? = some d->I i acc n->∃d1 d2,d=.tuple [d1,d2]/\Nb dc de ⟨.dat m d1::.dat m d2::frD δ1.sl js,n⟩ (λe n'=>I (i+1) (acc++[e]) n') (λn'=>I (i+1) acc n')) /\
 ∀acc n,I ds.length acc n->P (.dat .ow (.list acc)) ⟨δ1.sl,n⟩
def wC(yes:Ad->Nat->Prop)(y:DV)(δ:DS):Prop:=match y with
 | .dat _ e=>imm e=true/\yes e δ.n
 | _=>False
def lK(de:DE)(yes:Ad->Nat->Prop)(no:Nat->Prop)(b:Bool)(δ:DS):Prop:=match b with
 | true=>de δ λy δ3=>wC yes y δ3
 | false=>no δ.n
def callB(pf:PF)(xs:List DV)(δ:DS)(P:DV->DS->Prop):Prop:=match datas xs with
 | some ds=>pf ds λd=>P (.dat .ow d) δ
 | none=>False
def callBW(i:Nat)(df:DF)(xs:List DV)(δ:DS)(P:DV->DS->Prop):Prop:=match δ.sl[i]? with
 | some .drw=>match datas xs with
  | some ds=>df ds δ.n λd n'=>P (.dat .ow d) ⟨δ.sl,n'⟩
  | none=>False
 | _=>False
def tY(xs:List DV)(δ:DS)(P:DV->DS->Prop):Prop:=match xs with
 | [.dat _ (.int _)]=>P .drw δ
 | _=>False
def appB(i:Nat)(y:DV)(δ:DS)(D:DEnds):Prop:=match δ.sl[i]?,y with
 | some (.dat m (.list ds)),.dat _ e=>own1 m=true/\npk δ.sl=true/\imm e=true/\ds.length<1000000/\D.nx ⟨δ.sl.set i (.dat m (.list (ds++[e]))),δ.n⟩
 | _,_=>False
def setB(i:Nat)(y z:DV)(δ:DS)(D:DEnds):Prop:=match δ.sl[i]?,y,z with
 | some (.dat m (.list ds)),.dat _ e,.dat _ (.int k)=>own1 m=true/\npk δ.sl=true/\imm e=true/\Du ds=true/\∃j,oQ ds.length k=some j/\D.nx ⟨δ.sl.set i (.dat m (.list (ds.set j e))),δ.n⟩
 | _,_,_=>False
theorem e_sortL{j:Nat}{de:DE}{δ:DS}{P:DV->DS->Prop}:rT j de δ P=(de δ λx δ1=>F8 j x δ1 P):=rfl
theorem e_seq{t u:DB}{D:DEnds}{δ:DS}:B2 t u D δ=(t { D with nx:=λδ'=>u D δ' } δ):=rfl
theorem e_skip{D:DEnds}{δ:DS}:xN D δ=(D.nx δ):=rfl
theorem e_ret{de:DE}{D:DEnds}{δ:DS}:K0 de D δ=(de δ D.rt):=rfl
theorem e_if{dt:DT}{t u:DB}{D:DEnds}{δ:DS}:T2 dt t u D δ=(dt δ (T3 t u D)):=rfl
theorem e_asg{de:DE}{dg:DG}{D:DEnds}{δ:DS}:sN de dg D δ=(de δ λx δ'=>dg x δ' D.nx):=rfl
theorem e_name{i:Nat}{m:Md}{d:Ad}{δ:DS}{Q:DS->Prop}:Np i (.dat .ow d) δ Q=(Q ⟨δ.sl.set i (.dat .sh d),δ.n⟩):=rfl
theorem e_name2{i:Nat}{m:Md}{d:Ad}{δ:DS}{Q:DS->Prop}:Np i (.dat .sh d) δ Q=(Q ⟨δ.sl.set i (.dat .sh d),δ.n⟩):=rfl
theorem e_name4{i:Nat}{δ:DS}{Q:DS->Prop}:Np i .drw δ Q=(Q ⟨δ.sl.set i .drw,δ.n⟩):=rfl
theorem e_own{i:Nat}{d:Ad}{δ:DS}{Q:DS->Prop}:fJ i (.dat .ow d) δ Q=(Q ⟨δ.sl.set i (.dat .ow d),δ.n⟩):=rfl
theorem e_nF{i:Nat}{x:DV}{δ:DS}{Q:DS->Prop}:P1 false i x δ Q=(Np i x δ Q):=rfl
theorem e_op{rd:D2}{da db:DE}{δ:DS}{P:DV->DS->Prop}:Wo rd da db δ P=(da δ λx δ1=>db δ1 λy δ2=>rd x y λz=>P z δ2):=rfl
theorem e_var{i:Nat}{δ:DS}{P:DV->DS->Prop}:i9 i δ P=(match δ.sl[i]? with | some (.dat m d)=>P (.dat (bT m) d) δ | _=>False):=rfl
theorem e_c{d:Ad}{δ:DS}{P:DV->DS->Prop}:dC d δ P=(P (.dat .ow d) δ):=rfl
theorem e_imm{de:DE}{δ:DS}{P:DV->DS->Prop}:J2 de δ P=(de δ λx δ'=>C7 x δ' P):=rfl
theorem e_immB{m:Md}{d:Ad}{δ:DS}{P:DV->DS->Prop}:C7 (.dat m d) δ P=(imm d=true/\P (.dat .ow d) δ):=rfl
theorem e_take{i:Nat}{δ:DS}{P:DV->DS->Prop}:qE i δ P=(match δ.sl[i]? with | some (.dat m d)=>P (.dat m d) ⟨δ.sl.set i .un,δ.n⟩ | _=>False):=rfl
theorem e_I{C:Int->Int->Prop}{g:Int->Int->Ad}{i j:Int}{m m':Md}{P:DV->Prop}:j8 C g (.dat m (.int i)) (.dat m' (.int j)) P=(C i j/\P (.dat .ow (g i j))):=rfl
theorem e_I0{g:Int->Int->Ad}{i j:Int}{m m':Md}{P:DV->Prop}:cS g (.dat m (.int i)) (.dat m' (.int j)) P=(P (.dat .ow (g i j))):=rfl
theorem e_eqF{d e:Ad}{m m':Md}{P:DV->Prop}:bW false (.dat m d) (.dat m' e) P=(d.depth<=60/\e.depth<=60/\P (.dat .ow (.bool (Dz d e)))):=rfl
theorem e_eqT{d e:Ad}{m m':Md}{P:DV->Prop}:bW true (.dat m d) (.dat m' e) P=(d.depth<=60/\e.depth<=60/\P (.dat .ow (.bool (!Dz d e)))):=rfl
theorem e_inFt_w1{nes:List Int}{d:Ad}{es:List Ad}{m m':Md}{P:DV->Prop}:wH false (.dat m d) (.dat m' (Cn nes)) P=(Bp (nes.map An)<=60/\d.depth<=60/\P (.dat .ow (.bool ((nes.map An).any λe=>Dz e d)))):=rfl
theorem e_ixl{ds:List Ad}{i:Int}{m m':Md}{P:DV->Prop}:xE (.dat m (.list ds)) (.dat m' (.int i)) P=(∃d,Sv ds i=some d/\P (.dat (bP m) d)):=rfl
theorem e_cat{ds es:List Ad}{m m':Md}{P:DV->Prop}:lQ (.dat m (.list ds)) (.dat m' (.list es)) P=(Du ds=true/\Du es=true/\ds.length+es.length<=1000000/\P (.dat .ow (.list (ds++es)))):=rfl
theorem e_rep{ds:List Ad}{k:Int}{m m':Md}{P:DV->Prop}:kZ (.dat m (.list ds)) (.dat m' (.int k)) P=(Du ds=true /\ -1000000<=k/\k<=1000000/\ds.length * k.toNat<=1000000/\P (.dat .ow (.list (Ca k.toNat ds).flatten))):=rfl
theorem e_nlT{m:Md}{ds:List Ad}{P:DV->Prop}:gR true m ds P=(Du ds=true/\P (.dat .ow (.list ds))):=rfl
theorem e_ntT{m:Md}{ds:List Ad}{P:DV->Prop}:mD true m ds P=(Du ds=true/\P (.dat .ow (.tuple ds))):=rfl
theorem e_pkOfpk  : bT .pk=(Md.pk):=rfl
theorem e_pkOfsh  : bT .sh=(Md.sh):=rfl
theorem e_pkOfow  : bT .ow=(Md.pk):=rfl
theorem e_mdInsh  : bP .sh=(Md.sh):=rfl
theorem e_mdInow  : bP .ow=(Md.ow):=rfl
theorem e_mdItsh  : Jp .sh=(Md.sh):=rfl
theorem e_mdItow  : Jp .ow=(Md.sh):=rfl
theorem e_nil{δ:DS}{P:List DV->DS->Prop}:zR δ P=(P [] δ):=rfl
theorem e_cons{de:DE}{da:DA}{δ:DS}{P:List DV->DS->Prop}:yX de da δ P=(de δ λx δ1=>da δ1 λxs δ2=>P (x::xs) δ2):=rfl
theorem e_lst{da:DA}{δ:DS}{P:DV->DS->Prop}:E3 da δ P=(da δ λxs δ'=>lstB xs δ' P):=rfl
theorem e_noPart{δ:DS}{P:Option Int->DS->Prop}:kR δ P=(P none δ):=rfl
theorem e_part{de:DE}{δ:DS}{P:Option Int->DS->Prop}:xQ de δ P=(de δ λx δ'=>xM x δ' P):=rfl
theorem e_partB{m:Md}{i:Int}{δ:DS}{P:Option Int->DS->Prop}:xM (.dat m (.int i)) δ P=(P (some i) δ):=rfl
theorem e_cb{rd:DC}{da:DA}{δ:DS}{P:DV->DS->Prop}:B5 rd da δ P=(da δ λxs δ1=>rd xs λz=>P z δ1):=rfl
theorem e_lenl{ds:List Ad}{m m':Md}{P:DV->Prop}:kO [.dat m (.list ds)] P=(P (.dat .ow (.int ds.length))):=rfl
theorem e_lent_w1{nds:List Int}{ds:List Ad}{m m':Md}{P:DV->Prop}:kO [.dat m (Cn nds)] P=(P (.dat .ow (.int (nds.map An).length))):=rfl
theorem e_listl{i:Bool}{ds:List Ad}{m m':Md}{P:DV->Prop}:jI i [.dat m (.list ds)] P=(gR i m ds P):=rfl
theorem e_tuplel{i:Bool}{ds:List Ad}{m m':Md}{P:DV->Prop}:bL i [.dat m (.list ds)] P=(mD i m ds P):=rfl
theorem e_intb{i:Bool}{m m':Md}{P:DV->Prop}:tK [.dat m (.bool i)] P=(P (.dat .ow (.int (if i=true then 1 else 0)))):=rfl
theorem e_max2{i j:Int}{m m':Md}{P:DV->Prop}:jQ [.dat m (.int i),.dat m' (.int j)] P=(P (.dat .ow (.int (if j > i then j else i)))):=rfl
theorem e_min2{i j:Int}{m m':Md}{P:DV->Prop}:iS [.dat m (.int i),.dat m' (.int j)] P=(P (.dat .ow (.int (if j<i then j else i)))):=rfl
theorem e_MinL{ds:List Ad}{m m':Md}{P:DV->Prop}:iC [.dat m (.list ds)] P=(∃ns:List Int,ds=ns.map An/\ns≠[]/\∀M∈ns,(∀x∈ns,M<=x)->P (.dat .ow (.int M))):=rfl
theorem e_all{ds:List Ad}{m m':Md}{P:DV->Prop}:rJ [.dat m (.list ds)] P=(∃bs:List Bool,ds=bs.map PyData.bool/\P (.dat .ow (.bool (bs.all id)))):=rfl
theorem e_sortI{ds:List Ad}{m m':Md}{P:DV->Prop}:dA [.dat m (.list ds)] P=(∃ns:List Int,ds=ns.map An/\ns.length<64/\P (.dat .ow (.list ((Vo ns).map An)))):=rfl
theorem e_b{de:DE}{δ:DS}{P:Bool->DS->Prop}:dB de δ P=(de δ λx δ'=>bB x δ' P):=rfl
theorem e_bB{m:Md}{b:Bool}{δ:DS}{P:Bool->DS->Prop}:bB (.dat m (.bool b)) δ P=(P b δ):=rfl
theorem e_notT{dt:DT}{δ:DS}{P:Bool->DS->Prop}:yA dt δ P=(dt δ λb δ'=>P (!b) δ'):=rfl
theorem e_andT{dt du:DT}{δ:DS}{P:Bool->DS->Prop}:yI dt du δ P=(dt δ λb δ'=>C5 du b δ' P):=rfl
theorem e_dL{de:DE}{δ:DS}{P:Md->List Ad->DS->Prop}:dL de δ P=(de δ λx δ'=>lB x δ' P):=rfl
theorem e_dTp{de:DE}{δ:DS}{P:Md->List Ad->DS->Prop}:R8 de δ P=(de δ λx δ'=>S0 x δ' P):=rfl
theorem e_lB{m:Md}{ds:List Ad}{δ:DS}{P:Md->List Ad->DS->Prop}:lB (.dat m (.list ds)) δ P=(P (Jp m) ds δ):=rfl
theorem e_tpB_w1{nds:List Int}{m:Md}{ds:List Ad}{δ:DS}{P:Md->List Ad->DS->Prop}:S0 (.dat m (Cn nds)) δ P=(P (Jp m) (nds.map An) δ):=rfl
theorem e_range1{da:DA}{δ:DS}{P:Md->List Ad->DS->Prop}:eV da δ P=(da δ λxs δ'=>yJ xs δ' P):=rfl
theorem e_rng1B{m:Md}{j:Int}{δ:DS}{P:Md->List Ad->DS->Prop}:yJ [.dat m (.int j)] δ P=(-1000000<=j/\j<=1000000/\P .sh ((Dd j.toNat).map λi:Nat=>.int i) δ):=rfl
theorem e_enum{da:DA}{δ:DS}{P:Md->List Ad->DS->Prop}:pY da δ P=(da δ λxs δ'=>xU xs δ' P):=rfl
theorem e_enumB{m:Md}{ds:List Ad}{δ:DS}{P:Md->List Ad->DS->Prop}:xU [.dat m (.list ds)] δ P=(P (Jp m) (ds.zipIdx.map λp=>.tuple [.int p.2,p.1]) δ):=rfl
theorem e_for{di:DI}{dg:DG}{db:DB}{D:DEnds}{δ:DS}:G4 di dg db D δ=(di δ (C1 dg db D)):=rfl
theorem e_comp{di:DI}{js:List Nat}{dc:DT}{de:DE}{δ:DS}{P:DV->DS->Prop}:rF di js dc de δ P=(di δ (sW js dc de P)):=rfl
theorem e_comp2{di:DI}{js:List Nat}{dc:DT}{de:DE}{δ:DS}{P:DV->DS->Prop}:pI di js dc de δ P=(di δ (qV js dc de P)):=rfl
theorem e_noTest{δ:DS}{P:Bool->DS->Prop}:cJ δ P=(P true δ):=rfl
theorem e_step{dc:DT}{de:DE}{δ:DS}{yes:Ad->Nat->Prop}{no:Nat->Prop}:Nb dc de δ yes no=(dc δ λb δ2=>lK de yes no b δ2):=rfl
theorem e_stepT{de:DE}{δ:DS}{yes:Ad->Nat->Prop}{no:Nat->Prop}:lK de yes no true δ=(de δ λy δ3=>wC yes y δ3):=rfl
theorem e_stepF{de:DE}{δ:DS}{yes:Ad->Nat->Prop}{no:Nat->Prop}:lK de yes no false δ=(no δ.n):=rfl
theorem e_yesB{m:Md}{e:Ad}{δ:DS}{yes:Ad->Nat->Prop}:wC yes (.dat m e) δ=(imm e=true/\yes e δ.n):=rfl
theorem e_call{pf:PF}{da:DA}{δ:DS}{P:DV->DS->Prop}:pG pf da δ P=(da δ λxs δ1=>callB pf xs δ1 P):=rfl
theorem e_callW{i:Nat}{df:DF}{da:DA}{δ:DS}{P:DV->DS->Prop}:jR i df da δ P=(match δ.sl[i]? with | some .drw=>da δ λxs δ1=>callBW i df xs δ1 P | _=>False):=rfl
theorem e_draws{da:DA}{δ:DS}{P:DV->DS->Prop}:pR da δ P=(da δ λxs δ1=>tY xs δ1 P):=rfl
theorem e_drawsB{m:Md}{i:Int}{δ:DS}{P:DV->DS->Prop}:tY [.dat m (.int i)] δ P=(P .drw δ):=rfl
theorem e_append{i:Nat}{de:DE}{D:DEnds}{δ:DS}:cQ i de D δ=(match δ.sl[i]? with | some (.dat _ (.list _))=>de δ λy δ1=>appB i y δ1 D | _=>False):=rfl
theorem e_setI{i:Nat}{dk de:DE}{D:DEnds}{δ:DS}:yL i dk de D δ=(de δ λy δ1=>match δ1.sl[i]? with | some (.dat _ (.list _))=>dk δ1 λz δ2=>setB i y z δ2 D | _=>False):=rfl
theorem e_insert{i:Nat}{dk de:DE}{D:DEnds}{δ:DS}:cF i dk de D δ=(match δ.sl[i]? with | some (.dat _ (.list _))=>dk δ λz δ1=>de δ1 λy δ2=>insB i z y δ2 D | _=>False):=rfl
theorem e_sumt_w1{nds:List Int}{ds:List Ad}{m m':Md}{P:DV->Prop}:qZ [.dat m (Cn nds)] P=(∃ns:List Int,(nds.map An)=ns.map An/\P (.dat .ow (.int ns.sum))):=rfl
theorem e_scrSl{i:Nat}{dl dh:DO}{δ:DS}{P:DV->DS->Prop}:iF i dl dh δ P=(match δ.sl[i]? with | some (.scr ns)=>dl δ λl δ2=>dh δ2 λh δ3=>P (.dat .ow (.list ((Us ns l h).map An))) δ3 | _=>False):=rfl
theorem e_dnew{δ:DS}{P:DV->DS->Prop}:xX δ P=(P (.dat .ow (.dict (Ua []))) δ):=rfl
theorem e_dput{i:Nat}{dk de:DE}{D:DEnds}{δ:DS}:yQ i dk de D δ=(de δ λy δ1=>isDct δ1.sl[i]? = true/\dk δ1 λz δ2=>dputB i y z δ2 D):=rfl
theorem e_dictZ{da:DA}{δ:DS}{P:DV->DS->Prop}:iV da δ P=(da δ λxs δ'=>dO xs δ' P):=rfl
theorem e_dictZB{m m':Md}{ds es:List Ad}{δ:DS}{P:DV->DS->Prop}:dO [.dat m (.list ds),.dat m' (.list es)] δ P=(ds.length<=1000000/\Du es=true/\∃ws:List (List Int),ds=ws.map Cn/\P (.dat .ow (.dict (Ua (Of [] (ws.zip es))))) δ):=rfl
theorem e_tagD{ks:List (List Int×Ad)}:uW (Ua ks)=(true):=rfl
theorem e_MaxD{k:Int}{m:Md}{ds:List Ad}{P:DV->Prop}:bI k [.dat m (.list ds)] P=(∃ns:List Int,ds=ns.map An/\(ns=[]->P (.dat .ow (.int k)))/\∀M∈ns,(∀x∈ns,x<=M)->P (.dat .ow (.int M))):=rfl
section
variable{t u:DB}{D:DEnds}{δ δ1:DS}
theorem nU{α:Type}{dg:DG}{db:DB}{ds:List Ad}{l:List α}{g:α->Ad}(e:ds=l.map g)(I:Nat->DS->Prop)(h0:I 0 δ1)(hs:∀i a δ',l[i]? = some a->I i δ'->dg (.dat .sh (g a)) δ' λδ2=>db { D with nx:=I (i+1),ct:=I (i+1),bk:=D.nx } δ2)(hf:∀δ',I l.length δ'->D.nx δ'):C1 dg db D .sh ds δ1:=by
 subst e
 refine ⟨rfl,I,h0,λi d δ' hd hI=>?_,λδ' h=>hf δ' (by rw[Ab] at h; exact h)⟩
 rw[Az] at hd
 cases q:l[i]? with
 | none=>rw[q] at hd; cases hd
 | some a=>rw[q] at hd; cases hd; exact hs i a δ' q hI
end
section
variable{js:List Nat}{dc:DT}{de:DE}{P:DV->DS->Prop}{m:Md}{ds:List Ad}{δ1:DS}{α:Type}
theorem tX{l:List α}{g:α->Ad}(e:ds=l.map g)(p:α->Bool)(f:α->Ad)(h:∀a∈l,∀(yes:Ad->Nat->Prop) (no:Nat->Prop),(p a=true->yes (f a) δ1.n)->(p a=false->no δ1.n)->Nb dc de ⟨.dat m (g a)::frD δ1.sl js,δ1.n⟩ yes no)(q:P (.dat .ow (.list ((l.filter p).map f))) δ1):sW js dc de P m ds δ1:=by
 subst e
 refine ⟨λi acc n=>n=δ1.n/\acc=((l.take i).filter p).map f,⟨rfl,by simp⟩,λi d acc n hd ⟨hn,ha⟩=>?_,λacc n ⟨hn,ha⟩=>?_⟩
 ·subst hn ha
  rw[Az] at hd
  cases q:l[i]? with
  | none=>rw[q] at hd; cases hd
  | some a =>
   rw[q] at hd
   cases hd
   refine h a (Au q) _ _ (λhp=>⟨rfl,?_⟩) (λhp=>⟨rfl,?_⟩)
   ·rw[Ll q,Jv,Bm]; simp [hp]
   ·rw[Ll q,Jv,Bm]; simp [hp]
 ·subst hn ha
  rw[Ab,Ft]
  exact q
theorem Ng{l:List α}{g:α->Ad}(e:ds=l.map g)(f:α->Ad)(h:∀a∈l,∀(yes:Ad->Nat->Prop) (no:Nat->Prop),yes (f a) δ1.n->Nb dc de ⟨.dat m (g a)::frD δ1.sl js,δ1.n⟩ yes no)(q:P (.dat .ow (.list (l.map f))) δ1):sW js dc de P m ds δ1:=by
 refine tX e (λ_=>true) f (λa ha yes no hy _=>h a ha yes no (hy rfl)) ?_
 rw[oS.mpr λ_ _=>rfl]
 exact q
theorem rW{l:List α}{g1 g2:α->Ad}(e:ds=l.map λa=>.tuple [g1 a,g2 a])(p:α->Bool)(f:α->Ad)(h:∀a∈l,∀(yes:Ad->Nat->Prop) (no:Nat->Prop),(p a=true->yes (f a) δ1.n)->(p a=false->no δ1.n)->Nb dc de ⟨.dat m (g1 a)::.dat m (g2 a)::frD δ1.sl js,δ1.n⟩ yes no)(q:P (.dat .ow (.list ((l.filter p).map f))) δ1):qV js dc de P m ds δ1:=by
 subst e
 refine ⟨λi acc n=>n=δ1.n/\acc=((l.take i).filter p).map f,⟨rfl,by simp⟩,λi d acc n hd ⟨hn,ha⟩=>?_,λacc n ⟨hn,ha⟩=>?_⟩
 ·subst hn ha
  rw[Az] at hd
  cases q:l[i]? with
  | none=>rw[q] at hd; cases hd
  | some a =>
   rw[q] at hd
   cases hd
   refine ⟨_,_,rfl,h a (Au q) _ _ (λhp=>⟨rfl,?_⟩) (λhp=>⟨rfl,?_⟩)⟩
   ·rw[Ll q,Jv,Bm]; simp [hp]
   ·rw[Ll q,Jv,Bm]; simp [hp]
 ·subst hn ha
  rw[Ab,Ft]
  exact q
end
theorem cC{du:DT}{b:Bool}{δ:DS}{P:Bool->DS->Prop}(h1:b=true->du δ P)(h2:b=false->P false δ):C5 du b δ P:=by
 cases b with
 | true=>exact h1 rfl
 | false=>exact h2 rfl
theorem bQ{de:DE}{yes:Ad->Nat->Prop}{no:Nat->Prop}{b:Bool}{δ:DS}(h1:b=true->de δ λy δ3=>wC yes y δ3)(h2:b=false->no δ.n):lK de yes no b δ:=by
 cases b with
 | true=>exact h1 rfl
 | false=>exact h2 rfl
class Im (d:Ad):Prop where
 h:imm d=true
class ImA (ds:List Ad):Prop where
 h:Du ds=true
theorem im{d:Ad}[h:Im d]:imm d=true:=h.h
theorem R5{ds:List Ad}[h:ImA ds]:Du ds=true:=h.h
instance {i:Int}:Im (.int i):=⟨by simp [imm]⟩
instance {i:Bool}:Im (.bool i):=⟨by simp [imm]⟩
instance {i:Str}:Im (.str i):=⟨by simp [imm]⟩
instance:Im .none:=⟨by simp [imm]⟩
instance {ds:List Ad} [h:ImA ds]:Im (.tuple ds):=⟨by rw[imm]; exact h.h⟩
instance {ns:List Int}:Im (Cn ns):=⟨sX ns⟩
instance:ImA []:=⟨by simp [Du]⟩
instance {d:Ad} {ds:List Ad} [h:Im d] [t:ImA ds]:ImA (d::ds):=⟨by rw[Du,h.h,t.h]; rfl⟩
instance {α:Type} {f:α->Ad} {l:List α} [h:∀a,Im (f a)]:ImA (l.map f):=⟨Ro (λa=>(h a).h) l⟩
instance {a b:List Ad} [h:ImA a] [k:ImA b]:ImA (a++b):=⟨by rw[Xa,h.h,k.h]; rfl⟩
class Dp (d:Ad) (k:outParam Nat):Prop where
 h:d.depth<=k
class DpA (ds:List Ad) (k:outParam Nat):Prop where
 h:Bp ds<=k
theorem dp{d:Ad}{k:Nat}[h:Dp d k](hk:k<=60:=by decide):d.depth<=60:=Cg h.h hk
instance {i:Int}:Dp (.int i) 0:=⟨by simp [Cy]⟩
instance {i:Bool}:Dp (.bool i) 0:=⟨by simp [Cy]⟩
instance {i:Str}:Dp (.str i) 0:=⟨by simp [Cy]⟩
instance:Dp .none 0:=⟨by simp [Cy]⟩
instance {ds:List Ad} {k:Nat} [h:DpA ds k]:Dp (.tuple ds) (k+1):=⟨by have:=h.h; simp only[Cy]; omega⟩
instance {ds:List Ad} {k:Nat} [h:DpA ds k]:Dp (.list ds) (k+1):=⟨by have:=h.h; simp only[Cy]; omega⟩
instance {ns:List Int}:Dp (Cn ns) 1:=⟨iJ ns⟩
instance:DpA [] 0:=⟨by simp [Bp]⟩
instance {d:Ad} {ds:List Ad} {k j:Nat} [h:Dp d k] [t:DpA ds j]:DpA (d::ds) (k+j):=⟨by have:=h.h; have:=t.h; simp only[Bp]; omega⟩
instance {α:Type} {f:α->Ad} {l:List α} {k:Nat} [h:∀a,Dp (f a) k]:DpA (l.map f) k:=⟨Vn λx hx=>by
 obtain ⟨a,_,rfl⟩:=Bg.mp hx
 exact (h a).h⟩
theorem cI{a b:List Ad}:Bp (a++b)<=Bp a+Bp b:=by
 induction a with
 | nil=>simp [Bp]
 | cons x a ih=>simp only[He,Bp]; omega
instance {a b:List Ad} {k j:Nat} [h:DpA a k] [t:DpA b j]:DpA (a++b) (k+j):=⟨by have:=h.h; have:=t.h; have:=cI (a:=a) (b:=b); omega⟩
theorem qN(a b:List Ad):Dz (.list a) (.list b)=Ma a b:=by simp [Dz]
theorem gE{α:Type}[DecidableEq α]{f:α->Ad}(h:∀a b,Dz (f a) (f b)=decide (a=b)):∀l m:List α,Ma (l.map f) (m.map f)=decide (l=m)
 | [],[]=>by simp [Ma]
 | [],_::_=>by simp [Ma]
 | _::_,[]=>by simp [Ma]
 | a::l,b::m=>by simp [Ma,h,gE h l m]
theorem eqD_intd(i j:Int):Dz (.int i) (.int j)=decide (i=j):=by simp [Dz]; rfl
def wordsD(ws:List (List Int)):Ad:=.list (ws.map Cn)
instance {ws:List (List Int)}:Dp (wordsD ws) 2:=⟨(inferInstance:Dp (.list (ws.map Cn)) 2).h⟩
def kM(ns:List Int):Ad:=.list (ns.map An)
instance {ns:List Int}:Dp (kM ns) 1:=⟨(inferInstance:Dp (.list (ns.map An)) 1).h⟩
theorem qI(a b:List Int):Dz (kM a) (kM b)=decide (a=b):=by
 unfold kM
 rw[qN,gE eqD_intd]
theorem any_int(ns:List Int)(i:Int):((ns.map An).any λe=>Dz e (.int i))=decide (i∈ns):=by
 rw[List.any_map]
 induction ns with
 | nil=>rfl
 | cons n ns ih =>
  rw[Le,ih]
  simp only[Function.comp,eqD_intd,Aj]
  by_cases h:n=i
  ·subst h; simp
  ·have : ¬ i=n:=λz=>h z.symm
   simp [h,this]
theorem bS{α β:Type}(f:α->β)(l:List α):(l.map f).zipIdx=l.zipIdx.map λp=>(f p.1,p.2):=by
 rw[List.zipIdx_map]
 rfl
theorem bH{α β:Type}(f:α->β)(l:List α)(i:Int):Sv (l.map f) i=(Sv l i).map f:=by
 unfold Sv
 rw[Ab]
 cases oQ l.length i with
 | none=>rfl
 | some j=>simp
theorem Su{α:Type}{l:List α}{i:Int}(h0:0<=i)(h1:i<l.length):∃a,l[i.toNat]? = some a/\Sv l i=some a/\a∈l:=by
 have hk:i.toNat<l.length:=by omega
 refine ⟨l[i.toNat],by simp [hk],?_,List.getElem_mem hk⟩
 have q:Sv l ((i.toNat:Nat):Int)=some l[i.toNat]:=wB (by simp [hk])
 rwa [show ((i.toNat:Nat):Int)=i by omega] at q
theorem im_e{d:Ad}[h:Im d]:(imm d=true)=True:=eq_true h.h
theorem ima_e{ds:List Ad}[h:ImA ds]:(Du ds=true)=True:=eq_true h.h
theorem dp_e{d:Ad}{k:Nat}[h:Dp d k](hk:k<=60):(d.depth<=60)=True:=eq_true (Cg h.h hk)
theorem dpa_e{ds:List Ad}{k:Nat}[h:DpA ds k](hk:k<=60):(Bp ds<=60)=True:=eq_true (Cg h.h hk)
theorem eqD_li(a b:List Int):Dz (.list (a.map An)) (.list (b.map An))=decide (a=b):=qI a b
theorem eqD_l0(a:List Ad):Dz (.list a) (.list [])=a.isEmpty:=vN a
theorem ow_e{d:Ad}{R:Ad->Prop}:(∃e,DV.dat .ow d=.dat .ow e/\R e)=R d:=by
 apply propext
 constructor
 ·(intro q_; obtain ⟨e,h,r⟩ := q_); cases h; exact r
 ·intro r; exact ⟨d,rfl,r⟩
theorem tt_e{m:Md}{b:Bool}:(∃m',DV.dat m (.bool b)=.dat m' (.bool true))=(b=true):=by
 apply propext
 constructor
 ·rintro ⟨e,h⟩; cases h; rfl
 ·intro r; subst r; exact ⟨m,rfl⟩
theorem cdiv_e{i j:Int}:i5 i j=(0<j/\j<1073741824):=rfl
theorem cpow_e{i j:Int}:q9 i j=(0<=j/\j<=1000000/\i.natAbs<2 ^ 64):=rfl
theorem yF{sl sl':List DV}{n n':Nat}(h:sl=sl')(h':n=n'):(⟨sl,n⟩ : DS)=⟨sl',n'⟩:=by subst h h'; rfl
theorem qK{j i a:Nat}(h:(Dd j)[i]? = some a):a=i/\i<j:=by
 obtain ⟨h1,h2⟩:=Ak.mp h
 rw[Dt] at h1
 rw[List.getElem_range] at h2
 exact ⟨h2.symm,h1⟩
def NP(v:DV):Prop:=∀l,npk (v::l)=npk l
theorem Vm:NP .un:=λ_=>rfl
theorem Ej{d:Ad}:NP (.dat .sh d):=λ_=>rfl
theorem bN:NP .drw:=λ_=>rfl
theorem yD{α:Type}(x y:α)(b:Bool):Sv [x,y] (if b=true then 1 else 0)=some (if b=true then y else x):=by cases b <;> rfl
theorem fold_w(w:List Int):PyData.tuple (List.map An w)=Cn w:=rfl
theorem A8{ns:List Int}(k:Nat):(Us ns none (some (k:Int))).length<=k:=by
 rw[mH,Cp]
 exact Nat.min_le_left _ _
theorem ifB_lf{t u:DB}{D:DEnds}{δ:DS}:T3 t u D false δ=u D δ:=rfl
theorem Qz{α:Type}{l:List α}{i:Nat}{a:α}(h:l[i]? = some a):Sv l (i:Int)=some a:=by
 obtain ⟨b,e1,e2,_⟩:=Su (l:=l) (i:=(i:Int)) (by omega) (by have:=(Ak.mp h).1; omega)
 rw[e2,<- e1,<- h]; rfl
theorem E9{α:Type}(x:α)(l:List α):Sv (x::l) 0=some x:=Qz (i:=0) rfl
theorem A5{α:Type}(x y:α)(l:List α):Sv (x::y::l) 1=some y:=Qz (i:=1) rfl
theorem K8{α:Type}(x y z:α)(l:List α):Sv (x::y::z::l) 2=some z:=Qz (i:=2) rfl
theorem A6{α:Type}(x y z t:α)(l:List α):Sv (x::y::z::t::l) 3=some t:=Qz (i:=3) rfl
theorem M7{a:Addr}{ks:List (List Int×Ad)}{w:List Int}{m m':Md}{P:DV->Prop}:wI (.dat m (.dict (o7 a ks))) (.dat m' (Cn w)) P=∃d,Td ks w=some d/\P (.dat .ow d):=propext ⟨λ⟨a',ks',w',d,e1,e2,h⟩=>by obtain ⟨_,rfl⟩:=uR e1; cases Pe e2; exact ⟨d,h⟩,λ⟨d,h⟩=>⟨a,ks,w,d,rfl,rfl,h⟩⟩
theorem dk_e{ks:List (List Int×Ad)}{w:List Int}{Q:List (List Int×Ad)->List Int->Prop}:(∃ks' w',Ua ks=Ua ks'/\Cn w=Cn w'/\Q ks' w')=Q ks w:=propext ⟨λ⟨ks',w',e1,e2,h⟩=>by cases Wr e1; cases Pe e2; exact h,λh=>⟨ks,w,rfl,rfl,h⟩⟩
theorem dget_e{ks:List (List Int×Ad)}{w:List Int}{m m':Md}{P:DV->Prop}:dG (.dat m (.dict (Ua ks))) (.dat m' (Cn w)) P=∃d,Td ks w=some d/\P (.dat .ow d):=propext ⟨λ⟨ks',w',d,e1,e2,h⟩=>by cases Wr e1; cases Pe e2; exact ⟨d,h⟩,λ⟨d,h⟩=>⟨ks,w,d,rfl,rfl,h⟩⟩
end DL
namespace K38
open PySem L2 Nd DL
def Nq(i:Nat):Stmt:=PySem.Challenge.pw_needledeck_k38_whole_readings_told_other.main.body.getD i (.Pass ⟨0,0,0,0⟩)
abbrev Sk:Stmt:=Nq 1
abbrev Ku:Stmt:=Nq 2
abbrev Qf:Stmt:=Nq 4
abbrev Li:Stmt:=Nq 5
abbrev Ju:Stmt:=Nq 6
abbrev cY:Stmt:=Nq 7
abbrev bU:Stmt:=Nq 9
abbrev aO:Stmt:=Nq 10
abbrev Js:Stmt:=Nq 11
abbrev Mx:Stmt:=Nq 12
abbrev Nv:Stmt:=Nq 13
abbrev Lz:Stmt:=Nq 14
abbrev Mw:Stmt:=Nq 15
abbrev Mu:Stmt:=Nq 16
abbrev Ii:Stmt:=Nq 17
abbrev Gc:Stmt:=Nq 18
abbrev Em:Stmt:=Nq 19
abbrev Fj:Stmt:=Nq 20
abbrev Wz:Stmt:=Nq 21
section
variable{P:Bu}{w:World}{K:PySem.W.Frag}{mg:Str->Option Value}{base:Heap}
theorem T6:FnScope ["_law_cell"] ["_law_cell"] (Bn bU):=⟨rfl,rfl,rfl,by decide +kernel,rfl,by decide +kernel,by decide +kernel⟩
theorem qW{f:Addr}{fd:Bz}(F:Fun K "_law_draws" "_law_draws" bU f fd):FnOk P w K mg base Gd 1 f fd ["_law_cell"] Ss:=by
 refine F.ok T6 (λvs H Q E h=>?_) (λcdv A outer s H vs Q E hr h=>?_)
 ·obtain ⟨c,rfl,_⟩:=h
  rfl
 obtain ⟨c,rfl,q⟩:=h
 refine ⟨_,Eo (lN (jZ xV (pv 0) (Eh Rw Cw Cw) (Rt _)) (Jt (Nu (Yu (Fd (Eh Lx (pv 0) (Eh uI (Eh Rw Cw Cw) Cw)) (Fd Cw (Fd qL Hw)))))) Wm)
  (Jt (Nu (Yu (Fd (Eh Lx (pv 0) Cw) (Fd Cw (Fd qL Hw)))))),?_⟩
 refine ⟨_,rfl,10,18,rfl,rfl,⟨by decide,by decide,by decide⟩,_,_,rfl,rfl,_,rfl,zF (λ_=>?_) (λ_=>?_)⟩
 ·refine ⟨_,rfl,10,60,rfl,rfl,⟨by decide,by decide,by decide⟩,_,16,rfl,rfl,⟨by decide,by show (Builtin.Int.intBits (10 ^ (60:Int).toNat):Int) * 16<=2 ^ 27; decide +kernel⟩,_,_,rfl,rfl,(by show (0:Int)<(10 ^ (60:Int).toNat) ^ (16:Int).toNat; decide +kernel),(by show 3<=Aq; decide),λp hp=>?_⟩
  exact q p _ _ _ hp Cj (Dk hp _)
 ·refine ⟨_,rfl,_,_,rfl,rfl,(by show (0:Int)<1000003; decide),(by show 3<=Aq; decide),λp hp=>?_⟩
  exact q p _ _ _ hp Cj (Dk hp _)
theorem R7:FnScope ["_law_draws_here", "_law_k", "_law_number"] ["_law_draws_here"] (Bn aO):=⟨rfl,rfl,rfl,by decide +kernel,rfl,by decide +kernel,by decide +kernel⟩
theorem wQ{f:Addr}{fd:Bz}(F:Fun K "_law_next" "_law_next" aO f fd):FnOk P w K mg base Gd 1 f fd ["_law_draws_here"] sZ:=by
 refine F.ok R7 (λvs H Q E h=>?_) (λcdv A outer s H vs Q E hr h=>?_)
 ·obtain ⟨d,c,k,fl,rfl,_⟩:=h
  rfl
 obtain ⟨d,c,k,fl,rfl,hd,h0,h1,q⟩:=h
 refine ⟨_,Eo (Xz (Eh Nr (Nf Jf (pv 0) Cw (λ_ _=>rfl)) Cw) (Xw (pv 0) Cw Pr))
  (Eo (lN (iW (Nf Jf (pv 0) Cw (λ_ _=>rfl)))
   (Eo (Jr (i:=2) R7.nd rfl (Ea rfl) (Eh Lx (Nf Jf (pv 0) Cw (λ_ _=>rfl)) (Eh Rw Cw Cw)))
    (Eo (Xz (Eh Tg (Nf Jf (pv 0) Cw (λ_ _=>rfl)) (Eh Rw Cw Cw)) (Xw (pv 0) Cw Pr))
    (Jt (Nu (pv 2))))) Wm)
  (Eo (Jr (i:=1) R7.nd rfl (Ea rfl) (Nf Jf (pv 0) Cw (λ_ _=>rfl)))
  (Eo (Jr (i:=2) R7.nd rfl (Ea rfl) (Eh Lx (Eh Lp (Eh Nr (Eh Nr (Nf Jf (pv 0) Cw (λ_ _=>rfl)) (Eh Lp (Eh Lp (pv 1) (pv 1)) Cw)) (pv 1)) Cw) Cw))
  (Eo (Jr (i:=2) R7.nd rfl (Ea rfl) (Eh Lx (Eh Lp (pv 2) (pv 2)) Cw))
  (Jt (Nu (Eh Tg (Eh Lx (Eh Lp (pv 2) (Eh Nr (pv 2) Cw)) Cw) Cw))))))),?_⟩
 -- draws[1]=draws[1]+1
 refine ⟨_,rfl,d,_,1,_,rfl,rfl,Kw.of hd,rfl,_,_,rfl,rfl,_,rfl,d,_,1,1,rfl,rfl,hd,rfl,?_⟩
 have e1:(upd H d (.lst ([V.int c,V.int k,V.bl fl].set 1 (V.int (k+1))))) d=some (.lst [.int c,.int (k+1),.bl fl]):=Cj
 generalize hH1:upd H d (.lst ([V.int c,V.int k,V.bl fl].set 1 (V.int (k+1))))=H1 at e1
 have s1:Rb d H H1:=by rw[<- hH1]; exact Rb.upd
 refine ⟨_,rfl,d,_,2,_,rfl,rfl,Kw.of e1,rfl,_,rfl,?_⟩
 refine zF (λ_=>?_) (λ_=>?_)
 ·refine ⟨_,rfl,d,_,0,_,rfl,rfl,Kw.of e1,rfl,10,6,rfl,rfl,⟨by decide,by decide,by decide⟩,_,_,rfl,rfl,(by show (0:Int)<10 ^ (6:Int).toNat; decide),?_⟩
  refine ⟨_,rfl,d,_,0,_,rfl,rfl,Kw.of e1,rfl,10,6,rfl,rfl,⟨by decide,by decide,by decide⟩,_,_,rfl,rfl,⟨by decide,by decide⟩,_,rfl,d,_,0,0,rfl,rfl,e1,rfl,_,rfl,?_⟩
  exact q _ _ _ Cj (s1.trans Rb.upd)
 ·refine ⟨_,rfl,d,_,1,_,rfl,rfl,Kw.of e1,rfl,?_⟩
  have b1:=Tb ((c+(k+1) * (k+1) * 7919+(k+1)) * 48271) 2147483629 (by decide)
  refine ⟨_,rfl,d,_,0,_,rfl,rfl,Kw.of e1,rfl,_,rfl,_,rfl,_,_,rfl,rfl,.inl ⟨by omega,by omega⟩,_,_,rfl,rfl,.inr ⟨by decide,by decide⟩,_,_,rfl,rfl,_,rfl,_,_,rfl,rfl,
   _,_,rfl,rfl,.inr ⟨by decide,by decide⟩,_,_,rfl,rfl,(by show (0:Int)<2147483629; decide),?_⟩
  generalize ((c+(k+1) * (k+1) * 7919+(k+1)) * 48271) % 2147483629=x at b1
  have b2:=Tb (x * x) 2147483587 (by decide)
  refine ⟨_,rfl,_,rfl,_,_,rfl,rfl,.inl ⟨by omega,by omega⟩,_,_,rfl,rfl,(by show (0:Int)<2147483587; decide),?_⟩
  generalize (x * x) % 2147483587=y at b2
  refine ⟨_,rfl,_,rfl,_,_,rfl,rfl,_,_,rfl,rfl,.inl ⟨by omega,by omega⟩,_,_,rfl,rfl,(by show (0:Int)<2147483579; decide),_,_,rfl,rfl,⟨by decide,by decide⟩,?_⟩
  exact q _ _ _ e1 s1
theorem oI{f:Addr}{fd:Bz}(F:Fun K "_law_draws" "_law_draws" bU f fd):FnOk P w K mg base Gd 1 f fd ["_law_cell"] Ss:=qW F
theorem rQ{f:Addr}{fd:Bz}(F:Fun K "_law_next" "_law_next" aO f fd):FnOk P w K mg base Gd 1 f fd ["_law_draws_here"] (dR K Yq):=vQ (wQ F)
end
end K38
namespace DL
open PySem L2 Nd
def sub(a b:List Int):Bool:=a.all λi=>decide (i∈b)
def eI(a b:List Int):List Int:=a.filter λi=>decide (i∉b)
theorem kG{a b:List Int}:sub a b=true↔∀i∈a,i∈b:=by
 unfold sub
 simp [Yz]
theorem cD{h:Int}{a:List Int}(r:Ec h a):a.Nodup:=r.1.imp λ{x y} h=>Int.ne_of_lt h
theorem Up(a:Int){b:Int}(h:0<b):0<=a % b/\a % b<b:=Tb a b h
end DL
namespace Nd
open PySem L2 Ts
def tS(K:PySem.W.Frag):R2:=λx y H Q=>∃a b xs ys,x=.ref a/\y=.ref b/\Rr K H a xs/\Rr K H b ys/\ys≠[]/\xs.length+ys.length<=Aq/\(xs=[]->Q (.ref b) H)/\(xs≠[]->∀p,H p=none->Q (.ref p) (upd H p (.tup (xs++ys))))
open PyProof.Rows in
theorem kQ{X:Cx}:Vb X (Hl .Add) (tS X.K):=by
 intro pins s σ H x y v u Q I rx ry h
 obtain ⟨a,b,xs,ys,rfl,rfl,ha,hb,hy,hz,q1,q2⟩:=h
 by_cases hx:xs=[]
 ·cases rx
  cases ry
  obtain ⟨its,r1,p1,_⟩:=I.tuple ha
  obtain ⟨its2,r2,p2,_⟩:=I.tuple hb
  have e1:its=[]:=r1.nil_iff.mpr hx
  subst e1
  obtain ⟨⟨c1,d1,dt1,sl1⟩,g1,k1,n1,e1⟩:=id p1
  obtain ⟨⟨c2,d2,dt2,sl2⟩,g2,k2,n2,e2⟩:=id p2
  simp only at k1 e1 k2 e2
  subst k1 e1 k2 e2
  exact concat_meets ⟨_,g1,rfl⟩ ⟨_,g2,rfl⟩ dY seq_tuple_add PySem.F.slot_tuple_add PySem.F.entry_tuple_add (PySem.F.args_tuple_add_2 _ _)
   (tuple_addW0 a b _ _ n1 n2 d1 d2 sl1 sl2 rfl) ⟨g1,g2,⟨.ref b,H,I,rfl,q1 hx⟩⟩
 ·exact vH pins s σ H (.ref a) (.ref b) v u Q I rx ry ⟨a,b,xs,ys,rfl,rfl,ha,hb,hx,hz,λz=>absurd z hy,λ_=>q2 hx⟩
def Do:Nat->List (List Int)
 | 0=>[[]]
 | n+1=>Do n++(Do n).map (·++[(n:Int)])
theorem Nz:∀n,(Do n).length=2 ^ n
 | 0=>rfl
 | n+1=>by
  show (Do n++(Do n).map (·++[(n:Int)])).length=2 ^ (n+1)
  rw[Cb,Ab,Nz n,Nat.pow_succ]
  omega
theorem Nw{n:Nat}(h:n<=10):(Do n).length<=1024:=by
 rw[Nz]
 exact Nat.pow_le_pow_right (by decide) h
theorem Ks:∀n,∀w∈Do n,w.length<=n
 | 0,w,h=>by
  have : w=[]:=by simpa [Do] using h
  rw[this]
  exact Ai _
 | n+1,w,h=>by
  rcases Bl.mp (show w∈Do n++(Do n).map (·++[(n:Int)]) from h) with h | h
  ·exact Nat.le_succ_of_le (Ks n w h)
  ·obtain ⟨v,hv,e⟩:=Bg.mp h
   rw[<- e,Cb,Ky]
   exact Nat.succ_le_succ (Ks n v hv)
theorem Pf:∀n,∃r,Do n=[]::r
 | 0=>⟨[],rfl⟩
 | n+1=>by
  obtain ⟨r,e⟩:=Pf n
  refine ⟨r++(Do n).map (·++[(n:Int)]),?_⟩
  show Do n++(Do n).map (·++[(n:Int)])=_
  conv=>lhs; lhs; rw[e]
  rfl
def Ord(l:List (List Int)):Prop:=l.Pairwise λx y=>HT.lexLt y x=false
theorem gK:∀{l m:List (List Int)},l.Perm m->Ord l->Ord m->l=m
 | [],m,p,_,_=>(List.Perm.nil_eq p)
 | x::l,[],p,_,_=>by
  have:=p.length_eq
  simp at this
 | x::l,y::m,p,h1,h2=>by
  obtain ⟨a1,a2⟩:=Bh.mp h1
  obtain ⟨b1,b2⟩:=Bh.mp h2
  have e:x=y:=by
   have mx:x∈y::m:=p.mem_iff.mp Aa
   have my:y∈x::l:=p.mem_iff.mpr Aa
   rcases Aj.mp mx with e | mx
   ·exact e
   ·rcases Aj.mp my with e | my
    ·exact e.symm
    ·exact cU (b1 x mx) (a1 y my) |>.symm▸rfl
  subst e
  rw[gK ((List.perm_cons x).mp p) a2 b2]
def Ws(H:Hp)(ws:List (Addr×List Int)):Prop:=∀p∈ws,H p.1=some (.tup (p.2.map V.int))
def oT(H:Hp)(a:Addr):List Int:=match H a with
 | some (.tup xs)=>xs.filterMap λx=>match x with | .int i=>some i | _=>none
 | _=>[]
theorem Rl{H:Hp}{a:Addr}{w:List Int}(h:H a=some (.tup (w.map V.int))):oT H a=w:=by
 unfold oT
 rw[h]
 show (w.map V.int).filterMap _=w
 rw[List.filterMap_map]
 exact List.filterMap_some
theorem Ws.c{H:Hp}{ws:List (Addr×List Int)}(h:Ws H ws):(ws.map (·.1)).map (oT H)=ws.map (·.2):=by
 rw[Br]
 exact Ek λp hp=>Rl (h p hp)
def bX:Sp:=λvs H Q _=>∃h:Int,vs=[.int h]/\0<=h/\h<=10 /\
 ∀(p:Addr) (rs:List Addr) (L:List (List Int)) (H':Hp),H p=none->H' p=some (.lst (rs.map V.ref))->(∀(i:Nat) (r:Addr) (w:List Int),rs[i]? = some r->L[i]? = some w->H' r=some (.tup (w.map V.int)))->rs.length=L.length->L.Perm (Do h.toNat)->Ord L->Kt H H'->Q (.ref p) H'
end Nd
namespace Nd
open PySem L2
def ch:Nat->Nat->Nat
 | _,0=>1
 | 0,_+1=>0
 | n+1,k+1=>ch n k+ch n (k+1)
theorem kE(n k:Nat):ch (n+1) (k+1)=ch n k+ch n (k+1):=rfl
theorem Xu:∀{n k:Nat},n<k->ch n k=0
 | 0,0,h=>absurd h (Ex _)
 | 0,k+1,_=>rfl
 | n+1,0,h=>absurd h (Nat.not_lt_zero _)
 | n+1,k+1,h=>by rw[kE,Xu (by omega:n<k),Xu (by omega:n<k+1)]
theorem vJ:∀n:Nat,ch n n=1
 | 0=>rfl
 | n+1=>by rw[kE,vJ n,Xu (Nat.lt_succ_self n)]
def cw:Nat->Int->Nat->List (List Int)
 | _,_,0=>[[]]
 | 0,_,_+1=>[]
 | d+1,p,m+1=>(cw d (p+1) m).map (p::·)++cw d (p+1) (m+1)
def Uk(Nq:Int):Nat->List Int->Nat
 | _,[]=>0
 | m,x::w=>ch (Nq - 1 - x).toNat m+Uk Nq (m - 1) w
theorem Ys:∀{n:Nat} {w:List Int},w∈Do n↔Ec n w
 | 0,w=>by
  show w∈[[]]↔_
  rw[List.mem_singleton]
  constructor
  ·rintro rfl; exact Ec.nil _
  ·rintro ⟨_,h⟩
   match w with
   | []=>rfl
   | x::w=>have:=h x Aa; omega
 | n+1,w=>by
  show w∈Do n++(Do n).map (·++[(n:Int)])↔_
  rw[List.mem_append,List.mem_map,Ys]
  constructor
  ·rintro (h | ⟨v,hv,rfl⟩)
   ·exact h.up (by omega)
   ·have:=(Ys.mp hv).more (by omega)
    exact this.up (by omega)
  ·intro h
   by_cases hn:(n:Int)∈w
   ·refine .inr ⟨w.dropLast,Ys.mpr ?_,?_⟩
    ·have hne:w≠[]:=λz=>by rw[z] at hn; cases hn
     have hl:w.getLast hne=n:=by
      have h1:=h.2 _ (List.getLast_mem hne)
      by_cases e:w.getLast hne=n
      ·exact e
      ·exfalso
       have hd:=Hq hne
       rw[<- hd] at hn
       rcases Bl.mp hn with z | z
       ·have hp:=h.1
        rw[<- hd] at hp
        have:=(Da.mp hp).2.2 _ z _ (Ah.mpr rfl)
        omega
       ·exact e (Ah.mp z).symm
     have hd:=Hq hne
     have hp:=h.1
     rw[<- hd,hl] at hp
     obtain ⟨p1,_,p3⟩:=Da.mp hp
     exact ⟨p1,λx hx=>⟨(h.2 x (List.dropLast_subset w hx)).1,p3 x hx _ (Ah.mpr rfl)⟩⟩
    ·have hne:w≠[]:=λz=>by rw[z] at hn; cases hn
     have hl:w.getLast hne=n:=by
      have h1:=h.2 _ (List.getLast_mem hne)
      by_cases e:w.getLast hne=n
      ·exact e
      ·exfalso
       have hd:=Hq hne
       rw[<- hd] at hn
       rcases Bl.mp hn with z | z
       ·have hp:=h.1
        rw[<- hd] at hp
        have:=(Da.mp hp).2.2 _ z _ (Ah.mpr rfl)
        omega
       ·exact e (Ah.mp z).symm
     rw[<- hl]
     exact Hq hne
   ·refine .inl ⟨h.1,λx hx=>?_⟩
    have:=h.2 x hx
    have : x≠n:=λz=>hn (by rw[<- z]; exact hx)
    omega
theorem Nt:∀n:Nat,(Do n).Nodup
 | 0=>Ci.mpr ⟨Ba,Ct⟩
 | n+1=>by
  show (Do n++(Do n).map (·++[(n:Int)])).Nodup
  refine Wh.mpr ⟨Nt n,?_,λx hx y hy e=>?_⟩
  ·exact List.Pairwise.map _ (λa b h e=>h (List.append_cancel_right e)) (Nt n)
  ·subst e
   obtain ⟨v,_,rfl⟩:=Bg.mp hy
   have:=(Ys.mp hx).2 n (Ap _ (Ah.mpr rfl))
   omega
end Nd
namespace DL
open PySem L2 Nd
def Qi:PF:=λds R=>∃h:Int,ds=[.int h]/\0<=h/\h<=10/\∀L:List (List Int),L.Perm (Do h.toNat)->Ord L->R (wordsD L)
theorem gM{K:PySem.W.Frag}{H:Hp}:∀{rs:List Addr} {L:List (List Int)},(∀(i:Nat) (r:Addr) (w:List Int),rs[i]? = some r->L[i]? = some w->H r=some (.tup (w.map V.int)))->rs.length=L.length->(∀w∈L,w.length<=1000000)->RdFs K H (rs.map V.ref) (L.map Cn) []
 | [],[],_,_,_=>.nil
 | r::rs,w::L,h,l,hw=>by
  have a:=vC (K:=K) (h 0 r w rfl rfl) (hw w (Aa ..))
  have t:=gM (K:=K) (rs:=rs) (L:=L) (λi r' w' e1 e2=>h (i+1) r' w' e1 e2) (by simpa using l) (λw' z=>hw w' (Ag _ z))
  exact RdFs.cons a t
 | [],_::_,_,l,_=>by simp at l
 | _::_,[],_,l,_=>by simp at l
theorem Jj{L:List (List Int)}{n:Nat}(hn:n<=10)(p:L.Perm (Do n)):L.length<=1024/\∀w∈L,Ec n w/\w.length<=10:=⟨by rw[p.length_eq]; exact Nw hn,λw hw=>⟨Ys.mp (p.mem_iff.mp hw),Cg (Ks n w (p.mem_iff.mp hw)) hn⟩⟩
section
variable{P:Bu}{w:World}{K:PySem.W.Frag}{mg:Str->Option Value}{base:Heap}{k:Nat}{f:Addr}{fd:Bz}{ps:List Str}
theorem gU(F:FnOk P w K mg base Gd k f fd ps bX):FnOk P w K mg base Gd k f fd ps (Po K Qi):=by
 refine F.imp λus H Q E h=>?_
 obtain ⟨As,n,ds,R,eu,ok,q,hp,k1⟩:=h
 obtain ⟨h,rfl,h0,h1,hR⟩:=hp
 obtain ⟨v1,F1,rfl,r1⟩:=tI eu ok q
 obtain ⟨rfl,_⟩:=r1.int_inv
 refine ⟨h,rfl,h0,h1,λp rs L H' np ep hr hl hp ho s=>?_⟩
 obtain ⟨l1,l2⟩:=Jj (n:=h.toNat) (by omega) hp
 refine k1 (.ref p) _ [p] H' (hR L hp ho) (RdF.lst ep (by rw[Ab]; exact lI (by omega)) (gM hr hl λw hw=>by have:=(l2 w hw).2; omega)) (Ci.mpr ⟨Ba,Ct⟩) (λa ha=>?_) s
 rw[Ah.mp ha]; exact np
end
theorem jN{α:Type}{l:List α}{i:Nat}{p:α×Nat}(h:l.zipIdx[i]? = some p):p.2=i/\l[i]? = some p.1/\p.1∈l/\i<l.length:=by
 rw[List.getElem?_zipIdx] at h
 cases q:l[i]? with
 | none=>rw[q] at h; cases h
 | some a =>
  rw[q] at h
  cases h
  exact ⟨by simp,rfl,Au q,(Ak.mp q).1⟩
def pairD(p:Nat×Nat):Ad:=.tuple [.int p.1,.int p.2]
instance {p:Nat×Nat}:Im (pairD p):=⟨(inferInstance:Im (.tuple [.int p.1,.int p.2])).h⟩
instance {p:Nat×Nat}:Dp (pairD p) 1:=⟨(inferInstance:Dp (.tuple [.int p.1,.int p.2]) 1).h⟩
def xG(p:Nat×Nat×List Int):Ad:=.tuple [.int p.1,.int p.2.1,Cn p.2.2]
instance {p:Nat×Nat×List Int}:Im (xG p):=⟨(inferInstance:Im (.tuple [.int p.1,.int p.2.1,Cn p.2.2])).h⟩
instance {p:Nat×Nat×List Int}:Dp (xG p) 2:=⟨(inferInstance:Dp (.tuple [.int p.1,.int p.2.1,Cn p.2.2]) 2).h⟩
def P4(L:List (List Int))(f:List Int->Int):Ad:=.list ((L.map f).map An)
instance {L:List (List Int)} {f:List Int->Int}:Dp (P4 L f) 1:=⟨(inferInstance:Dp (.list ((L.map f).map An)) 1).h⟩
theorem Mn{L:List (List Int)}{n:Nat}(p:L.Perm (Do n)):L.Nodup:=p.nodup_iff.mpr (Nt n)
theorem Ut{L:List (List Int)}{n:Nat}(p:L.Perm (Do n)){w:List Int}:w∈L↔Ec n w:=p.mem_iff.trans Ys
theorem Uu{n m:Int}{a b:List Int}(ha:Ec n a)(hb:Ec m b)(h:∀i,i∈a↔i∈b):a=b:=by
 have p:a.Perm b:=(List.perm_ext_iff_of_nodup (cD ha) (cD hb)).mpr h
 exact p.eq_of_pairwise (λx y _ _ h1 h2=>by omega) ha.1 hb.1
end DL
namespace DL
open PySem PySem.Spec PyProof.Rows L2 Nd
def mZ(L:List (List Int))(f:List Int->Int):List (List Int×Ad):=L.map λw=>(w,.int (f w))
theorem eE:∀(L:List (List Int)) (es:List Ad) (acc:List (List Int×Ad)),L.length=es.length->L.Nodup->(∀w∈L,∀p∈acc,p.1≠w)->Of acc (L.zip es)=acc++L.zip es
 | [],es,acc,_,_,_=>by simp [Of]
 | w::L,[],acc,h,_,_=>by cases h
 | w::L,e::es,acc,h,nd,hn=>by
  have hp:Pc acc w e=acc++[(w,e)]:=by
   unfold Pc
   rw[if_neg]
   rw[List.any_eq_true]
   (intro q_; obtain ⟨p,hp,z⟩ := q_)
   exact hn w Aa p hp (of_decide_eq_true z)
  have nd':=Ci.mp nd
  show Of (Pc acc w e) (L.zip es)=_
  rw[hp,eE L es _ (Nat.succ.inj h) nd'.2 λv hv p hp=>?_]
  ·rw[Ck]; rfl
  ·rcases Bl.mp hp with z | z
   ·exact hn v (Ag _ hv) p z
   ·rw[Ah.mp z]
    rintro rfl
    exact nd'.1 hv
theorem fB:∀(L:List (List Int)) (f:List Int->Int),L.zip ((L.map f).map An)=mZ L f
 | [],f=>rfl
 | w::L,f=>by
  have ih:=fB L f
  unfold mZ at ih ⊢
  rw[Av,Av,Vj,ih]
  rfl
theorem Ti{L:List (List Int)}(nd:L.Nodup)(f:List Int->Int):Of [] (L.zip ((L.map f).map An))=mZ L f:=by
 rw[eE L _ [] (by rw[Ab,Ab]) nd λ_ _ p hp=>(nomatch hp),List.nil_append,fB]
theorem Sq{w:List Int}{f:List Int->Int}:∀{L:List (List Int)},w∈L->Td (mZ L f) w=some (.int (f w))
 | [],h=>(nomatch h)
 | v::L,h=>by
  unfold Td mZ
  rw[Av,Ho]
  by_cases e:v=w
  ·subst e
   rw[show decide ((v,An (f v)).1=v)=true from decide_eq_true rfl]
   rfl
  ·rw[show decide ((v,An (f v)).1=w)=false from decide_eq_false e]
   have ih:=Sq (f:=f) (List.mem_of_ne_of_mem (λz=>e z.symm) h)
   exact ih
theorem nH(n:Nat):Sw (n+1)=Sw n++[(n:Int)]:=by
 unfold Sw
 rw[List.range_succ,Bm]
 rfl
end DL
namespace DRow
open PySem L2 Nd DL
abbrev Cd:=List Int
def Wb(w u:List Int):Bool:=w.all λi=>decide (i∈u)
def p7(n1 n2:List Int)(ps:List (List Int×Bool)):Option Bool:=ps.foldl (λst p=>if Wb p.1 n1=Wb p.1 n2 then st else some (Wb p.1 n1 == !p.2)) none
theorem uU(n1 n2:List Int)(ps:List (List Int×Bool))(p:List Int×Bool):p7 n1 n2 (ps++[p])=if Wb p.1 n1=Wb p.1 n2 then p7 n1 n2 ps else some (Wb p.1 n1 == !p.2):=by
 unfold p7
 rw[List.foldl_append]
 rfl
def Xe(ps:List (List Int×Bool))(n:List Int):List Int:=ps.reverse.map λp=>if Wb p.1 n=p.2 then 1 else 0
theorem aP(ps:List (List Int×Bool))(p:List Int×Bool)(n:List Int):Xe (ps++[p]) n=(if Wb p.1 n=p.2 then 1 else 0)::Xe ps n:=by
 unfold Xe
 rw[List.reverse_append,Bm]
 rfl
theorem qD{α:Type}{P:List α->Prop}(h0:P [])(h1:∀l x,P l->P (l++[x]))(l:List α):P l:=by
 have : ∀m:List α,P m.reverse:=λm=>by
  induction m with
  | nil=>exact h0
  | cons x m ih=>rw[List.reverse_cons]; exact h1 _ _ ih
 have:=this l.reverse
 rwa [List.reverse_reverse] at this
theorem sE(n1 n2:List Int)(ps:List (List Int×Bool)):(p7 n1 n2 ps=none↔Xe ps n1=Xe ps n2)/\(p7 n1 n2 ps=some true↔HT.lexLt (Xe ps n1) (Xe ps n2)=true):=by
 induction ps using qD with
 | h0=>exact ⟨⟨λ_=>rfl,λ_=>rfl⟩,⟨λh=>(by cases h),λh=>(by cases h)⟩⟩
 | h1 l p ih =>
  rw[uU,aP,aP,HT.lexLt_cons]
  by_cases h:Wb p.1 n1=Wb p.1 n2
  ·rw[if_pos h,h,if_pos rfl]
   refine ⟨ih.1.trans ⟨λe=>by rw[e],λe=>(Ei e).2⟩,ih.2⟩
  ·rw[if_neg h]
   cases h1:Wb p.1 n1 <;> cases h2:Wb p.1 n2 <;> cases h3:p.2 <;> rw[h1,h2] at h <;> first | exact absurd rfl h | simp
theorem Pq(x y:List Int)(ps:List (List Int×Bool)):p7 x y ps=some false↔(¬ Xe ps x=Xe ps y/\¬ HT.lexLt (Xe ps x) (Xe ps y)=true):=by
 rw[<- (sE x y ps).1,<- (sE x y ps).2]
 cases p7 x y ps with
 | none=>simp
 | some b=>cases b <;> simp
def two(x y:Cd):Cd->Bool:=λr=>decide (r=x) || decide (r=y)
abbrev Ps:=List Int×Bool
def yV(p:Ps):Ad:=.tuple [Cn p.1,.str (pF p.2)]
instance {p:Ps}:Im (yV p):=⟨(inferInstance:Im (.tuple [Cn p.1,.str (pF p.2)])).h⟩
instance {p:Ps}:Dp (yV p) 2:=⟨(inferInstance:Dp (.tuple [Cn p.1,.str (pF p.2)]) _).h⟩
instance {α:Type} {f:α->Ad} {l:List α} {lo hi:Option Int} [h:∀a,Im (f a)]:ImA (Us (l.map f) lo hi):=⟨by rw[fV]; exact R5⟩
end DRow
namespace DL
open PySem PySem.Spec PyProof.Rows L2 Nd DRow
theorem Yj{α β:Type}{f:α->β}:∀{l:List α},l.Nodup->(∀a∈l,∀b∈l,f a=f b->a=b)->(l.map f).Nodup
 | [],_,_=>Ct
 | x::l,nd,h=>by
  have nd':=Ci.mp nd
  rw[Av,List.nodup_cons]
  refine ⟨λz=>?_,Yj nd'.2 λa ha b hb=>h a (Ag _ ha) b (Ag _ hb)⟩
  obtain ⟨y,hy,e⟩:=Bg.mp z
  have:=h y (Ag _ hy) x Aa e
  rw[this] at hy
  exact nd'.1 hy
theorem uD(h:Nat):(Sw h).Nodup:=Yj List.nodup_range λa _ b _ e=>by have : (a:Int)=b:=e; omega
def Zr(T:List Int)(i:Int):Int:=T.getD i.toNat 0
def Rm(T w:List Int):List Int:=Vo (w.map (Zr T))
structure Pm(h:Nat)(T:List Int):Prop where
 len:T.length=h
 perm:T.Perm (Sw h)
theorem Pm.ran{h:Nat}{T:List Int}(p:Pm h T){i:Int}(h0:0<=i)(h1:i<h):0<=Zr T i/\Zr T i<h/\T[i.toNat]? = some (Zr T i):=by
 have l:=p.len
 have e:T[i.toNat]? = some (T[i.toNat]'(by omega)):=Am _
 have e2:Zr T i=T[i.toNat]'(by omega):=by unfold Zr; rw[Ed,e]; rfl
 have m:T[i.toNat]'(by omega)∈Sw h:=p.perm.mem_iff.mp (List.getElem_mem _)
 obtain ⟨k,hk,ek⟩:=Bg.mp m
 have:=Ga.mp hk
 rw[e2]
 exact ⟨by omega,by omega,e⟩
theorem Pm.nd{h:Nat}{T:List Int}(p:Pm h T):T.Nodup:=p.perm.nodup_iff.mpr (uD h)
theorem Pm.inj{h:Nat}{T:List Int}(p:Pm h T){i j:Int}(i0:0<=i)(i1:i<h)(j0:0<=j)(j1:j<h)(e:Zr T i=Zr T j):i=j:=by
 obtain ⟨_,_,a⟩:=p.ran i0 i1
 obtain ⟨_,_,b⟩:=p.ran j0 j1
 rw[e] at a
 have l:=p.len
 have:=(List.getElem?_inj (i:=i.toNat) (j:=j.toNat) (by omega) p.nd).mp (a.trans b.symm)
 omega
theorem Pm.sur{h:Nat}{T:List Int}(p:Pm h T){j:Int}(j0:0<=j)(j1:j<h):∃i,0<=i/\i<(h:Int)/\Zr T i=j:=by
 have m:j∈T:=p.perm.mem_iff.mpr (by unfold Sw; exact Bg.mpr ⟨j.toNat,Ga.mpr (by omega),by omega⟩)
 obtain ⟨k,hk,e⟩:=Fh.mp m
 have l:=p.len
 refine ⟨k,by omega,by omega,?_⟩
 unfold Zr
 rw[Ed,Fn,Am hk,e]
 rfl
theorem zS{T w:List Int}{x:Int}:x∈Rm T w↔∃i∈w,Zr T i=x:=by
 unfold Rm
 rw[(Lu _).mem_iff,List.mem_map]
theorem Pm.word{h:Nat}{T w:List Int}(p:Pm h T)(hw:Ec (h:Int) w):Ec (h:Int) (Rm T w):=by
 have nd:(Rm T w).Nodup:=(Lu _).nodup_iff.mpr (Yj (cD hw) λa ha b hb e=>by
  have r1:=hw.2 a ha
  have r2:=hw.2 b hb
  exact p.inj r1.1 r1.2 r2.1 r2.2 e)
 refine ⟨?_,λx hx=>?_⟩
 ·refine ((Xi (w.map (Zr T))).and nd).imp λ{a b} z=>?_
  have:=z.1
  have:=z.2
  omega
 ·obtain ⟨i,hi,rfl⟩:=zS.mp hx
  have r:=hw.2 i hi
  obtain ⟨a,b,_⟩:=p.ran r.1 r.2
  exact ⟨a,b⟩
theorem Pm.back{h:Nat}{T w:List Int}(p:Pm h T)(hw:Ec (h:Int) w):∃v,Ec (h:Int) v/\Rm T v=w:=by
 have ru:Ec (h:Int) (Sw h):=by
  refine ⟨?_,λx hx=>?_⟩
  ·unfold Sw
   rw[Wg]
   exact List.pairwise_lt_range.imp λ{a b} z=>by omega
  ·obtain ⟨k,hk,rfl⟩:=Bg.mp hx
   have:=Ga.mp hk
   omega
 have rv:Ec (h:Int) ((Sw h).filter λi=>decide (Zr T i∈w)):=⟨ru.1.sublist List.filter_sublist,λx hx=>ru.2 x (Bk.mp hx).1⟩
 refine ⟨_,rv,Uu (p.word rv) hw λx=>?_⟩
 rw[zS]
 constructor
 ·(intro q_; obtain ⟨i,hi,rfl⟩ := q_)
  exact of_decide_eq_true (Bk.mp hi).2
 ·intro hx
  have r:=hw.2 x hx
  obtain ⟨i,i0,i1,rfl⟩:=p.sur r.1 r.2
  exact ⟨i,Bk.mpr ⟨by unfold Sw; exact Bg.mpr ⟨i.toNat,Ga.mpr (by omega),by omega⟩,decide_eq_true hx⟩,rfl⟩
theorem Pm.sub{h:Nat}{T w c:List Int}(p:Pm h T)(hw:Ec (h:Int) w)(hc:Ec (h:Int) c):DL.sub (Rm T w) (Rm T c)=DL.sub w c:=by
 rw[Bool.eq_iff_iff,kG,kG]
 constructor
 ·intro hh i hi
  obtain ⟨j,hj,e⟩:=zS.mp (hh _ (zS.mpr ⟨i,hi,rfl⟩))
  have r1:=hw.2 i hi
  have r2:=hc.2 j hj
  rw[<- p.inj r2.1 r2.2 r1.1 r1.2 e]
  exact hj
 ·intro hh x hx
  obtain ⟨i,hi,rfl⟩:=zS.mp hx
  exact zS.mpr ⟨i,hh i hi,rfl⟩
theorem Pm.wordInj{h:Nat}{T:List Int}(p:Pm h T){v w:List Int}(hv:Ec (h:Int) v)(hw:Ec (h:Int) w)(e:Rm T v=Rm T w):v=w:=by
 have q1:=p.sub hv hw
 have q2:=p.sub hw hv
 rw[e] at q1
 rw[<- e] at q2
 have self:∀x:List Int,DL.sub x x=true:=λx=>kG.mpr λi hi=>hi
 rw[self] at q1 q2
 exact Uu hv hw λi=>⟨kG.mp q1.symm i,kG.mp q2.symm i⟩
end DL
namespace K38
open PySem L2 Nd DL
local macro_rules | `(tactic| array_get_dec) => do
  let ids:=(("e_sortL e_seq e_skip e_ret e_if e_asg e_name e_name2 e_name4 e_own e_nF e_op e_var e_c e_imm e_immB e_take e_I e_I0 e_eqF e_eqT e_inFt_w1 e_ixl e_cat e_rep e_nlT e_ntT e_pkOfpk e_pkOfsh e_pkOfow e_mdInsh e_mdInow e_mdItsh e_mdItow e_nil e_cons e_lst e_noPart e_part e_partB e_cb e_lenl e_lent_w1 e_listl e_tuplel e_intb e_max2 e_min2 e_MinL e_all e_sortI e_b e_bB e_notT e_andT e_dL e_dTp e_lB e_tpB_w1 e_range1 e_rng1B e_enum e_enumB e_for e_comp e_comp2 e_noTest e_step e_stepT e_stepF e_yesB e_call e_callW e_draws e_drawsB e_append e_setI e_insert e_sumt_w1 e_scrSl e_dnew e_dput e_dictZ e_dictZB e_tagD e_MaxD isDct dputB dk_e dget_e wordsD callB callBW lstB datas pkMd allOw noPk appB insB setB own1 npk retE retW retL args0 frD frD1 alD List.map_cons List.map_nil List.replicate List.getElem?_cons_zero List.getElem?_cons_succ List.set_cons_zero List.set_cons_succ List.cons_append List.nil_append Option.map_some List.length_cons List.length_nil List.append_nil rdAdd rdSub rdMul rdDiv rdMod rdPow rdXor rdLt rdGt rdGe if_true Nat.reduceAdd Nat.reduceSub Nat.reduceLeDiff true_and im_e ima_e dp_e dpa_e any_int eqD_intd eqD_li eqD_l0 ow_e tt_e cdiv_e cpow_e Int.reduceLT Int.reduceLE Int.reduceNeg and_self Int.reduceToNat Int.reducePow fold_w Bool.not_true decide_true List.isEmpty_nil ifB_lf" : String).splitOn " ").toArray.map λ(x:String)=>Lean.mkIdent x.toName
  `(tactic| try simp only [$[$ids:ident],*])
section
variable{P:Bu}{w:World}{K:PySem.W.Frag}{mg:Str->Option Value}{base:Heap}
theorem Ue:FnScope ["holes", "words", "place"] ["holes"] (Bn Ku):=⟨rfl,rfl,rfl,by decide +kernel,rfl,by decide +kernel,by decide +kernel⟩
theorem Zu{f:Addr}{fd:Bz}(F:Fun K "all_words" "all_words" Ku f fd)(mR:mg "range" = none)(mS:mg "sorted" = none):FnOk P w K mg base Gd 1 f fd ["holes"] bX:=by
 refine F.ok Ue (λvs H Q E h=>?_) (λcdv A outer s H vs Q E hr h=>?_)
 ·obtain ⟨h,rfl,_⟩:=h
  rfl
 obtain ⟨h,rfl,h0,h1,q⟩:=h
 have hu2:(A.deeper (PyProof.Rows.envOfC "all_words" (Bn Ku) s.heap.objs.size f cdv)).units+2<cLine:=Hm (Nat.add_le_add_left (by decide:2<=64) _) hr.units
 refine ⟨_,Eo (Jr (i:=1) Ue.nd rfl (Ea rfl) (Yu (Fd (Yn Hw) Hw)))
  (Eo (iT Fz rfl (Vc rfl mR (Fd (pv 0) Hw)) (Mm (i:=2) Ue.nd rfl (On rfl))
   (Jt (Jr (i:=1) Ue.nd rfl (Ea rfl) (Eh hC (pv 1)
    (cT (Yi (x := "word") (y := "place") (j:=2) (cl:=[("place",s.heap.objs.size+1)]) (by rfl) (by decide +kernel) (by rfl) (by decide +kernel) (by rfl) (λ_ _ h=>h) (by rfl) (by decide +kernel) (by rfl) (by rfl) (by rfl)) rfl (bV (pv 1)) (λ_ _ _=>Ym)
     (λ_ _ _=>Eh (r:=tS K) kQ (pv 0) (Yn (Fd (pv 1) Hw))))))))
  (Jt (Nu (Yp (Ts.call_sorted hu2) rfl mS (by decide +kernel) (Fd (pv 1) Hw))))),?_⟩
 refine ⟨(by show 0<=Aq; decide),λe ne=>⟨(by show 1<=Aq; decide),λl nl=>?_⟩⟩
 have s1:=(Dk ne (.tup [])).trans (Dk nl (.lst [V.ref e]))
 have b1:(upd (upd H e (.tup [])) l (.lst [V.ref e])) l=some (.lst (([(e,[])].map λp:Addr×List Int=>p.1).map V.ref)):=Cj
 have b2:Ws (upd (upd H e (.tup [])) l (.lst [V.ref e])) [(e,[])]:=λp hp=>by
  have : p=(e,[]):=by simpa using hp
  rw[this]
  exact Dk nl _ _ _ Cj
 refine ⟨_,rfl,h,rfl,by omega,by omega,bA (lo:=0) (n:=h.toNat) (λi σ H2=>∃(l:Addr) (ws:List (Addr×List Int)) (pl:Option V),σ=[some (.int h),some (.ref l),pl]/\H2 l=some (.lst ((ws.map λp:Addr×List Int=>p.1).map V.ref))/\Ws H2 ws/\(ws.map λp:Addr×List Int=>p.2)=Do i/\Kt H H2)
  ⟨l,[(e,[])],none,rfl,b1,b2,rfl,s1⟩ ?_ ?_⟩
 ·(intro i σ H2 hi q_; obtain ⟨l,ws,pl,rfl,e1,hw,ew,sm⟩ := q_)
  have i10:i<=10:=by omega
  have lw:ws.length=(Do i).length:=by rw[<- ew,Ab]
  have lz:=Nw i10
  have hz:((ws.map λp:Addr×List Int=>p.1).map V.ref).length=(Do i).length:=by rw[Ab,Ab,lw]
  refine ⟨_,rfl,_,rfl,l,rfl,⟨_,Kw.of e1⟩,lE (Vq (xs:=(ws.map λp:Addr×List Int=>p.1).map V.ref)) (by rw[hz]; exact Cg lz (by decide))
   (λD j acc H3=>∃vs:List (Addr×List Int),acc=((vs.map λp:Addr×List Int=>p.1).map V.ref)/\Ws H3 vs/\(vs.map λp:Addr×List Int=>p.2)=((Do i).take j).map (·++[(i:Int)])/\Kt H2 H3)
   (λD nD=>⟨[],rfl,λp hp=>(nomatch hp),by simp,Dk nD _⟩) (λD j acc H3 ⟨_,_,_,_,s3⟩=>Kw.of (s3 _ _ e1)) ?_ ?_⟩
  ·(intro D j x acc H3 nD hx ha q_; obtain ⟨vs,rfl,wv,ev,s3⟩ := q_)
   refine tQ ?_
   rw[Br,Az] at hx
   cases hj:ws[j]? with
   | none=>rw[hj] at hx; cases hx
   | some pr =>
    obtain ⟨a,wd⟩:=pr
    rw[hj] at hx
    have ex:V.ref a=x:=Bj hx
    subst ex
    have ha2:H3 a=some (.tup (wd.map V.int)):=s3 _ _ (hw (a,wd) (Au hj))
    have ewd:(Do i)[j]? = some wd:=by
     rw[<- ew,Az,hj]
     rfl
    have lwd:wd.length<=10:=Cg (Ks i wd (Au ewd)) i10
    -- the new word stands at r
    have fin:∀(r:Addr) (H4:Hp),Kt H3 H4->H4 r=some (.tup ((wd++[(i:Int)]).map V.int))->H4 D=some (.lst ((vs.map λp:Addr×List Int=>p.1).map V.ref)) /\
      ∃vs':List (Addr×List Int),(vs.map λp:Addr×List Int=>p.1).map V.ref++[V.ref r]=(vs'.map λp:Addr×List Int=>p.1).map V.ref/\Ws (upd H4 D (.lst ((vs.map λp:Addr×List Int=>p.1).map V.ref++[V.ref r]))) vs' /\
       (vs'.map λp:Addr×List Int=>p.2)=((Do i).take (j+1)).map (·++[(i:Int)])/\Kt H2 (upd H4 D (.lst ((vs.map λp:Addr×List Int=>p.1).map V.ref++[V.ref r]))):=λr H4 s4 hr4=>by
     have hD4:=s4 _ _ ha
     refine ⟨hD4,vs++[(r,wd++[(i:Int)])],by simp,λp hp=>?_,?_,λb o z=>?_⟩
     ·have hp4:H4 p.1=some (.tup (p.2.map V.int)):=by
       rcases Bl.mp hp with hp | hp
       ·exact s4 _ _ (wv p hp)
       ·have : p=(r,wd++[(i:Int)]):=by simpa using hp
        rw[this]
        exact hr4
      rw[Co (lP hp4 hD4 (by intro z; cases z))]
      exact hp4
     ·rw[Bm,ev,Ll ewd,Bm]
      rfl
     ·rw[Co (Df z nD)]
      exact s4 _ _ (s3 _ _ z)
    refine ⟨_,rfl,_,rfl,(by show 1<=Aq; decide),λp1 np1=>?_⟩
    have s4:=Dk np1 (.tup [V.int (0+(i:Int))])
    refine ⟨a,p1,_,_,rfl,rfl,Rr.of (s4 _ _ ha2),Rr.of Cj,(λz=>nomatch z),?_,λz=>?_,λz p2 np2=>?_⟩
    ·rw[Ab]
     show wd.length+1<=Aq
     exact small (by omega)
    ·have e0:wd=[]:=by simpa using z
     subst e0
     exact fin p1 _ s4 (by rw[Cj,Ww]; rfl)
    ·refine fin p2 _ (s4.trans (Dk np2 _)) ?_
     rw[Cj,Bm,Ww]
     rfl
  ·(intro D acc H3 nD ha q_; obtain ⟨vs,rfl,wv,ev,s3⟩ := q_)
   rw[hz,Ft] at ev
   have lv:vs.length=(Do i).length:=by
    have:=congrArg Gr ev
    rw[Ab,Ab] at this
    exact this
   refine ⟨l,D,_,_,rfl,rfl,s3 _ _ e1,ha,?_,λp np=>?_⟩
   ·rw[Ab,Ab,Ab,Ab,lw,lv]
    exact Cg (by omega:_<=2048) (by decide)
   ·have s4:=Dk np (.lst ((ws.map λp:Addr×List Int=>p.1).map V.ref++(vs.map λp:Addr×List Int=>p.1).map V.ref))
    refine ⟨p,ws++vs,_,rfl,?_,λx hx=>?_,?_,(sm.trans s3).trans s4⟩
    ·rw[Cj,Bm,Bm]
    ·rcases Bl.mp hx with hx | hx
     ·exact s4 _ _ (s3 _ _ (hw x hx))
     ·exact s4 _ _ (wv x hx)
    ·rw[Bm,ew,ev]
     rfl
 ·(intro σ H2 q_; obtain ⟨l,ws,pl,rfl,e1,hw,ew,sm⟩ := q_)
  have ec:=hw.c
  refine ⟨_,rfl,l,ws.map (λp:Addr×List Int=>p.1),oT H2,rfl,Kw.of e1,λr hr'=>?_,λr Gq er=>?_,λp rs' np pr so=>?_⟩
  ·obtain ⟨x,hx,e⟩:=Bg.mp hr'
   subst e
   rw[Rl (hw x hx)]
   exact Rr.of (hw x hx)
  ·obtain ⟨tl,et⟩:=Pf h.toNat
   rw[<- ew] at et
   cases ws with
   | nil=>cases er
   | cons x ws' =>
    have e1:x.1=r:=by
     have:=congrArg List.head? er
     simpa using this
    have e2:x.2=[]:=by
     have:=congrArg List.head? et
     simpa using this
    rw[<- e1,Rl (hw x Aa),e2]
  ·have s3:=Dk np (.lst (rs'.map V.ref))
   refine q p rs' (rs'.map (oT H2)) _ (sm.free np) Cj (λi r wd h1 h2=>?_) (by rw[Ab]) ?_ ?_ (sm.trans s3)
   ·rw[Az,h1] at h2
    have e2:oT H2 r=wd:=Bj h2
    obtain ⟨x,hx,e⟩:=Bg.mp (pr.mem_iff.mp (Au h1))
    have hx':=hw x hx
    have e':x.1=r:=e
    rw[<- e2,<- e',Rl hx']
    exact s3 _ _ hx'
   ·have:=pr.map (oT H2)
    rw[ec,ew] at this
    exact this
   ·exact List.pairwise_map.mpr so
theorem cA{f:Addr}{fd:Bz}(F:Fun K "all_words" "all_words" Ku f fd)(mR:mg "range" = none)(mS:mg "sorted" = none):FnOk P w K mg base Gd 1 f fd ["holes"] (Po K Qi):=gU (Zu F mR mS)
theorem Ux:FnScope ["_law_holes_here", "_law_found", "_law_place"] ["_law_holes_here"] (Bn Js):=⟨rfl,rfl,rfl,by decide +kernel,rfl,by decide +kernel,by decide +kernel⟩
theorem Yd{f:Addr}{fd:Bz}(F:Fun K "_law_words" "_law_words" Js f fd)(mR:mg "range" = none)(mS:mg "sorted" = none):FnOk P w K mg base Gd 1 f fd ["_law_holes_here"] bX:=by
 refine F.ok Ux (λvs H Q E h=>?_) (λcdv A outer s H vs Q E hr h=>?_)
 ·obtain ⟨h,rfl,_⟩:=h
  rfl
 obtain ⟨h,rfl,h0,h1,q⟩:=h
 have hu2:(A.deeper (PyProof.Rows.envOfC "_law_words" (Bn Js) s.heap.objs.size f cdv)).units+2<cLine:=Hm (Nat.add_le_add_left (by decide:2<=64) _) hr.units
 refine ⟨_,Eo (Jr (i:=1) Ux.nd rfl (Ea rfl) (Yu (Fd (Yn Hw) Hw)))
  (Eo (iT Fz rfl (Vc rfl mR (Fd (pv 0) Hw)) (Mm (i:=2) Ux.nd rfl (On rfl))
   (Jt (Jr (i:=1) Ux.nd rfl (Ea rfl) (Eh hC (pv 1)
    (cT (Yi (x := "_law_word") (y := "_law_place") (j:=2) (cl:=[("_law_place",s.heap.objs.size+1)]) (by rfl) (by decide +kernel) (by rfl) (by decide +kernel) (by rfl) (λ_ _ h=>h) (by rfl) (by decide +kernel) (by rfl) (by rfl) (by rfl)) rfl (bV (pv 1)) (λ_ _ _=>Ym)
     (λ_ _ _=>Eh (r:=tS K) kQ (pv 0) (Yn (Fd (pv 1) Hw))))))))
  (Jt (Nu (Yp (Ts.call_sorted hu2) rfl mS (by decide +kernel) (Fd (pv 1) Hw))))),?_⟩
 refine ⟨(by show 0<=Aq; decide),λe ne=>⟨(by show 1<=Aq; decide),λl nl=>?_⟩⟩
 have s1:=(Dk ne (.tup [])).trans (Dk nl (.lst [V.ref e]))
 have b1:(upd (upd H e (.tup [])) l (.lst [V.ref e])) l=some (.lst (([(e,[])].map λp:Addr×List Int=>p.1).map V.ref)):=Cj
 have b2:Ws (upd (upd H e (.tup [])) l (.lst [V.ref e])) [(e,[])]:=λp hp=>by
  have : p=(e,[]):=by simpa using hp
  rw[this]
  exact Dk nl _ _ _ Cj
 refine ⟨_,rfl,h,rfl,by omega,by omega,bA (lo:=0) (n:=h.toNat) (λi σ H2=>∃(l:Addr) (ws:List (Addr×List Int)) (pl:Option V),σ=[some (.int h),some (.ref l),pl]/\H2 l=some (.lst ((ws.map λp:Addr×List Int=>p.1).map V.ref))/\Ws H2 ws/\(ws.map λp:Addr×List Int=>p.2)=Do i/\Kt H H2)
  ⟨l,[(e,[])],none,rfl,b1,b2,rfl,s1⟩ ?_ ?_⟩
 ·(intro i σ H2 hi q_; obtain ⟨l,ws,pl,rfl,e1,hw,ew,sm⟩ := q_)
  have i10:i<=10:=by omega
  have lw:ws.length=(Do i).length:=by rw[<- ew,Ab]
  have lz:=Nw i10
  have hz:((ws.map λp:Addr×List Int=>p.1).map V.ref).length=(Do i).length:=by rw[Ab,Ab,lw]
  refine ⟨_,rfl,_,rfl,l,rfl,⟨_,Kw.of e1⟩,lE (Vq (xs:=(ws.map λp:Addr×List Int=>p.1).map V.ref)) (by rw[hz]; exact Cg lz (by decide))
   (λD j acc H3=>∃vs:List (Addr×List Int),acc=((vs.map λp:Addr×List Int=>p.1).map V.ref)/\Ws H3 vs/\(vs.map λp:Addr×List Int=>p.2)=((Do i).take j).map (·++[(i:Int)])/\Kt H2 H3)
   (λD nD=>⟨[],rfl,λp hp=>(nomatch hp),by simp,Dk nD _⟩) (λD j acc H3 ⟨_,_,_,_,s3⟩=>Kw.of (s3 _ _ e1)) ?_ ?_⟩
  ·(intro D j x acc H3 nD hx ha q_; obtain ⟨vs,rfl,wv,ev,s3⟩ := q_)
   refine tQ ?_
   rw[Br,Az] at hx
   cases hj:ws[j]? with
   | none=>rw[hj] at hx; cases hx
   | some pr =>
    obtain ⟨a,wd⟩:=pr
    rw[hj] at hx
    have ex:V.ref a=x:=Bj hx
    subst ex
    have ha2:H3 a=some (.tup (wd.map V.int)):=s3 _ _ (hw (a,wd) (Au hj))
    have ewd:(Do i)[j]? = some wd:=by
     rw[<- ew,Az,hj]
     rfl
    have lwd:wd.length<=10:=Cg (Ks i wd (Au ewd)) i10
    -- the new word stands at r
    have fin:∀(r:Addr) (H4:Hp),Kt H3 H4->H4 r=some (.tup ((wd++[(i:Int)]).map V.int))->H4 D=some (.lst ((vs.map λp:Addr×List Int=>p.1).map V.ref)) /\
      ∃vs':List (Addr×List Int),(vs.map λp:Addr×List Int=>p.1).map V.ref++[V.ref r]=(vs'.map λp:Addr×List Int=>p.1).map V.ref/\Ws (upd H4 D (.lst ((vs.map λp:Addr×List Int=>p.1).map V.ref++[V.ref r]))) vs' /\
       (vs'.map λp:Addr×List Int=>p.2)=((Do i).take (j+1)).map (·++[(i:Int)])/\Kt H2 (upd H4 D (.lst ((vs.map λp:Addr×List Int=>p.1).map V.ref++[V.ref r]))):=λr H4 s4 hr4=>by
     have hD4:=s4 _ _ ha
     refine ⟨hD4,vs++[(r,wd++[(i:Int)])],by simp,λp hp=>?_,?_,λb o z=>?_⟩
     ·have hp4:H4 p.1=some (.tup (p.2.map V.int)):=by
       rcases Bl.mp hp with hp | hp
       ·exact s4 _ _ (wv p hp)
       ·have : p=(r,wd++[(i:Int)]):=by simpa using hp
        rw[this]
        exact hr4
      rw[Co (lP hp4 hD4 (by intro z; cases z))]
      exact hp4
     ·rw[Bm,ev,Ll ewd,Bm]
      rfl
     ·rw[Co (Df z nD)]
      exact s4 _ _ (s3 _ _ z)
    refine ⟨_,rfl,_,rfl,(by show 1<=Aq; decide),λp1 np1=>?_⟩
    have s4:=Dk np1 (.tup [V.int (0+(i:Int))])
    refine ⟨a,p1,_,_,rfl,rfl,Rr.of (s4 _ _ ha2),Rr.of Cj,(λz=>nomatch z),?_,λz=>?_,λz p2 np2=>?_⟩
    ·rw[Ab]
     show wd.length+1<=Aq
     exact small (by omega)
    ·have e0:wd=[]:=by simpa using z
     subst e0
     exact fin p1 _ s4 (by rw[Cj,Ww]; rfl)
    ·refine fin p2 _ (s4.trans (Dk np2 _)) ?_
     rw[Cj,Bm,Ww]
     rfl
  ·(intro D acc H3 nD ha q_; obtain ⟨vs,rfl,wv,ev,s3⟩ := q_)
   rw[hz,Ft] at ev
   have lv:vs.length=(Do i).length:=by
    have:=congrArg Gr ev
    rw[Ab,Ab] at this
    exact this
   refine ⟨l,D,_,_,rfl,rfl,s3 _ _ e1,ha,?_,λp np=>?_⟩
   ·rw[Ab,Ab,Ab,Ab,lw,lv]
    exact Cg (by omega:_<=2048) (by decide)
   ·have s4:=Dk np (.lst ((ws.map λp:Addr×List Int=>p.1).map V.ref++(vs.map λp:Addr×List Int=>p.1).map V.ref))
    refine ⟨p,ws++vs,_,rfl,?_,λx hx=>?_,?_,(sm.trans s3).trans s4⟩
    ·rw[Cj,Bm,Bm]
    ·rcases Bl.mp hx with hx | hx
     ·exact s4 _ _ (s3 _ _ (hw x hx))
     ·exact s4 _ _ (wv x hx)
    ·rw[Bm,ew,ev]
     rfl
 ·(intro σ H2 q_; obtain ⟨l,ws,pl,rfl,e1,hw,ew,sm⟩ := q_)
  have ec:=hw.c
  refine ⟨_,rfl,l,ws.map (λp:Addr×List Int=>p.1),oT H2,rfl,Kw.of e1,λr hr'=>?_,λr Gq er=>?_,λp rs' np pr so=>?_⟩
  ·obtain ⟨x,hx,e⟩:=Bg.mp hr'
   subst e
   rw[Rl (hw x hx)]
   exact Rr.of (hw x hx)
  ·obtain ⟨tl,et⟩:=Pf h.toNat
   rw[<- ew] at et
   cases ws with
   | nil=>cases er
   | cons x ws' =>
    have e1:x.1=r:=by
     have:=congrArg List.head? er
     simpa using this
    have e2:x.2=[]:=by
     have:=congrArg List.head? et
     simpa using this
    rw[<- e1,Rl (hw x Aa),e2]
  ·have s3:=Dk np (.lst (rs'.map V.ref))
   refine q p rs' (rs'.map (oT H2)) _ (sm.free np) Cj (λi r wd h1 h2=>?_) (by rw[Ab]) ?_ ?_ (sm.trans s3)
   ·rw[Az,h1] at h2
    have e2:oT H2 r=wd:=Bj h2
    obtain ⟨x,hx,e⟩:=Bg.mp (pr.mem_iff.mp (Au h1))
    have hx':=hw x hx
    have e':x.1=r:=e
    rw[<- e2,<- e',Rl hx']
    exact s3 _ _ hx'
   ·have:=pr.map (oT H2)
    rw[ec,ew] at this
    exact this
   ·exact List.pairwise_map.mpr so
theorem Zp{f:Addr}{fd:Bz}(F:Fun K "_law_words" "_law_words" Js f fd)(mR:mg "range" = none)(mS:mg "sorted" = none):FnOk P w K mg base Gd 1 f fd ["_law_holes_here"] (Po K Qi):=gU (Yd F mR mS)
end
def uB(w u:List Int):Bool:=w.all λi=>decide (i∈u)
def nE(face:List Int)(w:List Int)(v:Int)(p:List Int×Nat):Bool:=decide (face[p.2]? = some v) && uB w p.1
def kK(ws:List (List Int))(face:List Int)(w:List Int)(v:Int):List (List Int×Nat):=ws.zipIdx.filter (nE face w v)
def xJ:PF:=λds R=>∃a b:List Int,ds=[Cn a,Cn b]/\R (.bool (uB a b))
def rP:PF:=λds R=>∃(ws:List (List Int)) (face w:List Int) (v:Int),ds=[.list (ws.map Cn),.list (face.map An),Cn w,.int v]/\ws.length=face.length/\R (.list ((kK ws face w v).map λp=>.int p.2))
def qR:PF:=λds R=>∃w:List Int,ds=[Cn w]/\∀v:Int,R (.int v)
def lR:DF:=λds n R=>ds=[]/\n<=90000/\∀h:Int,1<=h->h<=7->R (.int h) (n+1)
def gG:DF:=λds n R=>ds=[]/\n<=90000/\∀h:Int,2<=h->h<=16->R (.int h) (n+1)
def lV:Sp:=λvs H Q _=>∃(d:Addr) (c k:Int) (f:Bool),vs=[.ref d]/\Zk H d c k f/\0<=k/\k<=1000000/\∀(r c':Int) (H':Hp),0<=r->Zk H' d c' (k+1) f->Rb d H H'->Q (.int r) H'
def cX:DF:=λds n R=>ds=[]/\n<=100000/\∀r:Int,0<=r->R (.int r) (n+1)
theorem sD{P:Bu}{w:World}{K:PySem.W.Frag}{mg:Str->Option Value}{base:Heap}{k:Nat}{f:Addr}{fd:Bz}{ps:List Str}(F:FnOk P w K mg base Gd k f fd ps lV):FnOk P w K mg base Gd k f fd ps (dR K cX):=by
 refine F.imp λus H Q E h=>?_
 obtain ⟨dr,ws,As,n,ds,R,rfl,eu,ok,nd,⟨c,kk,fl,hdr,h0,h1⟩,q,hp,k1⟩:=h
 obtain ⟨rfl,hn,hR⟩:=hp
 have hAs:As=[]:=by
  have:=Ij q
  rw[Ab] at this
  exact Os.mp this
 subst hAs
 have hws:ws=[]:=by
  cases ws with
  | nil=>rfl
  | cons _ _=>cases eu
 subst hws
 refine ⟨dr,c,kk,fl,rfl,hdr,h0,by omega,λr c' H' hr hd' s=>?_⟩
 exact k1 (.int r) (.int r) [] (n+1) H' (by omega) (hR r hr) (.int r) Ct (λ_ z=>(nomatch z)) ⟨c',kk+1,fl,hd',by omega,by omega⟩ s
section
variable{P:Bu}{w:World}{K:PySem.W.Frag}{mg:Str->Option Value}{base:Heap}
theorem mK{f:Addr}{fd:Bz}(F:Fun K "_law_next" "_law_next" aO f fd):FnOk P w K mg base Gd 1 f fd ["_law_draws_here"] lV:=by
 refine F.ok R7 (λvs H Q E h=>?_) (λcdv A outer s H vs Q E hr h=>?_)
 ·obtain ⟨d,c,k,fl,rfl,_⟩:=h
  rfl
 obtain ⟨d,c,k,fl,rfl,hd,h0,h1,q⟩:=h
 refine ⟨_,Eo (Xz (Eh Nr (Nf Jf (pv 0) Cw (λ_ _=>rfl)) Cw) (Xw (pv 0) Cw Pr))
  (Eo (lN (iW (Nf Jf (pv 0) Cw (λ_ _=>rfl)))
   (Eo (Jr (i:=2) R7.nd rfl (Ea rfl) (Eh Lx (Nf Jf (pv 0) Cw (λ_ _=>rfl)) (Eh Rw Cw Cw)))
    (Eo (Xz (Eh Tg (Nf Jf (pv 0) Cw (λ_ _=>rfl)) (Eh Rw Cw Cw)) (Xw (pv 0) Cw Pr))
    (Jt (Nu (pv 2))))) Wm)
  (Eo (Jr (i:=1) R7.nd rfl (Ea rfl) (Nf Jf (pv 0) Cw (λ_ _=>rfl)))
  (Eo (Jr (i:=2) R7.nd rfl (Ea rfl) (Eh Lx (Eh Lp (Eh Nr (Eh Nr (Nf Jf (pv 0) Cw (λ_ _=>rfl)) (Eh Lp (Eh Lp (pv 1) (pv 1)) Cw)) (pv 1)) Cw) Cw))
  (Eo (Jr (i:=2) R7.nd rfl (Ea rfl) (Eh Lx (Eh Lp (pv 2) (pv 2)) Cw))
  (Jt (Nu (Eh Tg (Eh Lx (Eh Lp (pv 2) (Eh Nr (pv 2) Cw)) Cw) Cw))))))),?_⟩
 -- draws[1]=draws[1]+1
 refine ⟨_,rfl,d,_,1,_,rfl,rfl,Kw.of hd,rfl,_,_,rfl,rfl,_,rfl,d,_,1,1,rfl,rfl,hd,rfl,?_⟩
 have e1:(upd H d (.lst ([V.int c,V.int k,V.bl fl].set 1 (V.int (k+1))))) d=some (.lst [.int c,.int (k+1),.bl fl]):=Cj
 generalize hH1:upd H d (.lst ([V.int c,V.int k,V.bl fl].set 1 (V.int (k+1))))=H1 at e1
 have s1:Rb d H H1:=by rw[<- hH1]; exact Rb.upd
 refine ⟨_,rfl,d,_,2,_,rfl,rfl,Kw.of e1,rfl,_,rfl,?_⟩
 refine zF (λ_=>?_) (λ_=>?_)
 ·refine ⟨_,rfl,d,_,0,_,rfl,rfl,Kw.of e1,rfl,10,6,rfl,rfl,⟨by decide,by decide,by decide⟩,_,_,rfl,rfl,(by show (0:Int)<10 ^ (6:Int).toNat; decide),?_⟩
  refine ⟨_,rfl,d,_,0,_,rfl,rfl,Kw.of e1,rfl,10,6,rfl,rfl,⟨by decide,by decide,by decide⟩,_,_,rfl,rfl,⟨by decide,by decide⟩,_,rfl,d,_,0,0,rfl,rfl,e1,rfl,_,rfl,?_⟩
  exact q _ _ _ (Fc _ (by decide)) Cj (s1.trans Rb.upd)
 ·refine ⟨_,rfl,d,_,1,_,rfl,rfl,Kw.of e1,rfl,?_⟩
  have b1:=Tb ((c+(k+1) * (k+1) * 7919+(k+1)) * 48271) 2147483629 (by decide)
  refine ⟨_,rfl,d,_,0,_,rfl,rfl,Kw.of e1,rfl,_,rfl,_,rfl,_,_,rfl,rfl,.inl ⟨by omega,by omega⟩,_,_,rfl,rfl,.inr ⟨by decide,by decide⟩,_,_,rfl,rfl,_,rfl,_,_,rfl,rfl,
   _,_,rfl,rfl,.inr ⟨by decide,by decide⟩,_,_,rfl,rfl,(by show (0:Int)<2147483629; decide),?_⟩
  generalize ((c+(k+1) * (k+1) * 7919+(k+1)) * 48271) % 2147483629=x at b1
  have b2:=Tb (x * x) 2147483587 (by decide)
  refine ⟨_,rfl,_,rfl,_,_,rfl,rfl,.inl ⟨by omega,by omega⟩,_,_,rfl,rfl,(by show (0:Int)<2147483587; decide),?_⟩
  generalize (x * x) % 2147483587=y at b2
  refine ⟨_,rfl,_,rfl,_,_,rfl,rfl,_,_,rfl,rfl,.inl ⟨by omega,by omega⟩,_,_,rfl,rfl,(by show (0:Int)<2147483579; decide),_,_,rfl,rfl,⟨by decide,by decide⟩,?_⟩
  exact q _ _ _ (Int.ediv_nonneg (Fc _ (by decide)) (by decide)) e1 s1
theorem pL{f:Addr}{fd:Bz}(F:Fun K "_law_next" "_law_next" aO f fd):FnOk P w K mg base Gd 1 f fd ["_law_draws_here"] (dR K cX):=sD (mK F)
end
def Xd:DF:=λds n R=>∃(ws:List (List Int)) (v:Int),ds=[.list (ws.map Cn),.int v]/\0<v/\v<=16/\ws.length<=1024/\(∀w∈ws,w.length<=10)/\n<=90000/\∀face:List Int,face.length=ws.length->(∀x∈face,0<=x)->R (.list (face.map An)) (n+1+ws.length)
section
variable{P:Bu}{w:World}{K:PySem.W.Frag}{mg:Str->Option Value}{base:Heap}
theorem nK:FnScope ["one", "other"] ["one", "other"] (Bn Sk):=⟨rfl,rfl,rfl,by decide +kernel,rfl,by decide +kernel,by decide +kernel⟩
theorem nY{f   : Addr}{fd  : Bz}(F:Fun K "within" "within" Sk f fd)(mz_all:mg "all" = none):FnOk P w K mg base Gd 1 f fd ["one", "other"] (Po K (xJ)):=by
 refine' Lh (k:=0) F nK (λcdv A outer s H E hr=>?hb) ?h
 case hb =>
  have hu64:=hr.units
  have CS1:∀{scope:Scope} (h:scope={ kind:=.function,names:=[(".0",.local),("place",.local),("other",.free)],isGenerator:=false,isCoroutine:=false }),
    CompScope (Jz Gd P w K mg base ["one", "other"] "within" (Bn Sk) f cdv A outer s H E).nox scope [("other",s.heap.objs.size+1)] "place" ["other"] [1]:=by
   rintro scope rfl
   refine ⟨by rfl,.inl (by decide +kernel),by rfl,by decide +kernel,.inl rfl,λy c h=>?_,by rfl,by decide +kernel,rfl,λk y j e1 e2=>?_⟩
   ·have z:=Dn h
    simp only[Aj,Ba,or_false,Ds] at z
    obtain ⟨rfl,rfl⟩:=z; rfl
   ·match k,e1,e2 with
    | 0,e1,e2=>cases e1; cases e2; exact ⟨rfl,rfl,by first | exact .inl rfl | exact .inr rfl⟩
    | k+1,e1,e2=>cases e1
  exact Ff (Gw (Hx (tW rfl) w8 rfl mz_all (by decide +kernel) (Ao (Kq (CS1 rfl) rfl (M4 (Ar (pv 0))) (λ_ _ _=>Gv) (λ_ _ _=>C3 hu64 (Ar (pv 0)) (Ar (pv 1)))) Bs)))
 case h =>
  (intro ds R q_; obtain ⟨a,b,rfl,hR⟩ := q_)
  refine ⟨rfl,?_⟩
  array_get_dec
  refine Ng (l:=a) (g:=An) rfl (λi=>.bool (decide (i∈b))) (λi _ yes no hy=>?_) ?_
  ·array_get_dec
   exact hy
  ·array_get_dec
   refine ⟨a.map λi=>decide (i∈b),by rw[Br]; rfl,?_⟩
   rw[Wi]
   exact hR
theorem iM:FnScope ["words", "reading", "word", "value"] ["words", "reading", "word", "value"] (Bn Qf):=⟨rfl,rfl,rfl,by decide +kernel,rfl,by decide +kernel,by decide +kernel⟩
theorem iL{f f_within  : Addr}{fd d_within:Bz}(F:Fun K "showing" "showing" Qf f fd)(G_within:FnOk P w K mg base Gd 1 f_within d_within ["one", "other"] (Po K (xJ)))(b_within:Binds K d_within ["one", "other"] [])(k_within:PySem.W.keepIn K (.ref f_within)=true)(m_within:mg "within" = some (.ref f_within))(mz_enumerate:mg "enumerate" = none):FnOk P w K mg base Gd 2 f fd ["words", "reading", "word", "value"] (Po K (rP)):=by
 refine' Lh (k:=1) F iM (λcdv A outer s H E hr=>?hb) ?h
 case hb =>
  have hr1:Room 1 _:=hr.mono (by decide)
  have hu64:=hr.units
  have CS1:∀{scope:Scope} (h:scope={ kind:=.function,names:=[(".0",.local),("at",.local),("other",.local),("within",.globalImplicit),("reading",.free),("value",.free),("word",.free)],isGenerator:=false,isCoroutine:=false }),
    CompScope (Jz Gd P w K mg base ["words", "reading", "word", "value"] "showing" (Bn Qf) f cdv A outer s H E).nox scope [("word",s.heap.objs.size+2),("value",s.heap.objs.size+3),("reading",s.heap.objs.size+1)] "at" ["reading", "value", "word"] [1,3,2]:=by
   rintro scope rfl
   refine ⟨by rfl,.inl (by decide +kernel),by rfl,by decide +kernel,.inl rfl,λy c h=>?_,by rfl,by decide +kernel,rfl,λk y j e1 e2=>?_⟩
   ·have z:=Dn h
    simp only[Aj,Ba,or_false,Ds] at z
    rcases z with ⟨rfl,rfl⟩ | ⟨rfl,rfl⟩ | ⟨rfl,rfl⟩ <;> rfl
   ·match k,e1,e2 with
    | 0,e1,e2=>cases e1; cases e2; exact ⟨rfl,rfl,by first | exact .inl rfl | exact .inr rfl⟩
    | 1,e1,e2=>cases e1; cases e2; exact ⟨rfl,rfl,by first | exact .inl rfl | exact .inr rfl⟩
    | 2,e1,e2=>cases e1; cases e2; exact ⟨rfl,rfl,by first | exact .inl rfl | exact .inr rfl⟩
    | k+3,e1,e2=>cases e1
  exact Ff (Gw (fK (CS1 rfl) (.inl rfl) (by decide +kernel) rfl (kW rfl mz_enumerate (Ao (Ar (pv 0)) Bs)) (λ_ _ _=>Wu (w5 (iB (E2 hu64 (Kh (Ar (pv 2)) (Ar (pv 0))) (Ar (pv 3))) (cN (Wy (Fs G_within hr1 rfl m_within k_within b_within Gh (Ao (Ar (pv 4)) (Ao (Ar (pv 1)) Bs)))))))) (λ_ _ _=>Ar (pv 0))))
 case h =>
  (intro ds R q_; obtain ⟨ws,face,w,v,rfl,hl,hR⟩ := q_)
  refine ⟨rfl,?_⟩
  array_get_dec
  refine rW (l:=ws.zipIdx) (g1:=λp=>.int p.2) (g2:=λp=>Cn p.1) (by rw[bS,Br]; rfl) (nE face w v) (λp=>.int p.2) (λp hp yes no hy hn=>?_) ?_
  ·obtain ⟨k,hk⟩:=El.mp hp
   obtain ⟨ek,hp1,hp2,hp3⟩:=jN hk
   obtain ⟨x,e1,e2,e3⟩:=Su (l:=face) (i:=(p.2:Int)) (by omega) (by omega)
   rw[Fn] at e1
   have hh:nE face w v p=(decide (x=v) && uB w p.1):=by
    unfold nE
    rw[e1]
    congr 1
    simp
   rw[hh] at hy hn
   array_get_dec
   refine ⟨.int x,by rw[bH,e2]; rfl,dp,?_⟩
   array_get_dec
   refine cC (λh1=>?_) (λh1=>?_)
   ·array_get_dec
    refine ⟨w,p.1,rfl,?_⟩
    refine bQ (λh2=>?_) (λh2=>?_)
    ·array_get_dec
     exact hy (by rw[h1,h2]; rfl)
    ·exact hn (by rw[h1,h2]; rfl)
   ·array_get_dec
    exact hn (by rw[h1]; rfl)
  ·array_get_dec
   exact hR
theorem Xp:FnScope ["_law_word", "_law_value", "_law_place"] ["_law_word"] (Bn Mx):=⟨rfl,rfl,rfl,by decide +kernel,rfl,by decide +kernel,by decide +kernel⟩
theorem Xy{f   : Addr}{fd  : Bz}(F:Fun K "_law_folded" "_law_folded" Mx f fd):FnOk P w K mg base Gd 1 f fd ["_law_word"] (Po K (qR)):=by
 refine' Lh (k:=0) F Xp (λcdv A outer s H E hr=>?hb) ?h
 case hb =>
  have hu64:=hr.units
  exact Cs (Fl (i:=1) Xp.nd rfl (Ea rfl) Di)
   (Cs (Va Fz rfl (M4 (Ar (pv 0))) (Qg (i:=2) Xp.nd rfl (Ea rfl))
   (Ff (Fl (i:=1) Xp.nd rfl (Ea rfl) (i3 (Ar (pv 1)) (Lq (Ar (pv 2)) Di)))))
   (Ff (Gw (dU (Ar (pv 1))))))
 case h =>
  (intro ds R q_; obtain ⟨w,rfl,hR⟩ := q_)
  refine ⟨rfl,?_⟩
  array_get_dec
  refine nU (l:=w) (g:=An) rfl (λi δ=>∃(x:Int) (v:DV),δ=⟨[.dat .sh (Cn w),.dat .sh (.int x),v],0⟩/\NP v) ?_ ?_ ?_
  ·exact ⟨_,_,rfl,Vm⟩
  ·(intro i p _ hp q_; obtain ⟨x,v,rfl,hv⟩ := q_)
   array_get_dec
   exact ⟨_,_,rfl,Ej⟩
  ·(intro _ q_; obtain ⟨x,v,rfl,hv⟩ := q_)
   array_get_dec
   exact hR _
theorem Zs:FnScope ["_law_draws_here", "_law_pick"] ["_law_draws_here"] (Bn Nv):=⟨rfl,rfl,rfl,by decide +kernel,rfl,by decide +kernel,by decide +kernel⟩
theorem Zh{f f_L_next  : Addr}{fd d_L_next:Bz}(F:Fun K "_law_holes" "_law_holes" Nv f fd)(G_L_next:FnOk P w K mg base Gd 1 f_L_next d_L_next ["_law_draws_here"] (dR K Yq))(b_L_next:Binds K d_L_next ["_law_draws_here"] [])(k_L_next:PySem.W.keepIn K (.ref f_L_next)=true)(m_L_next:mg "_law_next" = some (.ref f_L_next))(mz_max:mg "max" = none):FnOk P w K mg base Gd 2 f fd ["_law_draws_here"] (dR K (lR)):=by
 refine' Wt (k:=1) F Zs (λcdv A outer s H E hr=>?hb) ?h
 case hb =>
  have hr1:Room 1 _:=hr.mono (by decide)
  have hu64:=hr.units
  exact Cs (Fl (i:=1) Zs.nd rfl (Ea rfl) (Ja G_L_next hr1 rfl m_L_next k_L_next b_L_next Gh (pv 0) Bs))
   (Ff (Gw (Kh (Jq (Ao (Lq Di (Hu (dN (Ar (pv 1)) Di) Di)) (Ao (Lq Di (Hu (dN (Ar (pv 1)) Di) Di)) (Ao Di (Ao Di Bs))))) (Hx (lX rfl) vE rfl mz_max (by decide +kernel) (Ao Di (Ao (iY (Hu (Ar (pv 1)) Di) Di) Bs))))))
 case h =>
  (intro ds n R q_; obtain ⟨rfl,hn,hR⟩ := q_)
  refine ⟨rfl,?_⟩
  array_get_dec
  refine ⟨rfl,by omega,λr1=>?_⟩
  array_get_dec
  have b8:=Up r1 (b:=8) (by decide)
  have b5:=Up (r1 / 8) (b:=5) (by decide)
  rcases (by omega:r1 % 8 - 4<=0\/r1 % 8 - 4=1\/r1 % 8 - 4=2\/r1 % 8 - 4=3) with z | z | z | z
  ·rw[if_neg (by omega)]
   exact ⟨_,E9 _ _,by omega,hR _ (by omega) (by omega)⟩
  ·rw[if_pos (by omega),z]
   exact ⟨_,A5 _ _ _,by omega,hR _ (by omega) (by omega)⟩
  ·rw[if_pos (by omega),z]
   exact ⟨_,K8 _ _ _ _,by omega,hR _ (by omega) (by omega)⟩
  ·rw[if_pos (by omega),z]
   exact ⟨_,A6 _ _ _ _ _,by omega,hR _ (by omega) (by omega)⟩
theorem Xl:FnScope ["_law_draws_here", "_law_pick"] ["_law_draws_here"] (Bn Mw):=⟨rfl,rfl,rfl,by decide +kernel,rfl,by decide +kernel,by decide +kernel⟩
theorem Yv{f f_L_next  : Addr}{fd d_L_next:Bz}(F:Fun K "_law_values" "_law_values" Mw f fd)(G_L_next:FnOk P w K mg base Gd 1 f_L_next d_L_next ["_law_draws_here"] (dR K Yq))(b_L_next:Binds K d_L_next ["_law_draws_here"] [])(k_L_next:PySem.W.keepIn K (.ref f_L_next)=true)(m_L_next:mg "_law_next" = some (.ref f_L_next))(mz_int:mg "int" = none):FnOk P w K mg base Gd 2 f fd ["_law_draws_here"] (dR K (gG)):=by
 refine' Wt (k:=1) F Xl (λcdv A outer s H E hr=>?hb) ?h
 case hb =>
  have hr1:Room 1 _:=hr.mono (by decide)
  have hu64:=hr.units
  exact Cs (Fl (i:=1) Xl.nd rfl (Ea rfl) (Ja G_L_next hr1 rfl m_L_next k_L_next b_L_next Gh (pv 0) Bs))
   (Ff (Gw (Kh (Jq (Ao (Lq Di (Hu (dN (Ar (pv 1)) Di) Di)) (Ao Di Bs))) (Ki Ql dS rfl mz_int (by decide +kernel) (Ao (Yt hu64 (Hu (Ar (pv 1)) Di) Di) Bs)))))
 case h =>
  (intro ds n R q_; obtain ⟨rfl,hn,hR⟩ := q_)
  refine ⟨rfl,?_⟩
  array_get_dec
  refine ⟨rfl,by omega,λr1=>?_⟩
  array_get_dec
  have b5:=Up (r1 / 8) (b:=5) (by decide)
  refine ⟨_,yD _ _ _,by omega,?_⟩
  cases decide (r1 % 8=1)
  ·exact hR _ (by omega) (by omega)
  ·exact hR _ (by decide) (by decide)
theorem Wa:FnScope ["_law_draws_here", "_law_words_here", "_law_values_here", "_law_way", "_law_found", "_law_word", "_law_number", "_law_told"] ["_law_draws_here", "_law_words_here", "_law_values_here"] (Bn Lz):=⟨rfl,rfl,rfl,by decide +kernel,rfl,by decide +kernel,by decide +kernel⟩
theorem Wd{f f_L_next f_L_folded  : Addr}{fd d_L_next d_L_folded:Bz}(F:Fun K "_law_reading" "_law_reading" Lz f fd)(G_L_next:FnOk P w K mg base Gd 1 f_L_next d_L_next ["_law_draws_here"] (dR K cX))(b_L_next:Binds K d_L_next ["_law_draws_here"] [])(k_L_next:PySem.W.keepIn K (.ref f_L_next)=true)(m_L_next:mg "_law_next" = some (.ref f_L_next))(G_L_folded:FnOk P w K mg base Gd 1 f_L_folded d_L_folded ["_law_word"] (Po K (qR)))(b_L_folded:Binds K d_L_folded ["_law_word"] [])(k_L_folded:PySem.W.keepIn K (.ref f_L_folded)=true)(m_L_folded:mg "_law_folded" = some (.ref f_L_folded))(mz_len:mg "len" = none)(mz_sum:mg "sum" = none)(mz_int:mg "int" = none):FnOk P w K mg base Gd 2 f fd ["_law_draws_here", "_law_words_here", "_law_values_here"] (dR K (Xd)):=by
 refine' Wt (k:=1) F Wa (λcdv A outer s H E hr=>?hb) ?h
 case hb =>
  have hr1:Room 1 _:=hr.mono (by decide)
  have hu64:=hr.units
  exact Cs (Fl (i:=3) Wa.nd rfl (Ea rfl) (Hu (Ja G_L_next hr1 rfl m_L_next k_L_next b_L_next Gh (pv 0) Bs) Di))
   (Cs (Wp (i:=4) Wa.nd rfl (Ea rfl) (Jq Bs))
   (Cs (Va Fz rfl (iO (Ar (pv 1))) (Qg (i:=5) Wa.nd rfl (Ea rfl))
   (Cs (Fl (i:=6) Wa.nd rfl (Ea rfl) (Ja G_L_next hr1 rfl m_L_next k_L_next b_L_next Gh (pv 0) Bs))
    (Cs (Fl (i:=7) Wa.nd rfl (Ea rfl) (Jq (Ao (Hu (Ar (pv 6)) (Ar (pv 2))) (Ao (Hu (Hx Sz bZ rfl mz_len (by decide +kernel) (Ao (Ar (pv 5)) Bs)) (Ar (pv 2))) (Ao (Hu (Fs G_L_folded hr1 rfl m_L_folded k_L_folded b_L_folded Gh (Ao (Ar (pv 5)) Bs)) (Ar (pv 2))) (Ao (Hu (Hx (mL rfl) zI rfl mz_sum (by decide +kernel) (Ao (Ar (pv 5)) Bs)) (Ar (pv 2))) Bs))))))
    (Cs (Fl (i:=7) Wa.nd rfl (Ea rfl) (dH (Ar (pv 7)) (Jq (Ao (Hu (Ar (pv 6)) (Lq (Ar (pv 2)) Di)) (Ao (n8 (dN (Hu (Ar (pv 6)) Di) Di) (Hu (Ar (pv 6)) (Ar (pv 2)))) (Ao (Hu (Ar (pv 6)) (Ar (pv 2))) Bs))))))
    (Ff (nI (pv 4) (Kh (dH (Ar (pv 7)) (Jq (Ao (Kh (Jq (Ao (Hu (Hx Sz bZ rfl mz_len (by decide +kernel) (Ao (Ar (pv 5)) Bs)) (Ar (pv 2))) (Ao (Lq (zG Di Di) (Ar (pv 6))) Bs))) (Ki Ql dS rfl mz_int (by decide +kernel) (Ao (Yt hu64 (Hu (Ar (pv 6)) Di) Di) Bs))) Bs))) (Ar (pv 3)))))))))
   (Ff (Gw (dF (pv 4))))))
 case h =>
  (intro ds n R q_; obtain ⟨ws,v,rfl,v0,v1,lw,hw,hn,hR⟩ := q_)
  refine ⟨rfl,?_⟩
  array_get_dec
  refine ⟨rfl,by omega,λr1 p1=>?_⟩
  array_get_dec
  have b8:=Up r1 (b:=8) (by decide)
  refine nU (l:=ws) (g:=Cn) rfl (λi δ=>∃(face:List Int) (v1 v2 v3:DV),δ=⟨[.drw,.dat .sh (.list (ws.map Cn)),.dat .sh (.int v),.dat .sh (.int (r1 % 8)),.dat .ow (.list (face.map An)),v1,v2,v3],n+1+i⟩/\face.length=i/\(∀x∈face,0<=x)/\NP v1/\NP v2/\NP v3) ?_ ?_ ?_
  ·exact ⟨[],_,_,_,rfl,rfl,λ_ z=>(nomatch z),Vm,Vm,Vm⟩
  ·(intro i u _ hu q_; obtain ⟨face,v1,v2,v3,rfl,lf,nf,hv1,hv2,hv3⟩ := q_)
   have hi:=(Ak.mp hu).1
   have lu:=hw u (Au hu)
   array_get_dec
   refine ⟨rfl,by omega,λr2 p2=>?_⟩
   array_get_dec
   refine ⟨v0,v0,u,rfl,λf=>?_⟩
   array_get_dec
   refine ⟨v0,u,rfl,v0,?_⟩
   array_get_dec
   have bv:=Up r2 v0
   refine ⟨by omega,v0,.inr ⟨by omega,by omega⟩,v0,v0,by decide,?_⟩
   obtain ⟨x,x0,hx⟩ : ∃x:Int,0<=x/\Sv [An (((u.map An).length:Int) % v),An (10000000000000000000+r2)] (if decide (r2 % 9=0)=true then 1 else 0)=some (.int x):=by
    rw[yD]
    cases decide (r2 % 9=0)
    ·exact ⟨_,Fc _ (by omega),rfl⟩
    ·exact ⟨_,by omega,rfl⟩
   refine ⟨_,hx,R5,?_⟩
   obtain ⟨y,ey,e2,_⟩:=Su (l:=[r2 % v,((u.map An).length:Int) % v,f % v,u.sum % v,r2 % (v+2),r2 % 7 / 5 * (r2 % v),r2 % v,x]) b8.1 (by simpa using b8.2)
   have e3:=bH An [r2 % v,((u.map An).length:Int) % v,f % v,u.sum % v,r2 % (v+2),r2 % 7 / 5 * (r2 % v),r2 % v,x] (r1 % 8)
   rw[e2] at e3
   refine ⟨_,e3,im,by rw[Ab]; omega,?_⟩
   have y0:0<=y:=by
    have hm:=Au ey
    have m1:=Fc r2 (show v≠0 by omega)
    have m2:=Fc ((u.map An).length:Int) (show v≠0 by omega)
    have m3:=Fc f (show v≠0 by omega)
    have m4:=Fc u.sum (show v≠0 by omega)
    have m5:=Fc r2 (show v+2≠0 by omega)
    have m6:=Int.mul_nonneg (Int.ediv_nonneg (Fc r2 (show (7:Int)≠0 by decide)) (show (0:Int)<=5 by decide)) m1
    simp only[Aj,Ba,or_false] at hm
    rcases hm with e | e | e | e | e | e | e | e <;> rw[e] <;> assumption
   exact ⟨face++[y],_,_,_,yF (by rw[Bm]; rfl) (by omega),by simp [lf],λz hz=>by rcases Bl.mp hz with hz | hz; exact nf z hz; rw[Ah.mp hz]; exact y0,Ej,Ej,Ej⟩
  ·(intro _ q_; obtain ⟨face,v1,v2,v3,rfl,lf,nf,hv1,hv2,hv3⟩ := q_)
   array_get_dec
   exact ⟨by omega,hR face lf nf⟩
end
def Ny(l:List Int):Int:=l.foldr max 0
theorem Ml{x:Int}(hx:0<x):∀{l:List Int},x<=Ny l↔∃y∈l,x<=y
 | []=>⟨λh=>by simp [Ny] at h; omega,λ⟨_,h,_⟩=>nomatch h⟩
 | a::l=>by
  show x<=max a (Ny l)↔_
  have ih:=Ml hx (l:=l)
  constructor
  ·intro h
   rcases (by omega:x<=a\/x<=Ny l) with h | h
   ·exact ⟨a,Aa,h⟩
   ·obtain ⟨y,hy,e⟩:=ih.mp h
    exact ⟨y,Ag _ hy,e⟩
  ·(intro q_; obtain ⟨y,hy,e⟩ := q_)
   rcases Aj.mp hy with rfl | hy
   ·omega
   ·have:=ih.mpr ⟨y,hy,e⟩
    omega
theorem Qc:∀l:List Int,0<=Ny l
 | []=>by simp [Ny]
 | a::l=>by
  show 0<=max a (Ny l)
  have:=Qc l
  omega
theorem xF{l:List Int}{M:Int}(h0:∀x∈l,0<=x)(hM:M∈l)(hle:∀x∈l,x<=M):Ny l=M:=by
 by_cases z:0<M
 ·have h1:=(Ml z (l:=l)).mpr ⟨M,hM,Fu _⟩
  by_cases q:M<Ny l
  ·obtain ⟨y,hy,e⟩:=(Ml (x:=Ny l) (by omega) (l:=l)).mp (Fu _)
   have:=hle y hy
   omega
  ·omega
 ·have:=h0 M hM
  by_cases q:0<Ny l
  ·obtain ⟨y,hy,e⟩:=(Ml q (l:=l)).mp (Fu _)
   have:=hle y hy
   omega
  ·have:=Qc l
   omega
def Pk(nums:List Int)(p:List Int×Nat):Int:=(nums[p.2]?).getD 0+1
def Nh(ws:List (List Int))(face nums w:List Int)(v:Int):Int:=Ny ((kK ws face w v).map (Pk nums))
def tU:PF:=λds R=>∃(ws:List (List Int)) (face nums w:List Int) (v:Int),ds=[.list (ws.map Cn),.list (face.map An),.list (nums.map An),Cn w,.int v]/\ws.length=face.length/\ws.length=nums.length/\(∀x∈nums,0<=x)/\R (.int (Nh ws face nums w v))
def rX:PF:=λds R=>∃(ws:List (List Int)) (face nums:List Int) (vs:Int) (k:Nat) (w:List Int) (f:Int),ds=[.list (ws.map Cn),.list (face.map An),.int vs,.list (nums.map An),.int k]/\ws.length=face.length/\ws.length=nums.length/\(∀x∈nums,0<=x)/\2<=vs/\vs<=16 /\
 ws[k]? = some w/\face[k]? = some f/\∀M:Int,(∀x:Int,x<=M↔∀v:Int,0<=v->v<vs->v≠f->x<=Nh ws face nums w v)->R (.int M)
section
variable{P:Bu}{w:World}{K:PySem.W.Frag}{mg:Str->Option Value}{base:Heap}
theorem Zq:FnScope ["words", "reading", "numbers", "word", "value"] ["words", "reading", "numbers", "word", "value"] (Bn Li):=⟨rfl,rfl,rfl,by decide +kernel,rfl,by decide +kernel,by decide +kernel⟩
theorem Zx{f f_showing  : Addr}{fd d_showing:Bz}(F:Fun K "best_turns" "best_turns" Li f fd)(G_showing:FnOk P w K mg base Gd 2 f_showing d_showing ["words", "reading", "word", "value"] (Po K (rP)))(b_showing:Binds K d_showing ["words", "reading", "word", "value"] [])(k_showing:PySem.W.keepIn K (.ref f_showing)=true)(m_showing:mg "showing" = some (.ref f_showing))(mz_max:mg "max" = none):FnOk P w K mg base Gd 3 f fd ["words", "reading", "numbers", "word", "value"] (Po K (tU)):=by
 refine' Lh (k:=2) F Zq (λcdv A outer s H E hr=>?hb) ?h
 case hb =>
  have hr1:Room 1 _:=hr.mono (by decide)
  have hr2:Room 2 _:=hr.mono (by decide)
  have hu64:=hr.units
  have CS1:∀{scope:Scope} (h:scope={ kind:=.function,names:=[(".0",.local),("at",.local),("numbers",.free)],isGenerator:=false,isCoroutine:=false }),
    CompScope (Jz Gd P w K mg base ["words", "reading", "numbers", "word", "value"] "best_turns" (Bn Li) f cdv A outer s H E).nox scope [("numbers",s.heap.objs.size+1)] "at" ["numbers"] [2]:=by
   rintro scope rfl
   refine ⟨by rfl,.inl (by decide +kernel),by rfl,by decide +kernel,.inl rfl,λy c h=>?_,by rfl,by decide +kernel,rfl,λk y j e1 e2=>?_⟩
   ·have z:=Dn h
    simp only[Aj,Ba,or_false,Ds] at z
    obtain ⟨rfl,rfl⟩:=z; rfl
   ·match k,e1,e2 with
    | 0,e1,e2=>cases e1; cases e2; exact ⟨rfl,rfl,by first | exact .inl rfl | exact .inr rfl⟩
    | k+1,e1,e2=>cases e1
  exact Ff (Gw (wD rfl rfl mz_max (Ao (Kq (CS1 rfl) rfl (iO (Fs G_showing hr2 rfl m_showing k_showing b_showing Gh (Ao (Ar (pv 0)) (Ao (Ar (pv 1)) (Ao (Ar (pv 3)) (Ao (Ar (pv 4)) Bs)))))) (λ_ _ _=>Gv) (λ_ _ _=>Lq (Kh (Ar (pv 1)) (Ar (pv 0))) Di)) Bs)))
 case h =>
  (intro ds R q_; obtain ⟨ws,face,nums,w,v,rfl,l1,l2,h0,hR⟩ := q_)
  refine ⟨rfl,?_⟩
  array_get_dec
  refine ⟨ws,face,w,v,rfl,l1,?_⟩
  array_get_dec
  refine Ng (l:=kK ws face w v) (g:=λp=>.int p.2) rfl (λp=>.int (Pk nums p)) (λp hp yes no hy=>?_) ?_
  ·obtain ⟨k,hk⟩:=El.mp (Bk.mp hp).1
   obtain ⟨ek,hp1,hp2,hp3⟩:=jN hk
   obtain ⟨x,e1,e2,e3⟩:=Su (l:=nums) (i:=(p.2:Int)) (by omega) (by omega)
   array_get_dec
   refine ⟨.int x,by rw[bH,e2]; rfl,im,?_⟩
   array_get_dec
   rw[Fn] at e1
   have : Pk nums p=x+1:=by unfold Pk; rw[e1]; rfl
   rw[this] at hy
   exact hy
  ·array_get_dec
   refine ⟨(kK ws face w v).map (Pk nums),by rw[Br]; rfl,λz=>?_,λM hM hle=>?_⟩
   ·have : Nh ws face nums w v=0:=by unfold Nh; rw[z]; rfl
    rw[this] at hR
    array_get_dec
    exact hR
   ·have : Nh ws face nums w v=M:=xF (λx hx=>?_) hM hle
    ·rw[this] at hR
     array_get_dec
     exact hR
    ·obtain ⟨p,_,rfl⟩:=Bg.mp hx
     unfold Pk
     cases q:nums[p.2]? with
     | none=>simp
     | some y=>have:=h0 y (Au q); show 0<=y+1; omega
theorem Zl:FnScope ["words", "reading", "values", "numbers", "at", "others"] ["words", "reading", "values", "numbers", "at"] (Bn Ju):=⟨rfl,rfl,rfl,by decide +kernel,rfl,by decide +kernel,by decide +kernel⟩
theorem Zm{f f_best_turns  : Addr}{fd d_best_turns:Bz}(F:Fun K "sure_turns" "sure_turns" Ju f fd)(G_best_turns:FnOk P w K mg base Gd 3 f_best_turns d_best_turns ["words", "reading", "numbers", "word", "value"] (Po K (tU)))(b_best_turns:Binds K d_best_turns ["words", "reading", "numbers", "word", "value"] [])(k_best_turns:PySem.W.keepIn K (.ref f_best_turns)=true)(m_best_turns:mg "best_turns" = some (.ref f_best_turns))(mz_range:mg "range" = none)(mz_min:mg "min" = none):FnOk P w K mg base Gd 4 f fd ["words", "reading", "values", "numbers", "at"] (Po K (rX)):=by
 refine' Lh (k:=3) F Zl (λcdv A outer s H E hr=>?hb) ?h
 case hb =>
  have hr1:Room 1 _:=hr.mono (by decide)
  have hr2:Room 2 _:=hr.mono (by decide)
  have hr3:Room 3 _:=hr.mono (by decide)
  have hu64:=hr.units
  have CS1:∀{scope:Scope} (h:scope={ kind:=.function,names:=[(".0",.local),("value",.local),("at",.free),("reading",.free)],isGenerator:=false,isCoroutine:=false }),
    CompScope (Jz Gd P w K mg base ["words", "reading", "values", "numbers", "at", "others"] "sure_turns" (Bn Ju) f cdv A outer s H E).nox scope [("reading",s.heap.objs.size+2),("at",s.heap.objs.size+4)] "value" ["at", "reading"] [4,1]:=by
   rintro scope rfl
   refine ⟨by rfl,.inl (by decide +kernel),by rfl,by decide +kernel,.inl rfl,λy c h=>?_,by rfl,by decide +kernel,rfl,λk y j e1 e2=>?_⟩
   ·have z:=Dn h
    simp only[Aj,Ba,or_false,Ds] at z
    rcases z with ⟨rfl,rfl⟩ | ⟨rfl,rfl⟩ <;> rfl
   ·match k,e1,e2 with
    | 0,e1,e2=>cases e1; cases e2; exact ⟨rfl,rfl,by first | exact .inl rfl | exact .inr rfl⟩
    | 1,e1,e2=>cases e1; cases e2; exact ⟨rfl,rfl,by first | exact .inl rfl | exact .inr rfl⟩
    | k+2,e1,e2=>cases e1
  have CS2:∀{scope:Scope} (h:scope={ kind:=.function,names:=[(".0",.local),("value",.local),("best_turns",.globalImplicit),("at",.free),("numbers",.free),("reading",.free),("words",.free)],isGenerator:=false,isCoroutine:=false }),
    CompScope (Jz Gd P w K mg base ["words", "reading", "values", "numbers", "at", "others"] "sure_turns" (Bn Ju) f cdv A outer s H E).nox scope [("words",s.heap.objs.size+1),("reading",s.heap.objs.size+2),("numbers",s.heap.objs.size+3),("at",s.heap.objs.size+4)] "value" ["at", "numbers", "reading", "words"] [4,3,1,0]:=by
   rintro scope rfl
   refine ⟨by rfl,.inl (by decide +kernel),by rfl,by decide +kernel,.inl rfl,λy c h=>?_,by rfl,by decide +kernel,rfl,λk y j e1 e2=>?_⟩
   ·have z:=Dn h
    simp only[Aj,Ba,or_false,Ds] at z
    rcases z with ⟨rfl,rfl⟩ | ⟨rfl,rfl⟩ | ⟨rfl,rfl⟩ | ⟨rfl,rfl⟩ <;> rfl
   ·match k,e1,e2 with
    | 0,e1,e2=>cases e1; cases e2; exact ⟨rfl,rfl,by first | exact .inl rfl | exact .inr rfl⟩
    | 1,e1,e2=>cases e1; cases e2; exact ⟨rfl,rfl,by first | exact .inl rfl | exact .inr rfl⟩
    | 2,e1,e2=>cases e1; cases e2; exact ⟨rfl,rfl,by first | exact .inl rfl | exact .inr rfl⟩
    | 3,e1,e2=>cases e1; cases e2; exact ⟨rfl,rfl,by first | exact .inl rfl | exact .inr rfl⟩
    | k+4,e1,e2=>cases e1
  exact Cs (Th (o:=false) (i0:=5) Zl.nd rfl rfl (CS1 rfl) rfl (aQ rfl mz_range (Ao (Ar (pv 2)) Bs)) (λ_ _ _=>Wu (yT hu64 (Ar (pv 0)) (Kh (Ar (pv 2)) (Ar (pv 1))))) (λ_ _ _=>Ar (pv 0)))
   (Ff (Gw (Hx (lZ rfl) vS rfl mz_min (by decide +kernel) (Ao (Kq (CS2 rfl) rfl (iO (Ar (pv 5))) (λ_ _ _=>Gv) (λ_ _ _=>Fs G_best_turns hr3 rfl m_best_turns k_best_turns b_best_turns Gh (Ao (Ar (pv 4)) (Ao (Ar (pv 3)) (Ao (Ar (pv 2)) (Ao (Kh (Ar (pv 4)) (Ar (pv 1))) (Ao (Ar (pv 0)) Bs))))))) Bs))))
 case h =>
  (intro ds R q_; obtain ⟨ws,face,nums,vs,k,w,f,rfl,l1,l2,h0,v0,v1,hw,hf,hR⟩ := q_)
  refine ⟨rfl,?_⟩
  array_get_dec
  have ef:Sv (face.map An) (k:Int)=some (.int f):=Qz (by rw[Az,hf]; rfl)
  have ew:Sv (ws.map Cn) (k:Int)=some (Cn w):=Qz (by rw[Az,hw]; rfl)
  refine ⟨by omega,by omega,?_⟩
  refine tX (l:=Dd vs.toNat) (g:=λi:Nat=>.int i) rfl (λi:Nat=>decide ((i:Int)≠f)) (λi=>.int i) (λi _ yes no hy hn=>?_) ?_
  ·array_get_dec
   refine ⟨_,ef,dp,?_⟩
   array_get_dec
   refine bQ (λh=>?_) (λh=>?_)
   ·array_get_dec
    exact hy (by simpa using h)
   ·exact hn (by simpa using h)
  array_get_dec
  refine Ng (l:=(Dd vs.toNat).filter λi:Nat=>decide ((i:Int)≠f)) (g:=λi:Nat=>.int i) rfl (λi=>.int (Nh ws face nums w i)) (λi _ yes no hy=>?_) ?_
  ·array_get_dec
   refine ⟨_,ew,ws,face,nums,w,i,rfl,l1,l2,h0,?_⟩
   array_get_dec
   exact hy
  array_get_dec
  have mem:∀b:Int,b∈((Dd vs.toNat).filter λi:Nat=>decide ((i:Int)≠f)).map (λi:Nat=>Nh ws face nums w i)↔∃v:Int,0<=v/\v<vs/\v≠f/\b=Nh ws face nums w v:=λb=>by
   constructor
   ·intro h
    obtain ⟨i,hi,rfl⟩:=Bg.mp h
    obtain ⟨h1,h2⟩:=Bk.mp hi
    have:=Ga.mp h1
    exact ⟨i,by omega,by omega,by simpa using h2,rfl⟩
   ·(intro q_; obtain ⟨v,h1,h2,h3,rfl⟩ := q_)
    refine Bg.mpr ⟨v.toNat,Bk.mpr ⟨Ga.mpr (by omega),?_⟩,by rw[Me h1]⟩
    rw[Me h1]
    simpa using h3
  refine ⟨((Dd vs.toNat).filter λi:Nat=>decide ((i:Int)≠f)).map (λi:Nat=>Nh ws face nums w i),by rw[Br]; rfl,λz=>?_,λM hM hle=>?_⟩
  ·have h1:=(mem (Nh ws face nums w 0)).mpr
   have h2:=(mem (Nh ws face nums w 1)).mpr
   rw[z] at h1 h2
   by_cases q:f=0
   ·exact absurd (h2 ⟨1,by omega,by omega,by omega,rfl⟩) Ba
   ·exact absurd (h1 ⟨0,by omega,by omega,by omega,rfl⟩) Ba
  ·array_get_dec
   refine hR M λx=>⟨λh v h1 h2 h3=>?_,λh=>?_⟩
   ·have:=hle _ ((mem _).mpr ⟨v,h1,h2,h3,rfl⟩)
    omega
   ·obtain ⟨v,h1,h2,h3,rfl⟩:=(mem M).mp hM
    exact h v h1 h2 h3
end
def Fo(P:List (List Int))(f g:List Int->Int)(w:List Int)(v:Int):Int:=Ny ((P.filter λu=>decide (f u=v) && uB w u).map λu=>g u+1)
def dE(L:List (List Int))(f:List Int->Int)(vs:Int)(g:List Int->Int)(P:List (List Int)):Prop:=∀w∈P,∀x:Int,x<=g w↔∀v:Int,0<=v->v<vs->v≠f w->x<=Fo L f g w v
def Kk(L:List (List Int))(f:List Int->Int)(vs:Int)(g:List Int->Int):Prop:=dE L f vs g L
theorem Pj{l m:List Int}(h:∀x,x∈l↔x∈m):Ny l=Ny m:=by
 have key:∀{l m:List Int},(∀x∈l,x∈m)->Ny l<=Ny m:=λ{l m} h=>by
  by_cases z:0<Ny l
  ·obtain ⟨y,hy,e⟩:=(Ml z (l:=l)).mp (Fu _)
   exact (Ml z).mpr ⟨y,h y hy,e⟩
  ·have:=Qc m
   omega
 exact Int.le_antisymm (key λx hx=>(h x).mp hx) (key λx hx=>(h x).mpr hx)
theorem zM{w u:List Int}:uB w u=true↔∀i∈w,i∈u:=by
 unfold uB
 rw[Yz]
 simp
theorem Uq{n:Int}{w u:List Int}(hw:Ec n w)(hu:Ec n u)(hi:uB w u=true)(ne:w≠u):w.length<u.length:=by
 rw[zM] at hi
 obtain ⟨y,hy,hn⟩ : ∃y∈u,y∉w:=Za λz=>ne (Uu hw hu λi=>⟨hi i,λq=>Za λr=>z ⟨i,q,r⟩⟩)
 have:=NdS.len_leI (l2:=u.erase y) (cD hw) λe he=>(List.mem_erase_of_ne (show e≠y from λq=>hn (by rw[<- q]; exact he))).mpr (hi e he)
 rw[gW hy] at this
 have:=jV hy
 omega
def fT(g:List Int->Int)(w:List Int)(X:Int)(u:List Int):Int:=if u=w then X else g u
theorem dM{g:List Int->Int}{w:List Int}{X:Int}:fT g w X w=X:=if_pos rfl
theorem Nl{g:List Int->Int}{w u:List Int}{X:Int}(h:u≠w):fT g w X u=g u:=if_neg h
theorem iD{n:Int}{L M:List (List Int)}{f g:List Int->Int}{vs X:Int}{i:Nat}{w:List Int}(hm:∀u,u∈M↔u∈L)(nd:M.Nodup)(hr:∀u∈L,Ec n u)(hs:M.Pairwise λx y=>y.length<=x.length)(hw:M[i]? = some w)(ho:dE L f vs g (M.take i))(hX:∀x:Int,x<=X↔∀v:Int,0<=v->v<vs->v≠f w->x<=Fo (M.take i) f g w v):dE L f vs (fT g w X) (M.take (i+1)):=by
 have hi:=(Ak.mp hw).1
 have wL:=(hm w).mp (Au hw)
 have ahead:∀u∈L,w.length<u.length->u∈M.take i:=λu hu hl=>by
  obtain ⟨j,hj⟩:=El.mp ((hm u).mpr hu)
  have hj':=(Ak.mp hj).1
  by_cases q:j<i
  ·exact Au (i:=j) (by rw[Dl q]; exact hj)
  ·exfalso
   by_cases z:j=i
   ·subst z; rw[hw] at hj; cases hj; omega
   ·have:=Dg.mp hs i j hi hj' (by omega)
    rw[Am hi] at hw
    rw[Am hj'] at hj
    cases hw
    cases hj
    omega
 have Uk:∀u∈M.take i,w.length<=u.length/\u≠w:=λu hu=>by
  obtain ⟨j,hj⟩:=El.mp hu
  have q:j<i:=by
   have:=(Ak.mp hj).1
   rw[Cp] at this
   omega
  rw[Dl q] at hj
  have hj':=(Ak.mp hj).1
  rw[Am hi] at hw
  rw[Am hj'] at hj
  cases hw
  cases hj
  refine ⟨Dg.mp hs j i hj' hi q,λz=>?_⟩
  have q3:=Dg.mp nd j i hj' hi q
  exact q3 z
 intro u hu x
 rw[Nk,hw] at hu
 have hu:u∈M.take i++[w]:=hu
 rcases Bl.mp hu with hu | hu
 ·obtain ⟨b1,b2⟩:=Uk u hu
  have uL:=(hm u).mp (Yy _ _ hu)
  have same:∀v,Fo L f (fT g w X) u v=Fo L f g u v:=λv=>by
   unfold Fo
   congr 1
   refine Ek λc hc=>?_
   obtain ⟨c1,c2⟩:=Bk.mp hc
   rw[Bv] at c2
   have : c≠w:=λz=>by
    subst z
    have:=Uq (hr u uL) (hr c c1) c2.2 b2
    omega
   rw[Nl this]
  rw[Nl b2]
  simp only[same]
  exact ho u hu x
 ·rw[Ah.mp hu,dM,hX x]
  refine forall_congr' λv=>forall_congr' λq1=>forall_congr' λq2=>forall_congr' λq3=>?_
  have : Fo (M.take i) f g w v=Fo L f (fT g w X) w v:=by
   unfold Fo
   refine Pj λy=>?_
   constructor
   ·intro hy
    obtain ⟨c,hc,rfl⟩:=Bg.mp hy
    obtain ⟨c1,c2⟩:=Bk.mp hc
    exact Bg.mpr ⟨c,Bk.mpr ⟨(hm c).mp (Yy _ _ c1),c2⟩,by rw[Nl (Uk c c1).2]⟩
   ·intro hy
    obtain ⟨c,hc,rfl⟩:=Bg.mp hy
    obtain ⟨c1,c2⟩:=Bk.mp hc
    have c3:=c2
    rw[Bv,decide_eq_true_eq] at c3
    have ne:c≠w:=λz=>q3 (by rw[<- c3.1,z])
    have:=Uq (hr w wL) (hr c c1) c3.2 ne.symm
    exact Bg.mpr ⟨c,Bk.mpr ⟨ahead c c1 this,c2⟩,by rw[Nl ne]⟩
  rw[this]
theorem eJ:∀{L:List (List Int)},L.Nodup->∀{face:List Int},face.length=L.length->∃f:List Int->Int,face=L.map f
 | [],_,[],_=>⟨λ_=>0,rfl⟩
 | [],_,_::_,h=>by cases h
 | _::_,_,[],h=>by cases h
 | w::L,nd,x::face,h=>by
  obtain ⟨n1,n2⟩:=Ci.mp nd
  obtain ⟨f,e⟩:=eJ n2 (face:=face) (by simpa using h)
  refine ⟨fT f w x,?_⟩
  rw[Av,dM,e]
  congr 1
  refine Ek λu hu=>?_
  rw[Nl (show u≠w from λz=>n1 (by rw[<- z]; exact hu))]
def Uy:PF:=λds R=>∃(h:Int) (L:List (List Int)) (f:List Int->Int) (vs:Int),ds=[.int h,.list ((L.map f).map An),.int vs]/\0<=h/\h<=10/\L.Perm (Do h.toNat)/\Ord L/\2<=vs/\vs<=16 /\
 ∀g:List Int->Int,Kk L f vs g->R (.list ((L.map g).map An))
theorem tF(L:List (List Int))(f g:List Int->Int)(w:List Int)(v:Int):Nh L (L.map f) (L.map g) w v=Fo L f g w v:=by
 unfold Nh Fo
 refine Pj λx=>?_
 have at':∀p:List Int×Nat,p∈L.zipIdx->L[p.2]? = some p.1:=λp hp=>by
  obtain ⟨k,hk⟩:=El.mp hp
  obtain ⟨ek,hp1,hp2,hp3⟩:=jN hk
  exact Zy.mp hp
 constructor
 ·intro hx
  obtain ⟨p,hp,rfl⟩:=Bg.mp hx
  obtain ⟨p1,p2⟩:=Bk.mp hp
  have e:=at' p p1
  unfold nE at p2
  rw[Az,e,Bv,decide_eq_true_eq] at p2
  refine Bg.mpr ⟨p.1,Bk.mpr ⟨Au e,?_⟩,?_⟩
  ·rw[Bv,decide_eq_true_eq]
   exact ⟨Bj p2.1,p2.2⟩
  ·unfold Pk
   rw[Az,e]
   rfl
 ·intro hx
  obtain ⟨u,hu,rfl⟩:=Bg.mp hx
  obtain ⟨u1,u2⟩:=Bk.mp hu
  rw[Bv,decide_eq_true_eq] at u2
  obtain ⟨k,hk⟩:=El.mp u1
  have hk':=(Ak.mp hk)
  refine Bg.mpr ⟨(u,k),Bk.mpr ⟨?_,?_⟩,?_⟩
  ·exact List.mem_zipIdx_iff_getElem?.mpr hk
  ·unfold nE
   rw[Az,hk,Bv,decide_eq_true_eq]
   exact ⟨congrArg some u2.1,u2.2⟩
  ·unfold Pk
   rw[Az,hk]
   rfl
theorem gA{n:Int}{L M:List (List Int)}{f g:List Int->Int}{i:Nat}{w:List Int}{v:Int}(hm:∀u,u∈M↔u∈L)(hr:∀u∈L,Ec n u)(hs:M.Pairwise λx y=>y.length<=x.length)(hw:M[i]? = some w)(hv:v≠f w):Fo L f g w v=Fo (M.take i) f g w v:=by
 have hi:=(Ak.mp hw).1
 have wL:=(hm w).mp (Au hw)
 unfold Fo
 refine Pj λy=>?_
 constructor
 ·intro hy
  obtain ⟨c,hc,rfl⟩:=Bg.mp hy
  obtain ⟨c1,c2⟩:=Bk.mp hc
  have c3:=c2
  rw[Bv,decide_eq_true_eq] at c3
  have ne:c≠w:=λz=>hv (by rw[<- c3.1,z])
  have hl:=Uq (hr w wL) (hr c c1) c3.2 ne.symm
  refine Bg.mpr ⟨c,Bk.mpr ⟨?_,c2⟩,rfl⟩
  obtain ⟨j,hj⟩:=El.mp ((hm c).mpr c1)
  have hj':=(Ak.mp hj).1
  by_cases q:j<i
  ·exact Au (i:=j) (by rw[Dl q]; exact hj)
  ·exfalso
   by_cases z:j=i
   ·subst z; rw[hw] at hj; cases hj; omega
   ·have:=Dg.mp hs i j hi hj' (by omega)
    rw[Am hi] at hw
    rw[Am hj'] at hj
    cases hw
    cases hj
    omega
 ·intro hy
  obtain ⟨c,hc,rfl⟩:=Bg.mp hy
  obtain ⟨c1,c2⟩:=Bk.mp hc
  exact Bg.mpr ⟨c,Bk.mpr ⟨(hm c).mp (Yy _ _ c1),c2⟩,rfl⟩
theorem tM{L:List (List Int)}(nd:L.Nodup){g:List Int->Int}{X:Int}{k:Nat}{w:List Int}(hk:L[k]? = some w):(L.map g).set k X=L.map (fT g w X):=by
 refine Gu λj=>?_
 have hkl:=(Ak.mp hk).1
 rw[Ko,Az,Az]
 by_cases e:k=j
 ·subst e
  rw[if_pos rfl,if_pos (by rw[Ab]; exact hkl),hk]
  exact congrArg some dM.symm
 ·rw[if_neg e]
  cases hj:L[j]? with
  | none=>rfl
  | some u =>
   refine congrArg some (Nl λz=>e ?_).symm
   rw[z] at hj
   have hjl:=(Ak.mp hj).1
   have pw:=Dg.mp nd
   rw[Am hkl] at hk
   rw[Am hjl] at hj
   by_cases q:k<j
   ·exact absurd (Bj (hk.trans hj.symm)) (pw k j hkl hjl q)
   ·exact absurd (Bj (hj.trans hk.symm)) (pw j k hjl hkl (by omega))
theorem Qa{n:Int}{L:List (List Int)}{f g g':List Int->Int}{vs:Int}(hr:∀u∈L,Ec n u)(hl:∀u∈L,u.length<=1000)(h:Kk L f vs g)(h':Kk L f vs g'):L.map g=L.map g':=by
 have key:∀(k:Nat) (w:List Int),w∈L->1000<=w.length+k->g w=g' w:=by
  intro k
  induction k with
  | zero =>
   intro w hw hk
   have e:∀v,v≠f w->Fo L f g w v=Fo L f g' w v:=λv hv=>by
    unfold Fo
    congr 1
    refine Ek λc hc=>?_
    obtain ⟨c1,c2⟩:=Bk.mp hc
    rw[Bv,decide_eq_true_eq] at c2
    have ne:c≠w:=λz=>hv (by rw[<- c2.1,z])
    have:=Uq (hr w hw) (hr c c1) c2.2 ne.symm
    have:=hl c c1
    omega
   have a1:=(h' w hw (g w)).mpr λv q1 q2 q3=>by rw[<- e v q3]; exact (h w hw (g w)).mp (Fu _) v q1 q2 q3
   have a2:=(h w hw (g' w)).mpr λv q1 q2 q3=>by rw[e v q3]; exact (h' w hw (g' w)).mp (Fu _) v q1 q2 q3
   omega
  | succ k ih =>
   intro w hw hk
   have e:∀v,v≠f w->Fo L f g w v=Fo L f g' w v:=λv hv=>by
    unfold Fo
    congr 1
    refine Ek λc hc=>?_
    obtain ⟨c1,c2⟩:=Bk.mp hc
    rw[Bv,decide_eq_true_eq] at c2
    have ne:c≠w:=λz=>hv (by rw[<- c2.1,z])
    have:=Uq (hr w hw) (hr c c1) c2.2 ne.symm
    rw[ih c c1 (by omega)]
   have a1:=(h' w hw (g w)).mpr λv q1 q2 q3=>by rw[<- e v q3]; exact (h w hw (g w)).mp (Fu _) v q1 q2 q3
   have a2:=(h w hw (g' w)).mpr λv q1 q2 q3=>by rw[e v q3]; exact (h' w hw (g' w)).mp (Fu _) v q1 q2 q3
   omega
 exact Ek λw hw=>key 1000 w hw (by omega)
section
variable{P:Bu}{w:World}{K:PySem.W.Frag}{mg:Str->Option Value}{base:Heap}
theorem rD:FnScope ["holes", "reading", "values", "told", "at", "words"] ["holes", "reading", "values"] (Bn cY):=⟨rfl,rfl,rfl,by decide +kernel,rfl,by decide +kernel,by decide +kernel⟩
theorem sS{f f_all_words f_sure_turns  : Addr}{fd d_all_words d_sure_turns:Bz}(F:Fun K "often" "often" cY f fd)(G_all_words:FnOk P w K mg base Gd 1 f_all_words d_all_words ["holes"] (Po K Qi))(b_all_words:Binds K d_all_words ["holes"] [])(k_all_words:PySem.W.keepIn K (.ref f_all_words)=true)(m_all_words:mg "all_words" = some (.ref f_all_words))(G_sure_turns:FnOk P w K mg base Gd 4 f_sure_turns d_sure_turns ["words", "reading", "values", "numbers", "at"] (Po K (rX)))(b_sure_turns:Binds K d_sure_turns ["words", "reading", "values", "numbers", "at"] [])(k_sure_turns:PySem.W.keepIn K (.ref f_sure_turns)=true)(m_sure_turns:mg "sure_turns" = some (.ref f_sure_turns))(mz_len:mg "len" = none)(mz_sorted:mg "sorted" = none)(mz_range:mg "range" = none){cO pO:Addr}(tO:PySem.W.tabIn K "often" = some (cO,pO))(cdO:fd.code=.ref cO):FnOk P w K mg base Gd 5 f fd ["holes", "reading", "values"] (Po K (Uy)):=by
 refine' qU (k:=4) F rD (λcdv A outer s H E hcv hr=>?hb) ?h
 case hb =>
  have hr1:Room 1 _:=hr.mono (by decide)
  have hr2:Room 2 _:=hr.mono (by decide)
  have hr3:Room 3 _:=hr.mono (by decide)
  have hr4:Room 4 _:=hr.mono (by decide)
  have hu64:=hr.units
  exact Cs (Fl (i:=5) rD.nd rfl (On rfl) (Fs G_all_words hr1 rfl m_all_words k_all_words b_all_words Gh (Ao (Ar (pv 0)) Bs)))
   (Cs (Wp (i:=3) rD.nd rfl (Ea rfl) (n9 (Jq (Ao Di Bs)) (Hx Sz bZ rfl mz_len (by decide +kernel) (Ao (Ar (pv 5)) Bs))))
   (Cs (Va Fz rfl (iO (oX (x := "often") (j:=5) (cw:=s.heap.objs.size+1) rfl hr rfl mz_sorted mz_len rfl mz_range ⟨.head _,⟨_,_,tO,hcv.symm.trans cdO⟩,rfl,rfl,rfl,λ_ _ _ _=>rfl,rfl,rfl,rfl,rfl,by decide⟩ rfl rfl rfl rfl rfl (Hx Sz bZ rfl mz_len (by decide +kernel) (Ao (Ar (pv 5)) Bs)))) (Qg (i:=4) rD.nd rfl (Ea rfl))
   (Ff (wA (pv 3) (Ar (pv 4)) (Fs G_sure_turns hr4 rfl m_sure_turns k_sure_turns b_sure_turns Gh (Ao (Ar (pv 5)) (Ao (Ar (pv 1)) (Ao (Ar (pv 2)) (Ao (Ar (pv 3)) (Ao (Ar (pv 4)) Bs)))))))))
   (Ff (Gw (dF (pv 3))))))
 case h =>
  (intro ds R q_; obtain ⟨h,L,f,vs,rfl,h0,h1,hp,ho,v0,v1,hR⟩ := q_)
  refine ⟨rfl,?_⟩
  array_get_dec
  refine ⟨h,rfl,h0,h1,λL' hp' ho'=>?_⟩
  obtain rfl:=gK (hp.trans hp'.symm) ho ho'
  have lL:L.length=2 ^ h.toNat:=by rw[hp.length_eq,Nz]
  obtain ⟨l1,l2⟩:=Jj (n:=h.toNat) (by omega) hp
  have nd:=Mn hp
  array_get_dec
  rw[Ab]
  refine ⟨by omega,by omega,by omega,zU (ws:=L) rfl rfl (by omega) λl pl sl=>?_⟩
  have e0:(Ca (L.length:Int).toNat [An 0]).flatten=(L.map λ_=>(0:Int)).map An:=by
   rw[Fn,Br]
   have : ∀l:List (List Int),(Ca l.length [An 0]).flatten=l.map (An ∘ λ_=>(0:Int)):=by
    intro l
    induction l with
    | nil=>rfl
    | cons a l ih=>rw[Bt,Fb,Gs,ih]; rfl
   exact this L
  rw[e0]
  have lin:∀k∈l,k<L.length:=λk hk=>Ga.mp (pl.mem_iff.mp hk)
  obtain ⟨M,hM⟩ : ∃M,l.map (λk=>L.getD k [])=M:=⟨_,rfl⟩
  have pM:M.Perm L:=by
   rw[<- hM]
   refine (pl.map _).trans ?_
   have : (Dd L.length).map (λk=>L.getD k [])=L:=by
    refine Gu λj=>?_
    rw[Az]
    by_cases hj:j<L.length
    ·rw[Tx hj,Am hj]
     show some (L.getD j [])=_
     rw[Ed,Am hj]
     rfl
    ·rw[Kz (by rw[Dt]; omega),Kz (by omega)]
     rfl
   rw[this]
  have sM:M.Pairwise λx y=>y.length<=x.length:=by
   rw[<- hM,Wg]
   exact sl
  have ndM:M.Nodup:=pM.nodup_iff.mpr nd
  array_get_dec
  refine nU (l:=l) (g:=λk:Nat=>.int k) rfl (λi δ=>∃(g:List Int->Int) (v4:DV),δ=⟨[.dat .sh (.int h),.dat .sh (.list ((L.map f).map An)),.dat .sh (.int vs),.dat .ow (.list ((L.map g).map An)),v4,.dat .sh (.list (L.map Cn))],0⟩/\NP v4/\(∀u∈L,0<=g u)/\dE L f vs g (M.take i)) ?_ ?_ ?_
  ·exact ⟨λ_=>0,_,rfl,Vm,λ_ _=>Fu _,λ_ z=>nomatch z⟩
  ·(intro i k _ hk q_; obtain ⟨g,v4,rfl,hv4,gn,ho⟩ := q_)
   have hkl:=lin k (Au hk)
   obtain ⟨w,hw⟩ : ∃w,L[k]? = some w:=⟨_,Am hkl⟩
   have hwM:M[i]? = some w:=by
    rw[<- hM,Az,hk]
    show some (L.getD k [])=_
    rw[Ed,hw]
    rfl
   array_get_dec
   refine ⟨L,L.map f,L.map g,vs,k,w,f w,rfl,by rw[Ab],by rw[Ab],?_,v0,v1,hw,by rw[Az,hw]; rfl,λX hX=>?_⟩
   ·intro x hx
    obtain ⟨u,hu,rfl⟩:=Bg.mp hx
    exact gn u hu
   array_get_dec
   simp only[tF] at hX
   have X0:0<=X:=(hX 0).mpr λv _ _ _=>Qc _
   refine ⟨k,by unfold oQ; rw[Ab,Ab,if_pos (by omega),if_pos (by omega),Fn],fT g w X,.dat .sh (.int k),?_,Ej,λu hu=>?_,?_⟩
   ·rw[<- tM nd hw,Hj]
   ·by_cases z:u=w
    ·rw[z,dM]; exact X0
    ·rw[Nl z]; exact gn u hu
   ·refine iD (λu=>pM.mem_iff) ndM (λu hu=>(l2 u hu).1) sM hwM ho λx=>(hX x).trans ?_
    refine forall_congr' λv=>forall_congr' λq1=>forall_congr' λq2=>forall_congr' λq3=>?_
    rw[gA (λu=>pM.mem_iff) (λu hu=>(l2 u hu).1) sM hwM q3]
  ·(intro _ q_; obtain ⟨g,v4,rfl,hv4,gn,hu⟩ := q_)
   have lM:M.length=l.length:=by rw[<- hM,Ab]
   rw[<- lM,Ft] at hu
   array_get_dec
   exact hR g λw hw=>hu w (pM.mem_iff.mpr hw)
end
open DRow
structure Rdg(h:Int)(L:List (List Int))(f g:List Int->Int)(vs:Int):Prop where
 h0:1<=h
 h1:h<=7
 pe:L.Perm (Do h.toNat)
 po:Ord L
 v0:2<=vs
 v1:vs<=16
 nn:∀w∈L,0<=f w
 of:Kk L f vs g
def nZ(T:List Int)(vs x:Int):Int:=if x<vs then Zr T x else x
theorem kN{T:List Int}{n:Nat}(p:Pm n T){x y:Int}(hx:0<=x)(hy:0<=y)(e:nZ T n x=nZ T n y):x=y:=by
 unfold nZ at e
 by_cases q:x<(n:Int)
 ·rw[if_pos q] at e
  have r:=p.ran hx q
  by_cases z:y<(n:Int)
  ·rw[if_pos z] at e
   exact p.inj hx q hy z e
  ·rw[if_neg z] at e
   omega
 ·rw[if_neg q] at e
  by_cases z:y<(n:Int)
  ·rw[if_pos z] at e
   have r:=p.ran hy z
   omega
  ·rw[if_neg z] at e
   exact e
theorem cV{L:List (List Int)}{f g:List Int->Int}{n:Nat}{T:List Int}(p:Pm n T)(nn:∀w∈L,0<=f w)(h:Kk L f n g):Kk L (λw=>nZ T n (f w)) n g:=by
 have key:∀(w:List Int) (v:Int),0<=v->Fo L (λw=>nZ T n (f w)) g w (nZ T n v)=Fo L f g w v:=λw v hv=>by
  unfold Fo
  dsimp only
  congr 2
  refine List.filter_congr λu hu=>?_
  congr 1
  exact decide_eq_decide.mpr ⟨λz=>kN p (nn u hu) hv z,λz=>congrArg (nZ T n) z⟩
 have inR:∀v:Int,0<=v->v<(n:Int)->nZ T n v=Zr T v:=λv _ q=>if_pos q
 intro w hw x
 rw[h w hw x]
 constructor
 ·intro q v h0 h1 ne
  obtain ⟨v0,a0,a1,e⟩:=p.sur h0 h1
  rw[<- inR v0 a0 a1] at e
  subst e
  rw[key w v0 a0]
  exact q v0 a0 a1 λz=>ne (by rw[z])
 ·intro q v h0 h1 ne
  have r:=p.ran h0 h1
  rw[<- key w v h0]
  refine q _ ?_ ?_ λz=>ne (kN p h0 (nn w hw) z)
  ·rw[inR v h0 h1]; exact r.1
  ·rw[inR v h0 h1]; exact r.2.1
theorem gI{L:List (List Int)}{f g:List Int->Int}{n:Nat}{vs:Int}{T:List Int}(p:Pm n T)(hm:∀w,w∈L↔Ec n w){kf:List Int->List Int}(hk:∀u∈L,kf (Rm T u)=u)(h:Kk L f vs g):Kk L (λw=>f (kf w)) vs (λw=>g (kf w)):=by
 intro w hw x
 obtain ⟨w0,r0,rfl⟩:=p.back ((hm w).mp hw)
 have w0L:=(hm w0).mpr r0
 have key:∀v,Fo L (λw=>f (kf w)) (λw=>g (kf w)) (Rm T w0) v=Fo L f g w0 v:=λv=>by
  unfold Fo
  dsimp only
  refine Pj λy=>?_
  constructor
  ·intro hy
   obtain ⟨u,hu,rfl⟩:=Bg.mp hy
   obtain ⟨u1,u2⟩:=Bk.mp hu
   rw[Bv,decide_eq_true_eq] at u2
   obtain ⟨u0,ru,rfl⟩:=p.back ((hm u).mp u1)
   have uL:=(hm u0).mpr ru
   rw[hk u0 uL] at u2 ⊢
   refine Bg.mpr ⟨u0,Bk.mpr ⟨uL,?_⟩,rfl⟩
   rw[Bv,decide_eq_true_eq]
   exact ⟨u2.1,by have:=p.sub r0 ru; exact this.symm.trans u2.2⟩
  ·intro hy
   obtain ⟨u,hu,rfl⟩:=Bg.mp hy
   obtain ⟨u1,u2⟩:=Bk.mp hu
   rw[Bv,decide_eq_true_eq] at u2
   have ru:=(hm u).mp u1
   refine Bg.mpr ⟨Rm T u,Bk.mpr ⟨(hm _).mpr (p.word ru),?_⟩,by rw[hk u u1]⟩
   rw[Bv,decide_eq_true_eq,hk u u1]
   exact ⟨u2.1,by have:=p.sub r0 ru; exact this.trans u2.2⟩
 dsimp only
 rw[hk w0 w0L,h w0 w0L x]
 simp only[key]
def Iz(h:Int)(u:List Int):List Int:=u.filter λp=>decide (p<h)
theorem G9{h:Int}{u:List Int}{i:Int}:i∈Iz h u↔i∈u/\i<h:=by
 unfold Iz
 rw[List.mem_filter,decide_eq_true_eq]
theorem Uv{h:Int}{u:List Int}(r:Ec (h+1) u):Ec h (Iz h u) :=
 ⟨r.1.sublist List.filter_sublist,λx hx=>by
  obtain ⟨h1,h2⟩:=G9.mp hx
  exact ⟨(r.2 x h1).1,h2⟩⟩
theorem jU{L L2:List (List Int)}{f g:List Int->Int}{h vs:Int}(hm:∀w,w∈L↔Ec h w)(h0:0<=h)(hm2:∀w,w∈L2↔Ec (h+1) w)(o:Kk L f vs g):Kk L2 (λw=>f (Iz h w)) vs (λw=>g (Iz h w)):=by
 intro w hw x
 have rw_:=(hm2 w).mp hw
 have wL:=(hm _).mpr (Uv rw_)
 have key:∀v,Fo L2 (λw=>f (Iz h w)) (λw=>g (Iz h w)) w v=Fo L f g (Iz h w) v:=λv=>by
  unfold Fo
  dsimp only
  refine Pj λy=>?_
  constructor
  ·intro hy
   obtain ⟨u,hu,rfl⟩:=Bg.mp hy
   obtain ⟨u1,u2⟩:=Bk.mp hu
   rw[Bv,decide_eq_true_eq] at u2
   refine Bg.mpr ⟨Iz h u,Bk.mpr ⟨(hm _).mpr (Uv ((hm2 u).mp u1)),?_⟩,rfl⟩
   rw[Bv,decide_eq_true_eq]
   refine ⟨u2.1,zM.mpr λi hi=>?_⟩
   obtain ⟨i1,i2⟩:=G9.mp hi
   exact G9.mpr ⟨zM.mp u2.2 i i1,i2⟩
  ·intro hy
   obtain ⟨u,hu,rfl⟩:=Bg.mp hy
   obtain ⟨u1,u2⟩:=Bk.mp hu
   rw[Bv,decide_eq_true_eq] at u2
   have ru:=(hm u).mp u1
   have sub:=zM.mp u2.2
   have less_u:Iz h u=u:=oS.mpr λi hi=>by have:=(ru.2 i hi).2; simpa using this
   by_cases z:h∈w
   ·have e:Iz h (u++[h])=u:=by
     unfold Iz
     rw[Jv]
     have : ([h].filter λp=>decide (p<h))=[]:=by simp
     rw[this,Ee]
     exact less_u
    refine Bg.mpr ⟨u++[h],Bk.mpr ⟨(hm2 _).mpr ⟨?_,λi hi=>?_⟩,?_⟩,by rw[e]⟩
    ·refine Da.mpr ⟨ru.1,Fk ..,λa ha b hb=>?_⟩
     rw[Ah.mp hb]
     exact (ru.2 a ha).2
    ·rcases Bl.mp hi with hi | hi
     ·have:=ru.2 i hi; omega
     ·rw[Ah.mp hi]; omega
    ·rw[Bv,decide_eq_true_eq,e]
     refine ⟨u2.1,zM.mpr λi hi=>?_⟩
     have b:=rw_.2 i hi
     by_cases q:i<h
     ·exact Ay _ (sub i (G9.mpr ⟨hi,q⟩))
     ·exact Ap _ (Ah.mpr (by omega))
   ·refine Bg.mpr ⟨u,Bk.mpr ⟨(hm2 _).mpr ⟨ru.1,λi hi=>by have:=ru.2 i hi; omega⟩,?_⟩,by rw[less_u]⟩
    rw[Bv,decide_eq_true_eq,less_u]
    refine ⟨u2.1,zM.mpr λi hi=>?_⟩
    have b:=rw_.2 i hi
    have : i≠h:=λq=>z (by rw[<- q]; exact hi)
    exact sub i (G9.mpr ⟨hi,by omega⟩)
 rw[o _ wL x]
 simp only[key]
theorem jK{L:List (List Int)}{f:List Int->Int}{vs:Int}(v0:0<=vs)(ne:∀w∈L,f w≠vs):Kk L f (vs+1) (λ_=>0):=by
 intro w hw x
 constructor
 ·intro q v _ _ _
  exact Int.le_trans q (Qc _)
 ·intro q
  have:=q vs v0 (by omega) (λz=>ne w hw z.symm)
  unfold Fo at this
  rw[List.filter_eq_nil_iff.mpr λu hu=>by rw[decide_eq_false (ne u hu)]; simp] at this
  exact this
theorem iK{L:List (List Int)}{f g f' g':List Int->Int}{w:List Int}{v:Int}(h:∀u∈L,f u=v->uB w u=true->f' u=v/\g u<=g' u):Fo L f g w v<=Fo L f' g' w v:=by
 unfold Fo
 by_cases z:0<Ny ((L.filter λu=>decide (f u=v) && uB w u).map λu=>g u+1)
 ·obtain ⟨y,hy,e⟩:=(Ml z).mp (Fu _)
  obtain ⟨u,hu,rfl⟩:=Bg.mp hy
  obtain ⟨u1,u2⟩:=Bk.mp hu
  rw[Bv,decide_eq_true_eq] at u2
  obtain ⟨a1,a2⟩:=h u u1 u2.1 u2.2
  refine (Ml z).mpr ⟨g' u+1,Bg.mpr ⟨u,Bk.mpr ⟨u1,?_⟩,rfl⟩,by omega⟩
  rw[Bv,decide_eq_true_eq]
  exact ⟨a1,u2.2⟩
 ·have:=Qc ((L.filter λu=>decide (f' u=v) && uB w u).map λu=>g' u+1)
  omega
theorem eU{n:Int}{L:List (List Int)}{f g g':List Int->Int}{vs:Int}(hr:∀u∈L,Ec n u)(hl:∀u∈L,u.length<=1000)(h:Kk L f vs g)(h':Kk L (λw=>if f w=vs - 1 then 0 else f w) (vs - 1) g'):∀w∈L,g w<=g' w:=by
 have key:∀(k:Nat) (w:List Int),w∈L->1001<=w.length+k->g w<=g' w:=by
  intro k
  induction k with
  | zero=>intro w hw hk; have:=hl w hw; omega
  | succ k ih =>
   intro w hw hk
   refine (h' w hw (g w)).mpr λv q1 q2 q3=>?_
   have ne:v≠f w:=λz=>q3 (by subst z; exact (if_neg (by omega)).symm)
   refine Int.le_trans ((h w hw (g w)).mp (Fu _) v q1 (by omega) ne) (iK λu hu e hi=>?_)
   have nu:w≠u:=λz=>ne (by rw[z,e])
   have:=Uq (hr w hw) (hr u hu) hi nu
   refine ⟨?_,ih u hu (by omega)⟩
   show (if f u=vs - 1 then 0 else f u)=v
   rw[if_neg (by omega),e]
 exact λw hw=>key 1001 w hw (by omega)
def yR:PF:=λds R=>∃(h:Int) (L:List (List Int)) (f g:List Int->Int) (vs:Int) (T:List Int),ds=[.int h,.list ((L.map f).map An),.int vs,.list ((L.map g).map An),.list (T.map An)]/\Rdg h L f g vs/\Pm vs.toNat T/\R (.bool true)
def xS:PF:=λds R=>∃(h:Int) (L:List (List Int)) (f g:List Int->Int) (vs:Int) (T:List Int),ds=[.int h,.list (L.map Cn),.list ((L.map f).map An),.int vs,.list ((L.map g).map An),.list (T.map An)]/\Rdg h L f g vs/\Pm h.toNat T/\R (.bool true)
def xH:PF:=λds R=>∃(h:Int) (L:List (List Int)) (f g:List Int->Int) (vs:Int),ds=[.int h,.list (L.map Cn),.list ((L.map f).map An),.int vs,.list ((L.map g).map An)]/\Rdg h L f g vs/\R (.bool true)
def xK:PF:=λds R=>∃(h:Int) (L:List (List Int)) (f g:List Int->Int) (vs:Int),ds=[.int h,.list ((L.map f).map An),.int vs,.list ((L.map g).map An)]/\Rdg h L f g vs/\2<vs/\R (.bool true)
def kY:DF:=λds n R=>∃m:Int,ds=[.int m]/\0<=m/\m<=16/\n<=90000/\∀T:List Int,Pm m.toNat T->R (.list (T.map An)) (n+m.toNat)
theorem mX{α β:Type}(f:α->β)(l:List α)(k:Nat)(x:α):Kb (l.map f) k (f x)=(Kb l k x).map f:=by
 unfold Kb
 rw[Bm,Av,List.map_take,List.map_drop]
theorem gX{α:Type}(l:List α)(k:Nat)(x:α):(Kb l k x).Perm (x::l):=by
 unfold Kb
 refine Jb.trans ?_
 rw[Ge]
section
variable{P:Bu}{w:World}{K:PySem.W.Frag}{mg:Str->Option Value}{base:Heap}
theorem Xv:FnScope ["_law_draws_here", "_law_many", "_law_told", "_law_k"] ["_law_draws_here", "_law_many"] (Bn Mu):=⟨rfl,rfl,rfl,by decide +kernel,rfl,by decide +kernel,by decide +kernel⟩
theorem Xm{f f_L_next  : Addr}{fd d_L_next:Bz}(F:Fun K "_law_turned" "_law_turned" Mu f fd)(G_L_next:FnOk P w K mg base Gd 1 f_L_next d_L_next ["_law_draws_here"] (dR K Yq))(b_L_next:Binds K d_L_next ["_law_draws_here"] [])(k_L_next:PySem.W.keepIn K (.ref f_L_next)=true)(m_L_next:mg "_law_next" = some (.ref f_L_next))(mz_range:mg "range" = none):FnOk P w K mg base Gd 2 f fd ["_law_draws_here", "_law_many"] (dR K (kY)):=by
 refine' Wt (k:=1) F Xv (λcdv A outer s H E hr=>?hb) ?h
 case hb =>
  have hr1:Room 1 _:=hr.mono (by decide)
  have hu64:=hr.units
  exact Cs (Wp (i:=2) Xv.nd rfl (Ea rfl) (Jq Bs))
   (Cs (Va Fz rfl (aQ rfl mz_range (Ao (Ar (pv 1)) Bs)) (Qg (i:=3) Xv.nd rfl (Ea rfl))
   (Ff (mG (pv 2) (Hu (Ja G_L_next hr1 rfl m_L_next k_L_next b_L_next Gh (pv 0) Bs) (Lq (Ar (pv 3)) Di)) (Ar (pv 3)))))
   (Ff (Gw (dF (pv 2)))))
 case h =>
  (intro ds n R q_; obtain ⟨m,rfl,m0,m1,hn,hR⟩ := q_)
  refine ⟨rfl,?_⟩
  array_get_dec
  refine ⟨by omega,by omega,?_⟩
  refine nU (l:=Dd m.toNat) (g:=λi:Nat=>.int i) rfl (λi δ=>∃(T:List Int) (v3:DV),δ=⟨[.drw,.dat .sh (.int m),.dat .ow (.list (T.map An)),v3],n+i⟩/\T.Perm (Sw i)/\NP v3) ?_ ?_ ?_
  ·exact ⟨[],_,rfl,Hs _,Vm⟩
  ·(intro i a _ ha q_; obtain ⟨T,v3,rfl,pT,hv3⟩ := q_)
   obtain ⟨rfl,hi⟩:=qK ha
   have lT:T.length=a:=by rw[pT.length_eq]; unfold Sw; rw[Ab,Dt]
   array_get_dec
   refine ⟨rfl,by omega,λr1=>?_⟩
   have b1:=Up r1 (b:=(a:Int)+1) (by omega)
   array_get_dec
   refine ⟨by omega,by rw[Ab]; omega,by omega,by omega,?_⟩
   refine ⟨Kb T (r1 % ((a:Int)+1)).toNat (a:Int),.dat .sh (.int a),yF (by rw[mX]) rfl,?_,Ej⟩
   rw[nH]
   exact (gX T _ _).trans (((Gf (l₁:=[(a:Int)]) (l₂:=T))).trans (pT.append_right _))
  ·(intro _ q_; obtain ⟨T,v3,rfl,pT,hv3⟩ := q_)
   rw[Dt] at pT ⊢
   array_get_dec
   exact ⟨by omega,hR T ⟨by rw[pT.length_eq]; unfold Sw; rw[Ab,Dt],pT⟩⟩
theorem Tr:FnScope ["_law_holes_here", "_law_face", "_law_values_here", "_law_due", "_law_turned_here", "_law_other"] ["_law_holes_here", "_law_face", "_law_values_here", "_law_due", "_law_turned_here"] (Bn Ii):=⟨rfl,rfl,rfl,by decide +kernel,rfl,by decide +kernel,by decide +kernel⟩
theorem Sx{f f_often  : Addr}{fd d_often:Bz}(F:Fun K "_law_by_values" "_law_by_values" Ii f fd)(G_often:FnOk P w K mg base Gd 5 f_often d_often ["holes", "reading", "values"] (Po K (Uy)))(b_often:Binds K d_often ["holes", "reading", "values"] [])(k_often:PySem.W.keepIn K (.ref f_often)=true)(m_often:mg "often" = some (.ref f_often))(mz_min:mg "min" = none):FnOk P w K mg base Gd 6 f fd ["_law_holes_here", "_law_face", "_law_values_here", "_law_due", "_law_turned_here"] (Po K (yR)):=by
 refine' Lh (k:=5) F Tr (λcdv A outer s H E hr=>?hb) ?h
 case hb =>
  have hr1:Room 1 _:=hr.mono (by decide)
  have hr2:Room 2 _:=hr.mono (by decide)
  have hr3:Room 3 _:=hr.mono (by decide)
  have hr4:Room 4 _:=hr.mono (by decide)
  have hr5:Room 5 _:=hr.mono (by decide)
  have hu64:=hr.units
  have CS1:∀{scope:Scope} (h:scope={ kind:=.function,names:=[(".0",.local),("_law_one",.local),("min",.globalImplicit),("_law_turned_here",.free),("_law_values_here",.free)],isGenerator:=false,isCoroutine:=false }),
    CompScope (Jz Gd P w K mg base ["_law_holes_here", "_law_face", "_law_values_here", "_law_due", "_law_turned_here", "_law_other"] "_law_by_values" (Bn Ii) f cdv A outer s H E).nox scope [("_law_values_here",s.heap.objs.size+1),("_law_turned_here",s.heap.objs.size+2)] "_law_one" ["_law_turned_here", "_law_values_here"] [4,2]:=by
   rintro scope rfl
   refine ⟨by rfl,.inl (by decide +kernel),by rfl,by decide +kernel,.inl rfl,λy c h=>?_,by rfl,by decide +kernel,rfl,λk y j e1 e2=>?_⟩
   ·have z:=Dn h
    simp only[Aj,Ba,or_false,Ds] at z
    rcases z with ⟨rfl,rfl⟩ | ⟨rfl,rfl⟩ <;> rfl
   ·match k,e1,e2 with
    | 0,e1,e2=>cases e1; cases e2; exact ⟨rfl,rfl,by first | exact .inl rfl | exact .inr rfl⟩
    | 1,e1,e2=>cases e1; cases e2; exact ⟨rfl,rfl,by first | exact .inl rfl | exact .inr rfl⟩
    | k+2,e1,e2=>cases e1
  exact Cs (Th (o:=false) (i0:=5) Tr.nd rfl rfl (CS1 rfl) rfl (iO (Ar (pv 1))) (λ_ _ _=>Gv) (λ_ _ _=>Kh (dH (Ar (pv 1)) (Jq (Ao (dU (Ar (pv 0))) Bs))) (Hx (aX rfl) lG rfl mz_min (by decide +kernel) (Ao (Ar (pv 0)) (Ao (Ar (pv 2)) Bs)))))
   (Ff (Gw (Yt hu64 (Fs G_often hr5 rfl m_often k_often b_often Gh (Ao (Ar (pv 0)) (Ao (Ar (pv 5)) (Ao (Ar (pv 2)) Bs)))) (Ar (pv 3)))))
 case h =>
  (intro ds R q_; obtain ⟨h,L,f,g,vs,T,rfl,d,pm,hR⟩ := q_)
  refine ⟨rfl,?_⟩
  have h0:=d.h0
  have h1:=d.h1
  have v0:=d.v0
  have v1:=d.v1
  have ev:((vs.toNat:Nat):Int)=vs:=by omega
  obtain ⟨l1,l2⟩:=Jj (n:=h.toNat) (by omega) d.pe
  array_get_dec
  refine Ng (l:=L) (g:=λw=>.int (f w)) (by rw[Br]; rfl) (λw=>.int (nZ T vs (f w))) (λw hw yes no hy=>?_) ?_
  ·have n0:=d.nn w hw
   have lT:=pm.len
   array_get_dec
   refine ⟨by rw[Ab]; omega,.int (nZ T vs (f w)),?_,rfl,hy⟩
   by_cases q:f w<vs
   ·rw[if_neg (by omega)]
    obtain ⟨_,_,e⟩:=pm.ran n0 (by rw[ev]; exact q)
    have:=Qz (l:=T.map An++[.int (f w)]) (i:=(f w).toNat) (a:=.int (Zr T (f w))) (by rw[Gm (by rw[Ab]; omega),Az,e]; rfl)
    rw[Me n0] at this
    unfold nZ
    rw[if_pos q]
    exact this
   ·have e2:(if vs<f w then vs else f w)=(vs.toNat:Int):=by
     by_cases z:vs<f w
     ·rw[if_pos z,ev]
     ·rw[if_neg z,ev]; omega
    rw[e2]
    unfold nZ
    rw[if_neg q]
    refine Qz ?_
    rw[Ey (by rw[Ab]; omega),Ab,lT,Nat.sub_self]
    rfl
  ·refine ⟨h,L,λw=>nZ T vs (f w),vs,by rw[Br]; rfl,by omega,by omega,d.pe,d.po,v0,v1,λg' hg'=>?_⟩
   have of:=cV (n:=vs.toNat) pm d.nn (by rw[ev]; exact d.of)
   rw[ev] at of
   rw[Qa (λu hu=>(l2 u hu).1) (λu hu=>by have:=(l2 u hu).2; omega) hg' of]
   array_get_dec
   exact hR
theorem Pl:FnScope ["_law_holes_here", "_law_face", "_law_values_here", "_law_due", "_law_other", "_law_told"] ["_law_holes_here", "_law_face", "_law_values_here", "_law_due"] (Bn Fj):=⟨rfl,rfl,rfl,by decide +kernel,rfl,by decide +kernel,by decide +kernel⟩
theorem Pi{f f_often  : Addr}{fd d_often:Bz}(F:Fun K "_law_by_one_value" "_law_by_one_value" Fj f fd)(G_often:FnOk P w K mg base Gd 5 f_often d_often ["holes", "reading", "values"] (Po K (Uy)))(b_often:Binds K d_often ["holes", "reading", "values"] [])(k_often:PySem.W.keepIn K (.ref f_often)=true)(m_often:mg "often" = some (.ref f_often))(mz_int:mg "int" = none)(mz_enumerate:mg "enumerate" = none):FnOk P w K mg base Gd 6 f fd ["_law_holes_here", "_law_face", "_law_values_here", "_law_due"] (Po K (xK)):=by
 refine' Lh (k:=5) F Pl (λcdv A outer s H E hr=>?hb) ?h
 case hb =>
  have hr1:Room 1 _:=hr.mono (by decide)
  have hr2:Room 2 _:=hr.mono (by decide)
  have hr3:Room 3 _:=hr.mono (by decide)
  have hr4:Room 4 _:=hr.mono (by decide)
  have hr5:Room 5 _:=hr.mono (by decide)
  have hu64:=hr.units
  have CS1:∀{scope:Scope} (h:scope={ kind:=.function,names:=[(".0",.local),("_law_one",.local),("int",.globalImplicit),("_law_values_here",.free)],isGenerator:=false,isCoroutine:=false }),
    CompScope (Jz Gd P w K mg base ["_law_holes_here", "_law_face", "_law_values_here", "_law_due", "_law_other", "_law_told"] "_law_by_one_value" (Bn Fj) f cdv A outer s H E).nox scope [("_law_values_here",s.heap.objs.size+1)] "_law_one" ["_law_values_here"] [2]:=by
   rintro scope rfl
   refine ⟨by rfl,.inl (by decide +kernel),by rfl,by decide +kernel,.inl rfl,λy c h=>?_,by rfl,by decide +kernel,rfl,λk y j e1 e2=>?_⟩
   ·have z:=Dn h
    simp only[Aj,Ba,or_false,Ds] at z
    obtain ⟨rfl,rfl⟩:=z; rfl
   ·match k,e1,e2 with
    | 0,e1,e2=>cases e1; cases e2; exact ⟨rfl,rfl,by first | exact .inl rfl | exact .inr rfl⟩
    | k+1,e1,e2=>cases e1
  have CS2:∀{scope:Scope} (h:scope={ kind:=.function,names:=[(".0",.local),("_law_k",.local),("_law_one",.local),("_law_due",.free)],isGenerator:=false,isCoroutine:=false }),
    CompScope (Jz Gd P w K mg base ["_law_holes_here", "_law_face", "_law_values_here", "_law_due", "_law_other", "_law_told"] "_law_by_one_value" (Bn Fj) f cdv A outer s H E).nox scope [("_law_due",s.heap.objs.size+2)] "_law_k" ["_law_due"] [3]:=by
   rintro scope rfl
   refine ⟨by rfl,.inl (by decide +kernel),by rfl,by decide +kernel,.inl rfl,λy c h=>?_,by rfl,by decide +kernel,rfl,λk y j e1 e2=>?_⟩
   ·have z:=Dn h
    simp only[Aj,Ba,or_false,Ds] at z
    obtain ⟨rfl,rfl⟩:=z; rfl
   ·match k,e1,e2 with
    | 0,e1,e2=>cases e1; cases e2; exact ⟨rfl,rfl,by first | exact .inl rfl | exact .inr rfl⟩
    | k+1,e1,e2=>cases e1
  exact Cs (Th (o:=false) (i0:=4) Pl.nd rfl rfl (CS1 rfl) rfl (iO (Ar (pv 1))) (λ_ _ _=>Gv) (λ_ _ _=>Kh (Jq (Ao (dU (Ar (pv 0))) (Ao Di Bs))) (Ki Ql dS rfl mz_int (by decide +kernel) (Ao (Yt hu64 (Ar (pv 0)) (iY (Ar (pv 1)) Di)) Bs))))
   (Cs (Fl (i:=5) Pl.nd rfl (Ea rfl) (Fs G_often hr5 rfl m_often k_often b_often Gh (Ao (Ar (pv 0)) (Ao (Ar (pv 4)) (Ao (iY (Ar (pv 2)) Di) Bs)))))
   (Ff (Gw (Yt hu64 (fK (CS2 rfl) (.inl rfl) (by decide +kernel) rfl (kW rfl mz_enumerate (Ao (Ar (pv 5)) Bs)) (λ_ _ _=>Wu (qX (Ar (pv 1)) (Kh (Ar (pv 2)) (Ar (pv 0))))) (λ_ _ _=>Ar (pv 0))) (Jq Bs)))))
 case h =>
  (intro ds R q_; obtain ⟨h,L,f,g,vs,rfl,d,v3,hR⟩ := q_)
  refine ⟨rfl,?_⟩
  have h0:=d.h0
  have h1:=d.h1
  have v0:=d.v0
  have v1:=d.v1
  obtain ⟨l1,l2⟩:=Jj (n:=h.toNat) (by omega) d.pe
  array_get_dec
  refine Ng (l:=L) (g:=λw=>.int (f w)) (by rw[Br]; rfl) (λw=>.int (if f w=vs - 1 then 0 else f w)) (λw hw yes no hy=>?_) ?_
  ·array_get_dec
   refine ⟨.int (if f w=vs - 1 then 0 else f w),?_,rfl,hy⟩
   by_cases e:f w=vs - 1
   ·rw[if_pos e,decide_eq_true e]; rfl
   ·rw[if_neg e,decide_eq_false e]; rfl
  ·array_get_dec
   refine ⟨h,L,λw=>if f w=vs - 1 then 0 else f w,vs - 1,by rw[Br]; rfl,by omega,by omega,d.pe,d.po,by omega,by omega,λg' hg'=>?_⟩
   have le:=eU (λu hu=>(l2 u hu).1) (λu hu=>by have:=(l2 u hu).2; omega) d.of hg'
   array_get_dec
   refine rW (l:=L.zipIdx) (g1:=λp=>.int p.2) (g2:=λp=>.int (g' p.1)) (by rw[bS,bS,Br,Br]; rfl) (λ_=>false) (λp=>.int p.2) (λp hp yes no hy hn=>?_) ?_
   ·have ep:=Zy.mp hp
    have lp:=le p.1 (Au ep)
    array_get_dec
    refine ⟨.int (g p.1),Qz (by rw[Az,Az,ep]; rfl),?_⟩
    array_get_dec
    rw[decide_eq_false (show ¬ g' p.1<g p.1 by omega)]
    array_get_dec
    exact hn rfl
   ·rw[show (L.zipIdx.filter λ_=>false)=[] by simp]
    array_get_dec
    exact hR
theorem Qv:FnScope ["_law_holes_here", "_law_words_here", "_law_face", "_law_values_here", "_law_due", "_law_shown", "_law_before", "_law_wide", "_law_less"] ["_law_holes_here", "_law_words_here", "_law_face", "_law_values_here", "_law_due"] (Bn Em):=⟨rfl,rfl,rfl,by decide +kernel,rfl,by decide +kernel,by decide +kernel⟩
theorem Qw{f f_often f_L_words  : Addr}{fd d_often d_L_words:Bz}(F:Fun K "_law_by_one_more" "_law_by_one_more" Em f fd)(G_often:FnOk P w K mg base Gd 5 f_often d_often ["holes", "reading", "values"] (Po K (Uy)))(b_often:Binds K d_often ["holes", "reading", "values"] [])(k_often:PySem.W.keepIn K (.ref f_often)=true)(m_often:mg "often" = some (.ref f_often))(G_L_words:FnOk P w K mg base Gd 1 f_L_words d_L_words ["_law_holes_here"] (Po K Qi))(b_L_words:Binds K d_L_words ["_law_holes_here"] [])(k_L_words:PySem.W.keepIn K (.ref f_L_words)=true)(m_L_words:mg "_law_words" = some (.ref f_L_words))(mz_dict:mg "dict" = none)(mz_zip:mg "zip" = none)(mz_tuple:mg "tuple" = none):FnOk P w K mg base Gd 6 f fd ["_law_holes_here", "_law_words_here", "_law_face", "_law_values_here", "_law_due"] (Po K (xH)):=by
 refine' Lh (k:=5) F Qv (λcdv A outer s H E hr=>?hb) ?h
 case hb =>
  have hr1:Room 1 _:=hr.mono (by decide)
  have hr2:Room 2 _:=hr.mono (by decide)
  have hr3:Room 3 _:=hr.mono (by decide)
  have hr4:Room 4 _:=hr.mono (by decide)
  have hr5:Room 5 _:=hr.mono (by decide)
  have hu64:=hr.units
  have CS1:∀{scope:Scope} (h:scope={ kind:=.function,names:=[(".0",.local),("_law_word",.local),("tuple",.globalImplicit),("_law_holes_here",.free)],isGenerator:=false,isCoroutine:=false }),
    CompScope (Jz Gd P w K mg base ["_law_holes_here", "_law_words_here", "_law_face", "_law_values_here", "_law_due", "_law_shown", "_law_before", "_law_wide", "_law_less"] "_law_by_one_more" (Bn Em) f cdv A outer s H E).nox scope [("_law_holes_here",s.heap.objs.size+1)] "_law_word" ["_law_holes_here"] [0]:=by
   rintro scope rfl
   refine ⟨by rfl,.inl (by decide +kernel),by rfl,by decide +kernel,.inl rfl,λy c h=>?_,by rfl,by decide +kernel,rfl,λk y j e1 e2=>?_⟩
   ·have z:=Dn h
    simp only[Aj,Ba,or_false,Ds] at z
    obtain ⟨rfl,rfl⟩:=z; rfl
   ·match k,e1,e2 with
    | 0,e1,e2=>cases e1; cases e2; exact ⟨rfl,rfl,by first | exact .inl rfl | exact .inr rfl⟩
    | k+1,e1,e2=>cases e1
  have CS2:∀{scope:Scope} (h:scope={ kind:=.function,names:=[(".0",.local),("_law_place",.local),("_law_holes_here",.free)],isGenerator:=false,isCoroutine:=false }) (fp0:List Addr) (s0:Af) (H0:Hp),
    CompScope (Es (Jz Gd P w K mg base ["_law_holes_here", "_law_words_here", "_law_face", "_law_values_here", "_law_due", "_law_shown", "_law_before", "_law_wide", "_law_less"] "_law_by_one_more" (Bn Em) f cdv A outer s H E).nox { kind:=.function,names:=[(".0",.local),("_law_word",.local),("tuple",.globalImplicit),("_law_holes_here",.free)],isGenerator:=false,isCoroutine:=false } [("_law_holes_here",s.heap.objs.size+1)] ["_law_word", "_law_holes_here"] fp0 s0 H0) scope [("_law_holes_here",s.heap.objs.size+1)] "_law_place" ["_law_holes_here"] [1]:=by
   rintro scope rfl fp0 s0 H0
   refine ⟨by rfl,.inl (by decide +kernel),by rfl,by decide +kernel,.inl rfl,λy c h=>?_,by rfl,by decide +kernel,rfl,λk y j e1 e2=>?_⟩
   ·have z:=Dn h
    simp only[Aj,Ba,or_false,Ds] at z
    obtain ⟨rfl,rfl⟩:=z; rfl
   ·match k,e1,e2 with
    | 0,e1,e2=>cases e1; cases e2; exact ⟨rfl,rfl,by first | exact .inl rfl | exact .inr rfl⟩
    | k+1,e1,e2=>cases e1
  have CS3:∀{scope:Scope} (h:scope={ kind:=.function,names:=[(".0",.local),("_law_word",.local),("_law_shown",.free)],isGenerator:=false,isCoroutine:=false }),
    CompScope (Jz Gd P w K mg base ["_law_holes_here", "_law_words_here", "_law_face", "_law_values_here", "_law_due", "_law_shown", "_law_before", "_law_wide", "_law_less"] "_law_by_one_more" (Bn Em) f cdv A outer s H E).nox scope [("_law_shown",s.heap.objs.size+2)] "_law_word" ["_law_shown"] [5]:=by
   rintro scope rfl
   refine ⟨by rfl,.inl (by decide +kernel),by rfl,by decide +kernel,.inl rfl,λy c h=>?_,by rfl,by decide +kernel,rfl,λk y j e1 e2=>?_⟩
   ·have z:=Dn h
    simp only[Aj,Ba,or_false,Ds] at z
    obtain ⟨rfl,rfl⟩:=z; rfl
   ·match k,e1,e2 with
    | 0,e1,e2=>cases e1; cases e2; exact ⟨rfl,rfl,by first | exact .inl rfl | exact .inr rfl⟩
    | k+1,e1,e2=>cases e1
  have CS4:∀{scope:Scope} (h:scope={ kind:=.function,names:=[(".0",.local),("_law_word",.local),("_law_before",.free)],isGenerator:=false,isCoroutine:=false }),
    CompScope (Jz Gd P w K mg base ["_law_holes_here", "_law_words_here", "_law_face", "_law_values_here", "_law_due", "_law_shown", "_law_before", "_law_wide", "_law_less"] "_law_by_one_more" (Bn Em) f cdv A outer s H E).nox scope [("_law_before",s.heap.objs.size+3)] "_law_word" ["_law_before"] [6]:=by
   rintro scope rfl
   refine ⟨by rfl,.inl (by decide +kernel),by rfl,by decide +kernel,.inl rfl,λy c h=>?_,by rfl,by decide +kernel,rfl,λk y j e1 e2=>?_⟩
   ·have z:=Dn h
    simp only[Aj,Ba,or_false,Ds] at z
    obtain ⟨rfl,rfl⟩:=z; rfl
   ·match k,e1,e2 with
    | 0,e1,e2=>cases e1; cases e2; exact ⟨rfl,rfl,by first | exact .inl rfl | exact .inr rfl⟩
    | k+1,e1,e2=>cases e1
  exact Cs (Fl (i:=5) Qv.nd rfl (On rfl) (Sr hu64 rfl mz_dict rfl mz_zip rfl (Ao (Ar (pv 1)) (Ao (Ar (pv 2)) Bs))))
   (Cs (Fl (i:=6) Qv.nd rfl (On rfl) (Sr hu64 rfl mz_dict rfl mz_zip rfl (Ao (Ar (pv 1)) (Ao (Ar (pv 4)) Bs))))
   (Cs (Fl (i:=7) Qv.nd rfl (Ea rfl) (Fs G_L_words hr1 rfl m_L_words k_L_words b_L_words Gh (Ao (Lq (Ar (pv 0)) Di) Bs)))
   (Cs (Th (o:=false) (i0:=8) Qv.nd rfl rfl (CS1 rfl) rfl (iO (Ar (pv 7))) (λ_ _ _=>Gv) (λ_ _ _=>Ki eQ (gS (i:=true)) rfl mz_tuple (by decide +kernel) (Ao (Kq (CS2 rfl _ _ _) rfl (M4 (Ar (pv 0))) (λ_ _ _=>Wu (qX (Ar (pv 0)) (Ar (pv 1)))) (λ_ _ _=>Ar (pv 0))) Bs)))
   (Ff (Gw (Yt hu64 (Fs G_often hr5 rfl m_often k_often b_often Gh (Ao (Lq (Ar (pv 0)) Di) (Ao (Kq (CS3 rfl) rfl (iO (Ar (pv 8))) (λ_ _ _=>Gv) (λ_ _ _=>Qn hu64 (Ar (pv 1)) (Ar (pv 0)))) (Ao (Ar (pv 3)) Bs)))) (Kq (CS4 rfl) rfl (iO (Ar (pv 8))) (λ_ _ _=>Gv) (λ_ _ _=>Qn hu64 (Ar (pv 1)) (Ar (pv 0))))))))))
 case h =>
  (intro ds R q_; obtain ⟨h,L,f,g,vs,rfl,d,hR⟩ := q_)
  refine ⟨rfl,?_⟩
  have h0:=d.h0
  have h1:=d.h1
  have v0:=d.v0
  have v1:=d.v1
  have eh:((h.toNat:Nat):Int)=h:=by omega
  obtain ⟨l1,l2⟩:=Jj (n:=h.toNat) (by omega) d.pe
  have nd:=Mn d.pe
  have hm:=λw=>(Ut (w:=w) d.pe)
  have hz:Aq=16777216:=Ha
  array_get_dec
  refine ⟨by rw[Ab]; omega,L,rfl,?_⟩
  rw[Ti nd f]
  array_get_dec
  refine ⟨by rw[Ab]; omega,L,rfl,?_⟩
  rw[Ti nd g]
  array_get_dec
  refine ⟨h+1,rfl,by omega,by omega,λL2 pe2 po2=>?_⟩
  have eh2:(((h+1).toNat:Nat):Int)=h+1:=by omega
  have hm2:∀w,w∈L2↔Ec (h+1) w:=λw=>by rw[<- eh2]; exact Ut pe2
  have hmL:∀w,w∈L↔Ec h w:=λw=>by have:=hm w; rwa [eh] at this
  obtain ⟨m1,m2⟩:=Jj (n:=(h+1).toNat) (by omega) pe2
  have inL:∀w∈L2,Iz h w∈L:=λw hw=>(hmL _).mpr (Uv ((hm2 w).mp hw))
  array_get_dec
  refine Ng (l:=L2) (g:=Cn) rfl (λw=>Cn (Iz h w)) (λw hw yes no hy=>?_) ?_
  ·array_get_dec
   refine tX (l:=w) (g:=An) rfl (λp=>decide (p<h)) (λp=>.int p) (λp hp yes' no' hy' hn'=>?_) ?_
   ·array_get_dec
    refine bQ (λq=>?_) (λq=>?_)
    ·array_get_dec
     exact hy' (by simpa using q)
    ·exact hn' (by simpa using q)
   ·array_get_dec
    exact hy
  array_get_dec
  refine Ng (l:=L2) (g:=λw=>Cn (Iz h w)) rfl (λw=>.int (f (Iz h w))) (λw hw yes no hy=>?_) ?_
  ·array_get_dec
   refine ⟨_,Sq (inL w hw),?_⟩
   array_get_dec
   exact hy
  array_get_dec
  refine ⟨h+1,L2,λw=>f (Iz h w),vs,by rw[Br]; rfl,by omega,by omega,pe2,po2,v0,v1,λg' hg'=>?_⟩
  rw[Qa (λu hu=>(m2 u hu).1) (λu hu=>by have:=(m2 u hu).2; omega) hg' (jU hmL (by omega) hm2 d.of)]
  array_get_dec
  refine Ng (l:=L2) (g:=λw=>Cn (Iz h w)) rfl (λw=>.int (g (Iz h w))) (λw hw yes no hy=>?_) ?_
  ·array_get_dec
   refine ⟨_,Sq (inL w hw),?_⟩
   array_get_dec
   exact hy
  array_get_dec
  rw[show (L2.map λw=>An (g (Iz h w)))=(L2.map λw=>g (Iz h w)).map An by rw[Br]; rfl]
  array_get_dec
  exact hR
end
def vD(T:List Int)(L:List (List Int)):List (List Int×Ad):=L.map λu=>(Rm T u,Cn u)
theorem xA{T:List Int}{P:List (List Int)}{w:List Int}(h:∀u∈P,Rm T u≠Rm T w):Pc (vD T P) (Rm T w) (Cn w)=vD T (P++[w]):=by
 unfold Pc
 rw[if_neg]
 ·unfold vD
  rw[Bm]
  rfl
 ·intro z
  obtain ⟨p,hp,e⟩:=List.any_eq_true.mp z
  obtain ⟨u,hu,rfl⟩:=Bg.mp hp
  exact h u hu (by simpa using e)
theorem cG{T v:List Int}:∀{L:List (List Int)},v∈L->(∀u∈L,Rm T u=Rm T v->u=v)->Td (vD T L) (Rm T v)=some (Cn v)
 | u::L,hv,ij=>by
  unfold Td vD
  by_cases e:Rm T u=Rm T v
  ·rw[Av,List.find?_cons_of_pos (by simpa using e),ij u Aa e]
   rfl
  ·rw[Av,List.find?_cons_of_neg (by simpa using e)]
   rcases Aj.mp hv with rfl | hv
   ·exact absurd rfl e
   ·exact cG hv λw hw=>ij w (Ag _ hw)
section
variable{P:Bu}{w:World}{K:PySem.W.Frag}{mg:Str->Option Value}{base:Heap}
theorem Uz:FnScope ["_law_holes_here", "_law_words_here", "_law_face", "_law_values_here", "_law_due", "_law_turned_here", "_law_shown", "_law_known", "_law_word", "_law_told", "_law_before"] ["_law_holes_here", "_law_words_here", "_law_face", "_law_values_here", "_law_due", "_law_turned_here"] (Bn Gc):=⟨rfl,rfl,rfl,by decide +kernel,rfl,by decide +kernel,by decide +kernel⟩
theorem Um{f f_often  : Addr}{fd d_often:Bz}(F:Fun K "_law_by_holes" "_law_by_holes" Gc f fd)(G_often:FnOk P w K mg base Gd 5 f_often d_often ["holes", "reading", "values"] (Po K (Uy)))(b_often:Binds K d_often ["holes", "reading", "values"] [])(k_often:PySem.W.keepIn K (.ref f_often)=true)(m_often:mg "often" = some (.ref f_often))(mz_dict:mg "dict" = none)(mz_zip:mg "zip" = none)(mz_sorted:mg "sorted" = none)(mz_tuple:mg "tuple" = none):FnOk P w K mg base Gd 6 f fd ["_law_holes_here", "_law_words_here", "_law_face", "_law_values_here", "_law_due", "_law_turned_here"] (Po K (xS)):=by
 refine' Lh (k:=5) F Uz (λcdv A outer s H E hr=>?hb) ?h
 case hb =>
  have hr1:Room 1 _:=hr.mono (by decide)
  have hr2:Room 2 _:=hr.mono (by decide)
  have hr3:Room 3 _:=hr.mono (by decide)
  have hr4:Room 4 _:=hr.mono (by decide)
  have hr5:Room 5 _:=hr.mono (by decide)
  have hu64:=hr.units
  have CS1:∀{scope:Scope} (h:scope={ kind:=.function,names:=[(".0",.local),("_law_place",.local),("_law_turned_here",.free)],isGenerator:=false,isCoroutine:=false }),
    CompScope (Jz Gd P w K mg base ["_law_holes_here", "_law_words_here", "_law_face", "_law_values_here", "_law_due", "_law_turned_here", "_law_shown", "_law_known", "_law_word", "_law_told", "_law_before"] "_law_by_holes" (Bn Gc) f cdv A outer s H E).nox scope [("_law_turned_here",s.heap.objs.size+1)] "_law_place" ["_law_turned_here"] [5]:=by
   rintro scope rfl
   refine ⟨by rfl,.inl (by decide +kernel),by rfl,by decide +kernel,.inl rfl,λy c h=>?_,by rfl,by decide +kernel,rfl,λk y j e1 e2=>?_⟩
   ·have z:=Dn h
    simp only[Aj,Ba,or_false,Ds] at z
    obtain ⟨rfl,rfl⟩:=z; rfl
   ·match k,e1,e2 with
    | 0,e1,e2=>cases e1; cases e2; exact ⟨rfl,rfl,by first | exact .inl rfl | exact .inr rfl⟩
    | k+1,e1,e2=>cases e1
  have CS2:∀{scope:Scope} (h:scope={ kind:=.function,names:=[(".0",.local),("_law_word",.local),("_law_known",.free),("_law_shown",.free)],isGenerator:=false,isCoroutine:=false }),
    CompScope (Jz Gd P w K mg base ["_law_holes_here", "_law_words_here", "_law_face", "_law_values_here", "_law_due", "_law_turned_here", "_law_shown", "_law_known", "_law_word", "_law_told", "_law_before"] "_law_by_holes" (Bn Gc) f cdv A outer s H E).nox scope [("_law_shown",s.heap.objs.size+2),("_law_known",s.heap.objs.size+3)] "_law_word" ["_law_known", "_law_shown"] [7,6]:=by
   rintro scope rfl
   refine ⟨by rfl,.inl (by decide +kernel),by rfl,by decide +kernel,.inl rfl,λy c h=>?_,by rfl,by decide +kernel,rfl,λk y j e1 e2=>?_⟩
   ·have z:=Dn h
    simp only[Aj,Ba,or_false,Ds] at z
    rcases z with ⟨rfl,rfl⟩ | ⟨rfl,rfl⟩ <;> rfl
   ·match k,e1,e2 with
    | 0,e1,e2=>cases e1; cases e2; exact ⟨rfl,rfl,by first | exact .inl rfl | exact .inr rfl⟩
    | 1,e1,e2=>cases e1; cases e2; exact ⟨rfl,rfl,by first | exact .inl rfl | exact .inr rfl⟩
    | k+2,e1,e2=>cases e1
  have CS3:∀{scope:Scope} (h:scope={ kind:=.function,names:=[(".0",.local),("_law_word",.local),("_law_before",.free),("_law_known",.free)],isGenerator:=false,isCoroutine:=false }),
    CompScope (Jz Gd P w K mg base ["_law_holes_here", "_law_words_here", "_law_face", "_law_values_here", "_law_due", "_law_turned_here", "_law_shown", "_law_known", "_law_word", "_law_told", "_law_before"] "_law_by_holes" (Bn Gc) f cdv A outer s H E).nox scope [("_law_known",s.heap.objs.size+3),("_law_before",s.heap.objs.size+4)] "_law_word" ["_law_before", "_law_known"] [10,7]:=by
   rintro scope rfl
   refine ⟨by rfl,.inl (by decide +kernel),by rfl,by decide +kernel,.inl rfl,λy c h=>?_,by rfl,by decide +kernel,rfl,λk y j e1 e2=>?_⟩
   ·have z:=Dn h
    simp only[Aj,Ba,or_false,Ds] at z
    rcases z with ⟨rfl,rfl⟩ | ⟨rfl,rfl⟩ <;> rfl
   ·match k,e1,e2 with
    | 0,e1,e2=>cases e1; cases e2; exact ⟨rfl,rfl,by first | exact .inl rfl | exact .inr rfl⟩
    | 1,e1,e2=>cases e1; cases e2; exact ⟨rfl,rfl,by first | exact .inl rfl | exact .inr rfl⟩
    | k+2,e1,e2=>cases e1
  exact Cs (Fl (i:=6) Uz.nd rfl (On rfl) (Sr hu64 rfl mz_dict rfl mz_zip rfl (Ao (Ar (pv 1)) (Ao (Ar (pv 2)) Bs))))
   (Cs (Wp (i:=7) Uz.nd rfl (On rfl) uT)
   (Cs (Va Fz rfl (iO (Ar (pv 1))) (Qg (i:=8) Uz.nd rfl (Ea rfl))
   (Ff (vB hu64 (pv 7) (Ki eQ (gS (i:=true)) rfl mz_tuple (by decide +kernel) (Ao (Hx cP sV rfl mz_sorted (by decide +kernel) (Ao (Kq (CS1 rfl) rfl (M4 (Ar (pv 8))) (λ_ _ _=>Gv) (λ_ _ _=>Kh (Ar (pv 1)) (Ar (pv 0)))) Bs)) Bs)) (Ar (pv 8)))))
   (Cs (Fl (i:=9) Uz.nd rfl (Ea rfl) (Fs G_often hr5 rfl m_often k_often b_often Gh (Ao (Ar (pv 0)) (Ao (Kq (CS2 rfl) rfl (iO (Ar (pv 1))) (λ_ _ _=>Gv) (λ_ _ _=>Qn hu64 (Ar (pv 2)) (Qn hu64 (Ar (pv 1)) (Ar (pv 0))))) (Ao (Ar (pv 3)) Bs)))))
   (Cs (Fl (i:=10) Uz.nd rfl (On rfl) (Sr hu64 rfl mz_dict rfl mz_zip rfl (Ao (Ar (pv 1)) (Ao (Ar (pv 4)) Bs))))
   (Ff (Gw (Yt hu64 (Ar (pv 9)) (Kq (CS3 rfl) rfl (iO (Ar (pv 1))) (λ_ _ _=>Gv) (λ_ _ _=>Qn hu64 (Ar (pv 1)) (Qn hu64 (Ar (pv 2)) (Ar (pv 0))))))))))))
 case h =>
  (intro ds R q_; obtain ⟨h,L,f,g,vs,T,rfl,d,pm,hR⟩ := q_)
  refine ⟨rfl,?_⟩
  have h0:=d.h0
  have h1:=d.h1
  have v0:=d.v0
  have v1:=d.v1
  have eh:((h.toNat:Nat):Int)=h:=by omega
  obtain ⟨l1,l2⟩:=Jj (n:=h.toNat) (by omega) d.pe
  have nd:=Mn d.pe
  have hm:=λw=>(Ut (w:=w) d.pe)
  have hz:Aq=16777216:=Ha
  have ij:∀u∈L,∀v∈L,Rm T u=Rm T v->u=v:=λu hu v hv e=>pm.wordInj ((hm u).mp hu) ((hm v).mp hv) e
  have comp1:∀c:List Int,Ec (h.toNat:Int) c->∀i∈c,Sv (T.map An) i=some (.int (Zr T i)):=λc hc i hi=>by
   have r:=hc.2 i hi
   obtain ⟨_,_,e⟩:=pm.ran r.1 r.2
   have:=Qz (l:=T.map An) (i:=i.toNat) (a:=.int (Zr T i)) (by rw[Az,e]; rfl)
   rwa [Me r.1] at this
  array_get_dec
  refine ⟨by rw[Ab]; omega,L,rfl,?_⟩
  rw[Ti nd f]
  array_get_dec
  refine nU (l:=L) (g:=Cn) rfl (λi δ=>∃v8:DV,δ=⟨[.dat .sh (.int h),.dat .sh (.list (L.map Cn)),.dat .sh (.list ((L.map f).map An)),.dat .sh (.int vs),.dat .sh (.list ((L.map g).map An)),.dat .sh (.list (T.map An)),.dat .sh (.dict (Ua (mZ L f))),.dat .ow (.dict (Ua (vD T (L.take i)))),v8,.un,.un],0⟩/\NP v8) ?_ ?_ ?_
  ·exact ⟨_,rfl,Vm⟩
  ·(intro i w _ hw q_; obtain ⟨v8,rfl,hv8⟩ := q_)
   have wL:=Au hw
   have hi:=(Ak.mp hw).1
   have rc:=(hm w).mp wL
   have lc:=(l2 w wL).2
   array_get_dec
   refine Ng (l:=w) (g:=An) rfl (λi=>.int (Zr T i)) (λi hi' yes' no' hy'=>?_) ?_
   ·array_get_dec
    exact ⟨_,comp1 w rc i hi',rfl,hy'⟩
   array_get_dec
   refine ⟨w.map (Zr T),by rw[Br]; rfl,by rw[Ab]; omega,?_⟩
   array_get_dec
   have ne:∀u∈L.take i,Rm T u≠Rm T w:=λu hu e=>by
    obtain ⟨j,hj⟩:=El.mp hu
    have hj1:j<i:=by
     have:=(Ak.mp hj).1
     rw[Cp] at this
     omega
    rw[Dl hj1] at hj
    have hj2:=(Ak.mp hj).1
    have e2:=ij u (Au hj) w wL e
    have:=Dg.mp nd j i hj2 hi hj1
    rw[Am hj2] at hj
    rw[Am hi] at hw
    exact this (by rw[Bj hj,Bj hw,e2])
   have e9:Pc (vD T (L.take i)) (Vo (w.map (Zr T))) (Cn w)=vD T (L.take (i+1)):=by
    rw[Nk,hw]
    exact xA ne
   rw[e9]
   exact ⟨by unfold vD; rw[Ab,Cp]; omega,_,rfl,Ej⟩
  ·(intro _ q_; obtain ⟨v8,rfl,hv8⟩ := q_)
   rw[Ft]
   obtain ⟨kf,hkf⟩ : ∃kf:List Int->List Int,∀u∈L,kf (Rm T u)=u:=by
    refine ⟨λw=>(L.find? λu=>decide (Rm T u=w)).getD [],λu hu=>?_⟩
    show (L.find? λv=>decide (Rm T v=Rm T u)).getD []=u
    cases q:L.find? λv=>decide (Rm T v=Rm T u) with
    | none=>exact absurd (List.find?_eq_none.mp q u hu) (by simp)
    | some v =>
     have:=Qt q
     exact ij v (Jh q) u hu (by simpa using this)
   array_get_dec
   refine Ng (l:=L) (g:=Cn) rfl (λw=>.int (f (kf w))) (λw hw yes no hy=>?_) ?_
   ·obtain ⟨w0,r0,rfl⟩:=pm.back ((hm w).mp hw)
    have w0L:=(hm w0).mpr r0
    array_get_dec
    refine ⟨_,cG w0L (λu hu e=>ij u hu w0 w0L e),?_⟩
    array_get_dec
    refine ⟨_,Sq w0L,?_⟩
    array_get_dec
    rw[hkf w0 w0L] at hy
    exact hy
   array_get_dec
   refine ⟨h,L,λw=>f (kf w),vs,by rw[Br]; rfl,by omega,by omega,d.pe,d.po,v0,v1,λg' hg'=>?_⟩
   rw[Qa (λu hu=>(l2 u hu).1) (λu hu=>by have:=(l2 u hu).2; omega) hg' (gI pm hm hkf d.of)]
   array_get_dec
   refine ⟨by rw[Ab]; omega,L,rfl,?_⟩
   rw[Ti nd g]
   array_get_dec
   refine Ng (l:=L) (g:=Cn) rfl (λw=>.int (g (kf w))) (λw hw yes no hy=>?_) ?_
   ·obtain ⟨w0,r0,rfl⟩:=pm.back ((hm w).mp hw)
    have w0L:=(hm w0).mpr r0
    array_get_dec
    refine ⟨_,cG w0L (λu hu e=>ij u hu w0 w0L e),?_⟩
    array_get_dec
    refine ⟨_,Sq w0L,?_⟩
    array_get_dec
    rw[hkf w0 w0L] at hy
    exact hy
   array_get_dec
   rw[show (L.map λw=>An (g (kf w)))=(L.map λw=>g (kf w)).map An by rw[Br]; rfl]
   array_get_dec
   exact hR
end
theorem Rc{n:Nat}{l:List DV}(h:l.length=n+1):∃v m,l=v::m/\m.length=n:=by
 cases l with
 | nil=>cases h
 | cons v m=>exact ⟨v,m,rfl,by simpa using h⟩
theorem zV{l:List DV}(h:l.length=10):∃v1 v2 v3 v4 v5 v6 v7 v8 v9 v10,l=[v1,v2,v3,v4,v5,v6,v7,v8,v9,v10]:=by
 obtain ⟨v1,l1,e1,h1⟩:=Rc h
 obtain ⟨v2,l2,e2,h2⟩:=Rc h1
 obtain ⟨v3,l3,e3,h3⟩:=Rc h2
 obtain ⟨v4,l4,e4,h4⟩:=Rc h3
 obtain ⟨v5,l5,e5,h5⟩:=Rc h4
 obtain ⟨v6,l6,e6,h6⟩:=Rc h5
 obtain ⟨v7,l7,e7,h7⟩:=Rc h6
 obtain ⟨v8,l8,e8,h8⟩:=Rc h7
 obtain ⟨v9,l9,e9,h9⟩:=Rc h8
 obtain ⟨v10,l10,e10,h10⟩:=Rc h9
 have e0:=Os.mp h10
 subst e0 e10 e9 e8 e7 e6 e5 e4 e3 e2 e1
 exact ⟨v1,v2,v3,v4,v5,v6,v7,v8,v9,v10,rfl⟩
section
variable{P:Bu}{w:World}{K:PySem.W.Frag}{mg:Str->Option Value}{base:Heap}
theorem i4:FnScope ["_law_script", "_law_cell", "_law_draws_here", "_law_holes_here", "_law_words_here", "_law_values_here", "_law_turned_here", "_law_places", "_law_face", "_law_due", "_law_shown"] ["_law_script"] (Bn Wz):=⟨rfl,rfl,rfl,by decide +kernel,rfl,by decide +kernel,by decide +kernel⟩
theorem zC{f f_often f_L_draws f_L_words f_L_holes f_L_reading f_L_values f_L_turned f_L_by_values f_L_by_holes f_L_by_one_more f_L_by_one_value  : Addr}{fd d_often d_L_draws d_L_words d_L_holes d_L_reading d_L_values d_L_turned d_L_by_values d_L_by_holes d_L_by_one_more d_L_by_one_value:Bz}(F:Fun K "law" "law" Wz f fd)(G_often:FnOk P w K mg base Gd 5 f_often d_often ["holes", "reading", "values"] (Po K (Uy)))(b_often:Binds K d_often ["holes", "reading", "values"] [])(k_often:PySem.W.keepIn K (.ref f_often)=true)(m_often:mg "often" = some (.ref f_often))(G_L_draws:FnOk P w K mg base Gd 1 f_L_draws d_L_draws ["_law_cell"] (Ss))(b_L_draws:Binds K d_L_draws ["_law_cell"] [])(k_L_draws:PySem.W.keepIn K (.ref f_L_draws)=true)(m_L_draws:mg "_law_draws" = some (.ref f_L_draws))(G_L_words:FnOk P w K mg base Gd 1 f_L_words d_L_words ["_law_holes_here"] (Po K Qi))(b_L_words:Binds K d_L_words ["_law_holes_here"] [])(k_L_words:PySem.W.keepIn K (.ref f_L_words)=true)(m_L_words:mg "_law_words" = some (.ref f_L_words))(G_L_holes:FnOk P w K mg base Gd 2 f_L_holes d_L_holes ["_law_draws_here"] (dR K (lR)))(b_L_holes:Binds K d_L_holes ["_law_draws_here"] [])(k_L_holes:PySem.W.keepIn K (.ref f_L_holes)=true)(m_L_holes:mg "_law_holes" = some (.ref f_L_holes))(G_L_reading:FnOk P w K mg base Gd 2 f_L_reading d_L_reading ["_law_draws_here", "_law_words_here", "_law_values_here"] (dR K (Xd)))(b_L_reading:Binds K d_L_reading ["_law_draws_here", "_law_words_here", "_law_values_here"] [])(k_L_reading:PySem.W.keepIn K (.ref f_L_reading)=true)(m_L_reading:mg "_law_reading" = some (.ref f_L_reading))(G_L_values:FnOk P w K mg base Gd 2 f_L_values d_L_values ["_law_draws_here"] (dR K (gG)))(b_L_values:Binds K d_L_values ["_law_draws_here"] [])(k_L_values:PySem.W.keepIn K (.ref f_L_values)=true)(m_L_values:mg "_law_values" = some (.ref f_L_values))(G_L_turned:FnOk P w K mg base Gd 2 f_L_turned d_L_turned ["_law_draws_here", "_law_many"] (dR K (kY)))(b_L_turned:Binds K d_L_turned ["_law_draws_here", "_law_many"] [])(k_L_turned:PySem.W.keepIn K (.ref f_L_turned)=true)(m_L_turned:mg "_law_turned" = some (.ref f_L_turned))(G_L_by_values:FnOk P w K mg base Gd 6 f_L_by_values d_L_by_values ["_law_holes_here", "_law_face", "_law_values_here", "_law_due", "_law_turned_here"] (Po K (yR)))(b_L_by_values:Binds K d_L_by_values ["_law_holes_here", "_law_face", "_law_values_here", "_law_due", "_law_turned_here"] [])(k_L_by_values:PySem.W.keepIn K (.ref f_L_by_values)=true)(m_L_by_values:mg "_law_by_values" = some (.ref f_L_by_values))(G_L_by_holes:FnOk P w K mg base Gd 6 f_L_by_holes d_L_by_holes ["_law_holes_here", "_law_words_here", "_law_face", "_law_values_here", "_law_due", "_law_turned_here"] (Po K (xS)))(b_L_by_holes:Binds K d_L_by_holes ["_law_holes_here", "_law_words_here", "_law_face", "_law_values_here", "_law_due", "_law_turned_here"] [])(k_L_by_holes:PySem.W.keepIn K (.ref f_L_by_holes)=true)(m_L_by_holes:mg "_law_by_holes" = some (.ref f_L_by_holes))(G_L_by_one_more:FnOk P w K mg base Gd 6 f_L_by_one_more d_L_by_one_more ["_law_holes_here", "_law_words_here", "_law_face", "_law_values_here", "_law_due"] (Po K (xH)))(b_L_by_one_more:Binds K d_L_by_one_more ["_law_holes_here", "_law_words_here", "_law_face", "_law_values_here", "_law_due"] [])(k_L_by_one_more:PySem.W.keepIn K (.ref f_L_by_one_more)=true)(m_L_by_one_more:mg "_law_by_one_more" = some (.ref f_L_by_one_more))(G_L_by_one_value:FnOk P w K mg base Gd 6 f_L_by_one_value d_L_by_one_value ["_law_holes_here", "_law_face", "_law_values_here", "_law_due"] (Po K (xK)))(b_L_by_one_value:Binds K d_L_by_one_value ["_law_holes_here", "_law_face", "_law_values_here", "_law_due"] [])(k_L_by_one_value:PySem.W.keepIn K (.ref f_L_by_one_value)=true)(m_L_by_one_value:mg "_law_by_one_value" = some (.ref f_L_by_one_value))(mz_min:mg "min" = none)(mz_list:mg "list" = none)(mz_int:mg "int" = none):FnOk P w K mg base Gd 7 f fd ["_law_script"] (spLawD K):=by
 refine' p9 (k:=6) F i4 (λcdv A outer s H E hr=>?hb) ?h
 case hb =>
  have hr1:Room 1 _:=hr.mono (by decide)
  have hr2:Room 2 _:=hr.mono (by decide)
  have hr3:Room 3 _:=hr.mono (by decide)
  have hr4:Room 4 _:=hr.mono (by decide)
  have hr5:Room 5 _:=hr.mono (by decide)
  have hr6:Room 6 _:=hr.mono (by decide)
  have hu64:=hr.units
  have CS1:∀{scope:Scope} (h:scope={ kind:=.function,names:=[(".0",.local),("_law_one",.local),("int",.globalImplicit),("_law_values_here",.free)],isGenerator:=false,isCoroutine:=false }),
    CompScope (Jz Gd P w K mg base ["_law_script", "_law_cell", "_law_draws_here", "_law_holes_here", "_law_words_here", "_law_values_here", "_law_turned_here", "_law_places", "_law_face", "_law_due", "_law_shown"] "law" (Bn Wz) f cdv A outer s H E).nox scope [("_law_values_here",s.heap.objs.size+1)] "_law_one" ["_law_values_here"] [5]:=by
   rintro scope rfl
   refine ⟨by rfl,.inl (by decide +kernel),by rfl,by decide +kernel,.inl rfl,λy c h=>?_,by rfl,by decide +kernel,rfl,λk y j e1 e2=>?_⟩
   ·have z:=Dn h
    simp only[Aj,Ba,or_false,Ds] at z
    obtain ⟨rfl,rfl⟩:=z; rfl
   ·match k,e1,e2 with
    | 0,e1,e2=>cases e1; cases e2; exact ⟨rfl,rfl,by first | exact .inl rfl | exact .inr rfl⟩
    | k+1,e1,e2=>cases e1
  have CS2:∀{scope:Scope} (h:scope={ kind:=.function,names:=[(".0",.local),("_law_word",.local)],isGenerator:=false,isCoroutine:=false }),
    CompScope (Jz Gd P w K mg base ["_law_script", "_law_cell", "_law_draws_here", "_law_holes_here", "_law_words_here", "_law_values_here", "_law_turned_here", "_law_places", "_law_face", "_law_due", "_law_shown"] "law" (Bn Wz) f cdv A outer s H E).nox scope [] "_law_word" [] []:=by
   rintro scope rfl
   exact Nd.compScope0 (by rfl) (by decide +kernel) (by rfl) (by decide +kernel) (by rfl) (by rfl)
  exact Cs (Va Fz rfl (iO (dH (pE (pv 0) sA (oU Di)) (Jq (Ao Di Bs)))) (Qg (i:=1) i4.nd rfl (Ea rfl))
   (Cs (Fl (i:=2) i4.nd rfl (Ea rfl) (qY G_L_draws hr1 rfl m_L_draws k_L_draws b_L_draws Gh (Ao (Ar (pv 1)) Bs)))
    (Cs (Fl (i:=3) i4.nd rfl (Ea rfl) (Hx (aX rfl) lG rfl mz_min (by decide +kernel) (Ao Di (Ao (Ja G_L_holes hr2 rfl m_L_holes k_L_holes b_L_holes Gh (pv 2) Bs) Bs))))
    (Cs (Fl (i:=4) i4.nd rfl (Ea rfl) (Fs G_L_words hr1 rfl m_L_words k_L_words b_L_words Gh (Ao (Ar (pv 3)) Bs)))
    (Cs (Fl (i:=5) i4.nd rfl (On rfl) (Ja G_L_values hr2 rfl m_L_values k_L_values b_L_values Gh (pv 2) Bs))
    (Cs (Fl (i:=6) i4.nd rfl (Ea rfl) (Ja G_L_turned hr2 rfl m_L_turned k_L_turned b_L_turned Gh (pv 2) (Ao (Ar (pv 5)) Bs)))
    (Cs (Fl (i:=7) i4.nd rfl (Ea rfl) (Ja G_L_turned hr2 rfl m_L_turned k_L_turned b_L_turned Gh (pv 2) (Ao (Ar (pv 3)) Bs)))
    (Cs (Fl (i:=8) i4.nd rfl (Ea rfl) (Ja G_L_reading hr2 rfl m_L_reading k_L_reading b_L_reading Gh (pv 2) (Ao (Ar (pv 4)) (Ao (Ar (pv 5)) Bs))))
    (Cs (Fl (i:=9) i4.nd rfl (Ea rfl) (Fs G_often hr5 rfl m_often k_often b_often Gh (Ao (Ar (pv 3)) (Ao (Ki wR (xD (i:=true)) rfl mz_list (by decide +kernel) (Ao (Ar (pv 8)) Bs)) (Ao (Ar (pv 5)) Bs)))))
    (Cs (eS (bR (Wy (Fs G_L_by_values hr6 rfl m_L_by_values k_L_by_values b_L_by_values Gh (Ao (Ar (pv 3)) (Ao (Ar (pv 8)) (Ao (Ar (pv 5)) (Ao (Ar (pv 9)) (Ao (Ar (pv 6)) Bs))))))))
    (Ff (Gw aM)) Xj)
    (Cs (eS (bR (Wy (Fs G_L_by_holes hr6 rfl m_L_by_holes k_L_by_holes b_L_by_holes Gh (Ao (Ar (pv 3)) (Ao (Ar (pv 4)) (Ao (Ar (pv 8)) (Ao (Ar (pv 5)) (Ao (Ar (pv 9)) (Ao (Ar (pv 7)) Bs)))))))))
    (Ff (Gw aM)) Xj)
    (Cs (eS (bR (Wy (Fs G_L_by_one_more hr6 rfl m_L_by_one_more k_L_by_one_more b_L_by_one_more Gh (Ao (Ar (pv 3)) (Ao (Ar (pv 4)) (Ao (Ar (pv 8)) (Ao (Ar (pv 5)) (Ao (Ar (pv 9)) Bs))))))))
    (Ff (Gw aM)) Xj)
    (Cs (Th (o:=false) (i0:=10) i4.nd rfl rfl (CS1 rfl) rfl (iO (Ar (pv 8))) (λ_ _ _=>Gv) (λ_ _ _=>Kh (Jq (Ao (dU (Ar (pv 0))) (Ao Di Bs))) (Ki Ql dS rfl mz_int (by decide +kernel) (Ao (K4 (Ar (pv 0)) (Ar (pv 1))) Bs))))
    (Cs (eS (w5 (iB (qX (Ar (pv 5)) Di) (cN (yT hu64 (Fs G_often hr5 rfl m_often k_often b_often Gh (Ao (Ar (pv 3)) (Ao (Ar (pv 10)) (Ao (Lq (Ar (pv 5)) Di) Bs)))) (Kq (CS2 rfl) rfl (iO (Ar (pv 4))) (λ_ _ _=>Gv) (λ_ _ _=>Di))))))
    (Ff (Gw aM)) Xj)
    (Ff (eS (w5 (iB (C6 (Ar (pv 5)) Di) (cN (bR (Wy (Fs G_L_by_one_value hr6 rfl m_L_by_one_value k_L_by_one_value b_L_by_one_value Gh (Ao (Ar (pv 3)) (Ao (Ar (pv 8)) (Ao (Ar (pv 5)) (Ao (Ar (pv 9)) Bs))))))))))
    (Ff (Gw aM)) Xj))))))))))))))))
   (Ff (Gw aM))
 case h =>
  intro ns h63
  array_get_dec
  have lc:(Us ns none (some 2)).length<=2:=A8 2
  refine ⟨by rw[Ab]; omega,?_⟩
  refine nU (l:=Us ns none (some 2)++[0]) (g:=An) (by rw[Bm]; rfl) (λi δ=>∃(l:List DV) (n':Nat),δ=⟨.scr ns::l,n'⟩/\l.length=10/\(∀v∈l,NP v)/\n'<=2500 * i) ?_ ?_ ?_
  ·exact ⟨_,_,rfl,rfl,by simp [Vm],by omega⟩
  ·(intro i c _ hc q_; obtain ⟨l,n0,rfl,hl,hv,hn⟩ := q_)
   have hi:i<3:=by
    have:=(Ak.mp hc).1
    rw[Cb,Ky] at this
    omega
   obtain ⟨v1,v2,v3,v4,v5,v6,v7,v8,v9,v10,rfl⟩:=zV hl
   simp only[Iw] at hv
   obtain ⟨hv1,hv2,hv3,hv4,hv5,hv6,hv7,hv8,hv9,hv10,-⟩:=hv
   array_get_dec
   refine ⟨rfl,by omega,λhh h0 h1=>?_⟩
   array_get_dec
   obtain ⟨h,eh⟩ : ∃h,(if hh<6 then hh else 6)=h:=⟨_,rfl⟩
   have b0:1<=h/\h<=6:=by
    rw[<- eh]
    by_cases q:hh<6
    ·rw[if_pos q]; omega
    ·rw[if_neg q]; omega
   obtain ⟨b0,b1⟩:=b0
   rw[eh]
   refine ⟨h,rfl,by omega,by omega,λL hp ho=>?_⟩
   have lL:L.length=2 ^ h.toNat:=by rw[hp.length_eq,Nz]
   obtain ⟨l1,l2⟩:=Jj (n:=h.toNat) (by omega) hp
   have nd:=Mn hp
   array_get_dec
   refine ⟨rfl,by omega,λvs w0 w1=>?_⟩
   array_get_dec
   refine ⟨vs,rfl,by omega,by omega,by omega,λT pT=>?_⟩
   array_get_dec
   refine ⟨h,rfl,by omega,by omega,by omega,λS pS=>?_⟩
   array_get_dec
   refine ⟨L,vs,rfl,by omega,by omega,l1,λw hw=>(l2 w hw).2,by omega,λface lf nf=>?_⟩
   array_get_dec
   obtain ⟨f,rfl⟩:=eJ nd lf
   have nn:∀w∈L,0<=f w:=λw hw=>nf _ (List.mem_map_of_mem hw)
   refine ⟨h,L,f,vs,rfl,by omega,by omega,hp,ho,w0,w1,λg hg=>?_⟩
   have d:Rdg h L f g vs:=⟨b0,by omega,hp,ho,w0,w1,nn,hg⟩
   refine ⟨h,L,f,g,vs,T,rfl,d,pT,?_⟩
   array_get_dec
   refine ⟨h,L,f,g,vs,S,rfl,d,pS,?_⟩
   array_get_dec
   refine ⟨h,L,f,g,vs,rfl,d,?_⟩
   array_get_dec
   refine Ng (l:=L) (g:=λw=>.int (f w)) (by rw[Br]; rfl) (λw=>.int (if f w ≥ vs then 0 else f w)) (λw hw yes no hy=>?_) ?_
   ·array_get_dec
    refine ⟨.int (if f w ≥ vs then 0 else f w),?_,rfl,hy⟩
    by_cases e:f w ≥ vs
    ·rw[if_pos e,decide_eq_true e]; rfl
    ·rw[if_neg e,decide_eq_false e]; rfl
   array_get_dec
   refine cC (λq=>?_) (λq=>?_)
   ·have q:vs<16:=by simpa using q
    array_get_dec
    refine ⟨h,L,λw=>if f w ≥ vs then 0 else f w,vs+1,by rw[Br]; rfl,by omega,by omega,hp,ho,by omega,by omega,λg' hg'=>?_⟩
    rw[Qa (λu hu=>(l2 u hu).1) (λu hu=>by have:=(l2 u hu).2; omega) hg' (jK (by omega) λw hw=>by
     show (if f w ≥ vs then 0 else f w)≠vs
     by_cases e:f w ≥ vs
     ·rw[if_pos e]; omega
     ·rw[if_neg e]; omega)]
    array_get_dec
    refine Ng (l:=L) (g:=Cn) rfl (λ_=>.int 0) (λw hw yes no hy=>?_) ?_
    ·array_get_dec
     exact hy
    rw[show (L.map λ_=>An 0)=(L.map λ_=>(0:Int)).map An by rw[Br]; rfl]
    array_get_dec
    refine cC (λq2=>?_) (λq2=>?_)
    ·array_get_dec
     refine ⟨h,L,f,g,vs,rfl,d,by simpa using q2,?_⟩
     array_get_dec
     refine ⟨_,_,rfl,rfl,?_,by omega⟩
     simp only[Iw]
     exact ⟨Ej,bN,Ej,Ej,Ej,Ej,Ej,Ej,Ej,Ej,λ_ z=>(nomatch z)⟩
    ·array_get_dec
     refine ⟨_,_,rfl,rfl,?_,by omega⟩
     simp only[Iw]
     exact ⟨Ej,bN,Ej,Ej,Ej,Ej,Ej,Ej,Ej,Ej,λ_ z=>(nomatch z)⟩
   ·array_get_dec
    refine cC (λq2=>?_) (λq2=>?_)
    ·array_get_dec
     refine ⟨h,L,f,g,vs,rfl,d,by simpa using q2,?_⟩
     array_get_dec
     refine ⟨_,_,rfl,rfl,?_,by omega⟩
     simp only[Iw]
     exact ⟨Ej,bN,Ej,Ej,Ej,Ej,Ej,Ej,Ej,Ej,λ_ z=>(nomatch z)⟩
    ·array_get_dec
     refine ⟨_,_,rfl,rfl,?_,by omega⟩
     simp only[Iw]
     exact ⟨Ej,bN,Ej,Ej,Ej,Ej,Ej,Ej,Ej,Ej,λ_ z=>(nomatch z)⟩
  ·(intro _ q_; obtain ⟨l,n',rfl,hl,hv,hn⟩ := q_)
   array_get_dec
end
end K38
namespace K38
open PySem L2 Nd DL
structure Def(K:PySem.W.Frag)(x:Str)(st:Stmt)(f:Addr)(fd:Bz):Prop where
 nm:PySem.W.nsIn K Ce x=some (some (.ref f))
 fn:Fun K x x st f fd
theorem def_mk{K:PySem.W.Frag}{x:Str}{st:Stmt}{f:Addr}{od an:Option Addr}{sl:Array (Option Value)}{oc kV dc pm cd ct:Value}(a:PySem.W.nsIn K Ce x=some (some (.ref f)))(l:K.lookup f=some ⟨oc,od,.func (PySem.W.fnOf x x (Mg st) (Hk st) (Bn st) .none kV dc pm an cd ct),sl⟩)(c:PySem.W.codeIn K cd x=true)(k:PySem.W.keepIn K (.ref f)=true):Def K x st f (PySem.W.fnOf x x (Mg st) (Hk st) (Bn st) .none kV dc pm an cd ct):=⟨a,qM l c k⟩
theorem U2{P:List Value->Prop}(h:P []):∀us:List Value,us.length=0->P us
 | [],_=>h
theorem x9{P:List Value->Prop}{n:Nat}(h:∀a (us:List Value),us.length=n->P (a::us)):∀us:List Value,us.length=n+1->P us
 | a::us,e=>h a us (Nat.succ.inj e)
theorem xY{P:List Value->Prop}(h:∀a0,P [a0]):∀us:List Value,us.length=1->P us:=x9 λa us e=>U2 (P:=λus=>P (a::us)) (h a) us e
theorem Q9{P:List Value->Prop}(h:∀a0 a1,P [a0,a1]):∀us:List Value,us.length=2->P us:=x9 λa us e=>xY (P:=λus=>P (a::us)) (h a) us e
theorem N7{P:List Value->Prop}(h:∀a0 a1 a2,P [a0,a1,a2]):∀us:List Value,us.length=3->P us:=x9 λa us e=>Q9 (P:=λus=>P (a::us)) (h a) us e
theorem P0{P:List Value->Prop}(h:∀a0 a1 a2 a3,P [a0,a1,a2,a3]):∀us:List Value,us.length=4->P us:=x9 λa us e=>N7 (P:=λus=>P (a::us)) (h a) us e
theorem B8{P:List Value->Prop}(h:∀a0 a1 a2 a3 a4,P [a0,a1,a2,a3,a4]):∀us:List Value,us.length=5->P us:=x9 λa us e=>P0 (P:=λus=>P (a::us)) (h a) us e
theorem T5{P:List Value->Prop}(h:∀a0 a1 a2 a3 a4 a5,P [a0,a1,a2,a3,a4,a5]):∀us:List Value,us.length=6->P us:=x9 λa us e=>B8 (P:=λus=>P (a::us)) (h a) us e
theorem all_mk{l:PySem.W.OpenLaw}{q:Bu}{w:World}{K:PySem.W.Frag}{h:Heap}{mg:Str->Option Value}{fa f1 f2 f3 f4 f5 f6 f7 f8 f9 f10 f11 f12 f13 f14 f15 f16 f17 f18 f19:Addr}{d1 d2 d3 d4 d5 d6 d7 d8 d9 d10 d11 d12 d13 d14 d15 d16 d17 d18:Bz}(X:K.In h)(G:h.Ns Ce mg)(hfa:mg "law" = some (.ref fa)){od an:Option Addr}{sl:Array (Option Value)}{oc kV dc pm cd ct:Value}(D1:Def K "_law_draws" bU f1 d1)(D2:Def K "_law_next" aO f2 d2)(D3:Def K "all_words" Ku f3 d3)(D4:Def K "_law_words" Js f4 d4)(D5:Def K "within" Sk f5 d5)(D6:Def K "showing" Qf f6 d6)(D7:Def K "_law_folded" Mx f7 d7)(D8:Def K "_law_holes" Nv f8 d8)(D9:Def K "_law_values" Mw f9 d9)(D10:Def K "_law_reading" Lz f10 d10)(D11:Def K "best_turns" Li f11 d11)(D12:Def K "sure_turns" Ju f12 d12)(D13:Def K "often" cY f13 d13)(D14:Def K "_law_turned" Mu f14 d14)(D15:Def K "_law_by_values" Ii f15 d15)(D16:Def K "_law_by_one_value" Fj f16 d16)(D17:Def K "_law_by_one_more" Em f17 d17)(D18:Def K "_law_by_holes" Gc f18 d18)(aL:PySem.W.nsIn K Ce "law" = some (some (.ref f19)))(lL:K.lookup f19=some ⟨oc,od,.func (PySem.W.fnOf "law" "law" (Mg Wz) (Hk Wz) (Bn Wz) .none kV dc pm an cd ct),sl⟩)(cL:PySem.W.codeIn K cd "law" = true)(kL:PySem.W.keepIn K (.ref f19)=true)(z1:PySem.W.nsIn K Ce "range" = some none)(z2:PySem.W.nsIn K Ce "sorted" = some none)(z3:PySem.W.nsIn K Ce "all" = some none)(z4:PySem.W.nsIn K Ce "enumerate" = some none)(z5:PySem.W.nsIn K Ce "max" = some none)(z6:PySem.W.nsIn K Ce "int" = some none)(z7:PySem.W.nsIn K Ce "len" = some none)(z8:PySem.W.nsIn K Ce "sum" = some none)(z9:PySem.W.nsIn K Ce "min" = some none)(z10:PySem.W.nsIn K Ce "dict" = some none)(z11:PySem.W.nsIn K Ce "zip" = some none)(z12:PySem.W.nsIn K Ce "tuple" = some none)(z13:PySem.W.nsIn K Ce "list" = some none){e13 p13:Addr}{r13:DefRec}{o13:Value}{u13:Option Addr}{x13:Array Value}{w13:Array (Option Value)}(tc13:d13.code=.ref e13)(tk13:K.lookup e13=some ⟨o13,u13,.fields x13,w13⟩)(tv13:x13[11]? = some (.ref p13))(td13:(PyProof.Rows.recsOf q).find? (λe=>e.name == ("often" : Str))=some r13)(tl13:K.lookup p13=none)(tz_cut_by:PySem.W.nsIn K Ce "cut_by" = some none):cK q K/\∃fd:Bz,(∀(s:Af) (v:Value),BindsTo s fd ⟨[v],[]⟩ [("_law_script",v)])/\∀base:Heap,K.In base->base.Ns Ce mg->FnOk l.prog w K mg base Gd 7 fa fd ["_law_script"] (DL.spLawD K):=by
 have e:=hfa.symm.trans (PySem.W.mg_of X G aL)
 cases e
 have FL:=qM (st:=Wz) lL cL kL
 have b1:=D1.fn.binds (ps:=["_law_cell"]) λ_ _ _ _ _ _=>xY (λ_=>rfl)
 have b2:=D2.fn.binds (ps:=["_law_draws_here"]) λ_ _ _ _ _ _=>xY (λ_=>rfl)
 have b3:=D3.fn.binds (ps:=["holes"]) λ_ _ _ _ _ _=>xY (λ_=>rfl)
 have b4:=D4.fn.binds (ps:=["_law_holes_here"]) λ_ _ _ _ _ _=>xY (λ_=>rfl)
 have b5:=D5.fn.binds (ps:=["one", "other"]) λ_ _ _ _ _ _=>Q9 (λ_ _=>rfl)
 have b6:=D6.fn.binds (ps:=["words", "reading", "word", "value"]) λ_ _ _ _ _ _=>P0 (λ_ _ _ _=>rfl)
 have b7:=D7.fn.binds (ps:=["_law_word"]) λ_ _ _ _ _ _=>xY (λ_=>rfl)
 have b8:=D8.fn.binds (ps:=["_law_draws_here"]) λ_ _ _ _ _ _=>xY (λ_=>rfl)
 have b9:=D9.fn.binds (ps:=["_law_draws_here"]) λ_ _ _ _ _ _=>xY (λ_=>rfl)
 have b10:=D10.fn.binds (ps:=["_law_draws_here", "_law_words_here", "_law_values_here"]) λ_ _ _ _ _ _=>N7 (λ_ _ _=>rfl)
 have b11:=D11.fn.binds (ps:=["words", "reading", "numbers", "word", "value"]) λ_ _ _ _ _ _=>B8 (λ_ _ _ _ _=>rfl)
 have b12:=D12.fn.binds (ps:=["words", "reading", "values", "numbers", "at"]) λ_ _ _ _ _ _=>B8 (λ_ _ _ _ _=>rfl)
 have b13:=D13.fn.binds (ps:=["holes", "reading", "values"]) λ_ _ _ _ _ _=>N7 (λ_ _ _=>rfl)
 have b14:=D14.fn.binds (ps:=["_law_draws_here", "_law_many"]) λ_ _ _ _ _ _=>Q9 (λ_ _=>rfl)
 have b15:=D15.fn.binds (ps:=["_law_holes_here", "_law_face", "_law_values_here", "_law_due", "_law_turned_here"]) λ_ _ _ _ _ _=>B8 (λ_ _ _ _ _=>rfl)
 have b16:=D16.fn.binds (ps:=["_law_holes_here", "_law_face", "_law_values_here", "_law_due"]) λ_ _ _ _ _ _=>P0 (λ_ _ _ _=>rfl)
 have b17:=D17.fn.binds (ps:=["_law_holes_here", "_law_words_here", "_law_face", "_law_values_here", "_law_due"]) λ_ _ _ _ _ _=>B8 (λ_ _ _ _ _=>rfl)
 have b18:=D18.fn.binds (ps:=["_law_holes_here", "_law_words_here", "_law_face", "_law_values_here", "_law_due", "_law_turned_here"]) λ_ _ _ _ _ _=>T5 (λ_ _ _ _ _ _=>rfl)
 have m1:=PySem.W.mg_of X G D1.nm
 have m2:=PySem.W.mg_of X G D2.nm
 have m3:=PySem.W.mg_of X G D3.nm
 have m4:=PySem.W.mg_of X G D4.nm
 have m5:=PySem.W.mg_of X G D5.nm
 have m6:=PySem.W.mg_of X G D6.nm
 have m7:=PySem.W.mg_of X G D7.nm
 have m8:=PySem.W.mg_of X G D8.nm
 have m9:=PySem.W.mg_of X G D9.nm
 have m10:=PySem.W.mg_of X G D10.nm
 have m11:=PySem.W.mg_of X G D11.nm
 have m12:=PySem.W.mg_of X G D12.nm
 have m13:=PySem.W.mg_of X G D13.nm
 have m14:=PySem.W.mg_of X G D14.nm
 have m15:=PySem.W.mg_of X G D15.nm
 have m16:=PySem.W.mg_of X G D16.nm
 have m17:=PySem.W.mg_of X G D17.nm
 have m18:=PySem.W.mg_of X G D18.nm
 have y1:=PySem.W.mg_none_of X G z1
 have y2:=PySem.W.mg_none_of X G z2
 have y3:=PySem.W.mg_none_of X G z3
 have y4:=PySem.W.mg_none_of X G z4
 have y5:=PySem.W.mg_none_of X G z5
 have y6:=PySem.W.mg_none_of X G z6
 have y7:=PySem.W.mg_none_of X G z7
 have y8:=PySem.W.mg_none_of X G z8
 have y9:=PySem.W.mg_none_of X G z9
 have y10:=PySem.W.mg_none_of X G z10
 have y11:=PySem.W.mg_none_of X G z11
 have y12:=PySem.W.mg_none_of X G z12
 have y13:=PySem.W.mg_none_of X G z13
 have t13:=DL.tab_mk D13.nm D13.fn tc13 tk13 tv13
 have tn_cut_by:=DL.tab_no tz_cut_by
 refine ⟨iE t13 td13 tl13 tn_cut_by,PySem.W.fnOf "law" "law" (Mg Wz) (Hk Wz) (Bn Wz) .none kV dc pm an cd ct,λs v=>.of_eq rfl,λbase _ _=>?_⟩
 have g1:=oI (P:=l.prog) (w:=w) (mg:=mg) (base:=base) D1.fn
 have g2:=rQ (P:=l.prog) (w:=w) (mg:=mg) (base:=base) D2.fn
 have g3:=cA (P:=l.prog) (w:=w) (mg:=mg) (base:=base) D3.fn y1 y2
 have g4:=Zp (P:=l.prog) (w:=w) (mg:=mg) (base:=base) D4.fn y1 y2
 have g5:=nY (P:=l.prog) (w:=w) (mg:=mg) (base:=base) D5.fn y3
 have g6:=iL (P:=l.prog) (w:=w) (mg:=mg) (base:=base) D6.fn g5 b5 D5.fn.kp m5 y4
 have g7:=Xy (P:=l.prog) (w:=w) (mg:=mg) (base:=base) D7.fn
 have g8:=Zh (P:=l.prog) (w:=w) (mg:=mg) (base:=base) D8.fn g2 b2 D2.fn.kp m2 y5
 have g9:=Yv (P:=l.prog) (w:=w) (mg:=mg) (base:=base) D9.fn g2 b2 D2.fn.kp m2 y6
 have g10:=Wd (P:=l.prog) (w:=w) (mg:=mg) (base:=base) D10.fn (pL (P:=l.prog) (w:=w) (mg:=mg) (base:=base) D2.fn) b2 D2.fn.kp m2 g7 b7 D7.fn.kp m7 y7 y8 y6
 have g11:=Zx (P:=l.prog) (w:=w) (mg:=mg) (base:=base) D11.fn g6 b6 D6.fn.kp m6 y5
 have g12:=Zm (P:=l.prog) (w:=w) (mg:=mg) (base:=base) D12.fn g11 b11 D11.fn.kp m11 y1 y9
 have g13:=sS (P:=l.prog) (w:=w) (mg:=mg) (base:=base) D13.fn g3 b3 D3.fn.kp m3 g12 b12 D12.fn.kp m12 y7 y2 y1 t13 (DL.code_tab D13.nm D13.fn t13)
 have g14:=Xm (P:=l.prog) (w:=w) (mg:=mg) (base:=base) D14.fn g2 b2 D2.fn.kp m2 y1
 have g15:=Sx (P:=l.prog) (w:=w) (mg:=mg) (base:=base) D15.fn g13 b13 D13.fn.kp m13 y9
 have g16:=Pi (P:=l.prog) (w:=w) (mg:=mg) (base:=base) D16.fn g13 b13 D13.fn.kp m13 y6 y4
 have g17:=Qw (P:=l.prog) (w:=w) (mg:=mg) (base:=base) D17.fn g13 b13 D13.fn.kp m13 g4 b4 D4.fn.kp m4 y10 y11 y12
 have g18:=Um (P:=l.prog) (w:=w) (mg:=mg) (base:=base) D18.fn g13 b13 D13.fn.kp m13 y10 y11 y2 y12
 exact zC FL g13 b13 D13.fn.kp m13 g1 b1 D1.fn.kp m1 g4 b4 D4.fn.kp m4 g8 b8 D8.fn.kp m8 g10 b10 D10.fn.kp m10 g9 b9 D9.fn.kp m9 g14 b14 D14.fn.kp m14 g15 b15 D15.fn.kp m15 g18 b18 D18.fn.kp m18 g17 b17 D17.fn.kp m17 g16 b16 D16.fn.kp m16 y9 y13 y6
theorem walk{l:PySem.W.OpenLaw}{q:Bu}{loose:List Str}{XP:(Str->Option Value)->Heap->Prop}{YP:World->Heap->Prop}{d:DefRec}{K:Params->PySem.W.Frag}(hn:l.most=some 63)(hdf:d.params.defaults=[])(hY:∀(w:World) (h:Heap),YP w h->(K w.params).In h)(F:∀(w:World) (mg:Str->Option Value) (fa:Addr) (h:Heap),(K w.params).In h->h.Ns Ce mg->mg d.name=some (.ref fa)->cK q (K w.params)/\∃fd:Bz,(∀(s:Af) (u:Value),BindsTo s fd ⟨[u],[]⟩ [("_law_script",u)])/\∀base:Heap,(K w.params).In base->base.Ns Ce mg->FnOk l.prog w (K w.params) mg base Gd 7 fa fd ["_law_script"] (DL.spLawD (K w.params))):PySem.W.WalkO q loose XP YP l.row.toRowW d [] (λf vs=>PySem.call f vs) :=
 L2.walk_ofD (n:=63) (k:=7) (x := "_law_script") (CX:=λ_=>Gd) (sp:=λw=>DL.spLawD (K w.params)) hn (by decide) hdf ⟨rfl,by decide,by decide,rfl⟩ hY F (λ_ _ a ns hl _ hS=>⟨a,ns,rfl,hS,hl,λ_=>rfl⟩) λ_ _ _ _ _ z=>z
end K38
open PySem PySem.W PyProof.Rows
local macro_rules | `(tactic| refine $h:ident (q := $q) (loose := $l) (Xt := $a) (XP := $b) (Yf := $c) (Ya := $d) (YP := $e) (N := $n) ?hl $y*) => `(tactic| refine $h:ident (q := $q) (loose := $l) (Xt := $a) (XP := $b) (Yf := $c) (Ya := $d) (YP := $e) (N := $n) (fun _ => by kernel_rfl) $y*)
set_option maxRecDepth 100000 in
set_option maxHeartbeats 0 in
theorem PySem.Challenge.cw_needledeck_k38_whole_readings_told_other_holds : PySem.Challenge.rw_needledeck_k38_whole_readings_told_other.Holds := by
 w_on; refine holds_law (by kernel_rfl) λsaid=>?_; k_head; (case hw=>w_witness2)
 k_fill
 refine K38.walk (l:=PySem.Challenge.rw_needledeck_k38_whole_readings_told_other) rfl rfl (λw h Y=>PySem.W.km_in_of Y) ?F
 case F =>
  intro w mg fa h KX G hmg
  refine' K38.all_mk KX G hmg (K38.def_mk ?a1 ?l1 ?c1 ?k1) (K38.def_mk ?a2 ?l2 ?c2 ?k2) (K38.def_mk ?a3 ?l3 ?c3 ?k3) (K38.def_mk ?a4 ?l4 ?c4 ?k4) (K38.def_mk ?a5 ?l5 ?c5 ?k5) (K38.def_mk ?a6 ?l6 ?c6 ?k6) (K38.def_mk ?a7 ?l7 ?c7 ?k7) (K38.def_mk ?a8 ?l8 ?c8 ?k8) (K38.def_mk ?a9 ?l9 ?c9 ?k9) (K38.def_mk ?a10 ?l10 ?c10 ?k10) (K38.def_mk ?a11 ?l11 ?c11 ?k11) (K38.def_mk ?a12 ?l12 ?c12 ?k12) (K38.def_mk ?a13 ?l13 ?c13 ?k13) (K38.def_mk ?a14 ?l14 ?c14 ?k14) (K38.def_mk ?a15 ?l15 ?c15 ?k15) (K38.def_mk ?a16 ?l16 ?c16 ?k16) (K38.def_mk ?a17 ?l17 ?c17 ?k17) (K38.def_mk ?a18 ?l18 ?c18 ?k18) ?aL ?lL ?cL ?kL ?z1 ?z2 ?z3 ?z4 ?z5 ?z6 ?z7 ?z8 ?z9 ?z10 ?z11 ?z12 ?z13 ?tc13 ?tk13 ?tv13 ?td13 ?tl13 ?tz_cut_by
  (case a1=>k_is); (case l1=>k_is); (case c1=>k_is); (case k1=>k_is)
  (case a2=>k_is); (case l2=>k_is); (case c2=>k_is); (case k2=>k_is)
  (case a3=>k_is); (case l3=>k_is); (case c3=>k_is); (case k3=>k_is)
  (case a4=>k_is); (case l4=>k_is); (case c4=>k_is); (case k4=>k_is)
  (case a5=>k_is); (case l5=>k_is); (case c5=>k_is); (case k5=>k_is)
  (case a6=>k_is); (case l6=>k_is); (case c6=>k_is); (case k6=>k_is)
  (case a7=>k_is); (case l7=>k_is); (case c7=>k_is); (case k7=>k_is)
  (case a8=>k_is); (case l8=>k_is); (case c8=>k_is); (case k8=>k_is)
  (case a9=>k_is); (case l9=>k_is); (case c9=>k_is); (case k9=>k_is)
  (case a10=>k_is); (case l10=>k_is); (case c10=>k_is); (case k10=>k_is)
  (case a11=>k_is); (case l11=>k_is); (case c11=>k_is); (case k11=>k_is)
  (case a12=>k_is); (case l12=>k_is); (case c12=>k_is); (case k12=>k_is)
  (case a13=>k_is); (case l13=>k_is); (case c13=>k_is); (case k13=>k_is)
  (case a14=>k_is); (case l14=>k_is); (case c14=>k_is); (case k14=>k_is)
  (case a15=>k_is); (case l15=>k_is); (case c15=>k_is); (case k15=>k_is)
  (case a16=>k_is); (case l16=>k_is); (case c16=>k_is); (case k16=>k_is)
  (case a17=>k_is); (case l17=>k_is); (case c17=>k_is); (case k17=>k_is)
  (case a18=>k_is); (case l18=>k_is); (case c18=>k_is); (case k18=>k_is)
  (case aL=>k_is); (case lL=>k_is); (case cL=>k_is); (case kL=>k_is)
  (case z1=>k_is); (case z2=>k_is); (case z3=>k_is); (case z4=>k_is); (case z5=>k_is); (case z6=>k_is); (case z7=>k_is); (case z8=>k_is); (case z9=>k_is); (case z10=>k_is); (case z11=>k_is); (case z12=>k_is); (case z13=>k_is)
  (case tc13=>first | rfl | kernel_rfl)
  (case tk13=>k_is)
  (case tv13=>first | rfl | kernel_rfl)
  (case td13=>first | rfl | kernel_rfl)
  (case tl13=>first | rfl | kernel_rfl)
  (case tz_cut_by=>k_is)