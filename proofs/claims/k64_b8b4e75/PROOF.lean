import PyProof.Rows.All
import KE.KLam
import Wide.All
import OpenK.AllK
import Wide.FinOn
import Lean
import PyProof.EqAt
import PyProof.EqKinds
import PyProof.TupleCall
import PyProof.FactsAll.set
import PyProof.FactsAll.subtypes
import KE.KTupSum
import KE.KMinBuiltin
import PyProof.Draws
import PyProof.DictWalks
import PyProof.DictCompW
import PyProof.IsiH_tuple
import PyProof.FactsAll.zip
import KE.KDictOf
import PyProof.DictValues
import KE.KSortKey
import PyProof.WalkInts
import PyProof.TupleKey
import PyProof.SetRoads
import PyProof.IsRules
import PySem.Challenge.RW_needledeck_k64_whole_found_and_nothing_w
set_option Elab.async false
set_option linter.all false
set_option maxRecDepth 100000
set_option maxHeartbeats 4000000
set_option genSizeOf false
local macro_rules|`(tactic|omega)=>`(tactic|first|lia|omega +splitDisjunctions)
theorem e0a2{A B:Prop}{G:Prop}(k:A→B→G)(h:A∧B):G:=k h.1 h.2
theorem e0a3{A B C:Prop}{G:Prop}(k:A→B→C→G)(h:A∧B∧C):G:=k h.1 h.2.1 h.2.2
theorem e0a4{A B C D:Prop}{G:Prop}(k:A→B→C→D→G)(h:A∧B∧C∧D):G:=k h.1 h.2.1 h.2.2.1 h.2.2.2
theorem e0a5{A B C D E:Prop}{G:Prop}(k:A→B→C→D→E→G)(h:A∧B∧C∧D∧E):G:=k h.1 h.2.1 h.2.2.1 h.2.2.2.1 h.2.2.2.2
theorem e0a6{A B C D E F:Prop}{G:Prop}(k:A→B→C→D→E→F→G)(h:A∧B∧C∧D∧E∧F):G:=k h.1 h.2.1 h.2.2.1 h.2.2.2.1 h.2.2.2.2.1 h.2.2.2.2.2
theorem e1a1{t0:Type}{A:t0→Prop}{G:Prop}(k:∀x,A x→G)(h:∃x,A x):G:=h.elim λx h=>k x h
theorem e1a2{t0:Type}{A B:t0→Prop}{G:Prop}(k:∀x,A x→B x→G)(h:∃x,A x∧B x):G:=h.elim λx h=>k x h.1 h.2
theorem e1a3{t0:Type}{A B C:t0→Prop}{G:Prop}(k:∀x,A x→B x→C x→G)(h:∃x,A x∧B x∧C x):G:=h.elim λx h=>k x h.1 h.2.1 h.2.2
theorem e1a4{t0:Type}{A B C D:t0→Prop}{G:Prop}(k:∀x,A x→B x→C x→D x→G)(h:∃x,A x∧B x∧C x∧D x):G:=h.elim λx h=>k x h.1 h.2.1 h.2.2.1 h.2.2.2
theorem e2a1{t0 t1:Type}{A:t0→t1→Prop}{G:Prop}(k:∀x y,A x y→G)(h:∃x y,A x y):G:=h.elim λx h=>h.elim λy h=>k x y h
theorem e2a2{t0 t1:Type}{A B:t0→t1→Prop}{G:Prop}(k:∀x y,A x y→B x y→G)(h:∃x y,A x y∧B x y):G:=h.elim λx h=>h.elim λy h=>k x y h.1 h.2
theorem e2a3{t0 t1:Type}{A B C:t0→t1→Prop}{G:Prop}(k:∀x y,A x y→B x y→C x y→G)(h:∃x y,A x y∧B x y∧C x y):G:=h.elim λx h=>h.elim λy h=>k x y h.1 h.2.1 h.2.2
theorem e2a4{t0 t1:Type}{A B C D:t0→t1→Prop}{G:Prop}(k:∀x y,A x y→B x y→C x y→D x y→G)(h:∃x y,A x y∧B x y∧C x y∧D x y):G:=h.elim λx h=>h.elim λy h=>k x y h.1 h.2.1 h.2.2.1 h.2.2.2
theorem e3a1{t0 t1 t2:Type}{A:t0→t1→t2→Prop}{G:Prop}(k:∀x y z,A x y z→G)(h:∃x y z,A x y z):G:=h.elim λx h=>h.elim λy h=>h.elim λz h=>k x y z h
theorem e3a3{t0 t1 t2:Type}{A B C:t0→t1→t2→Prop}{G:Prop}(k:∀x y z,A x y z→B x y z→C x y z→G)(h:∃x y z,A x y z∧B x y z∧C x y z):G:=h.elim λx h=>h.elim λy h=>h.elim λz h=>k x y z h.1 h.2.1 h.2.2
theorem e3a4{t0 t1 t2:Type}{A B C D:t0→t1→t2→Prop}{G:Prop}(k:∀x y z,A x y z→B x y z→C x y z→D x y z→G)(h:∃x y z,A x y z∧B x y z∧C x y z∧D x y z):G:=h.elim λx h=>h.elim λy h=>h.elim λz h=>k x y z h.1 h.2.1 h.2.2.1 h.2.2.2
theorem e3a5{t0 t1 t2:Type}{A B C D E:t0→t1→t2→Prop}{G:Prop}(k:∀x y z,A x y z→B x y z→C x y z→D x y z→E x y z→G)(h:∃x y z,A x y z∧B x y z∧C x y z∧D x y z∧E x y z):G:=h.elim λx h=>h.elim λy h=>h.elim λz h=>k x y z h.1 h.2.1 h.2.2.1 h.2.2.2.1 h.2.2.2.2
theorem e4a1{t0 t1 t2 t3:Type}{A:t0→t1→t2→t3→Prop}{G:Prop}(k:∀x y z w,A x y z w→G)(h:∃x y z w,A x y z w):G:=h.elim λx h=>h.elim λy h=>h.elim λz h=>h.elim λw h=>k x y z w h
theorem e4a2{t0 t1 t2 t3:Type}{A B:t0→t1→t2→t3→Prop}{G:Prop}(k:∀x y z w,A x y z w→B x y z w→G)(h:∃x y z w,A x y z w∧B x y z w):G:=h.elim λx h=>h.elim λy h=>h.elim λz h=>h.elim λw h=>k x y z w h.1 h.2
theorem e5a2{t0 t1 t2 t3 t4:Type}{A B:t0→t1→t2→t3→t4→Prop}{G:Prop}(k:∀x y z w u,A x y z w u→B x y z w u→G)(h:∃x y z w u,A x y z w u∧B x y z w u):G:=h.elim λx h=>h.elim λy h=>h.elim λz h=>h.elim λw h=>h.elim λu h=>k x y z w u h.1 h.2
theorem e4a5{t0 t1 t2 t3:Type}{A B C D E:t0→t1→t2→t3→Prop}{G:Prop}(k:∀x y z w,A x y z w→B x y z w→C x y z w→D x y z w→E x y z w→G)(h:∃x y z w,A x y z w∧B x y z w∧C x y z w∧D x y z w∧E x y z w):G:=h.elim λx h=>h.elim λy h=>h.elim λz h=>h.elim λw h=>k x y z w h.1 h.2.1 h.2.2.1 h.2.2.2.1 h.2.2.2.2
theorem e5a5{t0 t1 t2 t3 t4:Type}{A B C D E:t0→t1→t2→t3→t4→Prop}{G:Prop}(k:∀x y z w u,A x y z w u→B x y z w u→C x y z w u→D x y z w u→E x y z w u→G)(h:∃x y z w u,A x y z w u∧B x y z w u∧C x y z w u∧D x y z w u∧E x y z w u):G:=h.elim λx h=>h.elim λy h=>h.elim λz h=>h.elim λw h=>h.elim λu h=>k x y z w u h.1 h.2.1 h.2.2.1 h.2.2.2.1 h.2.2.2.2
theorem e6a5{t0 t1 t2 t3 t4 t5:Type}{A B C D E:t0→t1→t2→t3→t4→t5→Prop}{G:Prop}(k:∀x y z w u v,A x y z w u v→B x y z w u v→C x y z w u v→D x y z w u v→E x y z w u v→G)(h:∃x y z w u v,A x y z w u v∧B x y z w u v∧C x y z w u v∧D x y z w u v∧E x y z w u v):G:=h.elim λx h=>h.elim λy h=>h.elim λz h=>h.elim λw h=>h.elim λu h=>h.elim λv h=>k x y z w u v h.1 h.2.1 h.2.2.1 h.2.2.2.1 h.2.2.2.2
theorem e4a7{t0 t1 t2 t3:Type}{A B C D E F H:t0→t1→t2→t3→Prop}{G:Prop}(k:∀x y z w,A x y z w→B x y z w→C x y z w→D x y z w→E x y z w→F x y z w→H x y z w→G)(h:∃x y z w,A x y z w∧B x y z w∧C x y z w∧D x y z w∧E x y z w∧F x y z w∧H x y z w):G:=h.elim λx h=>h.elim λy h=>h.elim λz h=>h.elim λw h=>k x y z w h.1 h.2.1 h.2.2.1 h.2.2.2.1 h.2.2.2.2.1 h.2.2.2.2.2.1 h.2.2.2.2.2.2
theorem e5a7{t0 t1 t2 t3 t4:Type}{A B C D E F H:t0→t1→t2→t3→t4→Prop}{G:Prop}(k:∀x y z w u,A x y z w u→B x y z w u→C x y z w u→D x y z w u→E x y z w u→F x y z w u→H x y z w u→G)(h:∃x y z w u,A x y z w u∧B x y z w u∧C x y z w u∧D x y z w u∧E x y z w u∧F x y z w u∧H x y z w u):G:=h.elim λx h=>h.elim λy h=>h.elim λz h=>h.elim λw h=>h.elim λu h=>k x y z w u h.1 h.2.1 h.2.2.1 h.2.2.2.1 h.2.2.2.2.1 h.2.2.2.2.2.1 h.2.2.2.2.2.2
theorem e6a7{t0 t1 t2 t3 t4 t5:Type}{A B C D E F H:t0→t1→t2→t3→t4→t5→Prop}{G:Prop}(k:∀x y z w u v,A x y z w u v→B x y z w u v→C x y z w u v→D x y z w u v→E x y z w u v→F x y z w u v→H x y z w u v→G)(h:∃x y z w u v,A x y z w u v∧B x y z w u v∧C x y z w u v∧D x y z w u v∧E x y z w u v∧F x y z w u v∧H x y z w u v):G:=h.elim λx h=>h.elim λy h=>h.elim λz h=>h.elim λw h=>h.elim λu h=>h.elim λv h=>k x y z w u v h.1 h.2.1 h.2.2.1 h.2.2.2.1 h.2.2.2.2.1 h.2.2.2.2.2.1 h.2.2.2.2.2.2
local macro_rules|`(tactic|obtain $p:rcasesPatMed:=$v:term)=>do
 let c s:=((p.raw.reprint.getD "").splitOn s).length
 if c ","<3||c "|">1||c ":">1 then Lean.Macro.throwUnsupported
 let T (a:Lean.Syntax):Lean.TSyntax `Lean.Parser.Tactic.rcasesPatMed:=⟨a⟩
 let q:=p.raw
 let x:=q[0][0]
 let l:=x[1].getSepArgs
 let mut a:Array (Lean.TSyntax ``Lean.Parser.Tactic.tacticSeq):=#[]
 let mut y:Array Lean.Term:=#[]
 let mut z:Array (Array (Lean.TSyntax `tactic)):=#[]
 for o in l do
  let u:=o[0][0][0]
  let f:=Lean.mkIdent (←Lean.Macro.addMacroScope (.mkSimple s!"f{y.size}"))
  if u[0].getId==`rfl then
   y:=y.push f
   z:=z.push #[←`(tactic|subst $f:term)]
  else if u[0].isIdent then
   y:=y.push ⟨u[0]⟩
   z:=z.push #[]
  else if u[1].isMissing then
   y:=y.push (←`(_))
   z:=z.push #[]
  else
   y:=y.push f
   z:=z.push #[←`(tactic|obtain $(T o[0]):rcasesPatMed:=$f)]
 for j in [0:l.size] do
  if j==1 then continue
  let n:=l.size-j
  let mut i:=y.extract 0 n
  let mut w:=(z.extract 0 n).flatten
  if j>0 then
   i:=i.push (←`(r_))
   w:=w.push (←`(tactic|obtain $(T (q.setArg 0 (q[0].setArg 0 (x.setArg 1 (Lean.mkNullNode (Lean.mkSepArray (l.extract n l.size) (Lean.mkAtom ","))))))):rcasesPatMed:=r_))
  for k in [0:i.size] do
   let m:=Lean.mkIdent (.mkSimple s!"e{k}a{i.size-k}")
   let g←if v.raw.isIdent then `(tactic|(revert $(⟨v⟩):ident;refine $m fun $i*=>?_)) else `(tactic|refine $m (fun $i*=>?_) $v)
   a:=a.push (←`(Lean.Parser.Tactic.tacticSeq| $g:tactic;$[$w];*))
  if j==0&& !v.raw.isIdent then
   a:=a.push (←`(Lean.Parser.Tactic.tacticSeq| have h_ := $v; obtain $p := h_))
   break
 a:=a.push (←`(Lean.Parser.Tactic.tacticSeq| rcases $v:term with $p))
 `(tactic|first $[| $a]*)
open Array renaming length_toList → Bc, getElem?_eq_getElem → Fv, getElem?_toList → Kl, getD_eq_getD_getElem? → Lx, getElem?_eq_none → Oo, toList_push → Um
open Bool renaming and_eq_true → Cp, eq_iff_iff → Lw, false_ne_true → Ms, and_true → Sx, false_eq_true → Ud
open Classical renaming byContradiction → Ib
open False renaming elim → Ih
open ForInStep renaming yield → Kn
open Function renaming comp → Qg
open Int renaming toNat_natCast → Dw
open LawfulBEq renaming eq_of_beq → Uy
open List renaming mem_cons_self → Aa, mem_cons_of_mem → Ab, length_map → Ac, mem_cons → Ag, mem_append_right → Ah, mem_singleton → Aj, mem_append_left → Am, mem_of_getElem? → Ao, size_toArray → Aq, map_cons → Au, pairwise_cons → Av, getElem?_eq_some_iff → Aw, length_append → Ax, mem_append → Ay, map_append → Az, getElem?_map → Bf, range → Bi, lookup_cons → Bn, length_cons → Bo, length_range → Bq, getElem?_eq_getElem → Br, mem_map → Bv, sublist_append_right → Ce, getD_eq_getElem?_getD → Cf, nodup_cons → Cg, map_map → Co, not_mem_nil → Cr, sublist_cons_self → Cu, take_length → Cz, mem_flatMap → Da, append_nil → Dc, perm_middle → Dl, append_assoc → Dn, length_take → Ds, mem_map_of_mem → Du, mem_range → Dz, length_singleton → Ee, length_zipIdx → Eh, all_eq_true → Ej, filter_append → Ex, cons_append → Ey, pairwise_append → Fd, nodup_nil → Fe, length → Ff, filter_cons_of_neg → Fj, length_filter_le → Fs, take_sublist → Fz, nodup_append → Ga, replicate → Gn, length_eq_zero_iff → Gp, take_of_length_le → Hb, mem_replicate → Hd, perm_append_comm → Hq, mem_iff_getElem? → Hr, getElem?_append_right → Iq, map_set → Iu, flatMap_append → Iw, filterMap_cons → Iy, pairwise_singleton → Jo, lookup → Jp, filter_cons_of_pos → Jq, pairwise_map → Jz, getElem?_set → Ka, flatMap_cons → Kb, ext_getElem? → Kc, drop_zero → Kd, eraseIdx_eq_take_drop_succ → Kk, length_drop → Kq, map_take → Kw, length_zip → Lv, mem_of_find?_eq_some → Nj, getElem?_append_left → Nk, getElem_mem → Ol, range_succ → Pq, find?_some → Pr, take_append_drop → Pu, mem_of_mem_take → Qu, map_congr_left → Si, length_pos_iff → Sj, filter_eq_self → Sk, sum_cons → Sn, map_drop → Sq, any_cons → Sr, mem_filterMap → Ua, getElem_range → Ub, map_nil → Va, all_map → Vb, drop_length → Xm, eq_nil_of_length_eq_zero → Xu, drop_eq_getElem_cons → cI, sublist_append_left → fZ, mem_of_mem_eraseIdx → gA, length_erase_of_mem → gB, length_pos_of_mem → iY, getElem?_set_self → iZ, drop_of_length_le → jA, find?_eq_none → tQ
open List.Pairwise renaming nil → Dq
open List.Perm renaming swap → Do, refl → Fm, cons → Gc
open List.Sublist renaming refl → Cj
open List.cons renaming inj → Ml
open Nat renaming le_refl → An, le_trans → Bk, lt_of_lt_of_le → Bu, ne_of_lt → Cv, zero_le → Dv, lt_irrefl → Fb, not_lt_zero → Fx, le_of_lt → Hh, mod_lt → Pp, succ_pos → Vm, sub_zero → Vn, ne_of_gt → Vo, lt_trans → Vp, lt_succ_of_lt → Vq, min_eq_right → Xr, lt_succ_self → Xs, lt_succ_iff → Zy
open Ne renaming symm → Lg
open Option renaming isSome_iff_exists → Ni
open Option.some renaming inj → Bl
open Or renaming inl → Bm
open PyProof.Rows renaming slot_tuple_getitem → Dt, callWith_type1 → Gu, IntsAre → Kx, envOfC → Og, AllBare → Pd, subscriptTail_builtinR → tU
open PyProof.Rows.F renaming plain_set_update_loop → Hi, entry_set_update_loop → Oc
open PySem renaming PyData → Ad, wpAny_bind → Ae, wpAny_pure → Ak, Shared → Al, sizeLine → Be, starEach → Bj, Program → Bp, SetTable → Bx, FuncData → Ca, foldedSetIterable → Ci, mainGlobals → Ck, Around → Dg, wpAny_mono → Di, cellsFrom → Eb, wpAny_holding → Et, wpAny_newObj_type → Eu, wpAny_call_entry → Fu, letOwnedTupleGo → Gf, sizeLine_eq → Gi, binaryOp → Gj, wpAny_standAt → Gr, behindInMarks → Gs, backTo → Hg, codeAny → Hs, bootBuiltins → Ht, assignEach → Hu, wpAny_passesOwn → Ie, swapsWith → Io, compareOp → Ip, wpAny_callSpecial?_slot → Kj, wpAny_truthy_bool → Kt, rawInt → Ku, wpAny_of_eq → Mg, sliceBounds → Mh, NameKind → Mk, assign → Mt, codeAny_mono → Nl, reprText → Oe, pyNext → Of, wpAny_storeSet_of → Pb, wpAny_isInstance → Qa, wpAny_askSetting → Qb, setField → Qd, pickOrder → Qe, intKind → Qw, holding → Qx, builtinsNs → Qy, wpAny_execs_nil → Sf, codeAny_builtin → Sg, newFunctionEnv → Uj, IsPart → Ul, standAt → Ux, callerA → Uz, Keyword → Vc, attributeBase → Xl, wpAny_Call_Name_kw → Xo, setEntries → Xp, closureFor → Xq, wpAny_typeOf → Zx, noFill_tuple_add → cH, wpAny_comprehension_free → oB, wpAny_pyNext_tuple_item → tP, wpAny_pyNext_tuple_end → tT, codeAny_compStart_list → tV, slot_list_getitem → M7
open PySem.Around renaming under_plainId → Pv
open PySem.Builtin.Frozenset renaming addrOf → Dm, isAnySet → Gk, updateFrom → Je, copyOf → Ko, baseOf → Qz, slot1 → Sm
open PySem.Builtin.List renaming listLengthHint → Sw, listFitsIndex → Uc
open PySem.Builtin.Slice renaming slicePlaces → Hj, sliceAdjust → Ky, sliceApplied → Sv
open PySem.Builtin.Tuple renaming tupleExact → Hv, tupleItemsOf → Ss, tupleIsExact → Su
open PySem.Calls renaming Name_function_global → Zz
open PySem.Heap renaming get?_push_of_some → Ar, lt_size → Bb, get?_push_size → Bt, SameBut → Eo, get?_update_self → Km, get?_none_of_le → Qv, get?_update_other → jB
open PySem.Heap.SameBut renaming update → Dd, refl → Lh
open PySem.NameKind renaming cell → Dj, free → Dr
open PySem.Obj renaming mapSeq → Uk
open PySem.PassesOwn renaming never → Cb
open PySem.PyData renaming int → Ba, depthAll → Bg, depth → Cq, tuple → Lu, str → Sh
open PySem.SeqAt renaming EqAt → Mj
open PySem.SetTable renaming below → By, bits → Cm, sizeAbove → Cw, insertAt → Ez, turns → Fp, runEnd → Fq, laid → Gx, layClean → Mi, fill → Mr, insertAt_perm → cD
open PySem.SetTable.below renaming go → Pc
open PySem.SetTable.layClean renaming free → Ig
open PySem.SetTable.probe renaming go → Kv
open PySem.Str renaming ofString → Bz
open PySem.Value renaming ref → Fw, type → Jd, none → On
open Sum renaming inl → Po
open True renaming intro → Tz
namespace L2
open PySem PySem.Spec PyProof.Rows
abbrev Vg:=Sum Int Str
def xC:Vg->Value->Bool
 | .inl k,v=>Value.isInt k v
 | .inr x,v=>Value.isStrOf x v
def Q7(w:World):Vg->Int
 | .inl k=>hashInt k
 | .inr x=>hashStr w x
theorem Ft:∀{k:Vg} {v:Value},xC k v=true->(∃i t,k=Po i/\v=Value.int i t)\/(∃x t,k=Sum.inr x/\v=Value.str x t)
 | .inl i,v,h=>by
  obtain ⟨t,e⟩:=Value.isInt_shape (k:=i) (v:=v) h
  exact .inl ⟨i,t,rfl,e⟩
 | .inr x,v,h=>by
  obtain ⟨t,e⟩:=Value.isStrOf_shape (x:=x) (v:=v) h
  exact .inr ⟨x,t,rfl,e⟩
theorem yN(a b:Int):decide ((Po a:Vg)=Po b)=(a == b):=by
 by_cases e:a=b
 ·subst e; simp
 ·have h:¬ (Po a:Vg)=Po b:=λq=>e (Sum.inl.inj q)
  rw[decide_eq_false h]
  exact (beq_eq_false_iff_ne.mpr e).symm
theorem o7(a b:Str):decide ((Sum.inr a:Vg)=Sum.inr b)=decide (a=b):=by
 by_cases e:a=b
 ·subst e; simp
 ·have h:¬ (Sum.inr a:Vg)=Sum.inr b:=λq=>e (Sum.inr.inj q)
  rw[decide_eq_false h,decide_eq_false e]
theorem o8(a:Int)(b:Str):decide ((Po a:Vg)=Sum.inr b)=false:=decide_eq_false (λq=>nomatch q)
theorem p8(a:Str)(b:Int):decide ((Sum.inr a:Vg)=Po b)=false:=decide_eq_false (λq=>nomatch q)
def kZ(prog:Bp)(w:World):PySem.KeyKind prog w Vg where
 is:=xC
 hash:=Q7 w
 inj:=λv a b ha hb=>by
  rcases Ft ha with ⟨i,t,rfl,rfl⟩ | ⟨x,t,rfl,rfl⟩
  ·rcases Ft hb with ⟨j,u,rfl,e⟩ | ⟨y,u,rfl,e⟩
   ·injection e with e1 _; rw[e1]
   ·exact nomatch e
  ·rcases Ft hb with ⟨j,u,rfl,e⟩ | ⟨y,u,rfl,e⟩
   ·exact nomatch e
   ·injection e with e1 _; rw[e1]
 byValue:=λk v h=>by
  rcases Ft h with ⟨i,t,rfl,rfl⟩ | ⟨x,t,rfl,rfl⟩ <;> rfl
 pyHash:=λhv h=>by
  rcases Ft hv with ⟨i,t,rfl,rfl⟩ | ⟨x,t,rfl,rfl⟩
  ·exact wpAny_pyHash_int h
  ·exact wpAny_pyHash_str h
 eqBool:=λhu hv h=>by
  rcases Ft hu with ⟨i,t,rfl,rfl⟩ | ⟨x,t,rfl,rfl⟩
  ·rcases Ft hv with ⟨j,u,rfl,rfl⟩ | ⟨y,u,rfl,rfl⟩
   ·rw[yN] at h; exact wpAny_eqBool_int h
   ·rw[o8] at h; exact SeqAt.EqAt.int_str i t y u _ _ _ _ h
  ·rcases Ft hv with ⟨j,u,rfl,rfl⟩ | ⟨y,u,rfl,rfl⟩
   ·rw[p8] at h; exact SeqAt.EqAt.str_int x t j u _ _ _ _ h
   ·rw[o7] at h; exact wpAny_eqBool_str h
 «strs»:=λk x t v h=>by
  rcases Ft h with ⟨i,u,rfl,e⟩ | ⟨y,u,rfl,e⟩
  ·exact nomatch e
  ·injection e with e1 _
   subst e1
   cases v <;> rfl
inductive V where
 | non | bl (b:Bool) | int (i:Int) | str (x:Str) | byt (b:Array UInt8) | flt (b:UInt64) | ref (a:Addr) | ty (n:String)
 deriving DecidableEq
def RelV:V->Value->Prop
 | .non,u=>u=On
 | .bl b,u=>u=Value.bool b
 | .int i,u=>∃t,u=Value.int i t
 | .str x,u=>∃t,u=Value.str x t
 | .byt b,u=>∃t,u=Value.bytes b t
 | .flt b,u=>∃t,u=Value.float b t
 | .ref a,u=>u=Fw a
 | .ty n,u=>u=Jd n
abbrev Fc:List V->List Value->Prop:=Paired RelV
theorem Fc.length{xs:List V}{us:List Value}(r:Fc xs us):xs.length=us.length:=Paired.length r
theorem Fc.get:∀{xs:List V} {us:List Value} {i:Nat} {x:V},Fc xs us->xs[i]? = some x->∃u,us[i]? = some u/\RelV x u
 | _,_,_,_,.nil,e=>by simp at e
 | _,_,0,_,.cons r _,e=>by simp at e; subst e; exact ⟨_,rfl,r⟩
 | _,_,i+1,x,.cons _ t,e=>by
  obtain ⟨u,h1,h2⟩:=Fc.get (i:=i) (x:=x) t (by simpa using e)
  exact ⟨u,by simpa using h1,h2⟩
theorem Fc.set{x:V}{u:Value}(r:RelV x u):∀{xs:List V} {us:List Value} (i:Nat),Fc xs us->Fc (xs.set i x) (us.set i u)
 | _,_,_,.nil=>.nil
 | _,_,0,.cons _ t=>.cons r t
 | _,_,i+1,.cons q t=>.cons q (Fc.set r i t)
theorem Fc.append:∀{xs ys:List V} {us ws:List Value},Fc xs us->Fc ys ws->Fc (xs++ys) (us++ws)
 | _,_,_,_,.nil,s=>s
 | _,_,_,_,.cons r t,s=>.cons r (Fc.append t s)
theorem Fc.take:∀{xs:List V} {us:List Value} (n:Nat),Fc xs us->Fc (xs.take n) (us.take n)
 | _,_,0,_=>.nil
 | _,_,_+1,.nil=>.nil
 | _,_,n+1,.cons r t=>.cons r (Fc.take n t)
theorem Fc.drop:∀{xs:List V} {us:List Value} (n:Nat),Fc xs us->Fc (xs.drop n) (us.drop n)
 | _,_,0,r=>r
 | _,_,_+1,.nil=>.nil
 | _,_,n+1,.cons _ t=>Fc.drop n t
def l0:Option V->Option Value->Prop
 | some v,some u=>RelV v u
 | none,none=>True
 | _,_=>False
def KV{κ:Type}:List (κ×V)->List (κ×Value)->Prop:=Paired λ(p:κ×V) (q:κ×Value)=>p.1=q.1/\RelV p.2 q.2
def kV:Vg->V
 | .inl i=>.int i
 | .inr x=>.str x
inductive HO where
 /-- a list -/
 | lst (xs:List V)
 /-- a tuple (never changes) -/
 | tup (xs:List V)
 /-- a dict whose Ew are ints and texts; one whose Ew are tuples of ints and texts (the empty one is both) -/
 | dK (kvs:List (Vg×V)) | dT (kvs:List (List Vg×V))
 /-- a set of ints: its members,its size -/
 | set (S:Int->Bool) (n:Nat)
 /-- an instance of the class at C,its dict at dx,its attributes -/
 | ins (C dx:Addr) (fs:List (Str×V))
 /-- the dict of the instance at x -/
 | own (x:Addr)
 /-- the dict of an exception -/
 | xd (fs:List (Str×V))
 /-- a bound method,f of x -/
 | met (f x:Addr)
 /-- a range object lo,lo+1,.. below hi -/
 | rng (lo hi:Int)
 /-- a thing that is known to the object (the script; a dict while a loop walks it): read,never written while it is so -/
 | frz (o:Obj) (u:HO)
 /-- a code object's table -/
 | tbl (ps:Array Value)
 /-- any other thing,by what is true of its one object (a def of one's own: Uq a S n:=HO.ext λh=>..) -/
 | ext (φ:Heap->Prop)
abbrev Hp:=Addr->Option HO
def upd(H:Hp)(a:Addr)(o:HO):Hp:=λb=>if b=a then some o else H b
theorem Dh{H:Hp}{a:Addr}{o:HO}:upd H a o a=some o:=by unfold upd; rw[if_pos rfl]
theorem Ef{H:Hp}{a b:Addr}{o:HO}(h:b≠a):upd H a o b=H b:=by unfold upd; rw[if_neg h]
theorem Es{H:Hp}{a b:Addr}{o:HO}(h:H a=some o)(h':H b=none):a≠b:=by
 intro e; subst e; rw[h] at h'; cases h'
section
variable(P:Bp)(w:World)
def Ja(H:Hp)(h:Heap)(a:Addr):HO->Prop
 | .lst xs=>xs.length<=Be/\∃(its:List Value) (n:Nat),Fc xs its/\h.get? a=some { cls:=.type "list",data:=.seq its.toArray n }
 | .tup xs=>xs.length<=Be/\∃its:List Value,Fc xs its/\IsTup h a its.toArray
 | .dK kvs=>kvs.length<=Be/\(a == sysModules)=false/\∃vs,KV kvs vs/\h.DictOf (kZ P w) a vs
 | .dT kvs=>kvs.length<=Be/\(a == sysModules)=false/\∃xs:List (List Vg×Addr×Value),
   Paired (λ(p:List Vg×V) (q:List Vg×Addr×Value)=>p.1=q.1/\H q.2.1=some (.tup (p.1.map kV))/\RelV p.2 q.2.2) kvs xs /\
   ∃o es ep,h.get? a=some o/\o.ExactDict/\o.data=.dict es ep/\es.toList=xs.map (entryOfKey (tupleKind (kZ P w)))/\(xs.map (·.1)).Nodup/\ep=es.size
 | .set S n=>h.SetOf (Qw P w) a S n
 | .ins C dx fs=>H dx=some (.own a)/\fs.length<=1000/\dx≠a/\h.get? a=some (PySem.W.instObj C dx) /\
   ∃mA,h.Ns1 dx mA/\(∀f,l0 (fs.lookup f) (mA f))/\PySem.Within mA (fs.map (·.1))
 | .own _=>∃o,h.get? a=some o
 | .xd fs=>∃mA,h.Ns1 a mA/\∀f,l0 (fs.lookup f) (mA f)
 | .rng lo hi=>∃t u v,h.get? a=some { cls:=.type "range",data:=.fields #[.int lo t,.int hi u,.int 1 v] }
 | .frz o u=>h.get? a=some o/\Ja H h a u
 | .tbl ps=>∃qs:Array Value,h.get? a=some { cls:=.none,data:=.fields qs }/\TriplesOk qs.toList/\∀(pos:Pos) (v:Value),codeAmong pos qs.toList=some v->∃(c:Addr) (oc:Obj) (us:Array Value) (q:Str) (t t0:Tok),v=.ref c/\H c=some (.own a)/\h.get? c=some oc/\oc.data=.fields us/\us[1]? = some (.str q t)/\ps[0]? = some (.str q t0)
 | .met f x=>h.get? a=some (PySem.W.methodObj (.ref f) (.ref x))
 | .ext φ=>φ h/\(∃o,h.get? a=some o)/\∀h1 h2:Heap,φ h1->(∀o,h1.get? a=some o->h2.get? a=some o)->φ h2
def Xn(H:Hp)(h:Heap):Prop:=∀a o,H a=some o->Ja P w H h a o
end
section
variable{P:Bp}{w:World}{H H':Hp}{h h':Heap}{a:Addr}{o:HO}
theorem Ja.lt(x:Ja P w H h a o):a<h.objs.size:=by
 cases o with
 | lst xs=>obtain ⟨_,_,_,_,e⟩:=x; exact Bb e
 | tup xs=>obtain ⟨_,_,_,p⟩:=x; exact p.lt
 | dK kvs=>obtain ⟨_,_,_,_,o,_,_,e,_⟩:=x; exact Bb e
 | dT kvs=>obtain ⟨_,_,_,_,o,_,_,e,_⟩:=x; exact Bb e
 | set S n=>obtain ⟨o,_,_,_,e,_⟩:=x; exact Bb e
 | ins C dx fs=>obtain ⟨_,_,_,e,_⟩:=x; exact Bb e
 | own y=>obtain ⟨_,e⟩:=x; exact Bb e
 | xd fs=>obtain ⟨_,⟨_,_,_,e,_⟩,_⟩:=x; exact Bb e
 | rng lo hi=>obtain ⟨_,_,_,e⟩:=x; exact Bb e
 | frz ob u=>obtain ⟨e,_⟩:=x; exact Bb e
 | tbl ps=>obtain ⟨_,e,_⟩:=x; exact Bb e
 | met f y=>exact Bb (show h.get? a=some _ from x)
 | ext φ=>obtain ⟨_,⟨_,e⟩,_⟩:=x; exact Bb e
theorem Paired.mapP{α β:Type}{F G:α->β->Prop}:∀{l₁:List α} {l₂:List β},Paired F l₁ l₂->(∀a b,F a b->G a b)->Paired G l₁ l₂
 | _,_,.nil,_=>.nil
 | _,_,.cons r t,f=>.cons (f _ _ r) (Paired.mapP t f)
theorem Ja.stay(x:Ja P w H h a o)(k:∀b u,(b=a\/H b=some (.own a))->h.get? b=some u->h'.get? b=some u)(ho:∀b,H b=some (.own a)->H' b=some (.own a))(ht:∀b xs,H b=some (.tup xs)->H' b=some (.tup xs)):Ja P w H' h' a o:=by
 induction o with
 | lst xs=>obtain ⟨z,its,n,r,e⟩:=x; exact ⟨z,its,n,r,k _ _ (.inl rfl) e⟩
 | tup xs=>obtain ⟨z,its,r,ob,e,c⟩:=x; exact ⟨z,its,r,ob,k _ _ (.inl rfl) e,c⟩
 | dK kvs=>obtain ⟨z,y,vs,r,ob,es,ep,e,c⟩:=x; exact ⟨z,y,vs,r,ob,es,ep,k _ _ (.inl rfl) e,c⟩
 | dT kvs =>
  obtain ⟨z,y,xs,r,ob,es,ep,e,c⟩:=x
  exact ⟨z,y,xs,Paired.mapP r λp q z=>⟨z.1,ht _ _ z.2.1,z.2.2⟩,ob,es,ep,k _ _ (.inl rfl) e,c⟩
 | set S n=>obtain ⟨ob,es,ep,t,e,c⟩:=x; exact ⟨ob,es,ep,t,k _ _ (.inl rfl) e,c⟩
 | ins C dx fs =>
  obtain ⟨d,z,ne,e,mA,⟨od,es,ep,e2,c⟩,r⟩:=x
  exact ⟨ho _ d,z,ne,k _ _ (.inl rfl) e,mA,⟨od,es,ep,k _ _ (.inr d) e2,c⟩,r⟩
 | own y=>obtain ⟨ob,e⟩:=x; exact ⟨ob,k _ _ (.inl rfl) e⟩
 | xd fs=>obtain ⟨mA,⟨od,es,ep,e,c⟩,r⟩:=x; exact ⟨mA,⟨od,es,ep,k _ _ (.inl rfl) e,c⟩,r⟩
 | rng lo hi=>obtain ⟨t,u,v,e⟩:=x; exact ⟨t,u,v,k _ _ (.inl rfl) e⟩
 | frz ob u ih=>obtain ⟨e,q⟩:=x; exact ⟨k _ _ (.inl rfl) e,ih q⟩
 | tbl ps =>
  obtain ⟨qs,e,t,z⟩:=x
  exact ⟨qs,k _ _ (.inl rfl) e,t,λpos v y=>by
   obtain ⟨c,oc,us,q,t,t0,h1,h2,h3,h4⟩:=z pos v y
   exact ⟨c,oc,us,q,t,t0,h1,ho _ h2,k _ _ (.inr h2) h3,h4⟩⟩
 | met f y =>
  have e:h.get? a=some (PySem.W.methodObj (.ref f) (.ref y)):=x
  show h'.get? a=some (PySem.W.methodObj (.ref f) (.ref y))
  exact k a _ (.inl rfl) e
 | ext φ=>obtain ⟨p,⟨o,e⟩,st⟩:=x; exact ⟨st _ _ p λo q=>k _ _ (.inl rfl) q,⟨o,k _ _ (.inl rfl) e⟩,st⟩
theorem Xn.lt(x:Xn P w H h)(e:H a=some o):a<h.objs.size:=(x a o e).lt
theorem Xn.fresh(x:Xn P w H h)(e:h.objs.size<=a):H a=none:=by
 cases q:H a with
 | none=>rfl
 | some u=>exact absurd (Bu (x.lt q) e) (Fb _)
theorem Xn.kept(x:Xn P w H h)(k:∀b u,h.get? b=some u->h'.get? b=some u):Xn P w H h':=λa o e =>
 (x a o e).stay (λb u _ q=>k b u q) (λ_ q=>q) λ_ _ q=>q
theorem Xn.laid(x:Xn P w H h)(k:∀b u,h.get? b=some u->h'.get? b=some u)(hp:h.objs.size<=a)(new:Ja P w (upd H a o) h' a o):Xn P w (upd H a o) h':=λb u e=>by
 have hn:=x.fresh hp
 by_cases hb:b=a
 ·subst hb; rw[Dh] at e; cases e; exact new
 ·rw[Ef hb] at e
  exact (x b u e).stay (λc v _ q=>k c v q) (λc q=>by rw[Ef (Es q hn)]; exact q) λc xs q=>by rw[Ef (Es q hn)]; exact q
end
def Rd(H:Hp)(a:Addr)(u:HO):Prop:=H a=some u\/∃o,H a=some (.frz o u)
theorem Rd.ok{P:Bp}{w:World}{H:Hp}{h:Heap}{a:Addr}{u:HO}(r:Rd H a u)(x:Xn P w H h):Ja P w H h a u:=by
 rcases r with r | ⟨o,r⟩
 ·exact x a u r
 ·obtain ⟨_,q⟩:=x a _ r
  exact q
def N5:Option HO->Prop
 | some (.lst _)=>True
 | some (.dK _)=>True
 | some (.dT _)=>True
 | some (.set _ _)=>True
 | some (.ins _ _ _)=>True
 | some (.ext _)=>True
 | _=>False
section
variable{P:Bp}{w:World}{H:Hp}{h h':Heap}{x e:Addr}{o':HO}
theorem Xn.write(ok:Xn P w H h)(mu:N5 (H x))(he:e=x\/H e=some (.own x))(k:∀b u,b≠e->h.get? b=some u->h'.get? b=some u)(heo:∃u,h'.get? e=some u)(new:Ja P w (upd H x o') h' x o'):Xn P w (upd H x o') h':=λb u q=>by
 have nown:∀c y,H c=some (.own y)->c≠x:=λc y r z=>by subst z; rw[r] at mu; exact mu
 have aB:∀c xs,H c=some (.tup xs)->c≠x:=λc xs r z=>by subst z; rw[r] at mu; exact mu
 by_cases hb:b=x
 ·subst hb; rw[Dh] at q; cases q; exact new
 ·rw[Ef hb] at q
  by_cases hbe:b=e
  ·have q':H b=some (.own x):=by
    rcases he with z | z
    ·exact absurd (hbe.trans z) hb
    ·rw[hbe]; exact z
   rw[q] at q'; cases q'
   obtain ⟨v,hv⟩:=heo
   exact ⟨v,by rw[hbe]; exact hv⟩
  ·refine (ok b u q).stay (λc v hc r=>k c v ?_ r) (λc r=>by rw[Ef (nown c b r)]; exact r) λc xs r=>by rw[Ef (aB c xs r)]; exact r
   rcases hc with rfl | hc
   ·exact hbe
   ·rintro rfl
    rcases he with z | z
    ·exact nown c b hc z
    ·rw[hc] at z; cases z; exact hb rfl
end
structure Un(fs ex:List Addr)(H H':Hp)(h h':Heap):Prop where
 keep:∀b o,h.get? b=some o->H b=none->b∉fs->b∉ex->h'.get? b=some o
 slot:∀b o,h.get? b=some o->H b=none->b∈fs->b∉ex->∃sl,h'.get? b=some { o with slots:=sl }
 free:∀b o,h.get? b=some o->H b=none->b∉ex->H' b=none
 there:∀b o,h.get? b=some o->b∉ex->∃o',h'.get? b=some o'
 tups:∀b xs,H b=some (.tup xs)->H' b=some (.tup xs)
 frzs:∀b o u,H b=some (.frz o u)->H' b=some (.frz o u)
 tbls:∀b ps,H b=some (.tbl ps)->∃more,H' b=some (.tbl (ps++more))
section
variable{fs fs' ex ex':List Addr}{H H1 H2:Hp}{h h1 h2 h':Heap}{a x e:Addr}{o:HO}
theorem Un.any(u:Un fs ex H H1 h h1){b:Addr}{ob:Obj}(q:h.get? b=some ob)(n:H b=none)(hx:b∉ex):∃sl,h1.get? b=some { ob with slots:=sl }:=by
 by_cases hb:b∈fs
 ·exact u.slot b ob q n hb hx
 ·exact ⟨ob.slots,u.keep b ob q n hb hx⟩
theorem Un.kept(k:∀b u,h.get? b=some u->h'.get? b=some u):Un fs ex H H h h' :=
 ⟨λb ob q _ _ _=>k b ob q,λb ob q _ _ _=>⟨ob.slots,k b ob q⟩,λ_ _ _ n _=>n,λb ob q _=>⟨ob,k b ob q⟩,λ_ _ q=>q,λ_ _ _ q=>q,λ_ ps q=>⟨#[],by rw[q]; simp⟩⟩
theorem Un.refl:Un fs ex H H h h:=Un.kept λ_ _ q=>q
theorem Un.laid(k:∀b u,h.get? b=some u->h'.get? b=some u)(hp:h.objs.size<=a)(hn:H a=none):Un fs ex H (upd H a o) h h' where
 keep:=λb u q _ _ _=>k b u q
 slot:=λb u q _ _ _=>⟨u.slots,k b u q⟩
 free:=λb u q n _=>by rw[Ef (Cv (Bu (Bb q) hp))]; exact n
 there:=λb u q _=>⟨u,k b u q⟩
 tups:=λb xs q=>by rw[Ef (Es q hn)]; exact q
 frzs:=λb u xs q=>by rw[Ef (Es q hn)]; exact q
 tbls:=λb ps q=>⟨#[],by rw[Ef (Es q hn),q]; simp⟩
theorem Un.write(mu:N5 (H x))(he:e=x\/H e=some (.own x))(k:∀b u,b≠e->h.get? b=some u->h'.get? b=some u)(heo:∃u,h'.get? e=some u):Un fs ex H (upd H x o) h h':=by
 have hx:∀b,H b=none->b≠x:=λb n z=>by subst z; rw[n] at mu; exact mu
 have hb:∀b,H b=none->b≠e:=λb n z=>by
  subst z
  rcases he with r | r
  ·exact hx b n r
  ·rw[n] at r; cases r
 have hm:∀b u,H b=some u->¬ N5 (some u)->b≠x:=λb u q nm z=>by subst z; rw[q] at mu; exact nm mu
 refine ⟨λb u q n _ _=>k b u (hb b n) q,λb u q n _ _=>⟨u.slots,k b u (hb b n) q⟩,λb u q n _=>by rw[Ef (hx b n)]; exact n,λb u q _=>?_,
  λb xs q=>by rw[Ef (hm b _ q λz=>z)]; exact q,λb u xs q=>by rw[Ef (hm b _ q λz=>z)]; exact q,λb ps q=>⟨#[],by rw[Ef (hm b _ q λz=>z),q]; simp⟩⟩
 by_cases hbe:b=e
 ·subst hbe; exact heo
 ·exact ⟨u,k b u hbe q⟩
end
def N0(h:Heap)(H:Hp):List Addr:=(Bi h.objs.size).filter λa=>(H a).isSome
def Yo(h:Heap)(H:Hp):Heap:=PySem.W.hideAll h (N0 h H)
theorem lK(h:Heap)(H:Hp):(Yo h H).objs.size=h.objs.size:=PySem.W.hideAll_size _ _
theorem oI{h:Heap}{H:Hp}{b:Addr}{o:Obj}(e:h.get? b=some o)(n:H b=none):(Yo h H).get? b=some o :=
 PySem.W.hideAll_get _ e λhm=>by
  have q:(H b).isSome=true:=(List.mem_filter.mp hm).2
  rw[n] at q; simp at q
theorem wA{h:Heap}{H:Hp}{b:Addr}{o:Obj}(e:(Yo h H).get? b=some o):h.get? b=some o/\H b=none:=by
 have e':h.get? b=some o:=PySem.W.of_hideAll (N0 h H) e
 refine ⟨e',?_⟩
 cases q:H b with
 | none=>rfl
 | some x =>
  have hm:b∈N0 h H:=List.mem_filter.mpr ⟨Dz.mpr (Bb e'),by simp [q]⟩
  have z:(Yo h H).get? b=none:=PySem.W.hideAll_none (N0 h H) hm
  rw[z] at e; cases e
def uH(g h:Heap)(L:Addr):List (Addr×Obj):=(Bi h.objs.size).filterMap λa=>if a=L\/(g.get? a).isSome=true then none else (h.get? a).map λo=>(a,o)
def Mv(g h:Heap)(L d:Addr):List (Addr×Obj):=(uH g h L).filter λp=>decide (p.1≠d)
structure Mod(K:PySem.W.Frag)(mg:Str->Option Value)(base:Heap):Prop where
 kin:K.In base
 glob:base.Ns Ck mg
 blt:∃mb,base.Ns Qy mb/\∀x:Str,x ≠ "__name__" -> mb x=Ht x
 nolimit:base.NoLimit
def Rh:List Str:=["often", "cut_by"]
def u7(x:Str):Str:=x ++ ".<locals>." ++ "<lambda>"
def xI(H:Hp)(P:Addr)(q:Str):Prop:=∃(ps:Array Value) (t0:Tok),H P=some (.tbl ps)/\ps[0]? = some (.str q t0)
def sC(K:PySem.W.Frag)(mg:Str->Option Value)(base:Heap)(H:Hp):Prop:=∀x∈Rh,∀c P,PySem.W.tabIn K x=some (c,P)->PySem.W.CodeHd base c P/\base.BuiltinsAt mg P/\xI H P (u7 x)
theorem sC.un{K:PySem.W.Frag}{mg:Str->Option Value}{base:Heap}{fs ex:List Addr}{H H':Hp}{h h':Heap}(t:sC K mg base H)(u:Un fs ex H H' h h'):sC K mg base H':=λx hx c P e=>by
 obtain ⟨h1,h2,ps,t0,h3,h4⟩:=t x hx c P e
 obtain ⟨more,h5⟩:=u.tbls P ps h3
 refine ⟨h1,h2,ps++more,t0,h5,?_⟩
 have hl:0<ps.size:=by
  rcases Nat.eq_zero_or_pos ps.size with z | z
  ·rw[Oo (by omega)] at h4; cases h4
  ·exact z
 rw[Array.getElem?_append_left hl]
 exact h4
structure Cx where
 prog:Bp
 w:World
 K:PySem.W.Frag
 mg:Str->Option Value
 base:Heap
 A:Dg
 N:List Str
 s₀:Al
 H₀:Hp
 env:Env
 outer:List Env
 stack:List Env
 ex:List Addr
 fn:Str->Bool
 calm:Bool
 pn:List (Addr×Obj)
 xe:Value->Al->Prop
def mO(l:List Env):List Addr:=l.filterMap (·.frame)
abbrev Cx.fs(X:Cx):List Addr:=mO X.outer
def K8(sc:Scope)(x:Str):Prop:=sc.names.lookup x=some .local\/sc.names.lookup x=some .cell\/sc.names.lookup x=some .free
def Loc(sc:Scope)(x:Str):Prop:=sc.names.lookup x=some .local\/sc.names.lookup x=some .cell
def Q0(env:Env)(h:Heap)(m:Str->Option Value)(x:Str)(u:Value):Prop :=
 (env.kindOf x=some .local/\m x=some u)\/((env.kindOf x=some .cell\/env.kindOf x=some .free)/\∃c,env.cells.lookup x=some c/\h.IsCell c (some u))
structure Cx.Ok(X:Cx):Prop where
 mod:Mod X.K X.mg X.base
 kind:X.env.scope.kind=.function
 glob:X.env.globals=Ck
 blt:X.env.builtins=Qy
 above:X.s₀.heap.objs.size<=X.env.locals
 inj:∀x y c,X.env.cells.lookup x=some c->X.env.cells.lookup y=some c->x=y
 has:∀x,(X.env.kindOf x=some .cell\/X.env.kindOf x=some .free)->∃c,X.env.cells.lookup x=some c
 cab:∀x c,X.fn x=true->X.env.cells.lookup x=some c->X.s₀.heap.objs.size<=c
 hd:X.calm=true->X.A.handled=none
 frames:X.A.frames=some X.stack
 stk:X.stack=X.outer\/(X.stack=X.env::X.outer/\X.env.frame=some X.env.locals)
 exf:∀b∈X.ex,b≠X.env.locals/\∀x c,X.env.cells.lookup x=some c->c≠b
 bs:∀b o,X.base.get? b=some o->X.s₀.heap.get? b=some o/\X.H₀ b=none
 bsz:X.base.objs.size<=X.s₀.heap.objs.size
 noex:∀b o,X.base.get? b=some o->b∉X.ex
 exfs:∀b∈X.ex,b∉X.fs
 funs:X.s₀.heap.FunFrames X.base X.outer
 frf:∀b∈X.fs,X.H₀ b=none
 tab:sC X.K X.mg X.base X.H₀
structure Inv(X:Cx)(pins:List (Addr×Obj))(σ:List (Option V))(H:Hp)(s:Al):Prop where
 ok:X.Ok
 os:s.os=X.s₀.os
 bare:Pd s.gens
 base:Un X.fs X.ex X.H₀ H X.s₀.heap s.heap
 loc:∃m,s.heap.Ns X.env.locals m/\∀(i:Nat) (x:Str) (v:V),X.N[i]? = some x->σ[i]? = some (some v)->K8 X.env.scope x->∃u,RelV v u/\Q0 X.env s.heap m x u
 cell:∀x c,X.env.cells.lookup x=some c->∃v,s.heap.IsCell c v
 free:H X.env.locals=none
 freeC:∀x c,X.env.cells.lookup x=some c->H c=none
 pin:∀p∈X.pn++pins,s.heap.get? p.1=some p.2/\H p.1=none/\p.1≠X.env.locals/\p.1∉X.fs/\∀v,p.2.data≠.cell v
 hok:Xn X.prog X.w H s.heap
 len:σ.length=X.N.length
section
variable{X:Cx}{pins:List (Addr×Obj)}{σ:List (Option V)}{H H':Hp}{s:Al}{h':Heap}
theorem Cx.Ok.nofr(ok:X.Ok){b:Addr}{o:Obj}(e:X.base.get? b=some o):b∉X.fs:=λhb=>by
 have:=(ok.funs.mem hb).1
 rw[e] at this; cases this
theorem Inv.bs(I:Inv X pins σ H s):∀b o,X.base.get? b=some o->s.heap.get? b=some o/\H b=none:=λb o e =>
 ⟨I.base.keep b o (I.ok.bs b o e).1 (I.ok.bs b o e).2 (I.ok.nofr e) (I.ok.noex b o e),I.base.free b o (I.ok.bs b o e).1 (I.ok.bs b o e).2 (I.ok.noex b o e)⟩
theorem Inv.bk(I:Inv X pins σ H s):∀b o,X.base.get? b=some o->s.heap.get? b=some o:=λb o e=>(I.bs b o e).1
theorem Inv.mod(I:Inv X pins σ H s):Mod X.K X.mg X.base:=I.ok.mod
theorem Inv.kIn(I:Inv X pins σ H s):X.K.In s.heap:=I.ok.mod.kin.keeps I.bk
theorem Inv.lt(I:Inv X pins σ H s):X.env.locals<s.heap.objs.size:=let ⟨_,hn,_⟩:=I.loc; hn.lt
theorem Inv.sz(I:Inv X pins σ H s):X.s₀.heap.objs.size<=s.heap.objs.size:=Bk I.ok.above (Hh I.lt)
theorem Inv.nofs(I:Inv X pins σ H s){a:Addr}(h:s.heap.objs.size<=a):a∉X.fs:=λhb=>by
 obtain ⟨_,o,ho,_⟩:=I.ok.funs.mem hb
 exact absurd (Bu (Bb ho) (Bk I.sz h)) (Fb _)
theorem Inv.cne(I:Inv X pins σ H s):∀x c,X.env.cells.lookup x=some c->c≠X.env.locals:=λx c e z=>by
 obtain ⟨v,o,ho,hd⟩:=I.cell x c e
 obtain ⟨m,⟨o',es,ep,ho',hd',_⟩,_⟩:=I.loc
 rw[z,ho'] at ho; cases ho; rw[hd'] at hd; cases hd
theorem Inv.funs(I:Inv X pins σ H s):s.heap.FunFrames X.base X.outer:=by
 have all:∀(l:List Env),(∀b∈mO l,b∈X.fs)->X.s₀.heap.FunFrames X.base l->s.heap.FunFrames X.base l:=by
  intro l
  induction l with
  | nil=>intro _ _; trivial
  | cons env r ih =>
   intro hs hl
   obtain ⟨hk,⟨L,o,hf,hn,ho,hd⟩,hr⟩:=hl
   have hL:L∈X.fs:=hs L (by unfold mO; rw[Iy,hf]; exact Aa)
   obtain ⟨sl,e⟩:=I.base.slot L o ho (I.ok.frf L hL) hL λz=>I.ok.exfs L z hL
   exact ⟨hk,⟨L,_,hf,hn,e,hd⟩,ih (λb hb=>hs b (by unfold mO; rw[Iy,hf]; exact Ab _ hb)) hr⟩
 exact all X.outer (λ_ hb=>hb) I.ok.funs
theorem Inv.stack(I:Inv X pins σ H s):s.heap.FunFrames X.base X.stack:=by
 rcases I.ok.stk with e | ⟨e,hf⟩
 ·rw[e]; exact I.funs
 ·rw[e]
  obtain ⟨m,hn,_⟩:=I.loc
  refine .cons (by rw[I.ok.kind]; decide) hf hn ?_ I.funs
  exact Qv (Bk I.ok.bsz I.ok.above)
theorem Inv.stkSub(I:Inv X pins σ H s):∀b∈mO X.stack,b∈X.env.locals::X.fs:=λb hb=>by
 rcases I.ok.stk with e | ⟨e,hf⟩
 ·rw[e] at hb; exact Ab _ hb
 ·rw[e] at hb
  unfold mO at hb
  rw[Iy,hf] at hb
  exact hb
theorem Inv.stkFree(I:Inv X pins σ H s):∀b∈mO X.stack,H b=none:=λb hb=>by
 rcases Ag.mp (I.stkSub b hb) with e | hb
 ·rw[e]; exact I.free
 ·obtain ⟨_,o,ho,_⟩:=I.ok.funs.mem hb
  exact I.base.free b o ho (I.ok.frf b hb) λz=>I.ok.exfs b z hb
theorem Inv.step{g':Array GenState}{t':Nat}{d':Drawn}{ch:List Addr}(I:Inv X pins σ H s)(hch:∀b∈ch,(b∈X.ex\/X.s₀.heap.objs.size<=b)/\b≠X.env.locals/\(∀x c,X.env.cells.lookup x=some c->c≠b)/\∀p∈X.pn++pins,p.1≠b)(keep:∀b o,b≠X.env.locals->b∉X.fs->b∉ch->s.heap.get? b=some o->H b=none->h'.get? b=some o)(slot:∀b o,b≠X.env.locals->b∈X.fs->b∉ch->s.heap.get? b=some o->H b=none->∃sl,h'.get? b=some { o with slots:=sl })(free:∀b o,b∉ch->s.heap.get? b=some o->H b=none->H' b=none)(there:∀b o,b∉ch->s.heap.get? b=some o->∃o',h'.get? b=some o')(tups:∀b xs,H b=some (.tup xs)->H' b=some (.tup xs))(frzs:∀b o u,H b=some (.frz o u)->H' b=some (.frz o u))(tbls:∀b ps,H b=some (.tbl ps)->∃more,H' b=some (.tbl (ps++more)))(ns:∀m,s.heap.Ns X.env.locals m->h'.Ns X.env.locals m)(hok:Xn X.prog X.w H' h')(hg:Pd g'):Inv X pins σ H' { s with heap:=h',gens:=g',drawn:=d',toks:=t' }:=by
 have neL:∀b o,X.s₀.heap.get? b=some o->b≠X.env.locals:=λb o e=>Cv (Bu (Bb e) I.ok.above)
 have neC:∀b o,X.s₀.heap.get? b=some o->b∉X.ex->b∉ch:=λb o e hx hb=>by
  rcases (hch b hb).1 with z | z
  ·exact hx z
  ·exact absurd (Bu (Bb e) z) (Fb _)
 have cellK:∀x c,X.env.cells.lookup x=some c->∀v,s.heap.IsCell c v->h'.IsCell c v:=λx c e v ⟨o,ho,hd⟩=>by
  have nch:c∉ch:=λz=>(hch c z).2.2.1 x c e rfl
  by_cases hc:c∈X.fs
  ·obtain ⟨sl,q⟩:=slot c o (I.cne x c e) hc nch ho (I.freeC x c e)
   exact ⟨_,q,hd⟩
  ·exact ⟨o,keep c o (I.cne x c e) hc nch ho (I.freeC x c e),hd⟩
 refine ⟨I.ok,I.os,hg,⟨λb o e n hb hx=>?_,λb o e n hb hx=>?_,λb o e n hx=>?_,λb o e hx=>?_,λb xs e=>tups b xs (I.base.tups b xs e),λb o xs e=>frzs b o xs (I.base.frzs b o xs e),λb ps e=>?_⟩,?_,λx c e=>?_,?_,λx c e=>?_,λp hp=>?_,hok,I.len⟩
 ·exact keep b o (neL b o e) hb (neC b o e hx) (I.base.keep b o e n hb hx) (I.base.free b o e n hx)
 ·obtain ⟨sl,e1⟩:=I.base.slot b o e n hb hx
  obtain ⟨sl',e2⟩:=slot b _ (neL b o e) hb (neC b o e hx) e1 (I.base.free b o e n hx)
  exact ⟨sl',e2⟩
 ·obtain ⟨o',e1⟩:=I.base.there b o e hx
  exact free b o' (neC b o e hx) e1 (I.base.free b o e n hx)
 ·obtain ⟨o',e1⟩:=I.base.there b o e hx
  exact there b o' (neC b o e hx) e1
 ·obtain ⟨m1,e1⟩:=I.base.tbls b ps e
  obtain ⟨m2,e2⟩:=tbls b _ e1
  exact ⟨m1++m2,by rw[e2,Array.append_assoc]⟩
 ·obtain ⟨m,hn,hl⟩:=I.loc
  refine ⟨m,ns m hn,λi x v e1 e2 e3=>?_⟩
  obtain ⟨u,r,l⟩:=hl i x v e1 e2 e3
  refine ⟨u,r,?_⟩
  rcases l with l | ⟨k,c,e,z⟩
  ·exact .inl l
  ·exact .inr ⟨k,c,e,cellK x c e _ z⟩
 ·obtain ⟨v,z⟩:=I.cell x c e
  exact ⟨v,cellK x c e v z⟩
 ·obtain ⟨m,⟨o,_,_,ho,_⟩,_⟩:=I.loc
  exact free _ o (λz=>(hch _ z).2.1 rfl) ho I.free
 ·obtain ⟨v,o,ho,hd⟩:=I.cell x c e
  exact free c o (λz=>(hch c z).2.2.1 x c e rfl) ho (I.freeC x c e)
 ·obtain ⟨e,n,ne,nf,d⟩:=I.pin p hp
  have nch:p.1∉ch:=λz=>(hch p.1 z).2.2.2 p hp rfl
  exact ⟨keep p.1 p.2 ne nf nch e n,free p.1 p.2 nch e n,ne,nf,d⟩
theorem Inv.un{t':Nat}(I:Inv X pins σ H s)(u:Un X.fs [] H H' s.heap h')(hok:Xn X.prog X.w H' h'):Inv X pins σ H' { s with heap:=h',toks:=t' }:=by
 obtain ⟨m,⟨o,es,ep,ho,r⟩,_⟩:=id I.loc
 obtain ⟨sl,hL⟩:=u.any ho I.free (by simp)
 exact I.step (g':=s.gens) (d':=s.drawn) (ch:=[]) (λ_ z=>nomatch z) (λb o _ hb _ e n=>u.keep b o e n hb (by simp)) (λb o _ hb _ e n=>u.slot b o e n hb (by simp)) (λb o _ e n=>u.free b o e n (by simp)) (λb o _ e=>u.there b o e (by simp)) u.tups u.frzs u.tbls (λm' hm=>by
  obtain ⟨o',es',ep',ho',r'⟩:=hm
  rw[ho] at ho'; cases ho'
  exact ⟨_,es',ep',hL,r'⟩) hok I.bare
theorem Inv.call{g':Array GenState}{t':Nat}{d':Drawn}{ch:List Addr}(I:Inv X pins σ H s)(u:Un (mO X.stack) ch H H' s.heap h')(hok:Xn X.prog X.w H' h')(hg:Pd g')(hch:∀b∈ch,(b∈X.ex\/X.s₀.heap.objs.size<=b)/\b≠X.env.locals/\(∀x c,X.env.cells.lookup x=some c->c≠b)/\∀p∈X.pn++pins,p.1≠b):Inv X pins σ H' { s with heap:=h',gens:=g',drawn:=d',toks:=t' }:=by
 obtain ⟨m,⟨o,es,ep,ho,r⟩,_⟩:=id I.loc
 obtain ⟨sl,hL⟩:=u.any ho I.free λz=>(hch _ z).2.1 rfl
 exact I.step (ch:=ch) hch (λb o hL hb hc e n=>u.keep b o e n (λz=>(Ag.mp (I.stkSub b z)).elim hL hb) hc) (λb o _ _ hc e n=>u.any e n hc) (λb o hc e n=>u.free b o e n hc) (λb o hc e=>u.there b o e hc) u.tups u.frzs u.tbls (λm' hm=>by
  obtain ⟨o',es',ep',ho',r'⟩:=hm
  rw[ho] at ho'; cases ho'
  exact ⟨_,es',ep',hL,r'⟩) hok hg
theorem Inv.turned{t':Nat}{it:Addr}(I:Inv X pins σ H s)(k:∀b o,b≠it->s.heap.get? b=some o->h'.get? b=some o)(hn:H it=none)(hL:it≠X.env.locals)(h1:it∈X.ex\/X.s₀.heap.objs.size<=it)(h2:∀x c,X.env.cells.lookup x=some c->c≠it)(h3:∀p∈X.pn++pins,p.1≠it):Inv X pins σ H { s with heap:=h',toks:=t' }:=by
 have nit:∀b u,H b=some u->b≠it:=λb u e z=>by rw[z,hn] at e; cases e
 refine I.step (g':=s.gens) (d':=s.drawn) (ch:=[it]) (λb hb=>?_) (λb o _ _ hc e _=>k b o (λz=>hc (by simp [z])) e) (λb o _ _ hc e _=>⟨o.slots,k b o (λz=>hc (by simp [z])) e⟩) (λ_ _ _ _ n=>n)
  (λb o hc e=>⟨o,k b o (λz=>hc (by simp [z])) e⟩) (λ_ _ e=>e) (λ_ _ _ e=>e) (λb ps e=>⟨#[],by rw[e]; simp⟩) (λm hm=>?_) (λb u e=>?_) I.bare
 ·have e:b=it:=by simpa using hb
  subst e
  exact ⟨h1,hL,h2,h3⟩
 ·obtain ⟨o,es,ep,ho,r⟩:=hm
  exact ⟨o,es,ep,k _ o (Lg hL) ho,r⟩
 ·refine (I.hok b u e).stay (λc v hc q=>k c v ?_ q) (λ_ q=>q) λ_ _ q=>q
  rcases hc with z | z
  ·rw[z]; exact nit b u e
  ·exact nit c _ z
theorem Inv.tok(I:Inv X pins σ H s)(t:Nat):Inv X pins σ H { s with toks:=t }:=I.un (h':=s.heap) (t':=t) Un.refl I.hok
theorem Inv.kept{t':Nat}(I:Inv X pins σ H s)(k:∀b u,s.heap.get? b=some u->h'.get? b=some u):Inv X pins σ H { s with heap:=h',toks:=t' }:=I.un (Un.kept k) (I.hok.kept k)
theorem Inv.laid{a:Addr}{o:HO}{t':Nat}(I:Inv X pins σ H s)(k:∀b u,s.heap.get? b=some u->h'.get? b=some u)(hp:s.heap.objs.size<=a)(new:Ja X.prog X.w (upd H a o) h' a o):Inv X pins σ (upd H a o) { s with heap:=h',toks:=t' }:=I.un (Un.laid k hp (I.hok.fresh hp)) (I.hok.laid k hp new)
theorem Inv.write{x e:Addr}{o:HO}{t':Nat}(I:Inv X pins σ H s)(mu:N5 (H x))(he:e=x\/H e=some (.own x))(k:∀b u,b≠e->s.heap.get? b=some u->h'.get? b=some u)(heo:∃u,h'.get? e=some u)(new:Ja X.prog X.w (upd H x o) h' x o):Inv X pins σ (upd H x o) { s with heap:=h',toks:=t' }:=I.un (Un.write mu he k heo) (I.hok.write mu he k heo new)
theorem Inv.pins_of{pins':List (Addr×Obj)}(I:Inv X pins σ H s)(h:∀p∈pins',s.heap.get? p.1=some p.2/\H p.1=none/\p.1≠X.env.locals/\p.1∉X.fs/\∀v,p.2.data≠.cell v):Inv X pins' σ H s :=
 ⟨I.ok,I.os,I.bare,I.base,I.loc,I.cell,I.free,I.freeC,λp hp=>(Ay.mp hp).elim (λz=>I.pin p (Am _ z)) (h p),I.hok,I.len⟩
theorem dX{N:List Str}(hN:N.Nodup){i j:Nat}{x:Str}(a:N[i]? = some x)(b:N[j]? = some x):i=j:=by
 obtain ⟨h1,e1⟩:=Aw.mp a
 obtain ⟨h2,e2⟩:=Aw.mp b
 exact (List.getElem_inj hN).mp (e1.trans e2.symm)
theorem nE{M:Model}{A:Dg}{E:Value->Al->Prop}{i:Nat}{x:Str}{v:V}{u:Value}{Q:Unit->Al->Prop}(I:Inv X pins σ H s)(hN:X.N.Nodup)(hi:X.N[i]? = some x)(hx:Loc X.env.scope x)(r:RelV v u)(h:∀s',Inv X pins (σ.set i (some v)) H s'->(∃a,Eo a s.heap s'.heap/\(a=X.env.locals\/X.env.cells.lookup x=some a))->Q () s')(hf:X.fn x=true\/X.env.scope.names.lookup x=some .local:=by first | exact .inl rfl | exact .inr rfl | assumption):wpAny M A (storeName X.env x u) Q E s:=by
 obtain ⟨m,hn,hl⟩:=id I.loc
 have hcls:(X.env.scope.kind == .class || (X.env.scope.kind == .module && X.env.locals != X.env.globals))=false:=by rw[I.ok.kind]; rfl
 have hiσ:i<σ.length:=by rw[I.len]; exact (Aw.mp hi).1
 have cne:=I.cne
 have tracked:∀{a:Addr} {h':Heap},(∃o,s.heap.get? a=some o/\H a=none)->Eo a s.heap h'->Xn X.prog X.w H h':=λ{a h'} ha hs b ob e=>by
  obtain ⟨_,_,hfree⟩:=ha
  refine (I.hok b ob e).stay (λc w' hc q=>(hs.2 c ?_).trans q) (λ_ q=>q) λ_ _ q=>q
  rintro rfl
  rcases hc with rfl | hc
  ·rw[hfree] at e; cases e
  ·rw[hfree] at hc; cases hc
 rcases hx with hk | hk
 ·refine wpAny_storeName_local hk hn (λh' hn' hs=>?_) hcls
  obtain ⟨oL,_,_,hoL,_⟩:=id hn
  refine h _ ⟨I.ok,I.os,I.bare,⟨λb o e n hb hx=>?_,λb o e n hb hx=>?_,I.base.free,λb o e hx=>?_,I.base.tups,I.base.frzs,I.base.tbls⟩,⟨_,hn',λj y v' e1 e2 e3=>?_⟩,λy c e=>?_,I.free,I.freeC,λp hp=>?_,tracked ⟨oL,hoL,I.free⟩ hs,by simpa using I.len⟩ ⟨_,hs,.inl rfl⟩
  ·exact (hs.2 b (Cv (Bu (Bb e) I.ok.above))).trans (I.base.keep b o e n hb hx)
  ·obtain ⟨sl,e1⟩:=I.base.slot b o e n hb hx
   exact ⟨sl,(hs.2 b (Cv (Bu (Bb e) I.ok.above))).trans e1⟩
  ·obtain ⟨o',e1⟩:=I.base.there b o e hx
   exact ⟨o',(hs.2 b (Cv (Bu (Bb e) I.ok.above))).trans e1⟩
  ·by_cases hj:j=i
   ·subst hj
    rw[hi] at e1; cases e1
    rw[iZ hiσ] at e2
    cases e2
    exact ⟨u,r,.inl ⟨hk,by simp⟩⟩
   ·rw[List.getElem?_set_ne (Lg hj)] at e2
    obtain ⟨u',r',q⟩:=hl j y v' e1 e2 e3
    refine ⟨u',r',?_⟩
    rcases q with ⟨k,e⟩ | ⟨k,c,e,z⟩
    ·refine .inl ⟨k,?_⟩
     have : y≠x:=λe=>hj (dX hN e1 (e▸hi))
     simp [this,e]
    ·exact .inr ⟨k,c,e,z.sameBut hs (cne y c e)⟩
  ·obtain ⟨w',z⟩:=I.cell y c e
   exact ⟨w',z.sameBut hs (cne y c e)⟩
  ·obtain ⟨e,n,ne,nf,d⟩:=I.pin p hp
   exact ⟨(hs.2 p.1 ne).trans e,n,ne,nf,d⟩
 ·have hfn:X.fn x=true:=by
   rcases hf with z | z
   ·exact z
   ·rw[z] at hk; cases hk
  obtain ⟨c,hc⟩:=I.ok.has x (.inl hk)
  obtain ⟨w',z⟩:=I.cell x c hc
  refine wpAny_storeName_cell I.ok.kind hk hc z (λh' hc' hs=>?_)
  obtain ⟨oc,hoc,hocd⟩:=id z
  refine h { s with heap:=h' } ⟨I.ok,I.os,I.bare,⟨λb o e n hb hx=>?_,λb o e n hb hx=>?_,I.base.free,λb o e hx=>?_,I.base.tups,I.base.frzs,I.base.tbls⟩,⟨m,hn.sameBut hs (Lg (cne x c hc)),λj y v' e1 e2 e3=>?_⟩,λy c' e=>?_,I.free,I.freeC,λp hp=>?_,tracked ⟨oc,hoc,I.freeC x c hc⟩ hs,by simpa using I.len⟩ ⟨c,hs,.inr hc⟩
  ·exact (hs.2 b (Cv (Bu (Bb e) (I.ok.cab x c hfn hc)))).trans (I.base.keep b o e n hb hx)
  ·obtain ⟨sl,e1⟩:=I.base.slot b o e n hb hx
   exact ⟨sl,(hs.2 b (Cv (Bu (Bb e) (I.ok.cab x c hfn hc)))).trans e1⟩
  ·obtain ⟨o',e1⟩:=I.base.there b o e hx
   exact ⟨o',(hs.2 b (Cv (Bu (Bb e) (I.ok.cab x c hfn hc)))).trans e1⟩
  ·by_cases hj:j=i
   ·subst hj
    rw[hi] at e1; cases e1
    rw[iZ hiσ] at e2
    cases e2
    exact ⟨u,r,.inr ⟨.inl hk,c,hc,hc'⟩⟩
   ·rw[List.getElem?_set_ne (Lg hj)] at e2
    obtain ⟨u',r',q⟩:=hl j y v' e1 e2 e3
    refine ⟨u',r',?_⟩
    rcases q with q | ⟨k,c',e,z'⟩
    ·exact .inl q
    ·refine .inr ⟨k,c',e,z'.sameBut hs ?_⟩
     rintro rfl
     exact hj (dX hN e1 (I.ok.inj _ _ _ e hc▸hi))
  ·by_cases hcc:c'=c
   ·subst hcc; exact ⟨_,hc'⟩
   ·obtain ⟨w2,z2⟩:=I.cell y c' e
    exact ⟨w2,z2.sameBut hs hcc⟩
  ·obtain ⟨e,n,ne,nf,d⟩:=I.pin p hp
   refine ⟨(hs.2 p.1 ?_).trans e,n,ne,nf,d⟩
   intro q
   rw[q,hoc] at e
   have q':oc=p.2:=Bl e
   exact d w' (by rw[<- q']; exact hocd)
theorem Xh{M:Model}{A:Dg}{E:Value->Al->Prop}{i:Nat}{x:Str}{v:V}{u:Value}{Q:Unit->Al->Prop}(I:Inv X pins σ H s)(hN:X.N.Nodup)(hi:X.N[i]? = some x)(hx:Loc X.env.scope x)(r:RelV v u)(h:∀s',Inv X pins (σ.set i (some v)) H s'->Q () s')(hf:X.fn x=true\/X.env.scope.names.lookup x=some .local:=by first | exact .inl rfl | exact .inr rfl | assumption):wpAny M A (storeName X.env x u) Q E s :=
 nE I hN hi hx r (λs' I' _=>h s' I') hf
theorem Inv.call'{s':Al}{ch:List Addr}(I:Inv X pins σ H s)(ho:s'.os=s.os)(u:Un (mO X.stack) ch H H' s.heap s'.heap)(hok:Xn X.prog X.w H' s'.heap)(hg:Pd s'.gens)(hch:∀b∈ch,(b∈X.ex\/X.s₀.heap.objs.size<=b)/\b≠X.env.locals/\(∀x c,X.env.cells.lookup x=some c->c≠b)/\∀p∈X.pn++pins,p.1≠b):Inv X pins σ H' s':=by
 obtain ⟨h',g',d',t',o'⟩:=s'
 have e:o'=s.os:=ho
 subst e
 exact I.call (g':=g') (t':=t') (d':=d') u hok hg hch
end
abbrev XK:=Value->Option Addr->Hp->Prop
abbrev St:=List (Option V)
abbrev VK:=V->Hp->Prop
abbrev TE:=St->Hp->VK->Prop
abbrev TT:=St->Hp->(Bool->Hp->Prop)->Prop
abbrev TA:=St->Hp->(List V->Hp->Prop)->Prop
structure Ends where
 nx:St->Hp->Prop
 rt:VK
 bk:St->Hp->Prop:=λ_ _=>False
 ct:St->Hp->Prop:=λ_ _=>False
abbrev TS:=Ends->St->Hp->Prop
def EP(X:Cx)(pins:List (Addr×Obj))(σ:St)(Q:VK)(u:Value)(s':Al):Prop:=∃v H',Inv X pins σ H' s'/\RelV v u/\Q v H'
def TP(X:Cx)(pins:List (Addr×Obj))(σ:St)(Q:Bool->Hp->Prop)(b:Bool)(s':Al):Prop:=∃H',Inv X pins σ H' s'/\Q b H'
def AP(X:Cx)(pins:List (Addr×Obj))(σ:St)(Q:List V->Hp->Prop)(us:List Value)(s':Al):Prop:=∃vs H',Inv X pins σ H' s'/\Fc vs us/\Q vs H'
def SP(X:Cx)(pins:List (Addr×Obj))(D:Ends)(f:Flow)(s':Al):Prop :=
 match f with
 | .next=>∃σ' H',Inv X pins σ' H' s'/\D.nx σ' H'
 | .brk=>∃σ' H',Inv X pins σ' H' s'/\D.bk σ' H'
 | .cont=>∃σ' H',Inv X pins σ' H' s'/\D.ct σ' H'
 | .ret u=>∃v σ' H',Inv X pins σ' H' s'/\RelV v u/\D.rt v H'
def PE(X:Cx)(e:Expr)(t:TE):Prop :=
 ∀(pins:List (Addr×Obj)) (s:Al) (σ:St) (H:Hp) (Q:VK),Inv X pins σ H s->t σ H Q->wpAny (model X.prog X.w) X.A (eval e X.env) (EP X pins σ Q) X.xe s
def PT(X:Cx)(e:Expr)(t:TT):Prop :=
 ∀(pins:List (Addr×Obj)) (s:Al) (σ:St) (H:Hp) (Q:Bool->Hp->Prop),Inv X pins σ H s->t σ H Q->wpAny (model X.prog X.w) X.A (isTrue e X.env (eval e X.env)) (TP X pins σ Q) X.xe s
def PW(X:Cx)(e:Expr)(t:TT):Prop :=
 ∀(whole:Sem Value) (pins:List (Addr×Obj)) (s:Al) (σ:St) (H:Hp) (Q:Bool->Hp->Prop),Inv X pins σ H s->t σ H Q->wpAny (model X.prog X.w) X.A (isTrue e X.env whole) (TP X pins σ Q) X.xe s
theorem PW.pt{X:Cx}{e:Expr}{t:TT}(h:PW X e t):PT X e t:=h _
def PA(X:Cx)(es:List Expr)(t:TA):Prop :=
 ∀(pos:Pos) (pins:List (Addr×Obj)) (s:Al) (σ:St) (H:Hp) (Q:List V->Hp->Prop),Inv X pins σ H s->t σ H Q->wpAny (model X.prog X.w) X.A (spliced (Hg pos (Bj es X.env))) (AP X pins σ Q) X.xe s
def PS(X:Cx)(st:Stmt)(t:TS):Prop :=
 ∀(pins:List (Addr×Obj)) (s:Al) (σ:St) (H:Hp) (D:Ends),Inv X pins σ H s->t D σ H->wpAny (model X.prog X.w) X.A (exec st X.env) (SP X pins D) X.xe s
def gV(X:Cx)(st:List Stmt)(t:TS):Prop :=
 ∀(pins:List (Addr×Obj)) (s:Al) (σ:St) (H:Hp) (D:Ends),Inv X pins σ H s->t D σ H->wpAny (model X.prog X.w) X.A (execs st X.env) (SP X pins D) X.xe s
theorem Gq{α:Type}{t:Sem α}{Q Q':α->Al->Prop}{M:Model}{A:Dg}{E:Value->Al->Prop}{s:Al}(h:wpAny M A t Q E s)(hQ:∀a s,Q a s->Q' a s):wpAny M A t Q' E s:=Di h hQ λ_ _ x=>x
section
variable{X:Cx}
def Yi(i:Nat):TE:=λσ H Q=>∃v,σ[i]? = some (some v)/\Q v H
def tC(v:V):TE:=λ_ H Q=>Q v H
theorem zO{i:Nat}{x:Str}{pos:Pos}(hN:X.N[i]? = some x)(hv:K8 X.env.scope x)(hd:(x == ("__debug__" : Str))=false:=by decide)(hcd:(x == ("__classdict__" : Str))=false:=by decide):PE X (.Name x pos) (Yi i):=by
 intro pins s σ H Q I h
 obtain ⟨v,e,h⟩:=h
 obtain ⟨m,hn,hl⟩:=I.loc
 obtain ⟨u,r,l⟩:=hl i x v hN e hv
 have fin:EP X pins σ Q u s:=⟨v,H,I,r,h⟩
 rcases l with ⟨hk,hm⟩ | ⟨hk,c,hc,hcell⟩
 ·exact wpAny_Name (wpAny_loadName_local I.ok.kind hk hn hm fin) hd
 ·rcases hk with hk | hk
  ·exact wpAny_Name (wpAny_loadName_cell I.ok.kind hk hc hcell fin) hd
  ·exact wpAny_Name (wpAny_loadName_free I.ok.kind hk hc hcell fin hcd) hd
theorem El{i j pos}:PE X (.Constant (.int i) j pos) (tC (.int i)):=λ_ _ _ H _ I h=>wpAny_Constant_int ⟨.int i,H,I.tok _,⟨_,rfl⟩,h⟩
theorem oR{b j pos}:PE X (.Constant (.bool b) j pos) (tC (.bl b)):=λ_ _ _ H _ I h=>Constant_bool ⟨.bl b,H,I,rfl,h⟩
theorem q9{j pos}:PE X (.Constant .none j pos) (tC .non):=λ_ _ _ H _ I h=>Constant_none ⟨.non,H,I,rfl,h⟩
theorem r9{x j pos}:PE X (.Constant (.str x) j pos) (tC (.str x)):=λ_ _ _ H _ I h=>Calls.Constant_str ⟨.str x,H,I.tok _,⟨_,rfl⟩,h⟩
def Gl(X:Cx)(x:Str):Prop:=X.env.kindOf x=some .globalImplicit
theorem uV{E:Value->Al->Prop}{pins:List (Addr×Obj)}{s:Al}{σ:St}{H:Hp}{x:Str}{u:Value}{pos:Pos}{Q:Value->Al->Prop}(I:Inv X pins σ H s)(hg:Gl X x)(hm:X.mg x=some u)(h:Q u s)(hd:(x == ("__debug__" : Str))=false:=by decide):wpAny (model X.prog X.w) X.A (eval (.Name x pos) X.env) Q E s :=
 Zz I.ok.kind hg (Calls.loadGlobal_global (by rw[I.ok.glob]; exact I.mod.glob.keeps I.bk) hm h) hd
theorem Tp{E:Value->Al->Prop}{pins:List (Addr×Obj)}{s:Al}{σ:St}{H:Hp}{x:Str}{u:Value}{pos:Pos}{Q:Value->Al->Prop}(I:Inv X pins σ H s)(hg:Gl X x)(hm:X.mg x=none)(hv:Ht x=some u)(h:Q u s)(hn:x ≠ "__name__" := by decide)(hd:(x == ("__debug__" : Str))=false:=by decide):wpAny (model X.prog X.w) X.A (eval (.Name x pos) X.env) Q E s:=by
 obtain ⟨mb,h1,h2⟩:=I.mod.blt
 exact Zz I.ok.kind hg (Calls.loadGlobal_builtin (by rw[I.ok.glob]; exact I.mod.glob.keeps I.bk) hm (by rw[I.ok.blt]; exact h1.keeps I.bk) ((h2 x hn).trans hv) h) hd
theorem vT{x:Str}{v:V}{u:Value}{pos:Pos}(hg:Gl X x)(hm:X.mg x=none)(hv:Ht x=some u)(r:RelV v u)(hn:x ≠ "__name__" := by decide)(hd:(x == ("__debug__" : Str))=false:=by decide):PE X (.Name x pos) (tC v) :=
 λ_ _ _ H _ I h=>Tp I hg hm hv ⟨v,H,I,r,h⟩ hn hd
variable{a b:Expr}{ta tb:TE}{pos:Pos}
def tB(t:TE):TT:=λσ H Q=>t σ H λx H1=>∃c,x=.bl c/\Q c H1
theorem sR{e:Expr}{t:TE}(h:PE X e t)(he:∀whole,isTrue e X.env whole=(do let v <- whole; Ux e.pos; Qx [v] (truthy v)):=by intro _; rfl):PT X e (tB t):=by
 intro pins s σ H Q I hw
 refine isTrue_plain (Gq (h pins s σ H _ I hw) λv s1 ⟨x,H1,I1,r1,q1⟩=>?_) (he _)
 obtain ⟨d,rfl,q⟩:=q1
 cases r1
 exact Kt ⟨H1,I1,q⟩
variable{tA tB':TT}{Mv:List Expr}
def P3(t u:TT):TT:=λσ H Q=>t σ H λc H1=>if c=true then u σ H1 Q else Q false H1
def V5(t u:TT):TT:=λσ H Q=>t σ H λc H1=>if c=true then Q true H1 else u σ H1 Q
def R4(t:TT):TT:=λσ H Q=>t σ H λc H1=>Q (!c) H1
theorem wJ(ha:PT X a tA):PW X (.BoolOp .And [a] pos) tA:=by
 intro wh pins s σ H Q I h
 refine isTrue_and (Gq (ha pins s σ H Q I h) λc s1 e=>?_)
 cases c with
 | true=>exact isTrue_and_nil e
 | false=>exact e
theorem u4(ha:PT X a tA):PW X (.BoolOp .Or [a] pos) tA:=by
 intro wh pins s σ H Q I h
 refine isTrue_or (Gq (ha pins s σ H Q I h) λc s1 e=>?_)
 cases c with
 | false=>exact isTrue_or_nil e
 | true=>exact e
theorem p7(ha:PT X a tA)(hb:PW X (.BoolOp .And (b::Mv) pos) tB'):PW X (.BoolOp .And (a::b::Mv) pos) (P3 tA tB'):=by
 intro wh pins s σ H Q I h
 refine isTrue_and (Gq (ha pins s σ H _ I h) λc s1 q0_ => ?_)
 obtain ⟨H1,I1,q1⟩ := q0_
 cases c with
 | true=>exact hb wh pins s1 σ H1 Q I1 q1
 | false=>exact ⟨H1,I1,q1⟩
theorem I0(ha:PT X a tA)(hb:PW X (.BoolOp .Or (b::Mv) pos) tB'):PW X (.BoolOp .Or (a::b::Mv) pos) (V5 tA tB'):=by
 intro wh pins s σ H Q I h
 refine isTrue_or (Gq (ha pins s σ H _ I h) λc s1 q0_ => ?_)
 obtain ⟨H1,I1,q1⟩ := q0_
 cases c with
 | true=>exact ⟨H1,I1,q1⟩
 | false=>exact hb wh pins s1 σ H1 Q I1 q1
theorem zC(ha:PT X a tA):PT X (.UnaryOp .Not a pos) (R4 tA):=by
 intro pins s σ H Q I h
 exact isTrue_not (ha pins s σ H (λc H1=>Q (!c) H1) I h)
def C8(ta tb:TE):TE:=λσ H Q=>ta σ H λx H1=>∃c,x=.bl c/\if c=true then tb σ H1 Q else Q (.bl false) H1
def K3(ta:TE):TE:=λσ H Q=>ta σ H λx H1=>∃c,x=.bl c/\Q (.bl (!c)) H1
theorem x6{op}{t:TE}(h:PE X a t):PE X (.BoolOp op [a] pos) t:=λpins s σ H Q I hw=>BoolOp_one (h pins s σ H Q I hw)
theorem o5(ha:PE X a ta)(hb:PE X (.BoolOp .And (b::Mv) pos) tb):PE X (.BoolOp .And (a::b::Mv) pos) (C8 ta tb):=by
 intro pins s σ H Q I h
 refine BoolOp_and (Gq (ha pins s σ H _ I h) λv s1 q0_ => ?_)
 obtain ⟨x,H1,I1,r1,q1⟩ := q0_
 obtain ⟨c,rfl,q1⟩:=q1
 cases r1
 refine Kt ?_
 cases c with
 | true=>exact hb pins s1 σ H1 Q I1 q1
 | false=>exact ⟨.bl false,H1,I1,rfl,q1⟩
theorem j3(ha:PE X a ta):PE X (.UnaryOp .Not a pos) (K3 ta):=by
 intro pins s σ H Q I h
 refine UnaryOp_ (Gq (ha pins s σ H _ I h) λv s1 q0_ => ?_)
 obtain ⟨x,H1,I1,r1,q1⟩ := q0_
 obtain ⟨c,rfl,q1⟩:=q1
 cases r1
 exact not_of (Kt ⟨.bl (!c),H1,I1,rfl,q1⟩)
end
def Om(K:PySem.W.Frag)(H:Hp)(a:Addr)(xs:List V):Prop :=
 Rd H a (.lst xs) \/
  ∃(o:Obj) (its:Array Value) (n:Nat),K.lookup a=some o/\o.cls=.type "list" /\ o.dict=none/\o.data=.seq its n/\its.size<=Be/\Fc xs its.toList
def Pe(K:PySem.W.Frag)(H:Hp)(a:Addr)(xs:List V):Prop :=
 Rd H a (.tup xs) \/
  ∃(o:Obj) (its:Array Value) (n:Nat),K.lookup a=some o/\o.cls=.type "tuple" /\ o.data=.seq its n/\its.size<=Be/\Fc xs its.toList
def Q3:Value->Option V
 | .none=>some .non
 | .bool b=>some (.bl b)
 | .int i _=>some (.int i)
 | .str x _=>some (.str x)
 | .bytes b _=>some (.byt b)
 | .float b _=>some (.flt b)
 | .ref a=>some (.ref a)
 | .type n=>some (.ty n)
 | _=>none
theorem RelV.abs{x:V}{u:Value}(r:RelV x u):Q3 u=some x:=by
 cases x with
 | non=>cases r; rfl
 | bl _=>cases r; rfl
 | int _=>obtain ⟨t,rfl⟩:=r; rfl
 | str _=>obtain ⟨t,rfl⟩:=r; rfl
 | byt _=>obtain ⟨t,rfl⟩:=r; rfl
 | flt _=>obtain ⟨t,rfl⟩:=r; rfl
 | ref _=>cases r; rfl
 | ty _=>cases r; rfl
theorem RelV.inj{x y:V}{u:Value}(r:RelV x u)(q:RelV y u):x=y:=Bl (r.abs.symm.trans q.abs)
theorem Fc.inj:∀{xs ys:List V} {us:List Value},Fc xs us->Fc ys us->xs=ys
 | _,_,_,.nil,.nil=>rfl
 | _,_,_,.cons r t,.cons r' t'=>by rw[r.inj r',Fc.inj t t']
section
variable{X:Cx}{pins:List (Addr×Obj)}{σ:St}{H:Hp}{s:Al}{a:Addr}{xs ys:List V}
theorem Om.of{K:PySem.W.Frag}(h:H a=some (.lst xs)):Om K H a xs:=.inl (.inl h)
theorem Pe.of{K:PySem.W.Frag}(h:H a=some (.tup xs)):Pe K H a xs:=.inl (.inl h)
theorem Inv.list(I:Inv X pins σ H s)(h:Om X.K H a xs):∃its:List Value,Fc xs its/\PlainL s.heap a its.toArray/\xs.length<=Be:=by
 rcases h with h | ⟨o,its,n,hk,hc,hd,hs,hz,r⟩
 ·obtain ⟨z,its,n,r,e⟩:=h.ok I.hok
  exact ⟨its,r,⟨_,n,e,rfl,rfl,rfl⟩,z⟩
 ·refine ⟨its.toList,r,⟨o,n,I.kIn a o hk,hc,hd,by simpa using hs⟩,?_⟩
  have e:=r.length
  simp only[Bc] at e
  omega
theorem Inv.tuple(I:Inv X pins σ H s)(h:Pe X.K H a xs):∃its:List Value,Fc xs its/\IsTup s.heap a its.toArray/\xs.length<=Be:=by
 rcases h with h | ⟨o,its,n,hk,hc,hs,hz,r⟩
 ·obtain ⟨z,its,r,p⟩:=h.ok I.hok
  exact ⟨its,r,p,z⟩
 ·refine ⟨its.toList,r,⟨o,I.kIn a o hk,hc,n,by simpa using hs⟩,?_⟩
  have e:=r.length
  simp only[Bc] at e
  omega
theorem Inv.list_inj(I:Inv X pins σ H s)(h:Om X.K H a xs)(h':Om X.K H a ys):xs=ys:=by
 obtain ⟨its,r,⟨o,n,e,_,_,d⟩,_⟩:=I.list h
 obtain ⟨its',r',⟨o',n',e',_,_,d'⟩,_⟩:=I.list h'
 rw[e] at e'; cases e'
 rw[d] at d'
 injection d' with d1 _
 have : its=its':=by simpa using congrArg Array.toList d1
 subst this
 exact r.inj r'
theorem Inv.tuple_inj(I:Inv X pins σ H s)(h:Pe X.K H a xs)(h':Pe X.K H a ys):xs=ys:=by
 obtain ⟨its,r,⟨o,e,_,n,d⟩,_⟩:=I.tuple h
 obtain ⟨its',r',⟨o',e',_,n',d'⟩,_⟩:=I.tuple h'
 rw[e] at e'; cases e'
 rw[d] at d'
 injection d' with d1 _
 have : its=its':=by simpa using congrArg Array.toList d1
 subst this
 exact r.inj r'
end
abbrev Cx.wish(X:Cx)(E:Value->Al->Prop):Cx:={ X with xe:=E }
abbrev Cx.nox(X:Cx):Cx:=X.wish λ_ _=>False
theorem Cx.Ok.wish{X:Cx}(ok:X.Ok)(E:Value->Al->Prop):(X.wish E).Ok :=
 ⟨ok.mod,ok.kind,ok.glob,ok.blt,ok.above,ok.inj,ok.has,ok.cab,ok.hd,ok.frames,ok.stk,ok.exf,ok.bs,ok.bsz,ok.noex,ok.exfs,ok.funs,ok.frf,ok.tab⟩
theorem Cx.Ok.unwish{X:Cx}{E:Value->Al->Prop}(ok:(X.wish E).Ok):X.Ok :=
 ⟨ok.mod,ok.kind,ok.glob,ok.blt,ok.above,ok.inj,ok.has,ok.cab,ok.hd,ok.frames,ok.stk,ok.exf,ok.bs,ok.bsz,ok.noex,ok.exfs,ok.funs,ok.frf,ok.tab⟩
section
variable{X:Cx}{pins:List (Addr×Obj)}{σ:St}{H:Hp}{s:Al}{E:Value->Al->Prop}
theorem Inv.wish(I:Inv X pins σ H s)(E:Value->Al->Prop):Inv (X.wish E) pins σ H s:=⟨I.ok.wish E,I.os,I.bare,I.base,I.loc,I.cell,I.free,I.freeC,I.pin,I.hok,I.len⟩
theorem Inv.unwish(I:Inv (X.wish E) pins σ H s):Inv X pins σ H s:=⟨I.ok.unwish,I.os,I.bare,I.base,I.loc,I.cell,I.free,I.freeC,I.pin,I.hok,I.len⟩
theorem SP.unwish{D:Ends}{f:Flow}{s':Al}(h:SP (X.wish E) pins D f s'):SP X pins D f s':=by
 cases f with
 | next=>obtain ⟨σ',H',I,q⟩:=h; exact ⟨σ',H',I.unwish,q⟩
 | brk=>obtain ⟨σ',H',I,q⟩:=h; exact ⟨σ',H',I.unwish,q⟩
 | cont=>obtain ⟨σ',H',I,q⟩:=h; exact ⟨σ',H',I.unwish,q⟩
 | ret u=>obtain ⟨v,σ',H',I,r,q⟩:=h; exact ⟨v,σ',H',I.unwish,r,q⟩
theorem gV.nox{st:List Stmt}{t:TS}(h:gV X.nox st t):gV X st t:=λpins s σ H D I hw =>
 Di (h pins s σ H D (I.wish _) hw) (λ_ _ q=>q.unwish) λ_ _ z=>Ih z
end
section
variable{X:Cx}{st:Stmt}{Mv:List Stmt}{t u:TS}{e:Expr}{te:TE}{pos:Pos}
def M5:TS:=λD σ H=>D.nx σ H
def O6(t u:TS):TS:=λD σ H=>t { D with nx:=u D } σ H
theorem bR:gV X [] M5:=λ_ _ σ H _ I h=>Sf ⟨σ,H,I,h⟩
theorem Jg(h1:PS X st t)(h2:gV X Mv u):gV X (st::Mv) (O6 t u):=by
 intro pins s σ H D I h
 refine wpAny_execs_cons (Gq (h1 pins s σ H { D with nx:=u D } I h) λf s1 q=>?_)
 cases f with
 | next =>
  obtain ⟨σ',H',I',q⟩:=q
  exact h2 pins s1 σ' H' D I' q
 | ret v=>exact q
 | brk=>exact q
 | cont=>exact q
theorem Pl(h1:PS X st t):gV X [st] t:=by
 intro pins s σ H D I h
 refine wpAny_execs_cons (Gq (h1 pins s σ H D I h) λf s1 q=>?_)
 cases f with
 | next=>exact Sf q
 | ret v=>exact q
 | brk=>exact q
 | cont=>exact q
theorem Inv.quiet{pins:List (Addr×Obj)}{σ:St}{H:Hp}{s:Al}(I:Inv X pins σ H s):interactive X.env=false:=by simp [interactive,I.ok.kind]
def E7(te:TE):TS:=λD σ H=>te σ H λ_ H1=>D.nx σ H1
theorem aU(he:PE X e te)(hs:Io e none pos.line X.env=pure false:=by rfl):PS X (.Expr e pos) (E7 te):=by
 intro pins s σ H D I h
 exact wpAny_Expr_any (Gq (he pins s σ H _ I h) λv s1 ⟨x,H1,I1,r1,q1⟩=>⟨σ,H1,I1,q1⟩) I.quiet hs
def R6(te:TE):TS:=λD σ H=>te σ H D.rt
theorem Tn(he:PE X e te):PS X (.Return (some e) pos) (R6 te):=by
 intro pins s σ H D I h
 exact wpAny_Return_some (Gq (he pins s σ H _ I h) λv s1 ⟨x,H1,I1,r1,q1⟩=>⟨x,σ,H1,I1,r1,q1⟩)
def O9(c:TT)(t u:TS):TS:=λD σ H=>c σ H λb H1=>if b=true then t D σ H1 else u D σ H1
theorem tD{c:Expr}{a b:List Stmt}{tc:TT}(hc:PT X c tc)(ha:gV X a t)(hb:gV X b u):PS X (.If c a b pos) (O9 tc t u):=by
 intro pins s σ H D I h
 refine wpAny_If (Gq (hc pins s σ H _ I h) λd s1 q0_ => ?_)
 obtain ⟨H1,I1,q1⟩ := q0_
 cases d with
 | true=>exact ha pins s1 σ H1 D I1 q1
 | false=>exact hb pins s1 σ H1 D I1 q1
def u0:TS:=λ_ _ _=>False
theorem rV:PS X st u0:=λ_ _ _ _ _ _ h=>h.elim
end
abbrev TG:=V->St->Hp->(St->Hp->Prop)->Prop
abbrev vF:=List V->St->Hp->(St->Hp->Prop)->Prop
def PG(X:Cx)(target:Expr)(t:TG):Prop :=
 ∀(pins:List (Addr×Obj)) (s:Al) (σ:St) (H:Hp) (v:V) (u:Value) (Q:St->Hp->Prop),Inv X pins σ H s->RelV v u->t v σ H Q ->
  wpAny (model X.prog X.w) X.A (Mt target X.env u) (λ_ s'=>∃σ' H',Inv X pins σ' H' s'/\Q σ' H') X.xe s
def zJ(X:Cx)(ts:List Expr)(t:vF):Prop :=
 ∀(pins:List (Addr×Obj)) (s:Al) (σ:St) (H:Hp) (vs:List V) (us:List Value) (Q:St->Hp->Prop),Inv X pins σ H s->Fc vs us->t vs σ H Q ->
  wpAny (model X.prog X.w) X.A (assignInOrder ((Hu ts X.env).map (·.2)) us) (λ_ s'=>∃σ' H',Inv X pins σ' H' s'/\Q σ' H') X.xe s
abbrev zE:=V->V->V->Hp->(Hp->Prop)->Prop
def G8(X:Cx)(t:zE):Prop :=
 ∀(pins:List (Addr×Obj)) (s:Al) (σ:St) (H:Hp) (o i v:V) (ov iv u:Value) (Q:Hp->Prop),Inv X pins σ H s->RelV o ov->RelV i iv->RelV v u->t o i v H Q ->
  wpAny (model X.prog X.w) X.A (setItem ov iv u) (λ_ s'=>∃H',Inv X pins σ H' s'/\Q H') X.xe s
abbrev N7:=V->V->Hp->VK->Prop
def N6(X:Cx)(op:Operator)(t:N7):Prop :=
 ∀(pins:List (Addr×Obj)) (s:Al) (σ:St) (H:Hp) (x y:V) (v u:Value) (Q:VK),Inv X pins σ H s->RelV x v->RelV y u->t x y H Q ->
  wpAny (model X.prog X.w) X.A (inplaceOp op v u) (EP X pins σ Q) X.xe s
section
variable{X:Cx}{pos:Pos}
def Js(i:Nat):TG:=λv σ H Q=>Q (σ.set i (some v)) H
theorem Ji{i:Nat}{x:Str}(hN:X.N.Nodup)(hi:X.N[i]? = some x)(hx:Loc X.env.scope x)(hf:X.fn x=true\/X.env.scope.names.lookup x=some .local:=by first | exact .inl rfl | exact .inr rfl | assumption):PG X (.Name x pos) (Js i):=by
 intro pins s σ H v u Q I r h
 exact wpAny_assign_Name (Xh I hN hi hx r (λs' I'=>⟨_,H,I',h⟩) hf)
def oH:vF:=λvs σ H Q=>vs=[]/\Q σ H
def Oq(t:TG)(u:vF):vF:=λvs σ H Q=>∃v r,vs=v::r/\t v σ H λσ' H'=>u r σ' H' Q
theorem bC:zJ X [] oH:=by
 intro pins s σ H vs us Q I r h
 obtain ⟨e,h⟩:=h
 subst e
 cases r
 exact assignInOrder_nil ⟨σ,H,I,h⟩
theorem Nf{e:Expr}{es:List Expr}{t:TG}{u:vF}(h1:PG X e t)(h2:zJ X es u)(hs:(Hu (e::es) X.env).map (·.2)=Mt e X.env::(Hu es X.env).map (·.2):=by rfl):zJ X (e::es) (Oq t u):=by
 intro pins s σ H vs us Q I r h
 obtain ⟨v,vr,e1,h⟩:=h
 subst e1
 cases r with
 | cons r rr =>
  rw[hs]
  refine assignInOrder_cons (Gq (h1 pins s σ H _ _ _ I r h) λ_ s1 q0_ => ?_)
  obtain ⟨σ1,H1,I1,q1⟩ := q0_
  exact h2 pins s1 σ1 H1 _ _ Q I1 rr q1
def pC(K:PySem.W.Frag)(n:Nat)(t:vF):TG:=λv σ H Q=>∃a xs,v=.ref a/\Pe K H a xs/\xs.length=n/\t xs σ H Q
theorem iH{es:List Expr}{k:Nat}{t:vF}{n:Nat}(hc:X.calm=true)(h:zJ X es t)(hn:(Hu es X.env).length=n:=by rfl)(hst:(Hu es X.env).findIdx? (·.1)=none:=by rfl):PG X (.Tuple es k pos) (pC X.K n t):=by
 intro pins s σ H v u Q I r hw
 obtain ⟨a,xs,e1,hq,hl,hw⟩:=hw
 subst e1
 cases r
 obtain ⟨its,rv,ht,hz⟩:=I.tuple hq
 refine assign_Tuple_tuple (I.ok.hd hc) ht (by simp [hn,<- hl,rv.length]) hst λh' hx=>?_
 have I1:Inv X pins σ H { s with heap:=h' }:=I.kept (t':=s.toks) λb o e=>hx b o (Cv (Bb e)) e
 exact h pins _ σ H xs _ Q I1 (by simpa using rv) hw
def Q5(to ti:TE)(t:zE):TG:=λv σ H Q=>to σ H λo H1=>ti σ H1 λi H2=>t o i v H2 λH3=>Q σ H3
theorem pX{o i:Expr}{to ti:TE}{t:zE}(ho:PE X o to)(hi:PE X i ti)(hs:G8 X t)
  (ha:∀v,Mt (.Subscript o i pos) X.env v=(do
   let ov <- Qx [v] (eval o X.env)
   let iv <- Qx [v,ov] (eval i X.env)
   Ux pos
   Qx [v,ov,iv] (setItem ov iv v)
   release [v,ov,iv] []):=by intro _; rfl):PG X (.Subscript o i pos) (Q5 to ti t):=by
 intro pins s σ H v u Q I r h
 rw[ha]
 refine Ae (Et (Gq (ho pins s σ H _ I h) λov s1 q0_ => ?_))
 obtain ⟨x,H1,I1,r1,q1⟩ := q0_
 refine Ae (Et (Gq (hi pins s1 σ H1 _ I1 q1) λiv s2 q0_ => ?_))
 obtain ⟨y,H2,I2,r2,q2⟩ := q0_
 refine Ae (Gr (Ae (Et (Gq (hs pins s2 σ H2 x y v ov iv u _ I2 r1 r2 r q2) λ_ s3 q0_ => ?_))))
 obtain ⟨H3,I3,q3⟩ := q0_
 exact wpAny_release ⟨σ,H3,I3,q3⟩
def qZ(te:TE)(g:TG):TS:=λD σ H=>te σ H λx H1=>g x σ H1 D.nx
theorem gK{tg e:Expr}{te:TE}{g:TG}(he:PE X e te)(hg:PG X tg g)(hs:swapsWithSole [tg] e pos.line X.env=pure false:=by rfl)(hw:swappedStores [tg] e X.env=pure none:=by rfl)(h1:(Hu [tg] X.env).map (·.2)=[Mt tg X.env]:=by rfl):PS X (.Assign [tg] e pos) (qZ te g):=by
 intro pins s σ H D I h
 refine wpAny_Assign_stores (Gq (he pins s σ H _ I h) λv s1 ⟨x,H1,I1,r1,q1⟩=>?_) hs hw
 rw[h1]
 exact Gq (hg pins s1 σ H1 x v _ I1 r1 q1) λ_ s2 q=>q
theorem Sz{i:Nat}{x:Str}{e:Expr}{te:TE}{pos':Pos}(hN:X.N.Nodup)(hi:X.N[i]? = some x)(hx:Loc X.env.scope x)(he:PE X e te)(hs:Io e (some (.Name x pos')) pos.line X.env=pure false:=by rfl)(hf:X.fn x=true\/X.env.scope.names.lookup x=some .local:=by first | exact .inl rfl | exact .inr rfl | assumption):PS X (.Assign [.Name x pos'] e pos) (qZ te (Js i)):=by
 intro pins s σ H D I h
 refine wpAny_Assign_Name (Gq (he pins s σ H _ I h) λv s1 ⟨y,H1,I1,r1,q1⟩=>?_) hs
 exact Xh I1 hN hi hx r1 (λs2 I2=>⟨_,H1,I2,q1⟩) hf
def Q8(i:Nat)(te:TE)(ti:N7):TS:=λD σ H=>∃x,σ[i]? = some (some x)/\te σ H λy H1=>ti x y H1 λz H2=>D.nx (σ.set i (some z)) H2
theorem t9{i:Nat}{x:Str}{e:Expr}{te:TE}{op:Operator}{ti:N7}{pos':Pos}(hN:X.N.Nodup)(hi:X.N[i]? = some x)(hx:Loc X.env.scope x)(he:PE X e te)(ho:N6 X op ti)(hf:X.fn x=true\/X.env.scope.names.lookup x=some .local:=by first | exact .inl rfl | exact .inr rfl | assumption):PS X (.AugAssign (.Name x pos') op e pos) (Q8 i te ti):=by
 intro pins s σ H D I h
 obtain ⟨v,e1,h⟩:=h
 obtain ⟨m,hn,hl⟩:=I.loc
 have vis:K8 X.env.scope x:=by rcases hx with k | k; exact .inl k; exact .inr (.inl k)
 obtain ⟨u,r,l⟩:=hl i x v hi e1 vis
 refine wpAny_AugAssign_Name ?_
 have go:wpAny (model X.prog X.w) X.A (eval e X.env) (λw s₂=>wpAny (model X.prog X.w) X.A (inplaceOp op u w) (λr s₃=>wpAny (model X.prog X.w) X.A (storeName X.env x r) (λ_=>SP X pins D .next) X.xe s₃) X.xe s₂) X.xe s:=by
  refine Gq (he pins s σ H _ I h) λw s1 q0_ => ?_
  obtain ⟨y,H1,I1,r1,q1⟩ := q0_
  refine Gq (ho pins s1 σ H1 v y u w _ I1 r r1 q1) λz s2 q0_ => ?_
  obtain ⟨zv,H2,I2,r2,q2⟩ := q0_
  exact Xh I2 hN hi hx r2 (λs3 I3=>⟨_,H2,I3,q2⟩) hf
 rcases l with ⟨hk,hm⟩ | ⟨hk,c,hc,hcell⟩
 ·exact wpAny_loadName_local I.ok.kind hk hn hm go
 ·rcases hk with hk | hk
  ·exact wpAny_loadName_cell I.ok.kind hk hc hcell go
  ·rcases hx with k | k
   ·have : X.env.scope.names.lookup x=some .free:=hk
    rw[k] at this; cases this
   ·have : X.env.scope.names.lookup x=some .free:=hk
    rw[k] at this; cases this
def N8(f:Int->Int->Int):N7:=λx y H Q=>∃i j,x=.int i/\y=.int j/\Q (.int (f i j)) H
theorem zD:N6 X .Add (N8 λi j=>i+j):=by
 intro pins s σ H x y v u Q I r1 r2 h
 obtain ⟨i,j,e1,e2,q⟩:=h
 subst e1; subst e2
 obtain ⟨t,rfl⟩:=r1
 obtain ⟨t',rfl⟩:=r2
 exact iadd_int ⟨.int _,H,I.tok _,⟨_,rfl⟩,q⟩
theorem yO:N6 X .Sub (N8 λi j=>i - j):=by
 intro pins s σ H x y v u Q I r1 r2 h
 obtain ⟨i,j,e1,e2,q⟩:=h
 subst e1; subst e2
 obtain ⟨t,rfl⟩:=r1
 obtain ⟨t',rfl⟩:=r2
 exact isub_int ⟨.int _,H,I.tok _,⟨_,rfl⟩,q⟩
end
section
variable{X:Cx}{pos:Pos}
def zY(c:TT)(tb:TS):TS:=λD σ H=>∃W:Nat->St->Hp->Prop,(∃m,W m σ H)/\∀m σ H,W m σ H ->
 c σ H λb H1=>if b=true then ∃N:St->Hp->Prop,(∀σ' H',N σ' H'->∃m',m'<m/\W m' σ' H')/\tb { D with nx:=N,ct:=N,bk:=D.nx } σ H1 else D.nx σ H1
theorem rO{c:Expr}{body:List Stmt}{tc:TT}{tb:TS}(hp:PassesOwn (model X.prog X.w) X.A X.env X.xe)(hc:PT X c tc)(hb:gV X body tb):PS X (.While c body [] pos) (zY tc tb):=by
 intro pins s σ H D I h
 obtain ⟨W,⟨m0,w0⟩,turn⟩:=h
 refine wpAny_While (codeAny_whileLoop (λn s'=>∃σ' H',Inv X pins σ' H' s'/\W n σ' H') ?_ m0 ⟨σ,H,I,w0⟩)
 (intro n s1 q_; obtain ⟨σ1,H1,I1,w1⟩ := q_)
 refine Ie hp (Gq (hc pins s1 σ1 H1 _ I1 (turn n σ1 H1 w1)) λb s2 q0_ => ?_)
 obtain ⟨H2,I2,q2⟩ := q0_
 cases b with
 | true =>
  obtain ⟨N,hN,q2⟩:=q2
  rw[if_pos rfl]
  refine Ie hp (Gq (hb pins s2 σ1 H2 _ I2 q2) λf s3 q3=>?_)
  cases f with
  | next =>
   obtain ⟨σ3,H3,I3,n3⟩:=q3
   obtain ⟨m',hm,w3⟩:=hN σ3 H3 n3
   exact ⟨m',hm,σ3,H3,I3,w3⟩
  | cont =>
   obtain ⟨σ3,H3,I3,n3⟩:=q3
   obtain ⟨m',hm,w3⟩:=hN σ3 H3 n3
   exact ⟨m',hm,σ3,H3,I3,w3⟩
  | brk=>exact q3
  | ret v=>exact q3
 | false =>
  rw[if_neg Ms]
  exact Sf ⟨σ1,H2,I2,q2⟩
end
structure It where
 go:Nat->Hp->Prop
 yld:Nat->Hp->V->Hp->Prop
 stop:Nat->Hp->Prop
def Ld(X:Cx)(pins:List (Addr×Obj))(H:Hp)(b:Addr):Prop :=
 H b=none/\b≠X.env.locals/\b∉X.fs/\(b∈X.ex\/X.s₀.heap.objs.size<=b)/\(∀x c,X.env.cells.lookup x=some c->c≠b)/\∀p∈X.pn++pins,p.1≠b
theorem Inv.fpOk{X:Cx}{pins:List (Addr×Obj)}{σ:St}{H H':Hp}{s:Al}{b:Addr}(I:Inv X pins σ H s)(hb:s.heap.objs.size<=b)(hn:H' b=none):Ld X pins H' b:=by
 refine ⟨hn,Vo (Bu I.lt hb),I.nofs hb,.inr (Bk I.sz hb),λx c e z=>?_,λp hp z=>?_⟩
 ·obtain ⟨v,q⟩:=I.cell x c e
  exact absurd (Bu q.lt (by rw[z]; exact hb)) (Fb _)
 ·exact absurd (Bu (Bb (I.pin p hp).1) (by rw[z]; exact hb)) (Fb _)
structure Turn(P:Bp)(w:World)(K:PySem.W.Frag)(tg:Expr)(J:It)(fp:List Addr)(it:Addr)(tn:Nat->Heap->Prop):Prop where
 mem:it∈fp
 obj:∀i h,tn i h->∀b∈fp,∃o,h.get? b=some o/\∀v,o.data≠.cell v
 keep:∀i h h',tn i h->(∀b∈fp,∀o,h.get? b=some o->h'.get? b=some o)->tn i h'
 item:∀(X:Cx),X.prog=P->X.w=w->X.K=K->X.calm=true->∀(i:Nat) (pins:List (Addr×Obj)) (s:Al) (σ:St) (H:Hp) (E:Value->Al->Prop),Inv X pins σ H s->(∀b∈fp,Ld X pins H b)->tn i s.heap->J.go i H ->
  wpAny (model P w) X.A (Of (.ref it)) (λr s1=>∃u,r=some u /\
   wpAny (model P w) X.A (Gf tg (.ref it) u) (λ_ s2=>∃x H',Inv X pins σ H' s2/\RelV x u/\J.yld i H x H'/\tn (i+1) s2.heap/\∀b∈fp,H' b=none) E s1) E s
 done:∀(X:Cx),X.prog=P->X.w=w->X.K=K->X.calm=true->∀(i:Nat) (pins:List (Addr×Obj)) (s:Al) (σ:St) (H:Hp) (E:Value->Al->Prop),Inv X pins σ H s->(∀b∈fp,Ld X pins H b)->tn i s.heap->J.stop i H ->
  wpAny (model P w) X.A (Of (.ref it)) (λr s1=>r=none/\Inv X pins σ H s1) E s
 self:∀(A:Dg) (i:Nat) (s:Al) (Q:Value->Al->Prop) (E:Value->Al->Prop),tn i s.heap->Q (.ref it) s->wpAny (model P w) A (pyIter (.ref it)) Q E s
abbrev TI:=St->Hp->(It->Hp->Prop)->Prop
def R7(X:Cx)(pins:List (Addr×Obj))(σ:St)(tg:Expr)(R:It->Hp->Prop)(itv:Value)(s2:Al):Prop :=
 ∃(it:Addr) (fp:List Addr) (tn:Nat->Heap->Prop) (J:It) (H':Hp),itv=.ref it/\Inv X pins σ H' s2/\Turn X.prog X.w X.K tg J fp it tn/\tn 0 s2.heap/\(∀b∈fp,Ld X pins H' b)/\R J H'
def PI(X:Cx)(tg iter:Expr)(wi:TI):Prop :=
 ∀(pins:List (Addr×Obj)) (s:Al) (σ:St) (H:Hp) (R:It->Hp->Prop),Inv X pins σ H s->wi σ H R ->
  wpAny (model X.prog X.w) X.A (eval iter X.env) (λv s1=>wpAny (model X.prog X.w) X.A (pyIter v) (R7 X pins σ tg R) X.xe s1) X.xe s
theorem rE{M:Model}{A:Dg}{E:Value->Al->Prop}{s:Al}{tg:Expr}{it:Addr}{u:Value}{o:Obj}{n:String}{vs:Array Value}{Q:Unit->Al->Prop}(ho:s.heap.get? it=some o)(hc:o.cls=.type n)(hd:o.data=.fields vs)(hn:["enumerate", "zip", "dict_itemiterator", "dict_reverseitemiterator", "odict_iterator", "itertools.zip_longest", "itertools.pairwise"].contains n=false)(hQ:Q () s):wpAny M A (Gf tg (.ref it) u) Q E s:=by
  unfold Gf
  cases tg <;> first
    | exact Ak hQ
    | (cases u <;> first
        | exact Ak hQ
        | (refine Ae (wpAny_load ho ?_)
           rw[hc,hd]
           show wpAny M A (if (["enumerate", "zip", "dict_itemiterator", "dict_reverseitemiterator", "odict_iterator", "itertools.zip_longest", "itertools.pairwise"].contains n && vs[0]? == some (Ku _))=true then _ else _) Q E s
           rw[if_neg (by intro h; rw[hn,Bool.false_and] at h; cases h)]
           exact Ak hQ))
def R8(K:PySem.W.Frag)(a:Addr):It :=
 ⟨λi H=>∃xs x,Om K H a xs/\xs[i]? = some x,λi H x H'=>H'=H/\∀xs,Om K H a xs->xs[i]? = some x,λi H=>∃xs,Om K H a xs/\xs.length<=i⟩
def O4(K:PySem.W.Frag)(a:Addr):It :=
 ⟨λi H=>∃xs x,Pe K H a xs/\xs[i]? = some x,λi H x H'=>H'=H/\∀xs,Pe K H a xs->xs[i]? = some x,λi H=>∃xs,Pe K H a xs/\xs.length<=i⟩
def L5(lo:Int)(n:Nat):It:=⟨λi _=>i<n,λi H x H'=>H'=H/\x=.int (lo+i),λi _=>n<=i⟩
theorem nK{P:Bp}{w:World}{K:PySem.W.Frag}{tg:Expr}(a it:Addr):Turn P w K tg (R8 K a) [it] it (λi h=>h.IsListIter it a i) where
 mem:=by simp
 obj:=λi h st b hb=>by
  have e:b=it:=by simpa using hb
  subst e
  obtain ⟨o,e,c,d⟩:=st
  exact ⟨o,e,λv z=>by rw[d] at z; cases z⟩
 keep:=λi h h' st k=>st.at λo e=>k it (by simp) o e
 item:=by
  intro X hP hw hK hc i pins s σ H E I hf st hg
  subst hP hw hK
  obtain ⟨xs,x,hq,hx⟩:=hg
  obtain ⟨its,rv,p,hz⟩:=I.list hq
  obtain ⟨u,hu,ru⟩:=rv.get hx
  obtain ⟨f0,f1,f2,f3,f4,f5⟩:=hf it (by simp)
  refine wpAny_pyNext_list_item st p.isList (x:=u) (by simpa using hu) λh' st' sb=>?_
  have I1:Inv X pins σ H { s with heap:=h' }:=I.turned (t':=s.toks) (λb o hb e=>(sb.2 b hb).trans e) f0 f1 f3 f4 f5
  obtain ⟨o,e,c,d⟩:=id st'
  exact ⟨u,rfl,rE (s:={ s with heap:=h' }) e c d (by decide) ⟨x,H,I1,ru,⟨rfl,λys hy=>by rw[I.list_inj hy hq]; exact hx⟩,st',λb hb=>(hf b hb).1⟩⟩
 done:=by
  intro X hP hw hK hc i pins s σ H E I hf st hg
  subst hP hw hK
  obtain ⟨xs,hq,hx⟩:=hg
  obtain ⟨its,rv,p,hz⟩:=I.list hq
  obtain ⟨f0,f1,f2,f3,f4,f5⟩:=hf it (by simp)
  have hl:=rv.length
  exact wpAny_pyNext_list_end (I.ok.hd hc) st p.isList (by simp; omega) λh' eb=>⟨rfl,I.turned (t':=s.toks) (λb o hb e=>eb b o hb e) f0 f1 f3 f4 f5⟩
 self:=λ_ _ _ _ _ st h=>wpAny_pyIter_listiter st h
theorem iM{P:Bp}{w:World}{K:PySem.W.Frag}{tg:Expr}(a it:Addr):Turn P w K tg (O4 K a) [it] it (λi h=>h.IsTupleIter it a i) where
 mem:=by simp
 obj:=λi h st b hb=>by
  have e:b=it:=by simpa using hb
  subst e
  obtain ⟨o,e,c,d⟩:=st
  exact ⟨o,e,λv z=>by rw[d] at z; cases z⟩
 keep:=λi h h' st k=>st.at λo e=>k it (by simp) o e
 item:=by
  intro X hP hw hK hc i pins s σ H E I hf st hg
  subst hP hw hK
  obtain ⟨xs,x,hq,hx⟩:=hg
  obtain ⟨its,rv,p,hz⟩:=I.tuple hq
  obtain ⟨u,hu,ru⟩:=rv.get hx
  obtain ⟨f0,f1,f2,f3,f4,f5⟩:=hf it (by simp)
  refine tP st (show s.heap.IsTuple a its.toArray from p) (x:=u) (by simpa using hu) λh' st' sb=>?_
  have I1:Inv X pins σ H { s with heap:=h' }:=I.turned (t':=s.toks) (λb o hb e=>(sb.2 b hb).trans e) f0 f1 f3 f4 f5
  obtain ⟨o,e,c,d⟩:=id st'
  exact ⟨u,rfl,rE (s:={ s with heap:=h' }) e c d (by decide) ⟨x,H,I1,ru,⟨rfl,λys hy=>by rw[I.tuple_inj hy hq]; exact hx⟩,st',λb hb=>(hf b hb).1⟩⟩
 done:=by
  intro X hP hw hK hc i pins s σ H E I hf st hg
  subst hP hw hK
  obtain ⟨xs,hq,hx⟩:=hg
  obtain ⟨its,rv,p,hz⟩:=I.tuple hq
  obtain ⟨f0,f1,f2,f3,f4,f5⟩:=hf it (by simp)
  have hl:=rv.length
  exact tT (I.ok.hd hc) st (show s.heap.IsTuple a its.toArray from p) (by simp; omega) λh' eb=>⟨rfl,I.turned (t':=s.toks) (λb o hb e=>eb b o hb e) f0 f1 f3 f4 f5⟩
 self:=λ_ _ _ _ _ st h=>wpAny_pyIter_tupleiter st h
theorem iE{P:Bp}{w:World}{K:PySem.W.Frag}{tg:Expr}(it:Addr)(lo:Int)(n:Nat):Turn P w K tg (L5 lo n) [it] it (λi h=>IsRangeIter h it (lo+(i:Nat) * 1) ((n:Int) - (i:Nat)) 1) where
 mem:=by simp
 obj:=λi h st b hb=>by
  have e:b=it:=by simpa using hb
  subst e
  exact ⟨_,st,λv z=>by
   have z':Data.fields _=Data.cell v:=z
   cases z'⟩
 keep:=λi h h' st k=>k it (by simp) _ st
 item:=by
  intro X hP hw hK hc i pins s σ H E I hf st hg
  subst hP hw hK
  obtain ⟨f0,f1,f2,f3,f4,f5⟩:=hf it (by simp)
  have W:=Walks.range (prog:=X.prog) (w:=X.w) (I.ok.hd hc) it lo 1 n
  refine W.item i s _ _ hg st λv h' tk hv st' kk=>?_
  obtain ⟨t,rfl⟩:=hv
  have I1:Inv X pins σ H { s with heap:=h',toks:=tk }:=I.turned (λb o hb e=>kk b o (by simpa using hb) e) f0 f1 f3 f4 f5
  refine ⟨_,rfl,rE (s:={ s with heap:=h',toks:=tk }) (n := "range_iterator") st' rfl rfl (by decide) ⟨.int (lo+i),H,I1,⟨t,?_⟩,⟨rfl,rfl⟩,st',λb hb=>(hf b hb).1⟩⟩
  rw[Int.mul_one]
 done:=by
  intro X hP hw hK hc i pins s σ H E I hf st hg
  subst hP hw hK
  obtain ⟨f0,f1,f2,f3,f4,f5⟩:=hf it (by simp)
  exact wpAny_pyNext_range_end (I.ok.hd hc) st (by have : n<=i:=hg; omega) λh' eb=>⟨rfl,I.turned (t':=s.toks) (λb o hb e=>eb b o hb e) f0 f1 f3 f4 f5⟩
 self:=λ_ _ _ _ _ st h=>wpAny_pyIter_rangeiter st h
section
variable{X:Cx}{tg:Expr}
def A7(K:PySem.W.Frag)(tl:TE):TI:=λσ H R=>tl σ H λx H1=>∃a,x=.ref a/\(∃xs,Om K H1 a xs)/\R (R8 K a) H1
def N9(K:PySem.W.Frag)(tl:TE):TI:=λσ H R=>tl σ H λx H1=>∃a,x=.ref a/\(∃xs,Pe K H1 a xs)/\R (O4 K a) H1
theorem uG{l:Expr}{tl:TE}(hl:PE X l tl):PI X tg l (A7 X.K tl):=by
 intro pins s σ H R I h
 refine Gq (hl pins s σ H _ I h) λv s1 q0_ => ?_
 obtain ⟨x,H1,I1,r1,q1⟩ := q0_
 obtain ⟨a,e,⟨xs,hq⟩,q⟩:=q1
 subst e
 cases r1
 obtain ⟨its,rv,p,hz⟩:=I1.list hq
 refine wpAny_pyIter_list p.isList ?_
 refine ⟨s1.heap.objs.size,[s1.heap.objs.size],_,_,H1,rfl,I1.kept (t':=s1.toks) λb o e=>Ar _ e,nK a _,⟨_,Bt _ rfl,rfl,rfl⟩,λb hb=>?_,q⟩
 have e:b=s1.heap.objs.size:=by simpa using hb
 subst e
 exact I1.fpOk (An _) (I1.hok.fresh (An _))
theorem zH{l:Expr}{tl:TE}(hl:PE X l tl):PI X tg l (N9 X.K tl):=by
 intro pins s σ H R I h
 refine Gq (hl pins s σ H _ I h) λv s1 q0_ => ?_
 obtain ⟨x,H1,I1,r1,q1⟩ := q0_
 obtain ⟨a,e,⟨xs,hq⟩,q⟩:=q1
 subst e
 cases r1
 obtain ⟨its,rv,p,hz⟩:=I1.tuple hq
 refine wpAny_pyIter_tuple (show s1.heap.IsTuple a its.toArray from p) ?_
 refine ⟨s1.heap.objs.size,[s1.heap.objs.size],_,_,H1,rfl,I1.kept (t':=s1.toks) λb o e=>Ar _ e,iM a _,⟨_,Bt _ rfl,rfl,rfl⟩,λb hb=>?_,q⟩
 have e:b=s1.heap.objs.size:=by simpa using hb
 subst e
 exact I1.fpOk (An _) (I1.hok.fresh (An _))
theorem tJ{pins:List (Addr×Obj)}{σ:St}{H:Hp}{s:Al}{R:It->Hp->Prop}{E:Value->Al->Prop}{lo hi:Int}{t u v:Tok}{tk:Nat}(I:Inv X pins σ H s)(h1:-(2 ^ 62)<=lo)(h2:lo<2 ^ 62)(h3:-(2 ^ 62)<=hi)(h4:hi<2 ^ 62)(q:R (L5 lo (hi - lo).toNat) H):wpAny (model X.prog X.w) X.A (pyIter (.ref s.heap.objs.size)) (R7 X pins σ tg R) E { s with heap:=s.heap.push { cls:=.type "range",data:=.fields #[.int lo t,.int hi u,.int 1 v] },toks:=tk }:=by
 refine wpAny_pyIter_range (IsRange.new ..) (small_one h1 h2 h3 h4) ?_
 have I1:Inv X pins σ H { s with heap:=s.heap.push { cls:=.type "range",data:=.fields #[.int lo t,.int hi u,.int 1 v] },toks:=tk }:=I.kept λb o e=>Ar _ e
 refine ⟨(s.heap.push { cls:=.type "range",data:=.fields #[.int lo t,.int hi u,.int 1 v] }).objs.size,[(s.heap.push { cls:=.type "range",data:=.fields #[.int lo t,.int hi u,.int 1 v] }).objs.size],_,_,H,rfl,
  I1.kept (t':=tk) λb o e=>Ar _ e,iE _ lo (hi - lo).toNat,?_,λb hb=>?_,q⟩
 ·have e1:lo+((0:Nat):Int) * 1=lo:=by simp
  have e2:(((hi - lo).toNat:Nat):Int) - ((0:Nat):Int)=Builtin.Range.rangeSize lo hi 1:=by rw[rangeSize_one]; split <;> omega
  show IsRangeIter _ _ (lo+((0:Nat):Int) * 1) ((((hi - lo).toNat:Nat):Int) - ((0:Nat):Int)) 1
  rw[e1,e2]
  exact Bt _ rfl
 ·have e:b=(s.heap.push { cls:=.type "range",data:=.fields #[.int lo t,.int hi u,.int 1 v] }).objs.size:=by simpa using hb
  subst e
  exact I1.fpOk (An _) (I1.hok.fresh (An _))
def G4(ta:TA):TI:=λσ H R=>ta σ H λvs H1=>∃j:Int,vs=[.int j] /\ -(2 ^ 62)<=j/\j<2 ^ 62/\R (L5 0 j.toNat) H1
theorem mW{a:Expr}{ta:TA}{p pos:Pos}(hg:Gl X "range")(hm:X.mg "range" = none)(ha:PA X [a] ta)(hs:Bj [a] X.env=[(false,eval a X.env)]:=by rfl):PI X tg (.Call (.Name "range" p) [a] [] pos) (G4 ta):=by
 intro pins s σ H R I h
 refine Call_ (Tp I hg hm boot_range (Gu (Gq (ha pos pins s σ H _ I h) λus s1 ⟨vs,H1,I1,r1,q1⟩=>?_) hs rfl))
 obtain ⟨j,e,q1,q2,q⟩:=q1
 subst e
 cases r1 with
 | cons r rr =>
  cases rr
  obtain ⟨t,rfl⟩:=r
  exact call_range_1 (tJ I1 (by omega) (by omega) q1 q2 (by simpa using q))
def S5(wi:TI)(g:TG)(tb:TS):TS:=λD σ H=>wi σ H λJ H1=>∃W:Nat->Nat->St->Hp->Prop,(∃m,W 0 m σ H1)/\∀i m σ H,W i m σ H ->
 (J.stop i H/\D.nx σ H)\/(J.go i H/\∃N:St->Hp->Prop,(∀σ' H',N σ' H'->∃m',m'<m/\W (i+1) m' σ' H')/\∀x H',J.yld i H x H'->g x σ H' λσ2 H2=>tb { D with nx:=N,ct:=N,bk:=D.nx } σ2 H2)
def Ou(fp:List Addr)(h:Heap):List (Addr×Obj):=fp.filterMap λb=>(h.get? b).map λo=>(b,o)
theorem Ho{fp:List Addr}{h:Heap}{b:Addr}{o:Obj}(hb:b∈fp)(e:h.get? b=some o):(b,o)∈Ou fp h:=List.mem_filterMap.mpr ⟨b,hb,by rw[e]; rfl⟩
theorem lW{fp:List Addr}{h:Heap}{p:Addr×Obj}(hp:p∈Ou fp h):p.1∈fp/\h.get? p.1=some p.2:=by
 obtain ⟨b,hb,e⟩:=Ua.mp hp
 cases q:h.get? b with
 | none=>rw[q] at e; cases e
 | some o =>
  rw[q] at e
  have e':(b,o)=p:=Bl e
  subst e'
  exact ⟨hb,q⟩
theorem Inv.pinned{pins:List (Addr×Obj)}{σ:St}{H:Hp}{s:Al}{fp:List Addr}(I:Inv X pins σ H s)(hf:∀b∈fp,Ld X pins H b)(ho:∀b∈fp,∃o,s.heap.get? b=some o/\∀v,o.data≠.cell v):Inv X (pins++Ou fp s.heap) σ H s :=
 I.pins_of λp hp=>(Ay.mp hp).elim (λz=>I.pin p (Ah _ z)) λz=>by
  obtain ⟨hb,e⟩:=lW z
  obtain ⟨f0,f1,f2,_⟩:=hf p.1 hb
  obtain ⟨o,e',d⟩:=ho p.1 hb
  rw[e] at e'; cases e'
  exact ⟨e,f0,f1,f2,d⟩
theorem Inv.unpinned{pins pl:List (Addr×Obj)}{σ:St}{H:Hp}{s:Al}(I:Inv X (pins++pl) σ H s):Inv X pins σ H s:=I.pins_of λp hp=>I.pin p (Ah _ (Am _ hp))
theorem x9{iter:Expr}{body:List Stmt}{wi:TI}{g:TG}{tb:TS}{pos:Pos}(hp:PassesOwn (model X.prog X.w) X.A X.env X.xe)(hc:X.calm=true)(hi:PI X tg iter wi)(hg:PG X tg g)(hb:gV X body tb)(hs:∀x,Ci iter X.env x=pure x:=by intro _; rfl):PS X (.For tg iter body [] pos) (S5 wi g tb):=by
 intro pins s σ H D I h
 refine wpAny_For (Gq (hi pins s σ H _ I h) λv s1 h1=>Gq h1 λitv s2 h2=>?_) hs
 obtain ⟨it,fp,tn,J,H2,e,I2,T,st2,f2,W,⟨m0,w0⟩,turn⟩:=h2
 subst e
 -- what stays true of the iterator's objects through the loop
 have stat:∀{H':Hp},(∀b∈fp,H' b=none)->∀b∈fp,Ld X pins H' b:=λhn b hb=>⟨hn b hb,(f2 b hb).2⟩
 refine codeAny_forLoop_any (λn s'=>∃i σ' H',Inv X pins σ' H' s'/\tn i s'.heap/\(∀b∈fp,H' b=none)/\W i n σ' H') ?_ m0 ⟨0,σ,H2,I2,st2,λb hb=>(f2 b hb).1,w0⟩
 (intro n s3 q_; obtain ⟨i,σ3,H3,I3,tR,fr3,w3⟩ := q_)
 rcases turn i n σ3 H3 w3 with ⟨stop,qn⟩ | ⟨go,N,hN,step⟩
 ·refine Ie hp (Gq (T.done X rfl rfl rfl hc i pins s3 σ3 H3 X.xe I3 (stat fr3) tR stop) λr s4 q0_ => ?_)
  obtain ⟨hr,I4⟩ := q0_
  subst hr
  exact Sf ⟨σ3,H3,I4,qn⟩
 ·refine Ie hp (Gq (T.item X rfl rfl rfl hc i pins s3 σ3 H3 X.xe I3 (stat fr3) tR go) λr s4 q0_ => ?_)
  obtain ⟨u,hr,h4⟩ := q0_
  subst hr
  refine Ie hp (Gq h4 λ_ s5 q0_ => ?_)
  obtain ⟨x,H5,I5,r5,y5,st5,fr5⟩ := q0_
  have I5':=I5.pinned (stat fr5) (T.obj _ _ st5)
  refine Ie hp (Gq (hg _ s5 σ3 H5 x u _ I5' r5 (step x H5 y5)) λ_ s6 q0_ => ?_)
  obtain ⟨σ6,H6,I6,q6⟩ := q0_
  refine Ie hp (Gq (hb _ s6 σ6 H6 _ I6 q6) λf s7 q7=>?_)
  have again:∀{σ7:St} {H7:Hp},Inv X (pins++Ou fp s5.heap) σ7 H7 s7->N σ7 H7->∃m,m<n/\∃i σ' H',Inv X pins σ' H' s7/\tn i s7.heap/\(∀b∈fp,H' b=none)/\W i m σ' H':=λ{σ7 H7} I7 n7=>by
   obtain ⟨m',hm,w7⟩:=hN σ7 H7 n7
   refine ⟨m',hm,i+1,σ7,H7,I7.unpinned,T.keep _ _ _ st5 λb hb o e=>(I7.pin (b,o) (Ah _ (Ah _ (Ho hb e)))).1,λb hb=>?_,w7⟩
   obtain ⟨o,e,d⟩:=T.obj _ _ st5 b hb
   exact (I7.pin (b,o) (Ah _ (Ah _ (Ho hb e)))).2.1
  cases f with
  | next=>obtain ⟨σ7,H7,I7,n7⟩:=q7; exact again I7 n7
  | cont=>obtain ⟨σ7,H7,I7,n7⟩:=q7; exact again I7 n7
  | brk=>obtain ⟨σ7,H7,I7,q7⟩:=q7; exact ⟨σ7,H7,I7.unpinned,q7⟩
  | ret v=>obtain ⟨x7,σ7,H7,I7,r7,q7⟩:=q7; exact ⟨x7,σ7,H7,I7.unpinned,r7,q7⟩
end
abbrev R2:=V->V->Hp->VK->Prop
def Rv(X:Cx)(f:Value->Value->Sem Value)(r:R2):Prop :=
 ∀(pins:List (Addr×Obj)) (s:Al) (σ:St) (H:Hp) (x y:V) (v u:Value) (Q:VK),Inv X pins σ H s->RelV x v->RelV y u->r x y H Q ->
  wpAny (model X.prog X.w) X.A (f v u) (EP X pins σ Q) X.xe s
def P0(X:Cx)(f:Value->Sem Value)(r:V->Hp->VK->Prop):Prop :=
 ∀(pins:List (Addr×Obj)) (s:Al) (σ:St) (H:Hp) (x:V) (v:Value) (Q:VK),Inv X pins σ H s->RelV x v->r x H Q ->
  wpAny (model X.prog X.w) X.A (f v) (EP X pins σ Q) X.xe s
def Kg(X:Cx)(f:Value)(r:List V->Hp->VK->Prop):Prop :=
 ∀(pins:List (Addr×Obj)) (s:Al) (σ:St) (H:Hp) (xs:List V) (us:List Value) (Q:VK),Inv X pins σ H s->Fc xs us->r xs H Q ->
  wpAny (model X.prog X.w) X.A (call f us) (EP X pins σ Q) X.xe s
def F6(r:R2)(ta tb:TE):TE:=λσ H Q=>ta σ H λx H1=>tb σ H1 λy H2=>r x y H2 Q
def U8(r:V->Hp->VK->Prop)(ta:TE):TE:=λσ H Q=>ta σ H λx H1=>r x H1 Q
def rI(C:Int->Int->Prop)(g:Int->Int->V):R2:=λx y H Q=>∃i j,x=.int i/\y=.int j/\C i j/\Q (g i j) H
def yI(g:Int->Int->V):R2:=λx y H Q=>∃i j,x=.int i/\y=.int j/\Q (g i j) H
def rU(g:Int->V):V->Hp->VK->Prop:=λx H Q=>∃i,x=.int i/\Q (g i) H
section
variable{X:Cx}{a b c:Expr}{ta tb tc:TE}{pos:Pos}
theorem t8(ha:PE X a ta)(hb:PE X b tb){pins:List (Addr×Obj)}{s:Al}{σ:St}{H:Hp}{R:V->V->Hp->Prop}(I:Inv X pins σ H s)(h:ta σ H λx H1=>tb σ H1 λy H2=>R x y H2){Q:Value->Al->Prop}{f:Value->Value->Sem Value}(hf:∀v u s2 x y H2,Inv X pins σ H2 s2->RelV x v->RelV y u->R x y H2->wpAny (model X.prog X.w) X.A (f v u) Q X.xe s2):wpAny (model X.prog X.w) X.A (eval a X.env) (λv s₁=>wpAny (model X.prog X.w) X.A (eval b X.env) (λu s₂=>wpAny (model X.prog X.w) X.A (f v u) Q X.xe s₂) X.xe s₁) X.xe s:=by
 refine Gq (ha pins s σ H _ I h) λv s1 q0_ => ?_
 obtain ⟨x,H1,I1,r1,q1⟩ := q0_
 refine Gq (hb pins s1 σ H1 _ I1 q1) λu s2 q0_ => ?_
 obtain ⟨y,H2,I2,r2,q2⟩ := q0_
 exact hf v u s2 x y H2 I2 r1 r2 q2
theorem He{op:Operator}{r:R2}(ho:Rv X (Gj op) r)(ha:PE X a ta)(hb:PE X b tb):PE X (.BinOp a op b pos) (F6 r ta tb):=by
 intro pins s σ H Q I h
 exact wpAny_BinOp (t8 ha hb I h λv u s2 x y H2 I2 rx ry q=>ho pins s2 σ H2 x y v u Q I2 rx ry q)
theorem C6{op:UnaryOp}{r:V->Hp->VK->Prop}(ho:P0 X (unaryOp op) r)(ha:PE X a ta):PE X (.UnaryOp op a pos) (U8 r ta):=by
 intro pins s σ H Q I h
 exact UnaryOp_ (Gq (ha pins s σ H _ I h) λv s1 ⟨x,H1,I1,r1,q1⟩=>ho pins s1 σ H1 x v Q I1 r1 q1)
theorem J5{f:Value->Value->Sem Value}{C:Int->Int->Prop}{g:Int->Int->Int}(rule:∀(i j:Int) (t u:Tok) (s:Al) (Q:Value->Al->Prop) (E:Value->Al->Prop),C i j->Q (.int (g i j) s.toks) { s with toks:=s.toks+1 }->wpAny (model X.prog X.w) X.A (f (.int i t) (.int j u)) Q E s):Rv X f (rI C λi j=>.int (g i j)):=by
 intro pins s σ H x y v u Q I rx ry h
 obtain ⟨i,j,rfl,rfl,hc,q⟩:=h
 obtain ⟨t,rfl⟩:=rx
 obtain ⟨t',rfl⟩:=ry
 exact rule i j t t' s _ _ hc ⟨.int (g i j),H,I.tok _,⟨_,rfl⟩,q⟩
theorem M0{f:Value->Value->Sem Value}{g:Int->Int->Int}(rule:∀(i j:Int) (t u:Tok) (s:Al) (Q:Value->Al->Prop) (E:Value->Al->Prop),Q (.int (g i j) s.toks) { s with toks:=s.toks+1 }->wpAny (model X.prog X.w) X.A (f (.int i t) (.int j u)) Q E s):Rv X f (yI λi j=>.int (g i j)):=by
 intro pins s σ H x y v u Q I rx ry h
 obtain ⟨i,j,rfl,rfl,q⟩:=h
 obtain ⟨t,rfl⟩:=rx
 obtain ⟨t',rfl⟩:=ry
 exact rule i j t t' s _ _ ⟨.int (g i j),H,I.tok _,⟨_,rfl⟩,q⟩
theorem yQ{f:Value->Value->Sem Value}{g:Int->Int->Bool}(rule:∀(i j:Int) (t u:Tok) (s:Al) (Q:Value->Al->Prop) (E:Value->Al->Prop),Q (.bool (g i j)) s->wpAny (model X.prog X.w) X.A (f (.int i t) (.int j u)) Q E s):Rv X f (yI λi j=>.bl (g i j)):=by
 intro pins s σ H x y v u Q I rx ry h
 obtain ⟨i,j,rfl,rfl,q⟩:=h
 obtain ⟨t,rfl⟩:=rx
 obtain ⟨t',rfl⟩:=ry
 exact rule i j t t' s _ _ ⟨.bl (g i j),H,I,rfl,q⟩
def yU(i j:Int):Prop:=0<j/\j<1073741824
def P2(i j:Int):Prop:=0<=j/\j<=1000000/\i.natAbs<2 ^ 64
def vM(i j:Int):Prop:=(-(2 ^ 64)<i/\i<2 ^ 64)\/(-(2 ^ 64)<j/\j<2 ^ 64)
theorem vM.ok{i j:Int}(h:vM i j):IntMulOk i j:=by
 rcases h with ⟨h1,h2⟩ | ⟨h1,h2⟩
 ·exact .of_left (intBits_le_64 h1 h2)
 ·exact .of_right (intBits_le_64 h1 h2)
theorem Vw:Rv X (Gj .Add) (yI λi j=>.int (i+j)):=M0 λ_ _ _ _ _ _ _ q=>add_int q
theorem zA:Rv X (Gj .Sub) (yI λi j=>.int (i - j)):=M0 λ_ _ _ _ _ _ _ q=>sub_int q
theorem Tx:Rv X (Gj .Mult) (rI vM λi j=>.int (i * j)):=J5 λ_ _ _ _ _ _ _ hc q=>mul_int q hc.ok
theorem aS:Rv X (Gj .FloorDiv) (rI yU λi j=>.int (i / j)):=J5 λi j _ _ _ _ _ hc q=>by
 have h1:(0:Int)<j:=hc.1
 have h2:j<1073741824:=hc.2
 exact floordiv_int (by omega) (by rw[Int.fdiv_eq_ediv_of_nonneg i (by omega)]; exact q) (.inl (PyProof.noPylong_small (by omega)))
theorem Qm:Rv X (Gj .Mod) (rI (λ_ j=>0<j) λi j=>.int (i % j)):=J5 λi j _ _ _ _ _ hc q=>by
 have h1:(0:Int)<j:=hc
 exact mod_int' (by omega) (by rw[Int.fmod_eq_emod_of_nonneg i (by omega)]; exact q)
theorem aN:Rv X (Gj .Pow) (rI P2 λi j=>.int (i ^ j.toNat)):=J5 λ_ _ _ _ _ _ _ hc q=>pow_int_small hc.1 hc.2.1 hc.2.2 q
theorem V7{f:Value->Sem Value}{g:Int->Int}(rule:∀(i:Int) (t:Tok) (s:Al) (Q:Value->Al->Prop) (E:Value->Al->Prop),Q (.int (g i) s.toks) { s with toks:=s.toks+1 }->wpAny (model X.prog X.w) X.A (f (.int i t)) Q E s):P0 X f (rU λi=>.int (g i)):=by
 intro pins s σ H x v Q I rx h
 obtain ⟨i,rfl,q⟩:=h
 obtain ⟨t,rfl⟩:=rx
 exact rule i t s _ _ ⟨.int (g i),H,I.tok _,⟨_,rfl⟩,q⟩
theorem r6:P0 X (unaryOp .USub) (rU λi=>.int (-i)):=V7 λ_ _ _ _ _ q=>neg_int q
end
section
variable{X:Cx}{a b c:Expr}{ta tb tc:TE}{pos:Pos}
theorem o6{pins:List (Addr×Obj)}{σ:St}{H:Hp}{s:Al}{Q:VK}{k k':Bool}(I:Inv X pins σ H s)(q:Q (.bl k) H)(e:k=k'):EP X pins σ Q (.bool k') s:=by
 subst e
 exact ⟨.bl k,H,I,rfl,q⟩
theorem L8:Rv X (Ip .Lt) (yI λi j=>.bl (decide (i<j))):=yQ λ_ _ _ _ _ _ _ q=>lt_int q
theorem M4:Rv X (Ip .Gt) (yI λi j=>.bl (decide (j<i))):=yQ λ_ _ _ _ _ _ _ q=>gt_int q
theorem xA:Rv X (Ip .GtE) (yI λi j=>.bl (decide (j<=i))):=yQ λ_ _ _ _ _ _ _ q=>ge_int q
theorem i3:Rv X (Ip .Is) (λx y H Q=>y=.non/\Q (.bl (decide (x=.non))) H):=by
 intro pins s σ H x y v u Q I rx ry h
 obtain ⟨rfl,q⟩:=h
 cases ry
 refine is_none_gen (o6 I q ?_)
 cases x <;> first
  | (cases rx; rfl)
  | (obtain ⟨t,rfl⟩:=rx; rfl)
theorem Nu(b:Expr){op:CmpOp}(h:op≠.In:=by decide)(h2:op≠.NotIn:=by decide):Gs op b=false:=by
 have e1:(op == CmpOp.In)=false:=by cases op <;> first | rfl | exact absurd rfl h
 have e2:(op == CmpOp.NotIn)=false:=by cases op <;> first | rfl | exact absurd rfl h2
 cases b <;> simp [Gs,e1,e2]
theorem uP{op:CmpOp}{r:R2}(ho:Rv X (Ip op) r)(ha:PE X a ta)(hb:PE X b tb)(hm:Gs op b=false):PE X (.Compare a [op] [b] pos) (F6 r ta tb):=by
 intro pins s σ H Q I h
 exact wpAny_Compare1 (t8 ha hb I h λv u s2 x y H2 I2 rx ry q=>ho pins s2 σ H2 x y v u Q I2 rx ry q) hm
def A6(t:TE):TT:=λσ H Q=>t σ H λx H'=>∃k,x=.bl k/\Q k H'
theorem jW{op:CmpOp}{r:R2}(ho:Rv X (Ip op) r)(ha:PE X a ta)(hb:PE X b tb)(hm:Gs op b=false):PT X (.Compare a [op] [b] pos) (A6 (F6 r ta tb)):=by
 intro pins s σ H Q I h
 refine wpAny_isTrue_Compare1 (Gq (ha pins s σ H _ I h) λv s1 ⟨x,H1,I1,r1,q1⟩=>Gq (hb pins s1 σ H1 _ I1 q1) λu s2 ⟨y,H2,I2,r2,q2⟩ =>
  Gq (ho pins s2 σ H2 x y v u _ I2 r1 r2 q2) λc s3 ⟨z,H3,I3,r3,k,e,q3⟩=>?_) hm
 subst e
 cases r3
 exact Kt ⟨H3,I3,q3⟩
theorem Vt:(Be:Nat)<2 ^ 63:=by rw[Gi]; decide
theorem iA:Rv X (Gj .Add) (λx y H Q=>∃i j,x=.str i/\y=.str j/\i.length+j.length<=Be/\Q (.str (i++j)) H):=by
 intro pins s σ H x y v u Q I rx ry h
 obtain ⟨i,j,rfl,rfl,hz,q⟩:=h
 obtain ⟨t,rfl⟩:=rx
 obtain ⟨t',rfl⟩:=ry
 exact add_str (λt' tk=>⟨.str (i++j),H,I.tok _,⟨_,rfl⟩,q⟩) hz
theorem vals1{x:V}{us:List Value}(r:Fc [x] us):∃u,us=[u]/\RelV x u:=by
 cases r with
 | cons r1 r2=>cases r2; exact ⟨_,rfl,r1⟩
theorem vals2{x y:V}{us:List Value}(r:Fc [x,y] us):∃u w',us=[u,w']/\RelV x u/\RelV y w':=by
 cases r with
 | cons r1 r2 =>
  cases r2 with
  | cons r3 r4=>cases r4; exact ⟨_,_,rfl,r1,r3⟩
theorem Zb(hc:X.calm=true):Kg X (.builtin "min") (λxs H Q=>∃i j,xs=[.int i,.int j]/\Q (.int (if j<i then j else i)) H):=by
 intro pins s σ H xs us Q I r h
 obtain ⟨i,j,rfl,q⟩:=h
 obtain ⟨u,w',rfl,⟨t,rfl⟩,⟨t',rfl⟩⟩:=vals2 r
 refine min_two_ints (I.ok.hd hc) λh' tk k=>⟨_,H,I.kept k,?_,q⟩
 by_cases hj:j<i
 ·rw[if_pos hj,if_pos hj]; exact ⟨_,rfl⟩
 ·rw[if_neg hj,if_neg hj]; exact ⟨_,rfl⟩
theorem Zc:Kg X (.type "int") (λxs H Q=>(∃i,xs=[.int i]/\Q (.int i) H)\/∃k,xs=[.bl k]/\Q (.int (if k then 1 else 0)) H):=by
 intro pins s σ H xs us Q I r h
 rcases h with ⟨i,rfl,q⟩ | ⟨k,rfl,q⟩
 ·obtain ⟨u,rfl,t,rfl⟩:=vals1 r
  exact call_int_int ⟨.int i,H,I,⟨_,rfl⟩,q⟩
 ·obtain ⟨u,rfl,r1⟩:=vals1 r
  cases r1
  exact call_int_bool ⟨.int (if k then 1 else 0),H,I.tok _,⟨_,rfl⟩,q⟩
def M1(K:PySem.W.Frag)(x:V)(H:Hp)(n:Nat):Prop :=
 match x with
 | .str y=>y.length<=Be/\n=y.length
 | .byt y=>y.size<=Be/\n=y.size
 | .ref p=>(∃xs,Om K H p xs/\n=xs.length)\/∃xs,Pe K H p xs/\n=xs.length
 | _=>False
theorem Hm:Kg X (.builtin "len") (λxs H Q=>∃x n,xs=[x]/\M1 X.K x H n/\Q (.int n) H):=by
 intro pins s σ H xs us Q I r h
 obtain ⟨x,n,rfl,e,q⟩:=h
 obtain ⟨u,rfl,rx⟩:=vals1 r
 have hl:=Vt
 have hs:Be=16777216:=Gi
 cases x with
 | str y =>
  obtain ⟨t,rfl⟩:=rx
  obtain ⟨hy,e'⟩ : y.length<=Be/\n=y.length:=e
  subst e'
  exact len_str (by omega) ⟨.int _,H,I.tok _,⟨_,rfl⟩,q⟩
 | byt y =>
  obtain ⟨t,rfl⟩:=rx
  obtain ⟨hy,e'⟩ : y.size<=Be/\n=y.size:=e
  subst e'
  exact PySem.W.len_bytes (by omega) ⟨.int _,H,I.tok _,⟨_,rfl⟩,q⟩
 | ref p =>
  cases rx
  have e':(∃xs,Om X.K H p xs/\n=xs.length)\/∃xs,Pe X.K H p xs/\n=xs.length:=e
  rcases e' with ⟨xs,hx,e'⟩ | ⟨xs,hx,e'⟩
  ·subst e'
   obtain ⟨its,r',pl,hz⟩:=I.list hx
   have hlen:=r'.length
   exact Calls.call_len_list pl.isList (by simp only[Aq]; omega) ⟨.int xs.length,H,I.tok _,⟨_,by simp only[Aq]; rw[hlen]⟩,q⟩
  ·subst e'
   obtain ⟨its,r',pl,hz⟩:=I.tuple hx
   have hlen:=r'.length
   exact len_tuple pl (by simp only[Aq]; omega) ⟨.int xs.length,H,I.tok _,⟨_,by simp only[Aq]; rw[hlen]⟩,q⟩
 | _=>exact (show False from e).elim
end
structure ObjM(h:Heap)(x dx C:Addr)(mA:Str->Option Value):Prop where
 obj:h.get? x=some (PySem.W.instObj C dx)
 ns:h.Ns1 dx mA
 ne:dx≠x
theorem lV{h:Heap}{dx:Addr}{mA:Str->Option Value}(n:h.Ns1 dx mA):∃od,h.get? dx=some od/\∀name,PySem.W.lookIn name od=some (mA name):=by
 obtain ⟨o,es,ep,ho,hd,hk,_,hm⟩:=n
 refine ⟨o,ho,λname=>?_⟩
 have e:=hm name
 unfold nsFind findBy at e
 rw[<- Array.find?_toList] at e
 unfold PySem.W.lookIn
 rw[hd]
 dsimp only
 split
 ·rename_i y q
  rw[q] at e
  exact congrArg some e
 ·rename_i q
  rw[q] at e
  have a:es.toList.any (·.refKey)=false:=by
   rw[List.any_eq_false]
   intro y hy
   obtain ⟨z,t,hkey⟩:=hk y (Array.mem_toList_iff.mp hy)
   simp [DictEntry.refKey,hkey]
  have a':¬ es.toList.any (·.refKey)=true:=by rw[a]; exact Ms
  rw[if_neg a']
  exact congrArg some e
theorem ObjM.look{h:Heap}{x dx C:Addr}{mA:Str->Option Value}(I:ObjM h x dx C mA):∃od,PySem.W.InstAt h x (PySem.W.instObj C dx) C (some od)/\∀name,PySem.W.lookIn name od=some (mA name) :=
 let ⟨od,ho,hl⟩:=lV I.ns
 ⟨od,⟨I.obj,rfl,rfl,ho⟩,hl⟩
section
variable{P:Bp}{w:World}{H H':Hp}{h h':Heap}{a C dx:Addr}{fs fs':List (Str×V)}
theorem uI(hok:Xn P w H h)(e:H a=some (.ins C dx fs)):∃mA,ObjM h a dx C mA/\(∀f,l0 (fs.lookup f) (mA f))/\PySem.Within mA (fs.map (·.1))/\fs.length<=1000/\H dx=some (.own a):=by
 obtain ⟨d,z,ne,ob,mA,n,r,q⟩:=(show Ja P w H h a (.ins C dx fs) from hok a _ e)
 exact ⟨mA,⟨ob,n,ne⟩,r,q,z,d⟩
end
structure Cls(K:PySem.W.Frag)(C:Addr):Prop where
 pg:PySem.W.plainGet K C Str.empty=true
 hd:PySem.W.hasDictIn K C=true
 po:PySem.W.plainOver K C=true
 sa:PySem.W.findIn K (.ref C) "__setattr__" = some (some (.builtin "object.__setattr__"))
theorem Cls.get{K:PySem.W.Frag}{C:Addr}(c:Cls K C)(f:Str):PySem.W.plainGet K C f=true:=c.pg
section
variable{X:Cx}{pins:List (Addr×Obj)}{σ:St}{H:Hp}{s:Al}{A:Dg}{E:Value->Al->Prop}{Q:Value->Al->Prop}{c:Value}{b:Bool}
inductive TyOf (K:PySem.W.Frag) (H:Hp):V->Value->Prop where
 | non:TyOf K H .non (.type "NoneType")
 | bl (x:Bool):TyOf K H (.bl x) (.type "bool")
 | int (i:Int):TyOf K H (.int i) (.type "int")
 | str (x:Str):TyOf K H (.str x) (.type "str")
 | flt (x:UInt64):TyOf K H (.flt x) (.type "float")
 | lst {a:Addr} {xs:List V} (e:H a=some (.lst xs)):TyOf K H (.ref a) (.type "list")
 | frz {a:Addr} {o:Obj} {xs:List V} (e:H a=some (.frz o (.lst xs))):TyOf K H (.ref a) (.type "list")
 | tup {a:Addr} {xs:List V} (e:H a=some (.tup xs)):TyOf K H (.ref a) (.type "tuple")
 | dK {a:Addr} {kvs:List (Vg×V)} (e:H a=some (.dK kvs)):TyOf K H (.ref a) (.type "dict")
 | dT {a:Addr} {kvs:List (List Vg×V)} (e:H a=some (.dT kvs)):TyOf K H (.ref a) (.type "dict")
 | ins {a C dx:Addr} {fs:List (Str×V)} (e:H a=some (.ins C dx fs)) (cl:Cls K C) (ha:PySem.W.findIn K (.ref C) "__class__" = some (some (.builtin "object.__class__")))
   (hn:PySem.W.specialIn K (.builtin "object.__class__") "__get__" = some (some (.builtin "getset_descriptor.__get__"))) (htk:PySem.W.takesIn K (.builtin "object.__class__")=some true)
   (hm:PySem.W.mroIn K C (.type "object")=some true):TyOf K H (.ref a) (.ref C)
theorem lZ{x:V}{u t:Value}(I:Inv X pins σ H s)(rx:RelV x u)(ty:TyOf X.K H x t)(e:PySem.W.kitOne X.K t c=some b)(h:∀tk,Q (.bool b) { s with toks:=tk }):wpAny (model X.prog X.w) A (call (.builtin "isinstance") [u,c]) Q E s:=by
 cases ty with
 | non=>cases (show u=On from rx); exact PySem.W.kia_one PySem.W.kitx_none I.kIn Tz e (λz=>nomatch z) h
 | bl y=>cases (show u=Value.bool y from rx); exact PySem.W.kia_one PySem.W.kitx_bool I.kIn Tz e (λz=>nomatch z) h
 | int i=>obtain ⟨t,q⟩:=(show ∃t,u=Value.int i t from rx); cases q; exact PySem.W.kia_one PySem.W.kitx_int I.kIn Tz e (λz=>nomatch z) h
 | str y=>obtain ⟨t,q⟩:=(show ∃t,u=Value.str y t from rx); cases q; exact PySem.W.kia_one PySem.W.kitx_str I.kIn Tz e (λz=>nomatch z) h
 | flt y=>obtain ⟨t,q⟩:=(show ∃t,u=Value.float y t from rx); cases q; exact PySem.W.kia_one PySem.W.kitx_float I.kIn Tz e (λz=>nomatch z) h
 | @lst a xs ea =>
  cases (show u=Fw a from rx)
  obtain ⟨_,_,n,_,h1⟩:=(show Ja X.prog X.w H s.heap a (.lst xs) from I.hok a _ ea)
  exact PySem.W.kia_one PySem.W.kitx_list I.kIn ⟨_,h1,rfl⟩ e (λz=>nomatch z) h
 | @frz a ob xs ea =>
  cases (show u=Fw a from rx)
  obtain ⟨_,_,_,n,_,h1⟩:=(show Ja X.prog X.w H s.heap a (.frz ob (.lst xs)) from I.hok a _ ea)
  exact PySem.W.kia_one PySem.W.kitx_list I.kIn ⟨_,h1,rfl⟩ e (λz=>nomatch z) h
 | @tup a xs ea =>
  cases (show u=Fw a from rx)
  obtain ⟨_,_,_,p⟩:=(show Ja X.prog X.w H s.heap a (.tup xs) from I.hok a _ ea)
  obtain ⟨o,h1,h2,_⟩:=p
  exact PySem.W.kia_one PySem.W.kitx_tuple I.kIn ⟨o,h1,h2⟩ e (λz=>nomatch z) h
 | @dK a kvs ea =>
  cases (show u=Fw a from rx)
  obtain ⟨_,_,vs,_,p⟩:=(show Ja X.prog X.w H s.heap a (.dK kvs) from I.hok a _ ea)
  obtain ⟨o,es,ep,h1,h2,_⟩:=p
  exact PySem.W.kia_one PySem.W.kitx_dict I.kIn ⟨o,h1,h2.1⟩ e (λz=>nomatch z) h
 | @dT a kvs ea =>
  cases (show u=Fw a from rx)
  obtain ⟨_,_,xs,_,o,es,ep,h1,h2,_⟩:=(show Ja X.prog X.w H s.heap a (.dT kvs) from I.hok a _ ea)
  exact PySem.W.kia_one PySem.W.kitx_dict I.kIn ⟨o,h1,h2.1⟩ e (λz=>nomatch z) h
 | @ins a C dx fs ea cl ha hn htk hm =>
  cases (show u=Fw a from rx)
  obtain ⟨mA,O,_⟩:=uI I.hok ea
  obtain ⟨od,J,_⟩:=O.look
  exact PySem.W.kia_one (PySem.W.kitx_own (cl.get _) cl.hd ha hn htk hm) I.kIn J e (λz=>nomatch z) h
end
structure Room(k:Nat)(A:Dg):Prop where
 hd:A.handled=none
 dp:A.depth+3 * k+5<recursionLimit
 un:A.units+16 * k+200<cLine
 gd:A.guards=some []
theorem Room.mono{j k:Nat}{A:Dg}(r:Room k A)(h:j<=k):Room j A:=⟨r.hd,by have:=r.dp; omega,by have:=r.un; omega,r.gd⟩
theorem Room.deeper{k:Nat}{A:Dg}(r:Room (k+1) A)(env:Env):Room k (A.deeper env) :=
 ⟨r.hd,by have:=r.dp; show A.depth+1+3 * k+5<_; omega,by have:=r.un; show A.units+3+16 * k+200<_; omega,r.gd⟩
theorem Room.depth{k:Nat}{A:Dg}(r:Room k A):A.depth<recursionLimit:=by have:=r.dp; omega
theorem Room.units{k:Nat}{A:Dg}(r:Room k A):A.units+64<cLine:=by have:=r.un; omega
def P5:TA:=λ_ H Q=>Q [] H
def A4(ta:TE)(tr:TA):TA:=λσ H Q=>ta σ H λx H1=>tr σ H1 λxs H2=>Q (x::xs) H2
section
variable{X:Cx}{e:Expr}{es:List Expr}{te:TE}{t:TA}{pos:Pos}
theorem Mm:PA X [] P5:=λ_ _ _ _ H Q I h=>Calls.spliced_nil ⟨[],H,I,.nil,h⟩
theorem Gb(ha:PE X e te)(hr:PA X es t)(hs:Bj (e::es) X.env=(false,eval e X.env)::Bj es X.env:=by rfl):PA X (e::es) (A4 te t):=by
 intro pos pins s σ H Q I h
 rw[hs]
 show wpAny _ _ (spliced ((false,eval e X.env)::Hg pos (Bj es X.env))) _ _ s
 refine Calls.spliced_cons (Gq (ha pins s σ H _ I h) λu s1 q0_ => ?_)
 obtain ⟨x,H1,I1,r1,q1⟩ := q0_
 exact Gq (hr pos pins s1 σ H1 _ I1 q1) λus s2 ⟨xs,H2,I2,r2,q2⟩=>⟨x::xs,H2,I2,.cons r1 r2,q2⟩
def P1(t:TA):TE:=λσ H Q=>t σ H λxs H1=>xs.length<=Be/\∀p,H1 p=none->Q (.ref p) (upd H1 p (.tup xs))
def S6(t:TA):TE:=λσ H Q=>t σ H λxs H1=>xs.length<=Be/\∀p,H1 p=none->Q (.ref p) (upd H1 p (.lst xs))
theorem zN{x1}(h:PA X es t):PE X (.Tuple es x1 pos) (P1 t):=by
 intro pins s σ H Q I hq
 refine wpAny_Tuple_spliced (Gq (h pos pins s σ H _ I hq) λus s1 ⟨xs,H1,I1,r,z,q⟩=>⟨by rw[<- r.length]; exact z,?_⟩)
 have hf:H1 s1.heap.objs.size=none:=I1.hok.fresh (An _)
 refine ⟨.ref s1.heap.objs.size,upd H1 s1.heap.objs.size (.tup xs),I1.laid (t':=s1.toks) (λb u e=>Ar _ e) (An _) ?_,rfl,q _ hf⟩
 exact ⟨z,us,r,⟨_,Bt _ rfl,rfl,_,rfl⟩⟩
theorem gS(h:PA X es t):PE X (.List es pos) (S6 t):=by
 intro pins s σ H Q I hq
 refine wpAny_List_spliced (Gq (h pos pins s σ H _ I hq) λus s1 ⟨xs,H1,I1,r,z,q⟩=>⟨by rw[<- r.length]; exact z,?_⟩)
 have hf:H1 s1.heap.objs.size=none:=I1.hok.fresh (An _)
 refine ⟨.ref s1.heap.objs.size,upd H1 s1.heap.objs.size (.lst xs),I1.laid (t':=s1.toks) (λb u e=>Ar _ e) (An _) ?_,rfl,q _ hf⟩
 exact ⟨z,us,0,r,Bt _ rfl⟩
end
abbrev Sp:=List V->Hp->VK->XK->Prop
abbrev nJ:=List Env->Hp->Al->XK->Value->Al->Prop
structure Env0(P:Bp)(w:World)(K:PySem.W.Frag)(mg:Str->Option Value)(base:Heap)(A:Dg)(outer:List Env)(s:Al)(H:Hp):Prop where
 frames:A.frames=some outer
 mod:Mod K mg base
 bs:∀b o,base.get? b=some o->s.heap.get? b=some o/\H b=none
 bsz:base.objs.size<=s.heap.objs.size
 funs:s.heap.FunFrames base outer
 frf:∀b∈mO outer,H b=none
 hok:Xn P w H s.heap
 bare:Pd s.gens
 tab:sC K mg base H
def CE(outer:List Env)(P:Bp)(w:World)(H:Hp)(s:Al)(Q:VK)(u:Value)(s':Al):Prop :=
 ∃v H',s'.os=s.os/\Pd s'.gens/\Un (mO outer) [] H H' s.heap s'.heap/\Xn P w H' s'.heap/\RelV v u/\Q v H'
def CR(CX:nJ)(outer:List Env)(P:Bp)(w:World)(H:Hp)(s:Al)(Q:VK)(E:XK)(r:Result)(s':Al):Prop :=
 match r with
 | .ok (.ret u)=>CE outer P w H s Q u s'
 | .ok _=>False
 | .error e=>CX outer H s E e s'
structure FnOk(P:Bp)(w:World)(K:PySem.W.Frag)(mg:Str->Option Value)(base:Heap)(CX:nJ)(k:Nat)(f:Addr)(fd:Ca)(ps:List Str)(sp:Sp):Prop where
 len:∀vs H Q E,sp vs H Q E->vs.length=ps.length
 run:∀(A:Dg) (outer:List Env) (s:Al) (H:Hp) (args:Args) (us:List Value) (vs:List V) (Q:VK) (E:XK),Room k A->Env0 P w K mg base A outer s H->BindsTo s fd args (ps.zip us)->Fc vs us->sp vs H Q E ->
  Hs (model P w) A (.call (.ref f) args) (CR CX outer P w H s Q E) s
theorem FnOk.imp{P:Bp}{w:World}{K:PySem.W.Frag}{mg:Str->Option Value}{base:Heap}{CX:nJ}{k:Nat}{f:Addr}{fd:Ca}{ps:List Str}{sp sp':Sp}(F:FnOk P w K mg base CX k f fd ps sp)(h:∀vs H Q E,sp' vs H Q E->sp vs H Q E):FnOk P w K mg base CX k f fd ps sp' :=
 ⟨λvs H Q E q=>F.len vs H Q E (h _ _ _ _ q),λA outer s H args us vs Q E hr he hb hv hs=>F.run A outer s H args us vs Q E hr he hb hv (h _ _ _ _ hs)⟩
section
variable{X:Cx}{pins:List (Addr×Obj)}{σ:St}{H:Hp}{s s':Al}
theorem Inv.env0(I:Inv X pins σ H s):Env0 X.prog X.w X.K X.mg X.base X.A X.stack s H :=
 ⟨I.ok.frames,I.ok.mod,I.bs,Bk I.ok.bsz I.sz,I.stack,I.stkFree,I.hok,I.bare,I.ok.tab.un I.base⟩
theorem Inv.after{Q:VK}{u:Value}(I:Inv X pins σ H s)(h:CE X.stack X.prog X.w H s Q u s'):EP X pins σ Q u s':=by
 obtain ⟨v,H',os,bare,un,hok,r,q⟩:=h
 obtain ⟨hh,g,d,t,os'⟩:=s'
 obtain rfl:os'=s.os:=os
 exact ⟨v,H',I.call (h':=hh) (g':=g) (d':=d) (t':=t) (ch:=[]) un hok bare (λb z=>absurd z (by simp)),r,q⟩
end
def B2(sp:Sp)(dvs:List V)(E:XK)(t:TA):TE:=λσ H Q=>t σ H λvs H1=>sp (vs++dvs) H1 Q E
def Binds(K:PySem.W.Frag)(fd:Ca)(ps:List Str)(ds:List Value):Prop :=
 ∀(s:Al) (us:List Value),K.In s.heap->(us++ds).length=ps.length->BindsTo s fd ⟨us,[]⟩ (ps.zip (us++ds))
theorem Binds.all{K:PySem.W.Frag}{fd:Ca}{ps:List Str}(h:∀us:List Value,us.length=ps.length->bindArgs fd ⟨us,[]⟩=pure (ps.zip us)):Binds K fd ps []:=λs us _ hl=>by
 rw[Dc] at hl ⊢
 exact .of_eq (h us hl)
def Qq(CX:nJ)(X:Cx)(E:XK):Prop:=∀(pins:List (Addr×Obj)) (σ:St) (H:Hp) (s:Al) (e:Value) (s':Al),Inv X pins σ H s->CX X.stack H s E e s'->X.xe e s'
section
variable{X:Cx}{CX:nJ}{k:Nat}{f C:Addr}{fd:Ca}{ps:List Str}{sp:Sp}{dvs:List V}{ds:List Value}{E:XK}{x m:Str}{p pos apos:Pos}{e o:Expr}{es:List Expr}{ta:TE}{t:TA}
theorem j7{pins:List (Addr×Obj)}{σ:St}{H:Hp}{s:Al}{Q:VK}{us:List Value}{vs:List V}(F:FnOk X.prog X.w X.K X.mg X.base CX k f fd ps sp)(hr:Room k X.A)(hb:Binds X.K fd ps ds)(hd:Fc dvs ds)(hx:Qq CX X E)(I:Inv X pins σ H s)(r:Fc vs us)(h:sp (vs++dvs) H Q E):wpAny (model X.prog X.w) X.A (call (.ref f) us) (EP X pins σ Q) X.xe s:=by
 have r2:Fc (vs++dvs) (us++ds):=r.append hd
 have hl:(us++ds).length=ps.length:=by rw[<- r2.length]; exact F.len _ _ _ _ h
 refine wpAny_call (Nl (F.run X.A X.stack s H ⟨us,[]⟩ (us++ds) (vs++dvs) Q E hr I.env0 (hb s us I.kIn hl) r2 h) λr s' hq=>?_)
 cases r with
 | error e=>exact hx pins σ H s e s' I hq
 | ok fl =>
  cases fl with
  | ret u=>exact I.after hq
  | next=>exact Ih hq
  | brk=>exact Ih hq
  | cont=>exact Ih hq
theorem Vf(F:FnOk X.prog X.w X.K X.mg X.base CX k f fd ps sp)(hr:Room k X.A)(hg:Gl X x)(hm:X.mg x=some (.ref f))(hk:PySem.W.keepIn X.K (.ref f)=true)(hb:Binds X.K fd ps ds)(hd:Fc dvs ds)(hx:Qq CX X E)(ha:PA X (e::es) t)(hdb:(x == ("__debug__" : Str))=false:=by decide)(he:Bj (e::es) X.env=(false,eval e X.env)::Bj es X.env:=by rfl)(hpl:(Hg pos (Bj es X.env)).any (·.1)=false:=by rfl):PE X (.Call (.Name x p) (e::es) [] pos) (B2 sp dvs E t):=by
 intro pins s σ H Q I h
 refine Xo (uV I hg hm ?_ hdb)
 refine PySem.W.callWith_K (h₀:=X.base) I.ok.mod.kin hk (Gq (ha pos pins s σ H _ I h) λus s1 ⟨vs,H1,I1,r,q⟩=>⟨I1.kIn,?_⟩) he hpl
 exact j7 F hr hb hd hx I1 r q
end
structure FnScope(N P:List Str)(sc:Scope):Prop where
 kind:sc.kind=.function
 co:sc.isCoroutine=false
 gen:sc.isGenerator=false
 nd:N.Nodup
 pre:N.take P.length=P
 par:∀x∈P,sc.names.lookup x=some .local\/sc.names.lookup x=some .cell
 nofree:∀y∈sc.names,y.2≠.free
theorem Zi{kindOf:Str->Option Mk}{x:Str}:∀{binds:List (Str×Value)} {m:Str->Option Value},(∀v,(x,v)∉binds)->bindL kindOf binds m x=m x
 | [],_,_=>rfl
 | (n,v)::r,m,h=>by
  unfold bindL
  rw[Zi λw hw=>h w (Ab _ hw)]
  split
  ·have : x≠n:=by rintro rfl; exact h v Aa
   simp [this]
  ·rfl
theorem Zu{kindOf:Str->Option Mk}{x:Str}:∀{binds:List (Str×Value)} {m:Str->Option Value},(∀v,(x,v)∉binds)->bindC kindOf binds m x=m x
 | [],_,_=>rfl
 | (n,v)::r,m,h=>by
  unfold bindC
  rw[Zu λw hw=>h w (Ab _ hw)]
  split
  ·rfl
  ·have : x≠n:=by rintro rfl; exact h v Aa
   simp [this]
theorem Zq{kindOf:Str->Option Mk}{x:Str}{v:Value}:∀{P:List Str} {vs:List Value} {i:Nat} {m:Str->Option Value},P.Nodup->P[i]? = some x->vs[i]? = some v->kindOf x=some .local->bindL kindOf (P.zip vs) m x=some v
 | [],_,_,_,_,h,_,_=>by simp at h
 | _::_,[],_,_,_,_,h,_=>by simp at h
 | p::P,w::vs,0,m,nd,h1,h2,hk=>by
  simp at h1 h2; subst h1; subst h2
  show bindL kindOf ((p,w)::P.zip vs) m p=_
  unfold bindL
  rw[Zi λv hv=>(Cg.mp nd).1 (List.of_mem_zip hv).1,if_pos hk]
  simp
 | p::P,w::vs,i+1,m,nd,h1,h2,hk=>by
  show bindL kindOf ((p,w)::P.zip vs) m x=_
  unfold bindL
  exact Zq (i:=i) (Cg.mp nd).2 (by simpa using h1) (by simpa using h2) hk
theorem Zo{kindOf:Str->Option Mk}{x:Str}{v:Value}:∀{P:List Str} {vs:List Value} {i:Nat} {m:Str->Option Value},P.Nodup->P[i]? = some x->vs[i]? = some v->kindOf x≠some .local->bindC kindOf (P.zip vs) m x=some v
 | [],_,_,_,_,h,_,_=>by simp at h
 | _::_,[],_,_,_,_,h,_=>by simp at h
 | p::P,w::vs,0,m,nd,h1,h2,hk=>by
  simp at h1 h2; subst h1; subst h2
  show bindC kindOf ((p,w)::P.zip vs) m p=_
  unfold bindC
  rw[Zu λv hv=>(Cg.mp nd).1 (List.of_mem_zip hv).1,if_neg hk]
  simp
 | p::P,w::vs,i+1,m,nd,h1,h2,hk=>by
  show bindC kindOf ((p,w)::P.zip vs) m x=_
  unfold bindC
  exact Zo (i:=i) (Cg.mp nd).2 (by simpa using h1) (by simpa using h2) hk
def start(N:List Str)(vs:List V):St:=vs.map some++Gn (N.length - vs.length) none
def Yc(CX:nJ)(P:Bp)(w:World)(K:PySem.W.Frag)(mg:Str->Option Value)(base:Heap)(N:List Str)(qual:Str)(scope:Scope)(f:Addr)(cd:Value)(A:Dg)(outer:List Env)(s:Al)(H:Hp)(E:XK):Cx where
 prog:=P
 w:=w
 K:=K
 mg:=mg
 base:=base
 A:=A.deeper (Og qual scope s.heap.objs.size f cd)
 N:=N
 s₀:=s
 H₀:=H
 env:=Og qual scope s.heap.objs.size f cd
 outer:=outer
 stack:=Og qual scope s.heap.objs.size f cd::outer
 ex:=[]
 calm:=true
 fn:=λ_=>true
 pn:=[]
 xe:=λe s'=>wpAny (model P w) (A.deeper (Og qual scope s.heap.objs.size f cd)) (leaving (Og qual scope s.heap.objs.size f cd) e) (λ_ s''=>CX outer H s E e s'') (λe' s''=>CX outer H s E e' s'') s'
theorem cY{sc:Scope}{n:Nat}{x:Str}(h:sc.names.lookup x=some .cell):∃c,(Eb n sc.names []).lookup x=some c:=by
 have q:=PySem.W.cellsFrom_some sc.names n [] (.inl h)
 exact Ni.mp q
theorem nW{CX:nJ}{P:Bp}{w:World}{K:PySem.W.Frag}{mg:Str->Option Value}{base:Heap}{N ps:List Str}{qual:Str}{scope:Scope}{f:Addr}{cd:Value}{A:Dg}{outer:List Env}{s s1:Al}{H:Hp}{E:XK}{us:List Value}{vs:List V}(S:FnScope N ps scope)(hd:A.handled=none)(e0:Env0 P w K mg base A outer s H)(hl:vs.length=ps.length)(r:Fc vs us)(x:InCallC s s.heap.objs.size (bindL (Og qual scope s.heap.objs.size f cd).kindOf (ps.zip us) λ_=>none) (Eb (s.heap.objs.size+1) scope.names []) (bindC (Og qual scope s.heap.objs.size f cd).kindOf (ps.zip us) λ_=>none) s1):Inv (Yc CX P w K mg base N qual scope f cd A outer s H E) [] (start N vs) H s1:=by
 have hpl:ps.length<=N.length:=by have:=congrArg Ff S.pre; rw[Ds] at this; omega
 obtain ⟨h1,tk,rfl,hk⟩:=x.done
 have noA:∀b:Addr,b∉(Yc CX P w K mg base N qual scope f cd A outer s H E).ex:=λb z=>absurd (show b∈([]:List Addr) from z) (by simp)
 refine ⟨⟨e0.mod,S.kind,rfl,rfl,An _,λy z c h1 h2=>?_,λy hy=>?_,λy c _ h=>?_,λ_=>hd,Around.frames_deeper e0.frames,.inr ⟨rfl,rfl⟩,λb z=>absurd z (noA b),e0.bs,e0.bsz,λb _ _=>noA b,λb z=>absurd z (noA b),e0.funs,e0.frf,e0.tab⟩,
  rfl,e0.bare,Un.kept hk,⟨_,x.toInCall.ns,λi y v h1 h2 h3=>?_⟩,λy c h=>⟨_,x.cell y c h⟩,e0.hok.fresh (An _),λy c h=>?_,λp hp=>absurd (show p∈([]:List (Addr×Obj)) from hp) (by simp),e0.hok.kept hk,?_⟩
 ·exact name_of_addr x.apart (PySem.mem_of_lookup h1) (PySem.mem_of_lookup h2)
 ·have hy:scope.names.lookup y=some .cell\/scope.names.lookup y=some .free:=hy
  rcases hy with hy | hy
  ·exact cY hy
  ·exact absurd rfl (S.nofree _ (PySem.mem_of_lookup hy))
 ·exact Hh (x.above y c (PySem.mem_of_lookup h))
 ·have hi:i<vs.length:=by
   unfold start at h2
   by_cases hi:i<vs.length
   ·exact hi
   ·rw[Iq (by simpa using hi)] at h2
    rw[List.getElem?_replicate] at h2
    split at h2 <;> cases h2
  have ha:vs[i]? = some v:=by
   unfold start at h2
   rw[Nk (by simpa using hi),Bf] at h2
   cases e:vs[i]? with
   | none=>rw[e] at h2; cases h2
   | some a=>rw[e] at h2; cases h2; rfl
  obtain ⟨u,hu,rv⟩:=r.get ha
  have hp:ps[i]? = some y:=by
   rw[<- S.pre,List.getElem?_take_of_lt (by omega)]; exact h1
  have ndP:ps.Nodup:=by rw[<- S.pre]; exact S.nd.sublist (Fz _ _)
  refine ⟨u,rv,?_⟩
  rcases S.par y (Ao hp) with k | k
  ·exact .inl ⟨k,Zq ndP hp hu k⟩
  ·obtain ⟨c,e⟩:=cY (n:=s.heap.objs.size+1) k
   refine .inr ⟨.inl k,c,e,?_⟩
   have q:=x.cell y c e
   rw[Zo ndP hp hu (by show scope.names.lookup y≠_; rw[k]; decide)] at q
   exact q
 ·exact e0.hok.fresh (Hh (x.above y c (PySem.mem_of_lookup h)))
 ·unfold start
  show _=N.length
  rw[Ax,Ac,List.length_replicate]
  omega
theorem E8{CX:nJ}{P:Bp}{w:World}{K:PySem.W.Frag}{mg:Str->Option Value}{base:Heap}{k:Nat}{f:Addr}{name qual:Str}{params:Arguments}{body:List Stmt}{scope:Scope}{dV kV doc pm cdv ct oc:Value}{an od:Option Addr}{osl:Array (Option Value)}{N ps:List Str}{sp:Sp}(lk:K.lookup f=some ⟨oc,od,.func (PySem.W.fnOf name qual params body scope dV kV doc pm an cdv ct),osl⟩)(hcd:PySem.W.codeIn K cdv qual=true)(S:FnScope N ps scope)(len:∀vs H Q E,sp vs H Q E->vs.length=ps.length)(hbody:∀(A:Dg) (outer:List Env) (s:Al) (H:Hp) (vs:List V) (Q:VK) (E:XK),Room k (A.deeper (Og qual scope s.heap.objs.size f cdv))->sp vs H Q E->∃t,gV (Yc CX P w K mg base N qual scope f cdv A outer s H E) body t/\t { nx:=λ_ H'=>Q .non H',rt:=Q } (start N vs) H):FnOk P w K mg base CX (k+1) f (PySem.W.fnOf name qual params body scope dV kV doc pm an cdv ct) ps sp:=by
 refine ⟨len,λA outer s H args us vs Q E hr e0 hb r hsp=>?_⟩
 have hl:=len _ _ _ _ hsp
 have KX:K.In s.heap:=e0.mod.kin.keeps λb o e=>(e0.bs b o e).1
 have lim:s.heap.NoLimit:=e0.mod.nolimit.keeps λb o e=>(e0.bs b o e).1
 have hkind:∀y∈ps.zip us,scope.names.lookup y.1=some .local\/(scope.names.lookup y.1=some .cell/\((Eb (s.heap.objs.size+1) scope.names []).lookup y.1).isSome=true):=λ⟨n,v⟩ hy=>by
  rcases S.par n (List.of_mem_zip hy).1 with q | q
  ·exact .inl q
  ·exact .inr ⟨q,PySem.W.cellsFrom_some _ _ _ (.inl q)⟩
 refine codeAny_call_function hr.depth (KX _ _ lk) rfl S.co S.gen rfl (PySem.W.codeRec_of KX hcd) (hb _ _ _ _ ?_)
 refine wpAny_newFunctionEnv_cells S.kind hkind λenv he s1 x=>?_
 subst he
 refine ⟨lim.keeps x.toInCall.keep,codeAny_func ?_⟩
 obtain ⟨t,ht,hq⟩:=hbody A outer s H vs Q E (hr.deeper _) hsp
 have I:Inv (Yc CX P w K mg base N qual scope f cdv A outer s H E) [] (start N vs) H s1:=nW S hr.hd e0 hl r x
 refine Di (ht [] s1 (start N vs) H _ I hq) (λfl s' hs=>?_) λe s' hs=>hs
 have fin:∀{σ':St} {H':Hp} {v:V} {u:Value},Inv (Yc CX P w K mg base N qual scope f cdv A outer s H E) [] σ' H' s'->RelV v u->Q v H'->CE outer P w H s Q u s' :=
  λ{σ' H' v u} J rv q=>⟨v,H',J.os,J.bare,J.base,J.hok,rv,q⟩
 cases fl with
 | ret u =>
  obtain ⟨v,σ',H',J,rv,q⟩:=hs
  exact fin J rv q
 | next =>
  obtain ⟨σ',H',J,q⟩:=hs
  exact fin (v:=V.non) (u:=On) J rfl q
 | brk =>
  obtain ⟨_,_,_,q⟩:=hs
  exact Ih q
 | cont =>
  obtain ⟨_,_,_,q⟩:=hs
  exact Ih q
section
variable{X:Cx}{x:Str}{p pos:Pos}{e:Expr}{es:List Expr}{t:TA}{id T:String}{r:List V->Hp->VK->Prop}
def R3(r:List V->Hp->VK->Prop)(t:TA):TE:=λσ H Q=>t σ H λvs H1=>r vs H1 Q
theorem cR(hc:Kg X (.builtin id) r)(hg:Gl X x)(hm:X.mg x=none)(hv:Ht x=some (.builtin id))(ha:PA X (e::es) t)(hn:x ≠ "__name__" := by decide)(hdb:(x == ("__debug__" : Str))=false:=by decide)(he:Bj (e::es) X.env=(false,eval e X.env)::Bj es X.env:=by rfl)(hpl:(Hg pos (Bj es X.env)).any (·.1)=false:=by rfl):PE X (.Call (.Name x p) (e::es) [] pos) (R3 r t):=by
 intro pins s σ H Q I h
 refine Xo (Tp I hg hm hv ?_ hn hdb)
 exact PyProof.Rows.callWith_builtin1 (Gq (ha pos pins s σ H _ I h) λus s1 ⟨vs,H1,I1,r1,q1⟩=>hc pins s1 σ H1 vs us Q I1 r1 q1) he hpl
theorem Pi(hc:Kg X (.type T) r)(hg:Gl X x)(hm:X.mg x=none)(hv:Ht x=some (.type T))(ha:PA X (e::es) t)(hn:x ≠ "__name__" := by decide)(hdb:(x == ("__debug__" : Str))=false:=by decide)(he:Bj (e::es) X.env=(false,eval e X.env)::Bj es X.env:=by rfl)(hpl:(Hg pos (Bj es X.env)).any (·.1)=false:=by rfl):PE X (.Call (.Name x p) (e::es) [] pos) (R3 r t):=by
 intro pins s σ H Q I h
 refine Xo (Tp I hg hm hv ?_ hn hdb)
 exact Gu (Gq (ha pos pins s σ H _ I h) λus s1 ⟨vs,H1,I1,r1,q1⟩=>hc pins s1 σ H1 vs us Q I1 r1 q1) he hpl
end
end L2
namespace HT
open PySem PyProof.Rows
def lexLt:List Int->List Int->Bool
 | [],[]=>false
 | [],_::_=>true
 | _::_,[]=>false
 | x::xs,y::ys=>if x=y then lexLt xs ys else decide (x<y)
theorem lexLt_cons(x y:Int)(xs ys:List Int):lexLt (x::xs) (y::ys)=if x=y then lexLt xs ys else decide (x<y):=rfl
section
variable{prog:Bp}{w:World}{A:Dg}{E:Value->Al->Prop}{s:Al}
theorem cat_tup{t b:Addr}{vs ws:List Value}{Q:Value->Al->Prop}(ht:IsTup s.heap t vs.toArray)(hb:IsTup s.heap b ws.toArray)(hv:vs≠[])(h1:ws=[]->Q (.ref t) s)(h2:ws≠[]->Q (.ref s.heap.objs.size) { s with heap:=s.heap.push { cls:=.type "tuple",data:=.seq (vs++ws).toArray } })(hsz:vs.length+ws.length<=Be):wpAny (model prog w) A (Gj .Add (.ref t) (.ref b)) Q E s:=by
 obtain ⟨⟨cls,dd,data,sl⟩,ho,hc,n,hd⟩:=id ht
 obtain ⟨⟨cls2,dd2,data2,sl2⟩,ho2,hc2,n2,hd2⟩:=id hb
 simp only at hc hd hc2 hd2
 subst hc hd hc2 hd2
 have e:vs.toArray++ws.toArray=(vs++ws).toArray:=by simp
 by_cases hw:ws=[]
 ·exact concat_meets ⟨_,ho,rfl⟩ ⟨_,ho2,rfl⟩ cH seq_tuple_add PySem.F.slot_tuple_add PySem.F.entry_tuple_add (PySem.F.args_tuple_add_2 _ _)
   (tuple_addW1 t b vs.toArray ws.toArray n n2 dd dd2 sl sl2 (by simpa using hv) (by simp [hw])) ⟨ho,ho2,h1 hw⟩
 ·refine concat_meets ⟨_,ho,rfl⟩ ⟨_,ho2,rfl⟩ cH seq_tuple_add PySem.F.slot_tuple_add PySem.F.entry_tuple_add (PySem.F.args_tuple_add_2 _ _)
   (tuple_addW2 t b vs.toArray ws.toArray n n2 dd dd2 sl sl2 (by simpa using hv) (by simpa using hw) (by rw[Aq,Aq]; exact hsz)) ⟨ho,ho2,?_⟩
  rw[e]
  exact h2 hw
def sIx(n d:Nat):Option Int->Nat
 | none=>d
 | some v=>if v<0 then (v+(n:Int)).toNat else min v.toNat n
theorem sIx_none(n d:Nat):sIx n d none=d:=rfl
theorem sIx_nat(n d k:Nat):sIx n d (some (k:Int))=min k n:=by
 show (if (k:Int)<0 then ((k:Int)+(n:Int)).toNat else min (k:Int).toNat n)=min k n
 rw[if_neg (by omega),Dw]
theorem j6(n d:Nat)(hd:d<=n)(o:Option Int):sIx n d o<=n:=by
 cases o with
 | none=>exact hd
 | some v =>
  show (if v<0 then (v+(n:Int)).toNat else min v.toNat n)<=n
  by_cases hv:v<0
  ·rw[if_pos hv]; omega
  ·rw[if_neg hv]; exact Nat.min_le_right _ _
theorem kO(v:Int)(n d:Nat):(if v<0 then max (v+(n:Int)) 0 else min v (n:Int))=((sIx n d (some v):Nat):Int):=by
 show (if v<0 then max (v+(n:Int)) 0 else min v (n:Int))=(((if v<0 then (v+(n:Int)).toNat else min v.toNat n):Nat):Int)
 by_cases hv:v<0
 ·simp only[if_pos hv]; omega
 ·simp only[if_neg hv]; omega
theorem gZ(lo hi:Option Int)(n:Nat):Ky lo hi 1 (n:Int)=(((sIx n 0 lo:Nat):Int),((sIx n n hi:Nat):Int)):=by
 have h1:¬ ((1:Int)<0):=by omega
 unfold Ky
 simp only[h1,if_false]
 refine Prod.ext ?_ ?_
 ·cases lo with
  | none=>rfl
  | some v=>exact kO v n 0
 ·cases hi with
  | none=>rfl
  | some v=>exact kO v n n
theorem gI(i j:Nat):Hj (i:Int) (j:Int) 1=j - i:=by
 unfold Hj
 have h1:(1:Int) > 0:=by omega
 simp only[h1,if_true,Int.ediv_one]
 split <;> omega
theorem Wg{v:Value}{o:Option Int}{Q:Option Int->Al->Prop}(p:Ul v o)(h:Q o s):wpAny (model prog w) A (Builtin.Slice.slicePartIndex v) Q E s:=by
 cases p with
 | none=>exact slicePart_none h
 | int i t=>exact slicePart_int h
theorem sliceApplied_gen{sl:Addr}{vl vu:Value}{lo hi:Option Int}{n:Nat}{Q:Int×Int×Nat->Al->Prop}(hs:s.heap.IsSliceOf sl vl vu .none)(pl:Ul vl lo)(pu:Ul vu hi)(h:Q (((sIx n 0 lo:Nat):Int),1,sIx n n hi - sIx n 0 lo) s):wpAny (model prog w) A (Sv (.ref sl) (pure (n:Int))) Q E s:=by
 obtain ⟨os,hos,hcs,hds⟩:=id hs
 unfold Sv Builtin.Slice.sliceFields
 refine Ae (Ae (wpAny_field hos hds (x:=vl) rfl (Ae (wpAny_field hos hds (x:=vu) rfl (Ae (wpAny_field hos hds (x:=.none) rfl (Ak ?_)))))))
 refine Ae (slicePart_none ?_)
 show wpAny _ _ (if ((1:Int) == 0)=true then _ else _) _ _ s
 rw[if_neg (by decide)]
 refine Ae (Wg pl (Ae (Wg pu (Ae (Ak ?_)))))
 show wpAny _ _ (match Ky lo hi 1 (n:Int) with | (lo,hi)=>pure (lo,(1:Int),Hj lo hi 1)) _ _ s
 rw[gZ lo hi n]
 show wpAny _ _ (pure (((sIx n 0 lo:Nat):Int),(1:Int),Hj ((sIx n 0 lo:Nat):Int) ((sIx n n hi:Nat):Int) 1)) _ _ s
 rw[gI]
 exact Ak h
theorem rS(xs:Array Value)(i k:Nat):((Bi k).filterMap λ(m:Nat)=>xs[((i:Int)+(m:Int) * 1).toNat]?).toArray=((xs.toList.drop i).take k).toArray:=by
 have e:(λ(m:Nat)=>xs[((i:Int)+(m:Int) * 1).toNat]?)=λm=>xs[i+m]?:=by
  funext m
  have : ((i:Int)+(m:Int) * 1).toNat=i+m:=by omega
  rw[this]
 rw[e]
 have:=pick_run xs i k
 rw[List.filterMap_map] at this
 have e2:((λx=>xs[x]?) ∘ λx=>i+x)=λm=>xs[i+m]?:=rfl
 rw[e2] at this
 rw[this]
theorem getItem_tuple_cut{t sl:Addr}{items:Array Value}{vl vu:Value}{lo hi:Option Int}{Q:Value->Al->Prop}(ht:IsTup s.heap t items)(hs:s.heap.IsSliceOf sl vl vu .none)(pl:Ul vl lo)(pu:Ul vu hi)(hw:¬ (sIx items.size 0 lo=0/\sIx items.size items.size hi=items.size))(h:Q (.ref s.heap.objs.size) { s with heap:=s.heap.push { cls:=.type "tuple",data:=.seq ((items.toList.drop (sIx items.size 0 lo)).take (sIx items.size items.size hi - sIx items.size 0 lo)).toArray } })(hsz:items.size<=Be):wpAny (model prog w) A (getItem (.ref t) (.ref sl)) Q E s:=by
 have htake:sizeOk (.seq ((items.toList.drop (sIx items.size 0 lo)).take (sIx items.size items.size hi - sIx items.size 0 lo)).toArray):=by
  show ((items.toList.drop (sIx items.size 0 lo)).take (sIx items.size items.size hi - sIx items.size 0 lo)).toArray.size<=Be
  rw[Aq,Ds,Kq,Bc]
  omega
 have hj:sIx items.size items.size hi<=items.size:=j6 _ _ (An _) hi
 obtain ⟨os,hos,hcs,hds⟩:=id hs
 have hTs:s.TypeIs (.ref sl) "slice" := ⟨os,hos,hcs⟩
 unfold getItem
 try with_reducible refine Et ?_
 first | refine Ae (Ak ?_) | skip
 refine Ae (wpAny_sequenceKey ht.typeIs (by decide) ?_)
 refine Ae (Kj (name:=Bz "__getitem__") ht.typeIs Dt
  (Fu Dt ht.typeIs entry_tuple_getitem ?_ (args_tuple_getitem _ _)))
 show wpAny _ _ (Ss (.ref t) >>= _) _ _ s
 refine Ae (tupleItemsOf_ ht ?_)
 refine Ae (Zx hTs ?_)
 rw[if_pos (by decide)]
 refine Ae (sliceApplied_gen hs pl pu ?_)
 have hno:¬ ((((sIx items.size 0 lo:Nat):Int) == 0 && (1:Int) == 1 && (sIx items.size items.size hi - sIx items.size 0 lo) == items.size)=true):=by
  intro q
  rw[Cp,Cp] at q
  have q1:((sIx items.size 0 lo:Nat):Int)=0:=Uy q.1.1
  have q2:sIx items.size items.size hi - sIx items.size 0 lo=items.size:=Uy q.2
  exact hw ⟨by omega,by omega⟩
 show wpAny _ _ (if (((sIx items.size 0 lo:Nat):Int) == 0 && (1:Int) == 1 && (sIx items.size items.size hi - sIx items.size 0 lo) == items.size)=true then _ else _) _ _ s
 rw[if_neg hno,rS]
 first
  | exact Ae (m:=Hv _) (Eu (Ak ⟨_,rfl,Ak h⟩) htake)
  | exact Ae (m:=Hv _) (Eu (Ae (Ak (Ak ⟨_,rfl,Ak h⟩))) htake)
  | exact Ae (Ae (m:=Hv _) (Eu (Ak (Ak ⟨_,rfl,Ak h⟩)) htake))
  | exact Ae (Ae (m:=Hv _) (Eu (Ak ⟨_,rfl,Ak h⟩) htake))
end
end HT
namespace L2
open PySem PySem.Spec PyProof.Rows
abbrev TO:=St->Hp->(Option Int->Hp->Prop)->Prop
def PO(X:Cx)(e:Option Expr)(t:TO):Prop :=
 ∀(pins:List (Addr×Obj)) (s:Al) (σ:St) (H:Hp) (Q:Option Int->Hp->Prop),Inv X pins σ H s->t σ H Q ->
  wpAny (model X.prog X.w) X.A (evalPart e X.env) (λu s'=>∃o H',Inv X pins σ H' s'/\Ul u o/\Q o H') X.xe s
def vY:TO:=λ_ H Q=>Q none H
def C9(t:TE):TO:=λσ H Q=>t σ H λx H1=>∃i,x=.int i/\Q (some i) H1
theorem intsAre_of{ns:List Int}:∀{us:List Value},Fc (ns.map V.int) us->Kx us ns:=by
 induction ns with
 | nil=>intro us r; rw[Va] at r; cases r; exact .nil
 | cons n ns ih =>
  intro us r
  rw[Au] at r
  cases r with
  | cons r1 r2 =>
   obtain ⟨t,e⟩:=r1
   subst e
   exact .cons n t (ih r2)
section
variable{X:Cx}{e:Expr}{te:TE}{lo hi:Option Expr}{tl th:TO}{pos p2:Pos}
theorem uR:PO X none vY:=by
 intro pins s σ H Q I h
 rw[evalPart_none]
 exact Ak ⟨none,H,I,.none,h⟩
theorem vI(h:PE X e te):PO X (some e) (C9 te):=by
 intro pins s σ H Q I hw
 rw[evalPart_some]
 refine Gq (h pins s σ H _ I hw) λu s1 q0_ => ?_
 obtain ⟨x,H1,I1,r1,q1⟩ := q0_
 obtain ⟨i,rfl,q⟩:=q1
 obtain ⟨t,rfl⟩:=r1
 exact ⟨some i,H1,I1,.int i t,q⟩
def zR(X:Cx)(r:V->Option Int->Option Int->Hp->VK->Prop):Prop :=
 ∀(pins:List (Addr×Obj)) (s:Al) (σ:St) (H:Hp) (x:V) (v vl vu:Value) (lo hi:Option Int) (sl:Addr) (Q:VK),Inv X pins σ H s->RelV x v->s.heap.IsSliceOf sl vl vu .none->Ul vl lo->Ul vu hi->r x lo hi H Q ->
  ∃T id,typeLookup (.type T) "__getitem__" = pure (some (.builtin id))/\s.TypeIs v T/\wpAny (model X.prog X.w) X.A (getItem v (.ref sl)) (EP X pins σ Q) X.xe s
theorem zR.or{r r':V->Option Int->Option Int->Hp->VK->Prop}(h:zR X r)(h':zR X r'):zR X (λx lo hi H Q=>r x lo hi H Q\/r' x lo hi H Q):=by
 intro pins s σ H x v vl vu lo hi sl Q I rx hs pl pu q
 rcases q with q | q
 ·exact h pins s σ H x v vl vu lo hi sl Q I rx hs pl pu q
 ·exact h' pins s σ H x v vl vu lo hi sl Q I rx hs pl pu q
def W0(r:V->Option Int->Option Int->Hp->VK->Prop)(te:TE)(tl th:TO):TE:=λσ H Q=>te σ H λx H1=>tl σ H1 λl H2=>th σ H2 λu H3=>r x l u H3 Q
theorem fU{r:V->Option Int->Option Int->Hp->VK->Prop}(hr:zR X r)(he:PE X e te)(hl:PO X lo tl)(hu:PO X hi th):PE X (.Subscript e (.Slice lo hi none p2) pos) (W0 r te tl th):=by
 intro pins s σ H Q I h
 refine Subscript_ (Gq (he pins s σ H _ I h) λv s1 q0_ => ?_)
 obtain ⟨x,H1,I1,r1,q1⟩ := q0_
 refine wpAny_Slice (Gq (hl pins s1 σ H1 _ I1 q1) λvl s2 ⟨l,H2,I2,pl,q2⟩=>Gq (hu pins s2 σ H2 _ I2 q2) λvu s3 q0_ => ?_)
 obtain ⟨u,H3,I3,pu,q3⟩ := q0_
 rw[evalPart_none]
 refine Ak ?_
 have I4:Inv X pins σ H3 { s3 with heap:=s3.heap.push { cls:=.type "slice",data:=.fields #[vl,vu,.none] } }:=I3.kept (t':=s3.toks) λb ob q=>Ar _ q
 obtain ⟨T,id,hT,ht,hg⟩:=hr pins { s3 with heap:=s3.heap.push { cls:=.type "slice",data:=.fields #[vl,vu,.none] } } σ H3 x v vl vu l u s3.heap.objs.size Q I4 r1 (Heap.IsSliceOf.new ..) pl pu q3
 show wpAny (model X.prog X.w) X.A (subscriptTail e (.Slice lo hi none p2) v (.ref s3.heap.objs.size)) (EP X pins σ Q) X.xe { s3 with heap:=s3.heap.push { cls:=.type "slice",data:=.fields #[vl,vu,.none] } }
 exact tail_any (ops:=[.ref s3.heap.objs.size,v]) ht hT hg (by with_unfolding_all rfl)
def Wm(xs:List V)(lo hi:Option Int):List V:=(xs.drop (HT.sIx xs.length 0 lo)).take (HT.sIx xs.length xs.length hi - HT.sIx xs.length 0 lo)
theorem Ue(xs:List V)(lo hi:Option Int):(Wm xs lo hi).length<=xs.length:=by
 unfold Wm
 rw[Ds,Kq]
 omega
def O2(K:PySem.W.Frag):V->Option Int->Option Int->Hp->VK->Prop:=λx lo hi H Q=>∃a xs,x=.ref a/\Pe K H a xs /\
 ¬ (HT.sIx xs.length 0 lo=0/\HT.sIx xs.length xs.length hi=xs.length)/\∀p,H p=none->Q (.ref p) (upd H p (.tup (Wm xs lo hi)))
theorem zV:zR X (O2 X.K):=by
 intro pins s σ H x v vl vu lo hi sl Q I rx hs pl pu h
 obtain ⟨a,xs,rfl,hx,hw,q⟩:=h
 cases rx
 obtain ⟨its,r,ht,hz⟩:=I.tuple hx
 have hlen:its.toArray.size=xs.length:=by rw[Aq]; exact r.length.symm
 refine ⟨"tuple",_,Dt.lookup,ht.typeIs,?_⟩
 refine HT.getItem_tuple_cut ht hs pl pu (by rw[hlen]; exact hw) ?_ (by rw[hlen]; exact hz)
 rw[hlen]
 refine ⟨.ref s.heap.objs.size,_,I.laid (t':=s.toks) (o:=.tup (Wm xs lo hi)) (λb ob q=>Ar _ q) (An _) ?_,rfl,q _ (I.hok.fresh (An _))⟩
 exact ⟨Bk (Ue xs lo hi) hz,_,(r.drop (HT.sIx xs.length 0 lo)).take (HT.sIx xs.length xs.length hi - HT.sIx xs.length 0 lo),IsTup.new _ _⟩
def L6(K:PySem.W.Frag):R2:=λx y H Q=>∃a b xs ys,x=.ref a/\y=.ref b/\Pe K H a xs/\Pe K H b ys/\xs≠[]/\xs.length+ys.length<=Be /\
 (ys=[]->Q (.ref a) H)/\(ys≠[]->∀p,H p=none->Q (.ref p) (upd H p (.tup (xs++ys))))
theorem Fc.nil_iff{xs:List V}{us:List Value}(r:Fc xs us):us=[]↔xs=[]:=by
 cases r with
 | nil=>simp
 | cons _ _=>simp
theorem uL:Rv X (Gj .Add) (L6 X.K):=by
 intro pins s σ H x y v u Q I rx ry h
 obtain ⟨a,b,xs,ys,rfl,rfl,ha,hb,hx,hz,q1,q2⟩:=h
 cases rx
 cases ry
 obtain ⟨its,r1,p1,_⟩:=I.tuple ha
 obtain ⟨its2,r2,p2,_⟩:=I.tuple hb
 refine HT.cat_tup p1 p2 (λz=>hx (r1.nil_iff.mp z)) (λz=>⟨.ref a,H,I,rfl,q1 (r2.nil_iff.mp z)⟩) (λz=>?_) (by rw[<- r1.length,<- r2.length]; exact hz)
 refine ⟨.ref s.heap.objs.size,_,I.laid (t':=s.toks) (o:=.tup (xs++ys)) (λb ob q=>Ar _ q) (An _) ?_,rfl,q2 (λw=>z (r2.nil_iff.mpr w)) _ (I.hok.fresh (An _))⟩
 exact ⟨by rw[Ax]; exact hz,_,r1.append r2,IsTup.new _ _⟩
end
def nZ(n:Nat)(i:Int):Option Nat:=if 0<=i then (if i<n then some i.toNat else none) else if -(n:Int)<=i then some (i+n).toNat else none
def Qp{α:Type}(xs:List α)(i:Int):Option α:=(nZ xs.length i).bind λj=>xs[j]?
theorem kY{n:Nat}{i:Int}{j:Nat}(h:nZ n i=some j):seqIndex? i n=some j/\j<n /\ -(n:Int)<=i/\i<n:=by
 unfold nZ at h
 by_cases h0:0<=i
 ·rw[if_pos h0] at h
  by_cases h1:i<n
  ·rw[if_pos h1] at h
   have e:i.toNat=j:=Bl h
   exact ⟨by rw[seqIndex_of h0 h1,e],by omega,by omega,h1⟩
  ·rw[if_neg h1] at h; cases h
 ·rw[if_neg h0] at h
  by_cases h1:-(n:Int)<=i
  ·rw[if_pos h1] at h
   have e:(i+n).toNat=j:=Bl h
   exact ⟨by rw[seqIndex_neg (by omega) h1,e],by omega,h1,by omega⟩
  ·rw[if_neg h1] at h; cases h
theorem cC{α:Type}{xs:List α}{i:Int}{v:α}(h:Qp xs i=some v):∃j,seqIndex? i xs.length=some j/\xs[j]? = some v/\j<xs.length /\ -(xs.length:Int)<=i/\i<xs.length:=by
 unfold Qp at h
 cases e:nZ xs.length i with
 | none=>rw[e] at h; cases h
 | some j =>
  rw[e] at h
  obtain ⟨h1,h2,h3,h4⟩:=kY e
  exact ⟨j,h1,h,h2,h3,h4⟩
theorem Vi{α:Type}{xs:List α}{j:Nat}{v:α}(h:xs[j]? = some v):Qp xs (j:Int)=some v:=by
 have hj:j<xs.length:=(Aw.mp h).1
 have e:nZ xs.length (j:Int)=some j:=by
  unfold nZ
  rw[if_pos (by omega),if_pos (by omega)]; simp
 unfold Qp; rw[e]; exact h
theorem dF{α:Type}(xs:List α)(v:α):Qp (xs++[v]) (-1)=some v:=by
 have hl:(xs++[v]).length=xs.length+1:=by simp
 have e:nZ (xs++[v]).length (-1)=some xs.length:=by
  unfold nZ
  rw[hl,if_neg (by decide),if_pos (by omega)]
  congr 1
  omega
 unfold Qp
 rw[e]
 show (xs++[v])[xs.length]? = some v
 simp
def aE(b:Expr):Prop:=∀o i,subscripted b false o i=operate [o,i] (getItem o i)
def uD(X:Cx)(r:R2):Prop :=
 ∀(value slice:Expr) (pins:List (Addr×Obj)) (s:Al) (σ:St) (H:Hp) (x y:V) (v u:Value) (Q:VK),Inv X pins σ H s->RelV x v->RelV y u->r x y H Q ->
  subscripted slice false v u=operate [v,u] (getItem v u)->wpAny (model X.prog X.w) X.A (subscriptTail value slice v u) (EP X pins σ Q) X.xe s
def V9(X:Cx)(id:String)(r:V->List V->Hp->VK->Prop):Prop :=
 ∀(pins:List (Addr×Obj)) (s:Al) (σ:St) (H:Hp) (x:V) (xs:List V) (v:Value) (us:List Value) (Q:VK),Inv X pins σ H s->RelV x v->Fc xs us->r x xs H Q ->
  wpAny (model X.prog X.w) X.A (call (.builtin id) (v::us)) (EP X pins σ Q) X.xe s
section
variable{X:Cx}{a b:Expr}{ta tb:TE}{pos:Pos}
theorem uD.or{r r':R2}(h:uD X r)(h':uD X r'):uD X (λx y H Q=>r x y H Q\/r' x y H Q):=by
 intro value slice pins s σ H x y v u Q I rx ry q hs
 rcases q with q | q
 ·exact h value slice pins s σ H x y v u Q I rx ry q hs
 ·exact h' value slice pins s σ H x y v u Q I rx ry q hs
theorem Ww{r:R2}(hr:uD X r)(ha:PE X a ta)(hb:PE X b tb)(hs:aE b):PE X (.Subscript a b pos) (F6 r ta tb):=by
 intro pins s σ H Q I h
 exact Subscript_ (t8 ha hb I h λv u s2 x y H2 I2 rx ry q=>hr a b pins s2 σ H2 x y v u Q I2 rx ry q (hs _ _))
def K5(K:PySem.W.Frag):R2:=λx y H Q=>∃p xs i v,x=.ref p/\y=.int i/\Om K H p xs/\Qp xs i=some v/\Q v H
def F7(K:PySem.W.Frag):R2:=λx y H Q=>∃p xs i v,x=.ref p/\y=.int i/\Pe K H p xs/\Qp xs i=some v/\Q v H
def E2:R2:=λx y H Q=>∃z i c,x=.str z/\y=.int i/\z.length<=Be/\Qp z.cps.toList i=some c/\Q (.str ⟨#[c]⟩) H
theorem Pm:uD X (K5 X.K):=by
 intro value slice pins s σ H x y v u Q I rx ry h hs
 obtain ⟨p,xs,i,z,rfl,rfl,hq,he,q⟩:=h
 cases rx
 obtain ⟨t,rfl⟩:=ry
 obtain ⟨its,r,pl,hz⟩:=I.list hq
 obtain ⟨j,h1,h2,h3,h4,h5⟩:=cC he
 obtain ⟨w,ew,rw'⟩:=r.get h2
 have hl:=r.length
 have hn:=Vt
 have fin:EP X pins σ Q w s:=⟨z,H,I,rw',q⟩
 by_cases h0:0<=i
 ·have hj:i.toNat=j:=by
   rw[seqIndex_of h0 h5] at h1
   exact Bl h1
  exact item_listR pl.isList h0 (by omega) (by rw[hj]; simpa using ew) fin hs
 ·have hj:(i+(its.toArray.size:Int)).toNat=j:=by
   rw[seqIndex_neg (by omega) h4] at h1
   rw[Aq,<- hl]
   exact Bl h1
  exact tU (x:=w) pl.isList.typeIs M7.lookup
   (wpAny_getItem_list_neg (Q:=λr s'=>r=w/\EP X pins σ Q r s') pl.isList (by omega) (by rw[Aq] <;> omega) (by omega) (by rw[hj]; simpa using ew) ⟨rfl,fin⟩) hs
theorem R9:uD X (F7 X.K):=by
 intro value slice pins s σ H x y v u Q I rx ry h hs
 obtain ⟨p,xs,i,z,rfl,rfl,hq,he,q⟩:=h
 cases rx
 obtain ⟨t,rfl⟩:=ry
 obtain ⟨its,r,pl,hz⟩:=I.tuple hq
 obtain ⟨j,h1,h2,h3,h4,h5⟩:=cC he
 obtain ⟨w,ew,rw'⟩:=r.get h2
 have hl:=r.length
 have hn:=Vt
 have fin:EP X pins σ Q w s:=⟨z,H,I,rw',q⟩
 exact tU (x:=w) pl.typeIs slot_tuple_getitem.lookup
  (getItem_tuple (j:=j) (Q:=λr s'=>r=w/\EP X pins σ Q r s') pl (by omega) (by omega) (by rw[Aq,<- hl]; exact h1) (by simpa using ew) ⟨rfl,fin⟩) hs
theorem i8:uD X E2:=by
 intro value slice pins s σ H x y v u Q I rx ry h hs
 obtain ⟨z,i,c,rfl,rfl,hz,he,q⟩:=h
 obtain ⟨t,rfl⟩:=rx
 obtain ⟨t',rfl⟩:=ry
 obtain ⟨j,h1,h2,h3,h4,h5⟩:=cC he
 have hl:z.cps.toList.length=z.length:=by simp [Str.length]
 rw[hl] at h1 h4 h5
 have hn:=Vt
 exact tail_any (typeIs_str s z t) slot_str_getitem.lookup (getItem_str (c:=c) (by
  have e1:decide (i < -(2 ^ 63:Int))=false:=decide_eq_false (by omega)
  have e2:decide (i ≥ 2 ^ 63)=false:=decide_eq_false (by omega)
  rw[e1,e2,Bool.or_false]) (by rw[h1]; simpa using h2) ⟨.str ⟨#[c]⟩,H,I.tok _,⟨_,rfl⟩,q⟩) hs
def T5(K:PySem.W.Frag):R2:=λx y H Q=>K5 K x y H Q\/F7 K x y H Q\/E2 x y H Q
theorem i5:uD X (T5 X.K):=Pm.or (R9.or i8)
theorem gT(its:List Value)(n j:Nat)(u:Value):Uk (·.setIfInBounds j u) { cls:=.type "list",data:=.seq its.toArray n }={ cls:=.type "list",data:=.seq (its.set j u).toArray n }:=by
 simp [Uk]
theorem Inv.lst{pins:List (Addr×Obj)}{σ:St}{H:Hp}{s:Al}{p:Addr}{xs:List V}(I:Inv X pins σ H s)(h:H p=some (.lst xs)):∃(its:List Value) (n:Nat),Fc xs its/\s.heap.get? p=some { cls:=.type "list",data:=.seq its.toArray n }/\xs.length<=Be:=by
 obtain ⟨z,its,n,r,e⟩:=I.hok p _ h
 exact ⟨its,n,r,e,z⟩
theorem Inv.lstUpd{pins:List (Addr×Obj)}{σ:St}{H:Hp}{s:Al}{p:Addr}{xs ys:List V}{its its':List Value}{n n':Nat}{f:Obj->Obj}(I:Inv X pins σ H s)(h:H p=some (.lst xs))(ho:s.heap.get? p=some { cls:=.type "list",data:=.seq its.toArray n })(hf:f { cls:=.type "list",data:=.seq its.toArray n }={ cls:=.type "list",data:=.seq its'.toArray n' })(r:Fc ys its')(hz:ys.length<=Be)(t:Nat):Inv X pins σ (upd H p (.lst ys)) { s with heap:=s.heap.update p f,toks:=t }:=by
 have e:(s.heap.update p f).get? p=some { cls:=.type "list",data:=.seq its'.toArray n' }:=by
  rw[Km f ho (by rw[hf] <;> rfl),hf]
 refine I.write (x:=p) (e:=p) (by rw[h]; trivial) (.inl rfl) (λb u hb q=>(jB _ _ (Lg hb)).trans q) ⟨_,e⟩ ?_
 exact ⟨hz,its',n',r,e⟩
def E3:V->V->V->Hp->(Hp->Prop)->Prop:=λo i v H Q=>∃p xs k j,o=.ref p/\i=.int k/\H p=some (.lst xs)/\nZ xs.length k=some j/\Q (upd H p (.lst (xs.set j v)))
theorem cT:G8 X E3:=by
 intro pins s σ H o i v ov iv u Q I ro ri rv h
 obtain ⟨p,xs,k,j,rfl,rfl,hp,hj,q⟩:=h
 cases ro
 obtain ⟨t,rfl⟩:=ri
 obtain ⟨its,n,r,ho,hz⟩:=I.lst hp
 obtain ⟨h1,h2,h3,h4⟩:=kY hj
 have hl:=r.length
 have hn:=Vt
 have I':Inv X pins σ (upd H p (.lst (xs.set j v))) { s with heap:=s.heap.update p (Uk (·.setIfInBounds j u)) } :=
  I.lstUpd hp ho (gT its n j u) (r.set rv j) (by rw[List.length_set]; exact hz) s.toks
 by_cases h0:0<=k
 ·have hk:k.toNat=j:=by
   rw[seqIndex_of h0 h4] at h1
   exact Bl h1
  exact PySem.W.ki_setAt ho h0 (by omega) (by rw[Aq,<- hl]; exact h4) (by rw[hk]; exact ⟨_,I',q⟩)
 ·have hk:(k+(its.toArray.size:Int)).toNat=j:=by
   rw[seqIndex_neg (by omega) h3] at h1
   rw[Aq,<- hl]
   exact Bl h1
  exact PySem.W.ki_setBack ho (by omega) (by rw[Aq,<- hl]; exact h3) (by omega) (by rw[hk]; exact ⟨_,I',q⟩)
theorem aX(lo hi:Option Int)(n:Nat):(Mh lo hi none n).1=((HT.sIx n 0 lo:Nat):Int)/\(Mh lo hi none n).2.1=((HT.sIx n n hi:Nat):Int)/\(Mh lo hi none n).2.2=1:=by
 refine ⟨?_,?_,rfl⟩
 ·cases lo with
  | none=>simp [Mh,HT.sIx]
  | some i =>
   simp only[Mh,HT.sIx,Option.getD_none,show (1:Int) > 0 by decide,if_true]
   by_cases h:i<0
   ·simp only[h,if_true] <;> omega
   ·simp only[h,if_false] <;> omega
 ·cases hi with
  | none=>simp [Mh,HT.sIx]
  | some i =>
   simp only[Mh,HT.sIx,Option.getD_none,show (1:Int) > 0 by decide,if_true]
   by_cases h:i<0
   ·simp only[h,if_true] <;> omega
   ·simp only[h,if_false] <;> omega
theorem Yh(its:List Value)(lo hi:Option Int):slicePick its.toArray lo hi none=((its.drop (HT.sIx its.length 0 lo)).take (HT.sIx its.length its.length hi - HT.sIx its.length 0 lo)).toArray:=by
 obtain ⟨h1,h2,h3⟩:=aX lo hi its.toArray.size
 unfold slicePick
 rw[h1,h2,h3]
 simp only[sliceRange_one,pick_run,Aq] <;> rfl
def u6(K:PySem.W.Frag):V->Option Int->Option Int->Hp->VK->Prop:=λx lo hi H Q=>∃a xs,x=.ref a/\Om K H a xs/\∀p,H p=none->Q (.ref p) (upd H p (.lst (Wm xs lo hi)))
theorem uC:zR X (u6 X.K):=by
 intro pins s σ H x v vl vu lo hi sl Q I rx hs pl pu h
 obtain ⟨a,xs,rfl,hx,q⟩:=h
 cases rx
 obtain ⟨its,r,ht,hz⟩:=I.list hx
 have hlen:=r.length
 refine ⟨"list",_,M7.lookup,ht.isList.typeIs,?_⟩
 refine wpAny_getItem_list_slice ht.isList hs pl pu .none (by simp) ?_ (by rw[Aq] <;> omega)
 rw[Yh,<- hlen]
 refine ⟨.ref s.heap.objs.size,_,I.laid (t':=s.toks) (o:=.lst (Wm xs lo hi)) (λb ob q=>Ar _ q) (An _) ?_,rfl,q _ (I.hok.fresh (An _))⟩
 exact ⟨Bk (Ue xs lo hi) hz,_,0,(r.drop (HT.sIx xs.length 0 lo)).take (HT.sIx xs.length xs.length hi - HT.sIx xs.length 0 lo),Bt _ rfl⟩
theorem aY:Kg X (.type "list") (λxs H Q=>∃p ys,xs=[.ref p]/\(Om X.K H p ys\/Pe X.K H p ys)/\∀l,H l=none->Q (.ref l) (upd H l (.lst ys))):=by
 intro pins s σ H xs us Q I r h
 obtain ⟨p,ys,rfl,hq,q⟩:=h
 obtain ⟨u,rfl,rx⟩:=vals1 r
 cases rx
 have fin:∀(its:List Value),Fc ys its->ys.length<=Be->∀(h':Heap) (c':Nat),(∀b o',s.heap.get? b=some o'->h'.get? b=some o') ->
   h'.get? s.heap.objs.size=some { cls:=.type "list",dict:=none,data:=.seq its.toArray c',slots:=#[] }->EP X pins σ Q (.ref s.heap.objs.size) { s with heap:=h' }:=λits r' hz h' c' kp e =>
  ⟨.ref s.heap.objs.size,_,I.laid (t':=s.toks) kp (An _) (show Ja X.prog X.w _ h' _ (.lst ys) from ⟨hz,its,c',r',e⟩),rfl,q _ (I.hok.fresh (An _))⟩
 rcases hq with hq | hq
 ·obtain ⟨its,r',pl,hz⟩:=I.list hq
  have hlen:=r'.length
  obtain ⟨o,ho,hc,n,hd⟩:=pl.isList
  exact call_list_seq p (.inl rfl) ho hc hd (λh' c' kp e=>fin its r' hz h' c' kp e) (by simp only[Aq] <;> omega)
 ·obtain ⟨its,r',pl,hz⟩:=I.tuple hq
  have hlen:=r'.length
  obtain ⟨o,ho,hc,n,hd⟩:=pl
  exact call_list_seq p (.inr rfl) ho hc hd (λh' c' kp e=>fin its r' hz h' c' kp e) (by simp only[Aq] <;> omega)
theorem Py:Kg X (.type "tuple") (λxs H Q=>∃p ys,xs=[.ref p]/\((Om X.K H p ys/\∀l,H l=none->Q (.ref l) (upd H l (.tup ys)))\/(Pe X.K H p ys/\Q (.ref p) H))):=by
 intro pins s σ H xs us Q I r h
 obtain ⟨p,ys,rfl,h⟩:=h
 obtain ⟨u,rfl,rx⟩:=vals1 r
 cases rx
 rcases h with ⟨hq,q⟩ | ⟨hq,q⟩
 ·obtain ⟨its,r',pl,hz⟩:=I.list hq
  have hlen:=r'.length
  refine call_tuple_list pl.isList (λh' kp=>?_) (by simp only[Aq] <;> omega)
  have I1:Inv X pins σ H { s with heap:=h' }:=I.kept (t':=s.toks) kp
  have I2:Inv X pins σ (upd H h'.objs.size (.tup ys)) { s with heap:=h'.push { cls:=.type "tuple",data:=.seq its.toArray } } :=
   I1.laid (t':=s.toks) (λb o e=>Ar _ e) (An _) (show Ja X.prog X.w _ _ _ (.tup ys) from ⟨hz,its,r',IsTup.new _ _⟩)
  exact ⟨.ref h'.objs.size,_,I2,rfl,q _ (I1.hok.fresh (An _))⟩
 ·obtain ⟨its,r',pl,hz⟩:=I.tuple hq
  exact call_tuple_same pl ⟨.ref p,H,I,rfl,q⟩
def U3(K:PySem.W.Frag)(T:String)(x:V)(H:Hp):Prop:=match x with
 | .str _=>T = "str"
 | .int _=>T = "int"
 | .ref p=>(T = "list" /\ ∃xs,Om K H p xs)\/(T = "tuple" /\ ∃o,K.lookup p=some o/\o.cls=.type "tuple" /\ o.dict=none) \/
   (T = "dict" /\ ((∃kvs,H p=some (.dK kvs))\/∃kvs,H p=some (.dT kvs)))\/(T = "set" /\ ∃S n,H p=some (.set S n))
 | _=>False
theorem x4{pins:List (Addr×Obj)}{σ:St}{H:Hp}{s:Al}{T:String}{x:V}{v:Value}(I:Inv X pins σ H s)(r:RelV x v)(ty:U3 X.K T x H):s.TypeIs v T/\∀a,v=.ref a->∃ob,s.heap.get? a=some ob/\ob.dict=none:=by
 cases x with
 | str z =>
  obtain ⟨t,rfl⟩:=r
  cases (show T = "str" from ty)
  exact ⟨typeIs_str s z t,λ_ e=>nomatch e⟩
 | int i =>
  obtain ⟨t,rfl⟩:=r
  cases (show T = "int" from ty)
  exact ⟨typeIs_int s i t,λ_ e=>nomatch e⟩
 | ref p =>
  cases r
  rcases ty with ⟨rfl,xs,hq⟩ | ⟨rfl,o,hk,hc,hd⟩ | ⟨rfl,hk⟩ | ⟨rfl,S,n,hk⟩
  ·obtain ⟨its,_,pl,_⟩:=I.list hq
   refine ⟨pl.isList.typeIs,λa e=>?_⟩
   cases e
   obtain ⟨o,n,e,c,hd,_⟩:=pl
   exact ⟨o,e,hd⟩
  ·refine ⟨⟨o,I.kIn p o hk,hc⟩,λa e=>?_⟩
   cases e
   exact ⟨o,I.kIn _ o hk,hd⟩
  ·have z:∃o,s.heap.get? p=some o/\o.ExactDict:=by
    rcases hk with ⟨kvs,hk⟩ | ⟨kvs,hk⟩
    ·obtain ⟨_,_,_,_,o,_,_,e,ex,_⟩:=I.hok p _ hk
     exact ⟨o,e,ex⟩
    ·obtain ⟨_,_,_,_,o,_,_,e,ex,_⟩:=I.hok p _ hk
     exact ⟨o,e,ex⟩
   obtain ⟨o,e,ex⟩:=z
   refine ⟨⟨o,e,ex.1⟩,λa e2=>?_⟩
   cases e2
   exact ⟨o,e,ex.2.1⟩
  ·obtain ⟨o,_,_,_,e,ex,_⟩:=I.hok p _ hk
   refine ⟨⟨o,e,ex.1⟩,λa e2=>?_⟩
   cases e2
   exact ⟨o,e,ex.2.1⟩
 | _=>exact Ih ty
def V0(K:PySem.W.Frag)(T:String)(r:V->List V->Hp->VK->Prop)(to:TE)(t:TA):TE:=λσ H Q=>to σ H λx H1=>U3 K T x H1/\t σ H1 λxs H2=>r x xs H2 Q
variable{o e:Expr}{es:List Expr}{to:TE}{t:TA}{name:Str}{apos cpos:Pos}{T id:String}{r:V->List V->Hp->VK->Prop}
theorem sG(pa:PlainAttrs T)(slot:Slot T name id)(hty:typeOf (.builtin id)=pure (.type "method_descriptor"))(hm:V9 X id r)(ho:PE X o to)(ha:PA X (e::es) t)
  (hbase:Xl o name X.env (eval o X.env)=eval o X.env:=by rfl)
  (hfew:((Hg cpos (Bj (e::es) X.env)).all (λx=>!x.1) && (backToKw cpos (keywordEach [] X.env)).all (λx=>x.1.isSome)
   && decide ((e::es).length+([]:List Vc).length+(if ([]:List Vc).isEmpty then 0 else 1)<30))=true:=by rfl)
  (hline:(apos.endLine == cpos.line)=true:=by rfl) (hs:Bj (e::es) X.env=(false,eval e X.env)::Bj es X.env:=by rfl) (hplain:(Hg cpos (Bj es X.env)).any (·.1)=false:=by rfl) :
  PE X (.Call (.Attribute o name apos) (e::es) [] cpos) (V0 X.K T r to t):=by
 intro pins s σ H Q I h
 refine wpAny_Call_method_late hbase hfew hline rfl (Gq (ho pins s σ H _ I h) λv s1 q0_ => ?_)
 obtain ⟨x,H1,I1,r1,ty,q1⟩ := q0_
 obtain ⟨h1,h2⟩:=x4 I1 r1 ty
 refine ⟨T,id,pa,slot,hty,h1,h2,?_⟩
 have hA:=ha cpos pins s1 σ H1 _ I1 q1
 rw[hs] at hA ⊢
 refine Calls.callWith_builtin (by show (false || (Hg cpos (Bj es X.env)).any (·.1))=false; rw[hplain] <;> rfl) (Calls.evalArgs_plain ?_)
 exact Gq hA λus s2 ⟨vs,H2,I2,r2,q2⟩=>hm pins s2 σ H2 x vs v us Q I2 r1 r2 q2
end
def T3(X:Cx)(id:String)(r:V->List V->Hp->VK->Prop):Prop :=
 ∀(pins:List (Addr×Obj)) (s:Al) (σ:St) (H:Hp) (x:V) (xs:List V) (v:Value) (us:List Value) (Q:VK),Inv X pins σ H s->RelV x v->Fc xs us->r x xs H Q ->
  wpAny (model X.prog X.w) X.A (call (.builtin id) (v::us)) (EP X pins σ Q) X.xe s
theorem Fc.one:∀{x:V} {us:List Value},Fc [x] us->∃u,us=[u]/\RelV x u
 | _,_,.cons r .nil=>⟨_,rfl,r⟩
theorem Fc.two{x y:V}{us:List Value}(h:Fc [x,y] us):∃u v,us=[u,v]/\RelV x u/\RelV y v:=by
 cases h with
 | cons r t =>
  cases t with
  | cons q t =>
   cases t
   exact ⟨_,_,rfl,r,q⟩
section
variable{X:Cx}{pins:List (Addr×Obj)}{σ:St}{H:Hp}{s:Al}{l b:Addr}{xs ys zs:List V}
theorem Inv.lset{its its':List Value}{n:Nat}{f:Array Value->Array Value}{t':Nat}(I:Inv X pins σ H s)(hH:H l=some (.lst xs))(e:s.heap.get? l=some { cls:=.type "list",data:=.seq its.toArray n })(hf:f its.toArray=its'.toArray)(hv:Fc ys its')(hz:ys.length<=Be):Inv X pins σ (upd H l (.lst ys)) { s with heap:=s.heap.update l (Uk f),toks:=t' }:=by
 have q:=PySem.IsL.update e f
 rw[hf] at q
 refine I.write (x:=l) (e:=l) (by rw[hH]; exact trivial) (.inl rfl) (λb' u hb hu=>(jB s.heap (Uk f) (Lg hb)).trans hu) ⟨_,q⟩ ?_
 exact ⟨hz,its',_,hv,q⟩
theorem Inv.lnew{its:List Value}{t':Nat}(I:Inv X pins σ H s)(hv:Fc ys its)(hz:ys.length<=Be):Inv X pins σ (upd H s.heap.objs.size (.lst ys)) { s with heap:=s.heap.push { cls:=.type "list",data:=.seq its.toArray },toks:=t' } :=
 I.laid (λ_ _ q=>Ar _ q) (An _) ⟨hz,its,0,hv,Bt _ rfl⟩
theorem Inv.fresh(I:Inv X pins σ H s):H s.heap.objs.size=none:=I.hok.fresh (An _)
theorem Inv.lstM(I:Inv X pins σ H s)(hH:H l=some (.lst xs)):xs.length<=Be/\∃(its:List Value) (n:Nat),Fc xs its/\xs.length=its.length/\s.heap.get? l=some { cls:=.type "list",data:=.seq its.toArray n }:=by
 obtain ⟨z,its,n,r,e⟩:=I.hok l _ hH
 exact ⟨z,its,n,r,r.length,e⟩
end
section
variable{X:Cx}
def vQ:V->List V->Hp->VK->Prop:=λx vs H Q=>∃l xs y,x=.ref l/\vs=[y]/\H l=some (.lst xs)/\xs.length<Be/\Q .non (upd H l (.lst (xs++[y])))
theorem Pg:T3 X "list.append" vQ:=by
 intro pins s σ H x vs v us Q I rx rv h
 obtain ⟨l,xs,y,rfl,rfl,hH,hz,q⟩:=h
 cases rx
 obtain ⟨u,rfl,ru⟩:=rv.one
 obtain ⟨z,its,n,r,hl,e⟩:=I.lstM hH
 refine call_meets F.slot_list_append ⟨_,e,rfl⟩ F.entry_list_append (F.args_list_append_2 _ _) (PySem.list_append l its.toArray n u (by rw[Aq]; omega)) ⟨e,?_⟩
 refine ⟨.non,_,I.lset (its':=its++[u]) hH e (by simp) (r.append (.cons ru .nil)) ?_,rfl,q⟩
 rw[Ax,Ee]
 omega
def o4:R2:=λx y H Q=>∃l b xs zs,x=.ref l/\y=.ref b/\H l=some (.lst xs)/\H b=some (.lst zs)/\xs.length+zs.length<=Be/\∀p,H p=none->Q (.ref p) (upd H p (.lst (xs++zs)))
theorem tG:Rv X (Gj .Add) o4:=by
 intro pins s σ H x y v u Q I rx ry h
 obtain ⟨l,b,xs,zs,rfl,rfl,hH,hB,hz,q⟩:=h
 cases rx
 cases ry
 obtain ⟨z,its,n,r,hl,e⟩:=I.lstM hH
 obtain ⟨z2,its2,n2,r2,hl2,e2⟩:=I.lstM hB
 refine PySem.P.add_list e e2 ?_ (by rw[Aq,Aq]; omega)
 have ea:its.toArray++its2.toArray=(its++its2).toArray:=by simp
 rw[ea]
 exact ⟨.ref _,_,I.lnew (t':=s.toks) (r.append r2) (by rw[Ax]; omega),rfl,q _ I.fresh⟩
end
end L2
namespace Att
open PySem PySem.W PySem.Calls PyProof.Rows
theorem Uw{P:Params}{h:Heap}:∀(ns:List Int) (vs:List Value),WellAll P h vs (ns.map WData.int)->Kx vs ns:=by
 intro ns
 induction ns with
 | nil =>
  intro vs w
  rw[Va] at w
  cases w
  exact .nil
 | cons n ns ih =>
  intro vs w
  rw[Au] at w
  cases w with
  | cons a b =>
   cases a
   exact .cons _ _ (ih _ b)
theorem nO{l:OpenLaw}{n:Nat}(hn:l.most=some n){P:Params}{h:Heap}{args:List WData}{vals:List Value}(hpre:l.row.toRowW.claim.pre args=true)(hwl:WellAll P h vals args):∃a vs ns,vals=[Fw a]/\args=[WData.list (ns.map WData.int)]/\h.get? a=some { cls:=.type "list",data:=.seq vs.toArray }/\Kx vs ns/\ns.length<=n:=by
 have hsh:WShape.hasAll [] args [.list .int]=true:=(pre_splitW hpre).1
 have hc:l.pre.holds [] { args:=args }=true:=(pre_splitW hpre).2
 obtain ⟨d,r,rfl,h1,h2⟩:=hasAllW_cons hsh
 obtain rfl:=hasAllW_nil h2
 obtain ⟨xs,rfl,h3⟩:=hasW_list h1
 obtain ⟨ns,rfl⟩:=items_int h3
 have hlen:ns.length<=n:=by
  unfold OpenLaw.pre at hc
  have h4:(WTm.not (.lt (.lit (.int (n:Int))) (.len (.arg 0)))).holds [] { args:=[.list (ns.map .int)] }=true:=by
   have h4:=(holds_andW hc).1
   rw[hn] at h4
   exact h4
  have h5:=condW_of h4 (w_not (w_lt w_lit (w_len_list (w_arg rfl))))
  rw[Ac] at h5
  refine Nat.le_of_not_lt λq=>?_
  have q':(n:Int)<((ns.length:Nat):Int):=by omega
  first
   | (rw[decide_eq_true q'] at h5; exact absurd h5 (by decide))
   | (simp at h5; omega)
 cases hwl with
 | cons w1 w2 =>
  cases w2
  cases w1 with
  | list ho hall=>exact ⟨_,_,ns,rfl,rfl,ho,Uw ns _ hall,hlen⟩
theorem mD(l:OpenLaw)(args:List WData):l.row.toRowW.claim.post args (.bool true) args=true :=
 postW_of (r:=l.row.toRowW) (X:=(true == true))
  (show WShape.has [] (.bool true) .bool=true by first | rfl | decide | simp [WShape.has,WShape.arms,WShape.armsAll])
  (show (WTm.eq .res (.lit (.bool true))).value [] { args:=args,res:=some (.bool true),after:=args }=some (.bool (true == true)) from w_eq_bool (w_res rfl) w_lit) rfl
theorem attach_call{l:OpenLaw}{n:Nat}{q:Bp}{loose:List Str}{XP:(Str->Option Value)->Heap->Prop}{YP:World->Heap->Prop}{d:DefRec}(hn:l.most=some n)(hdf:d.params.defaults=[])(call:∀(w:World) (s₀ s₁:Al) (mg mb:Str->Option Value) (fa:Addr) (o:Obj) (pm cd doc:Value) (a:Addr) (vs:List Value) (ns:List Int),Ground q loose [] XP w s₀ mg mb s₁.heap->YP w s₁.heap->s₁.heap.get? fa=some o->o.data=.func (docDef d.name d.params d.body d.scope pm cd doc)->s₁.heap.CodeRec cd d.name->mg d.name=some (.ref fa)->s₁.heap.get? a=some { cls:=.type "list",data:=.seq vs.toArray }->Kx vs ns->ns.length<=n->s₁.gens=#[]->Hs (model l.prog w) Uz (.call (.ref fa) ⟨[.ref a],[]⟩) (λr s'=>r=.ok (.ret (.bool true))/\OldK s₁.heap s'.heap/\s'.os=s₁.os/\Pd s'.gens) s₁):WalkO q loose XP YP l.row.toRowW d [] (λf vs=>PySem.call f vs):=by
 intro w s₀ s₁ mg mb G Y fa o pm cd doc dV kV ho hd hcd hD hmg hg args vals as hpre hlay hrd hwl hlo
 obtain rfl:dV=.none:=Dflts.none hD hdf
 obtain rfl:kV=.none:=Dflts.noKw hD
 obtain ⟨a,vs,ns,rfl,rfl,hobj,hints,hlen⟩:=nO hn hpre hwl
 refine enter_call (Nl (call w s₀ s₁ mg mb fa o pm cd doc a vs ns G Y ho (fd_plain hd) hcd hmg hobj hints hlen hg) λr s' hq=>?_)
 obtain ⟨rfl,h2,h3,h4⟩:=hq
 exact ⟨.inl ⟨.bool true,.bool true,[],rfl,λ_=>rfl,.bool true,mD l _,λ_=>⟨Dq,λ_ hm=>(nomatch hm)⟩⟩,h2,h3,h4⟩
end Att
namespace L2
open PySem PySem.Spec PyProof.Rows
theorem Zm:∀{vs:List Value} {ns:List Int},Kx vs ns->Fc (ns.map V.int) vs
 | _,_,.nil=>.nil
 | _,_,.cons n t h=>.cons ⟨t,rfl⟩ (Zm h)
def Mc(s:Stmt):Arguments:=match s with
 | .FunctionDef _ a _ _ _ _ _ _ _ _=>a
 | _=>{ posonlyargs:=[],args:=[],vararg:=none,kwonlyargs:=[],kw_defaults:=[],kwarg:=none,defaults:=[] }
def Hy(s:Stmt):List Stmt:=match s with
 | .FunctionDef _ _ b _ _ _ _ _ _ _=>b
 | _=>[]
def Bw(s:Stmt):Scope:=match s with
 | .FunctionDef _ _ _ _ _ _ sc _ _ _=>sc
 | _=>{ kind:=.function,names:=[],isGenerator:=false,isCoroutine:=false }
abbrev Gh:nJ:=λ_ _ _ _ _ _=>False
abbrev E0:XK:=λ_ _ _=>False
theorem Dy{X:Cx}:Qq Gh X E0:=λ_ _ _ _ _ _ _ h=>h.elim
structure Fun(K:PySem.W.Frag)(x qual:Str)(st:Stmt)(f:Addr)(fd:Ca):Prop where
 ex:∃(oc:Value) (od:Option Addr) (kV doc pm:Value) (an:Option Addr) (cdv ct:Value) (osl:Array (Option Value)),
  fd=PySem.W.fnOf x qual (Mc st) (Hy st) (Bw st) .none kV doc pm an cdv ct/\K.lookup f=some ⟨oc,od,.func fd,osl⟩/\PySem.W.codeIn K cdv qual=true
 kp:PySem.W.keepIn K (.ref f)=true
section
variable{P:Bp}{w:World}{K:PySem.W.Frag}{mg:Str->Option Value}{base:Heap}
theorem Fun.ok{x qual:Str}{st:Stmt}{f:Addr}{fd:Ca}{N ps:List Str}{k:Nat}{sp:Sp}(F:Fun K x qual st f fd)(S:FnScope N ps (Bw st))(len:∀vs H Q E,sp vs H Q E->vs.length=ps.length)(hbody:∀(cdv:Value) (A:Dg) (outer:List Env) (s:Al) (H:Hp) (vs:List V) (Q:VK) (E:XK),Room k (A.deeper (Og qual (Bw st) s.heap.objs.size f cdv))->sp vs H Q E->∃t,gV (Yc Gh P w K mg base N qual (Bw st) f cdv A outer s H E).nox (Hy st) t/\t { nx:=λ_ H'=>Q .non H',rt:=Q } (start N vs) H):FnOk P w K mg base Gh (k+1) f fd ps sp:=by
 obtain ⟨oc,od,kV,doc,pm,an,cdv,ct,osl,rfl,lk,hcd⟩:=F.ex
 refine E8 lk hcd S len λA outer s H vs Q E hr hsp=>?_
 obtain ⟨t,h,q⟩:=hbody cdv A outer s H vs Q E hr hsp
 exact ⟨t,h.nox,q⟩
theorem Fun.binds{x qual:Str}{st:Stmt}{f:Addr}{fd:Ca}{ps:List Str}(F:Fun K x qual st f fd)(h:∀(kV doc pm:Value) (an:Option Addr) (cdv ct:Value) (us:List Value),us.length=ps.length->bindArgs (PySem.W.fnOf x qual (Mc st) (Hy st) (Bw st) .none kV doc pm an cdv ct) ⟨us,[]⟩=pure (ps.zip us)):Binds K fd ps []:=by
 obtain ⟨oc,od,kV,doc,pm,an,cdv,ct,osl,rfl,lk,hcd⟩:=F.ex
 exact .all (h kV doc pm an cdv ct)
theorem oG{x qual:Str}{st:Stmt}{f:Addr}{oc:Value}{od an:Option Addr}{osl:Array (Option Value)}{kV doc pm cdv ct:Value}(l:K.lookup f=some ⟨oc,od,.func (PySem.W.fnOf x qual (Mc st) (Hy st) (Bw st) .none kV doc pm an cdv ct),osl⟩)(c:PySem.W.codeIn K cdv qual=true)(k:PySem.W.keepIn K (.ref f)=true):Fun K x qual st f (PySem.W.fnOf x qual (Mc st) (Hy st) (Bw st) .none kV doc pm an cdv ct):=⟨⟨oc,od,kV,doc,pm,an,cdv,ct,osl,rfl,l,c⟩,k⟩
end
theorem mF{n:Nat}(h:n<=1000):n<Be:=Nat.lt_of_le_of_lt h (by decide)
section
variable{X:Cx}
theorem pv(i:Nat){x:Str}{pos:Pos}(hN:X.N[i]? = some x:=by rfl)(hv:K8 X.env.scope x:=by first | exact Bm rfl | exact Or.inr (Bm rfl) | exact Or.inr (Or.inr rfl))(hd:(x == ("__debug__" : Str))=false:=by decide)(hcd:(x == ("__classdict__" : Str))=false:=by decide):PE X (.Name x pos) (Yi i):=zO hN hv hd hcd
end
theorem sJ{A B:Prop}(h:B):if false=true then A else B:=by
 rw[if_neg Ms]
 exact h
theorem qC{A B:Prop}(h:A):if true=true then A else B:=by
 rw[if_pos rfl]
 exact h
theorem J1{c A B:Prop}[Decidable c](h1:c->A)(h2:¬ c->B):if c then A else B:=by
 by_cases h:c
 ·rw[if_pos h]
  exact h1 h
 ·rw[if_neg h]
  exact h2 h
def Oh(H H':Hp):Prop:=∀b o,H b=some o->H' b=some o
theorem Oh.refl(H:Hp):Oh H H:=λ_ _ h=>h
theorem Oh.trans{H H1 H2:Hp}(a:Oh H H1)(b:Oh H1 H2):Oh H H2:=λc o h=>b c o (a c o h)
theorem Oh.free{H H':Hp}(e:Oh H H'){l:Addr}(h:H' l=Option.none):H l=Option.none:=by
 cases q:H l with
 | none=>rfl
 | some o =>
  rw[e l o q] at h
  cases h
end L2
namespace Nd
open PySem PySem.Spec PyProof.Rows L2
def Ct(X:Cx)(scope:Scope)(cl:List (Str×Addr))(N:List Str)(fp:List Addr)(s:Al)(H:Hp):Cx where
 prog:=X.prog
 w:=X.w
 K:=X.K
 mg:=X.mg
 base:=X.base
 A:=X.A
 N:=N
 s₀:=s
 H₀:=H
 env:=compEnvC scope (Eb (s.heap.objs.size+1) scope.names cl) s.heap.objs.size X.env
 outer:=X.stack
 stack:=X.stack
 ex:=fp
 fn:=λy=>decide (scope.names.lookup y=some Dj)
 calm:=X.calm
 pn:=[]
 xe:=λ_ _=>False
section
variable{prog:Bp}{w:World}{A:Dg}{R:Result->Al->Prop}{s:Al}
theorem iS{elt tg iter:Expr}{ifs:List Expr}{scope:Scope}{pos:Pos}{it acc:Value}{env:Env}(J:Nat->Al->Prop) (turn:∀n s,J n s->wpAny (model prog w) A (Of it) (λr s1=>match r with
    | none=>R (.ok .next) s1
    | some v=>wpAny (model prog w) A (Gf tg it v) (λ_ s2=>wpAny (model prog w) A (Mt tg env v) (λ_ s3 =>
      wpAny (model prog w) A (forIn ifs true λc r=>if r=true then (do
        let ok <- isTrue c env (eval c env)
        pure (Kn ok)) else pure (Kn r)) (λok s4 =>
       if ok=true then
        wpAny (model prog w) A (eval elt env) (λx s5=>wpAny (model prog w) A (call (.builtin "list.append") [acc,x]) (λ_ s6=>∃m,m<n/\J m s6) (λ_ _=>False) s5) (λ_ _=>False) s4
       else ∃m,m<n/\J m s4) (λ_ _=>False) s3) (λ_ _=>False) s2) (λ_ _=>False) s1) (λ_ _=>False) s)
  (n:Nat) (h:J n s):Hs (model prog w) A (.compLoop (.ListComp elt [⟨tg,iter,ifs,0⟩] scope pos) 0 it acc env) R s:=by
 refine codeAny_loop rfl J (λn s hJ=>?_) n h
 show wpAny _ A (Sem.onRaise (compTurn (.ListComp elt [⟨tg,iter,ifs,0⟩] scope pos) 0 it acc env) (λx=>do noteFrame x env; theTreesLotGoes x)) _ _ s
 refine wpAny_noted ?_
 rw[compTurn_list]
 refine Ae (Gr (Ae (Di (turn n s hJ) (λr s1 h1=>?_) λ_ _ z=>z.elim)))
 cases r with
 | none=>exact Ak h1
 | some v =>
  refine Ae (Di h1 (λ_ s2 h2=>?_) λ_ _ z=>z.elim)
  refine Ae (Di h2 (λ_ s3 h3=>?_) λ_ _ z=>z.elim)
  refine Ae (Di h3 (λok s4 h4=>?_) λ_ _ z=>z.elim)
  cases ok with
  | false=>exact Ak ⟨rfl,h4⟩
  | true =>
   refine Ae (Ae (Di h4 (λx s5 h5=>?_) λ_ _ z=>z.elim))
   exact Ae (Di h5 (λ_ s6 h6=>Ak (Ak ⟨rfl,h6⟩)) λ_ _ z=>z.elim)
end
section
variable{X:Cx}{pins:List (Addr×Obj)}{σ:L2.St}{H:Hp}{s:Al}{scope:Scope}{cl:List (Str×Addr)}{fp:List Addr}{N:List Str}
def Sd(scope:Scope)(x:Str):Prop:=scope.names.lookup x=some .local\/scope.names.lookup x=some .cell
structure CompScope(X:Cx)(scope:Scope)(cl:List (Str×Addr))(x:Str)(ys:List Str)(js:List Nat):Prop where
 clos:Xq scope X.env=pure cl
 oc:(∀y∈scope.names,y.2≠.cell)\/∃z:Str,(∀n,Eb n scope.names []=[(z,n)])/\scope.names.lookup z=some .cell/\∀y∈scope.names,y.2=.cell->y.1=z
 kind:scope.kind=.function
 locs:∀y∈scope.names,y.2=.local->scope.names.lookup y.1=some .local
 own:Sd scope x
 sub:∀y c,cl.lookup y=some c->X.env.cells.lookup y=some c
 has_:(scope.names.all λy=>!(y.2 == Dr) || (cl.lookup y.1).isSome)=true
 nd:(x::ys).Nodup
 len:ys.length=js.length
 at_:∀(k:Nat) (y:Str) (j:Nat),ys[k]? = some y->js[k]? = some j->X.N[j]? = some y/\scope.names.lookup y=some .free/\(X.env.kindOf y=some .cell\/X.env.kindOf y=some .free)
theorem CompScope.has{x:Str}{ys:List Str}{js:List Nat}(C:CompScope X scope cl x ys js):∀y∈scope.names,y.2=.free->(cl.lookup y.1).isSome=true:=λy hy e=>by
 have h:=Ej.mp C.has_ y hy
 rw[e] at h
 simpa using h
theorem Oz{env:Env}{y:Str}{k:Mk}:∀{names:List (Str×Mk)},
  (names.map λ(n,k)=>if (k == Dr && env.scope.kind == .function && env.kindOf n == some .cell) then (n,Dj) else (n,k)).lookup y=some k ->
  ∃k0,names.lookup y=some k0/\(k=k0\/(k0=.free/\k=.cell))
 | [],h=>by simp at h
 | (n,k0)::r,h=>by
  have ih:=@Oz env y k r
  rw[Au] at h
  by_cases hc:(k0 == Dr && env.scope.kind == .function && env.kindOf n == some .cell)=true
  ·have h':Jp y ((n,Dj)::(r.map λ(n,k)=>if (k == Dr && env.scope.kind == .function && env.kindOf n == some .cell) then (n,Dj) else (n,k)))=some k:=by
    simpa [hc] using h
   cases hy:y == n with
   | true =>
    rw[Bn,hy] at h'
    have e:k=Dj:=by simpa using h'.symm
    refine ⟨k0,by rw[Bn,hy],.inr ⟨?_,e⟩⟩
    rw[Cp,Cp] at hc
    exact Uy hc.1.1
   | false =>
    rw[Bn,hy] at h'
    obtain ⟨q,e1,e2⟩:=ih h'
    exact ⟨q,by rw[Bn,hy]; exact e1,e2⟩
  ·have h':Jp y ((n,k0)::(r.map λ(n,k)=>if (k == Dr && env.scope.kind == .function && env.kindOf n == some .cell) then (n,Dj) else (n,k)))=some k:=by
    simpa [hc] using h
   cases hy:y == n with
   | true =>
    rw[Bn,hy] at h'
    exact ⟨k0,by rw[Bn,hy],.inl (by simpa using h'.symm)⟩
   | false =>
    rw[Bn,hy] at h'
    obtain ⟨q,e1,e2⟩:=ih h'
    exact ⟨q,by rw[Bn,hy]; exact e1,e2⟩
theorem Ro{env:Env}{y:Str}:∀{names:List (Str×Mk)},names.lookup y=some .free ->
  (names.map λ(n,k)=>if (k == Dr && env.scope.kind == .function && env.kindOf n == some .cell) then (n,Dj) else (n,k)).lookup y=some .cell \/
  (names.map λ(n,k)=>if (k == Dr && env.scope.kind == .function && env.kindOf n == some .cell) then (n,Dj) else (n,k)).lookup y=some .free
 | [],h=>by simp at h
 | (n,k0)::r,h=>by
  have ih:=@Ro env y r
  show Jp y ((if (k0 == Dr && env.scope.kind == .function && env.kindOf n == some .cell)=true then (n,Dj) else (n,k0))::_)=_\/Jp y ((if (k0 == Dr && env.scope.kind == .function && env.kindOf n == some .cell)=true then (n,Dj) else (n,k0))::_)=_
  by_cases hc:(k0 == Dr && env.scope.kind == .function && env.kindOf n == some .cell)=true
  ·rw[if_pos hc]
   cases hy:y == n with
   | true=>exact .inl (by rw[Bn,hy])
   | false =>
    rw[Bn,hy] at h
    simp only[Bn,hy]
    exact ih h
  ·rw[if_neg hc]
   cases hy:y == n with
   | true =>
    rw[Bn,hy] at h
    exact .inr (by rw[Bn,hy]; exact h)
   | false =>
    rw[Bn,hy] at h
    simp only[Bn,hy]
    exact ih h
theorem Ln{α β:Type}[BEq α][LawfulBEq α]{y:α}{k:β}:∀{l:List (α×β)},l.lookup y=some k->(y,k)∈l
 | [],h=>by simp at h
 | (n,v)::r,h=>by
  cases hy:y == n with
  | true =>
   rw[Bn,hy] at h
   have e:=Uy hy
   subst e
   have : v=k:=by simpa using h
   subst this
   exact Aa
  | false =>
   rw[Bn,hy] at h
   exact Ab _ (Ln h)
end
theorem aR{a c:Nat}(h:c<a)(e:c=a+1):False:=by omega
theorem Gv:∀(names:List (Str×Mk)) (n:Nat) (acc:List (Str×Addr)),Eb n names acc=Eb n names []++acc
 | [],_,_=>rfl
 | (x,k)::r,n,acc=>by
  unfold Eb
  by_cases h:(k == Dj)=true
  ·rw[if_pos h,if_pos h,Gv r _ ((x,n)::acc),Gv r _ [(x,n)],Dn]; rfl
  ·rw[if_neg h,if_neg h]; exact Gv r n acc
theorem Ll:∀(names:List (Str×Mk)) (n:Nat) (acc:List (Str×Addr)),(∀y∈names,y.2≠.cell)->Eb n names acc=acc
 | [],_,_,_=>rfl
 | (x,k)::r,n,acc,h=>by
  unfold Eb
  rw[if_neg (by have:=h (x,k) Aa; simpa using this)]
  exact Ll r n acc λy hy=>h y (Ab _ hy)
theorem Rz{env:Env}{y:Str}:∀{names:List (Str×Mk)},names.lookup y=some .cell->(names.map λ(n,k)=>if (k == Dr && env.scope.kind == .function && env.kindOf n == some .cell) then (n,Dj) else (n,k)).lookup y=some .cell
 | [],h=>by simp at h
 | (n,k0)::r,h=>by
  have ih:=@Rz env y r
  show Jp y ((if (k0 == Dr && env.scope.kind == .function && env.kindOf n == some .cell)=true then (n,Dj) else (n,k0))::_)=_
  by_cases hc:(k0 == Dr && env.scope.kind == .function && env.kindOf n == some .cell)=true
  ·rw[if_pos hc]
   cases hy:y == n with
   | true=>rw[Bn,hy]
   | false=>rw[Bn,hy] at h ⊢; exact ih h
  ·rw[if_neg hc]
   cases hy:y == n with
   | true=>rw[Bn,hy] at h ⊢; exact h
   | false=>rw[Bn,hy] at h ⊢; exact ih h
theorem Lb{env:Env}{scope:Scope}{x:Str}(o:Sd scope x):Loc (relabel scope env) x:=o.imp lookup_relabel_local Rz
section
variable{X:Cx}{scope:Scope}{cl:List (Str×Addr)}{x y:Str}{ys:List Str}{js:List Nat}{n c:Nat}{N:List Str}{fp:List Addr}{s:Al}{H:Hp}
theorem Nv(o:Sd scope x):(Ct X scope cl N fp s H).fn x=true\/(Ct X scope cl N fp s H).env.scope.names.lookup x=some .local:=by
 rcases o with o | o
 ·exact .inr (lookup_relabel_local o)
 ·exact .inl (decide_eq_true o)
theorem CompScope.split(C:CompScope X scope cl x ys js)(h:(Eb n scope.names cl).lookup y=some c):cl.lookup y=some c\/(c=n/\Eb 0 scope.names []=[(y,0)]/\Eb n scope.names []=[(y,n)]/\scope.names.lookup y=some .cell):=by
 rcases C.oc with o | ⟨z,o1,o2,_⟩
 ·rw[Ll _ _ _ o] at h; exact .inl h
 ·rw[Gv,o1] at h
  have h2:Jp y ((z,n)::cl)=some c:=h
  rw[Bn] at h2
  cases e:y == z with
  | true =>
   rw[e] at h2
   have ec:c=n:=(Bl h2).symm
   have ey:=Uy e
   subst ey
   exact .inr ⟨ec,o1 0,o1 n,o2⟩
  | false=>rw[e] at h2; exact .inl h2
theorem CompScope.find(C:CompScope X scope cl x ys js)(h:cl.lookup y=some c)(hy:scope.names.lookup y=some .free):(Eb n scope.names cl).lookup y=some c:=by
 rcases C.oc with o | ⟨z,o1,o2,_⟩
 ·rw[Ll _ _ _ o]; exact h
 ·rw[Gv,o1]
  show Jp y ((z,n)::cl)=some c
  rw[Bn]
  cases e:y == z with
  | true=>rw[Uy e,o2] at hy; cases hy
  | false=>exact h
theorem CompScope.cellAt(C:CompScope X scope cl x ys js)(hy:(y,Dj)∈scope.names):(Eb n scope.names cl).lookup y=some n:=by
 rcases C.oc with o | ⟨z,o1,o2,o3⟩
 ·exact absurd rfl (o _ hy)
 ·have ez:y=z:=o3 _ hy rfl
  subst ez
  rw[Gv,o1]
  show Jp y ((y,n)::cl)=some n
  rw[Bn,beq_self_eq_true]
theorem Yv{M:Model}{A:Dg}{E:Value->Al->Prop}{Q:Env->Al->Prop}(C:CompScope X scope cl x ys js)(hQ:∀h4,h4.Ns s.heap.objs.size (λ_=>none)->(∀b u,s.heap.get? b=some u->h4.get? b=some u)->(∀z n,Eb (s.heap.objs.size+1) scope.names []=[(z,n)]->h4.IsCell n none)->Q (newEnv scope s.heap.objs.size X.env.globals (Eb (s.heap.objs.size+1) scope.names cl) X.env.qual none .none (some X.env) Qy) { s with heap:=h4,toks:=s.toks+([]:List (Str×Value)).length }):wpAny M A (Uj scope X.env.globals cl [] X.env.qual none .none (some X.env)) Q E s:=by
 simp only[Uj,Option.isSome_some,if_true]
 refine Ae (wpAny_alloc (Ae (wpAny_layCells _ (λx k cs=>by cases e:k == Dj <;> simp [e]) _ _ _ _ ?_)))
 have hsz:({ s with heap:=s.heap.push { cls:=.type "dict",data:=.dict #[] } }:Al).heap.objs.size=s.heap.objs.size+1:=Heap.size_push ..
 rw[hsz]
 refine Ae (Ak (Ak (hQ _ ((Heap.Ns.new s.heap (.type "dict")).keeps (pushCells_keeps _ _)) (λb u e=>pushCells_keeps _ _ b u (Ar _ e)) λz n e=>?_)))
 have ok:=(cellsFrom_ok scope.names (s.heap.push { cls:=.type "dict",data:=.dict #[] }) 0 [] ⟨λ_ _ hm=>(nomatch hm),Dq⟩ (Dv _)).empty z n
 rw[show (s.heap.push { cls:=.type "dict",data:=.dict #[] }).objs.size=s.heap.objs.size+1 from hsz,e] at ok
 exact (ok (List.mem_singleton.mpr rfl)).1
end
section
variable{X:Cx}{pins:List (Addr×Obj)}{σ:L2.St}{H:Hp}{s:Al}{scope:Scope}{cl:List (Str×Addr)}{fp:List Addr}{N:List Str}
theorem wC{x:Str}{ys:List Str}{js:List Nat}(C:CompScope X scope cl x ys js)(I:Inv X pins σ H s)(hf:∀b∈fp,Ld X pins H b)(ho:∀b∈fp,∃o,s.heap.get? b=some o):(Ct X scope cl N fp s H).Ok where
 mod:=I.ok.mod
 kind:=C.kind
 glob:=I.ok.glob
 blt:=I.ok.blt
 above:=An _
 inj:=λy z c h1 h2=>by
  have lt:∀y,cl.lookup y=some c->c<s.heap.objs.size:=λy e=>let ⟨_,q⟩:=I.cell y c (C.sub y c e); q.lt
  rcases C.split h1 with h1 | ⟨e1,a1,_⟩
  ·rcases C.split h2 with h2 | ⟨e2,_⟩
   ·exact I.ok.inj y z c (C.sub y c h1) (C.sub z c h2)
   ·exact (aR (lt y h1) e2).elim
  ·rcases C.split h2 with h2 | ⟨e2,a2,_⟩
   ·exact (aR (lt z h2) e1).elim
   ·rw[a1] at a2
    simpa using a2
 has:=λy hy=>by
  have key:∀k,(k=Dj\/k=Dr)->(compEnvC scope cl s.heap.objs.size X.env).kindOf y=some k->∃c,(Eb (s.heap.objs.size+1) scope.names cl).lookup y=some c:=by
   intro k hk e
   obtain ⟨k0,e0,e1⟩:=Oz (names:=scope.names) (env:=X.env) (y:=y) (k:=k) e
   have m:=Ln e0
   by_cases hk0:k0=.cell
   ·exact ⟨_,C.cellAt (hk0▸m)⟩
   have hfree:k0=.free:=by
    rcases e1 with e1 | e1
    ·subst e1
     rcases hk with hk | hk
     ·exact absurd hk hk0
     ·exact hk
    ·exact e1.1
   obtain ⟨c,hc⟩:=Ni.mp (C.has _ m hfree)
   exact ⟨c,C.find hc (hfree▸e0)⟩
  rcases hy with hy | hy
  ·exact key _ (.inl rfl) hy
  ·exact key _ (.inr rfl) hy
 cab:=λy c h e=>by
  have h:scope.names.lookup y=some .cell:=of_decide_eq_true h
  have:=(C.cellAt (n:=s.heap.objs.size+1) (Ln h)).symm.trans e
  show s.heap.objs.size<=c
  have:=Bl this
  omega
 hd:=I.ok.hd
 frames:=I.ok.frames
 stk:=.inl rfl
 exf:=λb hb=>by
  obtain ⟨o,e⟩:=ho b hb
  refine ⟨Cv (Bb e),λy c hc=>?_⟩
  rcases C.split hc with hc | ⟨hc,_⟩
  ·exact (hf b hb).2.2.2.2.1 y c (C.sub y c hc)
  ·exact λz=>aR (Bb e) (z.symm.trans hc)
 bs:=I.bs
 bsz:=Bk I.ok.bsz I.sz
 noex:=λb o e hb=>by
  rcases (hf b hb).2.2.2.1 with z | z
  ·exact I.ok.noex b o e z
  ·exact absurd (Bu (Bb (I.ok.bs b o e).1) z) (Fb _)
 exfs:=λb hb z=>by
  rcases Ag.mp (I.stkSub b z) with e | e
  ·exact (hf b hb).2.1 e
  ·exact (hf b hb).2.2.1 e
 funs:=I.stack
 frf:=I.stkFree
 tab:=I.ok.tab.un I.base
def Eg(σ:L2.St)(js:List Nat):L2.St:=js.map λj=>(σ[j]?).join
theorem Wc{x:Str}{pre ys:List Str}{js:List Nat}{h1:Heap}{tk:Nat}{m1:Str->Option Value}(C:CompScope X scope cl x ys js)(I:Inv X pins σ H s)(hf:∀b∈fp,Ld X pins H b)(ho:∀b∈fp,∃o,s.heap.get? b=some o)(hns:h1.Ns s.heap.objs.size m1)(keep:∀b u,s.heap.get? b=some u->h1.get? b=some u)(new:∀z n,Eb (s.heap.objs.size+1) scope.names []=[(z,n)]->h1.IsCell n none):Inv (Ct X scope cl (pre++ys) fp s H) [] (pre.map (λ_=>none)++Eg σ js) H { s with heap:=h1,toks:=tk }:=by
 have cellK:∀y c,cl.lookup y=some c->∃v,s.heap.IsCell c v/\h1.IsCell c v:=λy c e=>by
  obtain ⟨v,o,q,d⟩:=I.cell y c (C.sub y c e)
  exact ⟨v,⟨o,q,d⟩,o,keep c o q,d⟩
 refine ⟨wC C I hf ho,rfl,I.bare,Un.kept keep,⟨m1,hns,λi y v e1 e2 _=>?_⟩,λy c e=>?_,I.hok.fresh (An _),λy c e=>?_,λp hp=>?_,I.hok.kept keep,?_⟩
 ·have e2:(pre.map (λ_=>(none:Option V))++Eg σ js)[i]? = some (some v):=e2
  have e1:(pre++ys)[i]? = some y:=e1
  by_cases hi:i<pre.length
  ·rw[Nk (by rw[Ac]; exact hi),Bf] at e2
   cases q:pre[i]? with
   | none=>rw[q] at e2; cases e2
   | some z=>rw[q] at e2; cases e2
  ·rw[Iq (by rw[Ac]; omega),Ac] at e2
   rw[Iq (by omega)] at e1
   have e1':=e1
   have e2':=e2
   generalize i - pre.length=k at e1' e2'
   unfold Eg at e2'
   rw[Bf] at e2'
   cases ej:js[k]? with
   | none=>rw[ej] at e2'; simp at e2'
   | some j =>
    rw[ej] at e2'
    have e3:(σ[j]?).join=some v:=by simpa using e2'
    have e4:σ[j]? = some (some v):=by
     cases q:σ[j]? with
     | none=>rw[q] at e3; simp at e3
     | some z=>rw[q] at e3; simp at e3; rw[e3]
    obtain ⟨a1,a2,a3⟩:=C.at_ k y j e1' ej
    obtain ⟨m0,_,hl⟩:=I.loc
    have vis:K8 X.env.scope y:=a3.elim (λa3=>.inr (.inl a3)) λa3=>.inr (.inr a3)
    obtain ⟨u,r,l⟩:=hl j y v a1 e4 vis
    refine ⟨u,r,?_⟩
    rcases l with ⟨k1,_⟩ | ⟨_,c,hc,hv⟩
    ·rcases a3 with a3 | a3 <;> rw[k1] at a3 <;> cases a3
    ·obtain ⟨c',hc'⟩:=Ni.mp (C.has _ (Ln a2) rfl)
     have ec:c'=c:=by
      have:=C.sub y c' hc'
      rw[hc] at this
      exact (Bl this).symm
     subst ec
     obtain ⟨o,q,d⟩:=hv
     exact .inr ⟨Ro a2,c',C.find hc' a2,o,keep c' o q,d⟩
 ·rcases C.split e with e | ⟨e,_,e',_⟩
  ·obtain ⟨v,_,z⟩:=cellK y c e
   exact ⟨v,z⟩
  ·exact ⟨_,e▸new _ _ e'⟩
 ·rcases C.split e with e | ⟨e,_⟩
  ·exact I.freeC y c (C.sub y c e)
  ·exact I.hok.fresh (by omega)
 ·cases (show p∈([]:List (Addr×Obj)) from hp)
 ·show (pre.map (λ_=>(none:Option V))++Eg σ js).length=(pre++ys).length
  simp [Eg,C.len]
end
section
variable{X:Cx}
def wU(J:It)(js:List Nat)(tc:TT)(te:TE)(σ:L2.St)(H1:Hp)(Q:VK):Prop:=∀D,H1 D=none->∃W:Nat->Nat->Hp->Prop,(∃m,W 0 m (upd H1 D (.lst [])))/\∀i m H,W i m H ->
 (J.stop i H/\Q (.ref D) H)\/(J.go i H/\∀x H',J.yld i H x H'->∃(N1:Hp->Prop) (N2:VK),(∀H2,N1 H2->∃m',m'<m/\W (i+1) m' H2) /\
  (∀y H3,N2 y H3->∃acc,H3 D=some (.lst acc)/\acc.length<Be/\∃m',m'<m/\W (i+1) m' (upd H3 D (.lst (acc++[y])))) /\
  tc (some x::Eg σ js) H' λc H2=>if c=true then te (some x::Eg σ js) H2 N2 else N1 H2)
def pN(wi:TI)(js:List Nat)(tc:TT)(te:TE):TE:=λσ H Q=>wi σ H λJ H1=>wU J js tc te σ H1 Q
def Rm:TT:=λ_ H Q=>Q true H
def gD(X:Cx)(ifs:List Expr)(t:TT):Prop :=
 ∀(pins:List (Addr×Obj)) (s:Al) (σ:L2.St) (H:Hp) (Q:Bool->Hp->Prop),Inv X pins σ H s->t σ H Q ->
  wpAny (model X.prog X.w) X.A (forIn ifs true λc r=>if r=true then (do
   let ok <- isTrue c X.env (eval c X.env)
   pure (Kn ok)) else pure (Kn r)) (TP X pins σ Q) X.xe s
theorem sW:gD X [] Rm:=λpins s σ H Q I h=>wpAny_tests_nil ⟨H,I,h⟩
theorem wO{c:Expr}{t:TT}(h:PT X c t):gD X [c] t:=λpins s σ H Q I q=>wpAny_tests_one (h pins s σ H Q I q)
theorem Wx{X X':Cx}{pins:List (Addr×Obj)}{σ σ':L2.St}{H3 H6:Hp}{s3 s7:Al}{scope:Scope}{cl:List (Str×Addr)}{N:List Str}{fp:List Addr}(hX':Ct X scope cl N fp s3 H3=X')(I3:Inv X pins σ H3 s3)(f3:∀b∈fp,Ld X pins H3 b)(I7:Inv X' [] σ' H6 s7):∃m7,s7.heap.Ns s3.heap.objs.size m7/\∀h8,Eo s3.heap.objs.size s7.heap h8->Inv X pins σ H6 { s7 with heap:=h8 }:=by
 have eP:X'.prog=X.prog:=by rw[<- hX']; rfl
 have eW:X'.w=X.w:=by rw[<- hX']; rfl
 obtain ⟨m7,hn7,_⟩:=I7.loc
 have hn7':s7.heap.Ns s3.heap.objs.size m7:=by rw[<- hX'] at hn7; exact hn7
 refine ⟨m7,hn7',λh8 hs8=>?_⟩
 have I7f:H6 s3.heap.objs.size=none:=by have:=I7.free; rw[<- hX'] at this; exact this
 have b7:Un (mO X.stack) fp H3 H6 s3.heap s7.heap:=by have:=I7.base; rw[<- hX'] at this; exact this
 have ne8:∀b o,s3.heap.get? b=some o->b≠s3.heap.objs.size:=λb o q=>Cv (Bb q)
 have u8:Un (mO X.stack) fp H3 H6 s3.heap h8:=by
  refine ⟨λb o q n hb hx=>(hs8.2 b (ne8 b o q)).trans (b7.keep b o q n hb hx),λb o q n hb hx=>?_,b7.free,λb o q hx=>?_,b7.tups,b7.frzs,b7.tbls⟩
  ·obtain ⟨sl,z⟩:=b7.slot b o q n hb hx
   exact ⟨sl,(hs8.2 b (ne8 b o q)).trans z⟩
  ·obtain ⟨o',z⟩:=b7.there b o q hx
   exact ⟨o',(hs8.2 b (ne8 b o q)).trans z⟩
 have hok8:Xn X.prog X.w H6 h8:=λb ob e=>by
  have hk7:=I7.hok
  rw[eP,eW] at hk7
  refine (hk7 b ob e).stay (λc w' hcc q=>(hs8.2 c ?_).trans q) (λ_ q=>q) λ_ _ q=>q
  rintro rfl
  rcases hcc with rfl | hcc
  ·rw[I7f] at e; cases e
  ·rw[I7f] at hcc; cases hcc
 have os7:s7.os=s3.os:=by have:=I7.os; rw[<- hX'] at this; exact this
 exact I3.call' (s':={ s7 with heap:=h8 }) (ch:=fp) os7 u8 hok8 I7.bare (λb hb=>⟨(f3 b hb).2.2.2.1,(f3 b hb).2.1,(f3 b hb).2.2.2.2.1,(f3 b hb).2.2.2.2.2⟩)
theorem Zh{X X':Cx}{σ':L2.St}{H3 H6:Hp}{s3 s7:Al}{scope:Scope}{cl:List (Str×Addr)}{N:List Str}{fp:List Addr}(hX':Ct X scope cl N fp s3 H3=X')(I4:Inv X' [] σ' H6 s7){H':Hp}(hn:∀b∈fp,H' b=none):∀b∈fp,Ld X' [] H' b:=λb hb=>by
 have ok:=I4.ok
 have hex:b∈X'.ex:=by rw[<- hX']; exact hb
 exact ⟨hn b hb,(ok.exf b hex).1,ok.exfs b hex,.inl hex,(ok.exf b hex).2,λp hp=>by rw[<- hX'] at hp; cases (show p∈([]:List (Addr×Obj)) from hp)⟩
theorem cO{X X':Cx}{H3:Hp}{s3:Al}{scope:Scope}{cl:List (Str×Addr)}{N:List Str}{fp:List Addr}(hc:X.calm=true)(hX':Ct X scope cl N fp s3 H3=X'):X'.prog=X.prog/\X'.w=X.w/\X'.K=X.K/\X'.A=X.A/\X'.calm=true:=by
 subst hX'
 exact ⟨rfl,rfl,rfl,rfl,hc⟩
theorem mY{X X':Cx}{pins:List (Addr×Obj)}{σ σ':L2.St}{H3 H6:Hp}{s3 s7:Al}{scope:Scope}{cl:List (Str×Addr)}{N:List Str}{fp:List Addr}(hX':Ct X scope cl N fp s3 H3=X')(I3:Inv X pins σ H3 s3)(f3:∀b∈fp,Ld X pins H3 b)(I7:Inv X' [] σ' H6 s7):(∃m7,s7.heap.Ns s3.heap.objs.size m7)/\H6 s3.heap.objs.size=none/\Inv X pins σ H6 s7:=by
 subst hX'
 obtain ⟨m7,hn7,_⟩:=I7.loc
 exact ⟨⟨m7,hn7⟩,I7.free,I3.call' (s':=s7) (ch:=fp) I7.os I7.base I7.hok I7.bare (λb hb=>⟨(f3 b hb).2.2.2.1,(f3 b hb).2.1,(f3 b hb).2.2.2.2.1,(f3 b hb).2.2.2.2.2⟩)⟩
theorem eO{X:Cx}{pins:List (Addr×Obj)}{σ:L2.St}{H2:Hp}{s2:Al}{tg:Expr}{J:It}{fp:List Addr}{it:Addr}{tn:Nat->Heap->Prop}(I2:Inv X pins σ H2 s2)(T:Turn X.prog X.w X.K tg J fp it tn)(st2:tn 0 s2.heap)(f2:∀b∈fp,Ld X pins H2 b){ob:Obj}{ho:HO}(I3:Inv X pins σ (upd H2 s2.heap.objs.size ho) { s2 with heap:=s2.heap.push ob }):(∀b∈fp,Ld X pins (upd H2 s2.heap.objs.size ho) b)/\tn 0 (s2.heap.push ob)/\∀b∈fp,∃o,(s2.heap.push ob).get? b=some o:=by
 have tR:tn 0 (s2.heap.push ob):=T.keep 0 _ _ st2 λb hb o q=>Ar _ q
 refine ⟨λb hb=>⟨?_,(f2 b hb).2⟩,tR,λb hb=>?_⟩
 ·rw[Ef ?_]
  ·exact (f2 b hb).1
  ·intro z
   obtain ⟨o,q,_⟩:=T.obj _ _ st2 b hb
   have:=Bb q
   rw[z] at this
   exact absurd this (Fb _)
 ·obtain ⟨o,q,_⟩:=T.obj _ _ tR b hb
  exact ⟨o,q⟩
end
theorem Ep{H:Hp}{p:Addr}(h:H p=none)(o:HO):Oh H (upd H p o):=λb u q=>by rw[Ef (Es q h)]; exact q
theorem En{α:Type}{xs:List α}{i:Nat}{x:α}(h:xs[i]? = some x):xs.take (i+1)=xs.take i++[x]:=by
 rw[List.take_succ,h]; rfl
mutual
inductive RdV (K:PySem.W.Frag) (H:Hp):V->Ad->Prop
 | non:RdV K H .non .none
 | bl (b:Bool):RdV K H (.bl b) (.bool b)
 | int (i:Int):RdV K H (.int i) (.int i)
 | str (x:Str):RdV K H (.str x) (.str x)
 | lst {a:Addr} {xs:List V} {ds:List Ad}:Om K H a xs->RdVs K H xs ds->RdV K H (.ref a) (.list ds)
 | tup {a:Addr} {xs:List V} {ds:List Ad}:Pe K H a xs->RdVs K H xs ds->RdV K H (.ref a) (.tuple ds)
inductive RdVs (K:PySem.W.Frag) (H:Hp):List V->List Ad->Prop
 | nil:RdVs K H [] []
 | cons {x:V} {d:Ad} {xs:List V} {ds:List Ad}:RdV K H x d->RdVs K H xs ds->RdVs K H (x::xs) (d::ds)
end
mutual
def K4(b:Nat):Ad->Prop
 | .none=>True
 | .bool _=>True
 | .int i=>i.natAbs<10 ^ b
 | .str x=>(Oe x).length<=b
 | .list xs=>aZ b xs
 | .tuple xs=>aZ b xs
 | .dict _=>False
def aZ(b:Nat):List Ad->Prop
 | []=>True
 | x::xs=>K4 b x/\aZ b xs
end
mutual
def xY:Ad->Nat
 | .list xs=>Wl xs+1
 | .tuple xs=>Wl xs+1
 | _=>1
def Wl:List Ad->Nat
 | []=>0
 | x::xs=>xY x+Wl xs
end
theorem gQ(ns:List Int):Bg (ns.map Ba)=0:=by
 induction ns with
 | nil=>rfl
 | cons n ns ih=>simp only[Au,Bg,Cq,ih,Nat.max_self]
theorem Ug{m:Nat}:∀{xs:List Ad},(∀x∈xs,x.depth<=m)->Bg xs<=m
 | [],_=>by simp [Bg]
 | x::xs,h=>by
  have h1:=h x (Aa ..)
  have h2:=Ug (xs:=xs) λy hy=>h y (Ab _ hy)
  simp only[Bg]
  omega
theorem Fc.at'{xs:List V}{us:List Value}(r:Fc xs us){j:Nat}(h:j<us.length):∃x,xs[j]? = some x/\RelV x us[j]:=by
 have hl:=r.length
 have hj:j<xs.length:=by omega
 obtain ⟨u,hu,ru⟩:=r.get (i:=j) (x:=xs[j]) (by simp [hj])
 rw[Br h] at hu
 cases hu
 exact ⟨xs[j],by simp [hj],ru⟩
section
variable{X:Cx}{pins:List (Addr×Obj)}{σ:L2.St}{H:Hp}{s:Al}{A:Dg}
theorem Td(A:Dg):A.in1.units<=A.units+1:=by
 first | exact An _ | (simp [Around.in1]; done) | (unfold Around.in1; simp)
theorem fO:Kg X (.builtin "isinstance") (λxs H Q=>∃x n t b,xs=[x,.ty n]/\TyOf X.K H x t/\PySem.W.kitOne X.K t (.type n)=some b/\Q (.bl b) H):=by
 intro pins s σ H xs us Q I r h
 obtain ⟨x,n,t,b,rfl,ty,e,q⟩:=h
 obtain ⟨u,v,rfl,ru,rv⟩:=vals2 r
 cases rv
 exact lZ I ru ty e λtk=>⟨.bl b,H,I.tok _,rfl,q⟩
theorem fI(hc:X.calm=true):Kg X (.builtin "all") (λxs H Q=>∃(p:Addr) (bs:List Bool),xs=[.ref p]/\Om X.K H p (bs.map V.bl)/\Q (.bl (bs.all id)) H):=by
 intro pins s σ H xs us Q I r h
 obtain ⟨p,bs,rfl,hp,q⟩:=h
 obtain ⟨u,rfl,ru⟩:=vals1 r
 cases ru
 obtain ⟨its,rv,pl,_⟩:=I.list hp
 have hlen:its.toArray.size=bs.length:=by
  have:=rv.length
  rw[Ac] at this
  rw[Aq]; omega
 refine call_all_walk (wpAny_pyIter_list pl.isList ?_)
 have hd:X.A.in1.handled=none:=I.ok.hd hc
 have ne:p≠s.heap.objs.size:=Cv (let ⟨o,q,_⟩:=pl.isList; Bb q)
 refine ⟨s.heap.objs.size,_,_,_,_,_,λi=>bs.getD i false,rfl,Walks.list hd s.heap.objs.size p ne its.toArray,⟨⟨_,Bt _ rfl,rfl,rfl⟩,pl.isList.push _⟩,?_,?_⟩
 ·intro i v s' Q' E' hv hq
  have hv':its[i]? = some v:=by simpa using hv
  have hi:i<its.length:=(Aw.mp hv').1
  obtain ⟨x,e1,q1⟩:=Fc.at' rv hi
  rw[Br hi] at hv'
  have hv'':its[i]=v:=Bl hv'
  rw[hv''] at q1
  rw[Bf] at e1
  cases eb:bs[i]? with
  | none=>rw[eb] at e1; cases e1
  | some b =>
   rw[eb] at e1
   cases e1
   cases q1
   have : bs.getD i false=b:=by simp [Cf,eb]
   have hq':Q' (bs.getD i false) s':=hq
   rw[this] at hq'
   exact Kt hq'
 ·intro h' tk hk
  have e:((Bi its.toArray.size).all λi=>bs.getD i false)=bs.all id:=by
   rw[hlen]
   have : bs=(Bi bs.length).map (λj=>bs.getD j false):=(range_getD bs false).symm
   conv=>rhs; rw[this]
   rw[Vb]
   rfl
  rw[e]
  refine ⟨.bl _,H,I.kept (h':=h') (t':=tk) (λb o qq=>hk b o ?_ (Ar _ qq)),rfl,q⟩
  intro z
  have e2:b=s.heap.objs.size:=by simpa using z
  have e3:=Bb qq
  rw[e2] at e3
  exact absurd e3 (Fb _)
end
section
variable{prog:Bp}{w:World}{A:Dg}{E:Value->Al->Prop}{s:Al}
theorem Pt{t sl:Addr}{items:Array Value}{vl vu:Value}{lo hi:Option Int}{Q:Value->Al->Prop}(ht:IsTup s.heap t items)(hs:s.heap.IsSliceOf sl vl vu .none)(pl:Ul vl lo)(pu:Ul vu hi)(hw:HT.sIx items.size 0 lo=0/\HT.sIx items.size items.size hi=items.size)(h:Q (.ref t) s):wpAny (model prog w) A (getItem (.ref t) (.ref sl)) Q E s:=by
 obtain ⟨os,hos,hcs,hds⟩:=id hs
 have hTs:s.TypeIs (.ref sl) "slice" := ⟨os,hos,hcs⟩
 unfold getItem
 try with_reducible refine Et ?_
 first | refine Ae (Ak ?_) | skip
 refine Ae (wpAny_sequenceKey ht.typeIs (by decide) ?_)
 refine Ae (Kj (name:=Bz "__getitem__") ht.typeIs Dt
  (Fu Dt ht.typeIs entry_tuple_getitem ?_ (args_tuple_getitem _ _)))
 show wpAny _ _ (Ss (.ref t) >>= _) _ _ s
 refine Ae (tupleItemsOf_ ht ?_)
 refine Ae (Zx hTs ?_)
 rw[if_pos (by decide)]
 refine Ae (HT.sliceApplied_gen hs pl pu ?_)
 rw[hw.1,hw.2]
 have hyes:(((0:Nat):Int) == 0 && (1:Int) == 1 && (items.size - 0) == items.size)=true:=by simp
 show wpAny _ _ (if (((0:Nat):Int) == 0 && (1:Int) == 1 && (items.size - 0) == items.size)=true then _ else _) _ _ s
 rw[if_pos hyes]
 have hex:∀{R:Bool->Al->Prop},R true s->wpAny (model prog w) A.in1 (Su (.ref t)) R E s:=λ{R} hR=>by
  unfold Su
  refine Ae (Zx ht.typeIs (Ak ?_))
  rw[beq_self_eq_true]
  exact hR
 refine Ae (hex ?_)
 rw[if_pos rfl]
 exact Ae (wpAny_rule (Ak ⟨_,rfl,Ak h⟩))
end
mutual
def Df:Ad->Ad->Bool
 | .none,.none=>true
 | .bool a,.bool b=>a == b
 | .bool a,.int b=>(if a then 1 else 0) == b
 | .int a,.bool b=>a == (if b then 1 else 0)
 | .int a,.int b=>a == b
 | .str a,.str b=>a == b
 | .list xs,.list ys=>Ii xs ys
 | .tuple xs,.tuple ys=>Ii xs ys
 | _,_=>false
def Ii:List Ad->List Ad->Bool
 | [],[]=>true
 | x::xs,y::ys=>Df x y && Ii xs ys
 | _,_=>false
end
theorem Lm:∀ds es:List Ad,(((Bi (min ds.length es.length)).all λj=>Df (ds.getD j .none) (es.getD j .none)) && ds.length == es.length)=Ii ds es
 | [],[]=>by simp [Ii]
 | [],_::_=>by simp [Ii]
 | _::_,[]=>by simp [Ii]
 | d::ds,e::es=>by
  have ih:=Lm ds es
  rw[Ii,<- ih]
  have h1:min (d::ds).length (e::es).length=min ds.length es.length+1:=by simp only[Bo]; omega
  rw[h1,List.range_succ_eq_map,List.all_cons,Vb]
  have h2:((d::ds).length == (e::es).length)=(ds.length == es.length):=by
   rw[Lw]; simp
  rw[h2,Bool.and_assoc]
  rfl
section
variable{X:Cx}{pins:List (Addr×Obj)}{σ:L2.St}{H:Hp}{s:Al}{K:PySem.W.Frag}
mutual
theorem RdV.eqD_self:∀{v:V} {d:Ad},RdV K H v d->Df d d=true
 | _,_,.non=>by simp [Df]
 | _,_,.bl b=>by simp [Df]
 | _,_,.int i=>by simp [Df]
 | _,_,.str x=>by simp [Df]
 | _,_,.lst _ h=>by rw[Df]; exact RdVs.eqDs_self h
 | _,_,.tup _ h=>by rw[Df]; exact RdVs.eqDs_self h
theorem RdVs.eqDs_self:∀{vs:List V} {ds:List Ad},RdVs K H vs ds->Ii ds ds=true
 | _,_,.nil=>by simp [Ii]
 | _,_,.cons h t=>by rw[Ii,RdV.eqD_self h,RdVs.eqDs_self t]; rfl
end
theorem fN(I:Inv X pins σ H s){a:Addr}{xs ys:List V}(h1:Om X.K H a xs)(h2:Pe X.K H a ys):False:=by
 obtain ⟨us,_,p1,_⟩:=I.list h1
 obtain ⟨vs,_,p2,_⟩:=I.tuple h2
 exact SeqAt.ne_of_list_tuple p1.isList p2 rfl
mutual
theorem RdV.det(I:Inv X pins σ H s):∀{v:V} {d e:Ad},RdV X.K H v d->RdV X.K H v e->d=e
 | _,_,_,.non,h=>by cases h; rfl
 | _,_,_,.bl b,h=>by cases h; rfl
 | _,_,_,.int i,h=>by cases h; rfl
 | _,_,_,.str x,h=>by cases h; rfl
 | _,_,_,.lst q r,h=>by
  cases h with
  | lst q' r' =>
   have e:=I.list_inj q q'
   subst e
   rw[RdVs.det I r r']
  | tup q' r'=>exact (fN I q q').elim
 | _,_,_,.tup q r,h=>by
  cases h with
  | lst q' r'=>exact (fN I q' q).elim
  | tup q' r' =>
   have e:=I.tuple_inj q q'
   subst e
   rw[RdVs.det I r r']
theorem RdVs.det(I:Inv X pins σ H s):∀{vs:List V} {ds es:List Ad},RdVs X.K H vs ds->RdVs X.K H vs es->ds=es
 | _,_,_,.nil,h=>by cases h; rfl
 | _,_,_,.cons r t,h=>by
  cases h with
  | cons r' t'=>rw[RdV.det I r r',RdVs.det I t t']
end
theorem RdVs.length:∀{vs:List V} {ds:List Ad},RdVs K H vs ds->vs.length=ds.length
 | _,_,.nil=>rfl
 | _,_,.cons _ t=>by rw[Bo,Bo,RdVs.length t]
theorem Tr{A:Dg}{n:Nat}(h:A.units+(n+1)<cLine):A.in1.units+n<cLine:=by
 have:=Td A
 omega
theorem eI{A:Dg}{a b:Addr}{us vs:List Value}{ds es:List Ad}(p1:PlainL s.heap a us.toArray)(p2:PlainL s.heap b vs.toArray)(l1:us.length=ds.length)(l2:vs.length=es.length)(hu:A.units<cLine)(he:∀j (h1:j<us.length) (h2:j<vs.length),Mj A.in1 s us[j] vs[j] (Df (ds.getD j .none) (es.getD j .none))):SeqAt.RcAt A s (.ref a) (.ref b) (Ii ds es):=by
 rw[<- Lm]
 by_cases hl:ds.length=es.length
 ·have hs:us.toArray.size=vs.toArray.size:=by rw[Aq,Aq,l1,l2,hl]
  have h:=SeqAt.RcAt.lists (A:=A) (e:=λj=>Df (ds.getD j .none) (es.getD j .none)) p1.isList p2.isList hs hu (λj h1 h2=>by simpa using he j (by simpa using h1) (by simpa using h2))
  rw[Aq,l1] at h
  rw[hl,Nat.min_self,beq_self_eq_true,Sx,<- hl]
  exact h
 ·have hs:(us.toArray.size != vs.toArray.size)=true:=by rw[Aq,Aq,l1,l2]; simpa using hl
  have h:=SeqAt.RcAt.lists_lengths (A:=A) p1.isList p2.isList hs hu
  have e0:(ds.length == es.length)=false:=by simpa using hl
  rw[e0,Bool.and_false]
  exact h
theorem Yy{A:Dg}{a b:Addr}{us vs:List Value}{ds es:List Ad}(p1:IsTup s.heap a us.toArray)(p2:IsTup s.heap b vs.toArray)(l1:us.length=ds.length)(l2:vs.length=es.length)(hu:A.units<cLine)(he:∀j (h1:j<us.length) (h2:j<vs.length),Mj A.in1 s us[j] vs[j] (Df (ds.getD j .none) (es.getD j .none))):SeqAt.RcAt A s (.ref a) (.ref b) (Ii ds es):=by
 rw[<- Lm]
 have h:=SeqAt.RcAt.tuples (A:=A) (e:=λj=>Df (ds.getD j .none) (es.getD j .none)) (show s.heap.IsTuple a us.toArray from p1) (show s.heap.IsTuple b vs.toArray from p2) hu (λj h1 h2=>by simpa using he j (by simpa using h1) (by simpa using h2))
 rw[Aq,Aq,l1,l2] at h
 exact h
mutual
theorem rL(I:Inv X pins σ H s):∀{A:Dg} {x y:V} {d e:Ad} {u v:Value},RdV X.K H x d->RdV X.K H y e->RelV x u->RelV y v->A.units+d.depth<cLine->Mj A s u v (Df d e)
 | A,_,_,_,_,_,_,.non,h,ru,rv,hu=>by
  cases ru
  have hu':A.units<cLine:=by omega
  cases h with
  | non=>cases rv; rw[Df]; exact SeqAt.EqAt.same _
  | bl b=>cases rv; rw[Df]; exact SeqAt.EqAt.none_bool b; all_goals simp
  | int b=>obtain ⟨t,rfl⟩:=rv; rw[Df]; exact SeqAt.EqAt.none_int b t; all_goals simp
  | str b=>obtain ⟨t,rfl⟩:=rv; rw[Df]; exact SeqAt.EqAt.none_str b t; all_goals simp
  | lst q r=>cases rv; obtain ⟨us,_,p,_⟩:=I.list q; rw[Df]; exact SeqAt.EqAt.none_list p.isList hu'; all_goals simp
  | tup q r=>cases rv; obtain ⟨us,_,p,_⟩:=I.tuple q; rw[Df]; exact SeqAt.EqAt.none_tuple p hu'; all_goals simp
 | A,_,_,_,_,_,_,.bl a,h,ru,rv,hu=>by
  cases ru
  have hu':A.units<cLine:=by omega
  cases h with
  | non=>cases rv; rw[Df]; exact SeqAt.EqAt.bool_none a; all_goals simp
  | bl b=>cases rv; rw[Df]; exact SeqAt.EqAt.bool_bool a b
  | int b=>obtain ⟨t,rfl⟩:=rv; rw[Df]; exact SeqAt.EqAt.bool_int a b t
  | str b=>obtain ⟨t,rfl⟩:=rv; rw[Df]; exact SeqAt.EqAt.bool_str a b t; all_goals simp
  | lst q r=>cases rv; obtain ⟨us,_,p,_⟩:=I.list q; rw[Df]; exact SeqAt.EqAt.bool_list a p.isList hu'; all_goals simp
  | tup q r=>cases rv; obtain ⟨us,_,p,_⟩:=I.tuple q; rw[Df]; exact SeqAt.EqAt.bool_tuple a p hu'; all_goals simp
 | A,_,_,_,_,_,_,.int a,h,ru,rv,hu=>by
  obtain ⟨t',rfl⟩:=ru
  have hu':A.units<cLine:=by omega
  cases h with
  | non=>cases rv; rw[Df]; exact SeqAt.EqAt.int_none a t'; all_goals simp
  | bl b=>cases rv; rw[Df]; exact SeqAt.EqAt.int_bool a t' b
  | int b=>obtain ⟨t,rfl⟩:=rv; rw[Df]; exact SeqAt.EqAt.int_int a t' b t
  | str b=>obtain ⟨t,rfl⟩:=rv; rw[Df]; exact SeqAt.EqAt.int_str a t' b t; all_goals simp
  | lst q r=>cases rv; obtain ⟨us,_,p,_⟩:=I.list q; rw[Df]; exact SeqAt.EqAt.int_list a t' p.isList hu'; all_goals simp
  | tup q r=>cases rv; obtain ⟨us,_,p,_⟩:=I.tuple q; rw[Df]; exact SeqAt.EqAt.int_tuple a t' p hu'; all_goals simp
 | A,_,_,_,_,_,_,.str a,h,ru,rv,hu=>by
  obtain ⟨t',rfl⟩:=ru
  have hu':A.units<cLine:=by omega
  cases h with
  | non=>cases rv; rw[Df]; exact SeqAt.EqAt.str_none a t'; all_goals simp
  | bl b=>cases rv; rw[Df]; exact SeqAt.EqAt.str_bool a t' b; all_goals simp
  | int b=>obtain ⟨t,rfl⟩:=rv; rw[Df]; exact SeqAt.EqAt.str_int a t' b t; all_goals simp
  | str b=>obtain ⟨t,rfl⟩:=rv; rw[Df]; exact SeqAt.EqAt.str_str a t' b t
  | lst q r=>cases rv; obtain ⟨us,_,p,_⟩:=I.list q; rw[Df]; exact SeqAt.EqAt.str_list a t' p.isList hu'; all_goals simp
  | tup q r=>cases rv; obtain ⟨us,_,p,_⟩:=I.tuple q; rw[Df]; exact SeqAt.EqAt.str_tuple a t' p hu'; all_goals simp
 | A,_,_,_,_,_,_,@RdV.lst _ _ a xs ds q r,h,ru,rv,hu=>by
  cases ru
  have hu':A.units<cLine:=by omega
  obtain ⟨us,r1,p,_⟩:=I.list q
  cases h with
  | non=>cases rv; rw[Df]; exact SeqAt.EqAt.list_none p.isList hu'; all_goals simp
  | bl b=>cases rv; rw[Df]; exact SeqAt.EqAt.list_bool b p.isList hu'; all_goals simp
  | int b=>obtain ⟨t,rfl⟩:=rv; rw[Df]; exact SeqAt.EqAt.list_int b t p.isList hu'; all_goals simp
  | str b=>obtain ⟨t,rfl⟩:=rv; rw[Df]; exact SeqAt.EqAt.list_str b t p.isList hu'; all_goals simp
  | @lst b ys es q2 rr2 =>
   cases rv
   obtain ⟨vs,r2,p2,_⟩:=I.list q2
   rw[Df]
   by_cases hab:a=b
   ·subst hab
    have e:=I.list_inj q q2
    subst e
    rw[<- RdVs.det I r rr2,RdVs.eqDs_self r]
    exact SeqAt.EqAt.same _
   ·refine SeqAt.EqAt.of_refs hab (eI p p2 (r1.length.symm.trans r.length) (r2.length.symm.trans rr2.length) hu' λj h1 h2=>?_)
    exact Nz I r rr2 r1 r2 (Tr (by simpa only [Cq] using hu)) j h1 h2
  | tup q2 rr2=>cases rv; obtain ⟨vs,_,p2,_⟩:=I.tuple q2; rw[Df]; exact SeqAt.EqAt.list_tuple p.isList p2 hu'; all_goals simp
 | A,_,_,_,_,_,_,@RdV.tup _ _ a xs ds q r,h,ru,rv,hu=>by
  cases ru
  have hu':A.units<cLine:=by omega
  obtain ⟨us,r1,p,_⟩:=I.tuple q
  cases h with
  | non=>cases rv; rw[Df]; exact SeqAt.EqAt.tuple_none p hu'; all_goals simp
  | bl b=>cases rv; rw[Df]; exact SeqAt.EqAt.tuple_bool b p hu'; all_goals simp
  | int b=>obtain ⟨t,rfl⟩:=rv; rw[Df]; exact SeqAt.EqAt.tuple_int b t p hu'; all_goals simp
  | str b=>obtain ⟨t,rfl⟩:=rv; rw[Df]; exact SeqAt.EqAt.tuple_str b t p hu'; all_goals simp
  | lst q2 rr2=>cases rv; obtain ⟨vs,_,p2,_⟩:=I.list q2; rw[Df]; exact SeqAt.EqAt.tuple_list p p2.isList hu'; all_goals simp
  | @tup b ys es q2 rr2 =>
   cases rv
   obtain ⟨vs,r2,p2,_⟩:=I.tuple q2
   rw[Df]
   by_cases hab:a=b
   ·subst hab
    have e:=I.tuple_inj q q2
    subst e
    rw[<- RdVs.det I r rr2,RdVs.eqDs_self r]
    exact SeqAt.EqAt.same _
   ·refine SeqAt.EqAt.of_refs hab (Yy p p2 (r1.length.symm.trans r.length) (r2.length.symm.trans rr2.length) hu' λj h1 h2=>?_)
    exact Nz I r rr2 r1 r2 (Tr (by simpa only [Cq] using hu)) j h1 h2
theorem Nz(I:Inv X pins σ H s):∀{A:Dg} {xs ys:List V} {ds es:List Ad} {us vs:List Value},RdVs X.K H xs ds->RdVs X.K H ys es->Fc xs us->Fc ys vs->A.units+Bg ds<cLine->∀j (h1:j<us.length) (h2:j<vs.length),Mj A s us[j] vs[j] (Df (ds.getD j .none) (es.getD j .none))
 | _,_,_,_,_,_,_,.nil,_,r1,_,_=>λj h1 h2=>by cases r1; exact absurd h1 (Fx _)
 | A,_,_,_,_,_,_,@RdVs.cons _ _ x d xs ds r t,h,r1,r2,hu=>λj h1 h2=>by
  cases h with
  | nil=>cases r2; exact absurd h2 (Fx _)
  | cons r' t' =>
   cases r1 with
   | cons ra ta =>
    cases r2 with
    | cons rb tb =>
     have hm:A.units+d.depth<cLine/\A.units+Bg ds<cLine:=by
      simp only[Bg] at hu
      omega
     cases j with
     | zero=>simpa using rL I r r' ra rb hm.1
     | succ j=>simpa using Nz I t t' ta tb hm.2 j (by simpa using h1) (by simpa using h2)
end
end
section
variable{X:Cx}{pins:List (Addr×Obj)}{σ:L2.St}{H:Hp}{s:Al}{K:PySem.W.Frag}
theorem mU{A:Dg}{a b:Addr}{us vs:List Value}{ds es:List Ad}(p1:PlainL s.heap a us.toArray)(p2:PlainL s.heap b vs.toArray)(l1:us.length=ds.length)(l2:vs.length=es.length)(hu:A.units<cLine)(he:∀j (h1:j<us.length) (h2:j<vs.length),Mj A.in1 s us[j] vs[j] (Df (ds.getD j .none) (es.getD j .none))):SeqAt.RcNeAt A s (.ref a) (.ref b) (!Ii ds es):=by
 rw[<- Lm]
 by_cases hl:ds.length=es.length
 ·have hs:us.toArray.size=vs.toArray.size:=by rw[Aq,Aq,l1,l2,hl]
  have h:=SeqAt.RcNeAt.lists (A:=A) (e:=λj=>Df (ds.getD j .none) (es.getD j .none)) p1.isList p2.isList hs hu (λj h1 h2=>by simpa using he j (by simpa using h1) (by simpa using h2))
  rw[Aq,l1] at h
  rw[hl,Nat.min_self,beq_self_eq_true,Sx,<- hl]
  exact h
 ·have hs:(us.toArray.size != vs.toArray.size)=true:=by rw[Aq,Aq,l1,l2]; simpa using hl
  have h:=SeqAt.RcNeAt.lists_lengths (A:=A) p1.isList p2.isList hs hu
  have e0:(ds.length == es.length)=false:=by simpa using hl
  rw[e0,Bool.and_false]
  exact h
theorem gP{A:Dg}{a b:Addr}{us vs:List Value}{ds es:List Ad}(p1:IsTup s.heap a us.toArray)(p2:IsTup s.heap b vs.toArray)(l1:us.length=ds.length)(l2:vs.length=es.length)(hu:A.units<cLine)(he:∀j (h1:j<us.length) (h2:j<vs.length),Mj A.in1 s us[j] vs[j] (Df (ds.getD j .none) (es.getD j .none))):SeqAt.RcNeAt A s (.ref a) (.ref b) (!Ii ds es):=by
 rw[<- Lm]
 have h:=SeqAt.RcNeAt.tuples (A:=A) (e:=λj=>Df (ds.getD j .none) (es.getD j .none)) (show s.heap.IsTuple a us.toArray from p1) (show s.heap.IsTuple b vs.toArray from p2) hu (λj h1 h2=>by simpa using he j (by simpa using h1) (by simpa using h2))
 rw[Aq,Aq,l1,l2] at h
 exact h
end
section
variable{X:Cx}
def B6(K:PySem.W.Frag):R2:=λx y H Q=>∃d e,RdV K H x d/\RdV K H y e/\d.depth<=60/\Q (.bl (Df d e)) H
def L1(K:PySem.W.Frag):R2:=λx y H Q=>∃d e,RdV K H x d/\RdV K H y e/\d.depth<=60/\Q (.bl (!Df d e)) H
theorem oD(hu:X.A.units+64<cLine):Rv X (Ip .Eq) (B6 X.K):=by
 intro pins s σ H x y v u Q I rx ry h
 obtain ⟨d,e,h1,h2,hd,q⟩:=h
 have hu':X.A.units<cLine:=by omega
 cases h1 with
 | non =>
  cases rx
  cases h2 with
  | non=>cases ry; rw[Df] at q; exact SeqAt.RcAt.none_none _ _ _ _ ⟨.bl _,H,I,rfl,q⟩
  | bl b=>cases ry; rw[Df] at q; exact SeqAt.RcAt.none_bool b _ _ _ _ ⟨.bl _,H,I,rfl,q⟩; all_goals simp
  | int b=>obtain ⟨t,rfl⟩:=ry; rw[Df] at q; exact SeqAt.RcAt.none_int b t _ _ _ _ ⟨.bl _,H,I,rfl,q⟩; all_goals simp
  | str b=>obtain ⟨t,rfl⟩:=ry; rw[Df] at q; exact SeqAt.RcAt.none_str b t _ _ _ _ ⟨.bl _,H,I,rfl,q⟩; all_goals simp
  | @lst b ys es q2 rr2=>cases ry; obtain ⟨vs,r2,p2,_⟩:=I.list q2; rw[Df] at q; exact SeqAt.RcAt.none_list p2.isList hu' _ _ _ _ ⟨.bl _,H,I,rfl,q⟩; all_goals simp
  | @tup b ys es q2 rr2=>cases ry; obtain ⟨vs,r2,p2,_⟩:=I.tuple q2; rw[Df] at q; exact SeqAt.RcAt.none_tuple p2 hu' _ _ _ _ ⟨.bl _,H,I,rfl,q⟩; all_goals simp
 | bl a =>
  cases rx
  cases h2 with
  | non=>cases ry; rw[Df] at q; exact SeqAt.RcAt.bool_none a _ _ _ _ ⟨.bl _,H,I,rfl,q⟩; all_goals simp
  | bl b=>cases ry; rw[Df] at q; exact SeqAt.RcAt.bool_bool a b _ _ _ _ ⟨.bl _,H,I,rfl,q⟩
  | int b=>obtain ⟨t,rfl⟩:=ry; rw[Df] at q; exact SeqAt.RcAt.bool_int a b t _ _ _ _ ⟨.bl _,H,I,rfl,q⟩
  | str b=>obtain ⟨t,rfl⟩:=ry; rw[Df] at q; exact SeqAt.RcAt.bool_str a b t _ _ _ _ ⟨.bl _,H,I,rfl,q⟩; all_goals simp
  | @lst b ys es q2 rr2=>cases ry; obtain ⟨vs,r2,p2,_⟩:=I.list q2; rw[Df] at q; exact SeqAt.RcAt.bool_list a p2.isList hu' _ _ _ _ ⟨.bl _,H,I,rfl,q⟩; all_goals simp
  | @tup b ys es q2 rr2=>cases ry; obtain ⟨vs,r2,p2,_⟩:=I.tuple q2; rw[Df] at q; exact SeqAt.RcAt.bool_tuple a p2 hu' _ _ _ _ ⟨.bl _,H,I,rfl,q⟩; all_goals simp
 | int a =>
  obtain ⟨t',rfl⟩:=rx
  cases h2 with
  | non=>cases ry; rw[Df] at q; exact SeqAt.RcAt.int_none a t' _ _ _ _ ⟨.bl _,H,I,rfl,q⟩; all_goals simp
  | bl b=>cases ry; rw[Df] at q; exact SeqAt.RcAt.int_bool a t' b _ _ _ _ ⟨.bl _,H,I,rfl,q⟩
  | int b=>obtain ⟨t,rfl⟩:=ry; rw[Df] at q; exact SeqAt.RcAt.int_int a t' b t _ _ _ _ ⟨.bl _,H,I,rfl,q⟩
  | str b=>obtain ⟨t,rfl⟩:=ry; rw[Df] at q; exact SeqAt.RcAt.int_str a t' b t _ _ _ _ ⟨.bl _,H,I,rfl,q⟩; all_goals simp
  | @lst b ys es q2 rr2=>cases ry; obtain ⟨vs,r2,p2,_⟩:=I.list q2; rw[Df] at q; exact SeqAt.RcAt.int_list a t' p2.isList hu' _ _ _ _ ⟨.bl _,H,I,rfl,q⟩; all_goals simp
  | @tup b ys es q2 rr2=>cases ry; obtain ⟨vs,r2,p2,_⟩:=I.tuple q2; rw[Df] at q; exact SeqAt.RcAt.int_tuple a t' p2 hu' _ _ _ _ ⟨.bl _,H,I,rfl,q⟩; all_goals simp
 | str a =>
  obtain ⟨t',rfl⟩:=rx
  cases h2 with
  | non=>cases ry; rw[Df] at q; exact SeqAt.RcAt.str_none a t' _ _ _ _ ⟨.bl _,H,I,rfl,q⟩; all_goals simp
  | bl b=>cases ry; rw[Df] at q; exact SeqAt.RcAt.str_bool a t' b _ _ _ _ ⟨.bl _,H,I,rfl,q⟩; all_goals simp
  | int b=>obtain ⟨t,rfl⟩:=ry; rw[Df] at q; exact SeqAt.RcAt.str_int a t' b t _ _ _ _ ⟨.bl _,H,I,rfl,q⟩; all_goals simp
  | str b=>obtain ⟨t,rfl⟩:=ry; rw[Df] at q; exact SeqAt.RcAt.str_str a t' b t _ _ _ _ ⟨.bl _,H,I,rfl,q⟩
  | @lst b ys es q2 rr2=>cases ry; obtain ⟨vs,r2,p2,_⟩:=I.list q2; rw[Df] at q; exact SeqAt.RcAt.str_list a t' p2.isList hu' _ _ _ _ ⟨.bl _,H,I,rfl,q⟩; all_goals simp
  | @tup b ys es q2 rr2=>cases ry; obtain ⟨vs,r2,p2,_⟩:=I.tuple q2; rw[Df] at q; exact SeqAt.RcAt.str_tuple a t' p2 hu' _ _ _ _ ⟨.bl _,H,I,rfl,q⟩; all_goals simp
 | @lst a xs ds qa r =>
  cases rx
  obtain ⟨us,r1,p,_⟩:=I.list qa
  cases h2 with
  | non=>cases ry; rw[Df] at q; exact SeqAt.RcAt.list_none p.isList hu' _ _ _ _ ⟨.bl _,H,I,rfl,q⟩; all_goals simp
  | bl b=>cases ry; rw[Df] at q; exact SeqAt.RcAt.list_bool b p.isList hu' _ _ _ _ ⟨.bl _,H,I,rfl,q⟩; all_goals simp
  | int b=>obtain ⟨t,rfl⟩:=ry; rw[Df] at q; exact SeqAt.RcAt.list_int b t p.isList hu' _ _ _ _ ⟨.bl _,H,I,rfl,q⟩; all_goals simp
  | str b=>obtain ⟨t,rfl⟩:=ry; rw[Df] at q; exact SeqAt.RcAt.list_str b t p.isList hu' _ _ _ _ ⟨.bl _,H,I,rfl,q⟩; all_goals simp
  | @lst b ys es q2 rr2=>cases ry; obtain ⟨vs,r2,p2,_⟩:=I.list q2; rw[Df] at q; exact eI p p2 (r1.length.symm.trans r.length) (r2.length.symm.trans rr2.length) hu' (λj h1 h2=>Nz I r rr2 r1 r2 (Tr (by simp only[Cq] at hd; omega)) j h1 h2) _ _ _ _ ⟨.bl _,H,I,rfl,q⟩
  | @tup b ys es q2 rr2=>cases ry; obtain ⟨vs,r2,p2,_⟩:=I.tuple q2; rw[Df] at q; exact SeqAt.RcAt.list_tuple p.isList p2 hu' _ _ _ _ ⟨.bl _,H,I,rfl,q⟩; all_goals simp
 | @tup a xs ds qa r =>
  cases rx
  obtain ⟨us,r1,p,_⟩:=I.tuple qa
  cases h2 with
  | non=>cases ry; rw[Df] at q; exact SeqAt.RcAt.tuple_none p hu' _ _ _ _ ⟨.bl _,H,I,rfl,q⟩; all_goals simp
  | bl b=>cases ry; rw[Df] at q; exact SeqAt.RcAt.tuple_bool b p hu' _ _ _ _ ⟨.bl _,H,I,rfl,q⟩; all_goals simp
  | int b=>obtain ⟨t,rfl⟩:=ry; rw[Df] at q; exact SeqAt.RcAt.tuple_int b t p hu' _ _ _ _ ⟨.bl _,H,I,rfl,q⟩; all_goals simp
  | str b=>obtain ⟨t,rfl⟩:=ry; rw[Df] at q; exact SeqAt.RcAt.tuple_str b t p hu' _ _ _ _ ⟨.bl _,H,I,rfl,q⟩; all_goals simp
  | @lst b ys es q2 rr2=>cases ry; obtain ⟨vs,r2,p2,_⟩:=I.list q2; rw[Df] at q; exact SeqAt.RcAt.tuple_list p p2.isList hu' _ _ _ _ ⟨.bl _,H,I,rfl,q⟩; all_goals simp
  | @tup b ys es q2 rr2=>cases ry; obtain ⟨vs,r2,p2,_⟩:=I.tuple q2; rw[Df] at q; exact Yy p p2 (r1.length.symm.trans r.length) (r2.length.symm.trans rr2.length) hu' (λj h1 h2=>Nz I r rr2 r1 r2 (Tr (by simp only[Cq] at hd; omega)) j h1 h2) _ _ _ _ ⟨.bl _,H,I,rfl,q⟩
theorem pJ(hu:X.A.units+64<cLine):Rv X (Ip .NotEq) (L1 X.K):=by
 intro pins s σ H x y v u Q I rx ry h
 obtain ⟨d,e,h1,h2,hd,q⟩:=h
 have hu':X.A.units<cLine:=by omega
 cases h1 with
 | non =>
  cases rx
  cases h2 with
  | non=>cases ry; rw[Df] at q; exact SeqAt.RcNeAt.none_none _ _ _ _ ⟨.bl _,H,I,rfl,q⟩
  | bl b=>cases ry; rw[Df] at q; exact SeqAt.RcNeAt.none_bool b _ _ _ _ ⟨.bl _,H,I,rfl,q⟩; all_goals simp
  | int b=>obtain ⟨t,rfl⟩:=ry; rw[Df] at q; exact SeqAt.RcNeAt.none_int b t _ _ _ _ ⟨.bl _,H,I,rfl,q⟩; all_goals simp
  | str b=>obtain ⟨t,rfl⟩:=ry; rw[Df] at q; exact SeqAt.RcNeAt.none_str b t _ _ _ _ ⟨.bl _,H,I,rfl,q⟩; all_goals simp
  | @lst b ys es q2 rr2=>cases ry; obtain ⟨vs,r2,p2,_⟩:=I.list q2; rw[Df] at q; exact SeqAt.RcNeAt.none_list p2.isList hu' _ _ _ _ ⟨.bl _,H,I,rfl,q⟩; all_goals simp
  | @tup b ys es q2 rr2=>cases ry; obtain ⟨vs,r2,p2,_⟩:=I.tuple q2; rw[Df] at q; exact SeqAt.RcNeAt.none_tuple p2 hu' _ _ _ _ ⟨.bl _,H,I,rfl,q⟩; all_goals simp
 | bl a =>
  cases rx
  cases h2 with
  | non=>cases ry; rw[Df] at q; exact SeqAt.RcNeAt.bool_none a _ _ _ _ ⟨.bl _,H,I,rfl,q⟩; all_goals simp
  | bl b=>cases ry; rw[Df] at q; exact SeqAt.RcNeAt.bool_bool a b _ _ _ _ ⟨.bl _,H,I,rfl,q⟩
  | int b=>obtain ⟨t,rfl⟩:=ry; rw[Df] at q; exact SeqAt.RcNeAt.bool_int a b t _ _ _ _ ⟨.bl _,H,I,rfl,q⟩
  | str b=>obtain ⟨t,rfl⟩:=ry; rw[Df] at q; exact SeqAt.RcNeAt.bool_str a b t _ _ _ _ ⟨.bl _,H,I,rfl,q⟩; all_goals simp
  | @lst b ys es q2 rr2=>cases ry; obtain ⟨vs,r2,p2,_⟩:=I.list q2; rw[Df] at q; exact SeqAt.RcNeAt.bool_list a p2.isList hu' _ _ _ _ ⟨.bl _,H,I,rfl,q⟩; all_goals simp
  | @tup b ys es q2 rr2=>cases ry; obtain ⟨vs,r2,p2,_⟩:=I.tuple q2; rw[Df] at q; exact SeqAt.RcNeAt.bool_tuple a p2 hu' _ _ _ _ ⟨.bl _,H,I,rfl,q⟩; all_goals simp
 | int a =>
  obtain ⟨t',rfl⟩:=rx
  cases h2 with
  | non=>cases ry; rw[Df] at q; exact SeqAt.RcNeAt.int_none a t' _ _ _ _ ⟨.bl _,H,I,rfl,q⟩; all_goals simp
  | bl b=>cases ry; rw[Df] at q; exact SeqAt.RcNeAt.int_bool a t' b _ _ _ _ ⟨.bl _,H,I,rfl,q⟩
  | int b=>obtain ⟨t,rfl⟩:=ry; rw[Df] at q; exact SeqAt.RcNeAt.int_int a t' b t _ _ _ _ ⟨.bl _,H,I,rfl,q⟩
  | str b=>obtain ⟨t,rfl⟩:=ry; rw[Df] at q; exact SeqAt.RcNeAt.int_str a t' b t _ _ _ _ ⟨.bl _,H,I,rfl,q⟩; all_goals simp
  | @lst b ys es q2 rr2=>cases ry; obtain ⟨vs,r2,p2,_⟩:=I.list q2; rw[Df] at q; exact SeqAt.RcNeAt.int_list a t' p2.isList hu' _ _ _ _ ⟨.bl _,H,I,rfl,q⟩; all_goals simp
  | @tup b ys es q2 rr2=>cases ry; obtain ⟨vs,r2,p2,_⟩:=I.tuple q2; rw[Df] at q; exact SeqAt.RcNeAt.int_tuple a t' p2 hu' _ _ _ _ ⟨.bl _,H,I,rfl,q⟩; all_goals simp
 | str a =>
  obtain ⟨t',rfl⟩:=rx
  cases h2 with
  | non=>cases ry; rw[Df] at q; exact SeqAt.RcNeAt.str_none a t' _ _ _ _ ⟨.bl _,H,I,rfl,q⟩; all_goals simp
  | bl b=>cases ry; rw[Df] at q; exact SeqAt.RcNeAt.str_bool a t' b _ _ _ _ ⟨.bl _,H,I,rfl,q⟩; all_goals simp
  | int b=>obtain ⟨t,rfl⟩:=ry; rw[Df] at q; exact SeqAt.RcNeAt.str_int a t' b t _ _ _ _ ⟨.bl _,H,I,rfl,q⟩; all_goals simp
  | str b=>obtain ⟨t,rfl⟩:=ry; rw[Df] at q; exact SeqAt.RcNeAt.str_str a t' b t _ _ _ _ ⟨.bl _,H,I,rfl,q⟩
  | @lst b ys es q2 rr2=>cases ry; obtain ⟨vs,r2,p2,_⟩:=I.list q2; rw[Df] at q; exact SeqAt.RcNeAt.str_list a t' p2.isList hu' _ _ _ _ ⟨.bl _,H,I,rfl,q⟩; all_goals simp
  | @tup b ys es q2 rr2=>cases ry; obtain ⟨vs,r2,p2,_⟩:=I.tuple q2; rw[Df] at q; exact SeqAt.RcNeAt.str_tuple a t' p2 hu' _ _ _ _ ⟨.bl _,H,I,rfl,q⟩; all_goals simp
 | @lst a xs ds qa r =>
  cases rx
  obtain ⟨us,r1,p,_⟩:=I.list qa
  cases h2 with
  | non=>cases ry; rw[Df] at q; exact SeqAt.RcNeAt.list_none p.isList hu' _ _ _ _ ⟨.bl _,H,I,rfl,q⟩; all_goals simp
  | bl b=>cases ry; rw[Df] at q; exact SeqAt.RcNeAt.list_bool b p.isList hu' _ _ _ _ ⟨.bl _,H,I,rfl,q⟩; all_goals simp
  | int b=>obtain ⟨t,rfl⟩:=ry; rw[Df] at q; exact SeqAt.RcNeAt.list_int b t p.isList hu' _ _ _ _ ⟨.bl _,H,I,rfl,q⟩; all_goals simp
  | str b=>obtain ⟨t,rfl⟩:=ry; rw[Df] at q; exact SeqAt.RcNeAt.list_str b t p.isList hu' _ _ _ _ ⟨.bl _,H,I,rfl,q⟩; all_goals simp
  | @lst b ys es q2 rr2=>cases ry; obtain ⟨vs,r2,p2,_⟩:=I.list q2; rw[Df] at q; exact mU p p2 (r1.length.symm.trans r.length) (r2.length.symm.trans rr2.length) hu' (λj h1 h2=>Nz I r rr2 r1 r2 (Tr (by simp only[Cq] at hd; omega)) j h1 h2) _ _ _ _ ⟨.bl _,H,I,rfl,q⟩
  | @tup b ys es q2 rr2=>cases ry; obtain ⟨vs,r2,p2,_⟩:=I.tuple q2; rw[Df] at q; exact SeqAt.RcNeAt.list_tuple p.isList p2 hu' _ _ _ _ ⟨.bl _,H,I,rfl,q⟩; all_goals simp
 | @tup a xs ds qa r =>
  cases rx
  obtain ⟨us,r1,p,_⟩:=I.tuple qa
  cases h2 with
  | non=>cases ry; rw[Df] at q; exact SeqAt.RcNeAt.tuple_none p hu' _ _ _ _ ⟨.bl _,H,I,rfl,q⟩; all_goals simp
  | bl b=>cases ry; rw[Df] at q; exact SeqAt.RcNeAt.tuple_bool b p hu' _ _ _ _ ⟨.bl _,H,I,rfl,q⟩; all_goals simp
  | int b=>obtain ⟨t,rfl⟩:=ry; rw[Df] at q; exact SeqAt.RcNeAt.tuple_int b t p hu' _ _ _ _ ⟨.bl _,H,I,rfl,q⟩; all_goals simp
  | str b=>obtain ⟨t,rfl⟩:=ry; rw[Df] at q; exact SeqAt.RcNeAt.tuple_str b t p hu' _ _ _ _ ⟨.bl _,H,I,rfl,q⟩; all_goals simp
  | @lst b ys es q2 rr2=>cases ry; obtain ⟨vs,r2,p2,_⟩:=I.list q2; rw[Df] at q; exact SeqAt.RcNeAt.tuple_list p p2.isList hu' _ _ _ _ ⟨.bl _,H,I,rfl,q⟩; all_goals simp
  | @tup b ys es q2 rr2=>cases ry; obtain ⟨vs,r2,p2,_⟩:=I.tuple q2; rw[Df] at q; exact gP p p2 (r1.length.symm.trans r.length) (r2.length.symm.trans rr2.length) hu' (λj h1 h2=>Nz I r rr2 r1 r2 (Tr (by simp only[Cq] at hd; omega)) j h1 h2) _ _ _ _ ⟨.bl _,H,I,rfl,q⟩
theorem pU{z z':V}{v:Value}(h:RelV z v)(h':RelV z' v):z=z':=by
 cases z <;> cases z' <;> simp only[L2.RelV] at h h' <;> first | rfl | (subst h; cases h'; rfl) | (subst h; cases h'; done) | (obtain ⟨t,rfl⟩:=h; obtain ⟨t',e⟩:=h'; cases e; rfl) | (obtain ⟨t,rfl⟩:=h; obtain ⟨t',e⟩:=h'; cases e; done) | (obtain ⟨t,rfl⟩:=h; cases h'; done) | (subst h; obtain ⟨t',e⟩:=h'; cases e)
open Classical in
noncomputable def Kr(K:PySem.W.Frag)(H:Hp)(d:Ad)(v:Value):Bool:=if h:∃e z,RdV K H z e/\RelV z v then Df h.choose d else false
theorem eT{pins:List (Addr×Obj)}{σ:L2.St}{H:Hp}{s:Al}(I:Inv X pins σ H s){d e:Ad}{z:V}{v:Value}(h:RdV X.K H z e)(r:RelV z v):Kr X.K H d v=Df e d:=by
 unfold Kr
 have hx:∃e z,RdV X.K H z e/\RelV z v:=⟨e,z,h,r⟩
 rw[dif_pos hx]
 obtain ⟨z',h',r'⟩:=hx.choose_spec
 have ez:=pU r' r
 subst ez
 rw[RdV.det I h' h]
theorem Mu{pins:List (Addr×Obj)}{σ:L2.St}{H:Hp}{s:Al}(I:Inv X pins σ H s){d:Ad}:∀{xs:List V} {ds:List Ad} {us:List Value},RdVs X.K H xs ds->Fc xs us->us.any (Kr X.K H d)=ds.any λe=>Df e d
 | _,_,_,.nil,r=>by cases r; rfl
 | _,_,_,.cons h t,r=>by
  cases r with
  | cons r1 r2=>rw[Sr,Sr,eT I h r1,Mu I t r2]
theorem My{pins:List (Addr×Obj)}{σ:L2.St}{H:Hp}{s:Al}(I:Inv X pins σ H s){A:Dg}{x:V}{d:Ad}{u:Value}(hx:RdV X.K H x d)(rx:RelV x u):∀{xs:List V} {ds:List Ad} {us:List Value},RdVs X.K H xs ds->Fc xs us->A.units+Bg ds<cLine->∀v∈us,Mj A s v u (Kr X.K H d v)
 | _,_,_,.nil,r,_=>λv hv=>by cases r; cases hv
 | _,_,_,@RdVs.cons _ _ y e ys es h t,r,hu=>λv hv=>by
  have hm:A.units+e.depth<cLine/\A.units+Bg es<cLine:=by
   simp only[Bg] at hu
   omega
  cases r with
  | cons r1 r2 =>
   rcases Ag.mp hv with rfl | hv
   ·rw[eT I h r1]; exact rL I h hx r1 rx hm.1
   ·exact My I hx rx t r2 hm.2 v hv
def zU(K:PySem.W.Frag)(neg:Bool):R2:=λx y H Q=>∃p xs d ds,y=.ref p/\(Om K H p xs\/Pe K H p xs)/\RdV K H x d/\RdVs K H xs ds/\Bg ds<=60/\Q (.bl (if neg then !(ds.any λe=>Df e d) else ds.any λe=>Df e d)) H
theorem sL(hu:X.A.units+64<cLine):Rv X (Ip .In) (zU X.K false):=by
 intro pins s σ H x y v u Q I rx ry h
 obtain ⟨p,xs,d,ds,rfl,hq,hx,hs,hd,q⟩:=h
 cases ry
 have hu1:X.A.in1.units+Bg ds<cLine:=by have:=Td X.A; omega
 rcases hq with hq | hq
 ·obtain ⟨its,r,pl,hz⟩:=I.list hq
  refine SeqAt.in_listAt (Kr X.K H d) pl.isList (λw hw=>My I hx rx hs r hu1 w (by simpa using hw)) ⟨.bl _,H,I,rfl,?_⟩
  rw[show its.toArray.any (Kr X.K H d)=its.any (Kr X.K H d) by simp,Mu I hs r]
  exact q
 ·obtain ⟨its,r,pl,hz⟩:=I.tuple hq
  refine SeqAt.in_tupleAt (Kr X.K H d) pl (λw hw=>My I hx rx hs r hu1 w (by simpa using hw)) ⟨.bl _,H,I,rfl,?_⟩
  rw[show its.toArray.any (Kr X.K H d)=its.any (Kr X.K H d) by simp,Mu I hs r]
  exact q
theorem nS(hu:X.A.units+64<cLine):Rv X (Ip .NotIn) (zU X.K true):=by
 intro pins s σ H x y v u Q I rx ry h
 obtain ⟨p,xs,d,ds,rfl,hq,hx,hs,hd,q⟩:=h
 cases ry
 have hu1:X.A.in1.units+Bg ds<cLine:=by have:=Td X.A; omega
 rcases hq with hq | hq
 ·obtain ⟨its,r,pl,hz⟩:=I.list hq
  refine SeqAt.notIn_listAt (Kr X.K H d) pl.isList (λw hw=>My I hx rx hs r hu1 w (by simpa using hw)) ⟨.bl _,H,I,rfl,?_⟩
  rw[show its.toArray.any (Kr X.K H d)=its.any (Kr X.K H d) by simp,Mu I hs r]
  exact q
 ·obtain ⟨its,r,pl,hz⟩:=I.tuple hq
  refine SeqAt.notIn_tupleAt (Kr X.K H d) pl (λw hw=>My I hx rx hs r hu1 w (by simpa using hw)) ⟨.bl _,H,I,rfl,?_⟩
  rw[show its.toArray.any (Kr X.K H d)=its.any (Kr X.K H d) by simp,Mu I hs r]
  exact q
end
def Q2(K:PySem.W.Frag)(a:Addr):It :=
 ⟨λi H=>∃xs x,Om K H a xs/\xs[i]? = some x,λi H x H'=>∃p y,x=.ref p/\H p=none/\H'=upd H p (.tup [.int i,y])/\∀xs,Om K H a xs->xs[i]? = some y,λi H=>∃xs,Om K H a xs/\xs.length<=i⟩
section
variable{X:Cx}{pins:List (Addr×Obj)}{σ:L2.St}{H:Hp}{s:Al}{h':Heap}
theorem Ri{t':Nat}{fp:List Addr}(I:Inv X pins σ H s)(k:∀b o,b∉fp->s.heap.get? b=some o->h'.get? b=some o)(hf:∀b∈fp,Ld X pins H b):Inv X pins σ H { s with heap:=h',toks:=t' }:=by
 have nit:∀b u,H b=some u->b∉fp:=λb u e z=>by rw[(hf b z).1] at e; cases e
 refine I.step (g':=s.gens) (d':=s.drawn) (ch:=fp) (λb hb=>?_) (λb o _ _ hc e _=>k b o hc e) (λb o _ _ hc e _=>⟨o.slots,k b o hc e⟩) (λ_ _ _ _ n=>n)
  (λb o hc e=>⟨o,k b o hc e⟩) (λ_ _ e=>e) (λ_ _ _ e=>e) (λb ps e=>⟨#[],by rw[e]; simp⟩) (λm hm=>?_) (λb u e=>?_) I.bare
 ·obtain ⟨_,f1,_,f3,f4,f5⟩:=hf b hb
  exact ⟨f3,f1,f4,f5⟩
 ·obtain ⟨o,es,ep,ho,r⟩:=hm
  exact ⟨o,es,ep,k _ o (λz=>(hf _ z).2.1 rfl) ho,r⟩
 ·refine (I.hok b u e).stay (λc v hc q=>k c v ?_ q) (λ_ q=>q) λ_ _ q=>q
  rcases hc with z | z
  ·rw[z]; exact nit b u e
  ·exact nit c _ z
end
theorem nX{P:Bp}{w:World}{K:PySem.W.Frag}{elts:List Expr}{k:Nat}{pos:Pos}(a e it:Addr)(ne:e≠it):Turn P w K (.Tuple elts k pos) (Q2 K a) [e,it] e (λi h=>(∃old,IsEnum h e it ((i:Nat):Int) old)/\h.IsListIter it a i) where
 mem:=Aa
 obj:=λi h st b hb=>by
  obtain ⟨⟨old,he⟩,o,e1,c,d⟩:=st
  rcases Ag.mp hb with z | z
  ·subst z
   exact ⟨_,he,λv z=>by cases z⟩
  ·rw[Aj.mp z]
   exact ⟨o,e1,λv z=>by rw[d] at z; cases z⟩
 keep:=λi h h' st kp=>⟨let ⟨old,he⟩:=st.1; ⟨old,kp e Aa _ he⟩,st.2.at λo q=>kp it (Ab _ Aa) o q⟩
 item:=by
  intro X hP hw hK hc i pins s σ H E I hf st hg
  subst hP hw hK
  obtain ⟨xs,x,hq,hx⟩:=hg
  obtain ⟨its,rv,p,hz⟩:=I.list hq
  obtain ⟨u,hu,ru⟩:=rv.get hx
  obtain ⟨⟨old,he⟩,hit⟩:=st
  have el:e<s.heap.objs.size:=Bb he
  have il:it<s.heap.objs.size:=by obtain ⟨_,q,_⟩:=hit; exact Bb q
  refine wpAny_pyNext_enum_item he hit p.isList (x:=u) (by simpa using hu) ne λh1 ho hit1 hT hsz hk=>⟨_,rfl,wpAny_letOwnedTupleGo_enum ho λh2 he2 hs2=>?_⟩
  have hs2':Eo e h1 h2:=hs2
  -- the pair laid,then the iterators turned
  have I1:Inv X pins σ (upd H s.heap.objs.size (.tup [.int i,x])) { s with heap:=s.heap.push { cls:=.type "tuple",data:=.seq #[.int i s.toks,u] } } :=
   I.laid (t':=s.toks) (λb o q=>Ar _ q) (An _) ⟨by show 2<=Be; decide,[.int i s.toks,u],.cons ⟨_,rfl⟩ (.cons ru .nil),_,Bt _ rfl,rfl,0,rfl⟩
  have nT:∀b∈[e,it],b≠s.heap.objs.size:=λb hb=>by
   rcases Ag.mp hb with z | z
   ·rw[z]; exact Cv el
   ·rw[Aj.mp z]; exact Cv il
  have fr:∀b∈[e,it],(upd H s.heap.objs.size (.tup [.int i,x])) b=none:=λb hb=>by rw[Ef (nT b hb)]; exact (hf b hb).1
  refine ⟨.ref s.heap.objs.size,_,Ri (fp:=[e,it]) (s:={ s with heap:=s.heap.push { cls:=.type "tuple",data:=.seq #[.int i s.toks,u] } }) (h':=h2) (t':=s.toks+1) I1 (λb o hb q=>?_) (λb hb=>⟨fr b hb,(hf b hb).2⟩),rfl,⟨_,x,rfl,I.hok.fresh (An _),rfl,λys hy=>by rw[I.list_inj hy hq]; exact hx⟩,⟨⟨u,?_⟩,?_⟩,fr⟩
  ·have nbe:b≠e:=λz=>hb (by rw[z]; exact Aa)
   have nbi:b≠it:=λz=>hb (by rw[z]; exact Ab _ Aa)
   refine (hs2'.2 b nbe).trans ?_
   by_cases hbT:b=s.heap.objs.size
   ·subst hbT
    have q':=(Bt s.heap (o:={ cls:=.type "tuple",data:=.seq #[.int i s.toks,u] }) rfl).symm.trans q
    rw[hT]
    exact q'
   ·refine hk b o nbe nbi ?_
    have q0:(s.heap.push { cls:=.type "tuple",data:=.seq #[.int i s.toks,u] }).get? b=some o:=q
    rcases Heap.get?_push_cases q0 with z | z
    ·exact absurd z.1 hbT
    ·exact z
  ·have : ((i+1:Nat):Int)=(i:Int)+1:=by omega
   rw[this]
   exact he2
  ·exact hit1.at λo q=>(hs2'.2 it (Lg ne)).trans q
 done:=by
  intro X hP hw hK hc i pins s σ H E I hf st hg
  subst hP hw hK
  obtain ⟨xs,hq,hx⟩:=hg
  obtain ⟨its,rv,p,hz⟩:=I.list hq
  obtain ⟨⟨old,he⟩,hit⟩:=st
  have hl:=rv.length
  exact wpAny_pyNext_enum_end (I.ok.hd hc) he hit p.isList (by simp; omega) λh1 eb=>⟨rfl,Ri (fp:=[e,it]) (t':=s.toks) I (λb o hb q=>eb b o (λz=>hb (by rw[z]; exact Ab _ Aa)) q) hf⟩
 self:=λ_ _ _ _ _ st h=>let ⟨_,he⟩:=st.1; wpAny_pyIter_enum he h
section
variable{X:Cx}
def A5(K:PySem.W.Frag)(ta:TA):TI:=λσ H R=>ta σ H λvs H1=>∃a,vs=[.ref a]/\(∃xs,Om K H1 a xs)/\R (Q2 K a) H1
theorem vO{elts:List Expr}{k:Nat}{tp:Pos}{a:Expr}{ta:TA}{p pos:Pos}(hg:Gl X "enumerate")(hm:X.mg "enumerate" = none)(ha:PA X [a] ta)(hs:Bj [a] X.env=[(false,eval a X.env)]:=by rfl):PI X (.Tuple elts k tp) (.Call (.Name "enumerate" p) [a] [] pos) (A5 X.K ta):=by
 intro pins s σ H R I h
 refine Call_ (Tp I hg hm (u:=.type "enumerate") (by decide +kernel) (Gu (Gq (ha pos pins s σ H _ I h) λus s1 ⟨vs,H1,I1,r1,q1⟩=>?_) hs rfl))
 obtain ⟨l,e,⟨xs,hq⟩,q⟩:=q1
 subst e
 obtain ⟨u,rfl,ru⟩:=vals1 r1
 cases ru
 obtain ⟨its,rv,pl,hz⟩:=I1.list hq
 refine call_enumerate_list pl.isList λh2 he hit hsz hk=>wpAny_pyIter_enum he ?_
 have fr:∀b∈[s1.heap.objs.size+1,s1.heap.objs.size],Ld X pins H1 b:=λb hb=>by
  rcases Ag.mp hb with z | z
  ·rw[z]; exact I1.fpOk (Nat.le_succ _) (I1.hok.fresh (Nat.le_succ _))
  ·rw[Aj.mp z]; exact I1.fpOk (An _) (I1.hok.fresh (An _))
 exact ⟨s1.heap.objs.size+1,[s1.heap.objs.size+1,s1.heap.objs.size],_,_,H1,rfl,I1.kept (t':=s1.toks) hk,nX l _ _ (Nat.succ_ne_self _),⟨⟨_,he⟩,hit⟩,fr,q⟩
end
def bK(Bd:V->Hp->L2.St->Prop)(J:It)(js:List Nat)(tc:TT)(te:TE)(σ:L2.St)(H1:Hp)(Q:VK):Prop:=∀D,H1 D=none->∃W:Nat->Nat->Hp->Prop,(∃m,W 0 m (upd H1 D (.lst [])))/\∀i m H,W i m H ->
 (J.stop i H/\Q (.ref D) H)\/(J.go i H/\∀x H',J.yld i H x H'->∃ws,Bd x H' ws/\∃(N1:Hp->Prop) (N2:VK),(∀H2,N1 H2->∃m',m'<m/\W (i+1) m' H2) /\
  (∀y H3,N2 y H3->∃acc,H3 D=some (.lst acc)/\acc.length<Be/\∃m',m'<m/\W (i+1) m' (upd H3 D (.lst (acc++[y])))) /\
  tc (ws++Eg σ js) H' λc H2=>if c=true then te (ws++Eg σ js) H2 N2 else N1 H2)
section
variable{X:Cx}{pins:List (Addr×Obj)}{σ:L2.St}{H:Hp}{s:Al}{elt iter tg:Expr}{ifs:List Expr}{scope:Scope}{cl:List (Str×Addr)}{x:Str}{ys:List Str}{js:List Nat}{tc:TT}{te:TE}
theorem Pf{pre:List Str}{pos p2:Pos}{use:Option (Value->Sem Unit)}{Qf:Value->Al->Prop}{Bd:V->Hp->L2.St->Prop}{Qc:VK}{g:TG}{R:It->Hp->Prop}(C:CompScope X scope cl x ys js)(hc:X.calm=true)(ht:∀fp s H,gD (Ct X scope cl (pre++ys) fp s H) ifs tc)(he:∀fp s H,PE (Ct X scope cl (pre++ys) fp s H) elt te)(hg:∀fp s H,PG (Ct X scope cl (pre++ys) fp s H) tg g)(hb:∀(o ws:L2.St) (y:V) (H:Hp),o.length=pre.length->Bd y H ws->ws.length=pre.length/\g y (o++Eg σ js) H λσ' H'=>σ'=ws++Eg σ js/\H'=H)(hs:∀x,Ci iter X.env x=pure x)(hR:∀J H1,R J H1->bK Bd J js tc te σ H1 Qc)(hi:wpAny (model X.prog X.w) X.A (eval iter X.env) (λv s1=>wpAny (model X.prog X.w) X.A (pyIter v) (R7 X pins σ tg R) X.xe s1) X.xe s)(hend:∀(X':Cx) (s3 s7:Al) (H3 H6:Hp) (fp:List Addr) (D:Addr) (σ':L2.St),Ct X scope cl (pre++ys) fp s3 H3=X'->Inv X pins σ H3 s3->(∀b∈fp,Ld X pins H3 b)->Inv X' [] σ' H6 s7->Qc (.ref D) H6->compPost (model X.prog X.w) X.A X.xe use Qf (.ref D) s3.heap.objs.size (.ok .next) s7):wpAny (model X.prog X.w) X.A (comprehension (.ListComp elt [⟨tg,iter,ifs,0⟩] scope pos) scope X.env p2 (newList []) false (eval iter X.env) use) Qf X.xe s:=by
 refine oB (use:=use) rfl hs C.clos C.kind C.locs (Gq hi λv s1 h1=>Gq h1 λitv s2 h2=>?_)
 obtain ⟨it,fp,tn,J,H2,e,I2,T,st2,f2,q2⟩:=h2
 subst e
 have fD:H2 s2.heap.objs.size=none:=I2.hok.fresh (An _)
 obtain ⟨W,⟨m0,w0⟩,turn⟩:=hR _ _ q2 s2.heap.objs.size fD
 refine Eu ?_
 have I3:Inv X pins σ (upd H2 s2.heap.objs.size (.lst [])) { s2 with heap:=s2.heap.push { cls:=.type "list",dict:=none,data:=.seq ([]:List Value).toArray } } :=
  I2.laid (t':=s2.toks) (λb u q=>Ar _ q) (An _) ⟨Dv _,[],0,.nil,Bt _ rfl⟩
 obtain ⟨f3,st3',o3'⟩:=eO I2 T st2 f2 I3
 generalize hS3:({ s2 with heap:=s2.heap.push { cls:=.type "list",dict:=none,data:=.seq ([]:List Value).toArray } }:Al)=s3 at I3
 have tR:tn 0 s3.heap:=by rw[<- hS3]; exact st3'
 have o3:∀b∈fp,∃o,s3.heap.get? b=some o:=by rw[<- hS3]; exact o3'
 show wpAny _ _ (Uj scope X.env.globals cl [] X.env.qual none .none (some X.env)) _ _ _
 refine Yv C λh4 hns4 keep4 new4=>?_
 have I4:∀tk,Inv (Ct X scope cl (pre++ys) fp s3 (upd H2 s2.heap.objs.size (.lst []))) [] (pre.map (λ_=>none)++Eg σ js) (upd H2 s2.heap.objs.size (.lst [])) { s3 with heap:=h4,toks:=tk }:=λtk=>Wc (pre:=pre) C I3 f3 o3 hns4 keep4 new4
 have st4:tn 0 h4:=T.keep 0 _ _ tR λb hb o q=>keep4 b o q
 generalize hX':Ct X scope cl (pre++ys) fp s3 (upd H2 s2.heap.objs.size (.lst []))=X' at I4
 obtain ⟨eP,eW,eK,eA,eC⟩:=cO hc hX'
 have stat:∀{H':Hp},(∀b∈fp,H' b=none)->∀b∈fp,Ld X' [] H' b:=λ{H'} hn=>Zh hX' (I4 0) hn
 have loop:∀s5:Al,s5={ s3 with heap:=h4,toks:=s3.toks+([]:List (Str×Value)).length } ->
   Hs (model X.prog X.w) X.A (.compLoop (.ListComp elt [⟨tg,iter,ifs,0⟩] scope pos) 0 (.ref it) (.ref s2.heap.objs.size) (compEnvC scope (Eb (s3.heap.objs.size+1) scope.names cl) s3.heap.objs.size X.env))
    (compPost (model X.prog X.w) X.A X.xe use Qf (.ref s2.heap.objs.size) s3.heap.objs.size) s5:=by
  rintro s5 rfl
  refine iS (λn s'=>∃(i:Nat) (o:L2.St) (H':Hp),o.length=pre.length/\Inv X' [] (o++Eg σ js) H' s'/\tn i s'.heap/\(∀b∈fp,H' b=none)/\W i n H') ?_ m0
   ⟨0,_,_,Ac ..,I4 _,st4,λb hb=>(f3 b hb).1,w0⟩
  (intro n s6 q_; obtain ⟨i,o,H6,lo,I6,st6,fr6,w6⟩ := q_)
  rcases turn i n H6 w6 with ⟨stop,qn⟩ | ⟨go,step⟩
  ·have hd:=T.done X' eP eW eK eC i [] s6 _ H6 (λ_ _=>False) I6 (stat fr6) st6 stop
   rw[eA] at hd
   refine Gq hd λr s7 q0_ => ?_
   obtain ⟨hr,I7⟩ := q0_
   subst hr
   exact hend _ _ _ _ _ _ _ _ hX' I3 f3 I7 qn
  ·have hit:=T.item X' eP eW eK eC i [] s6 _ H6 (λ_ _=>False) I6 (stat fr6) st6 go
   rw[eA] at hit
   refine Gq hit λr s7 q0_ => ?_
   obtain ⟨u,hr,h7⟩ := q0_
   subst hr
   refine Gq h7 λ_ s8 q0_ => ?_
   obtain ⟨y,H8,I8,r8,y8,st8,fr8⟩ := q0_
   have I8':=I8.pinned (stat fr8) (T.obj _ _ st8)
   obtain ⟨ws,hbd,N1,N2,hN1,hN2,hst⟩:=step y H8 y8
   obtain ⟨lw,hgo⟩:=hb o ws y H8 lo hbd
   have again:∀{H9:Hp} {s9:Al} {m':Nat},Inv X' ([]++Ou fp s8.heap) (ws++Eg σ js) H9 s9->m'<n->W (i+1) m' H9->∃m,m<n/\∃(i:Nat) (o:L2.St) (H':Hp),o.length=pre.length/\Inv X' [] (o++Eg σ js) H' s9/\tn i s9.heap/\(∀b∈fp,H' b=none)/\W i m H':=λ{H9 s9 m'} I9 hm w9=>by
    refine ⟨m',hm,i+1,ws,H9,lw,I9.unpinned,T.keep _ _ _ st8 λb hb o e=>(I9.pin (b,o) (Ah _ (Ah _ (Ho hb e)))).1,λb hb=>?_,w9⟩
    obtain ⟨o,e,_⟩:=T.obj _ _ st8 b hb
    exact (I9.pin (b,o) (Ah _ (Ah _ (Ho hb e)))).2.1
   subst hX'
   refine Gq (hg _ _ _ _ s8 _ H8 y u _ I8' r8 hgo) λ_ s9 q0_ => ?_
   obtain ⟨σ9,H9,I9,e9,e9'⟩ := q0_
   subst e9 e9'
   refine Gq (ht fp s3 _ _ s9 _ _ _ I9 hst) λok s10 q0_ => ?_
   obtain ⟨H10,I10,q10⟩ := q0_
   cases ok with
   | false =>
    rw[if_neg Ms] at q10 ⊢
    obtain ⟨m',hm,w10⟩:=hN1 _ q10
    exact again I10 hm w10
   | true =>
    rw[if_pos rfl] at q10 ⊢
    refine Gq (he fp s3 _ _ s10 _ _ _ I10 q10) λz s11 q0_ => ?_
    obtain ⟨vz,H11,I11,r11,q11⟩ := q0_
    obtain ⟨acc,ha,hz,m',hm,w11⟩:=hN2 _ _ q11
    refine Gq (Pg _ s11 _ H11 (.ref s2.heap.objs.size) [vz] (.ref s2.heap.objs.size) [z] (λ_ H'=>H'=upd H11 s2.heap.objs.size (.lst (acc++[vz]))) I11 rfl (.cons r11 .nil) ⟨_,acc,vz,rfl,rfl,ha,hz,rfl⟩) λ_ s12 q0_ => ?_
    obtain ⟨_,H12,I12,_,e12⟩ := q0_
    subst e12
    exact again I12 hm w11
 exact tV (loop _ rfl) (T.self X.A 0 _ _ _ st4 (loop _ rfl))
theorem cN{Q:VK}{N:List Str}(X':Cx)(s3 s7:Al)(H3 H6:Hp)(fp:List Addr)(D:Addr)(σ':L2.St)(hX':Ct X scope cl N fp s3 H3=X')(I3:Inv X pins σ H3 s3)(f3:∀b∈fp,Ld X pins H3 b)(I7:Inv X' [] σ' H6 s7)(q:Q (.ref D) H6):compPost (model X.prog X.w) X.A X.xe none (EP X pins σ Q) (.ref D) s3.heap.objs.size (.ok .next) s7:=by
 obtain ⟨m7,hn7,fin7⟩:=Wx hX' I3 f3 I7
 exact ⟨m7,hn7,λh8 hs8=>⟨.ref D,H6,fin7 h8 hs8,rfl,q⟩⟩
theorem dM{De:Ends}{N:List Str}{i0:Nat}{y0:Str}{py:Pos}(hN:X.N.Nodup)(hi0:X.N[i0]? = some y0)(hy0:X.env.scope.names.lookup y0=some .local)(X':Cx)(s3 s7:Al)(H3 H6:Hp)(fp:List Addr)(D:Addr)(σ':L2.St)(hX':Ct X scope cl N fp s3 H3=X')(I3:Inv X pins σ H3 s3)(f3:∀b∈fp,Ld X pins H3 b)(I7:Inv X' [] σ' H6 s7)(qn:De.nx (σ.set i0 (some (.ref D))) H6):compPost (model X.prog X.w) X.A X.xe (some (Mt (.Name y0 py) X.env)) (λ_ s'=>SP X pins De .next s') (.ref D) s3.heap.objs.size (.ok .next) s7:=by
 obtain ⟨⟨m7,hn7'⟩,I7f,J7⟩:=mY hX' I3 f3 I7
 have fC:Ld X pins H6 s3.heap.objs.size:=I3.fpOk (An _) I7f
 obtain ⟨oC,esC,epC,hoC,rC⟩:=id hn7'
 have J8:Inv X (pins++[(s3.heap.objs.size,oC)]) σ H6 s7:=J7.pins_of λp hp=>by
  rcases Ay.mp hp with z | z
  ·have q:=J7.pin p (Ah _ z)
   exact q
  ·rw[Aj.mp z]
   exact ⟨hoC,I7f,fC.2.1,fC.2.2.1,λv hv=>by rw[rC.1] at hv; cases hv⟩
 refine Gq (Ji (X:=X) (i:=i0) (x:=y0) (pos:=py) hN hi0 (.inl hy0) (.inr hy0) (pins++[(s3.heap.objs.size,oC)]) s7 σ H6 (.ref D) (.ref D) (λσ' H'=>σ'=σ.set i0 (some (.ref D))/\H'=H6) J8 rfl ⟨rfl,rfl⟩) λ_ s9 q0_ => ?_
 obtain ⟨σ9,H9,I9,e9,e9'⟩ := q0_
 subst e9 e9'
 have hoC9:=(I9.pin (s3.heap.objs.size,oC) (Ah _ (Ah _ Aa))).1
 have I9':Inv X pins (σ.set i0 (some (.ref D))) H9 s9:=I9.pins_of λp hp=>I9.pin p (Ah _ (Am _ hp))
 refine ⟨m7,hn7'.at λo e=>by rw[hoC] at e; cases e; exact hoC9,λh10 hs10=>?_⟩
 exact ⟨_,H9,Ri (t':=s9.toks) (fp:=[s3.heap.objs.size]) I9' (λb o hb e=>(hs10.2 b (λz=>hb (by rw[z]; exact Aa))).trans e) (λb hb=>by rw[Aj.mp hb]; exact fC),qn⟩
def b1:V->Hp->L2.St->Prop:=λx _ ws=>ws=[some x]
def b2(K:PySem.W.Frag):V->Hp->L2.St->Prop:=λx H ws=>∃(t:Addr) (w1 w2:V),x=.ref t/\Pe K H t [w1,w2]/\ws=[some w1,some w2]
theorem xG{J:It}{H1:Hp}{Q:VK}(q:wU J js tc te σ H1 Q):bK b1 J js tc te σ H1 Q:=λD nD=>by
 obtain ⟨W,w0,t⟩:=q D nD
 exact ⟨W,w0,λi m H w=>(t i m H w).imp id λ⟨go,st⟩=>⟨go,λx H' y=>⟨_,rfl,st x H' y⟩⟩⟩
def pD(K:PySem.W.Frag)(J:It)(js:List Nat)(tc:TT)(te:TE)(σ:L2.St)(H1:Hp)(Q:VK):Prop:=∀D,H1 D=none->∃W:Nat->Nat->Hp->Prop,(∃m,W 0 m (upd H1 D (.lst [])))/\∀i m H,W i m H ->
 (J.stop i H/\Q (.ref D) H)\/(J.go i H/\∀x H',J.yld i H x H'->∃(t:Addr) (w1 w2:V),x=.ref t/\Pe K H' t [w1,w2]/\∃(N1:Hp->Prop) (N2:VK),(∀H2,N1 H2->∃m',m'<m/\W (i+1) m' H2) /\
  (∀y H3,N2 y H3->∃acc,H3 D=some (.lst acc)/\acc.length<Be/\∃m',m'<m/\W (i+1) m' (upd H3 D (.lst (acc++[y])))) /\
  tc (some w1::some w2::Eg σ js) H' λc H2=>if c=true then te (some w1::some w2::Eg σ js) H2 N2 else N1 H2)
def oT(K:PySem.W.Frag)(wi:TI)(js:List Nat)(tc:TT)(te:TE):TE:=λσ H Q=>wi σ H λJ H1=>pD K J js tc te σ H1 Q
theorem C4{J:It}{H1:Hp}{Q:VK}(q:pD X.K J js tc te σ H1 Q):bK (b2 X.K) J js tc te σ H1 Q:=λD nD=>by
 obtain ⟨W,w0,t⟩:=q D nD
 refine ⟨W,w0,λi m H w=>(t i m H w).imp id λ⟨go,st⟩=>⟨go,λx H' y=>?_⟩⟩
 obtain ⟨t,w1,w2,e,q,r⟩:=st x H' y
 exact ⟨_,⟨t,w1,w2,e,q,rfl⟩,r⟩
theorem xF(o ws:L2.St)(y:V)(H:Hp)(lo:o.length=1)(h:b1 y H ws):ws.length=1/\Js 0 y (o++Eg σ js) H λσ' H'=>σ'=ws++Eg σ js/\H'=H:=by
 unfold b1 at h
 subst h
 match o,lo with
 | [_],_=>exact ⟨rfl,rfl,rfl⟩
theorem E6(o ws:L2.St)(y:V)(H:Hp)(lo:o.length=2)(h:b2 X.K y H ws):ws.length=2/\pC X.K 2 (Oq (Js 0) (Oq (Js 1) oH)) y (o++Eg σ js) H λσ' H'=>σ'=ws++Eg σ js/\H'=H:=by
 obtain ⟨t,w1,w2,e,q,rfl⟩:=h
 match o,lo with
 | [_,_],_=>exact ⟨rfl,t,[w1,w2],e,q,rfl,_,_,rfl,_,_,rfl,rfl,rfl,rfl⟩
theorem g2{x2:Str}{px px2 pt:Pos}{kt:Nat}(C:CompScope X scope cl x ys js)(own2:Sd scope x2)(nd2:(x::x2::ys).Nodup)(hc:X.calm=true)(fp:List Addr)(s:Al)(H:Hp):PG (Ct X scope cl (x::x2::ys) fp s H) (.Tuple [.Name x px,.Name x2 px2] kt pt) (pC X.K 2 (Oq (Js 0) (Oq (Js 1) oH))) :=
 iH (X:=Ct X scope cl (x::x2::ys) fp s H) hc (Nf (Ji (i:=0) (x:=x) nd2 rfl (Lb C.own) (Nv C.own)) (Nf (Ji (i:=1) (x:=x2) nd2 rfl (Lb own2) (Nv own2)) bC))
theorem vV{px pos:Pos}{wi:TI}(C:CompScope X scope cl x ys js)(hc:X.calm=true)(hi:PI X (.Name x px) iter wi)(ht:∀fp s H,gD (Ct X scope cl (x::ys) fp s H) ifs tc)(he:∀fp s H,PE (Ct X scope cl (x::ys) fp s H) elt te)(hs:∀x,Ci iter X.env x=pure x:=by intro _; rfl):PE X (.ListComp elt [⟨.Name x px,iter,ifs,0⟩] scope pos) (pN wi js tc te):=by
 intro pins s σ H Q I h
 rw[eval_ListComp]
 exact Pf (pre:=[x]) C hc ht he (λ_ _ _=>Ji (i:=0) C.nd rfl (Lb C.own) (Nv C.own)) xF hs (λ_ _=>xG) (hi pins s σ H _ I h) cN
theorem sO{x2:Str}{px px2 pt pos:Pos}{kt:Nat}{wi:TI}(C:CompScope X scope cl x ys js)(own2:Sd scope x2)(nd2:(x::x2::ys).Nodup)(hc:X.calm=true)(hi:PI X (.Tuple [.Name x px,.Name x2 px2] kt pt) iter wi)(ht:∀fp s H,gD (Ct X scope cl (x::x2::ys) fp s H) ifs tc)(he:∀fp s H,PE (Ct X scope cl (x::x2::ys) fp s H) elt te)(hs:∀x,Ci iter X.env x=pure x:=by intro _; rfl):PE X (.ListComp elt [⟨.Tuple [.Name x px,.Name x2 px2] kt pt,iter,ifs,0⟩] scope pos) (oT X.K wi js tc te):=by
 intro pins s σ H Q I h
 rw[eval_ListComp]
 exact Pf (pre:=[x,x2]) C hc ht he (g2 C own2 nd2 hc) E6 hs (λ_ _=>C4) (hi pins s σ H _ I h) cN
theorem kD{y0:Str}{px py pos spos:Pos}{i0:Nat}{wi:TI}(hN:X.N.Nodup)(hi0:X.N[i0]? = some y0)(hy0:X.env.scope.names.lookup y0=some .local)(C:CompScope X scope cl x ys js)(hc:X.calm=true)(hi:PI X (.Name x px) iter wi)(ht:∀fp s H,gD (Ct X scope cl (x::ys) fp s H) ifs tc)(he:∀fp s H,PE (Ct X scope cl (x::ys) fp s H) elt te)(hs:∀x,Ci iter X.env x=pure x:=by intro _; rfl)(hsw:Io (.ListComp elt [⟨(.Name x px),iter,ifs,0⟩] scope pos) (some (.Name y0 py)) spos.line X.env=pure true:=by rfl):PS X (.Assign [.Name y0 py] (.ListComp elt [⟨(.Name x px),iter,ifs,0⟩] scope pos) spos) (qZ (pN wi js tc te) (Js i0)):=by
 intro pins s σ H De I h
 rw[exec_Assign_Name_used _ _ _ _ hsw]
 refine Ae (Gr (Ae ?_))
 exact Ae (m:=comprehension _ scope X.env _ (newList []) false (eval iter X.env) (some (Mt (.Name y0 py) X.env))) (Di (Pf (pre:=[x]) C hc ht he (λ_ _ _=>Ji (i:=0) C.nd rfl (Lb C.own) (Nv C.own)) xF (hR:=λ_ _=>xG) hs (hi pins s σ H _ I h) (dM hN hi0 hy0)) (λ_ s' hq=>Ak (Ak hq)) λ_ _ e=>e)
end
end Nd
namespace Nd
open PySem L2
def yA(K:PySem.W.Frag):R2:=λx y H Q=>∃a b xs ys,x=.ref a/\y=.ref b/\Pe K H a xs/\Pe K H b ys/\xs.length+ys.length<=Be/\(xs=[]->Q (.ref b) H)/\(ys=[]->Q (.ref a) H)/\(∀p,H p=none->Q (.ref p) (upd H p (.tup (xs++ys))))
open PyProof.Rows in
theorem wK{X:Cx}:Rv X (Gj .Add) (yA X.K):=by
 intro pins s σ H x y v u Q I rx ry h
 obtain ⟨a,b,xs,ys,rfl,rfl,ha,hb,hz,q1,q3,q2⟩:=h
 by_cases hx:xs=[]
 ·cases rx
  cases ry
  obtain ⟨its,r1,p1,_⟩:=I.tuple ha
  obtain ⟨its2,r2,p2,_⟩:=I.tuple hb
  have e1:its=[]:=r1.nil_iff.mpr hx
  subst e1
  obtain ⟨⟨c1,d1,dt1,sl1⟩,g1,k1,n1,e1⟩:=id p1
  obtain ⟨⟨c2,d2,dt2,sl2⟩,g2,k2,n2,e2⟩:=id p2
  simp only at k1 e1 k2 e2
  subst k1 e1 k2 e2
  exact concat_meets ⟨_,g1,rfl⟩ ⟨_,g2,rfl⟩ cH seq_tuple_add PySem.F.slot_tuple_add PySem.F.entry_tuple_add (PySem.F.args_tuple_add_2 _ _)
   (tuple_addW0 a b _ _ n1 n2 d1 d2 sl1 sl2 rfl) ⟨g1,g2,⟨.ref b,H,I,rfl,q1 hx⟩⟩
 ·exact uL pins s σ H (.ref a) (.ref b) v u Q I rx ry ⟨a,b,xs,ys,rfl,rfl,ha,hb,hx,hz,q3,λ_=>q2⟩
theorem Yx:∀{l:List Int},l.Nodup->l.Pairwise (·<=·)->l.Pairwise (· < ·)
 | [],_,_=>.nil
 | a::l,n,p=>by
  obtain ⟨h1,q1⟩:=Av.mp p
  obtain ⟨m1,n1⟩:=Cg.mp n
  refine Av.mpr ⟨λb hb=>?_,Yx n1 q1⟩
  have:=h1 b hb
  have : a≠b:=λz=>m1 (by rw[z]; exact hb)
  omega
end Nd
namespace Nd
open PySem PySem.Spec PyProof.Rows L2
end Nd
namespace Nd
open PySem L2
def U2(K:PySem.W.Frag):List V->Hp->VK->Prop:=λxs H Q=>∃x n t b,xs=[x,.ty n]/\TyOf K H x t/\PySem.W.kitOne K t (.type n)=some b/\Q (.bl b) H
theorem qE{X:Cx}:Kg X (.builtin "isinstance") (U2 X.K):=fO
theorem t6{K:PySem.W.Frag}{T:String}:PySem.W.kitOne K (.type T) (.type T)=some true:=by
 unfold PySem.W.kitOne
 rw[if_pos (by simp)]
theorem sz{n:Nat}(h:n<=1000:=by first | decide | simp | (simp; omega)):n<=Be:=Hh (mF h)
end Nd
namespace DL
open PySem PySem.Spec PyProof.Rows L2 Nd
def B9(scope:Scope)(x:Str)(ys:List Str):Bool:=scope.names.all (λy=>decide (y.2≠.cell)) && decide (scope.kind=.function) && scope.names.all (λy=>decide (y.2=.local->scope.names.lookup y.1=some .local)) &&
 decide (scope.names.lookup x=some .local) && decide (x::ys).Nodup && ys.all (λy=>decide (scope.names.lookup y=some .free)) && scope.names.all (λy=>decide (y.2=.free->y.1∈ys))
section
variable{X:Cx}{scope:Scope}{x:Str}
theorem jY:∀{ys:List Str} {as:List Addr} {f:Str->Option Addr},ys.map f=as.map some->∀p∈ys.zip as,f p.1=some p.2
 | [],_,_,_=>λp h=>by simp at h
 | y::ys,[],_,h=>λp q=>by simp at q
 | y::ys,a::as,f,h=>λp q=>by
  rw[Au,Au,List.cons.injEq] at h
  rw[List.zip_cons_cons] at q
  rcases Ag.mp q with rfl | q
  ·exact h.1
  ·exact jY h.2 p q
theorem jT:∀{l:List (Str×Addr)} {y:Str},y∈l.map (·.1)->(l.lookup y).isSome=true
 | [],y,h=>by simp at h
 | p::l,y,h=>by
  rw[Bn]
  split
  ·rfl
  ·rename_i ne
   rcases Ag.mp h with rfl | h
   ·simp at ne
   ·exact jT h
theorem cs{ys:List Str}{as:List Addr}{js:List Nat}{cl:List (Str×Addr)}(e:cl=(ys.zip as).reverse)(h1:Xq scope X.env=pure cl)(hD:B9 scope x ys=true)(h2:ys.map (λy=>X.env.cells.lookup y)=as.map some)(h3:js.map (λj=>X.N[j]?)=ys.map some)(h4:ys.all (λy=>decide (X.env.kindOf y=some .cell\/X.env.kindOf y=some .free))=true):CompScope X scope cl x ys js:=by
 unfold B9 at hD
 simp only[Cp,Ej,decide_eq_true_eq] at hD
 obtain ⟨⟨⟨⟨⟨⟨c1,c2⟩,c3⟩,c4⟩,c5⟩,c6⟩,c7⟩:=hD
 have lj:ys.length=js.length:=by
  have:=congrArg Ff h3
  rw[Ac,Ac] at this
  exact this.symm
 have la:ys.length=as.length:=by
  have:=congrArg Ff h2
  rwa [Ac,Ac] at this
 refine ⟨h1,.inl c1,c2,c3,.inl c4,λy c h=>?_,List.all_eq_true.mpr λy hy=>?_,c5,lj,λk y j e1 e2=>⟨?_,c6 y (Ao e1),?_⟩⟩
 ·have m:=Ln h
  rw[e] at m
  exact jY h2 _ (List.mem_reverse.mp m)
 ·by_cases hf:y.2=.free
  ·have : (cl.lookup y.1).isSome=true:=by
    refine jT ?_
    rw[e,List.map_reverse,List.mem_reverse,List.map_fst_zip (by omega)]
    exact c7 y hy hf
   rw[this,Bool.or_true]
  ·have : (y.2 == Dr)=false:=by simpa using hf
   rw[this]; rfl
 ·have a:(js.map (λj=>X.N[j]?))[k]? = some (X.N[j]?):=by rw[Bf,e2]; rfl
  rw[h3,Bf,e1] at a
  exact (Bl a).symm
 ·have:=Ej.mp h4 y (Ao e1)
  exact of_decide_eq_true this
theorem R5(h1:Xq scope X.env=pure [])(hD:B9 scope x []=true):CompScope X scope [] x [] []:=cs (as:=[]) rfl h1 hD rfl rfl rfl
theorem yD(a0:Str)(j0:Nat){p0:Addr}(h1:Xq scope X.env=pure [(a0,p0)])(hD:B9 scope x [a0]=true)(h2:[a0].map (λy=>X.env.cells.lookup y)=[some p0])(h3:[j0].map (λj=>X.N[j]?)=[some a0])(h4:[a0].all (λy=>decide (X.env.kindOf y=some .cell\/X.env.kindOf y=some .free))=true):CompScope X scope [(a0,p0)] x [a0] [j0]:=cs (as:=[p0]) rfl h1 hD h2 h3 h4
theorem U5(a0 a1:Str)(j0 j1:Nat){p0 p1:Addr}(h1:Xq scope X.env=pure [(a1,p1),(a0,p0)])(hD:B9 scope x [a0,a1]=true)(h2:[a0,a1].map (λy=>X.env.cells.lookup y)=[some p0,some p1])(h3:[j0,j1].map (λj=>X.N[j]?)=[some a0,some a1])(h4:[a0,a1].all (λy=>decide (X.env.kindOf y=some .cell\/X.env.kindOf y=some .free))=true):CompScope X scope [(a1,p1),(a0,p0)] x [a0,a1] [j0,j1]:=cs (as:=[p0,p1]) rfl h1 hD h2 h3 h4
end
end DL
namespace Nd
open PySem PySem.Spec PyProof.Rows L2
theorem zL{K:PySem.W.Frag}{T n:String}{b:Bool}(h1:(Jd T == Jd n)=false)(h2:PySem.W.kitMeta n=true)(h3:(fastBuiltinMro T).map (λx=>x.contains (Jd n))=some b):PySem.W.kitOne K (.type T) (.type n)=some b:=by
 unfold PySem.W.kitOne PySem.W.kitCls
 rw[h1,if_neg (by decide)]
 dsimp only
 rw[if_pos h2]
 exact h3
theorem xN:∀{vs:List Value} {ns:List Int},Kx vs ns->Fc (ns.map V.int) vs
 | _,_,.nil=>.nil
 | _,_,.cons n t h=>.cons ⟨t,rfl⟩ (xN h)
section
variable{X:Cx}
def eL(K:PySem.W.Frag):List V->Hp->VK->Prop:=λxs H Q=>∃(a:Addr) (ns:List Int),xs=[.ref a]/\Om K H a (ns.map V.int)/\ns.length<64 /\
 ∀(p:Addr) (ms:List Int),H p=none->ms.Perm ns->ms.Pairwise (·<=·)->Q (.ref p) (upd H p (.lst (ms.map V.int)))
theorem bV:Kg X (.builtin "sorted") (eL X.K):=by
 intro pins s σ H xs us Q I r h
 obtain ⟨a,ns,rfl,hs,hl,q⟩:=h
 obtain ⟨u,rfl,ru⟩:=vals1 r
 cases ru
 obtain ⟨its,rv,p,hz⟩:=I.list hs
 have len:its.length<64:=by rw[<- rv.length,Ac]; exact hl
 refine sorted_ints p.isList (intsAre_of rv) len λout ms a1 a2 a3=>?_
 obtain ⟨e,he⟩:=sortedAll_at s.heap its out
 have ml:ms.length<64:=by rw[a2.length_eq]; exact hl
 exact ⟨.ref (s.heap.objs.size+1),_,I.laid (t':=s.toks) (o:=.lst (ms.map V.int)) (λ_ _=>sortedAll_old) (Nat.le_succ _) ⟨by rw[Ac,Gi]; omega,out.toList,e,xN a1,by simpa using he⟩,rfl,q _ ms (I.hok.fresh (Nat.le_succ _)) a2 a3⟩
end
end Nd
namespace NdS
open PySem
theorem cZ{mask finger moves:Nat}{led plain:Bool}{hs:Array Int}{t:Bx}{order:Array Nat}(h:Gx mask finger moves led plain hs=some (t,order)):t.led=led/\t.mask=mask/\t.plain=plain/\t.dummies=#[]:=by
 unfold Gx at h
 cases hl:Mi mask hs with
 | none=>rw[hl] at h; cases h
 | some owner =>
  rw[hl] at h
  cases h
  exact ⟨rfl,rfl,rfl,rfl⟩
def st(m i:Nat):Nat:=(i * 5+1) % m
def it(m:Nat):Nat->Nat->Nat
 | 0,i=>i
 | t+1,i=>it m t (st m i)
theorem aV(m:Nat):∀(a b i:Nat),it m (a+b) i=it m b (it m a i)
 | 0,b,i=>by rw[Nat.zero_add]; rfl
 | a+1,b,i=>by rw[Nat.add_right_comm]; exact aV m a b (st m i)
def M9(m:Nat):Nat->Nat->List Nat
 | 0,_=>[]
 | f+1,i=>i::M9 m f (st m i)
theorem bM{m:Nat}:∀{f i e:Nat},e∈M9 m f i->∃t,t<f/\it m t i=e
 | 0,_,_,h=>by cases h
 | f+1,i,e,h=>by
  rcases Ag.mp h with z | z
  ·exact ⟨0,Vm _,z.symm⟩
  ·obtain ⟨t,h1,h2⟩:=bM z
   exact ⟨t+1,Nat.succ_lt_succ h1,h2⟩
def Lq(m:Nat):Prop:=0<m/\it m m 0=0/\∀e,e<m->e∈M9 m m 0
theorem Mz{m:Nat}(h0:0<m)(h1:(it m m 0 == 0)=true)(h2:((Bi m).all λe=>(M9 m m 0).contains e)=true):Lq m :=
 ⟨h0,by simpa using h1,λe he=>by
  have:=Ej.mp h2 e (Dz.mpr he)
  simpa using this⟩
theorem xZ:Lq 8:=Mz (by decide) (by decide +kernel) (by decide +kernel)
theorem zK:Lq 16:=Mz (by decide) (by decide +kernel) (by decide +kernel)
theorem yZ:Lq 32:=Mz (by decide) (by decide +kernel) (by decide +kernel)
theorem u5:Lq 64:=Mz (by decide) (by decide +kernel) (by decide +kernel)
theorem uZ:Lq 128:=Mz (by decide) (by decide +kernel) (by decide +kernel)
theorem vZ:Lq 256:=Mz (by decide) (by decide +kernel) (by decide +kernel)
theorem J3{m:Nat}(g:Lq m){i e:Nat}(hi:i<m)(he:e<m):∃t,t<m/\it m t i=e:=by
 obtain ⟨h0,h1,h2⟩:=g
 obtain ⟨a,ha,ea⟩:=bM (h2 i hi)
 obtain ⟨b,hb,eb⟩:=bM (h2 e he)
 by_cases hab:a<=b
 ·refine ⟨b - a,by omega,?_⟩
  rw[<- ea,<- aV,Nat.add_sub_cancel' hab]
  exact eb
 ·refine ⟨b+m - a,by omega,?_⟩
  rw[<- ea,<- aV,show a+(b+m - a)=m+b by omega,aV,h1]
  exact eb
def lp(m:Nat):Nat->Nat->Nat->Nat×Nat
 | 0,i,p=>(i,p)
 | t+1,i,p=>lp m t ((i * 5+1+p / 32) % m) (p / 32)
theorem pW(m:Nat):∀(a b i p:Nat),lp m (a+b) i p=lp m b (lp m a i p).1 (lp m a i p).2
 | 0,b,i,p=>by rw[Nat.zero_add]; rfl
 | a+1,b,i,p=>by rw[Nat.add_right_comm]; exact pW m a b _ _
theorem lA(m:Nat):∀(t i:Nat),lp m t i 0=(it m t i,0)
 | 0,_=>rfl
 | t+1,i=>lA m t (st m i)
theorem dA{m:Nat}:∀(n i p:Nat),p<32 ^ n->(lp m n i p).2=0
 | 0,i,p,h=>by show p=0; simpa using h
 | n+1,i,p,h=>dA n _ _ (by rw[Nat.pow_succ] at h; exact Nat.div_lt_of_lt_mul (by omega))
theorem yC{m:Nat}(h0:0<m):∀(n i p:Nat),i<m->(lp m n i p).1<m
 | 0,i,p,h=>h
 | n+1,i,p,h=>yC h0 n _ _ (Pp _ h0)
theorem fB{m:Nat}(g:Lq m){i p e:Nat}(hi:i<m)(hp:p<2 ^ 64)(he:e<m):∃t,t<m+14/\(lp m t i p).1=e:=by
 have h13:=dA (m:=m) 13 i p (Bu hp (by decide))
 obtain ⟨t,ht,e1⟩:=J3 g (yC g.1 13 i p hi) he
 refine ⟨13+t,by omega,?_⟩
 rw[pW,h13,lA]
 exact e1
theorem Te(mask i:Nat):i<=Fq mask i:=by unfold Fq; split <;> omega
theorem Zg{mask:Nat}{owner:Array (Option Nat)}:∀(fuel i p t:Nat),t<fuel->(owner.getD (lp (mask+1) t i p).1 (some 0)).isNone=true->∃j,Ig mask owner fuel i p=some j/\(owner.getD j (some 0)).isNone=true
 | 0,_,_,_,h,_=>absurd h (Fx _)
 | fuel+1,i,p,t,h,hn=>by
  unfold Ig
  split
  ·rename_i k hk
   exact ⟨i+k,rfl,by have:=Pr hk; exact this⟩
  ·rename_i hk
   rw[List.find?_eq_none] at hk
   cases t with
   | zero =>
    have:=hk 0 (Dz.mpr (by have:=Te mask i; omega))
    exact absurd hn (by simpa [lp] using this)
   | succ t =>
    exact Zg fuel _ _ t (by omega) hn
theorem Qr{L:List (Option Nat)}:∀{j x:Nat},L[j]? = some none->((L.set j (some x)).filterMap id).Perm (x::L.filterMap id):=by
 induction L with
 | nil=>intro j x h; simp at h
 | cons a L ih =>
  intro j x h
  cases j with
  | zero =>
   simp at h
   subst h
   simp
  | succ j =>
   have h':L[j]? = some none:=by simpa using h
   have:=ih (x:=x) h'
   cases a with
   | none=>simpa using this
   | some b=>simpa using (Gc b this).trans (Do x b _)
theorem mB{L:List (Option Nat)}:(L.filterMap id).length<L.length->∃j:Nat,L[j]? = some none:=by
 induction L with
 | nil=>intro h; simp at h
 | cons a L ih =>
  intro h
  cases a with
  | none=>exact ⟨0,rfl⟩
  | some b =>
   have : (L.filterMap id).length<L.length:=by simpa using h
   obtain ⟨j,hj⟩:=ih this
   exact ⟨j+1,by simpa using hj⟩
theorem kW(h:Int):Cm h<2 ^ 64:=by
 unfold Cm
 have h1:=Int.emod_nonneg h (show (2 ^ 64:Int)≠0 by decide)
 have h2:=Int.emod_lt_of_pos h (show (0:Int)<2 ^ 64 by decide)
 omega
def zF(mask:Nat)(acc:Option (Array (Option Nat)×Nat))(h:Int):Option (Array (Option Nat)×Nat):=do
 let (owner,k) <- acc
 let j <- Ig mask owner (Fp mask) (Cm h % (mask+1)) (Cm h)
 pure (owner.setIfInBounds j (some k),k+1)
theorem fF{mask:Nat}(g:Lq (mask+1)):∀(hs:List Int) (owner:Array (Option Nat)) (n:Nat),owner.size=mask+1->(owner.toList.filterMap id).Perm (Bi n)->n+hs.length<=mask->∃owner':Array (Option Nat),hs.foldl (zF mask) (some (owner,n))=some (owner',n+hs.length)/\owner'.size=mask+1/\(owner'.toList.filterMap id).Perm (Bi (n+hs.length))
 | [],owner,n,h1,h2,_=>⟨owner,rfl,h1,h2⟩
 | h::hs,owner,n,h1,h2,h3=>by
  rw[Bo] at h3
  have len:(owner.toList.filterMap id).length=n:=by rw[h2.length_eq,Bq]
  obtain ⟨e,he⟩:=mB (L:=owner.toList) (by rw[len,Bc]; omega)
  have he':e<mask+1:=by
   have:=(Aw.mp he).1
   rw[Bc] at this
   omega
  obtain ⟨t,ht,et⟩:=fB g (i:=Cm h % (mask+1)) (p:=Cm h) (e:=e) (Pp _ g.1) (kW h) he'
  have hn:(owner.getD (lp (mask+1) t (Cm h % (mask+1)) (Cm h)).1 (some 0)).isNone=true:=by
   rw[et,Lx,<- Kl,he]
   rfl
  obtain ⟨j,ej,hj⟩:=Zg (mask:=mask) (owner:=owner) (Fp mask) _ _ t (by unfold Fp; omega) hn
  have hj':owner.toList[j]? = some none:=by
   rw[Lx,<- Kl] at hj
   cases q:owner.toList[j]? with
   | none=>rw[q] at hj; simp at hj
   | some v =>
    rw[q] at hj
    cases v with
    | none=>rfl
    | some v=>simp at hj
  have e1:zF mask (some (owner,n)) h=some (owner.setIfInBounds j (some n),n+1):=by
   show (do
    let j <- Ig mask owner (Fp mask) (Cm h % (mask+1)) (Cm h)
    pure (owner.setIfInBounds j (some n),n+1))=_
   rw[ej]
   rfl
  rw[List.foldl_cons,e1]
  have p1:((owner.setIfInBounds j (some n)).toList.filterMap id).Perm (Bi (n+1)):=by
   rw[Array.toList_setIfInBounds]
   refine (Qr hj').trans ?_
   rw[Pq]
   exact (Gc n h2).trans (Hq (l₁:=[n]) (l₂:=Bi n))
  obtain ⟨o',q1,q2,q3⟩:=fF g hs (owner.setIfInBounds j (some n)) (n+1) (by rw[Array.size_setIfInBounds]; exact h1) p1 (by omega)
  refine ⟨o',?_,q2,?_⟩
  ·rw[q1,Bo]
   congr 2
   omega
  ·rw[Bo,show n+(hs.length+1)=n+1+hs.length by omega]
   exact q3
theorem eV{mask:Nat}(g:Lq (mask+1))(hs:Array Int)(hl:hs.size<=mask):∃owner:Array (Option Nat),Mi mask hs=some owner/\owner.size=mask+1/\(owner.toList.filterMap id).Perm (Bi hs.size):=by
 have h0:((Array.replicate (mask+1) (none:Option Nat)).toList.filterMap id).Perm (Bi 0):=by
  rw[Array.toList_replicate]
  simp
 obtain ⟨o,h1,h2,h3⟩:=fF g hs.toList (Array.replicate (mask+1) none) 0 (by simp) h0 (by simpa using hl)
 rw[Bc,Nat.zero_add] at h1 h3
 refine ⟨o,?_,h2,h3⟩
 unfold Mi
 rw[<- Array.foldl_toList]
 show (hs.toList.foldl (zF mask) (some (Array.replicate (mask+1) none,0))).map (·.1)=some o
 rw[h1]
 rfl
theorem gJ(owner:Array (Option Nat)):((Bi owner.size).filterMap λj=>(owner.getD j none).map λx=>(j,x)).map (·.2)=owner.toList.filterMap id:=by
 obtain ⟨L⟩:=owner
 simp only[Aq]
 have h:∀(L:List (Option Nat)) (pre:List (Option Nat)),((List.range' pre.length L.length).filterMap λj=>(((pre++L)[j]?).getD none).map λx=>(j,x)).map (·.2)=L.filterMap id:=by
  intro L
  induction L with
  | nil=>intro pre; rfl
  | cons a L ih =>
   intro pre
   rw[Bo,List.range'_succ,Iy]
   have e:((pre++a::L)[pre.length]?).getD none=a:=by simp
   have ih':=ih (pre++[a])
   rw[Ax,Ee,Dn,List.singleton_append] at ih'
   cases a with
   | none =>
    simp only[e,Option.map_none,List.filterMap_cons_none,id]
    exact ih'
   | some b =>
    simp only[e,Option.map_some,Au,List.filterMap_cons_some,id]
    rw[ih']
    simp
 have:=h L []
 rw[List.length_nil,<- List.range_eq_range',List.nil_append] at this
 rw[<- this]
 congr 1
 congr 1
 funext j
 rw[Lx]
 simp
theorem uY{mask finger moves:Nat}{led plain:Bool}(g:Lq (mask+1))(hs:Array Int)(hl:hs.size<=mask):∃(t:Bx) (order:Array Nat),Gx mask finger moves led plain hs=some (t,order)/\order.toList.Perm (Bi hs.size)/\t.fits hs.size=true/\t.led=led:=by
 obtain ⟨o,h1,h2,h3⟩:=eV g hs hl
 have e:Gx mask finger moves led plain hs=some ({ mask:=mask,place:=(((Bi (mask+1)).filterMap λj=>(o.getD j none).map λx=>(j,x)).map (·.1)).toArray,dummies:=#[],finger:=finger,led:=led,moves:=moves,plain:=plain },
   (((Bi (mask+1)).filterMap λj=>(o.getD j none).map λx=>(j,x)).map (·.2)).toArray):=by
  unfold Gx
  rw[h1]
  rfl
 have lo:=gJ o
 rw[h2] at lo
 have len:((Bi (mask+1)).filterMap λj=>(o.getD j none).map λx=>(j,x)).length=hs.size:=by
  have:=congrArg Ff lo
  rw[Ac,h3.length_eq,Bq] at this
  exact this
 refine ⟨_,_,e,by rw[List.toList_toArray,lo]; exact h3,?_,rfl⟩
 simp only[SetTable.fits,Mr,Aq,Ac,len,Cp,beq_self_eq_true,true_and,decide_eq_true_eq]
 show hs.size+0<=mask
 omega
theorem iX{α:Type}(es:Array α){order:Array Nat}(p:order.toList.Perm (Bi es.size)):(order.filterMap (es[·]?)).toList.Perm es.toList/\(order.filterMap (es[·]?)).size=es.size:=by
 have e:(order.filterMap (es[·]?)).toList.Perm es.toList:=by
  rw[Array.toList_filterMap]
  have:=p.filterMap (es[·]?)
  rw[filterMap_getElem?_range] at this
  exact this
 exact ⟨e,by rw[<- Bc,e.length_eq,Bc]⟩
theorem Ov{n:Nat}(h:n<256):∃m,Cw n=m+1/\Lq (m+1)/\n<=m:=by
 have key:∀k:Fin 256,(Cw k.1 == 8 && decide (k.1<8)) || (Cw k.1 == 16 && decide (k.1<16)) || (Cw k.1 == 32 && decide (k.1<32)) || (Cw k.1 == 64 && decide (k.1<64)) || (Cw k.1 == 128 && decide (k.1<128)) || (Cw k.1 == 256 && decide (k.1<256))=true:=by decide +kernel
 have q:=key ⟨n,h⟩
 simp only[Bool.or_eq_true,Cp,beq_iff_eq,decide_eq_true_eq] at q
 rcases q with ((((q | q) | q) | q) | q) | q
 ·exact ⟨7,q.1,xZ,by omega⟩
 ·exact ⟨15,q.1,zK,by omega⟩
 ·exact ⟨31,q.1,yZ,by omega⟩
 ·exact ⟨63,q.1,u5,by omega⟩
 ·exact ⟨127,q.1,uZ,by omega⟩
 ·exact ⟨255,q.1,vZ,by omega⟩
abbrev aM(p:Array Nat):Prop:=p.toList.Pairwise (· < ·)
theorem Pj{p:Array Nat}(r:aM p){i j:Nat}(h:i<j)(hj:j<p.size):p[i]'(by omega)<p[j]:=by
 have:=List.pairwise_iff_getElem.mp r i j (by rw[Bc]; omega) (by rw[Bc]; exact hj) h
 simpa using this
structure Below(p:Array Nat)(j b:Nat):Prop where
 le:b<=p.size
 lo:∀i (h:i<p.size),i<b->p[i]<j
 hi:∀i (h:i<p.size),b<=i->j<=p[i]
theorem We{p:Array Nat}{j:Nat}(r:aM p):∀(fuel lo hi:Nat),hi<=p.size->lo<=hi->hi - lo<=fuel->(∀i (h:i<p.size),i<lo->p[i]<j)->(∀i (h:i<p.size),hi<=i->j<=p[i])->Below p j (Pc p j fuel lo hi)
 | 0,lo,hi,h1,h2,h3,h4,h5=>by
  unfold Pc
  have e:lo=hi:=by omega
  exact ⟨by omega,λi h hl=>h4 i h hl,λi h hl=>h5 i h (by omega)⟩
 | fuel+1,lo,hi,h1,h2,h3,h4,h5=>by
  unfold Pc
  split
  ·rename_i hl
   have hm:(lo+hi) / 2<p.size:=by omega
   have e:p.getD ((lo+hi) / 2) j=p[(lo+hi) / 2]:=by simp [Array.getD,hm]
   dsimp only
   rw[e]
   split
   ·rename_i hc
    refine We r fuel _ hi h1 (by omega) (by omega) (λi h hi'=>?_) h5
    by_cases z:i=(lo+hi) / 2
    ·subst z; exact hc
    ·exact Vp (Pj r (show i<(lo+hi) / 2 by omega) hm) hc
   ·rename_i hc
    refine We r fuel lo _ (by omega) (by omega) (by omega) h4 (λi h hi'=>?_)
    by_cases z:i=(lo+hi) / 2
    ·subst z; omega
    ·exact Bk (by omega) (Hh (Pj r (show (lo+hi) / 2<i by omega) h))
  ·exact ⟨by omega,λi h hl=>h4 i h hl,λi h hl=>h5 i h (by omega)⟩
theorem Rb{p:Array Nat}(r:aM p)(j:Nat):Below p j (By p j) :=
 We r _ _ _ (An _) (Dv _) (by omega) (λi h hl=>absurd hl (Fx _)) (λi h hl=>absurd hl (by omega))
theorem Below.eq{p:Array Nat}{j b b':Nat}(x:Below p j b)(y:Below p j b'):b=b':=by
 rcases Nat.lt_trichotomy b b' with z | z | z
 ·have h:b<p.size:=Bu z y.le
  exact absurd (y.lo b h z) (Nat.not_lt.mpr (x.hi b h (An _)))
 ·exact z
 ·have h:b'<p.size:=Bu z x.le
  exact absurd (x.lo b' h z) (Nat.not_lt.mpr (y.hi b' h (An _)))
theorem eZ{p:Array Nat}(r:aM p):By p 0=0 :=
 (Rb r 0).eq ⟨Dv _,λi h hl=>absurd hl (Fx _),λi h _=>Dv _⟩
theorem gH{p:Array Nat}(r:aM p){i:Nat}(h:i<p.size):By p (p[i]+1)=i+1 :=
 (Rb r _).eq ⟨h,λk hk hl=>by
  by_cases z:k=i
  ·subst z; exact Xs _
  ·exact Vq (Pj r (show k<i by omega) h),λk hk hl=>Pj r (show i<k by omega) hk⟩
structure TabOk(n:Nat)(t:Bx):Prop where
 good:Lq (t.mask+1)
 dum:t.dummies=#[]
 plain:t.plain=true
 rise:aM t.place
 top:∀j∈t.place.toList,j<=t.mask
 size:t.place.size=n
structure Tab(n:Nat)(t:Bx):Prop extends TabOk n t where
 room:n * 5<t.mask * 3
theorem aI{t:Bx}{n:Nat}(x:Tab n t):n+1<=t.mask:=by have:=x.room; omega
theorem TabOk.fits{t:Bx}{n:Nat}(x:TabOk n t)(h:n<=t.mask):t.fits n=true:=by
 simp only[SetTable.fits,Mr,x.dum,x.size,Cp,beq_self_eq_true,true_and,decide_eq_true_eq]
 show n+0<=t.mask
 omega
theorem Tab.fits{t:Bx}{n:Nat}(x:Tab n t):t.fits n=true:=x.toTabOk.fits (by have:=aI x; omega)
theorem Qt{t:Bx}{n j:Nat}(x:TabOk n t):t.slot j=.empty↔j∉t.place.toList:=by
 have nd:SetTable.has t.dummies j=false:=by rw[x.dum]; rfl
 unfold SetTable.slot
 dsimp only
 rw[nd]
 constructor
 ·intro h hm
  obtain ⟨i,hi,e⟩:=List.mem_iff_getElem.mp hm
  rw[Bc] at hi
  have e':t.place[i]=j:=by simpa using e
  have b:By t.place j=i:=(Rb x.rise j).eq ⟨Hh hi,λk hk hl=>by rw[<- e']; exact Pj x.rise hl hi,λk hk hl=>by
   by_cases z:i=k
   ·subst z; exact Nat.le_of_eq e'.symm
   ·rw[<- e']; exact Hh (Pj x.rise (show i<k by omega) hk)⟩
  rw[b,Fv hi,e',if_pos (by simp)] at h
  cases h
 ·intro h
  rw[if_neg (λz=>h ?_)]
  ·rfl
  ·have z':t.place[By t.place j]? = some j:=by simpa using z
   have:=Array.mem_of_getElem? z'
   exact Array.mem_def.mp this
theorem Vy{t:Bx}{n j:Nat}(x:TabOk n t):t.slot j≠.dummy:=by
 have nd:SetTable.has t.dummies j=false:=by rw[x.dum]; rfl
 unfold SetTable.slot
 dsimp only
 rw[nd]
 split
 ·intro h; cases h
 ·intro h; cases h
theorem Yu{mask i:Nat}(h:i<=mask):Fq mask i<=mask:=by unfold Fq; split <;> omega
theorem Ph(mask i:Nat):Fq mask i - i<=9:=by unfold Fq; split <;> omega
theorem uE(mask i p:Nat):SetTable.leap mask i p=((i * 5+1+p / 32) % (mask+1),p / 32):=rfl
theorem Wr{t:Bx}{n:Nat}{h:Int}(x:TabOk n t):∀(fuel u:Nat) (p:SetTable.Probe),p.more<=9->p.j+p.more<=t.mask->p.dummy=none->p.more+2+10 * u<=fuel->t.slot (lp (t.mask+1) (u+1) p.i p.perturb).1=.empty->∃j,Kv t (λ_=>h+1) h fuel p=some (.empty j none)/\t.slot j=.empty/\j<=t.mask
 | 0,u,p,_,_,_,h3,_=>absurd h3 (by omega)
 | fuel+1,u,p,h1,h2,hd,h3,h4=>by
  unfold Kv
  split
  ·rename_i hs
   exact ⟨p.j,by rw[hd],hs,by omega⟩
  ·rename_i hs
   exact absurd hs (Vy x)
  ·rw[if_neg (by simp; omega)]
   unfold SetTable.advance
   split
   ·rename_i hm
    exact Wr x fuel u _ (by dsimp only; omega) (by dsimp only; omega) hd (by dsimp only; omega) h4
   ·rename_i hm
    rw[uE]
    dsimp only
    have hi:(p.i * 5+1+p.perturb / 32) % (t.mask+1)<=t.mask:=Zy.mp (Pp _ (Vm _))
    cases u with
    | zero =>
     cases fuel with
     | zero=>omega
     | succ fuel =>
      unfold Kv
      dsimp only
      have h4':t.slot ((p.i * 5+1+p.perturb / 32) % (t.mask+1))=.empty:=h4
      rw[h4']
      exact ⟨_,by rw[hd],h4',hi⟩
    | succ u =>
     refine Wr x fuel u _ (Ph _ _) ?_ hd ?_ h4
     ·dsimp only
      have:=Yu hi
      have:=Te t.mask ((p.i * 5+1+p.perturb / 32) % (t.mask+1))
      omega
     ·dsimp only
      have:=Ph t.mask ((p.i * 5+1+p.perturb / 32) % (t.mask+1))
      omega
theorem oS:∀{l1 l2:List Nat},l1.Nodup->(∀e∈l1,e∈l2)->l1.length<=l2.length
 | [],_,_,_=>Dv _
 | a::l1,l2,nd,h=>by
  have nd':=Cg.mp nd
  have ha:=h a (Aa ..)
  have:=oS (l2:=l2.erase a) nd'.2 λe he=>(List.mem_erase_of_ne (show e≠a from λz=>nd'.1 (by rw[<- z]; exact he))).mpr (h e (Ab _ he))
  rw[gB ha] at this
  have p:0<l2.length:=iY ha
  rw[Bo]
  omega
theorem vB{m:Nat}{l:List Nat}(nd:l.Pairwise (· < ·))(h:l.length<m):∃e,e<m/\e∉l:=by
 refine Ib λz=>?_
 have all:∀e,e∈Bi m->e∈l:=λe he=>Ib λq=>z ⟨e,Dz.mp he,q⟩
 have:=oS List.nodup_range all
 rw[Bq] at this
 omega
theorem fK{t:Bx}{n:Nat}(x:Tab n t)(h:Int):∃j,t.freeSlot h=some (j,false)/\j∉t.place.toList/\j<=t.mask:=by
 have hm:=aI x
 obtain ⟨e,he,hn⟩:=vB (m:=t.mask+1) x.rise (by rw[Bc,x.size]; omega)
 obtain ⟨u,hu,eu⟩:=fB x.good (i:=Cm h % (t.mask+1)) (p:=Cm h) (e:=e) (Pp _ (Vm _)) (kW h) he
 have hi:Cm h % (t.mask+1)<=t.mask:=Zy.mp (Pp _ (Vm _))
 have key:∃j,t.probe (λ_=>h+1) h (t.probeStart h)=some (.empty j none)/\t.slot j=.empty/\j<=t.mask:=by
  unfold SetTable.probe
  cases u with
  | zero =>
   have e0:t.slot (Cm h % (t.mask+1))=.empty:=(Qt x.toTabOk).mpr (by rw[show Cm h % (t.mask+1)=e from eu]; exact hn)
   obtain ⟨f,hf⟩ : ∃f,10 * Fp t.mask=f+1:=⟨10 * Fp t.mask - 1,by unfold Fp; omega⟩
   rw[hf]
   unfold Kv
   have e0':t.slot (t.probeStart h).j=.empty:=e0
   rw[e0']
   exact ⟨_,rfl,e0',hi⟩
  | succ u =>
   refine Wr x.toTabOk _ u (t.probeStart h) (Ph _ _) ?_ rfl ?_ ?_
   ·have:=Yu hi
    have:=Te t.mask (Cm h % (t.mask+1))
    show Cm h % (t.mask+1)+(Fq t.mask (Cm h % (t.mask+1)) - Cm h % (t.mask+1))<=t.mask
    omega
   ·have:=Ph t.mask (Cm h % (t.mask+1))
    show Fq t.mask (Cm h % (t.mask+1)) - Cm h % (t.mask+1)+2+10 * u<=10 * Fp t.mask
    unfold Fp
    omega
   ·exact (Qt x.toTabOk).mpr (by rw[show (lp (t.mask+1) (u+1) (t.probeStart h).i (t.probeStart h).perturb).1=e from eu]; exact hn)
 obtain ⟨j,h1,h2,h3⟩:=key
 refine ⟨j,?_,(Qt x.toTabOk).mp h2,h3⟩
 unfold SetTable.freeSlot
 rw[h1]
 rfl
theorem eH{p:Array Nat}(r:aM p){j:Nat}(h:j∉p.toList):aM (Ez p (By p j) j):=by
  have b:=Rb r j
  show (Ez p (By p j) j).toList.Pairwise (· < ·)
  rw[SetTable.toList_insertAt]
  have r1:(p.toList.take (By p j)).Pairwise (· < ·):=r.sublist (Fz _ _)
  have r2:(p.toList.drop (By p j)).Pairwise (· < ·):=r.sublist (List.drop_sublist _ _)
  have lo:∀e∈p.toList.take (By p j),e<j:=λe he=>by
    obtain ⟨i,hi,ei⟩:=List.mem_take_iff_getElem.mp he
    rw[Bc] at hi
    have:=b.lo i (by omega) (by omega)
    rw[<- ei]
    simpa using this
  have hi:∀e∈p.toList.drop (By p j),j<e:=λe he=>by
    have hm:e∈p.toList:=List.mem_of_mem_drop he
    obtain ⟨i,hi,ei⟩:=List.mem_drop_iff_getElem.mp he
    rw[Bc] at hi
    have:=b.hi (i+By p j) (by omega) (by omega)
    have e1:j<=e:=by
      rw[<- ei]
      simpa [Nat.add_comm] using this
    exact Nat.lt_of_le_of_ne e1 λz=>h (by rw[z]; exact hm)
  simp only[List.pairwise_append,List.pairwise_cons,Ag,Ay]
  first
    | exact ⟨r1,⟨hi,r2⟩,λa ha c hc=>by
        rcases hc with z | z
        · rw[z]; exact lo a ha
        · exact Vp (lo a ha) (hi c z)⟩
    | (refine ⟨⟨r1,⟨by simp,Dq⟩,λa ha c hc=>?_⟩,r2,λa ha c hc=>?_⟩
       · have z:c=j:=by simpa using hc
         rw[z]; exact lo a ha
       · rcases ha with z | z | z
         · exact Vp (lo a z) (hi c hc)
         · rw[z]; exact hi c hc
         · cases z)
theorem yM{t:Bx}{es:Array (Int×Value)}(x:Tab es.size t)(h:Int)(v:Value):∃(es1:Array (Int×Value)) (t1:Bx),layNew t es h v=(es1,t1,false,false)/\es1.toList.Perm (es.toList++[(h,v)])/\es1.size=es.size+1/\TabOk es1.size t1/\t1.mask=t.mask/\t1.led=t.led:=by
 obtain ⟨j,h1,h2,h3⟩:=fK x h
 have hm:=aI x
 have perm:=cD es (By t.place j) (h,v)
 rw[Um] at perm
 have size:(Ez es (By t.place j) (h,v)).size=es.size+1:=by
  rw[<- Bc,perm.length_eq,Ax,Bc]
  rfl
 have p2:=cD t.place (By t.place j) j
 rw[Um] at p2
 have size2:(Ez t.place (By t.place j) j).size=es.size+1:=by
  rw[<- Bc,p2.length_eq,Ax,Bc,x.size]
  rfl
 have nd:SetTable.has t.dummies j=false:=by rw[x.dum]; rfl
 have ok:TabOk (es.size+1) { t with place:=Ez t.place (By t.place j) j } :=
  ⟨x.good,x.dum,x.plain,eH x.rise h2,λe he=>by
   rcases Ay.mp (p2.mem_iff.mp he) with z | z
   ·exact x.top e z
   ·rw[Aj.mp z]; exact h3,size2⟩
 refine ⟨_,{ t with place:=Ez t.place (By t.place j) j },?_,perm,size,by rw[size]; exact ok,rfl,rfl⟩
 have f:({ t with place:=Ez t.place (By t.place j) j }:Bx).fits (Ez es (By t.place j) (h,v)).size=true:=by
  rw[size]
  exact ok.fits (by omega)
 unfold layNew
 rw[h1]
 simp only[SetTable.put,nd,Ud,if_false,SetTable.orStandIn,f,if_true,Bool.not_true]
theorem lS{mask finger moves:Nat}{led plain:Bool}{hs:Array Int}{t:Bx}{order:Array Nat}(h:Gx mask finger moves led plain hs=some (t,order)):aM t.place/\(∀j∈t.place.toList,j<=mask):=by
 unfold Gx at h
 cases hl:Mi mask hs with
 | none=>rw[hl] at h; cases h
 | some owner =>
  rw[hl] at h
  cases h
  have sub:∀(l:List Nat),l.Pairwise (· < ·)->(((l.filterMap λj=>(owner.getD j none).map λx=>(j,x)).map (·.1)).Pairwise (· < ·))/\∀j∈((l.filterMap λj=>(owner.getD j none).map λx=>(j,x)).map (·.1)),j∈l:=by
   intro l hl
   have m:∀j∈((l.filterMap λj=>(owner.getD j none).map λx=>(j,x)).map (·.1)),j∈l:=λj hj=>by
    obtain ⟨q,hq,rfl⟩:=Bv.mp hj
    obtain ⟨k,hk,ek⟩:=Ua.mp hq
    cases hg:owner.getD k none with
    | none=>rw[hg] at ek; cases ek
    | some v=>rw[hg] at ek; cases ek; exact hk
   refine ⟨?_,m⟩
   clear m
   induction l with
   | nil=>exact Dq
   | cons a l ih =>
    have hl':=Av.mp hl
    have ih':=ih hl'.2
    rw[Iy]
    cases hg:owner.getD a none with
    | none=>simpa [hg] using ih'
    | some v =>
     simp only[Option.map_some,Au,List.pairwise_cons]
     refine ⟨λj hj=>?_,ih'⟩
     obtain ⟨q,hq,rfl⟩:=Bv.mp hj
     obtain ⟨k,hk,ek⟩:=Ua.mp hq
     cases hg2:owner.getD k none with
     | none=>rw[hg2] at ek; cases ek
     | some v2=>rw[hg2] at ek; cases ek; exact hl'.1 k hk
  obtain ⟨s1,s2⟩:=sub (Bi (mask+1)) List.pairwise_lt_range
  exact ⟨s1,λj hj=>Zy.mp (Dz.mp (s2 j hj))⟩
theorem fT{mask finger moves:Nat}{led:Bool}(g:Lq (mask+1))(hs:Array Int)(hl:hs.size * 5<mask * 3):∃(t:Bx) (order:Array Nat),Gx mask finger moves led true hs=some (t,order)/\order.toList.Perm (Bi hs.size)/\Tab hs.size t/\t.led=led:=by
 obtain ⟨t,order,h1,h2,h3,h4⟩:=uY (finger:=finger) (moves:=moves) (led:=led) (plain:=true) g hs (by omega)
 obtain ⟨l1,l2,l3,l4⟩:=cZ h1
 obtain ⟨r1,r2⟩:=lS h1
 have sz:t.place.size=hs.size:=by
  have:=h3
  simp only[SetTable.fits,Cp,beq_iff_eq] at this
  exact this.1
 exact ⟨t,order,h1,h2,⟨⟨by rw[l2]; exact g,l4,l3,r1,by rw[l2]; exact r2,sz⟩,by rw[l2]; exact hl⟩,l1⟩
theorem dR{t:Bx}{es:Array (Int×Value)}{wanted:Nat}(hp:t.plain=true)(hw:wanted<256)(h2:es.size * 2<=wanted):∃(t':Bx) (order:Array Nat),t.relaid (es.map (·.1)) wanted=some (t',order)/\order.toList.Perm (Bi es.size)/\Tab es.size t'/\t'.led=t.led:=by
 obtain ⟨m,e1,g,hm⟩:=Ov hw
 have sz:(es.map (·.1)).size=es.size:=Array.size_map ..
 have m7:7<=m:=by
  have : 8<=Cw wanted:=by
   have key:∀k:Fin 256,decide (8<=Cw k.1)=true:=by decide +kernel
   exact of_decide_eq_true (key ⟨wanted,hw⟩)
  omega
 obtain ⟨t',order,q1,q2,q3,q4⟩:=fT (mask:=m) (finger:=t.finger) (moves:=t.movedTo m) (led:=t.led) g (es.map (·.1)) (by rw[sz]; omega)
 rw[sz] at q2 q3
 refine ⟨t',order,?_,q2,q3,q4⟩
 unfold SetTable.relaid
 rw[e1,Nat.add_sub_cancel,hp]
 exact q1
theorem dG{t:Bx}{es:Array (Int×Value)}(hp:t.plain=true)(hn:es.size<64):∃(es':Array (Int×Value)) (t':Bx),relayAll t es (SetTable.grown es.size)=(es',t',false)/\es'.toList.Perm es.toList/\es'.size=es.size/\Tab es'.size t'/\t'.led=t.led:=by
 have gr:SetTable.grown es.size=es.size * 4:=by unfold SetTable.grown; rw[if_neg (by omega)]
 obtain ⟨t',order,q1,q2,q3,q4⟩:=dR (t:=t) (es:=es) (wanted:=es.size * 4) hp (by omega) (by omega)
 obtain ⟨p1,p2⟩:=iX es q2
 refine ⟨order.filterMap (es[·]?),t',?_,p1,p2,by rw[p2]; exact q3,q4⟩
 unfold relayAll
 rw[gr,q1]
 dsimp only
 have c:coversAll order es.size=true:=by
  unfold coversAll
  exact List.isPerm_iff.mpr q2
 have f:t'.fits (order.filterMap (es[·]?)).size=true:=by rw[p2]; exact q3.fits
 rw[c,f]
 rfl
abbrev bt(w:World):Bool:=w.params.followText "set-order"
def Ki:Int×Value->Int
 | (_,.int k _)=>k
 | _=>0
def Rl(e:Int×Value):Prop:=∃k tk,e=(hashInt k,Value.int k tk)
abbrev Ew(es:Array (Int×Value)):List Int:=es.toList.map Ki
abbrev Ij(es:Array (Int×Value))(ep:Nat)(t:Bx):Obj:={ cls:=.type "set",dict:=none,data:=.set es ep t }
structure SetS(w:World)(h:Heap)(a:Addr)(es:Array (Int×Value))(ep:Nat)(t:Bx):Prop where
 obj:h.get? a=some (Ij es ep t)
 ent:∀e∈es.toList,Rl e
 nd:(Ew es).Nodup
 tab:Tab es.size t
 led:bt w=false->t.led=true
 few:es.size<64
theorem SetS.keep{w:World}{h h':Heap}{a:Addr}{es:Array (Int×Value)}{ep:Nat}{t:Bx}(S:SetS w h a es ep t)(k:∀o,h.get? a=some o->h'.get? a=some o):SetS w h' a es ep t :=
 ⟨k _ S.obj,S.ent,S.nd,S.tab,S.led,S.few⟩
def ins(k:Int)(l:List Int):List Int:=if k∈l then l else k::l
theorem xM{prog:Bp}{w:World}{h:Heap}{a:Addr}{es:Array (Int×Value)}{ep:Nat}{t:Bx}(S:SetS w h a es ep t):ElemsOf (Qw prog w) es.toList:=λe he=>by
 obtain ⟨k,tk,rfl⟩:=S.ent e he
 exact ⟨⟨k,intKind_is _ _ _ _,rfl⟩,rfl⟩
theorem qF{prog:Bp}{w:World}{e:Int×Value}(h:Rl e)(k:Int):(Qw prog w).is k e.2=true↔Ki e=k:=by
 obtain ⟨k',tk,rfl⟩:=h
 show Value.isInt k (.int k' tk)=true↔k'=k
 simp [Value.isInt]
 try exact eq_comm
theorem cV{n:Nat}(h:n<64):n<=Be:=by rw[Gi]; omega
theorem jV{es:Array (Int×Value)}{ep:Nat}{t:Bx}(es':Array (Int×Value))(t':Bx):Obj.putSet es' t' (Ij es ep t)=Ij es' (ep+1) t':=putSet_of es' t' rfl
theorem Ve{h:Heap}{a:Addr}{es:Array (Int×Value)}{ep:Nat}{t:Bx}(ho:h.get? a=some (Ij es ep t))(es':Array (Int×Value))(t':Bx):(h.update a (Obj.putSet es' t')).get? a=some (Ij es' (ep+1) t'):=by
 have:=Km (Obj.putSet es' t') ho (by rw[jV]; rfl)
 rw[jV] at this
 exact this
section
variable{prog:Bp}{w:World}{A:Dg}{E:Value->Al->Prop}{s:Al}
theorem Fg{a:Addr}{es:Array (Int×Value)}{ep:Nat}{t:Bx}{Q:(Array (Int×Value)×Nat×Bx)->Al->Prop}(S:SetS w s.heap a es ep t)(h:Q (es,ep,t) s):wpAny (model prog w) A (setState a) Q E s :=
 wpAny_setState_of S.obj rfl S.tab.fits h
theorem Tb{a:Addr}{es es':Array (Int×Value)}{ep:Nat}{t t':Bx}{Q:Unit->Al->Prop}(S:SetS w s.heap a es ep t)(he:∀e∈es'.toList,Rl e)(nd:(Ew es').Nodup)(tab:Tab es'.size t')(led:bt w=false->t'.led=true)(few:es'.size<64)(h:∀h',Eo a s.heap h'->SetS w h' a es' (ep+1) t'->Q () { s with heap:=h' }):wpAny (model prog w) A (storeSet a es' t') Q E s :=
 Pb S.obj rfl (h _ (Dd ..) ⟨Ve S.obj es' t',he,nd,tab,led,few⟩) (cV few)
theorem Zt{es:Array (Int×Value)}{k:Int}(he:∀e∈es.toList,Rl e):es.toList.findIdx? (λe=>(Qw prog w).is k e.2)=none↔k∉Ew es:=by
 rw[List.findIdx?_eq_none_iff]
 constructor
 ·intro h hm
  obtain ⟨e,hm',rfl⟩:=Bv.mp hm
  have:=h e hm'
  rw[(qF (he e hm') _).mpr rfl] at this
  cases this
 ·intro h e hm
  cases q:(Qw prog w).is k e.2 with
  | false=>rfl
  | true=>exact absurd (Bv.mpr ⟨e,hm,(qF (he e hm) k).mp q⟩) h
theorem sD{a:Addr}{es:Array (Int×Value)}{ep:Nat}{t:Bx}{k:Int}{tk:Tok}{Q:Bool->Al->Prop}(S:SetS w s.heap a es ep t)(hn:es.size<63)(h:∀b es' ep' t' h',Eo a s.heap h'->SetS w h' a es' ep' t'->(Ew es').Perm (ins k (Ew es))->Q b { s with heap:=h' }):wpAny (model prog w) A (setAddHashed a (.int k tk) (hashInt k)) Q E s:=by
 unfold setAddHashed setAddHashedIn
 refine Et (Ae (Fg S ?_))
 dsimp only
 rw[byScan_of (knd:=Qw prog w) (x:=.int k tk) rfl (Vp S.few (by decide)) (xM S),if_pos rfl]
 unfold setAddByScan
 refine Ae (Ae (wpAny_rule (Ae ?_)))
 refine wpAny_setScan_of (knd:=Qw prog w) (k:=k) (intKind_is _ _ _ _) S.obj rfl S.tab.fits (xM S) ?_
 cases hr:es.toList.findIdx? (λe=>(Qw prog w).is k e.2) with
 | some j =>
  dsimp only
  have hk:k∈Ew es:=Ib λz=>by
   rw[(Zt (prog:=prog) (w:=w) S.ent).mpr z] at hr
   cases hr
  refine Ak (Ak ?_)
  have:=h false es ep t s.heap (Lh a s.heap) S (by unfold ins; rw[if_pos hk])
  exact this
 | none =>
  dsimp only
  have hk:k∉Ew es:=(Zt (prog:=prog) (w:=w) S.ent).mp hr
  obtain ⟨es1,t1,e1,p1,z1,ok1,m1,l1⟩:=yM S.tab (hashInt k) (.int k tk)
  rw[e1]
  dsimp only
  have ent1:∀e∈es1.toList,Rl e:=λe he=>by
   rcases Ay.mp (p1.mem_iff.mp he) with z | z
   ·exact S.ent e z
   ·rw[Aj.mp z]; exact ⟨k,tk,rfl⟩
  have pk1:(Ew es1).Perm (k::Ew es):=by
   have:=p1.map Ki
   rw[Az] at this
   exact this.trans Hq
  have nd1:(Ew es1).Nodup:=pk1.nodup_iff.mpr (Cg.mpr ⟨hk,S.nd⟩)
  have few1:es1.size<64:=by omega
  have led1:bt w=false->t1.led=true:=λz=>by rw[l1]; exact S.led z
  refine Ae (m:=(pure ():Sem Unit)) (Ak ?_)
  rw[ok1.plain,if_pos rfl]
  refine Ae (m:=hashByValue 8 (.int k tk)) (Ak ?_)
  simp only[if_true]
  by_cases tf:t1.tooFull=true
  ·obtain ⟨es2,t2,e2,p2,z2,tab2,l2⟩:=dG (es:=es1) ok1.plain few1
   have ent2:∀e∈es2.toList,Rl e:=λe he=>ent1 e (p2.mem_iff.mp he)
   have pk2:(Ew es2).Perm (k::Ew es):=(p2.map Ki).trans pk1
   refine Ae (Pb S.obj rfl ?_ (cV few1))
   rw[tf,if_pos (by decide),e2]
   dsimp only
   refine Ae (m:=(pure ():Sem Unit)) (Ak ?_)
   have o1:=Ve S.obj es1 t1
   refine Ae (Pb o1 rfl (Ak ?_) (cV (by omega)))
   dsimp only
   refine Ak (h true es2 (ep+1+1) t2 _ ((Dd s.heap a _).trans (Dd _ a _)) ⟨Ve o1 es2 t2,ent2,pk2.nodup_iff.mpr (Cg.mpr ⟨hk,S.nd⟩),tab2,λz=>by rw[l2,l1]; exact S.led z,by omega⟩ ?_)
   unfold ins
   rw[if_neg hk]
   exact pk2
  ·have room:es1.size * 5<t1.mask * 3:=by
    have : ¬ (t1.fill * 5 ≥ t1.mask * 3):=λz=>tf (by unfold SetTable.tooFull; exact decide_eq_true z)
    have e:t1.fill=es1.size:=by
     unfold Mr
     rw[ok1.dum,ok1.size]
     rfl
    omega
   refine Ae (Pb S.obj rfl ?_ (cV few1))
   rw[Bool.not_eq_true] at tf
   rw[tf]
   simp only[Bool.and_false,Ud,if_false]
   refine Ak ?_
   dsimp only
   refine Ak (h true es1 (ep+1) t1 _ (Dd s.heap a _) ⟨Ve S.obj es1 t1,ent1,nd1,⟨ok1,room⟩,led1,few1⟩ ?_)
   unfold ins
   rw[if_neg hk]
   exact pk1
end
theorem Hn{α:Type}:∀{l:List α} {i:Nat} (h:i<l.length),(l[i]::l.eraseIdx i).Perm l
 | [],_,h=>absurd h (Fx _)
 | a::l,0,h=>Fm _
 | a::l,i+1,h=>by
  have:=Hn (l:=l) (i:=i) (by simpa using h)
  exact (Do a _ _).trans (Gc a this)
theorem jC{α:Type}(next:Nat->Nat):∀(fuel k:Nat) (left:List α) (out:Array α),left.length=fuel->(pickOrder.go next fuel k left out).toList.Perm (out.toList++left)
 | 0,k,left,out,h=>by
  unfold pickOrder.go
  have : left=[]:=Xu h
  subst this
  simp
 | fuel+1,k,left,out,h=>by
  unfold pickOrder.go
  have hi:next k % left.length<left.length:=Pp _ (by omega)
  rw[Br hi]
  dsimp only
  refine (jC next fuel (k+1) _ _ (by rw[List.length_eraseIdx,if_pos hi]; omega)).trans ?_
  rw[Um,Dn]
  exact List.Perm.append_left _ (Hn hi)
theorem lQ{α:Type}(next:Nat->Nat)(xs:Array α):(Qe next xs).toList.Perm xs.toList:=by
 unfold Qe
 simpa using jC next xs.size 0 xs.toList #[] (by simp)
section
variable{prog:Bp}{w:World}{A:Dg}{E:Value->Al->Prop}{s:Al}
theorem Nc{Q:Bool->Al->Prop}(h:Q (bt w) s):wpAny (model prog w) A setsByText Q E s:=by
 unfold setsByText
 exact Ae (Qb (Ak h))
theorem kP{a:Addr}{es:Array (Int×Value)}{ep:Nat}{t:Bx}{Q:Array (Int×Value)->Al->Prop}(S:SetS w s.heap a es ep t)(h:Q (if bt w then Qe (w.params.setOrder a ep) es else es) s):wpAny (model prog w) A (setWalk a) Q E s:=by
 unfold setWalk
 refine Ae (Fg S ?_)
 dsimp only
 refine Ae (Nc ?_)
 cases hb:bt w with
 | true =>
  rw[hb] at h
  rw[if_pos rfl] at h ⊢
  exact Ae (Qb (Ak h))
 | false =>
  have hl:=S.led hb
  have hp:=S.tab.plain
  rw[hb] at h
  obtain ⟨mask,place,dummies,finger,led,moves,plain⟩:=t
  have hl':led=true:=hl
  have hp':plain=true:=hp
  subst hl' hp'
  exact Ae (m:=(pure ():Sem Unit)) (Ak (Ak h))
theorem Zd{a:Addr}{es:Array (Int×Value)}{ep:Nat}:(if bt w then Qe (w.params.setOrder a ep) es else es).toList.Perm es.toList:=by
 cases bt w with
 | true=>exact lQ _ _
 | false=>exact Fm _
theorem mR{a:Addr}{others:List Addr}{filled:Option Addr}{es:Array (Int×Value)}{ep:Nat}{t:Bx}{Q:Array (Int×Value)->Al->Prop}(S:SetS w s.heap a es ep t)(h:Q (if bt w then Qe (w.params.setOrder a ep) es else es) s) :
  wpAny (model prog w) A (setWalkUnseen a others filled) Q E s:=by
 unfold setWalkUnseen
 refine Ae (Fg S ?_)
 dsimp only
 refine Ae (Nc ?_)
 have c:(bt w || (t.led && t.plain) || decide (es.size<=1))=true:=by
  cases hb:bt w with
  | true=>rfl
  | false=>rw[S.led hb,S.tab.plain]; rfl
 rw[if_pos c]
 exact kP S h
theorem lN{a:Addr}{es:Array (Int×Value)}{ep:Nat}{t:Bx}{wanted:Nat}{Q:Unit->Al->Prop}(S:SetS w s.heap a es ep t)(hw:wanted<256)(h2:es.size * 2<=wanted)(h:∀es' t' h',Eo a s.heap h'->SetS w h' a es' (ep+1) t'->(Ew es').Perm (Ew es)->wanted<=t'.mask->7<=t'.mask->Q () { s with heap:=h' }):wpAny (model prog w) A (setRelay a wanted) Q E s:=by
 obtain ⟨t',order,q1,q2,q3,q4⟩:=dR (es:=es) S.tab.plain hw h2
 obtain ⟨p1,p2⟩:=iX es q2
 obtain ⟨m,e1,g,hm⟩:=Ov hw
 have mk:t'.mask=m:=by
  unfold SetTable.relaid at q1
  rw[(cZ q1).2.1,e1]
  rfl
 have m7:7<=t'.mask:=by
  have : 8<=Cw wanted:=by
   have key:∀k:Fin 256,decide (8<=Cw k.1)=true:=by decide +kernel
   exact of_decide_eq_true (key ⟨wanted,hw⟩)
  omega
 have sz:Cw wanted<=256:=by
  have key:∀k:Fin 256,decide (Cw k.1<=256)=true:=by decide +kernel
  exact of_decide_eq_true (key ⟨wanted,hw⟩)
 unfold setRelay
 refine Ae (Fg S ?_)
 dsimp only
 rw[if_neg (by rw[Gi]; omega),q1]
 refine Ae ?_
 show wpAny (model prog w) A (do
  if (order.filterMap (es[·]?)).size != es.size then unsupported "internal:set-table-lost-an-element"
  pure (order.filterMap (es[·]?),t')) _ _ _
 rw[if_neg (by rw[p2]; simp)]
 refine Ak ?_
 dsimp only
 refine Tb S (λe he=>S.ent e (p1.mem_iff.mp he)) ((p1.map Ki).nodup_iff.mpr S.nd) (by rw[p2]; exact q3) (λz=>by rw[q4]; exact S.led z) (by rw[p2]; exact S.few) λh' sb S'=>?_
 exact h _ _ h' sb S' (p1.map Ki) (by omega) m7
theorem mH{es es':Array (Int×Value)}(p:(Ew es').Perm (Ew es)):es'.size=es.size:=by
 have:=p.length_eq
 rw[Ac,Ac,Bc,Bc] at this
 exact this
theorem vX{a:Addr}{es:Array (Int×Value)}{ep more:Nat}{t:Bx}{Q:Unit->Al->Prop}(S:SetS w s.heap a es ep t)(hm:es.size+more<128)(h:∀es' ep' t' h',Eo a s.heap h'->SetS w h' a es' ep' t'->(Ew es').Perm (Ew es)->(es.size+more) * 5<t'.mask * 3->Q () { s with heap:=h' }):wpAny (model prog w) A (setRoomFor a more) Q E s:=by
 have fl:t.fill=es.size:=by
  unfold Mr
  rw[S.tab.dum,S.tab.size]
  rfl
 unfold setRoomFor
 refine Ae (Fg S ?_)
 dsimp only
 unfold SetTable.roomFor
 rw[fl,S.tab.size]
 by_cases c:(es.size+more) * 5 ≥ t.mask * 3
 ·rw[if_pos c]
  dsimp only
  refine lN S (by omega) (by omega) λes' t' h' sb S' p m1 m7=>h es' _ t' h' sb S' p ?_
  omega
 ·rw[if_neg c]
  dsimp only
  exact Ak (h es ep t s.heap (Lh _ _) S (Fm _) (by omega))
end
def Among(U:List Int)(l:List Int):Prop:=∀x∈l,x∈U
theorem len_leI:∀{l1 l2:List Int},l1.Nodup->(∀e∈l1,e∈l2)->l1.length<=l2.length
 | [],_,_,_=>Dv _
 | a::l1,l2,nd,h=>by
  have nd':=Cg.mp nd
  have ha:=h a (Aa ..)
  have:=len_leI (l2:=l2.erase a) nd'.2 λe he=>(List.mem_erase_of_ne (show e≠a from λz=>nd'.1 (by rw[<- z]; exact he))).mpr (h e (Ab _ he))
  rw[gB ha] at this
  have p:0<l2.length:=iY ha
  rw[Bo]
  omega
theorem Among.size{U:List Int}{es:Array (Int×Value)}(h:Among U (Ew es))(nd:(Ew es).Nodup):es.size<=U.length:=by
 have:=len_leI nd h
 rw[Ac,Bc] at this
 exact this
theorem jG{x k:Int}{l:List Int}:x∈ins k l↔x=k\/x∈l:=by
 unfold ins
 split
 ·rename_i h
  constructor
  ·exact .inr
  ·rintro (z | z)
   ·rw[z]; exact h
   ·exact z
 ·rw[Ag]
section
variable{prog:Bp}{w:World}{A:Dg}{E:Value->Al->Prop}
theorem Wz{U:List Int}(hU:U.length<=62){a o:Addr}(ao:a≠o){eo:Array (Int×Value)}{epo:Nat}{to:Bx}{each:Sem Unit}
  (hE:∀(s:Al) (Q:Unit->Al->Prop),SetS w s.heap o eo epo to->Q () s->wpAny (model prog w) A each Q E s) :
  ∀(l:List (Int×Value)) (s:Al) (es:Array (Int×Value)) (ep:Nat) (t:Bx) (Q:Unit->Al->Prop),(∀e∈l,Rl e)->Among U (l.map Ki)->Among U (Ew es)->SetS w s.heap a es ep t->SetS w s.heap o eo epo to ->
   (∀es' ep' t' h',Eo a s.heap h'->SetS w h' a es' ep' t'->(∀x,x∈Ew es'↔x∈Ew es\/x∈l.map Ki)->Q () { s with heap:=h' }) ->
   wpAny (model prog w) A (forIn l PUnit.unit λ(x:Int×Value) _=>do
    let _ <- Qx [x.2] (setAddHashed a x.2 x.1)
    each
    if (<- setState o).2.1 != epo then unsupported "set.changed-during-merge"
    pure (Kn PUnit.unit)) Q E s
 | [],s,es,ep,t,Q,_,_,_,S,_,h=>by
  rw[List.forIn_nil]
  exact Ak (h es ep t s.heap (Lh _ _) S (by simp))
 | e::l,s,es,ep,t,Q,he,hl,hk,S,So,h=>by
  obtain ⟨k,tk,rfl⟩:=he e (Aa ..)
  rw[List.forIn_cons]
  have n1:=hk.size S.nd
  refine Ae (Ae (Et (sD S (by omega) λb es1 ep1 t1 h1 sb1 S1 p1=>?_)))
  have So1:SetS w h1 o eo epo to:=So.keep λob q=>(sb1.2 o (Lg ao)).trans q
  refine Ae (hE { s with heap:=h1 } _ So1 ?_)
  refine Ae (Fg (s:={ s with heap:=h1 }) So1 ?_)
  dsimp only
  rw[if_neg (by simp)]
  refine Ak ?_
  have m1:∀x,x∈Ew es1↔x=k\/x∈Ew es:=λx=>by rw[p1.mem_iff,jG]
  have hk1:Among U (Ew es1):=λx hx=>by
   rcases (m1 x).mp hx with z | z
   ·rw[z]; exact hl k (Aa ..)
   ·exact hk x z
  refine Wz hU ao hE l { s with heap:=h1 } es1 ep1 t1 Q (λe hm=>he e (Ab _ hm)) (λx hx=>hl x (Ab _ hx)) hk1 S1 So1 λes2 ep2 t2 h2 sb2 S2 m2=>?_
  refine h es2 ep2 t2 h2 (sb1.trans sb2) S2 λx=>?_
  rw[m2,m1,Au,Ag]
  show (x=k\/x∈Ew es)\/x∈l.map Ki↔x∈Ew es\/x=k\/x∈l.map Ki
  constructor
  ·rintro ((z | z) | z)
   ·exact .inr (.inl z)
   ·exact .inl z
   ·exact .inr (.inr z)
  ·rintro (z | z | z)
   ·exact .inl (.inr z)
   ·exact .inl (.inl z)
   ·exact .inr z
end
section
variable{prog:Bp}{w:World}{A:Dg}{E:Value->Al->Prop}{s:Al}
theorem eU{U:List Int}(hU:U.length<=62){a o:Addr}(ao:a≠o){es eo:Array (Int×Value)}{ep epo:Nat}{t to:Bx}{each:Sem Unit}{Q:Unit->Al->Prop}(hE:∀(s:Al) (Q:Unit->Al->Prop),SetS w s.heap o eo epo to->Q () s->wpAny (model prog w) A each Q E s)(S:SetS w s.heap a es ep t)(So:SetS w s.heap o eo epo to)(hk:Among U (Ew es))(ho:Among U (Ew eo))(h:∀es' ep' t' h',Eo a s.heap h'->SetS w h' a es' ep' t'->(∀x,x∈Ew es'↔x∈Ew es\/x∈Ew eo)->Q () { s with heap:=h' }):wpAny (model prog w) A (setMerge a o each) Q E s:=by
 have n1:=hk.size S.nd
 have n2:=ho.size So.nd
 unfold setMerge
 rw[if_neg (by simpa using ao)]
 refine Ae (Fg So ?_)
 dsimp only
 by_cases em:eo.isEmpty=true
 ·rw[if_pos em]
  have : eo=#[]:=by simpa using em
  refine Ak (h es ep t s.heap (Lh _ _) S λx=>?_)
  rw[this]
  simp
 rw[if_neg em]
 refine Ae (vX S (by omega) λes1 ep1 t1 h1 sb1 S1 p1 r1=>?_)
 have So1:SetS w h1 o eo epo to:=So.keep λob q=>(sb1.2 o (Lg ao)).trans q
 refine Ae (Fg (s:={ s with heap:=h1 }) S1 ?_)
 dsimp only
 have z1:=mH p1
 have fl:t1.fill=es.size:=by
  unfold Mr
  rw[S1.tab.dum,S1.tab.size]
  exact z1
 have empty:t1.fill=0->∀x,x∉Ew es:=λz x hx=>by
  have : es.size=0:=by omega
  have e:es=#[]:=Array.eq_empty_of_size_eq_zero this
  rw[e] at hx
  simp at hx
 cases hr:t1.road to with
 | slotForSlot =>
  unfold SetTable.road at hr
  split at hr
  ·cases hr
  ·rename_i hf
   have hf':t1.fill=0:=by simpa using hf
   split at hr
   ·rename_i hm
    simp only[Cp,beq_iff_eq] at hm
    refine Tb S1 So1.ent So1.nd (t':={ to with finger:=t1.finger,led:=t1.led && to.led,moves:=t1.moves,plain:=t1.plain && to.plain }) ⟨⟨So1.tab.good,So1.tab.dum,by show (t1.plain && to.plain)=true; rw[S1.tab.plain,So1.tab.plain]; rfl,So1.tab.rise,So1.tab.top,So1.tab.size⟩,So1.tab.room⟩
     (λz=>by show (t1.led && to.led)=true; rw[S1.led z,So1.led z]; rfl) So1.few λh2 sb2 S2=>?_
    refine h eo _ _ h2 (sb1.trans sb2) S2 λx=>⟨.inr,λz=>z.elim (λq=>absurd q (empty hf' x)) id⟩
   ·cases hr
 | clean =>
  have hf':t1.fill=0:=by
   unfold SetTable.road at hr
   split at hr
   ·cases hr
   ·rename_i hf
    simpa using hf
  have sz:(eo.map (·.1)).size=eo.size:=Array.size_map ..
  obtain ⟨t2,order,q1,q2,q3,q4⟩:=fT (mask:=t1.mask) (finger:=t1.finger) (moves:=t1.moves) (led:=t1.led && to.led) S1.tab.good (eo.map (·.1)) (by rw[sz]; omega)
  rw[sz] at q2 q3
  obtain ⟨pk,ps⟩:=iX eo q2
  dsimp only
  have pl:(t1.plain && to.plain)=true:=by rw[S1.tab.plain,So1.tab.plain]; rfl
  rw[pl,q1]
  refine Ae ?_
  show wpAny (model prog w) A (do
   if (order.filterMap (eo[·]?)).size != eo.size then unsupported "internal:set-table-lost-an-element"
   pure (order.filterMap (eo[·]?),t2)) _ _ _
  rw[if_neg (by rw[ps]; simp)]
  refine Ak ?_
  dsimp only
  refine Tb S1 (λe he=>So1.ent e (pk.mem_iff.mp he)) ((pk.map Ki).nodup_iff.mpr So1.nd) (by rw[ps]; exact q3) (λz=>by rw[q4,S1.led z,So1.led z]; rfl) (by rw[ps]; exact So1.few) λh2 sb2 S2=>?_
  refine h _ _ _ h2 (sb1.trans sb2) S2 λx=>?_
  rw[(pk.map Ki).mem_iff]
  exact ⟨.inr,λz=>z.elim (λq=>absurd q (empty hf' x)) id⟩
 | oneByOne =>
  dsimp only
  refine Ae (mR (s:={ s with heap:=h1 }) So1 ?_)
  have wp:=Zd (w:=w) (a:=o) (es:=eo) (ep:=epo)
  generalize (if bt w then Qe (w.params.setOrder o epo) eo else eo)=arr at wp
  rw[<- Array.forIn_toList]
  refine Ae (Wz hU ao hE arr.toList { s with heap:=h1 } es1 ep1 t1 _ (λe he=>So1.ent e (wp.mem_iff.mp he)) (λx hx=>ho x ((wp.map Ki).mem_iff.mp hx)) (λx hx=>hk x (p1.mem_iff.mp hx)) S1 So1 λes2 ep2 t2 h2 sb2 S2 m2=>Ak ?_)
  refine h es2 ep2 t2 h2 (sb1.trans sb2) S2 λx=>?_
  rw[m2,p1.mem_iff,(wp.map Ki).mem_iff]
end
theorem aA:entryFor table "set.__or__" = some Builtin.«frozenset.__or__» :=
 entryFor_alias (id' := "frozenset.__or__") (by kernel_rfl) (by first | rfl | decide +kernel) (by decide +kernel) (by kernel_rfl)
theorem Mb:isSubtype (.type "set") (.type "set")=pure true:=by rw[isSubtype_type]; kernel_rfl
section
variable{prog:Bp}{w:World}{A:Dg}{E:Value->Al->Prop}{s:Al}
theorem SetS.ty{a:Addr}{es:Array (Int×Value)}{ep:Nat}{t:Bx}(S:SetS w s.heap a es ep t):s.TypeIs (.ref a) "set" := ⟨_,S.obj,rfl⟩
theorem Yt{h:Heap}:SetS w (h.push (Ij #[] 0 (.fresh 0 0 (!bt w)))) h.objs.size #[] 0 (.fresh 0 0 (!bt w)) :=
 ⟨Bt _ rfl,(λe he=>by simp at he),Dq,⟨⟨xZ,rfl,rfl,Dq,(λj hj=>by simp [SetTable.fresh] at hj),rfl⟩,by show 0 * 5<7 * 3; decide⟩,(λz=>by show (!bt w)=true; rw[z]; rfl),by decide⟩
theorem nQ{Q:Value->Al->Prop}(h:Q (.ref s.heap.objs.size) { s with heap:=s.heap.push (Ij #[] 0 (.fresh 0 0 (!bt w))) }):wpAny (model prog w) A (newSet (.type "set")) Q E s:=by
 unfold newSet
 refine Ae (Nc ?_)
 dsimp only
 simp only[newObj]
 exact Ae (wpAny_alloc (Ak h))
theorem Tf{a:Addr}{Q:Bool->Al->Prop}(T:s.TypeIs (.ref a) "set")(h:Q true s):wpAny (model prog w) A (Gk (.ref a)) Q E s:=by
 unfold Gk
 exact Ae (Qa T Mb (Ak h))
theorem wN{a:Addr}{Q:Value->Al->Prop}(T:s.TypeIs (.ref a) "set")(h:Q (.type "set") s):wpAny (model prog w) A (Qz a) Q E s:=by
 unfold Qz
 exact Ae (Qa T Mb (Ak h))
theorem lE{h h' h2:Heap}{a:Addr}(k:∀b o,h.get? b=some o->h'.get? b=some o)(n:h.get? a=none)(sb:Eo a h' h2):∀b o,h.get? b=some o->h2.get? b=some o:=λb o e =>
 (sb.2 b (λz=>by rw[z,n] at e; cases e)).trans (k b o e)
theorem vD{U:List Int}(hU:U.length<=62){a:Addr}{es:Array (Int×Value)}{ep:Nat}{t:Bx}{Q:Value->Al->Prop}(S:SetS w s.heap a es ep t)(hk:Among U (Ew es))(h:∀es' ep' t' h',(∀b o,s.heap.get? b=some o->h'.get? b=some o)->SetS w h' s.heap.objs.size es' ep' t'->(∀x,x∈Ew es'↔x∈Ew es)->Q (.ref s.heap.objs.size) { s with heap:=h' }):wpAny (model prog w) A (Ko a) Q E s:=by
 have lt:=Bb S.obj
 have ne:s.heap.objs.size≠a:=Vo lt
 unfold Ko
 refine Ae (wN S.ty (Ae (nQ ?_)))
 refine Ae (m:=Dm (.ref s.heap.objs.size)) (Ak ?_)
 refine Ae (eU (s:={ s with heap:=s.heap.push (Ij #[] 0 (.fresh 0 0 (!bt w))) }) hU ne (each:=pure ()) (λs' Q' _ q=>Ak q) Yt (S.keep λo q=>Ar _ q) (λx hx=>by simp at hx) hk λes' ep' t' h' sb S' m=>Ak ?_)
 exact h es' ep' t' h' (lE (λb o e=>Ar _ e) (Qv (An _)) sb) S' λx=>by rw[m]; simp
theorem F0{U:List Int}(hU:U.length<=62){a b:Addr}(ab:a≠b){ea eb:Array (Int×Value)}{epa epb:Nat}{ta tb:Bx}{Q:Value->Al->Prop}(Sa:SetS w s.heap a ea epa ta)(Sb:SetS w s.heap b eb epb tb)(ka:Among U (Ew ea))(kb:Among U (Ew eb))(h:∀es' ep' t' h',(∀c o,s.heap.get? c=some o->h'.get? c=some o)->SetS w h' s.heap.objs.size es' ep' t'->(∀x,x∈Ew es'↔x∈Ew ea\/x∈Ew eb)->Q (.ref s.heap.objs.size) { s with heap:=h' }):wpAny (model prog w) A (Gj .BitOr (.ref a) (.ref b)) Q E s:=by
 refine wpAny_binaryOp_same (id := "set.__or__") Sa.ty Sb.ty PySem.F.fills_set_or PySem.F.slot_set_or (Fu PySem.F.slot_set_or Sa.ty aA ?_ (PySem.F.args_set_or_2 _ _))
 show wpAny (model prog w) _ (do
  let (self,other) <- Sm "__or__" ⟨[.ref a,.ref b],[]⟩
  let (l,r):=(self,other)
  if !(<- Gk l <&&> Gk r) then rule s!"frozenset.{"__or__"}.declined"; return <- ret .notImplemented
  ret (<- (do
   let result <- Ko (<- Dm l)
   if r != .ref (<- Dm l) then Qx [result] (Je s!"frozenset.{"__or__"}" (<- Dm result) r)
   return result))) _ _ _
 refine Ae (m:=Sm "__or__" ⟨[.ref a,.ref b],[]⟩) (Mg (a:=(Fw a,Fw b)) rfl ?_)
 dsimp only
 refine Ae (Ae (Tf Sa.ty ?_))
 refine Tf Sb.ty ?_
 simp only[Bool.not_true,Ud,if_false]
 refine Ae (Ae (m:=Dm (.ref a)) (Ak (Ae (vD hU Sa ka λe1 p1 t1 h1 k1 S1 m1=>?_))))
 have ne:s.heap.objs.size≠b:=Vo (Bb Sb.obj)
 have nr:s.heap.get? s.heap.objs.size=none:=Qv (An _)
 have Sb1:SetS w h1 b eb epb tb:=Sb.keep λo q=>k1 b o q
 refine Ae (m:=Dm (.ref a)) (Ak ?_)
 rw[if_pos (show (Fw b != Fw a)=true by simpa using Lg ab)]
 refine Ae (m:=Dm (.ref s.heap.objs.size)) (Ak (Ae (Et ?_)))
 unfold Je
 refine Ae (Tf (s:={ s with heap:=h1 }) (w:=w) Sb1.ty ?_)
 rw[if_pos rfl]
 refine Ae (m:=Dm (.ref b)) (Ak ?_)
 unfold Builtin.Frozenset.merge setEpoch
 refine Ae (Ae (Fg (s:={ s with heap:=h1 }) Sb1 (Ak ?_)))
 refine eU (s:={ s with heap:=h1 }) hU ne (λs' Q' So' q'=>?_) S1 Sb1 (λx hx=>ka x ((m1 x).mp hx)) kb λe2 p2 t2 h2 sb2 S2 m2=>?_
 ·unfold Builtin.Frozenset.unchanged setEpoch
  refine Ae (Ae (Fg So' (Ak ?_)))
  dsimp only
  rw[if_neg (by simp)]
  exact Ak q'
 ·refine Ak (Ak ⟨_,rfl,(λz=>nomatch z),h e2 p2 t2 h2 (lE k1 nr sb2) S2 λx=>by rw[m2,m1]⟩)
end
end NdS
namespace NdS
open PySem PyProof.Rows
section
variable{prog:Bp}{w:World}{A:Dg}{R:Result->Al->Prop}
theorem tO{U:List Int}(hU:U.length<=62){a it l:Addr}(n1:a≠it)(n2:a≠l)(n3:l≠it){items:Array Value}{ns:List Int}(hI:Kx items.toList ns)(hN:Among U ns)(hh:A.in1.handled=none):∀(k i:Nat) (s:Al) (es:Array (Int×Value)) (ep:Nat) (t:Bx),items.size - i=k->i<=items.size->s.heap.IsTupleIter it l i->s.heap.IsTuple l items->SetS w s.heap a es ep t->Among U (Ew es)->(∀es' ep' t' h' tk,(∀b o,b≠a->b≠it->s.heap.get? b=some o->h'.get? b=some o)->SetS w h' a es' ep' t'->(∀x,x∈Ew es'↔x∈Ew es\/x∈ns.drop i)->R (.ok (.ret .none)) { s with heap:=h',toks:=tk })->Hs (model prog w) A (.builtin "set.update.loop" ⟨[.ref a,.ref it],[]⟩) R s:=by
 have len:ns.length=items.size:=by rw[<- hI.length,Bc]
 intro k
 induction k with
 | zero =>
  intro i s es ep t hk hi hit hl S hu hR
  have e:i=items.size:=by omega
  refine Sg Oc ?_
  rw[Pv Hi _]
  show wpAny _ A.in1 (Of (.ref it) >>= _) _ _ s
  refine Ae (tT hh hit hl (by rw[e]; simp) λh' x=>?_)
  refine Ak (hR es ep t h' s.toks (λb o _ q e=>x b o q e) (S.keep λo q=>x a o n1 q) λx=>?_)
  rw[e,<- len,Xm]
  simp
 | succ k ih =>
  intro i s es ep t hk hi hit hl S hu hR
  have lt:i<items.size:=by omega
  have lt':i<ns.length:=by omega
  obtain ⟨tk,ev⟩:=IntsAre.int_at hI i items[i] (by simp [lt])
  have eg:ns.getD i 0=ns[i]:=by simp [List.getD,lt']
  rw[eg] at ev
  refine Sg Oc ?_
  rw[Pv Hi _]
  show wpAny _ A.in1 (Of (.ref it) >>= _) _ _ s
  refine Ae (tP hit hl (x:=items[i]) (by simp [lt]) λh1 hit1 sb1=>?_)
  rw[ev]
  show wpAny _ A.in1 (Qx [Value.int ns[i] tk] (setAdd a (.int ns[i] tk)) >>= _) _ _ _
  refine Ae (Et ?_)
  unfold setAdd
  refine Et (Ae ((Qw prog w).pyHash (k:=ns[i]) (intKind_is _ _ _ _) ?_))
  have S1:SetS w h1 a es ep t:=S.keep λo q=>(sb1.2 a n1).trans q
  have z:=hu.size S1.nd
  refine sD (s:={ s with heap:=h1,toks:=s.toks+1 }) S1 (by omega) λb es2 ep2 t2 h2 sb2 S2 p2=>?_
  have m2:∀x,x∈Ew es2↔x=ns[i]\/x∈Ew es:=λx=>by rw[p2.mem_iff,jG]
  refine Ak ⟨plainId_quiet Hi _,?_⟩
  refine ih (i+1) { s with heap:=h2,toks:=s.toks+1 } es2 ep2 t2 (by omega) lt ?_ ?_ S2 (λx hx=>?_) λes3 ep3 t3 h3 tk3 k3 S3 m3=>?_
  ·obtain ⟨o,ho,r⟩:=hit1
   exact ⟨o,(sb2.2 it (Lg n1)).trans ho,r⟩
  ·obtain ⟨o,ho,r⟩:=hl
   exact ⟨o,(sb2.2 l (Lg n2)).trans ((sb1.2 l n3).trans ho),r⟩
  ·rcases (m2 x).mp hx with q | q
   ·rw[q]; exact hN _ (Ol lt')
   ·exact hu x q
  ·refine hR es3 ep3 t3 h3 tk3 (λb o q1 q2 e=>k3 b o q1 q2 ((sb2.2 b q1).trans ((sb1.2 b q2).trans e))) S3 λx=>?_
   rw[m3,m2,cI lt',Ag]
   constructor
   ·rintro ((q | q) | q)
    ·exact .inr (.inl q)
    ·exact .inl q
    ·exact .inr (.inr q)
   ·rintro (q | q | q)
    ·exact .inl (.inr q)
    ·exact .inl (.inl q)
    ·exact .inr q
end
section
variable{prog:Bp}{w:World}{A:Dg}{E:Value->Al->Prop}{s:Al}
theorem tN(v:Value){Q:Value->Al->Prop}(h:Q (.ref s.heap.objs.size) { s with heap:=s.heap.push (Ij #[] 0 (.fresh 0 0 (!bt w))) }):Hs (model prog w) A (.call (.builtin "set.__new__") ⟨[.type "set",v],[]⟩) (wants Q E) s:=by
 have sub:=Mb
 obtain ⟨hp,g,d,tk,os⟩:=s
 refine codeAny_of_tree (show wpAny _ A.in1 (do checkBuiltinCall "set.__new__" ⟨[.type "set",v],[]⟩; again (.builtin "set.__new__" ⟨[.type "set",v],[]⟩)) _ _ _ from ?_)
 refine Ae (Mg (PySem.F.newCall_set_1 v) (Ak ⟨plainId_quiet PySem.F.plain_set_new _,Sg PySem.F.entry_set_new ?_⟩))
 rw[Pv PySem.F.plain_set_new _]
 unfold Builtin.«set.__new__» Builtin.Frozenset.newClass
 dsimp only
 wp_walk
 refine Qb (Ak ?_)
 dsimp only
 simp only[newObj]
 exact Ae (wpAny_alloc (Ak (Ak h)))
theorem uF{U:List Int}(hU:U.length<=62){l:Addr}{items:Array Value}{ns:List Int}{Q:Value->Al->Prop}(hh:A.handled=none)(hl:s.heap.IsTuple l items)(hI:Kx items.toList ns)(hN:Among U ns)(h:∀es ep t h' tk,(∀b o,s.heap.get? b=some o->h'.get? b=some o)->SetS w h' s.heap.objs.size es ep t->(∀x,x∈Ew es↔x∈ns)->Q (.ref s.heap.objs.size) { s with heap:=h',toks:=tk }):wpAny (model prog w) A (call (.type "set") [.ref l]) Q E s:=by
 obtain ⟨c,tl,hmro⟩:=PySem.F.called_set.mro
 have hmade:=PySem.F.called_set.made
 have hsub:=PySem.F.called_set.sub
 have h1:=PySem.F.called_set.notType
 have h2:=PySem.F.called_set.canCreate
 have hct:=PySem.F.typeCall_set_1 (.ref l)
 refine wpAny_call (codeAny_of_tree (show wpAny _ _ (callAny (.type "set") _) _ _ _ from ?_))
 refine Ak ⟨Code.quiet_builtin _ (by decide +kernel),Sg PySem.F.entry_type_call ?_⟩
 rw[Around.under_plain (weight_type_call_type "set" [.ref l] []) rfl]
 repeat (any_goals (first | assumption | wp_step))
 refine Nl (tN (.ref l) (E:=E) (Q:=λv s1=>v=.ref s.heap.objs.size/\s1={ s with heap:=s.heap.push (Ij #[] 0 (.fresh 0 0 (!bt w))) }) ⟨rfl,rfl⟩) λr s1 hr=>?_
 rcases r with e | (_ | _ | _ | v)
 ·exact hr
 ·exact hr.elim
 ·exact hr.elim
 ·exact hr.elim
 obtain ⟨rfl,rfl⟩:=hr
 have S0:=Yt (w:=w) (h:=s.heap)
 have T0:Shared.TypeIs { s with heap:=s.heap.push (Ij #[] 0 (.fresh 0 0 (!bt w))) } (.ref s.heap.objs.size) "set" := ⟨_,S0.obj,rfl⟩
 have hli:=PySem.F.called_set.init.lookup
 have hbi:=PySem.F.called_set.init.bind (.ref s.heap.objs.size)
 repeat (any_goals (first | assumption | wp_step))
 refine Nl (codeAny_call_builtin (R:=wants (λr s2=>r=.none/\∃es ep t h' tk,s2={ s with heap:=h',toks:=tk }/\(∀b o,s.heap.get? b=some o->h'.get? b=some o)/\SetS w h' s.heap.objs.size es ep t/\∀x,x∈Ew es↔x∈ns) E)
  PySem.F.called_set.init.plain PySem.F.entry_set_init (check_set_init_1 T0 ?_)) λr s2 hr=>?_
 ·obtain ⟨⟨oc,od,odt,osl⟩,ho,hc,n,hd⟩:=id hl
  have hc':oc=.type "tuple" := hc
  have hd':odt=.seq items n:=hd
  subst hc' hd'
  have ho':=Ar (Ij #[] 0 (.fresh 0 0 (!bt w))) ho
  have hl1:(s.heap.push (Ij #[] 0 (.fresh 0 0 (!bt w)))).IsTuple l items:=⟨_,ho',rfl,n,rfl⟩
  have f1:=PySem.F.sub_tuple_set
  have f2:=PySem.F.sub_tuple_frozenset
  have f3:(Jd "tuple" == Jd "dict")=false:=by decide
  have lt:=Bb ho
  unfold Builtin.«set.__init__» noKeywords Je
  generalize hPI:pyIter=PI
  wp_walk
  subst hPI
  refine wpAny_pyIter_tuple hl1 (Ae (wpAny_runValue ?_))
  have sz:(s.heap.push (Ij #[] 0 (.fresh 0 0 (!bt w)))).objs.size=s.heap.objs.size+1:=Heap.size_push _ _
  have g1:((s.heap.push (Ij #[] 0 (.fresh 0 0 (!bt w)))).push { cls:=.type "tuple_iterator",data:=.fields #[.ref l,.int 0 0] }).get? (s.heap.push (Ij #[] 0 (.fresh 0 0 (!bt w)))).objs.size=some { cls:=.type "tuple_iterator",data:=.fields #[.ref l,.int 0 0] }:=Bt _ rfl
  refine tO hU (by rw[sz]; exact Cv (Xs _)) (Vo lt) (by rw[sz]; exact Cv (Vq lt)) hI hN (by simp [hh]) (items.size - 0) 0 _ #[] 0 (.fresh 0 0 (!bt w)) rfl (Dv _) ⟨_,g1,rfl,rfl⟩ ⟨_,Ar _ ho',rfl,n,rfl⟩
   (S0.keep λo q=>Ar _ q) (λx hx=>by simp at hx) λes ep t h' tk k' S' m'=>?_
  refine Ak (Ak ⟨rfl,es,ep,t,h',tk,rfl,λb o e=>?_,S',λx=>?_⟩)
  ·have lb:=Bb e
   exact k' b o (Cv lb) (by rw[sz]; exact Cv (Vq lb)) (Ar _ (Ar _ e))
  ·rw[m',Kd]
   simp
 ·rcases r with e | (_ | _ | _ | v)
  ·exact hr
  ·exact hr.elim
  ·exact hr.elim
  ·exact hr.elim
  obtain ⟨rfl,es,ep,t,h',tk,rfl,k',S',m'⟩:=hr
  repeat (any_goals (first | assumption | wp_step))
  exact h es ep t h' tk k' S' m'
end
theorem Pk:Slot "set_iterator" "__next__" "set_iterator.__next__" :=
 .of (owner := "set_iterator") (n := "__next__") (by rw[typeLookup_type,builtinLookup_eq_fast]; kernel_rfl) (by decide +kernel) (by decide +kernel) (by decide +kernel) (by first | exact .inl (by decide +kernel) | exact .inr (by decide +kernel)) (by rw[isSubtype_type]; kernel_rfl)
theorem Xk:entryFor table "set_iterator.__next__" = some Builtin.«set_iterator.__next__»:=entryFor_of_tree (by kernel_rfl)
theorem Zl(a:Value):argsOk "set_iterator.__next__" ⟨[a],[]⟩:=by unfold argsOk; kernel_rfl
theorem gW:entryFor table "set.__iter__" = some Builtin.«frozenset.__iter__» :=
 entryFor_alias (id' := "frozenset.__iter__") (by kernel_rfl) (by first | rfl | decide +kernel) (by decide +kernel) (by kernel_rfl)
abbrev lD(f i:Nat)(a:Addr)(n ep:Nat):Obj:={ cls:=.type "set_iterator",data:=.fields #[Ku f,Ku i,.ref a,Ku n,Ku ep] }
def arrOf(w:World)(a:Addr)(ep:Nat)(es:Array (Int×Value)):Array (Int×Value):=if bt w then Qe (w.params.setOrder a ep) es else es
theorem pM{w:World}{a:Addr}{ep:Nat}{es:Array (Int×Value)}:(arrOf w a ep es).toList.Perm es.toList:=Zd
theorem Ng{w:World}{a:Addr}{ep:Nat}{es:Array (Int×Value)}:(arrOf w a ep es).size=es.size:=by
 have:=(pM (w:=w) (a:=a) (ep:=ep) (es:=es)).length_eq
 rw[Bc,Bc] at this
 exact this
def dW(w:World)(I a:Addr)(es:Array (Int×Value))(ep:Nat)(t:Bx)(i:Nat)(h:Heap):Prop :=
 (∃f,h.get? I=some (lD f i a es.size ep)/\(bt w=false->By t.place f=i))/\SetS w h a es ep t
section
variable{prog:Bp}{w:World}{A:Dg}{E:Value->Al->Prop}{s:Al}
theorem wD{a:Addr}{es:Array (Int×Value)}{ep:Nat}{t:Bx}{Q:Value->Al->Prop}(S:SetS w s.heap a es ep t)(h:Q (.ref s.heap.objs.size) { s with heap:=s.heap.push (lD 0 0 a es.size ep) }):wpAny (model prog w) A (pyIter (.ref a)) Q E s:=by
 refine wpAny_pyIter_slot S.ty PySem.F.slot_set_iter (Fu PySem.F.slot_set_iter S.ty gW ?_ (PySem.F.args_set_iter_1 _))
 unfold Builtin.«frozenset.__iter__»
 refine Ae (m:=Builtin.Frozenset.slot0 "__iter__" ⟨[.ref a],[]⟩) (Mg (a:=a) rfl ?_)
 unfold Builtin.Frozenset.sizeOf Xp setDrawn setEpoch
 refine Ae (Ae (Ae (Fg S (Ak (Ak ?_)))))
 refine Ae (Ae (Fg S ?_))
 dsimp only
 refine Ae (Nc (Ak ?_))
 have hp:=S.tab.plain
 have tail:wpAny (model prog w) A.in1 (do
   let first <- (pure (Ku 0):Sem Value)
   ret (<- newFields "set_iterator" [first,Ku 0,.ref a,Ku es.size,Ku (<- (do return (<- setState a).2.1))])) (λfin s'=>∃v,fin=.done (.ret v)/\∃T' r,s'.TypeIs v T'/\typeLookup (.type T') "__next__" = pure (some r)/\Q v s') E s:=by
  refine Ae (Ak ?_)
  refine Ae (Ae (Fg S (Ak ?_)))
  refine Ae (Eu (Ak ⟨_,rfl, "set_iterator",_,⟨_,Bt _ rfl,rfl⟩,Pk.lookup,h⟩))
 obtain ⟨mask,place,dummies,finger,led,moves,plain⟩:=t
 have hp':plain=true:=hp
 subst hp'
 cases hb:bt w with
 | true=>exact tail
 | false=>exact tail
theorem Wa{a:Addr}{es:Array (Int×Value)}{ep f i:Nat}{t:Bx}{Q:Option (Value×Nat)->Al->Prop}(S:SetS w s.heap a es ep t)(hf:bt w=false->By t.place f=i)(h1:∀(hi:i<es.size) f',(bt w=false->By t.place f'=i+1)->Q (some (((arrOf w a ep es)[i]'(by rw[Ng]; exact hi)).2,f')) s)(h2:es.size<=i->Q none s):wpAny (model prog w) A (setNext a f i ep) Q E s:=by
 unfold setNext
 refine Ae (Fg S ?_)
 dsimp only
 refine Ae (Nc ?_)
 cases hb:bt w with
 | true =>
  rw[if_pos rfl,if_neg (by simp)]
  refine Ae (kP S (Ak ?_))
  show Q (((arrOf w a ep es)[i]?).map λe=>(e.2,f)) s
  by_cases hi:i<es.size
  ·rw[Fv (by rw[Ng]; exact hi)]
   exact h1 hi f (λz=>by rw[hb] at z; cases z)
  ·rw[Oo (by rw[Ng]; omega)]
   exact h2 (by omega)
 | false =>
  have hl:=S.led hb
  have hp:=S.tab.plain
  have tail:wpAny (model prog w) A (pure (match es[By t.place f]?,t.place[By t.place f]? with
    | some (_,x),some j=>some (x,j+1)
    | _,_=>none):Sem (Option (Value×Nat))) Q E s:=by
   rw[hf hb]
   by_cases hi:i<es.size
   ·have hi2:i<t.place.size:=by rw[S.tab.size]; exact hi
    rw[Fv hi,Fv hi2]
    refine Ak ?_
    have:=h1 hi (t.place[i]+1) (λ_=>gH S.tab.rise hi2)
    have e:arrOf w a ep es=es:=by unfold arrOf; rw[hb]; rfl
    simp only[e] at this
    exact this
   ·rw[Oo (by omega)]
    exact Ak (h2 (by omega))
  obtain ⟨mask,place,dummies,finger,led,moves,plain⟩:=t
  have hl':led=true:=hl
  have hp':plain=true:=hp
  subst hl' hp'
  exact Ae (m:=(pure ():Sem Unit)) (Ak tail)
theorem nU{I a:Addr}{es:Array (Int×Value)}{ep:Nat}{t:Bx}{i:Nat}{Q:Option Value->Al->Prop}(st:dW w I a es ep t i s.heap)(ne:a≠I)(hi:i<es.size)(h:∀h',dW w I a es ep t (i+1) h'->Eo I s.heap h'->Q (some ((arrOf w a ep es)[i]'(by rw[Ng]; exact hi)).2) { s with heap:=h' }):wpAny (model prog w) A (Of (.ref I)) Q E s:=by
 obtain ⟨⟨f,ho,hf⟩,S⟩:=st
 have T:s.TypeIs (.ref I) "set_iterator" := ⟨_,ho,rfl⟩
 unfold Of
 refine Ae (wpAny_attempt (Kj (name:=Bz "__next__") T Pk (Fu Pk T Xk ?_ (Zl _))))
 unfold Builtin.«set_iterator.__next__»
 refine Ae (m:=slotArgs "__next__" 0 ⟨[.ref I],[]⟩) (Mg (a:=(Fw I,[])) rfl ?_)
 dsimp only
 refine Ae (wpAny_fieldsOf ho rfl ?_)
 show wpAny (model prog w) A.in1 (do
  if (((<- Xp a).size:Nat):Int) != (es.size:Int) then
   rule "set_iterator.__next__.size-changed"
   Qd (.ref I) 3 (Ku (-1))
   raiseError "RuntimeError" "Set changed size during iteration"
  match <- setNext a (f:Int).toNat (i:Int).toNat (ep:Int).toNat with
  | some (x,next) =>
   Qd (.ref I) 0 (Ku next)
   Qd (.ref I) 1 (Ku ((i:Int)+1))
   ret x
  | none=>Qd (.ref I) 2 .none; raiseNew (<- newExc (.type "StopIteration") [])) _ _ _
 unfold Xp
 refine Ae (Ae (Fg S (Ak ?_)))
 rw[if_neg (by simp)]
 simp only[Dw]
 refine Ae (Wa S hf (λ_ f' hf'=>?_) (λz=>absurd hi (by omega)))
 dsimp only
 refine Ae (wpAny_setField ho rfl (by simp) ?_)
 have g1:(s.heap.update I (Obj.mapFields (·.setIfInBounds 0 (Ku f')))).get? I=some (lD f' i a es.size ep):=Km _ ho rfl
 refine Ae (wpAny_setField g1 rfl (by simp) (Ak ⟨_,rfl,Ak (h _ ⟨⟨f',?_,hf'⟩,?_⟩ ((Dd ..).trans (Dd ..)))⟩))
 ·exact Km _ g1 rfl
 ·refine S.keep λo q=>?_
  exact ((Dd _ _ _).2 a ne).trans (((Dd _ _ _).2 a ne).trans q)
theorem qP{I a:Addr}{es:Array (Int×Value)}{ep:Nat}{t:Bx}{Q:Option Value->Al->Prop}(hh:A.handled=none)(st:dW w I a es ep t es.size s.heap)(h:∀h',Heap.ExtBut I s.heap h'->Q none { s with heap:=h' }):wpAny (model prog w) A (Of (.ref I)) Q E s:=by
 obtain ⟨⟨f,ho,hf⟩,S⟩:=st
 have T:s.TypeIs (.ref I) "set_iterator" := ⟨_,ho,rfl⟩
 unfold Of
 refine Ae (wpAny_attempt (Kj (name:=Bz "__next__") T Pk (Fu Pk T Xk ?_ (Zl _))))
 unfold Builtin.«set_iterator.__next__»
 refine Ae (m:=slotArgs "__next__" 0 ⟨[.ref I],[]⟩) (Mg (a:=(Fw I,[])) rfl ?_)
 dsimp only
 refine Ae (wpAny_fieldsOf ho rfl ?_)
 show wpAny (model prog w) A.in1 (do
  if (((<- Xp a).size:Nat):Int) != (es.size:Int) then
   rule "set_iterator.__next__.size-changed"
   Qd (.ref I) 3 (Ku (-1))
   raiseError "RuntimeError" "Set changed size during iteration"
  match <- setNext a (f:Int).toNat (es.size:Int).toNat (ep:Int).toNat with
  | some (x,next) =>
   Qd (.ref I) 0 (Ku next)
   Qd (.ref I) 1 (Ku ((es.size:Int)+1))
   ret x
  | none=>Qd (.ref I) 2 .none; raiseNew (<- newExc (.type "StopIteration") [])) _ _ _
 unfold Xp
 refine Ae (Ae (Fg S (Ak ?_)))
 rw[if_neg (by simp)]
 simp only[Dw]
 refine Ae (Wa S hf (λz _ _=>absurd z (Fb _)) (λ_=>?_))
 dsimp only
 refine Ae (wpAny_setField ho rfl (by simp) (Ae ?_))
 simp only[newExc,newTuple]
 refine Ae (Eu ?_ (by size_fits))
 refine Ae (m:=firstArgMember _ _) (Mg (a:=On) (by first | rfl | (simp only[firstArgMember]; rfl)) (Eu ?_ (by size_fits)))
 simp only[raiseNew]
 refine Ae (wpAny_handled ?_)
 rw[show A.in1.handled=none from hh]
 refine Ae (Ak (wpAny_throw ?_))
 refine Ae (Qa (T := "StopIteration") (b:=true) ⟨_,Bt _ rfl,rfl⟩ isSubtype_stop ?_)
 exact Ak (h _ (((Dd ..).extBut.push _).push _))
end
theorem Zf:Slot "set_iterator" "__iter__" "set_iterator.__iter__" :=
 .of (owner := "set_iterator") (n := "__iter__") (by rw[typeLookup_type,builtinLookup_eq_fast]; kernel_rfl) (by decide +kernel) (by decide +kernel) (by decide +kernel) (by first | exact .inl (by decide +kernel) | exact .inr (by decide +kernel)) (by rw[isSubtype_type]; kernel_rfl)
theorem iW:entryFor table "set_iterator.__iter__" = some Builtin.«dict_keyiterator.__iter__» :=
 entryFor_alias (id' := "dict_keyiterator.__iter__") (by kernel_rfl) (by first | rfl | decide +kernel) (by decide +kernel) (by kernel_rfl)
theorem nY(a:Value):argsOk "set_iterator.__iter__" ⟨[a],[]⟩:=by unfold argsOk; kernel_rfl
section
variable{prog:Bp}{w:World}{A:Dg}{E:Value->Al->Prop}{s:Al}
theorem nM(hh:A.handled=none){I a:Addr}(ne:a≠I)(es:Array (Int×Value))(ep:Nat)(t:Bx):Walks prog w A I [I,a] [I] es.size (λi v=>∃e,(arrOf w a ep es)[i]? = some e/\v=e.2) (λi h=>dW w I a es ep t i h) where
 sub:=λb hb=>by simp at hb; simp [hb]
 frame:=λi h h' ⟨⟨f,ho,hf⟩,S⟩ hk=>⟨⟨f,hk I (by simp) _ ho,hf⟩,S.keep λo q=>hk a (by simp) o q⟩
 item:=λi s Q E hi st hQ=>nU st ne hi λh' st' sb=>hQ _ h' s.toks ⟨_,Fv (by rw[Ng]; exact hi),rfl⟩ st' λb o hb e=>(sb.2 b (λz=>hb (by simp [z]))).trans e
 done:=λs Q E st hQ=>qP hh st λh' x=>hQ h' s.toks λb o hb e=>x b o (λz=>hb (by simp [z])) e
 self:=λi s Q E st hQ=>by
  obtain ⟨⟨f,ho,hf⟩,S⟩:=st
  have T:s.TypeIs (.ref I) "set_iterator" := ⟨_,ho,rfl⟩
  refine wpAny_pyIter_slot T Zf (Fu Zf T iW ?_ (nY _))
  exact Ak ⟨_,rfl, "set_iterator",_,T,Pk.lookup,hQ⟩
theorem pH{r:Addr}{Q:Bool->Al->Prop}(hT:s.TypeIs (.ref r) "set")(h:Q false s):wpAny (model prog w) A (Sw (.ref r)) Q E s:=by
 unfold Sw
 refine Ae (wpAny_specialOf hT PySem.F.slot_set_len.lookup ?_)
 generalize hid:("set.__len__" : String)=id0
 wp_delta
 rw[show splitId id0=some ("set", "__len__") from by subst hid; decide +kernel]
 subst hid
 refine Ae (Qa (T := "set") (b:=true) hT Mb ?_)
 refine wpAny_ite_split (λz=>absurd z (by decide)) (λ_=>wpAny_ite_split (λ_=>?_) (λz=>absurd (by decide +kernel) z))
 exact Ae (Zx hT (Ak h))
theorem vK(a:Addr)(es:Array (Int×Value))(ep:Nat)(t:Bx):PySem.W.KdlSrc prog w "set" a a es.size (λi v=>∃e,(arrOf w a ep es)[i]? = some e/\v=e.2) (λh=>SetS w h a es ep t) where
 type:=λs S=>S.ty
 there:=λh S=>⟨Bb S.obj,Bb S.obj⟩
 keep:=λh h' S k=>S.keep λo q=>k a (.inl rfl) o q
 notList:=by decide
 notTuple:=by decide
 hint:=λA E s Q S h=>pH S.ty h
 iter:=λA s hh S=>by
  have lt:=Bb S.obj
  refine ⟨lD 0 0 a es.size ep,λi h=>dW w s.heap.objs.size a es ep t i h,λE Q h=>wD S h,?_,⟨⟨0,Bt _ rfl,λ_=>eZ S.tab.rise⟩,S.keep λo q=>Ar _ q⟩⟩
  exact nM hh (Cv lt) es ep t
theorem Xz{arr:Array (Int×Value)}(he:∀e∈arr.toList,Rl e){acc:Array Value}(h:ItemsOf (λi v=>∃e,arr[i]? = some e/\v=e.2) acc arr.size):Kx acc.toList (arr.toList.map Ki):=by
 have key:∀(l:List (Int×Value)) (vs:List Value),(∀e∈l,Rl e)->vs.length=l.length->(∀(j:Nat) v,vs[j]? = some v->∃e,l[j]? = some e/\v=e.2)->Kx vs (l.map Ki):=by
  intro l
  induction l with
  | nil =>
   intro vs _ hl _
   cases vs with
   | nil=>exact .nil
   | cons v vs=>cases hl
  | cons e l ih =>
   intro vs he hl hv
   cases vs with
   | nil=>cases hl
   | cons v vs =>
    obtain ⟨k,tk,rfl⟩:=he e (Aa ..)
    obtain ⟨e',h1,h2⟩:=hv 0 v rfl
    cases h1
    subst h2
    exact .cons k tk (ih vs (λe hm=>he e (Ab _ hm)) (by simpa using hl) λj u hj=>hv (j+1) u (by simpa using hj))
 refine key arr.toList acc.toList he (by rw[Bc,Bc]; exact h.1) λj v hj=>?_
 obtain ⟨e,h1,h2⟩:=h.2 j v (by rw[<- Kl]; exact hj)
 exact ⟨e,by rw[Kl]; exact h1,h2⟩
theorem iG{a:Addr}{es:Array (Int×Value)}{ep:Nat}{t:Bx}{Q:Value->Al->Prop}(hh:A.handled=none)(S:SetS w s.heap a es ep t)(h:∀(p:Addr) (out:Array Value) (ns:List Int) (n:Nat) (h1 h':Heap) (tk:Nat),Kx out.toList ns->ns.Perm (Ew es)->ns.Pairwise (·<=·)->(∀b o,s.heap.get? b=some o->h1.get? b=some o)->h1.objs.size<=p->(∀b o,h1.get? b=some o->h'.get? b=some o)->h'.get? p=some (seqObj "list" out n)->Q (.ref p) { s with heap:=h',toks:=tk }):wpAny (model prog w) A (call (.builtin "sorted") [.ref a]) Q E s:=by
 refine Calls.call_function_entry kind_sorted plain_sorted entry_sorted (args_sorted1 _) ?_
 unfold Builtin.«sorted»
 refine Ae (m:=checkCount "sorted" 1 1 _) (Ak (Ae (PySem.W.kdu_collect (A:=A.in1) (vK a es ep t) hh S (cV S.few) λh1 tk acc k1 hacc=>?_)))
 have hacc':ItemsOf (λi v=>∃e,(arrOf w a ep es)[i]? = some e/\v=e.2) acc (arrOf w a ep es).size:=by rw[Ng]; exact hacc
 have hI:=Xz (λe he=>S.ent e (pM.mem_iff.mp he)) hacc'
 have len:acc.toList.length<64:=by rw[Bc,hacc.1]; exact S.few
 refine Ae (wpAny_newList ?_ (Bk (Hh len) (by rw[Gi]; decide)))
 have g1:(h1.push (seqObj "list" acc.toList.toArray 0)).get? h1.objs.size=some (seqObj "list" acc.toList.toArray 0):=Bt _ rfl
 refine Ae (Et (Fu slot_list_sort ⟨_,g1,rfl⟩ entry_list_sort (list_sort_tree (s:={ s with heap:=h1.push (seqObj "list" acc.toList.toArray 0),toks:=tk }) g1 hI len λout ns' a1 a2 a3=>⟨_,rfl,?_⟩) (args_list_sort _)))
 refine Ak ⟨_,rfl,?_⟩
 have g2:=get?_update_seq g1 (λ_=>#[])
 have g3:=Ar (seqObj "list" #[] 0) (Ar (seqObj "tuple" acc.toList.toArray 0) g2)
 have g4:=get?_update_seq g3 (λ_=>out)
 refine h h1.objs.size out ns' _ h1 _ tk a1 (a2.trans (pM.map Ki)) a3 k1 (An _) (λb o e=>?_) g4
 have nb:b≠h1.objs.size:=Cv (Bb e)
 exact ((Dd _ _ _).2 b nb).trans (Ar _ (Ar _ (((Dd _ _ _).2 b nb).trans (Ar _ e))))
end
end NdS
namespace Nd
open PySem PySem.Spec PyProof.Rows L2 NdS
def pR(w:World)(a:Addr)(ks:List Int)(h:Heap):Prop:=∃es ep t,SetS w h a es ep t/\∀x,x∈Ew es↔x∈ks
abbrev Uq(w:World)(a:Addr)(ks:List Int):HO:=.ext (pR w a ks)
theorem kR{P:Bp}{w w':World}{H:Hp}{h:Heap}{a:Addr}{ks:List Int}(e:pR w a ks h):Ja P w' H h a (Uq w a ks) :=
 ⟨e,let ⟨_,_,_,S,_⟩:=e; ⟨_,S.obj⟩,λh1 h2 ⟨es,ep,t,S,m⟩ k=>⟨es,ep,t,S.keep λo q=>k o q,m⟩⟩
theorem Wt{P:Bp}{w:World}{H:Hp}{h:Heap}{a:Addr}{ks:List Int}(ok:Xn P w H h)(e:H a=some (Uq w a ks)):pR w a ks h :=
 (show Ja P w H h a (Uq w a ks) from ok a _ e).1
section
variable{X:Cx}
def zS(w:World)(K:PySem.W.Frag):List V->Hp->VK->Prop:=λxs H Q=>∃(a:Addr) (ns U:List Int),xs=[.ref a]/\Pe K H a (ns.map V.int)/\U.length<=62/\Among U ns/\∀p,H p=none->Q (.ref p) (upd H p (Uq w p ns))
theorem fY(hc:X.calm=true):Kg X (.type "set") (zS X.w X.K):=by
 intro pins s σ H xs us Q I r h
 obtain ⟨a,ns,U,rfl,hs,hU,hN,q⟩:=h
 obtain ⟨u,rfl,ru⟩:=vals1 r
 cases ru
 obtain ⟨its,rv,⟨o,e,hcl,n,hd⟩,_⟩:=I.tuple hs
 refine uF hU (I.ok.hd hc) ⟨o,e,hcl,n,hd⟩ (by simpa using intsAre_of rv) hN λes ep t h' tk k S m=>?_
 exact ⟨.ref s.heap.objs.size,_,I.laid k (An _) (kR ⟨es,ep,t,S,m⟩),rfl,q _ (I.hok.fresh (An _))⟩
def S7(w:World):R2:=λx y H Q=>∃(a b:Addr) (ks ls U:List Int),x=.ref a/\y=.ref b/\a≠b/\H a=some (Uq w a ks)/\H b=some (Uq w b ls)/\U.length<=62/\Among U ks/\Among U ls/\∀p,H p=none->Q (.ref p) (upd H p (Uq w p (ks++ls)))
theorem tH:Rv X (Gj .BitOr) (S7 X.w):=by
 intro pins s σ H x y v u Q I rx ry h
 obtain ⟨a,b,ks,ls,U,rfl,rfl,ne,ha,hb,hU,h1,h2,q⟩:=h
 cases rx
 cases ry
 obtain ⟨ea,pa,ta,Sa,ma⟩:=Wt I.hok ha
 obtain ⟨eb,pb,tb,Sb,mb⟩:=Wt I.hok hb
 refine F0 hU ne Sa Sb (λx hx=>h1 x ((ma x).mp hx)) (λx hx=>h2 x ((mb x).mp hx)) λes ep t h' k S m=>?_
 exact ⟨.ref s.heap.objs.size,_,I.laid (t':=s.toks) k (An _) (kR ⟨es,ep,t,S,λx=>by rw[m,ma,mb,Ay]⟩),rfl,q _ (I.hok.fresh (An _))⟩
theorem Rt:∀{vs:List Value} {ns:List Int},Kx vs ns->Fc (ns.map V.int) vs
 | _,_,.nil=>.nil
 | _,_,.cons n t h=>.cons ⟨t,rfl⟩ (Rt h)
def kN(w:World):List V->Hp->VK->Prop:=λxs H Q=>∃(a:Addr) (ks:List Int),xs=[.ref a]/\H a=some (Uq w a ks)/\∀(p:Addr) (ns:List Int),H p=none->ns.Nodup->ns.Pairwise (·<=·)->(∀x,x∈ns↔x∈ks)->Q (.ref p) (upd H p (.lst (ns.map V.int)))
theorem bZ(hc:X.calm=true):Kg X (.builtin "sorted") (kN X.w):=by
 intro pins s σ H xs us Q I r h
 obtain ⟨a,ks,rfl,ha,q⟩:=h
 obtain ⟨u,rfl,ru⟩:=vals1 r
 cases ru
 obtain ⟨es,ep,t,S,m⟩:=Wt I.hok ha
 refine iG (I.ok.hd hc) S λp out ns n h1 h' tk hi hp hs k1 hge k2 hg=>?_
 have I1:Inv X pins σ H { s with heap:=h1,toks:=tk }:=I.kept k1
 have nd:ns.Nodup:=hp.nodup_iff.mpr S.nd
 have hl:ns.length<64:=by
  rw[hp.length_eq,Ac,Bc]
  exact S.few
 refine ⟨.ref p,upd H p (.lst (ns.map V.int)),I1.laid (t':=tk) k2 hge ⟨by rw[Ac,Gi]; omega,out.toList,n,Rt hi,by simpa using hg⟩,rfl,q p ns (I1.hok.fresh hge) nd hs λx=>by rw[hp.mem_iff,m]⟩
end
end Nd
namespace Nd
open PySem L2
def Ui(d:Addr)(H H':Hp):Prop:=∀b o,b≠d->H b=some o->H' b=some o
theorem Ui.trans{d:Addr}{H H1 H2:Hp}(a:Ui d H H1)(b:Ui d H1 H2):Ui d H H2:=λc o n h=>b c o n (a c o n h)
theorem Ui.upd{d:Addr}{H:Hp}{o:HO}:Ui d H (upd H d o):=λb o n h=>by rw[Ef n]; exact h
theorem Oh.tup{K:PySem.W.Frag}{H H':Hp}{a:Addr}{xs:List V}(e:Oh H H')(h:Pe K H a xs):Pe K H' a xs:=by
 rcases h with (h | ⟨o,h⟩) | h
 ·exact .inl (.inl (e _ _ h))
 ·exact .inl (.inr ⟨o,e _ _ h⟩)
 ·exact .inr h
theorem gC{n:Nat}(h:n<=1000000):n<=Be:=by rw[Gi]; omega
theorem bL(a b:Int)(h:0<b):0<=a % b/\a % b<b:=⟨Int.emod_nonneg _ (by omega),Int.emod_lt_of_pos _ h⟩
def Ec(h:Int)(ns:List Int):Prop:=ns.Pairwise (· < ·)/\∀x∈ns,0<=x/\x<h
theorem Ec.nil(h:Int):Ec h []:=⟨Dq,λx hx=>by cases hx⟩
theorem Ec.more{h:Int}{ns:List Int}(r:Ec h ns)(h0:0<=h):Ec (h+1) (ns++[h]) :=
 ⟨Fd.mpr ⟨r.1,Jo _ _,λa ha b hb=>by rw[Aj.mp hb]; exact (r.2 a ha).2⟩,λx hx=>by
  rcases Ay.mp hx with z | z
  ·have:=r.2 x z; omega
  ·have:=Aj.mp z; omega⟩
theorem Ec.up{h h':Int}{ns:List Int}(r:Ec h ns)(l:h<=h'):Ec h' ns:=⟨r.1,λx hx=>by have:=r.2 x hx; omega⟩
def dZ(H:Hp)(d:Addr)(c k:Int)(f:Bool):Prop:=H d=some (.lst [.int c,.int k,.bl f])
def sF:Sp:=λvs H Q _=>∃(d:Addr) (c k:Int) (f:Bool),vs=[.ref d]/\dZ H d c k f/\0<=k/\k<=1000000/\∀(r c':Int) (H':Hp),dZ H' d c' (k+1) f->Ui d H H'->Q (.int r) H'
def Bs(ns:List Int):Ad:=.tuple (ns.map Ba)
theorem gU(ns:List Int):(Bs ns).depth<=1:=by
 have : (Bs ns).depth<=Bg (ns.map Ba)+1:=by simp [Bs,Cq]
 rw[gQ] at this
 exact this
def A8:List Int:=(Bi 60).map λi:Nat=>(i:Int)
theorem aK{x:Int}(h0:0<=x)(h1:x<60):x∈A8:=Bv.mpr ⟨x.toNat,Dz.mpr (by omega),by omega⟩
theorem vW(TD:List Ad):Df (.list TD) (.list [])=TD.isEmpty:=by cases TD <;> simp [Df,Ii]
theorem Za:∀{l1 l2:List Int},l1.Pairwise (· < ·)->l2.Pairwise (· < ·)->(∀x,x∈l1↔x∈l2)->l1=l2
 | [],[],_,_,_=>rfl
 | [],b::l,_,_,h=>by have:=(h b).mpr Aa; cases this
 | a::l,[],_,_,h=>by have:=(h a).mp Aa; cases this
 | a::l1,b::l2,p1,p2,h=>by
  obtain ⟨h1,q1⟩:=Av.mp p1
  obtain ⟨h2,q2⟩:=Av.mp p2
  have e:a=b:=by
   rcases Ag.mp ((h a).mp Aa) with z | z
   ·exact z
   ·rcases Ag.mp ((h b).mpr Aa) with y | y
    ·exact y.symm
    ·have:=h1 b y; have:=h2 a z; omega
  subst e
  rw[Za q1 q2 λx=>⟨λhx=>?_,λhx=>?_⟩]
  ·rcases Ag.mp ((h x).mp (Ab _ hx)) with z | z
   ·have:=h1 x hx; omega
   ·exact z
  ·rcases Ag.mp ((h x).mpr (Ab _ hx)) with z | z
   ·have:=h2 x hx; omega
   ·exact z
theorem jL{ns:List Int}(r:Ec 60 ns):NdS.Among A8 ns:=λx hx=>aK (r.2 x hx).1 (r.2 x hx).2
def xU(K:PySem.W.Frag):Sp:=λvs H Q _=>∃(a b:Addr) (ns ms:List Int),vs=[.ref a,.ref b]/\Pe K H a (ns.map V.int)/\Pe K H b (ms.map V.int)/\Ec 60 ns/\Ec 60 ms /\
 ∀(r:Addr) (ts:List Int) (H':Hp),H r=none->H' r=some (.tup (ts.map V.int))->ts.Nodup->ts.Pairwise (·<=·)->(∀x,x∈ts↔x∈ns++ms)->Oh H H'->Q (.ref r) H'
def oF(b:Bool):Str:=if b=true then "back" else "front"
def order{α:Type}(a b:α)(l:List α):Option Bool->List α
 | none=>l
 | some true=>[a,b]
 | some false=>[b,a]
structure TD(K:PySem.W.Frag)(H:Hp)(x:V)(d:Ad)(n m:Nat):Prop where
 rd:RdV K H x d
 fits:K4 22 d
 nd:xY d<=n
 dp:d.depth<=m
abbrev yJ(K:PySem.W.Frag):List V->Hp->VK->Prop:=λxs H Q=>∃p ys,xs=[V.ref p]/\(Om K H p ys\/Pe K H p ys)/\∀l,H l=none->Q (.ref l) (upd H l (.lst ys))
theorem lJ{X:Cx}:Kg X (.type "list") (yJ X.K):=aY
abbrev yG(K:PySem.W.Frag):List V->Hp->VK->Prop:=λxs H Q=>∃p ys,xs=[V.ref p]/\((Om K H p ys/\∀l,H l=none->Q (.ref l) (upd H l (.tup ys)))\/(Pe K H p ys/\Q (.ref p) H))
theorem dD{X:Cx}:Kg X (.type "tuple") (yG X.K):=Py
end Nd
namespace DL
open PySem L2 Nd
def KL(K:PySem.W.Frag)(H:Hp)(a:Addr)(xs:List V):Prop :=
 (∃o,H a=some (.frz o (.lst xs)))\/∃(its:Array Value) (n:Nat),K.lookup a=some { cls:=.type "list",data:=.seq its n }/\its.size<=Be/\Fc xs its.toList
def Wu:Nat->Ad
 | 0=>.none
 | n+1=>.tuple [Wu n]
def O8(ks:List (List Int×Ad)):List (Ad×Ad):=(Wu 100,.none)::ks.map λp=>(Bs p.1,p.2)
def O7(ks:List (Int×Ad)):List (Ad×Ad):=(Wu 100,.bool true)::ks.map λp=>(.int p.1,p.2)
def O0(a:Addr)(ks:List (List Int×Ad)):List (Ad×Ad):=(Wu 100,.int a)::ks.map λp=>(Bs p.1,p.2)
def pY(w:List Int):List Vg:=w.map Po
mutual
inductive RdF (K:PySem.W.Frag) (H:Hp):V->Ad->List Addr->Prop
 | non:RdF K H .non .none []
 | bl (b:Bool):RdF K H (.bl b) (.bool b) []
 | int (i:Int):RdF K H (.int i) (.int i) []
 | str (x:Str):RdF K H (.str x) (.str x) []
 | lst {a:Addr} {xs:List V} {ds:List Ad} {F:List Addr}:H a=some (.lst xs)->ds.length<=Be->RdFs K H xs ds F->RdF K H (.ref a) (.list ds) (a::F)
 | tup {a:Addr} {xs:List V} {ds:List Ad} {F:List Addr}:H a=some (.tup xs)->ds.length<=Be->RdFs K H xs ds F->RdF K H (.ref a) (.tuple ds) F
 | dic {a:Addr} {kv:List (List Vg×V)} {ks:List (List Int×Ad)}:H a=some (.dT kv)->kv.map (·.1)=ks.map (λp=>pY p.1)->RdFs K H (kv.map (·.2)) (ks.map (·.2)) []->RdF K H (.ref a) (.dict (O8 ks)) [a]
 | dik {a:Addr} {kv:List (Vg×V)} {ks:List (Int×Ad)}:H a=some (.dK kv)->kv.map (·.1)=ks.map (λp=>(Po p.1:Vg))->RdFs K H (kv.map (·.2)) (ks.map (·.2)) []->RdF K H (.ref a) (.dict (O7 ks)) [a]
 | dnm {a:Addr} {kv:List (List Vg×V)} {ks:List (List Int×Ad)}:H a=some (.dT kv)->kv.map (·.1)=ks.map (λp=>pY p.1)->RdFs K H (kv.map (·.2)) (ks.map (·.2)) []->RdF K H (.ref a) (.dict (O0 a ks)) [a]
inductive RdFs (K:PySem.W.Frag) (H:Hp):List V->List Ad->List Addr->Prop
 | nil:RdFs K H [] [] []
 | cons {x:V} {d:Ad} {xs:List V} {ds:List Ad} {F G:List Addr}:RdF K H x d F->RdFs K H xs ds G->RdFs K H (x::xs) (d::ds) (F++G)
end
def U7(o:HO):Prop:=(∃xs,o=.tup xs)\/∃ob u,o=.frz ob u
def Kp(F:List Addr)(H H':Hp):Prop:=∀b o,H b=some o->(b∈F\/U7 o)->H' b=some o
theorem Kp.of{F:List Addr}{H H':Hp}(s:Oh H H'):Kp F H H':=λb o e _=>s b o e
theorem Kp.sub{F G:List Addr}{H H':Hp}(k:Kp F H H')(h:∀a∈G,a∈F):Kp G H H':=λb o e z=>k b o e (z.imp (h b) id)
section
variable{K:PySem.W.Frag}{H H':Hp}
theorem KL.kp{a:Addr}{xs:List V}{F:List Addr}(h:KL K H a xs)(k:Kp F H H'):KL K H' a xs:=by
 rcases h with ⟨o,h⟩ | h
 ·exact .inl ⟨o,k _ _ h (.inr (.inr ⟨_,_,rfl⟩))⟩
 ·exact .inr h
theorem KL.sq{a:Addr}{xs:List V}(h:KL K H a xs):Om K H a xs:=by
 rcases h with ⟨o,h⟩ | ⟨its,n,h,hz,r⟩
 ·exact .inl (.inr ⟨o,h⟩)
 ·exact .inr ⟨_,its,n,h,rfl,rfl,rfl,hz,r⟩
mutual
theorem RdF.kp:∀{v:V} {d:Ad} {F:List Addr},RdF K H v d F->Kp F H H'->RdF K H' v d F
 | _,_,_,.non,_=>.non
 | _,_,_,.bl b,_=>.bl b
 | _,_,_,.int i,_=>.int i
 | _,_,_,.str x,_=>.str x
 | _,_,_,.lst h l hs,k=>.lst (k _ _ h (.inl Aa)) l (RdFs.kp hs (k.sub λ_ z=>Ab _ z))
 | _,_,_,.tup h l hs,k=>.tup (k _ _ h (.inr (.inl ⟨_,rfl⟩))) l (RdFs.kp hs k)
 | _,_,_,.dic h e hs,k=>.dic (k _ _ h (.inl Aa)) e (RdFs.kp hs (k.sub λ_ z=>nomatch z))
 | _,_,_,.dik h e hs,k=>.dik (k _ _ h (.inl Aa)) e (RdFs.kp hs (k.sub λ_ z=>nomatch z))
 | _,_,_,.dnm h e hs,k=>.dnm (k _ _ h (.inl Aa)) e (RdFs.kp hs (k.sub λ_ z=>nomatch z))
theorem RdFs.kp:∀{v:List V} {d:List Ad} {F:List Addr},RdFs K H v d F->Kp F H H'->RdFs K H' v d F
 | _,_,_,.nil,_=>.nil
 | _,_,_,.cons h hs,k=>.cons (RdF.kp h (k.sub λ_ z=>Am _ z)) (RdFs.kp hs (k.sub λ_ z=>Ah _ z))
end
theorem Ma:∀n,(Wu n).depth=n
 | 0=>by simp [Wu,Cq]
 | n+1=>by
  have:=Ma n
  simp only[Wu,Cq,Bg,this]
  omega
theorem qS{ks:List (Int×Ad)}:100<=(PyData.dict (O7 ks)).depth:=by
 have:=Ma 100
 simp only[O7,Cq,PyData.depthKv,this]
 omega
theorem oZ{a:Addr}{ks:List (List Int×Ad)}:100<=(PyData.dict (O0 a ks)).depth:=by
 have:=Ma 100
 simp only[O0,Cq,PyData.depthKv,this]
 omega
theorem sX{ks:List (List Int×Ad)}:100<=(PyData.dict (O8 ks)).depth:=by
 have:=Ma 100
 simp only[O8,Cq,PyData.depthKv,this]
 omega
mutual
theorem RdF.rd:∀{v:V} {d:Ad} {F:List Addr},RdF K H v d F->d.depth<=90->RdV K H v d
 | _,_,_,.non,_=>.non
 | _,_,_,.bl b,_=>.bl b
 | _,_,_,.int i,_=>.int i
 | _,_,_,.str x,_=>.str x
 | _,_,_,.lst h l hs,z=>.lst (Om.of h) (RdFs.rd hs (by simp only[Cq] at z; omega))
 | _,_,_,.tup h l hs,z=>.tup (Pe.of h) (RdFs.rd hs (by simp only[Cq] at z; omega))
 | _,_,_,.dic h e hs,z=>absurd (Bk sX z) (by decide)
 | _,_,_,.dik h e hs,z=>absurd (Bk qS z) (by decide)
 | _,_,_,.dnm h e hs,z=>absurd (Bk oZ z) (by decide)
theorem RdFs.rd:∀{v:List V} {d:List Ad} {F:List Addr},RdFs K H v d F->Bg d<=90->RdVs K H v d
 | _,_,_,.nil,_=>.nil
 | _,_,_,.cons h hs,z=>.cons (RdF.rd h (by simp only[Bg] at z; omega)) (RdFs.rd hs (by simp only[Bg] at z; omega))
end
mutual
theorem RdF.dom:∀{v:V} {d:Ad} {F:List Addr},RdF K H v d F->∀a∈F,∃o,H a=some o
 | _,_,_,.non,_,z=>nomatch z
 | _,_,_,.bl b,_,z=>nomatch z
 | _,_,_,.int i,_,z=>nomatch z
 | _,_,_,.str x,_,z=>nomatch z
 | _,_,_,.lst h l hs,b,z=>by
  rcases Ag.mp z with rfl | z
  ·exact ⟨_,h⟩
  ·exact RdFs.dom hs b z
 | _,_,_,.tup h l hs,b,z=>RdFs.dom hs b z
 | _,_,_,.dic h e hs,b,z=>⟨_,Aj.mp z▸h⟩
 | _,_,_,.dik h e hs,b,z=>⟨_,Aj.mp z▸h⟩
 | _,_,_,.dnm h e hs,b,z=>⟨_,Aj.mp z▸h⟩
theorem RdFs.dom:∀{v:List V} {d:List Ad} {F:List Addr},RdFs K H v d F->∀a∈F,∃o,H a=some o
 | _,_,_,.nil,_,z=>nomatch z
 | _,_,_,.cons h hs,b,z=>by
  rcases Ay.mp z with z | z
  ·exact RdF.dom h b z
  ·exact RdFs.dom hs b z
end
theorem RdFs.len:∀{v:List V} {d:List Ad} {F:List Addr},RdFs K H v d F->v.length=d.length
 | _,_,_,.nil=>rfl
 | _,_,_,.cons _ t=>by rw[Bo,Bo,RdFs.len t]
theorem RdFs.get:∀{v:List V} {d:List Ad} {F:List Addr} {i:Nat} {e:Ad},RdFs K H v d F->d[i]? = some e->∃x G,v[i]? = some x/\RdF K H x e G/\G.Sublist F
 | _,_,_,_,_,.nil,z=>by simp at z
 | _,_,_,0,_,.cons h _,z=>by
  simp at z
  subst z
  exact ⟨_,_,rfl,h,fZ _ _⟩
 | _,_,_,i+1,e,.cons _ t,z=>by
  obtain ⟨x,G,h1,h2,h3⟩:=RdFs.get (i:=i) (e:=e) t (by simpa using z)
  exact ⟨x,G,by simpa using h1,h2,h3.trans (Ce _ _)⟩
theorem RdFs.app:∀{v w:List V} {d e:List Ad} {F G:List Addr},RdFs K H v d F->RdFs K H w e G->RdFs K H (v++w) (d++e) (F++G)
 | _,_,_,_,_,_,.nil,h=>h
 | _,_,_,_,_,_,.cons a t,h=>by
  rw[Dn]
  exact .cons a (RdFs.app t h)
theorem RdFs.snoc{v:List V}{d:List Ad}{F G:List Addr}{x:V}{e:Ad}(t:RdFs K H v d F)(h:RdF K H x e G):RdFs K H (v++[x]) (d++[e]) (F++G):=by
 have:=t.app (.cons h .nil)
 rw[Dc] at this
 exact this
end
mutual
def imm:Ad->Bool
 | .list _=>false
 | .dict _=>false
 | .tuple xs=>Dk xs
 | _=>true
def Dk:List Ad->Bool
 | []=>true
 | x::xs=>imm x && Dk xs
end
theorem iF:∀{xs:List Ad},Dk xs=true↔∀x∈xs,imm x=true
 | []=>by simp [Dk]
 | x::xs=>by simp [Dk,iF (xs:=xs)]
theorem Qk{α:Type}{f:α->Ad}(h:∀a,imm (f a)=true)(l:List α):Dk (l.map f)=true:=iF.mpr λx hx=>by
 obtain ⟨a,_,rfl⟩:=Bv.mp hx
 exact h a
theorem pZ(ns:List Int):imm (Bs ns)=true:=by
 unfold Bs
 rw[imm]
 exact Qk (λ_=>by simp [imm]) ns
section
variable{K:PySem.W.Frag}{H H':Hp}
mutual
theorem RdF.imm:∀{v:V} {d:Ad} {F:List Addr},RdF K H v d F->DL.imm d=true->F=[]
 | _,_,_,.non,_=>rfl
 | _,_,_,.bl b,_=>rfl
 | _,_,_,.int i,_=>rfl
 | _,_,_,.str x,_=>rfl
 | _,_,_,.lst h l hs,k=>by simp [DL.imm] at k
 | _,_,_,.tup h l hs,k=>RdFs.imm hs (by simpa [DL.imm] using k)
 | _,_,_,.dic h e hs,k=>by simp [DL.imm] at k
 | _,_,_,.dik h e hs,k=>by simp [DL.imm] at k
 | _,_,_,.dnm h e hs,k=>by simp [DL.imm] at k
theorem RdFs.imm:∀{v:List V} {d:List Ad} {F:List Addr},RdFs K H v d F->Dk d=true->F=[]
 | _,_,_,.nil,_=>rfl
 | _,_,_,.cons h hs,k=>by
  rw[Dk,Cp] at k
  rw[RdF.imm h k.1,RdFs.imm hs k.2]
  rfl
end
end
inductive Md where
 | pk | sh | tp | ow
 deriving DecidableEq
inductive DV where
 | un
 | dat (m:Md) (d:Ad)
 | drw
 | dT (kvs:List (List Vg×Ad))
 | val (v:V)
 | scr (ns:List Int)
 | acc (ds:List Ad)
 | grd (Hc:Hp)
 | tpl (xs:List V)
structure DS where
 sl:List DV
 n:Nat
structure Ent where
 v:Option V
 x:DV
 F:List Addr
def Lr:DV->Bool
 | .dat .pk _=>true
 | _=>false
def C1:DV->Bool
 | .drw=>true
 | _=>false
def j8:DV->Bool
 | .drw=>true
 | .acc _=>true
 | .dT _=>true
 | .grd _=>true
 | _=>false
def cells(e:Ent):List Addr:=match e.x with
 | .dat .ow _=>e.F
 | .dat .tp _=>e.F.take 1
 | .drw=>e.F
 | .dT _=>e.F
 | .acc _=>e.F.take 1
 | .grd _=>e.F
 | _=>[]
theorem Fk(e:Ent):∀a∈cells e,a∈e.F:=by
 obtain ⟨v,x,F⟩:=e
 intro a h
 cases x with
 | un=>exact nomatch h
 | val _=>exact nomatch h
 | scr _=>exact nomatch h
 | drw=>exact h
 | dT _=>exact h
 | grd _=>exact h
 | tpl _=>exact nomatch h
 | acc _=>exact (Fz _ _).subset h
 | dat m d =>
  cases m with
  | pk=>exact nomatch h
  | sh=>exact nomatch h
  | tp=>exact (Fz _ _).subset h
  | ow=>exact h
def Ru(e f:Ent):Prop:=((Lr f.x=false\/j8 e.x=true)->∀a∈cells e,a∉f.F)/\((Lr e.x=false\/j8 f.x=true)->∀a∈cells f,a∉e.F)
theorem Ru.symm{e f:Ent}(h:Ru e f):Ru f e:=⟨h.2,h.1⟩
def Gg(K:PySem.W.Frag)(H:Hp)(n:Nat)(e:Ent):Prop:=match e.x with
 | .un=>e.F=[]
 | .dat m d=>∃v,e.v=some v/\RdF K H v d e.F/\(m=.ow->e.F.Nodup)/\(m=.tp->∀a l,e.F=a::l->a∉l)
 | .drw=>∃dr c k f,e.v=some (.ref dr)/\e.F=[dr]/\dZ H dr c k f/\0<=k/\k<=(n:Int)
 | .dT kvs=>∃a ks,e.v=some (.ref a)/\e.F=[a]/\H a=some (.dT ks)/\ks.map (·.1)=kvs.map (·.1)/\RdFs K H (ks.map (·.2)) (kvs.map (·.2)) []
 | .val v=>e.v=some v/\e.F=[]
 | .scr ns=>∃a,e.v=some (.ref a)/\e.F=[]/\KL K H a (ns.map V.int)/\ns.length<=63
 | .acc ds=>∃a xs G,e.v=some (.ref a)/\e.F=a::G/\H a=some (.lst xs)/\RdFs K H xs ds G/\ds.length<=Be/\a∉G
 | .grd Hc=>∀a∈e.F,∃o,Hc a=some o/\H a=some o
 | .tpl xs=>∃t,e.v=some (.ref t)/\H t=some (.tup xs)/\e.F=[]
structure At(K:PySem.W.Frag)(H0:Hp)(X:Addr->Prop)(n:Nat)(E:List Ent)(H:Hp):Prop where
 ok:∀e∈E,Gg K H n e
 sep:E.Pairwise Ru
 new:∀e∈E,∀a∈cells e,H0 a=none\/(X a/\C1 e.x=true)
 same:∀b o,¬ X b->H0 b=some o->H b=some o
 dom:∀b o,H0 b=some o->∃o',H b=some o'
 xd:∀b,X b->H0 b≠none/\∃c k f,dZ H b c k f/\0<=k/\k<=(n:Int)
section
variable{K:PySem.W.Frag}{H0 H H':Hp}{X:Addr->Prop}{n n':Nat}{E E' S T:List Ent}{e f:Ent}
theorem At.perm(h:At K H0 X n E H)(p:E.Perm E'):At K H0 X n E' H :=
 ⟨λe he=>h.ok e (p.mem_iff.mpr he),(p.pairwise_iff λ{a b}=>Ru.symm).mp h.sep,λe he=>h.new e (p.mem_iff.mpr he),h.same,h.dom,h.xd⟩
theorem At.sub(h:At K H0 X n E H)(p:E'.Sublist E):At K H0 X n E' H :=
 ⟨λe he=>h.ok e (p.subset he),h.sep.sublist p,λe he=>h.new e (p.subset he),h.same,h.dom,h.xd⟩
theorem At.drop(h:At K H0 X n (S++e::T) H):At K H0 X n (S++T) H:=h.sub ((Cj S).append (Cu _ _))
theorem qN:(S++e::T).Perm (e::(S++T)):=Dl
theorem At.mid(h:At K H0 X n (S++e::T) H):At K H0 X n (e::(S++T)) H:=h.perm qN
theorem At.tomid(h:At K H0 X n (e::(S++T)) H):At K H0 X n (S++e::T) H:=h.perm qN.symm
theorem Gg.dom(h:Gg K H n e):∀a∈e.F,∃o,H a=some o:=by
 obtain ⟨v,x,F⟩:=e
 intro a ha
 cases x with
 | un=>rw[show F=[] from h] at ha; cases ha
 | val _=>rw[show F=[] from h.2] at ha; cases ha
 | scr _ =>
  obtain ⟨_,_,hF,_⟩:=h
  rw[show F=[] from hF] at ha; cases ha
 | dat m d =>
  obtain ⟨w,_,h,_⟩:=h
  obtain ⟨xs,z⟩:=h.dom a ha
  exact ⟨_,z⟩
 | drw =>
  obtain ⟨dr,c,k,f,_,hF,h,_⟩:=h
  rw[show F=[dr] from hF] at ha
  rw[Aj.mp ha]
  exact ⟨_,h⟩
 | grd Hc =>
  obtain ⟨o,_,z⟩:=h a ha
  exact ⟨o,z⟩
 | tpl xs =>
  obtain ⟨_,_,_,hF⟩:=h
  rw[show F=[] from hF] at ha; cases ha
 | dT kvs =>
  obtain ⟨b,ks,_,hF,h,_⟩:=h
  rw[show F=[b] from hF] at ha
  rw[Aj.mp ha]
  exact ⟨_,h⟩
 | acc ds =>
  obtain ⟨b,ks,G,_,hF,h,hr,_⟩:=h
  rw[show F=b::G from hF] at ha
  rcases Ag.mp ha with rfl | ha
  ·exact ⟨_,h⟩
  ·obtain ⟨xs,z⟩:=hr.dom a ha
   exact ⟨_,z⟩
theorem Gg.kp(h:Gg K H n e)(k:Kp e.F H H')(hn:n<=n'):Gg K H' n' e:=by
 obtain ⟨v,x,F⟩:=e
 cases x with
 | un=>exact h
 | val _=>exact h
 | scr _ =>
  obtain ⟨a,h1,h2,h3,h4⟩:=h
  exact ⟨a,h1,h2,h3.kp k,h4⟩
 | dat m d =>
  obtain ⟨w,h1,h2,h3⟩:=h
  exact ⟨w,h1,h2.kp k,h3⟩
 | drw =>
  obtain ⟨dr,c,kk,f,h1,hF,h2,h3,h4⟩:=h
  have hF':F=[dr]:=hF
  subst hF'
  exact ⟨dr,c,kk,f,h1,rfl,k _ _ h2 (.inl Aa),h3,by omega⟩
 | tpl xs =>
  obtain ⟨t,h1,h2,h3⟩:=h
  exact ⟨t,h1,k _ _ h2 (.inr (.inl ⟨_,rfl⟩)),h3⟩
 | grd Hc =>
  intro a ha
  obtain ⟨o,h1,h2⟩:=h a ha
  exact ⟨o,h1,k _ _ h2 (.inl ha)⟩
 | dT kvs =>
  obtain ⟨b,ks,h1,hF,h2,h3,h4⟩:=h
  have hF':F=[b]:=hF
  subst hF'
  exact ⟨b,ks,h1,rfl,k _ _ h2 (.inl Aa),h3,h4.kp (k.sub λ_ z=>nomatch z)⟩
 | acc ds =>
  obtain ⟨b,ks,G,h1,hF,h2,h3,h4⟩:=h
  have hF':F=b::G:=hF
  subst hF'
  exact ⟨b,ks,G,h1,rfl,k _ _ h2 (.inl Aa),h3.kp (k.sub λ_ z=>Ab _ z),h4⟩
theorem At.grow(h:At K H0 X n E H)(s:Oh H H')(hn:n<=n'):At K H0 X n' E H' :=
 ⟨λe he=>(h.ok e he).kp (Kp.of s) hn,h.sep,h.new,λb o nx e=>s _ _ (h.same b o nx e),λb o e=>let ⟨o',q⟩:=h.dom b o e; ⟨o',s _ _ q⟩,λb hb=>let ⟨z,c,k,f,h1,h2,h3⟩:=h.xd b hb; ⟨z,c,k,f,s _ _ h1,h2,by omega⟩⟩
theorem At.free(h:At K H0 X n E H){a:Addr}(ha:H a=none):∀e∈E,a∉e.F:=λe he z=>by
 obtain ⟨o,q⟩:=(h.ok e he).dom a z
 rw[ha] at q; cases q
theorem At.push(h:At K H0 X n E H)(ok:Gg K H n e)(sep:∀f∈E,Ru e f)(new:∀a∈cells e,H0 a=none\/(X a/\C1 e.x=true)):At K H0 X n (e::E) H :=
 ⟨λg hg=>by
  rcases Ag.mp hg with rfl | hg
  ·exact ok
  ·exact h.ok g hg,Av.mpr ⟨sep,h.sep⟩,λg hg=>by
  rcases Ag.mp hg with rfl | hg
  ·exact new
  ·exact h.new g hg,h.same,h.dom,h.xd⟩
theorem At.new0(h:At K H0 X n E H){p:Addr}(hp:H p=none):H0 p=none:=by
 cases q:H0 p with
 | none=>rfl
 | some o =>
  obtain ⟨o',z⟩:=h.dom p o q
  rw[hp] at z; cases z
theorem uQ{v:Option V}{m:Md}{d:Ad}:Ru ⟨v,.dat m d,[]⟩ f:=by
 refine ⟨λ_ a ha=>?_,λ_ a _=>Cr⟩
 have:=Fk _ a ha
 cases this
theorem At.pushI(h:At K H0 X n (S++T) H){v:V}{m:Md}{d:Ad}(r:RdF K H v d []):At K H0 X n (S++⟨some v,.dat m d,[]⟩::T) H :=
 (h.push (e:=⟨some v,.dat m d,[]⟩) ⟨v,rfl,r,λ_=>Fe,λ_ a l z=>nomatch z⟩ (λf _=>uQ) (λa ha=>nomatch Fk _ a ha)).tomid
def wk:Md->Md->Bool
 | _,.pk=>true
 | .pk,_=>false
 | _,.sh=>true
 | .sh,_=>false
 | _,.tp=>true
 | .tp,.ow=>false
 | .ow,.ow=>true
theorem eY{v:Option V}{m m':Md}{d:Ad}{F:List Addr}(w:wk m m'=true):∀a∈cells ⟨v,.dat m' d,F⟩,a∈cells ⟨v,.dat m d,F⟩:=by
 intro a ha
 cases m <;> cases m' <;> first | exact absurd w (by decide) | exact ha | exact absurd ha Cr | exact (Fz 1 F).subset ha
theorem nC{α:Type}{F:List α}(h:F.Nodup):∀a l,F=a::l->a∉l:=λa l e=>by
 subst e
 exact (Cg.mp h).1
theorem Gg.wk{v:Option V}{m m':Md}{d:Ad}{F:List Addr}(w:wk m m'=true)(h:Gg K H n ⟨v,.dat m d,F⟩):Gg K H n ⟨v,.dat m' d,F⟩:=by
 obtain ⟨u,h1,h2,h3,h4⟩:=h
 refine ⟨u,h1,h2,λe=>?_,λe=>?_⟩
 ·subst e
  cases m <;> first | exact absurd w (by decide) | exact h3 rfl
 ·subst e
  cases m <;> first | exact absurd w (by decide) | exact h4 rfl | exact nC (h3 rfl)
theorem Ru.wk{v:Option V}{m m':Md}{d:Ad}{F:List Addr}(w:wk m m'=true)(h:Ru ⟨v,.dat m d,F⟩ f):Ru ⟨v,.dat m' d,F⟩ f:=by
 refine ⟨λhp a ha=>?_,λhp a ha=>?_⟩
 ·rcases hp with hp | hp
  ·exact h.1 (.inl hp) a (eY w a ha)
  ·cases hp
 ·rcases hp with hp | hp
  ·refine h.2 (.inl ?_) a ha
   cases m <;> cases m' <;> first | rfl | exact absurd w (by decide) | exact absurd hp (by show ¬ (true=false); decide)
  ·exact h.2 (.inr hp) a ha
theorem At.wk{v:Option V}{m m':Md}{d:Ad}{F:List Addr}(w:wk m m'=true)(h:At K H0 X n (⟨v,.dat m d,F⟩::E) H):At K H0 X n (⟨v,.dat m' d,F⟩::E) H:=by
 have hs:=Av.mp h.sep
 refine (h.sub (Cu _ _)).push ((h.ok _ Aa).wk w) (λf hf=>(hs.1 f hf).wk w) λa ha=>?_
 rcases h.new _ Aa a (eY w a ha) with z | z
 ·exact .inl z
 ·cases z.2
end
abbrev DE:=DS->(DV->DS->Prop)->Prop
abbrev DT:=DS->(Bool->DS->Prop)->Prop
abbrev DA:=DS->(List DV->DS->Prop)->Prop
structure DEnds where
 nx:DS->Prop
 rt:DV->DS->Prop
 bk:DS->Prop:=λ_=>False
 ct:DS->Prop:=λ_=>False
abbrev DB:=DEnds->DS->Prop
abbrev DG:=DV->DS->(DS->Prop)->Prop
abbrev pS:=List DV->DS->(DS->Prop)->Prop
def vs(S:List Ent):L2.St:=S.map Ent.v
def Sl(S:List Ent)(δ:DS):Prop:=S.map Ent.x=δ.sl
section
variable(K:PySem.W.Frag)
def LE(de:DE):TE:=λσ H Q=>∃(H0:Hp) (X:Addr->Prop) (S T:List Ent) (δ:DS) (P:DV->DS->Prop),vs S=σ/\Sl S δ/\At K H0 X δ.n (S++T) H/\de δ P /\
 ∀x δ' v F S' H',vs S'=σ->Sl S' δ'->At K H0 X δ'.n (S'++⟨some v,x,F⟩::T) H'->P x δ'->Q v H'
def LT(dt:DT):TT:=λσ H Q=>∃(H0:Hp) (X:Addr->Prop) (S T:List Ent) (δ:DS) (P:Bool->DS->Prop),vs S=σ/\Sl S δ/\At K H0 X δ.n (S++T) H/\dt δ P /\
 ∀b δ' S' H',vs S'=σ->Sl S' δ'->At K H0 X δ'.n (S'++T) H'->P b δ'->Q b H'
def LA(da:DA):TA:=λσ H Q=>∃(H0:Hp) (X:Addr->Prop) (S T:List Ent) (δ:DS) (P:List DV->DS->Prop),vs S=σ/\Sl S δ/\At K H0 X δ.n (S++T) H/\da δ P /\
 ∀xs δ' As us S' H',vs S'=σ->Sl S' δ'->As.map Ent.x=xs->As.map Ent.v=us.map some->At K H0 X δ'.n (S'++(As++T)) H'->P xs δ'->Q us H'
def LS(db:DB):TS:=λD σ H=>∃(H0:Hp) (X:Addr->Prop) (S T:List Ent) (δ:DS) (P:DEnds),vs S=σ/\Sl S δ/\(∀e∈T,Lr e.x=false)/\At K H0 X δ.n (S++T) H/\db P δ /\
 (∀δ' S' H',Sl S' δ'->At K H0 X δ'.n (S'++T) H'->P.nx δ'->D.nx (vs S') H') /\
 (∀x δ' v F S' H',Sl S' δ'->At K H0 X δ'.n (S'++⟨some v,x,F⟩::T) H'->P.rt x δ'->D.rt v H') /\
 (∀δ' S' H',Sl S' δ'->At K H0 X δ'.n (S'++T) H'->P.bk δ'->D.bk (vs S') H') /\
 (∀δ' S' H',Sl S' δ'->At K H0 X δ'.n (S'++T) H'->P.ct δ'->D.ct (vs S') H')
def LG(dg:DG):TG:=λv σ H Q=>∃(H0:Hp) (X:Addr->Prop) (S T:List Ent) (δ:DS) (x:DV) (F:List Addr) (P:DS->Prop),vs S=σ/\Sl S δ/\At K H0 X δ.n (S++⟨some v,x,F⟩::T) H/\dg x δ P /\
 ∀δ' S' H',Sl S' δ'->At K H0 X δ'.n (S'++T) H'->P δ'->Q (vs S') H'
def V8(dg:pS):vF:=λus σ H Q=>∃(H0:Hp) (X:Addr->Prop) (S T As:List Ent) (δ:DS) (P:DS->Prop),vs S=σ/\Sl S δ/\As.map Ent.v=us.map some/\At K H0 X δ.n (S++(As++T)) H/\dg (As.map Ent.x) δ P /\
 ∀δ' S' H',Sl S' δ'->At K H0 X δ'.n (S'++T) H'->P δ'->Q (vs S') H'
end
abbrev Ei(X:Cx)(e:Expr)(de:DE):Prop:=PE X e (LE X.K de)
abbrev Zw(X:Cx)(e:Expr)(dt:DT):Prop:=PT X e (LT X.K dt)
abbrev t7(X:Cx)(e:Expr)(dt:DT):Prop:=PW X e (LT X.K dt)
abbrev lC(X:Cx)(es:List Expr)(da:DA):Prop:=PA X es (LA X.K da)
abbrev cE(X:Cx)(st:Stmt)(db:DB):Prop:=PS X st (LS X.K db)
abbrev Ut(X:Cx)(st:List Stmt)(db:DB):Prop:=gV X st (LS X.K db)
abbrev K1(X:Cx)(tg:Expr)(dg:DG):Prop:=PG X tg (LG X.K dg)
abbrev uO(X:Cx)(tg:List Expr)(dg:pS):Prop:=zJ X tg (V8 X.K dg)
theorem PE.imp{X:Cx}{e:Expr}{t t':TE}(h:PE X e t)(k:∀σ H Q,t' σ H Q->t σ H Q):PE X e t':=λpins s σ H Q I q=>h pins s σ H Q I (k σ H Q q)
theorem PT.imp{X:Cx}{e:Expr}{t t':TT}(h:PT X e t)(k:∀σ H Q,t' σ H Q->t σ H Q):PT X e t':=λpins s σ H Q I q=>h pins s σ H Q I (k σ H Q q)
theorem PW.imp{X:Cx}{e:Expr}{t t':TT}(h:PW X e t)(k:∀σ H Q,t' σ H Q->t σ H Q):PW X e t':=λwh pins s σ H Q I q=>h wh pins s σ H Q I (k σ H Q q)
theorem PA.imp{X:Cx}{e:List Expr}{t t':TA}(h:PA X e t)(k:∀σ H Q,t' σ H Q->t σ H Q):PA X e t':=λpos pins s σ H Q I q=>h pos pins s σ H Q I (k σ H Q q)
theorem PG.imp{X:Cx}{e:Expr}{t t':TG}(h:PG X e t)(k:∀v σ H Q,t' v σ H Q->t v σ H Q):PG X e t':=λpins s σ H v u Q I r q=>h pins s σ H v u Q I r (k v σ H Q q)
theorem zJ.imp{X:Cx}{e:List Expr}{t t':vF}(h:zJ X e t)(k:∀v σ H Q,t' v σ H Q->t v σ H Q):zJ X e t':=λpins s σ H v u Q I r q=>h pins s σ H v u Q I r (k v σ H Q q)
section
variable{K:PySem.W.Frag}{H:Hp}{v:V}{F:List Addr}
theorem RdF.int_inv{i:Int}(h:RdF K H v (.int i) F):v=.int i/\F=[]:=by cases h; exact ⟨rfl,rfl⟩
theorem RdF.bl_inv{i:Bool}(h:RdF K H v (.bool i) F):v=.bl i/\F=[]:=by cases h; exact ⟨rfl,rfl⟩
theorem RdF.str_inv{i:Str}(h:RdF K H v (.str i) F):v=.str i/\F=[]:=by cases h; exact ⟨rfl,rfl⟩
theorem RdF.non_inv(h:RdF K H v .none F):v=.non/\F=[]:=by cases h; exact ⟨rfl,rfl⟩
theorem RdF.list_inv{ds:List Ad}(h:RdF K H v (.list ds) F):∃a xs G,v=.ref a/\H a=some (.lst xs)/\RdFs K H xs ds G/\F=a::G/\ds.length<=Be:=by
 cases h with
 | lst h l hs=>exact ⟨_,_,_,rfl,h,hs,rfl,l⟩
theorem RdF.tup_inv{ds:List Ad}(h:RdF K H v (.tuple ds) F):∃a xs,v=.ref a/\H a=some (.tup xs)/\RdFs K H xs ds F/\ds.length<=Be:=by
 cases h with
 | tup h l hs=>exact ⟨_,_,rfl,h,hs,l⟩
end
section
variable{K:PySem.W.Frag}{H0 H H':Hp}{X:Addr->Prop}{n:Nat}{E S T:List Ent}{v:V}{m:Md}{d:Ad}{F:List Addr}
theorem At.told(h:At K H0 X n E H)(he:⟨some v,.dat m d,F⟩∈E):RdF K H v d F:=by
 obtain ⟨w,e1,h1,_⟩:=h.ok _ he
 cases e1
 exact h1
theorem mem_mid{e:Ent}:e∈S++e::T:=Ah _ Aa
theorem Em{e f:Ent}:f∈S++e::f::T:=Ah _ (Ab _ Aa)
theorem At.drop2{e f:Ent}(h:At K H0 X n (S++e::f::T) H):At K H0 X n (S++T) H:=h.drop.drop
theorem At.dropL{As:List Ent}(h:At K H0 X n (S++(As++T)) H):At K H0 X n (S++T) H:=h.sub ((Cj S).append (Ce As T))
end
def eN:Md->Md
 | .ow=>.pk
 | .tp=>.pk
 | m=>m
def j5(i:Nat):DE:=λδ P=>match δ.sl[i]? with
 | some (.dat m d)=>P (.dat (eN m) d) δ
 | _=>False
def dC(d:Ad):DE:=λδ P=>P (.dat .ow d) δ
theorem Iv{S:List Ent}{δ:DS}{i:Nat}{x:DV}(h:Sl S δ)(e:δ.sl[i]? = some x):∃ent,S[i]? = some ent/\ent.x=x:=by
 unfold Sl at h
 rw[<- h,Bf] at e
 cases q:S[i]? with
 | none=>rw[q] at e; cases e
 | some ent=>rw[q] at e; exact ⟨ent,rfl,Bl e⟩
theorem Ks{S:List Ent}{i:Nat}{e:Ent}(h:S[i]? = some e):(vs S)[i]? = some e.v:=by
 unfold vs
 rw[Bf,h]
 rfl
theorem At.look{K:PySem.W.Frag}{H0 H:Hp}{X:Addr->Prop}{n:Nat}{S T:List Ent}{u:Option V}{v:V}{m:Md}{d:Ad}{F:List Addr}(h:At K H0 X n (S++T) H)(he:⟨u,.dat m d,F⟩∈S)(hu:u=some v):At K H0 X n (S++⟨some v,.dat (eN m) d,F⟩::T) H:=by
 subst hu
 obtain ⟨S1,S2,rfl⟩:=List.append_of_mem he
 have hp:((S1++⟨some v,.dat m d,F⟩::S2)++T).Perm (⟨some v,.dat m d,F⟩::(S1++(S2++T))):=by
  rw[Dn,Ey]
  exact Dl
 have h2:=h.perm hp
 have hs:=Av.mp h2.sep
 refine (h.push (e:=⟨some v,.dat (eN m) d,F⟩) ?_ (λf hf=>?_) λa ha=>?_).tomid
 ·obtain ⟨w,e1,h1,_⟩:=h2.ok _ Aa
  refine ⟨w,e1,h1,λz=>?_,λz=>?_⟩ <;> cases m <;> cases z
 ·refine ⟨λ_ a ha=>?_,λhq a ha=>?_⟩
  ·cases m <;> exact nomatch ha
  ·rcases Ag.mp (hp.mem_iff.mp hf) with rfl | hf
   ·rcases hq with hq | hq
    ·cases m <;> first | cases hq; done | exact nomatch ha
    ·cases hq
   ·refine (hs.1 f hf).2 ?_ a ha
    rcases hq with hq | hq
    ·refine .inl ?_
     cases m <;> first | rfl | exact hq
    ·exact .inr hq
 ·cases m <;> exact nomatch ha
section
variable{X:Cx}{e:Expr}
theorem Ai{i:Nat}(h:PE X e (Yi i)):Ei X e (j5 i):=by
 refine PE.imp h λσ H Q h=>?_
 obtain ⟨H0,Y,S,T,δ,P,rfl,hS,hA,hd,k⟩:=h
 unfold j5 at hd
 split at hd
 ·rename_i m d e1
  obtain ⟨ent,e2,e3⟩:=Iv hS e1
  have hm:ent∈S:=Ao e2
  obtain ⟨u,x,F⟩:=ent
  subst e3
  obtain ⟨v,hv,_⟩:=hA.ok _ (Am _ hm)
  refine ⟨v,by rw[Ks e2]; exact congrArg some hv,k _ δ v F S H rfl hS (hA.look hm hv) hd⟩
 ·exact hd.elim
theorem bT{v:V}{d:Ad}(h:PE X e (tC v))(r:∀H,RdF X.K H v d []):Ei X e (dC d):=by
 refine PE.imp h λσ H Q h=>?_
 obtain ⟨H0,Y,S,T,δ,P,rfl,hS,hA,hd,k⟩:=h
 exact k _ δ v [] S H rfl hS (hA.pushI (r H)) hd
theorem Cn{i j pos}:Ei X (.Constant (.int i) j pos) (dC (.int i)):=bT El λ_=>.int i
theorem fP{i j pos}:Ei X (.Constant (.bool i) j pos) (dC (.bool i)):=bT oR λ_=>.bl i
theorem Jf{i j pos}:Ei X (.Constant (.str i) j pos) (dC (.str i)):=bT r9 λ_=>.str i
theorem pI{j pos}:Ei X (.Constant .none j pos) (dC .none):=bT q9 λ_=>.non
end
def E5(de:DE):DE:=λδ P=>de δ λx δ'=>match x with
 | .dat _ d=>imm d=true/\P (.dat .ow d) δ'
 | _=>False
theorem Jt{X:Cx}{e:Expr}{de:DE}(h:Ei X e de):Ei X e (E5 de):=by
 refine PE.imp h λσ H Q h=>?_
 obtain ⟨H0,Y,S,T,δ,P,rfl,hS,hA,hd,k⟩:=h
 refine ⟨H0,Y,S,T,δ,_,rfl,hS,hA,hd,λx δ' v F S' H' e1 e2 hA' p=>?_⟩
 cases x with
 | dat m d =>
  have r:=hA'.told mem_mid
  obtain rfl:=r.imm p.1
  exact k _ δ' v [] S' H' e1 e2 (hA'.drop.pushI r) p.2
 | _=>exact p.elim
def sT(i:Nat):DE:=λδ P=>match δ.sl[i]? with
 | some (.dat m d)=>P (.dat m d) ⟨δ.sl.set i .un,δ.n⟩
 | _=>False
theorem Ws{α:Type}:∀{l:List α} {i:Nat} {x y:α},l[i]? = some x->(y::l).Perm (x::l.set i y)
 | [],i,x,y,h=>by simp at h
 | z::l,0,x,y,h=>by
  simp at h
  subst h
  exact Do _ _ _
 | z::l,i+1,x,y,h=>by
  have ih:=Ws (l:=l) (i:=i) (x:=x) (y:=y) (by simpa using h)
  rw[List.set_cons_succ]
  exact (Do z y l).trans ((ih.cons z).trans (Do x z _))
theorem Ke{X:Cx}{e:Expr}{i:Nat}(h:PE X e (Yi i)):Ei X e (sT i):=by
 refine PE.imp h λσ H Q h=>?_
 obtain ⟨H0,Y,S,T,δ,P,rfl,hS,hA,hd,k⟩:=h
 unfold sT at hd
 split at hd
 ·rename_i m d e1
  obtain ⟨ent,e2,e3⟩:=Iv hS e1
  have hm:ent∈S:=Ao e2
  obtain ⟨u,x,F⟩:=ent
  subst e3
  obtain ⟨v,hv,hv2⟩:=hA.ok _ (Am _ hm)
  have hv':u=some v:=hv
  subst hv'
  refine ⟨v,by rw[Ks e2],k _ _ v F (S.set i ⟨some v,.un,[]⟩) H ?_ ?_ ?_ hd⟩
  ·unfold vs
   rw[Iu]
   apply Kc
   intro j
   rw[Ka]
   split
   ·rename_i hij
    subst hij
    rw[Bf,e2]
    split
    ·rfl
    ·rename_i hj
     rw[Ac] at hj
     exact absurd (Aw.mp e2).1 hj
   ·rfl
  ·unfold Sl at hS ⊢
   rw[Iu,hS]
  ·have hp:=hA.push (e:=⟨some v,.un,[]⟩) (show Gg X.K H δ.n ⟨some v,.un,[]⟩ from rfl) (λf _=>⟨λ_ a ha=>(nomatch ha),λ_ a _=>Cr⟩) (λa ha=>(nomatch ha))
   have p1:(⟨some v,.un,[]⟩::(S++T)).Perm ((S.set i ⟨some v,.un,[]⟩)++⟨some v,.dat m d,F⟩::T):=by
    rw[<- Ey]
    exact ((Ws (y:=(⟨some v,.un,[]⟩ : Ent)) e2).append_right T).trans (by rw[Ey]; exact List.perm_middle.symm)
   exact hp.perm p1
 ·exact hd.elim
abbrev D2:=DV->DV->(DV->Prop)->Prop
def gE(K:PySem.W.Frag)(r:R2)(rd:D2):Prop:=∀(H0:Hp) (X:Addr->Prop) (n:Nat) (S T:List Ent) (x y:DV) (v w:V) (F G:List Addr) (H:Hp) (Q:VK) (P:DV->Prop),
 At K H0 X n (S++⟨some w,y,G⟩::⟨some v,x,F⟩::T) H->rd x y P->(∀z u F' H',At K H0 X n (S++⟨some u,z,F'⟩::T) H'->P z->Q u H')->r v w H Q
def Tq(rd:D2)(da db:DE):DE:=λδ P=>da δ λx δ1=>db δ1 λy δ2=>rd x y λz=>P z δ2
theorem lH{K:PySem.W.Frag}{r:R2}{rd:D2}{da db:DE}(o:gE K r rd):∀σ H Q,LE K (Tq rd da db) σ H Q->F6 r (LE K da) (LE K db) σ H Q:=by
 intro σ H Q h
 obtain ⟨H0,Y,S,T,δ,P,rfl,hS,hA,hd,k⟩:=h
 refine ⟨H0,Y,S,T,δ,_,rfl,hS,hA,hd,λx δ1 v F S1 H1 e1 e2 hA1 p1=>?_⟩
 refine ⟨H0,Y,S1,⟨some v,x,F⟩::T,δ1,_,e1,e2,hA1,p1,λy δ2 w G S2 H2 e3 e4 hA2 p2=>?_⟩
 exact o H0 Y δ2.n S2 T x y v w F G H2 Q _ hA2 p2 λz u F' H' hA3 p3=>k z δ2 u F' S2 H' e3 e4 hA3 p3
section
variable{X:Cx}{a b:Expr}{da db:DE}{pos:Pos}{r:R2}{rd:D2}
theorem Rj{op:Operator}(ho:Rv X (Gj op) r)(o:gE X.K r rd)(ha:Ei X a da)(hb:Ei X b db):Ei X (.BinOp a op b pos) (Tq rd da db):=PE.imp (He ho ha hb) (lH o)
theorem hW{op:CmpOp}(ho:Rv X (Ip op) r)(o:gE X.K r rd)(ha:Ei X a da)(hb:Ei X b db)(hm:Gs op b=false):Ei X (.Compare a [op] [b] pos) (Tq rd da db):=PE.imp (uP ho ha hb hm) (lH o)
theorem F8(ho:uD X r)(o:gE X.K r rd)(ha:Ei X a da)(hb:Ei X b db)(hs:aE b):Ei X (.Subscript a b pos) (Tq rd da db):=PE.imp (Ww ho ha hb hs) (lH o)
end
def A3(C:Int->Int->Prop)(g:Int->Int->Ad):D2:=λx y P=>match x,y with
 | .dat _ (.int i),.dat _ (.int j)=>C i j/\P (.dat .ow (g i j))
 | _,_=>False
def Xw(g:Int->Int->Ad):D2:=λx y P=>match x,y with
 | .dat _ (.int i),.dat _ (.int j)=>P (.dat .ow (g i j))
 | _,_=>False
section
variable{K:PySem.W.Frag}
theorem yT{C:Int->Int->Prop}{g:Int->Int->V}{g':Int->Int->Ad}(h:∀i j H,RdF K H (g i j) (g' i j) []):gE K (rI C g) (A3 C g'):=by
 intro H0 X n S T x y v w F G H Q P hA hd k
 unfold A3 at hd
 split at hd
 ·obtain ⟨rfl,_⟩:=(hA.told Em).int_inv
  obtain ⟨rfl,_⟩:=(hA.told mem_mid).int_inv
  exact ⟨_,_,rfl,rfl,hd.1,k _ _ [] H (hA.drop2.pushI (h _ _ H)) hd.2⟩
 ·exact hd.elim
theorem dH{g:Int->Int->V}{g':Int->Int->Ad}(h:∀i j H,RdF K H (g i j) (g' i j) []):gE K (yI g) (Xw g'):=by
 intro H0 X n S T x y v w F G H Q P hA hd k
 unfold Xw at hd
 split at hd
 ·obtain ⟨rfl,_⟩:=(hA.told Em).int_inv
  obtain ⟨rfl,_⟩:=(hA.told mem_mid).int_inv
  exact ⟨_,_,rfl,rfl,k _ _ [] H (hA.drop2.pushI (h _ _ H)) hd⟩
 ·exact hd.elim
end
abbrev rdAdd:D2:=Xw λi j=>.int (i+j)
abbrev rdSub:D2:=Xw λi j=>.int (i - j)
abbrev rdMul:D2:=A3 vM λi j=>.int (i * j)
abbrev rdDiv:D2:=A3 yU λi j=>.int (i / j)
abbrev rdMod:D2:=A3 (λ_ j=>0<j) λi j=>.int (i % j)
abbrev rdLt:D2:=Xw λi j=>.bool (decide (i<j))
abbrev R1:D2:=Xw λi j=>.bool (decide (j<i))
abbrev rdGe:D2:=Xw λi j=>.bool (decide (j<=i))
section
variable{X:Cx}{a b:Expr}{da db:DE}{pos:Pos}
theorem Jv(ha:Ei X a da)(hb:Ei X b db):Ei X (.BinOp a .Add b pos) (Tq rdAdd da db):=Rj Vw (dH λ_ _ _=>.int _) ha hb
theorem Sy(ha:Ei X a da)(hb:Ei X b db):Ei X (.BinOp a .Sub b pos) (Tq rdSub da db):=Rj zA (dH λ_ _ _=>.int _) ha hb
theorem iJ(ha:Ei X a da)(hb:Ei X b db):Ei X (.BinOp a .Mult b pos) (Tq rdMul da db):=Rj Tx (yT λ_ _ _=>.int _) ha hb
theorem Vr(ha:Ei X a da)(hb:Ei X b db):Ei X (.BinOp a .FloorDiv b pos) (Tq rdDiv da db):=Rj aS (yT λ_ _ _=>.int _) ha hb
theorem Jk(ha:Ei X a da)(hb:Ei X b db):Ei X (.BinOp a .Mod b pos) (Tq rdMod da db):=Rj Qm (yT λ_ _ _=>.int _) ha hb
end
def Yb(ne:Bool):D2:=λx y P=>match x,y with
 | .dat _ d,.dat _ e=>d.depth<=60/\e.depth<=60/\P (.dat .ow (.bool (match ne with | true=>!Df d e | false=>Df d e)))
 | _,_=>False
def fM(ne:Bool):D2:=λx y P=>match x,y with
 | .dat _ d,.dat _ (.list es)=>Bg es<=60/\d.depth<=60/\P (.dat .ow (.bool (match ne with | true=>!(es.any λe=>Df e d) | false=>es.any λe=>Df e d)))
 | .dat _ d,.dat _ (.tuple es)=>Bg es<=60/\d.depth<=60/\P (.dat .ow (.bool (match ne with | true=>!(es.any λe=>Df e d) | false=>es.any λe=>Df e d)))
 | _,_=>False
section
variable{K:PySem.W.Frag}
theorem xV:gE K (B6 K) (Yb false):=by
 intro H0 X n S T x y v w F G H Q P hA hd k
 unfold Yb at hd
 split at hd
 ·exact ⟨_,_,(hA.told Em).rd (Bk hd.1 (by decide)),(hA.told mem_mid).rd (Bk hd.2.1 (by decide)),hd.1,k _ _ [] H (hA.drop2.pushI (.bl _)) hd.2.2⟩
 ·exact hd.elim
theorem wY:gE K (L1 K) (Yb true):=by
 intro H0 X n S T x y v w F G H Q P hA hd k
 unfold Yb at hd
 split at hd
 ·exact ⟨_,_,(hA.told Em).rd (Bk hd.1 (by decide)),(hA.told mem_mid).rd (Bk hd.2.1 (by decide)),hd.1,k _ _ [] H (hA.drop2.pushI (.bl _)) hd.2.2⟩
 ·exact hd.elim
theorem qB{ne:Bool}:gE K (zU K ne) (fM ne):=by
 intro H0 X n S T x y v w F G H Q P hA hd k
 unfold fM at hd
 split at hd
 ·obtain ⟨a,xs,G',rfl,hq,hs,_,_⟩:=(hA.told mem_mid).list_inv
  refine ⟨a,xs,_,_,rfl,.inl (Om.of hq),(hA.told Em).rd (Bk hd.2.1 (by decide)),hs.rd (Bk hd.1 (by decide)),hd.1,?_⟩
  cases ne with
  | true=>exact k _ _ [] H (hA.drop2.pushI (.bl _)) hd.2.2
  | false=>exact k _ _ [] H (hA.drop2.pushI (.bl _)) hd.2.2
 ·obtain ⟨a,xs,rfl,hq,hs,_⟩:=(hA.told mem_mid).tup_inv
  refine ⟨a,xs,_,_,rfl,.inr (Pe.of hq),(hA.told Em).rd (Bk hd.2.1 (by decide)),hs.rd (Bk hd.1 (by decide)),hd.1,?_⟩
  cases ne with
  | true=>exact k _ _ [] H (hA.drop2.pushI (.bl _)) hd.2.2
  | false=>exact k _ _ [] H (hA.drop2.pushI (.bl _)) hd.2.2
 ·exact hd.elim
def isNone:Ad->Bool
 | .none=>true
 | _=>false
theorem vA{v:V}{H:Hp}{d:Ad}{F:List Addr}(r:RdF K H v d F):decide (v=.non)=isNone d:=by
 cases r <;> simp [isNone]
def lG(ne:Bool):D2:=λx y P=>match x,y with
 | .dat _ d,.dat _ .none=>P (.dat .ow (.bool (match ne with | true=>!isNone d | false=>isNone d)))
 | _,_=>False
theorem p6:gE K (λx y H Q=>y=.non/\Q (.bl (decide (x=.non))) H) (lG false):=by
 intro H0 X n S T x y v w F G H Q P hA hd k
 unfold lG at hd
 split at hd
 ·obtain ⟨rfl,_⟩:=(hA.told mem_mid).non_inv
  refine ⟨rfl,k _ _ [] H (hA.drop2.pushI (m:=.ow) (.bl _)) ?_⟩
  rw[vA (hA.told Em)]
  exact hd
 ·exact hd.elim
end
section
variable{X:Cx}{a b:Expr}{da db:DE}{pos:Pos}
theorem xK(hu:X.A.units+64<cLine)(ha:Ei X a da)(hb:Ei X b db):Ei X (.Compare a [.Eq] [b] pos) (Tq (Yb false) da db):=hW (oD hu) xV ha hb (Nu _)
theorem F5(hu:X.A.units+64<cLine)(ha:Ei X a da)(hb:Ei X b db):Ei X (.Compare a [.NotEq] [b] pos) (Tq (Yb true) da db):=hW (pJ hu) wY ha hb (Nu _)
theorem wZ(hu:X.A.units+64<cLine)(ha:Ei X a da)(hb:Ei X b db)(hm:Gs .In b=false:=by with_unfolding_all rfl):Ei X (.Compare a [.In] [b] pos) (Tq (fM false) da db):=hW (sL hu) qB ha hb hm
end
def Ly:Md->Md
 | .ow=>.ow
 | .tp=>.sh
 | m=>m
theorem At.part{K:PySem.W.Frag}{H0 H:Hp}{X:Addr->Prop}{n:Nat}{S T:List Ent}{v w:V}{m:Md}{d e:Ad}{F G:List Addr}(h:At K H0 X n (S++⟨some v,.dat m d,F⟩::T) H)(r:RdF K H w e G)(hG:G.Sublist F):At K H0 X n (S++⟨some w,.dat (Ly m) e,G⟩::T) H:=by
 have h2:=h.mid
 have hs:=Av.mp h2.sep
 obtain ⟨v',e1,h1,hn,ht⟩:=h2.ok _ Aa
 have cs:∀a∈cells ⟨some w,.dat (Ly m) e,G⟩,a∈cells ⟨some v,.dat m d,F⟩:=λa ha=>by
  cases m with
  | ow=>exact hG.subset ha
  | tp=>exact nomatch ha
  | sh=>exact nomatch ha
  | pk=>exact nomatch ha
 refine (h.drop.push (e:=⟨some w,.dat (Ly m) e,G⟩) ⟨w,rfl,r,λz=>?_,λz=>?_⟩ (λf hf=>?_) λa ha=>?_).tomid
 ·cases m with
  | ow=>exact (hn rfl).sublist hG
  | _=>cases z
 ·cases m <;> cases z
 ·refine ⟨λhp a ha=>(hs.1 f hf).1 ?_ a (cs a ha),λhp a ha z=>(hs.1 f hf).2 ?_ a ha (hG.subset z)⟩
  ·rcases hp with hp | hp
   ·exact .inl hp
   ·cases hp
  ·rcases hp with hp | hp
   ·refine .inl ?_
    cases m <;> first | rfl | exact hp
   ·exact .inr hp
 ·rcases h2.new _ Aa a (cs a ha) with z | z
  ·exact .inl z
  ·cases z.2
def rR:D2:=λx y P=>match x,y with
 | .dat m (.list ds),.dat _ (.int i)=>∃d,Qp ds i=some d/\P (.dat (Ly m) d)
 | .dat m (.tuple ds),.dat _ (.int i)=>∃d,Qp ds i=some d/\P (.dat (Ly m) d)
 | .dat _ (.str z),.dat _ (.int i)=>z.length<=Be/\∃c,Qp z.cps.toList i=some c/\P (.dat .ow (.str ⟨#[c]⟩))
 | _,_=>False
theorem tF{K:PySem.W.Frag}{H:Hp}{xs:List V}{ds:List Ad}{F:List Addr}{i:Int}{d:Ad}(r:RdFs K H xs ds F)(h:Qp ds i=some d):∃x G,Qp xs i=some x/\RdF K H x d G/\G.Sublist F:=by
 unfold Qp at h ⊢
 rw[r.len]
 cases e:nZ ds.length i with
 | none=>rw[e] at h; cases h
 | some j =>
  rw[e] at h
  exact r.get h
theorem At.swap{K:PySem.W.Frag}{H0 H:Hp}{X:Addr->Prop}{n:Nat}{S T:List Ent}{e f:Ent}(h:At K H0 X n (S++e::f::T) H):At K H0 X n (S++f::e::T) H:=h.perm ((Fm S).append (Do f e T))
theorem L3{K:PySem.W.Frag}:gE K (T5 K) rR:=by
 intro H0 X n S T x y v w F G H Q P hA hd k
 unfold rR at hd
 split at hd
 ·obtain ⟨d,hi,p⟩:=hd
  obtain ⟨rfl,_⟩:=(hA.told mem_mid).int_inv
  have r:=hA.told Em
  have hA':=hA.drop
  obtain ⟨a,xs,G0,rfl,hq,hs,hG,_⟩:=r.list_inv
  obtain ⟨x,G',h1,h2,h3⟩:=tF hs hi
  subst hG
  exact .inl ⟨_,_,_,_,rfl,rfl,Om.of hq,h1,k _ _ G' H (hA'.part h2 (h3.trans (Cu _ _))) p⟩
 ·obtain ⟨d,hi,p⟩:=hd
  obtain ⟨rfl,_⟩:=(hA.told mem_mid).int_inv
  have r:=hA.told Em
  have hA':=hA.drop
  obtain ⟨a,xs,rfl,hq,hs,_⟩:=r.tup_inv
  obtain ⟨x,G',h1,h2,h3⟩:=tF hs hi
  exact .inr (.inl ⟨_,_,_,_,rfl,rfl,Pe.of hq,h1,k _ _ G' H (hA'.part h2 h3) p⟩)
 ·obtain ⟨hz,c,hi,p⟩:=hd
  obtain ⟨rfl,_⟩:=(hA.told mem_mid).int_inv
  obtain ⟨rfl,_⟩:=(hA.told Em).str_inv
  exact .inr (.inr ⟨_,_,_,rfl,rfl,hz,hi,k _ _ [] H (hA.drop2.pushI (.str _)) p⟩)
 ·exact hd.elim
theorem Ik{X:Cx}{a b:Expr}{da db:DE}{pos:Pos}(ha:Ei X a da)(hb:Ei X b db)(hs:aE b:=by intro _ _; rfl):Ei X (.Subscript a b pos) (Tq rR da db):=F8 i5 L3 ha hb hs
def Xi:Md->Md
 | .ow=>.ow
 | .pk=>.pk
 | _=>.tp
def Pz(i:Bool)(m:Md)(ds:List Ad)(P:DV->Prop):Prop:=match i with
 | true=>Dk ds=true/\P (.dat .ow (.list ds))
 | false=>P (.dat (Xi m) (.list ds))
def aB(i:Bool)(m:Md)(ds:List Ad)(P:DV->Prop):Prop:=match i with
 | true=>Dk ds=true/\P (.dat .ow (.tuple ds))
 | false=>P (.dat (Ly m) (.tuple ds))
section
variable{K:PySem.W.Frag}{H0 H:Hp}{X:Addr->Prop}{n:Nat}{S T:List Ent}{v w:V}{m:Md}{d e:Ad}{F G:List Addr}{p:Addr}{xs:List V}{ds:List Ad}{P:DV->Prop}{i:Bool}
theorem At.newI(h:At K H0 X n (S++T) H)(r:RdFs K H xs ds G)(hi:Dk ds=true)(hz:ds.length<=Be)(hp:H p=none)(m:Md):At K H0 X n (S++⟨some (.ref p),.dat m (.list ds),[p]⟩::T) (upd H p (.lst xs)):=by
 obtain rfl:=r.imm hi
 have s1:=Ep hp (.lst xs)
 have h1:=h.grow (n':=n) s1 (An _)
 refine (h1.push (e:=⟨some (.ref p),.dat m (.list ds),[p]⟩) ⟨_,rfl,.lst Dh hz (r.kp (Kp.of s1)),λ_=>Cg.mpr ⟨Cr,Fe⟩,λ_ a l z=>by cases z; exact Cr⟩ (λf hf=>?_) λa ha=>?_).tomid
 ·have nf:=h.free hp f hf
  refine ⟨λ_ a ha z=>?_,λ_ a ha z=>?_⟩
  ·have:=Fk _ a ha
   rw[Aj.mp this] at z
   exact nf z
  ·rw[Aj.mp z] at ha
   exact nf (Fk _ _ ha)
 ·have:=Fk _ a ha
  rw[Aj.mp this]
  exact .inl (h.new0 hp)
theorem At.newL(h:At K H0 X n (S++⟨some v,.dat m d,F⟩::T) H)(r:RdFs K H xs ds G)(hG:G.Sublist F)(hz:ds.length<=Be)(hp:H p=none)(q:Pz i m ds P):∃z F',At K H0 X n (S++⟨some (.ref p),z,F'⟩::T) (upd H p (.lst xs))/\P z:=by
 cases i with
 | true=>exact ⟨_,_,h.drop.newI r q.1 hz hp .ow,q.2⟩
 | false =>
  have q:P (.dat (Xi m) (.list ds)):=q
  refine ⟨_,p::G,?_,q⟩
  have s1:=Ep hp (.lst xs)
  have h2:=h.mid
  have hs:=Av.mp h2.sep
  obtain ⟨v',e1,_,hn,_⟩:=h2.ok _ Aa
  have h1:=h.drop.grow (n':=n) s1 (An _)
  have npF:p∉F:=h2.free hp _ Aa
  have npG:p∉G:=λz=>npF (hG.subset z)
  have cs:∀a∈cells ⟨some (.ref p),.dat (Xi m) (.list ds),p::G⟩,a=p\/(a∈cells ⟨some v,.dat m d,F⟩):=λa ha=>by
   cases m with
   | ow =>
    rcases Ag.mp ha with z | z
    ·exact .inl z
    ·exact .inr (hG.subset z)
   | tp=>exact .inl (Aj.mp ha)
   | sh=>exact .inl (Aj.mp ha)
   | pk=>exact nomatch ha
  refine (h1.push (e:=⟨some (.ref p),.dat (Xi m) (.list ds),p::G⟩) ⟨_,rfl,.lst Dh hz (r.kp (Kp.of s1)),λz=>?_,λz a l e=>?_⟩ (λf hf=>?_) λa ha=>?_).tomid
  ·cases m with
   | ow=>exact Cg.mpr ⟨npG,(hn rfl).sublist hG⟩
   | _=>cases z
  ·cases e
   exact npG
  ·have nf:=h2.free hp f (Ab _ hf)
   refine ⟨λhq a ha z=>?_,λhq a ha z=>?_⟩
   ·rcases cs a ha with rfl | hc
    ·exact nf z
    ·refine (hs.1 f hf).1 ?_ a hc z
     rcases hq with hq | hq
     ·exact .inl hq
     ·cases hq
   ·rcases Ag.mp z with rfl | z
    ·exact nf (Fk _ _ ha)
    ·refine (hs.1 f hf).2 ?_ a ha (hG.subset z)
     rcases hq with hq | hq
     ·refine .inl ?_
      cases m <;> first | rfl | exact hq
     ·exact .inr hq
  ·rcases cs a ha with rfl | hc
   ·exact .inl (h2.new0 hp)
   ·rcases h2.new _ Aa a hc with z | z
    ·exact .inl z
    ·cases z.2
theorem At.newT(h:At K H0 X n (S++⟨some v,.dat m d,F⟩::T) H)(r:RdFs K H xs ds G)(hG:G.Sublist F)(hz:ds.length<=Be)(hp:H p=none)(q:aB i m ds P):∃z F',At K H0 X n (S++⟨some (.ref p),z,F'⟩::T) (upd H p (.tup xs))/\P z:=by
 have s1:=Ep hp (.tup xs)
 have h1:=h.grow (n':=n) s1 (An _)
 cases i with
 | true =>
  obtain rfl:=r.imm q.1
  exact ⟨_,[],h1.drop.pushI (.tup Dh hz (r.kp (Kp.of s1))),q.2⟩
 | false=>exact ⟨_,G,h1.part (.tup Dh hz (r.kp (Kp.of s1))) hG,q⟩
theorem At.oldT{t:Addr}(h:At K H0 X n (S++⟨some v,.dat m d,F⟩::T) H)(r:RdFs K H xs ds G)(hG:G.Sublist F)(hz:ds.length<=Be)(ht:H t=some (.tup xs))(q:aB i m ds P):∃z F',At K H0 X n (S++⟨some (.ref t),z,F'⟩::T) H/\P z:=by
 cases i with
 | true =>
  obtain rfl:=r.imm q.1
  exact ⟨_,[],h.drop.pushI (.tup ht hz r),q.2⟩
 | false=>exact ⟨_,G,h.part (.tup ht hz r) hG,q⟩
end
def J6:DA:=λδ P=>P [] δ
def wW(de:DE)(da:DA):DA:=λδ P=>de δ λx δ1=>da δ1 λxs δ2=>P (x::xs) δ2
section
variable{X:Cx}{e:Expr}{es:List Expr}{de:DE}{da:DA}
theorem Ap:lC X [] J6:=by
 refine PA.imp Mm λσ H Q h=>?_
 obtain ⟨H0,Y,S,T,δ,P,rfl,hS,hA,hd,k⟩:=h
 exact k [] δ [] [] S H rfl hS rfl rfl hA hd
theorem Af(ha:Ei X e de)(hr:lC X es da)(hs:Bj (e::es) X.env=(false,eval e X.env)::Bj es X.env:=by rfl):lC X (e::es) (wW de da):=by
 refine PA.imp (Gb ha hr hs) λσ H Q h=>?_
 obtain ⟨H0,Y,S,T,δ,P,rfl,hS,hA,hd,k⟩:=h
 refine ⟨H0,Y,S,T,δ,_,rfl,hS,hA,hd,λx δ1 v F S1 H1 e1 e2 hA1 p1=>?_⟩
 refine ⟨H0,Y,S1,⟨some v,x,F⟩::T,δ1,_,e1,e2,hA1,p1,λxs δ2 As us S2 H2 e3 e4 ex eu hA2 p2=>?_⟩
 refine k (x::xs) δ2 (⟨some v,x,F⟩::As) (v::us) S2 H2 e3 e4 (by rw[Au,ex]) (by rw[Au,Au,eu]) (hA2.perm ((Fm S2).append ?_)) p2
 exact Dl
end
def allOw:List DV->Bool
 | []=>true
 | .dat .ow _::xs=>allOw xs
 | _=>false
def noPk:List DV->Bool
 | []=>true
 | .dat .pk _::_=>false
 | .dat _ _::xs=>noPk xs
 | _=>false
def datas:List DV->Option (List Ad)
 | []=>some []
 | .dat _ d::xs=>(datas xs).map (d::·)
 | _=>none
def pkMd(top:Md)(xs:List DV):Md:=if allOw xs=true then .ow else if noPk xs=true then top else .pk
section
variable{K:PySem.W.Frag}{H0 H:Hp}{X:Addr->Prop}{n:Nat}{S T As:List Ent}
theorem Rc:∀{As:List Ent} {us:List V} {ds:List Ad},As.map Ent.v=us.map some->datas (As.map Ent.x)=some ds->(∀e∈As,Gg K H n e)->RdFs K H us ds (As.flatMap Ent.F)
 | [],us,ds,e,h,_=>by
  cases us with
  | nil=>cases h; exact .nil
  | cons _ _=>cases e
 | ent::As,us,ds,e,h,ok=>by
  cases us with
  | nil=>cases e
  | cons u us =>
   rw[Au,Au] at e
   obtain ⟨e1,e2⟩:=Ml e
   obtain ⟨v,x,F⟩:=ent
   have e1':v=some u:=e1
   subst e1'
   rw[Au] at h
   cases x with
   | dat m d =>
    rw[show datas (DV.dat m d::As.map Ent.x)=(datas (As.map Ent.x)).map (d::·) from rfl] at h
    cases q:datas (As.map Ent.x) with
    | none=>rw[q] at h; cases h
    | some es =>
     rw[q] at h
     cases h
     obtain ⟨w,ew,rw',_⟩:=ok _ Aa
     cases ew
     rw[Kb]
     exact .cons rw' (Rc e2 q λf hf=>ok f (Ab _ hf))
   | _=>cases h
theorem Mw:∀{As:List Ent},allOw (As.map Ent.x)=true->∀e∈As,∃d,e.x=.dat .ow d
 | [],_,_,h=>nomatch h
 | ⟨v,x,F⟩::As,h,e,he=>by
  rw[Au] at h
  have hx:(∃d,x=.dat .ow d)/\allOw (As.map Ent.x)=true:=by
   cases x with
   | dat m d=>cases m <;> first | exact ⟨⟨d,rfl⟩,h⟩ | cases h
   | _=>cases h
  rcases Ag.mp he with rfl | he
  ·exact hx.1
  ·exact Mw hx.2 e he
theorem cQ:∀{As:List Ent},noPk (As.map Ent.x)=true->∀e∈As,Lr e.x=false
 | [],_,_,h=>nomatch h
 | ⟨v,x,F⟩::As,h,e,he=>by
  rw[Au] at h
  have hx:Lr x=false/\noPk (As.map Ent.x)=true:=by
   cases x with
   | dat m d=>cases m <;> first | exact ⟨rfl,h⟩ | cases h
   | _=>cases h
  rcases Ag.mp he with rfl | he
  ·exact hx.1
  ·exact cQ hx.2 e he
theorem Vx:∀{As:List Ent},(∀e∈As,∃d,e.x=.dat .ow d)->(∀e∈As,Gg K H n e)->As.Pairwise Ru->(As.flatMap Ent.F).Nodup
 | [],_,_,_=>Fe
 | ent::As,ho,ok,hs=>by
  rw[Kb]
  have hc:=Av.mp hs
  obtain ⟨v,x,F⟩:=ent
  obtain ⟨d,hd⟩:=ho _ Aa
  have hd':x=.dat .ow d:=hd
  subst hd'
  obtain ⟨w,_,_,hn,_⟩:=ok _ Aa
  refine Ga.mpr ⟨hn rfl,Vx (λe he=>ho e (Ab _ he)) (λe he=>ok e (Ab _ he)) hc.2,λa ha b hb z=>?_⟩
  subst z
  obtain ⟨f,hf,hb⟩:=Da.mp hb
  obtain ⟨d',hd'⟩:=ho f (Ab _ hf)
  exact (hc.1 f hf).1 (.inl (by rw[hd']; rfl)) a ha hb
theorem At.pack{v:V}{d:Ad}{N:List Addr}{H':Hp}{top:Md}(h:At K H0 X n (S++(As++T)) H)(s:Oh H H')(hN:∀a∈N,H a=none)(ndN:N.Nodup)(htop:(top=.tp/\N.length=1)\/(top=.sh/\N=[]))(r:RdF K H' v d (N++As.flatMap Ent.F)):At K H0 X n (S++⟨some v,.dat (pkMd top (As.map Ent.x)) d,N++As.flatMap Ent.F⟩::T) H':=by
 have hp:(S++(As++T)).Perm (As++(S++T)):=by
  rw[<- Dn,<- Dn]
  exact Hq.append_right T
 have h2:=h.perm hp
 have hs:=Fd.mp h2.sep
 have h1:=(h.dropL).grow (n':=n) s (An _)
 have nN:∀a∈N,∀f∈As++(S++T),a∉f.F:=λa ha f hf=>h2.free (hN a ha) f hf
 have nFlat:∀a∈N,a∉As.flatMap Ent.F:=λa ha z=>by
  obtain ⟨f,hf,z⟩:=Da.mp z
  exact nN a ha f (Am _ hf) z
 have cs:∀a∈cells ⟨some v,.dat (pkMd top (As.map Ent.x)) d,N++As.flatMap Ent.F⟩,a∈N\/(allOw (As.map Ent.x)=true/\∃f∈As,a∈cells f):=λa ha=>by
  unfold pkMd at ha
  by_cases hw:allOw (As.map Ent.x)=true
  ·rw[if_pos hw] at ha
   rcases Ay.mp ha with z | z
   ·exact .inl z
   ·obtain ⟨f,hf,z⟩:=Da.mp z
    obtain ⟨d',hd'⟩:=Mw hw f hf
    refine .inr ⟨hw,f,hf,?_⟩
    unfold cells
    rw[hd']
    exact z
  ·rw[if_neg hw] at ha
   by_cases hk:noPk (As.map Ent.x)=true
   ·rw[if_pos hk] at ha
    rcases htop with ⟨rfl,h1⟩ | ⟨rfl,rfl⟩
    ·match N,h1,ha with
     | [b],_,ha=>exact .inl ha
    ·exact nomatch ha
   ·rw[if_neg hk] at ha
    exact nomatch ha
 refine (h1.push (e:=⟨some v,.dat (pkMd top (As.map Ent.x)) d,N++As.flatMap Ent.F⟩) ⟨_,rfl,r,λz=>?_,λz a l e=>?_⟩ (λf hf=>?_) λa ha=>?_).tomid
 ·have hw:allOw (As.map Ent.x)=true:=by
   unfold pkMd at z
   by_cases hw:allOw (As.map Ent.x)=true
   ·exact hw
   ·rw[if_neg hw] at z
    split at z
    ·rcases htop with ⟨rfl,_⟩ | ⟨rfl,_⟩ <;> cases z
    ·cases z
  refine Ga.mpr ⟨ndN,Vx (Mw hw) (λe he=>h2.ok e (Am _ he)) hs.1,λa ha b hb e=>?_⟩
  subst e
  exact nFlat a ha hb
 ·have ht:top=.tp:=by
   unfold pkMd at z
   split at z
   ·cases z
   ·split at z
    ·exact z
    ·cases z
  subst ht
  rcases htop with ⟨_,h1⟩ | ⟨h1,_⟩
  ·match N,h1,e,nFlat with
   | [b],_,e,nFlat =>
    cases e
    exact nFlat a Aa
  ·cases h1
 ·have hf':f∈As++(S++T):=Ah _ hf
  refine ⟨λhq a ha z=>?_,λhq a ha z=>?_⟩
  ·rcases cs a ha with hn | ⟨_,g,hg,hc⟩
   ·exact nN a hn f hf' z
   ·refine (hs.2.2 g hg f hf).1 ?_ a hc z
    rcases hq with hq | hq
    ·exact .inl hq
    ·cases hq
  ·rcases Ay.mp z with z | z
   ·exact nN a z f hf' (Fk _ _ ha)
   ·obtain ⟨g,hg,z⟩:=Da.mp z
    refine (hs.2.2 g hg f hf).2 ?_ a ha z
    rcases hq with hq | hq
    ·refine .inl ?_
     have hq':Lr (.dat (pkMd top (As.map Ent.x)) d)=false:=hq
     unfold pkMd at hq'
     by_cases hw:allOw (As.map Ent.x)=true
     ·obtain ⟨d',hd'⟩:=Mw hw g hg
      rw[hd']
      rfl
     ·rw[if_neg hw] at hq'
      by_cases hk:noPk (As.map Ent.x)=true
      ·exact cQ hk g hg
      ·rw[if_neg hk] at hq'
       cases hq'
    ·exact .inr hq
 ·rcases cs a ha with hn | ⟨_,g,hg,hc⟩
  ·exact .inl (h2.new0 (hN a hn))
  ·rcases h2.new g (Am _ hg) a hc with z | z
   ·exact .inl z
   ·obtain ⟨d',hd'⟩:=Mw (by assumption) g hg
    rw[hd'] at z
    cases z.2
end
def B8(da:DA):DE:=λδ P=>da δ λxs δ'=>match datas xs with
 | some ds=>ds.length<=1000/\P (.dat (pkMd .sh xs) (.tuple ds)) δ'
 | none=>False
def B7(da:DA):DE:=λδ P=>da δ λxs δ'=>match datas xs with
 | some ds=>ds.length<=1000/\P (.dat (pkMd .tp xs) (.list ds)) δ'
 | none=>False
section
variable{X:Cx}{es:List Expr}{da:DA}{pos:Pos}
theorem Hl{x1}(h:lC X es da):Ei X (.Tuple es x1 pos) (B8 da):=by
 refine PE.imp (zN h) λσ H Q h=>?_
 obtain ⟨H0,Y,S,T,δ,P,rfl,hS,hA,hd,k⟩:=h
 refine ⟨H0,Y,S,T,δ,_,rfl,hS,hA,hd,λxs δ' As us S' H' e1 e2 ex eu hA' p=>?_⟩
 cases q:datas xs with
 | none=>rw[q] at p; exact p.elim
 | some ds =>
  rw[q] at p
  subst ex
  have r:=Rc eu q λe he=>hA'.ok e (Ah _ (Am _ he))
  have hl:=r.len
  have hz:ds.length<=Be:=sz p.1
  refine ⟨by omega,λt ht=>?_⟩
  have s1:=Ep ht (.tup us)
  exact k _ δ' _ _ S' _ e1 e2 (hA'.pack (N:=[]) s1 (λ_ z=>nomatch z) Fe (.inr ⟨rfl,rfl⟩) (.tup Dh hz (r.kp (Kp.of s1)))) p.2
theorem Fo(h:lC X es da):Ei X (.List es pos) (B7 da):=by
 refine PE.imp (gS h) λσ H Q h=>?_
 obtain ⟨H0,Y,S,T,δ,P,rfl,hS,hA,hd,k⟩:=h
 refine ⟨H0,Y,S,T,δ,_,rfl,hS,hA,hd,λxs δ' As us S' H' e1 e2 ex eu hA' p=>?_⟩
 cases q:datas xs with
 | none=>rw[q] at p; exact p.elim
 | some ds =>
  rw[q] at p
  subst ex
  have r:=Rc eu q λe he=>hA'.ok e (Ah _ (Am _ he))
  have hl:=r.len
  have hz:ds.length<=Be:=sz p.1
  refine ⟨by omega,λt ht=>?_⟩
  have s1:=Ep ht (.lst us)
  exact k _ δ' _ _ S' _ e1 e2 (hA'.pack (N:=[t]) s1 (λa z=>by rw[Aj.mp z]; exact ht) (Cg.mpr ⟨Cr,Fe⟩) (.inl ⟨rfl,rfl⟩) (.lst Dh hz (r.kp (Kp.of s1)))) p.2
end
end DL
namespace Nd
open PySem PySem.Spec PyProof.Rows L2
section
variable{X:Cx}
def yH:V->Option Int->Option Int->Hp->VK->Prop:=λx lo hi H Q=>∃a xs,x=.ref a/\H a=some (.tup xs)/\∀p H',H' p=some (.tup (Wm xs lo hi))->Oh H H'->Q (.ref p) H'
theorem uB:zR X yH:=by
 intro pins s σ H x v vl vu lo hi sl Q I rx hs pl pu h
 obtain ⟨a,xs,rfl,hx',q⟩:=h
 have hx:Pe X.K H a xs:=Pe.of hx'
 cases rx
 by_cases hw:HT.sIx xs.length 0 lo=0/\HT.sIx xs.length xs.length hi=xs.length
 ·obtain ⟨its,r,ht,hz⟩:=I.tuple hx
  have hlen:its.toArray.size=xs.length:=by rw[Aq]; exact r.length.symm
  refine ⟨"tuple",_,Dt.lookup,ht.typeIs,?_⟩
  refine Pt ht hs pl pu (by rw[hlen]; exact hw) ⟨.ref a,H,I,rfl,q a H ?_ (Oh.refl _)⟩
  unfold Wm
  rw[hw.1,hw.2,Kd,Vn,Cz]
  exact hx'
 ·exact zV pins s σ H (.ref a) (.ref a) vl vu lo hi sl Q I rfl hs pl pu ⟨a,xs,rfl,hx,hw,λp np=>q p _ Dh (Ep np _)⟩
end
end Nd
namespace Ts
open PySem PyProof.Rows
def le(blt:Keyed->Keyed->Bool)(x y:Keyed):Prop:=blt y x=false
abbrev lst(p q out:Array Keyed)(i j:Nat):Array Keyed:=out++q.extract j q.size++p.extract i p.size
def X(xs:Array Keyed)(i:Nat):Keyed:=xs[i]?.getD (On,On)
variable{blt:Keyed->Keyed->Bool}
end Ts
namespace Ts
open PySem PyProof.Rows L2
end Ts
namespace DL
open PySem L2 Nd
def Hx{α:Type}(xs:List α)(lo hi:Option Int):List α:=(xs.drop (HT.sIx xs.length 0 lo)).take (HT.sIx xs.length xs.length hi - HT.sIx xs.length 0 lo)
theorem fR{α β:Type}(f:α->β)(xs:List α)(lo hi:Option Int):Hx (xs.map f) lo hi=(Hx xs lo hi).map f:=by
 unfold Hx
 rw[Ac,Kw,Sq]
theorem Se{α:Type}(xs:List α)(lo hi:Option Int):(Hx xs lo hi).Sublist xs:=(Fz _ _).trans (List.drop_sublist _ _)
theorem Lf{α:Type}(xs:List α)(k:Nat):Hx xs none (some (k:Int))=xs.take k:=by
 unfold Hx
 rw[HT.sIx_none,HT.sIx_nat,Kd,Vn]
 by_cases h:k<=xs.length
 ·rw[Nat.min_eq_left h]
 ·rw[Xr (by omega),Cz,Hb (by omega)]
section
variable{K:PySem.W.Frag}{H:Hp}
theorem RdFs.drop:∀(n:Nat) {xs:List V} {ds:List Ad} {F:List Addr},RdFs K H xs ds F->∃G,RdFs K H (xs.drop n) (ds.drop n) G/\G.Sublist F
 | 0,_,_,F,h=>⟨F,h,Cj _⟩
 | n+1,_,_,_,.nil=>⟨[],.nil,Cj _⟩
 | n+1,_,_,_,.cons _ t=>by
  obtain ⟨G,h1,h2⟩:=RdFs.drop n t
  exact ⟨G,h1,h2.trans (Ce _ _)⟩
theorem RdFs.take:∀(n:Nat) {xs:List V} {ds:List Ad} {F:List Addr},RdFs K H xs ds F->∃G,RdFs K H (xs.take n) (ds.take n) G/\G.Sublist F
 | 0,_,_,F,h=>⟨[],.nil,List.nil_sublist _⟩
 | n+1,_,_,_,.nil=>⟨[],.nil,Cj _⟩
 | n+1,_,_,_,.cons a t=>by
  obtain ⟨G,h1,h2⟩:=RdFs.take n t
  exact ⟨_,.cons a h1,(Cj _).append h2⟩
theorem RdFs.cut{xs:List V}{ds:List Ad}{F:List Addr}(h:RdFs K H xs ds F)(lo hi:Option Int):∃G,RdFs K H (Wm xs lo hi) (Hx ds lo hi) G/\G.Sublist F:=by
 unfold Wm Hx
 rw[h.len]
 obtain ⟨G,h1,h2⟩:=h.drop (HT.sIx ds.length 0 lo)
 obtain ⟨G',h3,h4⟩:=h1.take (HT.sIx ds.length ds.length hi - HT.sIx ds.length 0 lo)
 exact ⟨G',h3,h4.trans h2⟩
theorem RdFs.ints:∀ns:List Int,RdFs K H (ns.map V.int) (ns.map Ba) []
 | []=>.nil
 | n::ns=>RdFs.cons (F:=[]) (.int n) (RdFs.ints ns)
theorem RdFs.ints_inv:∀{ns:List Int} {xs:List V} {F:List Addr},RdFs K H xs (ns.map Ba) F->xs=ns.map V.int/\F=[]
 | [],_,_,h=>by cases h; exact ⟨rfl,rfl⟩
 | n::ns,_,_,h=>by
  rw[Au] at h
  cases h with
  | cons a t =>
   obtain ⟨rfl,rfl⟩:=a.int_inv
   obtain ⟨rfl,rfl⟩:=RdFs.ints_inv t
   exact ⟨rfl,rfl⟩
theorem RdFs.bools_inv:∀{ns:List Bool} {xs:List V} {F:List Addr},RdFs K H xs (ns.map PyData.bool) F->xs=ns.map V.bl/\F=[]
 | [],_,_,h=>by cases h; exact ⟨rfl,rfl⟩
 | n::ns,_,_,h=>by
  rw[Au] at h
  cases h with
  | cons a t =>
   obtain ⟨rfl,rfl⟩:=a.bl_inv
   obtain ⟨rfl,rfl⟩:=RdFs.bools_inv t
   exact ⟨rfl,rfl⟩
end
theorem Xa{a b:List Ad}:Dk (a++b)=(Dk a && Dk b):=by
 induction a with
 | nil=>simp [Dk]
 | cons x a ih=>simp [Dk,ih,Bool.and_assoc]
theorem Uh(ns:List Int):Dk (ns.map Ba)=true:=Qk (λ_=>by simp [imm]) ns
def kG:D2:=λx y P=>match x,y with
 | .dat _ (.list ds),.dat _ (.list es)=>Dk ds=true/\Dk es=true/\ds.length+es.length<=1000000/\P (.dat .ow (.list (ds++es)))
 | _,_=>False
def bA:D2:=λx y P=>match x,y with
 | .dat _ (.tuple ds),.dat _ (.tuple es)=>Dk ds=true/\Dk es=true/\ds.length+es.length<=1000000/\P (.dat .ow (.tuple (ds++es)))
 | _,_=>False
def T6:D2:=λx y P=>match x,y with
 | .dat _ (.list ds),.dat _ (.int k)=>Dk ds=true /\ -1000000<=k/\k<=1000000/\ds.length * k.toNat<=1000000/\P (.dat .ow (.list (Gn k.toNat ds).flatten))
 | _,_=>False
def bS:D2:=λx y P=>match x,y with
 | .dat _ (.str i),.dat _ (.str j)=>i.length+j.length<=1000000/\P (.dat .ow (.str (i++j)))
 | _,_=>False
section
variable{K:PySem.W.Frag}
theorem yR:gE K o4 kG:=by
 intro H0 X n S T x y v w F G H Q P hA hd k
 unfold kG at hd
 split at hd
 ·obtain ⟨i1,i2,hz,p⟩:=hd
  obtain ⟨b,ys,G1,rfl,hb,rb,_,_⟩:=(hA.told mem_mid).list_inv
  obtain ⟨a,xs,G2,rfl,ha,ra,_,_⟩:=(hA.told Em).list_inv
  have l1:=ra.len
  have l2:=rb.len
  refine ⟨a,b,xs,ys,rfl,rfl,ha,hb,gC (by omega),λq hq=>?_⟩
  exact k _ _ _ _ (hA.drop2.newI (ra.app rb) (by rw[Xa,i1,i2]; rfl) (by rw[Ax]; exact gC (by omega)) hq .ow) p
 ·exact hd.elim
theorem vU:gE K (yA K) bA:=by
 intro H0 X n S T x y v w F G H Q P hA hd k
 unfold bA at hd
 split at hd
 ·obtain ⟨i1,i2,hz,p⟩:=hd
  obtain ⟨b,ys,rfl,hb,rb,zb⟩:=(hA.told mem_mid).tup_inv
  obtain ⟨a,xs,rfl,ha,ra,za⟩:=(hA.told Em).tup_inv
  have l1:=ra.len
  have l2:=rb.len
  obtain rfl:=ra.imm i1
  obtain rfl:=rb.imm i2
  refine ⟨a,b,xs,ys,rfl,rfl,Pe.of ha,Pe.of hb,gC (by omega),λe=>?_,λe=>?_,λq hq=>?_⟩
  ·subst e
   obtain rfl:=Gp.mp (l1.symm.trans rfl)
   exact k _ _ [] _ (hA.drop2.pushI (.tup hb zb rb)) p
  ·subst e
   obtain rfl:=Gp.mp (l2.symm.trans rfl)
   rw[Dc] at p
   exact k _ _ [] _ (hA.drop2.pushI (.tup ha za ra)) p
  ·have s1:=Ep hq (.tup (xs++ys))
   exact k _ _ [] _ ((hA.drop2.grow s1 (An _)).pushI (.tup Dh (by rw[Ax]; exact gC (by omega)) ((ra.app rb).kp (Kp.of s1)))) p
 ·exact hd.elim
theorem wM:gE K (λx y H Q=>∃i j,x=.str i/\y=.str j/\i.length+j.length<=Be/\Q (.str (i++j)) H) bS:=by
 intro H0 X n S T x y v w F G H Q P hA hd k
 unfold bS at hd
 split at hd
 ·obtain ⟨rfl,_⟩:=(hA.told mem_mid).str_inv
  obtain ⟨rfl,_⟩:=(hA.told Em).str_inv
  exact ⟨_,_,rfl,rfl,gC hd.1,k _ _ [] H (hA.drop2.pushI (.str _)) hd.2⟩
 ·exact hd.elim
end
section
variable{X:Cx}{a b:Expr}{da db:DE}{pos:Pos}
theorem iO(ha:Ei X a da)(hb:Ei X b db):Ei X (.BinOp a .Add b pos) (Tq kG da db):=Rj tG yR ha hb
theorem tZ(ha:Ei X a da)(hb:Ei X b db):Ei X (.BinOp a .Add b pos) (Tq bA da db):=Rj wK vU ha hb
theorem jS(ha:Ei X a da)(hb:Ei X b db):Ei X (.BinOp a .Add b pos) (Tq bS da db):=Rj iA wM ha hb
end
abbrev DO:=DS->(Option Int->DS->Prop)->Prop
def LO(K:PySem.W.Frag)(do_:DO):TO:=λσ H Q=>∃(H0:Hp) (X:Addr->Prop) (S T:List Ent) (δ:DS) (P:Option Int->DS->Prop),vs S=σ/\Sl S δ/\At K H0 X δ.n (S++T) H/\do_ δ P /\
 ∀o δ' S' H',vs S'=σ->Sl S' δ'->At K H0 X δ'.n (S'++T) H'->P o δ'->Q o H'
abbrev A2(X:Cx)(e:Option Expr)(d:DO):Prop:=PO X e (LO X.K d)
theorem PO.imp{X:Cx}{e:Option Expr}{t t':TO}(h:PO X e t)(k:∀σ H Q,t' σ H Q->t σ H Q):PO X e t':=λpins s σ H Q I q=>h pins s σ H Q I (k σ H Q q)
def jQ:DO:=λδ P=>P none δ
def xE(de:DE):DO:=λδ P=>de δ λx δ'=>match x with
 | .dat _ (.int i)=>P (some i) δ'
 | _=>False
section
variable{X:Cx}{e:Expr}{de:DE}{lo hi:Option Expr}{dl dh:DO}{pos p2:Pos}
theorem Jn:A2 X none jQ:=by
 refine PO.imp uR λσ H Q h=>?_
 obtain ⟨H0,Y,S,T,δ,P,rfl,hS,hA,hd,k⟩:=h
 exact k _ δ S H rfl hS hA hd
theorem Jj(h:Ei X e de):A2 X (some e) (xE de):=by
 refine PO.imp (vI h) λσ H Q h=>?_
 obtain ⟨H0,Y,S,T,δ,P,rfl,hS,hA,hd,k⟩:=h
 refine ⟨H0,Y,S,T,δ,_,rfl,hS,hA,hd,λx δ' v F S' H' e1 e2 hA' p=>?_⟩
 split at p
 ·obtain ⟨rfl,_⟩:=(hA'.told mem_mid).int_inv
  exact ⟨_,rfl,k _ δ' S' H' e1 e2 hA'.drop p⟩
 ·exact p.elim
def T1(i:Bool)(de:DE)(dl dh:DO):DE:=λδ P=>de δ λx δ1=>dl δ1 λl δ2=>dh δ2 λh δ3=>match x with
 | .dat m (.list ds)=>Pz i m (Hx ds l h) λz=>P z δ3
 | .dat m (.tuple ds)=>aB i m (Hx ds l h) λz=>P z δ3
 | _=>False
def O1(K:PySem.W.Frag):V->Option Int->Option Int->Hp->VK->Prop:=λx lo hi H Q=>u6 K x lo hi H Q\/yH x lo hi H Q
theorem Kh{i:Bool}(he:Ei X e de)(hl:A2 X lo dl)(hh:A2 X hi dh):Ei X (.Subscript e (.Slice lo hi none p2) pos) (T1 i de dl dh):=by
 refine PE.imp (fU (r:=O1 X.K) (uC.or uB) he hl hh) λσ H Q h=>?_
 obtain ⟨H0,Y,S,T,δ,P,rfl,hS,hA,hd,k⟩:=h
 refine ⟨H0,Y,S,T,δ,_,rfl,hS,hA,hd,λx δ1 v F S1 H1 e1 e2 hA1 p1=>?_⟩
 refine ⟨H0,Y,S1,⟨some v,x,F⟩::T,δ1,_,e1,e2,hA1,p1,λl δ2 S2 H2 e3 e4 hA2 p2=>?_⟩
 refine ⟨H0,Y,S2,⟨some v,x,F⟩::T,δ2,_,e3,e4,hA2,p2,λh δ3 S3 H3 e5 e6 hA3 p3=>?_⟩
 split at p3
 ·obtain ⟨a,xs,G,rfl,ha,ra,rfl,hz⟩:=(hA3.told mem_mid).list_inv
  refine .inl ⟨a,xs,rfl,Om.of ha,λp hp=>?_⟩
  obtain ⟨G',h1,h2⟩:=ra.cut l h
  obtain ⟨z,F',hA4,p4⟩:=hA3.newL h1 (h2.trans (Cu _ _)) (Bk (Se _ _ _).length_le hz) hp p3
  exact k z δ3 _ F' S3 _ e5 e6 hA4 p4
 ·obtain ⟨a,xs,rfl,ha,ra,hz⟩:=(hA3.told mem_mid).tup_inv
  refine .inr ⟨a,xs,rfl,ha,λp H' hp s1=>?_⟩
  obtain ⟨G',h1,h2⟩:=ra.cut l h
  obtain ⟨z,F',hA4,p4⟩:=(hA3.grow s1 (An _)).oldT (h1.kp (Kp.of s1)) h2 (Bk (Se _ _ _).length_le hz) hp p3
  exact k z δ3 _ F' S3 _ e5 e6 hA4 p4
 ·exact p3.elim
end
end DL
namespace NdS
open PySem PyProof.Rows
end NdS
namespace Nd
open PySem PySem.Spec PyProof.Rows L2 NdS
end Nd
namespace DL
open PySem L2 Nd
def dE(x:Int):List Int->List Int
 | []=>[x]
 | y::l=>if x<y then x::y::l else if x=y then y::l else y::dE x l
def Nx(ns:List Int):List Int:=ns.foldr dE []
theorem cW{x z:Int}:∀{l:List Int},z∈dE x l↔z=x\/z∈l
 | []=>by simp [dE]
 | y::l=>by
  unfold dE
  split
  ·simp
  ·split
   ·rename_i h1 h2
    subst h2
    simp
   ·simp only[Ag,cW (l:=l)]
    constructor
    ·rintro (h | h | h) <;> simp [h]
    ·rintro (h | h | h) <;> simp [h]
theorem Yw{x:Int}:∀{l:List Int},l.Pairwise (· < ·)->(dE x l).Pairwise (· < ·)
 | [],_=>Jo _ _
 | y::l,h=>by
  obtain ⟨h1,h2⟩:=Av.mp h
  unfold dE
  split
  ·rename_i hx
   refine Av.mpr ⟨λz hz=>?_,h⟩
   rcases Ag.mp hz with rfl | hz
   ·exact hx
   ·exact Int.lt_trans hx (h1 z hz)
  ·split
   ·exact h
   ·refine Av.mpr ⟨λz hz=>?_,Yw h2⟩
    rcases cW.mp hz with rfl | hz
    ·omega
    ·exact h1 z hz
theorem Ju:∀ns:List Int,(Nx ns).Pairwise (· < ·)
 | []=>Dq
 | n::ns=>Yw (Ju ns)
theorem Oy{x:Int}:∀{ns:List Int},x∈Nx ns↔x∈ns
 | []=>Iff.rfl
 | n::ns=>by
  rw[show Nx (n::ns)=dE n (Nx ns) from rfl,cW,Oy (ns:=ns),Ag]
theorem kJ{l ns:List Int}(h:l.Pairwise (· < ·))(m:∀x,x∈l↔x∈ns):l=Nx ns:=Za h (Ju ns) λx=>(m x).trans Oy.symm
theorem Wo:∀{l m:List Int},l.Perm m->l.Pairwise (·<=·)->m.Pairwise (·<=·)->l=m
 | [],m,p,_,_=>(List.nil_perm.mp p).symm
 | a::l,[],p,_,_=>(List.perm_nil.mp p)
 | a::l,b::m,p,h1,h2=>by
  obtain ⟨q1,r1⟩:=Av.mp h1
  obtain ⟨q2,r2⟩:=Av.mp h2
  have e:a=b:=by
   rcases Ag.mp (p.mem_iff.mp Aa) with z | z
   ·exact z
   ·rcases Ag.mp (p.mem_iff.mpr Aa) with y | y
    ·exact y.symm
    ·have:=q2 a z; have:=q1 b y; omega
  subst e
  rw[Wo (List.perm_cons _ |>.mp p) r1 r2]
def mC(x:Int):List Int->List Int
 | []=>[x]
 | y::l=>if x<=y then x::y::l else y::mC x l
def Zv(ns:List Int):List Int:=ns.foldr mC []
theorem mZ{x:Int}:∀{l:List Int},(mC x l).Perm (x::l)
 | []=>Fm _
 | y::l=>by
  unfold mC
  split
  ·exact Fm _
  ·exact ((mZ (l:=l)).cons y).trans (Do _ _ _)
theorem Qh:∀ns:List Int,(Zv ns).Perm ns
 | []=>Fm _
 | n::ns=>mZ.trans ((Qh ns).cons n)
theorem kC{x:Int}:∀{l:List Int},l.Pairwise (·<=·)->(mC x l).Pairwise (·<=·)
 | [],_=>Jo _ _
 | y::l,h=>by
  obtain ⟨h1,h2⟩:=Av.mp h
  unfold mC
  split
  ·rename_i hx
   refine Av.mpr ⟨λz hz=>?_,h⟩
   rcases Ag.mp hz with rfl | hz
   ·exact hx
   ·exact Int.le_trans hx (h1 z hz)
  ·refine Av.mpr ⟨λz hz=>?_,kC h2⟩
   rcases Ag.mp (mZ.mem_iff.mp hz) with rfl | hz
   ·omega
   ·exact h1 z hz
theorem fL:∀ns:List Int,(Zv ns).Pairwise (·<=·)
 | []=>Dq
 | n::ns=>kC (fL ns)
theorem fS{l ns:List Int}(p:l.Perm ns)(h:l.Pairwise (·<=·)):l=Zv ns:=Wo (p.trans (Qh ns).symm) h (fL ns)
theorem mI(ns:List Int):(Zv ns).length=ns.length:=(Qh ns).length_eq
abbrev DC:=List DV->(DV->Prop)->Prop
def Ox(K:PySem.W.Frag)(r:List V->Hp->VK->Prop)(rd:DC):Prop:=∀(H0:Hp) (X:Addr->Prop) (n:Nat) (S T As:List Ent) (us:List V) (H:Hp) (Q:VK) (P:DV->Prop),
 As.map Ent.v=us.map some->At K H0 X n (S++(As++T)) H->rd (As.map Ent.x) P->(∀z u F' H',At K H0 X n (S++⟨some u,z,F'⟩::T) H'->P z->Q u H')->r us H Q
def N4(rd:DC)(da:DA):DE:=λδ P=>da δ λxs δ1=>rd xs λz=>P z δ1
section
variable{X:Cx}{x:Str}{p pos:Pos}{e:Expr}{es:List Expr}{da:DA}{id T:String}{r:List V->Hp->VK->Prop}{rd:DC}
theorem xW{K:PySem.W.Frag}(o:Ox K r rd):∀σ H Q,LE K (N4 rd da) σ H Q->R3 r (LA K da) σ H Q:=by
 intro σ H Q h
 obtain ⟨H0,Y,S,T,δ,P,rfl,hS,hA,hd,k⟩:=h
 refine ⟨H0,Y,S,T,δ,_,rfl,hS,hA,hd,λxs δ' As us S' H' e1 e2 ex eu hA' p=>?_⟩
 subst ex
 exact o H0 Y δ'.n S' T As us H' Q _ eu hA' p λz u F' H'' hA3 p3=>k z δ' u F' S' H'' e1 e2 hA3 p3
theorem Er(hc:Kg X (.builtin id) r)(o:Ox X.K r rd)(hg:Gl X x)(hm:X.mg x=none)(hv:Ht x=some (.builtin id))(ha:lC X (e::es) da)(hn:x ≠ "__name__" := by decide)(hdb:(x == ("__debug__" : Str))=false:=by decide)(he:Bj (e::es) X.env=(false,eval e X.env)::Bj es X.env:=by rfl)(hpl:(Hg pos (Bj es X.env)).any (·.1)=false:=by rfl):Ei X (.Call (.Name x p) (e::es) [] pos) (N4 rd da) :=
 PE.imp (cR hc hg hm hv ha hn hdb he hpl) (xW o)
theorem Le(hc:Kg X (.type T) r)(o:Ox X.K r rd)(hg:Gl X x)(hm:X.mg x=none)(hv:Ht x=some (.type T))(ha:lC X (e::es) da)(hn:x ≠ "__name__" := by decide)(hdb:(x == ("__debug__" : Str))=false:=by decide)(he:Bj (e::es) X.env=(false,eval e X.env)::Bj es X.env:=by rfl)(hpl:(Hg pos (Bj es X.env)).any (·.1)=false:=by rfl):Ei X (.Call (.Name x p) (e::es) [] pos) (N4 rd da) :=
 PE.imp (Pi hc hg hm hv ha hn hdb he hpl) (xW o)
end
theorem j2{α β:Type}{f:α->β}{l:List α}{x:β}(h:l.map f=[x]):∃a,l=[a]/\f a=x:=by
 cases l with
 | nil=>cases h
 | cons a t =>
  obtain ⟨h1,h2⟩:=Ml h
  exact ⟨a,by rw[List.map_eq_nil_iff.mp h2],h1⟩
theorem J0{α β:Type}{f:α->β}{l:List α}{x y:β}(h:l.map f=[x,y]):∃a b,l=[a,b]/\f a=x/\f b=y:=by
 cases l with
 | nil=>cases h
 | cons a t =>
  obtain ⟨h1,h2⟩:=Ml h
  obtain ⟨b,rfl,h3⟩:=j2 h2
  exact ⟨a,b,rfl,h1,h3⟩
theorem Hf{K:PySem.W.Frag}{H0 H:Hp}{X:Addr->Prop}{n:Nat}{S T As:List Ent}{us:List V}{x:DV}(eu:As.map Ent.v=us.map some)(hA:At K H0 X n (S++(As++T)) H)(ex:As.map Ent.x=[x]):∃v F,us=[v]/\At K H0 X n (S++⟨some v,x,F⟩::T) H:=by
 obtain ⟨⟨v,y,F⟩,rfl,h1⟩:=j2 ex
 obtain ⟨u,rfl,h2⟩:=j2 eu.symm
 have h1':y=x:=h1
 have h2':some u=v:=h2
 subst h1' h2'
 exact ⟨u,F,rfl,hA⟩
theorem Wb{K:PySem.W.Frag}{H0 H:Hp}{X:Addr->Prop}{n:Nat}{S T As:List Ent}{us:List V}{x y:DV}(eu:As.map Ent.v=us.map some)(hA:At K H0 X n (S++(As++T)) H)(ex:As.map Ent.x=[x,y]):∃v F w G,us=[v,w]/\At K H0 X n (S++⟨some v,x,F⟩::⟨some w,y,G⟩::T) H:=by
 obtain ⟨⟨v,x',F⟩,⟨w,y',G⟩,rfl,h1,h2⟩:=J0 ex
 obtain ⟨u,u',rfl,h3,h4⟩:=J0 eu.symm
 have h1':x'=x:=h1
 have h2':y'=y:=h2
 have h3':some u=v:=h3
 have h4':some u'=w:=h4
 subst h1' h2' h3' h4'
 exact ⟨u,F,u',G,rfl,hA⟩
def jR:DC:=λxs P=>match xs with
 | [.dat _ (.list ds)]=>P (.dat .ow (.int ds.length))
 | [.dat _ (.tuple ds)]=>P (.dat .ow (.int ds.length))
 | [.dat _ (.str z)]=>z.length<=1000000/\P (.dat .ow (.int z.length))
 | _=>False
def cB(i:Bool):DC:=λxs P=>match xs with
 | [.dat m (.list ds)]=>Pz i m ds P
 | [.dat m (.tuple ds)]=>Pz i m ds P
 | _=>False
def bW(i:Bool):DC:=λxs P=>match xs with
 | [.dat m (.list ds)]=>aB i m ds P
 | [.dat m (.tuple ds)]=>P (.dat m (.tuple ds))
 | _=>False
def rP:DC:=λxs P=>match xs with
 | [.dat _ (.int i)]=>P (.dat .ow (.int i))
 | [.dat _ (.bool b)]=>P (.dat .ow (.int (if b=true then 1 else 0)))
 | _=>False
def P8:DC:=λxs P=>match xs with
 | [.dat _ (.int i),.dat _ (.int j)]=>P (.dat .ow (.int (if j > i then j else i)))
 | _=>False
def iK:DC:=λxs P=>match xs with
 | [.dat _ (.int i),.dat _ (.int j)]=>P (.dat .ow (.int (if j<i then j else i)))
 | _=>False
def Q9:DC:=λxs P=>match xs with
 | [.dat _ (.list ds)]=>∃ns:List Int,ds=ns.map Ba/\ns≠[]/\∀M∈ns,(∀x∈ns,M<=x)->P (.dat .ow (.int M))
 | _=>False
def oJ:DC:=λxs P=>match xs with
 | [.dat _ (.list ds)]=>∃bs:List Bool,ds=bs.map PyData.bool/\P (.dat .ow (.bool (bs.all id)))
 | _=>False
def bI:DC:=λxs P=>match xs with
 | [.dat _ (.list ds)]=>∃ns:List Int,ds=ns.map Ba/\ns.length<64/\P (.dat .ow (.list ((Zv ns).map Ba)))
 | _=>False
def zB:Ad->String
 | .none => "NoneType"
 | .bool _ => "bool"
 | .int _ => "int"
 | .str _ => "str"
 | .list _ => "list"
 | .tuple _ => "tuple"
 | .dict _ => "dict"
def dU(d:Ad)(n:String):Bool:=zB d == n || (zB d == "bool" && n == "int")
def rY:DC:=λxs P=>match xs with
 | [.dat _ d,.val (.ty n)]=>(n = "int" \/ n = "bool" \/ n = "str" \/ n = "list" \/ n = "tuple")/\P (.dat .ow (.bool (dU d n)))
 | _=>False
section
variable{K:PySem.W.Frag}
theorem Lj:Ox K (λxs H Q=>∃x n,xs=[x]/\M1 K x H n/\Q (.int n) H) jR:=by
 intro H0 X n S T As us H Q P eu hA hd k
 unfold jR at hd
 split at hd
 ·rename_i ex
  obtain ⟨v,F,rfl,hA⟩:=Hf eu hA ex
  obtain ⟨a,xs,G,rfl,ha,ra,_,_⟩:=(hA.told mem_mid).list_inv
  exact ⟨_,_,rfl,.inl ⟨xs,Om.of ha,ra.len.symm⟩,k _ _ [] H (hA.drop.pushI (.int _)) hd⟩
 ·rename_i ex
  obtain ⟨v,F,rfl,hA⟩:=Hf eu hA ex
  obtain ⟨a,xs,rfl,ha,ra,_⟩:=(hA.told mem_mid).tup_inv
  exact ⟨_,_,rfl,.inr ⟨xs,Pe.of ha,ra.len.symm⟩,k _ _ [] H (hA.drop.pushI (.int _)) hd⟩
 ·rename_i ex
  obtain ⟨v,F,rfl,hA⟩:=Hf eu hA ex
  obtain ⟨rfl,_⟩:=(hA.told mem_mid).str_inv
  exact ⟨_,_,rfl,⟨gC hd.1,rfl⟩,k _ _ [] H (hA.drop.pushI (.int _)) hd.2⟩
 ·exact hd.elim
theorem kA{i:Bool}:Ox K (yJ K) (cB i):=by
 intro H0 X n S T As us H Q P eu hA hd k
 unfold cB at hd
 split at hd
 ·rename_i ex
  obtain ⟨v,F,rfl,hA⟩:=Hf eu hA ex
  obtain ⟨a,xs,G,rfl,ha,ra,rfl,hz⟩:=(hA.told mem_mid).list_inv
  refine ⟨a,xs,rfl,.inl (Om.of ha),λl hl=>?_⟩
  obtain ⟨z,F',h1,h2⟩:=hA.newL ra (Cu _ _) hz hl hd
  exact k _ _ _ _ h1 h2
 ·rename_i ex
  obtain ⟨v,F,rfl,hA⟩:=Hf eu hA ex
  obtain ⟨a,xs,rfl,ha,ra,hz⟩:=(hA.told mem_mid).tup_inv
  refine ⟨a,xs,rfl,.inr (Pe.of ha),λl hl=>?_⟩
  obtain ⟨z,F',h1,h2⟩:=hA.newL ra (Cj _) hz hl hd
  exact k _ _ _ _ h1 h2
 ·exact hd.elim
theorem eS{i:Bool}:Ox K (yG K) (bW i):=by
 intro H0 X n S T As us H Q P eu hA hd k
 unfold bW at hd
 split at hd
 ·rename_i ex
  obtain ⟨v,F,rfl,hA⟩:=Hf eu hA ex
  obtain ⟨a,xs,G,rfl,ha,ra,rfl,hz⟩:=(hA.told mem_mid).list_inv
  refine ⟨a,xs,rfl,.inl ⟨Om.of ha,λl hl=>?_⟩⟩
  obtain ⟨z,F',h1,h2⟩:=hA.newT ra (Cu _ _) hz hl hd
  exact k _ _ _ _ h1 h2
 ·rename_i ex
  obtain ⟨v,F,rfl,hA⟩:=Hf eu hA ex
  obtain ⟨a,xs,rfl,ha,ra,hz⟩:=(hA.told mem_mid).tup_inv
  exact ⟨a,xs,rfl,.inr ⟨Pe.of ha,k _ _ F H hA hd⟩⟩
 ·exact hd.elim
theorem oE:Ox K (λxs H Q=>(∃i,xs=[V.int i]/\Q (.int i) H)\/∃k,xs=[V.bl k]/\Q (.int (if k then 1 else 0)) H) rP:=by
 intro H0 X n S T As us H Q P eu hA hd k
 unfold rP at hd
 split at hd
 ·rename_i ex
  obtain ⟨v,F,rfl,hA⟩:=Hf eu hA ex
  obtain ⟨rfl,_⟩:=(hA.told mem_mid).int_inv
  exact .inl ⟨_,rfl,k _ _ [] H (hA.drop.pushI (.int _)) hd⟩
 ·rename_i ex
  obtain ⟨v,F,rfl,hA⟩:=Hf eu hA ex
  obtain ⟨rfl,_⟩:=(hA.told mem_mid).bl_inv
  exact .inr ⟨_,rfl,k _ _ [] H (hA.drop.pushI (.int _)) hd⟩
 ·exact hd.elim
theorem kU:Ox K (λxs H Q=>∃i j,xs=[V.int i,V.int j]/\Q (.int (if j<i then j else i)) H) iK:=by
 intro H0 X n S T As us H Q P eu hA hd k
 unfold iK at hd
 split at hd
 ·rename_i ex
  obtain ⟨v,F,w,G,rfl,hA⟩:=Wb eu hA ex
  obtain ⟨rfl,_⟩:=(hA.told mem_mid).int_inv
  obtain ⟨rfl,_⟩:=(hA.told Em).int_inv
  exact ⟨_,_,rfl,k _ _ [] H (hA.drop2.pushI (.int _)) hd⟩
 ·exact hd.elim
theorem rA:Ox K (λxs H Q=>∃(p:Addr) (bs:List Bool),xs=[.ref p]/\Om K H p (bs.map V.bl)/\Q (.bl (bs.all id)) H) oJ:=by
 intro H0 X n S T As us H Q P eu hA hd k
 unfold oJ at hd
 split at hd
 ·rename_i ex
  obtain ⟨v,F,rfl,hA⟩:=Hf eu hA ex
  obtain ⟨bs,rfl,h1⟩:=hd
  obtain ⟨a,xs,G,rfl,ha,ra,rfl,hz⟩:=(hA.told mem_mid).list_inv
  obtain ⟨rfl,_⟩:=ra.bools_inv
  exact ⟨a,bs,rfl,Om.of ha,k _ _ [] H (hA.drop.pushI (.bl _)) h1⟩
 ·exact hd.elim
theorem pE:Ox K (eL K) bI:=by
 intro H0 X n S T As us H Q P eu hA hd k
 unfold bI at hd
 split at hd
 ·rename_i ex
  obtain ⟨v,F,rfl,hA⟩:=Hf eu hA ex
  obtain ⟨ns,rfl,h0,h1⟩:=hd
  obtain ⟨a,xs,G,rfl,ha,ra,rfl,hz⟩:=(hA.told mem_mid).list_inv
  obtain ⟨rfl,_⟩:=ra.ints_inv
  refine ⟨a,ns,rfl,Om.of ha,h0,λq us nq pe pw=>?_⟩
  rw[fS pe pw]
  exact k _ _ _ _ (hA.drop.newI (RdFs.ints _) (Uh _) (by rw[Ac,mI]; exact sz (by omega)) nq .ow) h1
 ·exact hd.elim
theorem wH{T n:String}{b:Bool}(h1:(Jd T == Jd n)=false)(h2:PySem.W.kitMeta n=true)(h3:(fastBuiltinMro T).map (λx=>x.contains (Jd n))=some b):PySem.W.kitOne K (.type T) (.type n)=some b:=zL h1 h2 h3
theorem uU{d:Ad}{n:String}(hn:n = "int" \/ n = "bool" \/ n = "str" \/ n = "list" \/ n = "tuple"):PySem.W.kitOne K (.type (zB d)) (.type n)=some (dU d n):=by
 have main:∀T:String,(T = "NoneType" \/ T = "bool" \/ T = "int" \/ T = "str" \/ T = "list" \/ T = "tuple" \/ T = "dict")->PySem.W.kitOne K (.type T) (.type n)=some (T == n || (T == "bool" && n == "int")):=by
  intro T hT
  rcases hT with rfl | rfl | rfl | rfl | rfl | rfl | rfl <;> rcases hn with rfl | rfl | rfl | rfl | rfl <;> first | exact t6 | exact wH (by decide +kernel) (by decide +kernel) (by decide +kernel)
 unfold dU
 refine main _ ?_
 cases d <;> simp [zB]
theorem rJ:Ox K (U2 K) rY:=by
 intro H0 X n S T As us H Q P eu hA hd k
 unfold rY at hd
 split at hd
 ·rename_i ex
  obtain ⟨v,F,w,G,rfl,hA⟩:=Wb eu hA ex
  have hw:w=.ty _:=Bl (hA.ok _ Em).1
  subst hw
  have r:=hA.told mem_mid
  refine ⟨v,_,.type (zB _),_,rfl,?_,uU hd.1,k _ _ [] H (hA.drop2.pushI (.bl _)) hd.2⟩
  ·cases r with
   | non=>exact .non
   | bl b=>exact .bl b
   | int i=>exact .int i
   | str x=>exact .str x
   | lst h l hs=>exact .lst h
   | tup h l hs=>exact .tup h
   | dic h e hs=>exact .dT h
   | dik h e hs=>exact .dK h
   | dnm h e hs=>exact .dT h
 ·exact hd.elim
end
def dV(v:V):DE:=λδ P=>P (.val v) δ
section
variable{X:Cx}{e:Expr}
theorem r0{v:V}(h:PE X e (tC v)):Ei X e (dV v):=by
 refine PE.imp h λσ H Q h=>?_
 obtain ⟨H0,Y,S,T,δ,P,rfl,hS,hA,hd,k⟩:=h
 exact k _ δ v [] S H rfl hS ((hA.push (e:=⟨some v,.val v,[]⟩) ⟨rfl,rfl⟩ (λf _=>⟨λ_ a ha=>(nomatch ha),λ_ a _=>Cr⟩) (λa ha=>(nomatch ha))).tomid) hd
theorem wR{x:Str}{n:String}{pos:Pos}(hg:Gl X x)(hm:X.mg x=none)(hv:Ht x=some (.type n))(hn:x ≠ "__name__" := by decide)(hd:(x == ("__debug__" : Str))=false:=by decide):Ei X (.Name x pos) (dV (.ty n)):=r0 (vT hg hm hv rfl hn hd)
end
theorem sS{ns:List Int}(h:∀x∈ns,0<=x/\x<60):(Nx ns).length<=60 :=
 Bk (NdS.len_leI ((Ju ns).imp λ{x y} h=>Int.ne_of_lt h) λe he=>aK (h e (Oy.mp he)).1 (h e (Oy.mp he)).2) (by decide)
end DL
namespace Nd
open PySem PySem.Spec PyProof.Rows L2
def R0(K:PySem.W.Frag)(a b:Addr):It :=
  ⟨λi H=>∃xs ys x y,Om K H a xs/\Om K H b ys/\xs[i]? = some x/\ys[i]? = some y,
   λi H x H'=>∃p u v,x=.ref p/\H p=none/\H'=upd H p (.tup [u,v])/\(∀xs,Om K H a xs->xs[i]? = some u)/\∀ys,Om K H b ys->ys[i]? = some v,
   λi H=>∃xs ys,Om K H a xs/\Om K H b ys/\(xs.length<=i\/ys.length<=i)⟩
theorem tL{P:Bp}{w:World}{K:PySem.W.Frag}{elts:List Expr}{k:Nat}{pos:Pos}(a b z TI TO i1 i2:Addr)(D:ZipApart z TI TO i1 i2 a b):Turn P w K (.Tuple elts k pos) (R0 K a b) [z,TI,TO,i1,i2] z (λi h=>IsZip h z TI TO .none/\IsPair h TI (.ref i1) (.ref i2)/\(∃u v,IsPair h TO u v)/\h.IsListIter i1 a i/\h.IsListIter i2 b i) where
 mem:=Aa
 obj:=λi h st c hc=>by
  obtain ⟨hz,hTI,⟨u,v,hTO⟩,⟨o1,e1,c1,d1⟩,⟨o2,e2,c2,d2⟩⟩:=st
  simp only[Ag,Cr,or_false] at hc
  rcases hc with rfl | rfl | rfl | rfl | rfl
  ·exact ⟨_,hz,λv z=>by cases z⟩
  ·exact ⟨_,hTI,λv z=>by cases z⟩
  ·exact ⟨_,hTO,λv z=>by cases z⟩
  ·exact ⟨o1,e1,λv z=>by rw[d1] at z; cases z⟩
  ·exact ⟨o2,e2,λv z=>by rw[d2] at z; cases z⟩
 keep:=λi h h' st kp=>by
  obtain ⟨hz,hTI,⟨u,v,hTO⟩,h1,h2⟩:=st
  exact ⟨kp z (by simp) _ hz,kp TI (by simp) _ hTI,⟨u,v,kp TO (by simp) _ hTO⟩,h1.at λo q=>kp i1 (by simp) o q,h2.at λo q=>kp i2 (by simp) o q⟩
 item:=by
  intro X hP hw hK hc i pins s σ H E I hf st hg
  subst hP hw hK
  obtain ⟨xs,ys,x,y,hq1,hq2,hx,hy⟩:=hg
  obtain ⟨its1,rv1,p1,hz1⟩:=I.list hq1
  obtain ⟨its2,rv2,p2,hz2⟩:=I.list hq2
  obtain ⟨u1,hu1,ru1⟩:=rv1.get hx
  obtain ⟨u2,hu2,ru2⟩:=rv2.get hy
  obtain ⟨hz,hTI,⟨o1,o2,hTO⟩,hi1,hi2⟩:=st
  have zl:z<s.heap.objs.size:=Bb hz
  have TIl:TI<s.heap.objs.size:=Bb hTI
  have TOl:TO<s.heap.objs.size:=Bb hTO
  have i1l:i1<s.heap.objs.size:=by obtain ⟨_,q,_⟩:=hi1; exact Bb q
  have i2l:i2<s.heap.objs.size:=by obtain ⟨_,q,_⟩:=hi2; exact Bb q
  refine wpAny_pyNext_zip_item D hz hTI hTO hi1 hi2 p1.isList p2.isList (x:=u1) (y:=u2) (by simpa using hu1) (by simpa using hu2) λh1 a1 a2 a3 a4 a5 a6 hk=>⟨_,rfl,wpAny_letOwnedTupleGo_zip a1 λh2 he2 hs2=>?_⟩
  have hs2':Eo z h1 h2:=hs2
  have I1:Inv X pins σ (upd H s.heap.objs.size (.tup [x,y])) { s with heap:=s.heap.push { cls:=.type "tuple",data:=.seq #[u1,u2] } } :=
   I.laid (t':=s.toks) (λb o q=>Ar _ q) (An _) ⟨by show 2<=Be; decide,[u1,u2],.cons ru1 (.cons ru2 .nil),_,Bt _ rfl,rfl,0,rfl⟩
  have nT:∀c∈[z,TI,TO,i1,i2],c≠s.heap.objs.size:=λc hc=>by
   simp only[Ag,Cr,or_false] at hc
   rcases hc with rfl | rfl | rfl | rfl | rfl <;> exact Cv (by assumption)
  have fr:∀c∈[z,TI,TO,i1,i2],(upd H s.heap.objs.size (.tup [x,y])) c=none:=λc hc=>by rw[Ef (nT c hc)]; exact (hf c hc).1
  refine ⟨.ref s.heap.objs.size,_,Ri (fp:=[z,TI,TO,i1,i2]) (s:={ s with heap:=s.heap.push { cls:=.type "tuple",data:=.seq #[u1,u2] } }) (h':=h2) (t':=s.toks) I1 (λc o hc q=>?_) (λc hc=>⟨fr c hc,(hf c hc).2⟩),rfl,⟨_,x,y,rfl,I.hok.fresh (An _),rfl,(λzs hzs=>by rw[I.list_inj hzs hq1]; exact hx),λzs hzs=>by rw[I.list_inj hzs hq2]; exact hy⟩,⟨he2,?_,⟨u1,u2,?_⟩,?_,?_⟩,fr⟩
  ·simp only[Ag,Cr,or_false,not_or] at hc
   refine (hs2'.2 c hc.1).trans ?_
   by_cases hbT:c=s.heap.objs.size
   ·subst hbT
    have q':=(Bt s.heap (o:={ cls:=.type "tuple",data:=.seq #[u1,u2] }) rfl).symm.trans q
    rw[show h1.get? s.heap.objs.size=_ from a5]
    exact q'
   ·refine hk c o hc.1 hc.2.2.1 hc.2.2.2.1 hc.2.2.2.2 ?_
    have q0:(s.heap.push { cls:=.type "tuple",data:=.seq #[u1,u2] }).get? c=some o:=q
    rcases Heap.get?_push_cases q0 with zz | zz
    ·exact absurd zz.1 hbT
    ·exact zz
  ·exact (hs2'.2 TI D.TIz).trans (hk TI _ D.TIz D.TITO D.TIi1 D.TIi2 hTI)
  ·exact (hs2'.2 TO D.TOz).trans a2
  ·exact a3.at λo q=>(hs2'.2 i1 D.i1z).trans q
  ·exact a4.at λo q=>(hs2'.2 i2 D.i2z).trans q
 done:=by
  intro X hP hw hK hc i pins s σ H E I hf st hg
  subst hP hw hK
  obtain ⟨xs,ys,hq1,hq2,hx⟩:=hg
  obtain ⟨its1,rv1,p1,hz1⟩:=I.list hq1
  obtain ⟨its2,rv2,p2,hz2⟩:=I.list hq2
  obtain ⟨hz,hTI,⟨o1,o2,hTO⟩,hi1,hi2⟩:=st
  have hl1:=rv1.length
  have hl2:=rv2.length
  refine wpAny_pyNext_zip_end (I.ok.hd hc) D hz hTI hTO hi1 hi2 p1.isList p2.isList ?_ λh1 hk=>⟨rfl,Ri (fp:=[z,TI,TO,i1,i2]) (t':=s.toks) I (λc o hc q=>?_) hf⟩
  ·rcases hx with h | h
   ·exact .inl (by simp; omega)
   ·exact .inr (by simp; omega)
  ·simp only[Ag,Cr,or_false,not_or] at hc
   exact hk c o hc.1 hc.2.2.1 hc.2.2.2.1 hc.2.2.2.2 q
 self:=λ_ _ _ _ _ st h=>wpAny_pyIter_zip st.1 h
theorem lT(I l1 l2:Nat)(h1:l1<I)(h2:l2<I):ZipApart (I+4) (I+2) (I+3) I (I+1) l1 l2:=by
 constructor <;> (intro e; have e':(_:Nat)=_:=e; omega)
section
variable{X:Cx}
def P9(K:PySem.W.Frag)(ta:TA):TI:=λσ H R=>ta σ H λvs H1=>∃a b,vs=[.ref a,.ref b]/\(∃xs,Om K H1 a xs)/\(∃ys,Om K H1 b ys)/\R (R0 K a b) H1
theorem yX{elts:List Expr}{k:Nat}{tp:Pos}{a b:Expr}{ta:TA}{p pos:Pos}(hg:Gl X "zip")(hm:X.mg "zip" = none)(ha:PA X [a,b] ta)(hs:Bj [a,b] X.env=(false,eval a X.env)::Bj [b] X.env:=by rfl)(hp:(Hg pos (Bj [b] X.env)).any (·.1)=false:=by rfl):PI X (.Tuple elts k tp) (.Call (.Name "zip" p) [a,b] [] pos) (P9 X.K ta):=by
 intro pins s σ H R I h
 refine Call_ (Tp I hg hm (u:=.type "zip") (by decide +kernel) (Gu (Gq (ha pos pins s σ H _ I h) λus s1 ⟨vs,H1,I1,r1,q1⟩=>?_) hs hp))
 obtain ⟨l1,l2,e,⟨xs,hq1⟩,⟨ys,hq2⟩,q⟩:=q1
 subst e
 obtain ⟨u1,u2,rfl,ru1,ru2⟩:=vals2 r1
 cases ru1
 cases ru2
 obtain ⟨its1,rv1,pl1,hz1⟩:=I1.list hq1
 obtain ⟨its2,rv2,pl2,hz2⟩:=I1.list hq2
 have hlt1:l1<s1.heap.objs.size:=let ⟨o,q,_⟩:=pl1.isList; Bb q
 have hlt2:l2<s1.heap.objs.size:=let ⟨o,q,_⟩:=pl2.isList; Bb q
 refine call_zip_2 pl1.isList pl2.isList λh2 hz hTI hTO hi1 hi2 hsz hk=>wpAny_pyIter_zip hz ?_
 have fr1:∀n,Ld X pins H1 (s1.heap.objs.size+n):=λn=>I1.fpOk (Nat.le_add_right _ _) (I1.hok.fresh (Nat.le_add_right _ _))
 have fr:∀c∈[s1.heap.objs.size+4,s1.heap.objs.size+2,s1.heap.objs.size+3,s1.heap.objs.size,s1.heap.objs.size+1],Ld X pins H1 c:=λc hc=>by
  simp only[Ag,Cr,or_false] at hc
  rcases hc with rfl | rfl | rfl | rfl | rfl
  ·exact fr1 4
  ·exact fr1 2
  ·exact fr1 3
  ·exact fr1 0
  ·exact fr1 1
 exact ⟨s1.heap.objs.size+4,_,_,_,H1,rfl,I1.kept (t':=s1.toks) hk,tL l1 l2 _ _ _ _ _ (lT _ _ _ hlt1 hlt2),⟨hz,hTI,⟨_,_,hTO⟩,hi1,hi2⟩,fr,q⟩
end
end Nd
namespace Nd
open PySem PySem.Spec PyProof.Rows L2
open AutoSeq1 (wpAny_loadPart')
end Nd
namespace DL
open PySem L2 Nd
def dB(de:DE):DT:=λδ P=>de δ λx δ'=>match x with
 | .dat _ (.bool b)=>P b δ'
 | _=>False
def wX(dt:DT):DT:=λδ P=>dt δ λb δ'=>P (!b) δ'
def xP(dt du:DT):DT:=λδ P=>dt δ λb δ'=>match b with
 | true=>du δ' P
 | false=>P false δ'
def G6(dt du:DT):DT:=λδ P=>dt δ λb δ'=>match b with
 | true=>P true δ'
 | false=>du δ' P
def C7(de:DE):DE:=λδ P=>de δ λx δ'=>match x with
 | .dat _ (.bool b)=>P (.dat .ow (.bool (!b))) δ'
 | _=>False
def B5(da db:DE):DE:=λδ P=>da δ λx δ'=>match x with
 | .dat _ (.bool true)=>db δ' P
 | .dat _ (.bool false)=>P (.dat .ow (.bool false)) δ'
 | _=>False
def G7(de:DE):DE:=λδ P=>de δ λx δ'=>match x with
 | .dat _ (.int i)=>P (.dat .ow (.int (-i))) δ'
 | _=>False
section
variable{K:PySem.W.Frag}{de:DE}
theorem C2:∀σ H Q,LT K (dB de) σ H Q->LE K de σ H λx H'=>∃k,x=.bl k/\Q k H':=by
 intro σ H Q h
 obtain ⟨H0,Y,S,T,δ,P,rfl,hS,hA,hd,k⟩:=h
 refine ⟨H0,Y,S,T,δ,_,rfl,hS,hA,hd,λx δ1 v F S1 H1 e1 e2 hA1 p1=>?_⟩
 split at p1
 ·obtain ⟨rfl,_⟩:=(hA1.told mem_mid).bl_inv
  exact ⟨_,rfl,k _ δ1 S1 H1 e1 e2 hA1.drop p1⟩
 ·exact p1.elim
end
section
variable{X:Cx}{a b c e:Expr}{da db de:DE}{dt du:DT}{pos:Pos}{Mv:List Expr}
theorem Tg(h:Ei X e de)(he:∀whole,isTrue e X.env whole=(do let v <- whole; Ux e.pos; Qx [v] (truthy v)):=by intro _; rfl):Zw X e (dB de):=PT.imp (sR h he) C2
theorem Ow{op:CmpOp}{r:R2}{rd:D2}(ho:Rv X (Ip op) r)(o:gE X.K r rd)(ha:Ei X a da)(hb:Ei X b db)(hm:Gs op b=false):Zw X (.Compare a [op] [b] pos) (dB (Tq rd da db)):=by
 refine PT.imp (jW ho ha hb hm) λσ H Q h=>?_
 exact lH o _ _ _ (C2 σ H Q h)
theorem eB(ha:Ei X a da)(hb:Ei X b db):Zw X (.Compare a [.Lt] [b] pos) (dB (Tq rdLt da db)):=Ow L8 (dH λ_ _ _=>.bl _) ha hb (Nu _)
theorem G3(ha:Ei X a da)(hb:Ei X b db):Zw X (.Compare a [.Gt] [b] pos) (dB (Tq R1 da db)):=Ow M4 (dH λ_ _ _=>.bl _) ha hb (Nu _)
theorem xR(ha:Ei X a da)(hb:Ei X b db):Zw X (.Compare a [.GtE] [b] pos) (dB (Tq rdGe da db)):=Ow xA (dH λ_ _ _=>.bl _) ha hb (Nu _)
theorem Zr(hu:X.A.units+64<cLine)(ha:Ei X a da)(hb:Ei X b db):Zw X (.Compare a [.Eq] [b] pos) (dB (Tq (Yb false) da db)):=Ow (oD hu) xV ha hb (Nu _)
theorem cP(hu:X.A.units+64<cLine)(ha:Ei X a da)(hb:Ei X b db):Zw X (.Compare a [.NotEq] [b] pos) (dB (Tq (Yb true) da db)):=Ow (pJ hu) wY ha hb (Nu _)
theorem C3(hu:X.A.units+64<cLine)(ha:Ei X a da)(hb:Ei X b db)(hm:Gs .In b=false:=by with_unfolding_all rfl):Zw X (.Compare a [.In] [b] pos) (dB (Tq (fM false) da db)):=Ow (sL hu) qB ha hb hm
theorem Wp(hu:X.A.units+64<cLine)(ha:Ei X a da)(hb:Ei X b db)(hm:Gs .NotIn b=false:=by with_unfolding_all rfl):Zw X (.Compare a [.NotIn] [b] pos) (dB (Tq (fM true) da db)):=Ow (nS hu) qB ha hb hm
theorem yW(ha:Ei X a da)(hb:Ei X b db):Zw X (.Compare a [.Is] [b] pos) (dB (Tq (lG false) da db)):=Ow i3 p6 ha hb (Nu _)
theorem rT(h:Zw X a dt):Zw X (.UnaryOp .Not a pos) (wX dt):=by
 refine PT.imp (zC h) λσ H Q h=>?_
 obtain ⟨H0,Y,S,T,δ,P,rfl,hS,hA,hd,k⟩:=h
 exact ⟨H0,Y,S,T,δ,_,rfl,hS,hA,hd,λb δ' S' H' e1 e2 hA' p=>k _ δ' S' H' e1 e2 hA' p⟩
theorem kE(h:Zw X a dt):t7 X (.BoolOp .And [a] pos) dt:=wJ h
theorem iB(h:Zw X a dt):t7 X (.BoolOp .Or [a] pos) dt:=u4 h
theorem qH(h:Zw X a dt)(hb:t7 X (.BoolOp .And (b::Mv) pos) du):t7 X (.BoolOp .And (a::b::Mv) pos) (xP dt du):=by
 refine PW.imp (p7 h hb) λσ H Q h=>?_
 obtain ⟨H0,Y,S,T,δ,P,rfl,hS,hA,hd,k⟩:=h
 refine ⟨H0,Y,S,T,δ,_,rfl,hS,hA,hd,λb δ' S' H' e1 e2 hA' p=>?_⟩
 cases b with
 | true=>exact qC ⟨H0,Y,S',T,δ',P,e1,e2,hA',p,k⟩
 | false=>exact sJ (k _ δ' S' H' e1 e2 hA' p)
theorem jP(h:Zw X a dt)(hb:t7 X (.BoolOp .Or (b::Mv) pos) du):t7 X (.BoolOp .Or (a::b::Mv) pos) (G6 dt du):=by
 refine PW.imp (I0 h hb) λσ H Q h=>?_
 obtain ⟨H0,Y,S,T,δ,P,rfl,hS,hA,hd,k⟩:=h
 refine ⟨H0,Y,S,T,δ,_,rfl,hS,hA,hd,λb δ' S' H' e1 e2 hA' p=>?_⟩
 cases b with
 | true=>exact qC (k _ δ' S' H' e1 e2 hA' p)
 | false=>exact sJ ⟨H0,Y,S',T,δ',P,e1,e2,hA',p,k⟩
theorem qI(h:t7 X a dt):Zw X a dt:=PW.pt h
theorem i7{op}(h:Ei X a da):Ei X (.BoolOp op [a] pos) da:=x6 h
theorem A0(h:Ei X a da)(hb:Ei X (.BoolOp .And (b::Mv) pos) db):Ei X (.BoolOp .And (a::b::Mv) pos) (B5 da db):=by
 refine PE.imp (o5 h hb) λσ H Q h=>?_
 obtain ⟨H0,Y,S,T,δ,P,rfl,hS,hA,hd,k⟩:=h
 refine ⟨H0,Y,S,T,δ,_,rfl,hS,hA,hd,λx δ1 v F S1 H1 e1 e2 hA1 p1=>?_⟩
 split at p1
 ·obtain ⟨rfl,_⟩:=(hA1.told mem_mid).bl_inv
  exact ⟨_,rfl,qC ⟨H0,Y,S1,T,δ1,P,e1,e2,hA1.drop,p1,k⟩⟩
 ·obtain ⟨rfl,_⟩:=(hA1.told mem_mid).bl_inv
  exact ⟨_,rfl,sJ (k _ δ1 _ [] S1 H1 e1 e2 (hA1.drop.pushI (.bl _)) p1)⟩
 ·exact p1.elim
theorem zP(h:Ei X a da):Ei X (.UnaryOp .Not a pos) (C7 da):=by
 refine PE.imp (j3 h) λσ H Q h=>?_
 obtain ⟨H0,Y,S,T,δ,P,rfl,hS,hA,hd,k⟩:=h
 refine ⟨H0,Y,S,T,δ,_,rfl,hS,hA,hd,λx δ1 v F S1 H1 e1 e2 hA1 p1=>?_⟩
 split at p1
 ·obtain ⟨rfl,_⟩:=(hA1.told mem_mid).bl_inv
  exact ⟨_,rfl,k _ δ1 _ [] S1 H1 e1 e2 (hA1.drop.pushI (.bl _)) p1⟩
 ·exact p1.elim
theorem sP(h:Ei X a da):Ei X (.UnaryOp .USub a pos) (G7 da):=by
 refine PE.imp (C6 r6 h) λσ H Q h=>?_
 obtain ⟨H0,Y,S,T,δ,P,rfl,hS,hA,hd,k⟩:=h
 refine ⟨H0,Y,S,T,δ,_,rfl,hS,hA,hd,λx δ1 v F S1 H1 e1 e2 hA1 p1=>?_⟩
 split at p1
 ·obtain ⟨rfl,_⟩:=(hA1.told mem_mid).int_inv
  exact ⟨_,rfl,k _ δ1 _ [] S1 H1 e1 e2 (hA1.drop.pushI (.int _)) p1⟩
 ·exact p1.elim
end
theorem PS.impD{X:Cx}{st:Stmt}{t t':TS}(h:PS X st t)(k:∀D σ H,t' D σ H->t D σ H):PS X st t':=λpins s σ H D I q=>h pins s σ H D I (k D σ H q)
theorem gV.impD{X:Cx}{st:List Stmt}{t t':TS}(h:gV X st t)(k:∀D σ H,t' D σ H->t D σ H):gV X st t':=λpins s σ H D I q=>h pins s σ H D I (k D σ H q)
def xO:DB:=λD δ=>D.nx δ
def F9(t u:DB):DB:=λD δ=>t { D with nx:=λδ'=>u D δ' } δ
def K6(de:DE):DB:=λD δ=>de δ D.rt
def T8(dt:DT)(t u:DB):DB:=λD δ=>dt δ λb δ'=>match b with
 | true=>t D δ'
 | false=>u D δ'
def dI(de:DE)(dg:DG):DB:=λD δ=>de δ λx δ'=>dg x δ' D.nx
def zT:DB:=λ_ _=>False
section
variable{X:Cx}{st:Stmt}{e tg c:Expr}{t u:DB}{Mv:List Stmt}{de:DE}{dg:DG}{dt:DT}{pos:Pos}
theorem Hk:Ut X [] xO:=by
 refine gV.impD bR λD σ H h=>?_
 obtain ⟨H0,Y,S,T,δ,P,rfl,hS,hT,hA,hd,k1,k2,k3,k4⟩:=h
 exact k1 δ S H hS hA hd
theorem Bh(h1:cE X st t)(h2:Ut X Mv u):Ut X (st::Mv) (F9 t u):=by
 refine gV.impD (Jg h1 h2) λD σ H h=>?_
 obtain ⟨H0,Y,S,T,δ,P,rfl,hS,hT,hA,hd,k1,k2,k3,k4⟩:=h
 exact ⟨H0,Y,S,T,δ,_,rfl,hS,hT,hA,hd,λδ' S' H' e2 hA' p=>⟨H0,Y,S',T,δ',P,rfl,e2,hT,hA',p,k1,k2,k3,k4⟩,k2,k3,k4⟩
theorem Cc(h1:cE X st t):Ut X [st] t:=Pl h1
theorem Ek(he:Ei X e de):cE X (.Return (some e) pos) (K6 de):=by
 refine PS.impD (Tn he) λD σ H h=>?_
 obtain ⟨H0,Y,S,T,δ,P,rfl,hS,hT,hA,hd,k1,k2,k3,k4⟩:=h
 exact ⟨H0,Y,S,T,δ,_,rfl,hS,hA,hd,λx δ' v F S' H' e1 e2 hA' p=>k2 x δ' v F S' H' e2 hA' p⟩
theorem Jb{a b:List Stmt}(hc:Zw X c dt)(ha:Ut X a t)(hb:Ut X b u):cE X (.If c a b pos) (T8 dt t u):=by
 refine PS.impD (tD hc ha hb) λD σ H h=>?_
 obtain ⟨H0,Y,S,T,δ,P,rfl,hS,hT,hA,hd,k1,k2,k3,k4⟩:=h
 refine ⟨H0,Y,S,T,δ,_,rfl,hS,hA,hd,λb δ' S' H' e1 e2 hA' p=>?_⟩
 cases b with
 | true=>exact qC ⟨H0,Y,S',T,δ',P,e1,e2,hT,hA',p,k1,k2,k3,k4⟩
 | false=>exact sJ ⟨H0,Y,S',T,δ',P,e1,e2,hT,hA',p,k1,k2,k3,k4⟩
theorem To{K:PySem.W.Frag}{te:TE}{g:TG}(h1:∀σ H Q,LE K de σ H Q->te σ H Q)(h2:∀v σ H Q,LG K dg v σ H Q->g v σ H Q):∀D σ H,LS K (dI de dg) D σ H->qZ te g D σ H:=by
 intro D σ H h
 obtain ⟨H0,Y,S,T,δ,P,rfl,hS,hT,hA,hd,k1,k2,k3,k4⟩:=h
 refine h1 _ _ _ ⟨H0,Y,S,T,δ,_,rfl,hS,hA,hd,λx δ' v F S' H' e1 e2 hA' p=>?_⟩
 exact h2 _ _ _ _ ⟨H0,Y,S',T,δ',x,F,P.nx,e1,e2,hA',p,λδ2 S2 H2 e3 hA2 q=>k1 δ2 S2 H2 e3 hA2 q⟩
theorem sH(he:Ei X e de)(hg:K1 X tg dg)(hs:swapsWithSole [tg] e pos.line X.env=pure false:=by rfl)(hw:swappedStores [tg] e X.env=pure none:=by rfl)(h1:(Hu [tg] X.env).map (·.2)=[Mt tg X.env]:=by rfl):cE X (.Assign [tg] e pos) (dI de dg):=PS.impD (gK he hg hs hw h1) (To (λ_ _ _ h=>h) λ_ _ _ _ h=>h)
theorem Wj:cE X st zT:=by
 refine PS.impD rV λD σ H h=>?_
 obtain ⟨H0,Y,S,T,δ,P,rfl,hS,hT,hA,hd,_⟩:=h
 exact hd
end
def Mp(i:Nat):DG:=λx δ P=>match x with
 | .dat .pk _=>False
 | .dat _ d=>P ⟨δ.sl.set i (.dat .sh d),δ.n⟩
 | .val v=>P ⟨δ.sl.set i (.val v),δ.n⟩
 | .drw=>P ⟨δ.sl.set i .drw,δ.n⟩
 | .dT kvs=>P ⟨δ.sl.set i (.dT kvs),δ.n⟩
 | _=>False
def fG(i:Nat):DG:=λx δ P=>match x with
 | .dat .ow d=>P ⟨δ.sl.set i (.dat .ow d),δ.n⟩
 | .dat .tp d=>P ⟨δ.sl.set i (.dat .tp d),δ.n⟩
 | _=>False
theorem At.store{K:PySem.W.Frag}{H0 H:Hp}{X:Addr->Prop}{n:Nat}{S T:List Ent}{e:Ent}{i:Nat}(h:At K H0 X n (S++e::T) H):At K H0 X n (S.set i e++T) H:=by
 by_cases hi:i<S.length
 ·have hx:S[i]? = some S[i]:=by simp [hi]
  have p:(S++e::T).Perm (S[i]::(S.set i e++T)):=by
   refine Dl.trans ?_
   rw[<- Ey,<- Ey]
   exact (Ws hx).append_right T
  exact (h.perm p).sub (Cu _ _)
 ·rw[List.set_eq_of_length_le (by omega)]
  exact h.drop
theorem bG{S:List Ent}{i:Nat}{v:V}{x:DV}{F:List Addr}:vs (S.set i ⟨some v,x,F⟩)=(vs S).set i (some v):=by
 unfold vs
 rw[Iu]
theorem aD{S:List Ent}{δ:DS}{i n:Nat}{v:V}{x:DV}{F:List Addr}(h:Sl S δ):Sl (S.set i ⟨some v,x,F⟩) ⟨δ.sl.set i x,n⟩:=by
 unfold Sl at h ⊢
 rw[Iu,h]
theorem bF{K:PySem.W.Frag}{i:Nat}:∀v σ H Q,LG K (Mp i) v σ H Q->Js i v σ H Q:=by
 intro v σ H Q h
 obtain ⟨H0,Y,S,T,δ,x,F,P,rfl,hS,hA,hd,k⟩:=h
 show Q ((vs S).set i (some v)) H
 have fin:∀y,At K H0 Y δ.n (S++⟨some v,y,F⟩::T) H->P ⟨δ.sl.set i y,δ.n⟩->Q ((vs S).set i (some v)) H:=λy hA' p=>by
  rw[<- bG (x:=y) (F:=F)]
  exact k _ _ H (aD hS) hA'.store p
 unfold Mp at hd
 split at hd
 ·exact hd.elim
 ·rename_i m d hm
  refine fin _ ?_ hd
  refine (hA.mid.wk ?_).tomid
  cases m <;> first | rfl | exact (hm rfl).elim
 ·exact fin _ hA hd
 ·exact fin _ hA hd
 ·exact fin _ hA hd
 ·exact hd.elim
theorem oP{K:PySem.W.Frag}{i:Nat}:∀v σ H Q,LG K (fG i) v σ H Q->Js i v σ H Q:=by
 intro v σ H Q h
 obtain ⟨H0,Y,S,T,δ,x,F,P,rfl,hS,hA,hd,k⟩:=h
 show Q ((vs S).set i (some v)) H
 have fin:∀y,At K H0 Y δ.n (S++⟨some v,y,F⟩::T) H->P ⟨δ.sl.set i y,δ.n⟩->Q ((vs S).set i (some v)) H:=λy hA' p=>by
  rw[<- bG (x:=y) (F:=F)]
  exact k _ _ H (aD hS) hA'.store p
 unfold fG at hd
 split at hd
 ·exact fin _ hA hd
 ·exact fin _ hA hd
 ·exact hd.elim
section
variable{X:Cx}{pos:Pos}
theorem Cy{i:Nat}{x:Str}(hN:X.N.Nodup)(hi:X.N[i]? = some x)(hx:Loc X.env.scope x)(hf:X.fn x=true\/X.env.scope.names.lookup x=some .local:=by first | exact .inl rfl | exact .inr rfl | assumption):K1 X (.Name x pos) (Mp i):=PG.imp (Ji hN hi hx hf) bF
theorem Dx{i:Nat}{x:Str}{e:Expr}{de:DE}{pos':Pos}(hN:X.N.Nodup)(hi:X.N[i]? = some x)(hx:Loc X.env.scope x)(he:Ei X e de)(hs:Io e (some (.Name x pos')) pos.line X.env=pure false:=by rfl)(hf:X.fn x=true\/X.env.scope.names.lookup x=some .local:=by first | exact .inl rfl | exact .inr rfl | assumption):cE X (.Assign [.Name x pos'] e pos) (dI de (Mp i)):=PS.impD (Sz hN hi hx he hs hf) (To (λ_ _ _ h=>h) bF)
theorem Ia{i:Nat}{x:Str}{e:Expr}{de:DE}{pos':Pos}(hN:X.N.Nodup)(hi:X.N[i]? = some x)(hx:Loc X.env.scope x)(he:Ei X e de)(hs:Io e (some (.Name x pos')) pos.line X.env=pure false:=by rfl)(hf:X.fn x=true\/X.env.scope.names.lookup x=some .local:=by first | exact .inl rfl | exact .inr rfl | assumption):cE X (.Assign [.Name x pos'] e pos) (dI de (fG i)):=PS.impD (Sz hN hi hx he hs hf) (To (λ_ _ _ h=>h) oP)
end
def rZ:pS:=λxs δ P=>match xs with
 | []=>P δ
 | _=>False
def jE(g:DG)(gs:pS):pS:=λxs δ P=>match xs with
 | x::r=>g x δ λδ'=>gs r δ' P
 | []=>False
def rD(n:Nat)(gs:pS):DG:=λx δ P=>match x with
 | .dat m (.tuple ds)=>ds.length=n/\gs (ds.map λd=>.dat (Ly m) d) δ P
 | _=>False
theorem At.unpack{K:PySem.W.Frag}{H0 H:Hp}{X:Addr->Prop}{n:Nat}{m:Md}:∀{us:List V} {ds:List Ad} {F:List Addr} {E:List Ent},RdFs K H us ds F->(m=.ow->F.Nodup)->(∀f∈E,Ru ⟨none,.dat (Ly m) .none,F⟩ f)->(∀a∈cells ⟨none,.dat (Ly m) .none,F⟩,H0 a=none)->At K H0 X n E H->∃As:List Ent,As.map Ent.v=us.map some/\As.map Ent.x=ds.map (λd=>.dat (Ly m) d)/\(∀e∈As,∀a∈e.F,a∈F)/\At K H0 X n (As++E) H
 | _,_,_,_,.nil,_,_,_,h=>⟨[],rfl,rfl,λ_ z=>(nomatch z),h⟩
 | _,_,_,E,.cons (x:=x) (d:=d) (F:=F1) (G:=G1) a t,hn,hs,hnew,h=>by
  have cs:∀{G:List Addr} {u:Option V} {d':Ad},(∀b∈G,b∈F1++G1)->∀b∈cells ⟨u,.dat (Ly m) d',G⟩,b∈cells ⟨none,.dat (Ly m) .none,F1++G1⟩:=λ{G u d'} hG b hb=>by
   cases m with
   | ow=>exact hG b hb
   | _=>exact nomatch hb
  have sub:∀{G:List Addr} {u:Option V} {d':Ad} {f:Ent},(∀b∈G,b∈F1++G1)->Ru ⟨none,.dat (Ly m) .none,F1++G1⟩ f->Ru ⟨u,.dat (Ly m) d',G⟩ f:=λ{G u d' f} hG q=>by
   refine ⟨λhp b hb=>q.1 ?_ b (cs hG b hb),λhp b hb z=>q.2 ?_ b hb (hG b z)⟩
   ·rcases hp with hp | hp
    ·exact .inl hp
    ·cases hp
   ·rcases hp with hp | hp
    ·refine .inl ?_
     cases m <;> exact hp
    ·exact .inr hp
  obtain ⟨As,h1,h2,h3,h4⟩:=At.unpack (m:=m) t (λz=>(Ga.mp (hn z)).2.1) (λf hf=>sub (λb hb=>Ah _ hb) (hs f hf)) (λb hb=>hnew b (cs (λb hb=>Ah _ hb) b hb)) h
  refine ⟨⟨some x,.dat (Ly m) d,F1⟩::As,by rw[Au,Au,h1],by rw[Au,Au,h2],λe he b hb=>?_,?_⟩
  ·rcases Ag.mp he with rfl | he
   ·exact Am _ hb
   ·exact Ah _ (h3 e he b hb)
  ·refine h4.push ⟨x,rfl,a,λz=>?_,λz=>?_⟩ (λf hf=>?_) λb hb=>.inl (hnew b (cs (λb hb=>Am _ hb) b hb))
   ·cases m with
    | ow=>exact (Ga.mp (hn rfl)).1
    | _=>cases z
   ·cases m <;> cases z
   ·rcases Ay.mp hf with hf | hf
    ·have hx:f.x∈As.map Ent.x:=Bv.mpr ⟨f,hf,rfl⟩
     rw[h2] at hx
     obtain ⟨d',_,ed⟩:=Bv.mp hx
     refine ⟨λhp b hb z=>?_,λhp b hb z=>?_⟩
     ·cases m with
      | ow=>exact (Ga.mp (hn rfl)).2.2 b hb b (h3 f hf b z) rfl
      | _=>exact nomatch hb
     ·cases m with
      | ow=>exact (Ga.mp (hn rfl)).2.2 b z b (h3 f hf b (Fk _ _ hb)) rfl
      | _ =>
       unfold cells at hb
       rw[<- ed] at hb
       exact nomatch hb
    ·exact sub (λb hb=>Am _ hb) (hs f hf)
section
variable{X:Cx}{pos:Pos}
theorem Kz:uO X [] rZ:=by
 refine zJ.imp bC λus σ H Q h=>?_
 obtain ⟨H0,Y,S,T,As,δ,P,rfl,hS,eu,hA,hd,k⟩:=h
 match As,hA,hd,eu with
 | [],hA,hd,eu =>
  cases us with
  | nil=>exact ⟨rfl,k δ S H hS hA hd⟩
  | cons _ _=>cases eu
 | _::_,hA,hd,eu=>exact hd.elim
theorem Ea{e:Expr}{es:List Expr}{g:DG}{gs:pS}(h1:K1 X e g)(h2:uO X es gs)(hs:(Hu (e::es) X.env).map (·.2)=Mt e X.env::(Hu es X.env).map (·.2):=by rfl):uO X (e::es) (jE g gs):=by
 refine zJ.imp (Nf h1 h2 hs) λus σ H Q h=>?_
 obtain ⟨H0,Y,S,T,As,δ,P,rfl,hS,eu,hA,hd,k⟩:=h
 match As,hA,hd,eu with
 | [],hA,hd,eu=>exact hd.elim
 | ⟨v,x,F⟩::As,hA,hd,eu =>
  cases us with
  | nil=>cases eu
  | cons u us =>
   rw[Au,Au] at eu
   obtain ⟨e1,e2⟩:=Ml eu
   have e1':v=some u:=e1
   subst e1'
   refine ⟨u,us,rfl,H0,Y,S,As++T,δ,x,F,_,rfl,hS,hA,hd,λδ' S' H' e3 hA' p=>?_⟩
   exact ⟨H0,Y,S',T,As,δ',P,rfl,e3,e2,hA',p,k⟩
theorem Np{es:List Expr}{kk:Nat}{gs:pS}{n:Nat}(hc:X.calm=true)(h:uO X es gs)(hn:(Hu es X.env).length=n:=by rfl)(hst:(Hu es X.env).findIdx? (·.1)=none:=by rfl):K1 X (.Tuple es kk pos) (rD n gs):=by
 refine PG.imp (iH hc h hn hst) λv σ H Q h=>?_
 obtain ⟨H0,Y,S,T,δ,x,F,P,rfl,hS,hA,hd,k⟩:=h
 unfold rD at hd
 split at hd
 ·rename_i m ds
  obtain ⟨a,xs,rfl,ha,ra,hz⟩:=(hA.told mem_mid).tup_inv
  have hm:=hA.mid
  have hp:=Av.mp hm.sep
  obtain ⟨w,_,_,hnd,_⟩:=hm.ok _ Aa
  have cs:∀b∈cells ⟨none,.dat (Ly m) .none,F⟩,b∈cells ⟨some (.ref a),.dat m (.tuple ds),F⟩:=λb hb=>by
   cases m with
   | ow=>exact hb
   | _=>exact nomatch hb
  obtain ⟨As,h1,h2,h3,h4⟩:=At.unpack (m:=m) (E:=S++T) ra hnd (λf hf=>by
   refine ⟨λhq b hb=>(hp.1 f hf).1 ?_ b (cs b hb),λhq b hb=>(hp.1 f hf).2 ?_ b hb⟩
   ·rcases hq with hq | hq
    ·exact .inl hq
    ·cases hq
   ·rcases hq with hq | hq
    ·refine .inl ?_
     cases m <;> first | rfl | exact hq
    ·exact .inr hq) (λb hb=>by
   rcases hm.new _ Aa b (cs b hb) with z | z
   ·exact z
   ·cases z.2) hA.drop
  refine ⟨a,xs,rfl,Pe.of ha,by rw[ra.len]; exact hd.1,H0,Y,S,T,As,δ,P,rfl,hS,h1,h4.perm ?_,by rw[h2]; exact hd.2,k⟩
  rw[<- Dn,<- Dn]
  exact Hq.append_right T
 ·exact hd.elim
end
theorem iD{K:PySem.W.Frag}{H0 H:Hp}{X:Addr->Prop}{n:Nat}{E:List Ent}(h:At K H0 X n E H):∀{e f:Ent},e∈E->f∈E->e=f\/Ru e f:=by
 have main:∀{E:List Ent},E.Pairwise Ru->∀{e f:Ent},e∈E->f∈E->e=f\/Ru e f:=by
  intro E
  induction E with
  | nil=>intro _ e f he; cases he
  | cons g E ih =>
   intro hp e f he hf
   have hc:=Av.mp hp
   rcases Ag.mp he with he | he
   ·subst he
    rcases Ag.mp hf with hf | hf
    ·exact .inl hf.symm
    ·exact .inr (hc.1 f hf)
   ·rcases Ag.mp hf with hf | hf
    ·rw[hf]
     exact .inr (hc.1 e he).symm
    ·exact ih hc.2 he hf
 intro e f he hf
 exact main h.sep he hf
abbrev DI:=DS->(Md->List Ad->DS->Prop)->Prop
structure IterOk(K:PySem.W.Frag)(J:It)(hid:List Ent)(m:Md)(ds:List Ad):Prop where
 md:m=.sh\/m=.pk
 hd:∀e∈hid,cells e=[]
 np:m=.sh->∀e∈hid,Lr e.x=false
 go:∀H n i,(∀e∈hid,Gg K H n e)->i<ds.length->J.go i H
 yld:∀H n i x H',(∀e∈hid,Gg K H n e)->i<ds.length->J.yld i H x H'->Oh H H'/\∃d F,ds[i]? = some d/\RdF K H' x d F/\∀a∈F,∃e∈hid,a∈e.F
 stop:∀H n,(∀e∈hid,Gg K H n e)->J.stop ds.length H
def LI(K:PySem.W.Frag)(di:DI):TI:=λσ H R=>∃(H0:Hp) (X:Addr->Prop) (S T:List Ent) (δ:DS) (P:Md->List Ad->DS->Prop),vs S=σ/\Sl S δ/\At K H0 X δ.n (S++T) H/\di δ P /\
 ∀m ds δ' J hid S' H',vs S'=σ->Sl S' δ'->At K H0 X δ'.n (S'++(hid++T)) H'->IterOk K J hid m ds->ds.length<=Be->P m ds δ'->R J H'
abbrev mP(X:Cx)(tg iter:Expr)(di:DI):Prop:=PI X tg iter (LI X.K di)
theorem PI.imp{X:Cx}{tg e:Expr}{t t':TI}(h:PI X tg e t)(k:∀σ H Q,t' σ H Q->t σ H Q):PI X tg e t':=λpins s σ H Q I q=>h pins s σ H Q I (k σ H Q q)
def Il:Md->Md
 | .pk=>.pk
 | _=>.sh
theorem Rk(m:Md):wk m (Il m)=true:=by cases m <;> rfl
theorem At.item{K:PySem.W.Frag}{H0 H H':Hp}{X:Addr->Prop}{n:Nat}{S T hid:List Ent}{m:Md}{v:V}{d:Ad}{F:List Addr}(h:At K H0 X n (S++(hid++T)) H)(s:Oh H H')(r:RdF K H' v d F)(hF:∀a∈F,∃e∈hid,a∈e.F)(md:m=.sh\/m=.pk)(hh:∀e∈hid,cells e=[])(np:m=.sh->∀e∈hid,Lr e.x=false):At K H0 X n (S++⟨some v,.dat m d,F⟩::(hid++T)) H':=by
 have h1:=h.grow (n':=n) s (An _)
 have c0:∀a,a∉cells ⟨some v,.dat m d,F⟩:=λa ha=>by
  rcases md with rfl | rfl <;> exact nomatch ha
 refine (h1.push (e:=⟨some v,.dat m d,F⟩) ⟨v,rfl,r,λz=>?_,λz=>?_⟩ (λf hf=>⟨λ_ a ha=>absurd ha (c0 a),λhq a ha z=>?_⟩) λa ha=>absurd ha (c0 a)).tomid
 ·rcases md with rfl | rfl <;> cases z
 ·rcases md with rfl | rfl <;> cases z
 ·obtain ⟨e,he,ze⟩:=hF a z
  have he':e∈S++(hid++T):=Ah _ (Am _ he)
  rcases iD h he' hf with rfl | q
  ·rw[hh e he] at ha
   cases ha
  ·refine q.2 ?_ a ha ze
   rcases hq with hq | hq
   ·refine .inl (np ?_ e he)
    rcases md with rfl | rfl
    ·rfl
    ·cases hq
   ·exact .inr hq
def U6(de:DE):DI:=λδ P=>de δ λx δ'=>match x with
 | .dat m (.list ds)=>P (Il m) ds δ'
 | .dat m (.tuple ds)=>P (Il m) ds δ'
 | _=>False
def eQ(da:DA):DI:=λδ P=>da δ λxs δ'=>match xs with
 | [.dat _ (.int j)]=>-1000000<=j/\j<=1000000/\P .sh ((Bi j.toNat).map λi:Nat=>.int i) δ'
 | _=>False
def tM(da:DA):DI:=λδ P=>da δ λxs δ'=>match xs with
 | [.dat m (.list ds)]=>P (Il m) (ds.zipIdx.map λp=>.tuple [.int p.2,p.1]) δ'
 | _=>False
def M8(da:DA):DI:=λδ P=>da δ λxs δ'=>match xs with
 | [.dat m (.tuple ds)]=>P (Il m) (ds.zipIdx.map λp=>.tuple [.int p.2,p.1]) δ'
 | _=>False
def mdZip:Md->Md->Md
 | .pk,_=>.pk
 | _,.pk=>.pk
 | _,_=>.sh
def yE(da:DA):DI:=λδ P=>da δ λxs δ'=>match xs with
 | [.dat m (.list ds),.dat m' (.list es)]=>P (mdZip m m') ((ds.zip es).map λp=>.tuple [p.1,p.2]) δ'
 | _=>False
section
variable{K:PySem.W.Frag}
theorem Gm{H:Hp}{n:Nat}{v:V}{m:Md}{d:Ad}{F:List Addr}{hid:List Ent}(h:∀e∈hid,Gg K H n e)(he:⟨some v,.dat m d,F⟩∈hid):RdF K H v d F:=by
 obtain ⟨w,e1,h1,_⟩:=h _ he
 cases e1
 exact h1
theorem Vz{v:Option V}{m:Md}{d:Ad}{F:List Addr}:cells ⟨v,.dat (Il m) d,F⟩=[]:=by cases m <;> rfl
theorem iQ{v:Option V}{m:Md}{d:Ad}{F:List Addr}:∀e∈[(⟨v,.dat (Il m) d,F⟩ : Ent)],cells e=[]:=λe he=>by
 rw[Aj.mp he]
 exact Vz
theorem pP{v:Option V}{m:Md}{d:Ad}{F:List Addr}:Il m=.sh->∀e∈[(⟨v,.dat (Il m) d,F⟩ : Ent)],Lr e.x=false:=λz e he=>by
 rw[Aj.mp he]
 show Lr (.dat (Il m) d)=false
 rw[z]
 rfl
theorem bY(m:Md):Il m=.sh\/Il m=.pk:=by cases m <;> simp [Il]
theorem mK{a:Addr}{m:Md}{ds:List Ad}{F:List Addr}:IterOk K (R8 K a) [⟨some (.ref a),.dat (Il m) (.list ds),F⟩] (Il m) ds where
 md:=bY m
 hd:=iQ
 np:=pP
 go:=λH n i h hi=>by
  obtain ⟨b,xs,G,e,hb,rb,_,_⟩:=(Gm h Aa).list_inv
  cases e
  have hl:=rb.len
  exact ⟨xs,xs[i],Om.of hb,by simp [show i<xs.length by omega]⟩
 yld:=λH n i x H' h hi y=>by
  obtain ⟨b,xs,G,e,hb,rb,rfl,_⟩:=(Gm h Aa).list_inv
  cases e
  obtain ⟨rfl,y⟩:=y
  have hx:=y xs (Om.of hb)
  obtain ⟨x',F',h1,h2,h3⟩:=rb.get (i:=i) (e:=ds[i]) (by simp [hi])
  rw[hx] at h1
  cases h1
  exact ⟨Oh.refl _,ds[i],F',by simp [hi],h2,λc hc=>⟨_,Aa,Ab _ (h3.subset hc)⟩⟩
 stop:=λH n h=>by
  obtain ⟨b,xs,G,e,hb,rb,_,_⟩:=(Gm h Aa).list_inv
  cases e
  exact ⟨xs,Om.of hb,by rw[rb.len]; exact An _⟩
theorem sQ{a:Addr}{m:Md}{ds:List Ad}{F:List Addr}:IterOk K (O4 K a) [⟨some (.ref a),.dat (Il m) (.tuple ds),F⟩] (Il m) ds where
 md:=bY m
 hd:=iQ
 np:=pP
 go:=λH n i h hi=>by
  obtain ⟨b,xs,e,hb,rb,_⟩:=(Gm h Aa).tup_inv
  cases e
  have hl:=rb.len
  exact ⟨xs,xs[i],Pe.of hb,by simp [show i<xs.length by omega]⟩
 yld:=λH n i x H' h hi y=>by
  obtain ⟨b,xs,e,hb,rb,_⟩:=(Gm h Aa).tup_inv
  cases e
  obtain ⟨rfl,y⟩:=y
  have hx:=y xs (Pe.of hb)
  obtain ⟨x',F',h1,h2,h3⟩:=rb.get (i:=i) (e:=ds[i]) (by simp [hi])
  rw[hx] at h1
  cases h1
  exact ⟨Oh.refl _,ds[i],F',by simp [hi],h2,λc hc=>⟨_,Aa,h3.subset hc⟩⟩
 stop:=λH n h=>by
  obtain ⟨b,xs,e,hb,rb,_⟩:=(Gm h Aa).tup_inv
  cases e
  exact ⟨xs,Pe.of hb,by rw[rb.len]; exact An _⟩
theorem iL{lo:Int}{n:Nat}:IterOk K (L5 lo n) [] .sh ((Bi n).map λi:Nat=>.int (lo+i)) where
 md:=.inl rfl
 hd:=λ_ z=>nomatch z
 np:=λ_ _ z=>nomatch z
 go:=λH k i h hi=>by
  show i<n
  simpa using hi
 yld:=λH k i x H' h hi y=>by
  obtain ⟨rfl,rfl⟩:=y
  rw[Ac,Bq] at hi
  exact ⟨Oh.refl _,.int (lo+i),[],by simp [hi],.int _,λ_ z=>nomatch z⟩
 stop:=λH k h=>by simp [L5]
theorem nR{a:Addr}{m:Md}{ds:List Ad}{F:List Addr}:IterOk K (Q2 K a) [⟨some (.ref a),.dat (Il m) (.list ds),F⟩] (Il m) (ds.zipIdx.map λp=>.tuple [.int p.2,p.1]) where
 md:=bY m
 hd:=iQ
 np:=pP
 go:=λH n i h hi=>by
  obtain ⟨b,xs,G,e,hb,rb,_,_⟩:=(Gm h Aa).list_inv
  cases e
  have hl:=rb.len
  rw[Ac,Eh] at hi
  exact ⟨xs,xs[i],Om.of hb,by simp [show i<xs.length by omega]⟩
 yld:=λH n i x H' h hi y=>by
  obtain ⟨b,xs,G,e,hb,rb,rfl,_⟩:=(Gm h Aa).list_inv
  cases e
  rw[Ac,Eh] at hi
  obtain ⟨t,z,rfl,nt,rfl,y⟩:=y
  have hx:=y xs (Om.of hb)
  obtain ⟨x',F',h1,h2,h3⟩:=rb.get (i:=i) (e:=ds[i]) (by simp [hi])
  rw[hx] at h1
  cases h1
  have s1:=Ep nt (.tup [.int i,z])
  refine ⟨s1,.tuple [.int i,ds[i]],F',by simp [hi],.tup Dh (by simp [Gi]) ?_,λc hc=>⟨_,Aa,Ab _ (h3.subset hc)⟩⟩
  have:=RdFs.cons (F:=[]) (.int (i:Int)) (RdFs.cons (h2.kp (Kp.of s1)) RdFs.nil)
  rw[Dc] at this
  exact this
 stop:=λH n h=>by
  obtain ⟨b,xs,G,e,hb,rb,_,_⟩:=(Gm h Aa).list_inv
  cases e
  exact ⟨xs,Om.of hb,by rw[Ac,Eh,rb.len]; exact An _⟩
theorem tK{a b:Addr}{m m':Md}{ds es:List Ad}{F G:List Addr}:IterOk K (R0 K a b) [⟨some (.ref a),.dat (Il m) (.list ds),F⟩,⟨some (.ref b),.dat (Il m') (.list es),G⟩] (mdZip m m') ((ds.zip es).map λp=>.tuple [p.1,p.2]) where
 md:=by cases m <;> cases m' <;> simp [mdZip]
 hd:=λe he=>by
  rcases Ag.mp he with rfl | he
  ·exact Vz
  ·rw[Aj.mp he]
   exact Vz
 np:=λz e he=>by
  rcases Ag.mp he with rfl | he
  ·cases m <;> cases m' <;> first | rfl | cases z
  ·rw[Aj.mp he]
   cases m <;> cases m' <;> first | rfl | cases z
 go:=λH n i h hi=>by
  obtain ⟨b1,xs,G1,e1,hb1,rb1,_,_⟩:=(Gm h Aa).list_inv
  obtain ⟨b2,ys,G2,e2,hb2,rb2,_,_⟩:=(Gm h (Ab _ Aa)).list_inv
  cases e1
  cases e2
  have l1:=rb1.len
  have l2:=rb2.len
  rw[Ac,Lv] at hi
  exact ⟨xs,ys,xs[i],ys[i],Om.of hb1,Om.of hb2,by simp [show i<xs.length by omega],by simp [show i<ys.length by omega]⟩
 yld:=λH n i x H' h hi y=>by
  obtain ⟨b1,xs,G1,e1,hb1,rb1,rfl,_⟩:=(Gm h Aa).list_inv
  obtain ⟨b2,ys,G2,e2,hb2,rb2,rfl,_⟩:=(Gm h (Ab _ Aa)).list_inv
  cases e1
  cases e2
  rw[Ac,Lv] at hi
  obtain ⟨t,u,v,rfl,nt,rfl,y1,y2⟩:=y
  have hx1:=y1 xs (Om.of hb1)
  have hx2:=y2 ys (Om.of hb2)
  obtain ⟨x1,F1,h11,h12,h13⟩:=rb1.get (i:=i) (e:=ds[i]) (by simp [show i<ds.length by omega])
  obtain ⟨x2,F2,h21,h22,h23⟩:=rb2.get (i:=i) (e:=es[i]) (by simp [show i<es.length by omega])
  rw[hx1] at h11
  cases h11
  rw[hx2] at h21
  cases h21
  have s1:=Ep nt (.tup [u,v])
  refine ⟨s1,.tuple [ds[i],es[i]],F1++F2,?_,.tup Dh (by simp [Gi]) ?_,λc hc=>?_⟩
  ·rw[Bf,show (ds.zip es)[i]? = some (ds[i],es[i]) from List.getElem?_zip_eq_some.mpr ⟨by simp [show i<ds.length by omega],by simp [show i<es.length by omega]⟩]
   rfl
  ·have:=RdFs.cons (h12.kp (Kp.of s1)) (RdFs.cons (h22.kp (Kp.of s1)) RdFs.nil)
   rw[Dc] at this
   exact this
  ·rcases Ay.mp hc with hc | hc
   ·exact ⟨_,Aa,Ab _ (h13.subset hc)⟩
   ·exact ⟨_,Ab _ Aa,Ab _ (h23.subset hc)⟩
 stop:=λH n h=>by
  obtain ⟨b1,xs,G1,e1,hb1,rb1,_,_⟩:=(Gm h Aa).list_inv
  obtain ⟨b2,ys,G2,e2,hb2,rb2,_,_⟩:=(Gm h (Ab _ Aa)).list_inv
  cases e1
  cases e2
  have l1:=rb1.len
  have l2:=rb2.len
  refine ⟨xs,ys,Om.of hb1,Om.of hb2,?_⟩
  rw[Ac,Lv]
  omega
end
section
variable{X:Cx}{tg e:Expr}{de:DE}{di:DI}
def dL(de:DE):DI:=λδ P=>de δ λx δ'=>match x with
 | .dat m (.list ds)=>P (Il m) ds δ'
 | _=>False
def U0(de:DE):DI:=λδ P=>de δ λx δ'=>match x with
 | .dat m (.tuple ds)=>P (Il m) ds δ'
 | _=>False
theorem cF(h:Ei X e de):mP X tg e (dL de):=by
 refine PI.imp (uG h) λσ H R h=>?_
 obtain ⟨H0,Y,S,T,δ,P,rfl,hS,hA,hd,k⟩:=h
 refine ⟨H0,Y,S,T,δ,_,rfl,hS,hA,hd,λx δ1 v F S1 H1 e1 e2 hA1 p1=>?_⟩
 split at p1
 ·obtain ⟨a,xs,G,rfl,ha,ra,rfl,hz⟩:=(hA1.told mem_mid).list_inv
  exact ⟨a,rfl,⟨xs,Om.of ha⟩,k _ _ δ1 _ [_] S1 H1 e1 e2 ((hA1.mid.wk (Rk _)).tomid) mK hz p1⟩
 ·exact p1.elim
theorem T7(h:Ei X e de):mP X tg e (U0 de):=by
 refine PI.imp (zH h) λσ H R h=>?_
 obtain ⟨H0,Y,S,T,δ,P,rfl,hS,hA,hd,k⟩:=h
 refine ⟨H0,Y,S,T,δ,_,rfl,hS,hA,hd,λx δ1 v F S1 H1 e1 e2 hA1 p1=>?_⟩
 split at p1
 ·obtain ⟨a,xs,rfl,ha,ra,hz⟩:=(hA1.told mem_mid).tup_inv
  exact ⟨a,rfl,⟨xs,Pe.of ha⟩,k _ _ δ1 _ [_] S1 H1 e1 e2 ((hA1.mid.wk (Rk _)).tomid) sQ hz p1⟩
 ·exact p1.elim
variable{es:List Expr}{da:DA}{a b:Expr}{p pos tp:Pos}{elts:List Expr}{kt:Nat}
theorem Gw(hg:Gl X "range")(hm:X.mg "range" = none)(ha:lC X [a] da)(hs:Bj [a] X.env=[(false,eval a X.env)]:=by rfl):mP X tg (.Call (.Name "range" p) [a] [] pos) (eQ da):=by
 refine PI.imp (mW hg hm ha hs) λσ H R h=>?_
 obtain ⟨H0,Y,S,T,δ,P,rfl,hS,hA,hd,k⟩:=h
 refine ⟨H0,Y,S,T,δ,_,rfl,hS,hA,hd,λxs δ' As us S' H' e1 e2 ex eu hA' p=>?_⟩
 split at p
 ·obtain ⟨v,F,rfl,hA2⟩:=Hf eu hA' ex
  obtain ⟨rfl,_⟩:=(hA2.told mem_mid).int_inv
  obtain ⟨j0,j1,pp⟩:=p
  refine ⟨_,rfl,by omega,by omega,k _ _ δ' _ [] S' H' e1 e2 hA2.drop iL (by rw[Ac,Bq]; exact gC (by omega)) ?_⟩
  simpa using pp
 ·exact p.elim
theorem aQ(hg:Gl X "enumerate")(hm:X.mg "enumerate" = none)(ha:lC X [a] da)(hs:Bj [a] X.env=[(false,eval a X.env)]:=by rfl):mP X (.Tuple elts kt tp) (.Call (.Name "enumerate" p) [a] [] pos) (tM da):=by
 refine PI.imp (vO hg hm ha hs) λσ H R h=>?_
 obtain ⟨H0,Y,S,T,δ,P,rfl,hS,hA,hd,k⟩:=h
 refine ⟨H0,Y,S,T,δ,_,rfl,hS,hA,hd,λxs δ' As us S' H' e1 e2 ex eu hA' p=>?_⟩
 split at p
 ·obtain ⟨v,F,rfl,hA2⟩:=Hf eu hA' ex
  obtain ⟨a,xs,G,rfl,ha,ra,rfl,hz⟩:=(hA2.told mem_mid).list_inv
  exact ⟨a,rfl,⟨xs,Om.of ha⟩,k _ _ δ' _ [_] S' H' e1 e2 ((hA2.mid.wk (Rk _)).tomid) nR (by rw[Ac,Eh]; exact hz) p⟩
 ·exact p.elim
theorem yY(hg:Gl X "zip")(hm:X.mg "zip" = none)(ha:lC X [a,b] da)(hs:Bj [a,b] X.env=(false,eval a X.env)::Bj [b] X.env:=by rfl)(hp:(Hg pos (Bj [b] X.env)).any (·.1)=false:=by rfl):mP X (.Tuple elts kt tp) (.Call (.Name "zip" p) [a,b] [] pos) (yE da):=by
 refine PI.imp (yX hg hm ha hs hp) λσ H R h=>?_
 obtain ⟨H0,Y,S,T,δ,P,rfl,hS,hA,hd,k⟩:=h
 refine ⟨H0,Y,S,T,δ,_,rfl,hS,hA,hd,λxs δ' As us S' H' e1 e2 ex eu hA' p=>?_⟩
 split at p
 ·obtain ⟨v,F,w,G,rfl,hA2⟩:=Wb eu hA' ex
  obtain ⟨a,xs,G1,rfl,ha,ra,rfl,hz⟩:=(hA2.told mem_mid).list_inv
  obtain ⟨b,ys,G2,rfl,hb,rb,rfl,hz2⟩:=(hA2.told Em).list_inv
  refine ⟨a,b,rfl,⟨xs,Om.of ha⟩,⟨ys,Om.of hb⟩,k _ _ δ' _ [_,_] S' H' e1 e2 (((((hA2.mid.wk (Rk _)).tomid).swap.mid.wk (Rk _)).tomid).swap) tK (by rw[Ac,Lv]; omega) p⟩
 ·exact p.elim
end
def D0(di:DI)(dg:DG)(db:DB):DB:=λD δ=>di δ λm ds δ1=>m=.sh/\∃I:Nat->DS->Prop,I 0 δ1 /\
 (∀i d δ',ds[i]? = some d->I i δ'->dg (.dat .sh d) δ' λδ2=>db { D with nx:=I (i+1),ct:=I (i+1),bk:=D.nx } δ2)/\∀δ',I ds.length δ'->D.nx δ'
section
variable{X:Cx}{tg iter:Expr}{di:DI}{dg:DG}{db:DB}{body:List Stmt}{pos:Pos}
theorem At.dropH{K:PySem.W.Frag}{H0 H:Hp}{X:Addr->Prop}{n:Nat}{S T hid:List Ent}{e:Ent}(h:At K H0 X n (S++e::(hid++T)) H):At K H0 X n (S++e::T) H:=h.sub ((Cj S).append ((Ce hid T).cons₂ e))
theorem Gd(hp:PassesOwn (model X.prog X.w) X.A X.env X.xe)(hc:X.calm=true)(hi:mP X tg iter di)(hg:K1 X tg dg)(hb:Ut X body db)(hs:∀x,Ci iter X.env x=pure x:=by intro _; rfl):cE X (.For tg iter body [] pos) (D0 di dg db):=by
 refine PS.impD (x9 hp hc hi hg hb hs) λD σ H h=>?_
 obtain ⟨H0,Y,S,T,δ,P,rfl,hS,hT,hA,hd,k1,k2,k3,k4⟩:=h
 refine ⟨H0,Y,S,T,δ,_,rfl,hS,hA,hd,λm ds δ1 J hid S1 H1 e1 e2 hA1 it hz p1=>?_⟩
 obtain ⟨rfl,I,h0,hs,hf⟩:=p1
 rw[<- e1]
 have hT':∀e∈hid++T,Lr e.x=false:=λe he=>by
  rcases Ay.mp he with he | he
  ·exact it.np rfl e he
  ·exact hT e he
 refine ⟨λi q σ H=>q=ds.length - i/\i<=ds.length/\∃S δ,vs S=σ/\Sl S δ/\At X.K H0 Y δ.n (S++(hid++T)) H/\I i δ,⟨ds.length,by simp,Dv _,S1,δ1,rfl,e2,hA1,h0⟩,?_⟩
 (intro i q σ H q_; obtain ⟨rfl,hi,S2,δ2,rfl,e3,hA2,hI⟩ := q_)
 have hid_ok:∀e∈hid,Gg X.K H δ2.n e:=λe he=>hA2.ok e (Ah _ (Am _ he))
 by_cases hlt:i<ds.length
 ·refine .inr ⟨it.go H δ2.n i hid_ok hlt,λσ' H'=>∃S δ,vs S=σ'/\Sl S δ/\At X.K H0 Y δ.n (S++(hid++T)) H'/\I (i+1) δ,λσ' H' q=>⟨ds.length - (i+1),by omega,rfl,hlt,q⟩,λx H' y=>?_⟩
  obtain ⟨s1,d,F,h1,h2,h3⟩:=it.yld H δ2.n i x H' hid_ok hlt y
  refine ⟨H0,Y,S2,hid++T,δ2,.dat .sh d,F,_,rfl,e3,hA2.item s1 h2 h3 it.md it.hd it.np,hs i d δ2 h1 hI,λδ3 S3 H3 e4 hA3 p3=>?_⟩
  refine ⟨H0,Y,S3,hid++T,δ3,_,rfl,e4,hT',hA3,p3,λδ4 S4 H4 e5 hA4 p4=>⟨S4,δ4,rfl,e5,hA4,p4⟩,λx δ4 v F S4 H4 e5 hA4 p4=>k2 x δ4 v F S4 H4 e5 hA4.dropH p4,
   λδ4 S4 H4 e5 hA4 p4=>k1 δ4 S4 H4 e5 hA4.dropL p4,λδ4 S4 H4 e5 hA4 p4=>⟨S4,δ4,rfl,e5,hA4,p4⟩⟩
 ·have e:i=ds.length:=by omega
  subst e
  exact .inl ⟨it.stop H δ2.n hid_ok,k1 δ2 S2 H e3 hA2.dropL (hf δ2 hI)⟩
end
def sU(dt:DT)(db:DB):DB:=λD δ=>∃(I:DS->Prop) (μ:DS->Nat),I δ/\∀δ',I δ'->dt δ' λb δ2=>match b with
 | true=>db { D with nx:=λδ3=>I δ3/\μ δ3<μ δ',ct:=λδ3=>I δ3/\μ δ3<μ δ',bk:=D.nx } δ2
 | false=>D.nx δ2
end DL
namespace Nd
open PySem PySem.Spec PyProof.Rows L2
theorem Yp(elt t1 i1 t2 i2:Expr)(scope:Scope)(pos:Pos)(it acc:Value)(env:Env) :
  compTurn (.ListComp elt [⟨t1,i1,[],0⟩,⟨t2,i2,[],0⟩] scope pos) 0 it acc env=(do
   Ux i1.pos
   match <- Of it with
   | none=>pure (.done .next)
   | some v =>
    Gf t1 it v
    Mt t1 env v
    let x <- eval i2 env
    Ux i2.pos
    let x <- Ci i2 env x
    let it2 <- Qx [x] (pyIter x)
    let _ <- runOwn (.compStart (.ListComp elt [⟨t1,i1,[],0⟩,⟨t2,i2,[],0⟩] scope pos) 1 it2 acc env) env
    again (.compLoop (.ListComp elt [⟨t1,i1,[],0⟩,⟨t2,i2,[],0⟩] scope pos) 0 it acc env)):=by rfl
theorem Xx(elt t1 i1 t2 i2:Expr)(scope:Scope)(pos:Pos)(it acc:Value)(env:Env) :
  compTurn (.ListComp elt [⟨t1,i1,[],0⟩,⟨t2,i2,[],0⟩] scope pos) 1 it acc env=(do
   Ux i2.pos
   match <- Of it with
   | none=>pure (.done .next)
   | some v =>
    Gf t2 it v
    Mt t2 env v
    (do let _ <- call (.builtin "list.append") [acc,<- eval elt env])
    again (.compLoop (.ListComp elt [⟨t1,i1,[],0⟩,⟨t2,i2,[],0⟩] scope pos) 1 it acc env)):=by rfl
section
variable{prog:Bp}{w:World}{A:Dg}{R:Result->Al->Prop}{s:Al}
theorem Xv{elt:Expr}{g:Comprehension}{t2 i2:Expr}{scope:Scope}{pos:Pos}{it acc:Value}{env:Env}(h0:Hs (model prog w) A (.compLoop (.ListComp elt [g,⟨t2,i2,[],0⟩] scope pos) 1 it acc env) R s)(h:wpAny (model prog w) A (pyIter it) (λit' s'=>Hs (model prog w) A (.compLoop (.ListComp elt [g,⟨t2,i2,[],0⟩] scope pos) 1 it' acc env) R s') (λ_ _=>False) s):Hs (model prog w) A (.compStart (.ListComp elt [g,⟨t2,i2,[],0⟩] scope pos) 1 it acc env) R s:=by
 refine codeAny_of_tree ?_
 show wpAny _ _ ((compStart (.ListComp elt [g,⟨t2,i2,[],0⟩] scope pos) 1 it acc env).onRaise (λx=>do noteFrame x env; Ux theWindowsPlace)) _ _ s
 refine wpAny_notedAt ?_
 unfold compStart
 show wpAny _ _ (ask >>= _) _ _ s
 refine Ae (Qb (wpAny_ite ?_))
 split
 ·first
   | exact Ae (Ak (Ak (And.intro rfl h0)))
   | exact Ak (And.intro rfl h0)
 ·first
   | exact Ae (wpAny_rule (Ae (Gr (Ae (Di h (λit' s' h'=>Ak (And.intro rfl h')) λ_ _ x=>x.elim)))))
   | (refine Ae (wpAny_rule ?_); show wpAny _ _ (Ux i2.pos >>= _) _ _ s; exact Ae (Gr (Ae (Di h (λit' s' h'=>Ak (And.intro rfl h')) λ_ _ x=>x.elim))))
theorem cS{elt t1 i1 t2 i2:Expr}{scope:Scope}{pos:Pos}{it acc:Value}{env:Env}(hs2:∀x,Ci i2 env x=pure x)(J:Nat->Al->Prop) (turn:∀n s,J n s->wpAny (model prog w) A (Of it) (λr s1=>match r with
    | none=>R (.ok .next) s1
    | some v=>wpAny (model prog w) A (Gf t1 it v) (λ_ s2=>wpAny (model prog w) A (Mt t1 env v) (λ_ s3 =>
      wpAny (model prog w) A (eval i2 env) (λx s4=>wpAny (model prog w) A (pyIter x) (λit2 s5 =>
       Hs (model prog w) A (.compStart (.ListComp elt [⟨t1,i1,[],0⟩,⟨t2,i2,[],0⟩] scope pos) 1 it2 acc env) (λr s6=>match r with | .ok _=>∃m,m<n/\J m s6 | .error _=>False) s5) (λ_ _=>False) s4) (λ_ _=>False) s3) (λ_ _=>False) s2) (λ_ _=>False) s1) (λ_ _=>False) s)
  (n:Nat) (h:J n s):Hs (model prog w) A (.compLoop (.ListComp elt [⟨t1,i1,[],0⟩,⟨t2,i2,[],0⟩] scope pos) 0 it acc env) R s:=by
 refine codeAny_loop rfl J (λn s hJ=>?_) n h
 show wpAny _ A (Sem.onRaise (compTurn (.ListComp elt [⟨t1,i1,[],0⟩,⟨t2,i2,[],0⟩] scope pos) 0 it acc env) (λx=>do noteFrame x env; theTreesLotGoes x)) _ _ s
 refine wpAny_noted ?_
 rw[Yp]
 refine Ae (Gr (Ae (Di (turn n s hJ) (λr s1 h1=>?_) λ_ _ z=>z.elim)))
 cases r with
 | none=>exact Ak h1
 | some v =>
  refine Ae (Di h1 (λ_ s2 h2=>?_) λ_ _ z=>z.elim)
  refine Ae (Di h2 (λ_ s3 h3=>?_) λ_ _ z=>z.elim)
  refine Ae (Di h3 (λx s4 h4=>?_) λ_ _ z=>z.elim)
  refine Ae (Gr (Ae (Mg (hs2 x) (Ae (Et (Di h4 (λit2 s5 h5=>?_) λ_ _ z=>z.elim))))))
  refine Ae (wpAny_runOwn ?_)
  refine Nl h5 λr s6 h6=>?_
  cases r with
  | ok f=>exact Ak ⟨rfl,h6⟩
  | error e=>exact h6.elim
theorem dS{elt t1 i1 t2 i2:Expr}{scope:Scope}{pos:Pos}{it acc:Value}{env:Env}(J:Nat->Al->Prop) (turn:∀n s,J n s->wpAny (model prog w) A (Of it) (λr s1=>match r with
    | none=>R (.ok .next) s1
    | some v=>wpAny (model prog w) A (Gf t2 it v) (λ_ s2=>wpAny (model prog w) A (Mt t2 env v) (λ_ s3 =>
      wpAny (model prog w) A (eval elt env) (λx s5=>wpAny (model prog w) A (call (.builtin "list.append") [acc,x]) (λ_ s6=>∃m,m<n/\J m s6) (λ_ _=>False) s5) (λ_ _=>False) s3) (λ_ _=>False) s2) (λ_ _=>False) s1) (λ_ _=>False) s)
  (n:Nat) (h:J n s):Hs (model prog w) A (.compLoop (.ListComp elt [⟨t1,i1,[],0⟩,⟨t2,i2,[],0⟩] scope pos) 1 it acc env) R s:=by
 refine codeAny_loop rfl J (λn s hJ=>?_) n h
 show wpAny _ A (Sem.onRaise (compTurn (.ListComp elt [⟨t1,i1,[],0⟩,⟨t2,i2,[],0⟩] scope pos) 1 it acc env) (λx=>do noteFrame x env; theTreesLotGoes x)) _ _ s
 refine wpAny_noted ?_
 rw[Xx]
 refine Ae (Gr (Ae (Di (turn n s hJ) (λr s1 h1=>?_) λ_ _ z=>z.elim)))
 cases r with
 | none=>exact Ak h1
 | some v =>
  refine Ae (Di h1 (λ_ s2 h2=>?_) λ_ _ z=>z.elim)
  refine Ae (Di h2 (λ_ s3 h3=>?_) λ_ _ z=>z.elim)
  refine Ae (Ae (Di h3 (λx s5 h5=>?_) λ_ _ z=>z.elim))
  exact Ae (Di h5 (λ_ s6 h6=>Ak (Ak ⟨rfl,h6⟩)) λ_ _ z=>z.elim)
end
section
variable{X:Cx}
def j4(J:It)(js:List Nat)(wi2:TI)(te:TE)(σ:L2.St)(H1:Hp)(Q:VK):Prop:=∀D,H1 D=none->∃W:Nat->Nat->Hp->Prop,(∃m,W 0 m (upd H1 D (.lst [])))/\∀i m H,W i m H ->
 (J.stop i H/\Q (.ref D) H)\/(J.go i H/\∀x H',J.yld i H x H'->∀o:Option V,wi2 (some x::o::Eg σ js) H' λJ2 H2=>∃W2:Nat->Nat->Hp->Prop,(∃m2,W2 0 m2 H2)/\∀i2 m2 H3,W2 i2 m2 H3 ->
  (J2.stop i2 H3/\∃m',m'<m/\W (i+1) m' H3)\/(J2.go i2 H3/\∀y H4,J2.yld i2 H3 y H4->te (some x::some y::Eg σ js) H4 λz H5=>∃acc,H5 D=some (.lst acc)/\acc.length<Be/\∃m2',m2'<m2/\W2 (i2+1) m2' (upd H5 D (.lst (acc++[z])))))
def pB(wi:TI)(js:List Nat)(wi2:TI)(te:TE):TE:=λσ H Q=>wi σ H λJ H1=>j4 J js wi2 te σ H1 Q
theorem qT{elt iter iter2:Expr}{x x2:Str}{px px2 pos:Pos}{scope:Scope}{cl:List (Str×Addr)}{ys:List Str}{js:List Nat}{wi wi2:TI}{te:TE}(C:CompScope X scope cl x ys js)(own2:Sd scope x2)(nd2:(x::x2::ys).Nodup)(hc:X.calm=true)(hi:PI X (.Name x px) iter wi)(hi2:∀fp s H,PI (Ct X scope cl (x::x2::ys) fp s H) (.Name x2 px2) iter2 wi2)(he:∀fp s H,PE (Ct X scope cl (x::x2::ys) fp s H) elt te)(hs:∀x,Ci iter X.env x=pure x:=by intro _; rfl)(hs2:∀fp s H v,Ci iter2 (Ct X scope cl (x::x2::ys) fp s H).env v=pure v:=by intro _ _ _ _; rfl):PE X (.ListComp elt [⟨.Name x px,iter,[],0⟩,⟨.Name x2 px2,iter2,[],0⟩] scope pos) (pB wi js wi2 te):=by
 intro pins s σ H Q I h
 rw[eval_ListComp]
 refine oB (use:=none) rfl hs C.clos C.kind C.locs (Gq (hi pins s σ H _ I h) λv s1 h1=>Gq h1 λitv s2 h2=>?_)
 obtain ⟨it,fp,tn,J,H2,e,I2,T,st2,f2,q2⟩:=h2
 subst e
 have fD:H2 s2.heap.objs.size=none:=I2.hok.fresh (An _)
 obtain ⟨W,⟨m0,w0⟩,turn⟩:=q2 s2.heap.objs.size fD
 refine Eu ?_
 have I3:Inv X pins σ (upd H2 s2.heap.objs.size (.lst [])) { s2 with heap:=s2.heap.push { cls:=.type "list",dict:=none,data:=.seq ([]:List Value).toArray } } :=
  I2.laid (t':=s2.toks) (λb u q=>Ar _ q) (An _) ⟨Dv _,[],0,.nil,Bt _ rfl⟩
 obtain ⟨f3,st3',o3'⟩:=eO I2 T st2 f2 I3
 generalize hS3:({ s2 with heap:=s2.heap.push { cls:=.type "list",dict:=none,data:=.seq ([]:List Value).toArray } }:Al)=s3 at I3
 have tR:tn 0 s3.heap:=by rw[<- hS3]; exact st3'
 have o3:∀b∈fp,∃o,s3.heap.get? b=some o:=by rw[<- hS3]; exact o3'
 show wpAny _ _ (Uj scope X.env.globals cl [] X.env.qual none .none (some X.env)) _ _ _
 refine Yv C λh4 hns4 keep4 new4=>?_
 have I4:∀tk,Inv (Ct X scope cl (x::x2::ys) fp s3 (upd H2 s2.heap.objs.size (.lst []))) [] (none::none::Eg σ js) (upd H2 s2.heap.objs.size (.lst [])) { s3 with heap:=h4,toks:=tk }:=λtk=>Wc (pre:=[x,x2]) C I3 f3 o3 hns4 keep4 new4
 have st4:tn 0 h4:=T.keep 0 _ _ tR λb hb o q=>keep4 b o q
 generalize hX':Ct X scope cl (x::x2::ys) fp s3 (upd H2 s2.heap.objs.size (.lst []))=X' at I4
 obtain ⟨eP,eW,eK,eA,eC⟩:=cO hc hX'
 have stat:∀{H':Hp},(∀b∈fp,H' b=none)->∀b∈fp,Ld X' [] H' b:=λ{H'} hn=>Zh hX' (I4 0) hn
 have loop:∀s5:Al,s5={ s3 with heap:=h4,toks:=s3.toks+([]:List (Str×Value)).length } ->
   Hs (model X.prog X.w) X.A (.compLoop (.ListComp elt [⟨.Name x px,iter,[],0⟩,⟨.Name x2 px2,iter2,[],0⟩] scope pos) 0 (.ref it) (.ref s2.heap.objs.size) (compEnvC scope (Eb (s3.heap.objs.size+1) scope.names cl) s3.heap.objs.size X.env))
    (compPost (model X.prog X.w) X.A X.xe none (EP X pins σ Q) (.ref s2.heap.objs.size) s3.heap.objs.size) s5:=by
  rintro s5 rfl
  refine cS (λv=>hs2 fp s3 (upd H2 s2.heap.objs.size (.lst [])) v) (λn s'=>∃i o o2 H',Inv X' [] (o::o2::Eg σ js) H' s'/\tn i s'.heap/\(∀b∈fp,H' b=none)/\W i n H') ?_ m0
   ⟨0,none,none,_,I4 _,st4,λb hb=>(f3 b hb).1,w0⟩
  (intro n s6 q_; obtain ⟨i,o,o2,H6,I6,st6,fr6,w6⟩ := q_)
  rcases turn i n H6 w6 with ⟨stop,qn⟩ | ⟨go,step⟩
  ·have hd:=T.done X' eP eW eK eC i [] s6 _ H6 (λ_ _=>False) I6 (stat fr6) st6 stop
   rw[eA] at hd
   refine Gq hd λr s7 q0_ => ?_
   obtain ⟨hr,I7⟩ := q0_
   subst hr
   obtain ⟨m7,hn7,fin7⟩:=Wx hX' I3 f3 I7
   exact ⟨m7,hn7,λh8 hs8=>⟨.ref s2.heap.objs.size,H6,fin7 h8 hs8,rfl,qn⟩⟩
  ·have hit:=T.item X' eP eW eK eC i [] s6 _ H6 (λ_ _=>False) I6 (stat fr6) st6 go
   rw[eA] at hit
   refine Gq hit λr s7 q0_ => ?_
   obtain ⟨u,hr,h7⟩ := q0_
   subst hr
   refine Gq h7 λ_ s8 q0_ => ?_
   obtain ⟨y,H8,I8,r8,y8,st8,fr8⟩ := q0_
   have I8':=I8.pinned (stat fr8) (T.obj _ _ st8)
   have stp:=step y H8 y8 o2
   have again:∀{H9:Hp} {s9:Al} {m':Nat} {o9:Option V},Inv X' ([]++Ou fp s8.heap) (some y::o9::Eg σ js) H9 s9->m'<n->W (i+1) m' H9->∃m,m<n/\∃i o o2 H',Inv X' [] (o::o2::Eg σ js) H' s9/\tn i s9.heap/\(∀b∈fp,H' b=none)/\W i m H':=λ{H9 s9 m' o9} I9 hm w9=>by
    refine ⟨m',hm,i+1,some y,o9,H9,I9.unpinned,T.keep _ _ _ st8 λb hb o e=>(I9.pin (b,o) (Ah _ (Ah _ (Ho hb e)))).1,λb hb=>?_,w9⟩
    obtain ⟨o,e,_⟩:=T.obj _ _ st8 b hb
    exact (I9.pin (b,o) (Ah _ (Ah _ (Ho hb e)))).2.1
   subst hX'
   refine Gq (Ji (i:=0) (x:=x) (pos:=px) nd2 rfl (Lb C.own) (Nv C.own) _ s8 _ H8 y u (λσ' H'=>σ'=some y::o2::Eg σ js/\H'=H8) I8' r8 ⟨rfl,rfl⟩) λ_ s9 q0_ => ?_
   obtain ⟨σ9,H9,I9,e9,e9'⟩ := q0_
   subst e9 e9'
   refine Gq (hi2 fp s3 _ _ s9 _ _ _ I9 stp) λv2 s10 h10=>Gq h10 λitv2 s11 h11=>?_
   obtain ⟨it2,fp2,tn2,J2,H11,e11,I11,T2,st11,f11,W2,⟨m20,w20⟩,turn2⟩:=h11
   subst e11
   have stat2:∀{H':Hp},(∀b∈fp2,H' b=none)->∀b∈fp2,Ld (Ct X scope cl (x::x2::ys) fp s3 (upd H2 s2.heap.objs.size (.lst []))) ([]++Ou fp s8.heap) H' b:=λhn b hb=>⟨hn b hb,(f11 b hb).2⟩
   have loop2:Hs (model X.prog X.w) X.A (.compLoop (.ListComp elt [⟨.Name x px,iter,[],0⟩,⟨.Name x2 px2,iter2,[],0⟩] scope pos) 1 (.ref it2) (.ref s2.heap.objs.size) (compEnvC scope (Eb (s3.heap.objs.size+1) scope.names cl) s3.heap.objs.size X.env))
     (λr s6=>match r with | .ok _=>∃m,m<n/\∃i o o2 H',Inv (Ct X scope cl (x::x2::ys) fp s3 (upd H2 s2.heap.objs.size (.lst []))) [] (o::o2::Eg σ js) H' s6/\tn i s6.heap/\(∀b∈fp,H' b=none)/\W i m H' | .error _=>False) s11:=by
    refine dS (λn2 s'=>∃i2 o2 H',Inv (Ct X scope cl (x::x2::ys) fp s3 (upd H2 s2.heap.objs.size (.lst []))) ([]++Ou fp s8.heap) (some y::o2::Eg σ js) H' s'/\tn2 i2 s'.heap/\(∀b∈fp2,H' b=none)/\W2 i2 n2 H') ?_ m20
     ⟨0,o2,H11,I11,st11,λb hb=>(f11 b hb).1,w20⟩
    (intro n2 s12 q_; obtain ⟨i2,p2,H12,I12,st12,fr12,w12⟩ := q_)
    rcases turn2 i2 n2 H12 w12 with ⟨stop2,m',hm',w'⟩ | ⟨go2,step2⟩
    ·have hd:=T2.done _ rfl rfl rfl hc i2 _ s12 _ H12 (λ_ _=>False) I12 (stat2 fr12) st12 stop2
     refine Gq hd λr s13 q0_ => ?_
     obtain ⟨hr,I13⟩ := q0_
     subst hr
     exact again I13 hm' w'
    ·have hit2:=T2.item _ rfl rfl rfl hc i2 _ s12 _ H12 (λ_ _=>False) I12 (stat2 fr12) st12 go2
     refine Gq hit2 λr s13 q0_ => ?_
     obtain ⟨u2,hr,h13⟩ := q0_
     subst hr
     refine Gq h13 λ_ s14 q0_ => ?_
     obtain ⟨z,H14,I14,r14,y14,st14,fr14⟩ := q0_
     have I14':=I14.pinned (stat2 fr14) (T2.obj _ _ st14)
     refine Gq (Ji (i:=1) (x:=x2) (pos:=px2) nd2 rfl (Lb own2) (Nv own2) _ s14 _ H14 z u2 (λσ' H'=>σ'=some y::some z::Eg σ js/\H'=H14) I14' r14 ⟨rfl,rfl⟩) λ_ s15 q0_ => ?_
     obtain ⟨σ15,H15,I15,e15,e15'⟩ := q0_
     subst e15 e15'
     refine Gq (he fp s3 _ _ s15 _ _ _ I15 (step2 z H15 y14)) λzv s16 q0_ => ?_
     obtain ⟨vz,H16,I16,r16,q16⟩ := q0_
     obtain ⟨acc,ha,hz,m2',hm2,w16⟩:=q16
     refine Gq (Pg _ s16 _ H16 (.ref s2.heap.objs.size) [vz] (.ref s2.heap.objs.size) [zv] (λ_ H'=>H'=upd H16 s2.heap.objs.size (.lst (acc++[vz]))) I16 rfl (.cons r16 .nil) ⟨_,acc,vz,rfl,rfl,ha,hz,rfl⟩) λ_ s17 q0_ => ?_
     obtain ⟨_,H17,I17,_,e17⟩ := q0_
     subst e17
     refine ⟨m2',hm2,i2+1,some z,_,I17.unpinned,T2.keep _ _ _ st14 λb hb o e=>(I17.pin (b,o) (Ah _ (Ah _ (Ho hb e)))).1,λb hb=>?_,w16⟩
     obtain ⟨o,e,_⟩:=T2.obj _ _ st14 b hb
     exact (I17.pin (b,o) (Ah _ (Ah _ (Ho hb e)))).2.1
   exact Xv loop2 (T2.self X.A 0 _ _ _ st11 loop2)
 exact tV (loop _ rfl) (T.self X.A 0 _ _ _ st4 (loop _ rfl))
end
end Nd
namespace DL
open PySem L2 Nd
def al(e:Ent):Ent:=match e.x with
 | .dat m d=>⟨e.v,.dat (eN m) d,e.F⟩
 | .val _=>e
 | .scr _=>e
 | _=>⟨e.v,.un,[]⟩
def alD:DV->DV
 | .dat m d=>.dat (eN m) d
 | .val v=>.val v
 | .scr ns=>.scr ns
 | _=>.un
def pT(S:List Ent)(j:Nat):Ent:=match S[j]? with
 | some e=>al e
 | none=>⟨none,.un,[]⟩
def Zj(S:List Ent)(js:List Nat):List Ent:=js.map (pT S)
def frD1(sl:List DV)(j:Nat):DV:=match sl[j]? with
 | some x=>alD x
 | none=>.un
def frD(sl:List DV)(js:List Nat):List DV:=js.map (frD1 sl)
theorem O3(e:Ent):(al e).v=e.v:=by
 obtain ⟨v,x,F⟩:=e
 cases x <;> rfl
theorem Q6(e:Ent):(al e).x=alD e.x:=by
 obtain ⟨v,x,F⟩:=e
 cases x <;> rfl
theorem jD(S:List Ent)(js:List Nat):vs (Zj S js)=Eg (vs S) js:=by
 unfold vs Zj Eg
 rw[Co]
 refine Si λj _=>?_
 rw[Bf]
 simp only[Qg,pT]
 cases S[j]? with
 | none=>rfl
 | some e=>exact O3 e
theorem kF{S:List Ent}{δ:DS}(h:Sl S δ)(js:List Nat):(Zj S js).map Ent.x=frD δ.sl js:=by
 unfold Sl at h
 unfold Zj frD
 rw[Co]
 refine Si λj _=>?_
 simp only[Qg,pT,frD1]
 rw[<- h,Bf]
 cases S[j]? with
 | none=>rfl
 | some e=>exact Q6 e
section
variable{K:PySem.W.Frag}{H0 H H':Hp}{X:Addr->Prop}{n:Nat}{E S T:List Ent}
theorem fJ(e:Ent):cells (al e)=[]:=by
 obtain ⟨v,x,F⟩:=e
 cases x with
 | dat m d=>cases m <;> rfl
 | _=>rfl
theorem At.view1(h:At K H0 X n E H){e:Ent}(he:e∈E):At K H0 X n (al e::E) H:=by
 refine h.push ?_ (λf hf=>⟨λ_ a ha=>(by rw[fJ] at ha; cases ha),λhq a ha z=>?_⟩) λa ha=>(by rw[fJ] at ha; cases ha)
 ·have:=h.ok e he
  obtain ⟨v,x,F⟩:=e
  cases x with
  | dat m d =>
   obtain ⟨w,h1,h2,_⟩:=this
   exact ⟨w,h1,h2,λz=>(by cases m <;> cases z),λz=>(by cases m <;> cases z)⟩
  | val v=>exact this
  | scr ns=>exact this
  | _=>exact (rfl:([]:List Addr)=[])
 ·obtain ⟨v,x,F⟩:=e
  cases x with
  | dat m d =>
   rcases iD h he hf with rfl | q
   ·rcases hq with hq | hq
    ·cases m <;> first | cases hq; done | exact nomatch ha
    ·cases hq
   ·refine q.2 ?_ a ha z
    rcases hq with hq | hq
    ·refine .inl ?_
     cases m <;> first | rfl | exact hq
    ·exact .inr hq
  | val v =>
   rw[show F=[] from (h.ok _ he).2] at z
   cases z
  | scr ns =>
   obtain ⟨_,_,hF,_⟩:=h.ok _ he
   rw[show F=[] from hF] at z
   cases z
  | _=>exact nomatch z
theorem At.blank(h:At K H0 X n E H){v:Option V}:At K H0 X n (⟨v,.un,[]⟩::E) H :=
 h.push (rfl:([]:List Addr)=[]) (λf _=>⟨λ_ a ha=>(nomatch ha),λ_ a _=>Cr⟩) (λa ha=>(nomatch ha))
theorem At.view(h:At K H0 X n E H)(hS:∀e∈S,e∈E):∀js:List Nat,At K H0 X n (Zj S js++E) H
 | []=>h
 | j::js=>by
  have ih:=At.view h hS js
  show At K H0 X n (pT S j::(Zj S js++E)) H
  unfold pT
  cases e:S[j]? with
  | none=>exact ih.blank
  | some x=>exact ih.view1 (Ah _ (hS x (Ao e)))
theorem At.accNew(h:At K H0 X n E H){D:Addr}(hD:H D=Option.none):At K H0 X n (⟨some (.ref D),.acc [],[D]⟩::E) (upd H D (.lst [])):=by
 have s1:=Ep hD (.lst [])
 refine (h.grow (n':=n) s1 (An _)).push ⟨D,[],[],rfl,rfl,Dh,.nil,Dv _,Cr⟩ (λf hf=>?_) λa ha=>?_
 ·have nf:=h.free hD f hf
  refine ⟨λ_ a ha z=>?_,λ_ a ha z=>?_⟩
  ·rw[Aj.mp ha] at z
   exact nf z
  ·rw[Aj.mp z] at ha
   exact nf (Fk _ _ ha)
 ·rw[Aj.mp ha]
  exact .inl (h.new0 hD)
theorem At.accPutG{D:Addr}{ds:List Ad}{v:V}{m:Md}{e:Ad}{F G:List Addr}(h:At K H0 X n (⟨some (.ref D),.acc ds,D::G⟩::⟨some v,.dat m e,F⟩::E) H)(hm:m≠.pk)(hz:ds.length+1<=Be):∃xs,H D=some (.lst xs)/\xs.length=ds.length/\At K H0 X n (⟨some (.ref D),.acc (ds++[e]),D::(G++F)⟩::E) (upd H D (.lst (xs++[v]))):=by
 obtain ⟨a,xs,G',e1,e0,ha,ra,_,nG⟩:=h.ok _ Aa
 have e1':some (V.ref D)=some (V.ref a):=e1
 cases e1'
 have e0':D::G=D::G':=e0
 cases e0'
 have r:RdF K H v e F:=h.told (Ab _ Aa)
 have hs:=Av.mp h.sep
 have hs2:=Av.mp hs.2
 have h1:=(h.sub (Cu _ _)).sub (Cu _ _)
 have npk:Lr (.dat m e)=false:=by cases m <;> first | rfl | exact absurd rfl hm
 have nF:D∉F:=(hs.1 _ Aa).1 (.inr rfl) D Aa
 have kp:∀{F:List Addr},D∉F->Kp F H (upd H D (.lst (xs++[v]))):=λ{F} hF b o q z=>by
  have : b≠D:=by
   rintro rfl
   rw[ha] at q
   cases q
   rcases z with z | z
   ·exact hF z
   ·rcases z with ⟨_,z⟩ | ⟨_,_,z⟩ <;> cases z
  rw[Ef this]
  exact q
 have nD:H0 D=Option.none:=by
  rcases h.new _ Aa D Aa with z | z
  ·exact z
  ·cases z.2
 refine ⟨xs,ha,ra.len,?_⟩
 refine ⟨λf hf=>?_,?_,λf hf=>?_,λb o nx q=>?_,λb o q=>?_,λb hb=>?_⟩
 rotate_right
 ·obtain ⟨z,c,k,f,h1,h2⟩:=h.xd b hb
  refine ⟨z,c,k,f,(Ef ?_).trans h1,h2⟩
  rintro rfl
  exact z nD
 ·rcases Ag.mp hf with rfl | hf
  ·exact ⟨D,xs++[v],G++F,rfl,rfl,Dh,(ra.kp (kp nG)).snoc (r.kp (kp nF)),by rw[Ax]; exact hz,λz=>(Ay.mp z).elim nG nF⟩
  ·exact (h1.ok f hf).kp (kp ((hs.1 f (Ab _ hf)).1 (.inr rfl) D Aa)) (An _)
 ·refine Av.mpr ⟨λf hf=>⟨λhq a ha'=>(hs.1 f (Ab _ hf)).1 (.inr rfl) a ha',λhq a ha' z=>?_⟩,hs2.2⟩
  have z1:=(hs.1 f (Ab _ hf)).2 (.inl rfl) a ha'
  rcases Ag.mp z with z | z
  ·exact z1 (z▸Aa)
  ·rcases Ay.mp z with z | z
   ·exact z1 (Ab _ z)
   ·exact (hs2.1 f hf).2 (.inl npk) a ha' z
 ·rcases Ag.mp hf with rfl | hf
  ·intro a ha'
   rw[Aj.mp ha']
   exact .inl nD
  ·exact h1.new f hf
 ·rw[Ef (Es q nD)]
  exact h.same b o nx q
 ·rw[Ef (Es q nD)]
  exact h.dom b o q
theorem At.accPut{D:Addr}{ds:List Ad}{v:V}{e:Ad}(h:At K H0 X n (⟨some (.ref D),.acc ds,[D]⟩::E) H)(r:RdF K H v e [])(hz:ds.length+1<=Be):∃xs,H D=some (.lst xs)/\xs.length=ds.length/\At K H0 X n (⟨some (.ref D),.acc (ds++[e]),[D]⟩::E) (upd H D (.lst (xs++[v]))) :=
 At.accPutG (m:=.ow) (At.pushI (S:=[⟨some (.ref D),.acc ds,[D]⟩]) h r) (by decide) hz
def Na:Bool->Md
 | true=>.ow
 | false=>.tp
theorem At.accGetG{D:Addr}{ds:List Ad}{b:Bool}{G:List Addr}(h:At K H0 X n (⟨some (.ref D),.acc ds,D::G⟩::E) H)(hb:b=true->G=[]):At K H0 X n (⟨some (.ref D),.dat (Na b) (.list ds),D::G⟩::E) H:=by
 obtain ⟨a,xs,G',e1,e0,ha,ra,hz,nG⟩:=h.ok _ Aa
 have e1':some (V.ref D)=some (V.ref a):=e1
 cases e1'
 have e0':D::G=D::G':=e0
 cases e0'
 have hs:=Av.mp h.sep
 have cs:∀a∈cells ⟨some (.ref D),.dat (Na b) (.list ds),D::G⟩,a=D:=λa ha'=>by
  cases b with
  | true=>rw[hb rfl] at ha'; exact Aj.mp ha'
  | false=>exact Aj.mp ha'
 refine (h.sub (Cu _ _)).push ⟨_,rfl,.lst ha hz ra,λz=>?_,λ_ a l e=>?_⟩ (λf hf=>⟨λhq a ha'=>?_,λhq a ha'=>(hs.1 f hf).2 (.inl rfl) a ha'⟩) λa ha'=>?_
 ·cases b with
  | true=>rw[hb rfl]; exact Cg.mpr ⟨Cr,Fe⟩
  | false=>cases z
 ·have e:D::G=a::l:=e
  cases e
  exact nG
 ·rw[cs a ha']
  exact (hs.1 f hf).1 (.inr rfl) D Aa
 ·rw[cs a ha']
  rcases h.new _ Aa D Aa with z | z
  ·exact .inl z
  ·cases z.2
end
def Lc:DT:=λδ P=>P true δ
def i9(b:Bool)(m:Md)(e:Ad):Prop:=match b with
 | true=>imm e=true
 | false=>m≠.pk
def Fl(b:Bool)(dc:DT)(de:DE)(δ:DS)(yes:Ad->Nat->Prop)(no:Nat->Prop):Prop:=dc δ λc δ2=>match c with
 | true=>de δ2 λy δ3=>match y with
  | .dat m e=>i9 b m e/\yes e δ3.n
  | _=>False
 | false=>no δ2.n
def hV(b:Bool)(di:DI)(js:List Nat)(dc:DT)(de:DE):DE:=λδ P=>di δ λm ds δ1=>∃I:Nat->List Ad->Nat->Prop,I 0 [] δ1.n /\
 (∀i d acc n,ds[i]? = some d->I i acc n->Fl b dc de ⟨.dat m d::frD δ1.sl js,n⟩ (λe n'=>I (i+1) (acc++[e]) n') (λn'=>I (i+1) acc n')) /\
 ∀acc n,I ds.length acc n->P (.dat (Na b) (.list acc)) ⟨δ1.sl,n⟩
def kB(b:Bool)(di:DI)(js:List Nat)(dc:DT)(de:DE):DE:=λδ P=>di δ λm ds δ1=>∃I:Nat->List Ad->Nat->Prop,I 0 [] δ1.n /\
 (∀i d acc n,ds[i]? = some d->I i acc n->∃d1 d2,d=.tuple [d1,d2]/\Fl b dc de ⟨.dat m d1::.dat m d2::frD δ1.sl js,n⟩ (λe n'=>I (i+1) (acc++[e]) n') (λn'=>I (i+1) acc n')) /\
 ∀acc n,I ds.length acc n->P (.dat (Na b) (.list acc)) ⟨δ1.sl,n⟩
def Nb:DT->DE->DS->(Ad->Nat->Prop)->(Nat->Prop)->Prop:=Fl true
def rB:DI->List Nat->DT->DE->DE:=hV true
def oK:DI->List Nat->DT->DE->DE:=kB true
def qW:DI->List Nat->DT->DE->DE:=hV false
section
variable{K:PySem.W.Frag}{H0 H H':Hp}{Y:Addr->Prop}{n:Nat}{E S T:List Ent}
theorem Ry{b:Bool}{dc:DT}{de:DE}{δ:DS}{yes:Ad->Nat->Prop}{no:Nat->Prop}{D:Addr}{G:List Addr}{acc:List Ad}{N1:Hp->Prop}{N2:VK}(hS:Sl S δ)(hb:b=true->G=[])(hA:At K H0 Y δ.n (S++⟨some (.ref D),.acc acc,D::G⟩::T) H)(h:Fl b dc de δ yes no)(hz:acc.length+1<=Be)(k1:∀n' H',At K H0 Y n' (⟨some (.ref D),.acc acc,D::G⟩::T) H'->no n'->N1 H')(k2:∀e n' v H' G',(b=true->G'=[])->(∃xs,H' D=some (.lst xs)/\xs.length=acc.length/\At K H0 Y n' (⟨some (.ref D),.acc (acc++[e]),D::G'⟩::T) (upd H' D (.lst (xs++[v]))))->yes e n'->N2 v H'):LT K dc (vs S) H λc H2=>if c=true then LE K de (vs S) H2 N2 else N1 H2:=by
 refine ⟨H0,Y,S,⟨some (.ref D),.acc acc,D::G⟩::T,δ,_,rfl,hS,hA,h,λc δ2 S2 H2 e1 e2 hA2 p2=>?_⟩
 cases c with
 | false=>exact sJ (k1 _ _ (hA2.sub (Ce _ _)) p2)
 | true =>
  refine qC ⟨H0,Y,S2,⟨some (.ref D),.acc acc,D::G⟩::T,δ2,_,e1,e2,hA2,p2,λy δ3 v F S3 H3 e3 e4 hA3 p3=>?_⟩
  split at p3
  ·rename_i m e
   have r:=hA3.told mem_mid
   cases b with
   | true =>
    obtain rfl:=r.imm p3.1
    obtain rfl:=hb rfl
    exact k2 _ _ _ _ [] (λ_=>rfl) ((hA3.drop.sub (Ce _ _)).accPut r hz) p3.2
   | false =>
    have hA4:At K H0 Y δ3.n (⟨some v,.dat m e,F⟩::⟨some (.ref D),.acc acc,D::G⟩::T) H3:=hA3.sub (Ce _ _)
    exact k2 _ _ _ _ (G++F) (λz=>nomatch z) ((hA4.perm (Do _ _ _)).accPutG p3.1 hz) p3.2
  ·exact p3.elim
theorem Zs{dt:TT}:∀σ H Q,LT K Lc σ H Q->Rm σ H Q:=by
 intro σ H Q h
 obtain ⟨H0,Y,S,T,δ,P,rfl,hS,hA,hd,k⟩:=h
 exact k true δ S H rfl hS hA hd
theorem gD.imp{X:Cx}{e:List Expr}{t t':TT}(h:gD X e t)(k:∀σ H Q,t' σ H Q->t σ H Q):gD X e t':=λpins s σ H Q I q=>h pins s σ H Q I (k σ H Q q)
theorem aJ{b:Bool}{di:DI}{js:List Nat}{dc:DT}{de:DE}:∀σ H Q,LE K (hV b di js dc de) σ H Q->pN (LI K di) js (LT K dc) (LE K de) σ H Q:=by
 intro σ H Q h
 obtain ⟨H0,Y,S,T,δ,P,rfl,hS,hA,hd,k⟩:=h
 refine ⟨H0,Y,S,T,δ,_,rfl,hS,hA,hd,λm ds δ1 J hid S1 H1 e1 e2 hA1 it hz p1=>?_⟩
 obtain ⟨I,h0,hs,hf⟩:=p1
 rw[<- e1]
 intro D hD
 refine ⟨λi q H=>q=ds.length - i/\i<=ds.length/\∃acc n G,(b=true->G=[])/\At K H0 Y n (⟨some (.ref D),.acc acc,D::G⟩::(S1++(hid++T))) H/\acc.length<=i/\I i acc n,⟨ds.length,by simp,Dv _,[],δ1.n,[],λ_=>rfl,hA1.accNew hD,An _,h0⟩,?_⟩
 (intro i q H q_; obtain ⟨rfl,hi,acc,n,G,hG,hA2,hl,hI⟩ := q_)
 have hid_ok:∀e∈hid,Gg K H n e:=λe he=>hA2.ok e (Ab _ (Ah _ (Am _ he)))
 by_cases hlt:i<ds.length
 ·refine .inr ⟨it.go H n i hid_ok hlt,λx H' y=>?_⟩
  obtain ⟨s1,d,F,h1,h2,h3⟩:=it.yld H n i x H' hid_ok hlt y
  have hA3:At K H0 Y n ((⟨some (.ref D),.acc acc,D::G⟩::S1)++⟨some x,.dat m d,F⟩::(hid++T)) H':=At.item (S:=⟨some (.ref D),.acc acc,D::G⟩::S1) hA2 s1 h2 h3 it.md it.hd it.np
  have hA4:=hA3.mid
  have hA5:=At.view (S:=S1) hA4 (λe he=>Ab _ (Am _ (Ab _ he))) js
  have hA6:At K H0 Y n ((⟨some x,.dat m d,F⟩::Zj S1 js)++⟨some (.ref D),.acc acc,D::G⟩::(S1++(hid++T))) H':=hA5.mid
  have hS6:Sl (⟨some x,.dat m d,F⟩::Zj S1 js) ⟨.dat m d::frD δ1.sl js,n⟩:=by
   unfold Sl
   rw[Au,kF e2]
  have hv:vs (⟨some x,.dat m d,F⟩::Zj S1 js)=some x::Eg (vs S1) js:=by
   rw[<- jD]
   rfl
  refine ⟨λH2=>∃m',m'<ds.length - i/\_,λy H3=>∃acc,H3 D=some (.lst acc)/\acc.length<Be/\∃m',m'<ds.length - i/\_,λH2 q=>q,λy H3 q=>q,?_⟩
  rw[<- hv]
  refine Ry hS6 hG hA6 (hs i d acc n h1 hI) (by omega) (λn' H2 hA7 p=>?_) (λe n' v H2 G' hG' hA7 p=>?_)
  ·exact ⟨ds.length - (i+1),by omega,rfl,hlt,acc,n',G,hG,hA7,by omega,p⟩
  ·obtain ⟨xs,g1,g2,g3⟩:=hA7
   exact ⟨xs,g1,by omega,ds.length - (i+1),by omega,rfl,hlt,acc++[e],n',G',hG',g3,by rw[Ax]; simp; omega,p⟩
 ·have e:i=ds.length:=by omega
  subst e
  refine .inl ⟨it.stop H n hid_ok,k _ ⟨δ1.sl,n⟩ _ (D::G) S1 H e1 e2 ?_ (hf acc n hI)⟩
  have hA3:=hA2.accGetG hG
  have hA4:At K H0 Y n (⟨some (.ref D),.dat (Na b) (.list acc),D::G⟩::(S1++T)) H:=hA3.sub (((Cj S1).append (Ce hid T)).cons₂ _)
  exact hA4.tomid
theorem rH{b:Bool}{di:DI}{js:List Nat}{dc:DT}{de:DE}:∀σ H Q,LE K (kB b di js dc de) σ H Q->oT K (LI K di) js (LT K dc) (LE K de) σ H Q:=by
 intro σ H Q h
 obtain ⟨H0,Y,S,T,δ,P,rfl,hS,hA,hd,k⟩:=h
 refine ⟨H0,Y,S,T,δ,_,rfl,hS,hA,hd,λm ds δ1 J hid S1 H1 e1 e2 hA1 it hz p1=>?_⟩
 obtain ⟨I,h0,hs,hf⟩:=p1
 rw[<- e1]
 intro D hD
 refine ⟨λi q H=>q=ds.length - i/\i<=ds.length/\∃acc n G,(b=true->G=[])/\At K H0 Y n (⟨some (.ref D),.acc acc,D::G⟩::(S1++(hid++T))) H/\acc.length<=i/\I i acc n,⟨ds.length,by simp,Dv _,[],δ1.n,[],λ_=>rfl,hA1.accNew hD,An _,h0⟩,?_⟩
 (intro i q H q_; obtain ⟨rfl,hi,acc,n,G,hG,hA2,hl,hI⟩ := q_)
 have hid_ok:∀e∈hid,Gg K H n e:=λe he=>hA2.ok e (Ab _ (Ah _ (Am _ he)))
 by_cases hlt:i<ds.length
 ·refine .inr ⟨it.go H n i hid_ok hlt,λx H' y=>?_⟩
  obtain ⟨s1,d,F,h1,h2,h3⟩:=it.yld H n i x H' hid_ok hlt y
  obtain ⟨d1,d2,rfl,hst⟩:=hs i d acc n h1 hI
  obtain ⟨t,xs,rfl,ht,rt,_⟩:=h2.tup_inv
  cases rt with
  | @cons w1 _ xs _ F1 _ r1 rt =>
   cases rt with
   | @cons w2 _ xs _ F2 G r2 rt =>
    cases rt
    have hA3:At K H0 Y n ((⟨some (.ref D),.acc acc,D::G⟩::S1)++⟨some w1,.dat m d1,F1⟩::(hid++T)) H':=At.item (S:=⟨some (.ref D),.acc acc,D::G⟩::S1) hA2 s1 r1 (λa ha=>h3 a (Am _ ha)) it.md it.hd it.np
    have hA3':At K H0 Y n ((⟨some w1,.dat m d1,F1⟩::⟨some (.ref D),.acc acc,D::G⟩::S1)++(hid++T)) H':=hA3.mid
    have hA3'':At K H0 Y n ((⟨some w1,.dat m d1,F1⟩::⟨some (.ref D),.acc acc,D::G⟩::S1)++⟨some w2,.dat m d2,F2⟩::(hid++T)) H':=At.item hA3' (Oh.refl _) r2 (λa ha=>h3 a (Ah _ (Am _ ha))) it.md it.hd it.np
    have hA4:At K H0 Y n (⟨some w1,.dat m d1,F1⟩::⟨some w2,.dat m d2,F2⟩::⟨some (.ref D),.acc acc,D::G⟩::(S1++(hid++T))) H':=hA3''.mid.perm (Do _ _ _)
    have hA5:=At.view (S:=S1) hA4 (λe he=>Ab _ (Ab _ (Ab _ (Am _ he)))) js
    have hA6:At K H0 Y n ((⟨some w1,.dat m d1,F1⟩::⟨some w2,.dat m d2,F2⟩::Zj S1 js)++⟨some (.ref D),.acc acc,D::G⟩::(S1++(hid++T))) H':=by
     have z:=hA5.mid
     refine z.perm ?_
     exact (Dl).cons _
    have hS6:Sl (⟨some w1,.dat m d1,F1⟩::⟨some w2,.dat m d2,F2⟩::Zj S1 js) ⟨.dat m d1::.dat m d2::frD δ1.sl js,n⟩:=by
     unfold Sl
     rw[Au,Au,kF e2]
    have hv:vs (⟨some w1,.dat m d1,F1⟩::⟨some w2,.dat m d2,F2⟩::Zj S1 js)=some w1::some w2::Eg (vs S1) js:=by
     rw[<- jD]
     rfl
    refine ⟨t,w1,w2,rfl,Pe.of ht,λH2=>∃m',m'<ds.length - i/\_,λy H3=>∃acc,H3 D=some (.lst acc)/\acc.length<Be/\∃m',m'<ds.length - i/\_,λH2 q=>q,λy H3 q=>q,?_⟩
    rw[<- hv]
    refine Ry hS6 hG hA6 hst (by omega) (λn' H2 hA7 p=>?_) (λe n' v H2 G' hG' hA7 p=>?_)
    ·exact ⟨ds.length - (i+1),by omega,rfl,hlt,acc,n',G,hG,hA7,by omega,p⟩
    ·obtain ⟨xs,g1,g2,g3⟩:=hA7
     exact ⟨xs,g1,by omega,ds.length - (i+1),by omega,rfl,hlt,acc++[e],n',G',hG',g3,by rw[Ax]; simp; omega,p⟩
 ·have e:i=ds.length:=by omega
  subst e
  refine .inl ⟨it.stop H n hid_ok,k _ ⟨δ1.sl,n⟩ _ (D::G) S1 H e1 e2 ?_ (hf acc n hI)⟩
  have hA3:=hA2.accGetG hG
  have hA4:At K H0 Y n (⟨some (.ref D),.dat (Na b) (.list acc),D::G⟩::(S1++T)) H:=hA3.sub (((Cj S1).append (Ce hid T)).cons₂ _)
  exact hA4.tomid
end
section
variable{X:Cx}{elt iter c:Expr}{x x2 y0:Str}{px px2 pt py pos spos:Pos}{kt i0:Nat}{ifs:List Expr}{scope:Scope}{cl:List (Str×Addr)}{ys:List Str}{js:List Nat}{di:DI}{dc:DT}{de:DE}
theorem Ir:gD X [] (LT X.K Lc):=gD.imp sW (Zs (dt:=Rm))
theorem jJ(h:Zw X c dc):gD X [c] (LT X.K dc):=wO h
theorem Rn(C:CompScope X scope cl x ys js)(hc:X.calm=true)(hi:mP X (.Name x px) iter di)(ht:∀fp s H,gD (Ct X scope cl (x::ys) fp s H) ifs (LT X.K dc))(he:∀fp s H,Ei (Ct X scope cl (x::ys) fp s H) elt de)(hs:∀x,Ci iter X.env x=pure x:=by intro _; rfl):Ei X (.ListComp elt [⟨.Name x px,iter,ifs,0⟩] scope pos) (rB di js dc de):=PE.imp (vV C hc hi ht he hs) aJ
theorem fX(C:CompScope X scope cl x ys js)(own2:Sd scope x2)(nd2:(x::x2::ys).Nodup)(hc:X.calm=true)(hi:mP X (.Tuple [.Name x px,.Name x2 px2] kt pt) iter di)(ht:∀fp s H,gD (Ct X scope cl (x::x2::ys) fp s H) ifs (LT X.K dc))(he:∀fp s H,Ei (Ct X scope cl (x::x2::ys) fp s H) elt de)(hs:∀x,Ci iter X.env x=pure x:=by intro _; rfl):Ei X (.ListComp elt [⟨.Tuple [.Name x px,.Name x2 px2] kt pt,iter,ifs,0⟩] scope pos) (oK di js dc de):=PE.imp (sO C own2 nd2 hc hi ht he hs) rH
def M6(o:Bool)(i:Nat):DG:=match o with
 | true=>fG i
 | false=>Mp i
theorem zX{K:PySem.W.Frag}{o:Bool}{i:Nat}:∀v σ H Q,LG K (M6 o i) v σ H Q->Js i v σ H Q:=by
 cases o with
 | true=>exact oP
 | false=>exact bF
theorem jM{o:Bool}(hN:X.N.Nodup)(hi0:X.N[i0]? = some y0)(hy0:X.env.scope.names.lookup y0=some .local)(C:CompScope X scope cl x ys js)(hc:X.calm=true)(hi:mP X (.Name x px) iter di)(ht:∀fp s H,gD (Ct X scope cl (x::ys) fp s H) ifs (LT X.K dc))(he:∀fp s H,Ei (Ct X scope cl (x::ys) fp s H) elt de)(hs:∀x,Ci iter X.env x=pure x:=by intro _; rfl)(hsw:Io (.ListComp elt [⟨.Name x px,iter,ifs,0⟩] scope pos) (some (.Name y0 py)) spos.line X.env=pure true:=by rfl):cE X (.Assign [.Name y0 py] (.ListComp elt [⟨.Name x px,iter,ifs,0⟩] scope pos) spos) (dI (rB di js dc de) (M6 o i0)):=PS.impD (kD hN hi0 hy0 C hc hi ht he hs hsw) (To aJ zX)
theorem dP{o:Bool}(hN:X.N.Nodup)(hi0:X.N[i0]? = some y0)(hy0:X.env.scope.names.lookup y0=some .local)(C:CompScope X scope cl x ys js)(hc:X.calm=true)(hi:mP X (.Name x px) iter di)(ht:∀fp s H,gD (Ct X scope cl (x::ys) fp s H) ifs (LT X.K dc))(he:∀fp s H,Ei (Ct X scope cl (x::ys) fp s H) elt de)(hs:∀x,Ci iter X.env x=pure x:=by intro _; rfl)(hsw:Io (.ListComp elt [⟨.Name x px,iter,ifs,0⟩] scope pos) (some (.Name y0 py)) spos.line X.env=pure true:=by rfl):cE X (.Assign [.Name y0 py] (.ListComp elt [⟨.Name x px,iter,ifs,0⟩] scope pos) spos) (dI (qW di js dc de) (M6 o i0)):=PS.impD (kD hN hi0 hy0 C hc hi ht he hs hsw) (To aJ zX)
end
end DL
namespace DL
open PySem PySem.Spec PyProof.Rows L2 Nd
section
variable{K:PySem.W.Frag}{H0 H H':Hp}{X:Addr->Prop}{n n':Nat}{E S T:List Ent}
theorem At.pushF(h:At K H0 X n E H){v:V}{d:Ad}{F:List Addr}(r:RdF K H v d F)(nd:F.Nodup)(fr:∀a∈F,∀f∈E,a∉f.F)(f0:∀a∈F,H0 a=none):At K H0 X n (⟨some v,.dat .ow d,F⟩::E) H:=by
 refine h.push ⟨v,rfl,r,λ_=>nd,λz=>nomatch z⟩ (λf hf=>⟨λ_ a ha z=>fr a ha f hf z,λ_ a ha z=>fr a z f hf (Fk _ _ ha)⟩) λa ha=>.inl (f0 a ha)
theorem At.drawn(h:At K H0 X n E H){e:Ent}{dr:Addr}(he:e∈E)(hx:e.x=.drw)(hv:e.v=some (.ref dr))(s:Ui dr H H')(hd:∃c k f,dZ H' dr c k f/\0<=k/\k<=(n':Int))(hn:n<=n'):At K H0 X n' E H':=by
 obtain ⟨v,x,F⟩:=e
 have hx':x=.drw:=hx
 subst hx'
 obtain ⟨dr',c0,k0,f0,hv',hF,hd0,_⟩:=h.ok _ he
 have e1:some (V.ref dr)=some (V.ref dr'):=hv.symm.trans hv'
 cases e1
 have hF':F=[dr]:=hF
 subst hF'
 refine ⟨λf hf=>?_,h.sep,h.new,λb o nx q=>?_,λb o q=>?_,λb hb=>?_⟩
 rotate_right
 ·obtain ⟨z,c,k,f,h1,h2,h3⟩:=h.xd b hb
  by_cases hbd:b=dr
  ·subst hbd
   exact ⟨z,hd⟩
  ·exact ⟨z,c,k,f,s _ _ hbd h1,h2,by omega⟩
 ·rcases iD h he hf with rfl | q
  ·obtain ⟨c,k,fl,h1,h2,h3⟩:=hd
   exact ⟨dr,c,k,fl,hv',rfl,h1,h2,h3⟩
  ·have nf:dr∉f.F:=q.1 (.inr rfl) dr Aa
   refine (h.ok f hf).kp (λb o eb z=>?_) hn
   by_cases hb:b=dr
   ·subst hb
    rcases z with z | z
    ·exact absurd z nf
    ·have hd0':H b=some (.lst _):=hd0
     rw[eb] at hd0'
     cases hd0'
     rcases z with ⟨_,z⟩ | ⟨_,_,z⟩ <;> cases z
   ·exact s b o hb eb
 ·have hb:b≠dr:=by
   rintro rfl
   rcases h.new _ he b Aa with z | z
   ·rw[z] at q; cases q
   ·exact nx z.1
  exact s b o hb (h.same b o nx q)
 ·by_cases hb:b=dr
  ·subst hb
   obtain ⟨c,k,fl,h1,_⟩:=hd
   exact ⟨_,h1⟩
  ·obtain ⟨o',z⟩:=h.dom b o q
   exact ⟨o',s b o' hb z⟩
end
abbrev PF:=List Ad->(Ad->Prop)->Prop
abbrev DF:=List Ad->Nat->(Ad->Nat->Prop)->Prop
def Oi(K:PySem.W.Frag)(pf:PF):Sp:=λus H Q _=>∃(As:List Ent) (n:Nat) (ds:List Ad) (R:Ad->Prop),As.map Ent.v=us.map some/\(∀e∈As,Gg K H n e)/\datas (As.map Ent.x)=some ds/\pf ds R /\
 ∀v d F H',R d->RdF K H' v d F->F.Nodup->(∀a∈F,H a=none)->Oh H H'->Q v H'
def cG(K:PySem.W.Frag)(df:DF):Sp:=λus H Q _=>∃(dr:Addr) (ws:List V) (As:List Ent) (n:Nat) (ds:List Ad) (R:Ad->Nat->Prop),us=.ref dr::ws/\As.map Ent.v=ws.map some/\(∀e∈As,Gg K H n e)/\(∀e∈As,dr∉e.F)/\(∃c k f,dZ H dr c k f/\0<=k/\k<=(n:Int))/\datas (As.map Ent.x)=some ds/\df ds n R /\
 ∀v d F n' H',n<=n'->R d n'->RdF K H' v d F->F.Nodup->(∀a∈F,H a=none)->(∃c k f,dZ H' dr c k f/\0<=k/\k<=(n':Int))->Ui dr H H'->Q v H'
def xX(pf:PF)(da:DA):DE:=λδ P=>da δ λxs δ1=>match datas xs with
 | some ds=>pf ds λd=>P (.dat .ow d) δ1
 | none=>False
def iU(i:Nat)(df:DF)(da:DA):DE:=λδ P=>match δ.sl[i]? with
 | some .drw=>da δ λxs δ1=>match δ1.sl[i]? with
  | some .drw=>match datas xs with
   | some ds=>df ds δ1.n λd n'=>P (.dat .ow d) ⟨δ1.sl,n'⟩
   | none=>False
  | _=>False
 | _=>False
section
variable{X:Cx}{CX:nJ}{k:Nat}{f:Addr}{fd:Ca}{ps:List Str}{pf:PF}{df:DF}{E:XK}{x:Str}{p pos:Pos}{e e0:Expr}{es:List Expr}{da:DA}
theorem Ed(F:FnOk X.prog X.w X.K X.mg X.base CX k f fd ps (Oi X.K pf))(hr:Room k X.A)(hg:Gl X x)(hm:X.mg x=some (.ref f))(hk:PySem.W.keepIn X.K (.ref f)=true)(hb:Binds X.K fd ps [])(hx:Qq CX X E)(ha:lC X (e::es) da)(hdb:(x == ("__debug__" : Str))=false:=by decide)(he:Bj (e::es) X.env=(false,eval e X.env)::Bj es X.env:=by rfl)(hpl:(Hg pos (Bj es X.env)).any (·.1)=false:=by rfl):Ei X (.Call (.Name x p) (e::es) [] pos) (xX pf da):=by
 refine PE.imp (Vf F hr hg hm hk hb .nil hx ha hdb he hpl) λσ H Q h=>?_
 obtain ⟨H0,Y,S,T,δ,P,rfl,hS,hA,hd,kk⟩:=h
 refine ⟨H0,Y,S,T,δ,_,rfl,hS,hA,hd,λxs δ' As us S' H' e1 e2 ex eu hA' p=>?_⟩
 subst ex
 cases q:datas (As.map Ent.x) with
 | none=>rw[q] at p; exact p.elim
 | some ds =>
  rw[q] at p
  rw[Dc]
  refine ⟨As,δ'.n,ds,_,eu,λe he=>hA'.ok e (Ah _ (Am _ he)),q,p,λv d F H'' r rd nd fr s=>?_⟩
  exact kk _ δ' v F S' H'' e1 e2 (((hA'.dropL.grow s (An _)).pushF rd nd (λa ha=>hA'.dropL.free (fr a ha)) (λa ha=>hA'.new0 (fr a ha))).tomid) r
theorem Fh{i:Nat}(F:FnOk X.prog X.w X.K X.mg X.base CX k f fd ps (cG X.K df))(hr:Room k X.A)(hg:Gl X x)(hm:X.mg x=some (.ref f))(hk:PySem.W.keepIn X.K (.ref f)=true)(hb:Binds X.K fd ps [])(hx:Qq CX X E)(h0:PE X e0 (Yi i))(ha:lC X es da)(hdb:(x == ("__debug__" : Str))=false:=by decide)(he:Bj (e0::es) X.env=(false,eval e0 X.env)::Bj es X.env:=by rfl)(hpl:(Hg pos (Bj es X.env)).any (·.1)=false:=by rfl):Ei X (.Call (.Name x p) (e0::es) [] pos) (iU i df da):=by
 refine PE.imp (Vf F hr hg hm hk hb .nil hx (Gb h0 ha he) hdb he hpl) λσ H Q h=>?_
 obtain ⟨H0,Y,S,T,δ,P,rfl,hS,hA,hd,kk⟩:=h
 unfold iU at hd
 split at hd
 case h_2=>exact hd.elim
 rename_i hsl0
 have main:∀w,(vs S)[i]? = some (some w)->LA X.K da (vs S) H λxs H2=>cG X.K df ((w::xs)++[]) H2 Q E:=λw hw=>by
  refine ⟨H0,Y,S,T,δ,_,rfl,hS,hA,hd,λxs δ' As us S' H' e1 e2 ex eu hA' p=>?_⟩
  subst ex
  split at p
  ·rename_i hsl
   obtain ⟨ent,s1,s2⟩:=Iv e2 hsl
   have hm':ent∈S':=Ao s1
   have hv:ent.v=some w:=by
    have:=Ks s1
    rw[e1,hw] at this
    exact (Bl this).symm
   obtain ⟨u,z,F⟩:=ent
   have s2':z=.drw:=s2
   subst s2'
   have hE:(⟨u,.drw,F⟩ : Ent)∈S'++(As++T):=Am _ hm'
   obtain ⟨dr,c0,k0,f0,hv0,hF0,hd0,hk0,hk1⟩:=hA'.ok _ hE
   have ew:some w=some (V.ref dr):=hv.symm.trans hv0
   cases ew
   have hF':F=[dr]:=hF0
   subst hF'
   cases q:datas (As.map Ent.x) with
   | none=>rw[q] at p; exact p.elim
   | some ds =>
    rw[q] at p
    rw[Dc]
    refine ⟨dr,us,As,δ'.n,ds,_,rfl,eu,λe he=>hA'.ok e (Ah _ (Am _ he)),λe he=>?_,⟨c0,k0,f0,hd0,hk0,hk1⟩,q,p,λv d F n' H'' hn r rd nd fr hdr s=>?_⟩
    ·obtain ⟨_,_,hp⟩ := Fd.mp hA'.sep
     exact (hp _ hm' e (Am _ he)).1 (.inr rfl) dr Aa
    ·have hA2:=hA'.dropL.drawn (Am _ hm') rfl hv s hdr hn
     exact kk _ ⟨δ'.sl,n'⟩ v F S' H'' e1 e2 ((hA2.pushF rd nd (λa ha=>hA'.dropL.free (fr a ha)) (λa ha=>hA'.new0 (fr a ha))).tomid) r
  ·exact p.elim
 obtain ⟨ent,s1,s2⟩:=Iv hS hsl0
 have hm':ent∈S:=Ao s1
 obtain ⟨u,z,F⟩:=ent
 have s2':z=.drw:=s2
 subst s2'
 obtain ⟨dr,c0,k0,f0,hv0,_⟩:=hA.ok _ (Am _ hm')
 have hw:(vs S)[i]? = some (some (.ref dr)):=(Ks s1).trans (congrArg some hv0)
 exact ⟨_,hw,main _ hw⟩
def Rf:Sp:=λvs H Q _=>∃c:Int,vs=[.int c]/\∀(p:Addr) (c':Int) (f:Bool) (H':Hp),H p=none->dZ H' p c' 0 f->Oh H H'->Q (.ref p) H'
def oO(da:DA):DE:=λδ P=>da δ λxs δ1=>match xs with
 | [.dat _ (.int _)]=>P .drw δ1
 | _=>False
theorem pO(F:FnOk X.prog X.w X.K X.mg X.base CX k f fd ps Rf)(hr:Room k X.A)(hg:Gl X x)(hm:X.mg x=some (.ref f))(hk:PySem.W.keepIn X.K (.ref f)=true)(hb:Binds X.K fd ps [])(hx:Qq CX X E)(ha:lC X (e::es) da)(hdb:(x == ("__debug__" : Str))=false:=by decide)(he:Bj (e::es) X.env=(false,eval e X.env)::Bj es X.env:=by rfl)(hpl:(Hg pos (Bj es X.env)).any (·.1)=false:=by rfl):Ei X (.Call (.Name x p) (e::es) [] pos) (oO da):=by
 refine PE.imp (Vf F hr hg hm hk hb .nil hx ha hdb he hpl) λσ H Q h=>?_
 obtain ⟨H0,Y,S,T,δ,P,rfl,hS,hA,hd,kk⟩:=h
 refine ⟨H0,Y,S,T,δ,_,rfl,hS,hA,hd,λxs δ' As us S' H' e1 e2 ex eu hA' p=>?_⟩
 split at p
 ·obtain ⟨v,F,rfl,hA2⟩:=Hf eu hA' ex
  obtain ⟨rfl,_⟩:=(hA2.told mem_mid).int_inv
  refine ⟨_,rfl,λq c' fl H'' nq hdr s=>?_⟩
  have h3:=hA2.drop.grow (n':=δ'.n) s (An _)
  refine kk _ δ' _ [q] S' H'' e1 e2 ((h3.push (e:=⟨some (.ref q),.drw,[q]⟩) ⟨q,_,0,fl,rfl,rfl,hdr,by decide,by omega⟩ (λf hf=>?_) λa ha=>?_).tomid) p
  ·have nf:=hA2.drop.free nq f hf
   refine ⟨λ_ a ha z=>?_,λ_ a ha z=>?_⟩
   ·rw[Aj.mp ha] at z
    exact nf z
   ·rw[Aj.mp z] at ha
    exact nf (Fk _ _ ha)
  ·rw[Aj.mp ha]
   exact .inl (hA2.new0 nq)
 ·exact p.elim
end
def args0(ds:List Ad)(k:Nat):List DV:=ds.map (λd=>.dat .sh d)++Gn k .un
def Xy(e:Ent):Ent:=match e.x with
 | .dat _ d=>⟨e.v,.dat .sh d,e.F⟩
 | _=>e
theorem Jc:∀{xs:List DV} {ds:List Ad},datas xs=some ds->xs.length=ds.length
 | [],ds,h=>by cases h; rfl
 | x::xs,ds,h=>by
  cases x with
  | dat m d =>
   cases q:datas xs with
   | none=>simp [datas,q] at h
   | some es =>
    simp [datas,q] at h
    subst h
    rw[Bo,Bo,Jc q]
  | _=>cases h
theorem Rw:∀{As:List Ent} {ds:List Ad},datas (As.map Ent.x)=some ds->(As.map Xy).map Ent.x=ds.map (λd=>.dat .sh d)
 | [],ds,h=>by cases h; rfl
 | ⟨v,x,F⟩::As,ds,h=>by
  rw[Au] at h
  cases x with
  | dat m d =>
   cases q:datas (As.map Ent.x) with
   | none=>simp [datas,q] at h
   | some es =>
    simp [datas,q] at h
    subst h
    rw[Au,Au,Au,Rw q]
    rfl
  | _=>cases h
theorem Ti:∀{As:List Ent} {ds:List Ad},datas (As.map Ent.x)=some ds->∀e∈As,∃m d,e.x=.dat m d
 | [],ds,h,e,he=>nomatch he
 | ⟨v,x,F⟩::As,ds,h,e,he=>by
  rw[Au] at h
  cases x with
  | dat m d =>
   cases q:datas (As.map Ent.x) with
   | none=>simp [datas,q] at h
   | some es =>
    rcases Ag.mp he with rfl | he
    ·exact ⟨m,d,rfl⟩
    ·exact Ti q e he
  | _=>cases h
theorem zZ(As:List Ent):(As.map Xy).map Ent.v=As.map Ent.v:=by
 rw[Co]
 refine Si λe _=>?_
 obtain ⟨v,x,F⟩:=e
 cases x <;> rfl
def Ha(k:Nat):List Ent:=Gn k ⟨none,.un,[]⟩
theorem bH{As:List Ent}{ds:List Ad}(q:datas (As.map Ent.x)=some ds)(k:Nat):∀e∈As.map Xy++Ha k,cells e=[]/\j8 e.x=false:=λe he=>by
 rcases Ay.mp he with he | he
 ·obtain ⟨f,hf,rfl⟩:=Bv.mp he
  obtain ⟨m,d,hx⟩:=Ti q f hf
  obtain ⟨v,x,F⟩:=f
  have hx':x=.dat m d:=hx
  subst hx'
  exact ⟨rfl,rfl⟩
 ·rw[(Hd.mp he).2]
  exact ⟨rfl,rfl⟩
theorem Ot{α:Type}{R:α->α->Prop}:∀{l:List α},(∀a∈l,∀b∈l,R a b)->l.Pairwise R
 | [],_=>Dq
 | a::l,h=>Av.mpr ⟨λb hb=>h a Aa b (Ab _ hb),Ot λx hx y hy=>h x (Ab _ hx) y (Ab _ hy)⟩
theorem oY{K:PySem.W.Frag}{H:Hp}{n:Nat}{As:List Ent}{ds:List Ad}(q:datas (As.map Ent.x)=some ds)(ok:∀e∈As,Gg K H n e)(k:Nat):∀e∈As.map Xy++Ha k,Gg K H n e:=λe he=>by
 rcases Ay.mp he with he | he
 ·obtain ⟨f,hf,rfl⟩:=Bv.mp he
  obtain ⟨m,d,hx⟩:=Ti q f hf
  have o:=ok f hf
  obtain ⟨v,x,F⟩:=f
  have hx':x=.dat m d:=hx
  subst hx'
  obtain ⟨w,h1,h2,_⟩:=o
  exact ⟨w,h1,h2,λz=>(nomatch z),λz=>(nomatch z)⟩
 ·rw[(Hd.mp he).2]
  exact (rfl:([]:List Addr)=[])
theorem Me{α β:Type}(f:α->β)(k:Nat)(a:α):(Gn k a).map f=Gn k (f a):=by
 rw[List.map_replicate]
def retE(R:Ad->Prop):DEnds where
 nx:=λ_=>R .none
 rt:=λx _=>∃d,x=.dat .ow d/\R d
def retW(n:Nat)(R:Ad->Nat->Prop):DEnds where
 nx:=λδ=>n<=δ.n/\R .none δ.n
 rt:=λx δ=>n<=δ.n/\∃d,x=.dat .ow d/\R d δ.n
section
variable{P:Bp}{w:World}{K:PySem.W.Frag}{mg:Str->Option Value}{base:Heap}
theorem Hw{x qual:Str}{st:Stmt}{f:Addr}{fd:Ca}{N ps:List Str}{k:Nat}{pf:PF}{db:DB}(F:Fun K x qual st f fd)(S:FnScope N ps (Bw st))(hb:∀(cdv:Value) (A:Dg) (outer:List Env) (s:Al) (H:Hp) (E:XK),Room k (A.deeper (Og qual (Bw st) s.heap.objs.size f cdv))->Ut (Yc Gh P w K mg base N qual (Bw st) f cdv A outer s H E).nox (Hy st) db)(h:∀ds R,pf ds R->ds.length=ps.length/\db (retE R) ⟨args0 ds (N.length - ps.length),0⟩):FnOk P w K mg base Gh (k+1) f fd ps (Oi K pf):=by
 refine F.ok S (λvs H Q E z=>?_) λcdv A outer s H us Q E hr z=>?_
 ·obtain ⟨As,n,ds,R,eu,ok,q,hp,_⟩:=z
  have l1:=(h ds R hp).1
  have l2:=Jc q
  rw[Ac] at l2
  have l3:=congrArg Ff eu
  rw[Ac,Ac] at l3
  omega
 ·obtain ⟨As,n,ds,R,eu,ok,q,hp,k1⟩:=z
  obtain ⟨l1,hd⟩:=h ds R hp
  have l2:=Jc q
  rw[Ac] at l2
  have l3:=congrArg Ff eu
  rw[Ac,Ac] at l3
  refine ⟨_,hb cdv A outer s H E hr,H,λ_=>False,As.map Xy++Ha (N.length - ps.length),[],⟨args0 ds (N.length - ps.length),0⟩,retE R,?_,?_,λ_ z=>(nomatch z),?_,hd,λδ' S' H' e1 hA p=>?_,λx δ' v F' S' H' e1 hA p=>?_,λ_ _ _ _ _ p=>p.elim,λ_ _ _ _ _ p=>p.elim⟩
  ·unfold vs L2.start Ha
   rw[Az,zZ,eu,Me,show us.length=ps.length by omega]
  ·unfold Sl args0 Ha
   rw[Az,Rw q,Me]
  ·rw[Dc]
   have hs:=bH q (N.length - ps.length)
   refine ⟨λe he=>?_,Ot λa ha b hb'=>⟨λhq c hc=>?_,λhq c hc=>?_⟩,λe he a ha=>?_,λb o _ e=>e,λb o e=>⟨o,e⟩,λb hb=>hb.elim⟩
   ·have:=oY q ok (N.length - ps.length) e he
    obtain ⟨v,x,F⟩:=e
    cases x with
    | drw=>exact absurd (hs _ he).2 (by show ¬ (true=false); decide)
    | _=>exact this
   ·rw[(hs a ha).1] at hc; cases hc
   ·rw[(hs b hb').1] at hc; cases hc
   ·rw[(hs e he).1] at ha; cases ha
  ·exact k1 .non .none [] H' p .non Fe (λ_ z=>(nomatch z)) λb o e=>hA.same b o (λz=>z) e
  ·obtain ⟨d,rfl,r⟩:=p
   rw[show S'++[(⟨some v,.dat .ow d,F'⟩ : Ent)]=S'++⟨some v,.dat .ow d,F'⟩::[] from rfl] at hA
   obtain ⟨u,e2,rd,nd,_⟩:=hA.ok _ mem_mid
   cases e2
   refine k1 v d F' H' r rd (nd rfl) (λa ha=>?_) λb o e=>hA.same b o (λz=>z) e
   rcases hA.new _ mem_mid a ha with z | z
   ·exact z
   ·exact z.1.elim
theorem Vk{x qual:Str}{st:Stmt}{f:Addr}{fd:Ca}{N ps:List Str}{p0:Str}{k:Nat}{df:DF}{db:DB}(F:Fun K x qual st f fd)(S:FnScope N (p0::ps) (Bw st))(hb:∀(cdv:Value) (A:Dg) (outer:List Env) (s:Al) (H:Hp) (E:XK),Room k (A.deeper (Og qual (Bw st) s.heap.objs.size f cdv))->Ut (Yc Gh P w K mg base N qual (Bw st) f cdv A outer s H E).nox (Hy st) db)(h:∀ds n R,df ds n R->ds.length=ps.length/\db (retW n R) ⟨.drw::args0 ds (N.length - (p0::ps).length),n⟩):FnOk P w K mg base Gh (k+1) f fd (p0::ps) (cG K df):=by
 refine F.ok S (λvs H Q E z=>?_) λcdv A outer s H us Q E hr z=>?_
 ·obtain ⟨dr,ws,As,n,ds,R,rfl,eu,ok,nd,hdr,q,hp,_⟩:=z
  have l1:=(h ds n R hp).1
  have l2:=Jc q
  rw[Ac] at l2
  have l3:=congrArg Ff eu
  rw[Ac,Ac] at l3
  rw[Bo,Bo]
  omega
 ·obtain ⟨dr,ws,As,n,ds,R,rfl,eu,ok,ndr,hdr,q,hp,k1⟩:=z
  obtain ⟨l1,hd⟩:=h ds n R hp
  have l2:=Jc q
  rw[Ac] at l2
  have l3:=congrArg Ff eu
  rw[Ac,Ac] at l3
  -- what the end tells of the draws: they stand in an old cell
  have ends:∀{E':List Ent} {n':Nat} {H':Hp},At K H (·=dr) n' E' H'->∀b o,b≠dr->H b=some o->H' b=some o:=λhA b o nb e=>hA.same b o nb e
  refine ⟨_,hb cdv A outer s H E hr,H,(·=dr),⟨some (.ref dr),.drw,[dr]⟩::(As.map Xy++Ha (N.length - (p0::ps).length)),[],⟨.drw::args0 ds (N.length - (p0::ps).length),n⟩,retW n R,?_,?_,λ_ z=>(nomatch z),?_,hd,λδ' S' H' e1 hA p=>?_,λx δ' v F' S' H' e1 hA p=>?_,λ_ _ _ _ _ p=>p.elim,λ_ _ _ _ _ p=>p.elim⟩
  ·unfold vs L2.start Ha
   rw[Au,Az,zZ,eu,Me,Bo,Bo,show ws.length=ps.length by omega]
   rfl
  ·unfold Sl args0 Ha
   rw[Au,Az,Rw q,Me]
  ·rw[Dc]
   have hs:=bH q (N.length - (p0::ps).length)
   have hsub:∀e∈As.map Xy++Ha (N.length - (p0::ps).length),dr∉e.F:=λe he=>by
    rcases Ay.mp he with he | he
    ·obtain ⟨f,hf,rfl⟩:=Bv.mp he
     obtain ⟨v,x,F⟩:=f
     have:=ndr _ hf
     cases x <;> exact this
    ·rw[(Hd.mp he).2]
     exact Cr
   refine ⟨λe he=>?_,Av.mpr ⟨λb hb'=>⟨λhq c hc=>?_,λhq c hc=>?_⟩,Ot λa ha b hb'=>⟨λhq c hc=>?_,λhq c hc=>?_⟩⟩,λe he a ha=>?_,λb o _ e=>e,λb o e=>⟨o,e⟩,λb hb=>?_⟩
   rotate_right
   ·subst hb
    obtain ⟨c,kk,fl,z1,z2⟩:=hdr
    exact ⟨λz=>(by rw[show H b=some _ from z1] at z; cases z),c,kk,fl,z1,z2⟩
   ·rcases Ag.mp he with rfl | he
    ·obtain ⟨c,kk,fl,z1,z2,z3⟩:=hdr
     exact ⟨dr,c,kk,fl,rfl,rfl,z1,z2,z3⟩
    ·exact oY q ok _ e he
   ·rw[Aj.mp hc]
    exact hsub b hb'
   ·rw[(hs b hb').1] at hc; cases hc
   ·rw[(hs a ha).1] at hc; cases hc
   ·rw[(hs b hb').1] at hc; cases hc
   ·rcases Ag.mp he with rfl | he
    ·rw[Aj.mp ha]
     exact .inr ⟨rfl,rfl⟩
    ·rw[(hs e he).1] at ha; cases ha
  ·exact k1 .non .none [] δ'.n H' p.1 p.2 .non Fe (λ_ z=>(nomatch z)) (hA.xd dr rfl).2 (ends hA)
  ·obtain ⟨hn,d,rfl,r⟩:=p
   rw[show S'++[(⟨some v,.dat .ow d,F'⟩ : Ent)]=S'++⟨some v,.dat .ow d,F'⟩::[] from rfl] at hA
   obtain ⟨u,e2,rd,nd,_⟩:=hA.ok _ mem_mid
   cases e2
   refine k1 v d F' δ'.n H' hn r rd (nd rfl) (λa ha=>?_) (hA.xd dr rfl).2 (ends hA)
   rcases hA.new _ mem_mid a ha with z | z
   ·exact z
   ·cases z.2
end
end DL
namespace L2
open PySem PySem.Spec PyProof.Rows
def rQ(H:Hp):Prop:=∀b,H b=none\/(∃o xs,H b=some (.frz o (.lst xs)))\/∃ps,H b=some (.tbl ps)
def dO(tabs:List (Addr×Addr×Str))(H:Hp):Hp:=λb=>match tabs.find? (λr=>r.2.1 == b) with | some t=>some (.tbl #[.str t.2.2 0]) | none=>H b
theorem Qs{tabs:List (Addr×Addr×Str)}{H:Hp}{b:Addr}{t:Addr×Addr×Str}(h:tabs.find? (λr=>r.2.1 == b)=some t):dO tabs H b=some (.tbl #[.str t.2.2 0]):=by unfold dO; rw[h]
theorem Jy{tabs:List (Addr×Addr×Str)}{H:Hp}{b:Addr}(h:tabs.find? (λr=>r.2.1 == b)=none):dO tabs H b=H b:=by unfold dO; rw[h]
def aO(q:Bp)(K:PySem.W.Frag):Prop:=∃tabs:List (Addr×Addr×Str),(∀t∈tabs,∃x d,(recsOf q).find? (λe=>e.name == x)=some d/\PySem.W.tabIn K x=some (t.1,t.2.1))/\(∀t∈tabs,∀t'∈tabs,t.2.1=t'.2.1->t=t') /\
 (∀x∈Rh,∀c P,PySem.W.tabIn K x=some (c,P)->(c,P,u7 x)∈tabs)/\∀t∈tabs,K.lookup t.2.1=none
theorem uM{x:Str}(hx:x∈Rh):x = "often" \/ x = "cut_by" := by
 rcases Ag.mp hx with h | hx
 ·exact .inl h
 ·exact .inr (Aj.mp hx)
theorem lO{q:Bp}{K:PySem.W.Frag}(h1:PySem.W.tabIn K "often" = none)(h2:PySem.W.tabIn K "cut_by" = none):aO q K:=by
 refine ⟨[],λ_ z=>(nomatch z),λ_ z=>(nomatch z),λx hx c P e=>?_,λ_ z=>(nomatch z)⟩
 rcases uM hx with rfl | rfl
 ·rw[h1] at e; cases e
 ·rw[h2] at e; cases e
theorem lP{P:Bp}{w:World}{K:PySem.W.Frag}{mg mb:Str->Option Value}{CX:nJ}{k:Nat}{fa a:Addr}{fd:Ca}{x:Str}{sp:Sp}{s₁:Al}{vs:List Value}{ns:List Int}(tabs:List (Addr×Addr×Str))(hT:∀t∈tabs,PySem.W.CodeHd s₁.heap t.1 t.2.1/\s₁.heap.get? t.2.1=some (PySem.W.tabObj #[]))(hu:∀t∈tabs,∀t'∈tabs,t.2.1=t'.2.1->t=t')(hL:∀x∈Rh,∀c P,PySem.W.tabIn K x=some (c,P)->(c,P,u7 x)∈tabs)(hnt:∀t∈tabs,K.lookup t.2.1=none)(hbm:∃bm ob,mg "__builtins__" = some (.ref bm)/\bm≠Qy/\s₁.heap.get? bm=some ob/\ob.cls=.type "module" /\ ob.dict=some Qy/\ob.data=.plain)(KX:K.In s₁.heap)(hns:s₁.heap.Ns Ck mg)(hb:s₁.heap.Ns Qy mb)(hbb:∀x:Str,x ≠ "__name__" -> mb x=Ht x)(hlim:s₁.heap.NoLimit)(hg:s₁.gens=#[])(ha:s₁.heap.get? a=some { cls:=.type "list",data:=.seq vs.toArray })(hi:Kx vs ns)(hl:ns.length<=Be)(hr:Room k Uz)(F:∀base:Heap,K.In base->base.Ns Ck mg->FnOk P w K mg base CX k fa fd [x] sp)(hbind:∀(s:Al) (u:Value),BindsTo s fd ⟨[u],[]⟩ [(x,u)])(hsp:∀H:Hp,rQ H->DL.KL K H a (ns.map V.int)->sp [.ref a] H (λv _=>v=.bl true) λ_ _ _=>False)(hCX:∀H e s',CX [] H s₁ (λ_ _ _=>False) e s'->False):Hs (model P w) Uz (.call (.ref fa) ⟨[.ref a],[]⟩) (λr s'=>r=.ok (.ret (.bool true))/\OldK s₁.heap s'.heap/\s'.os=s₁.os/\Pd s'.gens) s₁:=by
 have rv:=Zm hi
 have lenV:=hi.length
 -- from an abstract heap in which nothing but the script may be tracked
 have core:∀H:Hp,rQ H->DL.KL K H a (ns.map V.int)->Xn P w H s₁.heap->(∀b,H b≠none->b=a\/∃t∈tabs,b=t.2.1)->(H a≠none->K.lookup a=none)->(∀t∈tabs,xI H t.2.1 t.2.2) ->
   Hs (model P w) Uz (.call (.ref fa) ⟨[.ref a],[]⟩) (λr s'=>r=.ok (.ret (.bool true))/\OldK s₁.heap s'.heap/\s'.os=s₁.os/\Pd s'.gens) s₁:=by
  intro H hO hS hok hA hK hTH
  have base_of:∀{b:Addr} {o:Obj},s₁.heap.get? b=some o->H b=none->(Yo s₁.heap H).get? b=some o:=λe n=>oI e n
  have noA:∀{b:Addr} {o:Obj} {es:Array DictEntry} {ep:Nat},s₁.heap.get? b=some o->o.data=.dict es ep->H b=none:=λ{b o es ep} e d=>by
   cases q:H b with
   | none=>rfl
   | some u =>
    rcases hA b (by rw[q]; simp) with e' | ⟨t,ht,e'⟩
    ·subst e'
     rw[ha] at e; cases e
     have d':Data.seq vs.toArray _=Data.dict es ep:=d
     cases d'
    ·rw[e',(hT t ht).2] at e; cases e
     cases d
  have nsK:∀{b:Addr} {m:Str->Option Value},s₁.heap.Ns b m->(Yo s₁.heap H).Ns b m:=λ{b m} ⟨o,es,ep,e,d,r⟩=>⟨o,es,ep,base_of e (noA e d),d,r⟩
  have hKb:K.In (Yo s₁.heap H):=λb o e=>base_of (KX b o e) (by
   cases q:H b with
   | none=>rfl
   | some u =>
    rcases hA b (by rw[q]; simp) with e' | ⟨t,ht,e'⟩
    ·subst e'
     rw[hK (by rw[q]; simp)] at e; cases e
    ·rw[e',hnt t ht] at e; cases e)
  have noC:∀{b:Addr} {o:Obj},s₁.heap.get? b=some o->o.cls≠.none->o.cls≠.type "list" -> H b=none:=λ{b o} e d d2=>by
   cases q:H b with
   | none=>rfl
   | some u =>
    rcases hA b (by rw[q]; simp) with e' | ⟨t,ht,e'⟩
    ·subst e'
     rw[ha] at e; cases e
     exact absurd rfl d2
    ·rw[e',(hT t ht).2] at e; cases e
     exact absurd rfl d
  have hTb:sC K mg (Yo s₁.heap H) H:=λx hx c P e=>by
   have ht:=hL x hx c P e
   obtain ⟨bm,ob,b1,b2,b3,b4,b5,b6⟩:=hbm
   obtain ⟨⟨o,us,file,tf,flags,tg,inF,text,tt,e1,r1,r2⟩,hP⟩:=hT _ ht
   refine ⟨⟨o,us,file,tf,flags,tg,inF,text,tt,base_of e1 (noC e1 (by rw[r1]; nofun) (by rw[r1]; simp)),r1,r2⟩,⟨bm,ob,b1,b2,λz=>?_,λz=>?_,base_of b3 (noC b3 (by rw[b4]; nofun) (by rw[b4]; simp)),b4,b5,b6⟩,hTH _ ht⟩
   ·obtain ⟨o',es,ep,e',d,_⟩:=hns
    rw[<- z,b3] at e'; cases e'; rw[b6] at d; cases d
   ·have hP:s₁.heap.get? P=_:=hP
    rw[<- z,b3] at hP; cases hP; cases b4
  have hM:Mod K mg (Yo s₁.heap H):=⟨hKb,nsK hns,⟨mb,nsK hb,hbb⟩,let ⟨mc,h1,h2⟩:=hlim; ⟨mc,nsK h1,h2⟩⟩
  have e0:Env0 P w K mg (Yo s₁.heap H) Uz [] s₁ H:=⟨rfl,hM,λb o e=>wA e,Nat.le_of_eq (lK _ _),trivial,λb hb=>absurd (show b∈([]:List Addr) from hb) (by simp),hok,.of_eq hg,hTb⟩
  refine Nl ((F _ hKb (nsK hns)).run Uz [] s₁ H ⟨[.ref a],[]⟩ [.ref a] [.ref a] _ _ hr e0 (hbind s₁ (.ref a)) (.cons rfl .nil) (hsp H hO hS)) λr s' h=>?_
  cases r with
  | error e=>exact (hCX H e s' h).elim
  | ok fl =>
   cases fl with
   | next=>exact Ih h
   | brk=>exact Ih h
   | cont=>exact Ih h
   | ret u =>
    obtain ⟨v,H',os,bare,un,hok',r',q⟩:=h
    have q':v=.bl true:=q
    subst q'
    obtain rfl:u=Value.bool true:=r'
    have old:∀b o,s₁.heap.get? b=some o->s'.heap.get? b=some o\/∃t∈tabs,b=t.2.1:=λb o e=>by
     cases q:H b with
     | none=>exact .inl (un.keep b o e q (by intro z; exact absurd (show b∈([]:List Addr) from z) (by simp)) (by simp))
     | some u =>
      rcases hO b with z | ⟨ob,xs,z⟩ | ⟨ps,z⟩
      ·rw[q] at z; cases z
      ·have z2:=un.frzs b ob _ z
       obtain ⟨e1,_⟩:=hok b _ z
       obtain ⟨e2,_⟩:=hok' b _ z2
       rw[e] at e1; cases e1
       exact .inl e2
      ·rcases hA b (by rw[q]; simp) with e' | h'
       ·obtain ⟨_,e1,_⟩:=hok b _ z
        rw[e',ha] at e1; cases e1
       ·exact .inr h'
    have grown:∀t∈tabs,∃ps,s'.heap.get? t.2.1=some (PySem.W.tabObj ps):=λt ht=>by
     obtain ⟨ps,t0,h3,_⟩:=hTH t ht
     obtain ⟨more,h5⟩:=un.tbls _ _ h3
     obtain ⟨qs,e1,_⟩:=hok' _ _ h5
     exact ⟨qs,e1⟩
    refine ⟨rfl,⟨λb o e=>?_,λb o e=>?_⟩,os,bare⟩
    ·rcases old b o e with z | ⟨t,ht,rfl⟩
     ·exact .inl z
     ·obtain ⟨ps,hP⟩:=grown t ht
      have e2:=(hT t ht).2
      rw[e] at e2
      cases e2
      exact .inr (.inl ⟨((hT t ht).1.tab (hT t ht).2).isCodeTable,rfl,#[],ps,rfl,by rw[Array.empty_append]; exact hP⟩)
    ·rcases old b o e with z | ⟨t,ht,rfl⟩
     ·exact ⟨_,z⟩
     ·obtain ⟨ps,hP⟩:=grown t ht
      exact ⟨_,hP⟩
 have tabH:∀(t:Addr×Addr×Str),t∈tabs->tabs.find? (λr=>r.2.1 == t.2.1)=some t:=λt ht=>by
  cases q:tabs.find? (λr=>r.2.1 == t.2.1) with
  | none=>exact absurd (List.find?_eq_none.mp q t ht) (by simp)
  | some r=>exact congrArg some (hu r (Nj q) t ht (by have:=Pr q; simpa using this))
 have neA:∀t∈tabs,t.2.1≠a:=λt ht z=>by
  have e:=(hT t ht).2
  rw[z,ha] at e; cases e
 have all:∀H:Hp,(∀b,H b=none\/∃o xs,H b=some (.frz o (.lst xs)))->(∀b,H b≠none->b=a)->(H a≠none->K.lookup a=none)->DL.KL K H a (ns.map V.int)->Xn P w H s₁.heap ->
   Hs (model P w) Uz (.call (.ref fa) ⟨[.ref a],[]⟩) (λr s'=>r=.ok (.ret (.bool true))/\OldK s₁.heap s'.heap/\s'.os=s₁.os/\Pd s'.gens) s₁:=by
  intro H h1 h2 h3 h4 h5
  refine core (dO tabs H) (λb=>?_) ?_ (λb u z=>?_) (λb z=>?_) (λz=>?_) λt ht=>?_
  ·cases q:tabs.find? (λr=>r.2.1 == b) with
   | some t=>exact .inr (.inr ⟨_,Qs q⟩)
   | none =>
    rcases h1 b with z | ⟨o,xs,z⟩
    ·exact .inl (by rw[Jy q]; exact z)
    ·exact .inr (.inl ⟨o,xs,by rw[Jy q]; exact z⟩)
  ·have na:tabs.find? (λr=>r.2.1 == a)=none:=tQ.mpr λt ht z=>neA t ht (by simpa using z)
   rcases h4 with ⟨o,h⟩ | h
   ·exact .inl ⟨o,by rw[Jy na]; exact h⟩
   ·exact .inr h
  ·cases q:tabs.find? (λr=>r.2.1 == b) with
   | some t =>
    rw[Qs q] at z
    cases z
    have eb:t.2.1=b:=by have:=Pr q; simpa using this
    exact ⟨#[],by rw[<- eb]; exact (hT t (Nj q)).2,by simp [TriplesOk],λpos v y=>by simp [codeAmong] at y⟩
   | none =>
    rw[Jy q] at z
    rcases h1 b with y | ⟨o,xs,y⟩
    ·rw[z] at y; cases y
    ·rw[z] at y
     cases y
     exact h5 b _ z
  ·cases q:tabs.find? (λr=>r.2.1 == b) with
   | some t=>exact .inr ⟨t,Nj q,by have:=Pr q; exact (by simpa using this : t.2.1=b).symm⟩
   | none =>
    rw[Jy q] at z
    exact .inl (h2 b z)
  ·have na:tabs.find? (λr=>r.2.1 == a)=none:=tQ.mpr λt ht z=>neA t ht (by simpa using z)
   rw[Jy na] at z
   exact h3 z
  ·exact ⟨#[.str t.2.2 0],0,Qs (tabH t ht),rfl⟩
 cases hk:K.lookup a with
 | some o =>
  -- the script is one of the module's own objects
  have e:=KX a o hk
  rw[ha] at e
  cases e
  exact all (λ_=>none) (λ_=>.inl rfl) (λb z=>absurd rfl z) (λz=>absurd rfl z) (.inr ⟨vs.toArray,_,hk,by rw[Aq,lenV]; exact hl,by simpa using rv⟩) (λb u z=>by have z':(none:Option HO)=some u:=z; cases z')
 | none =>
  refine all (λb=>if b=a then some (.frz { cls:=.type "list",data:=.seq vs.toArray } (.lst (ns.map V.int))) else none) (λb=>?_) (λb z=>?_) (λ_=>hk) (.inl ⟨{ cls:=.type "list",data:=.seq vs.toArray },if_pos rfl⟩) (λb u z=>?_)
  ·by_cases hb:b=a
   ·exact .inr ⟨_,_,if_pos hb⟩
   ·exact .inl (if_neg hb)
  ·by_cases hb:b=a
   ·exact hb
   ·exact absurd (if_neg hb) z
  ·by_cases hb:b=a
   ·have z':=(if_pos hb).symm.trans z
    cases z'
    subst hb
    exact ⟨ha,by rw[Ac]; exact hl,vs,_,rv,ha⟩
   ·have z':=(if_neg hb).symm.trans z
    cases z'
theorem walk_ofD{l:PySem.W.OpenLaw}{n k:Nat}{q:Bp}{loose:List Str}{XP:(Str->Option Value)->Heap->Prop}{YP:World->Heap->Prop}{d:DefRec}{K:Params->PySem.W.Frag}{CX:World->nJ}{sp:World->Sp}{x:Str}(hn:l.most=some n)(hn2:n<=Be)(hdf:d.params.defaults=[])(hr:Room k Uz)(hY:∀(w:World) (h:Heap),YP w h->(K w.params).In h)(F:∀(w:World) (mg:Str->Option Value) (fa:Addr) (h:Heap),(K w.params).In h->h.Ns Ck mg->mg d.name=some (.ref fa)->(aO q (K w.params))/\∃fd:Ca,(∀(s:Al) (u:Value),BindsTo s fd ⟨[u],[]⟩ [(x,u)])/\∀base:Heap,(K w.params).In base->base.Ns Ck mg->FnOk l.prog w (K w.params) mg base (CX w) k fa fd [x] (sp w))(hsp:∀(w:World) (H:Hp) (a:Addr) (ns:List Int),ns.length<=n->rQ H->DL.KL (K w.params) H a (ns.map V.int)->sp w [.ref a] H (λv _=>v=.bl true) λ_ _ _=>False)(hCX:∀(w:World) (H:Hp) (s:Al) (e:Value) (s':Al),CX w [] H s (λ_ _ _=>False) e s'->False):PySem.W.WalkO q loose XP YP l.row.toRowW d [] (λf vs=>PySem.call f vs):=by
 refine Att.attach_call hn hdf λw s₀ s₁ mg mb fa o pm cd doc a vs ns G Y ho hd hcd hmg hobj hints hlen hg=>?_
 have KX:=hY w _ Y
 obtain ⟨⟨tabs,t1,t2,t3,t4⟩,fd,hb,hF⟩:=F w mg fa _ KX G.T.g hmg
 exact lP tabs (λt ht=>by
  obtain ⟨x,d,h1,h2⟩:=t1 t ht
  exact PySem.W.tab_of G.T KX h1 h2) t2 t3 t4 G.T.bmain KX G.T.g G.T.b G.T.builtins G.T.nolimit hg hobj hints (Bk hlen hn2) hr hF hb (λH hO hS=>hsp w H a ns hlen hO hS) λH e s'=>hCX w H s₁ e s'
end L2
namespace DL
open PySem PySem.Spec PyProof.Rows L2 Nd
def npk:List DV->Bool
 | []=>true
 | .dat .pk _::_=>false
 | _::xs=>npk xs
theorem iP:∀{S:List Ent} {sl:List DV},S.map Ent.x=sl->npk sl=true->∀e∈S,Lr e.x=false
 | [],_,_,_,e,he=>nomatch he
 | ⟨v,x,F⟩::S,_,h,hn,e,he=>by
  subst h
  rw[Au] at hn
  have : Lr x=false/\npk (S.map Ent.x)=true:=by
   cases x with
   | dat m d=>cases m <;> first | exact ⟨rfl,hn⟩ | cases hn
   | _=>exact ⟨rfl,hn⟩
  rcases Ag.mp he with rfl | he
  ·exact this.1
  ·exact iP rfl this.2 e he
def own1:Md->Bool
 | .ow=>true
 | .tp=>true
 | _=>false
section
variable{K:PySem.W.Frag}{H0 H:Hp}{X:Addr->Prop}{n:Nat}{E:List Ent}
theorem At.write{v:Option V}{m:Md}{ds es:List Ad}{a:Addr}{F G:List Addr}{ys:List V}(h:At K H0 X n (⟨v,.dat m (.list ds),a::F⟩::E) H)(ho:own1 m=true)(hv:v=some (.ref a))(np:∀e∈E,Lr e.x=false)(r:RdFs K H ys es G)(hG:G.Sublist F)(hz:es.length<=Be):At K H0 X n (⟨v,.dat m (.list es),a::G⟩::E) (upd H a (.lst ys)):=by
 obtain ⟨w,e1,rd,hn,ht⟩:=h.ok _ Aa
 obtain ⟨b,xs,G0,e2,ha,ra,eF,_⟩:=rd.list_inv
 have eF':a::F=b::G0:=eF
 cases eF'
 have hs:=Av.mp h.sep
 have naF:a∉F:=by
  cases m with
  | ow=>exact (Cg.mp (hn rfl)).1
  | tp=>exact ht rfl a F rfl
  | sh=>cases ho
  | pk=>cases ho
 have ca:a∈cells ⟨v,.dat m (.list ds),a::F⟩:=by
  cases m <;> first | exact Aa | cases ho
 have kp:∀{F':List Addr},a∉F'->Kp F' H (upd H a (.lst ys)):=λ{F'} hF b o q z=>by
  have : b≠a:=by
   rintro rfl
   rw[ha] at q
   cases q
   rcases z with z | z
   ·exact hF z
   ·rcases z with ⟨_,z⟩ | ⟨_,_,z⟩ <;> cases z
  rw[Ef this]
  exact q
 have n0:H0 a=none:=by
  rcases h.new _ Aa a ca with z | z
  ·exact z
  ·cases z.2
 have cs:∀c∈cells ⟨v,.dat m (.list es),a::G⟩,c∈cells ⟨v,.dat m (.list ds),a::F⟩:=λc hc=>by
  cases m with
  | ow =>
   rcases Ag.mp hc with z | z
   ·exact Ag.mpr (.inl z)
   ·exact Ag.mpr (.inr (hG.subset z))
  | tp=>exact hc
  | sh=>cases ho
  | pk=>cases ho
 have hsub:∀c∈a::G,c∈a::F:=λc hc=>by
  rcases Ag.mp hc with z | z
  ·exact Ag.mpr (.inl z)
  ·exact Ag.mpr (.inr (hG.subset z))
 have naG:a∉G:=λz=>naF (hG.subset z)
 refine ⟨λf hf=>?_,?_,λf hf=>?_,λb o nx q=>?_,λb o q=>?_,λb hb=>?_⟩
 ·rcases Ag.mp hf with rfl | hf
  ·refine ⟨.ref a,hv,.lst Dh hz (r.kp (kp naG)),λz=>?_,λz c l e=>?_⟩
   ·exact Cg.mpr ⟨naG,(Cg.mp (hn z)).2.sublist hG⟩
   ·cases e
    exact naG
  ·exact (h.ok f (Ab _ hf)).kp (kp ((hs.1 f hf).1 (.inl (np f hf)) a ca)) (An _)
 ·refine Av.mpr ⟨λf hf=>⟨λhq c hc=>(hs.1 f hf).1 (.inl (np f hf)) c (cs c hc),λhq c hc z=>(hs.1 f hf).2 (.inl ?_) c hc (hsub c z)⟩,hs.2⟩
  cases m <;> first | rfl | cases ho
 ·rcases Ag.mp hf with rfl | hf
  ·exact λc hc=>h.new _ Aa c (cs c hc)
  ·exact h.new f (Ab _ hf)
 ·rw[Ef (Es q n0)]
  exact h.same b o nx q
 ·rw[Ef (Es q n0)]
  exact h.dom b o q
 ·obtain ⟨z,c,k,f,h1,h2⟩:=h.xd b hb
  refine ⟨z,c,k,f,(Ef ?_).trans h1,h2⟩
  rintro rfl
  exact z n0
end
theorem Hn{α:Type}:∀{l:List α} {i:Nat} {x:α},l[i]? = some x->l.Perm (x::l.eraseIdx i)
 | [],i,x,h=>by simp at h
 | z::l,0,x,h=>by
  simp at h
  subst h
  exact Fm _
 | z::l,i+1,x,h=>by
  have ih:=Hn (l:=l) (i:=i) (x:=x) (by simpa using h)
  rw[List.eraseIdx_cons_succ]
  exact (ih.cons z).trans (Do x z _)
theorem Tc{α:Type}{l:List α}{i:Nat}{x y:α}(h:l[i]? = some x):(l.set i y).Perm (y::l.eraseIdx i):=by
 have hlt:=(Aw.mp h).1
 have q:=Hn (l:=l.set i y) (i:=i) (x:=y) (by rw[Ka]; simp [hlt])
 rw[List.eraseIdx_set_eq] at q
 exact q
theorem Xd{K:PySem.W.Frag}{H0 H:Hp}{X:Addr->Prop}{S T:List Ent}{δ:DS}{i:Nat}{m:Md}{ds es:List Ad}(hS:Sl S δ)(hT:∀e∈T,Lr e.x=false)(hA:At K H0 X δ.n (S++T) H)(hi:δ.sl[i]? = some (.dat m (.list ds)))(ho:own1 m=true)(np:npk δ.sl=true):∃a xs G,(vs S)[i]? = some (some (.ref a))/\H a=some (.lst xs)/\RdFs K H xs ds G/\ds.length<=Be/\∀ys G',RdFs K H ys es G'->G'.Sublist G->es.length<=Be->∃S',vs S'=vs S/\Sl S' ⟨δ.sl.set i (.dat m (.list es)),δ.n⟩/\At K H0 X δ.n (S'++T) (upd H a (.lst ys)):=by
 obtain ⟨ent,e2,e3⟩:=Iv hS hi
 have hm:ent∈S:=Ao e2
 obtain ⟨u,x,F⟩:=ent
 have e3':x=.dat m (.list ds):=e3
 subst e3'
 obtain ⟨v,hv,rd,_⟩:=hA.ok _ (Am _ hm)
 obtain ⟨a,xs,G,rfl,ha,ra,eF,hz⟩:=rd.list_inv
 have eF':F=a::G:=eF
 subst eF'
 refine ⟨a,xs,G,by rw[Ks e2]; exact congrArg some hv,ha,ra,hz,λys G' r hG hz'=>?_⟩
 have hn:=iP hS np
 have pm:(S++T).Perm (⟨u,.dat m (.list ds),a::G⟩::(S.eraseIdx i++T)):=by
  exact (Hn e2).append_right T
 have h1:=(hA.perm pm).write (es:=es) (ys:=ys) ho hv (λe he=>?_) r hG hz'
 ·refine ⟨S.set i ⟨u,.dat m (.list es),a::G'⟩,?_,?_,h1.perm ?_⟩
  ·unfold vs
   rw[Iu]
   apply Kc
   intro j
   rw[Ka]
   split
   ·rename_i hij
    subst hij
    rw[Bf,e2]
    split
    ·rfl
    ·rename_i hj
     rw[Ac] at hj
     exact absurd (Aw.mp e2).1 hj
   ·rfl
  ·unfold Sl at hS ⊢
   rw[Iu,hS]
  ·exact ((Tc e2).append_right T).symm
 ·rcases Ay.mp he with he | he
  ·exact hn e ((List.eraseIdx_sublist S i).subset he)
  ·exact hT e he
def bO(i:Nat)(de:DE):DB:=λD δ=>match δ.sl[i]? with
 | some (.dat _ (.list _))=>de δ λy δ1=>match δ1.sl[i]?,y with
  | some (.dat m (.list ds)),.dat _ e=>own1 m=true/\npk δ1.sl=true/\imm e=true/\ds.length<1000000/\D.nx ⟨δ1.sl.set i (.dat m (.list (ds++[e]))),δ1.n⟩
  | _,_=>False
 | _=>False
section
variable{X:Cx}{o e:Expr}{de:DE}{apos cpos pos:Pos}{i:Nat}
theorem Hz(ho:PE X o (Yi i))(he:Ei X e de)(hbase:Xl o "append" X.env (eval o X.env)=eval o X.env:=by rfl)
  (hfew:((Hg cpos (Bj [e] X.env)).all (λx=>!x.1) && (backToKw cpos (keywordEach [] X.env)).all (λx=>x.1.isSome)
   && decide (([e]:List Expr).length+([]:List Vc).length+(if ([]:List Vc).isEmpty then 0 else 1)<30))=true:=by rfl)
  (hline:(apos.endLine == cpos.line)=true:=by rfl) (hs:Bj [e] X.env=(false,eval e X.env)::Bj [] X.env:=by rfl) (hplain:(Hg cpos (Bj [] X.env)).any (·.1)=false:=by rfl)
  (hsw:Io (.Call (.Attribute o "append" apos) [e] [] cpos) none pos.line X.env=pure false:=by rfl) :
  cE X (.Expr (.Call (.Attribute o "append" apos) [e] [] cpos) pos) (bO i de):=by
 refine PS.impD (aU (sG PySem.F.plainAttrs_list PySem.F.slot_list_append PySem.F.type_list_append Pg ho (Gb he Mm hs) hbase hfew hline hs hplain) hsw) λD σ H h=>?_
 obtain ⟨H0,Y,S,T,δ,P,rfl,hS,hT,hA,hd,k1,k2,k3,k4⟩:=h
 unfold bO at hd
 split at hd
 case h_2=>exact hd.elim
 rename_i m0 ds0 hsl
 obtain ⟨ent,e2,e3⟩:=Iv hS hsl
 have hm:ent∈S:=Ao e2
 obtain ⟨u,x,F⟩:=ent
 have e3':x=.dat m0 (.list ds0):=e3
 subst e3'
 obtain ⟨v,hv,rd,_⟩:=hA.ok _ (Am _ hm)
 obtain ⟨a,xs,G,rfl,ha,ra,eF,hz⟩:=rd.list_inv
 refine ⟨.ref a,by rw[Ks e2]; exact congrArg some hv,.inl ⟨rfl,xs,Om.of ha⟩,H0,Y,S,T,δ,_,rfl,hS,hA,hd,λy δ1 w F1 S1 H1 e4 e5 hA1 p1=>?_⟩
 split at p1
 ·rename_i m ds m' e' hsl1
  obtain ⟨p1,p2,p3,p4,p5⟩:=p1
  have r:=hA1.told mem_mid
  obtain rfl:=r.imm p3
  obtain ⟨b,xs1,G1,g1,g2,g3,g4,g5⟩:=Xd (es:=ds++[e']) e5 hT hA1.drop hsl1 p1 p2
  rw[e4,Ks e2] at g1
  have : some (V.ref b)=some (V.ref a):=(Bl g1).symm.trans hv
  cases this
  obtain ⟨S2,h1,h2,h3⟩:=g5 (xs1++[w]) (G1++[]) (g3.snoc r) (by rw[Dc]; exact Cj _) (by rw[Ax]; exact gC (by simp; omega))
  have hl:=g3.len
  refine ⟨a,xs1,w,rfl,rfl,g2,Bu (by omega) (gC (n:=1000000) (An _)),?_⟩
  rw[<- e4,<- h1]
  exact k1 ⟨_,_⟩ S2 _ h2 h3 p5
 ·exact p1.elim
end
def S8(i:Nat)(dk de:DE):DB:=λD δ=>de δ λy δ1=>match δ1.sl[i]? with
 | some (.dat _ (.list _))=>dk δ1 λz δ2=>match δ2.sl[i]?,y,z with
  | some (.dat m (.list ds)),.dat _ e,.dat _ (.int k)=>own1 m=true/\npk δ2.sl=true/\imm e=true/\Dk ds=true/\∃j,nZ ds.length k=some j/\D.nx ⟨δ2.sl.set i (.dat m (.list (ds.set j e))),δ2.n⟩
  | _,_,_=>False
 | _=>False
def vH(i:Nat)(rd:D2)(de:DE):DB:=λD δ=>match δ.sl[i]? with
 | some (.dat _ (.int a))=>de δ λy δ1=>rd (.dat .ow (.int a)) y λz=>match z with
  | .dat _ d=>imm d=true/\D.nx ⟨δ1.sl.set i (.dat .sh d),δ1.n⟩
  | _=>False
 | _=>False
section
variable{X:Cx}{x:Str}{e:Expr}{de:DE}{pos pos':Pos}{i:Nat}
theorem lF{op:Operator}{g:Int->Int->Int}(hN:X.N.Nodup)(hi:X.N[i]? = some x)(hx:Loc X.env.scope x)(he:Ei X e de)(ho:N6 X op (N8 g))(hf:X.fn x=true\/X.env.scope.names.lookup x=some .local:=by first | exact .inl rfl | exact .inr rfl | assumption):cE X (.AugAssign (.Name x pos') op e pos) (vH i (Xw λa b=>.int (g a b)) de):=by
 refine PS.impD (t9 hN hi hx he ho hf) λD σ H h=>?_
 obtain ⟨H0,Y,S,T,δ,P,rfl,hS,hT,hA,hd,k1,k2,k3,k4⟩:=h
 unfold vH at hd
 split at hd
 case h_2=>exact hd.elim
 rename_i m0 a hsl
 obtain ⟨ent,e2,e3⟩:=Iv hS hsl
 have hm:ent∈S:=Ao e2
 obtain ⟨u,x,F⟩:=ent
 have e3':x=.dat m0 (.int a):=e3
 subst e3'
 obtain ⟨v,hv,rd,_⟩:=hA.ok _ (Am _ hm)
 obtain ⟨rfl,_⟩:=rd.int_inv
 refine ⟨.int a,by rw[Ks e2]; exact congrArg some hv,H0,Y,S,T,δ,_,rfl,hS,hA,hd,λy δ1 w F1 S1 H1 e4 e5 hA1 p1=>?_⟩
 unfold Xw at p1
 split at p1
 ·rename_i a' b' ea
  cases ea
  obtain ⟨rfl,_⟩:=(hA1.told mem_mid).int_inv
  refine ⟨a,_,rfl,rfl,?_⟩
  show D.nx ((vs S).set i (some (V.int (g a _)))) H1
  rw[<- e4,<- bG (x:=.dat .sh (.int (g a _))) (F:=[])]
  exact k1 ⟨_,_⟩ _ H1 (aD e5) ((hA1.drop.pushI (.int _)).store) p1.2
 ·exact p1.elim
theorem jI(hN:X.N.Nodup)(hi:X.N[i]? = some x)(hx:Loc X.env.scope x)(he:Ei X e de)(hf:X.fn x=true\/X.env.scope.names.lookup x=some .local:=by first | exact .inl rfl | exact .inr rfl | assumption):cE X (.AugAssign (.Name x pos') .Add e pos) (vH i rdAdd de):=lF hN hi hx he zD hf
end
def bN(i:Nat):DE:=λδ P=>match δ.sl[i]? with
 | some (.dat .pk _)=>False
 | some (.dat _ d)=>P (.dat .sh d) ⟨δ.sl.set i (.dat .sh d),δ.n⟩
 | _=>False
theorem nA{X:Cx}{e:Expr}{i:Nat}(h:PE X e (Yi i)):Ei X e (bN i):=by
 refine PE.imp h λσ H Q h=>?_
 obtain ⟨H0,Y,S,T,δ,P,rfl,hS,hA,hd,k⟩:=h
 unfold bN at hd
 split at hd
 ·exact hd.elim
 ·rename_i m d hm e1
  obtain ⟨ent,e2,e3⟩:=Iv hS e1
  have hme:ent∈S:=Ao e2
  obtain ⟨u,x,F⟩:=ent
  have e3':x=.dat m d:=e3
  subst e3'
  obtain ⟨v,hv,hv2⟩:=hA.ok _ (Am _ hme)
  have hv':u=some v:=hv
  subst hv'
  -- the same entry,shared
  obtain ⟨hlt,he⟩:=Aw.mp e2
  have q1:=Hn e2
  have q2:=Tc (y:=(⟨some v,.dat .sh d,F⟩ : Ent)) e2
  have hA1:At X.K H0 Y δ.n (S.set i ⟨some v,.dat .sh d,F⟩++T) H:=by
   refine At.perm (At.wk (m:=m) ?_ (hA.perm (q1.append_right T))) (q2.append_right T).symm
   cases m <;> first | rfl | exact (hm rfl).elim
  refine ⟨v,by rw[Ks e2],k _ ⟨δ.sl.set i (.dat .sh d),δ.n⟩ v F (S.set i ⟨some v,.dat .sh d,F⟩) H ?_ ?_ (hA1.look (m:=.sh) (List.mem_set hlt _) rfl) hd⟩
  ·rw[bG]
   apply Kc
   intro j
   rw[Ka]
   split
   ·rename_i hij
    subst hij
    rw[Ks e2]
    split
    ·rfl
    ·rename_i hj
     unfold vs at hj
     rw[Ac] at hj
     exact absurd hlt hj
   ·rfl
  ·exact aD hS
 ·exact hd.elim
def spLawD(K:PySem.W.Frag):Sp:=λus H Q _=>∃(a:Addr) (ns:List Int),us=[.ref a]/\KL K H a (ns.map V.int)/\ns.length<=63/\∀H',Q (.bl true) H'
def retL:DEnds where
 nx:=λ_=>False
 rt:=λx _=>∃m,x=.dat m (.bool true)
section
variable{P:Bp}{w:World}{K:PySem.W.Frag}{mg:Str->Option Value}{base:Heap}
theorem zG{x qual p0:Str}{st:Stmt}{f:Addr}{fd:Ca}{N:List Str}{k:Nat}{db:DB}(F:Fun K x qual st f fd)(S:FnScope N [p0] (Bw st))(hb:∀(cdv:Value) (A:Dg) (outer:List Env) (s:Al) (H:Hp) (E:XK),Room k (A.deeper (Og qual (Bw st) s.heap.objs.size f cdv))->Ut (Yc Gh P w K mg base N qual (Bw st) f cdv A outer s H E).nox (Hy st) db)(h:∀ns:List Int,ns.length<=63->db retL ⟨.scr ns::Gn (N.length - 1) .un,0⟩):FnOk P w K mg base Gh (k+1) f fd [p0] (spLawD K):=by
 refine F.ok S (λvs H Q E z=>?_) λcdv A outer s H us Q E hr z=>?_
 ·obtain ⟨a,ns,rfl,_⟩:=z
  rfl
 ·obtain ⟨a,ns,rfl,hK,h63,k1⟩:=z
  refine ⟨_,hb cdv A outer s H E hr,H,λ_=>False,⟨some (.ref a),.scr ns,[]⟩::Ha (N.length - 1),[],⟨.scr ns::Gn (N.length - 1) .un,0⟩,retL,?_,?_,λ_ z=>(nomatch z),?_,h ns h63,λδ' S' H' e1 hA p=>p.elim,λx δ' v F' S' H' e1 hA p=>?_,λ_ _ _ _ _ p=>p.elim,λ_ _ _ _ _ p=>p.elim⟩
  ·unfold vs L2.start Ha
   rw[Au,Me]
   rfl
  ·unfold Sl Ha
   rw[Au,Me]
  ·rw[Dc]
   have hc:∀e∈(⟨some (.ref a),.scr ns,[]⟩::Ha (N.length - 1):List Ent),cells e=[]:=λe he=>by
    rcases Ag.mp he with rfl | he
    ·rfl
    ·rw[(Hd.mp he).2]
     rfl
   refine ⟨λe he=>?_,Ot λa ha b hb'=>⟨λhq c z=>?_,λhq c z=>?_⟩,λe he a ha=>?_,λb o _ e=>e,λb o e=>⟨o,e⟩,λb hb=>hb.elim⟩
   ·rcases Ag.mp he with rfl | he
    ·exact ⟨a,rfl,rfl,hK,h63⟩
    ·rw[(Hd.mp he).2]
     exact (rfl:([]:List Addr)=[])
   ·rw[hc a ha] at z; cases z
   ·rw[hc b hb'] at z; cases z
   ·rw[hc e he] at ha; cases ha
  ·obtain ⟨m,rfl⟩:=p
   rw[show S'++[(⟨some v,.dat m (.bool true),F'⟩ : Ent)]=S'++⟨some v,.dat m (.bool true),F'⟩::[] from rfl] at hA
   obtain ⟨rfl,_⟩:=(hA.told mem_mid).bl_inv
   exact k1 H'
end
def gG(i:Nat)(dl dh:DO):DE:=λδ P=>match δ.sl[i]? with
 | some (.scr ns)=>dl δ λl δ2=>dh δ2 λh δ3=>P (.dat .ow (.list ((Hx ns l h).map Ba))) δ3
 | _=>False
section
variable{X:Cx}{e b:Expr}{de:DE}{lo hi:Option Expr}{dl dh:DO}{pos p2:Pos}{i:Nat}
theorem zQ{K:PySem.W.Frag}{H0 H:Hp}{Y:Addr->Prop}{S T:List Ent}{δ:DS}{ns:List Int}(hS:Sl S δ)(hA:At K H0 Y δ.n (S++T) H)(hi:δ.sl[i]? = some (.scr ns)):∃a,(vs S)[i]? = some (some (.ref a))/\(⟨some (.ref a),.scr ns,[]⟩ : Ent)∈S/\KL K H a (ns.map V.int)/\ns.length<=63:=by
 obtain ⟨ent,e2,e3⟩:=Iv hS hi
 have hm:ent∈S:=Ao e2
 obtain ⟨u,x,F⟩:=ent
 have e3':x=.scr ns:=e3
 subst e3'
 obtain ⟨a,h1,h2,h3⟩:=hA.ok _ (Am _ hm)
 have h1':u=some (.ref a):=h1
 have h2':F=[]:=h2
 subst h1' h2'
 exact ⟨a,by rw[Ks e2],hm,h3⟩
theorem pQ(he:PE X e (Yi i))(hl:A2 X lo dl)(hh:A2 X hi dh):Ei X (.Subscript e (.Slice lo hi none p2) pos) (gG i dl dh):=by
 refine PE.imp (fU (r:=u6 X.K) uC he hl hh) λσ H Q h=>?_
 obtain ⟨H0,Y,S,T,δ,P,rfl,hS,hA,hd,k⟩:=h
 unfold gG at hd
 split at hd
 case h_2=>exact hd.elim
 rename_i ns hsl
 obtain ⟨a,ha,hm,hK,h63⟩:=zQ hS hA hsl
 have hA0:At X.K H0 Y δ.n (S++⟨some (.ref a),.scr ns,[]⟩::T) H:=(At.view1 hA (Am _ hm)).tomid
 refine ⟨.ref a,ha,H0,Y,S,⟨some (.ref a),.scr ns,[]⟩::T,δ,_,rfl,hS,hA0,hd,λl δ2 S2 H2 e3 e4 hA2 p2=>?_⟩
 refine ⟨H0,Y,S2,⟨some (.ref a),.scr ns,[]⟩::T,δ2,_,e3,e4,hA2,p2,λh δ3 S3 H3 e5 e6 hA3 p3=>?_⟩
 obtain ⟨a',h1,_,hK3,_⟩:=hA3.ok _ mem_mid
 cases h1
 refine ⟨a,_,rfl,hK3.sq,λp hp=>?_⟩
 have : Wm (ns.map V.int) l h=(Hx ns l h).map V.int:=by
  rw[<- fR]; rfl
 rw[this]
 refine k _ δ3 _ _ S3 _ e5 e6 (hA3.drop.newI (RdFs.ints _) (Uh _) ?_ hp .ow) p3
 rw[Ac]
 have l1:=(Se ns l h).length_le
 exact sz (by omega)
end
theorem cJ{X:Cx}{c:Expr}{body:List Stmt}{dt:DT}{db:DB}{pos:Pos}(hp:PassesOwn (model X.prog X.w) X.A X.env X.xe)(hc:Zw X c dt)(hb:Ut X body db):cE X (.While c body [] pos) (sU dt db):=by
 refine PS.impD (rO hp hc hb) λD σ H h=>?_
 obtain ⟨H0,Y,S,T,δ,P,rfl,hS,hT,hA,hd,k1,k2,k3,k4⟩:=h
 obtain ⟨I,μ,h0,hs⟩:=hd
 refine ⟨λq σ H=>∃S δ,vs S=σ/\Sl S δ/\At X.K H0 Y δ.n (S++T) H/\I δ/\q=μ δ,⟨_,S,δ,rfl,hS,hA,h0,rfl⟩,?_⟩
 (intro q σ H q_; obtain ⟨S1,δ1,rfl,e1,hA1,hI,rfl⟩ := q_)
 refine ⟨H0,Y,S1,T,δ1,_,rfl,e1,hA1,hs δ1 hI,λb δ2 S2 H2 e2 e3 hA2 p2=>?_⟩
 cases b with
 | true =>
  refine ⟨λσ' H'=>∃S δ,vs S=σ'/\Sl S δ/\At X.K H0 Y δ.n (S++T) H'/\I δ/\μ δ<μ δ1,λσ' H' ⟨S,δ,z1,z2,z3,z4,z5⟩=>⟨_,z5,S,δ,z1,z2,z3,z4,rfl⟩,?_⟩
  exact ⟨H0,Y,S2,T,δ2,_,e2,e3,hT,hA2,p2,λδ4 S4 H4 e5 hA4 p4=>⟨S4,δ4,rfl,e5,hA4,p4⟩,k2,λδ4 S4 H4 e5 hA4 p4=>k1 δ4 S4 H4 e5 hA4 p4,λδ4 S4 H4 e5 hA4 p4=>⟨S4,δ4,rfl,e5,hA4,p4⟩⟩
 | false =>
  rw[<- e2]
  exact k1 δ2 S2 H2 e3 hA2 p2
def K2(i j:Int):Prop:=0<=j/\(Builtin.Int.intBits i:Int) * j<=2 ^ 27
theorem wB{X:Cx}:Rv X (Gj .Pow) (rI K2 λi j=>.int (i ^ j.toNat)):=J5 λ_ _ _ _ _ _ _ hc q=>pow_int hc.1 hc.2 q
def Ql:DF:=λds n R=>ds=[]/\n<=100000/\∀r:Int,R (.int r) (n+1)
theorem tY{P:Bp}{w:World}{K:PySem.W.Frag}{mg:Str->Option Value}{base:Heap}{k:Nat}{f:Addr}{fd:Ca}{ps:List Str}(F:FnOk P w K mg base Gh k f fd ps sF):FnOk P w K mg base Gh k f fd ps (cG K Ql):=by
 refine F.imp λus H Q E h=>?_
 obtain ⟨dr,ws,As,n,ds,R,rfl,eu,ok,nd,⟨c,kk,fl,hdr,h0,h1⟩,q,hp,k1⟩:=h
 obtain ⟨rfl,hn,hR⟩:=hp
 have hAs:As=[]:=by
  have:=Jc q
  rw[Ac] at this
  exact Gp.mp this
 subst hAs
 have hws:ws=[]:=by
  cases ws with
  | nil=>rfl
  | cons _ _=>cases eu
 subst hws
 refine ⟨dr,c,kk,fl,rfl,hdr,h0,by omega,λr c' H' hd' s=>?_⟩
 exact k1 (.int r) (.int r) [] (n+1) H' (by omega) (hR r) (.int r) Fe (λ_ z=>(nomatch z)) ⟨c',kk+1,fl,hd',by omega,by omega⟩ s
def lI:PF:=λds R=>∃a b:List Int,ds=[Bs a,Bs b]/\Ec 60 a/\Ec 60 b/\R (Bs (Nx (a++b)))
theorem fQ{K:PySem.W.Frag}{H:Hp}{v:V}{F:List Addr}{ns:List Int}(r:RdF K H v (Bs ns) F):∃a,v=.ref a/\H a=some (.tup (ns.map V.int)):=by
 obtain ⟨a,xs,rfl,ha,ra,_⟩:=RdF.tup_inv (ds:=ns.map Ba) r
 obtain ⟨rfl,_⟩:=ra.ints_inv
 exact ⟨a,rfl,ha⟩
theorem uK{K:PySem.W.Frag}{H:Hp}{a:Addr}{ns:List Int}(h:H a=some (.tup (ns.map V.int)))(l:ns.length<=1000000):RdF K H (.ref a) (Bs ns) []:=.tup h (by rw[Ac]; exact gC l) (RdFs.ints ns)
theorem pG{K:PySem.W.Frag}{H:Hp}{n:Nat}{As:List Ent}{us:List V}{d1 d2:Ad}(eu:As.map Ent.v=us.map some)(ok:∀e∈As,Gg K H n e)(q:datas (As.map Ent.x)=some [d1,d2]):∃v1 v2 F1 F2,us=[v1,v2]/\RdF K H v1 d1 F1/\RdF K H v2 d2 F2:=by
 have r:=Rc eu q ok
 generalize As.flatMap Ent.F=G0 at r
 cases r with
 | cons a t =>
  cases t with
  | cons b t =>
   cases t
   exact ⟨_,_,_,_,rfl,a,b⟩
section
variable{P:Bp}{w:World}{K:PySem.W.Frag}{mg:Str->Option Value}{base:Heap}{k:Nat}{f:Addr}{fd:Ca}{ps:List Str}
theorem yP(F:FnOk P w K mg base Gh k f fd ps (xU K)):FnOk P w K mg base Gh k f fd ps (Oi K lI):=by
 refine F.imp λus H Q E h=>?_
 obtain ⟨As,n,ds,R,eu,ok,q,hp,k1⟩:=h
 obtain ⟨a,b,rfl,ra,rb,hR⟩:=hp
 obtain ⟨v1,v2,F1,F2,rfl,r1,r2⟩:=pG eu ok q
 obtain ⟨p1,rfl,h1⟩:=fQ r1
 obtain ⟨p2,rfl,h2⟩:=fQ r2
 refine ⟨p1,p2,a,b,rfl,Pe.of h1,Pe.of h2,ra,rb,λr ts H' nr er nd pw mem s=>?_⟩
 have e:ts=Nx (a++b):=kJ (Yx nd pw) mem
 subst e
 refine k1 (.ref r) _ [] H' hR (uK er ?_) Fe (λ_ z=>(nomatch z)) s
 have:=sS (ns:=a++b) (λx hx=>by
  rcases Ay.mp hx with z | z
  ·exact ra.2 x z
  ·exact rb.2 x z)
 omega
end
def Nh{α:Type}(xs:List α)(k:Nat)(y:α):List α:=xs.take k++y::xs.drop k
def uN:V->List V->Hp->VK->Prop:=λx us H Q=>∃(l:Addr) (xs:List V) (k:Int) (y:V),x=.ref l/\us=[.int k,y]/\H l=some (.lst xs)/\xs.length<Be/\0<=k/\k<=1000000/\Q .non (upd H l (.lst (Nh xs k.toNat y)))
theorem hZ{k:Int}(h0:0<=k)(h1:k<=1000000):Uc k=true:=by
 unfold Uc
 simp
 omega
theorem nV{α:Type}(xs:List α)(k:Nat)(y:α):Nh xs (min k xs.length) y=Nh xs k y:=by
 unfold Nh
 by_cases h:k<=xs.length
 ·rw[Nat.min_eq_left h]
 ·rw[Xr (by omega),Cz,Xm,Hb (by omega),List.drop_eq_nil_of_le (by omega)]
theorem Zp{α:Type}(xs:List α)(k:Nat)(y:α):(Nh xs k y).length=xs.length+1:=by
 unfold Nh
 rw[Ax,Bo,Ds,Kq]
 omega
section
variable{X:Cx}
theorem mM:T3 X "list.insert" uN:=by
 intro pins s σ H x vs v us Q I rx rv h
 obtain ⟨l,xs,k,y,rfl,rfl,hH,hz,k0,k1,q⟩:=h
 cases rx
 obtain ⟨u1,u2,rfl,r1,r2⟩:=rv.two
 obtain ⟨t,rfl⟩:=r1
 obtain ⟨z,its,n,r,hl,e⟩:=I.lstM hH
 refine call_meets F.slot_list_insert ⟨_,e,rfl⟩ F.entry_list_insert (F.args_list_insert_3 _ _ _)
  (AutoSeq1.list_insert_list_int_val_1 l its.toArray n k t u2 (by simp [hZ k0 k1]) (by rw[Aq]; omega)) ⟨e,?_⟩
 refine ⟨.non,_,I.lset (its':=Nh its k.toNat u2) hH e ?_ ?_ ?_,rfl,q⟩
 ·show (its.toArray.extract 0 (if k<0 then (k+(its.toArray.size:Int)).toNat else min k.toNat its.toArray.size)).push u2++its.toArray.extract (if k<0 then (k+(its.toArray.size:Int)).toNat else min k.toNat its.toArray.size)=(Nh its k.toNat u2).toArray
  rw[if_neg (by omega),Aq,<- nV]
  unfold Nh
  simp
  exact Hb (by rw[Kq]; omega)
 ·exact (r.take _).append (.cons r2 (r.drop _))
 ·rw[Zp]
  omega
end
def insB(i:Nat)(z y:DV)(δ:DS)(D:DEnds):Prop:=match δ.sl[i]?,z,y with
 | some (.dat m (.list ds)),.dat _ (.int k),.dat _ e=>own1 m=true/\npk δ.sl=true/\imm e=true/\Dk ds=true/\ds.length<1000000/\0<=k/\k<=1000000/\D.nx ⟨δ.sl.set i (.dat m (.list (Nh ds k.toNat e))),δ.n⟩
 | _,_,_=>False
def bP(i:Nat)(dk de:DE):DB:=λD δ=>match δ.sl[i]? with
 | some (.dat _ (.list _))=>dk δ λz δ1=>de δ1 λy δ2=>insB i z y δ2 D
 | _=>False
theorem RdFs.takeI{K:PySem.W.Frag}{H:Hp}{xs:List V}{ds:List Ad}{F:List Addr}(h:RdFs K H xs ds F)(hi:Dk ds=true)(k:Nat):RdFs K H (xs.take k) (ds.take k) []:=by
 induction k generalizing xs ds F with
 | zero=>exact .nil
 | succ k ih =>
  cases h with
  | nil=>exact .nil
  | cons a t =>
   rw[Dk,Cp] at hi
   obtain rfl:=a.imm hi.1
   exact RdFs.cons (F:=[]) a (ih t hi.2)
theorem RdFs.dropI{K:PySem.W.Frag}{H:Hp}{xs:List V}{ds:List Ad}{F:List Addr}(h:RdFs K H xs ds F)(hi:Dk ds=true)(k:Nat):RdFs K H (xs.drop k) (ds.drop k) []:=by
 induction k generalizing xs ds F with
 | zero=>rw[Kd,Kd]; exact (h.imm hi)▸h
 | succ k ih =>
  cases h with
  | nil=>exact .nil
  | cons a t =>
   rw[Dk,Cp] at hi
   exact ih t hi.2
section
variable{X:Cx}{o e ke:Expr}{de dk:DE}{apos cpos pos:Pos}{i:Nat}
theorem nH(ho:PE X o (Yi i))(hk:Ei X ke dk)(he:Ei X e de)(hbase:Xl o "insert" X.env (eval o X.env)=eval o X.env:=by rfl)
  (hfew:((Hg cpos (Bj [ke,e] X.env)).all (λx=>!x.1) && (backToKw cpos (keywordEach [] X.env)).all (λx=>x.1.isSome)
   && decide (([ke,e]:List Expr).length+([]:List Vc).length+(if ([]:List Vc).isEmpty then 0 else 1)<30))=true:=by rfl)
  (hline:(apos.endLine == cpos.line)=true:=by rfl) (hs0:Bj [ke,e] X.env=(false,eval ke X.env)::Bj [e] X.env:=by rfl) (hs:Bj [e] X.env=(false,eval e X.env)::Bj [] X.env:=by rfl) (hplain:(Hg cpos (Bj [e] X.env)).any (·.1)=false:=by rfl)
  (hsw:Io (.Call (.Attribute o "insert" apos) [ke,e] [] cpos) none pos.line X.env=pure false:=by rfl) :
  cE X (.Expr (.Call (.Attribute o "insert" apos) [ke,e] [] cpos) pos) (bP i dk de):=by
 refine PS.impD (aU (sG PySem.F.plainAttrs_list F.slot_list_insert F.type_list_insert mM ho (Gb hk (Gb he Mm hs) hs0) hbase hfew hline hs0 hplain) hsw) λD σ H h=>?_
 obtain ⟨H0,Y,S,T,δ,P,rfl,hS,hT,hA,hd,k1,k2,k3,k4⟩:=h
 unfold bP at hd
 split at hd
 case h_2=>exact hd.elim
 rename_i m0 ds0 hsl
 obtain ⟨ent,e2,e3⟩:=Iv hS hsl
 have hm:ent∈S:=Ao e2
 obtain ⟨u,x,F⟩:=ent
 have e3':x=.dat m0 (.list ds0):=e3
 subst e3'
 obtain ⟨v,hv,rd,_⟩:=hA.ok _ (Am _ hm)
 obtain ⟨a,xs,G,rfl,ha,ra,eF,hz⟩:=rd.list_inv
 refine ⟨.ref a,by rw[Ks e2]; exact congrArg some hv,.inl ⟨rfl,xs,Om.of ha⟩,H0,Y,S,T,δ,_,rfl,hS,hA,hd,λz δ1 w F1 S1 H1 e4 e5 hA1 p1=>?_⟩
 refine ⟨H0,Y,S1,⟨some w,z,F1⟩::T,δ1,_,e4,e5,hA1,p1,λy δ2 w2 F2 S2 H2 e6 e7 hA2 p2=>?_⟩
 unfold insB at p2
 split at p2
 ·rename_i m ds mz k my e' hsl2
  obtain ⟨q1,q2,q3,q4,q5,q6,q7,q8⟩:=p2
  obtain ⟨rfl,_⟩:=(hA2.told Em).int_inv
  have r:=hA2.told mem_mid
  obtain rfl:=r.imm q3
  obtain ⟨b,xs1,G1,g1,g2,g3,g4,g5⟩:=Xd (es:=Nh ds k.toNat e') e7 hT hA2.drop2 hsl2 q1 q2
  rw[e6,Ks e2] at g1
  have : some (V.ref b)=some (V.ref a):=(Bl g1).symm.trans hv
  cases this
  have hl:=g3.len
  obtain ⟨S3,h1,h2,h3⟩:=g5 (Nh xs1 k.toNat w2) [] ((g3.takeI q4 _).app (RdFs.cons (F:=[]) r (g3.dropI q4 _))) (List.nil_sublist _) (by rw[Zp]; exact gC (by omega))
  refine ⟨a,xs1,k,w2,rfl,rfl,g2,Bu (by omega) (gC (n:=1000000) (An _)),q6,q7,?_⟩
  rw[<- e6,<- h1]
  exact k1 ⟨_,_⟩ S3 _ h2 h3 q8
 ·exact p2.elim
end
def mmd:Md->Md->Md
 | .ow,.ow=>.ow
 | _,_=>.tp
section
variable{K:PySem.W.Frag}{H0 H:Hp}{X:Addr->Prop}{n:Nat}{E:List Ent}
theorem At.merge{v:Option V}{w:V}{m my:Md}{ds es:List Ad}{e:Ad}{a:Addr}{F Fy G:List Addr}{ys:List V}(h:At K H0 X n (⟨v,.dat m (.list ds),a::F⟩::⟨some w,.dat my e,Fy⟩::E) H)(ho:own1 m=true)(hy:my≠.pk)(hv:v=some (.ref a))(np:∀e∈E,Lr e.x=false)(r:RdFs K H ys es G)(hG:∀c∈G,c∈F\/c∈Fy)(hnd:(F++Fy).Nodup->G.Nodup)(hz:es.length<=Be):At K H0 X n (⟨v,.dat (mmd m my) (.list es),a::G⟩::E) (upd H a (.lst ys)):=by
 obtain ⟨w1,e1,rd,hn,ht⟩:=h.ok _ Aa
 obtain ⟨w2,e2',rdy,hny,hty⟩:=h.ok _ (Ab _ Aa)
 obtain ⟨b,xs,G0,e2,ha,ra,eF,_⟩:=rd.list_inv
 have eF':a::F=b::G0:=eF
 cases eF'
 have hs:=Av.mp h.sep
 have hs2:=Av.mp hs.2
 have s12:=hs.1 _ Aa
 have pk2:Lr (DV.dat my e)=false:=by cases my <;> first | rfl | exact absurd rfl hy
 have pk1:Lr (DV.dat m (.list ds))=false:=by cases m <;> first | rfl | cases ho
 have naF:a∉F:=by
  cases m with
  | ow=>exact (Cg.mp (hn rfl)).1
  | tp=>exact ht rfl a F rfl
  | sh=>cases ho
  | pk=>cases ho
 have ca:a∈cells ⟨v,.dat m (.list ds),a::F⟩:=by
  cases m <;> first | exact Aa | cases ho
 have naY:a∉Fy:=s12.1 (.inl pk2) a ca
 have naG:a∉G:=λz=>(hG a z).elim naF naY
 have kp:∀{F':List Addr},a∉F'->Kp F' H (upd H a (.lst ys)):=λ{F'} hF b o q z=>by
  have : b≠a:=by
   rintro rfl
   rw[ha] at q
   cases q
   rcases z with z | z
   ·exact hF z
   ·rcases z with ⟨_,z⟩ | ⟨_,_,z⟩ <;> cases z
  rw[Ef this]
  exact q
 have n0:H0 a=none:=by
  rcases h.new _ Aa a ca with z | z
  ·exact z
  ·cases z.2
 have cs:∀c∈cells ⟨v,.dat (mmd m my) (.list es),a::G⟩,c∈cells ⟨v,.dat m (.list ds),a::F⟩\/c∈cells ⟨some w,.dat my e,Fy⟩:=λc hc=>by
  by_cases hm:m=.ow/\my=.ow
  ·obtain ⟨rfl,rfl⟩:=hm
   rcases Ag.mp (show c∈a::G from hc) with z | z
   ·rw[z]; exact .inl ca
   ·rcases hG c z with z | z
    ·exact .inl (Ab _ z)
    ·exact .inr z
  ·have hc':c∈[a]:=by
    cases m <;> cases my <;> first | exact hc | exact absurd ⟨rfl,rfl⟩ hm
   rw[Aj.mp hc']; exact .inl ca
 refine ⟨λf hf=>?_,?_,λf hf=>?_,λb o nx q=>?_,λb o q=>?_,λb hb=>?_⟩
 ·rcases Ag.mp hf with rfl | hf
  ·refine ⟨.ref a,hv,.lst Dh hz (r.kp (kp naG)),λz=>?_,λz c l e=>?_⟩
   ·have hm:m=.ow/\my=.ow:=by
     cases m <;> cases my <;> first | exact ⟨rfl,rfl⟩ | cases z
    obtain ⟨rfl,rfl⟩:=hm
    refine Cg.mpr ⟨naG,hnd (Ga.mpr ⟨(Cg.mp (hn rfl)).2,hny rfl,λx hx y hy' e=>?_⟩)⟩
    subst e
    exact s12.1 (.inl pk2) x (Ab _ hx) hy'
   ·cases e
    exact naG
  ·have f1:=Ab (⟨some w,.dat my e,Fy⟩ : Ent) hf
   exact (h.ok f (Ab _ f1)).kp (kp ((hs.1 f f1).1 (.inl (np f hf)) a ca)) (An _)
 ·refine Av.mpr ⟨λf hf=>?_,hs2.2⟩
  have f1:=Ab (⟨some w,.dat my e,Fy⟩ : Ent) hf
  refine ⟨λhq c hc=>?_,λhq c hc z=>?_⟩
  ·rcases cs c hc with z | z
   ·exact (hs.1 f f1).1 (.inl (np f hf)) c z
   ·exact (hs2.1 f hf).1 (.inl (np f hf)) c z
  ·rcases Ag.mp z with z | z
   ·exact (hs.1 f f1).2 (.inl pk1) c hc (by rw[z]; exact Aa)
   ·rcases hG c z with z | z
    ·exact (hs.1 f f1).2 (.inl pk1) c hc (Ab _ z)
    ·exact (hs2.1 f hf).2 (.inl pk2) c hc z
 ·rcases Ag.mp hf with rfl | hf
  ·intro c hc
   rcases cs c hc with z | z
   ·rcases h.new _ Aa c z with z | z
    ·exact .inl z
    ·cases z.2
   ·rcases h.new _ (Ab _ Aa) c z with z | z
    ·exact .inl z
    ·cases z.2
  ·exact h.new f (Ab _ (Ab _ hf))
 ·rw[Ef (Es q n0)]
  exact h.same b o nx q
 ·rw[Ef (Es q n0)]
  exact h.dom b o q
 ·obtain ⟨z,c,k,f,h1,h2⟩:=h.xd b hb
  refine ⟨z,c,k,f,(Ef ?_).trans h1,h2⟩
  rintro rfl
  exact z n0
end
theorem gR{K:PySem.W.Frag}{H0 H:Hp}{X:Addr->Prop}{S T:List Ent}{δ:DS}{i:Nat}{m my:Md}{ds:List Ad}{e:Ad}{w:V}{Fy:List Addr}(hS:Sl S δ)(hT:∀e∈T,Lr e.x=false)(hA:At K H0 X δ.n (S++⟨some w,.dat my e,Fy⟩::T) H)(hi:δ.sl[i]? = some (.dat m (.list ds)))(ho:own1 m=true)(hy:my≠.pk)(np:npk δ.sl=true)(hl:ds.length<1000000):∃a xs,(vs S)[i]? = some (some (.ref a))/\H a=some (.lst xs)/\xs.length=ds.length/\∃S',vs S'=vs S/\Sl S' ⟨δ.sl.set i (.dat (mmd m my) (.list (ds++[e]))),δ.n⟩/\At K H0 X δ.n (S'++T) (upd H a (.lst (xs++[w]))):=by
 obtain ⟨ent,e2,e3⟩:=Iv hS hi
 have hm:ent∈S:=Ao e2
 obtain ⟨u,x,F⟩:=ent
 have e3':x=.dat m (.list ds):=e3
 subst e3'
 obtain ⟨v,hv,rd,_⟩:=hA.ok _ (Am _ hm)
 obtain ⟨a,xs,G,rfl,ha,ra,eF,hz⟩:=rd.list_inv
 have eF':F=a::G:=eF
 subst eF'
 have rw_:=hA.told mem_mid
 refine ⟨a,xs,by rw[Ks e2]; exact congrArg some hv,ha,ra.len,?_⟩
 have hn:=iP hS np
 have pm:(S++⟨some w,.dat my e,Fy⟩::T).Perm (⟨u,.dat m (.list ds),a::G⟩::⟨some w,.dat my e,Fy⟩::(S.eraseIdx i++T)):=by
  refine ((Hn e2).append_right _).trans ?_
  rw[Ey]
  exact Gc _ Dl
 have h1:=(hA.perm pm).merge (es:=ds++[e]) (ys:=xs++[w]) (G:=G++Fy) ho hy hv (λf hf=>?_) (ra.snoc rw_) (λc hc=>Ay.mp hc) (λz=>z) (by rw[Ax]; exact gC (by simp; omega))
 ·refine ⟨S.set i ⟨u,.dat (mmd m my) (.list (ds++[e])),a::(G++Fy)⟩,?_,?_,h1.perm ?_⟩
  ·unfold vs
   rw[Iu]
   apply Kc
   intro j
   rw[Ka]
   split
   ·rename_i hij
    subst hij
    rw[Bf,e2]
    split
    ·rfl
    ·rename_i hj
     rw[Ac] at hj
     exact absurd (Aw.mp e2).1 hj
   ·rfl
  ·unfold Sl at hS ⊢
   rw[Iu,hS]
  ·exact ((Tc e2).append_right T).symm
 ·rcases Ay.mp hf with hf | hf
  ·exact hn f ((List.eraseIdx_sublist S i).subset hf)
  ·exact hT f hf
def appOB(i:Nat)(y:DV)(δ:DS)(D:DEnds):Prop:=match δ.sl[i]?,y with
 | some (.dat m (.list ds)),.dat my e=>own1 m=true/\npk δ.sl=true/\my≠.pk/\ds.length<1000000/\D.nx ⟨δ.sl.set i (.dat (mmd m my) (.list (ds++[e]))),δ.n⟩
 | _,_=>False
def Xg(i:Nat)(de:DE):DB:=λD δ=>match δ.sl[i]? with
 | some (.dat _ (.list _))=>de δ λy δ1=>appOB i y δ1 D
 | _=>False
section
variable{X:Cx}{o e:Expr}{de:DE}{apos cpos pos:Pos}{i:Nat}
theorem Qj(ho:PE X o (Yi i))(he:Ei X e de)(hbase:Xl o "append" X.env (eval o X.env)=eval o X.env:=by rfl)
  (hfew:((Hg cpos (Bj [e] X.env)).all (λx=>!x.1) && (backToKw cpos (keywordEach [] X.env)).all (λx=>x.1.isSome)
   && decide (([e]:List Expr).length+([]:List Vc).length+(if ([]:List Vc).isEmpty then 0 else 1)<30))=true:=by rfl)
  (hline:(apos.endLine == cpos.line)=true:=by rfl) (hs:Bj [e] X.env=(false,eval e X.env)::Bj [] X.env:=by rfl) (hplain:(Hg cpos (Bj [] X.env)).any (·.1)=false:=by rfl)
  (hsw:Io (.Call (.Attribute o "append" apos) [e] [] cpos) none pos.line X.env=pure false:=by rfl) :
  cE X (.Expr (.Call (.Attribute o "append" apos) [e] [] cpos) pos) (Xg i de):=by
 refine PS.impD (aU (sG PySem.F.plainAttrs_list PySem.F.slot_list_append PySem.F.type_list_append Pg ho (Gb he Mm hs) hbase hfew hline hs hplain) hsw) λD σ H h=>?_
 obtain ⟨H0,Y,S,T,δ,P,rfl,hS,hT,hA,hd,k1,k2,k3,k4⟩:=h
 unfold Xg at hd
 split at hd
 case h_2=>exact hd.elim
 rename_i m0 ds0 hsl
 obtain ⟨ent,e2,e3⟩:=Iv hS hsl
 have hm:ent∈S:=Ao e2
 obtain ⟨u,x,F⟩:=ent
 have e3':x=.dat m0 (.list ds0):=e3
 subst e3'
 obtain ⟨v,hv,rd,_⟩:=hA.ok _ (Am _ hm)
 obtain ⟨a,xs,G,rfl,ha,ra,eF,hz⟩:=rd.list_inv
 refine ⟨.ref a,by rw[Ks e2]; exact congrArg some hv,.inl ⟨rfl,xs,Om.of ha⟩,H0,Y,S,T,δ,_,rfl,hS,hA,hd,λy δ1 w F1 S1 H1 e4 e5 hA1 p1=>?_⟩
 unfold appOB at p1
 split at p1
 ·rename_i m ds my e' hsl1
  obtain ⟨p1,p2,p3,p4,p5⟩:=p1
  obtain ⟨b,xs1,g1,g2,g3,S2,h1,h2,h3⟩:=gR e5 hT hA1 hsl1 p1 p3 p2 p4
  rw[e4,Ks e2] at g1
  have : some (V.ref b)=some (V.ref a):=(Bl g1).symm.trans hv
  cases this
  refine ⟨a,xs1,w,rfl,rfl,g2,Bu (by omega) (gC (n:=1000000) (An _)),?_⟩
  rw[<- e4,<- h1]
  exact k1 ⟨_,_⟩ S2 _ h2 h3 p5
 ·exact p1.elim
end
end DL
namespace Nd
open PySem PySem.Spec PyProof.Rows L2
section
variable{X:Cx}
def oN(K:PySem.W.Frag)(J:It)(js:List Nat)(tc:TT)(te:TE)(σ:L2.St)(H1:Hp)(Q:VK):Prop:=∀D,H1 D=none->∃W:Nat->Nat->Hp->Prop,(∃m,W 0 m (upd H1 D (.lst [])))/\∀i m H,W i m H ->
 (J.stop i H/\Q (.ref D) H)\/(J.go i H/\∀x H',J.yld i H x H'->∃(t:Addr) (w1 w2 w3:V),x=.ref t/\Pe K H' t [w1,w2,w3]/\∃(N1:Hp->Prop) (N2:VK),(∀H2,N1 H2->∃m',m'<m/\W (i+1) m' H2) /\
  (∀y H3,N2 y H3->∃acc,H3 D=some (.lst acc)/\acc.length<Be/\∃m',m'<m/\W (i+1) m' (upd H3 D (.lst (acc++[y])))) /\
  tc (some w1::some w2::some w3::Eg σ js) H' λc H2=>if c=true then te (some w1::some w2::some w3::Eg σ js) H2 N2 else N1 H2)
def pK(K:PySem.W.Frag)(wi:TI)(js:List Nat)(tc:TT)(te:TE):TE:=λσ H Q=>wi σ H λJ H1=>oN K J js tc te σ H1 Q
end
end Nd
namespace DL
open PySem PySem.Spec PyProof.Rows L2 Nd
def T9(n:Nat)(gs:pS):DG:=λx δ P=>match x with
 | .dat m (.list ds)=>ds.length=n/\gs (ds.map λd=>.dat (Ly m) d) δ P
 | _=>False
def Qn:D2:=λx y P=>match x,y with
 | .dat m (.list ds),.dat m' (.list es)=>m≠.pk/\m'≠.pk/\ds.length+es.length<=1000000/\P (.dat .tp (.list (ds++es)))
 | _,_=>False
theorem xQ{m:Md}{d:Ad}(h:m≠.pk):Lr (.dat m d)=false:=by cases m <;> first | rfl | exact absurd rfl h
theorem vC{K:PySem.W.Frag}:gE K o4 Qn:=by
 intro H0 X n S T x y v w F G H Q P hA hd k
 unfold Qn at hd
 split at hd
 ·rename_i m ds m' es
  obtain ⟨i1,i2,hz,p⟩:=hd
  obtain ⟨b,ys,G1,rfl,hb,rb,rfl,_⟩:=(hA.told mem_mid).list_inv
  obtain ⟨a,xs,G2,rfl,ha,ra,rfl,_⟩:=(hA.told Em).list_inv
  have l1:=ra.len
  have l2:=rb.len
  refine ⟨a,b,xs,ys,rfl,rfl,ha,hb,gC (by omega),λq hq=>?_⟩
  have s1:=Ep hq (.lst (xs++ys))
  have sy:=Av.mp hA.mid.sep
  have sx:=Av.mp hA.drop.mid.sep
  have nq:∀f∈S++_::_::T,q∉f.F:=hA.free hq
  have n1:q∉G1:=λz=>nq _ mem_mid (Ab _ z)
  have n2:q∉G2:=λz=>nq _ Em (Ab _ z)
  have fr:=hA.drop2.free hq
  refine k _ _ _ _ (((hA.drop2.grow (n':=n) s1 (An _)).push (e:=⟨some (.ref q),.dat .tp (.list (ds++es)),q::(G2++G1)⟩) ⟨_,rfl,.lst Dh (by rw[Ax]; exact gC (by omega)) ((ra.app rb).kp (Kp.of s1)),λz=>(nomatch z),λ_ a l e=>?_⟩ (λf hf=>⟨λ_ c hc z=>?_,λ_ c hc z=>?_⟩) λc hc=>?_).tomid) p
  ·cases e
   exact λz=>(Ay.mp z).elim n2 n1
  ·rw[Aj.mp hc] at z
   exact fr f hf z
  ·rcases Ag.mp z with z | z
   ·rw[z] at hc
    exact fr f hf (Fk _ _ hc)
   ·rcases Ay.mp z with z | z
    ·exact (sx.1 f hf).2 (.inl (xQ i1)) c hc (Ab _ z)
    ·exact (sy.1 f ((Cj S).append (Cu _ T) |>.subset hf)).2 (.inl (xQ i2)) c hc (Ab _ z)
  ·rw[Aj.mp hc]
   exact .inl (hA.new0 hq)
 ·exact hd.elim
theorem aW{X:Cx}{a b:Expr}{da db:DE}{pos:Pos}(ha:Ei X a da)(hb:Ei X b db):Ei X (.BinOp a .Add b pos) (Tq Qn da db):=Rj tG vC ha hb
end DL
namespace Nd
open PySem PySem.Spec PyProof.Rows
end Nd
namespace L2
open PySem PySem.Spec PyProof.Rows
end L2
namespace Nd
open PySem PySem.Spec PyProof.Rows L2
end Nd
namespace DL
open PySem PySem.Spec PyProof.Rows L2 Nd
theorem wL(w:List Int):(pY w).map kV=w.map V.int:=by
 unfold pY
 rw[Co]
 rfl
section
variable{K:PySem.W.Frag}
theorem word_at{H:Hp}{v:V}{w:List Int}{F:List Addr}(r:RdF K H v (Bs w) F):∃b,v=.ref b/\H b=some (.tup ((pY w).map kV)):=by
 obtain ⟨b,xs,rfl,hb,rb,_⟩:=r.tup_inv
 obtain ⟨rfl,_⟩:=rb.ints_inv
 exact ⟨b,rfl,by rw[wL]; exact hb⟩
end
end DL
namespace Nd
open PySem PySem.Spec PyProof.Rows L2
end Nd
namespace DL
open PySem PySem.Spec PyProof.Rows L2 Nd
end DL
namespace Nd
open PySem PySem.Spec PySem.Calls PyProof.Rows PyProof.V L2
end Nd
namespace DL
open PySem PySem.Spec PyProof.Rows L2 Nd
def tS(K:PySem.W.Frag)(pf:PF):Sp:=λus H Q _=>∃(As:List Ent) (n:Nat) (ds:List Ad) (R:Ad->Prop) (C:List Addr),As.map Ent.v=us.map some/\(∀e∈As,Gg K H n e)/\datas (As.map Ent.x)=some ds/\pf ds R/\(∀a∈C,H a≠none/\∀e∈As,a∉e.F) /\
 ∀v d F H',R d->RdF K H' v d F->(∀a∈F,a∉C)->Oh H H'->Q v H'
def retA(R:Ad->Prop):DEnds where
 nx:=λ_=>R .none
 rt:=λx _=>∃m d,x=.dat m d/\m≠.pk/\R d
section
variable{K:PySem.W.Frag}{H0 H H':Hp}{X:Addr->Prop}{n:Nat}{E S T:List Ent}
theorem At.pushS(h:At K H0 X n E H){v:V}{d:Ad}{F:List Addr}(r:RdF K H v d F)(fr:∀f∈E,∀a∈cells f,a∉F):At K H0 X n (⟨some v,.dat .sh d,F⟩::E) H :=
 h.push ⟨v,rfl,r,λz=>(nomatch z),λz=>(nomatch z)⟩ (λf hf=>⟨λ_ a ha=>(nomatch ha),λ_ a ha=>fr f hf a ha⟩) λa ha=>(nomatch ha)
end
section
variable{P:Bp}{w:World}{K:PySem.W.Frag}{mg:Str->Option Value}{base:Heap}
theorem P4{As:List Ent}{k:Nat}:∀e∈As.map Xy++Ha k,∀a∈e.F,∃f∈As,a∈f.F:=λe he a ha=>by
 rcases Ay.mp he with he | he
 ·obtain ⟨f,hf,rfl⟩:=Bv.mp he
  refine ⟨f,hf,?_⟩
  obtain ⟨v,x,F⟩:=f
  cases x <;> exact ha
 ·rw[(Hd.mp he).2] at ha
  exact nomatch ha
theorem Ra{x qual:Str}{st:Stmt}{f:Addr}{fd:Ca}{N ps:List Str}{k:Nat}{pf:PF}{db:DB}(F:Fun K x qual st f fd)(S:FnScope N ps (Bw st))(hb:∀(cdv:Value) (A:Dg) (outer:List Env) (s:Al) (H:Hp) (E:XK),Room k (A.deeper (Og qual (Bw st) s.heap.objs.size f cdv))->Ut (Yc Gh P w K mg base N qual (Bw st) f cdv A outer s H E).nox (Hy st) db)(h:∀ds R,pf ds R->ds.length=ps.length/\db (retA R) ⟨args0 ds (N.length - ps.length),0⟩):FnOk P w K mg base Gh (k+1) f fd ps (tS K pf):=by
 refine F.ok S (λvs H Q E z=>?_) λcdv A outer s H us Q E hr z=>?_
 ·obtain ⟨As,n,ds,R,C,eu,ok,q,hp,_⟩:=z
  have l1:=(h ds R hp).1
  have l2:=Jc q
  rw[Ac] at l2
  have l3:=congrArg Ff eu
  rw[Ac,Ac] at l3
  omega
 ·obtain ⟨As,n,ds,R,C,eu,ok,q,hp,hG,k1⟩:=z
  obtain ⟨l1,hd⟩:=h ds R hp
  have l2:=Jc q
  rw[Ac] at l2
  have l3:=congrArg Ff eu
  rw[Ac,Ac] at l3
  let H0:Hp:=λa=>open Classical in if a∈C then none else H a
  have h0n:∀{a},a∈C->H0 a=none:=λz=>if_pos z
  have h0s:∀{a},a∉C->H0 a=H a:=λz=>if_neg z
  -- what holds at the end
  have ends:∀{E':List Ent} {n':Nat} {H':Hp},At K H0 (λ_=>False) n' (E'++[⟨none,.grd H,C⟩]) H'->Oh H H':=λ{E' n' H'} hA b o e=>by
   by_cases hb:b∈C
   ·obtain ⟨o',g1,g2⟩:=hA.ok _ (Ah _ Aa) b hb
    rw[e] at g1
    cases g1
    exact g2
   ·exact hA.same b o (λz=>z) (by rw[h0s hb]; exact e)
  refine ⟨_,hb cdv A outer s H E hr,H0,λ_=>False,As.map Xy++Ha (N.length - ps.length),[⟨none,.grd H,C⟩],⟨args0 ds (N.length - ps.length),0⟩,retA R,?_,?_,λe z=>?_,?_,hd,λδ' S' H' e1 hA p=>?_,λx δ' v F' S' H' e1 hA p=>?_,λ_ _ _ _ _ p=>p.elim,λ_ _ _ _ _ p=>p.elim⟩
  ·unfold vs L2.start Ha
   rw[Az,zZ,eu,Me,show us.length=ps.length by omega]
  ·unfold Sl args0 Ha
   rw[Az,Rw q,Me]
  ·rw[Aj.mp z]; rfl
  ·have hs:=bH q (N.length - ps.length)
   have hF:=P4 (As:=As) (k:=N.length - ps.length)
   have gF:∀e∈As.map Xy++Ha (N.length - ps.length),∀a∈C,a∉e.F:=λe he a ha z=>by
    obtain ⟨f,hf,zf⟩:=hF e he a z
    exact (hG _ ha).2 f hf zf
   refine ⟨λe he=>?_,Fd.mpr ⟨Ot λa ha b hb'=>⟨λhq c hc=>?_,λhq c hc=>?_⟩,Jo _ _,λa ha b hb'=>⟨λhq c hc=>?_,λhq c hc=>?_⟩⟩,λe he a ha=>?_,λb o _ e=>?_,λb o e=>?_,λb hb=>hb.elim⟩
   ·rcases Ay.mp he with he | he
    ·have:=oY q ok (N.length - ps.length) e he
     obtain ⟨v,x,F⟩:=e
     cases x with
     | drw=>exact absurd (hs _ he).2 (by show ¬ (true=false); decide)
     | _=>exact this
    ·rw[Aj.mp he]
     intro a ha
     have:=(hG _ ha).1
     cases q:H a with
     | none=>exact absurd q this
     | some o=>exact ⟨o,by first | rfl | exact q,by first | rfl | exact q⟩
   ·rw[(hs a ha).1] at hc; cases hc
   ·rw[(hs b hb').1] at hc; cases hc
   ·rw[(hs a ha).1] at hc; cases hc
   ·rw[Aj.mp hb'] at hc
    exact gF a ha c hc
   ·rcases Ay.mp he with he | he
    ·rw[(hs e he).1] at ha; cases ha
    ·rw[Aj.mp he] at ha
     exact .inl (h0n ha)
   ·by_cases hb:b∈C
    ·rw[h0n hb] at e; cases e
    ·rw[h0s hb] at e; exact e
   ·by_cases hb:b∈C
    ·rw[h0n hb] at e; cases e
    ·rw[h0s hb] at e; exact ⟨o,e⟩
  ·exact k1 .non .none [] H' p .non (λ_ z=>(nomatch z)) (ends hA)
  ·obtain ⟨m,d,rfl,hm,r⟩:=p
   obtain ⟨u,e2,rd,_⟩:=hA.ok _ mem_mid
   cases e2
   have hA2:At K H0 (λ_=>False) δ'.n ((S'++[⟨some v,.dat m d,F'⟩])++[⟨none,.grd H,C⟩]) H':=by rw[Dn]; exact hA
   refine k1 v d F' H' r rd (λa ha=>?_) (ends hA2)
   have sp:=(Fd.mp hA2.sep).2.2 _ (Ah _ Aa) _ Aa
   exact λz=>sp.2 (.inr rfl) a z ha
end
def qO(pf:PF)(da:DA):DE:=λδ P=>da δ λxs δ1=>noPk xs=true/\match datas xs with
 | some ds=>pf ds λd=>P (.dat .sh d) δ1
 | none=>False
theorem eJ:∀{As:List Ent},noPk (As.map Ent.x)=true->∀e∈As,Lr e.x=false
 | [],_,e,he=>nomatch he
 | ⟨v,x,F⟩::As,h,e,he=>by
  rw[Au] at h
  have hh:Lr x=false/\noPk (As.map Ent.x)=true:=by
   cases x with
   | dat m d=>cases m <;> first | exact ⟨rfl,h⟩ | (simp [noPk] at h)
   | _=>exact ⟨rfl,by simpa [noPk] using h⟩
  rcases Ag.mp he with rfl | he
  ·exact hh.1
  ·exact eJ hh.2 e he
section
variable{X:Cx}{CX:nJ}{k:Nat}{f:Addr}{fd:Ca}{ps:List Str}{pf:PF}{E:XK}{x:Str}{p pos:Pos}{e:Expr}{es:List Expr}{da:DA}
theorem Pa(F:FnOk X.prog X.w X.K X.mg X.base CX k f fd ps (tS X.K pf))(hr:Room k X.A)(hg:Gl X x)(hm:X.mg x=some (.ref f))(hk:PySem.W.keepIn X.K (.ref f)=true)(hb:Binds X.K fd ps [])(hx:Qq CX X E)(ha:lC X (e::es) da)(hdb:(x == ("__debug__" : Str))=false:=by decide)(he:Bj (e::es) X.env=(false,eval e X.env)::Bj es X.env:=by rfl)(hpl:(Hg pos (Bj es X.env)).any (·.1)=false:=by rfl):Ei X (.Call (.Name x p) (e::es) [] pos) (qO pf da):=by
 refine PE.imp (Vf F hr hg hm hk hb .nil hx ha hdb he hpl) λσ H Q h=>?_
 obtain ⟨H0,Y,S,T,δ,P,rfl,hS,hA,hd,kk⟩:=h
 refine ⟨H0,Y,S,T,δ,_,rfl,hS,hA,hd,λxs δ' As us S' H' e1 e2 ex eu hA' p=>?_⟩
 subst ex
 obtain ⟨np,p⟩:=p
 cases q:datas (As.map Ent.x) with
 | none=>rw[q] at p; exact p.elim
 | some ds =>
  rw[q] at p
  rw[Dc]
  have hAs:=eJ np
  have hE:=hA'.dropL
  refine ⟨As,δ'.n,ds,_,(S'++T).flatMap cells,eu,λe he=>hA'.ok e (Ah _ (Am _ he)),q,p,λa ha=>?_,λv d F H'' r rd fr s=>?_⟩
  ·obtain ⟨g,hg1,hg2⟩:=Da.mp ha
   refine ⟨λz=>?_,λe he=>?_⟩
   ·obtain ⟨o,q⟩:=(hE.ok g hg1).dom a (Fk _ _ hg2)
    rw[z] at q; cases q
   ·obtain ⟨_,hp2,hp⟩ := Fd.mp hA'.sep
    rcases Ay.mp hg1 with hg1 | hg1
    ·exact (hp g hg1 e (Am _ he)).1 (.inl (hAs e he)) a hg2
    ·exact ((Fd.mp hp2).2.2 e he g hg1).2 (.inl (hAs e he)) a hg2
  ·refine kk _ δ' v F S' H'' e1 e2 (((hE.grow s (An _)).pushS rd λf hf a ha z=>fr a z (Da.mpr ⟨f,hf,ha⟩)).tomid) r
end
abbrev PX:=List Ad->(Ad->Prop)->(Addr->Prop)->Prop
end DL
namespace Nd
open PySem PySem.Spec PyProof.Rows L2
end Nd
namespace DL
open PySem PySem.Spec PyProof.Rows L2 Nd
def iT(b:Bool)(di:DI)(js:List Nat)(di2:DI)(de:DE):DE:=λδ P=>di δ λm ds δ1=>∃I:Nat->List Ad->Nat->Prop,I 0 [] δ1.n /\
 (∀i d acc n,ds[i]? = some d->I i acc n->di2 ⟨.dat m d::.un::frD δ1.sl js,n⟩ λm2 es δ2=>∃I2:Nat->List Ad->Nat->Prop,I2 0 acc δ2.n /\
  (∀i2 e acc' n',es[i2]? = some e->I2 i2 acc' n'->acc'.length+1<=Be/\Fl b Lc de ⟨.dat m d::.dat m2 e::frD δ1.sl js,n'⟩ (λz n2=>I2 (i2+1) (acc'++[z]) n2) (λ_=>False)) /\
  ∀acc' n',I2 es.length acc' n'->I (i+1) acc' n') /\
 ∀acc n,I ds.length acc n->P (.dat (Na b) (.list acc)) ⟨δ1.sl,n⟩
theorem wG{v:Option V}{m:Md}{d:Ad}{F:List Addr}(h:m=.sh\/m=.pk):al ⟨v,.dat m d,F⟩=⟨v,.dat m d,F⟩:=by
 rcases h with rfl | rfl <;> rfl
section
variable{K:PySem.W.Frag}
theorem sV{b:Bool}{di di2:DI}{js:List Nat}{de:DE}:∀σ H Q,LE K (iT b di js di2 de) σ H Q->pB (LI K di) js (LI K di2) (LE K de) σ H Q:=by
 intro σ H Q h
 obtain ⟨H0,Y,S,T,δ,P,rfl,hS,hA,hd,k⟩:=h
 refine ⟨H0,Y,S,T,δ,_,rfl,hS,hA,hd,λm ds δ1 J hid S1 H1 e1 e2 hA1 it hz p1=>?_⟩
 obtain ⟨I,h0,hs,hf⟩:=p1
 rw[<- e1]
 intro D hD
 refine ⟨λi q H=>q=ds.length - i/\i<=ds.length/\∃acc n G,(b=true->G=[])/\At K H0 Y n (⟨some (.ref D),.acc acc,D::G⟩::(S1++(hid++T))) H/\I i acc n,⟨ds.length,by simp,Dv _,[],δ1.n,[],λ_=>rfl,hA1.accNew hD,h0⟩,?_⟩
 (intro i q H q_; obtain ⟨rfl,hi,acc,n,G,hG,hA2,hI⟩ := q_)
 have hid_ok:∀e∈hid,Gg K H n e:=λe he=>hA2.ok e (Ab _ (Ah _ (Am _ he)))
 by_cases hlt:i<ds.length
 ·refine .inr ⟨it.go H n i hid_ok hlt,λx H' y o=>?_⟩
  obtain ⟨s1,d,F,h1,h2,h3⟩:=it.yld H n i x H' hid_ok hlt y
  have hA3:At K H0 Y n ((⟨some (.ref D),.acc acc,D::G⟩::S1)++⟨some x,.dat m d,F⟩::(hid++T)) H':=At.item (S:=⟨some (.ref D),.acc acc,D::G⟩::S1) hA2 s1 h2 h3 it.md it.hd it.np
  have hA4:At K H0 Y n (⟨some (.ref D),.acc acc,D::G⟩::⟨some x,.dat m d,F⟩::(S1++(hid++T))) H':=(hA3.mid).perm (Do _ _ _)
  have view:∀{n:Nat} {H:Hp} {e0:Ent} {hid2:List Ent} (o2:Ent),At K H0 Y n (o2::e0::⟨some x,.dat m d,F⟩::(S1++hid2)) H->At K H0 Y n ((⟨some x,.dat m d,F⟩::o2::Zj S1 js)++e0::⟨some x,.dat m d,F⟩::(S1++hid2)) H:=λ{n H e0 hid2} o2 h=>by
   have g1:=At.view (S:=S1) h (λe he=>Ab _ (Ab _ (Ab _ (Am _ he)))) js
   have g2:=g1.view1 (e:=⟨some x,.dat m d,F⟩) (Ah _ (Ab _ (Ab _ Aa)))
   rw[wG it.md] at g2
   refine g2.perm ?_
   rw[Ey,Ey]
   exact (Dl).cons _
  have hS6:∀(o2:Ent) (n:Nat),Sl (⟨some x,.dat m d,F⟩::o2::Zj S1 js) ⟨.dat m d::o2.x::frD δ1.sl js,n⟩:=λo2 n=>by
   unfold Sl
   rw[Au,Au,kF e2]
  have hv:∀(o2:Ent),vs (⟨some x,.dat m d,F⟩::o2::Zj S1 js)=some x::o2.v::Eg (vs S1) js:=λo2=>by
   rw[<- jD]
   rfl
  have hB:=view (hid2:=hid++T) ⟨o,.un,[]⟩ hA4.blank
  refine ⟨H0,Y,_,_,⟨.dat m d::.un::frD δ1.sl js,n⟩,_,hv ⟨o,.un,[]⟩,hS6 ⟨o,.un,[]⟩ n,hB,hs i d acc n h1 hI,λm2 es δ2 J2 hid2 S2 H2 f1 f2 hA5 it2 hz2 p2=>?_⟩
  obtain ⟨I2,g0,gs,gf⟩:=p2
  have hA6:At K H0 Y δ2.n (⟨some (.ref D),.acc acc,D::G⟩::(⟨some x,.dat m d,F⟩::(S1++(hid2++(hid++T))))) H2:=by
   have z:=hA5.sub (Ce S2 _)
   refine z.perm ?_
   refine Dl.trans (Gc _ ?_)
   refine Dl.trans (Gc _ ?_)
   exact List.perm_append_comm_assoc _ _ _
  refine ⟨λi2 q2 H=>q2=es.length - i2/\i2<=es.length/\∃acc n G,(b=true->G=[])/\At K H0 Y n (⟨some (.ref D),.acc acc,D::G⟩::(⟨some x,.dat m d,F⟩::(S1++(hid2++(hid++T))))) H/\I2 i2 acc n,⟨es.length,by simp,Dv _,acc,δ2.n,G,hG,hA6,g0⟩,?_⟩
  (intro i2 q2 H3 q_; obtain ⟨rfl,hi2,acc2,n2,G2,hG2,hA7,hI2⟩ := q_)
  have hid2_ok:∀e∈hid2,Gg K H3 n2 e:=λe he=>hA7.ok e (Ab _ (Ab _ (Ah _ (Am _ he))))
  by_cases hlt2:i2<es.length
  ·refine .inr ⟨it2.go H3 n2 i2 hid2_ok hlt2,λy2 H4 yy=>?_⟩
   obtain ⟨s2,d2,F2,k1,k2,k3⟩:=it2.yld H3 n2 i2 y2 H4 hid2_ok hlt2 yy
   obtain ⟨lz,st⟩:=gs i2 d2 acc2 n2 k1 hI2
   have hA8:At K H0 Y n2 ((⟨some (.ref D),.acc acc2,D::G2⟩::⟨some x,.dat m d,F⟩::S1)++⟨some y2,.dat m2 d2,F2⟩::(hid2++(hid++T))) H4:=At.item (S:=⟨some (.ref D),.acc acc2,D::G2⟩::⟨some x,.dat m d,F⟩::S1) hA7 s2 k2 k3 it2.md it2.hd it2.np
   have hA9:=view (hid2:=hid2++(hid++T)) ⟨some y2,.dat m2 d2,F2⟩ hA8.mid
   have z:=Ry (dc:=Lc) (N1:=λ_=>False) (N2:=λv H5=>∃acc,H5 D=some (.lst acc)/\acc.length<Be/\∃m2',m2'<es.length - i2/\(m2'=es.length - (i2+1)/\i2+1<=es.length/\∃acc3 n G,(b=true->G=[])/\At K H0 Y n (⟨some (.ref D),.acc acc3,D::G⟩::(⟨some x,.dat m d,F⟩::(S1++(hid2++(hid++T))))) (upd H5 D (.lst (acc++[v])))/\I2 (i2+1) acc3 n)) (hS6 ⟨some y2,.dat m2 d2,F2⟩ n2) hG2 hA9 st lz (λ_ _ _ z=>z) (λe n' v H5 G' hG' hA10 p=>?_)
   ·rw[hv] at z
    have w:=Zs (dt:=Rm) _ _ _ z
    unfold Rm at w
    dsimp only at w
    rw[if_pos rfl] at w
    exact w
   ·obtain ⟨xs,l1,l2,l3⟩:=hA10
    exact ⟨xs,l1,by omega,es.length - (i2+1),by omega,rfl,hlt2,acc2++[e],n',G',hG',l3,p⟩
  ·have e:i2=es.length:=by omega
   subst e
   refine .inl ⟨it2.stop H3 n2 hid2_ok,ds.length - (i+1),by omega,rfl,hlt,acc2,n2,G2,hG2,?_,gf acc2 n2 hI2⟩
   refine hA7.sub (List.Sublist.cons₂ _ (List.Sublist.cons _ ?_))
   exact (Cj S1).append (Ce hid2 _)
 ·have e:i=ds.length:=by omega
  subst e
  refine .inl ⟨it.stop H n hid_ok,k _ ⟨δ1.sl,n⟩ _ (D::G) S1 H e1 e2 ?_ (hf acc n hI)⟩
  have hA3:=hA2.accGetG hG
  have hA4:At K H0 Y n (⟨some (.ref D),.dat (Na b) (.list acc),D::G⟩::(S1++T)) H:=hA3.sub (((Cj S1).append (Ce hid T)).cons₂ _)
  exact hA4.tomid
end
section
variable{X:Cx}{elt iter iter2:Expr}{x xb x2 y0:Str}{px pxb px2 pt py pos spos:Pos}{kt:Nat}{scope:Scope}{cl:List (Str×Addr)}{ys:List Str}{js:List Nat}{di di2:DI}{de:DE}
theorem qJ{b:Bool}(C:CompScope X scope cl x ys js)(own2:Sd scope x2)(nd2:(x::x2::ys).Nodup)(hc:X.calm=true)(hi:mP X (.Name x px) iter di)(hi2:∀fp s H,mP (Ct X scope cl (x::x2::ys) fp s H) (.Name x2 px2) iter2 di2)(he:∀fp s H,Ei (Ct X scope cl (x::x2::ys) fp s H) elt de)(hs:∀x,Ci iter X.env x=pure x:=by intro _; rfl)(hs2:∀fp s H v,Ci iter2 (Ct X scope cl (x::x2::ys) fp s H).env v=pure v:=by intro _ _ _ _; rfl):Ei X (.ListComp elt [⟨.Name x px,iter,[],0⟩,⟨.Name x2 px2,iter2,[],0⟩] scope pos) (iT b di js di2 de):=PE.imp (qT C own2 nd2 hc hi hi2 he hs hs2) sV
end
def b0(b:Bool)(de:DE)(pre post:List DV)(acc:List Ad)(fin:List Ad->Nat->Prop)(m2:Md)(es:List Ad)(δ2:DS):Prop:=∃I2:Nat->List Ad->Nat->Prop,I2 0 acc δ2.n /\
 (∀i2 e acc' n',es[i2]? = some e->I2 i2 acc' n'->acc'.length+1<=Be/\Fl b Lc de ⟨pre++.dat m2 e::post,n'⟩ (λz n2=>I2 (i2+1) (acc'++[z]) n2) (λ_=>False)) /\
 ∀acc' n',I2 es.length acc' n'->fin acc' n'
def K0(b:Bool)(js:List Nat)(di2:DI)(de:DE)(P:DV->DS->Prop)(m:Md)(ds:List Ad)(δ1:DS):Prop:=∃I:Nat->List Ad->Nat->Prop,I 0 [] δ1.n /\
 (∀i d acc n,ds[i]? = some d->I i acc n->di2 ⟨.dat m d::.un::frD δ1.sl js,n⟩ (b0 b de [.dat m d] (frD δ1.sl js) acc (I (i+1)))) /\
 ∀acc n,I ds.length acc n->P (.dat (Na b) (.list acc)) ⟨δ1.sl,n⟩
section
variable{b:Bool}{js:List Nat}{di di2:DI}{de:DE}{P:DV->DS->Prop}{δ δ1 δ2:DS}{m m2:Md}{ds es:List Ad}
theorem Q4{β:Type}{l:List β}{g:β->Ad}{pre post:List DV}{acc:List Ad}{fin:List Ad->Nat->Prop}(e:es=l.map g)(f:β->Ad)(hz:acc.length+l.length<=Be)(hs:∀y∈l,∀yes:Ad->Nat->Prop,yes (f y) δ2.n->Fl b Lc de ⟨pre++.dat m2 (g y)::post,δ2.n⟩ yes (λ_=>False))(hf:fin (acc++l.map f) δ2.n):b0 b de pre post acc fin m2 es δ2:=by
 subst e
 refine ⟨λi a n=>a=acc++(l.take i).map f/\n=δ2.n,⟨by simp,rfl⟩,?_,?_⟩
 ·rintro i d _ _ hd ⟨rfl,rfl⟩
  rw[Bf] at hd
  cases hy:l[i]? with
  | none=>rw[hy] at hd; cases hd
  | some y =>
   rw[hy] at hd
   obtain rfl:g y=d:=Bl hd
   have hi:=(Aw.mp hy).1
   refine ⟨?_,hs y (Ao hy) _ ⟨?_,rfl⟩⟩
   ·rw[Ax,Ac,Ds]
    omega
   ·rw[En hy,Az,Dn]
    rfl
 ·rintro _ _ ⟨rfl,rfl⟩
  rw[Ac,Cz]
  exact hf
theorem qG{α β:Type}(r:α->List β){l:List α}{i:Nat}{a:α}(h:l[i]? = some a):((l.take i).flatMap r).length+(r a).length<=(l.flatMap r).length:=by
 have e:l.take (i+1)=l.take i++[a]:=En h
 have : ((l.take (i+1)).flatMap r).length<=(l.flatMap r).length:=by
  conv=>rhs; rw[<- Pu (i+1) l,Iw,Ax]
  omega
 rw[e,Iw,Ax] at this
 simpa using this
theorem P6{α:Type}{l:List α}{g:α->Ad}(e:ds=l.map g)(r:α->List Ad)(hz:(l.flatMap r).length<=Be)(hs:∀a∈l,∀(acc:List Ad) (fin:List Ad->Nat->Prop),acc.length+(r a).length<=Be->fin (acc++r a) δ1.n->di2 ⟨.dat m (g a)::.un::frD δ1.sl js,δ1.n⟩ (b0 b de [.dat m (g a)] (frD δ1.sl js) acc fin))(hP:P (.dat (Na b) (.list (l.flatMap r))) ⟨δ1.sl,δ1.n⟩):K0 b js di2 de P m ds δ1:=by
 subst e
 refine ⟨λi a n=>a=(l.take i).flatMap r/\n=δ1.n,⟨by simp,rfl⟩,?_,?_⟩
 ·rintro i d _ _ hd ⟨rfl,rfl⟩
  rw[Bf] at hd
  cases hy:l[i]? with
  | none=>rw[hy] at hd; cases hd
  | some y =>
   rw[hy] at hd
   obtain rfl:g y=d:=Bl hd
   refine hs y (Ao hy) _ _ (Bk (qG r hy) hz) ⟨?_,rfl⟩
   rw[En hy,Iw]
   simp
 ·rintro _ _ ⟨rfl,rfl⟩
  rw[Ac,Cz]
  exact hP
end
end DL
namespace Nd
open PySem PySem.Spec PyProof.Rows L2
end Nd
namespace Nd
open PySem PySem.Spec
end Nd
namespace Nd
open PySem PySem.Spec PyProof.Rows L2
end Nd
namespace DL
open PySem PySem.Spec PyProof.Rows L2 Nd
end DL
namespace Nd
open PySem PySem.Spec PyProof.Rows L2
end Nd
namespace DL
open PySem PySem.Spec PyProof.Rows L2 Nd
end DL
namespace Nd
open PySem PySem.Spec PyProof.Rows L2
end Nd
namespace DL
open PySem PySem.Spec PyProof.Rows L2 Nd
end DL
namespace Ts
open PySem PyProof.Rows L2
end Ts
namespace DL
open PySem PySem.Spec PyProof.Rows L2 Nd Ts
end DL
namespace DL
open PySem PySem.Spec PyProof.Rows L2 Nd
end DL
namespace Nd
open PySem PySem.Spec PyProof.Rows L2
end Nd
namespace DL
open PySem PySem.Spec PyProof.Rows L2 Nd
end DL
namespace Nd
open PySem PySem.Spec PySem.Calls PyProof.Rows PyProof.V L2 Ts
end Nd
namespace DL
open PySem PySem.Spec PyProof.Rows L2 Nd Ts
theorem tab_no{K:PySem.W.Frag}{x:Str}(nm:PySem.W.nsIn K Ck x=some none):PySem.W.tabIn K x=none:=by
 unfold PySem.W.tabIn
 rw[nm]
end DL
namespace HT
open PySem PyProof.Rows
end HT
namespace Nd
open PySem PySem.Spec PySem.Calls PyProof.Rows PyProof.V L2 Ts
end Nd
namespace DL
open PySem PySem.Spec PyProof.Rows L2 Nd Ts
end DL
namespace DL
open PySem PySem.Spec PyProof.Rows L2 Nd
end DL
namespace DL
open PySem L2 Nd
end DL
namespace Nd
open PySem PySem.Spec PyProof.Rows L2
end Nd
namespace DL
open PySem PySem.Spec PyProof.Rows L2 Nd
def S9(db:DB)(D:DEnds)(I:DS->Prop)(μ:DS->Nat)(δ':DS)(b:Bool)(δ2:DS):Prop:=match b with
 | true=>db { D with nx:=λδ3=>I δ3/\μ δ3<μ δ',ct:=λδ3=>I δ3/\μ δ3<μ δ',bk:=D.nx } δ2
 | false=>D.nx δ2
theorem qQ{dt:DT}{db:DB}{D:DEnds}{δ:DS}(I:DS->Prop)(μ:DS->Nat)(h0:I δ)(h:∀δ',I δ'->dt δ' (S9 db D I μ δ')):sU dt db D δ:=⟨I,μ,h0,h⟩
theorem pV{db:DB}{D:DEnds}{I:DS->Prop}{μ:DS->Nat}{δ' δ2:DS}{b:Bool}(h1:b=true->db { D with nx:=λδ3=>I δ3/\μ δ3<μ δ',ct:=λδ3=>I δ3/\μ δ3<μ δ',bk:=D.nx } δ2)(h2:b=false->D.nx δ2):S9 db D I μ δ' b δ2:=by
 cases b with
 | true=>exact h1 rfl
 | false=>exact h2 rfl
end DL
namespace NdS
open PySem
end NdS
namespace NdS
open PySem PyProof.Rows
end NdS
namespace Nd
open PySem PySem.Spec PyProof.Rows L2 NdS
end Nd
namespace Nd
open PySem L2
end Nd
namespace DL
open PySem PySem.Spec PyProof.Rows L2 Nd
end DL
namespace NdW
open PySem PyProof.Rows NdS
end NdW
namespace Nd
open PySem PySem.Spec PyProof.Rows L2 NdS NdW
end Nd
namespace DL
open PySem PySem.Spec PyProof.Rows L2 Nd
def N3(t u:DB)(D:DEnds)(b:Bool)(δ:DS):Prop:=match b with
 | true=>t D δ
 | false=>u D δ
def A9(x:DV)(δ:DS)(P:DV->DS->Prop):Prop:=match x with
 | .dat _ d=>imm d=true/\P (.dat .ow d) δ
 | _=>False
def K7(i:Nat)(s:Option DV)(δ:DS)(P:DV->DS->Prop):Prop:=match s with
 | some (.dat .pk _)=>False
 | some (.dat _ d)=>P (.dat .sh d) ⟨δ.sl.set i (.dat .sh d),δ.n⟩
 | _=>False
def tupB(xs:List DV)(δ:DS)(P:DV->DS->Prop):Prop:=match datas xs with
 | some ds=>ds.length<=1000/\P (.dat (pkMd .sh xs) (.tuple ds)) δ
 | none=>False
def lstB(xs:List DV)(δ:DS)(P:DV->DS->Prop):Prop:=match datas xs with
 | some ds=>ds.length<=1000/\P (.dat (pkMd .tp xs) (.list ds)) δ
 | none=>False
def xH(x:DV)(δ:DS)(P:Option Int->DS->Prop):Prop:=match x with
 | .dat _ (.int i)=>P (some i) δ
 | _=>False
def T4(i:Bool)(x:DV)(l h:Option Int)(δ:DS)(P:DV->DS->Prop):Prop:=match x with
 | .dat m (.list ds)=>Pz i m (Hx ds l h) λz=>P z δ
 | .dat m (.tuple ds)=>aB i m (Hx ds l h) λz=>P z δ
 | _=>False
def W3(xs:List DV)(δ:DS)(P:DV->DS->Prop):Prop:=match xs with
 | [.dat _ (.list ds)]=>∃ns:List Int,ds=ns.map Ba/\(∀x∈ns,0<=x/\x<60)/\P (.dat .ow (.list ((Nx ns).map Ba))) δ
 | [.dat _ (.tuple ds)]=>∃ns:List Int,ds=ns.map Ba/\(∀x∈ns,0<=x/\x<60)/\P (.dat .ow (.list ((Nx ns).map Ba))) δ
 | _=>False
def bB(x:DV)(δ:DS)(P:Bool->DS->Prop):Prop:=match x with
 | .dat _ (.bool b)=>P b δ
 | _=>False
def eR(du:DT)(b:Bool)(δ:DS)(P:Bool->DS->Prop):Prop:=match b with
 | true=>du δ P
 | false=>P false δ
def Q1(du:DT)(b:Bool)(δ:DS)(P:Bool->DS->Prop):Prop:=match b with
 | true=>P true δ
 | false=>du δ P
def K9(x:DV)(δ:DS)(P:DV->DS->Prop):Prop:=match x with
 | .dat _ (.bool b)=>P (.dat .ow (.bool (!b))) δ
 | _=>False
def J4(db:DE)(x:DV)(δ:DS)(P:DV->DS->Prop):Prop:=match x with
 | .dat _ (.bool true)=>db δ P
 | .dat _ (.bool false)=>P (.dat .ow (.bool false)) δ
 | _=>False
def J9(x:DV)(δ:DS)(P:DV->DS->Prop):Prop:=match x with
 | .dat _ (.int i)=>P (.dat .ow (.int (-i))) δ
 | _=>False
def lB(x:DV)(δ:DS)(P:Md->List Ad->DS->Prop):Prop:=match x with
 | .dat m (.list ds)=>P (Il m) ds δ
 | _=>False
def U1(x:DV)(δ:DS)(P:Md->List Ad->DS->Prop):Prop:=match x with
 | .dat m (.tuple ds)=>P (Il m) ds δ
 | _=>False
def xB(xs:List DV)(δ:DS)(P:Md->List Ad->DS->Prop):Prop:=match xs with
 | [.dat _ (.int j)]=>-1000000<=j/\j<=1000000/\P .sh ((Bi j.toNat).map λi:Nat=>.int i) δ
 | _=>False
def yF(xs:List DV)(δ:DS)(P:Md->List Ad->DS->Prop):Prop:=match xs with
 | [.dat m (.list ds)]=>P (Il m) (ds.zipIdx.map λp=>.tuple [.int p.2,p.1]) δ
 | _=>False
def E4(xs:List DV)(δ:DS)(P:Md->List Ad->DS->Prop):Prop:=match xs with
 | [.dat m (.list ds),.dat m' (.list es)]=>P (mdZip m m') ((ds.zip es).map λp=>.tuple [p.1,p.2]) δ
 | _=>False
def B4(dg:DG)(db:DB)(D:DEnds)(m:Md)(ds:List Ad)(δ1:DS):Prop:=m=.sh/\∃I:Nat->DS->Prop,I 0 δ1 /\
 (∀i d δ',ds[i]? = some d->I i δ'->dg (.dat .sh d) δ' λδ2=>db { D with nx:=I (i+1),ct:=I (i+1),bk:=D.nx } δ2)/\∀δ',I ds.length δ'->D.nx δ'
def qR(js:List Nat)(dc:DT)(de:DE)(P:DV->DS->Prop)(m:Md)(ds:List Ad)(δ1:DS):Prop:=∃I:Nat->List Ad->Nat->Prop,I 0 [] δ1.n /\
 (∀i d acc n,ds[i]? = some d->I i acc n->Nb dc de ⟨.dat m d::frD δ1.sl js,n⟩ (λe n'=>I (i+1) (acc++[e]) n') (λn'=>I (i+1) acc n')) /\
 ∀acc n,I ds.length acc n->P (.dat .ow (.list acc)) ⟨δ1.sl,n⟩
def rW(js:List Nat)(dc:DT)(de:DE)(P:DV->DS->Prop)(m:Md)(ds:List Ad)(δ1:DS):Prop:=∃I:Nat->List Ad->Nat->Prop,I 0 [] δ1.n /\
 (∀i d acc n,ds[i]? = some d->I i acc n->∃d1 d2,d=.tuple [d1,d2]/\Nb dc de ⟨.dat m d1::.dat m d2::frD δ1.sl js,n⟩ (λe n'=>I (i+1) (acc++[e]) n') (λn'=>I (i+1) acc n')) /\
 ∀acc n,I ds.length acc n->P (.dat .ow (.list acc)) ⟨δ1.sl,n⟩
def gL(js:List Nat)(dc:DT)(de:DE)(P:DV->DS->Prop)(m:Md)(ds:List Ad)(δ1:DS):Prop:=∃I:Nat->List Ad->Nat->Prop,I 0 [] δ1.n /\
 (∀i d acc n,ds[i]? = some d->I i acc n->Fl false dc de ⟨.dat m d::frD δ1.sl js,n⟩ (λe n'=>I (i+1) (acc++[e]) n') (λn'=>I (i+1) acc n')) /\
 ∀acc n,I ds.length acc n->P (.dat .tp (.list acc)) ⟨δ1.sl,n⟩
def vN(yes:Ad->Nat->Prop)(y:DV)(δ:DS):Prop:=match y with
 | .dat _ e=>imm e=true/\yes e δ.n
 | _=>False
def oX(de:DE)(yes:Ad->Nat->Prop)(no:Nat->Prop)(b:Bool)(δ:DS):Prop:=match b with
 | true=>de δ λy δ3=>vN yes y δ3
 | false=>no δ.n
def jF(yes:Ad->Nat->Prop)(y:DV)(δ:DS):Prop:=match y with
 | .dat m e=>m≠.pk/\yes e δ.n
 | _=>False
def qX(de:DE)(yes:Ad->Nat->Prop)(no:Nat->Prop)(b:Bool)(δ:DS):Prop:=match b with
 | true=>de δ λy δ3=>jF yes y δ3
 | false=>no δ.n
def callB(pf:PF)(xs:List DV)(δ:DS)(P:DV->DS->Prop):Prop:=match datas xs with
 | some ds=>pf ds λd=>P (.dat .ow d) δ
 | none=>False
def callBW(i:Nat)(df:DF)(xs:List DV)(δ:DS)(P:DV->DS->Prop):Prop:=match δ.sl[i]? with
 | some .drw=>match datas xs with
  | some ds=>df ds δ.n λd n'=>P (.dat .ow d) ⟨δ.sl,n'⟩
  | none=>False
 | _=>False
def rK(xs:List DV)(δ:DS)(P:DV->DS->Prop):Prop:=match xs with
 | [.dat _ (.int _)]=>P .drw δ
 | _=>False
def appB(i:Nat)(y:DV)(δ:DS)(D:DEnds):Prop:=match δ.sl[i]?,y with
 | some (.dat m (.list ds)),.dat _ e=>own1 m=true/\npk δ.sl=true/\imm e=true/\ds.length<1000000/\D.nx ⟨δ.sl.set i (.dat m (.list (ds++[e]))),δ.n⟩
 | _,_=>False
def C0(i:Nat)(z:DV)(δ:DS)(D:DEnds):Prop:=match z with
 | .dat _ d=>imm d=true/\D.nx ⟨δ.sl.set i (.dat .sh d),δ.n⟩
 | _=>False
def callAB(pf:PF)(xs:List DV)(δ:DS)(P:DV->DS->Prop):Prop:=match datas xs with
 | some ds=>pf ds λd=>P (.dat .sh d) δ
 | none=>False
theorem e_seq{t u:DB}{D:DEnds}{δ:DS}:F9 t u D δ=(t { D with nx:=λδ'=>u D δ' } δ):=rfl
theorem e_skip{D:DEnds}{δ:DS}:xO D δ=(D.nx δ):=rfl
theorem e_ret{de:DE}{D:DEnds}{δ:DS}:K6 de D δ=(de δ D.rt):=rfl
theorem e_if{dt:DT}{t u:DB}{D:DEnds}{δ:DS}:T8 dt t u D δ=(dt δ (N3 t u D)):=rfl
theorem e_asg{de:DE}{dg:DG}{D:DEnds}{δ:DS}:dI de dg D δ=(de δ λx δ'=>dg x δ' D.nx):=rfl
theorem e_name{i:Nat}{m:Md}{d:Ad}{δ:DS}{Q:DS->Prop}:Mp i (.dat .ow d) δ Q=(Q ⟨δ.sl.set i (.dat .sh d),δ.n⟩):=rfl
theorem e_name2{i:Nat}{m:Md}{d:Ad}{δ:DS}{Q:DS->Prop}:Mp i (.dat .sh d) δ Q=(Q ⟨δ.sl.set i (.dat .sh d),δ.n⟩):=rfl
theorem e_name3{i:Nat}{m:Md}{d:Ad}{δ:DS}{Q:DS->Prop}:Mp i (.dat .tp d) δ Q=(Q ⟨δ.sl.set i (.dat .sh d),δ.n⟩):=rfl
theorem e_name4{i:Nat}{δ:DS}{Q:DS->Prop}:Mp i .drw δ Q=(Q ⟨δ.sl.set i .drw,δ.n⟩):=rfl
theorem e_own{i:Nat}{d:Ad}{δ:DS}{Q:DS->Prop}:fG i (.dat .ow d) δ Q=(Q ⟨δ.sl.set i (.dat .ow d),δ.n⟩):=rfl
theorem e_nF{i:Nat}{x:DV}{δ:DS}{Q:DS->Prop}:M6 false i x δ Q=(Mp i x δ Q):=rfl
theorem e_gtup{n:Nat}{gs:pS}{m:Md}{ds:List Ad}{δ:DS}{Q:DS->Prop}:rD n gs (.dat m (.tuple ds)) δ Q=(ds.length=n/\gs (ds.map λd=>.dat (Ly m) d) δ Q):=rfl
theorem e_gsn{δ:DS}{Q:DS->Prop}:rZ [] δ Q=(Q δ):=rfl
theorem e_gsc{g:DG}{gs:pS}{x:DV}{r:List DV}{δ:DS}{Q:DS->Prop}:jE g gs (x::r) δ Q=(g x δ λδ'=>gs r δ' Q):=rfl
theorem e_op{rd:D2}{da db:DE}{δ:DS}{P:DV->DS->Prop}:Tq rd da db δ P=(da δ λx δ1=>db δ1 λy δ2=>rd x y λz=>P z δ2):=rfl
theorem e_var{i:Nat}{δ:DS}{P:DV->DS->Prop}:j5 i δ P=(match δ.sl[i]? with | some (.dat m d)=>P (.dat (eN m) d) δ | _=>False):=rfl
theorem e_c{d:Ad}{δ:DS}{P:DV->DS->Prop}:dC d δ P=(P (.dat .ow d) δ):=rfl
theorem e_imm{de:DE}{δ:DS}{P:DV->DS->Prop}:E5 de δ P=(de δ λx δ'=>A9 x δ' P):=rfl
theorem e_immB{m:Md}{d:Ad}{δ:DS}{P:DV->DS->Prop}:A9 (.dat m d) δ P=(imm d=true/\P (.dat .ow d) δ):=rfl
theorem e_take{i:Nat}{δ:DS}{P:DV->DS->Prop}:sT i δ P=(match δ.sl[i]? with | some (.dat m d)=>P (.dat m d) ⟨δ.sl.set i .un,δ.n⟩ | _=>False):=rfl
theorem e_frz{i:Nat}{δ:DS}{P:DV->DS->Prop}:bN i δ P=(K7 i (δ.sl[i]?) δ P):=rfl
theorem e_frzo{i:Nat}{d:Ad}{δ:DS}{P:DV->DS->Prop}:K7 i (some (.dat .ow d)) δ P=(P (.dat .sh d) ⟨δ.sl.set i (.dat .sh d),δ.n⟩):=rfl
theorem e_I{C:Int->Int->Prop}{g:Int->Int->Ad}{i j:Int}{m m':Md}{P:DV->Prop}:A3 C g (.dat m (.int i)) (.dat m' (.int j)) P=(C i j/\P (.dat .ow (g i j))):=rfl
theorem e_I0{g:Int->Int->Ad}{i j:Int}{m m':Md}{P:DV->Prop}:Xw g (.dat m (.int i)) (.dat m' (.int j)) P=(P (.dat .ow (g i j))):=rfl
theorem e_eqF{d e:Ad}{m m':Md}{P:DV->Prop}:Yb false (.dat m d) (.dat m' e) P=(d.depth<=60/\e.depth<=60/\P (.dat .ow (.bool (Df d e)))):=rfl
theorem e_eqT{d e:Ad}{m m':Md}{P:DV->Prop}:Yb true (.dat m d) (.dat m' e) P=(d.depth<=60/\e.depth<=60/\P (.dat .ow (.bool (!Df d e)))):=rfl
theorem e_inFl{d:Ad}{es:List Ad}{m m':Md}{P:DV->Prop}:fM false (.dat m d) (.dat m' (.list es)) P=(Bg es<=60/\d.depth<=60/\P (.dat .ow (.bool (es.any λe=>Df e d)))):=rfl
theorem e_inTl{d:Ad}{es:List Ad}{m m':Md}{P:DV->Prop}:fM true (.dat m d) (.dat m' (.list es)) P=(Bg es<=60/\d.depth<=60/\P (.dat .ow (.bool (!(es.any λe=>Df e d))))):=rfl
theorem e_inFt_w1{nes:List Int}{d:Ad}{es:List Ad}{m m':Md}{P:DV->Prop}:fM false (.dat m d) (.dat m' (Bs nes)) P=(Bg (nes.map Ba)<=60/\d.depth<=60/\P (.dat .ow (.bool ((nes.map Ba).any λe=>Df e d)))):=rfl
theorem e_isNF{d:Ad}{m m':Md}{P:DV->Prop}:lG false (.dat m d) (.dat m' .none) P=(P (.dat .ow (.bool (isNone d)))):=rfl
theorem e_ixl{ds:List Ad}{i:Int}{m m':Md}{P:DV->Prop}:rR (.dat m (.list ds)) (.dat m' (.int i)) P=(∃d,Qp ds i=some d/\P (.dat (Ly m) d)):=rfl
theorem e_ixt{ds:List Ad}{i:Int}{m m':Md}{P:DV->Prop}:rR (.dat m (.tuple ds)) (.dat m' (.int i)) P=(∃d,Qp ds i=some d/\P (.dat (Ly m) d)):=rfl
theorem e_cat{ds es:List Ad}{m m':Md}{P:DV->Prop}:kG (.dat m (.list ds)) (.dat m' (.list es)) P=(Dk ds=true/\Dk es=true/\ds.length+es.length<=1000000/\P (.dat .ow (.list (ds++es)))):=rfl
theorem e_catT_w1{nds:List Int}{ds es:List Ad}{m m':Md}{P:DV->Prop}:bA (.dat m (Bs nds)) (.dat m' (.tuple es)) P=(Dk (nds.map Ba)=true/\Dk es=true/\(nds.map Ba).length+es.length<=1000000/\P (.dat .ow (.tuple ((nds.map Ba)++es)))):=rfl
theorem e_catS{i j:Str}{m m':Md}{P:DV->Prop}:bS (.dat m (.str i)) (.dat m' (.str j)) P=(i.length+j.length<=1000000/\P (.dat .ow (.str (i++j)))):=rfl
theorem e_nlT{m:Md}{ds:List Ad}{P:DV->Prop}:Pz true m ds P=(Dk ds=true/\P (.dat .ow (.list ds))):=rfl
theorem e_nlF{m:Md}{ds:List Ad}{P:DV->Prop}:Pz false m ds P=(P (.dat (Xi m) (.list ds))):=rfl
theorem e_ntT{m:Md}{ds:List Ad}{P:DV->Prop}:aB true m ds P=(Dk ds=true/\P (.dat .ow (.tuple ds))):=rfl
theorem e_pkOfsh  : eN .sh=(Md.sh):=rfl
theorem e_pkOfow  : eN .ow=(Md.pk):=rfl
theorem e_mdInsh  : Ly .sh=(Md.sh):=rfl
theorem e_mdInow  : Ly .ow=(Md.ow):=rfl
theorem e_mdNewsh  : Xi .sh=(Md.tp):=rfl
theorem e_mdNewow  : Xi .ow=(Md.ow):=rfl
theorem e_mdItpk  : Il .pk=(Md.pk):=rfl
theorem e_mdItsh  : Il .sh=(Md.sh):=rfl
theorem e_mdIttp  : Il .tp=(Md.sh):=rfl
theorem e_mdItow  : Il .ow=(Md.sh):=rfl
theorem e_nil{δ:DS}{P:List DV->DS->Prop}:J6 δ P=(P [] δ):=rfl
theorem e_cons{de:DE}{da:DA}{δ:DS}{P:List DV->DS->Prop}:wW de da δ P=(de δ λx δ1=>da δ1 λxs δ2=>P (x::xs) δ2):=rfl
theorem e_tup{da:DA}{δ:DS}{P:DV->DS->Prop}:B8 da δ P=(da δ λxs δ'=>tupB xs δ' P):=rfl
theorem e_lst{da:DA}{δ:DS}{P:DV->DS->Prop}:B7 da δ P=(da δ λxs δ'=>lstB xs δ' P):=rfl
theorem e_noPart{δ:DS}{P:Option Int->DS->Prop}:jQ δ P=(P none δ):=rfl
theorem e_part{de:DE}{δ:DS}{P:Option Int->DS->Prop}:xE de δ P=(de δ λx δ'=>xH x δ' P):=rfl
theorem e_partB{m:Md}{i:Int}{δ:DS}{P:Option Int->DS->Prop}:xH (.dat m (.int i)) δ P=(P (some i) δ):=rfl
theorem e_sl{i:Bool}{de:DE}{dl dh:DO}{δ:DS}{P:DV->DS->Prop}:T1 i de dl dh δ P=(de δ λx δ1=>dl δ1 λl δ2=>dh δ2 λh δ3=>T4 i x l h δ3 P):=rfl
theorem e_slBl{i:Bool}{m:Md}{ds:List Ad}{l h:Option Int}{δ:DS}{P:DV->DS->Prop}:T4 i (.dat m (.list ds)) l h δ P=(Pz i m (Hx ds l h) λz=>P z δ):=rfl
theorem e_cb{rd:DC}{da:DA}{δ:DS}{P:DV->DS->Prop}:N4 rd da δ P=(da δ λxs δ1=>rd xs λz=>P z δ1):=rfl
theorem e_lenl{ds:List Ad}{m m':Md}{P:DV->Prop}:jR [.dat m (.list ds)] P=(P (.dat .ow (.int ds.length))):=rfl
theorem e_lent_w1{nds:List Int}{ds:List Ad}{m m':Md}{P:DV->Prop}:jR [.dat m (Bs nds)] P=(P (.dat .ow (.int (nds.map Ba).length))):=rfl
theorem e_listl{i:Bool}{ds:List Ad}{m m':Md}{P:DV->Prop}:cB i [.dat m (.list ds)] P=(Pz i m ds P):=rfl
theorem e_listt_w1{nds:List Int}{i:Bool}{ds:List Ad}{m m':Md}{P:DV->Prop}:cB i [.dat m (Bs nds)] P=(Pz i m (nds.map Ba) P):=rfl
theorem e_tuplel{i:Bool}{ds:List Ad}{m m':Md}{P:DV->Prop}:bW i [.dat m (.list ds)] P=(aB i m ds P):=rfl
theorem e_intb{i:Bool}{m m':Md}{P:DV->Prop}:rP [.dat m (.bool i)] P=(P (.dat .ow (.int (if i=true then 1 else 0)))):=rfl
theorem e_min2{i j:Int}{m m':Md}{P:DV->Prop}:iK [.dat m (.int i),.dat m' (.int j)] P=(P (.dat .ow (.int (if j<i then j else i)))):=rfl
theorem e_all{ds:List Ad}{m m':Md}{P:DV->Prop}:oJ [.dat m (.list ds)] P=(∃bs:List Bool,ds=bs.map PyData.bool/\P (.dat .ow (.bool (bs.all id)))):=rfl
theorem e_sortI{ds:List Ad}{m m':Md}{P:DV->Prop}:bI [.dat m (.list ds)] P=(∃ns:List Int,ds=ns.map Ba/\ns.length<64/\P (.dat .ow (.list ((Zv ns).map Ba)))):=rfl
theorem e_isi{d:Ad}{n:String}{m m':Md}{P:DV->Prop}:rY [.dat m d,.val (.ty n)] P=((n = "int" \/ n = "bool" \/ n = "str" \/ n = "list" \/ n = "tuple")/\P (.dat .ow (.bool (dU d n)))):=rfl
theorem e_v{v:V}{δ:DS}{P:DV->DS->Prop}:dV v δ P=(P (.val v) δ):=rfl
theorem e_b{de:DE}{δ:DS}{P:Bool->DS->Prop}:dB de δ P=(de δ λx δ'=>bB x δ' P):=rfl
theorem e_bB{m:Md}{b:Bool}{δ:DS}{P:Bool->DS->Prop}:bB (.dat m (.bool b)) δ P=(P b δ):=rfl
theorem e_notT{dt:DT}{δ:DS}{P:Bool->DS->Prop}:wX dt δ P=(dt δ λb δ'=>P (!b) δ'):=rfl
theorem e_andT{dt du:DT}{δ:DS}{P:Bool->DS->Prop}:xP dt du δ P=(dt δ λb δ'=>eR du b δ' P):=rfl
theorem e_andTt{du:DT}{δ:DS}{P:Bool->DS->Prop}:eR du true δ P=(du δ P):=rfl
theorem e_andTf{du:DT}{δ:DS}{P:Bool->DS->Prop}:eR du false δ P=(P false δ):=rfl
theorem e_orT{dt du:DT}{δ:DS}{P:Bool->DS->Prop}:G6 dt du δ P=(dt δ λb δ'=>Q1 du b δ' P):=rfl
theorem e_orTf{du:DT}{δ:DS}{P:Bool->DS->Prop}:Q1 du false δ P=(du δ P):=rfl
theorem e_not{de:DE}{δ:DS}{P:DV->DS->Prop}:C7 de δ P=(de δ λx δ'=>K9 x δ' P):=rfl
theorem e_notB{m:Md}{b:Bool}{δ:DS}{P:DV->DS->Prop}:K9 (.dat m (.bool b)) δ P=(P (.dat .ow (.bool (!b))) δ):=rfl
theorem e_and{da db:DE}{δ:DS}{P:DV->DS->Prop}:B5 da db δ P=(da δ λx δ'=>J4 db x δ' P):=rfl
theorem e_andt{db:DE}{m:Md}{δ:DS}{P:DV->DS->Prop}:J4 db (.dat m (.bool true)) δ P=(db δ P):=rfl
theorem e_neg{de:DE}{δ:DS}{P:DV->DS->Prop}:G7 de δ P=(de δ λx δ'=>J9 x δ' P):=rfl
theorem e_negB{m:Md}{i:Int}{δ:DS}{P:DV->DS->Prop}:J9 (.dat m (.int i)) δ P=(P (.dat .ow (.int (-i))) δ):=rfl
theorem e_dL{de:DE}{δ:DS}{P:Md->List Ad->DS->Prop}:dL de δ P=(de δ λx δ'=>lB x δ' P):=rfl
theorem e_dTp{de:DE}{δ:DS}{P:Md->List Ad->DS->Prop}:U0 de δ P=(de δ λx δ'=>U1 x δ' P):=rfl
theorem e_lB{m:Md}{ds:List Ad}{δ:DS}{P:Md->List Ad->DS->Prop}:lB (.dat m (.list ds)) δ P=(P (Il m) ds δ):=rfl
theorem e_tpB_w1{nds:List Int}{m:Md}{ds:List Ad}{δ:DS}{P:Md->List Ad->DS->Prop}:U1 (.dat m (Bs nds)) δ P=(P (Il m) (nds.map Ba) δ):=rfl
theorem e_range1{da:DA}{δ:DS}{P:Md->List Ad->DS->Prop}:eQ da δ P=(da δ λxs δ'=>xB xs δ' P):=rfl
theorem e_rng1B{m:Md}{j:Int}{δ:DS}{P:Md->List Ad->DS->Prop}:xB [.dat m (.int j)] δ P=(-1000000<=j/\j<=1000000/\P .sh ((Bi j.toNat).map λi:Nat=>.int i) δ):=rfl
theorem e_enum{da:DA}{δ:DS}{P:Md->List Ad->DS->Prop}:tM da δ P=(da δ λxs δ'=>yF xs δ' P):=rfl
theorem e_enumB{m:Md}{ds:List Ad}{δ:DS}{P:Md->List Ad->DS->Prop}:yF [.dat m (.list ds)] δ P=(P (Il m) (ds.zipIdx.map λp=>.tuple [.int p.2,p.1]) δ):=rfl
theorem e_zip{da:DA}{δ:DS}{P:Md->List Ad->DS->Prop}:yE da δ P=(da δ λxs δ'=>E4 xs δ' P):=rfl
theorem e_zipB{m m':Md}{ds es:List Ad}{δ:DS}{P:Md->List Ad->DS->Prop}:E4 [.dat m (.list ds),.dat m' (.list es)] δ P=(P (mdZip m m') ((ds.zip es).map λp=>.tuple [p.1,p.2]) δ):=rfl
theorem e_for{di:DI}{dg:DG}{db:DB}{D:DEnds}{δ:DS}:D0 di dg db D δ=(di δ (B4 dg db D)):=rfl
theorem e_comp{di:DI}{js:List Nat}{dc:DT}{de:DE}{δ:DS}{P:DV->DS->Prop}:rB di js dc de δ P=(di δ (qR js dc de P)):=rfl
theorem e_comp2{di:DI}{js:List Nat}{dc:DT}{de:DE}{δ:DS}{P:DV->DS->Prop}:oK di js dc de δ P=(di δ (rW js dc de P)):=rfl
theorem e_compL{di:DI}{js:List Nat}{dc:DT}{de:DE}{δ:DS}{P:DV->DS->Prop}:qW di js dc de δ P=(di δ (gL js dc de P)):=rfl
theorem e_stepL{dc:DT}{de:DE}{δ:DS}{yes:Ad->Nat->Prop}{no:Nat->Prop}:Fl false dc de δ yes no=(dc δ λb δ2=>qX de yes no b δ2):=rfl
theorem e_stepLT{de:DE}{δ:DS}{yes:Ad->Nat->Prop}{no:Nat->Prop}:qX de yes no true δ=(de δ λy δ3=>jF yes y δ3):=rfl
theorem e_noTest{δ:DS}{P:Bool->DS->Prop}:Lc δ P=(P true δ):=rfl
theorem e_step{dc:DT}{de:DE}{δ:DS}{yes:Ad->Nat->Prop}{no:Nat->Prop}:Nb dc de δ yes no=(dc δ λb δ2=>oX de yes no b δ2):=rfl
theorem e_stepT{de:DE}{δ:DS}{yes:Ad->Nat->Prop}{no:Nat->Prop}:oX de yes no true δ=(de δ λy δ3=>vN yes y δ3):=rfl
theorem e_yesB{m:Md}{e:Ad}{δ:DS}{yes:Ad->Nat->Prop}:vN yes (.dat m e) δ=(imm e=true/\yes e δ.n):=rfl
theorem e_call{pf:PF}{da:DA}{δ:DS}{P:DV->DS->Prop}:xX pf da δ P=(da δ λxs δ1=>callB pf xs δ1 P):=rfl
theorem e_callW{i:Nat}{df:DF}{da:DA}{δ:DS}{P:DV->DS->Prop}:iU i df da δ P=(match δ.sl[i]? with | some .drw=>da δ λxs δ1=>callBW i df xs δ1 P | _=>False):=rfl
theorem e_draws{da:DA}{δ:DS}{P:DV->DS->Prop}:oO da δ P=(da δ λxs δ1=>rK xs δ1 P):=rfl
theorem e_drawsB{m:Md}{i:Int}{δ:DS}{P:DV->DS->Prop}:rK [.dat m (.int i)] δ P=(P .drw δ):=rfl
theorem e_append{i:Nat}{de:DE}{D:DEnds}{δ:DS}:bO i de D δ=(match δ.sl[i]? with | some (.dat _ (.list _))=>de δ λy δ1=>appB i y δ1 D | _=>False):=rfl
theorem e_insert{i:Nat}{dk de:DE}{D:DEnds}{δ:DS}:bP i dk de D δ=(match δ.sl[i]? with | some (.dat _ (.list _))=>dk δ λz δ1=>de δ1 λy δ2=>insB i z y δ2 D | _=>False):=rfl
theorem e_appendO{i:Nat}{de:DE}{D:DEnds}{δ:DS}:Xg i de D δ=(match δ.sl[i]? with | some (.dat _ (.list _))=>de δ λy δ1=>appOB i y δ1 D | _=>False):=rfl
theorem e_aug{i:Nat}{rd:D2}{de:DE}{D:DEnds}{δ:DS}:vH i rd de D δ=(match δ.sl[i]? with | some (.dat _ (.int a))=>de δ λy δ1=>rd (.dat .ow (.int a)) y λz=>C0 i z δ1 D | _=>False):=rfl
theorem e_augB{i:Nat}{m:Md}{d:Ad}{D:DEnds}{δ:DS}:C0 i (.dat m d) δ D=(imm d=true/\D.nx ⟨δ.sl.set i (.dat .sh d),δ.n⟩):=rfl
theorem e_scrSl{i:Nat}{dl dh:DO}{δ:DS}{P:DV->DS->Prop}:gG i dl dh δ P=(match δ.sl[i]? with | some (.scr ns)=>dl δ λl δ2=>dh δ2 λh δ3=>P (.dat .ow (.list ((Hx ns l h).map Ba))) δ3 | _=>False):=rfl
theorem e_compN{b:Bool}{di di2:DI}{js:List Nat}{de:DE}{δ:DS}{P:DV->DS->Prop}:iT b di js di2 de δ P=(di δ λm ds δ1=>K0 b js di2 de P m ds δ1):=rfl
theorem e_callA{pf:PF}{da:DA}{δ:DS}{P:DV->DS->Prop}:qO pf da δ P=(da δ λxs δ1=>noPk xs=true/\callAB pf xs δ1 P):=rfl
section
variable{t u:DB}{D:DEnds}{δ δ1:DS}
theorem Mx{α:Type}{dg:DG}{db:DB}{ds:List Ad}{l:List α}{g:α->Ad}(e:ds=l.map g)(I:Nat->DS->Prop)(h0:I 0 δ1)(hs:∀i a δ',l[i]? = some a->I i δ'->dg (.dat .sh (g a)) δ' λδ2=>db { D with nx:=I (i+1),ct:=I (i+1),bk:=D.nx } δ2)(hf:∀δ',I l.length δ'->D.nx δ'):B4 dg db D .sh ds δ1:=by
 subst e
 refine ⟨rfl,I,h0,λi d δ' hd hI=>?_,λδ' h=>hf δ' (by rw[Ac] at h; exact h)⟩
 rw[Bf] at hd
 cases q:l[i]? with
 | none=>rw[q] at hd; cases hd
 | some a=>rw[q] at hd; cases hd; exact hs i a δ' q hI
end
section
variable{js:List Nat}{dc:DT}{de:DE}{P:DV->DS->Prop}{m:Md}{ds:List Ad}{δ1:DS}{α:Type}
theorem wV{l:List α}{g:α->Ad}(e:ds=l.map g)(p:α->Bool)(f:α->Ad)(h:∀a∈l,∀(yes:Ad->Nat->Prop) (no:Nat->Prop),(p a=true->yes (f a) δ1.n)->(p a=false->no δ1.n)->Nb dc de ⟨.dat m (g a)::frD δ1.sl js,δ1.n⟩ yes no)(q:P (.dat .ow (.list ((l.filter p).map f))) δ1):qR js dc de P m ds δ1:=by
 subst e
 refine ⟨λi acc n=>n=δ1.n/\acc=((l.take i).filter p).map f,⟨rfl,by simp⟩,λi d acc n hd ⟨hn,ha⟩=>?_,λacc n ⟨hn,ha⟩=>?_⟩
 ·subst hn ha
  rw[Bf] at hd
  cases q:l[i]? with
  | none=>rw[q] at hd; cases hd
  | some a =>
   rw[q] at hd
   cases hd
   refine h a (Ao q) _ _ (λhp=>⟨rfl,?_⟩) (λhp=>⟨rfl,?_⟩)
   ·rw[En q,Ex,Az]; simp [hp]
   ·rw[En q,Ex,Az]; simp [hp]
 ·subst hn ha
  rw[Ac,Cz]
  exact q
theorem Zn{l:List α}{g:α->Ad}(e:ds=l.map g)(f:α->Ad)(h:∀a∈l,∀(yes:Ad->Nat->Prop) (no:Nat->Prop),yes (f a) δ1.n->Nb dc de ⟨.dat m (g a)::frD δ1.sl js,δ1.n⟩ yes no)(q:P (.dat .ow (.list (l.map f))) δ1):qR js dc de P m ds δ1:=by
 refine wV e (λ_=>true) f (λa ha yes no hy _=>h a ha yes no (hy rfl)) ?_
 rw[Sk.mpr λ_ _=>rfl]
 exact q
theorem qL{l:List α}{g1 g2:α->Ad}(e:ds=l.map λa=>.tuple [g1 a,g2 a])(p:α->Bool)(f:α->Ad)(h:∀a∈l,∀(yes:Ad->Nat->Prop) (no:Nat->Prop),(p a=true->yes (f a) δ1.n)->(p a=false->no δ1.n)->Nb dc de ⟨.dat m (g1 a)::.dat m (g2 a)::frD δ1.sl js,δ1.n⟩ yes no)(q:P (.dat .ow (.list ((l.filter p).map f))) δ1):rW js dc de P m ds δ1:=by
 subst e
 refine ⟨λi acc n=>n=δ1.n/\acc=((l.take i).filter p).map f,⟨rfl,by simp⟩,λi d acc n hd ⟨hn,ha⟩=>?_,λacc n ⟨hn,ha⟩=>?_⟩
 ·subst hn ha
  rw[Bf] at hd
  cases q:l[i]? with
  | none=>rw[q] at hd; cases hd
  | some a =>
   rw[q] at hd
   cases hd
   refine ⟨_,_,rfl,h a (Ao q) _ _ (λhp=>⟨rfl,?_⟩) (λhp=>⟨rfl,?_⟩)⟩
   ·rw[En q,Ex,Az]; simp [hp]
   ·rw[En q,Ex,Az]; simp [hp]
 ·subst hn ha
  rw[Ac,Cz]
  exact q
theorem x8{l:List α}{g:α->Ad}(e:ds=l.map g)(p:α->Bool)(f:α->Ad)(h:∀a∈l,∀(yes:Ad->Nat->Prop) (no:Nat->Prop),(p a=true->yes (f a) δ1.n)->(p a=false->no δ1.n)->Fl false dc de ⟨.dat m (g a)::frD δ1.sl js,δ1.n⟩ yes no)(q:P (.dat .tp (.list ((l.filter p).map f))) δ1):gL js dc de P m ds δ1:=by
 subst e
 refine ⟨λi acc n=>n=δ1.n/\acc=((l.take i).filter p).map f,⟨rfl,by simp⟩,λi d acc n hd ⟨hn,ha⟩=>?_,λacc n ⟨hn,ha⟩=>?_⟩
 ·subst hn ha
  rw[Bf] at hd
  cases q:l[i]? with
  | none=>rw[q] at hd; cases hd
  | some a =>
   rw[q] at hd
   cases hd
   refine h a (Ao q) _ _ (λhp=>⟨rfl,?_⟩) (λhp=>⟨rfl,?_⟩)
   ·rw[En q,Ex,Az]; simp [hp]
   ·rw[En q,Ex,Az]; simp [hp]
 ·subst hn ha
  rw[Ac,Cz]
  exact q
theorem qD{l:List α}{g:α->Ad}(e:ds=l.map g)(f:α->Ad)(h:∀a∈l,∀(yes:Ad->Nat->Prop) (no:Nat->Prop),yes (f a) δ1.n->Fl false dc de ⟨.dat m (g a)::frD δ1.sl js,δ1.n⟩ yes no)(q:P (.dat .tp (.list (l.map f))) δ1):gL js dc de P m ds δ1:=by
 refine x8 e (λ_=>true) f (λa ha yes no hy _=>h a ha yes no (hy rfl)) ?_
 rw[Sk.mpr λ_ _=>rfl]
 exact q
end
theorem Mf{t u:DB}{D:DEnds}{b:Bool}{δ:DS}(h1:b=true->t D δ)(h2:b=false->u D δ):N3 t u D b δ:=by
 cases b with
 | true=>exact h1 rfl
 | false=>exact h2 rfl
theorem yS{du:DT}{b:Bool}{δ:DS}{P:Bool->DS->Prop}(h1:b=true->du δ P)(h2:b=false->P false δ):eR du b δ P:=by
 cases b with
 | true=>exact h1 rfl
 | false=>exact h2 rfl
theorem L0{du:DT}{b:Bool}{δ:DS}{P:Bool->DS->Prop}(h1:b=true->P true δ)(h2:b=false->du δ P):Q1 du b δ P:=by
 cases b with
 | true=>exact h1 rfl
 | false=>exact h2 rfl
theorem jN{de:DE}{yes:Ad->Nat->Prop}{no:Nat->Prop}{b:Bool}{δ:DS}(h1:b=true->de δ λy δ3=>vN yes y δ3)(h2:b=false->no δ.n):oX de yes no b δ:=by
 cases b with
 | true=>exact h1 rfl
 | false=>exact h2 rfl
class Im (d:Ad):Prop where
 h:imm d=true
class ImA (ds:List Ad):Prop where
 h:Dk ds=true
theorem V6{ds:List Ad}[h:ImA ds]:Dk ds=true:=h.h
instance {i:Int}:Im (.int i):=⟨by simp [imm]⟩
instance {i:Bool}:Im (.bool i):=⟨by simp [imm]⟩
instance {i:Str}:Im (.str i):=⟨by simp [imm]⟩
instance:Im .none:=⟨by simp [imm]⟩
instance {ds:List Ad} [h:ImA ds]:Im (.tuple ds):=⟨by rw[imm]; exact h.h⟩
instance {ns:List Int}:Im (Bs ns):=⟨pZ ns⟩
instance:ImA []:=⟨by simp [Dk]⟩
instance {d:Ad} {ds:List Ad} [h:Im d] [t:ImA ds]:ImA (d::ds):=⟨by rw[Dk,h.h,t.h]; rfl⟩
instance {α:Type} {f:α->Ad} {l:List α} [h:∀a,Im (f a)]:ImA (l.map f):=⟨Qk (λa=>(h a).h) l⟩
instance {a b:List Ad} [h:ImA a] [k:ImA b]:ImA (a++b):=⟨by rw[Xa,h.h,k.h]; rfl⟩
class Dp (d:Ad) (k:outParam Nat):Prop where
 h:d.depth<=k
class DpA (ds:List Ad) (k:outParam Nat):Prop where
 h:Bg ds<=k
theorem dp{d:Ad}{k:Nat}[h:Dp d k](hk:k<=60:=by decide):d.depth<=60:=Bk h.h hk
instance {i:Int}:Dp (.int i) 0:=⟨by simp [Cq]⟩
instance {i:Bool}:Dp (.bool i) 0:=⟨by simp [Cq]⟩
instance {i:Str}:Dp (.str i) 0:=⟨by simp [Cq]⟩
instance:Dp .none 0:=⟨by simp [Cq]⟩
instance {ds:List Ad} {k:Nat} [h:DpA ds k]:Dp (.tuple ds) (k+1):=⟨by have:=h.h; simp only[Cq]; omega⟩
instance {ds:List Ad} {k:Nat} [h:DpA ds k]:Dp (.list ds) (k+1):=⟨by have:=h.h; simp only[Cq]; omega⟩
instance {ns:List Int}:Dp (Bs ns) 1:=⟨gU ns⟩
instance:DpA [] 0:=⟨by simp [Bg]⟩
instance {d:Ad} {ds:List Ad} {k j:Nat} [h:Dp d k] [t:DpA ds j]:DpA (d::ds) (k+j):=⟨by have:=h.h; have:=t.h; simp only[Bg]; omega⟩
instance {α:Type} {f:α->Ad} {l:List α} {k:Nat} [h:∀a,Dp (f a) k]:DpA (l.map f) k:=⟨Ug λx hx=>by
 obtain ⟨a,_,rfl⟩:=Bv.mp hx
 exact (h a).h⟩
theorem aF{a b:List Ad}:Bg (a++b)<=Bg a+Bg b:=by
 induction a with
 | nil=>simp [Bg]
 | cons x a ih=>simp only[Ey,Bg]; omega
instance {a b:List Ad} {k j:Nat} [h:DpA a k] [t:DpA b j]:DpA (a++b) (k+j):=⟨by have:=h.h; have:=t.h; have:=aF (a:=a) (b:=b); omega⟩
theorem eqD_str(i j:Str):Df (.str i) (.str j)=(i == j):=by simp [Df]
theorem Re(a b:List Ad):Df (.list a) (.list b)=Ii a b:=by simp [Df]
theorem Vl(a b:List Ad):Df (.tuple a) (.tuple b)=Ii a b:=by simp [Df]
theorem Iz(x y:Ad)(a b:List Ad):Ii (x::a) (y::b)=(Df x y && Ii a b):=by simp [Ii]
theorem Vv:Ii [] []=true:=by simp [Ii]
theorem uT(y:Ad)(b:List Ad):Ii [] (y::b)=false:=by simp [Ii]
theorem wQ(y:Ad)(b:List Ad):Ii (y::b) []=false:=by simp [Ii]
theorem Rq{α:Type}[DecidableEq α]{f:α->Ad}(h:∀a b,Df (f a) (f b)=decide (a=b)):∀l m:List α,Ii (l.map f) (m.map f)=decide (l=m)
 | [],[]=>by simp [Ii]
 | [],_::_=>by simp [Ii]
 | _::_,[]=>by simp [Ii]
 | a::l,b::m=>by simp [Ii,h,Rq h l m]
theorem eqD_intd(i j:Int):Df (.int i) (.int j)=decide (i=j):=by simp [Df]; rfl
theorem fA(a b:List Int):Df (Bs a) (Bs b)=decide (a=b):=by
 unfold Bs
 rw[Vl,Rq eqD_intd]
def bU(ws:List (List Int)):Ad:=.list (ws.map Bs)
instance {ws:List (List Int)}:Dp (bU ws) 2:=⟨(inferInstance:Dp (.list (ws.map Bs)) 2).h⟩
theorem mN(a b:List (List Int)):Df (bU a) (bU b)=decide (a=b):=by
 unfold bU
 rw[Re,Rq fA]
def kS(ns:List Int):Ad:=.list (ns.map Ba)
instance {ns:List Int}:Dp (kS ns) 1:=⟨(inferInstance:Dp (.list (ns.map Ba)) 1).h⟩
theorem qM(a b:List Int):Df (kS a) (kS b)=decide (a=b):=by
 unfold kS
 rw[Re,Rq eqD_intd]
theorem any_int(ns:List Int)(i:Int):((ns.map Ba).any λe=>Df e (.int i))=decide (i∈ns):=by
 rw[List.any_map]
 induction ns with
 | nil=>rfl
 | cons n ns ih =>
  rw[Sr,ih]
  simp only[Qg,eqD_intd,Ag]
  by_cases h:n=i
  ·subst h; simp
  ·have : ¬ i=n:=λz=>h z.symm
   simp [h,this]
theorem any_map{α:Type}[DecidableEq α]{f:α->Ad}(h:∀a b,Df (f a) (f b)=decide (a=b))(l:List α)(a:α):((l.map f).any λe=>Df e (f a))=decide (a∈l):=by
 rw[List.any_map]
 induction l with
 | nil=>rfl
 | cons n ns ih =>
  rw[Sr,ih]
  simp only[Qg,h,Ag]
  by_cases h:n=a
  ·subst h; simp
  ·have : ¬ a=n:=λz=>h z.symm
   simp [h,this]
theorem any_word(ws:List (List Int))(a:List Int):((ws.map Bs).any λe=>Df e (Bs a))=decide (a∈ws):=(any_map fA ws a).trans (decide_eq_decide.mpr Iff.rfl)
theorem zip_map{α β:Type}(f:α->β)(l:List α):(l.map f).zipIdx=l.zipIdx.map λp=>(f p.1,p.2):=by
 rw[List.zipIdx_map]
 rfl
theorem kK{α β:Type}(f:α->β)(l:List α)(i:Int):Qp (l.map f) i=(Qp l i).map f:=by
 unfold Qp
 rw[Ac]
 cases nZ l.length i with
 | none=>rfl
 | some j=>simp
theorem cX{α:Type}{l:List α}{i:Int}(h0:0<=i)(h1:i<l.length):∃a,l[i.toNat]? = some a/\Qp l i=some a/\a∈l:=by
 have hk:i.toNat<l.length:=by omega
 refine ⟨l[i.toNat],by simp [hk],?_,Ol hk⟩
 have q:Qp l ((i.toNat:Nat):Int)=some l[i.toNat]:=Vi (by simp [hk])
 rwa [show ((i.toNat:Nat):Int)=i by omega] at q
theorem im_e{d:Ad}[h:Im d]:(imm d=true)=True:=eq_true h.h
theorem ima_e{ds:List Ad}[h:ImA ds]:(Dk ds=true)=True:=eq_true h.h
theorem dp_e{d:Ad}{k:Nat}[h:Dp d k](hk:k<=60):(d.depth<=60)=True:=eq_true (Bk h.h hk)
theorem dpa_e{ds:List Ad}{k:Nat}[h:DpA ds k](hk:k<=60):(Bg ds<=60)=True:=eq_true (Bk h.h hk)
theorem u9(a b:List (List Int)):Df (.list (a.map Bs)) (.list (b.map Bs))=decide (a=b):=mN a b
theorem eqD_li(a b:List Int):Df (.list (a.map Ba)) (.list (b.map Ba))=decide (a=b):=qM a b
theorem eqD_l0(a:List Ad):Df (.list a) (.list [])=a.isEmpty:=vW a
theorem ow_e{d:Ad}{R:Ad->Prop}:(∃e,DV.dat .ow d=.dat .ow e/\R e)=R d:=by
 apply propext
 constructor
 ·(intro q_; obtain ⟨e,h,r⟩ := q_); cases h; exact r
 ·intro r; exact ⟨d,rfl,r⟩
theorem tt_e{m:Md}{b:Bool}:(∃m',DV.dat m (.bool b)=.dat m' (.bool true))=(b=true):=by
 apply propext
 constructor
 ·rintro ⟨e,h⟩; cases h; rfl
 ·intro r; subst r; exact ⟨m,rfl⟩
theorem cdiv_e{i j:Int}:yU i j=(0<j/\j<1073741824):=rfl
theorem cmul_l{i j:Int}(h:-18446744073709551616<i/\i<18446744073709551616):vM i j=True:=eq_true (.inl h)
theorem Lk{sl sl':List DV}{n n':Nat}(h:sl=sl')(h':n=n'):(⟨sl,n⟩ : DS)=⟨sl',n'⟩:=by subst h h'; rfl
theorem Kf{j i a:Nat}(h:(Bi j)[i]? = some a):a=i/\i<j:=by
 obtain ⟨h1,h2⟩:=Aw.mp h
 rw[Bq] at h1
 rw[Ub] at h2
 exact ⟨h2.symm,h1⟩
def NP(v:DV):Prop:=∀l,npk (v::l)=npk l
theorem Fi:NP .un:=λ_=>rfl
theorem Cs{d:Ad}:NP (.dat .sh d):=λ_=>rfl
theorem n9:NP .drw:=λ_=>rfl
theorem L4{α:Type}(x y:α)(b:Bool):Qp [x,y] (if b=true then 1 else 0)=some (if b=true then y else x):=by cases b <;> rfl
theorem fold_w(w:List Int):Lu (List.map Ba w)=Bs w:=rfl
theorem isi_ib(i:Int):dU (.int i) "bool" = false:=by simp [dU,zB]
theorem isi_ii(i:Int):dU (.int i) "int" = true:=by simp [dU,zB]
theorem Pn{α β:Type}{l:List α}{i:Nat}{a:α}(p:α->Bool)(f:α->β)(h:l[i]? = some a):((l.take (i+1)).filter p).map f=((l.take i).filter p).map f++(if p a=true then [f a] else []):=by
 rw[En h,Ex,Az]
 cases q:p a <;> simp [q]
theorem F4{ns:List Int}(k:Nat):(Hx ns none (some (k:Int))).length<=k:=by
 rw[Lf,Ds]
 exact Nat.min_le_left _ _
theorem ifB_lf{t u:DB}{D:DEnds}{δ:DS}:N3 t u D false δ=u D δ:=rfl
theorem str_self(s:Str):(s == s)=true:=by simp
theorem dJ{α:Type}{l:List α}{i:Nat}{a:α}(h:l[i]? = some a):Qp l (i:Int)=some a:=by
 obtain ⟨b,e1,e2,_⟩:=cX (l:=l) (i:=(i:Int)) (by omega) (by have:=(Aw.mp h).1; omega)
 rw[e2,<- e1,<- h]; rfl
theorem yesL_ow{e:Ad}{δ:DS}{yes:Ad->Nat->Prop}:jF yes (.dat .ow e) δ=yes e δ.n:=propext ⟨λh=>h.2,λh=>⟨by decide,h⟩⟩
theorem yesL_sh{e:Ad}{δ:DS}{yes:Ad->Nat->Prop}:jF yes (.dat .sh e) δ=yes e δ.n:=propext ⟨λh=>h.2,λh=>⟨by decide,h⟩⟩
theorem iV{m m':Md}{ds es:List Ad}{P:DV->Prop}(h1:m≠.pk)(h2:m'≠.pk):Qn (.dat m (.list ds)) (.dat m' (.list es)) P=(ds.length+es.length<=1000000/\P (.dat .tp (.list (ds++es)))):=propext ⟨λh=>h.2.2,λh=>⟨h1,h2,h⟩⟩
theorem catL_shtp{ds es:List Ad}{P:DV->Prop}:Qn (.dat .sh (.list ds)) (.dat .tp (.list es)) P=(ds.length+es.length<=1000000/\P (.dat .tp (.list (ds++es)))):=iV (by decide) (by decide)
theorem catL_tpow{ds es:List Ad}{P:DV->Prop}:Qn (.dat .tp (.list ds)) (.dat .ow (.list es)) P=(ds.length+es.length<=1000000/\P (.dat .tp (.list (ds++es)))):=iV (by decide) (by decide)
theorem catL_tptp{ds es:List Ad}{P:DV->Prop}:Qn (.dat .tp (.list ds)) (.dat .tp (.list es)) P=(ds.length+es.length<=1000000/\P (.dat .tp (.list (ds++es)))):=iV (by decide) (by decide)
theorem dF{α:Type}{l:List α}(h:l≠[]):∃a∈l,Qp l (-1)=some a/\l.getLast? = some a:=by
 have hp:=Sj.mpr h
 refine ⟨l[l.length - 1],Ol _,?_,?_⟩
 ·unfold Qp nZ
  rw[if_neg (by decide),if_pos (by omega),show ((-1:Int)+l.length).toNat=l.length - 1 by omega]
  simp [hp]
 ·rw[List.getLast?_eq_getElem?]; simp [hp]
theorem atI_0{α:Type}(x:α)(l:List α):Qp (x::l) 0=some x:=dJ (i:=0) rfl
theorem atI_1{α:Type}(x y:α)(l:List α):Qp (x::y::l) 1=some y:=dJ (i:=1) rfl
theorem some_e{α:Type}{a:α}{R:α->Prop}:(∃d,some a=some d/\R d)=R a:=propext ⟨λ⟨_,e,h⟩=>by cases e; exact h,λh=>⟨a,rfl,h⟩⟩
theorem dec_self{α:Type}(a:α)[h:Decidable (a=a)]:decide (a=a)=true:=by simp
theorem retA_sh{d:Ad}{R:Ad->Prop}:(∃m d',DV.dat .sh d=.dat m d'/\m≠.pk/\R d')=R d:=propext ⟨λ⟨m,d',e,_,h⟩=>by cases e; exact h,λh=>⟨_,_,rfl,by decide,h⟩⟩
theorem retA_ow{d:Ad}{R:Ad->Prop}:(∃m d',DV.dat .ow d=.dat m d'/\m≠.pk/\R d')=R d:=propext ⟨λ⟨m,d',e,_,h⟩=>by cases e; exact h,λh=>⟨_,_,rfl,by decide,h⟩⟩
theorem retA_tp{d:Ad}{R:Ad->Prop}:(∃m d',DV.dat .tp d=.dat m d'/\m≠.pk/\R d')=R d:=propext ⟨λ⟨m,d',e,_,h⟩=>by cases e; exact h,λh=>⟨_,_,rfl,by decide,h⟩⟩
theorem ow_npk:(Md.ow≠Md.pk)=True:=eq_true (by decide)
end DL
namespace K64
open PySem L2 Nd DL
def top(i:Nat):Stmt:=PySem.Challenge.pw_needledeck_k64_whole_found_and_nothing_w.main.body.getD i (.Pass ⟨0,0,0,0⟩)
abbrev Qo:Stmt:=top 5
abbrev Wf:Stmt:=top 6
abbrev Nn:Stmt:=top 7
abbrev Xf:Stmt:=top 9
abbrev Oa:Stmt:=top 10
abbrev Nq:Stmt:=top 11
abbrev gY:Stmt:=top 12
abbrev Tu:Stmt:=top 14
abbrev Wd:Stmt:=top 16
abbrev Th:Stmt:=top 17
abbrev Qi:Stmt:=top 18
abbrev Wq:Stmt:=top 20
abbrev Ls:Stmt:=top 21
abbrev bJ:Stmt:=top 22
abbrev bD:Stmt:=top 24
abbrev kQ:Stmt:=top 25
abbrev Nt:Stmt:=top 26
abbrev Mn:Stmt:=top 27
abbrev Mo:Stmt:=top 28
abbrev Li:Stmt:=top 29
abbrev Nm:Stmt:=top 30
abbrev Lo:Stmt:=top 31
abbrev Nr:Stmt:=top 32
abbrev Jx:Stmt:=top 33
abbrev cA:Stmt:=top 34
section
variable{P:Bp}{w:World}{K:PySem.W.Frag}{mg:Str->Option Value}{base:Heap}
theorem W1:FnScope ["_law_cell"] ["_law_cell"] (Bw bD):=⟨rfl,rfl,rfl,by decide +kernel,rfl,by decide +kernel,by decide +kernel⟩
theorem rF{f:Addr}{fd:Ca}(F:Fun K "_law_draws" "_law_draws" bD f fd):FnOk P w K mg base Gh 1 f fd ["_law_cell"] Rf:=by
 refine F.ok W1 (λvs H Q E h=>?_) (λcdv A outer s H vs Q E hr h=>?_)
 ·obtain ⟨c,rfl,_⟩:=h
  rfl
 obtain ⟨c,rfl,q⟩:=h
 refine ⟨_,Jg (tD (jW xA (pv 0) (He aN El El) (Nu _)) (Pl (Tn (gS (Gb (He Qm (pv 0) (He wB (He aN El El) El)) (Gb El (Gb oR Mm)))))) bR)
  (Pl (Tn (gS (Gb (He Qm (pv 0) El) (Gb El (Gb oR Mm)))))),?_⟩
 refine ⟨_,rfl,10,18,rfl,rfl,⟨by decide,by decide,by decide⟩,_,_,rfl,rfl,_,rfl,J1 (λ_=>?_) (λ_=>?_)⟩
 ·refine ⟨_,rfl,10,60,rfl,rfl,⟨by decide,by decide,by decide⟩,_,16,rfl,rfl,⟨by decide,by show (Builtin.Int.intBits (10 ^ (60:Int).toNat):Int) * 16<=2 ^ 27; decide +kernel⟩,_,_,rfl,rfl,(by show (0:Int)<(10 ^ (60:Int).toNat) ^ (16:Int).toNat; decide +kernel),(by show 3<=Be; decide),λp hp=>?_⟩
  exact q p _ _ _ hp Dh (Ep hp _)
 ·refine ⟨_,rfl,_,_,rfl,rfl,(by show (0:Int)<1000003; decide),(by show 3<=Be; decide),λp hp=>?_⟩
  exact q p _ _ _ hp Dh (Ep hp _)
theorem U9:FnScope ["_law_draws_here", "_law_k", "_law_number"] ["_law_draws_here"] (Bw kQ):=⟨rfl,rfl,rfl,by decide +kernel,rfl,by decide +kernel,by decide +kernel⟩
theorem vG{f:Addr}{fd:Ca}(F:Fun K "_law_next" "_law_next" kQ f fd):FnOk P w K mg base Gh 1 f fd ["_law_draws_here"] sF:=by
 refine F.ok U9 (λvs H Q E h=>?_) (λcdv A outer s H vs Q E hr h=>?_)
 ·obtain ⟨d,c,k,fl,rfl,_⟩:=h
  rfl
 obtain ⟨d,c,k,fl,rfl,hd,h0,h1,q⟩:=h
 refine ⟨_,Jg (gK (He Vw (Ww Pm (pv 0) El (λ_ _=>rfl)) El) (pX (pv 0) El cT))
  (Jg (tD (sR (Ww Pm (pv 0) El (λ_ _=>rfl)))
   (Jg (Sz (i:=2) U9.nd rfl (Bm rfl) (He Qm (Ww Pm (pv 0) El (λ_ _=>rfl)) (He aN El El)))
    (Jg (gK (He aS (Ww Pm (pv 0) El (λ_ _=>rfl)) (He aN El El)) (pX (pv 0) El cT))
    (Pl (Tn (pv 2))))) bR)
  (Jg (Sz (i:=1) U9.nd rfl (Bm rfl) (Ww Pm (pv 0) El (λ_ _=>rfl)))
  (Jg (Sz (i:=2) U9.nd rfl (Bm rfl) (He Qm (He Tx (He Vw (He Vw (Ww Pm (pv 0) El (λ_ _=>rfl)) (He Tx (He Tx (pv 1) (pv 1)) El)) (pv 1)) El) El))
  (Jg (Sz (i:=2) U9.nd rfl (Bm rfl) (He Qm (He Tx (pv 2) (pv 2)) El))
  (Pl (Tn (He aS (He Qm (He Tx (pv 2) (He Vw (pv 2) El)) El) El))))))),?_⟩
 -- draws[1]=draws[1]+1
 refine ⟨_,rfl,d,_,1,_,rfl,rfl,Om.of hd,rfl,_,_,rfl,rfl,_,rfl,d,_,1,1,rfl,rfl,hd,rfl,?_⟩
 have e1:(upd H d (.lst ([V.int c,V.int k,V.bl fl].set 1 (V.int (k+1))))) d=some (.lst [.int c,.int (k+1),.bl fl]):=Dh
 generalize hH1:upd H d (.lst ([V.int c,V.int k,V.bl fl].set 1 (V.int (k+1))))=H1 at e1
 have s1:Ui d H H1:=by rw[<- hH1]; exact Ui.upd
 refine ⟨_,rfl,d,_,2,_,rfl,rfl,Om.of e1,rfl,_,rfl,?_⟩
 refine J1 (λ_=>?_) (λ_=>?_)
 ·refine ⟨_,rfl,d,_,0,_,rfl,rfl,Om.of e1,rfl,10,6,rfl,rfl,⟨by decide,by decide,by decide⟩,_,_,rfl,rfl,(by show (0:Int)<10 ^ (6:Int).toNat; decide),?_⟩
  refine ⟨_,rfl,d,_,0,_,rfl,rfl,Om.of e1,rfl,10,6,rfl,rfl,⟨by decide,by decide,by decide⟩,_,_,rfl,rfl,⟨by decide,by decide⟩,_,rfl,d,_,0,0,rfl,rfl,e1,rfl,_,rfl,?_⟩
  exact q _ _ _ Dh (s1.trans Ui.upd)
 ·refine ⟨_,rfl,d,_,1,_,rfl,rfl,Om.of e1,rfl,?_⟩
  have b1:=bL ((c+(k+1) * (k+1) * 7919+(k+1)) * 48271) 2147483629 (by decide)
  refine ⟨_,rfl,d,_,0,_,rfl,rfl,Om.of e1,rfl,_,rfl,_,rfl,_,_,rfl,rfl,.inl ⟨by omega,by omega⟩,_,_,rfl,rfl,.inr ⟨by decide,by decide⟩,_,_,rfl,rfl,_,rfl,_,_,rfl,rfl,
   _,_,rfl,rfl,.inr ⟨by decide,by decide⟩,_,_,rfl,rfl,(by show (0:Int)<2147483629; decide),?_⟩
  generalize ((c+(k+1) * (k+1) * 7919+(k+1)) * 48271) % 2147483629=x at b1
  have b2:=bL (x * x) 2147483587 (by decide)
  refine ⟨_,rfl,_,rfl,_,_,rfl,rfl,.inl ⟨by omega,by omega⟩,_,_,rfl,rfl,(by show (0:Int)<2147483587; decide),?_⟩
  generalize (x * x) % 2147483587=y at b2
  refine ⟨_,rfl,_,rfl,_,_,rfl,rfl,_,_,rfl,rfl,.inl ⟨by omega,by omega⟩,_,_,rfl,rfl,(by show (0:Int)<2147483579; decide),_,_,rfl,rfl,⟨by decide,by decide⟩,?_⟩
  exact q _ _ _ e1 s1
theorem nB{f:Addr}{fd:Ca}(F:Fun K "_law_draws" "_law_draws" bD f fd):FnOk P w K mg base Gh 1 f fd ["_law_cell"] Rf:=rF F
theorem oU{f:Addr}{fd:Ca}(F:Fun K "_law_next" "_law_next" kQ f fd):FnOk P w K mg base Gh 1 f fd ["_law_draws_here"] (cG K Ql):=tY (vG F)
end
end K64
namespace DL
open PySem L2 Nd
def sub(a b:List Int):Bool:=a.all λi=>decide (i∈b)
theorem tW{a b:List Int}:sub a b=true↔∀i∈a,i∈b:=by
 unfold sub
 simp [Ej]
theorem n8{h:Int}{a:List Int}(r:Ec h a):a.Nodup:=r.1.imp λ{x y} h=>Int.ne_of_lt h
theorem Xe{a:List Int}(h:∀x∈a,0<=x/\x<60):Ec 60 (Nx a):=⟨Ju a,λx hx=>h x (Oy.mp hx)⟩
theorem mJ{a:List Int}(nd:a.Nodup)(h:∀x∈a,0<=x/\x<60):a.length<=60:=Bk (NdS.len_leI nd λe he=>aK (h e he).1 (h e he).2) (by decide)
theorem Jh(a:Int){b:Int}(h:0<b):0<=a % b/\a % b<b:=bL a b h
def vE:PF:=λds R=>∃a b:List Int,ds=[Bs a,Bs b]/\R (.bool (sub a b))
theorem Ta{α:Type}{l:List α}{i:Nat}{p:α×Nat}(h:l.zipIdx[i]? = some p):p.2=i/\l[i]? = some p.1/\p.1∈l/\i<l.length:=by
 rw[List.getElem?_zipIdx] at h
 cases q:l[i]? with
 | none=>rw[q] at h; cases h
 | some a =>
  rw[q] at h
  cases h
  exact ⟨by simp,rfl,Ao q,(Aw.mp q).1⟩
def pairD(p:Nat×Nat):Ad:=.tuple [.int p.1,.int p.2]
instance {p:Nat×Nat}:Im (pairD p):=⟨(inferInstance:Im (.tuple [.int p.1,.int p.2])).h⟩
instance {p:Nat×Nat}:Dp (pairD p) 1:=⟨(inferInstance:Dp (.tuple [.int p.1,.int p.2]) 1).h⟩
def xJ(p:Nat×Nat×List Int):Ad:=.tuple [.int p.1,.int p.2.1,Bs p.2.2]
instance {p:Nat×Nat×List Int}:Im (xJ p):=⟨(inferInstance:Im (.tuple [.int p.1,.int p.2.1,Bs p.2.2])).h⟩
instance {p:Nat×Nat×List Int}:Dp (xJ p) 2:=⟨(inferInstance:Dp (.tuple [.int p.1,.int p.2.1,Bs p.2.2]) 2).h⟩
end DL
namespace Nd
open PySem L2 Ts
end Nd
namespace Nd
open PySem L2
def ch:Nat->Nat->Nat
 | _,0=>1
 | 0,_+1=>0
 | n+1,k+1=>ch n k+ch n (k+1)
theorem Nw(n:Nat):ch n 0=1:=by cases n <;> rfl
theorem La(n k:Nat):ch (n+1) (k+1)=ch n k+ch n (k+1):=rfl
theorem Ge:∀{n k:Nat},n<k->ch n k=0
 | 0,0,h=>absurd h (Fb _)
 | 0,k+1,_=>rfl
 | n+1,0,h=>absurd h (Fx _)
 | n+1,k+1,h=>by rw[La,Ge (by omega:n<k),Ge (by omega:n<k+1)]
theorem Vd:∀n:Nat,ch n n=1
 | 0=>rfl
 | n+1=>by rw[La,Vd n,Ge (Xs n)]
theorem qV:∀n:Nat,ch n 1=n
 | 0=>rfl
 | n+1=>by rw[La,Nw,qV n]; omega
theorem bE:∀n k:Nat,ch n (k+1) * (k+1)=ch n k * (n - k)
 | 0,0=>rfl
 | 0,k+1=>by rw[Ge (by omega:0<k+1+1),Ge (by omega:0<k+1)]; simp
 | n+1,0=>by rw[qV,Nw]; omega
 | n+1,k+1=>by
  have h1:=bE n k
  have h2:=bE n (k+1)
  rw[La,La n k]
  by_cases hk:n<=k
  ·by_cases hk2:n=k
   ·subst hk2
    rw[Vd,Ge (by omega:n<n+1),Ge (by omega:n<n+1+1)]
    simp
   ·rw[Ge (by omega:n<k+1),Ge (by omega:n<k+1+1),Ge (by omega:n<k)]
    simp
  ·have e1:n - k=n - (k+1)+1:=by omega
   have e2:n+1 - (k+1)=n - (k+1)+1:=by omega
   rw[e1] at h1
   rw[e2]
   generalize n - (k+1)=m at h1 h2
   generalize ch n k=A at *
   generalize ch n (k+1)=B at *
   generalize ch n (k+1+1)=C at *
   -- h1:B * (k+1)=A * (m+1); h2:C * (k+1+1)=B * m
   have : (B+C) * (k+1+1)=B * (k+1)+B+C * (k+1+1):=by
    rw[Nat.add_mul,Nat.mul_add B (k+1) 1,Nat.mul_one]
   rw[this,h1,h2,Nat.add_mul,Nat.mul_add B m 1,Nat.mul_one]
   omega
theorem hC:∀{n k:Nat},k<=n->ch n k=ch n (n - k)
 | 0,k,h=>by
  have : k=0:=by omega
  subst this; rfl
 | n+1,0,_=>by rw[Nw,Vn,Vd]
 | n+1,k+1,h=>by
  by_cases hk:k=n
  ·subst hk; rw[Nat.sub_self,Vd,Nw]
  ·have e:n+1 - (k+1)=(n - (k+1))+1:=by omega
   rw[La,e,La,hC (by omega:k<=n),hC (by omega:k+1<=n)]
   have e2:n - k=n - (k+1)+1:=by omega
   rw[e2]
   omega
theorem kT:∀n k:Nat,ch n k<=2 ^ n
 | n,0=>by rw[Nw]; exact Nat.one_le_two_pow
 | 0,k+1=>by rw[Ge (by omega)]; exact Dv _
 | n+1,k+1=>by
  have h1:=kT n k
  have h2:=kT n (k+1)
  rw[La,Nat.pow_succ]
  omega
def cw:Nat->Int->Nat->List (List Int)
 | _,_,0=>[[]]
 | 0,_,_+1=>[]
 | d+1,p,m+1=>(cw d (p+1) m).map (p::·)++cw d (p+1) (m+1)
theorem cw_zero (d:Nat) (p:Int):cw d p 0=[[]]:=by cases d <;> rfl
theorem cw_succ (d:Nat) (p:Int) (m:Nat):cw (d+1) p (m+1)=(cw d (p+1) m).map (p::·)++cw d (p+1) (m+1):=rfl
theorem cw_len:∀ (d:Nat) (p:Int) (m:Nat),(cw d p m).length=ch d m
 | d,p,0=>by rw [cw_zero,Nw]; rfl
 | 0,p,m+1=>rfl
 | d+1,p,m+1=>by rw [cw_succ,Ax,Ac,cw_len d (p+1) m,cw_len d (p+1) (m+1),La]
def tI(p:Int)(d:Nat)(w:List Int):Prop:=w.Pairwise (· < ·)/\∀x∈w,p<=x/\x<p+d
theorem cw_mem:∀ {d:Nat} {p:Int} {m:Nat} {w:List Int},w∈cw d p m↔w.length=m∧tI p d w
 | d,p,0,w=>by
  rw [cw_zero,List.mem_singleton]
  constructor
  ·rintro rfl; exact ⟨rfl,Dq,λ_ h=>(nomatch h)⟩
  ·rintro ⟨h,_⟩; exact Xu h
 | 0,p,m+1,w=>by
  constructor
  ·intro h; cases h
  ·(intro q_; obtain ⟨h,_,h2⟩ := q_)
   match w,h with
   | x::w,_=>have:=h2 x Aa; omega
 | d+1,p,m+1,w=>by
  rw [cw_succ,Ay,List.mem_map]
  constructor
  ·rintro (⟨v,hv,rfl⟩ | h)
   ·obtain ⟨h1,h2,h3⟩:=cw_mem.mp hv
    refine ⟨by rw[Bo,h1],Av.mpr ⟨λx hx=>?_,h2⟩,λx hx=>?_⟩
    ·have:=h3 x hx; omega
    ·rcases Ag.mp hx with rfl | hx
     ·omega
     ·have:=h3 x hx; omega
   ·obtain ⟨h1,h2,h3⟩:=cw_mem.mp h
    exact ⟨h1,h2,λx hx=>by have:=h3 x hx; omega⟩
  ·(intro q_; obtain ⟨h1,h2,h3⟩ := q_)
   match w,h1 with
   | x::v,h1 =>
    obtain ⟨a1,a2⟩:=Av.mp h2
    have hx:=h3 x Aa
    by_cases e:x=p
    ·subst e
     refine .inl ⟨v,cw_mem.mpr ⟨by simpa using h1,a2,fun y hy=>?_⟩,rfl⟩
     have:=a1 y hy
     have:=h3 y (Ab _ hy)
     omega
    ·refine .inr (cw_mem.mpr ⟨h1,h2,fun y hy=>?_⟩)
     rcases Ag.mp hy with rfl | hy
     ·omega
     ·have:=a1 y hy
      have:=h3 y (Ab _ hy)
      omega
end Nd
namespace DL
open PySem L2 Nd
end DL
namespace DRow
open PySem L2 Nd DL
abbrev Cd:=List Int
def Oj(w u:List Int):Bool:=w.all λi=>decide (i∈u)
def Xb(c:Cd->List Int)(rs:List Cd)(ns:List Int):List Cd:=rs.filter λr=>Oj ns (c r)
def cU(c:Cd->List Int)(rs:List Cd)(ns:List Int):List Cd:=rs.filter λr=>!Oj ns (c r)
def zI(n1 n2:List Int)(ps:List (List Int×Bool)):Option Bool:=ps.foldl (λst p=>if Oj p.1 n1=Oj p.1 n2 then st else some (Oj p.1 n1 == !p.2)) none
theorem tX(n1 n2:List Int)(ps:List (List Int×Bool))(p:List Int×Bool):zI n1 n2 (ps++[p])=if Oj p.1 n1=Oj p.1 n2 then zI n1 n2 ps else some (Oj p.1 n1 == !p.2):=by
 unfold zI
 rw[List.foldl_append]
 rfl
def Wh(ps:List (List Int×Bool))(n:List Int):List Int:=ps.reverse.map λp=>if Oj p.1 n=p.2 then 1 else 0
theorem Ze(ps:List (List Int×Bool))(p:List Int×Bool)(n:List Int):Wh (ps++[p]) n=(if Oj p.1 n=p.2 then 1 else 0)::Wh ps n:=by
 unfold Wh
 rw[List.reverse_append,Az]
 rfl
theorem qY{α:Type}{P:List α->Prop}(h0:P [])(h1:∀l x,P l->P (l++[x]))(l:List α):P l:=by
 have : ∀m:List α,P m.reverse:=λm=>by
  induction m with
  | nil=>exact h0
  | cons x m ih=>rw[List.reverse_cons]; exact h1 _ _ ih
 have:=this l.reverse
 rwa [List.reverse_reverse] at this
theorem pA(n1 n2:List Int)(ps:List (List Int×Bool)):(zI n1 n2 ps=none↔Wh ps n1=Wh ps n2)/\(zI n1 n2 ps=some true↔HT.lexLt (Wh ps n1) (Wh ps n2)=true):=by
 induction ps using qY with
 | h0=>exact ⟨⟨λ_=>rfl,λ_=>rfl⟩,⟨λh=>(by cases h),λh=>(by cases h)⟩⟩
 | h1 l p ih =>
  rw[tX,Ze,Ze,HT.lexLt_cons]
  by_cases h:Oj p.1 n1=Oj p.1 n2
  ·rw[if_pos h,h,if_pos rfl]
   refine ⟨ih.1.trans ⟨λe=>by rw[e],λe=>(Ml e).2⟩,ih.2⟩
  ·rw[if_neg h]
   cases h1:Oj p.1 n1 <;> cases h2:Oj p.1 n2 <;> cases h3:p.2 <;> rw[h1,h2] at h <;> first | exact absurd rfl h | simp
theorem tR(x y:List Int)(ps:List (List Int×Bool)):zI x y ps=some false↔(¬ Wh ps x=Wh ps y/\¬ HT.lexLt (Wh ps x) (Wh ps y)=true):=by
 rw[<- (pA x y ps).1,<- (pA x y ps).2]
 cases zI x y ps with
 | none=>simp
 | some b=>cases b <;> simp
abbrev Ps:=List Int×Bool
def xS(p:Ps):Ad:=.tuple [Bs p.1,.str (oF p.2)]
instance {p:Ps}:Im (xS p):=⟨(inferInstance:Im (.tuple [Bs p.1,.str (oF p.2)])).h⟩
instance {p:Ps}:Dp (xS p) 2:=⟨(inferInstance:Dp (.tuple [Bs p.1,.str (oF p.2)]) _).h⟩
instance {α:Type} {f:α->Ad} {l:List α} {lo hi:Option Int} [h:∀a,Im (f a)]:ImA (Hx (l.map f) lo hi):=⟨by rw[fR]; exact V6⟩
theorem cutG_len{α:Type}(xs:List α)(lo hi:Option Int):(Hx xs lo hi).length<=xs.length:=(Se xs lo hi).length_le
theorem cutG_from{α:Type}(xs:List α)(k:Nat):Hx xs (some (k:Int)) none=xs.drop k:=by
 unfold Hx
 rw[HT.sIx_none,HT.sIx_nat]
 by_cases h:k<=xs.length
 ·rw[Nat.min_eq_left h,Hb (by rw[Kq]; exact An _)]
 ·rw[Xr (by omega),jA (by omega),jA (by omega),List.take_nil]
theorem cut_out{α:Type}(xs:List α)(k:Nat):Hx xs none (some (k:Int))++Hx xs (some ((k:Int)+1)) none=xs.eraseIdx k:=by
 rw[Lf,show ((k:Int)+1)=((k+1:Nat):Int) by omega,cutG_from,Kk]
def rN:PF:=λds R=>∃(L:List (List Int)) (w:List Int),ds=[.list (L.map Bs),Bs w]/\L.length<=1000/\R (.tuple [.list ((Xb id L w).map Bs),.list ((cU id L w).map Bs)])
end DRow
namespace K64
open PySem L2 Nd DL
local macro_rules | `(tactic| array_get_dec) => do
  let ids:=(("e_seq e_skip e_ret e_if e_asg e_name e_name2 e_name3 e_name4 e_own e_nF e_gtup e_gsn e_gsc e_op e_var e_c e_imm e_immB e_take e_frz e_frzo e_I e_I0 e_eqF e_eqT e_inFl e_inTl e_inFt_w1 e_isNF e_ixl e_ixt e_cat e_catT_w1 e_catS e_nlT e_nlF e_ntT e_pkOfsh e_pkOfow e_mdInsh e_mdInow e_mdNewsh e_mdNewow e_mdItpk e_mdItsh e_mdIttp e_mdItow e_nil e_cons e_tup e_lst e_noPart e_part e_partB e_sl e_slBl e_cb e_lenl e_lent_w1 e_listl e_listt_w1 e_tuplel e_intb e_min2 e_all e_sortI e_isi e_v e_b e_bB e_notT e_andT e_andTt e_andTf e_orT e_orTf e_not e_notB e_and e_andt e_neg e_negB e_dL e_dTp e_lB e_tpB_w1 e_range1 e_rng1B e_enum e_enumB e_zip e_zipB e_for e_comp e_comp2 e_compL e_stepL e_stepLT e_noTest e_step e_stepT e_yesB e_call e_callW e_draws e_drawsB e_append e_insert e_appendO e_aug e_augB e_scrSl e_compN e_callA ow_npk callAB retA retA_sh retA_ow retA_tp callB callBW tupB lstB datas pkMd allOw noPk appB appOB mmd insB own1 npk retE retW retL args0 frD frD1 alD List.map_cons List.map_nil List.replicate List.getElem?_cons_zero List.getElem?_cons_succ List.set_cons_zero List.set_cons_succ List.cons_append List.nil_append Option.map_some List.length_cons List.length_nil List.append_nil rdAdd rdSub rdMul rdDiv rdMod rdLt rdGe if_true if_false Bool.false_eq_true mdZip List.append_assoc Nat.reduceAdd Nat.reduceSub Nat.reduceLeDiff true_and im_e ima_e dp_e dpa_e any_int any_word eqD_intd eqD_str eqD_li eqD_l0 ow_e tt_e cdiv_e cmul_l Int.reduceLT Int.reduceNeg and_self fold_w isi_ib isi_ii Bool.not_true Bool.not_false String.reduceEq or_true true_or List.isEmpty_nil ifB_lf str_self atI_0 atI_1 some_e dec_self yesL_ow yesL_sh catL_shtp catL_tpow catL_tptp" : String).splitOn " ").toArray.map λ(x:String)=>Lean.mkIdent x.toName
  `(tactic| try simp only [$[↓$ids:ident],*])
section
variable{P:Bp}{w:World}{K:PySem.W.Frag}{mg:Str->Option Value}{base:Heap}
theorem O5:FnScope ["one", "other"] ["one", "other"] (Bw Nn):=⟨rfl,rfl,rfl,by decide +kernel,rfl,by decide +kernel,by decide +kernel⟩
theorem dY{f:Addr}{fd:Ca}(F:Fun K "together" "together" Nn f fd)(mT:mg "tuple" = none)(mS:mg "sorted" = none)(mE:mg "set" = none):FnOk P w K mg base Gh 1 f fd ["one", "other"] (xU K):=by
 refine F.ok O5 (λvs H Q E h=>?_) (λcdv A outer s H vs Q E hr h=>?_)
 ·obtain ⟨a,b,ns,ms,rfl,_⟩:=h
  rfl
 obtain ⟨a,b,ns,ms,rfl,hA,hB,rn,rm,q⟩:=h
 refine ⟨_,Pl (Tn (Pi Py rfl mT (by decide +kernel) (Gb (cR (r:=kN w) (bZ rfl) rfl mS (by decide +kernel) (Gb
  (He (r:=S7 w) tH (Pi (r:=zS w K) (fY rfl) rfl mE (by decide +kernel) (Gb (pv 0) Mm)) (Pi (r:=zS w K) (fY rfl) rfl mE (by decide +kernel) (Gb (pv 1) Mm))) Mm)) Mm))),?_⟩
 refine ⟨_,rfl,a,ns,A8,rfl,hA,(by show A8.length<=62; decide),jL rn,λp1 n1=>?_⟩
 have s1:=Ep n1 (Uq w p1 ns)
 refine ⟨_,rfl,b,ms,A8,rfl,Oh.tup s1 hB,(by show A8.length<=62; decide),jL rm,λp2 n2=>?_⟩
 have s2:=Ep n2 (Uq w p2 ms)
 refine ⟨p1,p2,ns,ms,A8,rfl,rfl,Es Dh n2,s2 _ _ Dh,Dh,(by show A8.length<=62; decide),jL rn,jL rm,λp3 n3=>?_⟩
 have s3:=Ep n3 (Uq w p3 (ns++ms))
 refine ⟨p3,_,rfl,Dh,λp4 ts n4 nd pw mem=>?_⟩
 have s4:=Ep n4 (.lst (ts.map V.int))
 refine ⟨p4,_,rfl,.inl ⟨Om.of Dh,λp5 n5=>?_⟩⟩
 have s5:=Ep n5 (.tup (ts.map V.int))
 have sA:=((s1.trans s2).trans (s3.trans s4))
 exact q p5 ts _ (sA.free n5) Dh nd pw mem (sA.trans s5)
theorem aP{f:Addr}{fd:Ca}(F:Fun K "together" "together" Nn f fd)(mT:mg "tuple" = none)(mS:mg "sorted" = none)(mE:mg "set" = none):FnOk P w K mg base Gh 1 f fd ["one", "other"] (Oi K lI):=yP (dY F mT mS mE)
theorem mQ:FnScope ["one", "other"] ["one", "other"] (Bw Wf):=⟨rfl,rfl,rfl,by decide +kernel,rfl,by decide +kernel,by decide +kernel⟩
theorem mG{f   : Addr}{fd  : Ca}(F:Fun K "within" "within" Wf f fd)(mz_all:mg "all" = none):FnOk P w K mg base Gh 1 f fd ["one", "other"] (Oi K (vE)):=by
 refine' Hw (k:=0) F mQ (λcdv A outer s H E hr=>?hb) ?h
 case hb =>
  have hu64:=hr.units
  exact Cc (Ek (Er (fI rfl) rA rfl mz_all (by decide +kernel) (Af (Rn (yD (x := "place") "other" 1 rfl (by decide +kernel) rfl rfl rfl) rfl (T7 (Ai (pv 0))) (λ_ _ _=>Ir) (λ_ _ _=>wZ hu64 (Ai (pv 0)) (Ai (pv 1)))) Ap)))
 case h =>
  (intro ds R q_; obtain ⟨a,b,rfl,hR⟩ := q_)
  refine ⟨rfl,?_⟩
  array_get_dec
  refine Zn (l:=a) (g:=Ba) rfl (λi=>.bool (decide (i∈b))) (λi _ yes no hy=>?_) ?_
  ·array_get_dec
   exact hy
  ·array_get_dec
   refine ⟨a.map λi=>decide (i∈b),by rw[Co]; rfl,?_⟩
   rw[Vb]
   exact hR
end
structure Fld where
 nm:Str
 ct:Int
 cd:List (List Int)
def Fld.d(f:Fld):Ad:=.tuple [.str f.nm,.int f.ct,.list (f.cd.map Bs)]
def U4(f:Fld):Prop:=(Oe f.nm).length<=12/\0<=f.ct/\f.ct<=60/\f.cd.length<=40/\∀w∈f.cd,Ec 60 w
def Lz(fs:List Fld):Ad:=.list (fs.map Fld.d)
instance {f:Fld}:Dp f.d 3:=⟨(inferInstance:Dp (.tuple [.str f.nm,.int f.ct,.list (f.cd.map Bs)]) 3).h⟩
instance {fs:List Fld}:Dp (Lz fs) 4:=⟨(inferInstance:Dp (.list (fs.map Fld.d)) 4).h⟩
def fV(fs:List Fld):List Int:=(Bi fs.length).map λi=>((fs.take i).map Fld.ct).sum
def eE:PF:=λds R=>∃fs:List Fld,ds=[Lz fs]/\fs.length<=1000/\R (.list ((fV fs).map Ba))
section
variable{P:Bp}{w:World}{K:PySem.W.Frag}{mg:Str->Option Value}{base:Heap}
theorem lY:FnScope ["layout", "told", "begin", "name", "count", "code"] ["layout"] (Bw Xf):=⟨rfl,rfl,rfl,by decide +kernel,rfl,by decide +kernel,by decide +kernel⟩
theorem lU{f   : Addr}{fd  : Ca}(F:Fun K "begins" "begins" Xf f fd):FnOk P w K mg base Gh 1 f fd ["layout"] (Oi K (eE)):=by
 refine' Hw (k:=0) F lY (λcdv A outer s H E hr=>?hb) ?h
 case hb =>
  have hu64:=hr.units
  exact Bh (Ia (i:=1) lY.nd rfl (Bm rfl) (Fo Ap))
   (Bh (Dx (i:=2) lY.nd rfl (Bm rfl) Cn)
   (Bh (Gd Cb rfl (cF (Ai (pv 0))) (Np (n:=3) rfl (Ea (Cy (i:=3) lY.nd rfl (Bm rfl)) (Ea (Cy (i:=4) lY.nd rfl (Bm rfl)) (Ea (Cy (i:=5) lY.nd rfl (Bm rfl)) Kz))))
   (Bh (Hz (pv 1) (Ai (pv 2)))
    (Cc (jI (i:=2) lY.nd rfl (Bm rfl) (Ai (pv 4))))))
   (Cc (Ek (Ke (pv 1))))))
 case h =>
  (intro ds R q_; obtain ⟨fs,rfl,lf,hR⟩ := q_)
  refine ⟨rfl,?_⟩
  unfold Lz
  array_get_dec
  refine Mx (l:=fs) (g:=Fld.d) rfl (λi δ=>∃v3 v4 v5:DV,δ=⟨[.dat .sh (.list (fs.map Fld.d)),.dat .ow (.list (((Bi i).map λi=>((fs.take i).map Fld.ct).sum).map Ba)),.dat .sh (.int ((fs.take i).map Fld.ct).sum),v3,v4,v5],0⟩/\NP v3/\NP v4/\NP v5) ?_ ?_ ?_
  ·exact ⟨_,_,_,rfl,Fi,Fi,Fi⟩
  ·(intro i f _ hf q_; obtain ⟨v3,v4,v5,rfl,hv3,hv4,hv5⟩ := q_)
   have hi:=(Aw.mp hf).1
   unfold Fld.d
   array_get_dec
   refine ⟨by rw[Ac,Ac,Bq]; omega,?_⟩
   refine ⟨.dat .sh (.str f.nm),.dat .sh (.int f.ct),.dat .sh (.list (f.cd.map Bs)),Lk ?_ rfl,Cs,Cs,Cs⟩
   rw[Pq,Az,Az,List.take_succ,hf]
   rw[show ((some f).toList)=[f] from rfl,Az,List.sum_append]
   simp [Fld.d]
  ·(intro _ q_; obtain ⟨v3,v4,v5,rfl,hv3,hv4,hv5⟩ := q_)
   array_get_dec
   exact hR
end
def jZ:DF:=λds n R=>∃h:Int,ds=[.int h]/\0<h/\h<=60/\n<=90000/\∀ns,Ec h ns->R (Bs ns) (n+1)
def kX:PF:=λds R=>∃i:Int,ds=[.int i]/\R (.bool true)
abbrev Gz:=Str×Nat
def Jl(v:Gz):Ad:=.tuple [.str v.1,.int (v.2:Int)]
def Fn(vs:List Gz):Ad:=.list (vs.map Jl)
def Ny(cs:List (List Gz)):Ad:=.list (cs.map Fn)
def Tv:List Fld->Int->Gz->Option (List Int)
 | [],_,_=>none
 | f::fs,b,v=>if f.nm=v.1 then (f.cd[v.2]?).map (λw=>w.map (b + ·)) else Tv fs (b+f.ct) v
def oA(fs:List Fld)(v:Gz):Prop:=∃p,Tv fs 0 v=some p
def B1(fs:List Fld)(v:Gz):List Int:=(Tv fs 0 v).getD []
def Lp(fs:List Fld)(vs:List Gz):List Int:=Nx (vs.flatMap (B1 fs))
def xD(fs:List Fld):Prop:=fs.length<=8/\(∀f∈fs,U4 f/\∀w∈f.cd,Ec f.ct w)/\(fs.map Fld.ct).sum<=60
def yK:PF:=λds R=>∃(fs:List Fld) (v:Gz) (p:List Int),ds=[Lz fs,.str v.1,.int (v.2:Int)]/\xD fs/\Tv fs 0 v=some p/\R (Bs p)
def aG:PF:=λds R=>∃(fs:List Fld) (vs:List Gz),ds=[Lz fs,Fn vs]/\xD fs/\(∀v∈vs,oA fs v)/\R (Bs (Lp fs vs))
def Jw(cs:List (List Gz))(q:List Gz):List Nat:=(cs.zipIdx.filter λp=>q.all λv=>decide (v∈p.1)).map (·.2)
def Gy(fs:List Fld)(cs:List (List Gz))(q:List Gz):List Nat:=(cs.zipIdx.filter λp=>!(q.all λv=>decide (v∈p.1)) && sub (Lp fs q) (Lp fs p.1)).map (·.2)
def Ic(l:List Nat):Ad:=.list (l.map λi:Nat=>Ba (i:Int))
instance {l:List Nat}:Dp (Ic l) 1:=⟨(inferInstance:Dp (.list (l.map λi:Nat=>Ba (i:Int))) 1).h⟩
def gO:PF:=λds R=>∃(fs:List Fld) (cs:List (List Gz)) (q:List Gz),ds=[Lz fs,Ny cs,Fn q]/\xD fs/\cs.length<=60/\(∀c∈cs,∀v∈c,oA fs v)/\(∀v∈q,oA fs v)/\R (.tuple [Ic (Jw cs q),Ic (Gy fs cs q)])
theorem uA(a b:Gz):Df (Jl a) (Jl b)=decide (a=b):=by
 unfold Jl
 rw[Vl,Iz,Iz,Vv,eqD_str,eqD_intd]
 rw[Lw]
 simp only[Sx,Cp,decide_eq_true_eq,beq_iff_eq]
 constructor
 ·rintro ⟨h1,h2⟩
  exact Prod.ext h1 (by omega)
 ·rintro rfl
  exact ⟨rfl,rfl⟩
theorem jO(l:List Gz)(v:Gz):((l.map Jl).any λe=>Df e (Jl v))=decide (v∈l):=(any_map uA l v).trans (decide_eq_decide.mpr Iff.rfl)
instance {v:Gz}:Im (Jl v):=⟨by unfold Jl; simp [imm,Dk]⟩
instance {v:Gz}:Dp (Jl v) 1:=⟨by unfold Jl; simp [Cq,Bg]⟩
section
variable{P:Bp}{w:World}{K:PySem.W.Frag}{mg:Str->Option Value}{base:Heap}
theorem eM:FnScope ["thing"] ["thing"] (Bw Qo):=⟨rfl,rfl,rfl,by decide +kernel,rfl,by decide +kernel,by decide +kernel⟩
theorem eD{f   : Addr}{fd  : Ca}(F:Fun K "is_whole" "is_whole" Qo f fd)(mz_bool:mg "bool" = none)(mz_isinstance:mg "isinstance" = none)(mz_int:mg "int" = none):FnOk P w K mg base Gh 1 f fd ["thing"] (Oi K (kX)):=by
 refine' Hw (k:=0) F eM (λcdv A outer s H E hr=>?hb) ?h
 case hb =>
  have hu64:=hr.units
  exact Cc (Ek (A0 (Er qE rJ rfl mz_isinstance (by decide +kernel) (Af (Ai (pv 0)) (Af (wR (n := "int") rfl mz_int (by decide +kernel)) Ap))) (i7 (zP (Er qE rJ rfl mz_isinstance (by decide +kernel) (Af (Ai (pv 0)) (Af (wR (n := "bool") rfl mz_bool (by decide +kernel)) Ap)))))))
 case h =>
  (intro ds R q_; obtain ⟨i,rfl,hR⟩ := q_)
  refine ⟨rfl,?_⟩
  array_get_dec
  exact hR
end
theorem uS{fs:List Fld}{i:Nat}{p:Int×Fld}(h:((fV fs).zip fs)[i]? = some p):fs[i]? = some p.2/\p.1=((fs.take i).map Fld.ct).sum:=by
 obtain ⟨h1,h2⟩:=List.getElem?_zip_eq_some.mp h
 refine ⟨h2,?_⟩
 unfold fV at h1
 rw[Bf] at h1
 have hi:=(Aw.mp h2).1
 rw[Br (by rw[Bq]; exact hi),Ub] at h1
 exact (Bl h1).symm
theorem vR(fs:List Fld):(fV fs).length=fs.length:=by
 unfold fV
 rw[Ac,Bq]
theorem B0(fs:List Fld):((((fV fs).map Ba).zip (fs.map Fld.d)).map λp=>Lu [p.1,p.2])=((fV fs).zip fs).map λp=>.tuple [.int p.1,p.2.d]:=by
 rw[List.zip_map,Co]
 rfl
section
variable{P:Bp}{w:World}{K:PySem.W.Frag}{mg:Str->Option Value}{base:Heap}
theorem Yd:FnScope ["layout", "name", "number", "begin", "field", "count", "code"] ["layout", "name", "number"] (Bw Oa):=⟨rfl,rfl,rfl,by decide +kernel,rfl,by decide +kernel,by decide +kernel⟩
theorem Ym{f f_is_whole f_begins  : Addr}{fd d_is_whole d_begins:Ca}(F:Fun K "value_word" "value_word" Oa f fd)(G_is_whole:FnOk P w K mg base Gh 1 f_is_whole d_is_whole ["thing"] (Oi K (kX)))(b_is_whole:Binds K d_is_whole ["thing"] [])(k_is_whole:PySem.W.keepIn K (.ref f_is_whole)=true)(m_is_whole:mg "is_whole" = some (.ref f_is_whole))(G_begins:FnOk P w K mg base Gh 1 f_begins d_begins ["layout"] (Oi K (eE)))(b_begins:Binds K d_begins ["layout"] [])(k_begins:PySem.W.keepIn K (.ref f_begins)=true)(m_begins:mg "begins" = some (.ref f_begins))(mz_zip:mg "zip" = none)(mz_len:mg "len" = none)(mz_tuple:mg "tuple" = none):FnOk P w K mg base Gh 2 f fd ["layout", "name", "number"] (Oi K (yK)):=by
 refine' Hw (k:=1) F Yd (λcdv A outer s H E hr=>?hb) ?h
 case hb =>
  have hr1:Room 1 _:=hr.mono (by decide)
  have hu64:=hr.units
  exact Bh (Gd Cb rfl (yY rfl mz_zip (Af (Ed G_begins hr1 rfl m_begins k_begins b_begins Dy (Af (Ai (pv 0)) Ap)) (Af (Ai (pv 0)) Ap))) (Np (n:=2) rfl (Ea (Cy (i:=3) Yd.nd rfl (Or.inr rfl)) (Ea (Np (n:=3) rfl (Ea (Cy (i:=4) Yd.nd rfl (Bm rfl)) (Ea (Cy (i:=5) Yd.nd rfl (Bm rfl)) (Ea (Cy (i:=6) Yd.nd rfl (Bm rfl)) Kz)))) Kz)))
   (Cc (Jb (Zr hu64 (Ai (pv 4)) (Ai (pv 1)))
    (Bh (Jb (qI (jP (rT (Tg (Ed G_is_whole hr1 rfl m_is_whole k_is_whole b_is_whole Dy (Af (Ai (pv 2)) Ap)))) (jP (eB (Ai (pv 2)) Cn) (iB (xR (Ai (pv 2)) (Er Hm Lj rfl mz_len (by decide +kernel) (Af (Ai (pv 6)) Ap)))))))
     (Cc Wj) Hk)
     (Cc (Ek (Le dD (eS (i:=true)) rfl mz_tuple (by decide +kernel) (Af (Rn (yD (x := "place") "begin" 3 rfl (by decide +kernel) rfl rfl rfl) rfl (T7 (Ik (Ai (pv 6)) (Ai (pv 2)))) (λ_ _ _=>Ir) (λ_ _ _=>Jv (Ai (pv 1)) (Ai (pv 0)))) Ap))))) Hk)))
   (Cc Wj)
 case h =>
  (intro ds R q_; obtain ⟨fs,v,p,rfl,hL,hp,hR⟩ := q_)
  refine ⟨rfl,?_⟩
  array_get_dec
  refine ⟨fs,rfl,by have:=hL.1; omega,?_⟩
  unfold Lz
  array_get_dec
  rw[B0]
  refine Mx (l:=(fV fs).zip fs) (g:=λp=>.tuple [.int p.1,p.2.d]) rfl (λi δ=>∃(v3 v4 v5 v6:DV),δ=⟨[.dat .sh (.list (fs.map Fld.d)),.dat .sh (.str v.1),.dat .sh (.int v.2),v3,v4,v5,v6],0⟩/\Tv (fs.drop i) ((fs.take i).map Fld.ct).sum v=some p) ?_ ?_ ?_
  ·exact ⟨_,_,_,_,rfl,hp⟩
  ·(intro i q _ hq q_; obtain ⟨v3,v4,v5,v6,rfl,hp⟩ := q_)
   obtain ⟨e1,e2⟩:=uS hq
   obtain ⟨hi,e1'⟩:=Aw.mp e1
   rw[cI hi,e1',Tv,<- e2] at hp
   unfold Fld.d
   array_get_dec
   refine Mf (λhb=>?_) (λhb=>?_)
   ·have hb':q.2.nm=v.1:=by simpa using hb
    rw[if_pos hb'] at hp
    cases hw:q.2.cd[v.2]? with
    | none=>rw[hw] at hp; cases hp
    | some w =>
     rw[hw] at hp
     have hp:w.map (q.1 + ·)=p:=Bl hp
     have hv:=(Aw.mp hw).1
     array_get_dec
     refine ⟨_,rfl,?_⟩
     array_get_dec
     rw[show decide ((v.2:Int)<0)=false from decide_eq_false (by omega)]
     array_get_dec
     rw[show decide (((q.2.cd.map Bs).length:Int)<=(v.2:Int))=false from decide_eq_false (by rw[Ac]; omega)]
     array_get_dec
     refine ⟨Bs w,by rw[kK,Vi hw]; rfl,?_⟩
     array_get_dec
     refine Zn (l:=w) (g:=Ba) rfl (λx=>.int (q.1+x)) (λx hx yes no hy=>?_) ?_
     ·array_get_dec
      exact hy
     ·array_get_dec
      rw[<- hp] at hR
      unfold Bs at hR
      rw[Co] at hR
      exact hR
   ·have hb':¬ q.2.nm=v.1:=by simpa using hb
    rw[if_neg hb'] at hp
    array_get_dec
    refine ⟨_,_,_,_,rfl,?_⟩
    rw[En e1,Az,List.sum_append]
    simpa [e2] using hp
  ·(intro _ q_; obtain ⟨v3,v4,v5,v6,rfl,hp⟩ := q_)
   rw[Lv,vR,Nat.min_self,Xm] at hp
   cases hp
end
theorem eG{a b:List Int}(h:∀x,x∈a↔x∈b):Nx a=Nx b:=kJ (Ju a) λx=>Oy.trans (h x)
theorem Ys:∀{fs:List Fld} {b:Int} {v:Gz} {p:List Int},(∀f∈fs,U4 f/\∀w∈f.cd,Ec f.ct w)->0<=b->Tv fs b v=some p->Ec (b+(fs.map Fld.ct).sum) p
 | [],_,_,_,_,_,h=>by cases h
 | f::fs,b,v,p,hf,hb,h=>by
  have h0:=hf f (Aa ..)
  have ih:=λc hc hp=>Ys (fs:=fs) (b:=c) (v:=v) (p:=p) (λg hg=>hf g (Ab _ hg)) hc hp
  have hs:0<=(fs.map Fld.ct).sum:=by
   have : ∀x∈fs.map Fld.ct,0<=x:=λx hx=>by
    obtain ⟨g,hg,rfl⟩:=Bv.mp hx
    exact (hf g (Ab _ hg)).1.2.1
   clear ih hf h
   generalize fs.map Fld.ct=l at this
   induction l with
   | nil=>exact Int.le_refl _
   | cons x l ih =>
    rw[Sn]
    have:=this x (Aa ..)
    have:=ih λy hy=>by (expose_names; exact this_1 y (Ab _ hy))
    omega
  rw[Au,Sn]
  unfold Tv at h
  split at h
  ·cases hw:f.cd[v.2]? with
   | none=>rw[hw] at h; cases h
   | some w =>
    rw[hw] at h
    have h:w.map (b + ·)=p:=Bl h
    subst h
    have rw_:=h0.2 w (Ao hw)
    refine ⟨Jz.mpr (rw_.1.imp λz=>by omega),λx hx=>?_⟩
    obtain ⟨y,hy,rfl⟩:=Bv.mp hx
    have:=rw_.2 y hy
    omega
  ·have:=ih (b+f.ct) (by have:=h0.1.2.1; omega) h
   rwa [Int.add_assoc] at this
theorem fH{fs:List Fld}(hL:xD fs){v:Gz}{p:List Int}(h:Tv fs 0 v=some p):Ec 60 p:=by
 have:=Ys hL.2.1 (Int.le_refl 0) h
 exact this.up (by have:=hL.2.2; omega)
theorem wI{fs:List Fld}(hL:xD fs){vs:List Gz}(hv:∀v∈vs,oA fs v):Ec 60 (Lp fs vs):=by
 unfold Lp
 refine Xe λx hx=>?_
 obtain ⟨v,hv',hx'⟩:=Da.mp hx
 obtain ⟨p,hp⟩:=hv v hv'
 unfold B1 at hx'
 rw[hp] at hx'
 exact (fH hL hp).2 x hx'
section
variable{P:Bp}{w:World}{K:PySem.W.Frag}{mg:Str->Option Value}{base:Heap}
theorem Yk:FnScope ["layout", "values", "word", "name", "number"] ["layout", "values"] (Bw Nq):=⟨rfl,rfl,rfl,by decide +kernel,rfl,by decide +kernel,by decide +kernel⟩
theorem Yg{f f_together f_value_word  : Addr}{fd d_together d_value_word:Ca}(F:Fun K "written_as" "written_as" Nq f fd)(G_together:FnOk P w K mg base Gh 1 f_together d_together ["one", "other"] (Oi K lI))(b_together:Binds K d_together ["one", "other"] [])(k_together:PySem.W.keepIn K (.ref f_together)=true)(m_together:mg "together" = some (.ref f_together))(G_value_word:FnOk P w K mg base Gh 2 f_value_word d_value_word ["layout", "name", "number"] (Oi K (yK)))(b_value_word:Binds K d_value_word ["layout", "name", "number"] [])(k_value_word:PySem.W.keepIn K (.ref f_value_word)=true)(m_value_word:mg "value_word" = some (.ref f_value_word)):FnOk P w K mg base Gh 3 f fd ["layout", "values"] (Oi K (aG)):=by
 refine' Hw (k:=2) F Yk (λcdv A outer s H E hr=>?hb) ?h
 case hb =>
  have hr1:Room 1 _:=hr.mono (by decide)
  have hr2:Room 2 _:=hr.mono (by decide)
  have hu64:=hr.units
  exact Bh (Dx (i:=2) Yk.nd rfl (Bm rfl) (Hl Ap))
   (Bh (Gd Cb rfl (cF (Ai (pv 1))) (Np (n:=2) rfl (Ea (Cy (i:=3) Yk.nd rfl (Bm rfl)) (Ea (Cy (i:=4) Yk.nd rfl (Bm rfl)) Kz)))
   (Cc (Dx (i:=2) Yk.nd rfl (Bm rfl) (Ed G_together hr1 rfl m_together k_together b_together Dy (Af (Ai (pv 2)) (Af (Ed G_value_word hr2 rfl m_value_word k_value_word b_value_word Dy (Af (Ai (pv 0)) (Af (Ai (pv 3)) (Af (Ai (pv 4)) Ap)))) Ap))))))
   (Cc (Ek (Jt (Ai (pv 2))))))
 case h =>
  (intro ds R q_; obtain ⟨fs,vs,rfl,hL,hv,hR⟩ := q_)
  refine ⟨rfl,?_⟩
  unfold Fn
  array_get_dec
  refine Mx (l:=vs) (g:=Jl) rfl (λi δ=>∃(v3 v4:DV),δ=⟨[.dat .sh (Lz fs),.dat .sh (.list (vs.map Jl)),.dat .sh (Bs (Lp fs (vs.take i))),v3,v4],0⟩) ?_ ?_ ?_
  ·exact ⟨_,_,rfl⟩
  ·(intro i v _ hi q_; obtain ⟨v3,v4,rfl⟩ := q_)
   have hvm:=Ao hi
   obtain ⟨p,hp⟩:=hv v hvm
   unfold Jl
   array_get_dec
   refine ⟨fs,v,p,rfl,hL,hp,?_⟩
   array_get_dec
   refine ⟨_,p,rfl,wI hL λu hu=>hv u (Qu hu),fH hL hp,?_⟩
   array_get_dec
   refine ⟨.dat .sh (.str v.1),.dat .sh (.int v.2),Lk ?_ rfl⟩
   have : Lp fs (vs.take (i+1))=Nx (Lp fs (vs.take i)++p):=by
    unfold Lp
    refine eG λx=>?_
    rw[En hi,Iw,Ay,Ay,Oy]
    refine or_congr_right ?_
    rw[Kb,List.flatMap_nil,Dc]
    unfold B1
    rw[hp]
    exact Iff.rfl
   rw[this]
  ·(intro _ q_; obtain ⟨v3,v4,rfl⟩ := q_)
   rw[Cz]
   array_get_dec
   exact hR
theorem uX:FnScope ["layout", "cards", "question", "words", "needles", "found", "wrong", "number", "word"] ["layout", "cards", "question"] (Bw gY):=⟨rfl,rfl,rfl,by decide +kernel,rfl,by decide +kernel,by decide +kernel⟩
theorem uW{f f_within f_written_as  : Addr}{fd d_within d_written_as:Ca}(F:Fun K "find" "find" gY f fd)(G_within:FnOk P w K mg base Gh 1 f_within d_within ["one", "other"] (Oi K (vE)))(b_within:Binds K d_within ["one", "other"] [])(k_within:PySem.W.keepIn K (.ref f_within)=true)(m_within:mg "within" = some (.ref f_within))(G_written_as:FnOk P w K mg base Gh 3 f_written_as d_written_as ["layout", "values"] (Oi K (aG)))(b_written_as:Binds K d_written_as ["layout", "values"] [])(k_written_as:PySem.W.keepIn K (.ref f_written_as)=true)(m_written_as:mg "written_as" = some (.ref f_written_as))(mz_enumerate:mg "enumerate" = none)(mz_all:mg "all" = none):FnOk P w K mg base Gh 4 f fd ["layout", "cards", "question"] (Oi K (gO)):=by
 refine' Hw (k:=3) F uX (λcdv A outer s H E hr=>?hb) ?h
 case hb =>
  have hr1:Room 1 _:=hr.mono (by decide)
  have hr2:Room 2 _:=hr.mono (by decide)
  have hr3:Room 3 _:=hr.mono (by decide)
  have hu64:=hr.units
  exact Bh (jM (o:=false) (i0:=3) uX.nd rfl rfl (yD (x := "values") "layout" 0 rfl (by decide +kernel) rfl rfl rfl) rfl (cF (Ai (pv 1))) (λ_ _ _=>Ir) (λ_ _ _=>Ed G_written_as hr3 rfl m_written_as k_written_as b_written_as Dy (Af (Ai (pv 1)) (Af (Ai (pv 0)) Ap))))
   (Bh (Dx (i:=4) uX.nd rfl (Bm rfl) (Ed G_written_as hr3 rfl m_written_as k_written_as b_written_as Dy (Af (Ai (pv 0)) (Af (Ai (pv 2)) Ap))))
   (Bh (Ia (i:=5) uX.nd rfl (Bm rfl) (Fo Ap))
   (Bh (Ia (i:=6) uX.nd rfl (Bm rfl) (Fo Ap))
   (Bh (Gd Cb rfl (aQ rfl mz_enumerate (Af (Ai (pv 3)) Ap)) (Np (n:=2) rfl (Ea (Cy (i:=7) uX.nd rfl (Or.inr rfl)) (Ea (Cy (i:=8) uX.nd rfl (Bm rfl)) Kz)))
   (Cc (Jb (Tg (Er (fI rfl) rA rfl mz_all (by decide +kernel) (Af (Rn (U5 (x := "value") "cards" "number" 1 7 rfl (by decide +kernel) rfl rfl rfl) rfl (cF (Ai (pv 2))) (λ_ _ _=>Ir) (λ_ _ _=>wZ hu64 (Ai (pv 0)) (Ik (Ai (pv 1)) (Ai (pv 2))))) Ap)))
    (Cc (Hz (pv 5) (Ai (pv 7)))) (Cc (Jb (Tg (Ed G_within hr1 rfl m_within k_within b_within Dy (Af (Ai (pv 4)) (Af (Ai (pv 8)) Ap))))
     (Cc (Hz (pv 6) (Ai (pv 7)))) Hk)))))
   (Cc (Ek (Hl (Af (Ke (pv 5)) (Af (Ke (pv 6)) Ap)))))))))
 case h =>
  (intro ds R q_; obtain ⟨fs,cs,q,rfl,hL,lc,hc,hq,hR⟩ := q_)
  refine ⟨rfl,?_⟩
  unfold Ny
  array_get_dec
  refine Zn (l:=cs) (g:=Fn) rfl (λc=>Bs (Lp fs c)) (λc hcm yes no hy=>?_) ?_
  ·array_get_dec
   refine ⟨fs,c,rfl,hL,hc c hcm,?_⟩
   array_get_dec
   exact hy
  array_get_dec
  refine ⟨fs,q,rfl,hL,hq,?_⟩
  array_get_dec
  rw[show (cs.map λc=>Bs (Lp fs c)).zipIdx.map (λp=>Lu [.int (p.2:Int),p.1])=cs.zipIdx.map λp=>.tuple [.int (p.2:Int),Bs (Lp fs p.1)] by rw[zip_map,Co]; rfl]
  refine Mx (l:=cs.zipIdx) (g:=λp=>.tuple [.int (p.2:Int),Bs (Lp fs p.1)]) rfl (λi δ=>∃(v7 v8:DV),δ=⟨[.dat .sh (Lz fs),.dat .sh (.list (cs.map Fn)),.dat .sh (Fn q),.dat .sh (.list (cs.map λc=>Bs (Lp fs c))),.dat .sh (Bs (Lp fs q)),.dat .ow (.list (((cs.zipIdx.take i).filter λp=>q.all λv=>decide (v∈p.1)).map λp=>.int (p.2:Int))),.dat .ow (.list (((cs.zipIdx.take i).filter λp=>!(q.all λv=>decide (v∈p.1)) && sub (Lp fs q) (Lp fs p.1)).map λp=>.int (p.2:Int))),v7,v8],0⟩/\NP v7/\NP v8) ?_ ?_ ?_
  ·exact ⟨_,_,rfl,Fi,Fi⟩
  ·(intro i p _ hp q_; obtain ⟨v7,v8,rfl,hv7,hv8⟩ := q_)
   obtain ⟨ep,hp1,hp2,hp3⟩:=Ta hp
   have st1:=Pn (λp:List Gz×Nat=>q.all λv=>decide (v∈p.1)) (λp=>Ba (p.2:Int)) hp
   have st2:=Pn (λp:List Gz×Nat=>!(q.all λv=>decide (v∈p.1)) && sub (Lp fs q) (Lp fs p.1)) (λp=>Ba (p.2:Int)) hp
   have l1:=Fs (λp:List Gz×Nat=>q.all λv=>decide (v∈p.1)) (cs.zipIdx.take i)
   have l2:=Fs (λp:List Gz×Nat=>!(q.all λv=>decide (v∈p.1)) && sub (Lp fs q) (Lp fs p.1)) (cs.zipIdx.take i)
   rw[Ds] at l1 l2
   unfold Fn
   array_get_dec
   rw[ep]
   refine Zn (l:=q) (g:=Jl) rfl (λv=>.bool (decide (v∈p.1))) (λv hv yes no hy=>?_) ?_
   ·array_get_dec
    refine ⟨.list (p.1.map Jl),Vi (by rw[Bf,hp1]; rfl),?_⟩
    array_get_dec
    rw[jO]
    exact hy
   array_get_dec
   refine ⟨q.map λv=>decide (v∈p.1),by rw[Co]; rfl,?_⟩
   rw[Vb]
   show N3 _ _ _ (q.all λv=>decide (v∈p.1)) _
   refine Mf (λhb=>?_) (λhb=>?_)
   ·array_get_dec
    refine ⟨by rw[Ac]; omega,.dat .sh (.int i),.dat .sh (Bs (Lp fs p.1)),Lk ?_ rfl,Cs,Cs⟩
    rw[st1,st2,hb,ep]
    simp [Fn]
   ·array_get_dec
    refine ⟨_,_,rfl,?_⟩
    refine Mf (λhb2=>?_) (λhb2=>?_)
    ·array_get_dec
     refine ⟨by rw[Ac]; omega,.dat .sh (.int i),.dat .sh (Bs (Lp fs p.1)),Lk ?_ rfl,Cs,Cs⟩
     rw[st1,st2,hb,hb2,ep]
     simp [Fn]
    ·array_get_dec
     refine ⟨.dat .sh (.int i),.dat .sh (Bs (Lp fs p.1)),Lk ?_ rfl,Cs,Cs⟩
     rw[st1,st2,hb,hb2]
     simp [Fn]
  ·(intro _ q_; obtain ⟨v7,v8,rfl,hv7,hv8⟩ := q_)
   rw[Eh,show cs.zipIdx.take cs.length=cs.zipIdx from Hb (by rw[Eh]; exact An _)]
   array_get_dec
   unfold Jw Gy Ic at hR
   rw[Co,Co] at hR
   exact hR
theorem Ye:FnScope ["_law_draws_here", "_law_holes", "_law_pick", "_law_told", "_law_place"] ["_law_draws_here", "_law_holes"] (Bw Nt):=⟨rfl,rfl,rfl,by decide +kernel,rfl,by decide +kernel,by decide +kernel⟩
theorem Yj{f f_L_next  : Addr}{fd d_L_next:Ca}(F:Fun K "_law_small" "_law_small" Nt f fd)(G_L_next:FnOk P w K mg base Gh 1 f_L_next d_L_next ["_law_draws_here"] (cG K Ql))(b_L_next:Binds K d_L_next ["_law_draws_here"] [])(k_L_next:PySem.W.keepIn K (.ref f_L_next)=true)(m_L_next:mg "_law_next" = some (.ref f_L_next))(mz_range:mg "range" = none)(mz_tuple:mg "tuple" = none):FnOk P w K mg base Gh 2 f fd ["_law_draws_here", "_law_holes"] (cG K (jZ)):=by
 refine' Vk (k:=1) F Ye (λcdv A outer s H E hr=>?hb) ?h
 case hb =>
  have hr1:Room 1 _:=hr.mono (by decide)
  have hu64:=hr.units
  exact Bh (Dx (i:=2) Ye.nd rfl (Bm rfl) (Fh G_L_next hr1 rfl m_L_next k_L_next b_L_next Dy (pv 0) Ap))
   (Bh (Ia (i:=3) Ye.nd rfl (Bm rfl) (Fo Ap))
   (Bh (Gd Cb rfl (Gw rfl mz_range (Af (Ai (pv 1)) Ap)) (Cy (i:=4) Ye.nd rfl (Bm rfl))
   (Bh (Jb (Zr hu64 (Jk (Ai (pv 2)) Cn) Cn)
    (Cc (Hz (pv 3) (Ai (pv 4)))) Hk)
    (Cc (Dx (i:=2) Ye.nd rfl (Bm rfl) (Vr (Ai (pv 2)) Cn)))))
   (Cc (Ek (Le dD (eS (i:=true)) rfl mz_tuple (by decide +kernel) (Af (Ai (pv 3)) Ap))))))
 case h =>
  (intro ds n R q_; obtain ⟨h,rfl,h0,h1,hn,hR⟩ := q_)
  refine ⟨rfl,?_⟩
  array_get_dec
  refine ⟨rfl,by omega,λr1=>?_⟩
  array_get_dec
  refine ⟨by omega,by omega,?_⟩
  refine Mx (l:=Bi h.toNat) (g:=λi:Nat=>.int i) rfl (λi δ=>∃(p:Int) (ns:List Int) (v:DV),δ=⟨[.drw,.dat .sh (.int h),.dat .sh (.int p),.dat .ow (.list (ns.map Ba)),v],n+1⟩/\Ec i ns/\NP v) ?_ ?_ ?_
  ·exact ⟨_,[],_,rfl,Ec.nil _,Fi⟩
  ·(intro i a _ ha q_; obtain ⟨p,ns,v,rfl,hr,hv⟩ := q_)
   obtain ⟨rfl,hi⟩:=Kf ha
   have l60:=mJ (n8 hr) (λx hx=>by have:=hr.2 x hx; omega)
   array_get_dec
   refine Mf (λhb=>?_) (λhb=>?_)
   ·array_get_dec
    refine ⟨by rw[Ac]; omega,?_⟩
    refine ⟨_,ns++[(a:Int)],_,Lk (by rw[Az]; rfl) rfl,hr.more (by omega),Cs⟩
   ·array_get_dec
    exact ⟨_,ns,_,rfl,hr.up (by omega),Cs⟩
  ·(intro _ q_; obtain ⟨p,ns,v,rfl,hr,hv⟩ := q_)
   rw[Bq] at hr
   array_get_dec
   exact ⟨by omega,hR ns (by rwa [show ((h.toNat:Nat):Int)=h by omega] at hr)⟩
end
def aC:List Str:=[Bz "a",Bz "ab",Bz "b",Bz "ba",Bz "aa",Bz "abc",Bz "c",Bz "x"]
def bX(i:Int):Str:=aC.getD i.toNat (Bz "a")
theorem vJ:∀i j:Fin 8,aC.getD i.1 (Bz "a")=aC.getD j.1 (Bz "a")->i=j:=by decide +kernel
theorem tE{i j:Int}(i0:0<=i)(i1:i<8)(j0:0<=j)(j1:j<8)(h:bX i=bX j):i=j:=by
 have:=vJ ⟨i.toNat,by omega⟩ ⟨j.toNat,by omega⟩ h
 have : i.toNat=j.toNat:=congrArg Fin.val this
 omega
theorem sN{i:Int}(i0:0<=i)(i1:i<8):bX i∈aC:=by
 have : i.toNat<aC.length:=by show i.toNat<8; omega
 unfold bX
 rw[Cf,Br this]
 exact Ol _
theorem vP{i:Int}(i0:0<=i)(i1:i<8):Qp (aC.map Sh) i=some (.str (bX i)):=by
 have e:i=((i.toNat:Nat):Int):=by omega
 rw[e,Vi (j:=i.toNat) (v:=.str (bX i))]
 ·rw[<- e]
 ·rw[Bf]
  have hl:i.toNat<aC.length:=by show i.toNat<8; omega
  unfold bX
  rw[Br hl,Cf,Br hl]
  rfl
def GF(f:Fld):Prop:=f.nm∈aC/\1<=f.ct/\f.ct<=7/\f.cd≠[]/\f.cd.length<=6/\∀w∈f.cd,Ec f.ct w
def GL(fs:List Fld):Prop:=fs≠[]/\fs.length<=8/\(fs.map Fld.nm).Nodup/\∀f∈fs,GF f
def qU:DF:=λds n R=>ds=[]/\n<=50000/\∀(fs:List Fld) n',n<=n'->n'<=n+1000->GL fs->R (Lz fs) n'
section
variable{P:Bp}{w:World}{K:PySem.W.Frag}{mg:Str->Option Value}{base:Heap}
theorem Vu:FnScope ["_law_draws_here", "_law_pick", "_law_names", "_law_layout_here", "_law_k", "_law_count", "_law_code", "_law_turn", "_law_word"] ["_law_draws_here"] (Bw Mn):=⟨rfl,rfl,rfl,by decide +kernel,rfl,by decide +kernel,by decide +kernel⟩
theorem Xc{f f_L_next f_L_small  : Addr}{fd d_L_next d_L_small:Ca}(F:Fun K "_law_layout" "_law_layout" Mn f fd)(G_L_next:FnOk P w K mg base Gh 1 f_L_next d_L_next ["_law_draws_here"] (cG K Ql))(b_L_next:Binds K d_L_next ["_law_draws_here"] [])(k_L_next:PySem.W.keepIn K (.ref f_L_next)=true)(m_L_next:mg "_law_next" = some (.ref f_L_next))(G_L_small:FnOk P w K mg base Gh 2 f_L_small d_L_small ["_law_draws_here", "_law_holes"] (cG K (jZ)))(b_L_small:Binds K d_L_small ["_law_draws_here", "_law_holes"] [])(k_L_small:PySem.W.keepIn K (.ref f_L_small)=true)(m_L_small:mg "_law_small" = some (.ref f_L_small))(mz_int:mg "int" = none)(mz_range:mg "range" = none):FnOk P w K mg base Gh 3 f fd ["_law_draws_here"] (cG K (qU)):=by
 refine' Vk (k:=2) F Vu (λcdv A outer s H E hr=>?hb) ?h
 case hb =>
  have hr1:Room 1 _:=hr.mono (by decide)
  have hr2:Room 2 _:=hr.mono (by decide)
  have hu64:=hr.units
  exact Bh (Dx (i:=1) Vu.nd rfl (Bm rfl) (Fh G_L_next hr1 rfl m_L_next k_L_next b_L_next Dy (pv 0) Ap))
   (Bh (Dx (i:=2) Vu.nd rfl (Bm rfl) (Fo (Af Jf (Af Jf (Af Jf (Af Jf (Af Jf (Af Jf (Af Jf (Af Jf Ap))))))))))
   (Bh (Ia (i:=3) Vu.nd rfl (Bm rfl) (Fo Ap))
   (Bh (Gd Cb rfl (Gw rfl mz_range (Af (Ik (Fo (Af (Jv Cn (Jk (Vr (Ai (pv 1)) Cn) Cn)) (Af Cn Ap))) (Le Zc oE rfl mz_int (by decide +kernel) (Af (xK hu64 (Jk (Ai (pv 1)) Cn) Cn) Ap))) Ap)) (Cy (i:=4) Vu.nd rfl (Bm rfl))
   (Bh (Dx (i:=5) Vu.nd rfl (Bm rfl) (Jv Cn (Jk (Fh G_L_next hr1 rfl m_L_next k_L_next b_L_next Dy (pv 0) Ap) Cn)))
    (Bh (Ia (i:=6) Vu.nd rfl (Bm rfl) (Fo Ap))
    (Bh (Gd Cb rfl (Gw rfl mz_range (Af (Jv Cn (Jk (Fh G_L_next hr1 rfl m_L_next k_L_next b_L_next Dy (pv 0) Ap) Cn)) Ap)) (Cy (i:=7) Vu.nd rfl (Bm rfl))
    (Bh (Dx (i:=8) Vu.nd rfl (Bm rfl) (Fh G_L_small hr2 rfl m_L_small k_L_small b_L_small Dy (pv 0) (Af (Ai (pv 5)) Ap)))
     (Cc (Jb (Wp hu64 (Ai (pv 8)) (Ai (pv 6)))
     (Cc (Hz (pv 6) (Ai (pv 8)))) Hk))))
    (Cc (Qj (pv 3) (Hl (Af (Jt (Ik (Ai (pv 2)) (Jk (Jv (Ai (pv 4)) (Vr (Ai (pv 1)) Cn)) Cn))) (Af (Jt (Ai (pv 5))) (Af (Ke (pv 6)) Ap))))))))))
   (Cc (Ek (Ke (pv 3)))))))
 case h =>
  (intro ds n R q_; obtain ⟨rfl,hn,hR⟩ := q_)
  refine ⟨rfl,?_⟩
  array_get_dec
  refine ⟨rfl,by omega,λr1=>?_⟩
  array_get_dec
  obtain ⟨c,hc,c0,c1⟩ : ∃c,Qp [Ba (1+r1 / 8 % 4),.int 8] (if decide (r1 % 8=1)=true then 1 else 0)=some (.int c)/\1<=c/\c<=8:=by
   rw[L4]
   have:=Jh (r1 / 8) (b:=4) (by decide)
   cases decide (r1 % 8=1)
   ·exact ⟨_,rfl,by omega,by omega⟩
   ·exact ⟨8,rfl,by decide,by decide⟩
  refine ⟨_,hc,?_⟩
  array_get_dec
  refine ⟨by omega,by omega,?_⟩
  rw[show [Sh (Bz "a"),.str (Bz "ab"),.str (Bz "b"),.str (Bz "ba"),.str (Bz "aa"),.str (Bz "abc"),.str (Bz "c"),.str (Bz "x")]=aC.map Sh from rfl]
  refine Mx (l:=Bi c.toNat) (g:=λi:Nat=>.int i) rfl (λi δ=>∃(fs:List Fld) (v4 v5 v6 v7 v8:DV) (n':Nat),δ=⟨[.drw,.dat .sh (.int r1),.dat .sh (.list (aC.map Sh)),.dat .ow (.list (fs.map Fld.d)),v4,v5,v6,v7,v8],n'⟩/\n<=n'/\n'<=n+1+20 * i/\fs.map Fld.nm=((Bi i).map λk:Nat=>bX (((k:Int)+r1 / 64) % 8))/\(∀f∈fs,GF f)/\NP v4/\NP v5/\NP v6/\NP v7/\NP v8) ?_ ?_ ?_
  ·exact ⟨[],_,_,_,_,_,_,rfl,by omega,by omega,rfl,λ_ z=>(nomatch z),Fi,Fi,Fi,Fi,Fi⟩
  ·(intro i a _ ha q_; obtain ⟨fs,v4,v5,v6,v7,v8,n1,rfl,k1,k2,lf,hf,hv4,hv5,hv6,hv7,hv8⟩ := q_)
   obtain ⟨rfl,hi⟩:=Kf ha
   array_get_dec
   refine ⟨rfl,by omega,λr2=>?_⟩
   array_get_dec
   refine ⟨rfl,by omega,λr3=>?_⟩
   array_get_dec
   have lf':fs.length=a:=by have:=congrArg Ff lf; simpa using this
   have b7:=Jh r2 (b:=7) (by decide)
   have b6:=Jh r3 (b:=6) (by decide)
   refine ⟨by omega,by omega,?_⟩
   refine Mx (l:=Bi (1+r3 % 6).toNat) (g:=λi:Nat=>.int i) rfl (λj δ=>∃(cd:List (List Int)) (v7 v8:DV) (n':Nat),δ=⟨[.drw,.dat .sh (.int r1),.dat .sh (.list (aC.map Sh)),.dat .ow (.list (fs.map Fld.d)),.dat .sh (.int a),.dat .sh (.int (1+r2 % 7)),.dat .ow (.list (cd.map Bs)),v7,v8],n'⟩/\n<=n'/\n'<=n1+2+j/\cd.length<=j/\(0<j->cd≠[])/\(∀w∈cd,Ec (1+r2 % 7) w)/\NP v7/\NP v8) ?_ ?_ ?_
   ·exact ⟨[],_,_,_,rfl,by omega,by omega,An _,λz=>absurd z (Fb _),λ_ z=>(nomatch z),hv7,hv8⟩
   ·clear hv7 hv8
    (intro j b _ hb q_; obtain ⟨cd,v7,v8,n2,rfl,k3,k4,lc,nc,hw,hv7,hv8⟩ := q_)
    obtain ⟨rfl,hj⟩:=Kf hb
    array_get_dec
    refine ⟨_,rfl,by omega,by omega,by omega,λw rw_=>?_⟩
    array_get_dec
    refine Mf (λhb=>?_) (λhb=>?_)
    ·array_get_dec
     refine ⟨by rw[Ac]; omega,?_⟩
     refine ⟨cd++[w],_,_,_,Lk (by rw[Az]; rfl) rfl,by omega,by omega,by rw[Ax]; simp; omega,λ_=>by simp,λx hx=>?_,Cs,Cs⟩
     rcases Ay.mp hx with z | z
     ·exact hw x z
     ·rw[Aj.mp z]; exact rw_
    ·array_get_dec
     have hb':w∈cd:=by simpa using hb
     exact ⟨cd,_,_,_,rfl,by omega,by omega,by omega,λ_=>List.ne_nil_of_mem hb',hw,Cs,Cs⟩
   ·clear hv7 hv8
    (intro _ q_; obtain ⟨cd,v7,v8,n2,rfl,k3,k4,lc,nc,hw,hv7,hv8⟩ := q_)
    rw[Bq] at k4 lc nc
    array_get_dec
    have b8:=Jh ((a:Int)+r1 / 64) (b:=8) (by decide)
    refine ⟨_,vP b8.1 b8.2,?_⟩
    array_get_dec
    refine ⟨by simp [npk,hv7 _,hv8 _],by rw[Ac]; omega,?_⟩
    refine ⟨fs++[⟨bX (((a:Int)+r1 / 64) % 8),1+r2 % 7,cd⟩],_,_,_,_,_,_,Lk (by rw[Az]; rfl) rfl,by omega,by omega,by rw[Az,lf,Pq,Az]; rfl,λf hx=>?_,Cs,Cs,Fi,hv7,hv8⟩
    rcases Ay.mp hx with z | z
    ·exact hf f z
    ·rw[Aj.mp z]
     exact ⟨sN b8.1 b8.2,by show (1:Int)<=1+r2 % 7; omega,by show 1+r2 % 7<=(7:Int); omega,nc (by omega),by show cd.length<=6; omega,hw⟩
  ·(intro _ q_; obtain ⟨fs,v4,v5,v6,v7,v8,n1,rfl,k1,k2,lf,hf,hv4,hv5,hv6,hv7,hv8⟩ := q_)
   rw[Bq] at k2 lf
   array_get_dec
   have lf':fs.length=c.toNat:=by have:=congrArg Ff lf; simpa using this
   refine ⟨by omega,hR fs _ (by omega) (by omega) ⟨λz=>?_,by omega,?_,hf⟩⟩
   ·rw[z] at lf'
    have : (0:Nat)=c.toNat:=lf'
    omega
   ·rw[lf]
    refine Jz.mpr (List.nodup_range.imp_of_mem λ{x y} hx hy hne z=>?_)
    have hx:=Dz.mp hx
    have hy:=Dz.mp hy
    have m1:=Jh ((x:Int)+r1 / 64) (b:=8) (by decide)
    have m2:=Jh ((y:Int)+r1 / 64) (b:=8) (by decide)
    have:=tE m1.1 m1.2 m2.1 m2.2 z
    omega
end
def Px(fs:List Fld)(v:Gz):Prop:=∃f∈fs,f.nm=v.1/\v.2<f.cd.length
theorem Tj:∀{fs:List Fld} {v:Gz} (b:Int),(fs.map Fld.nm).Nodup->Px fs v->∃p,Tv fs b v=some p
 | [],v,b,_,h=>by obtain ⟨f,hf,_⟩:=h; cases hf
 | f::fs,v,b,nd,h=>by
  rw[Au,List.nodup_cons] at nd
  unfold Tv
  split
  ·rename_i e
   obtain ⟨g,hg,h1,h2⟩:=h
   rcases Ag.mp hg with rfl | hg
   ·rw[Br h2]
    exact ⟨_,rfl⟩
   ·exact absurd (Bv.mpr ⟨g,hg,h1.trans e.symm⟩) nd.1
  ·rename_i e
   obtain ⟨g,hg,h1,h2⟩:=h
   rcases Ag.mp hg with rfl | hg
   ·exact absurd h1 e
   ·exact Tj _ nd.2 ⟨g,hg,h1,h2⟩
def zb:List Fld->Int->List (Int×Fld)
 | [],_=>[]
 | f::fs,b=>(b,f)::zb fs (b+f.ct)
theorem iC:∀(fs:List Fld) (b:Int),(zb fs b).map (·.2)=fs
 | [],_=>rfl
 | f::fs,b=>by rw[zb,Au,iC fs]
theorem yB:∀{fs:List Fld} {b:Int} {i:Nat} {q:Int×Fld},(zb fs b)[i]? = some q->q.1=b+((fs.take i).map Fld.ct).sum/\fs[i]? = some q.2
 | [],_,_,_,h=>by cases h
 | f::fs,b,0,q,h=>by
  cases h
  exact ⟨by simp,rfl⟩
 | f::fs,b,i+1,q,h=>by
  obtain ⟨h1,h2⟩:=yB (fs:=fs) (b:=b+f.ct) (i:=i) (q:=q) (by simpa [zb] using h)
  refine ⟨?_,by simpa using h2⟩
  rw[h1,List.take_succ_cons,Au,Sn]
  omega
def cM(q:Int×Fld)(v:Gz):List Int:=if q.2.nm=v.1 then (q.2.cd.getD v.2 []).map (q.1 + ·) else []
theorem L9{fs:List Fld}{v:Gz}(h:v.1∉fs.map Fld.nm):∀{b:Int} {x:Int},¬ ∃q∈zb fs b,x∈cM q v:=by
 intro b x
 (intro q_; obtain ⟨q,hq,hx⟩ := q_)
 obtain ⟨i,hi⟩:=Hr.mp hq
 have:=(yB hi).2
 unfold cM at hx
 split at hx
 ·rename_i e
  exact h (Bv.mpr ⟨q.2,Ao this,e⟩)
 ·cases hx
theorem cK:∀{fs:List Fld} {b:Int} {v:Gz} {p:List Int},(fs.map Fld.nm).Nodup->Tv fs b v=some p->∀x,x∈p↔∃q∈zb fs b,x∈cM q v
 | [],_,_,_,_,h,_=>by cases h
 | f::fs,b,v,p,nd,h,x=>by
  rw[Au,List.nodup_cons] at nd
  unfold Tv at h
  have e0:(∃q∈zb (f::fs) b,x∈cM q v)↔x∈cM (b,f) v\/∃q∈zb fs (b+f.ct),x∈cM q v:=by
   rw[zb]
   simp only[Ag,exists_eq_or_imp]
  rw[e0]
  split at h
  ·rename_i e
   have hn:v.1∉fs.map Fld.nm:=e▸nd.1
   have hno:=L9 hn (b:=b+f.ct) (x:=x)
   cases hw:f.cd[v.2]? with
   | none=>rw[hw] at h; cases h
   | some w =>
    rw[hw] at h
    have h:w.map (b + ·)=p:=Bl h
    subst h
    have ec:cM (b,f) v=w.map (b + ·):=by
     unfold cM
     rw[if_pos (show (b,f).2.nm=v.1 from e),Cf,hw]
     rfl
    rw[ec]
    exact ⟨λz=>.inl z,λz=>z.resolve_right hno⟩
  ·rename_i e
   have ec:cM (b,f) v=[]:=if_neg e
   rw[ec,cK nd.2 h x]
   exact ⟨λz=>.inr z,λz=>z.resolve_left (λy=>nomatch y)⟩
def sY:DF:=λds n R=>∃(fs:List Fld) (m:Int),ds=[Lz fs,.int m]/\GL fs/\0<=m/\m<=8/\n<=60000/\∀(vs:List Gz) n',n<=n'->n'<=n+20->vs.length<=8->(∀v∈vs,Px fs v)->R (Fn vs) n'
def LL(fs:List Fld):Prop:=xD fs/\(fs.map Fld.nm).Nodup
section
variable{P:Bp}{w:World}{K:PySem.W.Frag}{mg:Str->Option Value}{base:Heap}
theorem Wi:FnScope ["_law_draws_here", "_law_layout_here", "_law_limit", "_law_told", "_law_turn", "_law_pick", "_law_name", "_law_count", "_law_code", "_law_value"] ["_law_draws_here", "_law_layout_here", "_law_limit"] (Bw Mo):=⟨rfl,rfl,rfl,by decide +kernel,rfl,by decide +kernel,by decide +kernel⟩
theorem Vs{f f_L_next  : Addr}{fd d_L_next:Ca}(F:Fun K "_law_values" "_law_values" Mo f fd)(G_L_next:FnOk P w K mg base Gh 1 f_L_next d_L_next ["_law_draws_here"] (cG K Ql))(b_L_next:Binds K d_L_next ["_law_draws_here"] [])(k_L_next:PySem.W.keepIn K (.ref f_L_next)=true)(m_L_next:mg "_law_next" = some (.ref f_L_next))(mz_range:mg "range" = none)(mz_len:mg "len" = none):FnOk P w K mg base Gh 2 f fd ["_law_draws_here", "_law_layout_here", "_law_limit"] (cG K (sY)):=by
 refine' Vk (k:=1) F Wi (λcdv A outer s H E hr=>?hb) ?h
 case hb =>
  have hr1:Room 1 _:=hr.mono (by decide)
  have hu64:=hr.units
  exact Bh (Ia (i:=3) Wi.nd rfl (Bm rfl) (Fo Ap))
   (Bh (Gd Cb rfl (Gw rfl mz_range (Af (Jk (Fh G_L_next hr1 rfl m_L_next k_L_next b_L_next Dy (pv 0) Ap) (Jv (Ai (pv 2)) Cn)) Ap)) (Cy (i:=4) Wi.nd rfl (Bm rfl))
   (Bh (Dx (i:=5) Wi.nd rfl (Bm rfl) (Fh G_L_next hr1 rfl m_L_next k_L_next b_L_next Dy (pv 0) Ap))
    (Bh (sH (Ik (Ai (pv 1)) (Jk (Ai (pv 5)) (Er Hm Lj rfl mz_len (by decide +kernel) (Af (Ai (pv 1)) Ap)))) (Np (n:=3) rfl (Ea (Cy (i:=6) Wi.nd rfl (Bm rfl)) (Ea (Cy (i:=7) Wi.nd rfl (Bm rfl)) (Ea (Cy (i:=8) Wi.nd rfl (Bm rfl)) Kz)))))
    (Bh (Dx (i:=9) Wi.nd rfl (Bm rfl) (Hl (Af (Jt (Ai (pv 6))) (Af (Jk (Vr (Ai (pv 5)) Cn) (Er Hm Lj rfl mz_len (by decide +kernel) (Af (Ai (pv 8)) Ap))) Ap))))
    (Cc (Jb (Wp hu64 (Ai (pv 9)) (Ai (pv 3)))
    (Cc (Hz (pv 3) (Ai (pv 9)))) Hk))))))
   (Cc (Ek (Ke (pv 3)))))
 case h =>
  (intro ds n R q_; obtain ⟨fs,m,rfl,hG,m0,m1,hn,hR⟩ := q_)
  refine ⟨rfl,?_⟩
  have lp:0<fs.length:=Sj.mpr hG.1
  unfold Lz
  array_get_dec
  refine ⟨rfl,by omega,λr1=>?_⟩
  array_get_dec
  have bm:=Jh r1 (b:=m+1) (by omega)
  refine ⟨by omega,by omega,by omega,?_⟩
  refine Mx (l:=Bi (r1 % (m+1)).toNat) (g:=λi:Nat=>.int i) rfl (λi δ=>∃(vs:List Gz) (v4 v5 v6 v7 v8 v9:DV),δ=⟨[.drw,.dat .sh (.list (fs.map Fld.d)),.dat .sh (.int m),.dat .ow (.list (vs.map Jl)),v4,v5,v6,v7,v8,v9],n+1+i⟩/\vs.length<=i/\(∀v∈vs,Px fs v)/\NP v4/\NP v5/\NP v6/\NP v7/\NP v8/\NP v9) ?_ ?_ ?_
  ·exact ⟨[],_,_,_,_,_,_,rfl,An _,λ_ z=>(nomatch z),Fi,Fi,Fi,Fi,Fi,Fi⟩
  ·(intro i a _ ha q_; obtain ⟨vs,v4,v5,v6,v7,v8,v9,rfl,lv,hv,hv4,hv5,hv6,hv7,hv8,hv9⟩ := q_)
   obtain ⟨rfl,hi⟩:=Kf ha
   array_get_dec
   refine ⟨rfl,by omega,λr2=>?_⟩
   array_get_dec
   have bl:=Jh r2 (b:=(fs.length:Int)) (by omega)
   obtain ⟨f,_,e2,e3⟩:=cX (l:=fs) bl.1 bl.2
   have gf:=hG.2.2.2 f e3
   have lc:0<f.cd.length:=Sj.mpr gf.2.2.2.1
   refine ⟨by rw[Ac]; omega,f.d,by rw[Ac,kK,e2]; rfl,?_⟩
   unfold Fld.d
   array_get_dec
   have bc:=Jh (r2 / 8) (b:=(f.cd.length:Int)) (by omega)
   rw[Ac]
   refine ⟨by omega,?_⟩
   rw[show Lu [.str f.nm,.int (r2 / 8 % (f.cd.length:Int))]=Jl (f.nm,(r2 / 8 % (f.cd.length:Int)).toNat) by unfold Jl; rw[Int.toNat_of_nonneg bc.1]]
   generalize hvv:((f.nm,(r2 / 8 % (f.cd.length:Int)).toNat):Gz)=v
   have hvin:Px fs v:=⟨f,e3,by rw[<- hvv],by rw[<- hvv]; show (r2 / 8 % (f.cd.length:Int)).toNat<f.cd.length; omega⟩
   rw[jO]
   refine Mf (λhb=>?_) (λhb=>?_)
   ·array_get_dec
    refine ⟨by rw[Ac]; omega,?_⟩
    refine ⟨vs++[v],_,_,_,_,_,_,Lk (by rw[Az]; rfl) (by omega),by rw[Ax,Ee]; omega,λu hu=>?_,Cs,Cs,Cs,Cs,Cs,Cs⟩
    rcases Ay.mp hu with z | z
    ·exact hv u z
    ·rw[Aj.mp z]; exact hvin
   ·array_get_dec
    exact ⟨vs,_,_,_,_,_,_,Lk rfl (by omega),by omega,hv,Cs,Cs,Cs,Cs,Cs,Cs⟩
  ·(intro _ q_; obtain ⟨vs,v4,v5,v6,v7,v8,v9,rfl,lv,hv,hv4,hv5,hv6,hv7,hv8,hv9⟩ := q_)
   rw[Bq] at lv ⊢
   array_get_dec
   exact ⟨by omega,hR vs _ (by omega) (by omega) (by omega) hv⟩
end
end K64
namespace DL
open PySem L2 Nd
def P7(L:List (List Int))(f:List Int->Int):Ad:=.list ((L.map f).map Ba)
instance {L:List (List Int)} {f:List Int->Int}:Dp (P7 L f) 1:=⟨(inferInstance:Dp (.list ((L.map f).map Ba)) 1).h⟩
end DL
namespace DL
open PySem PySem.Spec PyProof.Rows L2 Nd
end DL
namespace DL
open PySem PySem.Spec PyProof.Rows L2 Nd DRow
end DL
namespace K64
open PySem L2 Nd DL
local macro_rules | `(tactic| array_get_dec) => do
  let ids:=(("e_seq e_skip e_ret e_if e_asg e_name e_name2 e_name3 e_name4 e_own e_nF e_gtup e_gsn e_gsc e_op e_var e_c e_imm e_immB e_take e_frz e_frzo e_I e_I0 e_eqF e_eqT e_inFl e_inTl e_inFt_w1 e_isNF e_ixl e_ixt e_cat e_catT_w1 e_catS e_nlT e_nlF e_ntT e_pkOfsh e_pkOfow e_mdInsh e_mdInow e_mdNewsh e_mdNewow e_mdItpk e_mdItsh e_mdIttp e_mdItow e_nil e_cons e_tup e_lst e_noPart e_part e_partB e_sl e_slBl e_cb e_lenl e_lent_w1 e_listl e_listt_w1 e_tuplel e_intb e_min2 e_all e_sortI e_isi e_v e_b e_bB e_notT e_andT e_andTt e_andTf e_orT e_orTf e_not e_notB e_and e_andt e_neg e_negB e_dL e_dTp e_lB e_tpB_w1 e_range1 e_rng1B e_enum e_enumB e_zip e_zipB e_for e_comp e_comp2 e_compL e_stepL e_stepLT e_noTest e_step e_stepT e_yesB e_call e_callW e_draws e_drawsB e_append e_insert e_appendO e_aug e_augB e_scrSl e_compN e_callA ow_npk callAB retA retA_sh retA_ow retA_tp callB callBW tupB lstB datas pkMd allOw noPk appB appOB mmd insB own1 npk retE retW retL args0 frD frD1 alD List.map_cons List.map_nil List.replicate List.getElem?_cons_zero List.getElem?_cons_succ List.set_cons_zero List.set_cons_succ List.cons_append List.nil_append Option.map_some List.length_cons List.length_nil List.append_nil rdAdd rdSub rdMul rdDiv rdMod rdLt rdGe if_true if_false Bool.false_eq_true mdZip List.append_assoc Nat.reduceAdd Nat.reduceSub Nat.reduceLeDiff true_and im_e ima_e dp_e dpa_e any_int any_word eqD_intd eqD_str eqD_li eqD_l0 ow_e tt_e cdiv_e cmul_l Int.reduceLT Int.reduceNeg and_self fold_w isi_ib isi_ii Bool.not_true Bool.not_false String.reduceEq or_true true_or List.isEmpty_nil ifB_lf str_self atI_0 atI_1 some_e dec_self yesL_ow yesL_sh catL_shtp catL_tpow catL_tptp" : String).splitOn " ").toArray.map λ(x:String)=>Lean.mkIdent x.toName
  `(tactic| try simp only [$[↓$ids:ident],*])
theorem u3(n i:Nat)(h:i<n):((ch n i:Nat):Int) * ((n:Int) - (i:Int)) / ((i:Int)+1)=((ch n (i+1):Nat):Int):=by
 have e:=bE n i
 have e':((ch n (i+1):Nat):Int) * ((i:Int)+1)=((ch n i:Nat):Int) * ((n:Int) - (i:Int)):=by
  have:=congrArg (λx:Nat=>(x:Int)) e
  simp only[Int.natCast_mul,Int.natCast_add,Int.natCast_one] at this
  rw[Int.ofNat_sub (by omega)] at this
  exact this
 rw[<- e',Int.mul_ediv_cancel _ (by omega)]
def E1(i:Nat)(δ:DS):Nat:=match δ.sl[i]? with
 | some (.dat _ (.int p))=>p.toNat
 | _=>0
def Xj:PF:=λds R=>∃n k:Int,ds=[.int n,.int k]/\0<=n/\n<=60/\0<=k/\R (.int (ch n.toNat k.toNat))
def fE:PF:=λds R=>∃h m n:Int,ds=[.int h,.int m,.int n]/\0<=h/\h<=60/\0<=m/\0<=n/\n<(ch h.toNat m.toNat:Int)/\∀w:List Int,(cw h.toNat 0 m.toNat)[n.toNat]? = some w->R (Bs w)
def Yz:PF:=λds R=>∃h m:Int,ds=[.int h,.int m]/\0<=h/\h<=12/\0<=m/\R (.list ((cw h.toNat 0 m.toNat).map Bs))
section
variable{P:Bp}{w:World}{K:PySem.W.Frag}{mg:Str->Option Value}{base:Heap}
theorem mV:FnScope ["n", "k", "many", "step"] ["n", "k"] (Bw Wd):=⟨rfl,rfl,rfl,by decide +kernel,rfl,by decide +kernel,by decide +kernel⟩
theorem mX{f   : Addr}{fd  : Ca}(F:Fun K "choose" "choose" Wd f fd)(mz_min:mg "min" = none)(mz_range:mg "range" = none):FnOk P w K mg base Gh 1 f fd ["n", "k"] (Oi K (Xj)):=by
 refine' Hw (k:=0) F mV (λcdv A outer s H E hr=>?hb) ?h
 case hb =>
  have hu64:=hr.units
  exact Bh (Jb (G3 (Ai (pv 1)) (Ai (pv 0)))
   (Cc (Ek Cn)) Hk)
   (Bh (Dx (i:=2) mV.nd rfl (Bm rfl) Cn)
   (Bh (Gd Cb rfl (Gw rfl mz_range (Af (Er (Zb rfl) kU rfl mz_min (by decide +kernel) (Af (Ai (pv 1)) (Af (Sy (Ai (pv 0)) (Ai (pv 1))) Ap))) Ap)) (Cy (i:=3) mV.nd rfl (Bm rfl))
   (Cc (Dx (i:=2) mV.nd rfl (Bm rfl) (Vr (iJ (Ai (pv 2)) (Sy (Ai (pv 0)) (Ai (pv 3)))) (Jv (Ai (pv 3)) Cn)))))
   (Cc (Ek (Jt (Ai (pv 2)))))))
 case h =>
  (intro ds R q_; obtain ⟨n,k,rfl,n0,n1,k0,hR⟩ := q_)
  refine ⟨rfl,?_⟩
  array_get_dec
  refine Mf (λq=>?_) (λq=>?_)
  ·have q:=of_decide_eq_true q
   rw[Ge (by omega)] at hR
   array_get_dec
   exact hR
  have q:=of_decide_eq_false q
  array_get_dec
  obtain ⟨t,et,tn,ec⟩ : ∃t:Nat,(if n - k<k then n - k else k)=(t:Int)/\t<=n.toNat/\ch n.toNat t=ch n.toNat k.toNat:=by
   by_cases c:n - k<k
   ·refine ⟨(n - k).toNat,by rw[if_pos c]; omega,by omega,?_⟩
    rw[hC (by omega)]
    congr 1
    omega
   ·exact ⟨k.toNat,by rw[if_neg c]; omega,by omega,rfl⟩
  rw[et]
  refine ⟨by omega,by omega,?_⟩
  rw[Dw]
  refine Mx (l:=Bi t) (g:=λi:Nat=>.int i) rfl (λi δ=>∃v:DV,δ=⟨[.dat .sh (.int n),.dat .sh (.int k),.dat .sh (.int (ch n.toNat i)),v],0⟩/\NP v) ?_ ?_ ?_
  ·exact ⟨_,by rw[Nw]; rfl,Fi⟩
  ·(intro i a _ ha q_; obtain ⟨v,rfl,hv⟩ := q_)
   obtain ⟨rfl,hi⟩:=Kf ha
   array_get_dec
   refine ⟨.inr ⟨by omega,by omega⟩,⟨by omega,by omega⟩,?_⟩
   have e:=u3 n.toNat a (by omega)
   rw[show ((n.toNat:Nat):Int)=n by omega] at e
   rw[e]
   exact ⟨_,rfl,Cs⟩
  ·(intro _ q_; obtain ⟨v,rfl,hv⟩ := q_)
   rw[Bq,ec]
   array_get_dec
   exact hR
theorem iR:FnScope ["holes", "many", "number", "word", "left", "place", "having"] ["holes", "many", "number"] (Bw Th):=⟨rfl,rfl,rfl,by decide +kernel,rfl,by decide +kernel,by decide +kernel⟩
theorem gX{f f_choose  : Addr}{fd d_choose:Ca}(F:Fun K "word_at" "word_at" Th f fd)(G_choose:FnOk P w K mg base Gh 1 f_choose d_choose ["n", "k"] (Oi K (Xj)))(b_choose:Binds K d_choose ["n", "k"] [])(k_choose:PySem.W.keepIn K (.ref f_choose)=true)(m_choose:mg "choose" = some (.ref f_choose))(mz_len:mg "len" = none):FnOk P w K mg base Gh 2 f fd ["holes", "many", "number"] (Oi K (fE)):=by
 refine' Hw (k:=1) F iR (λcdv A outer s H E hr=>?hb) ?h
 case hb =>
  have hr1:Room 1 _:=hr.mono (by decide)
  have hu64:=hr.units
  exact Bh (Jb (qI (jP (eB (Ai (pv 2)) Cn) (iB (xR (Ai (pv 2)) (Ed G_choose hr1 rfl m_choose k_choose b_choose Dy (Af (Ai (pv 0)) (Af (Ai (pv 1)) Ap)))))))
   (Cc Wj) Hk)
   (Bh (Dx (i:=3) iR.nd rfl (Bm rfl) (Hl Ap))
   (Bh (Dx (i:=4) iR.nd rfl (Bm rfl) (Ai (pv 2)))
   (Bh (Dx (i:=5) iR.nd rfl (Bm rfl) Cn)
   (Bh (cJ Cb (eB (Er Hm Lj rfl mz_len (by decide +kernel) (Af (Ai (pv 3)) Ap)) (Ai (pv 1)))
   (Bh (Dx (i:=6) iR.nd rfl (Bm rfl) (Ed G_choose hr1 rfl m_choose k_choose b_choose Dy (Af (Sy (Sy (Ai (pv 0)) Cn) (Ai (pv 5))) (Af (Sy (Sy (Ai (pv 1)) (Er Hm Lj rfl mz_len (by decide +kernel) (Af (Ai (pv 3)) Ap))) Cn) Ap))))
    (Bh (Jb (eB (Ai (pv 4)) (Ai (pv 6)))
    (Cc (Dx (i:=3) iR.nd rfl (Bm rfl) (tZ (Ai (pv 3)) (Hl (Af (Jt (Ai (pv 5))) Ap))))) (Cc (lF (i:=4) iR.nd rfl (Bm rfl) (Ai (pv 6)) yO)))
    (Cc (jI (i:=5) iR.nd rfl (Bm rfl) Cn)))))
   (Cc (Ek (Jt (Ai (pv 3)))))))))
 case h =>
  (intro ds R q_; obtain ⟨h,m,n,rfl,h0,h1,m0,n0,n1,hR⟩ := q_)
  refine ⟨rfl,?_⟩
  have mh:m.toNat<=h.toNat:=Nat.le_of_not_lt λz=>by rw[Ge z] at n1; omega
  array_get_dec
  refine L0 (λq=>absurd (of_decide_eq_true q) (by omega)) (λ_=>?_)
  array_get_dec
  refine ⟨h,m,rfl,h0,h1,m0,?_⟩
  array_get_dec
  refine Mf (λq=>absurd (of_decide_eq_true q) (by omega)) (λ_=>?_)
  array_get_dec
  obtain ⟨tg,etg⟩ : ∃tg,(cw h.toNat 0 m.toNat)[n.toNat]? = some tg:=by
   have : n.toNat<(cw h.toNat 0 m.toNat).length:=by rw [cw_len]; omega
   exact ⟨_,Br this⟩
  have hm:tg.length=m.toNat:=(cw_mem.mp (Ao etg)).1
  refine qQ (λδ=>∃(w r:List Int) (lf pl:Nat) (v:DV),δ=⟨[.dat .sh (.int h),.dat .sh (.int m),.dat .sh (.int n),.dat .sh (Bs w),.dat .sh (.int lf),.dat .sh (.int pl),v],0⟩/\NP v/\w++r=tg/\pl<=h.toNat/\(cw (h.toNat - pl) pl r.length)[lf]? = some r) (λδ=>h.toNat - E1 5 δ) ⟨[],tg,n.toNat,0,_,by rw[Int.toNat_of_nonneg n0]; rfl,Fi,rfl,Dv _,by rw[hm]; exact etg⟩ ?_
  (intro _ q_; obtain ⟨w,r,lf,pl,v,rfl,hv,ew,pl0,er⟩ := q_)
  have lw:w.length+r.length=m.toNat:=by rw[<- hm,<- ew,Ax]
  array_get_dec
  refine pV (λhb=>?_) (λhb=>?_)
  ·have hb:=of_decide_eq_true hb
   rw[Ac] at hb
   obtain ⟨x,r',rfl⟩ : ∃x r',r=x::r':=by
    cases r with
    | nil=>exact absurd lw (by simp; omega)
    | cons x r'=>exact ⟨x,r',rfl⟩
   rw[Bo] at lw er
   obtain ⟨d,hd⟩ : ∃d,h.toNat - pl=d+1:=by
    cases hd:h.toNat - pl with
    | zero=>rw[hd] at er; cases er
    | succ d=>exact ⟨d,rfl⟩
   rw [hd,cw_succ] at er
   array_get_dec
   rw[Ac]
   refine ⟨h - 1 - pl,m - w.length - 1,rfl,by omega,by omega,by omega,?_⟩
   rw[show (h - 1 - (pl:Int)).toNat=d by omega,show (m - (w.length:Int) - 1).toNat=r'.length by omega]
   array_get_dec
   refine Mf (λhl=>?_) (λhl=>?_)
   ·have hl':lf<ch d r'.length:=by have:=of_decide_eq_true hl; omega
    rw [Nk (by rw [Ac,cw_len]; exact hl'),Bf] at er
    cases hv2:(cw d ((pl:Int)+1) r'.length)[lf]? with
    | none=>rw[hv2] at er; cases er
    | some u =>
     rw[hv2] at er
     have er':(pl:Int)::u=x::r':=Bl er
     injection er' with ex eur
     subst ex eur
     array_get_dec
     refine ⟨by rw[Ac]; omega,⟨w++[(pl:Int)],u,lf,pl+1,.dat .sh (.int (ch d u.length)),?_,Cs,by rw[<- ew,Dn]; rfl,by omega,by rw[show h.toNat - (pl+1)=d by omega,show ((pl+1:Nat):Int)=(pl:Int)+1 by omega]; exact hv2⟩,?_⟩
     ·rw[show ((pl+1:Nat):Int)=(pl:Int)+1 by omega]
      unfold Bs
      rw[Az]
      rfl
     ·show h.toNat - ((pl:Int)+1).toNat<h.toNat - (pl:Int).toNat
      omega
   ·have hl':ch d r'.length<=lf:=by have:=of_decide_eq_false hl; omega
    rw [Iq (by rw [Ac,cw_len]; exact hl'),Ac,cw_len] at er
    array_get_dec
    refine ⟨⟨w,x::r',lf - ch d r'.length,pl+1,.dat .sh (.int (ch d r'.length)),?_,Cs,ew,by omega,by rw[show h.toNat - (pl+1)=d by omega,show ((pl+1:Nat):Int)=(pl:Int)+1 by omega,Bo]; exact er⟩,?_⟩
    ·rw[show ((lf - ch d r'.length:Nat):Int)=(lf:Int) - (ch d r'.length:Int) by omega,show ((pl+1:Nat):Int)=(pl:Int)+1 by omega]
    ·show h.toNat - ((pl:Int)+1).toNat<h.toNat - (pl:Int).toNat
     omega
  ·have hb:=of_decide_eq_false hb
   rw[Ac] at hb
   obtain rfl:r=[]:=Gp.mp (by omega)
   rw[Dc] at ew
   subst ew
   array_get_dec
   exact hR _ etg
theorem fW:FnScope ["holes", "many"] ["holes", "many"] (Bw Qi):=⟨rfl,rfl,rfl,by decide +kernel,rfl,by decide +kernel,by decide +kernel⟩
theorem eX{f f_choose f_word_at  : Addr}{fd d_choose d_word_at:Ca}(F:Fun K "words_of" "words_of" Qi f fd)(G_choose:FnOk P w K mg base Gh 1 f_choose d_choose ["n", "k"] (Oi K (Xj)))(b_choose:Binds K d_choose ["n", "k"] [])(k_choose:PySem.W.keepIn K (.ref f_choose)=true)(m_choose:mg "choose" = some (.ref f_choose))(G_word_at:FnOk P w K mg base Gh 2 f_word_at d_word_at ["holes", "many", "number"] (Oi K (fE)))(b_word_at:Binds K d_word_at ["holes", "many", "number"] [])(k_word_at:PySem.W.keepIn K (.ref f_word_at)=true)(m_word_at:mg "word_at" = some (.ref f_word_at))(mz_range:mg "range" = none):FnOk P w K mg base Gh 3 f fd ["holes", "many"] (Oi K (Yz)):=by
 refine' Hw (k:=2) F fW (λcdv A outer s H E hr=>?hb) ?h
 case hb =>
  have hr1:Room 1 _:=hr.mono (by decide)
  have hr2:Room 2 _:=hr.mono (by decide)
  have hu64:=hr.units
  exact Cc (Ek (Rn (U5 (x := "number") "holes" "many" 0 1 rfl (by decide +kernel) rfl rfl rfl) rfl (Gw rfl mz_range (Af (Ed G_choose hr1 rfl m_choose k_choose b_choose Dy (Af (Ai (pv 0)) (Af (Ai (pv 1)) Ap))) Ap)) (λ_ _ _=>Ir) (λ_ _ _=>Ed G_word_at hr2 rfl m_word_at k_word_at b_word_at Dy (Af (Ai (pv 1)) (Af (Ai (pv 2)) (Af (Ai (pv 0)) Ap))))))
 case h =>
  (intro ds R q_; obtain ⟨h,m,rfl,h0,h1,m0,hR⟩ := q_)
  refine ⟨rfl,?_⟩
  array_get_dec
  refine ⟨h,m,rfl,h0,by omega,m0,?_⟩
  array_get_dec
  have c1:=kT h.toNat m.toNat
  have c2:2 ^ h.toNat<=2 ^ 12:=Nat.pow_le_pow_right (by decide) (by omega)
  refine ⟨by omega,by omega,?_⟩
  rw[Dw]
  have cl:=cw_len h.toNat 0 m.toNat
  refine Zn (l:=Bi (ch h.toNat m.toNat)) (g:=λi:Nat=>.int i) rfl (λi=>Bs ((cw h.toNat 0 m.toNat).getD i [])) (λi hi yes no hy=>?_) ?_
  ·have hi:=Dz.mp hi
   array_get_dec
   refine ⟨h,m,i,rfl,h0,by omega,m0,by omega,by omega,λw hw=>?_⟩
   rw[Dw] at hw
   rw[Cf,hw] at hy
   array_get_dec
   exact hy
  ·have e:(Bi (ch h.toNat m.toNat)).map (λi=>Bs ((cw h.toNat 0 m.toNat).getD i []))=(cw h.toNat 0 m.toNat).map Bs:=by
    rw[<- cl]
    apply Kc
    intro i
    rw[Bf,Bf]
    by_cases hi:i<(cw h.toNat 0 m.toNat).length
    ·rw[List.getElem?_range hi,Br hi]
     show some (Bs _)=some (Bs _)
     rw[Cf,Br hi]
     rfl
    ·rw[List.getElem?_eq_none (by rw[Bq]; omega),List.getElem?_eq_none (by omega)]
     rfl
   rw[e]
   array_get_dec
   exact hR
end
open DRow
section
variable{P:Bp}{w:World}{K:PySem.W.Frag}{mg:Str->Option Value}{base:Heap}
theorem iI:FnScope ["deck", "needles", "dropped", "kept", "card"] ["deck", "needles"] (Bw Tu):=⟨rfl,rfl,rfl,by decide +kernel,rfl,by decide +kernel,by decide +kernel⟩
theorem iN{f f_within  : Addr}{fd d_within:Ca}(F:Fun K "needled" "needled" Tu f fd)(G_within:FnOk P w K mg base Gh 1 f_within d_within ["one", "other"] (Oi K (vE)))(b_within:Binds K d_within ["one", "other"] [])(k_within:PySem.W.keepIn K (.ref f_within)=true)(m_within:mg "within" = some (.ref f_within)):FnOk P w K mg base Gh 2 f fd ["deck", "needles"] (Oi K (rN)):=by
 refine' Hw (k:=1) F iI (λcdv A outer s H E hr=>?hb) ?h
 case hb =>
  have hr1:Room 1 _:=hr.mono (by decide)
  have hu64:=hr.units
  exact Bh (Ia (i:=2) iI.nd rfl (Bm rfl) (Fo Ap))
   (Bh (Ia (i:=3) iI.nd rfl (Bm rfl) (Fo Ap))
   (Bh (Gd Cb rfl (cF (Ai (pv 0))) (Cy (i:=4) iI.nd rfl (Bm rfl))
   (Cc (Jb (Tg (Ed G_within hr1 rfl m_within k_within b_within Dy (Af (Ai (pv 1)) (Af (Ai (pv 4)) Ap))))
    (Cc (Hz (pv 2) (Ai (pv 4)))) (Cc (Hz (pv 3) (Ai (pv 4)))))))
   (Cc (Ek (Hl (Af (Ke (pv 2)) (Af (Ke (pv 3)) Ap)))))))
 case h =>
  (intro ds R q_; obtain ⟨L,w,rfl,hl,hR⟩ := q_)
  refine ⟨rfl,?_⟩
  array_get_dec
  refine Mx (l:=L) (g:=Bs) rfl (λi δ=>∃v:DV,δ=⟨[.dat .sh (.list (L.map Bs)),.dat .sh (Bs w),.dat .ow (.list ((Xb id (L.take i) w).map Bs)),.dat .ow (.list ((cU id (L.take i) w).map Bs)),v],0⟩/\NP v) ?_ ?_ ?_
  ·exact ⟨_,rfl,Fi⟩
  ·(intro i c _ hc q_; obtain ⟨v,rfl,hv⟩ := q_)
   have il:=(Aw.mp hc).1
   have l1:(Xb id (L.take i) w).length<=1000:=Bk (Fs _ _) (by rw[Ds]; omega)
   have l2:(cU id (L.take i) w).length<=1000:=Bk (Fs _ _) (by rw[Ds]; omega)
   have d1:(Xb id (L.take (i+1)) w).map Bs=(Xb id (L.take i) w).map Bs++(if Oj w c=true then [Bs c] else []):=Pn _ _ hc
   have d2:(cU id (L.take (i+1)) w).map Bs=(cU id (L.take i) w).map Bs++(if (!Oj w c)=true then [Bs c] else []):=Pn _ _ hc
   array_get_dec
   refine ⟨w,c,rfl,?_⟩
   refine Mf (λh=>?_) (λh=>?_)
   ·array_get_dec
    refine ⟨by rw[Ac]; omega,.dat .sh (Bs c),?_,Cs⟩
    rw[d1,d2,show Oj w c=_ from h]
    simp
   ·array_get_dec
    refine ⟨by rw[Ac]; omega,.dat .sh (Bs c),?_,Cs⟩
    rw[d1,d2,show Oj w c=_ from h]
    simp
  ·(intro _ q_; obtain ⟨v,rfl,hv⟩ := q_)
   array_get_dec
   rw[Cz]
   exact hR
end
def Jm(code:List (List Int))(ns:List Int):List Int:=Nx (ns.flatMap λj=>code.getD j.toNat [])
def jK:PF:=λds R=>∃(code:List (List Int)) (ns:List Int),ds=[.list (code.map Bs),.list (ns.map Ba)]/\(∀w∈code,Ec 60 w)/\(∀j∈ns,0<=j/\j<code.length)/\R (Bs (Jm code ns))
def zM(m s:Int):List (List Int):=(Bi (min s.toNat m.toNat+1)).flatMap λk=>cw m.toNat 0 k
def G5:PF:=λds R=>∃m s:Int,ds=[.int m,.int s]/\0<=m/\m<=12/\0<=s/\s<=3/\R (.list ((zM m s).map λw=>.list (w.map Ba)))
theorem gM{code:List (List Int)}{ns:List Int}(h:∀w∈code,Ec 60 w):Ec 60 (Jm code ns):=Xe λx hx=>by
 obtain ⟨j,_,hx⟩:=Da.mp hx
 rw[Cf] at hx
 cases e:code[j.toNat]? with
 | none=>rw[e] at hx; cases hx
 | some w=>rw[e] at hx; exact (h w (Ao e)).2 x hx
section
variable{P:Bp}{w:World}{K:PySem.W.Frag}{mg:Str->Option Value}{base:Heap}
theorem nI:FnScope ["code", "numbers", "word", "number"] ["code", "numbers"] (Bw Wq):=⟨rfl,rfl,rfl,by decide +kernel,rfl,by decide +kernel,by decide +kernel⟩
theorem nP{f f_together  : Addr}{fd d_together:Ca}(F:Fun K "cut_in" "cut_in" Wq f fd)(G_together:FnOk P w K mg base Gh 1 f_together d_together ["one", "other"] (Oi K lI))(b_together:Binds K d_together ["one", "other"] [])(k_together:PySem.W.keepIn K (.ref f_together)=true)(m_together:mg "together" = some (.ref f_together)):FnOk P w K mg base Gh 2 f fd ["code", "numbers"] (Oi K (jK)):=by
 refine' Hw (k:=1) F nI (λcdv A outer s H E hr=>?hb) ?h
 case hb =>
  have hr1:Room 1 _:=hr.mono (by decide)
  have hu64:=hr.units
  exact Bh (Dx (i:=2) nI.nd rfl (Bm rfl) (Hl Ap))
   (Bh (Gd Cb rfl (cF (Ai (pv 1))) (Cy (i:=3) nI.nd rfl (Bm rfl))
   (Cc (Dx (i:=2) nI.nd rfl (Bm rfl) (Ed G_together hr1 rfl m_together k_together b_together Dy (Af (Ai (pv 2)) (Af (Ik (Ai (pv 0)) (Ai (pv 3))) Ap))))))
   (Cc (Ek (Jt (Ai (pv 2))))))
 case h =>
  (intro ds R q_; obtain ⟨code,ns,rfl,hr,hb,hR⟩ := q_)
  refine ⟨rfl,?_⟩
  array_get_dec
  refine Mx (l:=ns) (g:=Ba) rfl (λi δ=>∃(v3:DV),δ=⟨[.dat .sh (.list (code.map Bs)),.dat .sh (.list (ns.map Ba)),.dat .sh (Bs (Jm code (ns.take i))),v3],0⟩) ?_ ?_ ?_
  ·exact ⟨_,rfl⟩
  ·rintro i j _ hj ⟨v3,rfl⟩
   have b:=hb j (Ao hj)
   obtain ⟨w,hw⟩ : ∃w,code[j.toNat]? = some w:=⟨_,Br (by omega)⟩
   have ej:j=((j.toNat:Nat):Int):=by omega
   array_get_dec
   refine ⟨Bs w,by rw[ej]; exact dJ (by rw[Bf,hw]; rfl),?_⟩
   array_get_dec
   refine ⟨_,w,rfl,gM hr,hr w (Ao hw),?_⟩
   array_get_dec
   refine ⟨.dat .sh (.int j),Lk ?_ rfl⟩
   have : Jm code (ns.take (i+1))=Nx (Jm code (ns.take i)++w):=by
    unfold Jm
    refine eG λx=>?_
    rw[En hj,Iw,Ay,Ay,Oy]
    refine or_congr_right ?_
    rw[Kb,List.flatMap_nil,Dc,Cf,hw]
    exact Iff.rfl
   rw[this]
  ·rintro _ ⟨v3,rfl⟩
   rw[Cz]
   array_get_dec
   exact hR
theorem Ur:FnScope ["many", "several"] ["many", "several"] (Bw Ls):=⟨rfl,rfl,rfl,by decide +kernel,rfl,by decide +kernel,by decide +kernel⟩
theorem Up{f f_words_of  : Addr}{fd d_words_of:Ca}(F:Fun K "number_lists" "number_lists" Ls f fd)(G_words_of:FnOk P w K mg base Gh 3 f_words_of d_words_of ["holes", "many"] (Oi K (Yz)))(b_words_of:Binds K d_words_of ["holes", "many"] [])(k_words_of:PySem.W.keepIn K (.ref f_words_of)=true)(m_words_of:mg "words_of" = some (.ref f_words_of))(mz_min:mg "min" = none)(mz_range:mg "range" = none)(mz_list:mg "list" = none):FnOk P w K mg base Gh 4 f fd ["many", "several"] (tS K (G5)):=by
 refine' Ra (k:=3) F Ur (λcdv A outer s H E hr=>?hb) ?h
 case hb =>
  have hr1:Room 1 _:=hr.mono (by decide)
  have hr2:Room 2 _:=hr.mono (by decide)
  have hr3:Room 3 _:=hr.mono (by decide)
  have hu64:=hr.units
  exact Cc (Ek (qJ (b:=false) (yD (x := "size") "many" 0 rfl (by decide +kernel) rfl rfl rfl) (.inl rfl) (by decide +kernel) rfl (Gw rfl mz_range (Af (Jv (Er (Zb rfl) kU rfl mz_min (by decide +kernel) (Af (Ai (pv 1)) (Af (Ai (pv 0)) Ap))) Cn) Ap)) (λ_ _ _=>cF (Ed G_words_of hr3 rfl m_words_of k_words_of b_words_of Dy (Af (Ai (pv 2)) (Af (Ai (pv 0)) Ap)))) (λ_ _ _=>Le lJ (kA (i:=true)) rfl mz_list (by decide +kernel) (Af (Ai (pv 1)) Ap))))
 case h =>
  (intro ds R q_; obtain ⟨m,s,rfl,m0,m1,s0,s1,hR⟩ := q_)
  refine ⟨rfl,?_⟩
  array_get_dec
  have emin:(if m<s then m else s)=((min s.toNat m.toNat:Nat):Int):=by split <;> omega
  rw[emin]
  have en:(((min s.toNat m.toNat:Nat):Int)+1).toNat=min s.toNat m.toNat+1:=by omega
  refine ⟨by omega,by omega,?_⟩
  rw[en]
  have lc:∀k,(cw m.toNat 0 k).length<=4096:=λk=>by
   rw [cw_len]
   refine Bk (kT _ _) ?_
   have:=Nat.pow_le_pow_right (n:=2) (by decide) (show m.toNat<=12 by omega)
   omega
  have lf:((Bi (min s.toNat m.toNat+1)).flatMap λk=>(cw m.toNat 0 k).map λw=>PyData.list (w.map Ba)).length<=4 * 4096:=by
   clear hR
   have : ∀l:List Nat,(l.flatMap λk=>(cw m.toNat 0 k).map λw=>PyData.list (w.map Ba)).length<=l.length * 4096:=λl=>by
    induction l with
    | nil=>simp
    | cons a l ih =>
     rw[Kb,Ax,Ac,Bo]
     have:=lc a
     omega
   refine Bk (this (Bi (min s.toNat m.toNat+1))) ?_
   rw[Bq]
   exact Nat.mul_le_mul_right _ (show min s.toNat m.toNat+1<=4 by omega)
  refine P6 (l:=Bi (min s.toNat m.toNat+1)) (g:=λi:Nat=>.int i) rfl (λk=>(cw m.toNat 0 k).map λw=>.list (w.map Ba)) (Bk lf (by rw[Gi]; decide)) (λk hk acc fin hz hfin=>?_) ?_
  ·array_get_dec
   refine ⟨m,(k:Int),rfl,m0,m1,by omega,?_⟩
   array_get_dec
   rw[Dw]
   refine Q4 (l:=cw m.toNat 0 k) (g:=Bs) rfl (λw=>.list (w.map Ba)) (by rw[Ac] at hz; exact hz) (λw hw yes hy=>?_) hfin
   array_get_dec
   exact hy
  rw[show Na false=.tp from rfl]
  array_get_dec
  unfold zM at hR
  rw[List.map_flatMap] at hR
  exact hR
end
def sE(code:List (List Int))(ns:List Int):Prop:=∀(i:Nat) (w:List Int),code[i]? = some w->(i:Int)∉ns->sub w (Jm code ns)=false
def Tw(code:List (List Int))(s:Int):Prop:=∀ns∈zM code.length s,sE code ns
def zW(i:Nat)(ns:List Int):Ad:=.tuple [.str "covered",.int i,.list (ns.map Ba)]
def aT:PF:=λds R=>∃(code:List (List Int)) (s:Int),ds=[.list (code.map Bs),.int s]/\code.length<=12/\(∀w∈code,Ec 60 w)/\0<=s/\s<=3 /\
 (∀(i:Nat) (ns:List Int),i<code.length->ns.length<=3->R (zW i ns))/\(Tw code s->R (.tuple [.str "clean"]))
theorem qA{m s:Int}(m0:0<=m)(s0:0<=s){ns:List Int}:ns∈zM m s↔(ns.length:Int)<=s/\(ns.length:Int)<=m/\ns.Pairwise (· < ·)/\∀x∈ns,0<=x/\x<m:=by
 unfold zM
 rw[List.mem_flatMap]
 constructor
 ·(intro q_; obtain ⟨k,hk,h⟩ := q_)
  have hk:=Dz.mp hk
  obtain ⟨h1,h2,h3⟩:=cw_mem.mp h
  refine ⟨by omega,by omega,h2,λx hx=>?_⟩
  have:=h3 x hx
  omega
 ·(intro q_; obtain ⟨h1,h2,h3,h4⟩ := q_)
  refine ⟨ns.length,Dz.mpr (by omega),cw_mem.mpr ⟨rfl,h3,fun x hx=>?_⟩⟩
  have:=h4 x hx
  omega
section
variable{P:Bp}{w:World}{K:PySem.W.Frag}{mg:Str->Option Value}{base:Heap}
theorem oM:FnScope ["code", "several", "others", "made", "i", "word"] ["code", "several"] (Bw bJ):=⟨rfl,rfl,rfl,by decide +kernel,rfl,by decide +kernel,by decide +kernel⟩
theorem oV{f f_within f_cut_in f_number_lists  : Addr}{fd d_within d_cut_in d_number_lists:Ca}(F:Fun K "clean" "clean" bJ f fd)(G_within:FnOk P w K mg base Gh 1 f_within d_within ["one", "other"] (Oi K (vE)))(b_within:Binds K d_within ["one", "other"] [])(k_within:PySem.W.keepIn K (.ref f_within)=true)(m_within:mg "within" = some (.ref f_within))(G_cut_in:FnOk P w K mg base Gh 2 f_cut_in d_cut_in ["code", "numbers"] (Oi K (jK)))(b_cut_in:Binds K d_cut_in ["code", "numbers"] [])(k_cut_in:PySem.W.keepIn K (.ref f_cut_in)=true)(m_cut_in:mg "cut_in" = some (.ref f_cut_in))(G_number_lists:FnOk P w K mg base Gh 4 f_number_lists d_number_lists ["many", "several"] (tS K (G5)))(b_number_lists:Binds K d_number_lists ["many", "several"] [])(k_number_lists:PySem.W.keepIn K (.ref f_number_lists)=true)(m_number_lists:mg "number_lists" = some (.ref f_number_lists))(mz_len:mg "len" = none)(mz_enumerate:mg "enumerate" = none):FnOk P w K mg base Gh 5 f fd ["code", "several"] (tS K (aT)):=by
 refine' Ra (k:=4) F oM (λcdv A outer s H E hr=>?hb) ?h
 case hb =>
  have hr1:Room 1 _:=hr.mono (by decide)
  have hr2:Room 2 _:=hr.mono (by decide)
  have hr3:Room 3 _:=hr.mono (by decide)
  have hr4:Room 4 _:=hr.mono (by decide)
  have hu64:=hr.units
  exact Bh (Gd Cb rfl (cF (Pa G_number_lists hr4 rfl m_number_lists k_number_lists b_number_lists Dy (Af (Er Hm Lj rfl mz_len (by decide +kernel) (Af (Ai (pv 0)) Ap)) (Af (Ai (pv 1)) Ap)))) (Cy (i:=2) oM.nd rfl (Bm rfl))
   (Bh (Dx (i:=3) oM.nd rfl (Bm rfl) (Ed G_cut_in hr2 rfl m_cut_in k_cut_in b_cut_in Dy (Af (Ai (pv 0)) (Af (Ai (pv 2)) Ap))))
    (Cc (Gd Cb rfl (aQ rfl mz_enumerate (Af (Ai (pv 0)) Ap)) (Np (n:=2) rfl (Ea (Cy (i:=4) oM.nd rfl (Bm rfl)) (Ea (Cy (i:=5) oM.nd rfl (Bm rfl)) Kz)))
    (Cc (Jb (qI (qH (Wp hu64 (Ai (pv 4)) (Ai (pv 2))) (kE (Tg (Ed G_within hr1 rfl m_within k_within b_within Dy (Af (Ai (pv 5)) (Af (Ai (pv 3)) Ap)))))))
     (Cc (Ek (Hl (Af Jf (Af (Jt (Ai (pv 4))) (Af (Ai (pv 2)) Ap)))))) Hk))))))
   (Cc (Ek (Hl (Af Jf Ap))))
 case h =>
  (intro ds R q_; obtain ⟨code,s,rfl,lc,hr,s0,s1,hc,hR⟩ := q_)
  refine ⟨rfl,?_⟩
  array_get_dec
  refine ⟨(code.length:Int),s,by rw[Ac],by omega,by omega,s0,s1,?_⟩
  have nb:∀ns∈zM code.length s,ns.length<=3/\∀x∈ns,0<=x/\x<code.length:=λns hns=>by
   obtain ⟨h1,h2,h3,h4⟩:=(qA (by omega) s0).mp hns
   exact ⟨by omega,h4⟩
  generalize hL:zM (code.length:Int) s=L at nb
  unfold Tw at hR
  rw[hL] at hR
  array_get_dec
  refine Mx (l:=L) (g:=λw=>.list (w.map Ba)) rfl (λi δ=>∃(v2 v3 v4 v5:DV),δ=⟨[.dat .sh (.list (code.map Bs)),.dat .sh (.int s),v2,v3,v4,v5],0⟩/\NP v2/\NP v3/\NP v4/\NP v5/\∀ns∈L.take i,sE code ns) ?_ ?_ ?_
  ·exact ⟨_,_,_,_,rfl,Fi,Fi,Fi,Fi,λ_ z=>by simp at z⟩
  ·(intro i ns _ hns q_; obtain ⟨v2,v3,v4,v5,rfl,hv2,hv3,hv4,hv5,hcl⟩ := q_)
   have hm:=Ao hns
   obtain ⟨b1,b2⟩:=nb ns hm
   array_get_dec
   refine ⟨code,ns,rfl,hr,b2,?_⟩
   array_get_dec
   refine Mx (l:=code.zipIdx) (g:=λp=>.tuple [.int p.2,Bs p.1]) (by rw[zip_map,Co]; rfl) (λj δ=>∃(v4 v5:DV),δ=⟨[.dat .sh (.list (code.map Bs)),.dat .sh (.int s),.dat .sh (.list (ns.map Ba)),.dat .sh (Bs (Jm code ns)),v4,v5],0⟩/\NP v4/\NP v5/\∀(i:Nat) (w:List Int),i<j->code[i]? = some w->(i:Int)∉ns->sub w (Jm code ns)=false) ?_ ?_ ?_
   ·exact ⟨_,_,rfl,hv4,hv5,λ_ _ z=>absurd z (Fx _)⟩
   ·(intro j p _ hp q_; obtain ⟨v4,v5,rfl,hv4,hv5,hcj⟩ := q_)
    obtain ⟨ek,hp1,hp2,hp3⟩:=Ta hp
    obtain ⟨w,k⟩:=p
    simp only at ek hp1 hp2 hp3
    subst ek
    array_get_dec
    have go:(¬ (k:Int)∈ns->sub w (Jm code ns)=false)->∀(i:Nat) (w':List Int),i<k+1->code[i]? = some w'->(i:Int)∉ns->sub w' (Jm code ns)=false:=λh i w' hi hw' hn=>by
     by_cases e:i=k
     ·subst e
      rw[hp1] at hw'
      cases hw'
      exact h hn
     ·exact hcj i w' (by omega) hw' hn
    refine yS (λh1=>?_) (λh1=>?_)
    ·array_get_dec
     refine ⟨w,Jm code ns,rfl,?_⟩
     refine Mf (λh2=>?_) (λh2=>?_)
     ·array_get_dec
      exact hc k ns hp3 b1
     ·array_get_dec
      exact ⟨_,_,rfl,Cs,Cs,go λ_=>h2⟩
    ·array_get_dec
     exact ⟨_,_,rfl,Cs,Cs,go λz=>absurd z (by simpa using h1)⟩
   ·(intro _ q_; obtain ⟨v4,v5,rfl,hv4,hv5,hcj⟩ := q_)
    refine ⟨_,_,_,_,rfl,Cs,Cs,hv4,hv5,λns' hn'=>?_⟩
    rw[En hns] at hn'
    rcases Ay.mp hn' with z | z
    ·exact hcl ns' z
    ·rw[Aj.mp z]
     intro i w hw hi
     exact hcj i w (by rw[Eh]; exact (Aw.mp hw).1) hw hi
  ·(intro _ q_; obtain ⟨v2,v3,v4,v5,rfl,hv2,hv3,hv4,hv5,hcl⟩ := q_)
   rw[Cz] at hcl
   array_get_dec
   exact hR hcl
end
def Zk:PF:=λds R=>∃(fs:List Fld) (d:Int),ds=[Lz fs,.int d]/\(∀f∈fs,GF f)/\fs.length<=8/\1<=d/\d<=3/\∀gs:List Fld,gs.length<=fs.length->(gs.map Fld.nm).Sublist (fs.map Fld.nm)->(∀g∈gs,GF g/\Tw g.cd d)->R (Lz gs)
def C5(i:Nat)(δ:DS):Nat:=match δ.sl[i]? with
 | some (.dat _ (.list ds))=>ds.length
 | _=>0
def M3(code:List (List Int))(d:Int)(x:Ad):Prop:=(∃(i:Nat) (ns:List Int),i<code.length/\ns.length<=3/\x=zW i ns)\/Tw code d/\x=.tuple [.str "clean"]
theorem dN{code:List (List Int)}{s:Int}{R:Ad->Prop}(lc:code.length<=12)(hr:∀w∈code,Ec 60 w)(s0:0<=s)(s1:s<=3)(h:∀x,M3 code s x->R x):aT [.list (code.map Bs),.int s] R :=
 ⟨code,s,rfl,lc,hr,s0,s1,λi ns a b=>h _ (.inl ⟨i,ns,a,b,rfl⟩),λc=>h _ (.inr ⟨c,rfl⟩)⟩
section
variable{P:Bp}{w:World}{K:PySem.W.Frag}{mg:Str->Option Value}{base:Heap}
theorem Uu:FnScope ["_law_layout_here", "_law_limit", "_law_told", "_law_name", "_law_count", "_law_code", "_law_kept", "_law_found"] ["_law_layout_here", "_law_limit"] (Bw Li):=⟨rfl,rfl,rfl,by decide +kernel,rfl,by decide +kernel,by decide +kernel⟩
theorem Uv{f f_clean  : Addr}{fd d_clean:Ca}(F:Fun K "_law_cleaned" "_law_cleaned" Li f fd)(G_clean:FnOk P w K mg base Gh 5 f_clean d_clean ["code", "several"] (tS K (aT)))(b_clean:Binds K d_clean ["code", "several"] [])(k_clean:PySem.W.keepIn K (.ref f_clean)=true)(m_clean:mg "clean" = some (.ref f_clean))(mz_list:mg "list" = none):FnOk P w K mg base Gh 6 f fd ["_law_layout_here", "_law_limit"] (tS K (Zk)):=by
 refine' Ra (k:=5) F Uu (λcdv A outer s H E hr=>?hb) ?h
 case hb =>
  have hr1:Room 1 _:=hr.mono (by decide)
  have hr2:Room 2 _:=hr.mono (by decide)
  have hr3:Room 3 _:=hr.mono (by decide)
  have hr4:Room 4 _:=hr.mono (by decide)
  have hr5:Room 5 _:=hr.mono (by decide)
  have hu64:=hr.units
  exact Bh (Ia (i:=2) Uu.nd rfl (Bm rfl) (Fo Ap))
   (Bh (Gd Cb rfl (cF (Ai (pv 0))) (Np (n:=3) rfl (Ea (Cy (i:=3) Uu.nd rfl (Bm rfl)) (Ea (Cy (i:=4) Uu.nd rfl (Bm rfl)) (Ea (Cy (i:=5) Uu.nd rfl (Bm rfl)) Kz))))
   (Bh (Dx (i:=6) Uu.nd rfl (Bm rfl) (Le lJ (kA (i:=true)) rfl mz_list (by decide +kernel) (Af (Ai (pv 5)) Ap)))
    (Bh (Dx (i:=7) Uu.nd rfl (Bm rfl) (Pa G_clean hr5 rfl m_clean k_clean b_clean Dy (Af (Ai (pv 6)) (Af (Ai (pv 1)) Ap))))
    (Bh (cJ Cb (Zr hu64 (Ik (Ai (pv 7)) Cn) Jf)
    (Bh (Dx (i:=6) Uu.nd rfl (Bm rfl) (iO (Kh (i:=true) (Ai (pv 6)) Jn (Jj (Ik (Ai (pv 7)) Cn))) (Kh (i:=true) (Ai (pv 6)) (Jj (Jv (Ik (Ai (pv 7)) Cn) Cn)) Jn)))
     (Cc (Dx (i:=7) Uu.nd rfl (Bm rfl) (Pa G_clean hr5 rfl m_clean k_clean b_clean Dy (Af (Ai (pv 6)) (Af (Ai (pv 1)) Ap)))))))
    (Cc (Jb (cP hu64 (Ai (pv 6)) (Fo Ap))
    (Cc (Qj (pv 2) (Hl (Af (Jt (Ai (pv 3))) (Af (Jt (Ai (pv 4))) (Af (Ai (pv 6)) Ap)))))) Hk))))))
   (Cc (Ek (Ke (pv 2)))))
 case h =>
  (intro ds R q_; obtain ⟨fs,d,rfl,hf,lf,d0,d1,hR⟩ := q_)
  refine ⟨rfl,?_⟩
  unfold Lz
  array_get_dec
  refine Mx (l:=fs) (g:=Fld.d) rfl (λi δ=>∃(gs:List Fld) (m2:Md) (v3 v4 v5 v6 v7:DV),δ=⟨[.dat .sh (.list (fs.map Fld.d)),.dat .sh (.int d),.dat m2 (.list (gs.map Fld.d)),v3,v4,v5,v6,v7],0⟩/\(m2=.ow\/m2=.tp)/\NP v3/\NP v4/\NP v5/\NP v6/\NP v7/\gs.length<=i/\(gs.map Fld.nm).Sublist ((fs.take i).map Fld.nm)/\∀g∈gs,GF g/\Tw g.cd d) ?_ ?_ ?_
  ·exact ⟨[],.ow,_,_,_,_,_,rfl,.inl rfl,Fi,Fi,Fi,Fi,Fi,An _,Cj _,λ_ z=>(nomatch z)⟩
  ·(intro i f _ hi q_; obtain ⟨gs,m2,v3,v4,v5,v6,v7,rfl,hm2,hv3,hv4,hv5,hv6,hv7,lg,sg,hg⟩ := q_)
   have hm:=Ao hi
   have il:=(Aw.mp hi).1
   have gf:=hf f hm
   have r60:∀w∈f.cd,Ec 60 w:=λw hw=>(gf.2.2.2.2.2 w hw).up (by have:=gf.2.2.1; omega)
   rw[show f.d=.tuple [.str f.nm,.int f.ct,.list (f.cd.map Bs)] from rfl]
   array_get_dec
   refine dN (by have:=gf.2.2.2.2.1; omega) r60 (by omega) (by omega) λx hx=>?_
   array_get_dec
   refine qQ (λδ=>∃(cd:List (List Int)) (x:Ad),δ=⟨[.dat .sh (.list (fs.map Fld.d)),.dat .sh (.int d),.dat m2 (.list (gs.map Fld.d)),.dat .sh (.str f.nm),.dat .sh (.int f.ct),.dat .sh (.list (f.cd.map Bs)),.dat .sh (.list (cd.map Bs)),.dat .sh x],0⟩/\M3 cd d x/\cd.length<=6/\∀w∈cd,w∈f.cd) (λδ=>C5 6 δ) ⟨f.cd,x,rfl,hx,gf.2.2.2.2.1,λ_ z=>z⟩ ?_
   (intro _ q_; obtain ⟨cd,x,rfl,hx,lcd,hcd⟩ := q_)
   rcases hx with ⟨i2,ns,hi2,ln,rfl⟩ | ⟨hc,rfl⟩
   ·unfold zW
    array_get_dec
    refine pV (λ_=>?_) (λz=>absurd z (by decide))
    array_get_dec
    have e:Hx (cd.map Bs) none (some (i2:Int))++Hx (cd.map Bs) (some ((i2:Int)+1)) none=(cd.eraseIdx i2).map Bs:=by rw[DRow.cut_out,Kk,Kk,Az,Kw,Sq]
    have le:=congrArg Ff e
    have lx:=List.length_eraseIdx_of_lt hi2
    rw[Ax,Ac] at le
    refine ⟨by omega,?_⟩
    rw[e]
    refine dN (by omega) (λw hw=>r60 w (hcd w (gA hw))) (by omega) (by omega) λx hx=>⟨⟨cd.eraseIdx i2,x,rfl,hx,by omega,λw hw=>hcd w (gA hw)⟩,?_⟩
    show ((cd.eraseIdx i2).map Bs).length<(cd.map Bs).length
    rw[Ac,Ac]
    omega
   ·array_get_dec
    refine pV (λz=>absurd z (by decide)) (λ_=>?_)
    array_get_dec
    have st:((fs.take (i+1)).map Fld.nm)=(fs.take i).map Fld.nm++[f.nm]:=by rw[En hi,Az]; rfl
    refine Mf (λh2=>?_) (λh2=>?_)
    ·array_get_dec
     refine ⟨by rcases hm2 with rfl | rfl <;> rfl,by rcases hm2 with rfl | rfl <;> simp [npk],by decide,by rw[Ac]; omega,gs++[⟨f.nm,f.ct,cd⟩],.tp,_,_,_,_,_,Lk (by rw[Az]; rcases hm2 with rfl | rfl <;> rfl) rfl,.inr rfl,Cs,Cs,Cs,Cs,Cs,by rw[Ax,Ee]; omega,?_,λg hg'=>?_⟩
     ·rw[st,Az]
      exact sg.append (Cj _)
     ·rcases Ay.mp hg' with z | z
      ·exact hg g z
      ·rw[Aj.mp z]
       refine ⟨⟨gf.1,gf.2.1,gf.2.2.1,λq=>?_,lcd,λw hw=>gf.2.2.2.2.2 w (hcd w hw)⟩,hc⟩
       have q:cd=[]:=q
       rw[q] at h2
       cases h2
    ·array_get_dec
     refine ⟨gs,m2,_,_,_,_,_,rfl,hm2,Cs,Cs,Cs,Cs,Cs,by omega,?_,hg⟩
     rw[st]
     exact sg.trans (fZ _ _)
  ·(intro _ q_; obtain ⟨gs,m2,v3,v4,v5,v6,v7,rfl,hm2,hv3,hv4,hv5,hv6,hv7,lg,sg,hg⟩ := q_)
   rw[Cz] at sg
   rcases hm2 with rfl | rfl
   ·array_get_dec
    exact hR gs lg sg hg
   ·array_get_dec
    exact hR gs lg sg hg
end
def vS(d:Int)(us:List Gz):Prop:=∀nm:Str,((us.filter λu=>decide (u.1=nm)).length:Int)<=d
def kH:PF:=λds R=>∃(vs:List Gz) (d:Int),ds=[Fn vs,.int d]/\vs.length<=8/\1<=d/\d<=3/\∀us:List Gz,us.length<=vs.length->(∀u∈us,u∈vs)->vS d us->R (Fn us)
def Rg(fs:List Fld)(cs:List (List Gz))(q:List Gz):List Nat:=(cs.zipIdx.filter λp=>sub (Lp fs q) (Lp fs p.1)).map (·.2)
def oW:PF:=λds R=>∃(fs:List Fld) (cs:List (List Gz)) (q:List Gz),ds=[Lz fs,Ny cs,Fn q]/\xD fs/\cs.length<=60/\(∀c∈cs,∀v∈c,oA fs v)/\(∀v∈q,oA fs v)/\R (Ic (Rg fs cs q))
theorem Wn{α:Type}(P Q:α->Bool):∀l:List α,(∀a∈l,P a=true->Q a=true)->(l.filter Q).Perm (l.filter P++l.filter λa=>!P a && Q a)
 | [],_=>.refl _
 | a::l,h=>by
  have ih:=Wn P Q l λx hx=>h x (Ab _ hx)
  have ha:=h a (Aa ..)
  cases hp:P a with
  | true =>
   rw[Jq (ha hp),Jq hp,Fj (by simp [hp])]
   exact ih.cons a
  | false =>
   cases hq:Q a with
   | true =>
    rw[Jq hq,Fj (by simp [hp]),Jq (by simp [hp,hq])]
    exact (ih.cons a).trans List.perm_middle.symm
   | false =>
    rw[Fj (by simp [hq]),Fj (by simp [hp]),Fj (by simp [hq])]
    exact ih
theorem vL{fs:List Fld}{c q:List Gz}(h:(q.all λv=>decide (v∈c))=true):sub (Lp fs q) (Lp fs c)=true:=by
 rw[Ej] at h
 unfold sub
 rw[Ej]
 intro x hx
 unfold Lp at hx ⊢
 rw[Oy,List.mem_flatMap] at hx
 obtain ⟨v,hv,hx⟩:=hx
 have:=h v hv
 rw[decide_eq_true_eq] at this ⊢
 exact Oy.mpr (Da.mpr ⟨v,this,hx⟩)
theorem Wy(fs:List Fld)(cs:List (List Gz))(q:List Gz):(Rg fs cs q).Perm (Jw cs q++Gy fs cs q):=by
 unfold Rg Jw Gy
 rw[<- Az]
 exact (Wn _ _ _ λp _ h=>vL h).map _
theorem rX(fs:List Fld)(cs:List (List Gz))(q:List Gz):((Rg fs cs q).map λi:Nat=>(i:Int)).Pairwise (·<=·):=by
 unfold Rg
 refine Jz.mpr ?_
 refine List.Pairwise.imp (λ{a b} z=>Int.ofNat_le.mpr (Hh z)) (List.Pairwise.sublist ((List.filter_sublist (l:=cs.zipIdx)).map _) ?_)
 rw[List.zipIdx_map_snd,List.range'_eq_map_range]
 exact Jz.mpr (List.pairwise_lt_range.imp λz=>by omega)
def jU:PF:=λds R=>∃(fs:List Fld) (cs:List (List Gz)) (q:List Gz),ds=[Lz fs,Ny cs,Fn q]/\xD fs/\cs.length<=60/\(∀c∈cs,∀v∈c,oA fs v)/\(∀v∈q,oA fs v)/\R (.tuple [Ic (Jw cs q),Ic (Gy fs cs q)])
section
variable{P:Bp}{w:World}{K:PySem.W.Frag}{mg:Str->Option Value}{base:Heap}
theorem Yn:FnScope ["_law_values_here", "_law_limit", "_law_told", "_law_value"] ["_law_values_here", "_law_limit"] (Bw Nm):=⟨rfl,rfl,rfl,by decide +kernel,rfl,by decide +kernel,by decide +kernel⟩
theorem Yq{f   : Addr}{fd  : Ca}(F:Fun K "_law_fewer" "_law_fewer" Nm f fd)(mz_len:mg "len" = none):FnOk P w K mg base Gh 1 f fd ["_law_values_here", "_law_limit"] (Oi K (kH)):=by
 refine' Hw (k:=0) F Yn (λcdv A outer s H E hr=>?hb) ?h
 case hb =>
  have hu64:=hr.units
  exact Bh (Ia (i:=2) Yn.nd rfl (Bm rfl) (Fo Ap))
   (Bh (Gd Cb rfl (cF (Ai (pv 0))) (Cy (i:=3) Yn.nd rfl (Or.inr rfl))
   (Cc (Jb (eB (Er Hm Lj rfl mz_len (by decide +kernel) (Af (Rn (yD (x := "_law_other") "_law_value" 3 rfl (by decide +kernel) rfl rfl rfl) rfl (cF (Ai (pv 2))) (λ_ _ _=>jJ (Zr hu64 (Ik (Ai (pv 0)) Cn) (Ik (Ai (pv 1)) Cn))) (λ_ _ _=>Ai (pv 0))) Ap)) (Ai (pv 1)))
    (Cc (Hz (pv 2) (Ai (pv 3)))) Hk)))
   (Cc (Ek (Ke (pv 2)))))
 case h =>
  (intro ds R q_; obtain ⟨vs,d,rfl,lv,d0,d1,hR⟩ := q_)
  refine ⟨rfl,?_⟩
  unfold Fn
  array_get_dec
  refine Mx (l:=vs) (g:=Jl) rfl (λi δ=>∃(us:List Gz) (v3:DV),δ=⟨[.dat .sh (.list (vs.map Jl)),.dat .sh (.int d),.dat .ow (.list (us.map Jl)),v3],0⟩/\NP v3/\us.length<=i/\(∀u∈us,u∈vs)/\vS d us) ?_ ?_ ?_
  ·exact ⟨[],_,rfl,Fi,An _,λ_ z=>(nomatch z),λnm=>by show (0:Int)<=d; omega⟩
  ·(intro i v _ hi q_; obtain ⟨us,v3,rfl,hv3,lu,hu,fu⟩ := q_)
   have hm:=Ao hi
   have il:=(Aw.mp hi).1
   rw[show Jl v=.tuple [.str v.1,.int (v.2:Int)] from rfl]
   array_get_dec
   refine wV (l:=us) (g:=Jl) rfl (λu=>decide (u.1=v.1)) Jl (λu hu' yes no hy hn=>?_) ?_
   ·rw[show Jl u=.tuple [.str u.1,.int (u.2:Int)] from rfl]
    array_get_dec
    refine jN (λq=>?_) (λq=>?_)
    ·array_get_dec
     exact hy (by simpa using q)
    ·exact hn (by simpa using q)
   array_get_dec
   rw[Ac]
   refine Mf (λh=>?_) (λh=>?_)
   ·array_get_dec
    refine ⟨by rw[Ac]; omega,us++[v],_,Lk (by rw[Az]; rfl) rfl,Cs,by rw[Ax,Ee]; omega,λu hu'=>?_,λnm=>?_⟩
    ·rcases Ay.mp hu' with z | z
     ·exact hu u z
     ·rw[Aj.mp z]; exact hm
    ·have:=fu nm
     have h:=of_decide_eq_true h
     rw[Ex,Ax]
     by_cases e:v.1=nm
     ·subst e
      have e1:([v].filter λu=>decide (u.1=v.1)).length=1:=by simp
      rw[e1]
      omega
     ·rw[Fj (by simpa using e)]
      simpa using this
   ·array_get_dec
    exact ⟨us,_,rfl,Cs,by omega,hu,fu⟩
  ·(intro _ q_; obtain ⟨us,v3,rfl,hv3,lu,hu,fu⟩ := q_)
   array_get_dec
   exact hR us lu hu fu
end
open DRow
section
variable{P:Bp}{w:World}{K:PySem.W.Frag}{mg:Str->Option Value}{base:Heap}
theorem Us:FnScope ["_law_layout_here", "_law_cards", "_law_question", "_law_words", "_law_dropped_here"] ["_law_layout_here", "_law_cards", "_law_question"] (Bw Lo):=⟨rfl,rfl,rfl,by decide +kernel,rfl,by decide +kernel,by decide +kernel⟩
theorem Uo{f f_written_as f_needled  : Addr}{fd d_written_as d_needled:Ca}(F:Fun K "_law_dropped" "_law_dropped" Lo f fd)(G_written_as:FnOk P w K mg base Gh 3 f_written_as d_written_as ["layout", "values"] (Oi K (aG)))(b_written_as:Binds K d_written_as ["layout", "values"] [])(k_written_as:PySem.W.keepIn K (.ref f_written_as)=true)(m_written_as:mg "written_as" = some (.ref f_written_as))(G_needled:FnOk P w K mg base Gh 2 f_needled d_needled ["deck", "needles"] (Oi K (rN)))(b_needled:Binds K d_needled ["deck", "needles"] [])(k_needled:PySem.W.keepIn K (.ref f_needled)=true)(m_needled:mg "needled" = some (.ref f_needled))(mz_enumerate:mg "enumerate" = none):FnOk P w K mg base Gh 4 f fd ["_law_layout_here", "_law_cards", "_law_question"] (Oi K (oW)):=by
 refine' Hw (k:=3) F Us (λcdv A outer s H E hr=>?hb) ?h
 case hb =>
  have hr1:Room 1 _:=hr.mono (by decide)
  have hr2:Room 2 _:=hr.mono (by decide)
  have hr3:Room 3 _:=hr.mono (by decide)
  have hu64:=hr.units
  exact Bh (jM (o:=false) (i0:=3) Us.nd rfl rfl (yD (x := "_law_values_here") "_law_layout_here" 0 rfl (by decide +kernel) rfl rfl rfl) rfl (cF (Ai (pv 1))) (λ_ _ _=>Ir) (λ_ _ _=>Ed G_written_as hr3 rfl m_written_as k_written_as b_written_as Dy (Af (Ai (pv 1)) (Af (Ai (pv 0)) Ap))))
   (Bh (Dx (i:=4) Us.nd rfl (Or.inr rfl) (Ik (Ed G_needled hr2 rfl m_needled k_needled b_needled Dy (Af (Ai (pv 3)) (Af (Ed G_written_as hr3 rfl m_written_as k_written_as b_written_as Dy (Af (Ai (pv 0)) (Af (Ai (pv 2)) Ap))) Ap))) Cn))
   (Cc (Ek (fX (yD (x := "_law_i") "_law_dropped_here" 4 rfl (by decide +kernel) rfl rfl rfl) (.inl rfl) (by decide +kernel) rfl (aQ rfl mz_enumerate (Af (Ai (pv 3)) Ap)) (λ_ _ _=>jJ (C3 hu64 (Ai (pv 1)) (Ai (pv 2)))) (λ_ _ _=>Ai (pv 0))))))
 case h =>
  (intro ds R q_; obtain ⟨fs,cs,q,rfl,hL,lc,hc,hq,hR⟩ := q_)
  refine ⟨rfl,?_⟩
  unfold Ny
  array_get_dec
  refine Zn (l:=cs) (g:=Fn) rfl (λc=>Bs (Lp fs c)) (λc hcm yes no hy=>?_) ?_
  ·array_get_dec
   refine ⟨fs,c,rfl,hL,hc c hcm,?_⟩
   array_get_dec
   exact hy
  array_get_dec
  refine ⟨fs,q,rfl,hL,hq,?_⟩
  array_get_dec
  refine ⟨cs.map (Lp fs),Lp fs q,by rw[Co]; rfl,by rw[Ac]; omega,?_⟩
  array_get_dec
  refine qL (l:=cs.zipIdx) (g1:=λp=>.int p.2) (g2:=λp=>Bs (Lp fs p.1)) (by rw[zip_map,Co]; rfl) (λp=>sub (Lp fs q) (Lp fs p.1)) (λp=>.int p.2) (λp hp yes no hy hn=>?_) ?_
  ·obtain ⟨j,hj⟩:=Hr.mp hp
   obtain ⟨ek,hp1,hp2,hp3⟩:=Ta hj
   have hin:Lp fs p.1∈Xb id (cs.map (Lp fs)) (Lp fs q)↔sub (Lp fs q) (Lp fs p.1)=true:=by
    unfold Xb
    rw[List.mem_filter]
    exact ⟨λz=>z.2,λz=>⟨Du (Ao (ek▸hp1)),z⟩⟩
   array_get_dec
   refine jN (λh=>?_) (λh=>?_)
   ·array_get_dec
    exact hy (hin.mp (by simpa using h))
   ·exact hn (by
     cases e:sub (Lp fs q) (Lp fs p.1) with
     | false=>rfl
     | true =>
      have:=hin.mpr e
      simp [this] at h)
  array_get_dec
  unfold Rg Ic at hR
  rw[Co] at hR
  exact hR
theorem Yr:FnScope ["_law_layout_here", "_law_cards", "_law_question", "_law_found", "_law_wrong"] ["_law_layout_here", "_law_cards", "_law_question"] (Bw Nr):=⟨rfl,rfl,rfl,by decide +kernel,rfl,by decide +kernel,by decide +kernel⟩
theorem Yl{f f_find f_L_dropped  : Addr}{fd d_find d_L_dropped:Ca}(F:Fun K "_law_asked" "_law_asked" Nr f fd)(G_find:FnOk P w K mg base Gh 4 f_find d_find ["layout", "cards", "question"] (Oi K (gO)))(b_find:Binds K d_find ["layout", "cards", "question"] [])(k_find:PySem.W.keepIn K (.ref f_find)=true)(m_find:mg "find" = some (.ref f_find))(G_L_dropped:FnOk P w K mg base Gh 4 f_L_dropped d_L_dropped ["_law_layout_here", "_law_cards", "_law_question"] (Oi K (oW)))(b_L_dropped:Binds K d_L_dropped ["_law_layout_here", "_law_cards", "_law_question"] [])(k_L_dropped:PySem.W.keepIn K (.ref f_L_dropped)=true)(m_L_dropped:mg "_law_dropped" = some (.ref f_L_dropped))(mz_sorted:mg "sorted" = none):FnOk P w K mg base Gh 5 f fd ["_law_layout_here", "_law_cards", "_law_question"] (tS K (jU)):=by
 refine' Ra (k:=4) F Yr (λcdv A outer s H E hr=>?hb) ?h
 case hb =>
  have hr1:Room 1 _:=hr.mono (by decide)
  have hr2:Room 2 _:=hr.mono (by decide)
  have hr3:Room 3 _:=hr.mono (by decide)
  have hr4:Room 4 _:=hr.mono (by decide)
  have hu64:=hr.units
  exact Bh (sH (Ed G_find hr4 rfl m_find k_find b_find Dy (Af (Ai (pv 0)) (Af (Ai (pv 1)) (Af (Ai (pv 2)) Ap)))) (Np (n:=2) rfl (Ea (Cy (i:=3) Yr.nd rfl (Bm rfl)) (Ea (Cy (i:=4) Yr.nd rfl (Bm rfl)) Kz))))
   (Bh (Jb (cP hu64 (Er bV pE rfl mz_sorted (by decide +kernel) (Af (iO (Ai (pv 3)) (Ai (pv 4))) Ap)) (Ed G_L_dropped hr4 rfl m_L_dropped k_L_dropped b_L_dropped Dy (Af (Ai (pv 0)) (Af (Ai (pv 1)) (Af (Ai (pv 2)) Ap)))))
   (Cc (Ek pI)) Hk)
   (Cc (Ek (Hl (Af (Ai (pv 3)) (Af (Ai (pv 4)) Ap))))))
 case h =>
  (intro ds R q_; obtain ⟨fs,cs,q,rfl,hL,lc,hc,hq,hR⟩ := q_)
  refine ⟨rfl,?_⟩
  array_get_dec
  refine ⟨fs,cs,q,rfl,hL,lc,hc,hq,?_⟩
  unfold Ic
  array_get_dec
  have lf:(Jw cs q).length<=cs.length:=by
   unfold Jw
   rw[Ac]
   exact Bk (Fs _ _) (by rw[Eh]; exact An _)
  have lw:(Jw cs q).length+(Gy fs cs q).length<=cs.length:=by
   have:=(Wy fs cs q).length_eq
   rw[Ax] at this
   rw[<- this]
   unfold Rg
   rw[Ac]
   exact Bk (Fs _ _) (by rw[Eh]; exact An _)
  refine ⟨by rw[Ac,Ac]; omega,(Jw cs q++Gy fs cs q).map λi:Nat=>(i:Int),by rw[Co,Az]; rfl,by rw[Ac,Ax]; omega,?_⟩
  refine ⟨fs,cs,q,rfl,hL,lc,hc,hq,?_⟩
  unfold Ic
  rw[<- fS ((Wy fs cs q).map _) (rX fs cs q),show (Rg fs cs q).map (λi:Nat=>Ba (i:Int))=((Rg fs cs q).map λi:Nat=>(i:Int)).map Ba by rw[Co]; rfl]
  array_get_dec
  exact hR
end
def wd(fs:List Fld)(v:Gz):List Int:=match fs.find? (λf=>decide (f.nm=v.1)) with
 | some f=>f.cd.getD v.2 []
 | none=>[]
theorem Vj:∀{fs:List Fld} {f:Fld} {nm:Str},(fs.map Fld.nm).Nodup->f∈fs->f.nm=nm->fs.find? (λg=>decide (g.nm=nm))=some f
 | [],_,_,_,h,_=>by cases h
 | g::fs,f,nm,nd,h,e=>by
  rw[Au,List.nodup_cons] at nd
  rcases Ag.mp h with rfl | h
  ·rw[List.find?_cons_of_pos (by simpa using e)]
  ·rw[List.find?_cons_of_neg (by
    intro z
    have z:g.nm=nm:=by simpa using z
    exact nd.1 (Bv.mpr ⟨f,h,e.trans z.symm⟩))]
   exact Vj nd.2 h e
theorem Pw{fs:List Fld}{f:Fld}{v:Gz}(nd:(fs.map Fld.nm).Nodup)(hf:f∈fs)(e:f.nm=v.1):wd fs v=f.cd.getD v.2 []:=by
 unfold wd
 rw[Vj nd hf e]
theorem sI:∀{fs:List Fld} {b:Int} {p:Int×Fld},(∀f∈fs,0<=f.ct)->p∈zb fs b->b<=p.1
 | [],_,_,_,h=>by cases h
 | f::fs,b,p,h0,h=>by
  rcases Ag.mp h with rfl | h
  ·exact Int.le_refl _
  ·have:=sI (λg hg=>h0 g (Ab _ hg)) h
   have:=h0 f (Aa ..)
   omega
theorem oQ:∀{fs:List Fld} {b:Int} {p q:Int×Fld} {y z:Int},(∀f∈fs,0<=f.ct)->p∈zb fs b->q∈zb fs b->0<=y->y<p.2.ct->0<=z->z<q.2.ct->p.1+y=q.1+z->p=q
 | [],_,_,_,_,_,_,h,_,_,_,_,_,_=>by cases h
 | f::fs,b,p,q,y,z,h0,hp,hq,y0,y1,z0,z1,e=>by
  have h1:∀g∈fs,0<=g.ct:=λg hg=>h0 g (Ab _ hg)
  rcases Ag.mp hp with rfl | hp
  ·rcases Ag.mp hq with rfl | hq
   ·rfl
   ·have:=sI h1 hq
    simp only at y1 e
    omega
  ·rcases Ag.mp hq with rfl | hq
   ·have:=sI h1 hp
    simp only at z1 e
    omega
   ·exact oQ h1 hp hq y0 y1 z0 z1 e
theorem xT{fs:List Fld}(hL:LL fs){f:Fld}(hf:f∈fs){j:Nat}{y:Int}(hy:y∈f.cd.getD j []):0<=y/\y<f.ct:=by
 rw[Cf] at hy
 cases e:f.cd[j]? with
 | none=>rw[e] at hy; cases hy
 | some w=>rw[e] at hy; exact ((hL.1.2.1 f hf).2 w (Ao e)).2 y hy
theorem Vh{fs:List Fld}(hL:LL fs){v:Gz}(hv:Px fs v){x:Int}:x∈B1 fs v↔∃p∈zb fs 0,p.2∈fs/\p.2.nm=v.1/\∃y∈wd fs v,x=p.1+y:=by
 obtain ⟨pl,hpl⟩:=Tj 0 hL.2 hv
 unfold B1
 rw[hpl]
 show x∈pl↔_
 rw[cK hL.2 hpl x]
 constructor
 ·(intro q_; obtain ⟨p,hp,hx⟩ := q_)
  have hpf:p.2∈fs:=by
   rw[<- iC fs 0]
   exact Du hp
  unfold cM at hx
  split at hx
  ·rename_i e
   obtain ⟨y,hy,rfl⟩:=Bv.mp hx
   exact ⟨p,hp,hpf,e,y,by rw[Pw hL.2 hpf e]; exact hy,rfl⟩
  ·cases hx
 ·(intro q_; obtain ⟨p,hp,hpf,e,y,hy,rfl⟩ := q_)
  refine ⟨p,hp,?_⟩
  unfold cM
  rw[if_pos e]
  rw[Pw hL.2 hpf e] at hy
  exact Du hy
theorem Rr{fs:List Fld}(hL:LL fs){q c:List Gz}(hq:∀v∈q,Px fs v)(hc:∀v∈c,Px fs v):sub (Lp fs q) (Lp fs c)=true↔∀v∈q,∀x∈wd fs v,∃u∈c,u.1=v.1/\x∈wd fs u:=by
 have h0:∀f∈fs,0<=f.ct:=λf hf=>(hL.1.2.1 f hf).1.2.1
 rw[tW]
 unfold Lp
 constructor
 ·intro h v hv y hy
  obtain ⟨f,hf,e1,e2⟩:=hq v hv
  obtain ⟨p,hp,rfl⟩ : ∃p∈zb fs 0,p.2=f:=by
   rw[<- iC fs 0] at hf
   obtain ⟨p,hp,e⟩:=Bv.mp hf
   exact ⟨p,hp,e⟩
  have hx:=h (p.1+y) (Oy.mpr (Da.mpr ⟨v,hv,(Vh hL (hq v hv)).mpr ⟨p,hp,hf,e1,y,hy,rfl⟩⟩))
  obtain ⟨u,hu,hx⟩:=Da.mp (Oy.mp hx)
  obtain ⟨p',hp',hf',e1',y',hy',e⟩:=(Vh hL (hc u hu)).mp hx
  have by1:=xT hL hf (by rw[Pw hL.2 hf e1] at hy; exact hy)
  have by2:=xT hL hf' (by rw[Pw hL.2 hf' e1'] at hy'; exact hy')
  have ep:=oQ h0 hp hp' by1.1 by1.2 by2.1 by2.2 e
  subst ep
  obtain rfl:y=y':=by omega
  exact ⟨u,hu,e1'.symm.trans e1,hy'⟩
 ·intro h x hx
  obtain ⟨v,hv,hx⟩:=Da.mp (Oy.mp hx)
  obtain ⟨p,hp,hf,e1,y,hy,rfl⟩:=(Vh hL (hq v hv)).mp hx
  obtain ⟨u,hu,eu,hy'⟩:=h v hv y hy
  exact Oy.mpr (Da.mpr ⟨u,hu,(Vh hL (hc u hu)).mpr ⟨p,hp,hf,e1.trans eu.symm,y,hy',rfl⟩⟩)
theorem Wv{fs gs:List Fld}(hL:LL fs)(hG:LL gs)(hs:∀f∈fs,f∈gs){cs:List (List Gz)}{q:List Gz}(hq:∀v∈q,Px fs v)(hc:∀c∈cs,∀v∈c,Px fs v):Gy gs cs q=Gy fs cs q:=by
 have up:∀{v:Gz},Px fs v->Px gs v:=λ⟨f,hf,e⟩=>⟨f,hs f hf,e⟩
 have ew:∀{v:Gz},Px fs v->wd gs v=wd fs v:=λ⟨f,hf,e,_⟩=>(Pw hG.2 (hs f hf) e).trans (Pw hL.2 hf e).symm
 unfold Gy
 congr 1
 refine List.filter_congr λp hp=>?_
 obtain ⟨j,hj⟩:=Hr.mp hp
 obtain ⟨ek,hp1,hp2,hp3⟩:=Ta hj
 have hcp:=hc p.1 (Ao (ek▸hp1))
 congr 1
 rw[Lw,Rr hG (λv hv=>up (hq v hv)) (λv hv=>up (hcp v hv)),Rr hL hq hcp]
 constructor
 ·intro h v hv x hx
  obtain ⟨u,hu,e,hx⟩:=h v hv x (by rw[ew (hq v hv)]; exact hx)
  exact ⟨u,hu,e,by rw[<- ew (hcp u hu)]; exact hx⟩
 ·intro h v hv x hx
  obtain ⟨u,hu,e,hx⟩:=h v hv x (by rw[<- ew (hq v hv)]; exact hx)
  exact ⟨u,hu,e,by rw[ew (hcp u hu)]; exact hx⟩
theorem Wk{fs:List Fld}(hL:LL fs){d:Int}(d0:0<=d)(hcl:∀f∈fs,Tw f.cd d){cs:List (List Gz)}{q:List Gz}(hq:∀v∈q,Px fs v)(hc:∀c∈cs,∀v∈c,Px fs v)(hw:∀c∈cs,vS d c):Gy fs cs q=[]:=by
 unfold Gy
 rw[List.map_eq_nil_iff,List.filter_eq_nil_iff]
 intro p hp h
 obtain ⟨j,hj⟩:=Hr.mp hp
 obtain ⟨ek,hp1,hp2,hp3⟩:=Ta hj
 have hcm:=Ao (ek▸hp1)
 have hcp:=hc p.1 hcm
 rw[Cp] at h
 obtain ⟨h1,h2⟩:=h
 rw[Rr hL hq hcp] at h2
 have : (q.all λv=>decide (v∈p.1))=true:=by
  rw[Ej]
  intro v hv
  rw[decide_eq_true_eq]
  refine Ib λhn=>?_
  obtain ⟨f,hf,e1,e2⟩:=hq v hv
  obtain ⟨w,hw'⟩ : ∃w,f.cd[v.2]? = some w:=⟨_,Br e2⟩
  let ns:=Nx ((p.1.filter λu=>decide (u.1=v.1)).map λu=>(u.2:Int))
  have hmem:∀x,x∈ns↔∃u∈p.1,u.1=v.1/\(u.2:Int)=x:=λx=>by
   show x∈Nx _↔_
   rw[Oy,List.mem_map]
   constructor
   ·(intro q_; obtain ⟨u,hu,rfl⟩ := q_)
    obtain ⟨a,b⟩:=List.mem_filter.mp hu
    exact ⟨u,a,by simpa using b,rfl⟩
   ·(intro q_; obtain ⟨u,a,b,rfl⟩ := q_)
    exact ⟨u,List.mem_filter.mpr ⟨a,by simpa using b⟩,rfl⟩
  have nd:ns.Nodup:=(Ju _).imp λz=>by omega
  have hlt:∀x∈ns,0<=x/\x<f.cd.length:=λx hx=>by
   obtain ⟨u,hu,eu,rfl⟩:=(hmem x).mp hx
   obtain ⟨f',hf',e1',e2'⟩:=hcp u hu
   have : f'=f:=by
    have a:=Vj hL.2 hf' (e1'.trans eu)
    rw[Vj hL.2 hf e1] at a
    exact (Bl a).symm
   subst this
   omega
  have l1:(ns.length:Int)<=d:=by
   have a:=NdS.len_leI (l2:=(p.1.filter λu=>decide (u.1=v.1)).map λu=>(u.2:Int)) nd λx hx=>Oy.mp hx
   rw[Ac] at a
   have:=hw p.1 hcm v.1
   omega
  have l2:(ns.length:Int)<=f.cd.length:=by
   have a:=NdS.len_leI (l2:=(Bi f.cd.length).map λi:Nat=>(i:Int)) nd λx hx=>by
    have:=hlt x hx
    exact Bv.mpr ⟨x.toNat,Dz.mpr (by omega),by omega⟩
   rw[Ac,Bq] at a
   omega
  have cl:=hcl f hf ns ((qA (by omega) d0).mpr ⟨l1,l2,Ju _,hlt⟩) v.2 w hw' λz=>by
   obtain ⟨u,hu,eu,e⟩:=(hmem _).mp z
   have : u=v:=Prod.ext eu (by omega)
   exact hn (this▸hu)
  have : sub w (Jm f.cd ns)=true:=tW.mpr λx hx=>by
   obtain ⟨u,hu,eu,hx'⟩:=h2 v hv x (by rw[Pw hL.2 hf e1,Cf,hw']; exact hx)
   rw[Pw hL.2 hf (e1.trans eu.symm)] at hx'
   unfold Jm
   exact Oy.mpr (Da.mpr ⟨(u.2:Int),(hmem _).mpr ⟨u,hu,eu,rfl⟩,by rw[Dw]; exact hx'⟩)
  rw[cl] at this
  cases this
 rw[this] at h1
 cases h1
end K64
namespace Nd
open PySem PySem.Spec PyProof.Rows L2
def b3(K:PySem.W.Frag):V->Hp->L2.St->Prop:=λx H ws=>∃(t:Addr) (w1 w2 w3:V),x=.ref t/\Pe K H t [w1,w2,w3]/\ws=[some w1,some w2,some w3]
section
variable{X:Cx}{pins:List (Addr×Obj)}{σ:L2.St}{H:Hp}{s:Al}{elt iter tg:Expr}{ifs:List Expr}{scope:Scope}{cl:List (Str×Addr)}{x:Str}{ys:List Str}{js:List Nat}{tc:TT}{te:TE}
theorem L7{J:It}{H1:Hp}{Q:VK}(q:oN X.K J js tc te σ H1 Q):bK (b3 X.K) J js tc te σ H1 Q:=λD nD=>by
 obtain ⟨W,w0,t⟩:=q D nD
 refine ⟨W,w0,λi m H w=>(t i m H w).imp id λ⟨go,st⟩=>⟨go,λx H' y=>?_⟩⟩
 obtain ⟨t,w1,w2,w3,e,q,r⟩:=st x H' y
 exact ⟨_,⟨t,w1,w2,w3,e,q,rfl⟩,r⟩
theorem B3(o ws:L2.St)(y:V)(H:Hp)(lo:o.length=3)(h:b3 X.K y H ws):ws.length=3/\pC X.K 3 (Oq (Js 0) (Oq (Js 1) (Oq (Js 2) oH))) y (o++Eg σ js) H λσ' H'=>σ'=ws++Eg σ js/\H'=H:=by
 obtain ⟨t,w1,w2,w3,e,q,rfl⟩:=h
 match o,lo with
 | [_,_,_],_=>exact ⟨rfl,t,[w1,w2,w3],e,q,rfl,_,_,rfl,_,_,rfl,_,_,rfl,rfl,rfl,rfl⟩
theorem g3{x2 x3:Str}{px px2 px3 pt:Pos}{kt:Nat}(C:CompScope X scope cl x ys js)(own2:Sd scope x2)(own3:Sd scope x3)(nd2:(x::x2::x3::ys).Nodup)(hc:X.calm=true)(fp:List Addr)(s:Al)(H:Hp):PG (Ct X scope cl (x::x2::x3::ys) fp s H) (.Tuple [.Name x px,.Name x2 px2,.Name x3 px3] kt pt) (pC X.K 3 (Oq (Js 0) (Oq (Js 1) (Oq (Js 2) oH)))) :=
 iH (X:=Ct X scope cl (x::x2::x3::ys) fp s H) hc (Nf (Ji (i:=0) (x:=x) nd2 rfl (Lb C.own) (Nv C.own)) (Nf (Ji (i:=1) (x:=x2) nd2 rfl (Lb own2) (Nv own2)) (Nf (Ji (i:=2) (x:=x3) nd2 rfl (Lb own3) (Nv own3)) bC)))
theorem rG{x2 x3 y0:Str}{px px2 px3 pt py pos spos:Pos}{kt i0:Nat}{wi:TI}(hN:X.N.Nodup)(hi0:X.N[i0]? = some y0)(hy0:X.env.scope.names.lookup y0=some .local)(C:CompScope X scope cl x ys js)(own2:Sd scope x2)(own3:Sd scope x3)(nd2:(x::x2::x3::ys).Nodup)(hc:X.calm=true)(hi:PI X (.Tuple [.Name x px,.Name x2 px2,.Name x3 px3] kt pt) iter wi)(ht:∀fp s H,gD (Ct X scope cl (x::x2::x3::ys) fp s H) ifs tc)(he:∀fp s H,PE (Ct X scope cl (x::x2::x3::ys) fp s H) elt te)(hs:∀x,Ci iter X.env x=pure x:=by intro _; rfl)(hsw:Io (.ListComp elt [⟨.Tuple [.Name x px,.Name x2 px2,.Name x3 px3] kt pt,iter,ifs,0⟩] scope pos) (some (.Name y0 py)) spos.line X.env=pure true:=by rfl):PS X (.Assign [.Name y0 py] (.ListComp elt [⟨.Tuple [.Name x px,.Name x2 px2,.Name x3 px3] kt pt,iter,ifs,0⟩] scope pos) spos) (qZ (pK X.K wi js tc te) (Js i0)):=by
 intro pins s σ H De I h
 rw[exec_Assign_Name_used _ _ _ _ hsw]
 refine Ae (Gr (Ae ?_))
 exact Ae (m:=comprehension _ scope X.env _ (newList []) false (eval iter X.env) (some (Mt (.Name y0 py) X.env))) (Di (Pf (pre:=[x,x2,x3]) C hc ht he (g3 C own2 own3 nd2 hc) B3 hs (λ_ _=>L7) (hi pins s σ H _ I h) (dM hN hi0 hy0)) (λ_ s' hq=>Ak (Ak hq)) λ_ _ e=>e)
end
end Nd
namespace DL
open PySem PySem.Spec PyProof.Rows L2 Nd
def sM(b:Bool)(js:List Nat)(dc:DT)(de:DE)(P:DV->DS->Prop)(m:Md)(ds:List Ad)(δ1:DS):Prop:=∃I:Nat->List Ad->Nat->Prop,I 0 [] δ1.n /\
 (∀i d acc n,ds[i]? = some d->I i acc n->∃d1 d2 d3,d=.tuple [d1,d2,d3]/\Fl b dc de ⟨.dat m d1::.dat m d2::.dat m d3::frD δ1.sl js,n⟩ (λe n'=>I (i+1) (acc++[e]) n') (λn'=>I (i+1) acc n')) /\
 ∀acc n,I ds.length acc n->P (.dat (Na b) (.list acc)) ⟨δ1.sl,n⟩
def aH(b:Bool)(di:DI)(js:List Nat)(dc:DT)(de:DE):DE:=λδ P=>di δ λm ds δ1=>sM b js dc de P m ds δ1
section
variable{K:PySem.W.Frag}{H0 H H':Hp}{Y:Addr->Prop}{n:Nat}{E S T:List Ent}
theorem mL{b:Bool}{di:DI}{js:List Nat}{dc:DT}{de:DE}:∀σ H Q,LE K (aH b di js dc de) σ H Q->pK K (LI K di) js (LT K dc) (LE K de) σ H Q:=by
  intro σ H Q h
  obtain ⟨H0,Y,S,T,δ,P,rfl,hS,hA,hd,k⟩:=h
  refine ⟨H0,Y,S,T,δ,_,rfl,hS,hA,hd,λm ds δ1 J hid S1 H1 e1 e2 hA1 it hz p1=>?_⟩
  obtain ⟨I,h0,hs,hf⟩:=p1
  rw[<- e1]
  intro D hD
  refine ⟨λi q H=>q=ds.length - i/\i<=ds.length/\∃acc n G,(b=true->G=[])/\At K H0 Y n (⟨some (.ref D),.acc acc,D::G⟩::(S1++(hid++T))) H/\acc.length<=i/\I i acc n,⟨ds.length,by simp,Dv _,[],δ1.n,[],λ_=>rfl,hA1.accNew hD,An _,h0⟩,?_⟩
  (intro i q H q_; obtain ⟨rfl,hi,acc,n,G,hG,hA2,hl,hI⟩ := q_)
  have hid_ok:∀e∈hid,Gg K H n e:=λe he=>hA2.ok e (Ab _ (Ah _ (Am _ he)))
  by_cases hlt:i<ds.length
  · refine .inr ⟨it.go H n i hid_ok hlt,λx H' y=>?_⟩
    obtain ⟨s1,d,F,h1,h2,h3⟩:=it.yld H n i x H' hid_ok hlt y
    obtain ⟨d1,d2,d3,rfl,hst⟩:=hs i d acc n h1 hI
    obtain ⟨t,xs,rfl,ht,rt,_⟩:=h2.tup_inv
    cases rt with
    | @cons w1 _ xs _ F1 _ r1 rt =>
      cases rt with
      | @cons w2 _ xs _ F2 _ r2 rt =>
       cases rt with
       | @cons w3 _ xs _ F3 G9 r3 rt =>
        cases rt
        have hA3:At K H0 Y n ((⟨some (.ref D),.acc acc,D::G⟩::S1)++⟨some w1,.dat m d1,F1⟩::(hid++T)) H':=At.item (S:=⟨some (.ref D),.acc acc,D::G⟩::S1) hA2 s1 r1 (λa ha=>h3 a (Am _ ha)) it.md it.hd it.np
        have hA3':At K H0 Y n ((⟨some w1,.dat m d1,F1⟩::⟨some (.ref D),.acc acc,D::G⟩::S1)++(hid++T)) H':=hA3.mid
        have hA3'':At K H0 Y n ((⟨some w1,.dat m d1,F1⟩::⟨some (.ref D),.acc acc,D::G⟩::S1)++⟨some w2,.dat m d2,F2⟩::(hid++T)) H':=At.item hA3' (Oh.refl _) r2 (λa ha=>h3 a (Ah _ (Am _ ha))) it.md it.hd it.np
        have hB1:At K H0 Y n ((⟨some w1,.dat m d1,F1⟩::⟨some w2,.dat m d2,F2⟩::⟨some (.ref D),.acc acc,D::G⟩::S1)++(hid++T)) H':=hA3''.mid.perm (Do _ _ _)
        have hB2:At K H0 Y n ((⟨some w1,.dat m d1,F1⟩::⟨some w2,.dat m d2,F2⟩::⟨some (.ref D),.acc acc,D::G⟩::S1)++⟨some w3,.dat m d3,F3⟩::(hid++T)) H':=At.item hB1 (Oh.refl _) r3 (λa ha=>h3 a (Ah _ (Ah _ (Am _ ha)))) it.md it.hd it.np
        have hA4:At K H0 Y n (⟨some w1,.dat m d1,F1⟩::⟨some w2,.dat m d2,F2⟩::⟨some w3,.dat m d3,F3⟩::⟨some (.ref D),.acc acc,D::G⟩::(S1++(hid++T))) H':=hB2.mid.perm ((Do _ _ _).trans ((Do _ _ _).cons _))
        have hA5:=At.view (S:=S1) hA4 (λe he=>Ab _ (Ab _ (Ab _ (Ab _ (Am _ he))))) js
        have hA6:At K H0 Y n ((⟨some w1,.dat m d1,F1⟩::⟨some w2,.dat m d2,F2⟩::⟨some w3,.dat m d3,F3⟩::Zj S1 js)++⟨some (.ref D),.acc acc,D::G⟩::(S1++(hid++T))) H':=by
          have z:=hA5.mid
          refine z.perm (Gc _ ?_)
          have p1:(Zj S1 js++⟨some w2,.dat m d2,F2⟩::⟨some w3,.dat m d3,F3⟩::⟨some (.ref D),.acc acc,D::G⟩::(S1++(hid++T))).Perm (⟨some w2,.dat m d2,F2⟩::(Zj S1 js++⟨some w3,.dat m d3,F3⟩::⟨some (.ref D),.acc acc,D::G⟩::(S1++(hid++T)))):=Dl
          exact p1.trans (Gc _ Dl)
        have hS6:Sl (⟨some w1,.dat m d1,F1⟩::⟨some w2,.dat m d2,F2⟩::⟨some w3,.dat m d3,F3⟩::Zj S1 js) ⟨.dat m d1::.dat m d2::.dat m d3::frD δ1.sl js,n⟩:=by
          unfold Sl
          rw[Au,Au,Au,kF e2]
        have hv:vs (⟨some w1,.dat m d1,F1⟩::⟨some w2,.dat m d2,F2⟩::⟨some w3,.dat m d3,F3⟩::Zj S1 js)=some w1::some w2::some w3::Eg (vs S1) js:=by
          rw[<- jD]
          rfl
        refine ⟨t,w1,w2,w3,rfl,Pe.of ht,λH2=>∃m',m'<ds.length - i/\_,λy H3=>∃acc,H3 D=some (.lst acc)/\acc.length<Be/\∃m',m'<ds.length - i/\_,λH2 q=>q,λy H3 q=>q,?_⟩
        rw[<- hv]
        refine Ry hS6 hG hA6 hst (by omega) (λn' H2 hA7 p=>?_) (λe n' v H2 G' hG' hA7 p=>?_)
        · exact ⟨ds.length - (i+1),by omega,rfl,hlt,acc,n',G,hG,hA7,by omega,p⟩
        · obtain ⟨xs,g1,g2,g3⟩:=hA7
          exact ⟨xs,g1,by omega,ds.length - (i+1),by omega,rfl,hlt,acc++[e],n',G',hG',g3,by rw[Ax]; simp; omega,p⟩
  · have e:i=ds.length:=by omega
    subst e
    refine .inl ⟨it.stop H n hid_ok,k _ ⟨δ1.sl,n⟩ _ (D::G) S1 H e1 e2 ?_ (hf acc n hI)⟩
    have hA3:=hA2.accGetG hG
    have hA4:At K H0 Y n (⟨some (.ref D),.dat (Na b) (.list acc),D::G⟩::(S1++T)) H:=hA3.sub (((Cj S1).append (Ce hid T)).cons₂ _)
    exact hA4.tomid
end
section
variable{X:Cx}{elt iter c:Expr}{x x2 x3 y0:Str}{px px2 px3 pt py pos spos:Pos}{kt i0:Nat}{ifs:List Expr}{scope:Scope}{cl:List (Str×Addr)}{ys:List Str}{js:List Nat}{di:DI}{dc:DT}{de:DE}
theorem lX{o:Bool}(hN:X.N.Nodup)(hi0:X.N[i0]? = some y0)(hy0:X.env.scope.names.lookup y0=some .local)(C:CompScope X scope cl x ys js)(own2:Sd scope x2)(own3:Sd scope x3)(nd2:(x::x2::x3::ys).Nodup)(hc:X.calm=true)(hi:mP X (.Tuple [.Name x px,.Name x2 px2,.Name x3 px3] kt pt) iter di)(ht:∀fp s H,gD (Ct X scope cl (x::x2::x3::ys) fp s H) ifs (LT X.K dc))(he:∀fp s H,Ei (Ct X scope cl (x::x2::x3::ys) fp s H) elt de)(hs:∀x,Ci iter X.env x=pure x:=by intro _; rfl)(hsw:Io (.ListComp elt [⟨.Tuple [.Name x px,.Name x2 px2,.Name x3 px3] kt pt,iter,ifs,0⟩] scope pos) (some (.Name y0 py)) spos.line X.env=pure true:=by rfl):cE X (.Assign [.Name y0 py] (.ListComp elt [⟨.Tuple [.Name x px,.Name x2 px2,.Name x3 px3] kt pt,iter,ifs,0⟩] scope pos) spos) (dI (aH false di js dc de) (M6 o i0)):=PS.impD (rG hN hi0 hy0 C own2 own3 nd2 hc hi ht he hs hsw) (To mL zX)
theorem t5{α:Type}{l:List α}{g1 g2 g3:α->Ad}{js:List Nat}{de:DE}{P:DV->DS->Prop}{m:Md}{ds:List Ad}{δ1:DS}(e:ds=l.map λy=>Lu [g1 y,g2 y,g3 y])(f:α->Ad)(hs:∀y∈l,∀yes:Ad->Nat->Prop,yes (f y) δ1.n->Fl false Lc de ⟨.dat m (g1 y)::.dat m (g2 y)::.dat m (g3 y)::frD δ1.sl js,δ1.n⟩ yes (λ_=>False))(hP:P (.dat .tp (.list (l.map f))) ⟨δ1.sl,δ1.n⟩):sM false js Lc de P m ds δ1:=by
 subst e
 refine ⟨λi a n=>a=(l.take i).map f/\n=δ1.n,⟨by simp,rfl⟩,?_,?_⟩
 ·rintro i d _ _ hd ⟨rfl,rfl⟩
  rw[Bf] at hd
  cases hy:l[i]? with
  | none=>rw[hy] at hd; cases hd
  | some y =>
   rw[hy] at hd
   cases hd
   refine ⟨_,_,_,rfl,?_⟩
   have:=hs y (Ao hy) (λe n'=>(l.take i).map f++[e]=(l.take (i+1)).map f/\n'=δ1.n) ⟨by rw[En hy,Az]; rfl,rfl⟩
   exact this
 ·rintro _ _ ⟨rfl,rfl⟩
  rw[Ac,Cz]
  exact hP
end
end DL
namespace K64
open PySem L2 Nd DL
local macro_rules | `(tactic| array_get_dec) => do
  let ids:=(("e_seq e_skip e_ret e_if e_asg e_name e_name2 e_name3 e_name4 e_own e_nF e_gtup e_gsn e_gsc e_op e_var e_c e_imm e_immB e_take e_frz e_frzo e_I e_I0 e_eqF e_eqT e_inFl e_inTl e_inFt_w1 e_isNF e_ixl e_ixt e_cat e_catT_w1 e_catS e_nlT e_nlF e_ntT e_pkOfsh e_pkOfow e_mdInsh e_mdInow e_mdNewsh e_mdNewow e_mdItpk e_mdItsh e_mdIttp e_mdItow e_nil e_cons e_tup e_lst e_noPart e_part e_partB e_sl e_slBl e_cb e_lenl e_lent_w1 e_listl e_listt_w1 e_tuplel e_intb e_min2 e_all e_sortI e_isi e_v e_b e_bB e_notT e_andT e_andTt e_andTf e_orT e_orTf e_not e_notB e_and e_andt e_neg e_negB e_dL e_dTp e_lB e_tpB_w1 e_range1 e_rng1B e_enum e_enumB e_zip e_zipB e_for e_comp e_comp2 e_compL e_stepL e_stepLT e_noTest e_step e_stepT e_yesB e_call e_callW e_draws e_drawsB e_append e_insert e_appendO e_aug e_augB e_scrSl e_compN e_callA ow_npk callAB retA retA_sh retA_ow retA_tp callB callBW tupB lstB datas pkMd allOw noPk appB appOB mmd insB own1 npk retE retW retL args0 frD frD1 alD List.map_cons List.map_nil List.replicate List.getElem?_cons_zero List.getElem?_cons_succ List.set_cons_zero List.set_cons_succ List.cons_append List.nil_append Option.map_some List.length_cons List.length_nil List.append_nil rdAdd rdSub rdMul rdDiv rdMod rdLt rdGe if_true if_false Bool.false_eq_true mdZip List.append_assoc Nat.reduceAdd Nat.reduceSub Nat.reduceLeDiff true_and im_e ima_e dp_e dpa_e any_int any_word eqD_intd eqD_str eqD_li eqD_l0 ow_e tt_e cdiv_e cmul_l Int.reduceLT Int.reduceNeg and_self fold_w isi_ib isi_ii Bool.not_true Bool.not_false String.reduceEq or_true true_or List.isEmpty_nil ifB_lf str_self atI_0 atI_1 some_e dec_self yesL_ow yesL_sh catL_shtp catL_tpow catL_tptp" : String).splitOn " ").toArray.map λ(x:String)=>Lean.mkIdent x.toName
  `(tactic| try simp only [$[↓$ids:ident],*])
def Od:Fld:=⟨Bz "more",2,[[0],[1]]⟩
def zc(nm:Str):Str:=Bz "z" ++ nm
theorem gN:∀a∈aC,∀b∈aC,zc a=zc b->a=b:=by decide +kernel
theorem sZ:∀a∈aC,(Oe (zc a)).length<=12:=by decide +kernel
theorem lM:∀a∈aC,(Oe a).length<=12:=by decide +kernel
theorem rM:∀a∈aC,a≠Bz "more" := by decide +kernel
theorem kM:∀a∈aC,a.length<=3:=by decide +kernel
theorem hX:(Oe (Bz "more")).length<=12:=by decide +kernel
def Mq(f:Fld):Fld:=⟨zc f.nm,f.ct,f.cd⟩
def Jr(v:Gz):Gz:=(zc v.1,v.2)
theorem pF:∀{fs:List Fld},(∀f∈fs,f.ct<=7)->(fs.map Fld.ct).sum<=7 * fs.length
 | [],_=>Int.le_refl _
 | f::fs,h=>by
  have:=pF λg hg=>h g (Ab _ hg)
  have:=h f (Aa ..)
  rw[Au,Sn,Bo]
  omega
theorem dQ{fs:List Fld}(hf:∀f∈fs,(Oe f.nm).length<=12/\0<=f.ct/\f.ct<=7/\f.cd.length<=6/\∀w∈f.cd,Ec f.ct w)(hl:fs.length<=8)(nd:(fs.map Fld.nm).Nodup):LL fs:=by
 refine ⟨⟨hl,λf hm=>?_,?_⟩,nd⟩
 ·obtain ⟨h1,h2,h3,h4,h5⟩:=hf f hm
  exact ⟨⟨h1,h2,by omega,by omega,λw hw=>(h5 w hw).up (by omega)⟩,h5⟩
 ·have:=pF λf hm=>(hf f hm).2.2.1
  omega
theorem kI{f:Fld}(h:GF f):(Oe f.nm).length<=12/\0<=f.ct/\f.ct<=7/\f.cd.length<=6/\∀w∈f.cd,Ec f.ct w:=⟨lM _ h.1,by have:=h.2.1; omega,h.2.2.1,h.2.2.2.2.1,h.2.2.2.2.2⟩
theorem wF:(Oe Od.nm).length<=12/\0<=Od.ct/\Od.ct<=7/\Od.cd.length<=6/\∀w∈Od.cd,Ec Od.ct w:=by
 refine ⟨hX,by decide,by decide,by decide,λw hw=>?_⟩
 rcases Ag.mp hw with rfl | hw
 ·exact ⟨by simp,λx hx=>by rw[Aj.mp hx]; decide⟩
 ·rw[Aj.mp hw]
  exact ⟨by simp,λx hx=>by rw[Aj.mp hx]; decide⟩
theorem x5{f:Fld}(h:GF f):(Oe (Mq f).nm).length<=12/\0<=(Mq f).ct/\(Mq f).ct<=7/\(Mq f).cd.length<=6/\∀w∈(Mq f).cd,Ec (Mq f).ct w:=⟨sZ _ h.1,by have:=h.2.1; exact (show (0:Int)<=f.ct by omega),h.2.2.1,h.2.2.2.2.1,h.2.2.2.2.2⟩
theorem range_getD{fs:List Fld}:(Bi fs.length).map (λk=>fs.getD k Od)=fs:=by
 refine List.ext_getElem (by rw[Ac,Bq]) λi h1 h2=>?_
 rw[List.getElem_map,Ub,Cf,Br h2]
 rfl
theorem Tt(a b:List Nat):Df (.tuple [Ic a,Ic b]) (.tuple [Ic a,Ic b])=true:=by
 have e:∀l:List Nat,Ic l=.list ((l.map λi:Nat=>(i:Int)).map Ba):=λl=>by unfold Ic; rw[Co]; rfl
 rw[e,e,Vl,Iz,Iz,Vv,eqD_li,eqD_li]
 simp
theorem pL{α:Type}(xs:List α)(x:α):Hx (xs++[x]) none (some (-1))=xs:=by
 unfold Hx
 have e:HT.sIx (xs++[x]).length (xs++[x]).length (some (-1))=xs.length:=by
  show (if (-1:Int)<0 then ((-1:Int)+((xs++[x]).length:Int)).toNat else min (-1:Int).toNat (xs++[x]).length)=xs.length
  rw[if_pos (by decide),Ax,Ee]
  omega
 rw[e]
 show ((xs++[x]).drop 0).take (xs.length - 0)=xs
 rw[Kd,Vn,List.take_left' rfl]
theorem yV{α:Type}(xs:List α)(x:α):Qp (xs++[x]) (-1)=some x:=by
 obtain ⟨a,_,e1,e2⟩:=dF (l:=xs++[x]) (by simp)
 rw[e1]
 simpa using e2.symm
theorem qK{fs:List Fld}(hL:LL fs)(hR:LL (fs.map Mq))(hf:∀f∈fs,GF f){cs:List (List Gz)}{q:List Gz}(hq:∀v∈q,Px fs v)(hc:∀c∈cs,∀v∈c,Px fs v):Jw (cs.map λc=>c.map Jr) (q.map Jr)=Jw cs q/\Gy (fs.map Mq) (cs.map λc=>c.map Jr) (q.map Jr)=Gy fs cs q:=by
 have nmv:∀{v:Gz},Px fs v->v.1∈aC:=λ⟨f,h,e,_⟩=>e▸(hf f h).1
 have inj:∀{u v:Gz},Px fs u->Px fs v->Jr u=Jr v->u=v:=λ{u v} hu hv e=>Prod.ext (gN _ (nmv hu) _ (nmv hv) (congrArg Prod.fst e)) (show (Jr u).2=(Jr v).2 by rw[e])
 have up:∀{v:Gz},Px fs v->Px (fs.map Mq) (Jr v):=λ⟨f,h,e,l⟩=>⟨Mq f,Du h,congrArg zc e,l⟩
 have ew:∀{v:Gz},Px fs v->wd (fs.map Mq) (Jr v)=wd fs v:=λ{v} ⟨f,h,e,_⟩=>(Pw (f:=Mq f) (v:=Jr v) hR.2 (Du h) (congrArg zc e)).trans (Pw hL.2 h e).symm
 have key:∀(P Q:List Gz×Nat->Bool),(∀p∈cs.zipIdx,P (p.1.map Jr,p.2)=Q p)->(((cs.map λc=>c.map Jr).zipIdx.filter P).map λp=>p.2)=(cs.zipIdx.filter Q).map λp=>p.2:=λP Q h=>by
  rw[zip_map,List.filter_map,Co]
  exact congrArg (List.map λp:List Gz×Nat=>p.2) (List.filter_congr h)
 have cin:∀p∈cs.zipIdx,∀v∈p.1,Px fs v:=λp hp=>by
  obtain ⟨j,hj⟩:=Hr.mp hp
  obtain ⟨ek,hp1,hp2,hp3⟩:=Ta hj
  exact hc p.1 (Ao (ek▸hp1))
 have all:∀p∈cs.zipIdx,((q.map Jr).all λv=>decide (v∈p.1.map Jr))=q.all λv=>decide (v∈p.1):=λp hp=>by
  rw[Lw,Ej,Ej]
  constructor
  ·intro h v hv
   have:=h _ (Du hv)
   rw[decide_eq_true_eq] at this ⊢
   obtain ⟨u,hu,e⟩:=Bv.mp this
   exact inj (cin p hp u hu) (hq v hv) e▸hu
  ·intro h v hv
   obtain ⟨u,hu,rfl⟩:=Bv.mp hv
   have:=h u hu
   rw[decide_eq_true_eq] at this ⊢
   exact Du this
 refine ⟨key _ _ all,key _ _ λp hp=>?_⟩
 have hcp:=cin p hp
 show (!((q.map Jr).all λv=>decide (v∈p.1.map Jr)) && sub (Lp (fs.map Mq) (q.map Jr)) (Lp (fs.map Mq) (p.1.map Jr)))=_
 rw[all p hp]
 congr 1
 have hq':∀v∈q.map Jr,Px (fs.map Mq) v:=λv hv=>by
  obtain ⟨u,hu,rfl⟩:=Bv.mp hv
  exact up (hq u hu)
 have hc':∀v∈p.1.map Jr,Px (fs.map Mq) v:=λv hv=>by
  obtain ⟨u,hu,rfl⟩:=Bv.mp hv
  exact up (hcp u hu)
 rw[Lw,Rr hR hq' hc',Rr hL hq hcp]
 constructor
 ·intro h v hv x hx
  obtain ⟨u',hu',e,hx'⟩:=h _ (Du hv) x (by rw[ew (hq v hv)]; exact hx)
  obtain ⟨u,hu,rfl⟩:=Bv.mp hu'
  refine ⟨u,hu,gN _ (nmv (hcp u hu)) _ (nmv (hq v hv)) e,by rw[<- ew (hcp u hu)]; exact hx'⟩
 ·intro h v hv x hx
  obtain ⟨v',hv',rfl⟩:=Bv.mp hv
  obtain ⟨u,hu,e,hx'⟩:=h v' hv' x (by rw[<- ew (hq v' hv')]; exact hx)
  exact ⟨_,Du hu,congrArg zc e,by rw[ew (hcp u hu)]; exact hx'⟩
def jH:DF:=λds n R=>∃(fs:List Fld) (cs:List (List Gz)) (q:List Gz),ds=[Lz fs,Ny cs,Fn q,.tuple [Ic (Jw cs q),Ic (Gy fs cs q)]]/\(∀f∈fs,GF f)/\(fs.map Fld.nm).Nodup/\fs.length<=7/\cs.length<=8/\(∀c∈cs,c.length<=8/\∀v∈c,Px fs v)/\q.length<=8/\(∀v∈q,Px fs v)/\n<=50000/\∀n',n<=n'->n'<=n+10->R (.bool true) n'
section
variable{P:Bp}{w:World}{K:PySem.W.Frag}{mg:Str->Option Value}{base:Heap}
theorem Rp:FnScope ["_law_draws_here", "_law_layout_here", "_law_cards", "_law_question", "_law_told", "_law_turned", "_law_k", "_law_other", "_law_at", "_law_names", "_law_more"] ["_law_draws_here", "_law_layout_here", "_law_cards", "_law_question", "_law_told"] (Bw Jx):=⟨rfl,rfl,rfl,by decide +kernel,rfl,by decide +kernel,by decide +kernel⟩
theorem Rx{f f_find f_L_next  : Addr}{fd d_find d_L_next:Ca}(F:Fun K "_law_otherwise" "_law_otherwise" Jx f fd)(G_find:FnOk P w K mg base Gh 4 f_find d_find ["layout", "cards", "question"] (Oi K (gO)))(b_find:Binds K d_find ["layout", "cards", "question"] [])(k_find:PySem.W.keepIn K (.ref f_find)=true)(m_find:mg "find" = some (.ref f_find))(G_L_next:FnOk P w K mg base Gh 1 f_L_next d_L_next ["_law_draws_here"] (cG K Ql))(b_L_next:Binds K d_L_next ["_law_draws_here"] [])(k_L_next:PySem.W.keepIn K (.ref f_L_next)=true)(m_L_next:mg "_law_next" = some (.ref f_L_next))(mz_len:mg "len" = none)(mz_range:mg "range" = none):FnOk P w K mg base Gh 5 f fd ["_law_draws_here", "_law_layout_here", "_law_cards", "_law_question", "_law_told"] (cG K (jH)):=by
  refine' Vk (k:=4) F Rp (λcdv A outer s H E hr=>?hb) ?h
  case hb =>
    have hr1:Room 1 _:=hr.mono (by decide)
    have hr2:Room 2 _:=hr.mono (by decide)
    have hr3:Room 3 _:=hr.mono (by decide)
    have hr4:Room 4 _:=hr.mono (by decide)
    have hu64:=hr.units
    refine' Bh (Ia (i:=5) Rp.nd rfl (Bm rfl) (Fo Ap)) ?w1
    case w1 =>
     refine' Bh (Gd Cb rfl (Gw rfl mz_range (Af (Er Hm Lj rfl mz_len (by decide +kernel) (Af (Ai (pv 1)) Ap)) Ap)) (Cy (i:=6) Rp.nd rfl (Bm rfl)) (Cc (nH (pv 5) (Jk (Fh G_L_next hr1 rfl m_L_next k_L_next b_L_next Dy (pv 0) Ap) (Jv (Ai (pv 6)) Cn)) (Ai (pv 6))))) ?w2
     case w2 =>
      refine' Bh (dP (o:=false) (i0:=7) Rp.nd rfl rfl (yD (x := "_law_k") "_law_layout_here" 1 rfl (by decide +kernel) rfl rfl rfl) rfl (cF (Ai (pv 5))) (λ_ _ _=>Ir) (λ_ _ _=>Ik (Ai (pv 1)) (Ai (pv 0)))) ?w3
      case w3 =>
       refine' Bh (Dx (i:=8) Rp.nd rfl (Bm rfl) (Jk (Fh G_L_next hr1 rfl m_L_next k_L_next b_L_next Dy (pv 0) Ap) (Jv (Er Hm Lj rfl mz_len (by decide +kernel) (Af (Ai (pv 7)) Ap)) Cn))) ?w4
       case w4 =>
        refine' Bh (Jb (cP hu64 (Ed G_find hr4 rfl m_find k_find b_find Dy (Af (Ai (pv 7)) (Af (Ai (pv 2)) (Af (Ai (pv 3)) Ap)))) (Ai (pv 4))) (Cc (Ek fP)) Hk) ?w5
        case w5 =>
         refine' Bh (Jb (cP hu64 (Ed G_find hr4 rfl m_find k_find b_find Dy (Af (aW (aW (Kh (i:=false) (Ai (pv 7)) Jn (Jj (Ai (pv 8)))) (Fo (Af (Hl (Af Jf (Af Cn (Af (Fo (Af (Hl (Af Cn Ap)) (Af (Hl (Af Cn Ap)) Ap))) Ap)))) Ap))) (Kh (i:=false) (Ai (pv 7)) (Jj (Ai (pv 8))) Jn)) (Af (Ai (pv 2)) (Af (Ai (pv 3)) Ap)))) (Ai (pv 4))) (Cc (Ek fP)) Hk) ?w6
         case w6 =>
          refine' Bh (lX (o:=false) (i0:=9) Rp.nd rfl rfl (R5 (x := "_law_name") rfl (by decide +kernel)) (.inl rfl) (.inl rfl) (by decide +kernel) rfl (cF (Ai (pv 1))) (λ_ _ _=>Ir) (λ_ _ _=>Hl (Af (jS Jf (Ai (pv 0))) (Af (Jt (Ai (pv 1))) (Af (Ai (pv 2)) Ap))))) ?w7
          case w7 =>
           refine' Bh (dP (o:=false) (i0:=10) Rp.nd rfl rfl (R5 (x := "_law_values_here") rfl (by decide +kernel)) rfl (cF (aW (Ai (pv 2)) (Fo (Af (Ai (pv 3)) Ap)))) (λ_ _ _=>Ir) (λ_ _ _=>fX (R5 (x := "_law_name") rfl (by decide +kernel)) (.inl rfl) (by decide +kernel) rfl (cF (Ai (pv 0))) (λ_ _ _=>Ir) (λ_ _ _=>Hl (Af (jS Jf (Ai (pv 0))) (Af (Jt (Ai (pv 1))) Ap))))) ?w8
           case w8 =>
            exact Cc (Ek (xK hu64 (Ed G_find hr4 rfl m_find k_find b_find Dy (Af (Ai (pv 9)) (Af (Kh (i:=false) (Ai (pv 10)) Jn (Jj (sP Cn))) (Af (Ik (Ai (pv 10)) (sP Cn)) Ap)))) (Ai (pv 4))))
  case h =>
    (intro ds n R q_; obtain ⟨fs,cs,q,rfl,hf,nd,lf,lc,hc,lq,hq,hn,hR⟩ := q_)
    refine ⟨rfl,?_⟩
    unfold Lz
    array_get_dec
    rw[Ac]
    refine ⟨by omega,by omega,?_⟩
    rw[Dw]
    refine Mx (l:=Bi fs.length) (g:=λi:Nat=>.int i) rfl (λi δ=>∃(ts:List Nat) (v6:DV),δ=⟨[.drw,.dat .sh (.list (fs.map Fld.d)),.dat .sh (Ny cs),.dat .sh (Fn q),.dat .sh (.tuple [Ic (Jw cs q),Ic (Gy fs cs q)]),.dat .ow (.list (ts.map λi:Nat=>Ba (i:Int))),v6,.un,.un,.un,.un],n+i⟩/\NP v6/\ts.Perm (Bi i)) ?_ ?_ ?_
    · exact ⟨[],_,rfl,Fi,.refl _⟩
    · (intro i a _ ha q_; obtain ⟨ts,v6,rfl,hv6,pt⟩ := q_)
      obtain ⟨rfl,hi⟩:=Kf ha
      array_get_dec
      refine ⟨rfl,by omega,λr1=>?_⟩
      array_get_dec
      have b1:=Jh r1 (b:=(a:Int)+1) (by omega)
      have lt:=pt.length_eq
      rw[Bq] at lt
      refine ⟨by omega,by rw[Ac]; omega,by omega,by omega,ts.take (r1 % ((a:Int)+1)).toNat++a::ts.drop (r1 % ((a:Int)+1)).toNat,.dat .sh (.int a),Lk ?_ (by omega),Cs,?_⟩
      · unfold Nh
        rw[Az,Au,Kw,Sq]
      · rw[Pq]
        refine Dl.trans ?_
        rw[Pu]
        exact (pt.cons a).trans (Hq (l₁:=[a]))
    · (intro _ q_; obtain ⟨ts,v6,rfl,hv6,pt⟩ := q_)
      rw[Bq] at pt ⊢
      array_get_dec
      have lt:=pt.length_eq
      rw[Bq] at lt
      have tl:∀k∈ts,k<fs.length:=λk hk=>Dz.mp (pt.mem_iff.mp hk)
      refine qD (l:=ts) (g:=λi:Nat=>.int i) rfl (λk=>(fs.getD k Od).d) (λk hk yes no hy=>?_) ?_
      · array_get_dec
        refine ⟨(fs.getD k Od).d,dJ (by rw[Bf,Cf,Br (tl k hk)]; rfl),?_⟩
        exact hy
      rw[show ts.map (λk=>(fs.getD k Od).d)=(ts.map λk=>fs.getD k Od).map Fld.d by rw[Co]; rfl]
      have gp:(ts.map λk=>fs.getD k Od).Perm fs:=(pt.map _).trans (by rw[range_getD])
      generalize ts.map (λk=>fs.getD k Od)=gs at gp
      have lg:=gp.length_eq
      have hg:∀f∈gs,GF f:=λf hf'=>hf f (gp.mem_iff.mp hf')
      have ng:(gs.map Fld.nm).Nodup:=((gp.map _).nodup_iff).mpr nd
      have hL:LL fs:=dQ (λf h=>kI (hf f h)) (by omega) nd
      have hG:LL gs:=dQ (λf h=>kI (hg f h)) (by omega) ng
      have vok:∀{hs:List Fld},LL hs->(∀f∈fs,f∈hs)->(∀c∈cs,∀v∈c,oA hs v)/\∀v∈q,oA hs v:=λ{hs} hH up =>
        ⟨λc hc' v hv=>Tj 0 hH.2 (let ⟨f,a,b⟩:=(hc c hc').2 v hv; ⟨f,up f a,b⟩),λv hv=>Tj 0 hH.2 (let ⟨f,a,b⟩:=hq v hv; ⟨f,up f a,b⟩)⟩
      have upG:∀f∈fs,f∈gs:=λf h=>gp.mem_iff.mpr h
      array_get_dec
      refine ⟨rfl,by omega,λr2=>?_⟩
      array_get_dec
      rw[Ac]
      have b2:=Jh r2 (b:=(gs.length:Int)+1) (by omega)
      obtain ⟨k,hk⟩ : ∃k:Nat,r2 % ((gs.length:Int)+1)=k:=⟨(r2 % ((gs.length:Int)+1)).toNat,by omega⟩
      rw[hk]
      refine ⟨by omega,gs,cs,q,rfl,hG.1,by omega,(vok hG upG).1,(vok hG upG).2,?_⟩
      rw[Wv hL hG upG hq λc h=>(hc c h).2]
      array_get_dec
      rw[Tt]
      array_get_dec
      have c1:=DRow.cutG_len (gs.map Fld.d) none (some (k:Int))
      have c2:=DRow.cutG_len (gs.map Fld.d) (some (k:Int)) none
      rw[Ac] at c1 c2
      refine ⟨by omega,by rw[Ax,Ee]; omega,?_⟩
      rw[show Hx (gs.map Fld.d) none (some (k:Int))++Lu [.str (Bz "more"),.int 2,.list [.tuple [.int 0],.tuple [.int 1]]]::Hx (gs.map Fld.d) (some (k:Int)) none=(gs.take k++Od::gs.drop k).map Fld.d by
        rw[Lf,DRow.cutG_from,Az,Au,Kw,Sq]; rfl]
      have pm:(gs.take k++Od::gs.drop k).Perm (Od::gs):=Dl.trans (by rw[Pu])
      generalize gs.take k++Od::gs.drop k=hs at pm
      have hm:∀f∈hs,f=Od\/f∈gs:=λf h=>Ag.mp (pm.mem_iff.mp h)
      have lh:=pm.length_eq
      rw[Bo] at lh
      have hH:LL hs:=by
        refine dQ (λf h=>?_) (by omega) (((pm.map Fld.nm).nodup_iff).mpr (Cg.mpr ⟨λz=>?_,ng⟩))
        · rcases hm f h with rfl | h
          · exact wF
          · exact kI (hg f h)
        · obtain ⟨f,hf',e⟩:=Bv.mp z
          exact rM _ (hg f hf').1 e
      have upH:∀f∈fs,f∈hs:=λf h=>pm.mem_iff.mpr (Ab _ (upG f h))
      refine ⟨hs,cs,q,rfl,hH.1,by omega,(vok hH upH).1,(vok hH upH).2,?_⟩
      rw[Wv hL hH upH hq λc h=>(hc c h).2]
      array_get_dec
      rw[Tt]
      array_get_dec
      unfold aH
      array_get_dec
      refine t5 (l:=fs) (g1:=λf=>.str f.nm) (g2:=λf=>.int f.ct) (g3:=λf=>.list (f.cd.map Bs)) rfl (λf=>(Mq f).d) (λf hf' yes hy=>?_) ?_
      · array_get_dec
        exact ⟨by have:=kM _ (hf f hf').1; have z1:(Bz "z").length=1:=rfl; omega,hy⟩
      unfold Ny
      array_get_dec
      refine ⟨by rw[Ac]; omega,?_⟩
      refine qD (l:=cs++[q]) (g:=Fn) (by rw[Az]; rfl) (λc=>Fn (c.map Jr)) (λc hc' yes no hy=>?_) ?_
      · have hcv:∀v∈c,Px fs v:=by
          rcases Ay.mp hc' with z | z
          · exact (hc c z).2
          · rw[Aj.mp z]; exact hq
        unfold Fn
        array_get_dec
        refine qL (l:=c) (g1:=λv=>.str v.1) (g2:=λv=>.int (v.2:Int)) rfl (λ_=>true) (λv=>Jl (Jr v)) (λv hv yes2 no2 hy2 _=>?_) ?_
        · array_get_dec
          obtain ⟨f,hf',e,_⟩:=hcv v hv
          exact ⟨by have:=kM _ (hf f hf').1; have z1:(Bz "z").length=1:=rfl; rw[e] at this; omega,hy2 rfl⟩
        unfold Fn at hy
        rw[Co] at hy
        rw[Sk.mpr λ_ _=>rfl]
        array_get_dec
        exact hy
      array_get_dec
      rw[Az,show [q].map (λc=>Fn (c.map Jr))=[Fn (q.map Jr)] from rfl,pL]
      refine ⟨_,yV _ _,?_⟩
      have lR:LL (fs.map Mq):=by
        refine dQ (λf h=>?_) (by rw[Ac]; omega) ?_
        · obtain ⟨g,hg',rfl⟩:=Bv.mp h
          exact x5 (hf g hg')
        · rw[Co]
          refine Jz.mpr ((List.pairwise_map.mp nd).imp_of_mem λ{x y} hx hy ne e=>ne (gN _ (hf x hx).1 _ (hf y hy).1 e))
      have up:∀{v:Gz},Px fs v->oA (fs.map Mq) (Jr v):=λ⟨f,h,e,l⟩=>Tj 0 lR.2 ⟨Mq f,Du h,congrArg zc e,l⟩
      obtain ⟨e1,e2⟩:=qK hL lR hf hq λc h=>(hc c h).2
      refine ⟨fs.map Mq,cs.map λc=>c.map Jr,q.map Jr,?_,lR.1,by rw[Ac]; omega,λc' h v hv=>?_,λv hv=>?_,?_⟩
      · unfold Lz Ny
        rw[Co,Co]
        rfl
      · obtain ⟨c,hc',rfl⟩:=Bv.mp h
        obtain ⟨u,hu,rfl⟩:=Bv.mp hv
        exact up ((hc c hc').2 u hu)
      · obtain ⟨u,hu,rfl⟩:=Bv.mp hv
        exact up (hq u hu)
      rw[e1,e2]
      array_get_dec
      rw[Tt]
      exact ⟨by omega,hR _ (by omega) (by omega)⟩
end
theorem jX{t:DT}{b:Bool}{δ:DS}{K:Bool->DS->Prop}(k:eR t false δ K)(h:b=true->eR t false δ K->eR t true δ K):eR t b δ K:=by
 cases b
 ·exact k
 ·exact h rfl k
theorem uJ{f g:Fld}(h:Df f.d g.d=true):f=g:=by
 unfold Fld.d at h
 rw[Vl,Iz,Iz,Iz,Vv,eqD_str,eqD_intd,u9] at h
 simp only[Sx,Cp,decide_eq_true_eq,beq_iff_eq] at h
 obtain ⟨a,b,c⟩:=h
 cases f
 cases g
 simp only at a b c
 rw[a,b,c]
theorem bQ:∀{fs gs:List Fld},Ii (fs.map Fld.d) (gs.map Fld.d)=true->fs=gs
 | [],[],_=>rfl
 | [],_::_,h=>by rw[Au,Va,uT] at h; cases h
 | _::_,[],h=>by rw[Au,Va,wQ] at h; cases h
 | f::fs,g::gs,h=>by
  rw[Au,Au,Iz,Cp] at h
  rw[uJ h.1,bQ h.2]
theorem Os{n:Nat}{l:List DV}(h:l.length=n+1):∃v m,l=v::m/\m.length=n:=by
 cases l with
 | nil=>cases h
 | cons v m=>exact ⟨v,m,rfl,by simpa using h⟩
theorem p9{l:List DV}(h:l.length=11):∃v1 v2 v3 v4 v5 v6 v7 v8 v9 v10 v11,l=[v1,v2,v3,v4,v5,v6,v7,v8,v9,v10,v11]:=by
 obtain ⟨v1,l1,e1,h1⟩:=Os h
 obtain ⟨v2,l2,e2,h2⟩:=Os h1
 obtain ⟨v3,l3,e3,h3⟩:=Os h2
 obtain ⟨v4,l4,e4,h4⟩:=Os h3
 obtain ⟨v5,l5,e5,h5⟩:=Os h4
 obtain ⟨v6,l6,e6,h6⟩:=Os h5
 obtain ⟨v7,l7,e7,h7⟩:=Os h6
 obtain ⟨v8,l8,e8,h8⟩:=Os h7
 obtain ⟨v9,l9,e9,h9⟩:=Os h8
 obtain ⟨v10,l10,e10,h10⟩:=Os h9
 obtain ⟨v11,l11,e11,h11⟩:=Os h10
 have e0:=Gp.mp h11
 subst e0 e11 e10 e9 e8 e7 e6 e5 e4 e3 e2 e1
 exact ⟨v1,v2,v3,v4,v5,v6,v7,v8,v9,v10,v11,rfl⟩
section
variable{P:Bp}{w:World}{K:PySem.W.Frag}{mg:Str->Option Value}{base:Heap}
theorem i6:FnScope ["_law_script", "_law_cell", "_law_draws_here", "_law_limit", "_law_layout_here", "_law_pure", "_law_some", "_law_cards", "_law_k", "_law_turn", "_law_question", "_law_told"] ["_law_script"] (Bw cA):=⟨rfl,rfl,rfl,by decide +kernel,rfl,by decide +kernel,by decide +kernel⟩
theorem j9{f f_L_draws f_L_next f_L_layout f_L_values f_L_cleaned f_L_fewer f_L_asked f_L_otherwise  : Addr}{fd d_L_draws d_L_next d_L_layout d_L_values d_L_cleaned d_L_fewer d_L_asked d_L_otherwise:Ca}(F:Fun K "law" "law" cA f fd)(G_L_draws:FnOk P w K mg base Gh 1 f_L_draws d_L_draws ["_law_cell"] (Rf))(b_L_draws:Binds K d_L_draws ["_law_cell"] [])(k_L_draws:PySem.W.keepIn K (.ref f_L_draws)=true)(m_L_draws:mg "_law_draws" = some (.ref f_L_draws))(G_L_next:FnOk P w K mg base Gh 1 f_L_next d_L_next ["_law_draws_here"] (cG K Ql))(b_L_next:Binds K d_L_next ["_law_draws_here"] [])(k_L_next:PySem.W.keepIn K (.ref f_L_next)=true)(m_L_next:mg "_law_next" = some (.ref f_L_next))(G_L_layout:FnOk P w K mg base Gh 3 f_L_layout d_L_layout ["_law_draws_here"] (cG K (qU)))(b_L_layout:Binds K d_L_layout ["_law_draws_here"] [])(k_L_layout:PySem.W.keepIn K (.ref f_L_layout)=true)(m_L_layout:mg "_law_layout" = some (.ref f_L_layout))(G_L_values:FnOk P w K mg base Gh 2 f_L_values d_L_values ["_law_draws_here", "_law_layout_here", "_law_limit"] (cG K (sY)))(b_L_values:Binds K d_L_values ["_law_draws_here", "_law_layout_here", "_law_limit"] [])(k_L_values:PySem.W.keepIn K (.ref f_L_values)=true)(m_L_values:mg "_law_values" = some (.ref f_L_values))(G_L_cleaned:FnOk P w K mg base Gh 6 f_L_cleaned d_L_cleaned ["_law_layout_here", "_law_limit"] (tS K (Zk)))(b_L_cleaned:Binds K d_L_cleaned ["_law_layout_here", "_law_limit"] [])(k_L_cleaned:PySem.W.keepIn K (.ref f_L_cleaned)=true)(m_L_cleaned:mg "_law_cleaned" = some (.ref f_L_cleaned))(G_L_fewer:FnOk P w K mg base Gh 1 f_L_fewer d_L_fewer ["_law_values_here", "_law_limit"] (Oi K (kH)))(b_L_fewer:Binds K d_L_fewer ["_law_values_here", "_law_limit"] [])(k_L_fewer:PySem.W.keepIn K (.ref f_L_fewer)=true)(m_L_fewer:mg "_law_fewer" = some (.ref f_L_fewer))(G_L_asked:FnOk P w K mg base Gh 5 f_L_asked d_L_asked ["_law_layout_here", "_law_cards", "_law_question"] (tS K (jU)))(b_L_asked:Binds K d_L_asked ["_law_layout_here", "_law_cards", "_law_question"] [])(k_L_asked:PySem.W.keepIn K (.ref f_L_asked)=true)(m_L_asked:mg "_law_asked" = some (.ref f_L_asked))(G_L_otherwise:FnOk P w K mg base Gh 5 f_L_otherwise d_L_otherwise ["_law_draws_here", "_law_layout_here", "_law_cards", "_law_question", "_law_told"] (cG K (jH)))(b_L_otherwise:Binds K d_L_otherwise ["_law_draws_here", "_law_layout_here", "_law_cards", "_law_question", "_law_told"] [])(k_L_otherwise:PySem.W.keepIn K (.ref f_L_otherwise)=true)(m_L_otherwise:mg "_law_otherwise" = some (.ref f_L_otherwise))(mz_int:mg "int" = none)(mz_range:mg "range" = none)(mz_len:mg "len" = none):FnOk P w K mg base Gh 7 f fd ["_law_script"] (spLawD K):=by
 refine' zG (k:=6) F i6 (λcdv A outer s H E hr=>?hb) ?h
 case hb =>
  have hr1:Room 1 _:=hr.mono (by decide)
  have hr2:Room 2 _:=hr.mono (by decide)
  have hr3:Room 3 _:=hr.mono (by decide)
  have hr4:Room 4 _:=hr.mono (by decide)
  have hr5:Room 5 _:=hr.mono (by decide)
  have hr6:Room 6 _:=hr.mono (by decide)
  have hu64:=hr.units
  exact Bh (Gd Cb rfl (cF (iO (pQ (pv 0) Jn (Jj Cn)) (Fo (Af Cn Ap)))) (Cy (i:=1) i6.nd rfl (Bm rfl))
   (Bh (Dx (i:=2) i6.nd rfl (Bm rfl) (pO G_L_draws hr1 rfl m_L_draws k_L_draws b_L_draws Dy (Af (Ai (pv 1)) Ap)))
    (Bh (Dx (i:=3) i6.nd rfl (Bm rfl) (Jv Cn (Jk (Fh G_L_next hr1 rfl m_L_next k_L_next b_L_next Dy (pv 2) Ap) Cn)))
    (Bh (Dx (i:=4) i6.nd rfl (Bm rfl) (Kh (i:=false) (Fh G_L_layout hr3 rfl m_L_layout k_L_layout b_L_layout Dy (pv 2) Ap) Jn (Jj Cn)))
    (Bh (Dx (i:=5) i6.nd rfl (Bm rfl) (Pa G_L_cleaned hr6 rfl m_L_cleaned k_L_cleaned b_L_cleaned Dy (Af (Ai (pv 4)) (Af (Ai (pv 3)) Ap))))
    (Cc (Gd Cb rfl (cF (Fo (Af (Ai (pv 4)) (Af (Ai (pv 5)) Ap)))) (Cy (i:=6) i6.nd rfl (Bm rfl))
    (Bh (Ia (i:=7) i6.nd rfl (Bm rfl) (Fo Ap))
     (Bh (Gd Cb rfl (Gw rfl mz_range (Af (iJ (Jv Cn (Jk (Fh G_L_next hr1 rfl m_L_next k_L_next b_L_next Dy (pv 2) Ap) Cn)) (Le Zc oE rfl mz_int (by decide +kernel) (Af (F5 hu64 (Ai (pv 6)) (Fo Ap)) Ap))) Ap)) (Cy (i:=8) i6.nd rfl (Bm rfl))
     (Cc (Qj (pv 7) (Ed G_L_fewer hr1 rfl m_L_fewer k_L_fewer b_L_fewer Dy (Af (Fh G_L_values hr2 rfl m_L_values k_L_values b_L_values Dy (pv 2) (Af (Ai (pv 6)) (Af Cn Ap))) (Af (Ai (pv 3)) Ap))))))
     (Cc (Gd Cb rfl (Gw rfl mz_range (Af (iJ Cn (Er Hm Lj rfl mz_len (by decide +kernel) (Af (Kh (i:=false) (nA (pv 7)) Jn (Jj Cn)) Ap))) Ap)) (Cy (i:=9) i6.nd rfl (Bm rfl))
     (Bh (Dx (i:=10) i6.nd rfl (Bm rfl) (Fh G_L_values hr2 rfl m_L_values k_L_values b_L_values Dy (pv 2) (Af (Ai (pv 6)) (Af Cn Ap))))
      (Bh (Jb (Zr hu64 (Ai (pv 9)) Cn)
      (Cc (Dx (i:=10) i6.nd rfl (Bm rfl) (Kh (i:=true) (Ik (Ai (pv 7)) (Jk (Fh G_L_next hr1 rfl m_L_next k_L_next b_L_next Dy (pv 2) Ap) (Er Hm Lj rfl mz_len (by decide +kernel) (Af (Ai (pv 7)) Ap)))) Jn (Jj Cn)))) Hk)
      (Bh (Dx (i:=11) i6.nd rfl (Bm rfl) (Pa G_L_asked hr5 rfl m_L_asked k_L_asked b_L_asked Dy (Af (Ai (pv 6)) (Af (Ai (pv 7)) (Af (Ai (pv 10)) Ap)))))
      (Bh (Jb (qI (jP (yW (Ai (pv 11)) pI) (iB (qI (qH (Zr hu64 (Ai (pv 6)) (Ai (pv 5))) (kE (cP hu64 (Ik (Ai (pv 11)) Cn) (Fo Ap))))))))
      (Cc (Ek fP)) Hk)
      (Cc (Jb (rT (Tg (Fh G_L_otherwise hr5 rfl m_L_otherwise k_L_otherwise b_L_otherwise Dy (pv 2) (Af (Ai (pv 6)) (Af (Ai (pv 7)) (Af (Ai (pv 10)) (Af (Ai (pv 11)) Ap)))))))
      (Cc (Ek fP)) Hk)))))))))))))))))
   (Cc (Ek fP))
 case h =>
  intro ns h63
  array_get_dec
  have lc:(Hx ns none (some 3)).length<=3:=F4 3
  refine ⟨by rw[Ac]; omega,?_⟩
  refine Mx (l:=Hx ns none (some 3)++[0]) (g:=Ba) (by rw[Az]; rfl) (λi δ=>∃(l:List DV) (n':Nat),δ=⟨.scr ns::l,n'⟩/\l.length=11/\(∀v∈l,NP v)/\n'<=3000 * i) ?_ ?_ ?_
  ·exact ⟨_,_,rfl,rfl,by simp [Fi],by omega⟩
  ·(intro i c _ hc q_; obtain ⟨l,n0,rfl,hl,hv,hn⟩ := q_)
   have hi:i<4:=by
    have:=(Aw.mp hc).1
    rw[Ax,Ee] at this
    omega
   obtain ⟨v1,v2,v3,v4,v5,v6,v7,v8,v9,v10,v11,rfl⟩:=p9 hl
   simp only[List.forall_mem_cons] at hv
   obtain ⟨hv1,hv2,hv3,hv4,hv5,hv6,hv7,hv8,hv9,hv10,hv11,-⟩:=hv
   array_get_dec
   refine ⟨rfl,by omega,λr1=>?_⟩
   have b1:=Jh r1 (b:=3) (by decide)
   array_get_dec
   refine ⟨rfl,by omega,λfs0 n1 k1 k2 hG=>?_⟩
   unfold Lz
   array_get_dec
   rw[show Hx (fs0.map Fld.d) none (some 7)=(fs0.take 7).map Fld.d by rw[show (some (7:Int))=some ((7:Nat):Int) from rfl,Lf,Kw]]
   have hf:∀f∈fs0.take 7,GF f:=λf h=>hG.2.2.2 f (Qu h)
   have nd:((fs0.take 7).map Fld.nm).Nodup:=hG.2.2.1.sublist ((Fz _ _).map _)
   have l7:(fs0.take 7).length<=7:=by rw[Ds]; omega
   generalize fs0.take 7=fs at hf nd l7
   refine ⟨fs,1+r1 % 3,rfl,hf,by omega,by omega,by omega,λgs lg sg hg=>?_⟩
   unfold Lz
   refine Mx (l:=[fs,gs]) (g:=λhs=>.list (hs.map Fld.d)) rfl (λj δ=>∃(n':Nat) (v6 v7 v8 v9 v10 v11:DV),δ=⟨[.scr ns,.dat .sh (.int c),.drw,.dat .sh (.int (1+r1 % 3)),.dat .sh (.list (fs.map Fld.d)),.dat .sh (.list (gs.map Fld.d)),v6,v7,v8,v9,v10,v11],n'⟩/\n'<=n1+400 * j/\NP v6/\NP v7/\NP v8/\NP v9/\NP v10/\NP v11) ?_ ?_ ?_
   ·exact ⟨n1,_,_,_,_,_,_,rfl,by omega,hv6,hv7,hv8,hv9,hv10,hv11⟩
   ·clear hv6 hv7 hv8 hv9 hv10 hv11
    (intro j hs _ hh q_; obtain ⟨n2,v6,v7,v8,v9,v10,v11,rfl,k3,hv6,hv7,hv8,hv9,hv10,hv11⟩ := q_)
    have hj:j<2:=(Aw.mp hh).1
    have hP:(∀f∈hs,GF f)/\(hs.map Fld.nm).Nodup/\hs.length<=7:=by
     rcases Ag.mp (Ao hh) with rfl | h
     ·exact ⟨hf,nd,l7⟩
     ·rw[Aj.mp h]
      exact ⟨λg h=>(hg g h).1,nd.sublist sg,by omega⟩
    obtain ⟨hfs,hnd,h7⟩:=hP
    have hL:LL hs:=dQ (λf h=>kI (hfs f h)) (by omega) hnd
    clear hh
    array_get_dec
    refine ⟨rfl,by omega,λr2=>?_⟩
    have b2:=Jh r2 (b:=6) (by decide)
    array_get_dec
    obtain ⟨z,ez,hz⟩ : ∃z:Int,(if (!(hs.map Fld.d).isEmpty)=true then 1 else 0)=z/\(z=0\/z=1/\hs≠[]):=by
     cases hs with
     | nil=>exact ⟨0,rfl,.inl rfl⟩
     | cons a l=>exact ⟨1,rfl,.inr ⟨rfl,by simp⟩⟩
    rw[ez]
    obtain ⟨m,em,hm⟩ : ∃m:Nat,(1+r2 % 6) * z=(m:Int)/\m<=6/\(0<m->hs≠[]):=by
     rcases hz with rfl | ⟨rfl,h⟩
     ·exact ⟨0,by simp,by omega,λz=>absurd z (by omega)⟩
     ·exact ⟨(1+r2 % 6).toNat,by omega,by omega,λ_=>h⟩
    rw[em]
    refine ⟨.inr (by rcases hz with rfl | ⟨rfl,_⟩ <;> decide),by omega,by omega,?_⟩
    rw[Dw]
    refine Mx (l:=Bi m) (g:=λi:Nat=>.int i) rfl (λi δ=>∃(css:List (List Gz)) (n':Nat) (v8:DV),δ=⟨[.scr ns,.dat .sh (.int c),.drw,.dat .sh (.int (1+r1 % 3)),.dat .sh (.list (fs.map Fld.d)),.dat .sh (.list (gs.map Fld.d)),.dat .sh (.list (hs.map Fld.d)),.dat .ow (.list (css.map Fn)),v8,v9,v10,v11],n'⟩/\css.length=i/\(∀c∈css,(c.length<=8/\∀v∈c,Px hs v)/\vS (1+r1 % 3) c)/\n'<=n2+1+20 * i/\NP v8) ?_ ?_ ?_
    ·exact ⟨[],_,_,rfl,rfl,λ_ z=>(nomatch z),by omega,hv8⟩
    ·clear hv8
     (intro i a _ ha q_; obtain ⟨css,n3,v8,rfl,lcs,hcs,k4,hv8⟩ := q_)
     obtain ⟨rfl,hi⟩:=Kf ha
     array_get_dec
     refine ⟨hs,6,rfl,⟨hm.2 (by omega),by omega,hnd,hfs⟩,by omega,by omega,by omega,λvs n4 k5 k6 lv hvs=>?_⟩
     array_get_dec
     refine ⟨vs,1+r1 % 3,rfl,lv,by omega,by omega,λus lu hu fu=>?_⟩
     array_get_dec
     refine ⟨by simp [npk,hv9 _,hv10 _,hv11 _],by rw[Ac]; omega,css++[us],n4,.dat .sh (.int a),Lk (by rw[Az]; rfl) rfl,by rw[Ax,lcs]; rfl,λc' hc'=>?_,by omega,Cs⟩
     rcases Ay.mp hc' with z | z
     ·exact hcs c' z
     ·rw[Aj.mp z]
      exact ⟨⟨by omega,λv hv=>hvs v (hu v hv)⟩,fu⟩
    ·clear hv8
     (intro _ q_; obtain ⟨css,n3,v8,rfl,lcs,hcs,k4,hv8⟩ := q_)
     rw[Bq] at lcs k4
     array_get_dec
     obtain ⟨t,et,ht⟩ : ∃t:Nat,2 * ((Hx (css.map Fn) none (some 1)).length:Int)=(t:Int)/\t<=2/\(0<t->0<css.length):=by
      rw[show (some (1:Int))=some ((1:Nat):Int) from rfl,Lf,Ds,Ac]
      exact ⟨2 * min 1 css.length,by omega,by omega,by omega⟩
     rw[et]
     have vin:∀{v:Gz},Px hs v->oA hs v:=λh=>Tj 0 hnd h
     refine ⟨by omega,by omega,?_⟩
     rw[Dw]
     refine Mx (l:=Bi t) (g:=λi:Nat=>.int i) rfl (λi δ=>∃(n':Nat) (v9 v10 v11:DV),δ=⟨[.scr ns,.dat .sh (.int c),.drw,.dat .sh (.int (1+r1 % 3)),.dat .sh (.list (fs.map Fld.d)),.dat .sh (.list (gs.map Fld.d)),.dat .sh (.list (hs.map Fld.d)),.dat .sh (.list (css.map Fn)),v8,v9,v10,v11],n'⟩/\n'<=n3+40 * i/\NP v9/\NP v10/\NP v11) ?_ ?_ ?_
     ·exact ⟨n3,_,_,_,rfl,by omega,hv9,hv10,hv11⟩
     ·clear hv9 hv10 hv11
      (intro i a _ ha q_; obtain ⟨n4,v9,v10,v11,rfl,k5,hv9,hv10,hv11⟩ := q_)
      obtain ⟨rfl,hi⟩:=Kf ha
      have hcp:=ht.2 (by omega)
      have hne:hs≠[]:=by
       refine hm.2 ?_
       omega
      array_get_dec
      refine ⟨hs,3,rfl,⟨hne,by omega,hnd,hfs⟩,by omega,by omega,by omega,λqs n5 k6 k7 lq hqs=>?_⟩
      array_get_dec
      refine Mf (λhb=>?_) (λhb=>?_)
      ·array_get_dec
       refine ⟨rfl,by omega,λr3=>?_⟩
       array_get_dec
       rw[Ac]
       have b3:=Jh r3 (b:=(css.length:Int)) (by omega)
       obtain ⟨cq,hcq⟩ : ∃cq,css[(r3 % (css.length:Int)).toNat]? = some cq:=⟨_,Br (by omega)⟩
       have hcm:=Ao hcq
       refine ⟨by omega,Fn cq,by rw[show r3 % (css.length:Int)=((r3 % (css.length:Int)).toNat:Int) by omega]; exact dJ (by rw[Bf,hcq]; rfl),?_⟩
       rw[show Fn cq=.list (cq.map Jl) from rfl]
       array_get_dec
       have ec:Hx (cq.map Jl) none (some 2)=(cq.take 2).map Jl:=by rw[show (some (2:Int))=some ((2:Nat):Int) from rfl,Lf,Kw]
       rw[ec]
       have h2v:∀v∈cq.take 2,Px hs v:=λv hv=>(hcs cq hcm).1.2 v (Qu hv)
       have h2l:(cq.take 2).length<=8:=by rw[Ds]; omega
       refine ⟨hs,css,(cq.take 2),rfl,hL.1,by omega,λc h v hv=>vin ((hcs c h).1.2 v hv),λv hv=>vin (h2v v hv),?_⟩
       array_get_dec
       rw[show ∀a b:Ad,isNone (.tuple [a,b])=false from λ_ _=>rfl]
       array_get_dec
       refine jX ?_ (λz kk=>?_)
       rotate_left
       ·have e:hs=gs:=bQ (by rwa [Re] at z)
        have ew:Gy hs css (cq.take 2)=[]:=Wk hL (d:=1+r1 % 3) (by omega) (λf h=>(hg f (e▸h)).2) h2v (λc h=>(hcs c h).1.2) (λc h=>(hcs c h).2)
        rw[ew] at kk ⊢
        rw[show Ic []=.list [] from rfl] at kk ⊢
        array_get_dec
        exact kk
       array_get_dec
       refine ⟨hs,css,(cq.take 2),rfl,hfs,hnd,h7,by omega,λc h=>(hcs c h).1,h2l,h2v,by omega,λn6 k8 k9=>?_⟩
       array_get_dec
       exact ⟨_,_,_,_,rfl,by omega,Cs,Cs,Cs⟩
      ·array_get_dec
       refine ⟨hs,css,qs,rfl,hL.1,by omega,λc h v hv=>vin ((hcs c h).1.2 v hv),λv hv=>vin (hqs v hv),?_⟩
       array_get_dec
       rw[show ∀a b:Ad,isNone (.tuple [a,b])=false from λ_ _=>rfl]
       array_get_dec
       refine jX ?_ (λz kk=>?_)
       rotate_left
       ·have e:hs=gs:=bQ (by rwa [Re] at z)
        have ew:Gy hs css qs=[]:=Wk hL (d:=1+r1 % 3) (by omega) (λf h=>(hg f (e▸h)).2) hqs (λc h=>(hcs c h).1.2) (λc h=>(hcs c h).2)
        rw[ew] at kk ⊢
        rw[show Ic []=.list [] from rfl] at kk ⊢
        array_get_dec
        exact kk
       array_get_dec
       refine ⟨hs,css,qs,rfl,hfs,hnd,h7,by omega,λc h=>(hcs c h).1,lq,hqs,by omega,λn6 k8 k9=>?_⟩
       array_get_dec
       exact ⟨_,_,_,_,rfl,by omega,Cs,Cs,Cs⟩
     ·(intro _ q_; obtain ⟨n4,v9,v10,v11,rfl,k5,hv9,hv10,hv11⟩ := q_)
      rw[Bq] at k5
      exact ⟨n4,_,_,_,_,_,_,rfl,by omega,Cs,Cs,hv8,hv9,hv10,hv11⟩
   ·(intro _ q_; obtain ⟨n2,v6,v7,v8,v9,v10,v11,rfl,k3,hv6,hv7,hv8,hv9,hv10,hv11⟩ := q_)
    refine ⟨_,_,rfl,rfl,?_,by simp only[Bo,List.length_nil] at k3; omega⟩
    simp only[List.forall_mem_cons]
    exact ⟨Cs,n9,Cs,Cs,Cs,hv6,hv7,hv8,hv9,hv10,hv11,λ_ z=>(nomatch z)⟩
  ·(intro _ q_; obtain ⟨l,n',rfl,hl,hv,hn⟩ := q_)
   array_get_dec
end
structure Def(K:PySem.W.Frag)(x:Str)(st:Stmt)(f:Addr)(fd:Ca):Prop where
 nm:PySem.W.nsIn K Ck x=some (some (.ref f))
 fn:Fun K x x st f fd
theorem def_mk{K:PySem.W.Frag}{x:Str}{st:Stmt}{f:Addr}{od an:Option Addr}{sl:Array (Option Value)}{oc kV dc pm cd ct:Value}(a:PySem.W.nsIn K Ck x=some (some (.ref f)))(l:K.lookup f=some ⟨oc,od,.func (PySem.W.fnOf x x (Mc st) (Hy st) (Bw st) .none kV dc pm an cd ct),sl⟩)(c:PySem.W.codeIn K cd x=true)(k:PySem.W.keepIn K (.ref f)=true):Def K x st f (PySem.W.fnOf x x (Mc st) (Hy st) (Bw st) .none kV dc pm an cd ct):=⟨a,oG l c k⟩
theorem V3{P:List Value->Prop}(h:P []):∀us:List Value,us.length=0->P us
 | [],_=>h
theorem E9{P:List Value->Prop}{n:Nat}(h:∀a (us:List Value),us.length=n->P (a::us)):∀us:List Value,us.length=n+1->P us
 | a::us,e=>h a us (Nat.succ.inj e)
theorem A1{P:List Value->Prop}(h:∀a0,P [a0]):∀us:List Value,us.length=1->P us:=E9 λa us e=>V3 (P:=λus=>P (a::us)) (h a) us e
theorem nL{P:List Value->Prop}(h:∀a0 a1,P [a0,a1]):∀us:List Value,us.length=2->P us:=E9 λa us e=>A1 (P:=λus=>P (a::us)) (h a) us e
theorem i4{P:List Value->Prop}(h:∀a0 a1 a2,P [a0,a1,a2]):∀us:List Value,us.length=3->P us:=E9 λa us e=>nL (P:=λus=>P (a::us)) (h a) us e
theorem V2{P:List Value->Prop}(h:∀a0 a1 a2 a3,P [a0,a1,a2,a3]):∀us:List Value,us.length=4->P us:=E9 λa us e=>i4 (P:=λus=>P (a::us)) (h a) us e
theorem V1{P:List Value->Prop}(h:∀a0 a1 a2 a3 a4,P [a0,a1,a2,a3,a4]):∀us:List Value,us.length=5->P us:=E9 λa us e=>V2 (P:=λus=>P (a::us)) (h a) us e
theorem all_mk{l:PySem.W.OpenLaw}{q:Bp}{w:World}{K:PySem.W.Frag}{h:Heap}{mg:Str->Option Value}{fa f1 f2 f3 f4 f5 f6 f7 f8 f9 f10 f11 f12 f13 f14 f15 f16 f17 f18 f19 f20 f21 f22 f23 f24 f25:Addr}{d1 d2 d3 d4 d5 d6 d7 d8 d9 d10 d11 d12 d13 d14 d15 d16 d17 d18 d19 d20 d21 d22 d23 d24:Ca}(X:K.In h)(G:h.Ns Ck mg)(hfa:mg "law" = some (.ref fa)){od an:Option Addr}{sl:Array (Option Value)}{oc kV dc pm cd ct:Value}(D1:Def K "_law_draws" bD f1 d1)(D2:Def K "_law_next" kQ f2 d2)(D3:Def K "together" Nn f3 d3)(D4:Def K "within" Wf f4 d4)(D5:Def K "begins" Xf f5 d5)(D6:Def K "is_whole" Qo f6 d6)(D7:Def K "value_word" Oa f7 d7)(D8:Def K "written_as" Nq f8 d8)(D9:Def K "find" gY f9 d9)(D10:Def K "_law_small" Nt f10 d10)(D11:Def K "_law_layout" Mn f11 d11)(D12:Def K "_law_values" Mo f12 d12)(D13:Def K "choose" Wd f13 d13)(D14:Def K "word_at" Th f14 d14)(D15:Def K "words_of" Qi f15 d15)(D16:Def K "needled" Tu f16 d16)(D17:Def K "cut_in" Wq f17 d17)(D18:Def K "number_lists" Ls f18 d18)(D19:Def K "clean" bJ f19 d19)(D20:Def K "_law_cleaned" Li f20 d20)(D21:Def K "_law_fewer" Nm f21 d21)(D22:Def K "_law_dropped" Lo f22 d22)(D23:Def K "_law_asked" Nr f23 d23)(D24:Def K "_law_otherwise" Jx f24 d24)(aL:PySem.W.nsIn K Ck "law" = some (some (.ref f25)))(lL:K.lookup f25=some ⟨oc,od,.func (PySem.W.fnOf "law" "law" (Mc cA) (Hy cA) (Bw cA) .none kV dc pm an cd ct),sl⟩)(cL:PySem.W.codeIn K cd "law" = true)(kL:PySem.W.keepIn K (.ref f25)=true)(z1:PySem.W.nsIn K Ck "tuple" = some none)(z2:PySem.W.nsIn K Ck "sorted" = some none)(z3:PySem.W.nsIn K Ck "set" = some none)(z4:PySem.W.nsIn K Ck "all" = some none)(z5:PySem.W.nsIn K Ck "bool" = some none)(z6:PySem.W.nsIn K Ck "isinstance" = some none)(z7:PySem.W.nsIn K Ck "int" = some none)(z8:PySem.W.nsIn K Ck "zip" = some none)(z9:PySem.W.nsIn K Ck "len" = some none)(z10:PySem.W.nsIn K Ck "enumerate" = some none)(z11:PySem.W.nsIn K Ck "range" = some none)(z12:PySem.W.nsIn K Ck "min" = some none)(z13:PySem.W.nsIn K Ck "list" = some none)(tz_often:PySem.W.nsIn K Ck "often" = some none)(tz_cut_by:PySem.W.nsIn K Ck "cut_by" = some none):aO q K/\∃fd:Ca,(∀(s:Al) (v:Value),BindsTo s fd ⟨[v],[]⟩ [("_law_script",v)])/\∀base:Heap,K.In base->base.Ns Ck mg->FnOk l.prog w K mg base Gh 7 fa fd ["_law_script"] (DL.spLawD K):=by
 have e:=hfa.symm.trans (PySem.W.mg_of X G aL)
 cases e
 have FL:=oG (st:=cA) lL cL kL
 have b1:=D1.fn.binds (ps:=["_law_cell"]) λ_ _ _ _ _ _=>A1 (λ_=>rfl)
 have b2:=D2.fn.binds (ps:=["_law_draws_here"]) λ_ _ _ _ _ _=>A1 (λ_=>rfl)
 have b3:=D3.fn.binds (ps:=["one", "other"]) λ_ _ _ _ _ _=>nL (λ_ _=>rfl)
 have b4:=D4.fn.binds (ps:=["one", "other"]) λ_ _ _ _ _ _=>nL (λ_ _=>rfl)
 have b5:=D5.fn.binds (ps:=["layout"]) λ_ _ _ _ _ _=>A1 (λ_=>rfl)
 have b6:=D6.fn.binds (ps:=["thing"]) λ_ _ _ _ _ _=>A1 (λ_=>rfl)
 have b7:=D7.fn.binds (ps:=["layout", "name", "number"]) λ_ _ _ _ _ _=>i4 (λ_ _ _=>rfl)
 have b8:=D8.fn.binds (ps:=["layout", "values"]) λ_ _ _ _ _ _=>nL (λ_ _=>rfl)
 have b9:=D9.fn.binds (ps:=["layout", "cards", "question"]) λ_ _ _ _ _ _=>i4 (λ_ _ _=>rfl)
 have b10:=D10.fn.binds (ps:=["_law_draws_here", "_law_holes"]) λ_ _ _ _ _ _=>nL (λ_ _=>rfl)
 have b11:=D11.fn.binds (ps:=["_law_draws_here"]) λ_ _ _ _ _ _=>A1 (λ_=>rfl)
 have b12:=D12.fn.binds (ps:=["_law_draws_here", "_law_layout_here", "_law_limit"]) λ_ _ _ _ _ _=>i4 (λ_ _ _=>rfl)
 have b13:=D13.fn.binds (ps:=["n", "k"]) λ_ _ _ _ _ _=>nL (λ_ _=>rfl)
 have b14:=D14.fn.binds (ps:=["holes", "many", "number"]) λ_ _ _ _ _ _=>i4 (λ_ _ _=>rfl)
 have b15:=D15.fn.binds (ps:=["holes", "many"]) λ_ _ _ _ _ _=>nL (λ_ _=>rfl)
 have b16:=D16.fn.binds (ps:=["deck", "needles"]) λ_ _ _ _ _ _=>nL (λ_ _=>rfl)
 have b17:=D17.fn.binds (ps:=["code", "numbers"]) λ_ _ _ _ _ _=>nL (λ_ _=>rfl)
 have b18:=D18.fn.binds (ps:=["many", "several"]) λ_ _ _ _ _ _=>nL (λ_ _=>rfl)
 have b19:=D19.fn.binds (ps:=["code", "several"]) λ_ _ _ _ _ _=>nL (λ_ _=>rfl)
 have b20:=D20.fn.binds (ps:=["_law_layout_here", "_law_limit"]) λ_ _ _ _ _ _=>nL (λ_ _=>rfl)
 have b21:=D21.fn.binds (ps:=["_law_values_here", "_law_limit"]) λ_ _ _ _ _ _=>nL (λ_ _=>rfl)
 have b22:=D22.fn.binds (ps:=["_law_layout_here", "_law_cards", "_law_question"]) λ_ _ _ _ _ _=>i4 (λ_ _ _=>rfl)
 have b23:=D23.fn.binds (ps:=["_law_layout_here", "_law_cards", "_law_question"]) λ_ _ _ _ _ _=>i4 (λ_ _ _=>rfl)
 have b24:=D24.fn.binds (ps:=["_law_draws_here", "_law_layout_here", "_law_cards", "_law_question", "_law_told"]) λ_ _ _ _ _ _=>V1 (λ_ _ _ _ _=>rfl)
 have m1:=PySem.W.mg_of X G D1.nm
 have m2:=PySem.W.mg_of X G D2.nm
 have m3:=PySem.W.mg_of X G D3.nm
 have m4:=PySem.W.mg_of X G D4.nm
 have m5:=PySem.W.mg_of X G D5.nm
 have m6:=PySem.W.mg_of X G D6.nm
 have m7:=PySem.W.mg_of X G D7.nm
 have m8:=PySem.W.mg_of X G D8.nm
 have m9:=PySem.W.mg_of X G D9.nm
 have m10:=PySem.W.mg_of X G D10.nm
 have m11:=PySem.W.mg_of X G D11.nm
 have m12:=PySem.W.mg_of X G D12.nm
 have m13:=PySem.W.mg_of X G D13.nm
 have m14:=PySem.W.mg_of X G D14.nm
 have m15:=PySem.W.mg_of X G D15.nm
 have m16:=PySem.W.mg_of X G D16.nm
 have m17:=PySem.W.mg_of X G D17.nm
 have m18:=PySem.W.mg_of X G D18.nm
 have m19:=PySem.W.mg_of X G D19.nm
 have m20:=PySem.W.mg_of X G D20.nm
 have m21:=PySem.W.mg_of X G D21.nm
 have m22:=PySem.W.mg_of X G D22.nm
 have m23:=PySem.W.mg_of X G D23.nm
 have m24:=PySem.W.mg_of X G D24.nm
 have y1:=PySem.W.mg_none_of X G z1
 have y2:=PySem.W.mg_none_of X G z2
 have y3:=PySem.W.mg_none_of X G z3
 have y4:=PySem.W.mg_none_of X G z4
 have y5:=PySem.W.mg_none_of X G z5
 have y6:=PySem.W.mg_none_of X G z6
 have y7:=PySem.W.mg_none_of X G z7
 have y8:=PySem.W.mg_none_of X G z8
 have y9:=PySem.W.mg_none_of X G z9
 have y10:=PySem.W.mg_none_of X G z10
 have y11:=PySem.W.mg_none_of X G z11
 have y12:=PySem.W.mg_none_of X G z12
 have y13:=PySem.W.mg_none_of X G z13
 have tn_often:=DL.tab_no tz_often
 have tn_cut_by:=DL.tab_no tz_cut_by
 refine ⟨lO tn_often tn_cut_by,PySem.W.fnOf "law" "law" (Mc cA) (Hy cA) (Bw cA) .none kV dc pm an cd ct,λs v=>.of_eq rfl,λbase _ _=>?_⟩
 have g1:=nB (P:=l.prog) (w:=w) (mg:=mg) (base:=base) D1.fn
 have g2:=oU (P:=l.prog) (w:=w) (mg:=mg) (base:=base) D2.fn
 have g3:=aP (P:=l.prog) (w:=w) (mg:=mg) (base:=base) D3.fn y1 y2 y3
 have g4:=mG (P:=l.prog) (w:=w) (mg:=mg) (base:=base) D4.fn y4
 have g5:=lU (P:=l.prog) (w:=w) (mg:=mg) (base:=base) D5.fn
 have g6:=eD (P:=l.prog) (w:=w) (mg:=mg) (base:=base) D6.fn y5 y6 y7
 have g7:=Ym (P:=l.prog) (w:=w) (mg:=mg) (base:=base) D7.fn g6 b6 D6.fn.kp m6 g5 b5 D5.fn.kp m5 y8 y9 y1
 have g8:=Yg (P:=l.prog) (w:=w) (mg:=mg) (base:=base) D8.fn g3 b3 D3.fn.kp m3 g7 b7 D7.fn.kp m7
 have g9:=uW (P:=l.prog) (w:=w) (mg:=mg) (base:=base) D9.fn g4 b4 D4.fn.kp m4 g8 b8 D8.fn.kp m8 y10 y4
 have g10:=Yj (P:=l.prog) (w:=w) (mg:=mg) (base:=base) D10.fn g2 b2 D2.fn.kp m2 y11 y1
 have g11:=Xc (P:=l.prog) (w:=w) (mg:=mg) (base:=base) D11.fn g2 b2 D2.fn.kp m2 g10 b10 D10.fn.kp m10 y7 y11
 have g12:=Vs (P:=l.prog) (w:=w) (mg:=mg) (base:=base) D12.fn g2 b2 D2.fn.kp m2 y11 y9
 have g13:=mX (P:=l.prog) (w:=w) (mg:=mg) (base:=base) D13.fn y12 y11
 have g14:=gX (P:=l.prog) (w:=w) (mg:=mg) (base:=base) D14.fn g13 b13 D13.fn.kp m13 y9
 have g15:=eX (P:=l.prog) (w:=w) (mg:=mg) (base:=base) D15.fn g13 b13 D13.fn.kp m13 g14 b14 D14.fn.kp m14 y11
 have g16:=iN (P:=l.prog) (w:=w) (mg:=mg) (base:=base) D16.fn g4 b4 D4.fn.kp m4
 have g17:=nP (P:=l.prog) (w:=w) (mg:=mg) (base:=base) D17.fn g3 b3 D3.fn.kp m3
 have g18:=Up (P:=l.prog) (w:=w) (mg:=mg) (base:=base) D18.fn g15 b15 D15.fn.kp m15 y12 y11 y13
 have g19:=oV (P:=l.prog) (w:=w) (mg:=mg) (base:=base) D19.fn g4 b4 D4.fn.kp m4 g17 b17 D17.fn.kp m17 g18 b18 D18.fn.kp m18 y9 y10
 have g20:=Uv (P:=l.prog) (w:=w) (mg:=mg) (base:=base) D20.fn g19 b19 D19.fn.kp m19 y13
 have g21:=Yq (P:=l.prog) (w:=w) (mg:=mg) (base:=base) D21.fn y9
 have g22:=Uo (P:=l.prog) (w:=w) (mg:=mg) (base:=base) D22.fn g8 b8 D8.fn.kp m8 g16 b16 D16.fn.kp m16 y10
 have g23:=Yl (P:=l.prog) (w:=w) (mg:=mg) (base:=base) D23.fn g9 b9 D9.fn.kp m9 g22 b22 D22.fn.kp m22 y2
 have g24:=Rx (P:=l.prog) (w:=w) (mg:=mg) (base:=base) D24.fn g9 b9 D9.fn.kp m9 g2 b2 D2.fn.kp m2 y9 y11
 exact j9 FL g1 b1 D1.fn.kp m1 g2 b2 D2.fn.kp m2 g11 b11 D11.fn.kp m11 g12 b12 D12.fn.kp m12 g20 b20 D20.fn.kp m20 g21 b21 D21.fn.kp m21 g23 b23 D23.fn.kp m23 g24 b24 D24.fn.kp m24 y7 y11 y9
theorem walk{l:PySem.W.OpenLaw}{q:Bp}{loose:List Str}{XP:(Str->Option Value)->Heap->Prop}{YP:World->Heap->Prop}{d:DefRec}{K:Params->PySem.W.Frag}(hn:l.most=some 63)(hdf:d.params.defaults=[])(hY:∀(w:World) (h:Heap),YP w h->(K w.params).In h)(F:∀(w:World) (mg:Str->Option Value) (fa:Addr) (h:Heap),(K w.params).In h->h.Ns Ck mg->mg d.name=some (.ref fa)->aO q (K w.params)/\∃fd:Ca,(∀(s:Al) (u:Value),BindsTo s fd ⟨[u],[]⟩ [("_law_script",u)])/\∀base:Heap,(K w.params).In base->base.Ns Ck mg->FnOk l.prog w (K w.params) mg base Gh 7 fa fd ["_law_script"] (DL.spLawD (K w.params))):PySem.W.WalkO q loose XP YP l.row.toRowW d [] (λf vs=>PySem.call f vs) :=
 L2.walk_ofD (n:=63) (k:=7) (x := "_law_script") (CX:=λ_=>Gh) (sp:=λw=>DL.spLawD (K w.params)) hn (by decide) hdf ⟨rfl,by decide,by decide,rfl⟩ hY F (λ_ _ a ns hl _ hS=>⟨a,ns,rfl,hS,hl,λ_=>rfl⟩) λ_ _ _ _ _ z=>z
end K64
theorem V4:PySem.Challenge.rw_needledeck_k64_whole_found_and_nothing_w.wellSaid=true:=by kernel_rfl
open PySem PySem.W PyProof.Rows
local macro_rules | `(tactic| refine $h:ident (q := $q) (loose := $l) (Xt := $a) (XP := $b) (Yf := $c) (Ya := $d) (YP := $e) (N := $n) ?hl $y*) => `(tactic| refine $h:ident (q := $q) (loose := $l) (Xt := $a) (XP := $b) (Yf := $c) (Ya := $d) (YP := $e) (N := $n) (fun _ => by kernel_rfl) $y*)
set_option maxRecDepth 100000 in
set_option maxHeartbeats 0 in
theorem PySem.Challenge.cw_needledeck_k64_whole_found_and_nothing_w_holds : PySem.Challenge.rw_needledeck_k64_whole_found_and_nothing_w.Holds := by
 w_on; refine holds_law V4 λsaid=>?_; k_head; (case hw=>w_witness2)
 k_fill
 refine K64.walk (l:=PySem.Challenge.rw_needledeck_k64_whole_found_and_nothing_w) rfl rfl (λw h Y=>PySem.W.kIn_of Y) ?F
 case F =>
  intro w mg fa h KX G hmg
  refine' K64.all_mk KX G hmg (K64.def_mk ?a1 ?l1 ?c1 ?k1) (K64.def_mk ?a2 ?l2 ?c2 ?k2) (K64.def_mk ?a3 ?l3 ?c3 ?k3) (K64.def_mk ?a4 ?l4 ?c4 ?k4) (K64.def_mk ?a5 ?l5 ?c5 ?k5) (K64.def_mk ?a6 ?l6 ?c6 ?k6) (K64.def_mk ?a7 ?l7 ?c7 ?k7) (K64.def_mk ?a8 ?l8 ?c8 ?k8) (K64.def_mk ?a9 ?l9 ?c9 ?k9) (K64.def_mk ?a10 ?l10 ?c10 ?k10) (K64.def_mk ?a11 ?l11 ?c11 ?k11) (K64.def_mk ?a12 ?l12 ?c12 ?k12) (K64.def_mk ?a13 ?l13 ?c13 ?k13) (K64.def_mk ?a14 ?l14 ?c14 ?k14) (K64.def_mk ?a15 ?l15 ?c15 ?k15) (K64.def_mk ?a16 ?l16 ?c16 ?k16) (K64.def_mk ?a17 ?l17 ?c17 ?k17) (K64.def_mk ?a18 ?l18 ?c18 ?k18) (K64.def_mk ?a19 ?l19 ?c19 ?k19) (K64.def_mk ?a20 ?l20 ?c20 ?k20) (K64.def_mk ?a21 ?l21 ?c21 ?k21) (K64.def_mk ?a22 ?l22 ?c22 ?k22) (K64.def_mk ?a23 ?l23 ?c23 ?k23) (K64.def_mk ?a24 ?l24 ?c24 ?k24) ?aL ?lL ?cL ?kL ?z1 ?z2 ?z3 ?z4 ?z5 ?z6 ?z7 ?z8 ?z9 ?z10 ?z11 ?z12 ?z13 ?tz_often ?tz_cut_by
  (case a1=>k_is); (case l1=>k_is); (case c1=>k_is); (case k1=>k_is)
  (case a2=>k_is); (case l2=>k_is); (case c2=>k_is); (case k2=>k_is)
  (case a3=>k_is); (case l3=>k_is); (case c3=>k_is); (case k3=>k_is)
  (case a4=>k_is); (case l4=>k_is); (case c4=>k_is); (case k4=>k_is)
  (case a5=>k_is); (case l5=>k_is); (case c5=>k_is); (case k5=>k_is)
  (case a6=>k_is); (case l6=>k_is); (case c6=>k_is); (case k6=>k_is)
  (case a7=>k_is); (case l7=>k_is); (case c7=>k_is); (case k7=>k_is)
  (case a8=>k_is); (case l8=>k_is); (case c8=>k_is); (case k8=>k_is)
  (case a9=>k_is); (case l9=>k_is); (case c9=>k_is); (case k9=>k_is)
  (case a10=>k_is); (case l10=>k_is); (case c10=>k_is); (case k10=>k_is)
  (case a11=>k_is); (case l11=>k_is); (case c11=>k_is); (case k11=>k_is)
  (case a12=>k_is); (case l12=>k_is); (case c12=>k_is); (case k12=>k_is)
  (case a13=>k_is); (case l13=>k_is); (case c13=>k_is); (case k13=>k_is)
  (case a14=>k_is); (case l14=>k_is); (case c14=>k_is); (case k14=>k_is)
  (case a15=>k_is); (case l15=>k_is); (case c15=>k_is); (case k15=>k_is)
  (case a16=>k_is); (case l16=>k_is); (case c16=>k_is); (case k16=>k_is)
  (case a17=>k_is); (case l17=>k_is); (case c17=>k_is); (case k17=>k_is)
  (case a18=>k_is); (case l18=>k_is); (case c18=>k_is); (case k18=>k_is)
  (case a19=>k_is); (case l19=>k_is); (case c19=>k_is); (case k19=>k_is)
  (case a20=>k_is); (case l20=>k_is); (case c20=>k_is); (case k20=>k_is)
  (case a21=>k_is); (case l21=>k_is); (case c21=>k_is); (case k21=>k_is)
  (case a22=>k_is); (case l22=>k_is); (case c22=>k_is); (case k22=>k_is)
  (case a23=>k_is); (case l23=>k_is); (case c23=>k_is); (case k23=>k_is)
  (case a24=>k_is); (case l24=>k_is); (case c24=>k_is); (case k24=>k_is)
  (case aL=>k_is); (case lL=>k_is); (case cL=>k_is); (case kL=>k_is)
  (case z1=>k_is); (case z2=>k_is); (case z3=>k_is); (case z4=>k_is); (case z5=>k_is); (case z6=>k_is); (case z7=>k_is); (case z8=>k_is); (case z9=>k_is); (case z10=>k_is); (case z11=>k_is); (case z12=>k_is); (case z13=>k_is)
  (case tz_often=>k_is)
  (case tz_cut_by=>k_is)