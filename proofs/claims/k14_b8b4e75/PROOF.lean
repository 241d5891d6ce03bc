import PyProof.Rows.All
import KE.KLam
import Wide.All
import OpenK.AllK
import Wide.FinOn
import Lean
import PyProof.EqAt
import PyProof.EqKinds
import PyProof.TupleCall
import PyProof.FactsAll.set
import PyProof.FactsAll.subtypes
import KE.KTupSum
import KE.KMinBuiltin
import PyProof.Draws
import PyProof.DictWalks
import PyProof.DictCompW
import PyProof.IsiH_tuple
import PyProof.FactsAll.zip
import KE.KDictOf
import PyProof.DictValues
import KE.KSortKey
import PyProof.WalkInts
import PyProof.TupleKey
import PyProof.SetRoads
import PyProof.IsRules
import PySem.Challenge.RW_needledeck_k14_chains_told
set_option Elab.async false
set_option linter.all false
set_option maxRecDepth 100000
set_option maxHeartbeats 4000000
set_option genSizeOf false
local macro_rules|`(tactic|omega)=>`(tactic|first|lia|omega +splitDisjunctions)
theorem e0a2{A B:Prop}{G:Prop}(k:A→B→G)(h:A∧B):G:=k h.1 h.2
theorem e0a3{A B C:Prop}{G:Prop}(k:A→B→C→G)(h:A∧B∧C):G:=k h.1 h.2.1 h.2.2
theorem e0a4{A B C D:Prop}{G:Prop}(k:A→B→C→D→G)(h:A∧B∧C∧D):G:=k h.1 h.2.1 h.2.2.1 h.2.2.2
theorem e0a5{A B C D E:Prop}{G:Prop}(k:A→B→C→D→E→G)(h:A∧B∧C∧D∧E):G:=k h.1 h.2.1 h.2.2.1 h.2.2.2.1 h.2.2.2.2
theorem e0a6{A B C D E F:Prop}{G:Prop}(k:A→B→C→D→E→F→G)(h:A∧B∧C∧D∧E∧F):G:=k h.1 h.2.1 h.2.2.1 h.2.2.2.1 h.2.2.2.2.1 h.2.2.2.2.2
theorem e1a1{t0:Type}{A:t0→Prop}{G:Prop}(k:∀x,A x→G)(h:∃x,A x):G:=h.elim λx h=>k x h
theorem e1a2{t0:Type}{A B:t0→Prop}{G:Prop}(k:∀x,A x→B x→G)(h:∃x,A x∧B x):G:=h.elim λx h=>k x h.1 h.2
theorem e1a3{t0:Type}{A B C:t0→Prop}{G:Prop}(k:∀x,A x→B x→C x→G)(h:∃x,A x∧B x∧C x):G:=h.elim λx h=>k x h.1 h.2.1 h.2.2
theorem e1a4{t0:Type}{A B C D:t0→Prop}{G:Prop}(k:∀x,A x→B x→C x→D x→G)(h:∃x,A x∧B x∧C x∧D x):G:=h.elim λx h=>k x h.1 h.2.1 h.2.2.1 h.2.2.2
theorem e2a1{t0 t1:Type}{A:t0→t1→Prop}{G:Prop}(k:∀x y,A x y→G)(h:∃x y,A x y):G:=h.elim λx h=>h.elim λy h=>k x y h
theorem e2a2{t0 t1:Type}{A B:t0→t1→Prop}{G:Prop}(k:∀x y,A x y→B x y→G)(h:∃x y,A x y∧B x y):G:=h.elim λx h=>h.elim λy h=>k x y h.1 h.2
theorem e2a3{t0 t1:Type}{A B C:t0→t1→Prop}{G:Prop}(k:∀x y,A x y→B x y→C x y→G)(h:∃x y,A x y∧B x y∧C x y):G:=h.elim λx h=>h.elim λy h=>k x y h.1 h.2.1 h.2.2
theorem e2a4{t0 t1:Type}{A B C D:t0→t1→Prop}{G:Prop}(k:∀x y,A x y→B x y→C x y→D x y→G)(h:∃x y,A x y∧B x y∧C x y∧D x y):G:=h.elim λx h=>h.elim λy h=>k x y h.1 h.2.1 h.2.2.1 h.2.2.2
theorem e3a1{t0 t1 t2:Type}{A:t0→t1→t2→Prop}{G:Prop}(k:∀x y z,A x y z→G)(h:∃x y z,A x y z):G:=h.elim λx h=>h.elim λy h=>h.elim λz h=>k x y z h
theorem e3a3{t0 t1 t2:Type}{A B C:t0→t1→t2→Prop}{G:Prop}(k:∀x y z,A x y z→B x y z→C x y z→G)(h:∃x y z,A x y z∧B x y z∧C x y z):G:=h.elim λx h=>h.elim λy h=>h.elim λz h=>k x y z h.1 h.2.1 h.2.2
theorem e3a4{t0 t1 t2:Type}{A B C D:t0→t1→t2→Prop}{G:Prop}(k:∀x y z,A x y z→B x y z→C x y z→D x y z→G)(h:∃x y z,A x y z∧B x y z∧C x y z∧D x y z):G:=h.elim λx h=>h.elim λy h=>h.elim λz h=>k x y z h.1 h.2.1 h.2.2.1 h.2.2.2
theorem e3a5{t0 t1 t2:Type}{A B C D E:t0→t1→t2→Prop}{G:Prop}(k:∀x y z,A x y z→B x y z→C x y z→D x y z→E x y z→G)(h:∃x y z,A x y z∧B x y z∧C x y z∧D x y z∧E x y z):G:=h.elim λx h=>h.elim λy h=>h.elim λz h=>k x y z h.1 h.2.1 h.2.2.1 h.2.2.2.1 h.2.2.2.2
theorem e4a1{t0 t1 t2 t3:Type}{A:t0→t1→t2→t3→Prop}{G:Prop}(k:∀x y z w,A x y z w→G)(h:∃x y z w,A x y z w):G:=h.elim λx h=>h.elim λy h=>h.elim λz h=>h.elim λw h=>k x y z w h
theorem e4a2{t0 t1 t2 t3:Type}{A B:t0→t1→t2→t3→Prop}{G:Prop}(k:∀x y z w,A x y z w→B x y z w→G)(h:∃x y z w,A x y z w∧B x y z w):G:=h.elim λx h=>h.elim λy h=>h.elim λz h=>h.elim λw h=>k x y z w h.1 h.2
theorem e5a2{t0 t1 t2 t3 t4:Type}{A B:t0→t1→t2→t3→t4→Prop}{G:Prop}(k:∀x y z w u,A x y z w u→B x y z w u→G)(h:∃x y z w u,A x y z w u∧B x y z w u):G:=h.elim λx h=>h.elim λy h=>h.elim λz h=>h.elim λw h=>h.elim λu h=>k x y z w u h.1 h.2
theorem e4a5{t0 t1 t2 t3:Type}{A B C D E:t0→t1→t2→t3→Prop}{G:Prop}(k:∀x y z w,A x y z w→B x y z w→C x y z w→D x y z w→E x y z w→G)(h:∃x y z w,A x y z w∧B x y z w∧C x y z w∧D x y z w∧E x y z w):G:=h.elim λx h=>h.elim λy h=>h.elim λz h=>h.elim λw h=>k x y z w h.1 h.2.1 h.2.2.1 h.2.2.2.1 h.2.2.2.2
theorem e5a5{t0 t1 t2 t3 t4:Type}{A B C D E:t0→t1→t2→t3→t4→Prop}{G:Prop}(k:∀x y z w u,A x y z w u→B x y z w u→C x y z w u→D x y z w u→E x y z w u→G)(h:∃x y z w u,A x y z w u∧B x y z w u∧C x y z w u∧D x y z w u∧E x y z w u):G:=h.elim λx h=>h.elim λy h=>h.elim λz h=>h.elim λw h=>h.elim λu h=>k x y z w u h.1 h.2.1 h.2.2.1 h.2.2.2.1 h.2.2.2.2
theorem e6a5{t0 t1 t2 t3 t4 t5:Type}{A B C D E:t0→t1→t2→t3→t4→t5→Prop}{G:Prop}(k:∀x y z w u v,A x y z w u v→B x y z w u v→C x y z w u v→D x y z w u v→E x y z w u v→G)(h:∃x y z w u v,A x y z w u v∧B x y z w u v∧C x y z w u v∧D x y z w u v∧E x y z w u v):G:=h.elim λx h=>h.elim λy h=>h.elim λz h=>h.elim λw h=>h.elim λu h=>h.elim λv h=>k x y z w u v h.1 h.2.1 h.2.2.1 h.2.2.2.1 h.2.2.2.2
theorem e4a7{t0 t1 t2 t3:Type}{A B C D E F H:t0→t1→t2→t3→Prop}{G:Prop}(k:∀x y z w,A x y z w→B x y z w→C x y z w→D x y z w→E x y z w→F x y z w→H x y z w→G)(h:∃x y z w,A x y z w∧B x y z w∧C x y z w∧D x y z w∧E x y z w∧F x y z w∧H x y z w):G:=h.elim λx h=>h.elim λy h=>h.elim λz h=>h.elim λw h=>k x y z w h.1 h.2.1 h.2.2.1 h.2.2.2.1 h.2.2.2.2.1 h.2.2.2.2.2.1 h.2.2.2.2.2.2
theorem e5a7{t0 t1 t2 t3 t4:Type}{A B C D E F H:t0→t1→t2→t3→t4→Prop}{G:Prop}(k:∀x y z w u,A x y z w u→B x y z w u→C x y z w u→D x y z w u→E x y z w u→F x y z w u→H x y z w u→G)(h:∃x y z w u,A x y z w u∧B x y z w u∧C x y z w u∧D x y z w u∧E x y z w u∧F x y z w u∧H x y z w u):G:=h.elim λx h=>h.elim λy h=>h.elim λz h=>h.elim λw h=>h.elim λu h=>k x y z w u h.1 h.2.1 h.2.2.1 h.2.2.2.1 h.2.2.2.2.1 h.2.2.2.2.2.1 h.2.2.2.2.2.2
theorem e6a7{t0 t1 t2 t3 t4 t5:Type}{A B C D E F H:t0→t1→t2→t3→t4→t5→Prop}{G:Prop}(k:∀x y z w u v,A x y z w u v→B x y z w u v→C x y z w u v→D x y z w u v→E x y z w u v→F x y z w u v→H x y z w u v→G)(h:∃x y z w u v,A x y z w u v∧B x y z w u v∧C x y z w u v∧D x y z w u v∧E x y z w u v∧F x y z w u v∧H x y z w u v):G:=h.elim λx h=>h.elim λy h=>h.elim λz h=>h.elim λw h=>h.elim λu h=>h.elim λv h=>k x y z w u v h.1 h.2.1 h.2.2.1 h.2.2.2.1 h.2.2.2.2.1 h.2.2.2.2.2.1 h.2.2.2.2.2.2
local macro_rules|`(tactic|obtain $p:rcasesPatMed:=$v:term)=>do
 let c s:=((p.raw.reprint.getD "").splitOn s).length
 if c ","<3||c "|">1||c ":">1 then Lean.Macro.throwUnsupported
 let T (a:Lean.Syntax):Lean.TSyntax `Lean.Parser.Tactic.rcasesPatMed:=⟨a⟩
 let q:=p.raw
 let x:=q[0][0]
 let l:=x[1].getSepArgs
 let mut a:Array (Lean.TSyntax ``Lean.Parser.Tactic.tacticSeq):=#[]
 let mut y:Array Lean.Term:=#[]
 let mut z:Array (Array (Lean.TSyntax `tactic)):=#[]
 for o in l do
  let u:=o[0][0][0]
  let f:=Lean.mkIdent (←Lean.Macro.addMacroScope (.mkSimple s!"f{y.size}"))
  if u[0].getId==`rfl then
   y:=y.push f
   z:=z.push #[←`(tactic|subst $f:term)]
  else if u[0].isIdent then
   y:=y.push ⟨u[0]⟩
   z:=z.push #[]
  else if u[1].isMissing then
   y:=y.push (←`(_))
   z:=z.push #[]
  else
   y:=y.push f
   z:=z.push #[←`(tactic|obtain $(T o[0]):rcasesPatMed:=$f)]
 for j in [0:l.size] do
  if j==1 then continue
  let n:=l.size-j
  let mut i:=y.extract 0 n
  let mut w:=(z.extract 0 n).flatten
  if j>0 then
   i:=i.push (←`(r_))
   w:=w.push (←`(tactic|obtain $(T (q.setArg 0 (q[0].setArg 0 (x.setArg 1 (Lean.mkNullNode (Lean.mkSepArray (l.extract n l.size) (Lean.mkAtom ","))))))):rcasesPatMed:=r_))
  for k in [0:i.size] do
   let m:=Lean.mkIdent (.mkSimple s!"e{k}a{i.size-k}")
   let g←if v.raw.isIdent then `(tactic|(revert $(⟨v⟩):ident;refine $m fun $i*=>?_)) else `(tactic|refine $m (fun $i*=>?_) $v)
   a:=a.push (←`(Lean.Parser.Tactic.tacticSeq| $g:tactic;$[$w];*))
  if j==0&& !v.raw.isIdent then
   a:=a.push (←`(Lean.Parser.Tactic.tacticSeq| have h_ := $v; obtain $p := h_))
   break
 a:=a.push (←`(Lean.Parser.Tactic.tacticSeq| rcases $v:term with $p))
 `(tactic|first $[| $a]*)
open Array renaming length_toList → Aj, getD_eq_getD_getElem? → Cb, toList_append → Da, getElem?_eq_some_iff → Gp, getElem?_toList → Ie, toList_push → Ik, perm_iff_toList_perm → Je, toList_extract → Li, size_map → Mu, size_setIfInBounds → Ny, toList_reverse → Rf, map → Sg, toList_setIfInBounds → aX, getElem?_eq_getElem → cW
open Bool renaming false_eq_true → Bd, false_ne_true → Bx, and_eq_true → Gk, not_eq_true' → Iw, not_true → Jx, and_false → Sf, not_eq_false' → Vi
open Classical renaming byContradiction → Yy
open False renaming elim → Jd
open ForInStep renaming done → Ce, yield → Fb
open Int renaming toNat_natCast → Dw, zero_add → Qq
open LawfulBEq renaming eq_of_beq → Dg
open List renaming mem_cons_self → Aa, length_map → Ab, mem_append_right → Ad, mem_cons_of_mem → Ae, mem_singleton → Af, mem_cons → An, mem_append_left → Ao, size_toArray → Ap, getElem?_eq_some_iff → Aq, mem_append → Au, length_append → Aw, mem_of_getElem? → Az, map_cons → Bc, getElem?_map → Bf, append_assoc → Bg, not_mem_nil → Bh, length_cons → Bi, pairwise_cons → Bn, nodup_cons → Bo, range → Bp, lookup_cons → Bq, map_append → Bz, getElem?_eq_getElem → Cf, map_map → Ci, pairwise_append → Ck, dropLast_concat_getLast → Cm, mem_map → Cp, length_range → Cs, sublist_append_right → Cu, pairwise_iff_getElem → Dc, nodup_nil → Df, perm_append_comm → Di, mem_flatMap → Dn, length_take → Do, sublist_cons_self → Dx, append_nil → Ec, length_singleton → Eg, pairwise_singleton → Eh, getElem?_append_right → Ej, nodup_append → Es, getElem?_append_left → Fe, take_append_drop → Fg, cons_append → Fm, mem_iff_getElem → Fp, getLast?_eq_some_getLast → Fq, map_congr_left → Gc, take_length → Gi, getLastD_eq_getLast? → Gw, take_succ_eq_append_getElem → Gy, map_set → Ha, length → Hb, drop_sublist → Hd, getElem?_take_of_lt → Hi, replicate → Ho, take_of_length_le → Hx, take_sublist → Ip, reverse_perm → Iq, flatMap_cons → Ir, mem_range → Jf, dropLast_subset → Jg, extract_eq_take_drop → Jn, length_pos_iff → Jq, filterMap_cons → Jr, length_nil → Ka, lookup → Ke, length_eq_zero_iff → Kf, getElem?_set → Km, ext_getElem? → Kn, perm_middle → Lb, length_dropLast → Lm, length_zip → Mc, mem_replicate → Na, filter_append → Nb, mem_of_find?_eq_some → Nr, drop_eq_getElem_cons → Nt, flatten_cons → Nw, mem_reverse → Pa, length_drop → Pb, getLast_mem → Pc, getElem_mem → Pd, eraseIdx_cons_succ → Pe, find?_some → Qp, pairwise_reverse → Qu, getElem?_reverse → Qv, mem_of_mem_drop → Sd, drop_zero → Se, getElem?_range → Tw, flatten_append → Tx, zip_cons_cons → Vf, mem_filterMap → Vg, getElem?_drop → Vh, pairwise_map → Wd, map_nil → We, mapM_toArray → Wf, all_map → Wg, mem_take_iff_getElem → cY, sublist_append_left → gE, length_erase_of_mem → gF, append_cancel_right → gG, range_succ_eq_map → jB, length_pos_of_mem → jC, getElem?_set_self → jD, drop_of_length_le → jE, mem_iff_getElem? → mD, filter_eq_self → oW, find?_eq_none → uP
open List.Pairwise renaming nil → Dz, sublist → Hm
open List.Perm renaming append_left → Hu, swap → Ib, refl → Ic
open List.Sublist renaming refl → El
open List.cons renaming inj → Fz
open Nat renaming le_refl → Ah, lt_of_lt_of_le → Br, le_trans → Bv, ne_of_lt → Cc, zero_le → Cz, lt_irrefl → Gh, mod_eq_of_lt → Gn, not_lt_zero → Gx, zero_add → Hf, lt_succ_of_lt → Iz, le_of_lt → Jm, pow_le_pow_right → Lp, pow_succ → Ms, mod_lt → Ng, lt_of_le_of_lt → Nh, add_mod → Ot, lt_succ_self → Pg, le_add_right → Ph, add_right_comm → Vv, succ_pos → Wy, sub_zero → Wz, sub_self → Xa, lt_succ_iff → aV
open Ne renaming symm → Ow
open Option renaming isSome_iff_exists → Nq
open Option.some renaming inj → Bt
open Or renaming inl → Ff
open Prod.mk renaming injEq → Nf
open PyProof.Rows renaming wpS_bind → Ar, pendingOf → Ax, wpS_pure → Ay, SortSt → Bj, seqObj → Cw, wpS_forRange → Ed, slot_tuple_getitem → Ef, wpS_mono → Gm, IntsAre → He, wpS_modify → Il, failedOf → Jt, SortKind → Jw, callWith_type1 → Kw, wpS_get → Ld, listUpdate_at → Mf, seqEpoch_at → Pu, AllBare → Qa, reverseSlice' → Qn, sortedHeap → Sh, size_push' → Si, get?_update_seq → Tt, pairsOf_toList → Vr, sortedAll → Wa, pairsOf → Wb, firstOfTuple' → Yw, mem_zip_self → aT, subscriptTail_builtinR → uR
open PyProof.Rows.F renaming plain_set_update_loop → Hz, entry_set_update_loop → Os
open PyProof.Rows.SortSt renaming mk' → Tv
open PySem renaming wpAny_bind → Ac, PyData → Ag, Shared → Ai, wpAny_pure → Am, sizeLine → Av, Program → Bm, starEach → Bs, FuncData → Cg, mainGlobals → Cj, SetTable → Cq, Around → Cr, wpAny_mono → Cy, foldedSetIterable → Dh, tupleKeyHash → Ds, intKind → Dt, cellsFrom → Eb, wpAny_holding → Ep, behindInMarks → Ft, wpAny_truthy_bool → Gf, wpAny_newObj_type → Gg, wpAny_standAt → Gu, letOwnedTupleGo → Hj, compareOp → Hk, codeAny → Hl, backTo → Io, IsTupleKey → Iu, binaryOp → Jb, assignEach → Ju, assign → Jv, swapsWith → Jy, bootBuiltins → Jz, wpAny_comprehension_free → Ki, sizeLine_eq → Kv, ofAClassStatement → Le, newFunctionEnv → Lf, codeAny_compStart_list → Lg, sliceBounds → Mq, NameKind → Mt, wpAny_passesOwn → Nc, wpAny_typeOf → Nu, codeAny_mono → Nv, wpAny_Call_Name_kw → Ov, standAt → Pt, holding → Px, wpAny_forIn_list → Rb, wpAny_call_entry → Rc, noFill_tuple_add → Re, builtinsNs → Sj, wpAny_loadPart' → Tr, codeAny_builtin → Tu, exec_Assign_Name_used → Ua, hashByValue → Vs, compEnvC → Vt, IsPart → Vw, callerA → Wc, Keyword → Wh, wpAny_newList → Yt, setSearchFrom → Yu, seq_tuple_add → Yv, attributeBase → Yx, wpAny_pyIter_list → aS, concat_meets → aU, wpAny_callSpecial?_slot → uO, wpAny_pyNext_list_item → uQ, slot_list_getitem → P1
open PySem.Around renaming under_plainId → Qw
open PySem.Builtin.List renaming listTooLong → Me
open PySem.Builtin.Slice renaming slicePlaces → Ia, sliceAdjust → Lh, sliceApplied → Ue
open PySem.Builtin.Tuple renaming tupleExact → Iv, tupleItemsOf → Uc, tupleIsExact → Ud
open PySem.Calls renaming Name_function_global → aW, call_function_entry → cV
open PySem.Heap renaming get?_push_of_some → Al, lt_size → Bb, get?_push_size → Bu, size_update → Gj, SameBut → Ko, get?_push_ne → Nx, get?_update_other → jF
open PySem.Heap.SameBut renaming update → Ek
open PySem.NameKind renaming free → Dk, cell → Dl
open PySem.Obj renaming mapSeq → Co, putSet → Vu
open PySem.PassesOwn renaming never → Er
open PySem.PyData renaming depthAll → Be, int → Bl, depth → Cv, list → Fn
open PySem.SeqAt renaming EqAt → Kx
open PySem.SetTable renaming below → Ct, bits → Dd, insertAt → Dj, turns → Fk, Probe → Fl, runEnd → Hr, laid → Ht, layClean → Mr, sizeAbove → Sb, advance → Ve, insertAt_perm → cU
open PySem.SetTable.below renaming go → Pz
open PySem.SetTable.layClean renaming free → Jc
open PySem.SetTable.probe renaming go → Py
open PySem.SetTable.sizeAbove renaming go → Jh
open PySem.Value renaming ref → Ak, type → Ee, int → Sa, none → Ub
open Sum renaming inl → Qo
open True renaming intro → Vd
namespace L2
open PySem PySem.Spec PyProof.Rows
abbrev Wt:=Sum Int Str
def zA:Wt->Value->Bool
 | .inl k,v=>Value.isInt k v
 | .inr x,v=>Value.isStrOf x v
def T9(w:World):Wt->Int
 | .inl k=>hashInt k
 | .inr x=>hashStr w x
theorem Gq:∀{k:Wt} {v:Value},zA k v=true->(∃i t,k=Qo i/\v=Sa i t)\/(∃x t,k=Sum.inr x/\v=Value.str x t)
 | .inl i,v,h=>by
  obtain ⟨t,e⟩:=Value.isInt_shape (k:=i) (v:=v) h
  exact .inl ⟨i,t,rfl,e⟩
 | .inr x,v,h=>by
  obtain ⟨t,e⟩:=Value.isStrOf_shape (x:=x) (v:=v) h
  exact .inr ⟨x,t,rfl,e⟩
theorem A2(a b:Int):decide ((Qo a:Wt)=Qo b)=(a == b):=by
 by_cases e:a=b
 ·subst e; simp
 ·have h:¬ (Qo a:Wt)=Qo b:=λq=>e (Sum.inl.inj q)
  rw[decide_eq_false h]
  exact (beq_eq_false_iff_ne.mpr e).symm
theorem zN(a b:Str):decide ((Sum.inr a:Wt)=Sum.inr b)=decide (a=b):=by
 by_cases e:a=b
 ·subst e; simp
 ·have h:¬ (Sum.inr a:Wt)=Sum.inr b:=λq=>e (Sum.inr.inj q)
  rw[decide_eq_false h,decide_eq_false e]
theorem p8(a:Int)(b:Str):decide ((Qo a:Wt)=Sum.inr b)=false:=decide_eq_false (λq=>nomatch q)
theorem w8(a:Str)(b:Int):decide ((Sum.inr a:Wt)=Qo b)=false:=decide_eq_false (λq=>nomatch q)
def bD(prog:Bm)(w:World):PySem.KeyKind prog w Wt where
 is:=zA
 hash:=T9 w
 inj:=λv a b ha hb=>by
  rcases Gq ha with ⟨i,t,rfl,rfl⟩ | ⟨x,t,rfl,rfl⟩
  ·rcases Gq hb with ⟨j,u,rfl,e⟩ | ⟨y,u,rfl,e⟩
   ·injection e with e1 _; rw[e1]
   ·exact nomatch e
  ·rcases Gq hb with ⟨j,u,rfl,e⟩ | ⟨y,u,rfl,e⟩
   ·exact nomatch e
   ·injection e with e1 _; rw[e1]
 byValue:=λk v h=>by
  rcases Gq h with ⟨i,t,rfl,rfl⟩ | ⟨x,t,rfl,rfl⟩ <;> rfl
 pyHash:=λhv h=>by
  rcases Gq hv with ⟨i,t,rfl,rfl⟩ | ⟨x,t,rfl,rfl⟩
  ·exact wpAny_pyHash_int h
  ·exact wpAny_pyHash_str h
 eqBool:=λhu hv h=>by
  rcases Gq hu with ⟨i,t,rfl,rfl⟩ | ⟨x,t,rfl,rfl⟩
  ·rcases Gq hv with ⟨j,u,rfl,rfl⟩ | ⟨y,u,rfl,rfl⟩
   ·rw[A2] at h; exact wpAny_eqBool_int h
   ·rw[p8] at h; exact SeqAt.EqAt.int_str i t y u _ _ _ _ h
  ·rcases Gq hv with ⟨j,u,rfl,rfl⟩ | ⟨y,u,rfl,rfl⟩
   ·rw[w8] at h; exact SeqAt.EqAt.str_int x t j u _ _ _ _ h
   ·rw[zN] at h; exact wpAny_eqBool_str h
 «strs»:=λk x t v h=>by
  rcases Gq h with ⟨i,u,rfl,e⟩ | ⟨y,u,rfl,e⟩
  ·exact nomatch e
  ·injection e with e1 _
   subst e1
   cases v <;> rfl
inductive V where
 | non | bl (b:Bool) | int (i:Int) | str (x:Str) | byt (b:Array UInt8) | flt (b:UInt64) | ref (a:Addr) | ty (n:String)
 deriving DecidableEq
def RelV:V->Value->Prop
 | .non,u=>u=Ub
 | .bl b,u=>u=Value.bool b
 | .int i,u=>∃t,u=Sa i t
 | .str x,u=>∃t,u=Value.str x t
 | .byt b,u=>∃t,u=Value.bytes b t
 | .flt b,u=>∃t,u=Value.float b t
 | .ref a,u=>u=Ak a
 | .ty n,u=>u=Ee n
abbrev Fi:List V->List Value->Prop:=Paired RelV
theorem Fi.length{xs:List V}{us:List Value}(r:Fi xs us):xs.length=us.length:=Paired.length r
theorem Fi.get:∀{xs:List V} {us:List Value} {i:Nat} {x:V},Fi xs us->xs[i]? = some x->∃u,us[i]? = some u/\RelV x u
 | _,_,_,_,.nil,e=>by simp at e
 | _,_,0,_,.cons r _,e=>by simp at e; subst e; exact ⟨_,rfl,r⟩
 | _,_,i+1,x,.cons _ t,e=>by
  obtain ⟨u,h1,h2⟩:=Fi.get (i:=i) (x:=x) t (by simpa using e)
  exact ⟨u,by simpa using h1,h2⟩
theorem Fi.set{x:V}{u:Value}(r:RelV x u):∀{xs:List V} {us:List Value} (i:Nat),Fi xs us->Fi (xs.set i x) (us.set i u)
 | _,_,_,.nil=>.nil
 | _,_,0,.cons _ t=>.cons r t
 | _,_,i+1,.cons q t=>.cons q (Fi.set r i t)
theorem Fi.append:∀{xs ys:List V} {us ws:List Value},Fi xs us->Fi ys ws->Fi (xs++ys) (us++ws)
 | _,_,_,_,.nil,s=>s
 | _,_,_,_,.cons r t,s=>.cons r (Fi.append t s)
theorem Fi.take:∀{xs:List V} {us:List Value} (n:Nat),Fi xs us->Fi (xs.take n) (us.take n)
 | _,_,0,_=>.nil
 | _,_,_+1,.nil=>.nil
 | _,_,n+1,.cons r t=>.cons r (Fi.take n t)
theorem Fi.drop:∀{xs:List V} {us:List Value} (n:Nat),Fi xs us->Fi (xs.drop n) (us.drop n)
 | _,_,0,r=>r
 | _,_,_+1,.nil=>.nil
 | _,_,n+1,.cons _ t=>Fi.drop n t
def i7:Option V->Option Value->Prop
 | some v,some u=>RelV v u
 | none,none=>True
 | _,_=>False
def KV{κ:Type}:List (κ×V)->List (κ×Value)->Prop:=Paired λ(p:κ×V) (q:κ×Value)=>p.1=q.1/\RelV p.2 q.2
def kV:Wt->V
 | .inl i=>.int i
 | .inr x=>.str x
inductive HO where
 /-- a list -/
 | lst (xs:List V)
 /-- a tuple (never changes) -/
 | tup (xs:List V)
 /-- a dict whose xR are ints and texts; one whose xR are tuples of ints and texts (the empty one is both) -/
 | dK (kvs:List (Wt×V)) | dT (kvs:List (List Wt×V))
 /-- a set of ints: its members,its size -/
 | set (S:Int->Bool) (n:Nat)
 /-- an instance of the class at C,its dict at dx,its attributes -/
 | ins (C dx:Addr) (fs:List (Str×V))
 /-- the dict of the instance at x -/
 | own (x:Addr)
 /-- the dict of an exception -/
 | xd (fs:List (Str×V))
 /-- a bound method,f of x -/
 | met (f x:Addr)
 /-- a range object lo,lo+1,.. below hi -/
 | rng (lo hi:Int)
 /-- a thing that is known to the object (the script; a dict while a loop walks it): read,never written while it is so -/
 | frz (o:Obj) (u:HO)
 /-- a code object's table -/
 | tbl (ps:Array Value)
 /-- any other thing,by what is true of its one object (a def of one's own: V2 a S n:=HO.ext λh=>..) -/
 | ext (φ:Heap->Prop)
abbrev Hp:=Addr->Option HO
def upd(H:Hp)(a:Addr)(o:HO):Hp:=λb=>if b=a then some o else H b
theorem Cn{H:Hp}{a:Addr}{o:HO}:upd H a o a=some o:=by unfold upd; rw[if_pos rfl]
theorem Dm{H:Hp}{a b:Addr}{o:HO}(h:b≠a):upd H a o b=H b:=by unfold upd; rw[if_neg h]
theorem C3{H:Hp}{a b:Addr}{o u:HO}(h:H a=some o)(h':H b=some u)(d:o≠u):a≠b:=by
 intro e; subst e; rw[h] at h'; exact d (Bt h')
theorem Fd{H:Hp}{a b:Addr}{o:HO}(h:H a=some o)(h':H b=none):a≠b:=by
 intro e; subst e; rw[h] at h'; cases h'
section
variable(P:Bm)(w:World)
def Kh(H:Hp)(h:Heap)(a:Addr):HO->Prop
 | .lst xs=>xs.length<=Av/\∃(its:List Value) (n:Nat),Fi xs its/\h.get? a=some { cls:=.type "list",data:=.seq its.toArray n }
 | .tup xs=>xs.length<=Av/\∃its:List Value,Fi xs its/\IsTup h a its.toArray
 | .dK kvs=>kvs.length<=Av/\(a == sysModules)=false/\∃vs,KV kvs vs/\h.DictOf (bD P w) a vs
 | .dT kvs=>kvs.length<=Av/\(a == sysModules)=false/\∃xs:List (List Wt×Addr×Value),
   Paired (λ(p:List Wt×V) (q:List Wt×Addr×Value)=>p.1=q.1/\H q.2.1=some (.tup (p.1.map kV))/\RelV p.2 q.2.2) kvs xs /\
   ∃o es ep,h.get? a=some o/\o.ExactDict/\o.data=.dict es ep/\es.toList=xs.map (entryOfKey (tupleKind (bD P w)))/\(xs.map (·.1)).Nodup/\ep=es.size
 | .set S n=>h.SetOf (Dt P w) a S n
 | .ins C dx fs=>H dx=some (.own a)/\fs.length<=1000/\dx≠a/\h.get? a=some (PySem.W.instObj C dx) /\
   ∃mA,h.Ns1 dx mA/\(∀f,i7 (fs.lookup f) (mA f))/\PySem.Within mA (fs.map (·.1))
 | .own _=>∃o,h.get? a=some o
 | .xd fs=>∃mA,h.Ns1 a mA/\∀f,i7 (fs.lookup f) (mA f)
 | .rng lo hi=>∃t u v,h.get? a=some { cls:=.type "range",data:=.fields #[.int lo t,.int hi u,.int 1 v] }
 | .frz o u=>h.get? a=some o/\Kh H h a u
 | .tbl ps=>∃qs:Array Value,h.get? a=some { cls:=.none,data:=.fields qs }/\TriplesOk qs.toList/\∀(pos:Pos) (v:Value),codeAmong pos qs.toList=some v->∃(c:Addr) (oc:Obj) (us:Array Value) (q:Str) (t t0:Tok),v=.ref c/\H c=some (.own a)/\h.get? c=some oc/\oc.data=.fields us/\us[1]? = some (.str q t)/\ps[0]? = some (.str q t0)
 | .met f x=>h.get? a=some (PySem.W.methodObj (.ref f) (.ref x))
 | .ext φ=>φ h/\(∃o,h.get? a=some o)/\∀h1 h2:Heap,φ h1->(∀o,h1.get? a=some o->h2.get? a=some o)->φ h2
def Za(H:Hp)(h:Heap):Prop:=∀a o,H a=some o->Kh P w H h a o
end
section
variable{P:Bm}{w:World}{H H':Hp}{h h':Heap}{a:Addr}{o:HO}
theorem Kh.lt(x:Kh P w H h a o):a<h.objs.size:=by
 cases o with
 | lst xs=>obtain ⟨_,_,_,_,e⟩:=x; exact Bb e
 | tup xs=>obtain ⟨_,_,_,p⟩:=x; exact p.lt
 | dK kvs=>obtain ⟨_,_,_,_,o,_,_,e,_⟩:=x; exact Bb e
 | dT kvs=>obtain ⟨_,_,_,_,o,_,_,e,_⟩:=x; exact Bb e
 | set S n=>obtain ⟨o,_,_,_,e,_⟩:=x; exact Bb e
 | ins C dx fs=>obtain ⟨_,_,_,e,_⟩:=x; exact Bb e
 | own y=>obtain ⟨_,e⟩:=x; exact Bb e
 | xd fs=>obtain ⟨_,⟨_,_,_,e,_⟩,_⟩:=x; exact Bb e
 | rng lo hi=>obtain ⟨_,_,_,e⟩:=x; exact Bb e
 | frz ob u=>obtain ⟨e,_⟩:=x; exact Bb e
 | tbl ps=>obtain ⟨_,e,_⟩:=x; exact Bb e
 | met f y=>exact Bb (show h.get? a=some _ from x)
 | ext φ=>obtain ⟨_,⟨_,e⟩,_⟩:=x; exact Bb e
theorem Paired.mapP{α β:Type}{F G:α->β->Prop}:∀{l₁:List α} {l₂:List β},Paired F l₁ l₂->(∀a b,F a b->G a b)->Paired G l₁ l₂
 | _,_,.nil,_=>.nil
 | _,_,.cons r t,f=>.cons (f _ _ r) (Paired.mapP t f)
theorem Kh.stay(x:Kh P w H h a o)(k:∀b u,(b=a\/H b=some (.own a))->h.get? b=some u->h'.get? b=some u)(ho:∀b,H b=some (.own a)->H' b=some (.own a))(ht:∀b xs,H b=some (.tup xs)->H' b=some (.tup xs)):Kh P w H' h' a o:=by
 induction o with
 | lst xs=>obtain ⟨z,its,n,r,e⟩:=x; exact ⟨z,its,n,r,k _ _ (.inl rfl) e⟩
 | tup xs=>obtain ⟨z,its,r,ob,e,c⟩:=x; exact ⟨z,its,r,ob,k _ _ (.inl rfl) e,c⟩
 | dK kvs=>obtain ⟨z,y,vs,r,ob,es,ep,e,c⟩:=x; exact ⟨z,y,vs,r,ob,es,ep,k _ _ (.inl rfl) e,c⟩
 | dT kvs =>
  obtain ⟨z,y,xs,r,ob,es,ep,e,c⟩:=x
  exact ⟨z,y,xs,Paired.mapP r λp q z=>⟨z.1,ht _ _ z.2.1,z.2.2⟩,ob,es,ep,k _ _ (.inl rfl) e,c⟩
 | set S n=>obtain ⟨ob,es,ep,t,e,c⟩:=x; exact ⟨ob,es,ep,t,k _ _ (.inl rfl) e,c⟩
 | ins C dx fs =>
  obtain ⟨d,z,ne,e,mA,⟨od,es,ep,e2,c⟩,r⟩:=x
  exact ⟨ho _ d,z,ne,k _ _ (.inl rfl) e,mA,⟨od,es,ep,k _ _ (.inr d) e2,c⟩,r⟩
 | own y=>obtain ⟨ob,e⟩:=x; exact ⟨ob,k _ _ (.inl rfl) e⟩
 | xd fs=>obtain ⟨mA,⟨od,es,ep,e,c⟩,r⟩:=x; exact ⟨mA,⟨od,es,ep,k _ _ (.inl rfl) e,c⟩,r⟩
 | rng lo hi=>obtain ⟨t,u,v,e⟩:=x; exact ⟨t,u,v,k _ _ (.inl rfl) e⟩
 | frz ob u ih=>obtain ⟨e,q⟩:=x; exact ⟨k _ _ (.inl rfl) e,ih q⟩
 | tbl ps =>
  obtain ⟨qs,e,t,z⟩:=x
  exact ⟨qs,k _ _ (.inl rfl) e,t,λpos v y=>by
   obtain ⟨c,oc,us,q,t,t0,h1,h2,h3,h4⟩:=z pos v y
   exact ⟨c,oc,us,q,t,t0,h1,ho _ h2,k _ _ (.inr h2) h3,h4⟩⟩
 | met f y =>
  have e:h.get? a=some (PySem.W.methodObj (.ref f) (.ref y)):=x
  show h'.get? a=some (PySem.W.methodObj (.ref f) (.ref y))
  exact k a _ (.inl rfl) e
 | ext φ=>obtain ⟨p,⟨o,e⟩,st⟩:=x; exact ⟨st _ _ p λo q=>k _ _ (.inl rfl) q,⟨o,k _ _ (.inl rfl) e⟩,st⟩
theorem Za.lt(x:Za P w H h)(e:H a=some o):a<h.objs.size:=(x a o e).lt
theorem Za.fresh(x:Za P w H h)(e:h.objs.size<=a):H a=none:=by
 cases q:H a with
 | none=>rfl
 | some u=>exact absurd (Br (x.lt q) e) (Gh _)
theorem Za.kept(x:Za P w H h)(k:∀b u,h.get? b=some u->h'.get? b=some u):Za P w H h':=λa o e =>
 (x a o e).stay (λb u _ q=>k b u q) (λ_ q=>q) λ_ _ q=>q
theorem Za.laid(x:Za P w H h)(k:∀b u,h.get? b=some u->h'.get? b=some u)(hp:h.objs.size<=a)(new:Kh P w (upd H a o) h' a o):Za P w (upd H a o) h':=λb u e=>by
 have hn:=x.fresh hp
 by_cases hb:b=a
 ·subst hb; rw[Cn] at e; cases e; exact new
 ·rw[Dm hb] at e
  exact (x b u e).stay (λc v _ q=>k c v q) (λc q=>by rw[Dm (Fd q hn)]; exact q) λc xs q=>by rw[Dm (Fd q hn)]; exact q
end
def Rd(H:Hp)(a:Addr)(u:HO):Prop:=H a=some u\/∃o,H a=some (.frz o u)
theorem Rd.ok{P:Bm}{w:World}{H:Hp}{h:Heap}{a:Addr}{u:HO}(r:Rd H a u)(x:Za P w H h):Kh P w H h a u:=by
 rcases r with r | ⟨o,r⟩
 ·exact x a u r
 ·obtain ⟨_,q⟩:=x a _ r
  exact q
def Q1:Option HO->Prop
 | some (.lst _)=>True
 | some (.dK _)=>True
 | some (.dT _)=>True
 | some (.set _ _)=>True
 | some (.ins _ _ _)=>True
 | some (.ext _)=>True
 | _=>False
section
variable{P:Bm}{w:World}{H:Hp}{h h':Heap}{x e:Addr}{o':HO}
theorem Za.write(ok:Za P w H h)(mu:Q1 (H x))(he:e=x\/H e=some (.own x))(k:∀b u,b≠e->h.get? b=some u->h'.get? b=some u)(heo:∃u,h'.get? e=some u)(new:Kh P w (upd H x o') h' x o'):Za P w (upd H x o') h':=λb u q=>by
 have nown:∀c y,H c=some (.own y)->c≠x:=λc y r z=>by subst z; rw[r] at mu; exact mu
 have tS:∀c xs,H c=some (.tup xs)->c≠x:=λc xs r z=>by subst z; rw[r] at mu; exact mu
 by_cases hb:b=x
 ·subst hb; rw[Cn] at q; cases q; exact new
 ·rw[Dm hb] at q
  by_cases hbe:b=e
  ·have q':H b=some (.own x):=by
    rcases he with z | z
    ·exact absurd (hbe.trans z) hb
    ·rw[hbe]; exact z
   rw[q] at q'; cases q'
   obtain ⟨v,hv⟩:=heo
   exact ⟨v,by rw[hbe]; exact hv⟩
  ·refine (ok b u q).stay (λc v hc r=>k c v ?_ r) (λc r=>by rw[Dm (nown c b r)]; exact r) λc xs r=>by rw[Dm (tS c xs r)]; exact r
   rcases hc with rfl | hc
   ·exact hbe
   ·rintro rfl
    rcases he with z | z
    ·exact nown c b hc z
    ·rw[hc] at z; cases z; exact hb rfl
end
structure Un(fs ex:List Addr)(H H':Hp)(h h':Heap):Prop where
 keep:∀b o,h.get? b=some o->H b=none->b∉fs->b∉ex->h'.get? b=some o
 slot:∀b o,h.get? b=some o->H b=none->b∈fs->b∉ex->∃sl,h'.get? b=some { o with slots:=sl }
 free:∀b o,h.get? b=some o->H b=none->b∉ex->H' b=none
 there:∀b o,h.get? b=some o->b∉ex->∃o',h'.get? b=some o'
 tups:∀b xs,H b=some (.tup xs)->H' b=some (.tup xs)
 frzs:∀b o u,H b=some (.frz o u)->H' b=some (.frz o u)
 tbls:∀b ps,H b=some (.tbl ps)->∃more,H' b=some (.tbl (ps++more))
section
variable{fs fs' ex ex':List Addr}{H H1 H2:Hp}{h h1 h2 h':Heap}{a x e:Addr}{o:HO}
theorem Un.any(u:Un fs ex H H1 h h1){b:Addr}{ob:Obj}(q:h.get? b=some ob)(n:H b=none)(hx:b∉ex):∃sl,h1.get? b=some { ob with slots:=sl }:=by
 by_cases hb:b∈fs
 ·exact u.slot b ob q n hb hx
 ·exact ⟨ob.slots,u.keep b ob q n hb hx⟩
theorem Un.kept(k:∀b u,h.get? b=some u->h'.get? b=some u):Un fs ex H H h h' :=
 ⟨λb ob q _ _ _=>k b ob q,λb ob q _ _ _=>⟨ob.slots,k b ob q⟩,λ_ _ _ n _=>n,λb ob q _=>⟨ob,k b ob q⟩,λ_ _ q=>q,λ_ _ _ q=>q,λ_ ps q=>⟨#[],by rw[q]; simp⟩⟩
theorem Un.refl:Un fs ex H H h h:=Un.kept λ_ _ q=>q
theorem Un.laid(k:∀b u,h.get? b=some u->h'.get? b=some u)(hp:h.objs.size<=a)(hn:H a=none):Un fs ex H (upd H a o) h h' where
 keep:=λb u q _ _ _=>k b u q
 slot:=λb u q _ _ _=>⟨u.slots,k b u q⟩
 free:=λb u q n _=>by rw[Dm (Cc (Br (Bb q) hp))]; exact n
 there:=λb u q _=>⟨u,k b u q⟩
 tups:=λb xs q=>by rw[Dm (Fd q hn)]; exact q
 frzs:=λb u xs q=>by rw[Dm (Fd q hn)]; exact q
 tbls:=λb ps q=>⟨#[],by rw[Dm (Fd q hn),q]; simp⟩
theorem Un.write(mu:Q1 (H x))(he:e=x\/H e=some (.own x))(k:∀b u,b≠e->h.get? b=some u->h'.get? b=some u)(heo:∃u,h'.get? e=some u):Un fs ex H (upd H x o) h h':=by
 have hx:∀b,H b=none->b≠x:=λb n z=>by subst z; rw[n] at mu; exact mu
 have hb:∀b,H b=none->b≠e:=λb n z=>by
  subst z
  rcases he with r | r
  ·exact hx b n r
  ·rw[n] at r; cases r
 have hm:∀b u,H b=some u->¬ Q1 (some u)->b≠x:=λb u q nm z=>by subst z; rw[q] at mu; exact nm mu
 refine ⟨λb u q n _ _=>k b u (hb b n) q,λb u q n _ _=>⟨u.slots,k b u (hb b n) q⟩,λb u q n _=>by rw[Dm (hx b n)]; exact n,λb u q _=>?_,
  λb xs q=>by rw[Dm (hm b _ q λz=>z)]; exact q,λb u xs q=>by rw[Dm (hm b _ q λz=>z)]; exact q,λb ps q=>⟨#[],by rw[Dm (hm b _ q λz=>z),q]; simp⟩⟩
 by_cases hbe:b=e
 ·subst hbe; exact heo
 ·exact ⟨u,k b u hbe q⟩
end
def P4(h:Heap)(H:Hp):List Addr:=(Bp h.objs.size).filter λa=>(H a).isSome
def Zc(h:Heap)(H:Hp):Heap:=PySem.W.hideAll h (P4 h H)
theorem nB(h:Heap)(H:Hp):(Zc h H).objs.size=h.objs.size:=PySem.W.hideAll_size _ _
theorem tW{h:Heap}{H:Hp}{b:Addr}{o:Obj}(e:h.get? b=some o)(n:H b=none):(Zc h H).get? b=some o :=
 PySem.W.hideAll_get _ e λhm=>by
  have q:(H b).isSome=true:=(List.mem_filter.mp hm).2
  rw[n] at q; simp at q
theorem vM{h:Heap}{H:Hp}{b:Addr}{o:Obj}(e:(Zc h H).get? b=some o):h.get? b=some o/\H b=none:=by
 have e':h.get? b=some o:=PySem.W.of_hideAll (P4 h H) e
 refine ⟨e',?_⟩
 cases q:H b with
 | none=>rfl
 | some x =>
  have hm:b∈P4 h H:=List.mem_filter.mpr ⟨Jf.mpr (Bb e'),by simp [q]⟩
  have z:(Zc h H).get? b=none:=PySem.W.hideAll_none (P4 h H) hm
  rw[z] at e; cases e
def vX(g h:Heap)(L:Addr):List (Addr×Obj):=(Bp h.objs.size).filterMap λa=>if a=L\/(g.get? a).isSome=true then none else (h.get? a).map λo=>(a,o)
def Ex(g h:Heap)(L d:Addr):List (Addr×Obj):=(vX g h L).filter λp=>decide (p.1≠d)
structure Mod(K:PySem.W.Frag)(mg:Str->Option Value)(base:Heap):Prop where
 kin:K.In base
 glob:base.Ns Cj mg
 blt:∃mb,base.Ns Sj mb/\∀x:Str,x ≠ "__name__" -> mb x=Jz x
 nolimit:base.NoLimit
def Tp:List Str:=["often", "cut_by"]
def j9(x:Str):Str:=x ++ ".<locals>." ++ "<lambda>"
def zE(H:Hp)(P:Addr)(q:Str):Prop:=∃(ps:Array Value) (t0:Tok),H P=some (.tbl ps)/\ps[0]? = some (.str q t0)
def oY(K:PySem.W.Frag)(mg:Str->Option Value)(base:Heap)(H:Hp):Prop:=∀x∈Tp,∀c P,PySem.W.tabIn K x=some (c,P)->PySem.W.CodeHd base c P/\base.BuiltinsAt mg P/\zE H P (j9 x)
theorem oY.un{K:PySem.W.Frag}{mg:Str->Option Value}{base:Heap}{fs ex:List Addr}{H H':Hp}{h h':Heap}(t:oY K mg base H)(u:Un fs ex H H' h h'):oY K mg base H':=λx hx c P e=>by
 obtain ⟨h1,h2,ps,t0,h3,h4⟩:=t x hx c P e
 obtain ⟨more,h5⟩:=u.tbls P ps h3
 refine ⟨h1,h2,ps++more,t0,h5,?_⟩
 have hl:0<ps.size:=by
  rcases Nat.eq_zero_or_pos ps.size with z | z
  ·rw[Array.getElem?_eq_none (by omega)] at h4; cases h4
  ·exact z
 rw[Array.getElem?_append_left hl]
 exact h4
structure Cx where
 prog:Bm
 w:World
 K:PySem.W.Frag
 mg:Str->Option Value
 base:Heap
 A:Cr
 N:List Str
 s₀:Ai
 H₀:Hp
 env:Env
 outer:List Env
 stack:List Env
 ex:List Addr
 fn:Str->Bool
 calm:Bool
 pn:List (Addr×Obj)
 xe:Value->Ai->Prop
def nK(l:List Env):List Addr:=l.filterMap (·.frame)
abbrev Cx.fs(X:Cx):List Addr:=nK X.outer
def P6(sc:Scope)(x:Str):Prop:=sc.names.lookup x=some .local\/sc.names.lookup x=some .cell\/sc.names.lookup x=some .free
def Loc(sc:Scope)(x:Str):Prop:=sc.names.lookup x=some .local\/sc.names.lookup x=some .cell
def S9(env:Env)(h:Heap)(m:Str->Option Value)(x:Str)(u:Value):Prop :=
 (env.kindOf x=some .local/\m x=some u)\/((env.kindOf x=some .cell\/env.kindOf x=some .free)/\∃c,env.cells.lookup x=some c/\h.IsCell c (some u))
structure Cx.Ok(X:Cx):Prop where
 mod:Mod X.K X.mg X.base
 kind:X.env.scope.kind=.function
 glob:X.env.globals=Cj
 blt:X.env.builtins=Sj
 above:X.s₀.heap.objs.size<=X.env.locals
 inj:∀x y c,X.env.cells.lookup x=some c->X.env.cells.lookup y=some c->x=y
 has:∀x,(X.env.kindOf x=some .cell\/X.env.kindOf x=some .free)->∃c,X.env.cells.lookup x=some c
 cab:∀x c,X.fn x=true->X.env.cells.lookup x=some c->X.s₀.heap.objs.size<=c
 hd:X.calm=true->X.A.handled=none
 frames:X.A.frames=some X.stack
 stk:X.stack=X.outer\/(X.stack=X.env::X.outer/\X.env.frame=some X.env.locals)
 exf:∀b∈X.ex,b≠X.env.locals/\∀x c,X.env.cells.lookup x=some c->c≠b
 bs:∀b o,X.base.get? b=some o->X.s₀.heap.get? b=some o/\X.H₀ b=none
 bsz:X.base.objs.size<=X.s₀.heap.objs.size
 noex:∀b o,X.base.get? b=some o->b∉X.ex
 exfs:∀b∈X.ex,b∉X.fs
 funs:X.s₀.heap.FunFrames X.base X.outer
 frf:∀b∈X.fs,X.H₀ b=none
 tab:oY X.K X.mg X.base X.H₀
structure Inv(X:Cx)(pins:List (Addr×Obj))(σ:List (Option V))(H:Hp)(s:Ai):Prop where
 ok:X.Ok
 os:s.os=X.s₀.os
 bare:Qa s.gens
 base:Un X.fs X.ex X.H₀ H X.s₀.heap s.heap
 loc:∃m,s.heap.Ns X.env.locals m/\∀(i:Nat) (x:Str) (v:V),X.N[i]? = some x->σ[i]? = some (some v)->P6 X.env.scope x->∃u,RelV v u/\S9 X.env s.heap m x u
 cell:∀x c,X.env.cells.lookup x=some c->∃v,s.heap.IsCell c v
 free:H X.env.locals=none
 freeC:∀x c,X.env.cells.lookup x=some c->H c=none
 pin:∀p∈X.pn++pins,s.heap.get? p.1=some p.2/\H p.1=none/\p.1≠X.env.locals/\p.1∉X.fs/\∀v,p.2.data≠.cell v
 hok:Za X.prog X.w H s.heap
 len:σ.length=X.N.length
section
variable{X:Cx}{pins:List (Addr×Obj)}{σ:List (Option V)}{H H':Hp}{s:Ai}{h':Heap}
theorem Cx.Ok.nofr(ok:X.Ok){b:Addr}{o:Obj}(e:X.base.get? b=some o):b∉X.fs:=λhb=>by
 have:=(ok.funs.mem hb).1
 rw[e] at this; cases this
theorem Inv.bs(I:Inv X pins σ H s):∀b o,X.base.get? b=some o->s.heap.get? b=some o/\H b=none:=λb o e =>
 ⟨I.base.keep b o (I.ok.bs b o e).1 (I.ok.bs b o e).2 (I.ok.nofr e) (I.ok.noex b o e),I.base.free b o (I.ok.bs b o e).1 (I.ok.bs b o e).2 (I.ok.noex b o e)⟩
theorem Inv.bk(I:Inv X pins σ H s):∀b o,X.base.get? b=some o->s.heap.get? b=some o:=λb o e=>(I.bs b o e).1
theorem Inv.mod(I:Inv X pins σ H s):Mod X.K X.mg X.base:=I.ok.mod
theorem Inv.kIn(I:Inv X pins σ H s):X.K.In s.heap:=I.ok.mod.kin.keeps I.bk
theorem Inv.lt(I:Inv X pins σ H s):X.env.locals<s.heap.objs.size:=let ⟨_,hn,_⟩:=I.loc; hn.lt
theorem Inv.sz(I:Inv X pins σ H s):X.s₀.heap.objs.size<=s.heap.objs.size:=Bv I.ok.above (Jm I.lt)
theorem Inv.nofs(I:Inv X pins σ H s){a:Addr}(h:s.heap.objs.size<=a):a∉X.fs:=λhb=>by
 obtain ⟨_,o,ho,_⟩:=I.ok.funs.mem hb
 exact absurd (Br (Bb ho) (Bv I.sz h)) (Gh _)
theorem Inv.cne(I:Inv X pins σ H s):∀x c,X.env.cells.lookup x=some c->c≠X.env.locals:=λx c e z=>by
 obtain ⟨v,o,ho,hd⟩:=I.cell x c e
 obtain ⟨m,⟨o',es,ep,ho',hd',_⟩,_⟩:=I.loc
 rw[z,ho'] at ho; cases ho; rw[hd'] at hd; cases hd
theorem Inv.funs(I:Inv X pins σ H s):s.heap.FunFrames X.base X.outer:=by
 have all:∀(l:List Env),(∀b∈nK l,b∈X.fs)->X.s₀.heap.FunFrames X.base l->s.heap.FunFrames X.base l:=by
  intro l
  induction l with
  | nil=>intro _ _; trivial
  | cons env r ih =>
   intro hs hl
   obtain ⟨hk,⟨L,o,hf,hn,ho,hd⟩,hr⟩:=hl
   have hL:L∈X.fs:=hs L (by unfold nK; rw[Jr,hf]; exact Aa)
   obtain ⟨sl,e⟩:=I.base.slot L o ho (I.ok.frf L hL) hL λz=>I.ok.exfs L z hL
   exact ⟨hk,⟨L,_,hf,hn,e,hd⟩,ih (λb hb=>hs b (by unfold nK; rw[Jr,hf]; exact Ae _ hb)) hr⟩
 exact all X.outer (λ_ hb=>hb) I.ok.funs
theorem Inv.stack(I:Inv X pins σ H s):s.heap.FunFrames X.base X.stack:=by
 rcases I.ok.stk with e | ⟨e,hf⟩
 ·rw[e]; exact I.funs
 ·rw[e]
  obtain ⟨m,hn,_⟩:=I.loc
  refine .cons (by rw[I.ok.kind]; decide) hf hn ?_ I.funs
  exact Heap.get?_none_of_le (Bv I.ok.bsz I.ok.above)
theorem Inv.stkSub(I:Inv X pins σ H s):∀b∈nK X.stack,b∈X.env.locals::X.fs:=λb hb=>by
 rcases I.ok.stk with e | ⟨e,hf⟩
 ·rw[e] at hb; exact Ae _ hb
 ·rw[e] at hb
  unfold nK at hb
  rw[Jr,hf] at hb
  exact hb
theorem Inv.stkFree(I:Inv X pins σ H s):∀b∈nK X.stack,H b=none:=λb hb=>by
 rcases An.mp (I.stkSub b hb) with e | hb
 ·rw[e]; exact I.free
 ·obtain ⟨_,o,ho,_⟩:=I.ok.funs.mem hb
  exact I.base.free b o ho (I.ok.frf b hb) λz=>I.ok.exfs b z hb
theorem Inv.step{g':Array GenState}{t':Nat}{d':Drawn}{ch:List Addr}(I:Inv X pins σ H s)(hch:∀b∈ch,(b∈X.ex\/X.s₀.heap.objs.size<=b)/\b≠X.env.locals/\(∀x c,X.env.cells.lookup x=some c->c≠b)/\∀p∈X.pn++pins,p.1≠b)(keep:∀b o,b≠X.env.locals->b∉X.fs->b∉ch->s.heap.get? b=some o->H b=none->h'.get? b=some o)(slot:∀b o,b≠X.env.locals->b∈X.fs->b∉ch->s.heap.get? b=some o->H b=none->∃sl,h'.get? b=some { o with slots:=sl })(free:∀b o,b∉ch->s.heap.get? b=some o->H b=none->H' b=none)(there:∀b o,b∉ch->s.heap.get? b=some o->∃o',h'.get? b=some o')(tups:∀b xs,H b=some (.tup xs)->H' b=some (.tup xs))(frzs:∀b o u,H b=some (.frz o u)->H' b=some (.frz o u))(tbls:∀b ps,H b=some (.tbl ps)->∃more,H' b=some (.tbl (ps++more)))(ns:∀m,s.heap.Ns X.env.locals m->h'.Ns X.env.locals m)(hok:Za X.prog X.w H' h')(hg:Qa g'):Inv X pins σ H' { s with heap:=h',gens:=g',drawn:=d',toks:=t' }:=by
 have neL:∀b o,X.s₀.heap.get? b=some o->b≠X.env.locals:=λb o e=>Cc (Br (Bb e) I.ok.above)
 have neC:∀b o,X.s₀.heap.get? b=some o->b∉X.ex->b∉ch:=λb o e hx hb=>by
  rcases (hch b hb).1 with z | z
  ·exact hx z
  ·exact absurd (Br (Bb e) z) (Gh _)
 have cellK:∀x c,X.env.cells.lookup x=some c->∀v,s.heap.IsCell c v->h'.IsCell c v:=λx c e v ⟨o,ho,hd⟩=>by
  have nch:c∉ch:=λz=>(hch c z).2.2.1 x c e rfl
  by_cases hc:c∈X.fs
  ·obtain ⟨sl,q⟩:=slot c o (I.cne x c e) hc nch ho (I.freeC x c e)
   exact ⟨_,q,hd⟩
  ·exact ⟨o,keep c o (I.cne x c e) hc nch ho (I.freeC x c e),hd⟩
 refine ⟨I.ok,I.os,hg,⟨λb o e n hb hx=>?_,λb o e n hb hx=>?_,λb o e n hx=>?_,λb o e hx=>?_,λb xs e=>tups b xs (I.base.tups b xs e),λb o xs e=>frzs b o xs (I.base.frzs b o xs e),λb ps e=>?_⟩,?_,λx c e=>?_,?_,λx c e=>?_,λp hp=>?_,hok,I.len⟩
 ·exact keep b o (neL b o e) hb (neC b o e hx) (I.base.keep b o e n hb hx) (I.base.free b o e n hx)
 ·obtain ⟨sl,e1⟩:=I.base.slot b o e n hb hx
  obtain ⟨sl',e2⟩:=slot b _ (neL b o e) hb (neC b o e hx) e1 (I.base.free b o e n hx)
  exact ⟨sl',e2⟩
 ·obtain ⟨o',e1⟩:=I.base.there b o e hx
  exact free b o' (neC b o e hx) e1 (I.base.free b o e n hx)
 ·obtain ⟨o',e1⟩:=I.base.there b o e hx
  exact there b o' (neC b o e hx) e1
 ·obtain ⟨m1,e1⟩:=I.base.tbls b ps e
  obtain ⟨m2,e2⟩:=tbls b _ e1
  exact ⟨m1++m2,by rw[e2,Array.append_assoc]⟩
 ·obtain ⟨m,hn,hl⟩:=I.loc
  refine ⟨m,ns m hn,λi x v e1 e2 e3=>?_⟩
  obtain ⟨u,r,l⟩:=hl i x v e1 e2 e3
  refine ⟨u,r,?_⟩
  rcases l with l | ⟨k,c,e,z⟩
  ·exact .inl l
  ·exact .inr ⟨k,c,e,cellK x c e _ z⟩
 ·obtain ⟨v,z⟩:=I.cell x c e
  exact ⟨v,cellK x c e v z⟩
 ·obtain ⟨m,⟨o,_,_,ho,_⟩,_⟩:=I.loc
  exact free _ o (λz=>(hch _ z).2.1 rfl) ho I.free
 ·obtain ⟨v,o,ho,hd⟩:=I.cell x c e
  exact free c o (λz=>(hch c z).2.2.1 x c e rfl) ho (I.freeC x c e)
 ·obtain ⟨e,n,ne,nf,d⟩:=I.pin p hp
  have nch:p.1∉ch:=λz=>(hch p.1 z).2.2.2 p hp rfl
  exact ⟨keep p.1 p.2 ne nf nch e n,free p.1 p.2 nch e n,ne,nf,d⟩
theorem Inv.un{t':Nat}(I:Inv X pins σ H s)(u:Un X.fs [] H H' s.heap h')(hok:Za X.prog X.w H' h'):Inv X pins σ H' { s with heap:=h',toks:=t' }:=by
 obtain ⟨m,⟨o,es,ep,ho,r⟩,_⟩:=id I.loc
 obtain ⟨sl,hL⟩:=u.any ho I.free (by simp)
 exact I.step (g':=s.gens) (d':=s.drawn) (ch:=[]) (λ_ z=>nomatch z) (λb o _ hb _ e n=>u.keep b o e n hb (by simp)) (λb o _ hb _ e n=>u.slot b o e n hb (by simp)) (λb o _ e n=>u.free b o e n (by simp)) (λb o _ e=>u.there b o e (by simp)) u.tups u.frzs u.tbls (λm' hm=>by
  obtain ⟨o',es',ep',ho',r'⟩:=hm
  rw[ho] at ho'; cases ho'
  exact ⟨_,es',ep',hL,r'⟩) hok I.bare
theorem Inv.call{g':Array GenState}{t':Nat}{d':Drawn}{ch:List Addr}(I:Inv X pins σ H s)(u:Un (nK X.stack) ch H H' s.heap h')(hok:Za X.prog X.w H' h')(hg:Qa g')(hch:∀b∈ch,(b∈X.ex\/X.s₀.heap.objs.size<=b)/\b≠X.env.locals/\(∀x c,X.env.cells.lookup x=some c->c≠b)/\∀p∈X.pn++pins,p.1≠b):Inv X pins σ H' { s with heap:=h',gens:=g',drawn:=d',toks:=t' }:=by
 obtain ⟨m,⟨o,es,ep,ho,r⟩,_⟩:=id I.loc
 obtain ⟨sl,hL⟩:=u.any ho I.free λz=>(hch _ z).2.1 rfl
 exact I.step (ch:=ch) hch (λb o hL hb hc e n=>u.keep b o e n (λz=>(An.mp (I.stkSub b z)).elim hL hb) hc) (λb o _ _ hc e n=>u.any e n hc) (λb o hc e n=>u.free b o e n hc) (λb o hc e=>u.there b o e hc) u.tups u.frzs u.tbls (λm' hm=>by
  obtain ⟨o',es',ep',ho',r'⟩:=hm
  rw[ho] at ho'; cases ho'
  exact ⟨_,es',ep',hL,r'⟩) hok hg
theorem Inv.turned{t':Nat}{it:Addr}(I:Inv X pins σ H s)(k:∀b o,b≠it->s.heap.get? b=some o->h'.get? b=some o)(hn:H it=none)(hL:it≠X.env.locals)(h1:it∈X.ex\/X.s₀.heap.objs.size<=it)(h2:∀x c,X.env.cells.lookup x=some c->c≠it)(h3:∀p∈X.pn++pins,p.1≠it):Inv X pins σ H { s with heap:=h',toks:=t' }:=by
 have nit:∀b u,H b=some u->b≠it:=λb u e z=>by rw[z,hn] at e; cases e
 refine I.step (g':=s.gens) (d':=s.drawn) (ch:=[it]) (λb hb=>?_) (λb o _ _ hc e _=>k b o (λz=>hc (by simp [z])) e) (λb o _ _ hc e _=>⟨o.slots,k b o (λz=>hc (by simp [z])) e⟩) (λ_ _ _ _ n=>n)
  (λb o hc e=>⟨o,k b o (λz=>hc (by simp [z])) e⟩) (λ_ _ e=>e) (λ_ _ _ e=>e) (λb ps e=>⟨#[],by rw[e]; simp⟩) (λm hm=>?_) (λb u e=>?_) I.bare
 ·have e:b=it:=by simpa using hb
  subst e
  exact ⟨h1,hL,h2,h3⟩
 ·obtain ⟨o,es,ep,ho,r⟩:=hm
  exact ⟨o,es,ep,k _ o (Ow hL) ho,r⟩
 ·refine (I.hok b u e).stay (λc v hc q=>k c v ?_ q) (λ_ q=>q) λ_ _ q=>q
  rcases hc with z | z
  ·rw[z]; exact nit b u e
  ·exact nit c _ z
theorem Inv.tok(I:Inv X pins σ H s)(t:Nat):Inv X pins σ H { s with toks:=t }:=I.un (h':=s.heap) (t':=t) Un.refl I.hok
theorem Inv.kept{t':Nat}(I:Inv X pins σ H s)(k:∀b u,s.heap.get? b=some u->h'.get? b=some u):Inv X pins σ H { s with heap:=h',toks:=t' }:=I.un (Un.kept k) (I.hok.kept k)
theorem Inv.laid{a:Addr}{o:HO}{t':Nat}(I:Inv X pins σ H s)(k:∀b u,s.heap.get? b=some u->h'.get? b=some u)(hp:s.heap.objs.size<=a)(new:Kh X.prog X.w (upd H a o) h' a o):Inv X pins σ (upd H a o) { s with heap:=h',toks:=t' }:=I.un (Un.laid k hp (I.hok.fresh hp)) (I.hok.laid k hp new)
theorem Inv.write{x e:Addr}{o:HO}{t':Nat}(I:Inv X pins σ H s)(mu:Q1 (H x))(he:e=x\/H e=some (.own x))(k:∀b u,b≠e->s.heap.get? b=some u->h'.get? b=some u)(heo:∃u,h'.get? e=some u)(new:Kh X.prog X.w (upd H x o) h' x o):Inv X pins σ (upd H x o) { s with heap:=h',toks:=t' }:=I.un (Un.write mu he k heo) (I.hok.write mu he k heo new)
theorem Inv.pins_of{pins':List (Addr×Obj)}(I:Inv X pins σ H s)(h:∀p∈pins',s.heap.get? p.1=some p.2/\H p.1=none/\p.1≠X.env.locals/\p.1∉X.fs/\∀v,p.2.data≠.cell v):Inv X pins' σ H s :=
 ⟨I.ok,I.os,I.bare,I.base,I.loc,I.cell,I.free,I.freeC,λp hp=>(Au.mp hp).elim (λz=>I.pin p (Ao _ z)) (h p),I.hok,I.len⟩
theorem dP{N:List Str}(hN:N.Nodup){i j:Nat}{x:Str}(a:N[i]? = some x)(b:N[j]? = some x):i=j:=by
 obtain ⟨h1,e1⟩:=Aq.mp a
 obtain ⟨h2,e2⟩:=Aq.mp b
 exact (List.getElem_inj hN).mp (e1.trans e2.symm)
theorem nI{M:Model}{A:Cr}{E:Value->Ai->Prop}{i:Nat}{x:Str}{v:V}{u:Value}{Q:Unit->Ai->Prop}(I:Inv X pins σ H s)(hN:X.N.Nodup)(hi:X.N[i]? = some x)(hx:Loc X.env.scope x)(r:RelV v u)(h:∀s',Inv X pins (σ.set i (some v)) H s'->(∃a,Ko a s.heap s'.heap/\(a=X.env.locals\/X.env.cells.lookup x=some a))->Q () s')(hf:X.fn x=true\/X.env.scope.names.lookup x=some .local:=by first | exact .inl rfl | exact .inr rfl | assumption):wpAny M A (storeName X.env x u) Q E s:=by
 obtain ⟨m,hn,hl⟩:=id I.loc
 have hcls:(X.env.scope.kind == .class || (X.env.scope.kind == .module && X.env.locals != X.env.globals))=false:=by rw[I.ok.kind]; rfl
 have hiσ:i<σ.length:=by rw[I.len]; exact (Aq.mp hi).1
 have cne:=I.cne
 have tracked:∀{a:Addr} {h':Heap},(∃o,s.heap.get? a=some o/\H a=none)->Ko a s.heap h'->Za X.prog X.w H h':=λ{a h'} ha hs b ob e=>by
  obtain ⟨_,_,hfree⟩:=ha
  refine (I.hok b ob e).stay (λc w' hc q=>(hs.2 c ?_).trans q) (λ_ q=>q) λ_ _ q=>q
  rintro rfl
  rcases hc with rfl | hc
  ·rw[hfree] at e; cases e
  ·rw[hfree] at hc; cases hc
 rcases hx with hk | hk
 ·refine wpAny_storeName_local hk hn (λh' hn' hs=>?_) hcls
  obtain ⟨oL,_,_,hoL,_⟩:=id hn
  refine h _ ⟨I.ok,I.os,I.bare,⟨λb o e n hb hx=>?_,λb o e n hb hx=>?_,I.base.free,λb o e hx=>?_,I.base.tups,I.base.frzs,I.base.tbls⟩,⟨_,hn',λj y v' e1 e2 e3=>?_⟩,λy c e=>?_,I.free,I.freeC,λp hp=>?_,tracked ⟨oL,hoL,I.free⟩ hs,by simpa using I.len⟩ ⟨_,hs,.inl rfl⟩
  ·exact (hs.2 b (Cc (Br (Bb e) I.ok.above))).trans (I.base.keep b o e n hb hx)
  ·obtain ⟨sl,e1⟩:=I.base.slot b o e n hb hx
   exact ⟨sl,(hs.2 b (Cc (Br (Bb e) I.ok.above))).trans e1⟩
  ·obtain ⟨o',e1⟩:=I.base.there b o e hx
   exact ⟨o',(hs.2 b (Cc (Br (Bb e) I.ok.above))).trans e1⟩
  ·by_cases hj:j=i
   ·subst hj
    rw[hi] at e1; cases e1
    rw[jD hiσ] at e2
    cases e2
    exact ⟨u,r,.inl ⟨hk,by simp⟩⟩
   ·rw[List.getElem?_set_ne (Ow hj)] at e2
    obtain ⟨u',r',q⟩:=hl j y v' e1 e2 e3
    refine ⟨u',r',?_⟩
    rcases q with ⟨k,e⟩ | ⟨k,c,e,z⟩
    ·refine .inl ⟨k,?_⟩
     have : y≠x:=λe=>hj (dP hN e1 (e▸hi))
     simp [this,e]
    ·exact .inr ⟨k,c,e,z.sameBut hs (cne y c e)⟩
  ·obtain ⟨w',z⟩:=I.cell y c e
   exact ⟨w',z.sameBut hs (cne y c e)⟩
  ·obtain ⟨e,n,ne,nf,d⟩:=I.pin p hp
   exact ⟨(hs.2 p.1 ne).trans e,n,ne,nf,d⟩
 ·have hfn:X.fn x=true:=by
   rcases hf with z | z
   ·exact z
   ·rw[z] at hk; cases hk
  obtain ⟨c,hc⟩:=I.ok.has x (.inl hk)
  obtain ⟨w',z⟩:=I.cell x c hc
  refine wpAny_storeName_cell I.ok.kind hk hc z (λh' hc' hs=>?_)
  obtain ⟨oc,hoc,hocd⟩:=id z
  refine h { s with heap:=h' } ⟨I.ok,I.os,I.bare,⟨λb o e n hb hx=>?_,λb o e n hb hx=>?_,I.base.free,λb o e hx=>?_,I.base.tups,I.base.frzs,I.base.tbls⟩,⟨m,hn.sameBut hs (Ow (cne x c hc)),λj y v' e1 e2 e3=>?_⟩,λy c' e=>?_,I.free,I.freeC,λp hp=>?_,tracked ⟨oc,hoc,I.freeC x c hc⟩ hs,by simpa using I.len⟩ ⟨c,hs,.inr hc⟩
  ·exact (hs.2 b (Cc (Br (Bb e) (I.ok.cab x c hfn hc)))).trans (I.base.keep b o e n hb hx)
  ·obtain ⟨sl,e1⟩:=I.base.slot b o e n hb hx
   exact ⟨sl,(hs.2 b (Cc (Br (Bb e) (I.ok.cab x c hfn hc)))).trans e1⟩
  ·obtain ⟨o',e1⟩:=I.base.there b o e hx
   exact ⟨o',(hs.2 b (Cc (Br (Bb e) (I.ok.cab x c hfn hc)))).trans e1⟩
  ·by_cases hj:j=i
   ·subst hj
    rw[hi] at e1; cases e1
    rw[jD hiσ] at e2
    cases e2
    exact ⟨u,r,.inr ⟨.inl hk,c,hc,hc'⟩⟩
   ·rw[List.getElem?_set_ne (Ow hj)] at e2
    obtain ⟨u',r',q⟩:=hl j y v' e1 e2 e3
    refine ⟨u',r',?_⟩
    rcases q with q | ⟨k,c',e,z'⟩
    ·exact .inl q
    ·refine .inr ⟨k,c',e,z'.sameBut hs ?_⟩
     rintro rfl
     exact hj (dP hN e1 (I.ok.inj _ _ _ e hc▸hi))
  ·by_cases hcc:c'=c
   ·subst hcc; exact ⟨_,hc'⟩
   ·obtain ⟨w2,z2⟩:=I.cell y c' e
    exact ⟨w2,z2.sameBut hs hcc⟩
  ·obtain ⟨e,n,ne,nf,d⟩:=I.pin p hp
   refine ⟨(hs.2 p.1 ?_).trans e,n,ne,nf,d⟩
   intro q
   rw[q,hoc] at e
   have q':oc=p.2:=Bt e
   exact d w' (by rw[<- q']; exact hocd)
theorem dU{M:Model}{A:Cr}{E:Value->Ai->Prop}{i:Nat}{x:Str}{v:V}{u:Value}{Q:Unit->Ai->Prop}(I:Inv X pins σ H s)(hN:X.N.Nodup)(hi:X.N[i]? = some x)(hx:Loc X.env.scope x)(r:RelV v u)(h:∀s',Inv X pins (σ.set i (some v)) H s'->Q () s')(hf:X.fn x=true\/X.env.scope.names.lookup x=some .local:=by first | exact .inl rfl | exact .inr rfl | assumption):wpAny M A (storeName X.env x u) Q E s :=
 nI I hN hi hx r (λs' I' _=>h s' I') hf
theorem Inv.call'{s':Ai}{ch:List Addr}(I:Inv X pins σ H s)(ho:s'.os=s.os)(u:Un (nK X.stack) ch H H' s.heap s'.heap)(hok:Za X.prog X.w H' s'.heap)(hg:Qa s'.gens)(hch:∀b∈ch,(b∈X.ex\/X.s₀.heap.objs.size<=b)/\b≠X.env.locals/\(∀x c,X.env.cells.lookup x=some c->c≠b)/\∀p∈X.pn++pins,p.1≠b):Inv X pins σ H' s':=by
 obtain ⟨h',g',d',t',o'⟩:=s'
 have e:o'=s.os:=ho
 subst e
 exact I.call (g':=g') (t':=t') (d':=d') u hok hg hch
end
abbrev XK:=Value->Option Addr->Hp->Prop
abbrev St:=List (Option V)
abbrev VK:=V->Hp->Prop
abbrev TE:=St->Hp->VK->Prop
abbrev TT:=St->Hp->(Bool->Hp->Prop)->Prop
abbrev TA:=St->Hp->(List V->Hp->Prop)->Prop
structure Ends where
 nx:St->Hp->Prop
 rt:VK
 bk:St->Hp->Prop:=λ_ _=>False
 ct:St->Hp->Prop:=λ_ _=>False
abbrev TS:=Ends->St->Hp->Prop
def EP(X:Cx)(pins:List (Addr×Obj))(σ:St)(Q:VK)(u:Value)(s':Ai):Prop:=∃v H',Inv X pins σ H' s'/\RelV v u/\Q v H'
def TP(X:Cx)(pins:List (Addr×Obj))(σ:St)(Q:Bool->Hp->Prop)(b:Bool)(s':Ai):Prop:=∃H',Inv X pins σ H' s'/\Q b H'
def AP(X:Cx)(pins:List (Addr×Obj))(σ:St)(Q:List V->Hp->Prop)(us:List Value)(s':Ai):Prop:=∃vs H',Inv X pins σ H' s'/\Fi vs us/\Q vs H'
def SP(X:Cx)(pins:List (Addr×Obj))(D:Ends)(f:Flow)(s':Ai):Prop :=
 match f with
 | .next=>∃σ' H',Inv X pins σ' H' s'/\D.nx σ' H'
 | .brk=>∃σ' H',Inv X pins σ' H' s'/\D.bk σ' H'
 | .cont=>∃σ' H',Inv X pins σ' H' s'/\D.ct σ' H'
 | .ret u=>∃v σ' H',Inv X pins σ' H' s'/\RelV v u/\D.rt v H'
def PE(X:Cx)(e:Expr)(t:TE):Prop :=
 ∀(pins:List (Addr×Obj)) (s:Ai) (σ:St) (H:Hp) (Q:VK),Inv X pins σ H s->t σ H Q->wpAny (model X.prog X.w) X.A (eval e X.env) (EP X pins σ Q) X.xe s
def PT(X:Cx)(e:Expr)(t:TT):Prop :=
 ∀(pins:List (Addr×Obj)) (s:Ai) (σ:St) (H:Hp) (Q:Bool->Hp->Prop),Inv X pins σ H s->t σ H Q->wpAny (model X.prog X.w) X.A (isTrue e X.env (eval e X.env)) (TP X pins σ Q) X.xe s
def PW(X:Cx)(e:Expr)(t:TT):Prop :=
 ∀(whole:Sem Value) (pins:List (Addr×Obj)) (s:Ai) (σ:St) (H:Hp) (Q:Bool->Hp->Prop),Inv X pins σ H s->t σ H Q->wpAny (model X.prog X.w) X.A (isTrue e X.env whole) (TP X pins σ Q) X.xe s
theorem PW.pt{X:Cx}{e:Expr}{t:TT}(h:PW X e t):PT X e t:=h _
def PA(X:Cx)(es:List Expr)(t:TA):Prop :=
 ∀(pos:Pos) (pins:List (Addr×Obj)) (s:Ai) (σ:St) (H:Hp) (Q:List V->Hp->Prop),Inv X pins σ H s->t σ H Q->wpAny (model X.prog X.w) X.A (spliced (Io pos (Bs es X.env))) (AP X pins σ Q) X.xe s
def PS(X:Cx)(st:Stmt)(t:TS):Prop :=
 ∀(pins:List (Addr×Obj)) (s:Ai) (σ:St) (H:Hp) (D:Ends),Inv X pins σ H s->t D σ H->wpAny (model X.prog X.w) X.A (exec st X.env) (SP X pins D) X.xe s
def kY(X:Cx)(st:List Stmt)(t:TS):Prop :=
 ∀(pins:List (Addr×Obj)) (s:Ai) (σ:St) (H:Hp) (D:Ends),Inv X pins σ H s->t D σ H->wpAny (model X.prog X.w) X.A (execs st X.env) (SP X pins D) X.xe s
theorem Fs{α:Type}{t:Sem α}{Q Q':α->Ai->Prop}{M:Model}{A:Cr}{E:Value->Ai->Prop}{s:Ai}(h:wpAny M A t Q E s)(hQ:∀a s,Q a s->Q' a s):wpAny M A t Q' E s:=Cy h hQ λ_ _ x=>x
section
variable{X:Cx}
theorem Z1{a b:Expr}{ta tb:TE}(ha:PE X a ta)(hb:PE X b tb){pins:List (Addr×Obj)}{s:Ai}{σ:St}{H:Hp}{R:V->V->Hp->Prop}(I:Inv X pins σ H s)(h:ta σ H λx H1=>tb σ H1 λy H2=>R x y H2){α:Type}{Q:α->Ai->Prop}{f:Value->Value->Sem α}(hf:∀v u s2 x y H2,Inv X pins σ H2 s2->RelV x v->RelV y u->R x y H2->wpAny (model X.prog X.w) X.A (f v u) Q X.xe s2):wpAny (model X.prog X.w) X.A (eval a X.env) (λv s₁=>wpAny (model X.prog X.w) X.A (eval b X.env) (λu s₂=>wpAny (model X.prog X.w) X.A (f v u) Q X.xe s₂) X.xe s₁) X.xe s:=by
 refine Fs (ha pins s σ H _ I h) λv s1 q0_ => ?_
 obtain ⟨x,H1,I1,r1,q1⟩ := q0_
 refine Fs (hb pins s1 σ H1 _ I1 q1) λu s2 q0_ => ?_
 obtain ⟨y,H2,I2,r2,q2⟩ := q0_
 exact hf v u s2 x y H2 I2 r1 r2 q2
def Qt(i:Nat):TE:=λσ H Q=>∃v,σ[i]? = some (some v)/\Q v H
def tC(v:V):TE:=λ_ H Q=>Q v H
theorem r6{i:Nat}{x:Str}{pos:Pos}(hN:X.N[i]? = some x)(hv:P6 X.env.scope x)(hd:(x == ("__debug__" : Str))=false:=by decide)(hcd:(x == ("__classdict__" : Str))=false:=by decide):PE X (.Name x pos) (Qt i):=by
 intro pins s σ H Q I h
 obtain ⟨v,e,h⟩:=h
 obtain ⟨m,hn,hl⟩:=I.loc
 obtain ⟨u,r,l⟩:=hl i x v hN e hv
 have fin:EP X pins σ Q u s:=⟨v,H,I,r,h⟩
 rcases l with ⟨hk,hm⟩ | ⟨hk,c,hc,hcell⟩
 ·exact wpAny_Name (wpAny_loadName_local I.ok.kind hk hn hm fin) hd
 ·rcases hk with hk | hk
  ·exact wpAny_Name (wpAny_loadName_cell I.ok.kind hk hc hcell fin) hd
  ·exact wpAny_Name (wpAny_loadName_free I.ok.kind hk hc hcell fin hcd) hd
theorem Et{i j pos}:PE X (.Constant (.int i) j pos) (tC (.int i)):=λ_ _ _ H _ I h=>wpAny_Constant_int ⟨.int i,H,I.tok _,⟨_,rfl⟩,h⟩
theorem G8{b j pos}:PE X (.Constant (.bool b) j pos) (tC (.bl b)):=λ_ _ _ H _ I h=>Constant_bool ⟨.bl b,H,I,rfl,h⟩
theorem tU{j pos}:PE X (.Constant .none j pos) (tC .non):=λ_ _ _ H _ I h=>Constant_none ⟨.non,H,I,rfl,h⟩
def Gl(X:Cx)(x:Str):Prop:=X.env.kindOf x=some .globalImplicit
theorem lT{E:Value->Ai->Prop}{pins:List (Addr×Obj)}{s:Ai}{σ:St}{H:Hp}{x:Str}{u:Value}{pos:Pos}{Q:Value->Ai->Prop}(I:Inv X pins σ H s)(hg:Gl X x)(hm:X.mg x=some u)(h:Q u s)(hd:(x == ("__debug__" : Str))=false:=by decide):wpAny (model X.prog X.w) X.A (eval (.Name x pos) X.env) Q E s :=
 aW I.ok.kind hg (Calls.loadGlobal_global (by rw[I.ok.glob]; exact I.mod.glob.keeps I.bk) hm h) hd
theorem Yq{E:Value->Ai->Prop}{pins:List (Addr×Obj)}{s:Ai}{σ:St}{H:Hp}{x:Str}{u:Value}{pos:Pos}{Q:Value->Ai->Prop}(I:Inv X pins σ H s)(hg:Gl X x)(hm:X.mg x=none)(hv:Jz x=some u)(h:Q u s)(hn:x ≠ "__name__" := by decide)(hd:(x == ("__debug__" : Str))=false:=by decide):wpAny (model X.prog X.w) X.A (eval (.Name x pos) X.env) Q E s:=by
 obtain ⟨mb,h1,h2⟩:=I.mod.blt
 exact aW I.ok.kind hg (Calls.loadGlobal_builtin (by rw[I.ok.glob]; exact I.mod.glob.keeps I.bk) hm (by rw[I.ok.blt]; exact h1.keeps I.bk) ((h2 x hn).trans hv) h) hd
theorem wL{x:Str}{v:V}{u:Value}{pos:Pos}(hg:Gl X x)(hm:X.mg x=none)(hv:Jz x=some u)(r:RelV v u)(hn:x ≠ "__name__" := by decide)(hd:(x == ("__debug__" : Str))=false:=by decide):PE X (.Name x pos) (tC v) :=
 λ_ _ _ H _ I h=>Yq I hg hm hv ⟨v,H,I,r,h⟩ hn hd
variable{a b:Expr}{ta tb:TE}{pos:Pos}
def PC(X:Cx)(op:CmpOp)(a b:Expr)(t:TE):Prop :=
 ∀(pins:List (Addr×Obj)) (s:Ai) (σ:St) (H:Hp) (Q:VK),Inv X pins σ H s->t σ H Q ->
  wpAny (model X.prog X.w) X.A (eval a X.env) (λv s₁=>wpAny (model X.prog X.w) X.A (eval b X.env) (λu s₂=>wpAny (model X.prog X.w) X.A (Hk op v u) (EP X pins σ Q) X.xe s₂) X.xe s₁) X.xe s
theorem rF(b:Expr){op:CmpOp}(h:op≠.In)(h2:op≠.NotIn):Ft op b=false:=by
 have e1:(op == CmpOp.In)=false:=by cases op <;> first | rfl | exact absurd rfl h
 have e2:(op == CmpOp.NotIn)=false:=by cases op <;> first | rfl | exact absurd rfl h2
 cases b <;> simp [Ft,e1,e2]
def tB(t:TE):TT:=λσ H Q=>t σ H λx H1=>∃c,x=.bl c/\Q c H1
theorem Q8{op:CmpOp}{t:TE}(h:PC X op a b t)(h1:Ft op b=false:=by first | exact rF _ (by decide) (by decide) | rfl):PT X (.Compare a [op] [b] pos) (tB t):=by
 intro pins s σ H Q I hw
 refine wpAny_isTrue_Compare1 (Fs (h pins s σ H _ I hw) λv s1 h1=>Fs h1 λu s2 h2=>Fs h2 λc s3 ⟨x,H1,I1,r1,q1⟩=>?_) h1
 obtain ⟨d,rfl,q⟩:=q1
 cases r1
 exact Gf ⟨H1,I1,q⟩
theorem tL{e:Expr}{t:TE}(h:PE X e t)(he:∀whole,isTrue e X.env whole=(do let v <- whole; Pt e.pos; Px [v] (truthy v)):=by intro _; rfl):PT X e (tB t):=by
 intro pins s σ H Q I hw
 refine isTrue_plain (Fs (h pins s σ H _ I hw) λv s1 ⟨x,H1,I1,r1,q1⟩=>?_) (he _)
 obtain ⟨d,rfl,q⟩:=q1
 cases r1
 exact Gf ⟨H1,I1,q⟩
variable{tA tB':TT}{Ex:List Expr}
def U7(t u:TT):TT:=λσ H Q=>t σ H λc H1=>if c=true then u σ H1 Q else Q false H1
def Z0(t u:TT):TT:=λσ H Q=>t σ H λc H1=>if c=true then Q true H1 else u σ H1 Q
def T5(t:TT):TT:=λσ H Q=>t σ H λc H1=>Q (!c) H1
theorem xD(ha:PT X a tA):PW X (.BoolOp .And [a] pos) tA:=by
 intro wh pins s σ H Q I h
 refine isTrue_and (Fs (ha pins s σ H Q I h) λc s1 e=>?_)
 cases c with
 | true=>exact isTrue_and_nil e
 | false=>exact e
theorem n8(ha:PT X a tA):PW X (.BoolOp .Or [a] pos) tA:=by
 intro wh pins s σ H Q I h
 refine isTrue_or (Fs (ha pins s σ H Q I h) λc s1 e=>?_)
 cases c with
 | false=>exact isTrue_or_nil e
 | true=>exact e
theorem zR(ha:PT X a tA)(hb:PW X (.BoolOp .And (b::Ex) pos) tB'):PW X (.BoolOp .And (a::b::Ex) pos) (U7 tA tB'):=by
 intro wh pins s σ H Q I h
 refine isTrue_and (Fs (ha pins s σ H _ I h) λc s1 q0_ => ?_)
 obtain ⟨H1,I1,q1⟩ := q0_
 cases c with
 | true=>exact hb wh pins s1 σ H1 Q I1 q1
 | false=>exact ⟨H1,I1,q1⟩
theorem O9(ha:PT X a tA)(hb:PW X (.BoolOp .Or (b::Ex) pos) tB'):PW X (.BoolOp .Or (a::b::Ex) pos) (Z0 tA tB'):=by
 intro wh pins s σ H Q I h
 refine isTrue_or (Fs (ha pins s σ H _ I h) λc s1 q0_ => ?_)
 obtain ⟨H1,I1,q1⟩ := q0_
 cases c with
 | true=>exact ⟨H1,I1,q1⟩
 | false=>exact hb wh pins s1 σ H1 Q I1 q1
theorem zU(ha:PT X a tA):PT X (.UnaryOp .Not a pos) (T5 tA):=by
 intro pins s σ H Q I h
 exact isTrue_not (ha pins s σ H (λc H1=>Q (!c) H1) I h)
def M3(ta tb:TE):TE:=λσ H Q=>ta σ H λx H1=>∃c,x=.bl c/\if c=true then tb σ H1 Q else Q (.bl false) H1
def L4(ta:TE):TE:=λσ H Q=>ta σ H λx H1=>∃c,x=.bl c/\Q (.bl (!c)) H1
theorem A9{op}{t:TE}(h:PE X a t):PE X (.BoolOp op [a] pos) t:=λpins s σ H Q I hw=>BoolOp_one (h pins s σ H Q I hw)
theorem zW(ha:PE X a ta)(hb:PE X (.BoolOp .And (b::Ex) pos) tb):PE X (.BoolOp .And (a::b::Ex) pos) (M3 ta tb):=by
 intro pins s σ H Q I h
 refine BoolOp_and (Fs (ha pins s σ H _ I h) λv s1 q0_ => ?_)
 obtain ⟨x,H1,I1,r1,q1⟩ := q0_
 obtain ⟨c,rfl,q1⟩:=q1
 cases r1
 refine Gf ?_
 cases c with
 | true=>exact hb pins s1 σ H1 Q I1 q1
 | false=>exact ⟨.bl false,H1,I1,rfl,q1⟩
theorem i3(ha:PE X a ta):PE X (.UnaryOp .Not a pos) (L4 ta):=by
 intro pins s σ H Q I h
 refine UnaryOp_ (Fs (ha pins s σ H _ I h) λv s1 q0_ => ?_)
 obtain ⟨x,H1,I1,r1,q1⟩ := q0_
 obtain ⟨c,rfl,q1⟩:=q1
 cases r1
 exact not_of (Gf ⟨.bl (!c),H1,I1,rfl,q1⟩)
def X9(t:TT)(ta tb:TE):TE:=λσ H Q=>t σ H λc H1=>if c=true then ta σ H1 Q else tb σ H1 Q
theorem qG{c:Expr}(hc:PT X c tA)(ha:PE X a ta)(hb:PE X b tb):PE X (.IfExp c a b pos) (X9 tA ta tb):=by
 intro pins s σ H Q I h
 refine wpAny_IfExp (Fs (hc pins s σ H _ I h) λd s1 q0_ => ?_)
 obtain ⟨H1,I1,q1⟩ := q0_
 cases d with
 | true=>exact ha pins s1 σ H1 Q I1 q1
 | false=>exact hb pins s1 σ H1 Q I1 q1
end
def Ox(K:PySem.W.Frag)(H:Hp)(a:Addr)(xs:List V):Prop :=
 Rd H a (.lst xs) \/
  ∃(o:Obj) (its:Array Value) (n:Nat),K.lookup a=some o/\o.cls=.type "list" /\ o.dict=none/\o.data=.seq its n/\its.size<=Av/\Fi xs its.toList
def Ri(K:PySem.W.Frag)(H:Hp)(a:Addr)(xs:List V):Prop :=
 Rd H a (.tup xs) \/
  ∃(o:Obj) (its:Array Value) (n:Nat),K.lookup a=some o/\o.cls=.type "tuple" /\ o.data=.seq its n/\its.size<=Av/\Fi xs its.toList
def R0:Value->Option V
 | .none=>some .non
 | .bool b=>some (.bl b)
 | .int i _=>some (.int i)
 | .str x _=>some (.str x)
 | .bytes b _=>some (.byt b)
 | .float b _=>some (.flt b)
 | .ref a=>some (.ref a)
 | .type n=>some (.ty n)
 | _=>none
theorem RelV.abs{x:V}{u:Value}(r:RelV x u):R0 u=some x:=by
 cases x with
 | non=>cases r; rfl
 | bl _=>cases r; rfl
 | int _=>obtain ⟨t,rfl⟩:=r; rfl
 | str _=>obtain ⟨t,rfl⟩:=r; rfl
 | byt _=>obtain ⟨t,rfl⟩:=r; rfl
 | flt _=>obtain ⟨t,rfl⟩:=r; rfl
 | ref _=>cases r; rfl
 | ty _=>cases r; rfl
theorem RelV.inj{x y:V}{u:Value}(r:RelV x u)(q:RelV y u):x=y:=Bt (r.abs.symm.trans q.abs)
theorem Fi.inj:∀{xs ys:List V} {us:List Value},Fi xs us->Fi ys us->xs=ys
 | _,_,_,.nil,.nil=>rfl
 | _,_,_,.cons r t,.cons r' t'=>by rw[r.inj r',Fi.inj t t']
section
variable{X:Cx}{pins:List (Addr×Obj)}{σ:St}{H:Hp}{s:Ai}{a:Addr}{xs ys:List V}
theorem Ox.of{K:PySem.W.Frag}(h:H a=some (.lst xs)):Ox K H a xs:=.inl (.inl h)
theorem Ri.of{K:PySem.W.Frag}(h:H a=some (.tup xs)):Ri K H a xs:=.inl (.inl h)
theorem Inv.list(I:Inv X pins σ H s)(h:Ox X.K H a xs):∃its:List Value,Fi xs its/\PlainL s.heap a its.toArray/\xs.length<=Av:=by
 rcases h with h | ⟨o,its,n,hk,hc,hd,hs,hz,r⟩
 ·obtain ⟨z,its,n,r,e⟩:=h.ok I.hok
  exact ⟨its,r,⟨_,n,e,rfl,rfl,rfl⟩,z⟩
 ·refine ⟨its.toList,r,⟨o,n,I.kIn a o hk,hc,hd,by simpa using hs⟩,?_⟩
  have e:=r.length
  simp only[Aj] at e
  omega
theorem Inv.tuple(I:Inv X pins σ H s)(h:Ri X.K H a xs):∃its:List Value,Fi xs its/\IsTup s.heap a its.toArray/\xs.length<=Av:=by
 rcases h with h | ⟨o,its,n,hk,hc,hs,hz,r⟩
 ·obtain ⟨z,its,r,p⟩:=h.ok I.hok
  exact ⟨its,r,p,z⟩
 ·refine ⟨its.toList,r,⟨o,I.kIn a o hk,hc,n,by simpa using hs⟩,?_⟩
  have e:=r.length
  simp only[Aj] at e
  omega
theorem Inv.list_inj(I:Inv X pins σ H s)(h:Ox X.K H a xs)(h':Ox X.K H a ys):xs=ys:=by
 obtain ⟨its,r,⟨o,n,e,_,_,d⟩,_⟩:=I.list h
 obtain ⟨its',r',⟨o',n',e',_,_,d'⟩,_⟩:=I.list h'
 rw[e] at e'; cases e'
 rw[d] at d'
 injection d' with d1 _
 have : its=its':=by simpa using congrArg Array.toList d1
 subst this
 exact r.inj r'
theorem Inv.tuple_inj(I:Inv X pins σ H s)(h:Ri X.K H a xs)(h':Ri X.K H a ys):xs=ys:=by
 obtain ⟨its,r,⟨o,e,_,n,d⟩,_⟩:=I.tuple h
 obtain ⟨its',r',⟨o',e',_,n',d'⟩,_⟩:=I.tuple h'
 rw[e] at e'; cases e'
 rw[d] at d'
 injection d' with d1 _
 have : its=its':=by simpa using congrArg Array.toList d1
 subst this
 exact r.inj r'
end
abbrev Cx.wish(X:Cx)(E:Value->Ai->Prop):Cx:={ X with xe:=E }
abbrev Cx.nox(X:Cx):Cx:=X.wish λ_ _=>False
theorem Cx.Ok.wish{X:Cx}(ok:X.Ok)(E:Value->Ai->Prop):(X.wish E).Ok :=
 ⟨ok.mod,ok.kind,ok.glob,ok.blt,ok.above,ok.inj,ok.has,ok.cab,ok.hd,ok.frames,ok.stk,ok.exf,ok.bs,ok.bsz,ok.noex,ok.exfs,ok.funs,ok.frf,ok.tab⟩
theorem Cx.Ok.unwish{X:Cx}{E:Value->Ai->Prop}(ok:(X.wish E).Ok):X.Ok :=
 ⟨ok.mod,ok.kind,ok.glob,ok.blt,ok.above,ok.inj,ok.has,ok.cab,ok.hd,ok.frames,ok.stk,ok.exf,ok.bs,ok.bsz,ok.noex,ok.exfs,ok.funs,ok.frf,ok.tab⟩
section
variable{X:Cx}{pins:List (Addr×Obj)}{σ:St}{H:Hp}{s:Ai}{E:Value->Ai->Prop}
theorem Inv.wish(I:Inv X pins σ H s)(E:Value->Ai->Prop):Inv (X.wish E) pins σ H s:=⟨I.ok.wish E,I.os,I.bare,I.base,I.loc,I.cell,I.free,I.freeC,I.pin,I.hok,I.len⟩
theorem Inv.unwish(I:Inv (X.wish E) pins σ H s):Inv X pins σ H s:=⟨I.ok.unwish,I.os,I.bare,I.base,I.loc,I.cell,I.free,I.freeC,I.pin,I.hok,I.len⟩
theorem SP.unwish{D:Ends}{f:Flow}{s':Ai}(h:SP (X.wish E) pins D f s'):SP X pins D f s':=by
 cases f with
 | next=>obtain ⟨σ',H',I,q⟩:=h; exact ⟨σ',H',I.unwish,q⟩
 | brk=>obtain ⟨σ',H',I,q⟩:=h; exact ⟨σ',H',I.unwish,q⟩
 | cont=>obtain ⟨σ',H',I,q⟩:=h; exact ⟨σ',H',I.unwish,q⟩
 | ret u=>obtain ⟨v,σ',H',I,r,q⟩:=h; exact ⟨v,σ',H',I.unwish,r,q⟩
theorem kY.nox{st:List Stmt}{t:TS}(h:kY X.nox st t):kY X st t:=λpins s σ H D I hw =>
 Cy (h pins s σ H D (I.wish _) hw) (λ_ _ q=>q.unwish) λ_ _ z=>Jd z
end
section
variable{X:Cx}{st:Stmt}{Ex:List Stmt}{t u:TS}{e:Expr}{te:TE}{pos:Pos}
def L6:TS:=λD σ H=>D.nx σ H
def R9(t u:TS):TS:=λD σ H=>t { D with nx:=u D } σ H
theorem lI:kY X [] L6:=λ_ _ σ H _ I h=>wpAny_execs_nil ⟨σ,H,I,h⟩
theorem Gs(h1:PS X st t)(h2:kY X Ex u):kY X (st::Ex) (R9 t u):=by
 intro pins s σ H D I h
 refine wpAny_execs_cons (Fs (h1 pins s σ H { D with nx:=u D } I h) λf s1 q=>?_)
 cases f with
 | next =>
  obtain ⟨σ',H',I',q⟩:=q
  exact h2 pins s1 σ' H' D I' q
 | ret v=>exact q
 | brk=>exact q
 | cont=>exact q
theorem Kq(h1:PS X st t):kY X [st] t:=by
 intro pins s σ H D I h
 refine wpAny_execs_cons (Fs (h1 pins s σ H D I h) λf s1 q=>?_)
 cases f with
 | next=>exact wpAny_execs_nil q
 | ret v=>exact q
 | brk=>exact q
 | cont=>exact q
theorem Inv.quiet{pins:List (Addr×Obj)}{σ:St}{H:Hp}{s:Ai}(I:Inv X pins σ H s):interactive X.env=false:=by simp [interactive,I.ok.kind]
def N5(te:TE):TS:=λD σ H=>te σ H λ_ H1=>D.nx σ H1
theorem Te(he:PE X e te)(hs:Jy e none pos.line X.env=pure false:=by rfl):PS X (.Expr e pos) (N5 te):=by
 intro pins s σ H D I h
 exact wpAny_Expr_any (Fs (he pins s σ H _ I h) λv s1 ⟨x,H1,I1,r1,q1⟩=>⟨σ,H1,I1,q1⟩) I.quiet hs
def U5(te:TE):TS:=λD σ H=>te σ H D.rt
theorem Uo(he:PE X e te):PS X (.Return (some e) pos) (U5 te):=by
 intro pins s σ H D I h
 exact wpAny_Return_some (Fs (he pins s σ H _ I h) λv s1 ⟨x,H1,I1,r1,q1⟩=>⟨x,σ,H1,I1,r1,q1⟩)
def T6(c:TT)(t u:TS):TS:=λD σ H=>c σ H λb H1=>if b=true then t D σ H1 else u D σ H1
theorem yA{c:Expr}{a b:List Stmt}{tc:TT}(hc:PT X c tc)(ha:kY X a t)(hb:kY X b u):PS X (.If c a b pos) (T6 tc t u):=by
 intro pins s σ H D I h
 refine wpAny_If (Fs (hc pins s σ H _ I h) λd s1 q0_ => ?_)
 obtain ⟨H1,I1,q1⟩ := q0_
 cases d with
 | true=>exact ha pins s1 σ H1 D I1 q1
 | false=>exact hb pins s1 σ H1 D I1 q1
end
abbrev TG:=V->St->Hp->(St->Hp->Prop)->Prop
abbrev uT:=List V->St->Hp->(St->Hp->Prop)->Prop
def PG(X:Cx)(target:Expr)(t:TG):Prop :=
 ∀(pins:List (Addr×Obj)) (s:Ai) (σ:St) (H:Hp) (v:V) (u:Value) (Q:St->Hp->Prop),Inv X pins σ H s->RelV v u->t v σ H Q ->
  wpAny (model X.prog X.w) X.A (Jv target X.env u) (λ_ s'=>∃σ' H',Inv X pins σ' H' s'/\Q σ' H') X.xe s
def x4(X:Cx)(ts:List Expr)(t:uT):Prop :=
 ∀(pins:List (Addr×Obj)) (s:Ai) (σ:St) (H:Hp) (vs:List V) (us:List Value) (Q:St->Hp->Prop),Inv X pins σ H s->Fi vs us->t vs σ H Q ->
  wpAny (model X.prog X.w) X.A (assignInOrder ((Ju ts X.env).map (·.2)) us) (λ_ s'=>∃σ' H',Inv X pins σ' H' s'/\Q σ' H') X.xe s
abbrev A3:=V->V->V->Hp->(Hp->Prop)->Prop
def E7(X:Cx)(t:A3):Prop :=
 ∀(pins:List (Addr×Obj)) (s:Ai) (σ:St) (H:Hp) (o i v:V) (ov iv u:Value) (Q:Hp->Prop),Inv X pins σ H s->RelV o ov->RelV i iv->RelV v u->t o i v H Q ->
  wpAny (model X.prog X.w) X.A (setItem ov iv u) (λ_ s'=>∃H',Inv X pins σ H' s'/\Q H') X.xe s
section
variable{X:Cx}{pos:Pos}
def Qz(i:Nat):TG:=λv σ H Q=>Q (σ.set i (some v)) H
theorem Iy{i:Nat}{x:Str}(hN:X.N.Nodup)(hi:X.N[i]? = some x)(hx:Loc X.env.scope x)(hf:X.fn x=true\/X.env.scope.names.lookup x=some .local:=by first | exact .inl rfl | exact .inr rfl | assumption):PG X (.Name x pos) (Qz i):=by
 intro pins s σ H v u Q I r h
 exact wpAny_assign_Name (dU I hN hi hx r (λs' I'=>⟨_,H,I',h⟩) hf)
def C5:uT:=λvs σ H Q=>vs=[]/\Q σ H
def pB(t:TG)(u:uT):uT:=λvs σ H Q=>∃v r,vs=v::r/\t v σ H λσ' H'=>u r σ' H' Q
theorem kH:x4 X [] C5:=by
 intro pins s σ H vs us Q I r h
 obtain ⟨e,h⟩:=h
 subst e
 cases r
 exact assignInOrder_nil ⟨σ,H,I,h⟩
theorem Xx{e:Expr}{es:List Expr}{t:TG}{u:uT}(h1:PG X e t)(h2:x4 X es u)(hs:(Ju (e::es) X.env).map (·.2)=Jv e X.env::(Ju es X.env).map (·.2):=by rfl):x4 X (e::es) (pB t u):=by
 intro pins s σ H vs us Q I r h
 obtain ⟨v,vr,e1,h⟩:=h
 subst e1
 cases r with
 | cons r rr =>
  rw[hs]
  refine assignInOrder_cons (Fs (h1 pins s σ H _ _ _ I r h) λ_ s1 q0_ => ?_)
  obtain ⟨σ1,H1,I1,q1⟩ := q0_
  exact h2 pins s1 σ1 H1 _ _ Q I1 rr q1
def O8(K:PySem.W.Frag)(n:Nat)(t:uT):TG:=λv σ H Q=>∃a xs,v=.ref a/\Ri K H a xs/\xs.length=n/\t xs σ H Q
theorem qD{es:List Expr}{k:Nat}{t:uT}{n:Nat}(hc:X.calm=true)(h:x4 X es t)(hn:(Ju es X.env).length=n:=by rfl)(hst:(Ju es X.env).findIdx? (·.1)=none:=by rfl):PG X (.Tuple es k pos) (O8 X.K n t):=by
 intro pins s σ H v u Q I r hw
 obtain ⟨a,xs,e1,hq,hl,hw⟩:=hw
 subst e1
 cases r
 obtain ⟨its,rv,ht,hz⟩:=I.tuple hq
 refine assign_Tuple_tuple (I.ok.hd hc) ht (by simp [hn,<- hl,rv.length]) hst λh' hx=>?_
 have I1:Inv X pins σ H { s with heap:=h' }:=I.kept (t':=s.toks) λb o e=>hx b o (Cc (Bb e)) e
 exact h pins _ σ H xs _ Q I1 (by simpa using rv) hw
def R7(to ti:TE)(t:A3):TG:=λv σ H Q=>to σ H λo H1=>ti σ H1 λi H2=>t o i v H2 λH3=>Q σ H3
theorem tX{o i:Expr}{to ti:TE}{t:A3}(ho:PE X o to)(hi:PE X i ti)(hs:E7 X t)
  (ha:∀v,Jv (.Subscript o i pos) X.env v=(do
   let ov <- Px [v] (eval o X.env)
   let iv <- Px [v,ov] (eval i X.env)
   Pt pos
   Px [v,ov,iv] (setItem ov iv v)
   release [v,ov,iv] []):=by intro _; rfl):PG X (.Subscript o i pos) (R7 to ti t):=by
 intro pins s σ H v u Q I r h
 rw[ha]
 refine Ac (Ep (Fs (ho pins s σ H _ I h) λov s1 q0_ => ?_))
 obtain ⟨x,H1,I1,r1,q1⟩ := q0_
 refine Ac (Ep (Fs (hi pins s1 σ H1 _ I1 q1) λiv s2 q0_ => ?_))
 obtain ⟨y,H2,I2,r2,q2⟩ := q0_
 refine Ac (Gu (Ac (Ep (Fs (hs pins s2 σ H2 x y v ov iv u _ I2 r1 r2 r q2) λ_ s3 q0_ => ?_))))
 obtain ⟨H3,I3,q3⟩ := q0_
 exact wpAny_release ⟨σ,H3,I3,q3⟩
def mG(te:TE)(g:TG):TS:=λD σ H=>te σ H λx H1=>g x σ H1 D.nx
theorem tD{tg e:Expr}{te:TE}{g:TG}(he:PE X e te)(hg:PG X tg g)(hs:swapsWithSole [tg] e pos.line X.env=pure false:=by rfl)(hw:swappedStores [tg] e X.env=pure none:=by rfl)(h1:(Ju [tg] X.env).map (·.2)=[Jv tg X.env]:=by rfl):PS X (.Assign [tg] e pos) (mG te g):=by
 intro pins s σ H D I h
 refine wpAny_Assign_stores (Fs (he pins s σ H _ I h) λv s1 ⟨x,H1,I1,r1,q1⟩=>?_) hs hw
 rw[h1]
 exact Fs (hg pins s1 σ H1 x v _ I1 r1 q1) λ_ s2 q=>q
theorem Mv{i:Nat}{x:Str}{e:Expr}{te:TE}{pos':Pos}(hN:X.N.Nodup)(hi:X.N[i]? = some x)(hx:Loc X.env.scope x)(he:PE X e te)(hs:Jy e (some (.Name x pos')) pos.line X.env=pure false:=by rfl)(hf:X.fn x=true\/X.env.scope.names.lookup x=some .local:=by first | exact .inl rfl | exact .inr rfl | assumption):PS X (.Assign [.Name x pos'] e pos) (mG te (Qz i)):=by
 intro pins s σ H D I h
 refine wpAny_Assign_Name (Fs (he pins s σ H _ I h) λv s1 ⟨y,H1,I1,r1,q1⟩=>?_) hs
 exact dU I1 hN hi hx r1 (λs2 I2=>⟨_,H1,I2,q1⟩) hf
end
structure It where
 go:Nat->Hp->Prop
 yld:Nat->Hp->V->Hp->Prop
 stop:Nat->Hp->Prop
def Lk(X:Cx)(pins:List (Addr×Obj))(H:Hp)(b:Addr):Prop :=
 H b=none/\b≠X.env.locals/\b∉X.fs/\(b∈X.ex\/X.s₀.heap.objs.size<=b)/\(∀x c,X.env.cells.lookup x=some c->c≠b)/\∀p∈X.pn++pins,p.1≠b
theorem Inv.fpOk{X:Cx}{pins:List (Addr×Obj)}{σ:St}{H H':Hp}{s:Ai}{b:Addr}(I:Inv X pins σ H s)(hb:s.heap.objs.size<=b)(hn:H' b=none):Lk X pins H' b:=by
 refine ⟨hn,Nat.ne_of_gt (Br I.lt hb),I.nofs hb,.inr (Bv I.sz hb),λx c e z=>?_,λp hp z=>?_⟩
 ·obtain ⟨v,q⟩:=I.cell x c e
  exact absurd (Br q.lt (by rw[z]; exact hb)) (Gh _)
 ·exact absurd (Br (Bb (I.pin p hp).1) (by rw[z]; exact hb)) (Gh _)
structure Turn(P:Bm)(w:World)(K:PySem.W.Frag)(tg:Expr)(J:It)(fp:List Addr)(it:Addr)(tn:Nat->Heap->Prop):Prop where
 mem:it∈fp
 obj:∀i h,tn i h->∀b∈fp,∃o,h.get? b=some o/\∀v,o.data≠.cell v
 keep:∀i h h',tn i h->(∀b∈fp,∀o,h.get? b=some o->h'.get? b=some o)->tn i h'
 item:∀(X:Cx),X.prog=P->X.w=w->X.K=K->X.calm=true->∀(i:Nat) (pins:List (Addr×Obj)) (s:Ai) (σ:St) (H:Hp) (E:Value->Ai->Prop),Inv X pins σ H s->(∀b∈fp,Lk X pins H b)->tn i s.heap->J.go i H ->
  wpAny (model P w) X.A (pyNext (.ref it)) (λr s1=>∃u,r=some u /\
   wpAny (model P w) X.A (Hj tg (.ref it) u) (λ_ s2=>∃x H',Inv X pins σ H' s2/\RelV x u/\J.yld i H x H'/\tn (i+1) s2.heap/\∀b∈fp,H' b=none) E s1) E s
 done:∀(X:Cx),X.prog=P->X.w=w->X.K=K->X.calm=true->∀(i:Nat) (pins:List (Addr×Obj)) (s:Ai) (σ:St) (H:Hp) (E:Value->Ai->Prop),Inv X pins σ H s->(∀b∈fp,Lk X pins H b)->tn i s.heap->J.stop i H ->
  wpAny (model P w) X.A (pyNext (.ref it)) (λr s1=>r=none/\Inv X pins σ H s1) E s
 self:∀(A:Cr) (i:Nat) (s:Ai) (Q:Value->Ai->Prop) (E:Value->Ai->Prop),tn i s.heap->Q (.ref it) s->wpAny (model P w) A (pyIter (.ref it)) Q E s
abbrev TI:=St->Hp->(It->Hp->Prop)->Prop
def V5(X:Cx)(pins:List (Addr×Obj))(σ:St)(tg:Expr)(R:It->Hp->Prop)(itv:Value)(s2:Ai):Prop :=
 ∃(it:Addr) (fp:List Addr) (tn:Nat->Heap->Prop) (J:It) (H':Hp),itv=.ref it/\Inv X pins σ H' s2/\Turn X.prog X.w X.K tg J fp it tn/\tn 0 s2.heap/\(∀b∈fp,Lk X pins H' b)/\R J H'
def PI(X:Cx)(tg iter:Expr)(wi:TI):Prop :=
 ∀(pins:List (Addr×Obj)) (s:Ai) (σ:St) (H:Hp) (R:It->Hp->Prop),Inv X pins σ H s->wi σ H R ->
  wpAny (model X.prog X.w) X.A (eval iter X.env) (λv s1=>wpAny (model X.prog X.w) X.A (pyIter v) (V5 X pins σ tg R) X.xe s1) X.xe s
theorem qZ{M:Model}{A:Cr}{E:Value->Ai->Prop}{s:Ai}{tg:Expr}{it:Addr}{u:Value}{o:Obj}{n:String}{vs:Array Value}{Q:Unit->Ai->Prop}(ho:s.heap.get? it=some o)(hc:o.cls=.type n)(hd:o.data=.fields vs)(hn:["enumerate", "zip", "dict_itemiterator", "dict_reverseitemiterator", "odict_iterator", "itertools.zip_longest", "itertools.pairwise"].contains n=false)(hQ:Q () s):wpAny M A (Hj tg (.ref it) u) Q E s:=by
  unfold Hj
  cases tg <;> first
    | exact Am hQ
    | (cases u <;> first
        | exact Am hQ
        | (refine Ac (wpAny_load ho ?_)
           rw[hc,hd]
           show wpAny M A (if (["enumerate", "zip", "dict_itemiterator", "dict_reverseitemiterator", "odict_iterator", "itertools.zip_longest", "itertools.pairwise"].contains n && vs[0]? == some (rawInt _))=true then _ else _) Q E s
           rw[if_neg (by intro h; rw[hn,Bool.false_and] at h; cases h)]
           exact Am hQ))
def A6(K:PySem.W.Frag)(a:Addr):It :=
 ⟨λi H=>∃xs x,Ox K H a xs/\xs[i]? = some x,λi H x H'=>H'=H/\∀xs,Ox K H a xs->xs[i]? = some x,λi H=>∃xs,Ox K H a xs/\xs.length<=i⟩
def R8(K:PySem.W.Frag)(a:Addr):It :=
 ⟨λi H=>∃xs x,Ri K H a xs/\xs[i]? = some x,λi H x H'=>H'=H/\∀xs,Ri K H a xs->xs[i]? = some x,λi H=>∃xs,Ri K H a xs/\xs.length<=i⟩
def vH(lo:Int)(n:Nat):It:=⟨λi _=>i<n,λi H x H'=>H'=H/\x=.int (lo+i),λi _=>n<=i⟩
theorem nE{P:Bm}{w:World}{K:PySem.W.Frag}{tg:Expr}(a it:Addr):Turn P w K tg (A6 K a) [it] it (λi h=>h.IsListIter it a i) where
 mem:=by simp
 obj:=λi h st b hb=>by
  have e:b=it:=by simpa using hb
  subst e
  obtain ⟨o,e,c,d⟩:=st
  exact ⟨o,e,λv z=>by rw[d] at z; cases z⟩
 keep:=λi h h' st k=>st.at λo e=>k it (by simp) o e
 item:=by
  intro X hP hw hK hc i pins s σ H E I hf st hg
  subst hP hw hK
  obtain ⟨xs,x,hq,hx⟩:=hg
  obtain ⟨its,rv,p,hz⟩:=I.list hq
  obtain ⟨u,hu,ru⟩:=rv.get hx
  obtain ⟨f0,f1,f2,f3,f4,f5⟩:=hf it (by simp)
  refine uQ st p.isList (x:=u) (by simpa using hu) λh' st' sb=>?_
  have I1:Inv X pins σ H { s with heap:=h' }:=I.turned (t':=s.toks) (λb o hb e=>(sb.2 b hb).trans e) f0 f1 f3 f4 f5
  obtain ⟨o,e,c,d⟩:=id st'
  exact ⟨u,rfl,qZ (s:={ s with heap:=h' }) e c d (by decide) ⟨x,H,I1,ru,⟨rfl,λys hy=>by rw[I.list_inj hy hq]; exact hx⟩,st',λb hb=>(hf b hb).1⟩⟩
 done:=by
  intro X hP hw hK hc i pins s σ H E I hf st hg
  subst hP hw hK
  obtain ⟨xs,hq,hx⟩:=hg
  obtain ⟨its,rv,p,hz⟩:=I.list hq
  obtain ⟨f0,f1,f2,f3,f4,f5⟩:=hf it (by simp)
  have hl:=rv.length
  exact wpAny_pyNext_list_end (I.ok.hd hc) st p.isList (by simp; omega) λh' eb=>⟨rfl,I.turned (t':=s.toks) (λb o hb e=>eb b o hb e) f0 f1 f3 f4 f5⟩
 self:=λ_ _ _ _ _ st h=>wpAny_pyIter_listiter st h
theorem iZ{P:Bm}{w:World}{K:PySem.W.Frag}{tg:Expr}(a it:Addr):Turn P w K tg (R8 K a) [it] it (λi h=>h.IsTupleIter it a i) where
 mem:=by simp
 obj:=λi h st b hb=>by
  have e:b=it:=by simpa using hb
  subst e
  obtain ⟨o,e,c,d⟩:=st
  exact ⟨o,e,λv z=>by rw[d] at z; cases z⟩
 keep:=λi h h' st k=>st.at λo e=>k it (by simp) o e
 item:=by
  intro X hP hw hK hc i pins s σ H E I hf st hg
  subst hP hw hK
  obtain ⟨xs,x,hq,hx⟩:=hg
  obtain ⟨its,rv,p,hz⟩:=I.tuple hq
  obtain ⟨u,hu,ru⟩:=rv.get hx
  obtain ⟨f0,f1,f2,f3,f4,f5⟩:=hf it (by simp)
  refine wpAny_pyNext_tuple_item st (show s.heap.IsTuple a its.toArray from p) (x:=u) (by simpa using hu) λh' st' sb=>?_
  have I1:Inv X pins σ H { s with heap:=h' }:=I.turned (t':=s.toks) (λb o hb e=>(sb.2 b hb).trans e) f0 f1 f3 f4 f5
  obtain ⟨o,e,c,d⟩:=id st'
  exact ⟨u,rfl,qZ (s:={ s with heap:=h' }) e c d (by decide) ⟨x,H,I1,ru,⟨rfl,λys hy=>by rw[I.tuple_inj hy hq]; exact hx⟩,st',λb hb=>(hf b hb).1⟩⟩
 done:=by
  intro X hP hw hK hc i pins s σ H E I hf st hg
  subst hP hw hK
  obtain ⟨xs,hq,hx⟩:=hg
  obtain ⟨its,rv,p,hz⟩:=I.tuple hq
  obtain ⟨f0,f1,f2,f3,f4,f5⟩:=hf it (by simp)
  have hl:=rv.length
  exact wpAny_pyNext_tuple_end (I.ok.hd hc) st (show s.heap.IsTuple a its.toArray from p) (by simp; omega) λh' eb=>⟨rfl,I.turned (t':=s.toks) (λb o hb e=>eb b o hb e) f0 f1 f3 f4 f5⟩
 self:=λ_ _ _ _ _ st h=>wpAny_pyIter_tupleiter st h
theorem gK{P:Bm}{w:World}{K:PySem.W.Frag}{tg:Expr}(it:Addr)(lo:Int)(n:Nat):Turn P w K tg (vH lo n) [it] it (λi h=>IsRangeIter h it (lo+(i:Nat) * 1) ((n:Int) - (i:Nat)) 1) where
 mem:=by simp
 obj:=λi h st b hb=>by
  have e:b=it:=by simpa using hb
  subst e
  exact ⟨_,st,λv z=>by
   have z':Data.fields _=Data.cell v:=z
   cases z'⟩
 keep:=λi h h' st k=>k it (by simp) _ st
 item:=by
  intro X hP hw hK hc i pins s σ H E I hf st hg
  subst hP hw hK
  obtain ⟨f0,f1,f2,f3,f4,f5⟩:=hf it (by simp)
  have W:=Walks.range (prog:=X.prog) (w:=X.w) (I.ok.hd hc) it lo 1 n
  refine W.item i s _ _ hg st λv h' tk hv st' kk=>?_
  obtain ⟨t,rfl⟩:=hv
  have I1:Inv X pins σ H { s with heap:=h',toks:=tk }:=I.turned (λb o hb e=>kk b o (by simpa using hb) e) f0 f1 f3 f4 f5
  refine ⟨_,rfl,qZ (s:={ s with heap:=h',toks:=tk }) (n := "range_iterator") st' rfl rfl (by decide) ⟨.int (lo+i),H,I1,⟨t,?_⟩,⟨rfl,rfl⟩,st',λb hb=>(hf b hb).1⟩⟩
  rw[Int.mul_one]
 done:=by
  intro X hP hw hK hc i pins s σ H E I hf st hg
  subst hP hw hK
  obtain ⟨f0,f1,f2,f3,f4,f5⟩:=hf it (by simp)
  exact wpAny_pyNext_range_end (I.ok.hd hc) st (by have : n<=i:=hg; omega) λh' eb=>⟨rfl,I.turned (t':=s.toks) (λb o hb e=>eb b o hb e) f0 f1 f3 f4 f5⟩
 self:=λ_ _ _ _ _ st h=>wpAny_pyIter_rangeiter st h
section
variable{X:Cx}{tg:Expr}
def kI(K:PySem.W.Frag)(tl:TE):TI:=λσ H R=>tl σ H λx H1=>∃a,x=.ref a/\(∃xs,Ox K H1 a xs)/\R (A6 K a) H1
def T1(K:PySem.W.Frag)(tl:TE):TI:=λσ H R=>tl σ H λx H1=>∃a,x=.ref a/\(∃xs,Ri K H1 a xs)/\R (R8 K a) H1
theorem Sv{l:Expr}{tl:TE}(hl:PE X l tl):PI X tg l (kI X.K tl):=by
 intro pins s σ H R I h
 refine Fs (hl pins s σ H _ I h) λv s1 q0_ => ?_
 obtain ⟨x,H1,I1,r1,q1⟩ := q0_
 obtain ⟨a,e,⟨xs,hq⟩,q⟩:=q1
 subst e
 cases r1
 obtain ⟨its,rv,p,hz⟩:=I1.list hq
 refine aS p.isList ?_
 refine ⟨s1.heap.objs.size,[s1.heap.objs.size],_,_,H1,rfl,I1.kept (t':=s1.toks) λb o e=>Al _ e,nE a _,⟨_,Bu _ rfl,rfl,rfl⟩,λb hb=>?_,q⟩
 have e:b=s1.heap.objs.size:=by simpa using hb
 subst e
 exact I1.fpOk (Ah _) (I1.hok.fresh (Ah _))
theorem t8{l:Expr}{tl:TE}(hl:PE X l tl):PI X tg l (T1 X.K tl):=by
 intro pins s σ H R I h
 refine Fs (hl pins s σ H _ I h) λv s1 q0_ => ?_
 obtain ⟨x,H1,I1,r1,q1⟩ := q0_
 obtain ⟨a,e,⟨xs,hq⟩,q⟩:=q1
 subst e
 cases r1
 obtain ⟨its,rv,p,hz⟩:=I1.tuple hq
 refine wpAny_pyIter_tuple (show s1.heap.IsTuple a its.toArray from p) ?_
 refine ⟨s1.heap.objs.size,[s1.heap.objs.size],_,_,H1,rfl,I1.kept (t':=s1.toks) λb o e=>Al _ e,iZ a _,⟨_,Bu _ rfl,rfl,rfl⟩,λb hb=>?_,q⟩
 have e:b=s1.heap.objs.size:=by simpa using hb
 subst e
 exact I1.fpOk (Ah _) (I1.hok.fresh (Ah _))
theorem qI{pins:List (Addr×Obj)}{σ:St}{H:Hp}{s:Ai}{R:It->Hp->Prop}{E:Value->Ai->Prop}{lo hi:Int}{t u v:Tok}{tk:Nat}(I:Inv X pins σ H s)(h1:-(2 ^ 62)<=lo)(h2:lo<2 ^ 62)(h3:-(2 ^ 62)<=hi)(h4:hi<2 ^ 62)(q:R (vH lo (hi - lo).toNat) H):wpAny (model X.prog X.w) X.A (pyIter (.ref s.heap.objs.size)) (V5 X pins σ tg R) E { s with heap:=s.heap.push { cls:=.type "range",data:=.fields #[.int lo t,.int hi u,.int 1 v] },toks:=tk }:=by
 refine wpAny_pyIter_range (IsRange.new ..) (small_one h1 h2 h3 h4) ?_
 have I1:Inv X pins σ H { s with heap:=s.heap.push { cls:=.type "range",data:=.fields #[.int lo t,.int hi u,.int 1 v] },toks:=tk }:=I.kept λb o e=>Al _ e
 refine ⟨(s.heap.push { cls:=.type "range",data:=.fields #[.int lo t,.int hi u,.int 1 v] }).objs.size,[(s.heap.push { cls:=.type "range",data:=.fields #[.int lo t,.int hi u,.int 1 v] }).objs.size],_,_,H,rfl,
  I1.kept (t':=tk) λb o e=>Al _ e,gK _ lo (hi - lo).toNat,?_,λb hb=>?_,q⟩
 ·have e1:lo+((0:Nat):Int) * 1=lo:=by simp
  have e2:(((hi - lo).toNat:Nat):Int) - ((0:Nat):Int)=Builtin.Range.rangeSize lo hi 1:=by rw[rangeSize_one]; split <;> omega
  show IsRangeIter _ _ (lo+((0:Nat):Int) * 1) ((((hi - lo).toNat:Nat):Int) - ((0:Nat):Int)) 1
  rw[e1,e2]
  exact Bu _ rfl
 ·have e:b=(s.heap.push { cls:=.type "range",data:=.fields #[.int lo t,.int hi u,.int 1 v] }).objs.size:=by simpa using hb
  subst e
  exact I1.fpOk (Ah _) (I1.hok.fresh (Ah _))
def N7(ta:TA):TI:=λσ H R=>ta σ H λvs H1=>∃j:Int,vs=[.int j] /\ -(2 ^ 62)<=j/\j<2 ^ 62/\R (vH 0 j.toNat) H1
theorem Qm{a:Expr}{ta:TA}{p pos:Pos}(hg:Gl X "range")(hm:X.mg "range" = none)(ha:PA X [a] ta)(hs:Bs [a] X.env=[(false,eval a X.env)]:=by rfl):PI X tg (.Call (.Name "range" p) [a] [] pos) (N7 ta):=by
 intro pins s σ H R I h
 refine Call_ (Yq I hg hm boot_range (Kw (Fs (ha pos pins s σ H _ I h) λus s1 ⟨vs,H1,I1,r1,q1⟩=>?_) hs rfl))
 obtain ⟨j,e,q1,q2,q⟩:=q1
 subst e
 cases r1 with
 | cons r rr =>
  cases rr
  obtain ⟨t,rfl⟩:=r
  exact call_range_1 (qI I1 (by omega) (by omega) q1 q2 (by simpa using q))
def Q3(wi:TI)(g:TG)(tb:TS):TS:=λD σ H=>wi σ H λJ H1=>∃W:Nat->Nat->St->Hp->Prop,(∃m,W 0 m σ H1)/\∀i m σ H,W i m σ H ->
 (J.stop i H/\D.nx σ H)\/(J.go i H/\∃N:St->Hp->Prop,(∀σ' H',N σ' H'->∃m',m'<m/\W (i+1) m' σ' H')/\∀x H',J.yld i H x H'->g x σ H' λσ2 H2=>tb { D with nx:=N,ct:=N,bk:=D.nx } σ2 H2)
def Mx(fp:List Addr)(h:Heap):List (Addr×Obj):=fp.filterMap λb=>(h.get? b).map λo=>(b,o)
theorem Fo{fp:List Addr}{h:Heap}{b:Addr}{o:Obj}(hb:b∈fp)(e:h.get? b=some o):(b,o)∈Mx fp h:=List.mem_filterMap.mpr ⟨b,hb,by rw[e]; rfl⟩
theorem mJ{fp:List Addr}{h:Heap}{p:Addr×Obj}(hp:p∈Mx fp h):p.1∈fp/\h.get? p.1=some p.2:=by
 obtain ⟨b,hb,e⟩:=Vg.mp hp
 cases q:h.get? b with
 | none=>rw[q] at e; cases e
 | some o =>
  rw[q] at e
  have e':(b,o)=p:=Bt e
  subst e'
  exact ⟨hb,q⟩
theorem Inv.pinned{pins:List (Addr×Obj)}{σ:St}{H:Hp}{s:Ai}{fp:List Addr}(I:Inv X pins σ H s)(hf:∀b∈fp,Lk X pins H b)(ho:∀b∈fp,∃o,s.heap.get? b=some o/\∀v,o.data≠.cell v):Inv X (pins++Mx fp s.heap) σ H s :=
 I.pins_of λp hp=>(Au.mp hp).elim (λz=>I.pin p (Ad _ z)) λz=>by
  obtain ⟨hb,e⟩:=mJ z
  obtain ⟨f0,f1,f2,_⟩:=hf p.1 hb
  obtain ⟨o,e',d⟩:=ho p.1 hb
  rw[e] at e'; cases e'
  exact ⟨e,f0,f1,f2,d⟩
theorem Inv.unpinned{pins pl:List (Addr×Obj)}{σ:St}{H:Hp}{s:Ai}(I:Inv X (pins++pl) σ H s):Inv X pins σ H s:=I.pins_of λp hp=>I.pin p (Ad _ (Ao _ hp))
theorem bV{iter:Expr}{body:List Stmt}{wi:TI}{g:TG}{tb:TS}{pos:Pos}(hp:PassesOwn (model X.prog X.w) X.A X.env X.xe)(hc:X.calm=true)(hi:PI X tg iter wi)(hg:PG X tg g)(hb:kY X body tb)(hs:∀x,Dh iter X.env x=pure x:=by intro _; rfl):PS X (.For tg iter body [] pos) (Q3 wi g tb):=by
 intro pins s σ H D I h
 refine wpAny_For (Fs (hi pins s σ H _ I h) λv s1 h1=>Fs h1 λitv s2 h2=>?_) hs
 obtain ⟨it,fp,tn,J,H2,e,I2,T,st2,f2,W,⟨m0,w0⟩,turn⟩:=h2
 subst e
 -- what stays true of the iterator's objects through the loop
 have stat:∀{H':Hp},(∀b∈fp,H' b=none)->∀b∈fp,Lk X pins H' b:=λhn b hb=>⟨hn b hb,(f2 b hb).2⟩
 refine codeAny_forLoop_any (λn s'=>∃i σ' H',Inv X pins σ' H' s'/\tn i s'.heap/\(∀b∈fp,H' b=none)/\W i n σ' H') ?_ m0 ⟨0,σ,H2,I2,st2,λb hb=>(f2 b hb).1,w0⟩
 (intro n s3 q_; obtain ⟨i,σ3,H3,I3,Oz,fr3,w3⟩ := q_)
 rcases turn i n σ3 H3 w3 with ⟨stop,qn⟩ | ⟨go,N,hN,step⟩
 ·refine Nc hp (Fs (T.done X rfl rfl rfl hc i pins s3 σ3 H3 X.xe I3 (stat fr3) Oz stop) λr s4 q0_ => ?_)
  obtain ⟨hr,I4⟩ := q0_
  subst hr
  exact wpAny_execs_nil ⟨σ3,H3,I4,qn⟩
 ·refine Nc hp (Fs (T.item X rfl rfl rfl hc i pins s3 σ3 H3 X.xe I3 (stat fr3) Oz go) λr s4 q0_ => ?_)
  obtain ⟨u,hr,h4⟩ := q0_
  subst hr
  refine Nc hp (Fs h4 λ_ s5 q0_ => ?_)
  obtain ⟨x,H5,I5,r5,y5,st5,fr5⟩ := q0_
  have I5':=I5.pinned (stat fr5) (T.obj _ _ st5)
  refine Nc hp (Fs (hg _ s5 σ3 H5 x u _ I5' r5 (step x H5 y5)) λ_ s6 q0_ => ?_)
  obtain ⟨σ6,H6,I6,q6⟩ := q0_
  refine Nc hp (Fs (hb _ s6 σ6 H6 _ I6 q6) λf s7 q7=>?_)
  have again:∀{σ7:St} {H7:Hp},Inv X (pins++Mx fp s5.heap) σ7 H7 s7->N σ7 H7->∃m,m<n/\∃i σ' H',Inv X pins σ' H' s7/\tn i s7.heap/\(∀b∈fp,H' b=none)/\W i m σ' H':=λ{σ7 H7} I7 n7=>by
   obtain ⟨m',hm,w7⟩:=hN σ7 H7 n7
   refine ⟨m',hm,i+1,σ7,H7,I7.unpinned,T.keep _ _ _ st5 λb hb o e=>(I7.pin (b,o) (Ad _ (Ad _ (Fo hb e)))).1,λb hb=>?_,w7⟩
   obtain ⟨o,e,d⟩:=T.obj _ _ st5 b hb
   exact (I7.pin (b,o) (Ad _ (Ad _ (Fo hb e)))).2.1
  cases f with
  | next=>obtain ⟨σ7,H7,I7,n7⟩:=q7; exact again I7 n7
  | cont=>obtain ⟨σ7,H7,I7,n7⟩:=q7; exact again I7 n7
  | brk=>obtain ⟨σ7,H7,I7,q7⟩:=q7; exact ⟨σ7,H7,I7.unpinned,q7⟩
  | ret v=>obtain ⟨x7,σ7,H7,I7,r7,q7⟩:=q7; exact ⟨x7,σ7,H7,I7.unpinned,r7,q7⟩
end
theorem uB{K:PySem.W.Frag}{a:Addr}{xs:List V}{g:TG}{tb:TS}{D:Ends}{σ:St}{H:Hp}(Pv:Nat->St->Hp->Prop)(h0:Pv 0 σ H)(hl:∀i σ H,i<=xs.length->Pv i σ H->Ox K H a xs)(hs:∀i x σ H,xs[i]? = some x->Pv i σ H->g x σ H λσ2 H2=>tb { D with nx:=Pv (i+1),ct:=Pv (i+1),bk:=D.nx } σ2 H2)(hd:∀σ H,Pv xs.length σ H->D.nx σ H):∃W:Nat->Nat->St->Hp->Prop,(∃m,W 0 m σ H)/\∀i m σ H,W i m σ H->((A6 K a).stop i H/\D.nx σ H)\/((A6 K a).go i H/\∃N:St->Hp->Prop,(∀σ' H',N σ' H'->∃m',m'<m/\W (i+1) m' σ' H')/\∀x H',(A6 K a).yld i H x H'->g x σ H' λσ2 H2=>tb { D with nx:=N,ct:=N,bk:=D.nx } σ2 H2):=by
 refine ⟨λi m σ H=>m=xs.length - i/\i<=xs.length/\Pv i σ H,⟨xs.length,by simp,Cz _,h0⟩,?_⟩
 (intro i m σ H q_; obtain ⟨rfl,hi,p⟩ := q_)
 have q:=hl i σ H hi p
 by_cases hlt:i<xs.length
 ·refine .inr ⟨⟨xs,xs[i],q,by simp [hlt]⟩,Pv (i+1),λσ' H' p'=>⟨xs.length - (i+1),by omega,rfl,hlt,p'⟩,λx H' y=>?_⟩
  obtain ⟨e,y⟩:=y
  subst e
  exact hs i x σ _ (y xs q) p
 ·have e:i=xs.length:=by omega
  subst e
  exact .inl ⟨⟨xs,q,Ah _⟩,hd σ H p⟩
theorem Zx{lo:Int}{n:Nat}{g:TG}{tb:TS}{D:Ends}{σ:St}{H:Hp}(Pv:Nat->St->Hp->Prop)(h0:Pv 0 σ H)(hs:∀i σ H,i<n->Pv i σ H->g (.int (lo+i)) σ H λσ2 H2=>tb { D with nx:=Pv (i+1),ct:=Pv (i+1),bk:=D.nx } σ2 H2)(hd:∀σ H,Pv n σ H->D.nx σ H):∃W:Nat->Nat->St->Hp->Prop,(∃m,W 0 m σ H)/\∀i m σ H,W i m σ H->((vH lo n).stop i H/\D.nx σ H)\/((vH lo n).go i H/\∃N:St->Hp->Prop,(∀σ' H',N σ' H'->∃m',m'<m/\W (i+1) m' σ' H')/\∀x H',(vH lo n).yld i H x H'->g x σ H' λσ2 H2=>tb { D with nx:=N,ct:=N,bk:=D.nx } σ2 H2):=by
 refine ⟨λi m σ H=>m=n - i/\i<=n/\Pv i σ H,⟨n,by simp,Cz _,h0⟩,?_⟩
 (intro i m σ H q_; obtain ⟨rfl,hi,p⟩ := q_)
 by_cases hlt:i<n
 ·refine .inr ⟨hlt,Pv (i+1),λσ' H' p'=>⟨n - (i+1),by omega,rfl,hlt,p'⟩,λx H' y=>?_⟩
  obtain ⟨e,y⟩:=y
  subst e y
  exact hs i σ _ hlt p
 ·have e:i=n:=by omega
  subst e
  exact .inl ⟨Ah _,hd σ H p⟩
abbrev R2:=V->V->Hp->VK->Prop
def Ur(X:Cx)(f:Value->Value->Sem Value)(r:R2):Prop :=
 ∀(pins:List (Addr×Obj)) (s:Ai) (σ:St) (H:Hp) (x y:V) (v u:Value) (Q:VK),Inv X pins σ H s->RelV x v->RelV y u->r x y H Q ->
  wpAny (model X.prog X.w) X.A (f v u) (EP X pins σ Q) X.xe s
def S5(X:Cx)(f:Value->Sem Value)(r:V->Hp->VK->Prop):Prop :=
 ∀(pins:List (Addr×Obj)) (s:Ai) (σ:St) (H:Hp) (x:V) (v:Value) (Q:VK),Inv X pins σ H s->RelV x v->r x H Q ->
  wpAny (model X.prog X.w) X.A (f v) (EP X pins σ Q) X.xe s
def Mj(X:Cx)(f:Value)(r:List V->Hp->VK->Prop):Prop :=
 ∀(pins:List (Addr×Obj)) (s:Ai) (σ:St) (H:Hp) (xs:List V) (us:List Value) (Q:VK),Inv X pins σ H s->Fi xs us->r xs H Q ->
  wpAny (model X.prog X.w) X.A (call f us) (EP X pins σ Q) X.xe s
def R4(X:Cx)(r:V->Hp->(Bool->Hp->Prop)->Prop):Prop :=
 ∀(pins:List (Addr×Obj)) (s:Ai) (σ:St) (H:Hp) (x:V) (v:Value) (Q:Bool->Hp->Prop),Inv X pins σ H s->RelV x v->r x H Q ->
  wpAny (model X.prog X.w) X.A (truthy v) (TP X pins σ Q) X.xe s
def P0(r:R2)(ta tb:TE):TE:=λσ H Q=>ta σ H λx H1=>tb σ H1 λy H2=>r x y H2 Q
def Y4(r:V->Hp->VK->Prop)(ta:TE):TE:=λσ H Q=>ta σ H λx H1=>r x H1 Q
def rI(C:Int->Int->Prop)(g:Int->Int->V):R2:=λx y H Q=>∃i j,x=.int i/\y=.int j/\C i j/\Q (g i j) H
def A5(g:Int->Int->V):R2:=λx y H Q=>∃i j,x=.int i/\y=.int j/\Q (g i j) H
def rU(g:Int->V):V->Hp->VK->Prop:=λx H Q=>∃i,x=.int i/\Q (g i) H
section
variable{X:Cx}{a b c:Expr}{ta tb tc:TE}{pos:Pos}
theorem v9(ha:PE X a ta)(hb:PE X b tb){pins:List (Addr×Obj)}{s:Ai}{σ:St}{H:Hp}{R:V->V->Hp->Prop}(I:Inv X pins σ H s)(h:ta σ H λx H1=>tb σ H1 λy H2=>R x y H2){Q:Value->Ai->Prop}{f:Value->Value->Sem Value}(hf:∀v u s2 x y H2,Inv X pins σ H2 s2->RelV x v->RelV y u->R x y H2->wpAny (model X.prog X.w) X.A (f v u) Q X.xe s2):wpAny (model X.prog X.w) X.A (eval a X.env) (λv s₁=>wpAny (model X.prog X.w) X.A (eval b X.env) (λu s₂=>wpAny (model X.prog X.w) X.A (f v u) Q X.xe s₂) X.xe s₁) X.xe s:=by
 refine Fs (ha pins s σ H _ I h) λv s1 q0_ => ?_
 obtain ⟨x,H1,I1,r1,q1⟩ := q0_
 refine Fs (hb pins s1 σ H1 _ I1 q1) λu s2 q0_ => ?_
 obtain ⟨y,H2,I2,r2,q2⟩ := q0_
 exact hf v u s2 x y H2 I2 r1 r2 q2
theorem Hg{op:Operator}{r:R2}(ho:Ur X (Jb op) r)(ha:PE X a ta)(hb:PE X b tb):PE X (.BinOp a op b pos) (P0 r ta tb):=by
 intro pins s σ H Q I h
 exact wpAny_BinOp (v9 ha hb I h λv u s2 x y H2 I2 rx ry q=>ho pins s2 σ H2 x y v u Q I2 rx ry q)
theorem N0{op:UnaryOp}{r:V->Hp->VK->Prop}(ho:S5 X (unaryOp op) r)(ha:PE X a ta):PE X (.UnaryOp op a pos) (Y4 r ta):=by
 intro pins s σ H Q I h
 exact UnaryOp_ (Fs (ha pins s σ H _ I h) λv s1 ⟨x,H1,I1,r1,q1⟩=>ho pins s1 σ H1 x v Q I1 r1 q1)
theorem I0{f:Value->Value->Sem Value}{C:Int->Int->Prop}{g:Int->Int->Int}(rule:∀(i j:Int) (t u:Tok) (s:Ai) (Q:Value->Ai->Prop) (E:Value->Ai->Prop),C i j->Q (.int (g i j) s.toks) { s with toks:=s.toks+1 }->wpAny (model X.prog X.w) X.A (f (.int i t) (.int j u)) Q E s):Ur X f (rI C λi j=>.int (g i j)):=by
 intro pins s σ H x y v u Q I rx ry h
 obtain ⟨i,j,rfl,rfl,hc,q⟩:=h
 obtain ⟨t,rfl⟩:=rx
 obtain ⟨t',rfl⟩:=ry
 exact rule i j t t' s _ _ hc ⟨.int (g i j),H,I.tok _,⟨_,rfl⟩,q⟩
theorem N8{f:Value->Value->Sem Value}{g:Int->Int->Int}(rule:∀(i j:Int) (t u:Tok) (s:Ai) (Q:Value->Ai->Prop) (E:Value->Ai->Prop),Q (.int (g i j) s.toks) { s with toks:=s.toks+1 }->wpAny (model X.prog X.w) X.A (f (.int i t) (.int j u)) Q E s):Ur X f (A5 λi j=>.int (g i j)):=by
 intro pins s σ H x y v u Q I rx ry h
 obtain ⟨i,j,rfl,rfl,q⟩:=h
 obtain ⟨t,rfl⟩:=rx
 obtain ⟨t',rfl⟩:=ry
 exact rule i j t t' s _ _ ⟨.int (g i j),H,I.tok _,⟨_,rfl⟩,q⟩
theorem F9{f:Value->Value->Sem Value}{g:Int->Int->Bool}(rule:∀(i j:Int) (t u:Tok) (s:Ai) (Q:Value->Ai->Prop) (E:Value->Ai->Prop),Q (.bool (g i j)) s->wpAny (model X.prog X.w) X.A (f (.int i t) (.int j u)) Q E s):Ur X f (A5 λi j=>.bl (g i j)):=by
 intro pins s σ H x y v u Q I rx ry h
 obtain ⟨i,j,rfl,rfl,q⟩:=h
 obtain ⟨t,rfl⟩:=rx
 obtain ⟨t',rfl⟩:=ry
 exact rule i j t t' s _ _ ⟨.bl (g i j),H,I,rfl,q⟩
def w5(i j:Int):Prop:=0<j/\j<1073741824
def uY(i j:Int):Prop:=0<=j/\j<=1000000/\i.natAbs<2 ^ 64
def O1(i j:Int):Prop:=(-(2 ^ 64)<i/\i<2 ^ 64)\/(-(2 ^ 64)<j/\j<2 ^ 64)
theorem O1.ok{i j:Int}(h:O1 i j):IntMulOk i j:=by
 rcases h with ⟨h1,h2⟩ | ⟨h1,h2⟩
 ·exact .of_left (intBits_le_64 h1 h2)
 ·exact .of_right (intBits_le_64 h1 h2)
theorem Rx:Ur X (Jb .Add) (A5 λi j=>.int (i+j)):=N8 λ_ _ _ _ _ _ _ q=>add_int q
theorem j6:Ur X (Jb .Sub) (A5 λi j=>.int (i - j)):=N8 λ_ _ _ _ _ _ _ q=>sub_int q
theorem Xq:Ur X (Jb .Mult) (rI O1 λi j=>.int (i * j)):=I0 λ_ _ _ _ _ _ _ hc q=>mul_int q hc.ok
theorem bP:Ur X (Jb .FloorDiv) (rI w5 λi j=>.int (i / j)):=I0 λi j _ _ _ _ _ hc q=>by
 have h1:(0:Int)<j:=hc.1
 have h2:j<1073741824:=hc.2
 exact floordiv_int (by omega) (by rw[Int.fdiv_eq_ediv_of_nonneg i (by omega)]; exact q) (.inl (PyProof.noPylong_small (by omega)))
theorem Ux:Ur X (Jb .Mod) (rI (λ_ j=>0<j) λi j=>.int (i % j)):=I0 λi j _ _ _ _ _ hc q=>by
 have h1:(0:Int)<j:=hc
 exact mod_int' (by omega) (by rw[Int.fmod_eq_emod_of_nonneg i (by omega)]; exact q)
theorem iO:Ur X (Jb .Pow) (rI uY λi j=>.int (i ^ j.toNat)):=I0 λ_ _ _ _ _ _ _ hc q=>pow_int_small hc.1 hc.2.1 hc.2.2 q
theorem u4:Ur X (Jb .LShift) (rI uY λi j=>.int (i * 2 ^ j.toNat)):=I0 λ_ _ _ _ _ _ _ hc q=>lshift_int_small hc.1 hc.2.1 hc.2.2 q
theorem X6{f:Value->Sem Value}{g:Int->Int}(rule:∀(i:Int) (t:Tok) (s:Ai) (Q:Value->Ai->Prop) (E:Value->Ai->Prop),Q (.int (g i) s.toks) { s with toks:=s.toks+1 }->wpAny (model X.prog X.w) X.A (f (.int i t)) Q E s):S5 X f (rU λi=>.int (g i)):=by
 intro pins s σ H x v Q I rx h
 obtain ⟨i,rfl,q⟩:=h
 obtain ⟨t,rfl⟩:=rx
 exact rule i t s _ _ ⟨.int (g i),H,I.tok _,⟨_,rfl⟩,q⟩
theorem n5:S5 X (unaryOp .USub) (rU λi=>.int (-i)):=X6 λ_ _ _ _ _ q=>neg_int q
end
section
variable{X:Cx}{a b c:Expr}{ta tb tc:TE}{pos:Pos}
theorem v7{pins:List (Addr×Obj)}{σ:St}{H:Hp}{s:Ai}{Q:VK}{k k':Bool}(I:Inv X pins σ H s)(q:Q (.bl k) H)(e:k=k'):EP X pins σ Q (.bool k') s:=by
 subst e
 exact ⟨.bl k,H,I,rfl,q⟩
theorem L5:Ur X (Hk .Lt) (A5 λi j=>.bl (decide (i<j))):=F9 λ_ _ _ _ _ _ _ q=>lt_int q
theorem zB:Ur X (Hk .GtE) (A5 λi j=>.bl (decide (j<=i))):=F9 λ_ _ _ _ _ _ _ q=>ge_int q
theorem Rq(b:Expr){op:CmpOp}(h:op≠.In:=by decide)(h2:op≠.NotIn:=by decide):Ft op b=false:=by
 have e1:(op == CmpOp.In)=false:=by cases op <;> first | rfl | exact absurd rfl h
 have e2:(op == CmpOp.NotIn)=false:=by cases op <;> first | rfl | exact absurd rfl h2
 cases b <;> simp [Ft,e1,e2]
theorem jW{op:CmpOp}{r:R2}(ho:Ur X (Hk op) r)(ha:PE X a ta)(hb:PE X b tb)(hm:Ft op b=false):PE X (.Compare a [op] [b] pos) (P0 r ta tb):=by
 intro pins s σ H Q I h
 exact wpAny_Compare1 (v9 ha hb I h λv u s2 x y H2 I2 rx ry q=>ho pins s2 σ H2 x y v u Q I2 rx ry q) hm
def E8(t:TE):TT:=λσ H Q=>t σ H λx H'=>∃k,x=.bl k/\Q k H'
theorem wO{op:CmpOp}{r:R2}(ho:Ur X (Hk op) r)(ha:PE X a ta)(hb:PE X b tb)(hm:Ft op b=false):PT X (.Compare a [op] [b] pos) (E8 (P0 r ta tb)):=by
 intro pins s σ H Q I h
 refine wpAny_isTrue_Compare1 (Fs (ha pins s σ H _ I h) λv s1 ⟨x,H1,I1,r1,q1⟩=>Fs (hb pins s1 σ H1 _ I1 q1) λu s2 ⟨y,H2,I2,r2,q2⟩ =>
  Fs (ho pins s2 σ H2 x y v u _ I2 r1 r2 q2) λc s3 ⟨z,H3,I3,r3,k,e,q3⟩=>?_) hm
 subst e
 cases r3
 exact Gf ⟨H3,I3,q3⟩
def wA(K:PySem.W.Frag)(x:V)(H:Hp)(k:Bool):Prop :=
 match x with
 | .non=>k=false
 | .bl b=>k=b
 | .int i=>k=(i != 0)
 | .str y=>y.length<=Av/\k=((y.length:Int) != 0)
 | .byt y=>y.size<=Av/\k=((y.size:Int) != 0)
 | .ref p=>(∃xs,Ox K H p xs/\k = !xs.isEmpty)\/(∃xs,Ri K H p xs/\k = !xs.isEmpty)\/∃kvs,H p=some (.dK kvs)/\k = !kvs.isEmpty
 | _=>False
theorem hW{κ:Type}{kvs:List (κ×V)}{vs:List (κ×Value)}(r:KV kvs vs):(!vs.isEmpty) = !kvs.isEmpty:=by
 cases r <;> rfl
theorem Ye{xs:List V}{its:List Value}(r:Fi xs its):(!its.toArray.isEmpty) = !xs.isEmpty:=by
 cases r <;> simp
theorem Rj:(Av:Nat)<2 ^ 63:=by rw[Kv]; decide
theorem r9:R4 X (λx H Q=>∃k,wA X.K x H k/\Q k H):=by
 intro pins s σ H x v Q I rx h
 obtain ⟨k,e,q⟩:=h
 have hl:=Rj
 have hs:Av=16777216:=Kv
 cases x with
 | non =>
  cases rx
  have e':k=false:=e
  subst e'
  exact truthy_none ⟨H,I,q⟩
 | bl b =>
  cases rx
  have e':k=b:=e
  subst e'
  exact Gf ⟨H,I,q⟩
 | int i =>
  obtain ⟨t,rfl⟩:=rx
  have e':k=(i != 0):=e
  subst e'
  exact PySem.P.truthy_int ⟨H,I,q⟩
 | str y =>
  obtain ⟨t,rfl⟩:=rx
  obtain ⟨hy,e'⟩ : y.length<=Av/\k=((y.length:Int) != 0):=e
  subst e'
  exact PySem.P.truthy_str (by omega) ⟨H,I.tok _,q⟩
 | byt y =>
  obtain ⟨t,rfl⟩:=rx
  obtain ⟨hy,e'⟩ : y.size<=Av/\k=((y.size:Int) != 0):=e
  subst e'
  exact PySem.W.truthy_bytes (by omega) ⟨H,I.tok _,q⟩
 | ref p =>
  cases rx
  have e':(∃xs,Ox X.K H p xs/\k = !xs.isEmpty)\/(∃xs,Ri X.K H p xs/\k = !xs.isEmpty)\/∃kvs,H p=some (.dK kvs)/\k = !kvs.isEmpty:=e
  rcases e' with ⟨xs,hx,e'⟩ | ⟨xs,hx,e'⟩ | ⟨kvs,hx,e'⟩
  ·subst e'
   obtain ⟨its,r,pl,hz⟩:=I.list hx
   have hlen:=r.length
   exact wpAny_truthy_list pl.isList (by simp only[Ap]; omega) ⟨H,I.tok _,by rw[Ye r]; exact q⟩
  ·subst e'
   obtain ⟨its,r,pl,hz⟩:=I.tuple hx
   have hlen:=r.length
   exact truthy_tuple pl (by simp only[Ap]; omega) ⟨H,I.tok _,by rw[Ye r]; exact q⟩
  ·subst e'
   obtain ⟨hz,hS,vs,r,m⟩ : kvs.length<=Av/\(p == sysModules)=false/\∃vs,KV kvs vs/\s.heap.DictOf (bD X.prog X.w) p vs:=I.hok p _ hx
   have hlen:kvs.length=vs.length:=Paired.length r
   exact wpAny_truthy_dict hS m (by omega) ⟨H,I.tok _,by rw[hW r]; exact q⟩
 | _=>exact (show False from e).elim
theorem uF(ha:PE X a ta)(he:∀whole,isTrue a X.env whole=(do let v <- whole; Pt a.pos; Px [v] (truthy v))) :
  PT X a (λσ H Q=>ta σ H λx H'=>∃k,wA X.K x H' k/\Q k H'):=by
 intro pins s σ H Q I h
 exact isTrue_plain (Fs (ha pins s σ H _ I h) λv s1 ⟨x,H1,I1,r1,q1⟩=>r9 pins s1 σ H1 x v Q I1 r1 q1) (he _)
theorem vals1{x:V}{us:List Value}(r:Fi [x] us):∃u,us=[u]/\RelV x u:=by
 cases r with
 | cons r1 r2=>cases r2; exact ⟨_,rfl,r1⟩
theorem vals2{x y:V}{us:List Value}(r:Fi [x,y] us):∃u w',us=[u,w']/\RelV x u/\RelV y w':=by
 cases r with
 | cons r1 r2 =>
  cases r2 with
  | cons r3 r4=>cases r4; exact ⟨_,_,rfl,r1,r3⟩
theorem oB(hc:X.calm=true):Mj X (.builtin "min") (λxs H Q=>∃i j,xs=[.int i,.int j]/\Q (.int (if j<i then j else i)) H):=by
 intro pins s σ H xs us Q I r h
 obtain ⟨i,j,rfl,q⟩:=h
 obtain ⟨u,w',rfl,⟨t,rfl⟩,⟨t',rfl⟩⟩:=vals2 r
 refine min_two_ints (I.ok.hd hc) λh' tk k=>⟨_,H,I.kept k,?_,q⟩
 by_cases hj:j<i
 ·rw[if_pos hj,if_pos hj]; exact ⟨_,rfl⟩
 ·rw[if_neg hj,if_neg hj]; exact ⟨_,rfl⟩
def G4(K:PySem.W.Frag)(x:V)(H:Hp)(n:Nat):Prop :=
 match x with
 | .str y=>y.length<=Av/\n=y.length
 | .byt y=>y.size<=Av/\n=y.size
 | .ref p=>(∃xs,Ox K H p xs/\n=xs.length)\/∃xs,Ri K H p xs/\n=xs.length
 | _=>False
theorem Ji:Mj X (.builtin "len") (λxs H Q=>∃x n,xs=[x]/\G4 X.K x H n/\Q (.int n) H):=by
 intro pins s σ H xs us Q I r h
 obtain ⟨x,n,rfl,e,q⟩:=h
 obtain ⟨u,rfl,rx⟩:=vals1 r
 have hl:=Rj
 have hs:Av=16777216:=Kv
 cases x with
 | str y =>
  obtain ⟨t,rfl⟩:=rx
  obtain ⟨hy,e'⟩ : y.length<=Av/\n=y.length:=e
  subst e'
  exact len_str (by omega) ⟨.int _,H,I.tok _,⟨_,rfl⟩,q⟩
 | byt y =>
  obtain ⟨t,rfl⟩:=rx
  obtain ⟨hy,e'⟩ : y.size<=Av/\n=y.size:=e
  subst e'
  exact PySem.W.len_bytes (by omega) ⟨.int _,H,I.tok _,⟨_,rfl⟩,q⟩
 | ref p =>
  cases rx
  have e':(∃xs,Ox X.K H p xs/\n=xs.length)\/∃xs,Ri X.K H p xs/\n=xs.length:=e
  rcases e' with ⟨xs,hx,e'⟩ | ⟨xs,hx,e'⟩
  ·subst e'
   obtain ⟨its,r',pl,hz⟩:=I.list hx
   have hlen:=r'.length
   exact Calls.call_len_list pl.isList (by simp only[Ap]; omega) ⟨.int xs.length,H,I.tok _,⟨_,by simp only[Ap]; rw[hlen]⟩,q⟩
  ·subst e'
   obtain ⟨its,r',pl,hz⟩:=I.tuple hx
   have hlen:=r'.length
   exact len_tuple pl (by simp only[Ap]; omega) ⟨.int xs.length,H,I.tok _,⟨_,by simp only[Ap]; rw[hlen]⟩,q⟩
 | _=>exact (show False from e).elim
end
structure ObjM(h:Heap)(x dx C:Addr)(mA:Str->Option Value):Prop where
 obj:h.get? x=some (PySem.W.instObj C dx)
 ns:h.Ns1 dx mA
 ne:dx≠x
theorem nS{h:Heap}{dx:Addr}{mA:Str->Option Value}(n:h.Ns1 dx mA):∃od,h.get? dx=some od/\∀name,PySem.W.lookIn name od=some (mA name):=by
 obtain ⟨o,es,ep,ho,hd,hk,_,hm⟩:=n
 refine ⟨o,ho,λname=>?_⟩
 have e:=hm name
 unfold nsFind findBy at e
 rw[<- Array.find?_toList] at e
 unfold PySem.W.lookIn
 rw[hd]
 dsimp only
 split
 ·rename_i y q
  rw[q] at e
  exact congrArg some e
 ·rename_i q
  rw[q] at e
  have a:es.toList.any (·.refKey)=false:=by
   rw[List.any_eq_false]
   intro y hy
   obtain ⟨z,t,hkey⟩:=hk y (Array.mem_toList_iff.mp hy)
   simp [DictEntry.refKey,hkey]
  have a':¬ es.toList.any (·.refKey)=true:=by rw[a]; exact Bx
  rw[if_neg a']
  exact congrArg some e
theorem ObjM.look{h:Heap}{x dx C:Addr}{mA:Str->Option Value}(I:ObjM h x dx C mA):∃od,PySem.W.InstAt h x (PySem.W.instObj C dx) C (some od)/\∀name,PySem.W.lookIn name od=some (mA name) :=
 let ⟨od,ho,hl⟩:=nS I.ns
 ⟨od,⟨I.obj,rfl,rfl,ho⟩,hl⟩
section
variable{P:Bm}{w:World}{H H':Hp}{h h':Heap}{a C dx:Addr}{fs fs':List (Str×V)}
theorem xA(hok:Za P w H h)(e:H a=some (.ins C dx fs)):∃mA,ObjM h a dx C mA/\(∀f,i7 (fs.lookup f) (mA f))/\PySem.Within mA (fs.map (·.1))/\fs.length<=1000/\H dx=some (.own a):=by
 obtain ⟨d,z,ne,ob,mA,n,r,q⟩:=(show Kh P w H h a (.ins C dx fs) from hok a _ e)
 exact ⟨mA,⟨ob,n,ne⟩,r,q,z,d⟩
end
structure Cls(K:PySem.W.Frag)(C:Addr):Prop where
 pg:PySem.W.plainGet K C Str.empty=true
 hd:PySem.W.hasDictIn K C=true
 po:PySem.W.plainOver K C=true
 sa:PySem.W.findIn K (.ref C) "__setattr__" = some (some (.builtin "object.__setattr__"))
theorem Cls.get{K:PySem.W.Frag}{C:Addr}(c:Cls K C)(f:Str):PySem.W.plainGet K C f=true:=c.pg
section
variable{X:Cx}{pins:List (Addr×Obj)}{σ:St}{H:Hp}{s:Ai}{A:Cr}{E:Value->Ai->Prop}{Q:Value->Ai->Prop}{c:Value}{b:Bool}
inductive TyOf (K:PySem.W.Frag) (H:Hp):V->Value->Prop where
 | non:TyOf K H .non (.type "NoneType")
 | bl (x:Bool):TyOf K H (.bl x) (.type "bool")
 | int (i:Int):TyOf K H (.int i) (.type "int")
 | str (x:Str):TyOf K H (.str x) (.type "str")
 | flt (x:UInt64):TyOf K H (.flt x) (.type "float")
 | lst {a:Addr} {xs:List V} (e:H a=some (.lst xs)):TyOf K H (.ref a) (.type "list")
 | frz {a:Addr} {o:Obj} {xs:List V} (e:H a=some (.frz o (.lst xs))):TyOf K H (.ref a) (.type "list")
 | tup {a:Addr} {xs:List V} (e:H a=some (.tup xs)):TyOf K H (.ref a) (.type "tuple")
 | dK {a:Addr} {kvs:List (Wt×V)} (e:H a=some (.dK kvs)):TyOf K H (.ref a) (.type "dict")
 | dT {a:Addr} {kvs:List (List Wt×V)} (e:H a=some (.dT kvs)):TyOf K H (.ref a) (.type "dict")
 | ins {a C dx:Addr} {fs:List (Str×V)} (e:H a=some (.ins C dx fs)) (cl:Cls K C) (ha:PySem.W.findIn K (.ref C) "__class__" = some (some (.builtin "object.__class__")))
   (hn:PySem.W.specialIn K (.builtin "object.__class__") "__get__" = some (some (.builtin "getset_descriptor.__get__"))) (htk:PySem.W.takesIn K (.builtin "object.__class__")=some true)
   (hm:PySem.W.mroIn K C (.type "object")=some true):TyOf K H (.ref a) (.ref C)
theorem oJ{x:V}{u t:Value}(I:Inv X pins σ H s)(rx:RelV x u)(ty:TyOf X.K H x t)(e:PySem.W.kitOne X.K t c=some b)(h:∀tk,Q (.bool b) { s with toks:=tk }):wpAny (model X.prog X.w) A (call (.builtin "isinstance") [u,c]) Q E s:=by
 cases ty with
 | non=>cases (show u=Ub from rx); exact PySem.W.kia_one PySem.W.kitx_none I.kIn Vd e (λz=>nomatch z) h
 | bl y=>cases (show u=Value.bool y from rx); exact PySem.W.kia_one PySem.W.kitx_bool I.kIn Vd e (λz=>nomatch z) h
 | int i=>obtain ⟨t,q⟩:=(show ∃t,u=Sa i t from rx); cases q; exact PySem.W.kia_one PySem.W.kitx_int I.kIn Vd e (λz=>nomatch z) h
 | str y=>obtain ⟨t,q⟩:=(show ∃t,u=Value.str y t from rx); cases q; exact PySem.W.kia_one PySem.W.kitx_str I.kIn Vd e (λz=>nomatch z) h
 | flt y=>obtain ⟨t,q⟩:=(show ∃t,u=Value.float y t from rx); cases q; exact PySem.W.kia_one PySem.W.kitx_float I.kIn Vd e (λz=>nomatch z) h
 | @lst a xs ea =>
  cases (show u=Ak a from rx)
  obtain ⟨_,_,n,_,h1⟩:=(show Kh X.prog X.w H s.heap a (.lst xs) from I.hok a _ ea)
  exact PySem.W.kia_one PySem.W.kitx_list I.kIn ⟨_,h1,rfl⟩ e (λz=>nomatch z) h
 | @frz a ob xs ea =>
  cases (show u=Ak a from rx)
  obtain ⟨_,_,_,n,_,h1⟩:=(show Kh X.prog X.w H s.heap a (.frz ob (.lst xs)) from I.hok a _ ea)
  exact PySem.W.kia_one PySem.W.kitx_list I.kIn ⟨_,h1,rfl⟩ e (λz=>nomatch z) h
 | @tup a xs ea =>
  cases (show u=Ak a from rx)
  obtain ⟨_,_,_,p⟩:=(show Kh X.prog X.w H s.heap a (.tup xs) from I.hok a _ ea)
  obtain ⟨o,h1,h2,_⟩:=p
  exact PySem.W.kia_one PySem.W.kitx_tuple I.kIn ⟨o,h1,h2⟩ e (λz=>nomatch z) h
 | @dK a kvs ea =>
  cases (show u=Ak a from rx)
  obtain ⟨_,_,vs,_,p⟩:=(show Kh X.prog X.w H s.heap a (.dK kvs) from I.hok a _ ea)
  obtain ⟨o,es,ep,h1,h2,_⟩:=p
  exact PySem.W.kia_one PySem.W.kitx_dict I.kIn ⟨o,h1,h2.1⟩ e (λz=>nomatch z) h
 | @dT a kvs ea =>
  cases (show u=Ak a from rx)
  obtain ⟨_,_,xs,_,o,es,ep,h1,h2,_⟩:=(show Kh X.prog X.w H s.heap a (.dT kvs) from I.hok a _ ea)
  exact PySem.W.kia_one PySem.W.kitx_dict I.kIn ⟨o,h1,h2.1⟩ e (λz=>nomatch z) h
 | @ins a C dx fs ea cl ha hn htk hm =>
  cases (show u=Ak a from rx)
  obtain ⟨mA,O,_⟩:=xA I.hok ea
  obtain ⟨od,J,_⟩:=O.look
  exact PySem.W.kia_one (PySem.W.kitx_own (cl.get _) cl.hd ha hn htk hm) I.kIn J e (λz=>nomatch z) h
end
structure Room(k:Nat)(A:Cr):Prop where
 hd:A.handled=none
 dp:A.depth+3 * k+5<recursionLimit
 un:A.units+16 * k+200<cLine
 gd:A.guards=some []
theorem Room.mono{j k:Nat}{A:Cr}(r:Room k A)(h:j<=k):Room j A:=⟨r.hd,by have:=r.dp; omega,by have:=r.un; omega,r.gd⟩
theorem Room.deeper{k:Nat}{A:Cr}(r:Room (k+1) A)(env:Env):Room k (A.deeper env) :=
 ⟨r.hd,by have:=r.dp; show A.depth+1+3 * k+5<_; omega,by have:=r.un; show A.units+3+16 * k+200<_; omega,r.gd⟩
theorem Room.depth{k:Nat}{A:Cr}(r:Room k A):A.depth<recursionLimit:=by have:=r.dp; omega
theorem Room.units{k:Nat}{A:Cr}(r:Room k A):A.units+64<cLine:=by have:=r.un; omega
def mZ:TA:=λ_ H Q=>Q [] H
def fT(ta:TE)(tr:TA):TA:=λσ H Q=>ta σ H λx H1=>tr σ H1 λxs H2=>Q (x::xs) H2
section
variable{X:Cx}{e:Expr}{es:List Expr}{te:TE}{t:TA}{pos:Pos}
theorem Gv:PA X [] mZ:=λ_ _ _ _ H Q I h=>Calls.spliced_nil ⟨[],H,I,.nil,h⟩
theorem Ez(ha:PE X e te)(hr:PA X es t)(hs:Bs (e::es) X.env=(false,eval e X.env)::Bs es X.env:=by rfl):PA X (e::es) (fT te t):=by
 intro pos pins s σ H Q I h
 rw[hs]
 show wpAny _ _ (spliced ((false,eval e X.env)::Io pos (Bs es X.env))) _ _ s
 refine Calls.spliced_cons (Fs (ha pins s σ H _ I h) λu s1 q0_ => ?_)
 obtain ⟨x,H1,I1,r1,q1⟩ := q0_
 exact Fs (hr pos pins s1 σ H1 _ I1 q1) λus s2 ⟨xs,H2,I2,r2,q2⟩=>⟨x::xs,H2,I2,.cons r1 r2,q2⟩
def U8(t:TA):TE:=λσ H Q=>t σ H λxs H1=>xs.length<=Av/\∀p,H1 p=none->Q (.ref p) (upd H1 p (.tup xs))
def V3(t:TA):TE:=λσ H Q=>t σ H λxs H1=>xs.length<=Av/\∀p,H1 p=none->Q (.ref p) (upd H1 p (.lst xs))
theorem iK{x1}(h:PA X es t):PE X (.Tuple es x1 pos) (U8 t):=by
 intro pins s σ H Q I hq
 refine wpAny_Tuple_spliced (Fs (h pos pins s σ H _ I hq) λus s1 ⟨xs,H1,I1,r,z,q⟩=>⟨by rw[<- r.length]; exact z,?_⟩)
 have hf:H1 s1.heap.objs.size=none:=I1.hok.fresh (Ah _)
 refine ⟨.ref s1.heap.objs.size,upd H1 s1.heap.objs.size (.tup xs),I1.laid (t':=s1.toks) (λb u e=>Al _ e) (Ah _) ?_,rfl,q _ hf⟩
 exact ⟨z,us,r,⟨_,Bu _ rfl,rfl,_,rfl⟩⟩
theorem Ru(h:PA X es t):PE X (.List es pos) (V3 t):=by
 intro pins s σ H Q I hq
 refine wpAny_List_spliced (Fs (h pos pins s σ H _ I hq) λus s1 ⟨xs,H1,I1,r,z,q⟩=>⟨by rw[<- r.length]; exact z,?_⟩)
 have hf:H1 s1.heap.objs.size=none:=I1.hok.fresh (Ah _)
 refine ⟨.ref s1.heap.objs.size,upd H1 s1.heap.objs.size (.lst xs),I1.laid (t':=s1.toks) (λb u e=>Al _ e) (Ah _) ?_,rfl,q _ hf⟩
 exact ⟨z,us,0,r,Bu _ rfl⟩
end
abbrev Sp:=List V->Hp->VK->XK->Prop
abbrev gZ:=List Env->Hp->Ai->XK->Value->Ai->Prop
structure Env0(P:Bm)(w:World)(K:PySem.W.Frag)(mg:Str->Option Value)(base:Heap)(A:Cr)(outer:List Env)(s:Ai)(H:Hp):Prop where
 frames:A.frames=some outer
 mod:Mod K mg base
 bs:∀b o,base.get? b=some o->s.heap.get? b=some o/\H b=none
 bsz:base.objs.size<=s.heap.objs.size
 funs:s.heap.FunFrames base outer
 frf:∀b∈nK outer,H b=none
 hok:Za P w H s.heap
 bare:Qa s.gens
 tab:oY K mg base H
def CE(outer:List Env)(P:Bm)(w:World)(H:Hp)(s:Ai)(Q:VK)(u:Value)(s':Ai):Prop :=
 ∃v H',s'.os=s.os/\Qa s'.gens/\Un (nK outer) [] H H' s.heap s'.heap/\Za P w H' s'.heap/\RelV v u/\Q v H'
def CR(CX:gZ)(outer:List Env)(P:Bm)(w:World)(H:Hp)(s:Ai)(Q:VK)(E:XK)(r:Result)(s':Ai):Prop :=
 match r with
 | .ok (.ret u)=>CE outer P w H s Q u s'
 | .ok _=>False
 | .error e=>CX outer H s E e s'
structure FnOk(P:Bm)(w:World)(K:PySem.W.Frag)(mg:Str->Option Value)(base:Heap)(CX:gZ)(k:Nat)(f:Addr)(fd:Cg)(ps:List Str)(sp:Sp):Prop where
 len:∀vs H Q E,sp vs H Q E->vs.length=ps.length
 run:∀(A:Cr) (outer:List Env) (s:Ai) (H:Hp) (args:Args) (us:List Value) (vs:List V) (Q:VK) (E:XK),Room k A->Env0 P w K mg base A outer s H->BindsTo s fd args (ps.zip us)->Fi vs us->sp vs H Q E ->
  Hl (model P w) A (.call (.ref f) args) (CR CX outer P w H s Q E) s
theorem FnOk.imp{P:Bm}{w:World}{K:PySem.W.Frag}{mg:Str->Option Value}{base:Heap}{CX:gZ}{k:Nat}{f:Addr}{fd:Cg}{ps:List Str}{sp sp':Sp}(F:FnOk P w K mg base CX k f fd ps sp)(h:∀vs H Q E,sp' vs H Q E->sp vs H Q E):FnOk P w K mg base CX k f fd ps sp' :=
 ⟨λvs H Q E q=>F.len vs H Q E (h _ _ _ _ q),λA outer s H args us vs Q E hr he hb hv hs=>F.run A outer s H args us vs Q E hr he hb hv (h _ _ _ _ hs)⟩
section
variable{X:Cx}{pins:List (Addr×Obj)}{σ:St}{H:Hp}{s s':Ai}
theorem Inv.env0(I:Inv X pins σ H s):Env0 X.prog X.w X.K X.mg X.base X.A X.stack s H :=
 ⟨I.ok.frames,I.ok.mod,I.bs,Bv I.ok.bsz I.sz,I.stack,I.stkFree,I.hok,I.bare,I.ok.tab.un I.base⟩
theorem Inv.after{Q:VK}{u:Value}(I:Inv X pins σ H s)(h:CE X.stack X.prog X.w H s Q u s'):EP X pins σ Q u s':=by
 obtain ⟨v,H',os,bare,un,hok,r,q⟩:=h
 obtain ⟨hh,g,d,t,os'⟩:=s'
 obtain rfl:os'=s.os:=os
 exact ⟨v,H',I.call (h':=hh) (g':=g) (d':=d) (t':=t) (ch:=[]) un hok bare (λb z=>absurd z (by simp)),r,q⟩
end
def lH(sp:Sp)(dvs:List V)(E:XK)(t:TA):TE:=λσ H Q=>t σ H λvs H1=>sp (vs++dvs) H1 Q E
def Binds(K:PySem.W.Frag)(fd:Cg)(ps:List Str)(ds:List Value):Prop :=
 ∀(s:Ai) (us:List Value),K.In s.heap->(us++ds).length=ps.length->BindsTo s fd ⟨us,[]⟩ (ps.zip (us++ds))
theorem Binds.all{K:PySem.W.Frag}{fd:Cg}{ps:List Str}(h:∀us:List Value,us.length=ps.length->bindArgs fd ⟨us,[]⟩=pure (ps.zip us)):Binds K fd ps []:=λs us _ hl=>by
 rw[Ec] at hl ⊢
 exact .of_eq (h us hl)
def Om(CX:gZ)(X:Cx)(E:XK):Prop:=∀(pins:List (Addr×Obj)) (σ:St) (H:Hp) (s:Ai) (e:Value) (s':Ai),Inv X pins σ H s->CX X.stack H s E e s'->X.xe e s'
section
variable{X:Cx}{CX:gZ}{k:Nat}{f C:Addr}{fd:Cg}{ps:List Str}{sp:Sp}{dvs:List V}{ds:List Value}{E:XK}{x m:Str}{p pos apos:Pos}{e o:Expr}{es:List Expr}{ta:TE}{t:TA}
theorem uK{pins:List (Addr×Obj)}{σ:St}{H:Hp}{s:Ai}{Q:VK}{us:List Value}{vs:List V}(F:FnOk X.prog X.w X.K X.mg X.base CX k f fd ps sp)(hr:Room k X.A)(hb:Binds X.K fd ps ds)(hd:Fi dvs ds)(hx:Om CX X E)(I:Inv X pins σ H s)(r:Fi vs us)(h:sp (vs++dvs) H Q E):wpAny (model X.prog X.w) X.A (call (.ref f) us) (EP X pins σ Q) X.xe s:=by
 have r2:Fi (vs++dvs) (us++ds):=r.append hd
 have hl:(us++ds).length=ps.length:=by rw[<- r2.length]; exact F.len _ _ _ _ h
 refine wpAny_call (Nv (F.run X.A X.stack s H ⟨us,[]⟩ (us++ds) (vs++dvs) Q E hr I.env0 (hb s us I.kIn hl) r2 h) λr s' hq=>?_)
 cases r with
 | error e=>exact hx pins σ H s e s' I hq
 | ok fl =>
  cases fl with
  | ret u=>exact I.after hq
  | next=>exact Jd hq
  | brk=>exact Jd hq
  | cont=>exact Jd hq
theorem To(F:FnOk X.prog X.w X.K X.mg X.base CX k f fd ps sp)(hr:Room k X.A)(hg:Gl X x)(hm:X.mg x=some (.ref f))(hk:PySem.W.keepIn X.K (.ref f)=true)(hb:Binds X.K fd ps ds)(hd:Fi dvs ds)(hx:Om CX X E)(ha:PA X (e::es) t)(hdb:(x == ("__debug__" : Str))=false:=by decide)(he:Bs (e::es) X.env=(false,eval e X.env)::Bs es X.env:=by rfl)(hpl:(Io pos (Bs es X.env)).any (·.1)=false:=by rfl):PE X (.Call (.Name x p) (e::es) [] pos) (lH sp dvs E t):=by
 intro pins s σ H Q I h
 refine Ov (lT I hg hm ?_ hdb)
 refine PySem.W.callWith_K (h₀:=X.base) I.ok.mod.kin hk (Fs (ha pos pins s σ H _ I h) λus s1 ⟨vs,H1,I1,r,q⟩=>⟨I1.kIn,?_⟩) he hpl
 exact uK F hr hb hd hx I1 r q
theorem sR(F:FnOk X.prog X.w X.K X.mg X.base CX k f fd ps sp)(hr:Room k X.A)(hg:Gl X x)(hm:X.mg x=some (.ref f))(hk:PySem.W.keepIn X.K (.ref f)=true)(hb:Binds X.K fd ps ds)(hd:Fi dvs ds)(hx:Om CX X E)(hdb:(x == ("__debug__" : Str))=false:=by decide):PE X (.Call (.Name x p) [] [] pos) (lH sp dvs E mZ):=by
 intro pins s σ H Q I h
 refine Ov (lT I hg hm ?_ hdb)
 exact PySem.W.callWith_K0 I.kIn hk (uK (us:=[]) F hr hb hd hx I .nil h)
end
structure FnScope(N P:List Str)(sc:Scope):Prop where
 kind:sc.kind=.function
 co:sc.isCoroutine=false
 gen:sc.isGenerator=false
 nd:N.Nodup
 pre:N.take P.length=P
 par:∀x∈P,sc.names.lookup x=some .local\/sc.names.lookup x=some .cell
 nofree:∀y∈sc.names,y.2≠.free
theorem aA{kindOf:Str->Option Mt}{x:Str}:∀{binds:List (Str×Value)} {m:Str->Option Value},(∀v,(x,v)∉binds)->bindL kindOf binds m x=m x
 | [],_,_=>rfl
 | (n,v)::r,m,h=>by
  unfold bindL
  rw[aA λw hw=>h w (Ae _ hw)]
  split
  ·have : x≠n:=by rintro rfl; exact h v Aa
   simp [this]
  ·rfl
theorem aF{kindOf:Str->Option Mt}{x:Str}:∀{binds:List (Str×Value)} {m:Str->Option Value},(∀v,(x,v)∉binds)->bindC kindOf binds m x=m x
 | [],_,_=>rfl
 | (n,v)::r,m,h=>by
  unfold bindC
  rw[aF λw hw=>h w (Ae _ hw)]
  split
  ·rfl
  ·have : x≠n:=by rintro rfl; exact h v Aa
   simp [this]
theorem aC{kindOf:Str->Option Mt}{x:Str}{v:Value}:∀{P:List Str} {vs:List Value} {i:Nat} {m:Str->Option Value},P.Nodup->P[i]? = some x->vs[i]? = some v->kindOf x=some .local->bindL kindOf (P.zip vs) m x=some v
 | [],_,_,_,_,h,_,_=>by simp at h
 | _::_,[],_,_,_,_,h,_=>by simp at h
 | p::P,w::vs,0,m,nd,h1,h2,hk=>by
  simp at h1 h2; subst h1; subst h2
  show bindL kindOf ((p,w)::P.zip vs) m p=_
  unfold bindL
  rw[aA λv hv=>(Bo.mp nd).1 (List.of_mem_zip hv).1,if_pos hk]
  simp
 | p::P,w::vs,i+1,m,nd,h1,h2,hk=>by
  show bindL kindOf ((p,w)::P.zip vs) m x=_
  unfold bindL
  exact aC (i:=i) (Bo.mp nd).2 (by simpa using h1) (by simpa using h2) hk
theorem Zs{kindOf:Str->Option Mt}{x:Str}{v:Value}:∀{P:List Str} {vs:List Value} {i:Nat} {m:Str->Option Value},P.Nodup->P[i]? = some x->vs[i]? = some v->kindOf x≠some .local->bindC kindOf (P.zip vs) m x=some v
 | [],_,_,_,_,h,_,_=>by simp at h
 | _::_,[],_,_,_,_,h,_=>by simp at h
 | p::P,w::vs,0,m,nd,h1,h2,hk=>by
  simp at h1 h2; subst h1; subst h2
  show bindC kindOf ((p,w)::P.zip vs) m p=_
  unfold bindC
  rw[aF λv hv=>(Bo.mp nd).1 (List.of_mem_zip hv).1,if_neg hk]
  simp
 | p::P,w::vs,i+1,m,nd,h1,h2,hk=>by
  show bindC kindOf ((p,w)::P.zip vs) m x=_
  unfold bindC
  exact Zs (i:=i) (Bo.mp nd).2 (by simpa using h1) (by simpa using h2) hk
def start(N:List Str)(vs:List V):St:=vs.map some++Ho (N.length - vs.length) none
def Qr(CX:gZ)(P:Bm)(w:World)(K:PySem.W.Frag)(mg:Str->Option Value)(base:Heap)(N:List Str)(qual:Str)(scope:Scope)(f:Addr)(cd:Value)(A:Cr)(outer:List Env)(s:Ai)(H:Hp)(E:XK):Cx where
 prog:=P
 w:=w
 K:=K
 mg:=mg
 base:=base
 A:=A.deeper (envOfC qual scope s.heap.objs.size f cd)
 N:=N
 s₀:=s
 H₀:=H
 env:=envOfC qual scope s.heap.objs.size f cd
 outer:=outer
 stack:=envOfC qual scope s.heap.objs.size f cd::outer
 ex:=[]
 calm:=true
 fn:=λ_=>true
 pn:=[]
 xe:=λe s'=>wpAny (model P w) (A.deeper (envOfC qual scope s.heap.objs.size f cd)) (leaving (envOfC qual scope s.heap.objs.size f cd) e) (λ_ s''=>CX outer H s E e s'') (λe' s''=>CX outer H s E e' s'') s'
theorem fK{sc:Scope}{n:Nat}{x:Str}(h:sc.names.lookup x=some .cell):∃c,(Eb n sc.names []).lookup x=some c:=by
 have q:=PySem.W.cellsFrom_some sc.names n [] (.inl h)
 exact Nq.mp q
theorem oK{CX:gZ}{P:Bm}{w:World}{K:PySem.W.Frag}{mg:Str->Option Value}{base:Heap}{N ps:List Str}{qual:Str}{scope:Scope}{f:Addr}{cd:Value}{A:Cr}{outer:List Env}{s s1:Ai}{H:Hp}{E:XK}{us:List Value}{vs:List V}(S:FnScope N ps scope)(hd:A.handled=none)(e0:Env0 P w K mg base A outer s H)(hl:vs.length=ps.length)(r:Fi vs us)(x:InCallC s s.heap.objs.size (bindL (envOfC qual scope s.heap.objs.size f cd).kindOf (ps.zip us) λ_=>none) (Eb (s.heap.objs.size+1) scope.names []) (bindC (envOfC qual scope s.heap.objs.size f cd).kindOf (ps.zip us) λ_=>none) s1):Inv (Qr CX P w K mg base N qual scope f cd A outer s H E) [] (start N vs) H s1:=by
 have hpl:ps.length<=N.length:=by have:=congrArg Hb S.pre; rw[Do] at this; omega
 obtain ⟨h1,tk,rfl,hk⟩:=x.done
 have noA:∀b:Addr,b∉(Qr CX P w K mg base N qual scope f cd A outer s H E).ex:=λb z=>absurd (show b∈([]:List Addr) from z) (by simp)
 refine ⟨⟨e0.mod,S.kind,rfl,rfl,Ah _,λy z c h1 h2=>?_,λy hy=>?_,λy c _ h=>?_,λ_=>hd,Around.frames_deeper e0.frames,.inr ⟨rfl,rfl⟩,λb z=>absurd z (noA b),e0.bs,e0.bsz,λb _ _=>noA b,λb z=>absurd z (noA b),e0.funs,e0.frf,e0.tab⟩,
  rfl,e0.bare,Un.kept hk,⟨_,x.toInCall.ns,λi y v h1 h2 h3=>?_⟩,λy c h=>⟨_,x.cell y c h⟩,e0.hok.fresh (Ah _),λy c h=>?_,λp hp=>absurd (show p∈([]:List (Addr×Obj)) from hp) (by simp),e0.hok.kept hk,?_⟩
 ·exact name_of_addr x.apart (PySem.mem_of_lookup h1) (PySem.mem_of_lookup h2)
 ·have hy:scope.names.lookup y=some .cell\/scope.names.lookup y=some .free:=hy
  rcases hy with hy | hy
  ·exact fK hy
  ·exact absurd rfl (S.nofree _ (PySem.mem_of_lookup hy))
 ·exact Jm (x.above y c (PySem.mem_of_lookup h))
 ·have hi:i<vs.length:=by
   unfold start at h2
   by_cases hi:i<vs.length
   ·exact hi
   ·rw[Ej (by simpa using hi)] at h2
    rw[List.getElem?_replicate] at h2
    split at h2 <;> cases h2
  have ha:vs[i]? = some v:=by
   unfold start at h2
   rw[Fe (by simpa using hi),Bf] at h2
   cases e:vs[i]? with
   | none=>rw[e] at h2; cases h2
   | some a=>rw[e] at h2; cases h2; rfl
  obtain ⟨u,hu,rv⟩:=r.get ha
  have hp:ps[i]? = some y:=by
   rw[<- S.pre,Hi (by omega)]; exact h1
  have ndP:ps.Nodup:=by rw[<- S.pre]; exact S.nd.sublist (Ip _ _)
  refine ⟨u,rv,?_⟩
  rcases S.par y (Az hp) with k | k
  ·exact .inl ⟨k,aC ndP hp hu k⟩
  ·obtain ⟨c,e⟩:=fK (n:=s.heap.objs.size+1) k
   refine .inr ⟨.inl k,c,e,?_⟩
   have q:=x.cell y c e
   rw[Zs ndP hp hu (by show scope.names.lookup y≠_; rw[k]; decide)] at q
   exact q
 ·exact e0.hok.fresh (Jm (x.above y c (PySem.mem_of_lookup h)))
 ·unfold start
  show _=N.length
  rw[Aw,Ab,List.length_replicate]
  omega
theorem C4{CX:gZ}{P:Bm}{w:World}{K:PySem.W.Frag}{mg:Str->Option Value}{base:Heap}{k:Nat}{f:Addr}{name qual:Str}{params:Arguments}{body:List Stmt}{scope:Scope}{dV kV doc pm cdv ct oc:Value}{an od:Option Addr}{osl:Array (Option Value)}{N ps:List Str}{sp:Sp}(lk:K.lookup f=some ⟨oc,od,.func (PySem.W.fnOf name qual params body scope dV kV doc pm an cdv ct),osl⟩)(hcd:PySem.W.codeIn K cdv qual=true)(S:FnScope N ps scope)(len:∀vs H Q E,sp vs H Q E->vs.length=ps.length)(hbody:∀(A:Cr) (outer:List Env) (s:Ai) (H:Hp) (vs:List V) (Q:VK) (E:XK),Room k (A.deeper (envOfC qual scope s.heap.objs.size f cdv))->sp vs H Q E->∃t,kY (Qr CX P w K mg base N qual scope f cdv A outer s H E) body t/\t { nx:=λ_ H'=>Q .non H',rt:=Q } (start N vs) H):FnOk P w K mg base CX (k+1) f (PySem.W.fnOf name qual params body scope dV kV doc pm an cdv ct) ps sp:=by
 refine ⟨len,λA outer s H args us vs Q E hr e0 hb r hsp=>?_⟩
 have hl:=len _ _ _ _ hsp
 have KX:K.In s.heap:=e0.mod.kin.keeps λb o e=>(e0.bs b o e).1
 have lim:s.heap.NoLimit:=e0.mod.nolimit.keeps λb o e=>(e0.bs b o e).1
 have hkind:∀y∈ps.zip us,scope.names.lookup y.1=some .local\/(scope.names.lookup y.1=some .cell/\((Eb (s.heap.objs.size+1) scope.names []).lookup y.1).isSome=true):=λ⟨n,v⟩ hy=>by
  rcases S.par n (List.of_mem_zip hy).1 with q | q
  ·exact .inl q
  ·exact .inr ⟨q,PySem.W.cellsFrom_some _ _ _ (.inl q)⟩
 refine codeAny_call_function hr.depth (KX _ _ lk) rfl S.co S.gen rfl (PySem.W.codeRec_of KX hcd) (hb _ _ _ _ ?_)
 refine wpAny_newFunctionEnv_cells S.kind hkind λenv he s1 x=>?_
 subst he
 refine ⟨lim.keeps x.toInCall.keep,codeAny_func ?_⟩
 obtain ⟨t,ht,hq⟩:=hbody A outer s H vs Q E (hr.deeper _) hsp
 have I:Inv (Qr CX P w K mg base N qual scope f cdv A outer s H E) [] (start N vs) H s1:=oK S hr.hd e0 hl r x
 refine Cy (ht [] s1 (start N vs) H _ I hq) (λfl s' hs=>?_) λe s' hs=>hs
 have fin:∀{σ':St} {H':Hp} {v:V} {u:Value},Inv (Qr CX P w K mg base N qual scope f cdv A outer s H E) [] σ' H' s'->RelV v u->Q v H'->CE outer P w H s Q u s' :=
  λ{σ' H' v u} J rv q=>⟨v,H',J.os,J.bare,J.base,J.hok,rv,q⟩
 cases fl with
 | ret u =>
  obtain ⟨v,σ',H',J,rv,q⟩:=hs
  exact fin J rv q
 | next =>
  obtain ⟨σ',H',J,q⟩:=hs
  exact fin (v:=V.non) (u:=Ub) J rfl q
 | brk =>
  obtain ⟨_,_,_,q⟩:=hs
  exact Jd q
 | cont =>
  obtain ⟨_,_,_,q⟩:=hs
  exact Jd q
section
variable{X:Cx}{x:Str}{p pos:Pos}{e:Expr}{es:List Expr}{t:TA}{id T:String}{r:List V->Hp->VK->Prop}
def S8(r:List V->Hp->VK->Prop)(t:TA):TE:=λσ H Q=>t σ H λvs H1=>r vs H1 Q
theorem Sr(hc:Mj X (.builtin id) r)(hg:Gl X x)(hm:X.mg x=none)(hv:Jz x=some (.builtin id))(ha:PA X (e::es) t)(hn:x ≠ "__name__" := by decide)(hdb:(x == ("__debug__" : Str))=false:=by decide)(he:Bs (e::es) X.env=(false,eval e X.env)::Bs es X.env:=by rfl)(hpl:(Io pos (Bs es X.env)).any (·.1)=false:=by rfl):PE X (.Call (.Name x p) (e::es) [] pos) (S8 r t):=by
 intro pins s σ H Q I h
 refine Ov (Yq I hg hm hv ?_ hn hdb)
 exact PyProof.Rows.callWith_builtin1 (Fs (ha pos pins s σ H _ I h) λus s1 ⟨vs,H1,I1,r1,q1⟩=>hc pins s1 σ H1 vs us Q I1 r1 q1) he hpl
theorem oE(hc:Mj X (.type T) r)(hg:Gl X x)(hm:X.mg x=none)(hv:Jz x=some (.type T))(ha:PA X (e::es) t)(hn:x ≠ "__name__" := by decide)(hdb:(x == ("__debug__" : Str))=false:=by decide)(he:Bs (e::es) X.env=(false,eval e X.env)::Bs es X.env:=by rfl)(hpl:(Io pos (Bs es X.env)).any (·.1)=false:=by rfl):PE X (.Call (.Name x p) (e::es) [] pos) (S8 r t):=by
 intro pins s σ H Q I h
 refine Ov (Yq I hg hm hv ?_ hn hdb)
 exact Kw (Fs (ha pos pins s σ H _ I h) λus s1 ⟨vs,H1,I1,r1,q1⟩=>hc pins s1 σ H1 vs us Q I1 r1 q1) he hpl
end
end L2
namespace HT
open PySem PyProof.Rows
def lexLt:List Int->List Int->Bool
 | [],[]=>false
 | [],_::_=>true
 | _::_,[]=>false
 | x::xs,y::ys=>if x=y then lexLt xs ys else decide (x<y)
theorem lexLt_cons(x y:Int)(xs ys:List Int):lexLt (x::xs) (y::ys)=if x=y then lexLt xs ys else decide (x<y):=rfl
theorem lexLt_nil_nil:lexLt [] []=false:=rfl
theorem lexLt_nil_cons(y:Int)(ys:List Int):lexLt [] (y::ys)=true:=rfl
theorem lexLt_cons_nil(x:Int)(xs:List Int):lexLt (x::xs) []=false:=rfl
theorem qM(A:Cr)(s:Ai)(a:Int)(t:Tok)(c:Int)(u:Tok):∃e,Kx A s (.int a t) (.int c u) e/\(e=true↔a=c) :=
 ⟨(a == c),SeqAt.EqAt.int_int a t c u,by simp⟩
theorem uJ(A:Cr)(s:Ai)(a:Int)(t:Tok)(c:Int)(u:Tok)(prog:Bm)(w:World)(E:Value->Ai->Prop)(Q:Value->Ai->Prop)(h:Q (.bool (decide (a<c))) s):wpAny (model prog w) A (richCompare .Lt (.int a t) (.int c u)) Q E s :=
 (PyProof.Rows.lt_int h:wpAny (model prog w) A (Hk .Lt (.int a t) (.int c u)) Q E s)
section
open PySem.SeqAt
open PySem.AutoSeq1 (wpAny_loadPart')
open PySem.MeetsSeq PySem.MeetsSeq2 PySem.MeetsSeq3
theorem tuple_lt_ints(l b:Addr)(items items2:Array Value)(n n2:Nat)(dd dd2:Option Addr)(sl sl2:Array (Option Value))(ns ms:List Int)(hi:He items.toList ns)(hj:He items2.toList ms):Meets (Builtin.«tuple.__lt__» ⟨[.ref l,.ref b],[]⟩) (λ_ R s=>s.heap.get? l=some { cls:=.type "tuple",dict:=dd,data:=.seq items n,slots:=sl }/\s.heap.get? b=some { cls:=.type "tuple",dict:=dd2,data:=.seq items2 n2,slots:=sl2 }/\R (.ok (.ret (.bool (lexLt ns ms)))) s) :=
 .of_wp λprog w A R s h=>by
  obtain ⟨hp,g,d,tk,os⟩:=s; obtain ⟨hl,hb,h⟩:=h
  have f2:=AutoSeq1.sub_tuple_tuple
  have z1:items.size=ns.length:=by rw[<- hi.length]; simp
  have z2:items2.size=ms.length:=by rw[<- hj.length]; simp
  wp_walk using Tr hl,Tr hb,Rb _ (λEx b s'=>b.1=none/\s'=⟨hp,g,d,tk,os⟩/\∃(vs ws:List Value) (ns' ms':List Int),Ex=vs.zip ws /\
   He vs ns'/\He ws ms'/\ns'.length+items2.size=ms'.length+items.size/\R (.ok (.ret (.bool (lexLt ns' ms')))) ⟨hp,g,d,tk,os⟩) _
  case turn =>
   (rintro ⟨y,x⟩ Ex b s' q_; obtain ⟨hb',rfl,vs,ws,ns',ms',hz,hvi,hwi,hlen,hR⟩ := q_)
   cases hvi with
   | nil=>rw[List.zip_nil_left] at hz; cases hz
   | cons a t hvi' =>
    cases hwi with
    | nil=>rw[List.zip_nil_right] at hz; cases hz
    | cons c u hwi' =>
     rw[Vf] at hz
     injection hz with hyx hrest
     injection hyx with hy hx
     subst hy hx
     rw[lexLt_cons] at hR
     simp only[Bi] at hlen
     obtain ⟨e,he,hiff⟩:=qM A.in1 ⟨hp,g,d,tk,os⟩ a t c u
     refine Ac (he prog w _ _ ?_)
     cases e with
     | true =>
      rw[if_pos (hiff.mp rfl)] at hR
      wp_walk
      exact ⟨rfl,rfl,_,_,_,_,hrest,hvi',hwi',by omega,hR⟩
     | false =>
      rw[if_neg (λq=>absurd (hiff.mpr q) Bx)] at hR
      have hri:=uJ A.in1 ⟨hp,g,d,tk,os⟩ a t c u prog w
      wp_walk using hri
      exact ⟨_,rfl,by simpa using hR⟩
  case fin =>
   (rintro ⟨b1,b2⟩ s' q_; obtain ⟨hb',rfl,vs,ws,ns',ms',hz,hvi,hwi,hlen,hR⟩ := q_)
   simp only at hb'
   subst hb'
   have hv:lexLt ns' ms'=decide (items.size<items2.size):=by
    cases hvi with
    | nil =>
     cases hwi with
     | nil =>
      simp only[Ka] at hlen
      rw[lexLt_nil_nil]
      exact (decide_eq_false (by omega)).symm
     | cons c u hw =>
      simp only[Ka,Bi] at hlen
      rw[lexLt_nil_cons]
      exact (decide_eq_true (by omega)).symm
    | cons a t hv =>
     cases hwi with
     | nil =>
      simp only[Ka,Bi] at hlen
      rw[lexLt_cons_nil]
      exact (decide_eq_false (by omega)).symm
     | cons c u hw =>
      rw[Vf] at hz
      cases hz
   rw[hv] at hR
   wp_walk
   exact ⟨_,rfl,by simpa [Builtin.Tuple.tupleCompareSizes] using hR⟩
  case h =>
   exact ⟨rfl,rfl,items.toList,items2.toList,ns,ms,rfl,hi,hj,by omega,h⟩
end
section
variable{prog:Bm}{w:World}{A:Cr}{E:Value->Ai->Prop}{s:Ai}
theorem lt_tupInts{l b:Addr}{items items2:Array Value}{ns ms:List Int}{Q:Value->Ai->Prop}(hl:IsTup s.heap l items)(hb:IsTup s.heap b items2)(hi:He items.toList ns)(hj:He items2.toList ms)(hu:A.units<cLine)(h:Q (.bool (lexLt ns ms)) s):wpAny (model prog w) A (Hk .Lt (.ref l) (.ref b)) Q E s:=by
 obtain ⟨⟨cls,dd,data,sl⟩,ho,hc,n,hd⟩:=id hl
 obtain ⟨⟨cls2,dd2,data2,sl2⟩,ho2,hc2,n2,hd2⟩:=id hb
 simp only at hc hd hc2 hd2
 subst hc hd hc2 hd2
 exact richCompare_meets_room (op:=.Lt) ⟨_,ho,rfl⟩ ⟨_,ho2,rfl⟩ PySem.F.slot_tuple_lt PySem.F.entry_tuple_lt (PySem.F.args_tuple_lt_2 _ _) (tuple_lt_ints l b items items2 n n2 dd dd2 sl sl2 ns ms hi hj)
  ⟨ho,ho2,show Value.bool (lexLt ns ms)≠Value.notImplemented/\Q (.bool (lexLt ns ms)) s from ⟨(λx=>nomatch x),h⟩⟩ hu
theorem cat_tup{t b:Addr}{vs ws:List Value}{Q:Value->Ai->Prop}(ht:IsTup s.heap t vs.toArray)(hb:IsTup s.heap b ws.toArray)(hv:vs≠[])(h1:ws=[]->Q (.ref t) s)(h2:ws≠[]->Q (.ref s.heap.objs.size) { s with heap:=s.heap.push { cls:=.type "tuple",data:=.seq (vs++ws).toArray } })(hsz:vs.length+ws.length<=Av):wpAny (model prog w) A (Jb .Add (.ref t) (.ref b)) Q E s:=by
 obtain ⟨⟨cls,dd,data,sl⟩,ho,hc,n,hd⟩:=id ht
 obtain ⟨⟨cls2,dd2,data2,sl2⟩,ho2,hc2,n2,hd2⟩:=id hb
 simp only at hc hd hc2 hd2
 subst hc hd hc2 hd2
 have e:vs.toArray++ws.toArray=(vs++ws).toArray:=by simp
 by_cases hw:ws=[]
 ·exact aU ⟨_,ho,rfl⟩ ⟨_,ho2,rfl⟩ Re Yv PySem.F.slot_tuple_add PySem.F.entry_tuple_add (PySem.F.args_tuple_add_2 _ _)
   (tuple_addW1 t b vs.toArray ws.toArray n n2 dd dd2 sl sl2 (by simpa using hv) (by simp [hw])) ⟨ho,ho2,h1 hw⟩
 ·refine aU ⟨_,ho,rfl⟩ ⟨_,ho2,rfl⟩ Re Yv PySem.F.slot_tuple_add PySem.F.entry_tuple_add (PySem.F.args_tuple_add_2 _ _)
   (tuple_addW2 t b vs.toArray ws.toArray n n2 dd dd2 sl sl2 (by simpa using hv) (by simpa using hw) (by rw[Ap,Ap]; exact hsz)) ⟨ho,ho2,?_⟩
  rw[e]
  exact h2 hw
def sIx(n d:Nat):Option Int->Nat
 | none=>d
 | some v=>if v<0 then (v+(n:Int)).toNat else min v.toNat n
theorem sIx_none(n d:Nat):sIx n d none=d:=rfl
theorem sIx_nat(n d k:Nat):sIx n d (some (k:Int))=min k n:=by
 show (if (k:Int)<0 then ((k:Int)+(n:Int)).toNat else min (k:Int).toNat n)=min k n
 rw[if_neg (by omega),Dw]
theorem n4(n d:Nat)(hd:d<=n)(o:Option Int):sIx n d o<=n:=by
 cases o with
 | none=>exact hd
 | some v =>
  show (if v<0 then (v+(n:Int)).toNat else min v.toNat n)<=n
  by_cases hv:v<0
  ·rw[if_pos hv]; omega
  ·rw[if_neg hv]; exact Nat.min_le_right _ _
theorem lS(v:Int)(n d:Nat):(if v<0 then max (v+(n:Int)) 0 else min v (n:Int))=((sIx n d (some v):Nat):Int):=by
 show (if v<0 then max (v+(n:Int)) 0 else min v (n:Int))=(((if v<0 then (v+(n:Int)).toNat else min v.toNat n):Nat):Int)
 by_cases hv:v<0
 ·simp only[if_pos hv]; omega
 ·simp only[if_neg hv]; omega
theorem iM(lo hi:Option Int)(n:Nat):Lh lo hi 1 (n:Int)=(((sIx n 0 lo:Nat):Int),((sIx n n hi:Nat):Int)):=by
 have h1:¬ ((1:Int)<0):=by omega
 unfold Lh
 simp only[h1,if_false]
 refine Prod.ext ?_ ?_
 ·cases lo with
  | none=>rfl
  | some v=>exact lS v n 0
 ·cases hi with
  | none=>rfl
  | some v=>exact lS v n n
theorem jA(i j:Nat):Ia (i:Int) (j:Int) 1=j - i:=by
 unfold Ia
 have h1:(1:Int) > 0:=by omega
 simp only[h1,if_true,Int.ediv_one]
 split <;> omega
theorem Xu{v:Value}{o:Option Int}{Q:Option Int->Ai->Prop}(p:Vw v o)(h:Q o s):wpAny (model prog w) A (Builtin.Slice.slicePartIndex v) Q E s:=by
 cases p with
 | none=>exact slicePart_none h
 | int i t=>exact slicePart_int h
theorem sliceApplied_gen{sl:Addr}{vl vu:Value}{lo hi:Option Int}{n:Nat}{Q:Int×Int×Nat->Ai->Prop}(hs:s.heap.IsSliceOf sl vl vu .none)(pl:Vw vl lo)(pu:Vw vu hi)(h:Q (((sIx n 0 lo:Nat):Int),1,sIx n n hi - sIx n 0 lo) s):wpAny (model prog w) A (Ue (.ref sl) (pure (n:Int))) Q E s:=by
 obtain ⟨os,hos,hcs,hds⟩:=id hs
 unfold Ue Builtin.Slice.sliceFields
 refine Ac (Ac (wpAny_field hos hds (x:=vl) rfl (Ac (wpAny_field hos hds (x:=vu) rfl (Ac (wpAny_field hos hds (x:=.none) rfl (Am ?_)))))))
 refine Ac (slicePart_none ?_)
 show wpAny _ _ (if ((1:Int) == 0)=true then _ else _) _ _ s
 rw[if_neg (by decide)]
 refine Ac (Xu pl (Ac (Xu pu (Ac (Am ?_)))))
 show wpAny _ _ (match Lh lo hi 1 (n:Int) with | (lo,hi)=>pure (lo,(1:Int),Ia lo hi 1)) _ _ s
 rw[iM lo hi n]
 show wpAny _ _ (pure (((sIx n 0 lo:Nat):Int),(1:Int),Ia ((sIx n 0 lo:Nat):Int) ((sIx n n hi:Nat):Int) 1)) _ _ s
 rw[jA]
 exact Am h
theorem pV(xs:Array Value)(i k:Nat):((Bp k).filterMap λ(m:Nat)=>xs[((i:Int)+(m:Int) * 1).toNat]?).toArray=((xs.toList.drop i).take k).toArray:=by
 have e:(λ(m:Nat)=>xs[((i:Int)+(m:Int) * 1).toNat]?)=λm=>xs[i+m]?:=by
  funext m
  have : ((i:Int)+(m:Int) * 1).toNat=i+m:=by omega
  rw[this]
 rw[e]
 have:=pick_run xs i k
 rw[List.filterMap_map] at this
 have e2:((λx=>xs[x]?) ∘ λx=>i+x)=λm=>xs[i+m]?:=rfl
 rw[e2] at this
 rw[this]
theorem getItem_tuple_cut{t sl:Addr}{items:Array Value}{vl vu:Value}{lo hi:Option Int}{Q:Value->Ai->Prop}(ht:IsTup s.heap t items)(hs:s.heap.IsSliceOf sl vl vu .none)(pl:Vw vl lo)(pu:Vw vu hi)(hw:¬ (sIx items.size 0 lo=0/\sIx items.size items.size hi=items.size))(h:Q (.ref s.heap.objs.size) { s with heap:=s.heap.push { cls:=.type "tuple",data:=.seq ((items.toList.drop (sIx items.size 0 lo)).take (sIx items.size items.size hi - sIx items.size 0 lo)).toArray } })(hsz:items.size<=Av):wpAny (model prog w) A (getItem (.ref t) (.ref sl)) Q E s:=by
 have htake:sizeOk (.seq ((items.toList.drop (sIx items.size 0 lo)).take (sIx items.size items.size hi - sIx items.size 0 lo)).toArray):=by
  show ((items.toList.drop (sIx items.size 0 lo)).take (sIx items.size items.size hi - sIx items.size 0 lo)).toArray.size<=Av
  rw[Ap,Do,Pb,Aj]
  omega
 have hj:sIx items.size items.size hi<=items.size:=n4 _ _ (Ah _) hi
 obtain ⟨os,hos,hcs,hds⟩:=id hs
 have hTs:s.TypeIs (.ref sl) "slice" := ⟨os,hos,hcs⟩
 unfold getItem
 try with_reducible refine Ep ?_
 first | refine Ac (Am ?_) | skip
 refine Ac (wpAny_sequenceKey ht.typeIs (by decide) ?_)
 refine Ac (uO (name:=Str.ofString "__getitem__") ht.typeIs Ef
  (Rc Ef ht.typeIs entry_tuple_getitem ?_ (args_tuple_getitem _ _)))
 show wpAny _ _ (Uc (.ref t) >>= _) _ _ s
 refine Ac (tupleItemsOf_ ht ?_)
 refine Ac (Nu hTs ?_)
 rw[if_pos (by decide)]
 refine Ac (sliceApplied_gen hs pl pu ?_)
 have hno:¬ ((((sIx items.size 0 lo:Nat):Int) == 0 && (1:Int) == 1 && (sIx items.size items.size hi - sIx items.size 0 lo) == items.size)=true):=by
  intro q
  rw[Gk,Gk] at q
  have q1:((sIx items.size 0 lo:Nat):Int)=0:=Dg q.1.1
  have q2:sIx items.size items.size hi - sIx items.size 0 lo=items.size:=Dg q.2
  exact hw ⟨by omega,by omega⟩
 show wpAny _ _ (if (((sIx items.size 0 lo:Nat):Int) == 0 && (1:Int) == 1 && (sIx items.size items.size hi - sIx items.size 0 lo) == items.size)=true then _ else _) _ _ s
 rw[if_neg hno,pV]
 first
  | exact Ac (m:=Iv _) (Gg (Am ⟨_,rfl,Am h⟩) htake)
  | exact Ac (m:=Iv _) (Gg (Ac (Am (Am ⟨_,rfl,Am h⟩))) htake)
  | exact Ac (Ac (m:=Iv _) (Gg (Am (Am ⟨_,rfl,Am h⟩)) htake))
  | exact Ac (Ac (m:=Iv _) (Gg (Am ⟨_,rfl,Am h⟩) htake))
end
end HT
namespace L2
open PySem PySem.Spec PyProof.Rows
abbrev TO:=St->Hp->(Option Int->Hp->Prop)->Prop
def PO(X:Cx)(e:Option Expr)(t:TO):Prop :=
 ∀(pins:List (Addr×Obj)) (s:Ai) (σ:St) (H:Hp) (Q:Option Int->Hp->Prop),Inv X pins σ H s->t σ H Q ->
  wpAny (model X.prog X.w) X.A (evalPart e X.env) (λu s'=>∃o H',Inv X pins σ H' s'/\Vw u o/\Q o H') X.xe s
def xF:TO:=λ_ H Q=>Q none H
def L3(t:TE):TO:=λσ H Q=>t σ H λx H1=>∃i,x=.int i/\Q (some i) H1
theorem intsAre_of{ns:List Int}:∀{us:List Value},Fi (ns.map V.int) us->He us ns:=by
 induction ns with
 | nil=>intro us r; rw[We] at r; cases r; exact .nil
 | cons n ns ih =>
  intro us r
  rw[Bc] at r
  cases r with
  | cons r1 r2 =>
   obtain ⟨t,e⟩:=r1
   subst e
   exact .cons n t (ih r2)
section
variable{X:Cx}{e:Expr}{te:TE}{lo hi:Option Expr}{tl th:TO}{pos p2:Pos}
theorem vK:PO X none xF:=by
 intro pins s σ H Q I h
 rw[evalPart_none]
 exact Am ⟨none,H,I,.none,h⟩
theorem uW(h:PE X e te):PO X (some e) (L3 te):=by
 intro pins s σ H Q I hw
 rw[evalPart_some]
 refine Fs (h pins s σ H _ I hw) λu s1 q0_ => ?_
 obtain ⟨x,H1,I1,r1,q1⟩ := q0_
 obtain ⟨i,rfl,q⟩:=q1
 obtain ⟨t,rfl⟩:=r1
 exact ⟨some i,H1,I1,.int i t,q⟩
def A1(X:Cx)(r:V->Option Int->Option Int->Hp->VK->Prop):Prop :=
 ∀(pins:List (Addr×Obj)) (s:Ai) (σ:St) (H:Hp) (x:V) (v vl vu:Value) (lo hi:Option Int) (sl:Addr) (Q:VK),Inv X pins σ H s->RelV x v->s.heap.IsSliceOf sl vl vu .none->Vw vl lo->Vw vu hi->r x lo hi H Q ->
  ∃T id,typeLookup (.type T) "__getitem__" = pure (some (.builtin id))/\s.TypeIs v T/\wpAny (model X.prog X.w) X.A (getItem v (.ref sl)) (EP X pins σ Q) X.xe s
theorem A1.or{r r':V->Option Int->Option Int->Hp->VK->Prop}(h:A1 X r)(h':A1 X r'):A1 X (λx lo hi H Q=>r x lo hi H Q\/r' x lo hi H Q):=by
 intro pins s σ H x v vl vu lo hi sl Q I rx hs pl pu q
 rcases q with q | q
 ·exact h pins s σ H x v vl vu lo hi sl Q I rx hs pl pu q
 ·exact h' pins s σ H x v vl vu lo hi sl Q I rx hs pl pu q
def X7(r:V->Option Int->Option Int->Hp->VK->Prop)(te:TE)(tl th:TO):TE:=λσ H Q=>te σ H λx H1=>tl σ H1 λl H2=>th σ H2 λu H3=>r x l u H3 Q
theorem dY{r:V->Option Int->Option Int->Hp->VK->Prop}(hr:A1 X r)(he:PE X e te)(hl:PO X lo tl)(hu:PO X hi th):PE X (.Subscript e (.Slice lo hi none p2) pos) (X7 r te tl th):=by
 intro pins s σ H Q I h
 refine Subscript_ (Fs (he pins s σ H _ I h) λv s1 q0_ => ?_)
 obtain ⟨x,H1,I1,r1,q1⟩ := q0_
 refine wpAny_Slice (Fs (hl pins s1 σ H1 _ I1 q1) λvl s2 ⟨l,H2,I2,pl,q2⟩=>Fs (hu pins s2 σ H2 _ I2 q2) λvu s3 q0_ => ?_)
 obtain ⟨u,H3,I3,pu,q3⟩ := q0_
 rw[evalPart_none]
 refine Am ?_
 have I4:Inv X pins σ H3 { s3 with heap:=s3.heap.push { cls:=.type "slice",data:=.fields #[vl,vu,.none] } }:=I3.kept (t':=s3.toks) λb ob q=>Al _ q
 obtain ⟨T,id,hT,ht,hg⟩:=hr pins { s3 with heap:=s3.heap.push { cls:=.type "slice",data:=.fields #[vl,vu,.none] } } σ H3 x v vl vu l u s3.heap.objs.size Q I4 r1 (Heap.IsSliceOf.new ..) pl pu q3
 show wpAny (model X.prog X.w) X.A (subscriptTail e (.Slice lo hi none p2) v (.ref s3.heap.objs.size)) (EP X pins σ Q) X.xe { s3 with heap:=s3.heap.push { cls:=.type "slice",data:=.fields #[vl,vu,.none] } }
 exact tail_any (ops:=[.ref s3.heap.objs.size,v]) ht hT hg (by with_unfolding_all rfl)
def Yd(xs:List V)(lo hi:Option Int):List V:=(xs.drop (HT.sIx xs.length 0 lo)).take (HT.sIx xs.length xs.length hi - HT.sIx xs.length 0 lo)
theorem Vk(xs:List V)(lo hi:Option Int):(Yd xs lo hi).length<=xs.length:=by
 unfold Yd
 rw[Do,Pb]
 omega
def U4(K:PySem.W.Frag):V->Option Int->Option Int->Hp->VK->Prop:=λx lo hi H Q=>∃a xs,x=.ref a/\Ri K H a xs /\
 ¬ (HT.sIx xs.length 0 lo=0/\HT.sIx xs.length xs.length hi=xs.length)/\∀p,H p=none->Q (.ref p) (upd H p (.tup (Yd xs lo hi)))
theorem zM:A1 X (U4 X.K):=by
 intro pins s σ H x v vl vu lo hi sl Q I rx hs pl pu h
 obtain ⟨a,xs,rfl,hx,hw,q⟩:=h
 cases rx
 obtain ⟨its,r,ht,hz⟩:=I.tuple hx
 have hlen:its.toArray.size=xs.length:=by rw[Ap]; exact r.length.symm
 refine ⟨"tuple",_,Ef.lookup,ht.typeIs,?_⟩
 refine HT.getItem_tuple_cut ht hs pl pu (by rw[hlen]; exact hw) ?_ (by rw[hlen]; exact hz)
 rw[hlen]
 refine ⟨.ref s.heap.objs.size,_,I.laid (t':=s.toks) (o:=.tup (Yd xs lo hi)) (λb ob q=>Al _ q) (Ah _) ?_,rfl,q _ (I.hok.fresh (Ah _))⟩
 exact ⟨Bv (Vk xs lo hi) hz,_,(r.drop (HT.sIx xs.length 0 lo)).take (HT.sIx xs.length xs.length hi - HT.sIx xs.length 0 lo),IsTup.new _ _⟩
def M4(K:PySem.W.Frag):R2:=λx y H Q=>∃a b xs ys,x=.ref a/\y=.ref b/\Ri K H a xs/\Ri K H b ys/\xs≠[]/\xs.length+ys.length<=Av /\
 (ys=[]->Q (.ref a) H)/\(ys≠[]->∀p,H p=none->Q (.ref p) (upd H p (.tup (xs++ys))))
theorem Fi.nil_iff{xs:List V}{us:List Value}(r:Fi xs us):us=[]↔xs=[]:=by
 cases r with
 | nil=>simp
 | cons _ _=>simp
theorem kQ:Ur X (Jb .Add) (M4 X.K):=by
 intro pins s σ H x y v u Q I rx ry h
 obtain ⟨a,b,xs,ys,rfl,rfl,ha,hb,hx,hz,q1,q2⟩:=h
 cases rx
 cases ry
 obtain ⟨its,r1,p1,_⟩:=I.tuple ha
 obtain ⟨its2,r2,p2,_⟩:=I.tuple hb
 refine HT.cat_tup p1 p2 (λz=>hx (r1.nil_iff.mp z)) (λz=>⟨.ref a,H,I,rfl,q1 (r2.nil_iff.mp z)⟩) (λz=>?_) (by rw[<- r1.length,<- r2.length]; exact hz)
 refine ⟨.ref s.heap.objs.size,_,I.laid (t':=s.toks) (o:=.tup (xs++ys)) (λb ob q=>Al _ q) (Ah _) ?_,rfl,q2 (λw=>z (r2.nil_iff.mpr w)) _ (I.hok.fresh (Ah _))⟩
 exact ⟨by rw[Aw]; exact hz,_,r1.append r2,IsTup.new _ _⟩
end
def oS(n:Nat)(i:Int):Option Nat:=if 0<=i then (if i<n then some i.toNat else none) else if -(n:Int)<=i then some (i+n).toNat else none
def Tz{α:Type}(xs:List α)(i:Int):Option α:=(oS xs.length i).bind λj=>xs[j]?
theorem kE{n:Nat}{i:Int}{j:Nat}(h:oS n i=some j):seqIndex? i n=some j/\j<n /\ -(n:Int)<=i/\i<n:=by
 unfold oS at h
 by_cases h0:0<=i
 ·rw[if_pos h0] at h
  by_cases h1:i<n
  ·rw[if_pos h1] at h
   have e:i.toNat=j:=Bt h
   exact ⟨by rw[seqIndex_of h0 h1,e],by omega,by omega,h1⟩
  ·rw[if_neg h1] at h; cases h
 ·rw[if_neg h0] at h
  by_cases h1:-(n:Int)<=i
  ·rw[if_pos h1] at h
   have e:(i+n).toNat=j:=Bt h
   exact ⟨by rw[seqIndex_neg (by omega) h1,e],by omega,h1,by omega⟩
  ·rw[if_neg h1] at h; cases h
theorem cA{α:Type}{xs:List α}{i:Int}{v:α}(h:Tz xs i=some v):∃j,seqIndex? i xs.length=some j/\xs[j]? = some v/\j<xs.length /\ -(xs.length:Int)<=i/\i<xs.length:=by
 unfold Tz at h
 cases e:oS xs.length i with
 | none=>rw[e] at h; cases h
 | some j =>
  rw[e] at h
  obtain ⟨h1,h2,h3,h4⟩:=kE e
  exact ⟨j,h1,h,h2,h3,h4⟩
theorem Oo{α:Type}{xs:List α}{j:Nat}{v:α}(h:xs[j]? = some v):Tz xs (j:Int)=some v:=by
 have hj:j<xs.length:=(Aq.mp h).1
 have e:oS xs.length (j:Int)=some j:=by
  unfold oS
  rw[if_pos (by omega),if_pos (by omega)]; simp
 unfold Tz; rw[e]; exact h
theorem fE{α:Type}(xs:List α)(v:α):Tz (xs++[v]) (-1)=some v:=by
 have hl:(xs++[v]).length=xs.length+1:=by simp
 have e:oS (xs++[v]).length (-1)=some xs.length:=by
  unfold oS
  rw[hl,if_neg (by decide),if_pos (by omega)]
  congr 1
  omega
 unfold Tz
 rw[e]
 show (xs++[v])[xs.length]? = some v
 simp
def aY(b:Expr):Prop:=∀o i,subscripted b false o i=operate [o,i] (getItem o i)
def xP(X:Cx)(r:R2):Prop :=
 ∀(value slice:Expr) (pins:List (Addr×Obj)) (s:Ai) (σ:St) (H:Hp) (x y:V) (v u:Value) (Q:VK),Inv X pins σ H s->RelV x v->RelV y u->r x y H Q ->
  subscripted slice false v u=operate [v,u] (getItem v u)->wpAny (model X.prog X.w) X.A (subscriptTail value slice v u) (EP X pins σ Q) X.xe s
def Y1(X:Cx)(id:String)(r:V->List V->Hp->VK->Prop):Prop :=
 ∀(pins:List (Addr×Obj)) (s:Ai) (σ:St) (H:Hp) (x:V) (xs:List V) (v:Value) (us:List Value) (Q:VK),Inv X pins σ H s->RelV x v->Fi xs us->r x xs H Q ->
  wpAny (model X.prog X.w) X.A (call (.builtin id) (v::us)) (EP X pins σ Q) X.xe s
section
variable{X:Cx}{a b:Expr}{ta tb:TE}{pos:Pos}
theorem xP.or{r r':R2}(h:xP X r)(h':xP X r'):xP X (λx y H Q=>r x y H Q\/r' x y H Q):=by
 intro value slice pins s σ H x y v u Q I rx ry q hs
 rcases q with q | q
 ·exact h value slice pins s σ H x y v u Q I rx ry q hs
 ·exact h' value slice pins s σ H x y v u Q I rx ry q hs
theorem Ra{r:R2}(hr:xP X r)(ha:PE X a ta)(hb:PE X b tb)(hs:aY b):PE X (.Subscript a b pos) (P0 r ta tb):=by
 intro pins s σ H Q I h
 exact Subscript_ (v9 ha hb I h λv u s2 x y H2 I2 rx ry q=>hr a b pins s2 σ H2 x y v u Q I2 rx ry q (hs _ _))
def pX(K:PySem.W.Frag):R2:=λx y H Q=>∃p xs i v,x=.ref p/\y=.int i/\Ox K H p xs/\Tz xs i=some v/\Q v H
def M6(K:PySem.W.Frag):R2:=λx y H Q=>∃p xs i v,x=.ref p/\y=.int i/\Ri K H p xs/\Tz xs i=some v/\Q v H
def K7:R2:=λx y H Q=>∃z i c,x=.str z/\y=.int i/\z.length<=Av/\Tz z.cps.toList i=some c/\Q (.str ⟨#[c]⟩) H
theorem Ll:xP X (pX X.K):=by
 intro value slice pins s σ H x y v u Q I rx ry h hs
 obtain ⟨p,xs,i,z,rfl,rfl,hq,he,q⟩:=h
 cases rx
 obtain ⟨t,rfl⟩:=ry
 obtain ⟨its,r,pl,hz⟩:=I.list hq
 obtain ⟨j,h1,h2,h3,h4,h5⟩:=cA he
 obtain ⟨w,ew,rw'⟩:=r.get h2
 have hl:=r.length
 have hn:=Rj
 have fin:EP X pins σ Q w s:=⟨z,H,I,rw',q⟩
 by_cases h0:0<=i
 ·have hj:i.toNat=j:=by
   rw[seqIndex_of h0 h5] at h1
   exact Bt h1
  exact item_listR pl.isList h0 (by omega) (by rw[hj]; simpa using ew) fin hs
 ·have hj:(i+(its.toArray.size:Int)).toNat=j:=by
   rw[seqIndex_neg (by omega) h4] at h1
   rw[Ap,<- hl]
   exact Bt h1
  exact uR (x:=w) pl.isList.typeIs P1.lookup
   (wpAny_getItem_list_neg (Q:=λr s'=>r=w/\EP X pins σ Q r s') pl.isList (by omega) (by rw[Ap] <;> omega) (by omega) (by rw[hj]; simpa using ew) ⟨rfl,fin⟩) hs
theorem S6:xP X (M6 X.K):=by
 intro value slice pins s σ H x y v u Q I rx ry h hs
 obtain ⟨p,xs,i,z,rfl,rfl,hq,he,q⟩:=h
 cases rx
 obtain ⟨t,rfl⟩:=ry
 obtain ⟨its,r,pl,hz⟩:=I.tuple hq
 obtain ⟨j,h1,h2,h3,h4,h5⟩:=cA he
 obtain ⟨w,ew,rw'⟩:=r.get h2
 have hl:=r.length
 have hn:=Rj
 have fin:EP X pins σ Q w s:=⟨z,H,I,rw',q⟩
 exact uR (x:=w) pl.typeIs slot_tuple_getitem.lookup
  (getItem_tuple (j:=j) (Q:=λr s'=>r=w/\EP X pins σ Q r s') pl (by omega) (by omega) (by rw[Ap,<- hl]; exact h1) (by simpa using ew) ⟨rfl,fin⟩) hs
theorem zX:xP X K7:=by
 intro value slice pins s σ H x y v u Q I rx ry h hs
 obtain ⟨z,i,c,rfl,rfl,hz,he,q⟩:=h
 obtain ⟨t,rfl⟩:=rx
 obtain ⟨t',rfl⟩:=ry
 obtain ⟨j,h1,h2,h3,h4,h5⟩:=cA he
 have hl:z.cps.toList.length=z.length:=by simp [Str.length]
 rw[hl] at h1 h4 h5
 have hn:=Rj
 exact tail_any (typeIs_str s z t) slot_str_getitem.lookup (getItem_str (c:=c) (by
  have e1:decide (i < -(2 ^ 63:Int))=false:=decide_eq_false (by omega)
  have e2:decide (i ≥ 2 ^ 63)=false:=decide_eq_false (by omega)
  rw[e1,e2,Bool.or_false]) (by rw[h1]; simpa using h2) ⟨.str ⟨#[c]⟩,H,I.tok _,⟨_,rfl⟩,q⟩) hs
def X5(K:PySem.W.Frag):R2:=λx y H Q=>pX K x y H Q\/M6 K x y H Q\/K7 x y H Q
theorem i6:xP X (X5 X.K):=Ll.or (S6.or zX)
theorem hZ(its:List Value)(n j:Nat)(u:Value):Co (·.setIfInBounds j u) { cls:=.type "list",data:=.seq its.toArray n }={ cls:=.type "list",data:=.seq (its.set j u).toArray n }:=by
 simp [Co]
theorem Inv.lst{pins:List (Addr×Obj)}{σ:St}{H:Hp}{s:Ai}{p:Addr}{xs:List V}(I:Inv X pins σ H s)(h:H p=some (.lst xs)):∃(its:List Value) (n:Nat),Fi xs its/\s.heap.get? p=some { cls:=.type "list",data:=.seq its.toArray n }/\xs.length<=Av:=by
 obtain ⟨z,its,n,r,e⟩:=I.hok p _ h
 exact ⟨its,n,r,e,z⟩
theorem Inv.lstUpd{pins:List (Addr×Obj)}{σ:St}{H:Hp}{s:Ai}{p:Addr}{xs ys:List V}{its its':List Value}{n n':Nat}{f:Obj->Obj}(I:Inv X pins σ H s)(h:H p=some (.lst xs))(ho:s.heap.get? p=some { cls:=.type "list",data:=.seq its.toArray n })(hf:f { cls:=.type "list",data:=.seq its.toArray n }={ cls:=.type "list",data:=.seq its'.toArray n' })(r:Fi ys its')(hz:ys.length<=Av)(t:Nat):Inv X pins σ (upd H p (.lst ys)) { s with heap:=s.heap.update p f,toks:=t }:=by
 have e:(s.heap.update p f).get? p=some { cls:=.type "list",data:=.seq its'.toArray n' }:=by
  rw[Heap.get?_update_self f ho (by rw[hf] <;> rfl),hf]
 refine I.write (x:=p) (e:=p) (by rw[h]; trivial) (.inl rfl) (λb u hb q=>(jF _ _ (Ow hb)).trans q) ⟨_,e⟩ ?_
 exact ⟨hz,its',n',r,e⟩
def M7:V->V->V->Hp->(Hp->Prop)->Prop:=λo i v H Q=>∃p xs k j,o=.ref p/\i=.int k/\H p=some (.lst xs)/\oS xs.length k=some j/\Q (upd H p (.lst (xs.set j v)))
theorem gC:E7 X M7:=by
 intro pins s σ H o i v ov iv u Q I ro ri rv h
 obtain ⟨p,xs,k,j,rfl,rfl,hp,hj,q⟩:=h
 cases ro
 obtain ⟨t,rfl⟩:=ri
 obtain ⟨its,n,r,ho,hz⟩:=I.lst hp
 obtain ⟨h1,h2,h3,h4⟩:=kE hj
 have hl:=r.length
 have hn:=Rj
 have I':Inv X pins σ (upd H p (.lst (xs.set j v))) { s with heap:=s.heap.update p (Co (·.setIfInBounds j u)) } :=
  I.lstUpd hp ho (hZ its n j u) (r.set rv j) (by rw[List.length_set]; exact hz) s.toks
 by_cases h0:0<=k
 ·have hk:k.toNat=j:=by
   rw[seqIndex_of h0 h4] at h1
   exact Bt h1
  exact PySem.W.ki_setAt ho h0 (by omega) (by rw[Ap,<- hl]; exact h4) (by rw[hk]; exact ⟨_,I',q⟩)
 ·have hk:(k+(its.toArray.size:Int)).toNat=j:=by
   rw[seqIndex_neg (by omega) h3] at h1
   rw[Ap,<- hl]
   exact Bt h1
  exact PySem.W.ki_setBack ho (by omega) (by rw[Ap,<- hl]; exact h3) (by omega) (by rw[hk]; exact ⟨_,I',q⟩)
theorem cT(lo hi:Option Int)(n:Nat):(Mq lo hi none n).1=((HT.sIx n 0 lo:Nat):Int)/\(Mq lo hi none n).2.1=((HT.sIx n n hi:Nat):Int)/\(Mq lo hi none n).2.2=1:=by
 refine ⟨?_,?_,rfl⟩
 ·cases lo with
  | none=>simp [Mq,HT.sIx]
  | some i =>
   simp only[Mq,HT.sIx,Option.getD_none,show (1:Int) > 0 by decide,if_true]
   by_cases h:i<0
   ·simp only[h,if_true] <;> omega
   ·simp only[h,if_false] <;> omega
 ·cases hi with
  | none=>simp [Mq,HT.sIx]
  | some i =>
   simp only[Mq,HT.sIx,Option.getD_none,show (1:Int) > 0 by decide,if_true]
   by_cases h:i<0
   ·simp only[h,if_true] <;> omega
   ·simp only[h,if_false] <;> omega
theorem Zg(its:List Value)(lo hi:Option Int):slicePick its.toArray lo hi none=((its.drop (HT.sIx its.length 0 lo)).take (HT.sIx its.length its.length hi - HT.sIx its.length 0 lo)).toArray:=by
 obtain ⟨h1,h2,h3⟩:=cT lo hi its.toArray.size
 unfold slicePick
 rw[h1,h2,h3]
 simp only[sliceRange_one,pick_run,Ap] <;> rfl
def j3(K:PySem.W.Frag):V->Option Int->Option Int->Hp->VK->Prop:=λx lo hi H Q=>∃a xs,x=.ref a/\Ox K H a xs/\∀p,H p=none->Q (.ref p) (upd H p (.lst (Yd xs lo hi)))
theorem vS:A1 X (j3 X.K):=by
 intro pins s σ H x v vl vu lo hi sl Q I rx hs pl pu h
 obtain ⟨a,xs,rfl,hx,q⟩:=h
 cases rx
 obtain ⟨its,r,ht,hz⟩:=I.list hx
 have hlen:=r.length
 refine ⟨"list",_,P1.lookup,ht.isList.typeIs,?_⟩
 refine wpAny_getItem_list_slice ht.isList hs pl pu .none (by simp) ?_ (by rw[Ap] <;> omega)
 rw[Zg,<- hlen]
 refine ⟨.ref s.heap.objs.size,_,I.laid (t':=s.toks) (o:=.lst (Yd xs lo hi)) (λb ob q=>Al _ q) (Ah _) ?_,rfl,q _ (I.hok.fresh (Ah _))⟩
 exact ⟨Bv (Vk xs lo hi) hz,_,0,(r.drop (HT.sIx xs.length 0 lo)).take (HT.sIx xs.length xs.length hi - HT.sIx xs.length 0 lo),Bu _ rfl⟩
theorem bF:Mj X (.builtin "len") (λxs H Q=>∃p ys,xs=[.ref p]/\(Ox X.K H p ys\/Ri X.K H p ys)/\Q (.int ys.length) H):=by
 intro pins s σ H xs us Q I r h
 obtain ⟨p,ys,rfl,hq,q⟩:=h
 obtain ⟨u,rfl,rx⟩:=vals1 r
 cases rx
 have hn:=Rj
 rcases hq with hq | hq
 ·obtain ⟨its,r',pl,hz⟩:=I.list hq
  have hlen:=r'.length
  exact Calls.call_len_list pl.isList (by simp only[Ap] <;> omega) ⟨.int ys.length,H,I.tok _,⟨s.toks+1,by rw[Ap,hlen]⟩,q⟩
 ·obtain ⟨its,r',pl,hz⟩:=I.tuple hq
  have hlen:=r'.length
  exact len_tuple pl (by simp only[Ap] <;> omega) ⟨.int ys.length,H,I.tok _,⟨s.toks+1,by rw[Ap,hlen]⟩,q⟩
def V6(K:PySem.W.Frag)(T:String)(x:V)(H:Hp):Prop:=match x with
 | .str _=>T = "str"
 | .int _=>T = "int"
 | .ref p=>(T = "list" /\ ∃xs,Ox K H p xs)\/(T = "tuple" /\ ∃o,K.lookup p=some o/\o.cls=.type "tuple" /\ o.dict=none) \/
   (T = "dict" /\ ((∃kvs,H p=some (.dK kvs))\/∃kvs,H p=some (.dT kvs)))\/(T = "set" /\ ∃S n,H p=some (.set S n))
 | _=>False
theorem o8{pins:List (Addr×Obj)}{σ:St}{H:Hp}{s:Ai}{T:String}{x:V}{v:Value}(I:Inv X pins σ H s)(r:RelV x v)(ty:V6 X.K T x H):s.TypeIs v T/\∀a,v=.ref a->∃ob,s.heap.get? a=some ob/\ob.dict=none:=by
 cases x with
 | str z =>
  obtain ⟨t,rfl⟩:=r
  cases (show T = "str" from ty)
  exact ⟨typeIs_str s z t,λ_ e=>nomatch e⟩
 | int i =>
  obtain ⟨t,rfl⟩:=r
  cases (show T = "int" from ty)
  exact ⟨typeIs_int s i t,λ_ e=>nomatch e⟩
 | ref p =>
  cases r
  rcases ty with ⟨rfl,xs,hq⟩ | ⟨rfl,o,hk,hc,hd⟩ | ⟨rfl,hk⟩ | ⟨rfl,S,n,hk⟩
  ·obtain ⟨its,_,pl,_⟩:=I.list hq
   refine ⟨pl.isList.typeIs,λa e=>?_⟩
   cases e
   obtain ⟨o,n,e,c,hd,_⟩:=pl
   exact ⟨o,e,hd⟩
  ·refine ⟨⟨o,I.kIn p o hk,hc⟩,λa e=>?_⟩
   cases e
   exact ⟨o,I.kIn _ o hk,hd⟩
  ·have z:∃o,s.heap.get? p=some o/\o.ExactDict:=by
    rcases hk with ⟨kvs,hk⟩ | ⟨kvs,hk⟩
    ·obtain ⟨_,_,_,_,o,_,_,e,ex,_⟩:=I.hok p _ hk
     exact ⟨o,e,ex⟩
    ·obtain ⟨_,_,_,_,o,_,_,e,ex,_⟩:=I.hok p _ hk
     exact ⟨o,e,ex⟩
   obtain ⟨o,e,ex⟩:=z
   refine ⟨⟨o,e,ex.1⟩,λa e2=>?_⟩
   cases e2
   exact ⟨o,e,ex.2.1⟩
  ·obtain ⟨o,_,_,_,e,ex,_⟩:=I.hok p _ hk
   refine ⟨⟨o,e,ex.1⟩,λa e2=>?_⟩
   cases e2
   exact ⟨o,e,ex.2.1⟩
 | _=>exact Jd ty
def Y7(K:PySem.W.Frag)(T:String)(r:V->List V->Hp->VK->Prop)(to:TE)(t:TA):TE:=λσ H Q=>to σ H λx H1=>V6 K T x H1/\t σ H1 λxs H2=>r x xs H2 Q
variable{o e:Expr}{es:List Expr}{to:TE}{t:TA}{name:Str}{apos cpos:Pos}{T id:String}{r:V->List V->Hp->VK->Prop}
theorem jX(pa:PlainAttrs T)(slot:Slot T name id)(hty:typeOf (.builtin id)=pure (.type "method_descriptor"))(hm:Y1 X id r)(ho:PE X o to)(ha:PA X (e::es) t)
  (hbase:Yx o name X.env (eval o X.env)=eval o X.env:=by rfl)
  (hfew:((Io cpos (Bs (e::es) X.env)).all (λx=>!x.1) && (backToKw cpos (keywordEach [] X.env)).all (λx=>x.1.isSome)
   && decide ((e::es).length+([]:List Wh).length+(if ([]:List Wh).isEmpty then 0 else 1)<30))=true:=by rfl)
  (hline:(apos.endLine == cpos.line)=true:=by rfl) (hs:Bs (e::es) X.env=(false,eval e X.env)::Bs es X.env:=by rfl) (hplain:(Io cpos (Bs es X.env)).any (·.1)=false:=by rfl) :
  PE X (.Call (.Attribute o name apos) (e::es) [] cpos) (Y7 X.K T r to t):=by
 intro pins s σ H Q I h
 refine wpAny_Call_method_late hbase hfew hline rfl (Fs (ho pins s σ H _ I h) λv s1 q0_ => ?_)
 obtain ⟨x,H1,I1,r1,ty,q1⟩ := q0_
 obtain ⟨h1,h2⟩:=o8 I1 r1 ty
 refine ⟨T,id,pa,slot,hty,h1,h2,?_⟩
 have hA:=ha cpos pins s1 σ H1 _ I1 q1
 rw[hs] at hA ⊢
 refine Calls.callWith_builtin (by show (false || (Io cpos (Bs es X.env)).any (·.1))=false; rw[hplain] <;> rfl) (Calls.evalArgs_plain ?_)
 exact Fs hA λus s2 ⟨vs,H2,I2,r2,q2⟩=>hm pins s2 σ H2 x vs v us Q I2 r1 r2 q2
end
def W1(X:Cx)(id:String)(r:V->List V->Hp->VK->Prop):Prop :=
 ∀(pins:List (Addr×Obj)) (s:Ai) (σ:St) (H:Hp) (x:V) (xs:List V) (v:Value) (us:List Value) (Q:VK),Inv X pins σ H s->RelV x v->Fi xs us->r x xs H Q ->
  wpAny (model X.prog X.w) X.A (call (.builtin id) (v::us)) (EP X pins σ Q) X.xe s
theorem Fi.one:∀{x:V} {us:List Value},Fi [x] us->∃u,us=[u]/\RelV x u
 | _,_,.cons r .nil=>⟨_,rfl,r⟩
section
variable{X:Cx}{pins:List (Addr×Obj)}{σ:St}{H:Hp}{s:Ai}{l b:Addr}{xs ys zs:List V}
theorem Inv.lset{its its':List Value}{n:Nat}{f:Array Value->Array Value}{t':Nat}(I:Inv X pins σ H s)(hH:H l=some (.lst xs))(e:s.heap.get? l=some { cls:=.type "list",data:=.seq its.toArray n })(hf:f its.toArray=its'.toArray)(hv:Fi ys its')(hz:ys.length<=Av):Inv X pins σ (upd H l (.lst ys)) { s with heap:=s.heap.update l (Co f),toks:=t' }:=by
 have q:=PySem.IsL.update e f
 rw[hf] at q
 refine I.write (x:=l) (e:=l) (by rw[hH]; exact trivial) (.inl rfl) (λb' u hb hu=>(jF s.heap (Co f) (Ow hb)).trans hu) ⟨_,q⟩ ?_
 exact ⟨hz,its',_,hv,q⟩
theorem Inv.lnew{its:List Value}{t':Nat}(I:Inv X pins σ H s)(hv:Fi ys its)(hz:ys.length<=Av):Inv X pins σ (upd H s.heap.objs.size (.lst ys)) { s with heap:=s.heap.push { cls:=.type "list",data:=.seq its.toArray },toks:=t' } :=
 I.laid (λ_ _ q=>Al _ q) (Ah _) ⟨hz,its,0,hv,Bu _ rfl⟩
theorem Inv.fresh(I:Inv X pins σ H s):H s.heap.objs.size=none:=I.hok.fresh (Ah _)
theorem Inv.lstM(I:Inv X pins σ H s)(hH:H l=some (.lst xs)):xs.length<=Av/\∃(its:List Value) (n:Nat),Fi xs its/\xs.length=its.length/\s.heap.get? l=some { cls:=.type "list",data:=.seq its.toArray n }:=by
 obtain ⟨z,its,n,r,e⟩:=I.hok l _ hH
 exact ⟨z,its,n,r,r.length,e⟩
theorem rW{n:Nat}(h:n<=Av):Me n=false:=by
 unfold Me
 exact decide_eq_false (by omega)
end
section
variable{X:Cx}
def uS:V->List V->Hp->VK->Prop:=λx vs H Q=>∃l xs y,x=.ref l/\vs=[y]/\H l=some (.lst xs)/\xs.length<Av/\Q .non (upd H l (.lst (xs++[y])))
theorem Kl:W1 X "list.append" uS:=by
 intro pins s σ H x vs v us Q I rx rv h
 obtain ⟨l,xs,y,rfl,rfl,hH,hz,q⟩:=h
 cases rx
 obtain ⟨u,rfl,ru⟩:=rv.one
 obtain ⟨z,its,n,r,hl,e⟩:=I.lstM hH
 refine call_meets F.slot_list_append ⟨_,e,rfl⟩ F.entry_list_append (F.args_list_append_2 _ _) (PySem.list_append l its.toArray n u (by rw[Ap]; omega)) ⟨e,?_⟩
 refine ⟨.non,_,I.lset (its':=its++[u]) hH e (by simp) (r.append (.cons ru .nil)) ?_,rfl,q⟩
 rw[Aw,Eg]
 omega
def wG:V->List V->Hp->VK->Prop:=λx vs H Q=>∃l b xs zs,x=.ref l/\vs=[.ref b]/\H l=some (.lst xs)/\H b=some (.lst zs)/\xs.length+zs.length<=Av/\Q .non (upd H l (.lst (xs++zs)))
theorem oD:W1 X "list.extend" wG:=by
 intro pins s σ H x vs v us Q I rx rv h
 obtain ⟨l,b,xs,zs,rfl,rfl,hH,hB,hz,q⟩:=h
 cases rx
 obtain ⟨u,rfl,ru⟩:=rv.one
 cases ru
 obtain ⟨z,its,n,r,hl,e⟩:=I.lstM hH
 obtain ⟨z2,its2,n2,r2,hl2,e2⟩:=I.lstM hB
 have hsz:its.toArray.size+its2.toArray.size<=Av:=by rw[Ap,Ap]; omega
 have hlong:¬ (!its.toArray.isEmpty && Me (its.toArray.size+its2.toArray.size))=true:=by
  rw[rW hsz,Sf]
  exact Bx
 refine call_meets F.slot_list_extend ⟨_,e,rfl⟩ F.entry_list_extend (F.args_list_extend_2 _ _)
  (AutoSeq1.list_extend_list_list_0 l its.toArray n b its2.toArray n2 hlong (by rw[Ap]; omega) (by omega)) ⟨e,e2,?_⟩
 refine ⟨.non,_,I.lset (its':=its++its2) hH e (by simp) (r.append r2) ?_,rfl,q⟩
 rw[Aw]
 omega
def F0:R2:=λx y H Q=>∃l b xs zs,x=.ref l/\y=.ref b/\H l=some (.lst xs)/\H b=some (.lst zs)/\xs.length+zs.length<=Av/\∀p,H p=none->Q (.ref p) (upd H p (.lst (xs++zs)))
theorem bQ:Ur X (Jb .Add) F0:=by
 intro pins s σ H x y v u Q I rx ry h
 obtain ⟨l,b,xs,zs,rfl,rfl,hH,hB,hz,q⟩:=h
 cases rx
 cases ry
 obtain ⟨z,its,n,r,hl,e⟩:=I.lstM hH
 obtain ⟨z2,its2,n2,r2,hl2,e2⟩:=I.lstM hB
 refine PySem.P.add_list e e2 ?_ (by rw[Ap,Ap]; omega)
 have ea:its.toArray++its2.toArray=(its++its2).toArray:=by simp
 rw[ea]
 exact ⟨.ref _,_,I.lnew (t':=s.toks) (r.append r2) (by rw[Aw]; omega),rfl,q _ I.fresh⟩
end
end L2
namespace Att
open PySem PySem.W PySem.Calls PyProof.Rows
theorem Vz{P:Params}{h:Heap}:∀(ns:List Int) (vs:List Value),WellAll P h vs (ns.map WData.int)->He vs ns:=by
 intro ns
 induction ns with
 | nil =>
  intro vs w
  rw[We] at w
  cases w
  exact .nil
 | cons n ns ih =>
  intro vs w
  rw[Bc] at w
  cases w with
  | cons a b =>
   cases a
   exact .cons _ _ (ih _ b)
theorem mO{l:OpenLaw}{n:Nat}(hn:l.most=some n){P:Params}{h:Heap}{args:List WData}{vals:List Value}(hpre:l.row.toRowW.claim.pre args=true)(hwl:WellAll P h vals args):∃a vs ns,vals=[Ak a]/\args=[WData.list (ns.map WData.int)]/\h.get? a=some { cls:=.type "list",data:=.seq vs.toArray }/\He vs ns/\ns.length<=n:=by
 have hsh:WShape.hasAll [] args [.list .int]=true:=(pre_splitW hpre).1
 have hc:l.pre.holds [] { args:=args }=true:=(pre_splitW hpre).2
 obtain ⟨d,r,rfl,h1,h2⟩:=hasAllW_cons hsh
 obtain rfl:=hasAllW_nil h2
 obtain ⟨xs,rfl,h3⟩:=hasW_list h1
 obtain ⟨ns,rfl⟩:=items_int h3
 have hlen:ns.length<=n:=by
  unfold OpenLaw.pre at hc
  have h4:(WTm.not (.lt (.lit (.int (n:Int))) (.len (.arg 0)))).holds [] { args:=[.list (ns.map .int)] }=true:=by
   have h4:=(holds_andW hc).1
   rw[hn] at h4
   exact h4
  have h5:=condW_of h4 (w_not (w_lt w_lit (w_len_list (w_arg rfl))))
  rw[Ab] at h5
  refine Nat.le_of_not_lt λq=>?_
  have q':(n:Int)<((ns.length:Nat):Int):=by omega
  first
   | (rw[decide_eq_true q'] at h5; exact absurd h5 (by decide))
   | (simp at h5; omega)
 cases hwl with
 | cons w1 w2 =>
  cases w2
  cases w1 with
  | list ho hall=>exact ⟨_,_,ns,rfl,rfl,ho,Vz ns _ hall,hlen⟩
theorem mY(l:OpenLaw)(args:List WData):l.row.toRowW.claim.post args (.bool true) args=true :=
 postW_of (r:=l.row.toRowW) (X:=(true == true))
  (show WShape.has [] (.bool true) .bool=true by first | rfl | decide | simp [WShape.has,WShape.arms,WShape.armsAll])
  (show (WTm.eq .res (.lit (.bool true))).value [] { args:=args,res:=some (.bool true),after:=args }=some (.bool (true == true)) from w_eq_bool (w_res rfl) w_lit) rfl
theorem attach_call{l:OpenLaw}{n:Nat}{q:Bm}{loose:List Str}{XP:(Str->Option Value)->Heap->Prop}{YP:World->Heap->Prop}{d:DefRec}(hn:l.most=some n)(hdf:d.params.defaults=[])(call:∀(w:World) (s₀ s₁:Ai) (mg mb:Str->Option Value) (fa:Addr) (o:Obj) (pm cd doc:Value) (a:Addr) (vs:List Value) (ns:List Int),Ground q loose [] XP w s₀ mg mb s₁.heap->YP w s₁.heap->s₁.heap.get? fa=some o->o.data=.func (docDef d.name d.params d.body d.scope pm cd doc)->s₁.heap.CodeRec cd d.name->mg d.name=some (.ref fa)->s₁.heap.get? a=some { cls:=.type "list",data:=.seq vs.toArray }->He vs ns->ns.length<=n->s₁.gens=#[]->Hl (model l.prog w) Wc (.call (.ref fa) ⟨[.ref a],[]⟩) (λr s'=>r=.ok (.ret (.bool true))/\OldK s₁.heap s'.heap/\s'.os=s₁.os/\Qa s'.gens) s₁):WalkO q loose XP YP l.row.toRowW d [] (λf vs=>PySem.call f vs):=by
 intro w s₀ s₁ mg mb G Y fa o pm cd doc dV kV ho hd hcd hD hmg hg args vals as hpre hlay hrd hwl hlo
 obtain rfl:dV=.none:=Dflts.none hD hdf
 obtain rfl:kV=.none:=Dflts.noKw hD
 obtain ⟨a,vs,ns,rfl,rfl,hobj,hints,hlen⟩:=mO hn hpre hwl
 refine enter_call (Nv (call w s₀ s₁ mg mb fa o pm cd doc a vs ns G Y ho (fd_plain hd) hcd hmg hobj hints hlen hg) λr s' hq=>?_)
 obtain ⟨rfl,h2,h3,h4⟩:=hq
 exact ⟨.inl ⟨.bool true,.bool true,[],rfl,λ_=>rfl,.bool true,mY l _,λ_=>⟨Dz,λ_ hm=>(nomatch hm)⟩⟩,h2,h3,h4⟩
end Att
namespace L2
open PySem PySem.Spec PyProof.Rows
theorem aI:∀{vs:List Value} {ns:List Int},He vs ns->Fi (ns.map V.int) vs
 | _,_,.nil=>.nil
 | _,_,.cons n t h=>.cons ⟨t,rfl⟩ (aI h)
def Mo(s:Stmt):Arguments:=match s with
 | .FunctionDef _ a _ _ _ _ _ _ _ _=>a
 | _=>{ posonlyargs:=[],args:=[],vararg:=none,kwonlyargs:=[],kw_defaults:=[],kwarg:=none,defaults:=[] }
def Kc(s:Stmt):List Stmt:=match s with
 | .FunctionDef _ _ b _ _ _ _ _ _ _=>b
 | _=>[]
def Ca(s:Stmt):Scope:=match s with
 | .FunctionDef _ _ _ _ _ _ sc _ _ _=>sc
 | _=>{ kind:=.function,names:=[],isGenerator:=false,isCoroutine:=false }
abbrev Kd:gZ:=λ_ _ _ _ _ _=>False
abbrev E0:XK:=λ_ _ _=>False
theorem Kb{X:Cx}:Om Kd X E0:=λ_ _ _ _ _ _ _ h=>h.elim
structure Fun(K:PySem.W.Frag)(x qual:Str)(st:Stmt)(f:Addr)(fd:Cg):Prop where
 ex:∃(oc:Value) (od:Option Addr) (kV doc pm:Value) (an:Option Addr) (cdv ct:Value) (osl:Array (Option Value)),
  fd=PySem.W.fnOf x qual (Mo st) (Kc st) (Ca st) .none kV doc pm an cdv ct/\K.lookup f=some ⟨oc,od,.func fd,osl⟩/\PySem.W.codeIn K cdv qual=true
 kp:PySem.W.keepIn K (.ref f)=true
section
variable{P:Bm}{w:World}{K:PySem.W.Frag}{mg:Str->Option Value}{base:Heap}
theorem Fun.ok{x qual:Str}{st:Stmt}{f:Addr}{fd:Cg}{N ps:List Str}{k:Nat}{sp:Sp}(F:Fun K x qual st f fd)(S:FnScope N ps (Ca st))(len:∀vs H Q E,sp vs H Q E->vs.length=ps.length)(hbody:∀(cdv:Value) (A:Cr) (outer:List Env) (s:Ai) (H:Hp) (vs:List V) (Q:VK) (E:XK),Room k (A.deeper (envOfC qual (Ca st) s.heap.objs.size f cdv))->sp vs H Q E->∃t,kY (Qr Kd P w K mg base N qual (Ca st) f cdv A outer s H E).nox (Kc st) t/\t { nx:=λ_ H'=>Q .non H',rt:=Q } (start N vs) H):FnOk P w K mg base Kd (k+1) f fd ps sp:=by
 obtain ⟨oc,od,kV,doc,pm,an,cdv,ct,osl,rfl,lk,hcd⟩:=F.ex
 refine C4 lk hcd S len λA outer s H vs Q E hr hsp=>?_
 obtain ⟨t,h,q⟩:=hbody cdv A outer s H vs Q E hr hsp
 exact ⟨t,h.nox,q⟩
theorem Fun.binds{x qual:Str}{st:Stmt}{f:Addr}{fd:Cg}{ps:List Str}(F:Fun K x qual st f fd)(h:∀(kV doc pm:Value) (an:Option Addr) (cdv ct:Value) (us:List Value),us.length=ps.length->bindArgs (PySem.W.fnOf x qual (Mo st) (Kc st) (Ca st) .none kV doc pm an cdv ct) ⟨us,[]⟩=pure (ps.zip us)):Binds K fd ps []:=by
 obtain ⟨oc,od,kV,doc,pm,an,cdv,ct,osl,rfl,lk,hcd⟩:=F.ex
 exact .all (h kV doc pm an cdv ct)
theorem qW{x qual:Str}{st:Stmt}{f:Addr}{oc:Value}{od an:Option Addr}{osl:Array (Option Value)}{kV doc pm cdv ct:Value}(l:K.lookup f=some ⟨oc,od,.func (PySem.W.fnOf x qual (Mo st) (Kc st) (Ca st) .none kV doc pm an cdv ct),osl⟩)(c:PySem.W.codeIn K cdv qual=true)(k:PySem.W.keepIn K (.ref f)=true):Fun K x qual st f (PySem.W.fnOf x qual (Mo st) (Kc st) (Ca st) .none kV doc pm an cdv ct):=⟨⟨oc,od,kV,doc,pm,an,cdv,ct,osl,rfl,l,c⟩,k⟩
end
theorem Uv{n:Nat}(h:n<=1000):n<Av:=Nh h (by decide)
section
variable{X:Cx}
theorem pv(i:Nat){x:Str}{pos:Pos}(hN:X.N[i]? = some x:=by rfl)(hv:P6 X.env.scope x:=by first | exact Ff rfl | exact Or.inr (Ff rfl) | exact Or.inr (Or.inr rfl))(hd:(x == ("__debug__" : Str))=false:=by decide)(hcd:(x == ("__classdict__" : Str))=false:=by decide):PE X (.Name x pos) (Qt i):=r6 hN hv hd hcd
end
theorem nX{A B:Prop}(h:B):if false=true then A else B:=by
 rw[if_neg Bx]
 exact h
theorem gI{A B:Prop}(h:A):if true=true then A else B:=by
 rw[if_pos rfl]
 exact h
theorem R1{c A B:Prop}[Decidable c](h1:c->A)(h2:¬ c->B):if c then A else B:=by
 by_cases h:c
 ·rw[if_pos h]
  exact h1 h
 ·rw[if_neg h]
  exact h2 h
def Jk(H H':Hp):Prop:=∀b o,H b=some o->H' b=some o
theorem Jk.refl(H:Hp):Jk H H:=λ_ _ h=>h
theorem Jk.trans{H H1 H2:Hp}(a:Jk H H1)(b:Jk H1 H2):Jk H H2:=λc o h=>b c o (a c o h)
theorem Jk.free{H H':Hp}(e:Jk H H'){l:Addr}(h:H' l=Option.none):H l=Option.none:=by
 cases q:H l with
 | none=>rfl
 | some o =>
  rw[e l o q] at h
  cases h
end L2
namespace Nd
open PySem PySem.Spec PyProof.Rows L2
def Ea(X:Cx)(scope:Scope)(cl:List (Str×Addr))(N:List Str)(fp:List Addr)(s:Ai)(H:Hp):Cx where
 prog:=X.prog
 w:=X.w
 K:=X.K
 mg:=X.mg
 base:=X.base
 A:=X.A
 N:=N
 s₀:=s
 H₀:=H
 env:=Vt scope (Eb (s.heap.objs.size+1) scope.names cl) s.heap.objs.size X.env
 outer:=X.stack
 stack:=X.stack
 ex:=fp
 fn:=λy=>decide (scope.names.lookup y=some Dl)
 calm:=X.calm
 pn:=[]
 xe:=λ_ _=>False
section
variable{prog:Bm}{w:World}{A:Cr}{R:Result->Ai->Prop}{s:Ai}
theorem Rn{elt tg iter:Expr}{ifs:List Expr}{scope:Scope}{pos:Pos}{it acc:Value}{env:Env}(J:Nat->Ai->Prop) (turn:∀n s,J n s->wpAny (model prog w) A (pyNext it) (λr s1=>match r with
    | none=>R (.ok .next) s1
    | some v=>wpAny (model prog w) A (Hj tg it v) (λ_ s2=>wpAny (model prog w) A (Jv tg env v) (λ_ s3 =>
      wpAny (model prog w) A (forIn ifs true λc r=>if r=true then (do
        let ok <- isTrue c env (eval c env)
        pure (Fb ok)) else pure (Fb r)) (λok s4 =>
       if ok=true then
        wpAny (model prog w) A (eval elt env) (λx s5=>wpAny (model prog w) A (call (.builtin "list.append") [acc,x]) (λ_ s6=>∃m,m<n/\J m s6) (λ_ _=>False) s5) (λ_ _=>False) s4
       else ∃m,m<n/\J m s4) (λ_ _=>False) s3) (λ_ _=>False) s2) (λ_ _=>False) s1) (λ_ _=>False) s)
  (n:Nat) (h:J n s):Hl (model prog w) A (.compLoop (.ListComp elt [⟨tg,iter,ifs,0⟩] scope pos) 0 it acc env) R s:=by
 refine codeAny_loop rfl J (λn s hJ=>?_) n h
 show wpAny _ A (Sem.onRaise (compTurn (.ListComp elt [⟨tg,iter,ifs,0⟩] scope pos) 0 it acc env) (λx=>do noteFrame x env; theTreesLotGoes x)) _ _ s
 refine wpAny_noted ?_
 rw[compTurn_list]
 refine Ac (Gu (Ac (Cy (turn n s hJ) (λr s1 h1=>?_) λ_ _ z=>z.elim)))
 cases r with
 | none=>exact Am h1
 | some v =>
  refine Ac (Cy h1 (λ_ s2 h2=>?_) λ_ _ z=>z.elim)
  refine Ac (Cy h2 (λ_ s3 h3=>?_) λ_ _ z=>z.elim)
  refine Ac (Cy h3 (λok s4 h4=>?_) λ_ _ z=>z.elim)
  cases ok with
  | false=>exact Am ⟨rfl,h4⟩
  | true =>
   refine Ac (Ac (Cy h4 (λx s5 h5=>?_) λ_ _ z=>z.elim))
   exact Ac (Cy h5 (λ_ s6 h6=>Am (Am ⟨rfl,h6⟩)) λ_ _ z=>z.elim)
end
section
variable{X:Cx}{pins:List (Addr×Obj)}{σ:L2.St}{H:Hp}{s:Ai}{scope:Scope}{cl:List (Str×Addr)}{fp:List Addr}{N:List Str}
def oN(scope:Scope)(x:Str):Prop:=scope.names.lookup x=some .local\/scope.names.lookup x=some .cell
structure CompScope(X:Cx)(scope:Scope)(cl:List (Str×Addr))(x:Str)(ys:List Str)(js:List Nat):Prop where
 clos:closureFor scope X.env=pure cl
 oc:(∀y∈scope.names,y.2≠.cell)\/∃z:Str,(∀n,Eb n scope.names []=[(z,n)])/\scope.names.lookup z=some .cell/\∀y∈scope.names,y.2=.cell->y.1=z
 kind:scope.kind=.function
 locs:∀y∈scope.names,y.2=.local->scope.names.lookup y.1=some .local
 own:oN scope x
 sub:∀y c,cl.lookup y=some c->X.env.cells.lookup y=some c
 has_:(scope.names.all λy=>!(y.2 == Dk) || (cl.lookup y.1).isSome)=true
 nd:(x::ys).Nodup
 len:ys.length=js.length
 at_:∀(k:Nat) (y:Str) (j:Nat),ys[k]? = some y->js[k]? = some j->X.N[j]? = some y/\scope.names.lookup y=some .free/\(X.env.kindOf y=some .cell\/X.env.kindOf y=some .free)
theorem CompScope.has{x:Str}{ys:List Str}{js:List Nat}(C:CompScope X scope cl x ys js):∀y∈scope.names,y.2=.free->(cl.lookup y.1).isSome=true:=λy hy e=>by
 have h:=List.all_eq_true.mp C.has_ y hy
 rw[e] at h
 simpa using h
theorem gT{x y:Str}{j:Nat}(clos:closureFor scope X.env=pure cl)(nocell:∀y∈scope.names,y.2≠.cell)(kind:scope.kind=.function)(locs:∀y∈scope.names,y.2=.local->scope.names.lookup y.1=some .local)(own:scope.names.lookup x=some .local)(sub:∀y c,cl.lookup y=some c->X.env.cells.lookup y=some c)(has_:(scope.names.all λy=>!(y.2 == Dk) || (cl.lookup y.1).isSome)=true)(nd:[x,y].Nodup)(hN:X.N[j]? = some y)(hfree:scope.names.lookup y=some .free)(hk:X.env.kindOf y=some .cell):CompScope X scope cl x [y] [j] :=
 ⟨clos,.inl nocell,kind,locs,.inl own,sub,has_,nd,rfl,λk z i e1 e2=>by
  cases k with
  | zero =>
   have h1:y=z:=by simpa using e1
   have h2:j=i:=by simpa using e2
   subst h1 h2
   exact ⟨hN,hfree,.inl hk⟩
  | succ k=>simp at e1⟩
theorem Pk{env:Env}{y:Str}{k:Mt}:∀{names:List (Str×Mt)},
  (names.map λ(n,k)=>if (k == Dk && env.scope.kind == .function && env.kindOf n == some .cell) then (n,Dl) else (n,k)).lookup y=some k ->
  ∃k0,names.lookup y=some k0/\(k=k0\/(k0=.free/\k=.cell))
 | [],h=>by simp at h
 | (n,k0)::r,h=>by
  have ih:=@Pk env y k r
  rw[Bc] at h
  by_cases hc:(k0 == Dk && env.scope.kind == .function && env.kindOf n == some .cell)=true
  ·have h':Ke y ((n,Dl)::(r.map λ(n,k)=>if (k == Dk && env.scope.kind == .function && env.kindOf n == some .cell) then (n,Dl) else (n,k)))=some k:=by
    simpa [hc] using h
   cases hy:y == n with
   | true =>
    rw[Bq,hy] at h'
    have e:k=Dl:=by simpa using h'.symm
    refine ⟨k0,by rw[Bq,hy],.inr ⟨?_,e⟩⟩
    rw[Gk,Gk] at hc
    exact Dg hc.1.1
   | false =>
    rw[Bq,hy] at h'
    obtain ⟨q,e1,e2⟩:=ih h'
    exact ⟨q,by rw[Bq,hy]; exact e1,e2⟩
  ·have h':Ke y ((n,k0)::(r.map λ(n,k)=>if (k == Dk && env.scope.kind == .function && env.kindOf n == some .cell) then (n,Dl) else (n,k)))=some k:=by
    simpa [hc] using h
   cases hy:y == n with
   | true =>
    rw[Bq,hy] at h'
    exact ⟨k0,by rw[Bq,hy],.inl (by simpa using h'.symm)⟩
   | false =>
    rw[Bq,hy] at h'
    obtain ⟨q,e1,e2⟩:=ih h'
    exact ⟨q,by rw[Bq,hy]; exact e1,e2⟩
theorem Su{env:Env}{y:Str}:∀{names:List (Str×Mt)},names.lookup y=some .free ->
  (names.map λ(n,k)=>if (k == Dk && env.scope.kind == .function && env.kindOf n == some .cell) then (n,Dl) else (n,k)).lookup y=some .cell \/
  (names.map λ(n,k)=>if (k == Dk && env.scope.kind == .function && env.kindOf n == some .cell) then (n,Dl) else (n,k)).lookup y=some .free
 | [],h=>by simp at h
 | (n,k0)::r,h=>by
  have ih:=@Su env y r
  show Ke y ((if (k0 == Dk && env.scope.kind == .function && env.kindOf n == some .cell)=true then (n,Dl) else (n,k0))::_)=_\/Ke y ((if (k0 == Dk && env.scope.kind == .function && env.kindOf n == some .cell)=true then (n,Dl) else (n,k0))::_)=_
  by_cases hc:(k0 == Dk && env.scope.kind == .function && env.kindOf n == some .cell)=true
  ·rw[if_pos hc]
   cases hy:y == n with
   | true=>exact .inl (by rw[Bq,hy])
   | false =>
    rw[Bq,hy] at h
    simp only[Bq,hy]
    exact ih h
  ·rw[if_neg hc]
   cases hy:y == n with
   | true =>
    rw[Bq,hy] at h
    exact .inr (by rw[Bq,hy]; exact h)
   | false =>
    rw[Bq,hy] at h
    simp only[Bq,hy]
    exact ih h
theorem Hn{α β:Type}[BEq α][LawfulBEq α]{y:α}{k:β}:∀{l:List (α×β)},l.lookup y=some k->(y,k)∈l
 | [],h=>by simp at h
 | (n,v)::r,h=>by
  cases hy:y == n with
  | true =>
   rw[Bq,hy] at h
   have e:=Dg hy
   subst e
   have : v=k:=by simpa using h
   subst this
   exact Aa
  | false =>
   rw[Bq,hy] at h
   exact Ae _ (Hn h)
end
theorem bE{a c:Nat}(h:c<a)(e:c=a+1):False:=by omega
theorem Hs:∀(names:List (Str×Mt)) (n:Nat) (acc:List (Str×Addr)),Eb n names acc=Eb n names []++acc
 | [],_,_=>rfl
 | (x,k)::r,n,acc=>by
  unfold Eb
  by_cases h:(k == Dl)=true
  ·rw[if_pos h,if_pos h,Hs r _ ((x,n)::acc),Hs r _ [(x,n)],Bg]; rfl
  ·rw[if_neg h,if_neg h]; exact Hs r n acc
theorem Lu:∀(names:List (Str×Mt)) (n:Nat) (acc:List (Str×Addr)),(∀y∈names,y.2≠.cell)->Eb n names acc=acc
 | [],_,_,_=>rfl
 | (x,k)::r,n,acc,h=>by
  unfold Eb
  rw[if_neg (by have:=h (x,k) Aa; simpa using this)]
  exact Lu r n acc λy hy=>h y (Ae _ hy)
theorem Sq{env:Env}{y:Str}:∀{names:List (Str×Mt)},names.lookup y=some .cell->(names.map λ(n,k)=>if (k == Dk && env.scope.kind == .function && env.kindOf n == some .cell) then (n,Dl) else (n,k)).lookup y=some .cell
 | [],h=>by simp at h
 | (n,k0)::r,h=>by
  have ih:=@Sq env y r
  show Ke y ((if (k0 == Dk && env.scope.kind == .function && env.kindOf n == some .cell)=true then (n,Dl) else (n,k0))::_)=_
  by_cases hc:(k0 == Dk && env.scope.kind == .function && env.kindOf n == some .cell)=true
  ·rw[if_pos hc]
   cases hy:y == n with
   | true=>rw[Bq,hy]
   | false=>rw[Bq,hy] at h ⊢; exact ih h
  ·rw[if_neg hc]
   cases hy:y == n with
   | true=>rw[Bq,hy] at h ⊢; exact h
   | false=>rw[Bq,hy] at h ⊢; exact ih h
theorem Qj{env:Env}{scope:Scope}{x:Str}(o:oN scope x):Loc (relabel scope env) x:=o.imp lookup_relabel_local Sq
section
variable{X:Cx}{scope:Scope}{cl:List (Str×Addr)}{x y:Str}{ys:List Str}{js:List Nat}{n c:Nat}{N:List Str}{fp:List Addr}{s:Ai}{H:Hp}
theorem Uz(o:oN scope x):(Ea X scope cl N fp s H).fn x=true\/(Ea X scope cl N fp s H).env.scope.names.lookup x=some .local:=by
 rcases o with o | o
 ·exact .inr (lookup_relabel_local o)
 ·exact .inl (decide_eq_true o)
theorem CompScope.split(C:CompScope X scope cl x ys js)(h:(Eb n scope.names cl).lookup y=some c):cl.lookup y=some c\/(c=n/\Eb 0 scope.names []=[(y,0)]/\Eb n scope.names []=[(y,n)]/\scope.names.lookup y=some .cell):=by
 rcases C.oc with o | ⟨z,o1,o2,_⟩
 ·rw[Lu _ _ _ o] at h; exact .inl h
 ·rw[Hs,o1] at h
  have h2:Ke y ((z,n)::cl)=some c:=h
  rw[Bq] at h2
  cases e:y == z with
  | true =>
   rw[e] at h2
   have ec:c=n:=(Bt h2).symm
   have ey:=Dg e
   subst ey
   exact .inr ⟨ec,o1 0,o1 n,o2⟩
  | false=>rw[e] at h2; exact .inl h2
theorem CompScope.find(C:CompScope X scope cl x ys js)(h:cl.lookup y=some c)(hy:scope.names.lookup y=some .free):(Eb n scope.names cl).lookup y=some c:=by
 rcases C.oc with o | ⟨z,o1,o2,_⟩
 ·rw[Lu _ _ _ o]; exact h
 ·rw[Hs,o1]
  show Ke y ((z,n)::cl)=some c
  rw[Bq]
  cases e:y == z with
  | true=>rw[Dg e,o2] at hy; cases hy
  | false=>exact h
theorem CompScope.cellAt(C:CompScope X scope cl x ys js)(hy:(y,Dl)∈scope.names):(Eb n scope.names cl).lookup y=some n:=by
 rcases C.oc with o | ⟨z,o1,o2,o3⟩
 ·exact absurd rfl (o _ hy)
 ·have ez:y=z:=o3 _ hy rfl
  subst ez
  rw[Hs,o1]
  show Ke y ((y,n)::cl)=some n
  rw[Bq,beq_self_eq_true]
theorem Qi{M:Model}{A:Cr}{E:Value->Ai->Prop}{Q:Env->Ai->Prop}(C:CompScope X scope cl x ys js)(hQ:∀h4,h4.Ns s.heap.objs.size (λ_=>none)->(∀b u,s.heap.get? b=some u->h4.get? b=some u)->(∀z n,Eb (s.heap.objs.size+1) scope.names []=[(z,n)]->h4.IsCell n none)->Q (newEnv scope s.heap.objs.size X.env.globals (Eb (s.heap.objs.size+1) scope.names cl) X.env.qual none .none (some X.env) Sj) { s with heap:=h4,toks:=s.toks+([]:List (Str×Value)).length }):wpAny M A (Lf scope X.env.globals cl [] X.env.qual none .none (some X.env)) Q E s:=by
 simp only[Lf,Option.isSome_some,if_true]
 refine Ac (wpAny_alloc (Ac (wpAny_layCells _ (λx k cs=>by cases e:k == Dl <;> simp [e]) _ _ _ _ ?_)))
 have hsz:({ s with heap:=s.heap.push { cls:=.type "dict",data:=.dict #[] } }:Ai).heap.objs.size=s.heap.objs.size+1:=Heap.size_push ..
 rw[hsz]
 refine Ac (Am (Am (hQ _ ((Heap.Ns.new s.heap (.type "dict")).keeps (pushCells_keeps _ _)) (λb u e=>pushCells_keeps _ _ b u (Al _ e)) λz n e=>?_)))
 have ok:=(cellsFrom_ok scope.names (s.heap.push { cls:=.type "dict",data:=.dict #[] }) 0 [] ⟨λ_ _ hm=>(nomatch hm),Dz⟩ (Cz _)).empty z n
 rw[show (s.heap.push { cls:=.type "dict",data:=.dict #[] }).objs.size=s.heap.objs.size+1 from hsz,e] at ok
 exact (ok (Af.mpr rfl)).1
end
section
variable{X:Cx}{pins:List (Addr×Obj)}{σ:L2.St}{H:Hp}{s:Ai}{scope:Scope}{cl:List (Str×Addr)}{fp:List Addr}{N:List Str}
theorem wQ{x:Str}{ys:List Str}{js:List Nat}(C:CompScope X scope cl x ys js)(I:Inv X pins σ H s)(hf:∀b∈fp,Lk X pins H b)(ho:∀b∈fp,∃o,s.heap.get? b=some o):(Ea X scope cl N fp s H).Ok where
 mod:=I.ok.mod
 kind:=C.kind
 glob:=I.ok.glob
 blt:=I.ok.blt
 above:=Ah _
 inj:=λy z c h1 h2=>by
  have lt:∀y,cl.lookup y=some c->c<s.heap.objs.size:=λy e=>let ⟨_,q⟩:=I.cell y c (C.sub y c e); q.lt
  rcases C.split h1 with h1 | ⟨e1,a1,_⟩
  ·rcases C.split h2 with h2 | ⟨e2,_⟩
   ·exact I.ok.inj y z c (C.sub y c h1) (C.sub z c h2)
   ·exact (bE (lt y h1) e2).elim
  ·rcases C.split h2 with h2 | ⟨e2,a2,_⟩
   ·exact (bE (lt z h2) e1).elim
   ·rw[a1] at a2
    simpa using a2
 has:=λy hy=>by
  have key:∀k,(k=Dl\/k=Dk)->(Vt scope cl s.heap.objs.size X.env).kindOf y=some k->∃c,(Eb (s.heap.objs.size+1) scope.names cl).lookup y=some c:=by
   intro k hk e
   obtain ⟨k0,e0,e1⟩:=Pk (names:=scope.names) (env:=X.env) (y:=y) (k:=k) e
   have m:=Hn e0
   by_cases hk0:k0=.cell
   ·exact ⟨_,C.cellAt (hk0▸m)⟩
   have hfree:k0=.free:=by
    rcases e1 with e1 | e1
    ·subst e1
     rcases hk with hk | hk
     ·exact absurd hk hk0
     ·exact hk
    ·exact e1.1
   obtain ⟨c,hc⟩:=Nq.mp (C.has _ m hfree)
   exact ⟨c,C.find hc (hfree▸e0)⟩
  rcases hy with hy | hy
  ·exact key _ (.inl rfl) hy
  ·exact key _ (.inr rfl) hy
 cab:=λy c h e=>by
  have h:scope.names.lookup y=some .cell:=of_decide_eq_true h
  have:=(C.cellAt (n:=s.heap.objs.size+1) (Hn h)).symm.trans e
  show s.heap.objs.size<=c
  have:=Bt this
  omega
 hd:=I.ok.hd
 frames:=I.ok.frames
 stk:=.inl rfl
 exf:=λb hb=>by
  obtain ⟨o,e⟩:=ho b hb
  refine ⟨Cc (Bb e),λy c hc=>?_⟩
  rcases C.split hc with hc | ⟨hc,_⟩
  ·exact (hf b hb).2.2.2.2.1 y c (C.sub y c hc)
  ·exact λz=>bE (Bb e) (z.symm.trans hc)
 bs:=I.bs
 bsz:=Bv I.ok.bsz I.sz
 noex:=λb o e hb=>by
  rcases (hf b hb).2.2.2.1 with z | z
  ·exact I.ok.noex b o e z
  ·exact absurd (Br (Bb (I.ok.bs b o e).1) z) (Gh _)
 exfs:=λb hb z=>by
  rcases An.mp (I.stkSub b z) with e | e
  ·exact (hf b hb).2.1 e
  ·exact (hf b hb).2.2.1 e
 funs:=I.stack
 frf:=I.stkFree
 tab:=I.ok.tab.un I.base
def Em(σ:L2.St)(js:List Nat):L2.St:=js.map λj=>(σ[j]?).join
theorem Oa{x:Str}{pre ys:List Str}{js:List Nat}{h1:Heap}{tk:Nat}{m1:Str->Option Value}(C:CompScope X scope cl x ys js)(I:Inv X pins σ H s)(hf:∀b∈fp,Lk X pins H b)(ho:∀b∈fp,∃o,s.heap.get? b=some o)(hns:h1.Ns s.heap.objs.size m1)(keep:∀b u,s.heap.get? b=some u->h1.get? b=some u)(new:∀z n,Eb (s.heap.objs.size+1) scope.names []=[(z,n)]->h1.IsCell n none):Inv (Ea X scope cl (pre++ys) fp s H) [] (pre.map (λ_=>none)++Em σ js) H { s with heap:=h1,toks:=tk }:=by
 have cellK:∀y c,cl.lookup y=some c->∃v,s.heap.IsCell c v/\h1.IsCell c v:=λy c e=>by
  obtain ⟨v,o,q,d⟩:=I.cell y c (C.sub y c e)
  exact ⟨v,⟨o,q,d⟩,o,keep c o q,d⟩
 refine ⟨wQ C I hf ho,rfl,I.bare,Un.kept keep,⟨m1,hns,λi y v e1 e2 _=>?_⟩,λy c e=>?_,I.hok.fresh (Ah _),λy c e=>?_,λp hp=>?_,I.hok.kept keep,?_⟩
 ·have e2:(pre.map (λ_=>(none:Option V))++Em σ js)[i]? = some (some v):=e2
  have e1:(pre++ys)[i]? = some y:=e1
  by_cases hi:i<pre.length
  ·rw[Fe (by rw[Ab]; exact hi),Bf] at e2
   cases q:pre[i]? with
   | none=>rw[q] at e2; cases e2
   | some z=>rw[q] at e2; cases e2
  ·rw[Ej (by rw[Ab]; omega),Ab] at e2
   rw[Ej (by omega)] at e1
   have e1':=e1
   have e2':=e2
   generalize i - pre.length=k at e1' e2'
   unfold Em at e2'
   rw[Bf] at e2'
   cases ej:js[k]? with
   | none=>rw[ej] at e2'; simp at e2'
   | some j =>
    rw[ej] at e2'
    have e3:(σ[j]?).join=some v:=by simpa using e2'
    have e4:σ[j]? = some (some v):=by
     cases q:σ[j]? with
     | none=>rw[q] at e3; simp at e3
     | some z=>rw[q] at e3; simp at e3; rw[e3]
    obtain ⟨a1,a2,a3⟩:=C.at_ k y j e1' ej
    obtain ⟨m0,_,hl⟩:=I.loc
    have vis:P6 X.env.scope y:=a3.elim (λa3=>.inr (.inl a3)) λa3=>.inr (.inr a3)
    obtain ⟨u,r,l⟩:=hl j y v a1 e4 vis
    refine ⟨u,r,?_⟩
    rcases l with ⟨k1,_⟩ | ⟨_,c,hc,hv⟩
    ·rcases a3 with a3 | a3 <;> rw[k1] at a3 <;> cases a3
    ·obtain ⟨c',hc'⟩:=Nq.mp (C.has _ (Hn a2) rfl)
     have ec:c'=c:=by
      have:=C.sub y c' hc'
      rw[hc] at this
      exact (Bt this).symm
     subst ec
     obtain ⟨o,q,d⟩:=hv
     exact .inr ⟨Su a2,c',C.find hc' a2,o,keep c' o q,d⟩
 ·rcases C.split e with e | ⟨e,_,e',_⟩
  ·obtain ⟨v,_,z⟩:=cellK y c e
   exact ⟨v,z⟩
  ·exact ⟨_,e▸new _ _ e'⟩
 ·rcases C.split e with e | ⟨e,_⟩
  ·exact I.freeC y c (C.sub y c e)
  ·exact I.hok.fresh (by omega)
 ·cases (show p∈([]:List (Addr×Obj)) from hp)
 ·show (pre.map (λ_=>(none:Option V))++Em σ js).length=(pre++ys).length
  simp [Em,C.len]
end
section
variable{X:Cx}
def qV(J:It)(js:List Nat)(tc:TT)(te:TE)(σ:L2.St)(H1:Hp)(Q:VK):Prop:=∀D,H1 D=none->∃W:Nat->Nat->Hp->Prop,(∃m,W 0 m (upd H1 D (.lst [])))/\∀i m H,W i m H ->
 (J.stop i H/\Q (.ref D) H)\/(J.go i H/\∀x H',J.yld i H x H'->∃(N1:Hp->Prop) (N2:VK),(∀H2,N1 H2->∃m',m'<m/\W (i+1) m' H2) /\
  (∀y H3,N2 y H3->∃acc,H3 D=some (.lst acc)/\acc.length<Av/\∃m',m'<m/\W (i+1) m' (upd H3 D (.lst (acc++[y])))) /\
  tc (some x::Em σ js) H' λc H2=>if c=true then te (some x::Em σ js) H2 N2 else N1 H2)
def jL(wi:TI)(js:List Nat)(tc:TT)(te:TE):TE:=λσ H Q=>wi σ H λJ H1=>qV J js tc te σ H1 Q
def Wv:TT:=λ_ H Q=>Q true H
theorem A0{σ:L2.St}{H:Hp}{te:TE}{N1:Hp->Prop}{N2:VK}{σ':L2.St}(h:te σ' H N2):Wv σ H λc H2=>if c=true then te σ' H2 N2 else N1 H2:=by
 show if true=true then te σ' H N2 else N1 H
 exact gI h
def tE(X:Cx)(ifs:List Expr)(t:TT):Prop :=
 ∀(pins:List (Addr×Obj)) (s:Ai) (σ:L2.St) (H:Hp) (Q:Bool->Hp->Prop),Inv X pins σ H s->t σ H Q ->
  wpAny (model X.prog X.w) X.A (forIn ifs true λc r=>if r=true then (do
   let ok <- isTrue c X.env (eval c X.env)
   pure (Fb ok)) else pure (Fb r)) (TP X pins σ Q) X.xe s
theorem Yj:tE X [] Wv:=λpins s σ H Q I h=>wpAny_tests_nil ⟨H,I,h⟩
theorem vQ{c:Expr}{t:TT}(h:PT X c t):tE X [c] t:=λpins s σ H Q I q=>wpAny_tests_one (h pins s σ H Q I q)
theorem gY{X X':Cx}{pins:List (Addr×Obj)}{σ σ':L2.St}{H3 H6:Hp}{s3 s7:Ai}{scope:Scope}{cl:List (Str×Addr)}{N:List Str}{fp:List Addr}(hX':Ea X scope cl N fp s3 H3=X')(I3:Inv X pins σ H3 s3)(f3:∀b∈fp,Lk X pins H3 b)(I7:Inv X' [] σ' H6 s7):∃m7,s7.heap.Ns s3.heap.objs.size m7/\∀h8,Ko s3.heap.objs.size s7.heap h8->Inv X pins σ H6 { s7 with heap:=h8 }:=by
 have eP:X'.prog=X.prog:=by rw[<- hX']; rfl
 have eW:X'.w=X.w:=by rw[<- hX']; rfl
 obtain ⟨m7,hn7,_⟩:=I7.loc
 have hn7':s7.heap.Ns s3.heap.objs.size m7:=by rw[<- hX'] at hn7; exact hn7
 refine ⟨m7,hn7',λh8 hs8=>?_⟩
 have I7f:H6 s3.heap.objs.size=none:=by have:=I7.free; rw[<- hX'] at this; exact this
 have b7:Un (nK X.stack) fp H3 H6 s3.heap s7.heap:=by have:=I7.base; rw[<- hX'] at this; exact this
 have ne8:∀b o,s3.heap.get? b=some o->b≠s3.heap.objs.size:=λb o q=>Cc (Bb q)
 have u8:Un (nK X.stack) fp H3 H6 s3.heap h8:=by
  refine ⟨λb o q n hb hx=>(hs8.2 b (ne8 b o q)).trans (b7.keep b o q n hb hx),λb o q n hb hx=>?_,b7.free,λb o q hx=>?_,b7.tups,b7.frzs,b7.tbls⟩
  ·obtain ⟨sl,z⟩:=b7.slot b o q n hb hx
   exact ⟨sl,(hs8.2 b (ne8 b o q)).trans z⟩
  ·obtain ⟨o',z⟩:=b7.there b o q hx
   exact ⟨o',(hs8.2 b (ne8 b o q)).trans z⟩
 have hok8:Za X.prog X.w H6 h8:=λb ob e=>by
  have hk7:=I7.hok
  rw[eP,eW] at hk7
  refine (hk7 b ob e).stay (λc w' hcc q=>(hs8.2 c ?_).trans q) (λ_ q=>q) λ_ _ q=>q
  rintro rfl
  rcases hcc with rfl | hcc
  ·rw[I7f] at e; cases e
  ·rw[I7f] at hcc; cases hcc
 have os7:s7.os=s3.os:=by have:=I7.os; rw[<- hX'] at this; exact this
 exact I3.call' (s':={ s7 with heap:=h8 }) (ch:=fp) os7 u8 hok8 I7.bare (λb hb=>⟨(f3 b hb).2.2.2.1,(f3 b hb).2.1,(f3 b hb).2.2.2.2.1,(f3 b hb).2.2.2.2.2⟩)
theorem Qc{X X':Cx}{σ':L2.St}{H3 H6:Hp}{s3 s7:Ai}{scope:Scope}{cl:List (Str×Addr)}{N:List Str}{fp:List Addr}(hX':Ea X scope cl N fp s3 H3=X')(I4:Inv X' [] σ' H6 s7){H':Hp}(hn:∀b∈fp,H' b=none):∀b∈fp,Lk X' [] H' b:=λb hb=>by
 have ok:=I4.ok
 have hex:b∈X'.ex:=by rw[<- hX']; exact hb
 exact ⟨hn b hb,(ok.exf b hex).1,ok.exfs b hex,.inl hex,(ok.exf b hex).2,λp hp=>by rw[<- hX'] at hp; cases (show p∈([]:List (Addr×Obj)) from hp)⟩
theorem Tj{X X':Cx}{H3:Hp}{s3:Ai}{scope:Scope}{cl:List (Str×Addr)}{N:List Str}{fp:List Addr}(hc:X.calm=true)(hX':Ea X scope cl N fp s3 H3=X'):X'.prog=X.prog/\X'.w=X.w/\X'.K=X.K/\X'.A=X.A/\X'.calm=true:=by
 subst hX'
 exact ⟨rfl,rfl,rfl,rfl,hc⟩
theorem Ut{X X':Cx}{pins:List (Addr×Obj)}{σ σ':L2.St}{H3 H6:Hp}{s3 s7:Ai}{scope:Scope}{cl:List (Str×Addr)}{N:List Str}{fp:List Addr}(hX':Ea X scope cl N fp s3 H3=X')(I3:Inv X pins σ H3 s3)(f3:∀b∈fp,Lk X pins H3 b)(I7:Inv X' [] σ' H6 s7):(∃m7,s7.heap.Ns s3.heap.objs.size m7)/\H6 s3.heap.objs.size=none/\Inv X pins σ H6 s7:=by
 subst hX'
 obtain ⟨m7,hn7,_⟩:=I7.loc
 exact ⟨⟨m7,hn7⟩,I7.free,I3.call' (s':=s7) (ch:=fp) I7.os I7.base I7.hok I7.bare (λb hb=>⟨(f3 b hb).2.2.2.1,(f3 b hb).2.1,(f3 b hb).2.2.2.2.1,(f3 b hb).2.2.2.2.2⟩)⟩
theorem So{X:Cx}{pins:List (Addr×Obj)}{σ:L2.St}{H2:Hp}{s2:Ai}{tg:Expr}{J:It}{fp:List Addr}{it:Addr}{tn:Nat->Heap->Prop}(I2:Inv X pins σ H2 s2)(T:Turn X.prog X.w X.K tg J fp it tn)(st2:tn 0 s2.heap)(f2:∀b∈fp,Lk X pins H2 b){ob:Obj}{ho:HO}(I3:Inv X pins σ (upd H2 s2.heap.objs.size ho) { s2 with heap:=s2.heap.push ob }):(∀b∈fp,Lk X pins (upd H2 s2.heap.objs.size ho) b)/\tn 0 (s2.heap.push ob)/\∀b∈fp,∃o,(s2.heap.push ob).get? b=some o:=by
 have Oz:tn 0 (s2.heap.push ob):=T.keep 0 _ _ st2 λb hb o q=>Al _ q
 refine ⟨λb hb=>⟨?_,(f2 b hb).2⟩,Oz,λb hb=>?_⟩
 ·rw[Dm ?_]
  ·exact (f2 b hb).1
  ·intro z
   obtain ⟨o,q,_⟩:=T.obj _ _ st2 b hb
   have:=Bb q
   rw[z] at this
   exact absurd this (Gh _)
 ·obtain ⟨o,q,_⟩:=T.obj _ _ Oz b hb
  exact ⟨o,q⟩
theorem bL{elt iter:Expr}{x:Str}{px pos:Pos}{ifs:List Expr}{scope:Scope}{cl:List (Str×Addr)}{ys:List Str}{js:List Nat}{wi:TI}{tc:TT}{te:TE}(C:CompScope X scope cl x ys js)(hc:X.calm=true)(hi:PI X (.Name x px) iter wi)(ht:∀fp s H,tE (Ea X scope cl (x::ys) fp s H) ifs tc)(he:∀fp s H,PE (Ea X scope cl (x::ys) fp s H) elt te)(hs:∀x,Dh iter X.env x=pure x:=by intro _; rfl):PE X (.ListComp elt [⟨.Name x px,iter,ifs,0⟩] scope pos) (jL wi js tc te):=by
 intro pins s σ H Q I h
 rw[eval_ListComp]
 refine Ki (use:=none) rfl hs C.clos C.kind C.locs (Fs (hi pins s σ H _ I h) λv s1 h1=>Fs h1 λitv s2 h2=>?_)
 obtain ⟨it,fp,tn,J,H2,e,I2,T,st2,f2,q2⟩:=h2
 subst e
 have fD:H2 s2.heap.objs.size=none:=I2.hok.fresh (Ah _)
 obtain ⟨W,⟨m0,w0⟩,turn⟩:=q2 s2.heap.objs.size fD
 refine Gg ?_
 have I3:Inv X pins σ (upd H2 s2.heap.objs.size (.lst [])) { s2 with heap:=s2.heap.push { cls:=.type "list",dict:=none,data:=.seq ([]:List Value).toArray } } :=
  I2.laid (t':=s2.toks) (λb u q=>Al _ q) (Ah _) ⟨Cz _,[],0,.nil,Bu _ rfl⟩
 obtain ⟨f3,st3',o3'⟩:=So I2 T st2 f2 I3
 generalize hS3:({ s2 with heap:=s2.heap.push { cls:=.type "list",dict:=none,data:=.seq ([]:List Value).toArray } }:Ai)=s3 at I3
 have Oz:tn 0 s3.heap:=by rw[<- hS3]; exact st3'
 have o3:∀b∈fp,∃o,s3.heap.get? b=some o:=by rw[<- hS3]; exact o3'
 show wpAny _ _ (Lf scope X.env.globals cl [] X.env.qual none .none (some X.env)) _ _ _
 refine Qi C λh4 hns4 keep4 new4=>?_
 have I4:∀tk,Inv (Ea X scope cl (x::ys) fp s3 (upd H2 s2.heap.objs.size (.lst []))) [] (none::Em σ js) (upd H2 s2.heap.objs.size (.lst [])) { s3 with heap:=h4,toks:=tk }:=λtk=>Oa (pre:=[x]) C I3 f3 o3 hns4 keep4 new4
 have st4:tn 0 h4:=T.keep 0 _ _ Oz λb hb o q=>keep4 b o q
 generalize hX':Ea X scope cl (x::ys) fp s3 (upd H2 s2.heap.objs.size (.lst []))=X' at I4
 obtain ⟨eP,eW,eK,eA,eC⟩:=Tj hc hX'
 have stat:∀{H':Hp},(∀b∈fp,H' b=none)->∀b∈fp,Lk X' [] H' b:=λ{H'} hn=>Qc hX' (I4 0) hn
 have loop:∀s5:Ai,s5={ s3 with heap:=h4,toks:=s3.toks+([]:List (Str×Value)).length } ->
   Hl (model X.prog X.w) X.A (.compLoop (.ListComp elt [⟨.Name x px,iter,ifs,0⟩] scope pos) 0 (.ref it) (.ref s2.heap.objs.size) (Vt scope (Eb (s3.heap.objs.size+1) scope.names cl) s3.heap.objs.size X.env))
    (compPost (model X.prog X.w) X.A X.xe none (EP X pins σ Q) (.ref s2.heap.objs.size) s3.heap.objs.size) s5:=by
  rintro s5 rfl
  refine Rn (λn s'=>∃i o H',Inv X' [] (o::Em σ js) H' s'/\tn i s'.heap/\(∀b∈fp,H' b=none)/\W i n H') ?_ m0
   ⟨0,none,_,I4 _,st4,λb hb=>(f3 b hb).1,w0⟩
  (intro n s6 q_; obtain ⟨i,o,H6,I6,st6,fr6,w6⟩ := q_)
  rcases turn i n H6 w6 with ⟨stop,qn⟩ | ⟨go,step⟩
  ·have hd:=T.done X' eP eW eK eC i [] s6 _ H6 (λ_ _=>False) I6 (stat fr6) st6 stop
   rw[eA] at hd
   refine Fs hd λr s7 q0_ => ?_
   obtain ⟨hr,I7⟩ := q0_
   subst hr
   obtain ⟨m7,hn7,fin7⟩:=gY hX' I3 f3 I7
   exact ⟨m7,hn7,λh8 hs8=>⟨.ref s2.heap.objs.size,H6,fin7 h8 hs8,rfl,qn⟩⟩
  ·have hit:=T.item X' eP eW eK eC i [] s6 _ H6 (λ_ _=>False) I6 (stat fr6) st6 go
   rw[eA] at hit
   refine Fs hit λr s7 q0_ => ?_
   obtain ⟨u,hr,h7⟩ := q0_
   subst hr
   refine Fs h7 λ_ s8 q0_ => ?_
   obtain ⟨y,H8,I8,r8,y8,st8,fr8⟩ := q0_
   have I8':=I8.pinned (stat fr8) (T.obj _ _ st8)
   obtain ⟨N1,N2,hN1,hN2,hst⟩:=step y H8 y8
   have again:∀{H9:Hp} {s9:Ai} {m':Nat},Inv X' ([]++Mx fp s8.heap) (some y::Em σ js) H9 s9->m'<n->W (i+1) m' H9->∃m,m<n/\∃i o H',Inv X' [] (o::Em σ js) H' s9/\tn i s9.heap/\(∀b∈fp,H' b=none)/\W i m H':=λ{H9 s9 m'} I9 hm w9=>by
    refine ⟨m',hm,i+1,some y,H9,I9.unpinned,T.keep _ _ _ st8 λb hb o e=>(I9.pin (b,o) (Ad _ (Ad _ (Fo hb e)))).1,λb hb=>?_,w9⟩
    obtain ⟨o,e,_⟩:=T.obj _ _ st8 b hb
    exact (I9.pin (b,o) (Ad _ (Ad _ (Fo hb e)))).2.1
   subst hX'
   refine Fs (Iy (i:=0) (x:=x) (pos:=px) C.nd rfl (Qj C.own) (Uz C.own) _ s8 _ H8 y u (λσ' H'=>σ'=some y::Em σ js/\H'=H8) I8' r8 ⟨rfl,rfl⟩) λ_ s9 q0_ => ?_
   obtain ⟨σ9,H9,I9,e9,e9'⟩ := q0_
   subst e9 e9'
   refine Fs (ht fp s3 _ _ s9 _ _ _ I9 hst) λok s10 q0_ => ?_
   obtain ⟨H10,I10,q10⟩ := q0_
   cases ok with
   | false =>
    rw[if_neg Bx] at q10 ⊢
    obtain ⟨m',hm,w10⟩:=hN1 _ q10
    exact again I10 hm w10
   | true =>
    rw[if_pos rfl] at q10 ⊢
    refine Fs (he fp s3 _ _ s10 _ _ _ I10 q10) λz s11 q0_ => ?_
    obtain ⟨vz,H11,I11,r11,q11⟩ := q0_
    obtain ⟨acc,ha,hz,m',hm,w11⟩:=hN2 _ _ q11
    refine Fs (Kl _ s11 _ H11 (.ref s2.heap.objs.size) [vz] (.ref s2.heap.objs.size) [z] (λ_ H'=>H'=upd H11 s2.heap.objs.size (.lst (acc++[vz]))) I11 rfl (.cons r11 .nil) ⟨_,acc,vz,rfl,rfl,ha,hz,rfl⟩) λ_ s12 q0_ => ?_
    obtain ⟨_,H12,I12,_,e12⟩ := q0_
    subst e12
    exact again I12 hm w11
 exact Lg (loop _ rfl) (T.self X.A 0 _ _ _ st4 (loop _ rfl))
end
structure Walked(J:It)(G:Hp->Prop)(xs:List V):Prop where
 go:∀i H,i<xs.length->G H->J.go i H
 yld:∀i H x H',i<xs.length->G H->J.yld i H x H'->H'=H/\xs[i]? = some x
 stop:∀H,G H->J.stop xs.length H
theorem Pr{K:PySem.W.Frag}{a:Addr}{xs:List V}:Walked (A6 K a) (λH=>Ox K H a xs) xs where
 go:=λi H h q=>⟨xs,xs[i],q,by simp [h]⟩
 yld:=λi H x H' _ q y=>⟨y.1,y.2 xs q⟩
 stop:=λH q=>⟨xs,q,Ah _⟩
theorem cB{lo:Int}{n:Nat}:Walked (vH lo n) (λ_=>True) ((Bp n).map λi:Nat=>V.int (lo+i)) where
 go:=λi H h _=>by
  rw[Ab,Cs] at h
  exact h
 yld:=λi H x H' h _ y=>by
  obtain ⟨e,y⟩:=y
  rw[Ab,Cs] at h
  refine ⟨e,?_⟩
  rw[Bf,Tw h,y]
  rfl
 stop:=λH _=>by
  rw[Ab,Cs]
  exact Ah n
theorem kM{J:It}{G:Hp->Prop}{xs:List V}{js:List Nat}{tc:TT}{te:TE}{σ:L2.St}{H1:Hp}{Q:VK}(wk:Walked J G xs)(hz:xs.length<=Av)(Pv:Addr->Nat->List V->Hp->Prop)
  (h0:∀D,H1 D=none->Pv D 0 [] (upd H1 D (.lst []))) (hg:∀D i acc H,Pv D i acc H->G H)
  (hs:∀D i x acc H,H1 D=none->xs[i]? = some x->H D=some (.lst acc)->Pv D i acc H->tc (some x::Em σ js) H λc H2=>if c=true then te (some x::Em σ js) H2 λy H3=>H3 D=some (.lst acc)/\Pv D (i+1) (acc++[y]) (upd H3 D (.lst (acc++[y])))
   else H2 D=some (.lst acc)/\Pv D (i+1) acc H2)
  (hd:∀D acc H,H1 D=none->H D=some (.lst acc)->Pv D xs.length acc H->Q (.ref D) H):qV J js tc te σ H1 Q:=by
 intro D nD
 refine ⟨λi m H=>m=xs.length - i/\i<=xs.length/\∃acc,H D=some (.lst acc)/\acc.length<=i/\Pv D i acc H,⟨xs.length,by simp,Cz _,[],Cn,Ah _,h0 D nD⟩,?_⟩
 (intro i m H q_; obtain ⟨rfl,hi,acc,ha,hl,p⟩ := q_)
 have g:=hg D i acc H p
 by_cases hlt:i<xs.length
 ·refine .inr ⟨wk.go i H hlt g,λx H' y=>?_⟩
  obtain ⟨e,hx⟩:=wk.yld i H x H' hlt g y
  subst e
  refine ⟨λH2=>H2 D=some (.lst acc)/\Pv D (i+1) acc H2,λy H3=>H3 D=some (.lst acc)/\Pv D (i+1) (acc++[y]) (upd H3 D (.lst (acc++[y]))),λH2 q=>?_,λz H3 q=>?_,hs D i x acc _ nD hx ha p⟩
  ·exact ⟨xs.length - (i+1),by omega,rfl,hlt,acc,q.1,by omega,q.2⟩
  ·exact ⟨acc,q.1,by omega,xs.length - (i+1),by omega,rfl,hlt,acc++[z],Cn,by rw[Aw,Eg]; omega,q.2⟩
 ·have e:i=xs.length:=by omega
  subst e
  exact .inl ⟨wk.stop H g,hd D acc H nD ha p⟩
theorem Dq{H:Hp}{p:Addr}(h:H p=none)(o:HO):Jk H (upd H p o):=λb u q=>by rw[Dm (Fd q h)]; exact q
theorem Ni{α:Type}{xs:List α}{i:Nat}{x:α}(h:xs[i]? = some x):xs.take (i+1)=xs.take i++[x]:=by
 rw[List.take_succ,h]; rfl
theorem oP{J:It}{G:Hp->Prop}{xs:List V}{js:List Nat}{tc:TT}{te:TE}{σ:L2.St}{H1:Hp}{Q:VK}(wk:Walked J G xs)(hz:xs.length<=Av)(p:V->Bool)(f:V->V)(hg:∀H,Jk H1 H->G H)(htc:∀x∈xs,∀H,Jk H1 H->∀Q':Bool->Hp->Prop,(∀H2,Jk H H2->Q' (p x) H2)->tc (some x::Em σ js) H Q')(hte:∀x∈xs,p x=true->∀H,Jk H1 H->∀Q':VK,(∀H2,Jk H H2->Q' (f x) H2)->te (some x::Em σ js) H Q')(hd:∀D H,H1 D=none->H D=some (.lst ((xs.filter p).map f))->Jk H1 H->Q (.ref D) H):qV J js tc te σ H1 Q:=by
 refine kM wk hz (λ_ i acc H=>acc=((xs.take i).filter p).map f/\Jk H1 H) (λD nD=>⟨by simp,Dq nD _⟩) (λD i acc H h=>hg H h.2) (λD i x acc H nD hx ha ⟨e,sm⟩=>?_) (λD acc H nD ha ⟨e,sm⟩=>?_)
 ·have mx:x∈xs:=Az hx
  refine htc x mx H sm _ λH2 s2=>?_
  cases hp:p x with
  | false =>
   rw[if_neg Bx]
   refine ⟨s2 _ _ ha,?_,sm.trans s2⟩
   rw[Ni hx,Nb,e]
   simp [hp]
  | true =>
   rw[if_pos rfl]
   refine hte x mx hp H2 (sm.trans s2) _ λH3 s3=>?_
   refine ⟨s3 _ _ (s2 _ _ ha),?_,?_⟩
   ·rw[Ni hx,Nb,e]
    simp [hp]
   ·intro b o q
    have nb:b≠D:=Fd q nD
    rw[Dm nb]
    exact s3 _ _ (s2 _ _ (sm _ _ q))
 ·rw[Gi] at e
  subst e
  exact hd D H nD ha sm
mutual
inductive RdV (K:PySem.W.Frag) (H:Hp):V->Ag->Prop
 | non:RdV K H .non .none
 | bl (b:Bool):RdV K H (.bl b) (.bool b)
 | int (i:Int):RdV K H (.int i) (.int i)
 | str (x:Str):RdV K H (.str x) (.str x)
 | lst {a:Addr} {xs:List V} {ds:List Ag}:Ox K H a xs->RdVs K H xs ds->RdV K H (.ref a) (.list ds)
 | tup {a:Addr} {xs:List V} {ds:List Ag}:Ri K H a xs->RdVs K H xs ds->RdV K H (.ref a) (.tuple ds)
inductive RdVs (K:PySem.W.Frag) (H:Hp):List V->List Ag->Prop
 | nil:RdVs K H [] []
 | cons {x:V} {d:Ag} {xs:List V} {ds:List Ag}:RdV K H x d->RdVs K H xs ds->RdVs K H (x::xs) (d::ds)
end
mutual
def G5(b:Nat):Ag->Prop
 | .none=>True
 | .bool _=>True
 | .int i=>i.natAbs<10 ^ b
 | .str x=>(reprText x).length<=b
 | .list xs=>cD b xs
 | .tuple xs=>cD b xs
 | .dict _=>False
def cD(b:Nat):List Ag->Prop
 | []=>True
 | x::xs=>G5 b x/\cD b xs
end
mutual
def yB:Ag->Nat
 | .list xs=>Xh xs+1
 | .tuple xs=>Xh xs+1
 | _=>1
def Xh:List Ag->Nat
 | []=>0
 | x::xs=>yB x+Xh xs
end
theorem iX(ns:List Int):Be (ns.map Bl)=0:=by
 induction ns with
 | nil=>rfl
 | cons n ns ih=>simp only[Bc,Be,Cv,ih,Nat.max_self]
theorem Vj{m:Nat}:∀{xs:List Ag},(∀x∈xs,x.depth<=m)->Be xs<=m
 | [],_=>by simp [Be]
 | x::xs,h=>by
  have h1:=h x (Aa ..)
  have h2:=Vj (xs:=xs) λy hy=>h y (Ae _ hy)
  simp only[Be]
  omega
theorem Fi.at'{xs:List V}{us:List Value}(r:Fi xs us){j:Nat}(h:j<us.length):∃x,xs[j]? = some x/\RelV x us[j]:=by
 have hl:=r.length
 have hj:j<xs.length:=by omega
 obtain ⟨u,hu,ru⟩:=r.get (i:=j) (x:=xs[j]) (by simp [hj])
 rw[Cf h] at hu
 cases hu
 exact ⟨xs[j],by simp [hj],ru⟩
section
variable{X:Cx}{pins:List (Addr×Obj)}{σ:L2.St}{H:Hp}{s:Ai}{A:Cr}
theorem Up(A:Cr):A.in1.units<=A.units+1:=by
 first | exact Ah _ | (simp [Around.in1]; done) | (unfold Around.in1; simp)
theorem dM:Mj X (.builtin "isinstance") (λxs H Q=>∃x n t b,xs=[x,.ty n]/\TyOf X.K H x t/\PySem.W.kitOne X.K t (.type n)=some b/\Q (.bl b) H):=by
 intro pins s σ H xs us Q I r h
 obtain ⟨x,n,t,b,rfl,ty,e,q⟩:=h
 obtain ⟨u,v,rfl,ru,rv⟩:=vals2 r
 cases rv
 exact oJ I ru ty e λtk=>⟨.bl b,H,I.tok _,rfl,q⟩
theorem sW(hc:X.calm=true):Mj X (.builtin "all") (λxs H Q=>∃(p:Addr) (bs:List Bool),xs=[.ref p]/\Ox X.K H p (bs.map V.bl)/\Q (.bl (bs.all id)) H):=by
 intro pins s σ H xs us Q I r h
 obtain ⟨p,bs,rfl,hp,q⟩:=h
 obtain ⟨u,rfl,ru⟩:=vals1 r
 cases ru
 obtain ⟨its,rv,pl,_⟩:=I.list hp
 have hlen:its.toArray.size=bs.length:=by
  have:=rv.length
  rw[Ab] at this
  rw[Ap]; omega
 refine call_all_walk (aS pl.isList ?_)
 have hd:X.A.in1.handled=none:=I.ok.hd hc
 have ne:p≠s.heap.objs.size:=Cc (let ⟨o,q,_⟩:=pl.isList; Bb q)
 refine ⟨s.heap.objs.size,_,_,_,_,_,λi=>bs.getD i false,rfl,Walks.list hd s.heap.objs.size p ne its.toArray,⟨⟨_,Bu _ rfl,rfl,rfl⟩,pl.isList.push _⟩,?_,?_⟩
 ·intro i v s' Q' E' hv hq
  have hv':its[i]? = some v:=by simpa using hv
  have hi:i<its.length:=(Aq.mp hv').1
  obtain ⟨x,e1,q1⟩:=Fi.at' rv hi
  rw[Cf hi] at hv'
  have hv'':its[i]=v:=Bt hv'
  rw[hv''] at q1
  rw[Bf] at e1
  cases eb:bs[i]? with
  | none=>rw[eb] at e1; cases e1
  | some b =>
   rw[eb] at e1
   cases e1
   cases q1
   have : bs.getD i false=b:=by simp [List.getD_eq_getElem?_getD,eb]
   have hq':Q' (bs.getD i false) s':=hq
   rw[this] at hq'
   exact Gf hq'
 ·intro h' tk hk
  have e:((Bp its.toArray.size).all λi=>bs.getD i false)=bs.all id:=by
   rw[hlen]
   have : bs=(Bp bs.length).map (λj=>bs.getD j false):=(range_getD bs false).symm
   conv=>rhs; rw[this]
   rw[Wg]
   rfl
  rw[e]
  refine ⟨.bl _,H,I.kept (h':=h') (t':=tk) (λb o qq=>hk b o ?_ (Al _ qq)),rfl,q⟩
  intro z
  have e2:b=s.heap.objs.size:=by simpa using z
  have e3:=Bb qq
  rw[e2] at e3
  exact absurd e3 (Gh _)
end
section
variable{prog:Bm}{w:World}{A:Cr}{E:Value->Ai->Prop}{s:Ai}
theorem Qs{t sl:Addr}{items:Array Value}{vl vu:Value}{lo hi:Option Int}{Q:Value->Ai->Prop}(ht:IsTup s.heap t items)(hs:s.heap.IsSliceOf sl vl vu .none)(pl:Vw vl lo)(pu:Vw vu hi)(hw:HT.sIx items.size 0 lo=0/\HT.sIx items.size items.size hi=items.size)(h:Q (.ref t) s):wpAny (model prog w) A (getItem (.ref t) (.ref sl)) Q E s:=by
 obtain ⟨os,hos,hcs,hds⟩:=id hs
 have hTs:s.TypeIs (.ref sl) "slice" := ⟨os,hos,hcs⟩
 unfold getItem
 try with_reducible refine Ep ?_
 first | refine Ac (Am ?_) | skip
 refine Ac (wpAny_sequenceKey ht.typeIs (by decide) ?_)
 refine Ac (uO (name:=Str.ofString "__getitem__") ht.typeIs Ef
  (Rc Ef ht.typeIs entry_tuple_getitem ?_ (args_tuple_getitem _ _)))
 show wpAny _ _ (Uc (.ref t) >>= _) _ _ s
 refine Ac (tupleItemsOf_ ht ?_)
 refine Ac (Nu hTs ?_)
 rw[if_pos (by decide)]
 refine Ac (HT.sliceApplied_gen hs pl pu ?_)
 rw[hw.1,hw.2]
 have hyes:(((0:Nat):Int) == 0 && (1:Int) == 1 && (items.size - 0) == items.size)=true:=by simp
 show wpAny _ _ (if (((0:Nat):Int) == 0 && (1:Int) == 1 && (items.size - 0) == items.size)=true then _ else _) _ _ s
 rw[if_pos hyes]
 have hex:∀{R:Bool->Ai->Prop},R true s->wpAny (model prog w) A.in1 (Ud (.ref t)) R E s:=λ{R} hR=>by
  unfold Ud
  refine Ac (Nu ht.typeIs (Am ?_))
  rw[beq_self_eq_true]
  exact hR
 refine Ac (hex ?_)
 rw[if_pos rfl]
 exact Ac (wpAny_rule (Am ⟨_,rfl,Am h⟩))
end
mutual
def Dr:Ag->Ag->Bool
 | .none,.none=>true
 | .bool a,.bool b=>a == b
 | .bool a,.int b=>(if a then 1 else 0) == b
 | .int a,.bool b=>a == (if b then 1 else 0)
 | .int a,.int b=>a == b
 | .str a,.str b=>a == b
 | .list xs,.list ys=>Lq xs ys
 | .tuple xs,.tuple ys=>Lq xs ys
 | _,_=>false
def Lq:List Ag->List Ag->Bool
 | [],[]=>true
 | x::xs,y::ys=>Dr x y && Lq xs ys
 | _,_=>false
end
theorem Lx:∀ds es:List Ag,(((Bp (min ds.length es.length)).all λj=>Dr (ds.getD j .none) (es.getD j .none)) && ds.length == es.length)=Lq ds es
 | [],[]=>by simp [Lq]
 | [],_::_=>by simp [Lq]
 | _::_,[]=>by simp [Lq]
 | d::ds,e::es=>by
  have ih:=Lx ds es
  rw[Lq,<- ih]
  have h1:min (d::ds).length (e::es).length=min ds.length es.length+1:=by simp only[Bi]; omega
  rw[h1,jB,List.all_cons,Wg]
  have h2:((d::ds).length == (e::es).length)=(ds.length == es.length):=by
   rw[Bool.eq_iff_iff]; simp
  rw[h2,Bool.and_assoc]
  rfl
section
variable{X:Cx}{pins:List (Addr×Obj)}{σ:L2.St}{H:Hp}{s:Ai}{K:PySem.W.Frag}
mutual
theorem RdV.eqD_self:∀{v:V} {d:Ag},RdV K H v d->Dr d d=true
 | _,_,.non=>by simp [Dr]
 | _,_,.bl b=>by simp [Dr]
 | _,_,.int i=>by simp [Dr]
 | _,_,.str x=>by simp [Dr]
 | _,_,.lst _ h=>by rw[Dr]; exact RdVs.eqDs_self h
 | _,_,.tup _ h=>by rw[Dr]; exact RdVs.eqDs_self h
theorem RdVs.eqDs_self:∀{vs:List V} {ds:List Ag},RdVs K H vs ds->Lq ds ds=true
 | _,_,.nil=>by simp [Lq]
 | _,_,.cons h t=>by rw[Lq,RdV.eqD_self h,RdVs.eqDs_self t]; rfl
end
theorem dO(I:Inv X pins σ H s){a:Addr}{xs ys:List V}(h1:Ox X.K H a xs)(h2:Ri X.K H a ys):False:=by
 obtain ⟨us,_,p1,_⟩:=I.list h1
 obtain ⟨vs,_,p2,_⟩:=I.tuple h2
 exact SeqAt.ne_of_list_tuple p1.isList p2 rfl
mutual
theorem RdV.det(I:Inv X pins σ H s):∀{v:V} {d e:Ag},RdV X.K H v d->RdV X.K H v e->d=e
 | _,_,_,.non,h=>by cases h; rfl
 | _,_,_,.bl b,h=>by cases h; rfl
 | _,_,_,.int i,h=>by cases h; rfl
 | _,_,_,.str x,h=>by cases h; rfl
 | _,_,_,.lst q r,h=>by
  cases h with
  | lst q' r' =>
   have e:=I.list_inj q q'
   subst e
   rw[RdVs.det I r r']
  | tup q' r'=>exact (dO I q q').elim
 | _,_,_,.tup q r,h=>by
  cases h with
  | lst q' r'=>exact (dO I q' q).elim
  | tup q' r' =>
   have e:=I.tuple_inj q q'
   subst e
   rw[RdVs.det I r r']
theorem RdVs.det(I:Inv X pins σ H s):∀{vs:List V} {ds es:List Ag},RdVs X.K H vs ds->RdVs X.K H vs es->ds=es
 | _,_,_,.nil,h=>by cases h; rfl
 | _,_,_,.cons r t,h=>by
  cases h with
  | cons r' t'=>rw[RdV.det I r r',RdVs.det I t t']
end
theorem RdVs.length:∀{vs:List V} {ds:List Ag},RdVs K H vs ds->vs.length=ds.length
 | _,_,.nil=>rfl
 | _,_,.cons _ t=>by rw[Bi,Bi,RdVs.length t]
theorem Uu{A:Cr}{n:Nat}(h:A.units+(n+1)<cLine):A.in1.units+n<cLine:=by
 have:=Up A
 omega
theorem fA{A:Cr}{a b:Addr}{us vs:List Value}{ds es:List Ag}(p1:PlainL s.heap a us.toArray)(p2:PlainL s.heap b vs.toArray)(l1:us.length=ds.length)(l2:vs.length=es.length)(hu:A.units<cLine)(he:∀j (h1:j<us.length) (h2:j<vs.length),Kx A.in1 s us[j] vs[j] (Dr (ds.getD j .none) (es.getD j .none))):SeqAt.RcAt A s (.ref a) (.ref b) (Lq ds es):=by
 rw[<- Lx]
 by_cases hl:ds.length=es.length
 ·have hs:us.toArray.size=vs.toArray.size:=by rw[Ap,Ap,l1,l2,hl]
  have h:=SeqAt.RcAt.lists (A:=A) (e:=λj=>Dr (ds.getD j .none) (es.getD j .none)) p1.isList p2.isList hs hu (λj h1 h2=>by simpa using he j (by simpa using h1) (by simpa using h2))
  rw[Ap,l1] at h
  rw[hl,Nat.min_self,beq_self_eq_true,Bool.and_true,<- hl]
  exact h
 ·have hs:(us.toArray.size != vs.toArray.size)=true:=by rw[Ap,Ap,l1,l2]; simpa using hl
  have h:=SeqAt.RcAt.lists_lengths (A:=A) p1.isList p2.isList hs hu
  have e0:(ds.length == es.length)=false:=by simpa using hl
  rw[e0,Sf]
  exact h
theorem aQ{A:Cr}{a b:Addr}{us vs:List Value}{ds es:List Ag}(p1:IsTup s.heap a us.toArray)(p2:IsTup s.heap b vs.toArray)(l1:us.length=ds.length)(l2:vs.length=es.length)(hu:A.units<cLine)(he:∀j (h1:j<us.length) (h2:j<vs.length),Kx A.in1 s us[j] vs[j] (Dr (ds.getD j .none) (es.getD j .none))):SeqAt.RcAt A s (.ref a) (.ref b) (Lq ds es):=by
 rw[<- Lx]
 have h:=SeqAt.RcAt.tuples (A:=A) (e:=λj=>Dr (ds.getD j .none) (es.getD j .none)) (show s.heap.IsTuple a us.toArray from p1) (show s.heap.IsTuple b vs.toArray from p2) hu (λj h1 h2=>by simpa using he j (by simpa using h1) (by simpa using h2))
 rw[Ap,Ap,l1,l2] at h
 exact h
mutual
theorem sN(I:Inv X pins σ H s):∀{A:Cr} {x y:V} {d e:Ag} {u v:Value},RdV X.K H x d->RdV X.K H y e->RelV x u->RelV y v->A.units+d.depth<cLine->Kx A s u v (Dr d e)
 | A,_,_,_,_,_,_,.non,h,ru,rv,hu=>by
  cases ru
  have hu':A.units<cLine:=by omega
  cases h with
  | non=>cases rv; rw[Dr]; exact SeqAt.EqAt.same _
  | bl b=>cases rv; rw[Dr]; exact SeqAt.EqAt.none_bool b; all_goals simp
  | int b=>obtain ⟨t,rfl⟩:=rv; rw[Dr]; exact SeqAt.EqAt.none_int b t; all_goals simp
  | str b=>obtain ⟨t,rfl⟩:=rv; rw[Dr]; exact SeqAt.EqAt.none_str b t; all_goals simp
  | lst q r=>cases rv; obtain ⟨us,_,p,_⟩:=I.list q; rw[Dr]; exact SeqAt.EqAt.none_list p.isList hu'; all_goals simp
  | tup q r=>cases rv; obtain ⟨us,_,p,_⟩:=I.tuple q; rw[Dr]; exact SeqAt.EqAt.none_tuple p hu'; all_goals simp
 | A,_,_,_,_,_,_,.bl a,h,ru,rv,hu=>by
  cases ru
  have hu':A.units<cLine:=by omega
  cases h with
  | non=>cases rv; rw[Dr]; exact SeqAt.EqAt.bool_none a; all_goals simp
  | bl b=>cases rv; rw[Dr]; exact SeqAt.EqAt.bool_bool a b
  | int b=>obtain ⟨t,rfl⟩:=rv; rw[Dr]; exact SeqAt.EqAt.bool_int a b t
  | str b=>obtain ⟨t,rfl⟩:=rv; rw[Dr]; exact SeqAt.EqAt.bool_str a b t; all_goals simp
  | lst q r=>cases rv; obtain ⟨us,_,p,_⟩:=I.list q; rw[Dr]; exact SeqAt.EqAt.bool_list a p.isList hu'; all_goals simp
  | tup q r=>cases rv; obtain ⟨us,_,p,_⟩:=I.tuple q; rw[Dr]; exact SeqAt.EqAt.bool_tuple a p hu'; all_goals simp
 | A,_,_,_,_,_,_,.int a,h,ru,rv,hu=>by
  obtain ⟨t',rfl⟩:=ru
  have hu':A.units<cLine:=by omega
  cases h with
  | non=>cases rv; rw[Dr]; exact SeqAt.EqAt.int_none a t'; all_goals simp
  | bl b=>cases rv; rw[Dr]; exact SeqAt.EqAt.int_bool a t' b
  | int b=>obtain ⟨t,rfl⟩:=rv; rw[Dr]; exact SeqAt.EqAt.int_int a t' b t
  | str b=>obtain ⟨t,rfl⟩:=rv; rw[Dr]; exact SeqAt.EqAt.int_str a t' b t; all_goals simp
  | lst q r=>cases rv; obtain ⟨us,_,p,_⟩:=I.list q; rw[Dr]; exact SeqAt.EqAt.int_list a t' p.isList hu'; all_goals simp
  | tup q r=>cases rv; obtain ⟨us,_,p,_⟩:=I.tuple q; rw[Dr]; exact SeqAt.EqAt.int_tuple a t' p hu'; all_goals simp
 | A,_,_,_,_,_,_,.str a,h,ru,rv,hu=>by
  obtain ⟨t',rfl⟩:=ru
  have hu':A.units<cLine:=by omega
  cases h with
  | non=>cases rv; rw[Dr]; exact SeqAt.EqAt.str_none a t'; all_goals simp
  | bl b=>cases rv; rw[Dr]; exact SeqAt.EqAt.str_bool a t' b; all_goals simp
  | int b=>obtain ⟨t,rfl⟩:=rv; rw[Dr]; exact SeqAt.EqAt.str_int a t' b t; all_goals simp
  | str b=>obtain ⟨t,rfl⟩:=rv; rw[Dr]; exact SeqAt.EqAt.str_str a t' b t
  | lst q r=>cases rv; obtain ⟨us,_,p,_⟩:=I.list q; rw[Dr]; exact SeqAt.EqAt.str_list a t' p.isList hu'; all_goals simp
  | tup q r=>cases rv; obtain ⟨us,_,p,_⟩:=I.tuple q; rw[Dr]; exact SeqAt.EqAt.str_tuple a t' p hu'; all_goals simp
 | A,_,_,_,_,_,_,@RdV.lst _ _ a xs ds q r,h,ru,rv,hu=>by
  cases ru
  have hu':A.units<cLine:=by omega
  obtain ⟨us,r1,p,_⟩:=I.list q
  cases h with
  | non=>cases rv; rw[Dr]; exact SeqAt.EqAt.list_none p.isList hu'; all_goals simp
  | bl b=>cases rv; rw[Dr]; exact SeqAt.EqAt.list_bool b p.isList hu'; all_goals simp
  | int b=>obtain ⟨t,rfl⟩:=rv; rw[Dr]; exact SeqAt.EqAt.list_int b t p.isList hu'; all_goals simp
  | str b=>obtain ⟨t,rfl⟩:=rv; rw[Dr]; exact SeqAt.EqAt.list_str b t p.isList hu'; all_goals simp
  | @lst b ys es q2 rr2 =>
   cases rv
   obtain ⟨vs,r2,p2,_⟩:=I.list q2
   rw[Dr]
   by_cases hab:a=b
   ·subst hab
    have e:=I.list_inj q q2
    subst e
    rw[<- RdVs.det I r rr2,RdVs.eqDs_self r]
    exact SeqAt.EqAt.same _
   ·refine SeqAt.EqAt.of_refs hab (fA p p2 (r1.length.symm.trans r.length) (r2.length.symm.trans rr2.length) hu' λj h1 h2=>?_)
    exact Od I r rr2 r1 r2 (Uu (by simpa only [Cv] using hu)) j h1 h2
  | tup q2 rr2=>cases rv; obtain ⟨vs,_,p2,_⟩:=I.tuple q2; rw[Dr]; exact SeqAt.EqAt.list_tuple p.isList p2 hu'; all_goals simp
 | A,_,_,_,_,_,_,@RdV.tup _ _ a xs ds q r,h,ru,rv,hu=>by
  cases ru
  have hu':A.units<cLine:=by omega
  obtain ⟨us,r1,p,_⟩:=I.tuple q
  cases h with
  | non=>cases rv; rw[Dr]; exact SeqAt.EqAt.tuple_none p hu'; all_goals simp
  | bl b=>cases rv; rw[Dr]; exact SeqAt.EqAt.tuple_bool b p hu'; all_goals simp
  | int b=>obtain ⟨t,rfl⟩:=rv; rw[Dr]; exact SeqAt.EqAt.tuple_int b t p hu'; all_goals simp
  | str b=>obtain ⟨t,rfl⟩:=rv; rw[Dr]; exact SeqAt.EqAt.tuple_str b t p hu'; all_goals simp
  | lst q2 rr2=>cases rv; obtain ⟨vs,_,p2,_⟩:=I.list q2; rw[Dr]; exact SeqAt.EqAt.tuple_list p p2.isList hu'; all_goals simp
  | @tup b ys es q2 rr2 =>
   cases rv
   obtain ⟨vs,r2,p2,_⟩:=I.tuple q2
   rw[Dr]
   by_cases hab:a=b
   ·subst hab
    have e:=I.tuple_inj q q2
    subst e
    rw[<- RdVs.det I r rr2,RdVs.eqDs_self r]
    exact SeqAt.EqAt.same _
   ·refine SeqAt.EqAt.of_refs hab (aQ p p2 (r1.length.symm.trans r.length) (r2.length.symm.trans rr2.length) hu' λj h1 h2=>?_)
    exact Od I r rr2 r1 r2 (Uu (by simpa only [Cv] using hu)) j h1 h2
theorem Od(I:Inv X pins σ H s):∀{A:Cr} {xs ys:List V} {ds es:List Ag} {us vs:List Value},RdVs X.K H xs ds->RdVs X.K H ys es->Fi xs us->Fi ys vs->A.units+Be ds<cLine->∀j (h1:j<us.length) (h2:j<vs.length),Kx A s us[j] vs[j] (Dr (ds.getD j .none) (es.getD j .none))
 | _,_,_,_,_,_,_,.nil,_,r1,_,_=>λj h1 h2=>by cases r1; exact absurd h1 (Gx _)
 | A,_,_,_,_,_,_,@RdVs.cons _ _ x d xs ds r t,h,r1,r2,hu=>λj h1 h2=>by
  cases h with
  | nil=>cases r2; exact absurd h2 (Gx _)
  | cons r' t' =>
   cases r1 with
   | cons ra ta =>
    cases r2 with
    | cons rb tb =>
     have hm:A.units+d.depth<cLine/\A.units+Be ds<cLine:=by
      simp only[Be] at hu
      omega
     cases j with
     | zero=>simpa using sN I r r' ra rb hm.1
     | succ j=>simpa using Od I t t' ta tb hm.2 j (by simpa using h1) (by simpa using h2)
end
end
section
variable{X:Cx}{pins:List (Addr×Obj)}{σ:L2.St}{H:Hp}{s:Ai}{K:PySem.W.Frag}
theorem oA{A:Cr}{a b:Addr}{us vs:List Value}{ds es:List Ag}(p1:PlainL s.heap a us.toArray)(p2:PlainL s.heap b vs.toArray)(l1:us.length=ds.length)(l2:vs.length=es.length)(hu:A.units<cLine)(he:∀j (h1:j<us.length) (h2:j<vs.length),Kx A.in1 s us[j] vs[j] (Dr (ds.getD j .none) (es.getD j .none))):SeqAt.RcNeAt A s (.ref a) (.ref b) (!Lq ds es):=by
 rw[<- Lx]
 by_cases hl:ds.length=es.length
 ·have hs:us.toArray.size=vs.toArray.size:=by rw[Ap,Ap,l1,l2,hl]
  have h:=SeqAt.RcNeAt.lists (A:=A) (e:=λj=>Dr (ds.getD j .none) (es.getD j .none)) p1.isList p2.isList hs hu (λj h1 h2=>by simpa using he j (by simpa using h1) (by simpa using h2))
  rw[Ap,l1] at h
  rw[hl,Nat.min_self,beq_self_eq_true,Bool.and_true,<- hl]
  exact h
 ·have hs:(us.toArray.size != vs.toArray.size)=true:=by rw[Ap,Ap,l1,l2]; simpa using hl
  have h:=SeqAt.RcNeAt.lists_lengths (A:=A) p1.isList p2.isList hs hu
  have e0:(ds.length == es.length)=false:=by simpa using hl
  rw[e0,Sf]
  exact h
theorem gP{A:Cr}{a b:Addr}{us vs:List Value}{ds es:List Ag}(p1:IsTup s.heap a us.toArray)(p2:IsTup s.heap b vs.toArray)(l1:us.length=ds.length)(l2:vs.length=es.length)(hu:A.units<cLine)(he:∀j (h1:j<us.length) (h2:j<vs.length),Kx A.in1 s us[j] vs[j] (Dr (ds.getD j .none) (es.getD j .none))):SeqAt.RcNeAt A s (.ref a) (.ref b) (!Lq ds es):=by
 rw[<- Lx]
 have h:=SeqAt.RcNeAt.tuples (A:=A) (e:=λj=>Dr (ds.getD j .none) (es.getD j .none)) (show s.heap.IsTuple a us.toArray from p1) (show s.heap.IsTuple b vs.toArray from p2) hu (λj h1 h2=>by simpa using he j (by simpa using h1) (by simpa using h2))
 rw[Ap,Ap,l1,l2] at h
 exact h
end
section
variable{X:Cx}
def C2(K:PySem.W.Frag):R2:=λx y H Q=>∃d e,RdV K H x d/\RdV K H y e/\d.depth<=60/\Q (.bl (Dr d e)) H
def L9(K:PySem.W.Frag):R2:=λx y H Q=>∃d e,RdV K H x d/\RdV K H y e/\d.depth<=60/\Q (.bl (!Dr d e)) H
theorem tM(hu:X.A.units+64<cLine):Ur X (Hk .Eq) (C2 X.K):=by
 intro pins s σ H x y v u Q I rx ry h
 obtain ⟨d,e,h1,h2,hd,q⟩:=h
 have hu':X.A.units<cLine:=by omega
 cases h1 with
 | non =>
  cases rx
  cases h2 with
  | non=>cases ry; rw[Dr] at q; exact SeqAt.RcAt.none_none _ _ _ _ ⟨.bl _,H,I,rfl,q⟩
  | bl b=>cases ry; rw[Dr] at q; exact SeqAt.RcAt.none_bool b _ _ _ _ ⟨.bl _,H,I,rfl,q⟩; all_goals simp
  | int b=>obtain ⟨t,rfl⟩:=ry; rw[Dr] at q; exact SeqAt.RcAt.none_int b t _ _ _ _ ⟨.bl _,H,I,rfl,q⟩; all_goals simp
  | str b=>obtain ⟨t,rfl⟩:=ry; rw[Dr] at q; exact SeqAt.RcAt.none_str b t _ _ _ _ ⟨.bl _,H,I,rfl,q⟩; all_goals simp
  | @lst b ys es q2 rr2=>cases ry; obtain ⟨vs,r2,p2,_⟩:=I.list q2; rw[Dr] at q; exact SeqAt.RcAt.none_list p2.isList hu' _ _ _ _ ⟨.bl _,H,I,rfl,q⟩; all_goals simp
  | @tup b ys es q2 rr2=>cases ry; obtain ⟨vs,r2,p2,_⟩:=I.tuple q2; rw[Dr] at q; exact SeqAt.RcAt.none_tuple p2 hu' _ _ _ _ ⟨.bl _,H,I,rfl,q⟩; all_goals simp
 | bl a =>
  cases rx
  cases h2 with
  | non=>cases ry; rw[Dr] at q; exact SeqAt.RcAt.bool_none a _ _ _ _ ⟨.bl _,H,I,rfl,q⟩; all_goals simp
  | bl b=>cases ry; rw[Dr] at q; exact SeqAt.RcAt.bool_bool a b _ _ _ _ ⟨.bl _,H,I,rfl,q⟩
  | int b=>obtain ⟨t,rfl⟩:=ry; rw[Dr] at q; exact SeqAt.RcAt.bool_int a b t _ _ _ _ ⟨.bl _,H,I,rfl,q⟩
  | str b=>obtain ⟨t,rfl⟩:=ry; rw[Dr] at q; exact SeqAt.RcAt.bool_str a b t _ _ _ _ ⟨.bl _,H,I,rfl,q⟩; all_goals simp
  | @lst b ys es q2 rr2=>cases ry; obtain ⟨vs,r2,p2,_⟩:=I.list q2; rw[Dr] at q; exact SeqAt.RcAt.bool_list a p2.isList hu' _ _ _ _ ⟨.bl _,H,I,rfl,q⟩; all_goals simp
  | @tup b ys es q2 rr2=>cases ry; obtain ⟨vs,r2,p2,_⟩:=I.tuple q2; rw[Dr] at q; exact SeqAt.RcAt.bool_tuple a p2 hu' _ _ _ _ ⟨.bl _,H,I,rfl,q⟩; all_goals simp
 | int a =>
  obtain ⟨t',rfl⟩:=rx
  cases h2 with
  | non=>cases ry; rw[Dr] at q; exact SeqAt.RcAt.int_none a t' _ _ _ _ ⟨.bl _,H,I,rfl,q⟩; all_goals simp
  | bl b=>cases ry; rw[Dr] at q; exact SeqAt.RcAt.int_bool a t' b _ _ _ _ ⟨.bl _,H,I,rfl,q⟩
  | int b=>obtain ⟨t,rfl⟩:=ry; rw[Dr] at q; exact SeqAt.RcAt.int_int a t' b t _ _ _ _ ⟨.bl _,H,I,rfl,q⟩
  | str b=>obtain ⟨t,rfl⟩:=ry; rw[Dr] at q; exact SeqAt.RcAt.int_str a t' b t _ _ _ _ ⟨.bl _,H,I,rfl,q⟩; all_goals simp
  | @lst b ys es q2 rr2=>cases ry; obtain ⟨vs,r2,p2,_⟩:=I.list q2; rw[Dr] at q; exact SeqAt.RcAt.int_list a t' p2.isList hu' _ _ _ _ ⟨.bl _,H,I,rfl,q⟩; all_goals simp
  | @tup b ys es q2 rr2=>cases ry; obtain ⟨vs,r2,p2,_⟩:=I.tuple q2; rw[Dr] at q; exact SeqAt.RcAt.int_tuple a t' p2 hu' _ _ _ _ ⟨.bl _,H,I,rfl,q⟩; all_goals simp
 | str a =>
  obtain ⟨t',rfl⟩:=rx
  cases h2 with
  | non=>cases ry; rw[Dr] at q; exact SeqAt.RcAt.str_none a t' _ _ _ _ ⟨.bl _,H,I,rfl,q⟩; all_goals simp
  | bl b=>cases ry; rw[Dr] at q; exact SeqAt.RcAt.str_bool a t' b _ _ _ _ ⟨.bl _,H,I,rfl,q⟩; all_goals simp
  | int b=>obtain ⟨t,rfl⟩:=ry; rw[Dr] at q; exact SeqAt.RcAt.str_int a t' b t _ _ _ _ ⟨.bl _,H,I,rfl,q⟩; all_goals simp
  | str b=>obtain ⟨t,rfl⟩:=ry; rw[Dr] at q; exact SeqAt.RcAt.str_str a t' b t _ _ _ _ ⟨.bl _,H,I,rfl,q⟩
  | @lst b ys es q2 rr2=>cases ry; obtain ⟨vs,r2,p2,_⟩:=I.list q2; rw[Dr] at q; exact SeqAt.RcAt.str_list a t' p2.isList hu' _ _ _ _ ⟨.bl _,H,I,rfl,q⟩; all_goals simp
  | @tup b ys es q2 rr2=>cases ry; obtain ⟨vs,r2,p2,_⟩:=I.tuple q2; rw[Dr] at q; exact SeqAt.RcAt.str_tuple a t' p2 hu' _ _ _ _ ⟨.bl _,H,I,rfl,q⟩; all_goals simp
 | @lst a xs ds qa r =>
  cases rx
  obtain ⟨us,r1,p,_⟩:=I.list qa
  cases h2 with
  | non=>cases ry; rw[Dr] at q; exact SeqAt.RcAt.list_none p.isList hu' _ _ _ _ ⟨.bl _,H,I,rfl,q⟩; all_goals simp
  | bl b=>cases ry; rw[Dr] at q; exact SeqAt.RcAt.list_bool b p.isList hu' _ _ _ _ ⟨.bl _,H,I,rfl,q⟩; all_goals simp
  | int b=>obtain ⟨t,rfl⟩:=ry; rw[Dr] at q; exact SeqAt.RcAt.list_int b t p.isList hu' _ _ _ _ ⟨.bl _,H,I,rfl,q⟩; all_goals simp
  | str b=>obtain ⟨t,rfl⟩:=ry; rw[Dr] at q; exact SeqAt.RcAt.list_str b t p.isList hu' _ _ _ _ ⟨.bl _,H,I,rfl,q⟩; all_goals simp
  | @lst b ys es q2 rr2=>cases ry; obtain ⟨vs,r2,p2,_⟩:=I.list q2; rw[Dr] at q; exact fA p p2 (r1.length.symm.trans r.length) (r2.length.symm.trans rr2.length) hu' (λj h1 h2=>Od I r rr2 r1 r2 (Uu (by simp only[Cv] at hd; omega)) j h1 h2) _ _ _ _ ⟨.bl _,H,I,rfl,q⟩
  | @tup b ys es q2 rr2=>cases ry; obtain ⟨vs,r2,p2,_⟩:=I.tuple q2; rw[Dr] at q; exact SeqAt.RcAt.list_tuple p.isList p2 hu' _ _ _ _ ⟨.bl _,H,I,rfl,q⟩; all_goals simp
 | @tup a xs ds qa r =>
  cases rx
  obtain ⟨us,r1,p,_⟩:=I.tuple qa
  cases h2 with
  | non=>cases ry; rw[Dr] at q; exact SeqAt.RcAt.tuple_none p hu' _ _ _ _ ⟨.bl _,H,I,rfl,q⟩; all_goals simp
  | bl b=>cases ry; rw[Dr] at q; exact SeqAt.RcAt.tuple_bool b p hu' _ _ _ _ ⟨.bl _,H,I,rfl,q⟩; all_goals simp
  | int b=>obtain ⟨t,rfl⟩:=ry; rw[Dr] at q; exact SeqAt.RcAt.tuple_int b t p hu' _ _ _ _ ⟨.bl _,H,I,rfl,q⟩; all_goals simp
  | str b=>obtain ⟨t,rfl⟩:=ry; rw[Dr] at q; exact SeqAt.RcAt.tuple_str b t p hu' _ _ _ _ ⟨.bl _,H,I,rfl,q⟩; all_goals simp
  | @lst b ys es q2 rr2=>cases ry; obtain ⟨vs,r2,p2,_⟩:=I.list q2; rw[Dr] at q; exact SeqAt.RcAt.tuple_list p p2.isList hu' _ _ _ _ ⟨.bl _,H,I,rfl,q⟩; all_goals simp
  | @tup b ys es q2 rr2=>cases ry; obtain ⟨vs,r2,p2,_⟩:=I.tuple q2; rw[Dr] at q; exact aQ p p2 (r1.length.symm.trans r.length) (r2.length.symm.trans rr2.length) hu' (λj h1 h2=>Od I r rr2 r1 r2 (Uu (by simp only[Cv] at hd; omega)) j h1 h2) _ _ _ _ ⟨.bl _,H,I,rfl,q⟩
theorem A7(hu:X.A.units+64<cLine):Ur X (Hk .NotEq) (L9 X.K):=by
 intro pins s σ H x y v u Q I rx ry h
 obtain ⟨d,e,h1,h2,hd,q⟩:=h
 have hu':X.A.units<cLine:=by omega
 cases h1 with
 | non =>
  cases rx
  cases h2 with
  | non=>cases ry; rw[Dr] at q; exact SeqAt.RcNeAt.none_none _ _ _ _ ⟨.bl _,H,I,rfl,q⟩
  | bl b=>cases ry; rw[Dr] at q; exact SeqAt.RcNeAt.none_bool b _ _ _ _ ⟨.bl _,H,I,rfl,q⟩; all_goals simp
  | int b=>obtain ⟨t,rfl⟩:=ry; rw[Dr] at q; exact SeqAt.RcNeAt.none_int b t _ _ _ _ ⟨.bl _,H,I,rfl,q⟩; all_goals simp
  | str b=>obtain ⟨t,rfl⟩:=ry; rw[Dr] at q; exact SeqAt.RcNeAt.none_str b t _ _ _ _ ⟨.bl _,H,I,rfl,q⟩; all_goals simp
  | @lst b ys es q2 rr2=>cases ry; obtain ⟨vs,r2,p2,_⟩:=I.list q2; rw[Dr] at q; exact SeqAt.RcNeAt.none_list p2.isList hu' _ _ _ _ ⟨.bl _,H,I,rfl,q⟩; all_goals simp
  | @tup b ys es q2 rr2=>cases ry; obtain ⟨vs,r2,p2,_⟩:=I.tuple q2; rw[Dr] at q; exact SeqAt.RcNeAt.none_tuple p2 hu' _ _ _ _ ⟨.bl _,H,I,rfl,q⟩; all_goals simp
 | bl a =>
  cases rx
  cases h2 with
  | non=>cases ry; rw[Dr] at q; exact SeqAt.RcNeAt.bool_none a _ _ _ _ ⟨.bl _,H,I,rfl,q⟩; all_goals simp
  | bl b=>cases ry; rw[Dr] at q; exact SeqAt.RcNeAt.bool_bool a b _ _ _ _ ⟨.bl _,H,I,rfl,q⟩
  | int b=>obtain ⟨t,rfl⟩:=ry; rw[Dr] at q; exact SeqAt.RcNeAt.bool_int a b t _ _ _ _ ⟨.bl _,H,I,rfl,q⟩
  | str b=>obtain ⟨t,rfl⟩:=ry; rw[Dr] at q; exact SeqAt.RcNeAt.bool_str a b t _ _ _ _ ⟨.bl _,H,I,rfl,q⟩; all_goals simp
  | @lst b ys es q2 rr2=>cases ry; obtain ⟨vs,r2,p2,_⟩:=I.list q2; rw[Dr] at q; exact SeqAt.RcNeAt.bool_list a p2.isList hu' _ _ _ _ ⟨.bl _,H,I,rfl,q⟩; all_goals simp
  | @tup b ys es q2 rr2=>cases ry; obtain ⟨vs,r2,p2,_⟩:=I.tuple q2; rw[Dr] at q; exact SeqAt.RcNeAt.bool_tuple a p2 hu' _ _ _ _ ⟨.bl _,H,I,rfl,q⟩; all_goals simp
 | int a =>
  obtain ⟨t',rfl⟩:=rx
  cases h2 with
  | non=>cases ry; rw[Dr] at q; exact SeqAt.RcNeAt.int_none a t' _ _ _ _ ⟨.bl _,H,I,rfl,q⟩; all_goals simp
  | bl b=>cases ry; rw[Dr] at q; exact SeqAt.RcNeAt.int_bool a t' b _ _ _ _ ⟨.bl _,H,I,rfl,q⟩
  | int b=>obtain ⟨t,rfl⟩:=ry; rw[Dr] at q; exact SeqAt.RcNeAt.int_int a t' b t _ _ _ _ ⟨.bl _,H,I,rfl,q⟩
  | str b=>obtain ⟨t,rfl⟩:=ry; rw[Dr] at q; exact SeqAt.RcNeAt.int_str a t' b t _ _ _ _ ⟨.bl _,H,I,rfl,q⟩; all_goals simp
  | @lst b ys es q2 rr2=>cases ry; obtain ⟨vs,r2,p2,_⟩:=I.list q2; rw[Dr] at q; exact SeqAt.RcNeAt.int_list a t' p2.isList hu' _ _ _ _ ⟨.bl _,H,I,rfl,q⟩; all_goals simp
  | @tup b ys es q2 rr2=>cases ry; obtain ⟨vs,r2,p2,_⟩:=I.tuple q2; rw[Dr] at q; exact SeqAt.RcNeAt.int_tuple a t' p2 hu' _ _ _ _ ⟨.bl _,H,I,rfl,q⟩; all_goals simp
 | str a =>
  obtain ⟨t',rfl⟩:=rx
  cases h2 with
  | non=>cases ry; rw[Dr] at q; exact SeqAt.RcNeAt.str_none a t' _ _ _ _ ⟨.bl _,H,I,rfl,q⟩; all_goals simp
  | bl b=>cases ry; rw[Dr] at q; exact SeqAt.RcNeAt.str_bool a t' b _ _ _ _ ⟨.bl _,H,I,rfl,q⟩; all_goals simp
  | int b=>obtain ⟨t,rfl⟩:=ry; rw[Dr] at q; exact SeqAt.RcNeAt.str_int a t' b t _ _ _ _ ⟨.bl _,H,I,rfl,q⟩; all_goals simp
  | str b=>obtain ⟨t,rfl⟩:=ry; rw[Dr] at q; exact SeqAt.RcNeAt.str_str a t' b t _ _ _ _ ⟨.bl _,H,I,rfl,q⟩
  | @lst b ys es q2 rr2=>cases ry; obtain ⟨vs,r2,p2,_⟩:=I.list q2; rw[Dr] at q; exact SeqAt.RcNeAt.str_list a t' p2.isList hu' _ _ _ _ ⟨.bl _,H,I,rfl,q⟩; all_goals simp
  | @tup b ys es q2 rr2=>cases ry; obtain ⟨vs,r2,p2,_⟩:=I.tuple q2; rw[Dr] at q; exact SeqAt.RcNeAt.str_tuple a t' p2 hu' _ _ _ _ ⟨.bl _,H,I,rfl,q⟩; all_goals simp
 | @lst a xs ds qa r =>
  cases rx
  obtain ⟨us,r1,p,_⟩:=I.list qa
  cases h2 with
  | non=>cases ry; rw[Dr] at q; exact SeqAt.RcNeAt.list_none p.isList hu' _ _ _ _ ⟨.bl _,H,I,rfl,q⟩; all_goals simp
  | bl b=>cases ry; rw[Dr] at q; exact SeqAt.RcNeAt.list_bool b p.isList hu' _ _ _ _ ⟨.bl _,H,I,rfl,q⟩; all_goals simp
  | int b=>obtain ⟨t,rfl⟩:=ry; rw[Dr] at q; exact SeqAt.RcNeAt.list_int b t p.isList hu' _ _ _ _ ⟨.bl _,H,I,rfl,q⟩; all_goals simp
  | str b=>obtain ⟨t,rfl⟩:=ry; rw[Dr] at q; exact SeqAt.RcNeAt.list_str b t p.isList hu' _ _ _ _ ⟨.bl _,H,I,rfl,q⟩; all_goals simp
  | @lst b ys es q2 rr2=>cases ry; obtain ⟨vs,r2,p2,_⟩:=I.list q2; rw[Dr] at q; exact oA p p2 (r1.length.symm.trans r.length) (r2.length.symm.trans rr2.length) hu' (λj h1 h2=>Od I r rr2 r1 r2 (Uu (by simp only[Cv] at hd; omega)) j h1 h2) _ _ _ _ ⟨.bl _,H,I,rfl,q⟩
  | @tup b ys es q2 rr2=>cases ry; obtain ⟨vs,r2,p2,_⟩:=I.tuple q2; rw[Dr] at q; exact SeqAt.RcNeAt.list_tuple p.isList p2 hu' _ _ _ _ ⟨.bl _,H,I,rfl,q⟩; all_goals simp
 | @tup a xs ds qa r =>
  cases rx
  obtain ⟨us,r1,p,_⟩:=I.tuple qa
  cases h2 with
  | non=>cases ry; rw[Dr] at q; exact SeqAt.RcNeAt.tuple_none p hu' _ _ _ _ ⟨.bl _,H,I,rfl,q⟩; all_goals simp
  | bl b=>cases ry; rw[Dr] at q; exact SeqAt.RcNeAt.tuple_bool b p hu' _ _ _ _ ⟨.bl _,H,I,rfl,q⟩; all_goals simp
  | int b=>obtain ⟨t,rfl⟩:=ry; rw[Dr] at q; exact SeqAt.RcNeAt.tuple_int b t p hu' _ _ _ _ ⟨.bl _,H,I,rfl,q⟩; all_goals simp
  | str b=>obtain ⟨t,rfl⟩:=ry; rw[Dr] at q; exact SeqAt.RcNeAt.tuple_str b t p hu' _ _ _ _ ⟨.bl _,H,I,rfl,q⟩; all_goals simp
  | @lst b ys es q2 rr2=>cases ry; obtain ⟨vs,r2,p2,_⟩:=I.list q2; rw[Dr] at q; exact SeqAt.RcNeAt.tuple_list p p2.isList hu' _ _ _ _ ⟨.bl _,H,I,rfl,q⟩; all_goals simp
  | @tup b ys es q2 rr2=>cases ry; obtain ⟨vs,r2,p2,_⟩:=I.tuple q2; rw[Dr] at q; exact gP p p2 (r1.length.symm.trans r.length) (r2.length.symm.trans rr2.length) hu' (λj h1 h2=>Od I r rr2 r1 r2 (Uu (by simp only[Cv] at hd; omega)) j h1 h2) _ _ _ _ ⟨.bl _,H,I,rfl,q⟩
theorem qP{z z':V}{v:Value}(h:RelV z v)(h':RelV z' v):z=z':=by
 cases z <;> cases z' <;> simp only[L2.RelV] at h h' <;> first | rfl | (subst h; cases h'; rfl) | (subst h; cases h'; done) | (obtain ⟨t,rfl⟩:=h; obtain ⟨t',e⟩:=h'; cases e; rfl) | (obtain ⟨t,rfl⟩:=h; obtain ⟨t',e⟩:=h'; cases e; done) | (obtain ⟨t,rfl⟩:=h; cases h'; done) | (subst h; obtain ⟨t',e⟩:=h'; cases e)
open Classical in
noncomputable def Lc(K:PySem.W.Frag)(H:Hp)(d:Ag)(v:Value):Bool:=if h:∃e z,RdV K H z e/\RelV z v then Dr h.choose d else false
theorem eY{pins:List (Addr×Obj)}{σ:L2.St}{H:Hp}{s:Ai}(I:Inv X pins σ H s){d e:Ag}{z:V}{v:Value}(h:RdV X.K H z e)(r:RelV z v):Lc X.K H d v=Dr e d:=by
 unfold Lc
 have hx:∃e z,RdV X.K H z e/\RelV z v:=⟨e,z,h,r⟩
 rw[dif_pos hx]
 obtain ⟨z',h',r'⟩:=hx.choose_spec
 have ez:=qP r' r
 subst ez
 rw[RdV.det I h' h]
theorem Nn{pins:List (Addr×Obj)}{σ:L2.St}{H:Hp}{s:Ai}(I:Inv X pins σ H s){d:Ag}:∀{xs:List V} {ds:List Ag} {us:List Value},RdVs X.K H xs ds->Fi xs us->us.any (Lc X.K H d)=ds.any λe=>Dr e d
 | _,_,_,.nil,r=>by cases r; rfl
 | _,_,_,.cons h t,r=>by
  cases r with
  | cons r1 r2=>rw[List.any_cons,List.any_cons,eY I h r1,Nn I t r2]
theorem Nl{pins:List (Addr×Obj)}{σ:L2.St}{H:Hp}{s:Ai}(I:Inv X pins σ H s){A:Cr}{x:V}{d:Ag}{u:Value}(hx:RdV X.K H x d)(rx:RelV x u):∀{xs:List V} {ds:List Ag} {us:List Value},RdVs X.K H xs ds->Fi xs us->A.units+Be ds<cLine->∀v∈us,Kx A s v u (Lc X.K H d v)
 | _,_,_,.nil,r,_=>λv hv=>by cases r; cases hv
 | _,_,_,@RdVs.cons _ _ y e ys es h t,r,hu=>λv hv=>by
  have hm:A.units+e.depth<cLine/\A.units+Be es<cLine:=by
   simp only[Be] at hu
   omega
  cases r with
  | cons r1 r2 =>
   rcases An.mp hv with rfl | hv
   ·rw[eY I h r1]; exact sN I h hx r1 rx hm.1
   ·exact Nl I hx rx t r2 hm.2 v hv
def B2(K:PySem.W.Frag)(neg:Bool):R2:=λx y H Q=>∃p xs d ds,y=.ref p/\(Ox K H p xs\/Ri K H p xs)/\RdV K H x d/\RdVs K H xs ds/\Be ds<=60/\Q (.bl (if neg then !(ds.any λe=>Dr e d) else ds.any λe=>Dr e d)) H
theorem e8(hu:X.A.units+64<cLine):Ur X (Hk .In) (B2 X.K false):=by
 intro pins s σ H x y v u Q I rx ry h
 obtain ⟨p,xs,d,ds,rfl,hq,hx,hs,hd,q⟩:=h
 cases ry
 have hu1:X.A.in1.units+Be ds<cLine:=by have:=Up X.A; omega
 rcases hq with hq | hq
 ·obtain ⟨its,r,pl,hz⟩:=I.list hq
  refine SeqAt.in_listAt (Lc X.K H d) pl.isList (λw hw=>Nl I hx rx hs r hu1 w (by simpa using hw)) ⟨.bl _,H,I,rfl,?_⟩
  rw[show its.toArray.any (Lc X.K H d)=its.any (Lc X.K H d) by simp,Nn I hs r]
  exact q
 ·obtain ⟨its,r,pl,hz⟩:=I.tuple hq
  refine SeqAt.in_tupleAt (Lc X.K H d) pl (λw hw=>Nl I hx rx hs r hu1 w (by simpa using hw)) ⟨.bl _,H,I,rfl,?_⟩
  rw[show its.toArray.any (Lc X.K H d)=its.any (Lc X.K H d) by simp,Nn I hs r]
  exact q
theorem mI(hu:X.A.units+64<cLine):Ur X (Hk .NotIn) (B2 X.K true):=by
 intro pins s σ H x y v u Q I rx ry h
 obtain ⟨p,xs,d,ds,rfl,hq,hx,hs,hd,q⟩:=h
 cases ry
 have hu1:X.A.in1.units+Be ds<cLine:=by have:=Up X.A; omega
 rcases hq with hq | hq
 ·obtain ⟨its,r,pl,hz⟩:=I.list hq
  refine SeqAt.notIn_listAt (Lc X.K H d) pl.isList (λw hw=>Nl I hx rx hs r hu1 w (by simpa using hw)) ⟨.bl _,H,I,rfl,?_⟩
  rw[show its.toArray.any (Lc X.K H d)=its.any (Lc X.K H d) by simp,Nn I hs r]
  exact q
 ·obtain ⟨its,r,pl,hz⟩:=I.tuple hq
  refine SeqAt.notIn_tupleAt (Lc X.K H d) pl (λw hw=>Nl I hx rx hs r hu1 w (by simpa using hw)) ⟨.bl _,H,I,rfl,?_⟩
  rw[show its.toArray.any (Lc X.K H d)=its.any (Lc X.K H d) by simp,Nn I hs r]
  exact q
end
section
variable{X:Cx}{pins:List (Addr×Obj)}{σ:L2.St}{H:Hp}{s:Ai}{h':Heap}
theorem Th{t':Nat}{fp:List Addr}(I:Inv X pins σ H s)(k:∀b o,b∉fp->s.heap.get? b=some o->h'.get? b=some o)(hf:∀b∈fp,Lk X pins H b):Inv X pins σ H { s with heap:=h',toks:=t' }:=by
 have nit:∀b u,H b=some u->b∉fp:=λb u e z=>by rw[(hf b z).1] at e; cases e
 refine I.step (g':=s.gens) (d':=s.drawn) (ch:=fp) (λb hb=>?_) (λb o _ _ hc e _=>k b o hc e) (λb o _ _ hc e _=>⟨o.slots,k b o hc e⟩) (λ_ _ _ _ n=>n)
  (λb o hc e=>⟨o,k b o hc e⟩) (λ_ _ e=>e) (λ_ _ _ e=>e) (λb ps e=>⟨#[],by rw[e]; simp⟩) (λm hm=>?_) (λb u e=>?_) I.bare
 ·obtain ⟨_,f1,_,f3,f4,f5⟩:=hf b hb
  exact ⟨f3,f1,f4,f5⟩
 ·obtain ⟨o,es,ep,ho,r⟩:=hm
  exact ⟨o,es,ep,k _ o (λz=>(hf _ z).2.1 rfl) ho,r⟩
 ·refine (I.hok b u e).stay (λc v hc q=>k c v ?_ q) (λ_ q=>q) λ_ _ q=>q
  rcases hc with z | z
  ·rw[z]; exact nit b u e
  ·exact nit c _ z
end
section
variable{X:Cx}
def o6(K:PySem.W.Frag)(J:It)(js:List Nat)(tc:TT)(te:TE)(σ:L2.St)(H1:Hp)(Q:VK):Prop:=∀D,H1 D=none->∃W:Nat->Nat->Hp->Prop,(∃m,W 0 m (upd H1 D (.lst [])))/\∀i m H,W i m H ->
 (J.stop i H/\Q (.ref D) H)\/(J.go i H/\∀x H',J.yld i H x H'->∃(t:Addr) (w1 w2:V),x=.ref t/\Ri K H' t [w1,w2]/\∃(N1:Hp->Prop) (N2:VK),(∀H2,N1 H2->∃m',m'<m/\W (i+1) m' H2) /\
  (∀y H3,N2 y H3->∃acc,H3 D=some (.lst acc)/\acc.length<Av/\∃m',m'<m/\W (i+1) m' (upd H3 D (.lst (acc++[y])))) /\
  tc (some w1::some w2::Em σ js) H' λc H2=>if c=true then te (some w1::some w2::Em σ js) H2 N2 else N1 H2)
def tP(K:PySem.W.Frag)(wi:TI)(js:List Nat)(tc:TT)(te:TE):TE:=λσ H Q=>wi σ H λJ H1=>o6 K J js tc te σ H1 Q
end
section
variable{X:Cx}
theorem xO{elt iter:Expr}{x y0:Str}{px py pos spos:Pos}{i0:Nat}{ifs:List Expr}{scope:Scope}{cl:List (Str×Addr)}{ys:List Str}{js:List Nat}{wi:TI}{tc:TT}{te:TE}(hN:X.N.Nodup)(hi0:X.N[i0]? = some y0)(hy0:X.env.scope.names.lookup y0=some .local)(C:CompScope X scope cl x ys js)(hc:X.calm=true)(hi:PI X (.Name x px) iter wi)(ht:∀fp s H,tE (Ea X scope cl (x::ys) fp s H) ifs tc)(he:∀fp s H,PE (Ea X scope cl (x::ys) fp s H) elt te)(hs:∀x,Dh iter X.env x=pure x:=by intro _; rfl)(hsw:Jy (.ListComp elt [⟨.Name x px,iter,ifs,0⟩] scope pos) (some (.Name y0 py)) spos.line X.env=pure true:=by rfl):PS X (.Assign [.Name y0 py] (.ListComp elt [⟨.Name x px,iter,ifs,0⟩] scope pos) spos) (mG (jL wi js tc te) (Qz i0)):=by
 intro pins s σ H De I h
 have h:jL wi js tc te σ H λv H1=>De.nx (σ.set i0 (some v)) H1:=h
 rw[Ua _ _ _ _ hsw]
 refine Ac (Gu (Ac ?_))
 show wpAny _ X.A (do let _ <- comprehension (.ListComp elt [⟨.Name x px,iter,ifs,0⟩] scope pos) scope X.env _ (newList []) false (eval iter X.env) (some (Jv (.Name y0 py) X.env))) _ _ s
 refine Ac (Cy (Ki (use:=some (Jv (.Name y0 py) X.env)) (Q:=λ_ s'=>SP X pins De .next s') rfl hs C.clos C.kind C.locs (Fs (hi pins s σ H _ I h) λv s1 h1=>Fs h1 λitv s2 h2=>?_)) (λ_ s' hq=>Am (Am hq)) λ_ _ e=>e)
 obtain ⟨it,fp,tn,J,H2,e,I2,T,st2,f2,q2⟩:=h2
 subst e
 have fD:H2 s2.heap.objs.size=none:=I2.hok.fresh (Ah _)
 obtain ⟨W,⟨m0,w0⟩,turn⟩:=q2 s2.heap.objs.size fD
 refine Gg ?_
 have I3:Inv X pins σ (upd H2 s2.heap.objs.size (.lst [])) { s2 with heap:=s2.heap.push { cls:=.type "list",dict:=none,data:=.seq ([]:List Value).toArray } } :=
  I2.laid (t':=s2.toks) (λb u q=>Al _ q) (Ah _) ⟨Cz _,[],0,.nil,Bu _ rfl⟩
 obtain ⟨f3,st3',o3'⟩:=So I2 T st2 f2 I3
 generalize hS3:({ s2 with heap:=s2.heap.push { cls:=.type "list",dict:=none,data:=.seq ([]:List Value).toArray } }:Ai)=s3 at I3
 have Oz:tn 0 s3.heap:=by rw[<- hS3]; exact st3'
 have o3:∀b∈fp,∃o,s3.heap.get? b=some o:=by rw[<- hS3]; exact o3'
 show wpAny _ _ (Lf scope X.env.globals cl [] X.env.qual none .none (some X.env)) _ _ _
 refine Qi C λh4 hns4 keep4 new4=>?_
 have I4:∀tk,Inv (Ea X scope cl (x::ys) fp s3 (upd H2 s2.heap.objs.size (.lst []))) [] (none::Em σ js) (upd H2 s2.heap.objs.size (.lst [])) { s3 with heap:=h4,toks:=tk }:=λtk=>Oa (pre:=[x]) C I3 f3 o3 hns4 keep4 new4
 have st4:tn 0 h4:=T.keep 0 _ _ Oz λb hb o q=>keep4 b o q
 generalize hX':Ea X scope cl (x::ys) fp s3 (upd H2 s2.heap.objs.size (.lst []))=X' at I4
 obtain ⟨eP,eW,eK,eA,eC⟩:=Tj hc hX'
 have stat:∀{H':Hp},(∀b∈fp,H' b=none)->∀b∈fp,Lk X' [] H' b:=λ{H'} hn=>Qc hX' (I4 0) hn
 have loop:∀s5:Ai,s5={ s3 with heap:=h4,toks:=s3.toks+([]:List (Str×Value)).length } ->
   Hl (model X.prog X.w) X.A (.compLoop (.ListComp elt [⟨.Name x px,iter,ifs,0⟩] scope pos) 0 (.ref it) (.ref s2.heap.objs.size) (Vt scope (Eb (s3.heap.objs.size+1) scope.names cl) s3.heap.objs.size X.env))
    (compPost (model X.prog X.w) X.A X.xe (some (Jv (.Name y0 py) X.env)) (λ_ s'=>SP X pins De .next s') (.ref s2.heap.objs.size) s3.heap.objs.size) s5:=by
  rintro s5 rfl
  refine Rn (λn s'=>∃i o H',Inv X' [] (o::Em σ js) H' s'/\tn i s'.heap/\(∀b∈fp,H' b=none)/\W i n H') ?_ m0
   ⟨0,none,_,I4 _,st4,λb hb=>(f3 b hb).1,w0⟩
  (intro n s6 q_; obtain ⟨i,o,H6,I6,st6,fr6,w6⟩ := q_)
  rcases turn i n H6 w6 with ⟨stop,qn⟩ | ⟨go,step⟩
  ·have hd:=T.done X' eP eW eK eC i [] s6 _ H6 (λ_ _=>False) I6 (stat fr6) st6 stop
   rw[eA] at hd
   refine Fs hd λr s7 q0_ => ?_
   obtain ⟨hr,I7⟩ := q0_
   subst hr
   obtain ⟨⟨m7,hn7'⟩,I7f,J7⟩:=Ut hX' I3 f3 I7
   have fC:Lk X pins H6 s3.heap.objs.size:=I3.fpOk (Ah _) I7f
   obtain ⟨oC,esC,epC,hoC,rC⟩:=id hn7'
   have J8:Inv X (pins++[(s3.heap.objs.size,oC)]) σ H6 s7:=J7.pins_of λp hp=>by
    rcases Au.mp hp with z | z
    ·have q:=J7.pin p (Ad _ z)
     exact q
    ·rw[Af.mp z]
     exact ⟨hoC,I7f,fC.2.1,fC.2.2.1,λv hv=>by rw[rC.1] at hv; cases hv⟩
   refine Fs (Iy (X:=X) (i:=i0) (x:=y0) (pos:=py) hN hi0 (.inl hy0) (.inr hy0) (pins++[(s3.heap.objs.size,oC)]) s7 σ H6 (.ref s2.heap.objs.size) (.ref s2.heap.objs.size) (λσ' H'=>σ'=σ.set i0 (some (.ref s2.heap.objs.size))/\H'=H6) J8 rfl ⟨rfl,rfl⟩) λ_ s9 q0_ => ?_
   obtain ⟨σ9,H9,I9,e9,e9'⟩ := q0_
   subst e9 e9'
   have hoC9:=(I9.pin (s3.heap.objs.size,oC) (Ad _ (Ad _ Aa))).1
   have I9':Inv X pins (σ.set i0 (some (.ref s2.heap.objs.size))) H9 s9:=I9.pins_of λp hp=>I9.pin p (Ad _ (Ao _ hp))
   refine ⟨m7,hn7'.at λo e=>by rw[hoC] at e; cases e; exact hoC9,λh10 hs10=>?_⟩
   exact ⟨_,H9,Th (t':=s9.toks) (fp:=[s3.heap.objs.size]) I9' (λb o hb e=>(hs10.2 b (λz=>hb (by rw[z]; exact Aa))).trans e) (λb hb=>by rw[Af.mp hb]; exact fC),qn⟩
  ·have hit:=T.item X' eP eW eK eC i [] s6 _ H6 (λ_ _=>False) I6 (stat fr6) st6 go
   rw[eA] at hit
   refine Fs hit λr s7 q0_ => ?_
   obtain ⟨u,hr,h7⟩ := q0_
   subst hr
   refine Fs h7 λ_ s8 q0_ => ?_
   obtain ⟨y,H8,I8,r8,y8,st8,fr8⟩ := q0_
   have I8':=I8.pinned (stat fr8) (T.obj _ _ st8)
   obtain ⟨N1,N2,hN1,hN2,hst⟩:=step y H8 y8
   have again:∀{H9:Hp} {s9:Ai} {m':Nat},Inv X' ([]++Mx fp s8.heap) (some y::Em σ js) H9 s9->m'<n->W (i+1) m' H9->∃m,m<n/\∃i o H',Inv X' [] (o::Em σ js) H' s9/\tn i s9.heap/\(∀b∈fp,H' b=none)/\W i m H':=λ{H9 s9 m'} I9 hm w9=>by
    refine ⟨m',hm,i+1,some y,H9,I9.unpinned,T.keep _ _ _ st8 λb hb o e=>(I9.pin (b,o) (Ad _ (Ad _ (Fo hb e)))).1,λb hb=>?_,w9⟩
    obtain ⟨o,e,_⟩:=T.obj _ _ st8 b hb
    exact (I9.pin (b,o) (Ad _ (Ad _ (Fo hb e)))).2.1
   subst hX'
   refine Fs (Iy (i:=0) (x:=x) (pos:=px) C.nd rfl (Qj C.own) (Uz C.own) _ s8 _ H8 y u (λσ' H'=>σ'=some y::Em σ js/\H'=H8) I8' r8 ⟨rfl,rfl⟩) λ_ s9 q0_ => ?_
   obtain ⟨σ9,H9,I9,e9,e9'⟩ := q0_
   subst e9 e9'
   refine Fs (ht fp s3 _ _ s9 _ _ _ I9 hst) λok s10 q0_ => ?_
   obtain ⟨H10,I10,q10⟩ := q0_
   cases ok with
   | false =>
    rw[if_neg Bx] at q10 ⊢
    obtain ⟨m',hm,w10⟩:=hN1 _ q10
    exact again I10 hm w10
   | true =>
    rw[if_pos rfl] at q10 ⊢
    refine Fs (he fp s3 _ _ s10 _ _ _ I10 q10) λz s11 q0_ => ?_
    obtain ⟨vz,H11,I11,r11,q11⟩ := q0_
    obtain ⟨acc,ha,hz,m',hm,w11⟩:=hN2 _ _ q11
    refine Fs (Kl _ s11 _ H11 (.ref s2.heap.objs.size) [vz] (.ref s2.heap.objs.size) [z] (λ_ H'=>H'=upd H11 s2.heap.objs.size (.lst (acc++[vz]))) I11 rfl (.cons r11 .nil) ⟨_,acc,vz,rfl,rfl,ha,hz,rfl⟩) λ_ s12 q0_ => ?_
    obtain ⟨_,H12,I12,_,e12⟩ := q0_
    subst e12
    exact again I12 hm w11
 exact Lg (loop _ rfl) (T.self X.A 0 _ _ _ st4 (loop _ rfl))
end
end Nd
namespace Nd
open PySem L2
def zG(K:PySem.W.Frag):R2:=λx y H Q=>∃a b xs ys,x=.ref a/\y=.ref b/\Ri K H a xs/\Ri K H b ys/\xs.length+ys.length<=Av/\(xs=[]->Q (.ref b) H)/\(ys=[]->Q (.ref a) H)/\(∀p,H p=none->Q (.ref p) (upd H p (.tup (xs++ys))))
open PyProof.Rows in
theorem vO{X:Cx}:Ur X (Jb .Add) (zG X.K):=by
 intro pins s σ H x y v u Q I rx ry h
 obtain ⟨a,b,xs,ys,rfl,rfl,ha,hb,hz,q1,q3,q2⟩:=h
 by_cases hx:xs=[]
 ·cases rx
  cases ry
  obtain ⟨its,r1,p1,_⟩:=I.tuple ha
  obtain ⟨its2,r2,p2,_⟩:=I.tuple hb
  have e1:its=[]:=r1.nil_iff.mpr hx
  subst e1
  obtain ⟨⟨c1,d1,dt1,sl1⟩,g1,k1,n1,e1⟩:=id p1
  obtain ⟨⟨c2,d2,dt2,sl2⟩,g2,k2,n2,e2⟩:=id p2
  simp only at k1 e1 k2 e2
  subst k1 e1 k2 e2
  exact aU ⟨_,g1,rfl⟩ ⟨_,g2,rfl⟩ Re Yv PySem.F.slot_tuple_add PySem.F.entry_tuple_add (PySem.F.args_tuple_add_2 _ _)
   (tuple_addW0 a b _ _ n1 n2 d1 d2 sl1 sl2 rfl) ⟨g1,g2,⟨.ref b,H,I,rfl,q1 hx⟩⟩
 ·exact kQ pins s σ H (.ref a) (.ref b) v u Q I rx ry ⟨a,b,xs,ys,rfl,rfl,ha,hb,hx,hz,q3,λ_=>q2⟩
end Nd
namespace Nd
open PySem PySem.Spec PyProof.Rows L2
end Nd
namespace Nd
open PySem L2
def X0(K:PySem.W.Frag):List V->Hp->VK->Prop:=λxs H Q=>∃x n t b,xs=[x,.ty n]/\TyOf K H x t/\PySem.W.kitOne K t (.type n)=some b/\Q (.bl b) H
theorem Rt{X:Cx}:Mj X (.builtin "isinstance") (X0 X.K):=dM
theorem u9{K:PySem.W.Frag}{T:String}:PySem.W.kitOne K (.type T) (.type T)=some true:=by
 unfold PySem.W.kitOne
 rw[if_pos (by simp)]
theorem compScope0{X:Cx}{scope:Scope}{x:Str}(clos:closureFor scope X.env=pure [])(nocell:∀y∈scope.names,y.2≠.cell)(kind:scope.kind=.function)(locs:∀y∈scope.names,y.2=.local->scope.names.lookup y.1=some .local)(own:scope.names.lookup x=some .local)(has_:(scope.names.all λy=>!(y.2 == Dk) || (([]:List (Str×Addr)).lookup y.1).isSome)=true):CompScope X scope [] x [] [] :=
 ⟨clos,.inl nocell,kind,locs,.inl own,λ_ _ h=>by simp at h,has_,Bo.mpr ⟨Bh,Df⟩,rfl,λk y j e1 _=>by simp at e1⟩
theorem sz{n:Nat}(h:n<=1000:=by first | decide | simp | (simp; omega)):n<=Av:=Jm (Uv h)
theorem qQ{D:Addr}{H1 H:Hp}{o:HO}(n:H1 D=none)(s:Jk H1 H):Jk H1 (upd H D o):=λb u e=>by
 rw[Dm (Fd e n)]; exact s _ _ e
end Nd
namespace Nd
open PySem PySem.Spec PyProof.Rows L2
theorem u5{K:PySem.W.Frag}{T n:String}{b:Bool}(h1:(Ee T == Ee n)=false)(h2:PySem.W.kitMeta n=true)(h3:(fastBuiltinMro T).map (λx=>x.contains (Ee n))=some b):PySem.W.kitOne K (.type T) (.type n)=some b:=by
 unfold PySem.W.kitOne PySem.W.kitCls
 rw[h1,if_neg (by decide)]
 dsimp only
 rw[if_pos h2]
 exact h3
end Nd
namespace NdS
open PySem
theorem Yi{mask finger moves:Nat}{led plain:Bool}{hs:Array Int}{t:Cq}{order:Array Nat}(h:Ht mask finger moves led plain hs=some (t,order)):t.led=led/\t.mask=mask/\t.plain=plain/\t.dummies=#[]:=by
 unfold Ht at h
 cases hl:Mr mask hs with
 | none=>rw[hl] at h; cases h
 | some owner =>
  rw[hl] at h
  cases h
  exact ⟨rfl,rfl,rfl,rfl⟩
def st(m i:Nat):Nat:=(i * 5+1) % m
def it(m:Nat):Nat->Nat->Nat
 | 0,i=>i
 | t+1,i=>it m t (st m i)
theorem Yg(m:Nat):∀(a b i:Nat),it m (a+b) i=it m b (it m a i)
 | 0,b,i=>by rw[Hf]; rfl
 | a+1,b,i=>by rw[Vv]; exact Yg m a b (st m i)
def C1(m:Nat):Nat->Nat->List Nat
 | 0,_=>[]
 | f+1,i=>i::C1 m f (st m i)
theorem Wl{m:Nat}:∀{f i e:Nat},e∈C1 m f i->∃t,t<f/\it m t i=e
 | 0,_,_,h=>by cases h
 | f+1,i,e,h=>by
  rcases An.mp h with z | z
  ·exact ⟨0,Wy _,z.symm⟩
  ·obtain ⟨t,h1,h2⟩:=Wl z
   exact ⟨t+1,Nat.succ_lt_succ h1,h2⟩
def Ii(m:Nat):Prop:=0<m/\it m m 0=0/\∀e,e<m->e∈C1 m m 0
theorem Nm{m:Nat}(h0:0<m)(h1:(it m m 0 == 0)=true)(h2:((Bp m).all λe=>(C1 m m 0).contains e)=true):Ii m :=
 ⟨h0,by simpa using h1,λe he=>by
  have:=List.all_eq_true.mp h2 e (Jf.mpr he)
  simpa using this⟩
theorem yL:Ii 8:=Nm (by decide) (by decide +kernel) (by decide +kernel)
theorem x5:Ii 16:=Nm (by decide) (by decide +kernel) (by decide +kernel)
theorem q9:Ii 32:=Nm (by decide) (by decide +kernel) (by decide +kernel)
theorem u3:Ii 64:=Nm (by decide) (by decide +kernel) (by decide +kernel)
theorem wY:Ii 128:=Nm (by decide) (by decide +kernel) (by decide +kernel)
theorem mB:Ii 256:=Nm (by decide) (by decide +kernel) (by decide +kernel)
theorem cover{m:Nat}(g:Ii m){i e:Nat}(hi:i<m)(he:e<m):∃t,t<m/\it m t i=e:=by
 obtain ⟨h0,h1,h2⟩:=g
 obtain ⟨a,ha,ea⟩:=Wl (h2 i hi)
 obtain ⟨b,hb,eb⟩:=Wl (h2 e he)
 by_cases hab:a<=b
 ·refine ⟨b - a,by omega,?_⟩
  rw[<- ea,<- Yg,Nat.add_sub_cancel' hab]
  exact eb
 ·refine ⟨b+m - a,by omega,?_⟩
  rw[<- ea,<- Yg,show a+(b+m - a)=m+b by omega,Yg,h1]
  exact eb
def lp(m:Nat):Nat->Nat->Nat->Nat×Nat
 | 0,i,p=>(i,p)
 | t+1,i,p=>lp m t ((i * 5+1+p / 32) % m) (p / 32)
theorem qL(m:Nat):∀(a b i p:Nat),lp m (a+b) i p=lp m b (lp m a i p).1 (lp m a i p).2
 | 0,b,i,p=>by rw[Hf]; rfl
 | a+1,b,i,p=>by rw[Vv]; exact qL m a b _ _
theorem jU(m:Nat):∀(t i:Nat),lp m t i 0=(it m t i,0)
 | 0,_=>rfl
 | t+1,i=>jU m t (st m i)
theorem fO{m:Nat}:∀(n i p:Nat),p<32 ^ n->(lp m n i p).2=0
 | 0,i,p,h=>by show p=0; simpa using h
 | n+1,i,p,h=>fO n _ _ (by rw[Ms] at h; exact Nat.div_lt_of_lt_mul (by omega))
theorem yU{m:Nat}(h0:0<m):∀(n i p:Nat),i<m->(lp m n i p).1<m
 | 0,i,p,h=>h
 | n+1,i,p,h=>yU h0 n _ _ (Ng _ h0)
theorem eQ{m:Nat}(g:Ii m){i p e:Nat}(hi:i<m)(hp:p<2 ^ 64)(he:e<m):∃t,t<m+14/\(lp m t i p).1=e:=by
 have h13:=fO (m:=m) 13 i p (Br hp (by decide))
 obtain ⟨t,ht,e1⟩:=cover g (yU g.1 13 i p hi) he
 refine ⟨13+t,by omega,?_⟩
 rw[qL,h13,jU]
 exact e1
theorem Vc(mask i:Nat):i<=Hr mask i:=by unfold Hr; split <;> omega
theorem aH{mask:Nat}{owner:Array (Option Nat)}:∀(fuel i p t:Nat),t<fuel->(owner.getD (lp (mask+1) t i p).1 (some 0)).isNone=true->∃j,Jc mask owner fuel i p=some j/\(owner.getD j (some 0)).isNone=true
 | 0,_,_,_,h,_=>absurd h (Gx _)
 | fuel+1,i,p,t,h,hn=>by
  unfold Jc
  split
  ·rename_i k hk
   exact ⟨i+k,rfl,by have:=Qp hk; exact this⟩
  ·rename_i hk
   rw[List.find?_eq_none] at hk
   cases t with
   | zero =>
    have:=hk 0 (Jf.mpr (by have:=Vc mask i; omega))
    exact absurd hn (by simpa [lp] using this)
   | succ t =>
    exact aH fuel _ _ t (by omega) hn
theorem Rw{L:List (Option Nat)}:∀{j x:Nat},L[j]? = some none->((L.set j (some x)).filterMap id).Perm (x::L.filterMap id):=by
 induction L with
 | nil=>intro j x h; simp at h
 | cons a L ih =>
  intro j x h
  cases j with
  | zero =>
   simp at h
   subst h
   simp
  | succ j =>
   have h':L[j]? = some none:=by simpa using h
   have:=ih (x:=x) h'
   cases a with
   | none=>simpa using this
   | some b=>simpa using (List.Perm.cons b this).trans (Ib x b _)
theorem nV{L:List (Option Nat)}:(L.filterMap id).length<L.length->∃j:Nat,L[j]? = some none:=by
 induction L with
 | nil=>intro h; simp at h
 | cons a L ih =>
  intro h
  cases a with
  | none=>exact ⟨0,rfl⟩
  | some b =>
   have : (L.filterMap id).length<L.length:=by simpa using h
   obtain ⟨j,hj⟩:=ih this
   exact ⟨j+1,by simpa using hj⟩
theorem jO(h:Int):Dd h<2 ^ 64:=by
 unfold Dd
 have h1:=Int.emod_nonneg h (show (2 ^ 64:Int)≠0 by decide)
 have h2:=Int.emod_lt_of_pos h (show (0:Int)<2 ^ 64 by decide)
 omega
def zK(mask:Nat)(acc:Option (Array (Option Nat)×Nat))(h:Int):Option (Array (Option Nat)×Nat):=do
 let (owner,k) <- acc
 let j <- Jc mask owner (Fk mask) (Dd h % (mask+1)) (Dd h)
 pure (owner.setIfInBounds j (some k),k+1)
theorem fM{mask:Nat}(g:Ii (mask+1)):∀(hs:List Int) (owner:Array (Option Nat)) (n:Nat),owner.size=mask+1->(owner.toList.filterMap id).Perm (Bp n)->n+hs.length<=mask->∃owner':Array (Option Nat),hs.foldl (zK mask) (some (owner,n))=some (owner',n+hs.length)/\owner'.size=mask+1/\(owner'.toList.filterMap id).Perm (Bp (n+hs.length))
 | [],owner,n,h1,h2,_=>⟨owner,rfl,h1,h2⟩
 | h::hs,owner,n,h1,h2,h3=>by
  rw[Bi] at h3
  have len:(owner.toList.filterMap id).length=n:=by rw[h2.length_eq,Cs]
  obtain ⟨e,he⟩:=nV (L:=owner.toList) (by rw[len,Aj]; omega)
  have he':e<mask+1:=by
   have:=(Aq.mp he).1
   rw[Aj] at this
   omega
  obtain ⟨t,ht,et⟩:=eQ g (i:=Dd h % (mask+1)) (p:=Dd h) (e:=e) (Ng _ g.1) (jO h) he'
  have hn:(owner.getD (lp (mask+1) t (Dd h % (mask+1)) (Dd h)).1 (some 0)).isNone=true:=by
   rw[et,Cb,<- Ie,he]
   rfl
  obtain ⟨j,ej,hj⟩:=aH (mask:=mask) (owner:=owner) (Fk mask) _ _ t (by unfold Fk; omega) hn
  have hj':owner.toList[j]? = some none:=by
   rw[Cb,<- Ie] at hj
   cases q:owner.toList[j]? with
   | none=>rw[q] at hj; simp at hj
   | some v =>
    rw[q] at hj
    cases v with
    | none=>rfl
    | some v=>simp at hj
  have e1:zK mask (some (owner,n)) h=some (owner.setIfInBounds j (some n),n+1):=by
   show (do
    let j <- Jc mask owner (Fk mask) (Dd h % (mask+1)) (Dd h)
    pure (owner.setIfInBounds j (some n),n+1))=_
   rw[ej]
   rfl
  rw[List.foldl_cons,e1]
  have p1:((owner.setIfInBounds j (some n)).toList.filterMap id).Perm (Bp (n+1)):=by
   rw[aX]
   refine (Rw hj').trans ?_
   rw[List.range_succ]
   exact (List.Perm.cons n h2).trans (Di (l₁:=[n]) (l₂:=Bp n))
  obtain ⟨o',q1,q2,q3⟩:=fM g hs (owner.setIfInBounds j (some n)) (n+1) (by rw[Ny]; exact h1) p1 (by omega)
  refine ⟨o',?_,q2,?_⟩
  ·rw[q1,Bi]
   congr 2
   omega
  ·rw[Bi,show n+(hs.length+1)=n+1+hs.length by omega]
   exact q3
theorem eH{mask:Nat}(g:Ii (mask+1))(hs:Array Int)(hl:hs.size<=mask):∃owner:Array (Option Nat),Mr mask hs=some owner/\owner.size=mask+1/\(owner.toList.filterMap id).Perm (Bp hs.size):=by
 have h0:((Array.replicate (mask+1) (none:Option Nat)).toList.filterMap id).Perm (Bp 0):=by
  rw[Array.toList_replicate]
  simp
 obtain ⟨o,h1,h2,h3⟩:=fM g hs.toList (Array.replicate (mask+1) none) 0 (by simp) h0 (by simpa using hl)
 rw[Aj,Hf] at h1 h3
 refine ⟨o,?_,h2,h3⟩
 unfold Mr
 rw[<- Array.foldl_toList]
 show (hs.toList.foldl (zK mask) (some (Array.replicate (mask+1) none,0))).map (·.1)=some o
 rw[h1]
 rfl
theorem iN(owner:Array (Option Nat)):((Bp owner.size).filterMap λj=>(owner.getD j none).map λx=>(j,x)).map (·.2)=owner.toList.filterMap id:=by
 obtain ⟨L⟩:=owner
 simp only[Ap]
 have h:∀(L:List (Option Nat)) (pre:List (Option Nat)),((List.range' pre.length L.length).filterMap λj=>(((pre++L)[j]?).getD none).map λx=>(j,x)).map (·.2)=L.filterMap id:=by
  intro L
  induction L with
  | nil=>intro pre; rfl
  | cons a L ih =>
   intro pre
   rw[Bi,List.range'_succ,Jr]
   have e:((pre++a::L)[pre.length]?).getD none=a:=by simp
   have ih':=ih (pre++[a])
   rw[Aw,Eg,Bg,List.singleton_append] at ih'
   cases a with
   | none =>
    simp only[e,Option.map_none,List.filterMap_cons_none,id]
    exact ih'
   | some b =>
    simp only[e,Option.map_some,Bc,List.filterMap_cons_some,id]
    rw[ih']
    simp
 have:=h L []
 rw[Ka,<- List.range_eq_range',List.nil_append] at this
 rw[<- this]
 congr 1
 congr 1
 funext j
 rw[Cb]
 simp
theorem vV{mask finger moves:Nat}{led plain:Bool}(g:Ii (mask+1))(hs:Array Int)(hl:hs.size<=mask):∃(t:Cq) (order:Array Nat),Ht mask finger moves led plain hs=some (t,order)/\order.toList.Perm (Bp hs.size)/\t.fits hs.size=true/\t.led=led:=by
 obtain ⟨o,h1,h2,h3⟩:=eH g hs hl
 have e:Ht mask finger moves led plain hs=some ({ mask:=mask,place:=(((Bp (mask+1)).filterMap λj=>(o.getD j none).map λx=>(j,x)).map (·.1)).toArray,dummies:=#[],finger:=finger,led:=led,moves:=moves,plain:=plain },
   (((Bp (mask+1)).filterMap λj=>(o.getD j none).map λx=>(j,x)).map (·.2)).toArray):=by
  unfold Ht
  rw[h1]
  rfl
 have lo:=iN o
 rw[h2] at lo
 have len:((Bp (mask+1)).filterMap λj=>(o.getD j none).map λx=>(j,x)).length=hs.size:=by
  have:=congrArg Hb lo
  rw[Ab,h3.length_eq,Cs] at this
  exact this
 refine ⟨_,_,e,by rw[List.toList_toArray,lo]; exact h3,?_,rfl⟩
 simp only[SetTable.fits,SetTable.fill,Ap,Ab,len,Gk,beq_self_eq_true,true_and,decide_eq_true_eq]
 show hs.size+0<=mask
 omega
theorem x3{α:Type}(es:Array α){order:Array Nat}(p:order.toList.Perm (Bp es.size)):(order.filterMap (es[·]?)).toList.Perm es.toList/\(order.filterMap (es[·]?)).size=es.size:=by
 have e:(order.filterMap (es[·]?)).toList.Perm es.toList:=by
  rw[Array.toList_filterMap]
  have:=p.filterMap (es[·]?)
  rw[filterMap_getElem?_range] at this
  exact this
 exact ⟨e,by rw[<- Aj,e.length_eq,Aj]⟩
abbrev gM(p:Array Nat):Prop:=p.toList.Pairwise (· < ·)
theorem Wk{p:Array Nat}(r:gM p){i j:Nat}(h:i<j)(hj:j<p.size):p[i]'(by omega)<p[j]:=by
 have:=Dc.mp r i j (by rw[Aj]; omega) (by rw[Aj]; exact hj) h
 simpa using this
structure Below(p:Array Nat)(j b:Nat):Prop where
 le:b<=p.size
 lo:∀i (h:i<p.size),i<b->p[i]<j
 hi:∀i (h:i<p.size),b<=i->j<=p[i]
theorem Xf{p:Array Nat}{j:Nat}(r:gM p):∀(fuel lo hi:Nat),hi<=p.size->lo<=hi->hi - lo<=fuel->(∀i (h:i<p.size),i<lo->p[i]<j)->(∀i (h:i<p.size),hi<=i->j<=p[i])->Below p j (Pz p j fuel lo hi)
 | 0,lo,hi,h1,h2,h3,h4,h5=>by
  unfold Pz
  have e:lo=hi:=by omega
  exact ⟨by omega,λi h hl=>h4 i h hl,λi h hl=>h5 i h (by omega)⟩
 | fuel+1,lo,hi,h1,h2,h3,h4,h5=>by
  unfold Pz
  split
  ·rename_i hl
   have hm:(lo+hi) / 2<p.size:=by omega
   have e:p.getD ((lo+hi) / 2) j=p[(lo+hi) / 2]:=by simp [Array.getD,hm]
   dsimp only
   rw[e]
   split
   ·rename_i hc
    refine Xf r fuel _ hi h1 (by omega) (by omega) (λi h hi'=>?_) h5
    by_cases z:i=(lo+hi) / 2
    ·subst z; exact hc
    ·exact Nat.lt_trans (Wk r (show i<(lo+hi) / 2 by omega) hm) hc
   ·rename_i hc
    refine Xf r fuel lo _ (by omega) (by omega) (by omega) h4 (λi h hi'=>?_)
    by_cases z:i=(lo+hi) / 2
    ·subst z; omega
    ·exact Bv (by omega) (Jm (Wk r (show (lo+hi) / 2<i by omega) h))
  ·exact ⟨by omega,λi h hl=>h4 i h hl,λi h hl=>h5 i h (by omega)⟩
theorem gA{p:Array Nat}(r:gM p)(j:Nat):Below p j (Ct p j) :=
 Xf r _ _ _ (Ah _) (Cz _) (by omega) (λi h hl=>absurd hl (Gx _)) (λi h hl=>absurd hl (by omega))
theorem Below.eq{p:Array Nat}{j b b':Nat}(x:Below p j b)(y:Below p j b'):b=b':=by
 rcases Nat.lt_trichotomy b b' with z | z | z
 ·have h:b<p.size:=Br z y.le
  exact absurd (y.lo b h z) (Nat.not_lt.mpr (x.hi b h (Ah _)))
 ·exact z
 ·have h:b'<p.size:=Br z x.le
  exact absurd (x.lo b' h z) (Nat.not_lt.mpr (y.hi b' h (Ah _)))
structure TabOk(n:Nat)(t:Cq):Prop where
 good:Ii (t.mask+1)
 dum:t.dummies=#[]
 plain:t.plain=true
 rise:gM t.place
 top:∀j∈t.place.toList,j<=t.mask
 size:t.place.size=n
structure Tab(n:Nat)(t:Cq):Prop extends TabOk n t where
 room:n * 5<t.mask * 3
theorem Wq{t:Cq}{n:Nat}(x:Tab n t):n+1<=t.mask:=by have:=x.room; omega
theorem TabOk.fits{t:Cq}{n:Nat}(x:TabOk n t)(h:n<=t.mask):t.fits n=true:=by
 simp only[SetTable.fits,SetTable.fill,x.dum,x.size,Gk,beq_self_eq_true,true_and,decide_eq_true_eq]
 show n+0<=t.mask
 omega
theorem Tab.fits{t:Cq}{n:Nat}(x:Tab n t):t.fits n=true:=x.toTabOk.fits (by have:=Wq x; omega)
theorem Rg{t:Cq}{n j:Nat}(x:TabOk n t):t.slot j=.empty↔j∉t.place.toList:=by
 have nd:SetTable.has t.dummies j=false:=by rw[x.dum]; rfl
 unfold SetTable.slot
 dsimp only
 rw[nd]
 constructor
 ·intro h hm
  obtain ⟨i,hi,e⟩:=Fp.mp hm
  rw[Aj] at hi
  have e':t.place[i]=j:=by simpa using e
  have b:Ct t.place j=i:=(gA x.rise j).eq ⟨Jm hi,λk hk hl=>by rw[<- e']; exact Wk x.rise hl hi,λk hk hl=>by
   by_cases z:i=k
   ·subst z; exact Nat.le_of_eq e'.symm
   ·rw[<- e']; exact Jm (Wk x.rise (show i<k by omega) hk)⟩
  rw[b,cW hi,e',if_pos (by simp)] at h
  cases h
 ·intro h
  rw[if_neg (λz=>h ?_)]
  ·rfl
  ·have z':t.place[Ct t.place j]? = some j:=by simpa using z
   have:=Array.mem_of_getElem? z'
   exact Array.mem_def.mp this
theorem Yc{t:Cq}{n j:Nat}(x:TabOk n t):t.slot j≠.dummy:=by
 have nd:SetTable.has t.dummies j=false:=by rw[x.dum]; rfl
 unfold SetTable.slot
 dsimp only
 rw[nd]
 split
 ·intro h; cases h
 ·intro h; cases h
theorem aJ{mask i:Nat}(h:i<=mask):Hr mask i<=mask:=by unfold Hr; split <;> omega
theorem Uw(mask i:Nat):Hr mask i - i<=9:=by unfold Hr; split <;> omega
theorem jI(mask i p:Nat):SetTable.leap mask i p=((i * 5+1+p / 32) % (mask+1),p / 32):=rfl
theorem pD:∀{l1 l2:List Nat},l1.Nodup->(∀e∈l1,e∈l2)->l1.length<=l2.length
 | [],_,_,_=>Cz _
 | a::l1,l2,nd,h=>by
  have nd':=Bo.mp nd
  have ha:=h a (Aa ..)
  have:=pD (l2:=l2.erase a) nd'.2 λe he=>(List.mem_erase_of_ne (show e≠a from λz=>nd'.1 (by rw[<- z]; exact he))).mpr (h e (Ae _ he))
  rw[gF ha] at this
  have p:0<l2.length:=jC ha
  rw[Bi]
  omega
theorem wH{m:Nat}{l:List Nat}(nd:l.Pairwise (· < ·))(h:l.length<m):∃e,e<m/\e∉l:=by
 refine Yy λz=>?_
 have all:∀e,e∈Bp m->e∈l:=λe he=>Yy λq=>z ⟨e,Jf.mp he,q⟩
 have:=pD List.nodup_range all
 rw[Cs] at this
 omega
theorem eU{p:Array Nat}(r:gM p){j:Nat}(h:j∉p.toList):gM (Dj p (Ct p j) j):=by
  have b:=gA r j
  show (Dj p (Ct p j) j).toList.Pairwise (· < ·)
  rw[SetTable.toList_insertAt]
  have r1:(p.toList.take (Ct p j)).Pairwise (· < ·):=r.sublist (Ip _ _)
  have r2:(p.toList.drop (Ct p j)).Pairwise (· < ·):=r.sublist (Hd _ _)
  have lo:∀e∈p.toList.take (Ct p j),e<j:=λe he=>by
    obtain ⟨i,hi,ei⟩:=cY.mp he
    rw[Aj] at hi
    have:=b.lo i (by omega) (by omega)
    rw[<- ei]
    simpa using this
  have hi:∀e∈p.toList.drop (Ct p j),j<e:=λe he=>by
    have hm:e∈p.toList:=Sd he
    obtain ⟨i,hi,ei⟩:=List.mem_drop_iff_getElem.mp he
    rw[Aj] at hi
    have:=b.hi (i+Ct p j) (by omega) (by omega)
    have e1:j<=e:=by
      rw[<- ei]
      simpa [Nat.add_comm] using this
    exact Nat.lt_of_le_of_ne e1 λz=>h (by rw[z]; exact hm)
  simp only[List.pairwise_append,List.pairwise_cons,An,List.mem_append]
  first
    | exact ⟨r1,⟨hi,r2⟩,λa ha c hc=>by
        rcases hc with z | z
        · rw[z]; exact lo a ha
        · exact Nat.lt_trans (lo a ha) (hi c z)⟩
    | (refine ⟨⟨r1,⟨by simp,Dz⟩,λa ha c hc=>?_⟩,r2,λa ha c hc=>?_⟩
       · have z:c=j:=by simpa using hc
         rw[z]; exact lo a ha
       · rcases ha with z | z | z
         · exact Nat.lt_trans (lo a z) (hi c hc)
         · rw[z]; exact hi c hc
         · cases z)
theorem mM{mask finger moves:Nat}{led plain:Bool}{hs:Array Int}{t:Cq}{order:Array Nat}(h:Ht mask finger moves led plain hs=some (t,order)):gM t.place/\(∀j∈t.place.toList,j<=mask):=by
 unfold Ht at h
 cases hl:Mr mask hs with
 | none=>rw[hl] at h; cases h
 | some owner =>
  rw[hl] at h
  cases h
  have sub:∀(l:List Nat),l.Pairwise (· < ·)->(((l.filterMap λj=>(owner.getD j none).map λx=>(j,x)).map (·.1)).Pairwise (· < ·))/\∀j∈((l.filterMap λj=>(owner.getD j none).map λx=>(j,x)).map (·.1)),j∈l:=by
   intro l hl
   have m:∀j∈((l.filterMap λj=>(owner.getD j none).map λx=>(j,x)).map (·.1)),j∈l:=λj hj=>by
    obtain ⟨q,hq,rfl⟩:=Cp.mp hj
    obtain ⟨k,hk,ek⟩:=Vg.mp hq
    cases hg:owner.getD k none with
    | none=>rw[hg] at ek; cases ek
    | some v=>rw[hg] at ek; cases ek; exact hk
   refine ⟨?_,m⟩
   clear m
   induction l with
   | nil=>exact Dz
   | cons a l ih =>
    have hl':=Bn.mp hl
    have ih':=ih hl'.2
    rw[Jr]
    cases hg:owner.getD a none with
    | none=>simpa [hg] using ih'
    | some v =>
     simp only[Option.map_some,Bc,List.pairwise_cons]
     refine ⟨λj hj=>?_,ih'⟩
     obtain ⟨q,hq,rfl⟩:=Cp.mp hj
     obtain ⟨k,hk,ek⟩:=Vg.mp hq
     cases hg2:owner.getD k none with
     | none=>rw[hg2] at ek; cases ek
     | some v2=>rw[hg2] at ek; cases ek; exact hl'.1 k hk
  obtain ⟨s1,s2⟩:=sub (Bp (mask+1)) List.pairwise_lt_range
  exact ⟨s1,λj hj=>aV.mp (Jf.mp (s2 j hj))⟩
theorem uD{mask finger moves:Nat}{led:Bool}(g:Ii (mask+1))(hs:Array Int)(hl:hs.size * 5<mask * 3):∃(t:Cq) (order:Array Nat),Ht mask finger moves led true hs=some (t,order)/\order.toList.Perm (Bp hs.size)/\Tab hs.size t/\t.led=led:=by
 obtain ⟨t,order,h1,h2,h3,h4⟩:=vV (finger:=finger) (moves:=moves) (led:=led) (plain:=true) g hs (by omega)
 obtain ⟨l1,l2,l3,l4⟩:=Yi h1
 obtain ⟨r1,r2⟩:=mM h1
 have sz:t.place.size=hs.size:=by
  have:=h3
  simp only[SetTable.fits,Gk,beq_iff_eq] at this
  exact this.1
 exact ⟨t,order,h1,h2,⟨⟨by rw[l2]; exact g,l4,l3,r1,by rw[l2]; exact r2,sz⟩,by rw[l2]; exact hl⟩,l1⟩
abbrev bt(w:World):Bool:=w.params.followText "set-order"
def E2:Int×Value->Int
 | (_,.int k _)=>k
 | _=>0
def K3(e:Int×Value):Prop:=∃k tk,e=(hashInt k,Sa k tk)
abbrev xR(es:Array (Int×Value)):List Int:=es.toList.map E2
abbrev Hw(es:Array (Int×Value))(ep:Nat)(t:Cq):Obj:={ cls:=.type "set",dict:=none,data:=.set es ep t }
structure SetS(w:World)(h:Heap)(a:Addr)(es:Array (Int×Value))(ep:Nat)(t:Cq):Prop where
 obj:h.get? a=some (Hw es ep t)
 ent:∀e∈es.toList,K3 e
 nd:(xR es).Nodup
 tab:Tab es.size t
 led:bt w=false->t.led=true
 few:es.size<64
def ins(k:Int)(l:List Int):List Int:=if k∈l then l else k::l
theorem yW{n:Nat}(h:n<64):n<=Av:=by rw[Kv]; omega
theorem lR{es:Array (Int×Value)}{ep:Nat}{t:Cq}(es':Array (Int×Value))(t':Cq):Vu es' t' (Hw es ep t)=Hw es' (ep+1) t':=putSet_of es' t' rfl
theorem lW{h:Heap}{a:Addr}{es:Array (Int×Value)}{ep:Nat}{t:Cq}(ho:h.get? a=some (Hw es ep t))(es':Array (Int×Value))(t':Cq):(h.update a (Vu es' t')).get? a=some (Hw es' (ep+1) t'):=by
 have:=Heap.get?_update_self (Vu es' t') ho (by rw[lR]; rfl)
 rw[lR] at this
 exact this
theorem len_leI:∀{l1 l2:List Int},l1.Nodup->(∀e∈l1,e∈l2)->l1.length<=l2.length
 | [],_,_,_=>Cz _
 | a::l1,l2,nd,h=>by
  have nd':=Bo.mp nd
  have ha:=h a (Aa ..)
  have:=len_leI (l2:=l2.erase a) nd'.2 λe he=>(List.mem_erase_of_ne (show e≠a from λz=>nd'.1 (by rw[<- z]; exact he))).mpr (h e (Ae _ he))
  rw[gF ha] at this
  have p:0<l2.length:=jC ha
  rw[Bi]
  omega
theorem dR:isSubtype (.type "set") (.type "set")=pure true:=by rw[isSubtype_type]; kernel_rfl
end NdS
namespace NdS
open PySem PyProof.Rows
section
variable{prog:Bm}{w:World}{A:Cr}{E:Value->Ai->Prop}{s:Ai}
theorem rS(v:Value){Q:Value->Ai->Prop}(h:Q (.ref s.heap.objs.size) { s with heap:=s.heap.push (Hw #[] 0 (.fresh 0 0 (!bt w))) }):Hl (model prog w) A (.call (.builtin "set.__new__") ⟨[.type "set",v],[]⟩) (wants Q E) s:=by
 have sub:=dR
 obtain ⟨hp,g,d,tk,os⟩:=s
 refine codeAny_of_tree (show wpAny _ A.in1 (do checkBuiltinCall "set.__new__" ⟨[.type "set",v],[]⟩; again (.builtin "set.__new__" ⟨[.type "set",v],[]⟩)) _ _ _ from ?_)
 refine Ac (wpAny_of_eq (PySem.F.newCall_set_1 v) (Am ⟨plainId_quiet PySem.F.plain_set_new _,Tu PySem.F.entry_set_new ?_⟩))
 rw[Qw PySem.F.plain_set_new _]
 unfold Builtin.«set.__new__» Builtin.Frozenset.newClass
 dsimp only
 wp_walk
 refine wpAny_askSetting (Am ?_)
 dsimp only
 simp only[newObj]
 exact Ac (wpAny_alloc (Am (Am h)))
end
def arrOf(w:World)(a:Addr)(ep:Nat)(es:Array (Int×Value)):Array (Int×Value):=if bt w then pickOrder (w.params.setOrder a ep) es else es
end NdS
namespace Nd
open PySem PySem.Spec PyProof.Rows L2 NdS
def J1(w:World)(a:Addr)(ks:List Int)(h:Heap):Prop:=∃es ep t,SetS w h a es ep t/\∀x,x∈xR es↔x∈ks
abbrev V2(w:World)(a:Addr)(ks:List Int):HO:=.ext (J1 w a ks)
end Nd
namespace Nd
open PySem L2
def Vn(d:Addr)(H H':Hp):Prop:=∀b o,b≠d->H b=some o->H' b=some o
theorem Vn.trans{d:Addr}{H H1 H2:Hp}(a:Vn d H H1)(b:Vn d H1 H2):Vn d H H2:=λc o n h=>b c o n (a c o n h)
theorem Vn.upd{d:Addr}{H:Hp}{o:HO}:Vn d H (upd H d o):=λb o n h=>by rw[Dm n]; exact h
theorem yW{n:Nat}(h:n<=1000):n<=Av:=Jm (Uv h)
theorem cS{n:Nat}(h:n<=1000000):n<=Av:=by rw[Kv]; omega
theorem Wr(a b:Int)(h:0<b):0<=a % b/\a % b<b:=⟨Int.emod_nonneg _ (by omega),Int.emod_lt_of_pos _ h⟩
def Hv(h:Int)(ns:List Int):Prop:=ns.Pairwise (· < ·)/\∀x∈ns,0<=x/\x<h
theorem Hv.nil(h:Int):Hv h []:=⟨Dz,λx hx=>by cases hx⟩
theorem Hv.more{h:Int}{ns:List Int}(r:Hv h ns)(h0:0<=h):Hv (h+1) (ns++[h]) :=
 ⟨Ck.mpr ⟨r.1,Eh _ _,λa ha b hb=>by rw[Af.mp hb]; exact (r.2 a ha).2⟩,λx hx=>by
  rcases Au.mp hx with z | z
  ·have:=r.2 x z; omega
  ·have:=Af.mp z; omega⟩
theorem Hv.up{h h':Int}{ns:List Int}(r:Hv h ns)(l:h<=h'):Hv h' ns:=⟨r.1,λx hx=>by have:=r.2 x hx; omega⟩
def Zf(H:Hp)(d:Addr)(c k:Int)(f:Bool):Prop:=H d=some (.lst [.int c,.int k,.bl f])
def lX:Sp:=λvs H Q _=>∃c:Int,vs=[.int c]/\∀(p:Addr) (f:Bool) (H':Hp),H p=none->Zf H' p c 0 f->Jk H H'->Q (.ref p) H'
def sQ:Sp:=λvs H Q _=>∃(d:Addr) (c k:Int) (f:Bool),vs=[.ref d]/\Zf H d c k f/\0<=k/\k<=1000000/\∀(r c':Int) (H':Hp),Zf H' d c' (k+1) f->Vn d H H'->Q (.int r) H'
def Bw(ns:List Int):Ag:=.tuple (ns.map Bl)
theorem iW(ns:List Int):(Bw ns).depth<=1:=by
 have : (Bw ns).depth<=Be (ns.map Bl)+1:=by simp [Bw,Cv]
 rw[iX] at this
 exact this
def Y9:List Int:=(Bp 60).map λi:Nat=>(i:Int)
theorem xX{x:Int}(h0:0<=x)(h1:x<60):x∈Y9:=List.mem_map.mpr ⟨x.toNat,Jf.mpr (by omega),by omega⟩
theorem vI(TD:List Ag):Dr (.list TD) (.list [])=TD.isEmpty:=by cases TD <;> simp [Dr,Lq]
def qH(b:Bool):Str:=if b=true then "back" else "front"
def order{α:Type}(a b:α)(l:List α):Option Bool->List α
 | none=>l
 | some true=>[a,b]
 | some false=>[b,a]
structure TD(K:PySem.W.Frag)(H:Hp)(x:V)(d:Ag)(n m:Nat):Prop where
 rd:RdV K H x d
 fits:G5 22 d
 nd:yB d<=n
 dp:d.depth<=m
abbrev E4(K:PySem.W.Frag):List V->Hp->VK->Prop:=λxs H Q=>∃p ys,xs=[V.ref p]/\(Ox K H p ys\/Ri K H p ys)/\Q (.int ys.length) H
theorem z0{X:Cx}:Mj X (.builtin "len") (E4 X.K):=bF
end Nd
namespace DL
open PySem L2 Nd
def KL(K:PySem.W.Frag)(H:Hp)(a:Addr)(xs:List V):Prop :=
 (∃o,H a=some (.frz o (.lst xs)))\/∃(its:Array Value) (n:Nat),K.lookup a=some { cls:=.type "list",data:=.seq its n }/\its.size<=Av/\Fi xs its.toList
def Xv:Nat->Ag
 | 0=>.none
 | n+1=>.tuple [Xv n]
def B8(ks:List (List Int×Ag)):List (Ag×Ag):=(Xv 100,.none)::ks.map λp=>(Bw p.1,p.2)
def V4(ks:List (Int×Ag)):List (Ag×Ag):=(Xv 100,.bool true)::ks.map λp=>(.int p.1,p.2)
def Q7(a:Addr)(ks:List (List Int×Ag)):List (Ag×Ag):=(Xv 100,.int a)::ks.map λp=>(Bw p.1,p.2)
def sM(w:List Int):List Wt:=w.map Qo
mutual
inductive RdF (K:PySem.W.Frag) (H:Hp):V->Ag->List Addr->Prop
 | non:RdF K H .non .none []
 | bl (b:Bool):RdF K H (.bl b) (.bool b) []
 | int (i:Int):RdF K H (.int i) (.int i) []
 | str (x:Str):RdF K H (.str x) (.str x) []
 | lst {a:Addr} {xs:List V} {ds:List Ag} {F:List Addr}:H a=some (.lst xs)->ds.length<=Av->RdFs K H xs ds F->RdF K H (.ref a) (.list ds) (a::F)
 | tup {a:Addr} {xs:List V} {ds:List Ag} {F:List Addr}:H a=some (.tup xs)->ds.length<=Av->RdFs K H xs ds F->RdF K H (.ref a) (.tuple ds) F
 | dic {a:Addr} {kv:List (List Wt×V)} {ks:List (List Int×Ag)}:H a=some (.dT kv)->kv.map (·.1)=ks.map (λp=>sM p.1)->RdFs K H (kv.map (·.2)) (ks.map (·.2)) []->RdF K H (.ref a) (.dict (B8 ks)) [a]
 | dik {a:Addr} {kv:List (Wt×V)} {ks:List (Int×Ag)}:H a=some (.dK kv)->kv.map (·.1)=ks.map (λp=>(Qo p.1:Wt))->RdFs K H (kv.map (·.2)) (ks.map (·.2)) []->RdF K H (.ref a) (.dict (V4 ks)) [a]
 | dnm {a:Addr} {kv:List (List Wt×V)} {ks:List (List Int×Ag)}:H a=some (.dT kv)->kv.map (·.1)=ks.map (λp=>sM p.1)->RdFs K H (kv.map (·.2)) (ks.map (·.2)) []->RdF K H (.ref a) (.dict (Q7 a ks)) [a]
inductive RdFs (K:PySem.W.Frag) (H:Hp):List V->List Ag->List Addr->Prop
 | nil:RdFs K H [] [] []
 | cons {x:V} {d:Ag} {xs:List V} {ds:List Ag} {F G:List Addr}:RdF K H x d F->RdFs K H xs ds G->RdFs K H (x::xs) (d::ds) (F++G)
end
def Q0(o:HO):Prop:=(∃xs,o=.tup xs)\/∃ob u,o=.frz ob u
def Kp(F:List Addr)(H H':Hp):Prop:=∀b o,H b=some o->(b∈F\/Q0 o)->H' b=some o
theorem Kp.of{F:List Addr}{H H':Hp}(s:Jk H H'):Kp F H H':=λb o e _=>s b o e
theorem Kp.sub{F G:List Addr}{H H':Hp}(k:Kp F H H')(h:∀a∈G,a∈F):Kp G H H':=λb o e z=>k b o e (z.imp (h b) id)
section
variable{K:PySem.W.Frag}{H H':Hp}
theorem KL.kp{a:Addr}{xs:List V}{F:List Addr}(h:KL K H a xs)(k:Kp F H H'):KL K H' a xs:=by
 rcases h with ⟨o,h⟩ | h
 ·exact .inl ⟨o,k _ _ h (.inr (.inr ⟨_,_,rfl⟩))⟩
 ·exact .inr h
theorem KL.sq{a:Addr}{xs:List V}(h:KL K H a xs):Ox K H a xs:=by
 rcases h with ⟨o,h⟩ | ⟨its,n,h,hz,r⟩
 ·exact .inl (.inr ⟨o,h⟩)
 ·exact .inr ⟨_,its,n,h,rfl,rfl,rfl,hz,r⟩
mutual
theorem RdF.kp:∀{v:V} {d:Ag} {F:List Addr},RdF K H v d F->Kp F H H'->RdF K H' v d F
 | _,_,_,.non,_=>.non
 | _,_,_,.bl b,_=>.bl b
 | _,_,_,.int i,_=>.int i
 | _,_,_,.str x,_=>.str x
 | _,_,_,.lst h l hs,k=>.lst (k _ _ h (.inl Aa)) l (RdFs.kp hs (k.sub λ_ z=>Ae _ z))
 | _,_,_,.tup h l hs,k=>.tup (k _ _ h (.inr (.inl ⟨_,rfl⟩))) l (RdFs.kp hs k)
 | _,_,_,.dic h e hs,k=>.dic (k _ _ h (.inl Aa)) e (RdFs.kp hs (k.sub λ_ z=>nomatch z))
 | _,_,_,.dik h e hs,k=>.dik (k _ _ h (.inl Aa)) e (RdFs.kp hs (k.sub λ_ z=>nomatch z))
 | _,_,_,.dnm h e hs,k=>.dnm (k _ _ h (.inl Aa)) e (RdFs.kp hs (k.sub λ_ z=>nomatch z))
theorem RdFs.kp:∀{v:List V} {d:List Ag} {F:List Addr},RdFs K H v d F->Kp F H H'->RdFs K H' v d F
 | _,_,_,.nil,_=>.nil
 | _,_,_,.cons h hs,k=>.cons (RdF.kp h (k.sub λ_ z=>Ao _ z)) (RdFs.kp hs (k.sub λ_ z=>Ad _ z))
end
theorem Mm:∀n,(Xv n).depth=n
 | 0=>by simp [Xv,Cv]
 | n+1=>by
  have:=Mm n
  simp only[Xv,Cv,Be,this]
  omega
theorem tT{ks:List (Int×Ag)}:100<=(PyData.dict (V4 ks)).depth:=by
 have:=Mm 100
 simp only[V4,Cv,PyData.depthKv,this]
 omega
theorem uM{a:Addr}{ks:List (List Int×Ag)}:100<=(PyData.dict (Q7 a ks)).depth:=by
 have:=Mm 100
 simp only[Q7,Cv,PyData.depthKv,this]
 omega
theorem rQ{ks:List (List Int×Ag)}:100<=(PyData.dict (B8 ks)).depth:=by
 have:=Mm 100
 simp only[B8,Cv,PyData.depthKv,this]
 omega
mutual
theorem RdF.rd:∀{v:V} {d:Ag} {F:List Addr},RdF K H v d F->d.depth<=90->RdV K H v d
 | _,_,_,.non,_=>.non
 | _,_,_,.bl b,_=>.bl b
 | _,_,_,.int i,_=>.int i
 | _,_,_,.str x,_=>.str x
 | _,_,_,.lst h l hs,z=>.lst (Ox.of h) (RdFs.rd hs (by simp only[Cv] at z; omega))
 | _,_,_,.tup h l hs,z=>.tup (Ri.of h) (RdFs.rd hs (by simp only[Cv] at z; omega))
 | _,_,_,.dic h e hs,z=>absurd (Bv rQ z) (by decide)
 | _,_,_,.dik h e hs,z=>absurd (Bv tT z) (by decide)
 | _,_,_,.dnm h e hs,z=>absurd (Bv uM z) (by decide)
theorem RdFs.rd:∀{v:List V} {d:List Ag} {F:List Addr},RdFs K H v d F->Be d<=90->RdVs K H v d
 | _,_,_,.nil,_=>.nil
 | _,_,_,.cons h hs,z=>.cons (RdF.rd h (by simp only[Be] at z; omega)) (RdFs.rd hs (by simp only[Be] at z; omega))
end
mutual
theorem RdF.dom:∀{v:V} {d:Ag} {F:List Addr},RdF K H v d F->∀a∈F,∃o,H a=some o
 | _,_,_,.non,_,z=>nomatch z
 | _,_,_,.bl b,_,z=>nomatch z
 | _,_,_,.int i,_,z=>nomatch z
 | _,_,_,.str x,_,z=>nomatch z
 | _,_,_,.lst h l hs,b,z=>by
  rcases An.mp z with rfl | z
  ·exact ⟨_,h⟩
  ·exact RdFs.dom hs b z
 | _,_,_,.tup h l hs,b,z=>RdFs.dom hs b z
 | _,_,_,.dic h e hs,b,z=>⟨_,Af.mp z▸h⟩
 | _,_,_,.dik h e hs,b,z=>⟨_,Af.mp z▸h⟩
 | _,_,_,.dnm h e hs,b,z=>⟨_,Af.mp z▸h⟩
theorem RdFs.dom:∀{v:List V} {d:List Ag} {F:List Addr},RdFs K H v d F->∀a∈F,∃o,H a=some o
 | _,_,_,.nil,_,z=>nomatch z
 | _,_,_,.cons h hs,b,z=>by
  rcases Au.mp z with z | z
  ·exact RdF.dom h b z
  ·exact RdFs.dom hs b z
end
theorem RdFs.len:∀{v:List V} {d:List Ag} {F:List Addr},RdFs K H v d F->v.length=d.length
 | _,_,_,.nil=>rfl
 | _,_,_,.cons _ t=>by rw[Bi,Bi,RdFs.len t]
theorem RdFs.get:∀{v:List V} {d:List Ag} {F:List Addr} {i:Nat} {e:Ag},RdFs K H v d F->d[i]? = some e->∃x G,v[i]? = some x/\RdF K H x e G/\G.Sublist F
 | _,_,_,_,_,.nil,z=>by simp at z
 | _,_,_,0,_,.cons h _,z=>by
  simp at z
  subst z
  exact ⟨_,_,rfl,h,gE _ _⟩
 | _,_,_,i+1,e,.cons _ t,z=>by
  obtain ⟨x,G,h1,h2,h3⟩:=RdFs.get (i:=i) (e:=e) t (by simpa using z)
  exact ⟨x,G,by simpa using h1,h2,h3.trans (Cu _ _)⟩
theorem RdFs.app:∀{v w:List V} {d e:List Ag} {F G:List Addr},RdFs K H v d F->RdFs K H w e G->RdFs K H (v++w) (d++e) (F++G)
 | _,_,_,_,_,_,.nil,h=>h
 | _,_,_,_,_,_,.cons a t,h=>by
  rw[Bg]
  exact .cons a (RdFs.app t h)
theorem RdFs.snoc{v:List V}{d:List Ag}{F G:List Addr}{x:V}{e:Ag}(t:RdFs K H v d F)(h:RdF K H x e G):RdFs K H (v++[x]) (d++[e]) (F++G):=by
 have:=t.app (.cons h .nil)
 rw[Ec] at this
 exact this
end
mutual
def imm:Ag->Bool
 | .list _=>false
 | .dict _=>false
 | .tuple xs=>Dv xs
 | _=>true
def Dv:List Ag->Bool
 | []=>true
 | x::xs=>imm x && Dv xs
end
theorem hX:∀{xs:List Ag},Dv xs=true↔∀x∈xs,imm x=true
 | []=>by simp [Dv]
 | x::xs=>by simp [Dv,hX (xs:=xs)]
theorem Rh{α:Type}{f:α->Ag}(h:∀a,imm (f a)=true)(l:List α):Dv (l.map f)=true:=hX.mpr λx hx=>by
 obtain ⟨a,_,rfl⟩:=Cp.mp hx
 exact h a
theorem rO(ns:List Int):imm (Bw ns)=true:=by
 unfold Bw
 rw[imm]
 exact Rh (λ_=>by simp [imm]) ns
section
variable{K:PySem.W.Frag}{H H':Hp}
mutual
theorem RdF.imm:∀{v:V} {d:Ag} {F:List Addr},RdF K H v d F->DL.imm d=true->F=[]
 | _,_,_,.non,_=>rfl
 | _,_,_,.bl b,_=>rfl
 | _,_,_,.int i,_=>rfl
 | _,_,_,.str x,_=>rfl
 | _,_,_,.lst h l hs,k=>by simp [DL.imm] at k
 | _,_,_,.tup h l hs,k=>RdFs.imm hs (by simpa [DL.imm] using k)
 | _,_,_,.dic h e hs,k=>by simp [DL.imm] at k
 | _,_,_,.dik h e hs,k=>by simp [DL.imm] at k
 | _,_,_,.dnm h e hs,k=>by simp [DL.imm] at k
theorem RdFs.imm:∀{v:List V} {d:List Ag} {F:List Addr},RdFs K H v d F->Dv d=true->F=[]
 | _,_,_,.nil,_=>rfl
 | _,_,_,.cons h hs,k=>by
  rw[Dv,Gk] at k
  rw[RdF.imm h k.1,RdFs.imm hs k.2]
  rfl
end
end
inductive Md where
 | pk | sh | tp | ow
 deriving DecidableEq
inductive DV where
 | un
 | dat (m:Md) (d:Ag)
 | drw
 | dT (kvs:List (List Wt×Ag))
 | val (v:V)
 | scr (ns:List Int)
 | acc (ds:List Ag)
 | grd (Hc:Hp)
 | tpl (xs:List V)
structure DS where
 sl:List DV
 n:Nat
structure Ent where
 v:Option V
 x:DV
 F:List Addr
def Oy:DV->Bool
 | .dat .pk _=>true
 | _=>false
def F7:DV->Bool
 | .drw=>true
 | _=>false
def zS:DV->Bool
 | .drw=>true
 | .acc _=>true
 | .dT _=>true
 | .grd _=>true
 | _=>false
def cells(e:Ent):List Addr:=match e.x with
 | .dat .ow _=>e.F
 | .dat .tp _=>e.F.take 1
 | .drw=>e.F
 | .dT _=>e.F
 | .acc _=>e.F.take 1
 | .grd _=>e.F
 | _=>[]
theorem Hh(e:Ent):∀a∈cells e,a∈e.F:=by
 obtain ⟨v,x,F⟩:=e
 intro a h
 cases x with
 | un=>exact nomatch h
 | val _=>exact nomatch h
 | scr _=>exact nomatch h
 | drw=>exact h
 | dT _=>exact h
 | grd _=>exact h
 | tpl _=>exact nomatch h
 | acc _=>exact (Ip _ _).subset h
 | dat m d =>
  cases m with
  | pk=>exact nomatch h
  | sh=>exact nomatch h
  | tp=>exact (Ip _ _).subset h
  | ow=>exact h
def Sw(e f:Ent):Prop:=((Oy f.x=false\/zS e.x=true)->∀a∈cells e,a∉f.F)/\((Oy e.x=false\/zS f.x=true)->∀a∈cells f,a∉e.F)
theorem Sw.symm{e f:Ent}(h:Sw e f):Sw f e:=⟨h.2,h.1⟩
def Ja(K:PySem.W.Frag)(H:Hp)(n:Nat)(e:Ent):Prop:=match e.x with
 | .un=>e.F=[]
 | .dat m d=>∃v,e.v=some v/\RdF K H v d e.F/\(m=.ow->e.F.Nodup)/\(m=.tp->∀a l,e.F=a::l->a∉l)
 | .drw=>∃dr c k f,e.v=some (.ref dr)/\e.F=[dr]/\Zf H dr c k f/\0<=k/\k<=(n:Int)
 | .dT kvs=>∃a ks,e.v=some (.ref a)/\e.F=[a]/\H a=some (.dT ks)/\ks.map (·.1)=kvs.map (·.1)/\RdFs K H (ks.map (·.2)) (kvs.map (·.2)) []
 | .val v=>e.v=some v/\e.F=[]
 | .scr ns=>∃a,e.v=some (.ref a)/\e.F=[]/\KL K H a (ns.map V.int)/\ns.length<=63
 | .acc ds=>∃a xs G,e.v=some (.ref a)/\e.F=a::G/\H a=some (.lst xs)/\RdFs K H xs ds G/\ds.length<=Av/\a∉G
 | .grd Hc=>∀a∈e.F,∃o,Hc a=some o/\H a=some o
 | .tpl xs=>∃t,e.v=some (.ref t)/\H t=some (.tup xs)/\e.F=[]
structure At(K:PySem.W.Frag)(H0:Hp)(X:Addr->Prop)(n:Nat)(E:List Ent)(H:Hp):Prop where
 ok:∀e∈E,Ja K H n e
 sep:E.Pairwise Sw
 new:∀e∈E,∀a∈cells e,H0 a=none\/(X a/\F7 e.x=true)
 same:∀b o,¬ X b->H0 b=some o->H b=some o
 dom:∀b o,H0 b=some o->∃o',H b=some o'
 xd:∀b,X b->H0 b≠none/\∃c k f,Zf H b c k f/\0<=k/\k<=(n:Int)
section
variable{K:PySem.W.Frag}{H0 H H':Hp}{X:Addr->Prop}{n n':Nat}{E E' S T:List Ent}{e f:Ent}
theorem At.perm(h:At K H0 X n E H)(p:E.Perm E'):At K H0 X n E' H :=
 ⟨λe he=>h.ok e (p.mem_iff.mpr he),(p.pairwise_iff λ{a b}=>Sw.symm).mp h.sep,λe he=>h.new e (p.mem_iff.mpr he),h.same,h.dom,h.xd⟩
theorem At.sub(h:At K H0 X n E H)(p:E'.Sublist E):At K H0 X n E' H :=
 ⟨λe he=>h.ok e (p.subset he),h.sep.sublist p,λe he=>h.new e (p.subset he),h.same,h.dom,h.xd⟩
theorem At.drop(h:At K H0 X n (S++e::T) H):At K H0 X n (S++T) H:=h.sub ((El S).append (Dx _ _))
theorem dX:(S++e::T).Perm (e::(S++T)):=Lb
theorem At.mid(h:At K H0 X n (S++e::T) H):At K H0 X n (e::(S++T)) H:=h.perm dX
theorem At.tomid(h:At K H0 X n (e::(S++T)) H):At K H0 X n (S++e::T) H:=h.perm dX.symm
theorem Ja.dom(h:Ja K H n e):∀a∈e.F,∃o,H a=some o:=by
 obtain ⟨v,x,F⟩:=e
 intro a ha
 cases x with
 | un=>rw[show F=[] from h] at ha; cases ha
 | val _=>rw[show F=[] from h.2] at ha; cases ha
 | scr _ =>
  obtain ⟨_,_,hF,_⟩:=h
  rw[show F=[] from hF] at ha; cases ha
 | dat m d =>
  obtain ⟨w,_,h,_⟩:=h
  obtain ⟨xs,z⟩:=h.dom a ha
  exact ⟨_,z⟩
 | drw =>
  obtain ⟨dr,c,k,f,_,hF,h,_⟩:=h
  rw[show F=[dr] from hF] at ha
  rw[Af.mp ha]
  exact ⟨_,h⟩
 | grd Hc =>
  obtain ⟨o,_,z⟩:=h a ha
  exact ⟨o,z⟩
 | tpl xs =>
  obtain ⟨_,_,_,hF⟩:=h
  rw[show F=[] from hF] at ha; cases ha
 | dT kvs =>
  obtain ⟨b,ks,_,hF,h,_⟩:=h
  rw[show F=[b] from hF] at ha
  rw[Af.mp ha]
  exact ⟨_,h⟩
 | acc ds =>
  obtain ⟨b,ks,G,_,hF,h,hr,_⟩:=h
  rw[show F=b::G from hF] at ha
  rcases An.mp ha with rfl | ha
  ·exact ⟨_,h⟩
  ·obtain ⟨xs,z⟩:=hr.dom a ha
   exact ⟨_,z⟩
theorem Ja.kp(h:Ja K H n e)(k:Kp e.F H H')(hn:n<=n'):Ja K H' n' e:=by
 obtain ⟨v,x,F⟩:=e
 cases x with
 | un=>exact h
 | val _=>exact h
 | scr _ =>
  obtain ⟨a,h1,h2,h3,h4⟩:=h
  exact ⟨a,h1,h2,h3.kp k,h4⟩
 | dat m d =>
  obtain ⟨w,h1,h2,h3⟩:=h
  exact ⟨w,h1,h2.kp k,h3⟩
 | drw =>
  obtain ⟨dr,c,kk,f,h1,hF,h2,h3,h4⟩:=h
  have hF':F=[dr]:=hF
  subst hF'
  exact ⟨dr,c,kk,f,h1,rfl,k _ _ h2 (.inl Aa),h3,by omega⟩
 | tpl xs =>
  obtain ⟨t,h1,h2,h3⟩:=h
  exact ⟨t,h1,k _ _ h2 (.inr (.inl ⟨_,rfl⟩)),h3⟩
 | grd Hc =>
  intro a ha
  obtain ⟨o,h1,h2⟩:=h a ha
  exact ⟨o,h1,k _ _ h2 (.inl ha)⟩
 | dT kvs =>
  obtain ⟨b,ks,h1,hF,h2,h3,h4⟩:=h
  have hF':F=[b]:=hF
  subst hF'
  exact ⟨b,ks,h1,rfl,k _ _ h2 (.inl Aa),h3,h4.kp (k.sub λ_ z=>nomatch z)⟩
 | acc ds =>
  obtain ⟨b,ks,G,h1,hF,h2,h3,h4⟩:=h
  have hF':F=b::G:=hF
  subst hF'
  exact ⟨b,ks,G,h1,rfl,k _ _ h2 (.inl Aa),h3.kp (k.sub λ_ z=>Ae _ z),h4⟩
theorem At.grow(h:At K H0 X n E H)(s:Jk H H')(hn:n<=n'):At K H0 X n' E H' :=
 ⟨λe he=>(h.ok e he).kp (Kp.of s) hn,h.sep,h.new,λb o nx e=>s _ _ (h.same b o nx e),λb o e=>let ⟨o',q⟩:=h.dom b o e; ⟨o',s _ _ q⟩,λb hb=>let ⟨z,c,k,f,h1,h2,h3⟩:=h.xd b hb; ⟨z,c,k,f,s _ _ h1,h2,by omega⟩⟩
theorem At.free(h:At K H0 X n E H){a:Addr}(ha:H a=none):∀e∈E,a∉e.F:=λe he z=>by
 obtain ⟨o,q⟩:=(h.ok e he).dom a z
 rw[ha] at q; cases q
theorem At.push(h:At K H0 X n E H)(ok:Ja K H n e)(sep:∀f∈E,Sw e f)(new:∀a∈cells e,H0 a=none\/(X a/\F7 e.x=true)):At K H0 X n (e::E) H :=
 ⟨λg hg=>by
  rcases An.mp hg with rfl | hg
  ·exact ok
  ·exact h.ok g hg,Bn.mpr ⟨sep,h.sep⟩,λg hg=>by
  rcases An.mp hg with rfl | hg
  ·exact new
  ·exact h.new g hg,h.same,h.dom,h.xd⟩
theorem At.new0(h:At K H0 X n E H){p:Addr}(hp:H p=none):H0 p=none:=by
 cases q:H0 p with
 | none=>rfl
 | some o =>
  obtain ⟨o',z⟩:=h.dom p o q
  rw[hp] at z; cases z
theorem vF{v:Option V}{m:Md}{d:Ag}:Sw ⟨v,.dat m d,[]⟩ f:=by
 refine ⟨λ_ a ha=>?_,λ_ a _=>Bh⟩
 have:=Hh _ a ha
 cases this
theorem At.pushI(h:At K H0 X n (S++T) H){v:V}{m:Md}{d:Ag}(r:RdF K H v d []):At K H0 X n (S++⟨some v,.dat m d,[]⟩::T) H :=
 (h.push (e:=⟨some v,.dat m d,[]⟩) ⟨v,rfl,r,λ_=>Df,λ_ a l z=>nomatch z⟩ (λf _=>vF) (λa ha=>nomatch Hh _ a ha)).tomid
def wk:Md->Md->Bool
 | _,.pk=>true
 | .pk,_=>false
 | _,.sh=>true
 | .sh,_=>false
 | _,.tp=>true
 | .tp,.ow=>false
 | .ow,.ow=>true
theorem fI{v:Option V}{m m':Md}{d:Ag}{F:List Addr}(w:wk m m'=true):∀a∈cells ⟨v,.dat m' d,F⟩,a∈cells ⟨v,.dat m d,F⟩:=by
 intro a ha
 cases m <;> cases m' <;> first | exact absurd w (by decide) | exact ha | exact absurd ha Bh | exact (Ip 1 F).subset ha
theorem mK{α:Type}{F:List α}(h:F.Nodup):∀a l,F=a::l->a∉l:=λa l e=>by
 subst e
 exact (Bo.mp h).1
theorem Ja.wk{v:Option V}{m m':Md}{d:Ag}{F:List Addr}(w:wk m m'=true)(h:Ja K H n ⟨v,.dat m d,F⟩):Ja K H n ⟨v,.dat m' d,F⟩:=by
 obtain ⟨u,h1,h2,h3,h4⟩:=h
 refine ⟨u,h1,h2,λe=>?_,λe=>?_⟩
 ·subst e
  cases m <;> first | exact absurd w (by decide) | exact h3 rfl
 ·subst e
  cases m <;> first | exact absurd w (by decide) | exact h4 rfl | exact mK (h3 rfl)
theorem Sw.wk{v:Option V}{m m':Md}{d:Ag}{F:List Addr}(w:wk m m'=true)(h:Sw ⟨v,.dat m d,F⟩ f):Sw ⟨v,.dat m' d,F⟩ f:=by
 refine ⟨λhp a ha=>?_,λhp a ha=>?_⟩
 ·rcases hp with hp | hp
  ·exact h.1 (.inl hp) a (fI w a ha)
  ·cases hp
 ·rcases hp with hp | hp
  ·refine h.2 (.inl ?_) a ha
   cases m <;> cases m' <;> first | rfl | exact absurd w (by decide) | exact absurd hp (by show ¬ (true=false); decide)
  ·exact h.2 (.inr hp) a ha
theorem At.wk{v:Option V}{m m':Md}{d:Ag}{F:List Addr}(w:wk m m'=true)(h:At K H0 X n (⟨v,.dat m d,F⟩::E) H):At K H0 X n (⟨v,.dat m' d,F⟩::E) H:=by
 have hs:=Bn.mp h.sep
 refine (h.sub (Dx _ _)).push ((h.ok _ Aa).wk w) (λf hf=>(hs.1 f hf).wk w) λa ha=>?_
 rcases h.new _ Aa a (fI w a ha) with z | z
 ·exact .inl z
 ·cases z.2
end
abbrev DE:=DS->(DV->DS->Prop)->Prop
abbrev DT:=DS->(Bool->DS->Prop)->Prop
abbrev DA:=DS->(List DV->DS->Prop)->Prop
structure DEnds where
 nx:DS->Prop
 rt:DV->DS->Prop
 bk:DS->Prop:=λ_=>False
 ct:DS->Prop:=λ_=>False
abbrev DB:=DEnds->DS->Prop
abbrev DG:=DV->DS->(DS->Prop)->Prop
abbrev rL:=List DV->DS->(DS->Prop)->Prop
def vs(S:List Ent):L2.St:=S.map Ent.v
def Sl(S:List Ent)(δ:DS):Prop:=S.map Ent.x=δ.sl
section
variable(K:PySem.W.Frag)
def LE(de:DE):TE:=λσ H Q=>∃(H0:Hp) (X:Addr->Prop) (S T:List Ent) (δ:DS) (P:DV->DS->Prop),vs S=σ/\Sl S δ/\At K H0 X δ.n (S++T) H/\de δ P /\
 ∀x δ' v F S' H',vs S'=σ->Sl S' δ'->At K H0 X δ'.n (S'++⟨some v,x,F⟩::T) H'->P x δ'->Q v H'
def LT(dt:DT):TT:=λσ H Q=>∃(H0:Hp) (X:Addr->Prop) (S T:List Ent) (δ:DS) (P:Bool->DS->Prop),vs S=σ/\Sl S δ/\At K H0 X δ.n (S++T) H/\dt δ P /\
 ∀b δ' S' H',vs S'=σ->Sl S' δ'->At K H0 X δ'.n (S'++T) H'->P b δ'->Q b H'
def LA(da:DA):TA:=λσ H Q=>∃(H0:Hp) (X:Addr->Prop) (S T:List Ent) (δ:DS) (P:List DV->DS->Prop),vs S=σ/\Sl S δ/\At K H0 X δ.n (S++T) H/\da δ P /\
 ∀xs δ' As us S' H',vs S'=σ->Sl S' δ'->As.map Ent.x=xs->As.map Ent.v=us.map some->At K H0 X δ'.n (S'++(As++T)) H'->P xs δ'->Q us H'
def LS(db:DB):TS:=λD σ H=>∃(H0:Hp) (X:Addr->Prop) (S T:List Ent) (δ:DS) (P:DEnds),vs S=σ/\Sl S δ/\(∀e∈T,Oy e.x=false)/\At K H0 X δ.n (S++T) H/\db P δ /\
 (∀δ' S' H',Sl S' δ'->At K H0 X δ'.n (S'++T) H'->P.nx δ'->D.nx (vs S') H') /\
 (∀x δ' v F S' H',Sl S' δ'->At K H0 X δ'.n (S'++⟨some v,x,F⟩::T) H'->P.rt x δ'->D.rt v H') /\
 (∀δ' S' H',Sl S' δ'->At K H0 X δ'.n (S'++T) H'->P.bk δ'->D.bk (vs S') H') /\
 (∀δ' S' H',Sl S' δ'->At K H0 X δ'.n (S'++T) H'->P.ct δ'->D.ct (vs S') H')
def LG(dg:DG):TG:=λv σ H Q=>∃(H0:Hp) (X:Addr->Prop) (S T:List Ent) (δ:DS) (x:DV) (F:List Addr) (P:DS->Prop),vs S=σ/\Sl S δ/\At K H0 X δ.n (S++⟨some v,x,F⟩::T) H/\dg x δ P /\
 ∀δ' S' H',Sl S' δ'->At K H0 X δ'.n (S'++T) H'->P δ'->Q (vs S') H'
def Y3(dg:rL):uT:=λus σ H Q=>∃(H0:Hp) (X:Addr->Prop) (S T As:List Ent) (δ:DS) (P:DS->Prop),vs S=σ/\Sl S δ/\As.map Ent.v=us.map some/\At K H0 X δ.n (S++(As++T)) H/\dg (As.map Ent.x) δ P /\
 ∀δ' S' H',Sl S' δ'->At K H0 X δ'.n (S'++T) H'->P δ'->Q (vs S') H'
end
abbrev Gd(X:Cx)(e:Expr)(de:DE):Prop:=PE X e (LE X.K de)
abbrev cF(X:Cx)(e:Expr)(dt:DT):Prop:=PT X e (LT X.K dt)
abbrev B3(X:Cx)(e:Expr)(dt:DT):Prop:=PW X e (LT X.K dt)
abbrev oT(X:Cx)(es:List Expr)(da:DA):Prop:=PA X es (LA X.K da)
abbrev qE(X:Cx)(st:Stmt)(db:DB):Prop:=PS X st (LS X.K db)
abbrev bX(X:Cx)(st:List Stmt)(db:DB):Prop:=kY X st (LS X.K db)
abbrev P5(X:Cx)(tg:Expr)(dg:DG):Prop:=PG X tg (LG X.K dg)
abbrev xI(X:Cx)(tg:List Expr)(dg:rL):Prop:=x4 X tg (Y3 X.K dg)
theorem PE.imp{X:Cx}{e:Expr}{t t':TE}(h:PE X e t)(k:∀σ H Q,t' σ H Q->t σ H Q):PE X e t':=λpins s σ H Q I q=>h pins s σ H Q I (k σ H Q q)
theorem PT.imp{X:Cx}{e:Expr}{t t':TT}(h:PT X e t)(k:∀σ H Q,t' σ H Q->t σ H Q):PT X e t':=λpins s σ H Q I q=>h pins s σ H Q I (k σ H Q q)
theorem PW.imp{X:Cx}{e:Expr}{t t':TT}(h:PW X e t)(k:∀σ H Q,t' σ H Q->t σ H Q):PW X e t':=λwh pins s σ H Q I q=>h wh pins s σ H Q I (k σ H Q q)
theorem PA.imp{X:Cx}{e:List Expr}{t t':TA}(h:PA X e t)(k:∀σ H Q,t' σ H Q->t σ H Q):PA X e t':=λpos pins s σ H Q I q=>h pos pins s σ H Q I (k σ H Q q)
theorem PG.imp{X:Cx}{e:Expr}{t t':TG}(h:PG X e t)(k:∀v σ H Q,t' v σ H Q->t v σ H Q):PG X e t':=λpins s σ H v u Q I r q=>h pins s σ H v u Q I r (k v σ H Q q)
theorem x4.imp{X:Cx}{e:List Expr}{t t':uT}(h:x4 X e t)(k:∀v σ H Q,t' v σ H Q->t v σ H Q):x4 X e t':=λpins s σ H v u Q I r q=>h pins s σ H v u Q I r (k v σ H Q q)
section
variable{K:PySem.W.Frag}{H:Hp}{v:V}{F:List Addr}
theorem RdF.int_inv{i:Int}(h:RdF K H v (.int i) F):v=.int i/\F=[]:=by cases h; exact ⟨rfl,rfl⟩
theorem RdF.bl_inv{i:Bool}(h:RdF K H v (.bool i) F):v=.bl i/\F=[]:=by cases h; exact ⟨rfl,rfl⟩
theorem RdF.str_inv{i:Str}(h:RdF K H v (.str i) F):v=.str i/\F=[]:=by cases h; exact ⟨rfl,rfl⟩
theorem RdF.list_inv{ds:List Ag}(h:RdF K H v (.list ds) F):∃a xs G,v=.ref a/\H a=some (.lst xs)/\RdFs K H xs ds G/\F=a::G/\ds.length<=Av:=by
 cases h with
 | lst h l hs=>exact ⟨_,_,_,rfl,h,hs,rfl,l⟩
theorem RdF.tup_inv{ds:List Ag}(h:RdF K H v (.tuple ds) F):∃a xs,v=.ref a/\H a=some (.tup xs)/\RdFs K H xs ds F/\ds.length<=Av:=by
 cases h with
 | tup h l hs=>exact ⟨_,_,rfl,h,hs,l⟩
end
section
variable{K:PySem.W.Frag}{H0 H H':Hp}{X:Addr->Prop}{n:Nat}{E S T:List Ent}{v:V}{m:Md}{d:Ag}{F:List Addr}
theorem At.told(h:At K H0 X n E H)(he:⟨some v,.dat m d,F⟩∈E):RdF K H v d F:=by
 obtain ⟨w,e1,h1,_⟩:=h.ok _ he
 cases e1
 exact h1
theorem mem_mid{e:Ent}:e∈S++e::T:=Ad _ Aa
theorem Ge{e f:Ent}:f∈S++e::f::T:=Ad _ (Ae _ Aa)
theorem At.drop2{e f:Ent}(h:At K H0 X n (S++e::f::T) H):At K H0 X n (S++T) H:=h.drop.drop
theorem At.dropL{As:List Ent}(h:At K H0 X n (S++(As++T)) H):At K H0 X n (S++T) H:=h.sub ((El S).append (Cu As T))
end
def cR:Md->Md
 | .ow=>.pk
 | .tp=>.pk
 | m=>m
def x6(i:Nat):DE:=λδ P=>match δ.sl[i]? with
 | some (.dat m d)=>P (.dat (cR m) d) δ
 | _=>False
def dC(d:Ag):DE:=λδ P=>P (.dat .ow d) δ
theorem Mk{S:List Ent}{δ:DS}{i:Nat}{x:DV}(h:Sl S δ)(e:δ.sl[i]? = some x):∃ent,S[i]? = some ent/\ent.x=x:=by
 unfold Sl at h
 rw[<- h,Bf] at e
 cases q:S[i]? with
 | none=>rw[q] at e; cases e
 | some ent=>rw[q] at e; exact ⟨ent,rfl,Bt e⟩
theorem Vp{S:List Ent}{i:Nat}{e:Ent}(h:S[i]? = some e):(vs S)[i]? = some e.v:=by
 unfold vs
 rw[Bf,h]
 rfl
theorem At.look{K:PySem.W.Frag}{H0 H:Hp}{X:Addr->Prop}{n:Nat}{S T:List Ent}{u:Option V}{v:V}{m:Md}{d:Ag}{F:List Addr}(h:At K H0 X n (S++T) H)(he:⟨u,.dat m d,F⟩∈S)(hu:u=some v):At K H0 X n (S++⟨some v,.dat (cR m) d,F⟩::T) H:=by
 subst hu
 obtain ⟨S1,S2,rfl⟩:=List.append_of_mem he
 have hp:((S1++⟨some v,.dat m d,F⟩::S2)++T).Perm (⟨some v,.dat m d,F⟩::(S1++(S2++T))):=by
  rw[Bg,Fm]
  exact Lb
 have h2:=h.perm hp
 have hs:=Bn.mp h2.sep
 refine (h.push (e:=⟨some v,.dat (cR m) d,F⟩) ?_ (λf hf=>?_) λa ha=>?_).tomid
 ·obtain ⟨w,e1,h1,_⟩:=h2.ok _ Aa
  refine ⟨w,e1,h1,λz=>?_,λz=>?_⟩ <;> cases m <;> cases z
 ·refine ⟨λ_ a ha=>?_,λhq a ha=>?_⟩
  ·cases m <;> exact nomatch ha
  ·rcases An.mp (hp.mem_iff.mp hf) with rfl | hf
   ·rcases hq with hq | hq
    ·cases m <;> first | cases hq; done | exact nomatch ha
    ·cases hq
   ·refine (hs.1 f hf).2 ?_ a ha
    rcases hq with hq | hq
    ·refine .inl ?_
     cases m <;> first | rfl | exact hq
    ·exact .inr hq
 ·cases m <;> exact nomatch ha
section
variable{X:Cx}{e:Expr}
theorem Bk{i:Nat}(h:PE X e (Qt i)):Gd X e (x6 i):=by
 refine PE.imp h λσ H Q h=>?_
 obtain ⟨H0,Y,S,T,δ,P,rfl,hS,hA,hd,k⟩:=h
 unfold x6 at hd
 split at hd
 ·rename_i m d e1
  obtain ⟨ent,e2,e3⟩:=Mk hS e1
  have hm:ent∈S:=Az e2
  obtain ⟨u,x,F⟩:=ent
  subst e3
  obtain ⟨v,hv,_⟩:=hA.ok _ (Ao _ hm)
  refine ⟨v,by rw[Vp e2]; exact congrArg some hv,k _ δ v F S H rfl hS (hA.look hm hv) hd⟩
 ·exact hd.elim
theorem rZ{v:V}{d:Ag}(h:PE X e (tC v))(r:∀H,RdF X.K H v d []):Gd X e (dC d):=by
 refine PE.imp h λσ H Q h=>?_
 obtain ⟨H0,Y,S,T,δ,P,rfl,hS,hA,hd,k⟩:=h
 exact k _ δ v [] S H rfl hS (hA.pushI (r H)) hd
theorem Eu{i j pos}:Gd X (.Constant (.int i) j pos) (dC (.int i)):=rZ Et λ_=>.int i
theorem Jj{i j pos}:Gd X (.Constant (.bool i) j pos) (dC (.bool i)):=rZ G8 λ_=>.bl i
end
def F8(de:DE):DE:=λδ P=>de δ λx δ'=>match x with
 | .dat _ d=>imm d=true/\P (.dat .ow d) δ'
 | _=>False
theorem rJ{X:Cx}{e:Expr}{de:DE}(h:Gd X e de):Gd X e (F8 de):=by
 refine PE.imp h λσ H Q h=>?_
 obtain ⟨H0,Y,S,T,δ,P,rfl,hS,hA,hd,k⟩:=h
 refine ⟨H0,Y,S,T,δ,_,rfl,hS,hA,hd,λx δ' v F S' H' e1 e2 hA' p=>?_⟩
 cases x with
 | dat m d =>
  have r:=hA'.told mem_mid
  obtain rfl:=r.imm p.1
  exact k _ δ' v [] S' H' e1 e2 (hA'.drop.pushI r) p.2
 | _=>exact p.elim
def sY(i:Nat):DE:=λδ P=>match δ.sl[i]? with
 | some (.dat m d)=>P (.dat m d) ⟨δ.sl.set i .un,δ.n⟩
 | _=>False
theorem Tc{α:Type}:∀{l:List α} {i:Nat} {x y:α},l[i]? = some x->(y::l).Perm (x::l.set i y)
 | [],i,x,y,h=>by simp at h
 | z::l,0,x,y,h=>by
  simp at h
  subst h
  exact Ib _ _ _
 | z::l,i+1,x,y,h=>by
  have ih:=Tc (l:=l) (i:=i) (x:=x) (y:=y) (by simpa using h)
  rw[List.set_cons_succ]
  exact (Ib z y l).trans ((ih.cons z).trans (Ib x z _))
theorem uV{X:Cx}{e:Expr}{i:Nat}(h:PE X e (Qt i)):Gd X e (sY i):=by
 refine PE.imp h λσ H Q h=>?_
 obtain ⟨H0,Y,S,T,δ,P,rfl,hS,hA,hd,k⟩:=h
 unfold sY at hd
 split at hd
 ·rename_i m d e1
  obtain ⟨ent,e2,e3⟩:=Mk hS e1
  have hm:ent∈S:=Az e2
  obtain ⟨u,x,F⟩:=ent
  subst e3
  obtain ⟨v,hv,hv2⟩:=hA.ok _ (Ao _ hm)
  have hv':u=some v:=hv
  subst hv'
  refine ⟨v,by rw[Vp e2],k _ _ v F (S.set i ⟨some v,.un,[]⟩) H ?_ ?_ ?_ hd⟩
  ·unfold vs
   rw[Ha]
   apply Kn
   intro j
   rw[Km]
   split
   ·rename_i hij
    subst hij
    rw[Bf,e2]
    split
    ·rfl
    ·rename_i hj
     rw[Ab] at hj
     exact absurd (Aq.mp e2).1 hj
   ·rfl
  ·unfold Sl at hS ⊢
   rw[Ha,hS]
  ·have hp:=hA.push (e:=⟨some v,.un,[]⟩) (show Ja X.K H δ.n ⟨some v,.un,[]⟩ from rfl) (λf _=>⟨λ_ a ha=>(nomatch ha),λ_ a _=>Bh⟩) (λa ha=>(nomatch ha))
   have p1:(⟨some v,.un,[]⟩::(S++T)).Perm ((S.set i ⟨some v,.un,[]⟩)++⟨some v,.dat m d,F⟩::T):=by
    rw[<- Fm]
    exact ((Tc (y:=(⟨some v,.un,[]⟩ : Ent)) e2).append_right T).trans (by rw[Fm]; exact List.perm_middle.symm)
   exact hp.perm p1
 ·exact hd.elim
abbrev D2:=DV->DV->(DV->Prop)->Prop
def lN(K:PySem.W.Frag)(r:R2)(rd:D2):Prop:=∀(H0:Hp) (X:Addr->Prop) (n:Nat) (S T:List Ent) (x y:DV) (v w:V) (F G:List Addr) (H:Hp) (Q:VK) (P:DV->Prop),
 At K H0 X n (S++⟨some w,y,G⟩::⟨some v,x,F⟩::T) H->rd x y P->(∀z u F' H',At K H0 X n (S++⟨some u,z,F'⟩::T) H'->P z->Q u H')->r v w H Q
def Zl(rd:D2)(da db:DE):DE:=λδ P=>da δ λx δ1=>db δ1 λy δ2=>rd x y λz=>P z δ2
theorem kZ{K:PySem.W.Frag}{r:R2}{rd:D2}{da db:DE}(o:lN K r rd):∀σ H Q,LE K (Zl rd da db) σ H Q->P0 r (LE K da) (LE K db) σ H Q:=by
 intro σ H Q h
 obtain ⟨H0,Y,S,T,δ,P,rfl,hS,hA,hd,k⟩:=h
 refine ⟨H0,Y,S,T,δ,_,rfl,hS,hA,hd,λx δ1 v F S1 H1 e1 e2 hA1 p1=>?_⟩
 refine ⟨H0,Y,S1,⟨some v,x,F⟩::T,δ1,_,e1,e2,hA1,p1,λy δ2 w G S2 H2 e3 e4 hA2 p2=>?_⟩
 exact o H0 Y δ2.n S2 T x y v w F G H2 Q _ hA2 p2 λz u F' H' hA3 p3=>k z δ2 u F' S2 H' e3 e4 hA3 p3
section
variable{X:Cx}{a b:Expr}{da db:DE}{pos:Pos}{r:R2}{rd:D2}
theorem aN{op:Operator}(ho:Ur X (Jb op) r)(o:lN X.K r rd)(ha:Gd X a da)(hb:Gd X b db):Gd X (.BinOp a op b pos) (Zl rd da db):=PE.imp (Hg ho ha hb) (kZ o)
theorem rE{op:CmpOp}(ho:Ur X (Hk op) r)(o:lN X.K r rd)(ha:Gd X a da)(hb:Gd X b db)(hm:Ft op b=false):Gd X (.Compare a [op] [b] pos) (Zl rd da db):=PE.imp (jW ho ha hb hm) (kZ o)
theorem O4(ho:xP X r)(o:lN X.K r rd)(ha:Gd X a da)(hb:Gd X b db)(hs:aY b):Gd X (.Subscript a b pos) (Zl rd da db):=PE.imp (Ra ho ha hb hs) (kZ o)
end
def C0(C:Int->Int->Prop)(g:Int->Int->Ag):D2:=λx y P=>match x,y with
 | .dat _ (.int i),.dat _ (.int j)=>C i j/\P (.dat .ow (g i j))
 | _,_=>False
def nA(g:Int->Int->Ag):D2:=λx y P=>match x,y with
 | .dat _ (.int i),.dat _ (.int j)=>P (.dat .ow (g i j))
 | _,_=>False
section
variable{K:PySem.W.Frag}
theorem j4{C:Int->Int->Prop}{g:Int->Int->V}{g':Int->Int->Ag}(h:∀i j H,RdF K H (g i j) (g' i j) []):lN K (rI C g) (C0 C g'):=by
 intro H0 X n S T x y v w F G H Q P hA hd k
 unfold C0 at hd
 split at hd
 ·obtain ⟨rfl,_⟩:=(hA.told Ge).int_inv
  obtain ⟨rfl,_⟩:=(hA.told mem_mid).int_inv
  exact ⟨_,_,rfl,rfl,hd.1,k _ _ [] H (hA.drop2.pushI (h _ _ H)) hd.2⟩
 ·exact hd.elim
theorem sS{g:Int->Int->V}{g':Int->Int->Ag}(h:∀i j H,RdF K H (g i j) (g' i j) []):lN K (A5 g) (nA g'):=by
 intro H0 X n S T x y v w F G H Q P hA hd k
 unfold nA at hd
 split at hd
 ·obtain ⟨rfl,_⟩:=(hA.told Ge).int_inv
  obtain ⟨rfl,_⟩:=(hA.told mem_mid).int_inv
  exact ⟨_,_,rfl,rfl,k _ _ [] H (hA.drop2.pushI (h _ _ H)) hd⟩
 ·exact hd.elim
end
abbrev rdAdd:D2:=nA λi j=>.int (i+j)
abbrev rdDiv:D2:=C0 w5 λi j=>.int (i / j)
abbrev rdMod:D2:=C0 (λ_ j=>0<j) λi j=>.int (i % j)
abbrev rdShl:D2:=C0 uY λi j=>.int (i * 2 ^ j.toNat)
abbrev rdLt:D2:=nA λi j=>.bool (decide (i<j))
abbrev rdGe:D2:=nA λi j=>.bool (decide (j<=i))
section
variable{X:Cx}{a b:Expr}{da db:DE}{pos:Pos}
theorem Rk(ha:Gd X a da)(hb:Gd X b db):Gd X (.BinOp a .Add b pos) (Zl rdAdd da db):=aN Rx (sS λ_ _ _=>.int _) ha hb
theorem Xl(ha:Gd X a da)(hb:Gd X b db):Gd X (.BinOp a .FloorDiv b pos) (Zl rdDiv da db):=aN bP (j4 λ_ _ _=>.int _) ha hb
theorem Xi(ha:Gd X a da)(hb:Gd X b db):Gd X (.BinOp a .Mod b pos) (Zl rdMod da db):=aN Ux (j4 λ_ _ _=>.int _) ha hb
theorem zL(ha:Gd X a da)(hb:Gd X b db):Gd X (.BinOp a .LShift b pos) (Zl rdShl da db):=aN u4 (j4 λ_ _ _=>.int _) ha hb
end
def cM(ne:Bool):D2:=λx y P=>match x,y with
 | .dat _ d,.dat _ e=>d.depth<=60/\e.depth<=60/\P (.dat .ow (.bool (match ne with | true=>!Dr d e | false=>Dr d e)))
 | _,_=>False
def mU(ne:Bool):D2:=λx y P=>match x,y with
 | .dat _ d,.dat _ (.list es)=>Be es<=60/\d.depth<=60/\P (.dat .ow (.bool (match ne with | true=>!(es.any λe=>Dr e d) | false=>es.any λe=>Dr e d)))
 | .dat _ d,.dat _ (.tuple es)=>Be es<=60/\d.depth<=60/\P (.dat .ow (.bool (match ne with | true=>!(es.any λe=>Dr e d) | false=>es.any λe=>Dr e d)))
 | _,_=>False
section
variable{K:PySem.W.Frag}
theorem zJ:lN K (C2 K) (cM false):=by
 intro H0 X n S T x y v w F G H Q P hA hd k
 unfold cM at hd
 split at hd
 ·exact ⟨_,_,(hA.told Ge).rd (Bv hd.1 (by decide)),(hA.told mem_mid).rd (Bv hd.2.1 (by decide)),hd.1,k _ _ [] H (hA.drop2.pushI (.bl _)) hd.2.2⟩
 ·exact hd.elim
theorem L1:lN K (L9 K) (cM true):=by
 intro H0 X n S T x y v w F G H Q P hA hd k
 unfold cM at hd
 split at hd
 ·exact ⟨_,_,(hA.told Ge).rd (Bv hd.1 (by decide)),(hA.told mem_mid).rd (Bv hd.2.1 (by decide)),hd.1,k _ _ [] H (hA.drop2.pushI (.bl _)) hd.2.2⟩
 ·exact hd.elim
theorem yZ{ne:Bool}:lN K (B2 K ne) (mU ne):=by
 intro H0 X n S T x y v w F G H Q P hA hd k
 unfold mU at hd
 split at hd
 ·obtain ⟨a,xs,G',rfl,hq,hs,_,_⟩:=(hA.told mem_mid).list_inv
  refine ⟨a,xs,_,_,rfl,.inl (Ox.of hq),(hA.told Ge).rd (Bv hd.2.1 (by decide)),hs.rd (Bv hd.1 (by decide)),hd.1,?_⟩
  cases ne with
  | true=>exact k _ _ [] H (hA.drop2.pushI (.bl _)) hd.2.2
  | false=>exact k _ _ [] H (hA.drop2.pushI (.bl _)) hd.2.2
 ·obtain ⟨a,xs,rfl,hq,hs,_⟩:=(hA.told mem_mid).tup_inv
  refine ⟨a,xs,_,_,rfl,.inr (Ri.of hq),(hA.told Ge).rd (Bv hd.2.1 (by decide)),hs.rd (Bv hd.1 (by decide)),hd.1,?_⟩
  cases ne with
  | true=>exact k _ _ [] H (hA.drop2.pushI (.bl _)) hd.2.2
  | false=>exact k _ _ [] H (hA.drop2.pushI (.bl _)) hd.2.2
 ·exact hd.elim
end
section
variable{X:Cx}{a b:Expr}{da db:DE}{pos:Pos}
theorem kA(hu:X.A.units+64<cLine)(ha:Gd X a da)(hb:Gd X b db):Gd X (.Compare a [.Eq] [b] pos) (Zl (cM false) da db):=rE (tM hu) zJ ha hb (Rq _)
theorem O7(hu:X.A.units+64<cLine)(ha:Gd X a da)(hb:Gd X b db)(hm:Ft .In b=false:=by with_unfolding_all rfl):Gd X (.Compare a [.In] [b] pos) (Zl (mU false) da db):=rE (e8 hu) yZ ha hb hm
end
def Mw:Md->Md
 | .ow=>.ow
 | .tp=>.sh
 | m=>m
theorem At.part{K:PySem.W.Frag}{H0 H:Hp}{X:Addr->Prop}{n:Nat}{S T:List Ent}{v w:V}{m:Md}{d e:Ag}{F G:List Addr}(h:At K H0 X n (S++⟨some v,.dat m d,F⟩::T) H)(r:RdF K H w e G)(hG:G.Sublist F):At K H0 X n (S++⟨some w,.dat (Mw m) e,G⟩::T) H:=by
 have h2:=h.mid
 have hs:=Bn.mp h2.sep
 obtain ⟨v',e1,h1,hn,ht⟩:=h2.ok _ Aa
 have cs:∀a∈cells ⟨some w,.dat (Mw m) e,G⟩,a∈cells ⟨some v,.dat m d,F⟩:=λa ha=>by
  cases m with
  | ow=>exact hG.subset ha
  | tp=>exact nomatch ha
  | sh=>exact nomatch ha
  | pk=>exact nomatch ha
 refine (h.drop.push (e:=⟨some w,.dat (Mw m) e,G⟩) ⟨w,rfl,r,λz=>?_,λz=>?_⟩ (λf hf=>?_) λa ha=>?_).tomid
 ·cases m with
  | ow=>exact (hn rfl).sublist hG
  | _=>cases z
 ·cases m <;> cases z
 ·refine ⟨λhp a ha=>(hs.1 f hf).1 ?_ a (cs a ha),λhp a ha z=>(hs.1 f hf).2 ?_ a ha (hG.subset z)⟩
  ·rcases hp with hp | hp
   ·exact .inl hp
   ·cases hp
  ·rcases hp with hp | hp
   ·refine .inl ?_
    cases m <;> first | rfl | exact hp
   ·exact .inr hp
 ·rcases h2.new _ Aa a (cs a ha) with z | z
  ·exact .inl z
  ·cases z.2
def wK:D2:=λx y P=>match x,y with
 | .dat m (.list ds),.dat _ (.int i)=>∃d,Tz ds i=some d/\P (.dat (Mw m) d)
 | .dat m (.tuple ds),.dat _ (.int i)=>∃d,Tz ds i=some d/\P (.dat (Mw m) d)
 | .dat _ (.str z),.dat _ (.int i)=>z.length<=Av/\∃c,Tz z.cps.toList i=some c/\P (.dat .ow (.str ⟨#[c]⟩))
 | _,_=>False
theorem uH{K:PySem.W.Frag}{H:Hp}{xs:List V}{ds:List Ag}{F:List Addr}{i:Int}{d:Ag}(r:RdFs K H xs ds F)(h:Tz ds i=some d):∃x G,Tz xs i=some x/\RdF K H x d G/\G.Sublist F:=by
 unfold Tz at h ⊢
 rw[r.len]
 cases e:oS ds.length i with
 | none=>rw[e] at h; cases h
 | some j =>
  rw[e] at h
  exact r.get h
theorem At.swap{K:PySem.W.Frag}{H0 H:Hp}{X:Addr->Prop}{n:Nat}{S T:List Ent}{e f:Ent}(h:At K H0 X n (S++e::f::T) H):At K H0 X n (S++f::e::T) H:=h.perm ((Ic S).append (Ib f e T))
theorem O6{K:PySem.W.Frag}:lN K (X5 K) wK:=by
 intro H0 X n S T x y v w F G H Q P hA hd k
 unfold wK at hd
 split at hd
 ·obtain ⟨d,hi,p⟩:=hd
  obtain ⟨rfl,_⟩:=(hA.told mem_mid).int_inv
  have r:=hA.told Ge
  have hA':=hA.drop
  obtain ⟨a,xs,G0,rfl,hq,hs,hG,_⟩:=r.list_inv
  obtain ⟨x,G',h1,h2,h3⟩:=uH hs hi
  subst hG
  exact .inl ⟨_,_,_,_,rfl,rfl,Ox.of hq,h1,k _ _ G' H (hA'.part h2 (h3.trans (Dx _ _))) p⟩
 ·obtain ⟨d,hi,p⟩:=hd
  obtain ⟨rfl,_⟩:=(hA.told mem_mid).int_inv
  have r:=hA.told Ge
  have hA':=hA.drop
  obtain ⟨a,xs,rfl,hq,hs,_⟩:=r.tup_inv
  obtain ⟨x,G',h1,h2,h3⟩:=uH hs hi
  exact .inr (.inl ⟨_,_,_,_,rfl,rfl,Ri.of hq,h1,k _ _ G' H (hA'.part h2 h3) p⟩)
 ·obtain ⟨hz,c,hi,p⟩:=hd
  obtain ⟨rfl,_⟩:=(hA.told mem_mid).int_inv
  obtain ⟨rfl,_⟩:=(hA.told Ge).str_inv
  exact .inr (.inr ⟨_,_,_,rfl,rfl,hz,hi,k _ _ [] H (hA.drop2.pushI (.str _)) p⟩)
 ·exact hd.elim
theorem cJ{X:Cx}{a b:Expr}{da db:DE}{pos:Pos}(ha:Gd X a da)(hb:Gd X b db)(hs:aY b:=by intro _ _; rfl):Gd X (.Subscript a b pos) (Zl wK da db):=O4 i6 O6 ha hb hs
def Zz:Md->Md
 | .ow=>.ow
 | .pk=>.pk
 | _=>.tp
def Zr(i:Bool)(m:Md)(ds:List Ag)(P:DV->Prop):Prop:=match i with
 | true=>Dv ds=true/\P (.dat .ow (.list ds))
 | false=>P (.dat (Zz m) (.list ds))
def tS(i:Bool)(m:Md)(ds:List Ag)(P:DV->Prop):Prop:=match i with
 | true=>Dv ds=true/\P (.dat .ow (.tuple ds))
 | false=>P (.dat (Mw m) (.tuple ds))
section
variable{K:PySem.W.Frag}{H0 H:Hp}{X:Addr->Prop}{n:Nat}{S T:List Ent}{v w:V}{m:Md}{d e:Ag}{F G:List Addr}{p:Addr}{xs:List V}{ds:List Ag}{P:DV->Prop}{i:Bool}
theorem At.newI(h:At K H0 X n (S++T) H)(r:RdFs K H xs ds G)(hi:Dv ds=true)(hz:ds.length<=Av)(hp:H p=none)(m:Md):At K H0 X n (S++⟨some (.ref p),.dat m (.list ds),[p]⟩::T) (upd H p (.lst xs)):=by
 obtain rfl:=r.imm hi
 have s1:=Dq hp (.lst xs)
 have h1:=h.grow (n':=n) s1 (Ah _)
 refine (h1.push (e:=⟨some (.ref p),.dat m (.list ds),[p]⟩) ⟨_,rfl,.lst Cn hz (r.kp (Kp.of s1)),λ_=>Bo.mpr ⟨Bh,Df⟩,λ_ a l z=>by cases z; exact Bh⟩ (λf hf=>?_) λa ha=>?_).tomid
 ·have nf:=h.free hp f hf
  refine ⟨λ_ a ha z=>?_,λ_ a ha z=>?_⟩
  ·have:=Hh _ a ha
   rw[Af.mp this] at z
   exact nf z
  ·rw[Af.mp z] at ha
   exact nf (Hh _ _ ha)
 ·have:=Hh _ a ha
  rw[Af.mp this]
  exact .inl (h.new0 hp)
theorem At.newL(h:At K H0 X n (S++⟨some v,.dat m d,F⟩::T) H)(r:RdFs K H xs ds G)(hG:G.Sublist F)(hz:ds.length<=Av)(hp:H p=none)(q:Zr i m ds P):∃z F',At K H0 X n (S++⟨some (.ref p),z,F'⟩::T) (upd H p (.lst xs))/\P z:=by
 cases i with
 | true=>exact ⟨_,_,h.drop.newI r q.1 hz hp .ow,q.2⟩
 | false =>
  have q:P (.dat (Zz m) (.list ds)):=q
  refine ⟨_,p::G,?_,q⟩
  have s1:=Dq hp (.lst xs)
  have h2:=h.mid
  have hs:=Bn.mp h2.sep
  obtain ⟨v',e1,_,hn,_⟩:=h2.ok _ Aa
  have h1:=h.drop.grow (n':=n) s1 (Ah _)
  have npF:p∉F:=h2.free hp _ Aa
  have npG:p∉G:=λz=>npF (hG.subset z)
  have cs:∀a∈cells ⟨some (.ref p),.dat (Zz m) (.list ds),p::G⟩,a=p\/(a∈cells ⟨some v,.dat m d,F⟩):=λa ha=>by
   cases m with
   | ow =>
    rcases An.mp ha with z | z
    ·exact .inl z
    ·exact .inr (hG.subset z)
   | tp=>exact .inl (Af.mp ha)
   | sh=>exact .inl (Af.mp ha)
   | pk=>exact nomatch ha
  refine (h1.push (e:=⟨some (.ref p),.dat (Zz m) (.list ds),p::G⟩) ⟨_,rfl,.lst Cn hz (r.kp (Kp.of s1)),λz=>?_,λz a l e=>?_⟩ (λf hf=>?_) λa ha=>?_).tomid
  ·cases m with
   | ow=>exact Bo.mpr ⟨npG,(hn rfl).sublist hG⟩
   | _=>cases z
  ·cases e
   exact npG
  ·have nf:=h2.free hp f (Ae _ hf)
   refine ⟨λhq a ha z=>?_,λhq a ha z=>?_⟩
   ·rcases cs a ha with rfl | hc
    ·exact nf z
    ·refine (hs.1 f hf).1 ?_ a hc z
     rcases hq with hq | hq
     ·exact .inl hq
     ·cases hq
   ·rcases An.mp z with rfl | z
    ·exact nf (Hh _ _ ha)
    ·refine (hs.1 f hf).2 ?_ a ha (hG.subset z)
     rcases hq with hq | hq
     ·refine .inl ?_
      cases m <;> first | rfl | exact hq
     ·exact .inr hq
  ·rcases cs a ha with rfl | hc
   ·exact .inl (h2.new0 hp)
   ·rcases h2.new _ Aa a hc with z | z
    ·exact .inl z
    ·cases z.2
theorem At.oldT{t:Addr}(h:At K H0 X n (S++⟨some v,.dat m d,F⟩::T) H)(r:RdFs K H xs ds G)(hG:G.Sublist F)(hz:ds.length<=Av)(ht:H t=some (.tup xs))(q:tS i m ds P):∃z F',At K H0 X n (S++⟨some (.ref t),z,F'⟩::T) H/\P z:=by
 cases i with
 | true =>
  obtain rfl:=r.imm q.1
  exact ⟨_,[],h.drop.pushI (.tup ht hz r),q.2⟩
 | false=>exact ⟨_,G,h.part (.tup ht hz r) hG,q⟩
end
def p9:DA:=λδ P=>P [] δ
def yG(de:DE)(da:DA):DA:=λδ P=>de δ λx δ1=>da δ1 λxs δ2=>P (x::xs) δ2
section
variable{X:Cx}{e:Expr}{es:List Expr}{de:DE}{da:DA}
theorem By:oT X [] p9:=by
 refine PA.imp Gv λσ H Q h=>?_
 obtain ⟨H0,Y,S,T,δ,P,rfl,hS,hA,hd,k⟩:=h
 exact k [] δ [] [] S H rfl hS rfl rfl hA hd
theorem Ba(ha:Gd X e de)(hr:oT X es da)(hs:Bs (e::es) X.env=(false,eval e X.env)::Bs es X.env:=by rfl):oT X (e::es) (yG de da):=by
 refine PA.imp (Ez ha hr hs) λσ H Q h=>?_
 obtain ⟨H0,Y,S,T,δ,P,rfl,hS,hA,hd,k⟩:=h
 refine ⟨H0,Y,S,T,δ,_,rfl,hS,hA,hd,λx δ1 v F S1 H1 e1 e2 hA1 p1=>?_⟩
 refine ⟨H0,Y,S1,⟨some v,x,F⟩::T,δ1,_,e1,e2,hA1,p1,λxs δ2 As us S2 H2 e3 e4 ex eu hA2 p2=>?_⟩
 refine k (x::xs) δ2 (⟨some v,x,F⟩::As) (v::us) S2 H2 e3 e4 (by rw[Bc,ex]) (by rw[Bc,Bc,eu]) (hA2.perm ((Ic S2).append ?_)) p2
 exact Lb
end
def allOw:List DV->Bool
 | []=>true
 | .dat .ow _::xs=>allOw xs
 | _=>false
def noPk:List DV->Bool
 | []=>true
 | .dat .pk _::_=>false
 | .dat _ _::xs=>noPk xs
 | _=>false
def datas:List DV->Option (List Ag)
 | []=>some []
 | .dat _ d::xs=>(datas xs).map (d::·)
 | _=>none
def pkMd(top:Md)(xs:List DV):Md:=if allOw xs=true then .ow else if noPk xs=true then top else .pk
section
variable{K:PySem.W.Frag}{H0 H:Hp}{X:Addr->Prop}{n:Nat}{S T As:List Ent}
theorem Sz:∀{As:List Ent} {us:List V} {ds:List Ag},As.map Ent.v=us.map some->datas (As.map Ent.x)=some ds->(∀e∈As,Ja K H n e)->RdFs K H us ds (As.flatMap Ent.F)
 | [],us,ds,e,h,_=>by
  cases us with
  | nil=>cases h; exact .nil
  | cons _ _=>cases e
 | ent::As,us,ds,e,h,ok=>by
  cases us with
  | nil=>cases e
  | cons u us =>
   rw[Bc,Bc] at e
   obtain ⟨e1,e2⟩:=Fz e
   obtain ⟨v,x,F⟩:=ent
   have e1':v=some u:=e1
   subst e1'
   rw[Bc] at h
   cases x with
   | dat m d =>
    rw[show datas (DV.dat m d::As.map Ent.x)=(datas (As.map Ent.x)).map (d::·) from rfl] at h
    cases q:datas (As.map Ent.x) with
    | none=>rw[q] at h; cases h
    | some es =>
     rw[q] at h
     cases h
     obtain ⟨w,ew,rw',_⟩:=ok _ Aa
     cases ew
     rw[Ir]
     exact .cons rw' (Sz e2 q λf hf=>ok f (Ae _ hf))
   | _=>cases h
theorem Nk:∀{As:List Ent},allOw (As.map Ent.x)=true->∀e∈As,∃d,e.x=.dat .ow d
 | [],_,_,h=>nomatch h
 | ⟨v,x,F⟩::As,h,e,he=>by
  rw[Bc] at h
  have hx:(∃d,x=.dat .ow d)/\allOw (As.map Ent.x)=true:=by
   cases x with
   | dat m d=>cases m <;> first | exact ⟨⟨d,rfl⟩,h⟩ | cases h
   | _=>cases h
  rcases An.mp he with rfl | he
  ·exact hx.1
  ·exact Nk hx.2 e he
theorem eT:∀{As:List Ent},noPk (As.map Ent.x)=true->∀e∈As,Oy e.x=false
 | [],_,_,h=>nomatch h
 | ⟨v,x,F⟩::As,h,e,he=>by
  rw[Bc] at h
  have hx:Oy x=false/\noPk (As.map Ent.x)=true:=by
   cases x with
   | dat m d=>cases m <;> first | exact ⟨rfl,h⟩ | cases h
   | _=>cases h
  rcases An.mp he with rfl | he
  ·exact hx.1
  ·exact eT hx.2 e he
theorem Xz:∀{As:List Ent},(∀e∈As,∃d,e.x=.dat .ow d)->(∀e∈As,Ja K H n e)->As.Pairwise Sw->(As.flatMap Ent.F).Nodup
 | [],_,_,_=>Df
 | ent::As,ho,ok,hs=>by
  rw[Ir]
  have hc:=Bn.mp hs
  obtain ⟨v,x,F⟩:=ent
  obtain ⟨d,hd⟩:=ho _ Aa
  have hd':x=.dat .ow d:=hd
  subst hd'
  obtain ⟨w,_,_,hn,_⟩:=ok _ Aa
  refine Es.mpr ⟨hn rfl,Xz (λe he=>ho e (Ae _ he)) (λe he=>ok e (Ae _ he)) hc.2,λa ha b hb z=>?_⟩
  subst z
  obtain ⟨f,hf,hb⟩:=Dn.mp hb
  obtain ⟨d',hd'⟩:=ho f (Ae _ hf)
  exact (hc.1 f hf).1 (.inl (by rw[hd']; rfl)) a ha hb
theorem At.pack{v:V}{d:Ag}{N:List Addr}{H':Hp}{top:Md}(h:At K H0 X n (S++(As++T)) H)(s:Jk H H')(hN:∀a∈N,H a=none)(ndN:N.Nodup)(htop:(top=.tp/\N.length=1)\/(top=.sh/\N=[]))(r:RdF K H' v d (N++As.flatMap Ent.F)):At K H0 X n (S++⟨some v,.dat (pkMd top (As.map Ent.x)) d,N++As.flatMap Ent.F⟩::T) H':=by
 have hp:(S++(As++T)).Perm (As++(S++T)):=by
  rw[<- Bg,<- Bg]
  exact Di.append_right T
 have h2:=h.perm hp
 have hs:=Ck.mp h2.sep
 have h1:=(h.dropL).grow (n':=n) s (Ah _)
 have nN:∀a∈N,∀f∈As++(S++T),a∉f.F:=λa ha f hf=>h2.free (hN a ha) f hf
 have nFlat:∀a∈N,a∉As.flatMap Ent.F:=λa ha z=>by
  obtain ⟨f,hf,z⟩:=Dn.mp z
  exact nN a ha f (Ao _ hf) z
 have cs:∀a∈cells ⟨some v,.dat (pkMd top (As.map Ent.x)) d,N++As.flatMap Ent.F⟩,a∈N\/(allOw (As.map Ent.x)=true/\∃f∈As,a∈cells f):=λa ha=>by
  unfold pkMd at ha
  by_cases hw:allOw (As.map Ent.x)=true
  ·rw[if_pos hw] at ha
   rcases Au.mp ha with z | z
   ·exact .inl z
   ·obtain ⟨f,hf,z⟩:=Dn.mp z
    obtain ⟨d',hd'⟩:=Nk hw f hf
    refine .inr ⟨hw,f,hf,?_⟩
    unfold cells
    rw[hd']
    exact z
  ·rw[if_neg hw] at ha
   by_cases hk:noPk (As.map Ent.x)=true
   ·rw[if_pos hk] at ha
    rcases htop with ⟨rfl,h1⟩ | ⟨rfl,rfl⟩
    ·match N,h1,ha with
     | [b],_,ha=>exact .inl ha
    ·exact nomatch ha
   ·rw[if_neg hk] at ha
    exact nomatch ha
 refine (h1.push (e:=⟨some v,.dat (pkMd top (As.map Ent.x)) d,N++As.flatMap Ent.F⟩) ⟨_,rfl,r,λz=>?_,λz a l e=>?_⟩ (λf hf=>?_) λa ha=>?_).tomid
 ·have hw:allOw (As.map Ent.x)=true:=by
   unfold pkMd at z
   by_cases hw:allOw (As.map Ent.x)=true
   ·exact hw
   ·rw[if_neg hw] at z
    split at z
    ·rcases htop with ⟨rfl,_⟩ | ⟨rfl,_⟩ <;> cases z
    ·cases z
  refine Es.mpr ⟨ndN,Xz (Nk hw) (λe he=>h2.ok e (Ao _ he)) hs.1,λa ha b hb e=>?_⟩
  subst e
  exact nFlat a ha hb
 ·have ht:top=.tp:=by
   unfold pkMd at z
   split at z
   ·cases z
   ·split at z
    ·exact z
    ·cases z
  subst ht
  rcases htop with ⟨_,h1⟩ | ⟨h1,_⟩
  ·match N,h1,e,nFlat with
   | [b],_,e,nFlat =>
    cases e
    exact nFlat a Aa
  ·cases h1
 ·have hf':f∈As++(S++T):=Ad _ hf
  refine ⟨λhq a ha z=>?_,λhq a ha z=>?_⟩
  ·rcases cs a ha with hn | ⟨_,g,hg,hc⟩
   ·exact nN a hn f hf' z
   ·refine (hs.2.2 g hg f hf).1 ?_ a hc z
    rcases hq with hq | hq
    ·exact .inl hq
    ·cases hq
  ·rcases Au.mp z with z | z
   ·exact nN a z f hf' (Hh _ _ ha)
   ·obtain ⟨g,hg,z⟩:=Dn.mp z
    refine (hs.2.2 g hg f hf).2 ?_ a ha z
    rcases hq with hq | hq
    ·refine .inl ?_
     have hq':Oy (.dat (pkMd top (As.map Ent.x)) d)=false:=hq
     unfold pkMd at hq'
     by_cases hw:allOw (As.map Ent.x)=true
     ·obtain ⟨d',hd'⟩:=Nk hw g hg
      rw[hd']
      rfl
     ·rw[if_neg hw] at hq'
      by_cases hk:noPk (As.map Ent.x)=true
      ·exact eT hk g hg
      ·rw[if_neg hk] at hq'
       cases hq'
    ·exact .inr hq
 ·rcases cs a ha with hn | ⟨_,g,hg,hc⟩
  ·exact .inl (h2.new0 (hN a hn))
  ·rcases h2.new g (Ao _ hg) a hc with z | z
   ·exact .inl z
   ·obtain ⟨d',hd'⟩:=Nk (by assumption) g hg
    rw[hd'] at z
    cases z.2
end
def G7(da:DA):DE:=λδ P=>da δ λxs δ'=>match datas xs with
 | some ds=>ds.length<=1000/\P (.dat (pkMd .sh xs) (.tuple ds)) δ'
 | none=>False
def K5(da:DA):DE:=λδ P=>da δ λxs δ'=>match datas xs with
 | some ds=>ds.length<=1000/\P (.dat (pkMd .tp xs) (.list ds)) δ'
 | none=>False
section
variable{X:Cx}{es:List Expr}{da:DA}{pos:Pos}
theorem iG{x1}(h:oT X es da):Gd X (.Tuple es x1 pos) (G7 da):=by
 refine PE.imp (iK h) λσ H Q h=>?_
 obtain ⟨H0,Y,S,T,δ,P,rfl,hS,hA,hd,k⟩:=h
 refine ⟨H0,Y,S,T,δ,_,rfl,hS,hA,hd,λxs δ' As us S' H' e1 e2 ex eu hA' p=>?_⟩
 cases q:datas xs with
 | none=>rw[q] at p; exact p.elim
 | some ds =>
  rw[q] at p
  subst ex
  have r:=Sz eu q λe he=>hA'.ok e (Ad _ (Ao _ he))
  have hl:=r.len
  have hz:ds.length<=Av:=sz p.1
  refine ⟨by omega,λt ht=>?_⟩
  have s1:=Dq ht (.tup us)
  exact k _ δ' _ _ S' _ e1 e2 (hA'.pack (N:=[]) s1 (λ_ z=>nomatch z) Df (.inr ⟨rfl,rfl⟩) (.tup Cn hz (r.kp (Kp.of s1)))) p.2
theorem Kz(h:oT X es da):Gd X (.List es pos) (K5 da):=by
 refine PE.imp (Ru h) λσ H Q h=>?_
 obtain ⟨H0,Y,S,T,δ,P,rfl,hS,hA,hd,k⟩:=h
 refine ⟨H0,Y,S,T,δ,_,rfl,hS,hA,hd,λxs δ' As us S' H' e1 e2 ex eu hA' p=>?_⟩
 cases q:datas xs with
 | none=>rw[q] at p; exact p.elim
 | some ds =>
  rw[q] at p
  subst ex
  have r:=Sz eu q λe he=>hA'.ok e (Ad _ (Ao _ he))
  have hl:=r.len
  have hz:ds.length<=Av:=sz p.1
  refine ⟨by omega,λt ht=>?_⟩
  have s1:=Dq ht (.lst us)
  exact k _ δ' _ _ S' _ e1 e2 (hA'.pack (N:=[t]) s1 (λa z=>by rw[Af.mp z]; exact ht) (Bo.mpr ⟨Bh,Df⟩) (.inl ⟨rfl,rfl⟩) (.lst Cn hz (r.kp (Kp.of s1)))) p.2
end
end DL
namespace Nd
open PySem PySem.Spec PyProof.Rows L2
section
variable{X:Cx}
def yE:V->Option Int->Option Int->Hp->VK->Prop:=λx lo hi H Q=>∃a xs,x=.ref a/\H a=some (.tup xs)/\∀p H',H' p=some (.tup (Yd xs lo hi))->Jk H H'->Q (.ref p) H'
theorem wM:A1 X yE:=by
 intro pins s σ H x v vl vu lo hi sl Q I rx hs pl pu h
 obtain ⟨a,xs,rfl,hx',q⟩:=h
 have hx:Ri X.K H a xs:=Ri.of hx'
 cases rx
 by_cases hw:HT.sIx xs.length 0 lo=0/\HT.sIx xs.length xs.length hi=xs.length
 ·obtain ⟨its,r,ht,hz⟩:=I.tuple hx
  have hlen:its.toArray.size=xs.length:=by rw[Ap]; exact r.length.symm
  refine ⟨"tuple",_,Ef.lookup,ht.typeIs,?_⟩
  refine Qs ht hs pl pu (by rw[hlen]; exact hw) ⟨.ref a,H,I,rfl,q a H ?_ (Jk.refl _)⟩
  unfold Yd
  rw[hw.1,hw.2,Se,Wz,Gi]
  exact hx'
 ·exact zM pins s σ H (.ref a) (.ref a) vl vu lo hi sl Q I rfl hs pl pu ⟨a,xs,rfl,hx,hw,λp np=>q p _ Cn (Dq np _)⟩
end
end Nd
namespace Ts
open PySem PyProof.Rows
def Ql:Bool->Keyed->Array Keyed->Nat->Nat->Nat->StateT Bj Sem (Option Nat):=sortPriv% PySem.Builtin.gallop
structure Cmp(prog:Bm)(w:World)(A:Cr)(s:Ai)(kd:Jw)(Ok:Keyed->Prop)(blt:Keyed->Keyed->Bool):Prop where
 run:∀(x y:Keyed) (Q:Bool->Ai->Prop) (E:Value->Ai->Prop),Ok x->Ok y->Q (blt x y) s->wpAny (model prog w) A (keyLt' kd x.1 y.1) Q E s
 irr:∀x,blt x x=false
 tr:∀x y z,blt x y=true->blt y z=true->blt x z=true
 neg:∀x y z,blt x z=true->blt x y=true\/blt y z=true
def le(blt:Keyed->Keyed->Bool)(x y:Keyed):Prop:=blt y x=false
section
variable{prog:Bm}{w:World}{A:Cr}{s:Ai}{kd:Jw}{Ok:Keyed->Prop}{blt:Keyed->Keyed->Bool}
theorem Cmp.refl(C:Cmp prog w A s kd Ok blt)(x:Keyed):le blt x x:=C.irr x
theorem Cmp.ofLt(C:Cmp prog w A s kd Ok blt){x y:Keyed}(h:blt x y=true):le blt x y:=by
 unfold le
 cases q:blt y x with
 | false=>rfl
 | true=>have:=C.tr _ _ _ h q; rw[C.irr] at this; cases this
theorem Cmp.trans(C:Cmp prog w A s kd Ok blt){x y z:Keyed}(h1:le blt x y)(h2:le blt y z):le blt x z:=by
 unfold le at *
 cases q:blt z x with
 | false=>rfl
 | true =>
  rcases C.neg _ y _ q with h | h
  ·rw[h2] at h; cases h
  ·rw[h1] at h; cases h
theorem Cmp.ltLe(C:Cmp prog w A s kd Ok blt){x y z:Keyed}(h1:blt x y=true)(h2:le blt y z):blt x z=true:=by
 unfold le at h2
 rcases C.neg _ z _ h1 with h | h
 ·exact h
 ·rw[h2] at h; cases h
theorem Cmp.leLt(C:Cmp prog w A s kd Ok blt){x y z:Keyed}(h1:le blt x y)(h2:blt y z=true):blt x z=true:=by
 unfold le at h1
 rcases C.neg _ x _ h2 with h | h
 ·rw[h1] at h; cases h
 ·exact h
variable{E:Value->Ai->Prop}
structure Kept(st st':Bj):Prop where
 kind:kindOf st'=kindOf st
 arr:arrOf st'=arrOf st
 pend:Ax st'=Ax st
 fail:Jt st'=Jt st
theorem Kept.refl(st:Bj):Kept st st:=⟨rfl,rfl,rfl,rfl⟩
theorem Kept.trans{a b c:Bj}(h:Kept a b)(k:Kept b c):Kept a c:=⟨k.kind.trans h.kind,k.arr.trans h.arr,k.pend.trans h.pend,k.fail.trans h.fail⟩
theorem gB(C:Cmp prog w A s kd Ok blt){st:Bj}{x y:Keyed}{Q:Option Bool->Bj->Prop}(hk:kindOf st=kd)(ox:Ok x)(oy:Ok y)(h:Q (some (blt x y)) st):wpS (model prog w) A E s (lt' x y) Q st:=by
 rw[lt'_eq]
 refine Ar (Ld ?_)
 rw[hk]
 exact Ar (wpS_lift (wpAny_attempt (C.run x y _ _ ox oy ⟨rfl,Ay h⟩)))
theorem Ey{st:Bj}{xs:Array Keyed}{i:Nat}{p:Keyed}{Q:Keyed->Bj->Prop}(h:xs[i]? = some p)(q:Q p st):wpS (model prog w) A E s (elem' xs i) Q st:=by
 rw[elem'_eq,h]
 exact Ay q
def Qe(left:Bool)(key:Keyed)(arr:Array Keyed)(base i:Nat):StateT Bj Sem (Option Bool):=do
 let x <- elem' arr (base+i)
 if left then lt' x key else return (<- lt' key x).map (!·)
def kB(left:Bool)(key:Keyed)(arr:Array Keyed)(base n lo0 hi0:Nat):StateT Bj Sem (Option Nat):=do
 let mut lo:=lo0
 let mut hi:=hi0
 for _ in [0:n] do
  if lo ≥ hi then break
  let mid:=lo+(hi - lo) / 2
  let some up <- Qe left key arr base mid | return none
  if up then lo:=mid+1 else hi:=mid
 return some hi
theorem gL(left:Bool)(key:Keyed)(arr:Array Keyed)(base n hint:Nat):Ql left key arr base n hint=(do
  let some right <- Qe left key arr base hint | return none
  let mut last:=0
  let mut ofs:=1
  if right then
   let top:=n - hint
   for _ in [0:n] do
    if ofs ≥ top then break
    let some up <- Qe left key arr base (hint+ofs) | return none
    if !up then break
    last:=ofs
    ofs:=2 * ofs+1
   kB left key arr base n (hint+last+1) (hint+min ofs top)
  else
   let top:=hint+1
   for _ in [0:n] do
    if ofs ≥ top then break
    let some got <- Qe left key arr base (hint - ofs) | return none
    if got then break
    last:=ofs
    ofs:=2 * ofs+1
   kB left key arr base n (hint+1 - min ofs top) (hint - last)):=rfl
def Fv(blt:Keyed->Keyed->Bool)(left:Bool)(key x:Keyed):Bool:=if left then blt x key else !blt key x
structure Row(Ok:Keyed->Prop)(arr:Array Keyed)(base n:Nat)(el:Nat->Keyed):Prop where
 at_:∀i,i<n->arr[base+i]? = some (el i)
 ok:∀i,i<n->Ok (el i)
theorem Qb(C:Cmp prog w A s kd Ok blt){st:Bj}{left:Bool}{key:Keyed}{arr:Array Keyed}{base n i:Nat}{el:Nat->Keyed}(R:Row Ok arr base n el)(ok:Ok key)(hk:kindOf st=kd)(hi:i<n){Q:Option Bool->Bj->Prop}(h:Q (some (Fv blt left key (el i))) st):wpS (model prog w) A E s (Qe left key arr base i) Q st:=by
 unfold Qe
 refine Ar (Ey (R.at_ i hi) ?_)
 cases left with
 | true =>
  rw[if_pos rfl]
  exact gB C hk (R.ok i hi) ok h
 | false =>
  rw[if_neg Bx]
  exact Ar (gB C hk ok (R.ok i hi) (Ay h))
theorem lZ(C:Cmp prog w A s kd Ok blt){st:Bj}{left:Bool}{key:Keyed}{arr:Array Keyed}{base n lo hi:Nat}{el:Nat->Keyed}(R:Row Ok arr base n el)(ok:Ok key)(hk:kindOf st=kd)(mono:∀i j,i<=j->j<n->Fv blt left key (el j)=true->Fv blt left key (el i)=true)(h1:lo<=hi)(h2:hi<=n)(t1:∀i,i<lo->Fv blt left key (el i)=true)(t2:∀i,hi<=i->i<n->Fv blt left key (el i)=false){Q:Option Nat->Bj->Prop}(h:∀k,k<=n->(∀i,i<k->Fv blt left key (el i)=true)->(∀i,k<=i->i<n->Fv blt left key (el i)=false)->Q (some k) st):wpS (model prog w) A E s (kB left key arr base n lo hi) Q st:=by
 unfold kB
 refine Ar (Gm (Ed (I:=λx c st'=>∃l r,c=(none,l,r)/\st'=st/\l<=r/\r<=n/\r - l+x<=n/\(∀i,i<l->Fv blt left key (el i)=true)/\(∀i,r<=i->i<n->Fv blt left key (el i)=false))
  (Q:=λc st'=>∃r,c=(none,r,r)/\st'=st/\r<=n/\(∀i,i<r->Fv blt left key (el i)=true)/\(∀i,r<=i->i<n->Fv blt left key (el i)=false)) ?_ ?_ ⟨lo,hi,rfl,rfl,h1,h2,by omega,t1,t2⟩) ?_)
 ·(intro x c st' _ hx q_; obtain ⟨l,r,rfl,rfl,a1,a2,a3,b1,b2⟩ := q_)
  dsimp only
  by_cases hlr:l ≥ r
  ·rw[if_pos hlr]
   have e:l=r:=by omega
   subst e
   exact Ay ⟨l,rfl,rfl,a2,b1,b2⟩
  ·rw[if_neg hlr]
   have hm:l+(r - l) / 2<n:=by omega
   refine Ar (Qb C R ok hk hm ?_)
   dsimp only
   cases hb:Fv blt left key (el (l+(r - l) / 2)) with
   | true =>
    rw[if_pos rfl]
    exact Ay ⟨l+(r - l) / 2+1,r,rfl,rfl,by omega,a2,by omega,λi hi=>mono i _ (by omega) hm hb,b2⟩
   | false =>
    rw[if_neg Bx]
    refine Ay ⟨l,l+(r - l) / 2,rfl,rfl,by omega,by omega,by omega,b1,λi hi hn=>?_⟩
    cases q:Fv blt left key (el i) with
    | false=>rfl
    | true=>rw[mono _ i hi hn q] at hb; cases hb
 ·(intro c st' q_; obtain ⟨l,r,rfl,rfl,a1,a2,a3,b1,b2⟩ := q_)
  have e:l=r:=by
   have : max 0 n=n:=by omega
   rw[this] at a3
   omega
  subst e
  exact ⟨l,rfl,rfl,a2,b1,b2⟩
 ·(intro c st' q_; obtain ⟨r,rfl,rfl,a2,b1,b2⟩ := q_)
  exact Ay (h r a2 b1 b2)
theorem Lo(C:Cmp prog w A s kd Ok blt){st:Bj}{left:Bool}{key:Keyed}{arr:Array Keyed}{base n hint:Nat}{el:Nat->Keyed}(R:Row Ok arr base n el)(ok:Ok key)(hk:kindOf st=kd)(hh:hint<n)(mono:∀i j,i<=j->j<n->Fv blt left key (el j)=true->Fv blt left key (el i)=true){Q:Option Nat->Bj->Prop}(h:∀k,k<=n->(∀i,i<k->Fv blt left key (el i)=true)->(∀i,k<=i->i<n->Fv blt left key (el i)=false)->Q (some k) st):wpS (model prog w) A E s (Ql left key arr base n hint) Q st:=by
 have anti:∀i j,i<=j->j<n->Fv blt left key (el i)=false->Fv blt left key (el j)=false:=λi j hij hj q=>by
  cases z:Fv blt left key (el j) with
  | false=>rfl
  | true=>rw[mono i j hij hj z] at q; cases q
 rw[gL]
 refine Ar (Qb C R ok hk hh ?_)
 dsimp only
 cases hb:Fv blt left key (el hint) with
 | true =>
  rw[if_pos rfl]
  refine Ar (Gm (Ed (I:=λx c st'=>∃la o,c=(none,la,o)/\st'=st/\la<o/\x+1<=o/\hint+la<n/\Fv blt left key (el (hint+la))=true)
   (Q:=λc st'=>∃la o,c=(none,la,o)/\st'=st/\la<o/\hint+la<n/\Fv blt left key (el (hint+la))=true/\(o ≥ n - hint\/(hint+o<n/\Fv blt left key (el (hint+o))=false))) ?_ ?_
   ⟨0,1,rfl,rfl,by omega,by omega,by omega,hb⟩) ?_)
  ·(intro x c st' _ hx q_; obtain ⟨la,o,rfl,rfl,a1,a2,a3,b1⟩ := q_)
   dsimp only
   by_cases ho:o ≥ n - hint
   ·rw[if_pos ho]
    exact Ay ⟨la,o,rfl,rfl,a1,a3,b1,.inl ho⟩
   ·rw[if_neg ho]
    have hm:hint+o<n:=by omega
    refine Ar (Qb C R ok hk hm ?_)
    dsimp only
    cases hb2:Fv blt left key (el (hint+o)) with
    | true =>
     simp only[Jx,Bd,if_false]
     exact Ay ⟨o,2 * o+1,rfl,rfl,by omega,by omega,hm,hb2⟩
    | false =>
     simp only[Bool.not_false,if_true]
     exact Ay ⟨la,o,rfl,rfl,a1,a3,b1,.inr ⟨hm,hb2⟩⟩
  ·(intro c st' q_; obtain ⟨la,o,rfl,rfl,a1,a2,a3,b1⟩ := q_)
   have : max 0 n=n:=by omega
   rw[this] at a2
   exact ⟨la,o,rfl,rfl,a1,a3,b1,.inl (by omega)⟩
  ·(intro c st' q_; obtain ⟨la,o,rfl,rfl,a1,a3,b1,b2⟩ := q_)
   dsimp only
   refine lZ C R ok hk mono (by omega) (by omega) (λi hi=>mono i _ (by omega) a3 b1) (λi hi hn=>?_) h
   rcases b2 with b2 | ⟨b2,b3⟩
   ·exfalso; omega
   ·exact anti _ i (by omega) hn b3
 | false =>
  rw[if_neg Bx]
  refine Ar (Gm (Ed (I:=λx c st'=>∃la o,c=(none,la,o)/\st'=st/\la<o/\x+1<=o/\la<=hint/\Fv blt left key (el (hint - la))=false)
   (Q:=λc st'=>∃la o,c=(none,la,o)/\st'=st/\la<o/\la<=hint/\Fv blt left key (el (hint - la))=false/\(o ≥ hint+1\/(o<=hint/\Fv blt left key (el (hint - o))=true))) ?_ ?_
   ⟨0,1,rfl,rfl,by omega,by omega,by omega,hb⟩) ?_)
  ·(intro x c st' _ hx q_; obtain ⟨la,o,rfl,rfl,a1,a2,a3,b1⟩ := q_)
   dsimp only
   by_cases ho:o ≥ hint+1
   ·rw[if_pos ho]
    exact Ay ⟨la,o,rfl,rfl,a1,a3,b1,.inl ho⟩
   ·rw[if_neg ho]
    have hm:hint - o<n:=by omega
    refine Ar (Qb C R ok hk hm ?_)
    dsimp only
    cases hb2:Fv blt left key (el (hint - o)) with
    | true =>
     rw[if_pos rfl]
     exact Ay ⟨la,o,rfl,rfl,a1,a3,b1,.inr ⟨by omega,hb2⟩⟩
    | false =>
     rw[if_neg Bx]
     exact Ay ⟨o,2 * o+1,rfl,rfl,by omega,by omega,by omega,hb2⟩
  ·(intro c st' q_; obtain ⟨la,o,rfl,rfl,a1,a2,a3,b1⟩ := q_)
   have : max 0 n=n:=by omega
   rw[this] at a2
   exact ⟨la,o,rfl,rfl,a1,a3,b1,.inl (by omega)⟩
  ·(intro c st' q_; obtain ⟨la,o,rfl,rfl,a1,a3,b1,b2⟩ := q_)
   dsimp only
   refine lZ C R ok hk mono (by omega) (by omega) (λi hi=>?_) (λi hi hn=>anti _ i hi hn b1) h
   rcases b2 with b2 | ⟨b2,b3⟩
   ·exfalso; omega
   ·exact mono i _ (by omega) (by omega) b3
end
structure MI{α:Type}(R:α->α->Prop)(xs ys out:List α)(i j:Nat):Prop where
 perm:out.Perm (xs.take i++ys.take j)
 srt:out.Pairwise R
 lx:∀o∈out,∀z∈xs.drop i,R o z
 ly:∀o∈out,∀z∈ys.drop j,R o z
section
variable{α:Type}{R:α->α->Prop}{xs ys out:List α}{i j:Nat}
theorem aG{l:List α}{n:Nat}{a:α}(h:l[n]? = some a):l.drop n=a::l.drop (n+1):=by
 obtain ⟨hn,e⟩:=Aq.mp h
 rw[Nt hn,e]
theorem take_snoc{l:List α}{n:Nat}{a:α}(h:l[n]? = some a):l.take (n+1)=l.take n++[a]:=by
 rw[List.take_succ,h]; rfl
theorem MI.pushY(M:MI R xs ys out i j)(sy:ys.Pairwise R){y:α}(hy:ys[j]? = some y)(hx:∀z∈xs.drop i,R y z):MI R xs ys (out++[y]) i (j+1):=by
 have dy:=aG hy
 have sd:(y::ys.drop (j+1)).Pairwise R:=by rw[<- dy]; exact Hm (Hd _ _) sy
 obtain ⟨s1,s2⟩:=Bn.mp sd
 refine ⟨?_,?_,λo ho z hz=>?_,λo ho z hz=>?_⟩
 ·rw[take_snoc hy,<- Bg]
  exact M.perm.append_right _
 ·refine Ck.mpr ⟨M.srt,Eh _ _,λo ho z hz=>?_⟩
  have e:z=y:=by simpa using hz
  rw[e]
  exact M.ly o ho y (by rw[dy]; exact Aa)
 ·rcases Au.mp ho with ho | ho
  ·exact M.lx o ho z hz
  ·have e:o=y:=by simpa using ho
   rw[e]; exact hx z hz
 ·rcases Au.mp ho with ho | ho
  ·exact M.ly o ho z (by rw[dy]; exact Ae _ hz)
  ·have e:o=y:=by simpa using ho
   rw[e]; exact s1 z hz
theorem MI.pushX(M:MI R xs ys out i j)(sx:xs.Pairwise R){x:α}(hx:xs[i]? = some x)(hy:∀z∈ys.drop j,R x z):MI R xs ys (out++[x]) (i+1) j:=by
 have dx:=aG hx
 have sd:(x::xs.drop (i+1)).Pairwise R:=by rw[<- dx]; exact Hm (Hd _ _) sx
 obtain ⟨s1,s2⟩:=Bn.mp sd
 refine ⟨?_,?_,λo ho z hz=>?_,λo ho z hz=>?_⟩
 ·rw[take_snoc hx]
  have p1:(out++[x]).Perm ((xs.take i++ys.take j)++[x]):=M.perm.append_right _
  refine p1.trans ?_
  rw[Bg,Bg]
  exact Hu _ Di
 ·refine Ck.mpr ⟨M.srt,Eh _ _,λo ho z hz=>?_⟩
  have e:z=x:=by simpa using hz
  rw[e]
  exact M.lx o ho x (by rw[dx]; exact Aa)
 ·rcases Au.mp ho with ho | ho
  ·exact M.lx o ho z (by rw[dx]; exact Ae _ hz)
  ·have e:o=x:=by simpa using ho
   rw[e]; exact s1 z hz
 ·rcases Au.mp ho with ho | ho
  ·exact M.ly o ho z hz
  ·have e:o=x:=by simpa using ho
   rw[e]; exact hy z hz
theorem Pm{l:List α}{n k:Nat}{a:α}(h:l[n+k]? = some a):(l.drop n).take (k+1)=(l.drop n).take k++[a]:=take_snoc (by rw[Vh]; exact h)
theorem MI.blockX(M:MI R xs ys out i j)(sx:xs.Pairwise R):∀k,i+k<=xs.length->(∀m,m<k->∀x,xs[i+m]? = some x->∀z∈ys.drop j,R x z)->MI R xs ys (out++(xs.drop i).take k) (i+k) j
 | 0,_,_=>by simpa using M
 | k+1,hk,h=>by
  have ih:=MI.blockX M sx k (by omega) λm hm=>h m (by omega)
  obtain ⟨x,hx⟩ : ∃x,xs[i+k]? = some x:=⟨xs[i+k],by simp⟩
  rw[Pm hx,<- Bg]
  exact ih.pushX sx hx (h k (by omega) x hx)
theorem MI.blockY(M:MI R xs ys out i j)(sy:ys.Pairwise R):∀k,j+k<=ys.length->(∀m,m<k->∀y,ys[j+m]? = some y->∀z∈xs.drop i,R y z)->MI R xs ys (out++(ys.drop j).take k) i (j+k)
 | 0,_,_=>by simpa using M
 | k+1,hk,h=>by
  have ih:=MI.blockY M sy k (by omega) λm hm=>h m (by omega)
  obtain ⟨y,hy⟩ : ∃y,ys[j+k]? = some y:=⟨ys[j+k],by simp⟩
  rw[Pm hy,<- Bg]
  exact ih.pushY sy hy (h k (by omega) y hy)
theorem MI.endX(M:MI R xs ys out i j)(sx:xs.Pairwise R)(hj:ys.length<=j):(out++xs.drop i++ys.drop j).Perm (xs++ys)/\(out++xs.drop i++ys.drop j).Pairwise R:=by
 rw[List.drop_eq_nil_of_le hj,Ec]
 constructor
 ·have p1:(out++xs.drop i).Perm ((xs.take i++ys.take j)++xs.drop i):=M.perm.append_right _
  refine p1.trans ?_
  rw[Hx hj]
  have p2:(xs.take i++ys++xs.drop i).Perm (xs.take i++(xs.drop i++ys)):=by
   rw[Bg]
   exact Hu _ Di
  refine p2.trans ?_
  rw[<- Bg,Fg]
 ·exact Ck.mpr ⟨M.srt,Hm (Hd _ _) sx,M.lx⟩
theorem MI.endYX(M:MI R xs ys out i j)(sx:xs.Pairwise R)(sy:ys.Pairwise R)(h:∀y∈ys.drop j,∀x∈xs.drop i,R y x):(out++ys.drop j++xs.drop i).Perm (xs++ys)/\(out++ys.drop j++xs.drop i).Pairwise R:=by
 constructor
 ·have p1:(out++(ys.drop j++xs.drop i)).Perm ((xs.take i++ys.take j)++(ys.drop j++xs.drop i)):=M.perm.append_right _
  rw[Bg]
  refine p1.trans ?_
  rw[Bg,<- Bg (ys.take j),Fg]
  have p2:(xs.take i++(ys++xs.drop i)).Perm (xs.take i++(xs.drop i++ys)):=Hu _ Di
  refine p2.trans ?_
  rw[<- Bg,Fg]
 ·refine Ck.mpr ⟨Ck.mpr ⟨M.srt,Hm (Hd _ _) sy,M.ly⟩,Hm (Hd _ _) sx,λa ha b hb=>?_⟩
  rcases Au.mp ha with ha | ha
  ·exact M.lx a ha b hb
  ·exact h a ha b hb
end
def fQ:Array Keyed->Array Keyed->StateT Bj Sem (Array Keyed):=sortPriv% PySem.Builtin.mergeLo
def Wn:Nat->StateT Bj Sem Unit:=sortPriv% PySem.Builtin.setMinGallop
abbrev q8(st:Bj)(g:Nat):Bj:=Tv (kindOf st) (arrOf st) (Ax st) g (Jt st)
theorem iT(g:Nat):Wn g=modify λst=>q8 st g:=rfl
theorem Wx(p:Array Keyed)(i:Nat):(p.extract i p.size).toList=p.toList.drop i:=by
 rw[Li,Jn,Hx]
 rw[Pb,Aj]
 exact Ah _
theorem Tg(p:Array Keyed)(i k:Nat):(p.extract i (i+k)).toList=(p.toList.drop i).take k:=by
 rw[Li,Jn,Nat.add_sub_cancel_left]
abbrev dn(p q out:Array Keyed)(i j:Nat):Array Keyed:=out++p.extract i p.size++q.extract j q.size
abbrev lst(p q out:Array Keyed)(i j:Nat):Array Keyed:=out++q.extract j q.size++p.extract i p.size
theorem vU(p q out:Array Keyed)(i j:Nat):(dn p q out i j).toList=out.toList++p.toList.drop i++q.toList.drop j:=by
 rw[Da,Da,Wx,Wx]
theorem pK(p q out:Array Keyed)(i j:Nat):(lst p q out i j).toList=out.toList++q.toList.drop j++p.toList.drop i:=by
 rw[Da,Da,Wx,Wx]
abbrev vP:=Option (Array Keyed)×Array Keyed×Nat×Nat×Nat×Nat×Nat
def wJ(p q out:Array Keyed)(i j g ac k:Nat):StateT Bj Sem (ForInStep vP):=do
 let x <- elem' p i
 if (i+1+1 == p.size)=true then pure (Ce (some (lst p q (out.push x) (i+1) j),out.push x,i+1,j,g,ac,k))
 else if (decide (ac<7) && decide (k<7))=true then pure (Ce (none,out.push x,i+1,j,g,ac,k))
 else pure (Fb (none,out.push x,i+1,j,g,ac,k))
def wW(p q out:Array Keyed)(i j g ac bc:Nat):StateT Bj Sem (ForInStep vP):=do
 let y <- elem' q j
 if (j+1 == q.size)=true then pure (Ce (some (dn p q (out.push y) i (j+1)),out.push y,i,j+1,g,ac,bc))
 else do
  let x <- elem' p i
  let some k <- Ql true x q (j+1) (q.size - (j+1)) 0 | pure (Ce (some (dn p q (out.push y) i (j+1)),out.push y,i,j+1,g,ac,bc))
  if k > 0 then
   if (j+1+k == q.size)=true then pure (Ce (some (dn p q (out.push y++q.extract (j+1) (j+1+k)) i (j+1+k)),out.push y++q.extract (j+1) (j+1+k),i,j+1+k,g,ac,k))
   else wJ p q (out.push y++q.extract (j+1) (j+1+k)) i (j+1+k) g ac k
  else wJ p q (out.push y) i (j+1) g ac k
def n9(p q out:Array Keyed)(i j g ac bc:Nat):StateT Bj Sem (ForInStep vP):=do
 Wn g
 let y <- elem' q j
 let some k <- Ql false y p i (p.size - i) 0 | pure (Ce (some (dn p q out i j),out,i,j,g,ac,bc))
 if k > 0 then
  if (i+k+1 == p.size)=true then pure (Ce (some (lst p q (out++p.extract i (i+k)) (i+k) j),out++p.extract i (i+k),i+k,j,g,k,bc))
  else if (i+k == p.size)=true then pure (Ce (some (dn p q (out++p.extract i (i+k)) (i+k) j),out++p.extract i (i+k),i+k,j,g,k,bc))
  else wW p q (out++p.extract i (i+k)) (i+k) j g k bc
 else wW p q out i j g k bc
section
variable{prog:Bm}{w:World}{A:Cr}{s:Ai}{kd:Jw}{Ok:Keyed->Prop}{blt:Keyed->Keyed->Bool}{E:Value->Ai->Prop}
theorem Qf{st:Bj}{x:String}{Q:Unit->Bj->Prop}(h:Q () st):wpS (model prog w) A E s (liftM (rule x):StateT Bj Sem Unit) Q st:=wpS_lift (wpAny_rule ⟨rfl,h⟩)
theorem Qk{st:Bj}{g:Nat}{Q:Unit->Bj->Prop}(h:∀st',Kept st st'->Q () st'):wpS (model prog w) A E s (Wn g) Q st:=by
 rw[iT]
 exact Il (h _ ⟨rfl,rfl,rfl,rfl⟩)
structure Two(Ok:Keyed->Prop)(blt:Keyed->Keyed->Bool)(p q:Array Keyed)(x0 y0 xl:Keyed):Prop where
 op:∀x∈p.toList,Ok x
 oq:∀x∈q.toList,Ok x
 sp:p.toList.Pairwise (le blt)
 sq:q.toList.Pairwise (le blt)
 hx0:p[0]? = some x0
 hy0:q[0]? = some y0
 hxl:p[p.size - 1]? = some xl
 first:blt y0 x0=true
 last:∀y∈q.toList,blt y xl=true
abbrev gS(blt:Keyed->Keyed->Bool)(p q r:Array Keyed):Prop:=r.toList.Perm (p.toList++q.toList)/\r.toList.Pairwise (le blt)
theorem Du{p:Array Keyed}{i:Nat}{x:Keyed}(h:p[i]? = some x):p.toList[i]? = some x:=by simpa using h
theorem Fc{p:Array Keyed}{i:Nat}(h:i<p.size):∃x,p[i]? = some x:=⟨p[i],by simp [h]⟩
theorem Ij{p:Array Keyed}{i:Nat}{x:Keyed}(h:p[i]? = some x):x∈p.toList:=Az (Du h)
theorem dN{α:Type}{l:List α}{i:Nat}{z:α}(h:z∈l.drop i):∃k,l[i+k]? = some z:=by
 obtain ⟨k,hk,e⟩:=Fp.mp h
 exact ⟨k,by rw[<- Vh,Cf hk,e]⟩
theorem Js(C:Cmp prog w A s kd Ok blt){l:List Keyed}(sl:l.Pairwise (le blt)){i j:Nat}{x y:Keyed}(hij:i<=j)(hx:l[i]? = some x)(hy:l[j]? = some y):le blt x y:=by
 by_cases e:i=j
 ·subst e
  rw[hx] at hy
  cases hy
  exact C.refl x
 ·obtain ⟨hi,ex⟩:=Aq.mp hx
  obtain ⟨hj,ey⟩:=Aq.mp hy
  have:=Dc.mp sl i j hi hj (by omega)
  rw[ex,ey] at this
  exact this
theorem Mg(C:Cmp prog w A s kd Ok blt){l:List Keyed}(sl:l.Pairwise (le blt)){i:Nat}{x y:Keyed}(hx:l[i]? = some x)(h:le blt y x):∀z∈l.drop i,le blt y z:=λz hz=>by
 obtain ⟨k,hk⟩:=dN hz
 exact C.trans h (Js C sl (Ph i k) hx hk)
abbrev LI(blt:Keyed->Keyed->Bool)(p q out:Array Keyed)(i j:Nat):Prop:=MI (le blt) p.toList q.toList out.toList i j
theorem Ln(out:Array Keyed)(x:Keyed):(out.push x).toList=out.toList++[x]:=by simp
theorem Two.last_end(C:Cmp prog w A s kd Ok blt){p q out:Array Keyed}{x0 y0 xl:Keyed}(T:Two Ok blt p q x0 y0 xl){i j:Nat}(M:LI blt p q out i j)(hi:i+1=p.size):gS blt p q (lst p q out i j):=by
 have h:=M.endYX T.sp T.sq (λy hy x hx=>?_)
 ·rw[<- pK] at h
  exact h
 ·obtain ⟨k,hk⟩:=dN hx
  have : k=0:=by
   have:=(Aq.mp hk).1
   rw[Aj] at this
   omega
  subst this
  have e:x=xl:=by
   have:=Du T.hxl
   rw[show p.size - 1=i+0 by omega,hk] at this
   exact Bt this
  rw[e]
  exact C.ofLt (T.last y (Sd hy))
theorem Two.done_end{p q out:Array Keyed}{x0 y0 xl:Keyed}(T:Two Ok blt p q x0 y0 xl){i j:Nat}(M:LI blt p q out i j)(hj:q.size<=j):gS blt p q (dn p q out i j):=by
 have h:=M.endX T.sp (by rw[Aj]; exact hj)
 rw[<- vU] at h
 exact h
def K6(blt:Keyed->Keyed->Bool)(p q:Array Keyed)(st:Bj)(n:Nat)(r:ForInStep vP)(st':Bj):Prop:=Kept st st'/\match r with
 | .done (some r,_)=>gS blt p q r
 | .done (none,out,i,j,_)=>LI blt p q out i j/\i+1<p.size/\j<q.size/\n<i+j
 | .yield (none,out,i,j,_)=>LI blt p q out i j/\i+1<p.size/\j<q.size/\n<i+j
 | .yield (some _,_)=>False
theorem kC(C:Cmp prog w A s kd Ok blt){p q out:Array Keyed}{x0 y0 xl:Keyed}(T:Two Ok blt p q x0 y0 xl){i j g ac k n:Nat}{st0 st:Bj}(kp:Kept st0 st)(M:LI blt p q out i j)(hi:i+1<p.size)(hj:j<q.size)(hn:n<=i+j){x:Keyed}(hx:p[i]? = some x)(hq:∀z∈q.toList.drop j,le blt x z):wpS (model prog w) A E s (wJ p q out i j g ac k) (K6 blt p q st0 n) st:=by
 unfold wJ
 refine Ar (Ey hx ?_)
 have M1:LI blt p q (out.push x) (i+1) j:=by
  have:=M.pushX T.sp (Du hx) hq
  rw[<- Ln] at this
  exact this
 by_cases h1:i+1+1=p.size
 ·rw[if_pos (by rw[h1]; exact beq_self_eq_true _)]
  exact Ay ⟨kp,T.last_end C M1 h1⟩
 ·rw[if_neg (λz=>h1 (Dg z))]
  by_cases h2:(decide (ac<7) && decide (k<7))=true
  ·rw[if_pos h2]
   exact Ay ⟨kp,M1,by omega,hj,by omega⟩
  ·rw[if_neg h2]
   exact Ay ⟨kp,M1,by omega,hj,by omega⟩
theorem kW(C:Cmp prog w A s kd Ok blt){p q out:Array Keyed}{x0 y0 xl:Keyed}(T:Two Ok blt p q x0 y0 xl){i j g ac bc n:Nat}{st0 st:Bj}(kp:Kept st0 st)(hk:kindOf st=kd)(M:LI blt p q out i j)(hi:i+1<p.size)(hj:j<q.size)(hn:n<=i+j){x y:Keyed}(hx:p[i]? = some x)(hy:q[j]? = some y)(hyx:blt y x=true):wpS (model prog w) A E s (wW p q out i j g ac bc) (K6 blt p q st0 n) st:=by
 unfold wW
 refine Ar (Ey hy ?_)
 have M1:LI blt p q (out.push y) i (j+1):=by
  have:=M.pushY T.sq (Du hy) (Mg C T.sp (Du hx) (C.ofLt hyx))
  rw[<- Ln] at this
  exact this
 by_cases h1:j+1=q.size
 ·rw[if_pos (by rw[h1]; exact beq_self_eq_true _)]
  exact Ay ⟨kp,T.done_end M1 (by omega)⟩
 ·rw[if_neg (λz=>h1 (Dg z))]
  refine Ar (Ey hx ?_)
  have R:Row Ok q (j+1) (q.size - (j+1)) (λm=>q.getD (j+1+m) y):=⟨λm hm=>?_,λm hm=>?_⟩
  ·refine Ar (Lo C R (T.op x (Ij hx)) hk (by omega) (λa b hab hb q1=>?_) λk hk1 t1 t2=>?_)
   ·obtain ⟨ya,ea⟩:=Fc (p:=q) (i:=j+1+a) (by omega)
    obtain ⟨yb,eb⟩:=Fc (p:=q) (i:=j+1+b) (by omega)
    have ga:q.getD (j+1+a) y=ya:=by simp [Cb,ea]
    have gb:q.getD (j+1+b) y=yb:=by simp [Cb,eb]
    simp only[ga,gb,Fv,if_true] at q1 ⊢
    exact C.leLt (Js C T.sq (by omega) (Du ea) (Du eb)) q1
   ·dsimp only
    have val:∀m yy,q[j+1+m]? = some yy->q.getD (j+1+m) y=yy:=λm yy e=>by simp [Cb,e]
    have M2:LI blt p q (out.push y++q.extract (j+1) (j+1+k)) i (j+1+k):=by
     have:=M1.blockY T.sq k (by rw[Aj]; omega) (λm hm yy ey=>by
      have ey':q[j+1+m]? = some yy:=by simpa using ey
      have:=t1 m hm
      rw[val m yy ey'] at this
      simp only[Fv,if_true] at this
      exact Mg C T.sp (Du hx) (C.ofLt this))
     rw[<- Tg,<- Da] at this
     exact this
    by_cases h2:k > 0
    ·rw[if_pos h2]
     by_cases h3:j+1+k=q.size
     ·rw[if_pos (by rw[h3]; exact beq_self_eq_true _)]
      exact Ay ⟨kp,T.done_end M2 (by omega)⟩
     ·rw[if_neg (λz=>h3 (Dg z))]
      obtain ⟨yk,ek⟩:=Fc (p:=q) (i:=j+1+k) (by omega)
      refine kC C T kp M2 hi (by omega) (by omega) hx (Mg C T.sq (Du ek) ?_)
      have:=t2 k (Ah _) (by omega)
      rw[val k yk ek] at this
      have z:blt yk x=false:=by simpa only [Fv,if_true] using this
      exact z
    ·rw[if_neg h2]
     have hk0:k=0:=by omega
     subst hk0
     obtain ⟨yk,ek⟩:=Fc (p:=q) (i:=j+1) (by omega)
     refine kC C T kp M1 hi (by omega) (by omega) hx (Mg C T.sq (Du ek) ?_)
     have:=t2 0 (Ah _) (by omega)
     rw[val 0 yk ek] at this
     have z:blt yk x=false:=by simpa only [Fv,if_true] using this
     exact z
  ·obtain ⟨ya,ea⟩:=Fc (p:=q) (i:=j+1+m) (by omega)
   rw[ea]
   simp [Cb,ea]
  ·obtain ⟨ya,ea⟩:=Fc (p:=q) (i:=j+1+m) (by omega)
   have : q.getD (j+1+m) y=ya:=by simp [Cb,ea]
   rw[this]
   exact T.oq ya (Ij ea)
theorem xV(C:Cmp prog w A s kd Ok blt){p q out:Array Keyed}{x0 y0 xl:Keyed}(T:Two Ok blt p q x0 y0 xl){i j g ac bc n:Nat}{st0 st:Bj}(kp:Kept st0 st)(hk:kindOf st=kd)(M:LI blt p q out i j)(hi:i+1<p.size)(hj:j<q.size)(hn:n<=i+j):wpS (model prog w) A E s (n9 p q out i j g ac bc) (K6 blt p q st0 n) st:=by
 unfold n9
 refine Ar (Qk λst1 kp1=>?_)
 have kp':=kp.trans kp1
 have hk':kindOf st1=kd:=kp1.kind.trans hk
 obtain ⟨y,hy⟩:=Fc (p:=q) hj
 refine Ar (Ey hy ?_)
 have val:∀m xx,p[i+m]? = some xx->p.getD (i+m) y=xx:=λm xx e=>by simp [Cb,e]
 have R:Row Ok p i (p.size - i) (λm=>p.getD (i+m) y):=⟨λm hm=>by
  obtain ⟨xa,ea⟩:=Fc (p:=p) (i:=i+m) (by omega)
  rw[val m xa ea,ea],λm hm=>by
  obtain ⟨xa,ea⟩:=Fc (p:=p) (i:=i+m) (by omega)
  show Ok (p.getD (i+m) y)
  rw[val m xa ea]
  exact T.op xa (Ij ea)⟩
 refine Ar (Lo C R (T.oq y (Ij hy)) hk' (by omega) (λa b hab hb q1=>?_) λk hk1 t1 t2=>?_)
 ·obtain ⟨xa,ea⟩:=Fc (p:=p) (i:=i+a) (by omega)
  obtain ⟨xb,eb⟩:=Fc (p:=p) (i:=i+b) (by omega)
  simp only[val a xa ea,val b xb eb,Fv,Bd,if_false,Iw] at q1 ⊢
  exact C.trans (Js C T.sp (by omega) (Du ea) (Du eb)) q1
 ·dsimp only
  -- the last one is beyond y: so k does not reach it
  have hkl:i+k+1<=p.size:=by
   rcases Nat.lt_or_ge (i+k) p.size with z | z
   ·omega
   ·exfalso
    have:=t1 (p.size - 1 - i) (by omega)
    have e:p[i+(p.size - 1 - i)]? = some xl:=by
     rw[show i+(p.size - 1 - i)=p.size - 1 by omega]
     exact T.hxl
    rw[val _ xl e] at this
    simp only[Fv,Bd,if_false,T.last y (Ij hy),Jx] at this
  have M1:LI blt p q (out++p.extract i (i+k)) (i+k) j:=by
   have:=M.blockX T.sp k (by rw[Aj]; omega) (λm hm xx ex=>by
    have ex':p[i+m]? = some xx:=by simpa using ex
    have:=t1 m hm
    rw[val m xx ex'] at this
    simp only[Fv,Bd,if_false,Iw] at this
    exact Mg C T.sq (Du hy) this)
   rw[<- Tg,<- Da] at this
   exact this
  obtain ⟨xk,ek⟩:=Fc (p:=p) (i:=i+k) (by omega)
  have hyx:blt y xk=true:=by
   have:=t2 k (Ah _) (by omega)
   rw[val k xk ek] at this
   simpa only [Fv,Bd,if_false,Vi] using this
  by_cases h2:k > 0
  ·rw[if_pos h2]
   by_cases h3:i+k+1=p.size
   ·rw[if_pos (by rw[h3]; exact beq_self_eq_true _)]
    exact Ay ⟨kp',T.last_end C M1 h3⟩
   ·rw[if_neg (λz=>h3 (Dg z)),if_neg (λz=>by have:=Dg z; omega)]
    exact kW C T kp' hk' M1 (by omega) hj (by omega) ek hy hyx
  ·rw[if_neg h2]
   have hk0:k=0:=by omega
   subst hk0
   exact kW C T kp' hk' M hi hj hn ek hy hyx
theorem gW(C:Cmp prog w A s kd Ok blt){p q:Array Keyed}{x0 y0 xl:Keyed}(T:Two Ok blt p q x0 y0 xl){st:Bj}(hk:kindOf st=kd){Q:Array Keyed->Bj->Prop}(h:∀r st',Kept st st'->gS blt p q r->Q r st'):wpS (model prog w) A E s (fQ p q) Q st:=by
 have p0:0<p.size:=by
  have:=(Gp.mp T.hx0).1
  exact this
 have q0:0<q.size:=by
  have:=(Gp.mp T.hy0).1
  exact this
 have M0:LI blt p q #[y0] 0 1:=by
  have m:LI blt p q #[] 0 0:=⟨by simp,by simp,λo ho=>by simp at ho,λo ho=>by simp at ho⟩
  have:=m.pushY T.sq (Du T.hy0) (Mg C T.sp (Du T.hx0) (C.ofLt T.first))
  simpa using this
 unfold fQ
 refine Ar (Qf ?_)
 refine Ar (Ey T.hy0 ?_)
 dsimp only
 by_cases h1:1=q.size
 ·rw[if_pos (by rw[<- h1]; rfl)]
  exact Ay (h _ _ (Kept.refl _) (T.done_end M0 (by omega)))
 rw[if_neg (λz=>h1 (Dg z))]
 by_cases h2:0+1=p.size
 ·rw[if_pos (by rw[<- h2]; rfl)]
  exact Ay (h _ _ (Kept.refl _) (T.last_end C M0 (by omega)))
 rw[if_neg (λz=>h2 (Dg z))]
 refine Ar (Ld ?_)
 refine Ar (Gm (Ed
  (I:=λx c st'=>Kept st st'/\∃out i j g,c=(none,out,i,j,g)/\LI blt p q out i j/\i+1<p.size/\j<q.size/\x+1<=i+j)
  (Q:=λc st'=>Kept st st'/\∃r Ex,c=(some r,Ex)/\gS blt p q r) ?_ ?_ ⟨Kept.refl _,_,0,1,_,rfl,M0,by omega,by omega,by omega⟩) ?_)
 ·(intro x c st1 _ hx q_; obtain ⟨kp1,out,i,j,g,rfl,M,hi,hj,hn⟩ := q_)
  dsimp only
  -- one by one
  refine Ar (Gm (Ed
   (I:=λ_ c st'=>st'=st1/\∃out i j ac bc,c=(none,out,i,j,ac,bc)/\LI blt p q out i j/\i+1<p.size/\j<q.size/\x+1<=i+j)
   (Q:=λc st'=>st'=st1/\((∃r Ex,c=(some r,Ex)/\gS blt p q r)\/∃out i j ac bc,c=(none,out,i,j,ac,bc)/\LI blt p q out i j/\i+1<p.size/\j<q.size/\x+1<=i+j)) ?_ ?_ ⟨rfl,out,i,j,0,0,rfl,M,hi,hj,hn⟩) ?_)
  ·(intro z c st2 _ hz q_; obtain ⟨rfl,out,i,j,ac,bc,rfl,M,hi,hj,hn⟩ := q_)
   dsimp only
   obtain ⟨yy,hy⟩:=Fc (p:=q) hj
   obtain ⟨xx,hx⟩:=Fc (p:=p) (i:=i) (by omega)
   refine Ar (Ey hy ?_)
   refine Ar (Ey hx ?_)
   refine Ar (gB C (kp1.kind.trans hk) (T.oq yy (Ij hy)) (T.op xx (Ij hx)) ?_)
   dsimp only
   cases hb:blt yy xx with
   | true =>
    rw[if_pos rfl]
    refine Ar (Ey hy ?_)
    have M1:LI blt p q (out.push yy) i (j+1):=by
     have:=M.pushY T.sq (Du hy) (Mg C T.sp (Du hx) (C.ofLt hb))
     rw[<- Ln] at this
     exact this
    by_cases e1:j+1=q.size
    ·rw[if_pos (by rw[e1]; exact beq_self_eq_true _)]
     exact Ay ⟨rfl,.inl ⟨_,_,rfl,T.done_end M1 (by omega)⟩⟩
    ·rw[if_neg (λz=>e1 (Dg z))]
     split
     ·exact Ay ⟨rfl,.inr ⟨_,_,_,_,_,rfl,M1,hi,by omega,by omega⟩⟩
     ·exact Ay ⟨rfl,_,_,_,_,_,rfl,M1,hi,by omega,by omega⟩
   | false =>
    rw[if_neg Bx]
    refine Ar (Ey hx ?_)
    have M1:LI blt p q (out.push xx) (i+1) j:=by
     have:=M.pushX T.sp (Du hx) (Mg C T.sq (Du hy) hb)
     rw[<- Ln] at this
     exact this
    by_cases e1:i+1+1=p.size
    ·rw[if_pos (by rw[e1]; exact beq_self_eq_true _)]
     exact Ay ⟨rfl,.inl ⟨_,_,rfl,T.last_end C M1 (by omega)⟩⟩
    ·rw[if_neg (λz=>e1 (Dg z))]
     split
     ·exact Ay ⟨rfl,.inr ⟨_,_,_,_,_,rfl,M1,by omega,hj,by omega⟩⟩
     ·exact Ay ⟨rfl,_,_,_,_,_,rfl,M1,by omega,hj,by omega⟩
  ·(intro c st2 q_; obtain ⟨rfl,out,i,j,ac,bc,rfl,M⟩ := q_)
   exact ⟨rfl,.inr ⟨out,i,j,ac,bc,rfl,M⟩⟩
  ·rintro c st2 ⟨rfl,hc⟩
   rcases hc with hc | hc
   ·obtain ⟨r,Ex,rfl,hr⟩:=hc
    exact Ay ⟨kp1,r,_,rfl,hr⟩
   ·obtain ⟨out,i,j,ac,bc,rfl,M,hi,hj,hn⟩:=hc
    dsimp only
    refine Ar (Qf ?_)
    -- the gallop
    refine Ar (Gm (Ed
     (I:=λy c st'=>Kept st st'/\∃out i j g ac bc,c=(none,out,i,j,g,ac,bc)/\LI blt p q out i j/\i+1<p.size/\j<q.size/\(if y=0 then x+1<=i+j else x+2<=i+j))
     (Q:=λc st'=>Kept st st'/\((∃r Ex,c=(some r,Ex)/\gS blt p q r)\/∃out i j g ac bc,c=(none,out,i,j,g,ac,bc)/\LI blt p q out i j/\i+1<p.size/\j<q.size/\x+2<=i+j)) ?_ ?_
     ⟨kp1,out,i,j,_,ac,bc,rfl,M,hi,hj,by rw[if_pos rfl]; exact hn⟩) ?_)
    ·(intro y c Oz _ hy q_; obtain ⟨kp3,out,i,j,g,ac,bc,rfl,M,hi,hj,hn⟩ := q_)
     have hn':x+1<=i+j:=by split at hn <;> omega
     have key:∀g',wpS (model prog w) A E s (n9 p q out i j g' ac bc) (K6 blt p q st (x+1)) Oz:=λg'=>xV C T kp3 (kp3.kind.trans hk) M hi hj hn'
     dsimp only
     refine Gm (?_:wpS (model prog w) A E s _ (K6 blt p q st (x+1)) Oz) λr st4 hr=>?_
     ·by_cases hg:g > 1
      ·rw[if_pos hg]
       exact key _
      ·rw[if_neg hg]
       exact key _
     ·obtain ⟨kp4,hr⟩:=hr
      match r,hr with
      | .done (some r,Ex),hr=>exact ⟨kp4,.inl ⟨r,Ex,rfl,hr⟩⟩
      | .done (none,out,i,j,g,ac,bc),hr=>exact ⟨kp4,.inr ⟨out,i,j,g,ac,bc,rfl,hr.1,hr.2.1,hr.2.2.1,by have:=hr.2.2.2; omega⟩⟩
      | .yield (none,out,i,j,g,ac,bc),hr=>exact ⟨kp4,out,i,j,g,ac,bc,rfl,hr.1,hr.2.1,hr.2.2.1,by rw[if_neg (by omega)]; have:=hr.2.2.2; omega⟩
    ·(intro c Oz q_; obtain ⟨kp3,out,i,j,g,ac,bc,rfl,M,hi,hj,hn⟩ := q_)
     rw[if_neg (by omega)] at hn
     exact ⟨kp3,.inr ⟨out,i,j,g,ac,bc,rfl,M,hi,hj,hn⟩⟩
    ·rintro c Oz ⟨kp3,hc⟩
     rcases hc with hc | hc
     ·obtain ⟨r,Ex,rfl,hr⟩:=hc
      exact Ay ⟨kp3,r,_,rfl,hr⟩
     ·obtain ⟨out,i,j,g,ac,bc,rfl,M,hi,hj,hn⟩:=hc
      dsimp only
      refine Ar (Qk λst4 kp4=>?_)
      exact Ay ⟨kp3.trans kp4,out,i,j,_,rfl,M,hi,hj,by omega⟩
 ·(intro c st1 q_; obtain ⟨kp1,out,i,j,g,rfl,M,hi,hj,hn⟩ := q_)
  exfalso
  have : max 0 (p.size+q.size)=p.size+q.size:=by omega
  rw[this] at hn
  omega
 ·(intro c st1 q_; obtain ⟨kp1,r,Ex,rfl,hr⟩ := q_)
  exact Ay (h r st1 kp1 hr)
end
def eG:Array Keyed->Array Keyed->StateT Bj Sem (Array Keyed):=sortPriv% PySem.Builtin.mergeHi
abbrev t9(p q out:Array Keyed)(m n:Nat):Array Keyed:=p.extract 0 m++q.extract 0 n++out.reverse
abbrev P9(p q out:Array Keyed)(m n:Nat):Array Keyed:=q.extract 0 n++p.extract 0 m++out.reverse
abbrev xW:=Option (Array Keyed)×Nat×Nat×Array Keyed×Nat×Nat×Nat
def xM(p q out:Array Keyed)(m n g ac k:Nat):StateT Bj Sem (ForInStep xW):=do
 let x <- elem' p (m - 1)
 if (m - 1 == 0)=true then pure (Ce (some (t9 p q (out.push x) (m - 1) n),m - 1,n,out.push x,g,ac,k))
 else if (decide (ac<7) && decide (k<7))=true then pure (Ce (none,m - 1,n,out.push x,g,ac,k))
 else pure (Fb (none,m - 1,n,out.push x,g,ac,k))
def vN(p q out:Array Keyed)(m n g ac bc:Nat):StateT Bj Sem (ForInStep xW):=do
 let y <- elem' q (n - 1)
 if (n - 1 == 1)=true then pure (Ce (some (P9 p q (out.push y) m (n - 1)),m,n - 1,out.push y,g,ac,bc))
 else do
  let x <- elem' p (m - 1)
  let some t <- Ql true x q 0 (n - 1) (n - 1 - 1) | pure (Ce (some (t9 p q (out.push y) m (n - 1)),m,n - 1,out.push y,g,ac,bc))
  if n - 1 - t > 0 then
   if (t == 1)=true then pure (Ce (some (P9 p q (out.push y++(q.extract t (n - 1)).reverse) m t),m,t,out.push y++(q.extract t (n - 1)).reverse,g,ac,n - 1 - t))
   else if (t == 0)=true then pure (Ce (some (t9 p q (out.push y++(q.extract t (n - 1)).reverse) m t),m,t,out.push y++(q.extract t (n - 1)).reverse,g,ac,n - 1 - t))
   else xM p q (out.push y++(q.extract t (n - 1)).reverse) m t g ac (n - 1 - t)
  else xM p q (out.push y) m (n - 1) g ac (n - 1 - t)
def zZ(p q out:Array Keyed)(m n g ac bc:Nat):StateT Bj Sem (ForInStep xW):=do
 Wn g
 let y <- elem' q (n - 1)
 let some t <- Ql false y p 0 m (m - 1) | pure (Ce (some (t9 p q out m n),m,n,out,g,ac,bc))
 if m - t > 0 then
  if (t == 0)=true then pure (Ce (some (t9 p q (out++(p.extract t m).reverse) t n),t,n,out++(p.extract t m).reverse,g,m - t,bc))
  else vN p q (out++(p.extract t m).reverse) t n g (m - t) bc
 else vN p q out m n g (m - t) bc
section
variable{α:Type}{R:α->α->Prop}{xs ys out:List α}{i j:Nat}
theorem MI.swap(M:MI R xs ys out i j):MI R ys xs out j i:=⟨M.perm.trans Di,M.srt,M.ly,M.lx⟩
theorem MI.endXY(M:MI R xs ys out i j)(sx:xs.Pairwise R)(sy:ys.Pairwise R)(h:∀x∈xs.drop i,∀y∈ys.drop j,R x y):(out++xs.drop i++ys.drop j).Perm (xs++ys)/\(out++xs.drop i++ys.drop j).Pairwise R:=by
 have:=M.swap.endYX sy sx h
 exact ⟨this.1.trans Di,this.2⟩
end
abbrev ge(blt:Keyed->Keyed->Bool)(x y:Keyed):Prop:=le blt y x
abbrev HI(blt:Keyed->Keyed->Bool)(p q out:Array Keyed)(m n:Nat):Prop:=MI (ge blt) p.toList.reverse q.toList.reverse out.toList (p.size - m) (q.size - n)
theorem Ih(p:Array Keyed){m:Nat}(h:m<=p.size):p.toList.reverse.drop (p.size - m)=(p.toList.take m).reverse:=by
 rw[List.drop_reverse,Aj]
 congr 2
 omega
theorem tN{p:Array Keyed}{m:Nat}{x:Keyed}(h0:0<m)(h:m<=p.size)(e:p[m - 1]? = some x):p.toList.reverse[p.size - m]? = some x:=by
 rw[Qv (by rw[Aj]; omega),Aj,show p.size - 1 - (p.size - m)=m - 1 by omega]
 exact Du e
theorem xJ(p:Array Keyed)(m:Nat):(p.extract 0 m).toList=p.toList.take m:=by
 rw[Li,Jn,Se,Wz]
theorem F4(p:Array Keyed){t m:Nat}(h1:t<=m)(h2:m<=p.size):(p.extract t m).reverse.toList=(p.toList.reverse.drop (p.size - m)).take (m - t):=by
 rw[Ih p h2,List.take_reverse,Rf,Li,Jn,Do,Aj,List.drop_take]
 congr 2
 ·omega
 ·congr 1
  omega
section
variable{prog:Bm}{w:World}{A:Cr}{s:Ai}{kd:Jw}{Ok:Keyed->Prop}{blt:Keyed->Keyed->Bool}{E:Value->Ai->Prop}
theorem Ig{l:List Keyed}(h:l.Pairwise (le blt)):l.reverse.Pairwise (ge blt):=Qu.mpr h
theorem Two.dn_end{p q out:Array Keyed}{x0 y0 xl:Keyed}(T:Two Ok blt p q x0 y0 xl){m n:Nat}(M:HI blt p q out m n)(hm:m<=p.size)(hn:n<=q.size)(h:m=0\/n=0):gS blt p q (t9 p q out m n):=by
 have h1:=M.endYX (Ig T.sp) (Ig T.sq) (λy hy x hx=>by
  rw[Ih p hm] at hx
  rw[Ih q hn] at hy
  rcases h with h | h
  ·subst h; simp at hx
  ·subst h; simp at hy)
 rw[Ih p hm,Ih q hn] at h1
 have e:(t9 p q out m n).toList=(out.toList++(q.toList.take n).reverse++(p.toList.take m).reverse).reverse:=by
  rw[Da,Da,xJ,xJ,Rf]
  simp
 refine ⟨?_,?_⟩
 ·rw[e]
  refine (Iq _).trans (h1.1.trans ?_)
  exact List.Perm.append (Iq _) (Iq _)
 ·rw[e]
  exact Qu.mpr h1.2
theorem Two.fs_end(C:Cmp prog w A s kd Ok blt){p q out:Array Keyed}{x0 y0 xl:Keyed}(T:Two Ok blt p q x0 y0 xl){m n:Nat}(M:HI blt p q out m n)(hm:m<=p.size)(hn:n=1)(hq:1<=q.size):gS blt p q (P9 p q out m n):=by
 subst hn
 have h1:=M.endXY (Ig T.sp) (Ig T.sq) (λx hx y hy=>by
  rw[Ih p hm] at hx
  rw[Ih q hq] at hy
  have ey:y=y0:=by
   have : y∈q.toList.take 1:=Pa.mp hy
   obtain ⟨k,hk,e⟩:=Fp.mp this
   have hk0:k=0:=by
    rw[Do] at hk
    omega
   subst hk0
   have e2:q.toList[0]? = some y:=by
    rw[<- e,<- Cf hk,Hi (by omega)]
   rw[Du T.hy0] at e2
   exact (Bt e2).symm
  rw[ey]
  have hx':x∈p.toList:=List.mem_of_mem_take (Pa.mp hx)
  obtain ⟨k,hk,e⟩:=Fp.mp hx'
  have e2:p.toList[k]? = some x:=by rw[<- e,Cf hk]
  exact C.trans (C.ofLt T.first) (Js C T.sp (Cz k) (Du T.hx0) e2))
 rw[Ih p hm,Ih q hq] at h1
 have e:(P9 p q out m 1).toList=(out.toList++(p.toList.take m).reverse++(q.toList.take 1).reverse).reverse:=by
  rw[Da,Da,xJ,xJ,Rf]
  simp
 refine ⟨?_,?_⟩
 ·rw[e]
  refine (Iq _).trans (h1.1.trans ?_)
  exact List.Perm.append (Iq _) (Iq _)
 ·rw[e]
  exact Qu.mpr h1.2
theorem Qg(C:Cmp prog w A s kd Ok blt){p:Array Keyed}(sp:p.toList.Pairwise (le blt)){m:Nat}{x y:Keyed}(h0:0<m)(hm:m<=p.size)(hx:p[m - 1]? = some x)(h:le blt x y):∀z∈p.toList.reverse.drop (p.size - m),ge blt y z:=λz hz=>by
 rw[Ih p hm] at hz
 obtain ⟨k,hk,e⟩:=Fp.mp (Pa.mp hz)
 have e2:p.toList[k]? = some z:=by
  rw[Do] at hk
  rw[<- e,<- Cf (by rw[Do]; exact hk),Hi (by omega)]
 rw[Do] at hk
 exact C.trans (Js C sp (by omega) e2 (Du hx)) h
theorem HI.pushX(C:Cmp prog w A s kd Ok blt){p q out:Array Keyed}{x0 y0 xl:Keyed}(T:Two Ok blt p q x0 y0 xl){m n:Nat}(M:HI blt p q out m n)(h0:0<m)(hm:m<=p.size){x:Keyed}(hx:p[m - 1]? = some x)(h:∀z∈q.toList.reverse.drop (q.size - n),ge blt x z):HI blt p q (out.push x) (m - 1) n:=by
 have:=MI.pushX M (Ig T.sp) (tN h0 hm hx) h
 rw[<- Ln,show p.size - m+1=p.size - (m - 1) by omega] at this
 exact this
theorem HI.pushY(C:Cmp prog w A s kd Ok blt){p q out:Array Keyed}{x0 y0 xl:Keyed}(T:Two Ok blt p q x0 y0 xl){m n:Nat}(M:HI blt p q out m n)(h0:0<n)(hn:n<=q.size){y:Keyed}(hy:q[n - 1]? = some y)(h:∀z∈p.toList.reverse.drop (p.size - m),ge blt y z):HI blt p q (out.push y) m (n - 1):=by
 have:=MI.pushY M (Ig T.sq) (tN h0 hn hy) h
 rw[<- Ln,show q.size - n+1=q.size - (n - 1) by omega] at this
 exact this
def J6(blt:Keyed->Keyed->Bool)(p q:Array Keyed)(st:Bj)(b:Nat)(r:ForInStep xW)(st':Bj):Prop:=Kept st st'/\match r with
 | .done (some r,_)=>gS blt p q r
 | .done (none,m,n,out,_)=>HI blt p q out m n/\0<m/\m<=p.size/\1<n/\n<=q.size/\m+n<b
 | .yield (none,m,n,out,_)=>HI blt p q out m n/\0<m/\m<=p.size/\1<n/\n<=q.size/\m+n<b
 | .yield (some _,_)=>False
theorem jQ(C:Cmp prog w A s kd Ok blt){p q out:Array Keyed}{x0 y0 xl:Keyed}(T:Two Ok blt p q x0 y0 xl){m n g ac k b:Nat}{st0 st:Bj}(kp:Kept st0 st)(M:HI blt p q out m n)(m0:0<m)(hm:m<=p.size)(n0:1<n)(hn:n<=q.size)(hb:m+n<=b){x:Keyed}(hx:p[m - 1]? = some x)(hq:∀z∈q.toList.reverse.drop (q.size - n),ge blt x z):wpS (model prog w) A E s (xM p q out m n g ac k) (J6 blt p q st0 b) st:=by
 unfold xM
 refine Ar (Ey hx ?_)
 have M1:=HI.pushX C T M m0 hm hx hq
 by_cases h1:m - 1=0
 ·rw[if_pos (by rw[h1]; rfl)]
  exact Ay ⟨kp,T.dn_end M1 (by omega) hn (.inl h1)⟩
 ·rw[if_neg (λz=>h1 (Dg z))]
  by_cases h2:(decide (ac<7) && decide (k<7))=true
  ·rw[if_pos h2]
   exact Ay ⟨kp,M1,by omega,by omega,n0,hn,by omega⟩
  ·rw[if_neg h2]
   exact Ay ⟨kp,M1,by omega,by omega,n0,hn,by omega⟩
theorem jH(C:Cmp prog w A s kd Ok blt){p q out:Array Keyed}{x0 y0 xl:Keyed}(T:Two Ok blt p q x0 y0 xl){m n g ac bc b:Nat}{st0 st:Bj}(kp:Kept st0 st)(hk:kindOf st=kd)(M:HI blt p q out m n)(m0:0<m)(hm:m<=p.size)(n0:1<n)(hn:n<=q.size)(hb:m+n<=b){x y:Keyed}(hx:p[m - 1]? = some x)(hy:q[n - 1]? = some y)(hxy:le blt x y):wpS (model prog w) A E s (vN p q out m n g ac bc) (J6 blt p q st0 b) st:=by
 unfold vN
 refine Ar (Ey hy ?_)
 have M1:=HI.pushY C T M (by omega) hn hy (Qg C T.sp m0 hm hx hxy)
 by_cases h1:n - 1=1
 ·rw[if_pos (by rw[h1]; rfl)]
  exact Ay ⟨kp,T.fs_end C M1 hm h1 (by omega)⟩
 rw[if_neg (λz=>h1 (Dg z))]
 refine Ar (Ey hx ?_)
 have val:∀i yy,q[i]? = some yy->q.getD (0+i) y=yy:=λi yy e=>by rw[Hf]; simp [Cb,e]
 have R:Row Ok q 0 (n - 1) (λi=>q.getD (0+i) y):=⟨λi hi=>by
  obtain ⟨ya,ea⟩:=Fc (p:=q) (i:=i) (by omega)
  rw[val i ya ea,Hf,ea],λi hi=>by
  obtain ⟨ya,ea⟩:=Fc (p:=q) (i:=i) (by omega)
  show Ok (q.getD (0+i) y)
  rw[val i ya ea]
  exact T.oq ya (Ij ea)⟩
 refine Ar (Lo C R (T.op x (Ij hx)) hk (by omega) (λa c hab hc q1=>?_) λt ht t1 t2=>?_)
 ·obtain ⟨ya,ea⟩:=Fc (p:=q) (i:=a) (by omega)
  obtain ⟨yc,ec⟩:=Fc (p:=q) (i:=c) (by omega)
  simp only[val a ya ea,val c yc ec,Fv,if_true] at q1 ⊢
  exact C.leLt (Js C T.sq hab (Du ea) (Du ec)) q1
 dsimp only
 have M2:HI blt p q (out.push y++(q.extract t (n - 1)).reverse) m t:=by
  have:=MI.blockY M1 (Ig T.sq) (n - 1 - t) (by rw[List.length_reverse,Aj]; omega) (λi hi yy ey=>by
   have e1:q[n - 1 - i - 1]? = some yy:=by
    rw[Qv (by rw[Aj]; omega),Aj,show q.size - 1 - (q.size - (n - 1)+i)=n - 1 - i - 1 by omega] at ey
    simpa using ey
   have:=t2 (n - 1 - i - 1) (by omega) (by omega)
   rw[val _ yy e1] at this
   have z:blt yy x=false:=by simpa only [Fv,if_true] using this
   exact Qg C T.sp m0 hm hx z)
  rw[<- F4 q (by omega) (by omega),<- Da,show q.size - (n - 1)+(n - 1 - t)=q.size - t by omega] at this
  exact this
 -- what is left of q is below x
 have below:∀z∈q.toList.reverse.drop (q.size - t),ge blt x z:=λz hz=>by
  rw[Ih q (by omega)] at hz
  obtain ⟨k,hk',e⟩:=Fp.mp (Pa.mp hz)
  rw[Do] at hk'
  have e2:q.toList[k]? = some z:=by
   rw[<- e,<- Cf (by rw[Do]; exact hk'),Hi (by omega)]
  have e3:q[k]? = some z:=by simpa using e2
  have:=t1 k (by omega)
  rw[val k z e3] at this
  exact C.ofLt (by simpa only [Fv,if_true] using this)
 by_cases h2:n - 1 - t > 0
 ·rw[if_pos h2]
  by_cases h3:t=1
  ·rw[if_pos (by rw[h3]; rfl)]
   exact Ay ⟨kp,T.fs_end C M2 hm h3 (by omega)⟩
  ·rw[if_neg (λz=>h3 (Dg z))]
   by_cases h4:t=0
   ·rw[if_pos (by rw[h4]; rfl)]
    exact Ay ⟨kp,T.dn_end M2 hm (by omega) (.inr h4)⟩
   ·rw[if_neg (λz=>h4 (Dg z))]
    exact jQ C T kp M2 m0 hm (by omega) (by omega) (by omega) hx below
 ·rw[if_neg h2]
  have et:t=n - 1:=by omega
  rw[et] at below
  exact jQ C T kp M1 m0 hm (by omega) (by omega) (by omega) hx below
theorem vR(C:Cmp prog w A s kd Ok blt){p q out:Array Keyed}{x0 y0 xl:Keyed}(T:Two Ok blt p q x0 y0 xl){m n g ac bc b:Nat}{st0 st:Bj}(kp:Kept st0 st)(hk:kindOf st=kd)(M:HI blt p q out m n)(m0:0<m)(hm:m<=p.size)(n0:1<n)(hn:n<=q.size)(hb:m+n<=b):wpS (model prog w) A E s (zZ p q out m n g ac bc) (J6 blt p q st0 b) st:=by
 unfold zZ
 refine Ar (Qk λst1 kp1=>?_)
 have kp':=kp.trans kp1
 have hk':kindOf st1=kd:=kp1.kind.trans hk
 obtain ⟨y,hy⟩:=Fc (p:=q) (i:=n - 1) (by omega)
 refine Ar (Ey hy ?_)
 have val:∀i xx,p[i]? = some xx->p.getD (0+i) y=xx:=λi xx e=>by rw[Hf]; simp [Cb,e]
 have R:Row Ok p 0 m (λi=>p.getD (0+i) y):=⟨λi hi=>by
  obtain ⟨xa,ea⟩:=Fc (p:=p) (i:=i) (by omega)
  rw[val i xa ea,Hf,ea],λi hi=>by
  obtain ⟨xa,ea⟩:=Fc (p:=p) (i:=i) (by omega)
  show Ok (p.getD (0+i) y)
  rw[val i xa ea]
  exact T.op xa (Ij ea)⟩
 refine Ar (Lo C R (T.oq y (Ij hy)) hk' (by omega) (λa c hab hc q1=>?_) λt ht t1 t2=>?_)
 ·obtain ⟨xa,ea⟩:=Fc (p:=p) (i:=a) (by omega)
  obtain ⟨xc,ec⟩:=Fc (p:=p) (i:=c) (by omega)
  simp only[val a xa ea,val c xc ec,Fv,Bd,if_false,Iw] at q1 ⊢
  exact C.trans (Js C T.sp hab (Du ea) (Du ec)) q1
 dsimp only
 have M1:HI blt p q (out++(p.extract t m).reverse) t n:=by
  have:=MI.blockX M (Ig T.sp) (m - t) (by rw[List.length_reverse,Aj]; omega) (λi hi xx ex=>by
   have e1:p[m - i - 1]? = some xx:=by
    rw[Qv (by rw[Aj]; omega),Aj,show p.size - 1 - (p.size - m+i)=m - i - 1 by omega] at ex
    simpa using ex
   have:=t2 (m - i - 1) (by omega) (by omega)
   rw[val _ xx e1] at this
   have z:blt y xx=true:=by simpa only [Fv,Bd,if_false,Vi] using this
   exact Qg C T.sq (by omega) hn hy (C.ofLt z))
  rw[<- F4 p (by omega) hm,<- Da,show p.size - m+(m - t)=p.size - t by omega] at this
  exact this
 have below:∀x,0<t->p[t - 1]? = some x->le blt x y:=λx h0 hx=>by
  have:=t1 (t - 1) (by omega)
  rw[val _ x hx] at this
  have z:blt y x=false:=by simpa only [Fv,Bd,if_false,Iw] using this
  exact z
 by_cases h2:m - t > 0
 ·rw[if_pos h2]
  by_cases h3:t=0
  ·rw[if_pos (by rw[h3]; rfl)]
   exact Ay ⟨kp',T.dn_end M1 (by omega) hn (.inl h3)⟩
  ·rw[if_neg (λz=>h3 (Dg z))]
   obtain ⟨x,hx⟩:=Fc (p:=p) (i:=t - 1) (by omega)
   exact jH C T kp' hk' M1 (by omega) (by omega) n0 hn (by omega) hx hy (below x (by omega) hx)
 ·rw[if_neg h2]
  have et:t=m:=by omega
  subst et
  obtain ⟨x,hx⟩:=Fc (p:=p) (i:=t - 1) (by omega)
  exact jH C T kp' hk' M m0 hm n0 hn hb hx hy (below x m0 hx)
theorem hV(C:Cmp prog w A s kd Ok blt){p q:Array Keyed}{x0 y0 xl:Keyed}(T:Two Ok blt p q x0 y0 xl){st:Bj}(hk:kindOf st=kd){Q:Array Keyed->Bj->Prop}(h:∀r st',Kept st st'->gS blt p q r->Q r st'):wpS (model prog w) A E s (eG p q) Q st:=by
 have p0:0<p.size:=(Gp.mp T.hx0).1
 have q0:0<q.size:=(Gp.mp T.hy0).1
 obtain ⟨yl,hyl⟩:=Fc (p:=q) (i:=q.size - 1) (by omega)
 have M0:HI blt p q #[xl] (p.size - 1) q.size:=by
  have m:HI blt p q #[] p.size q.size:=⟨by simp,by simp,λo ho=>by simp at ho,λo ho=>by simp at ho⟩
  have:=HI.pushX C T m p0 (Ah _) T.hxl (Qg C T.sq q0 (Ah _) hyl (C.ofLt (T.last yl (Ij hyl))))
  simpa using this
 unfold eG
 refine Ar (Qf ?_)
 refine Ar (Ey T.hxl ?_)
 dsimp only
 by_cases h1:p.size - 1=0
 ·rw[if_pos (by rw[h1]; rfl)]
  exact Ay (h _ _ (Kept.refl _) (T.dn_end M0 (by omega) (by omega) (.inl h1)))
 rw[if_neg (λz=>h1 (Dg z))]
 by_cases h2:q.size=1
 ·rw[if_pos (by rw[h2]; rfl)]
  exact Ay (h _ _ (Kept.refl _) (T.fs_end C M0 (by omega) h2 (by omega)))
 rw[if_neg (λz=>h2 (Dg z))]
 refine Ar (Ld ?_)
 refine Ar (Gm (Ed
  (I:=λx c st'=>Kept st st'/\∃m n out g,c=(none,m,n,out,g)/\HI blt p q out m n/\0<m/\m<=p.size/\1<n/\n<=q.size/\m+n+x+1<=p.size+q.size)
  (Q:=λc st'=>Kept st st'/\∃r Ex,c=(some r,Ex)/\gS blt p q r) ?_ ?_ ⟨Kept.refl _,_,_,_,_,rfl,M0,by omega,by omega,by omega,by omega,by omega⟩) ?_)
 ·(intro x c st1 _ hx q_; obtain ⟨kp1,m,n,out,g,rfl,M,m0,hm,n0,hn,hb⟩ := q_)
  dsimp only
  -- one by one
  refine Ar (Gm (Ed
   (I:=λ_ c st'=>st'=st1/\∃m n out ac bc,c=(none,m,n,out,ac,bc)/\HI blt p q out m n/\0<m/\m<=p.size/\1<n/\n<=q.size/\m+n+x+1<=p.size+q.size)
   (Q:=λc st'=>st'=st1/\((∃r Ex,c=(some r,Ex)/\gS blt p q r)\/∃m n out ac bc,c=(none,m,n,out,ac,bc)/\HI blt p q out m n/\0<m/\m<=p.size/\1<n/\n<=q.size/\m+n+x+1<=p.size+q.size)) ?_ ?_ ⟨rfl,m,n,out,0,0,rfl,M,m0,hm,n0,hn,hb⟩) ?_)
  ·(intro z c st2 _ hz q_; obtain ⟨rfl,m,n,out,ac,bc,rfl,M,m0,hm,n0,hn,hb⟩ := q_)
   dsimp only
   obtain ⟨yy,hy⟩:=Fc (p:=q) (i:=n - 1) (by omega)
   obtain ⟨xx,hx⟩:=Fc (p:=p) (i:=m - 1) (by omega)
   refine Ar (Ey hy ?_)
   refine Ar (Ey hx ?_)
   refine Ar (gB C (kp1.kind.trans hk) (T.oq yy (Ij hy)) (T.op xx (Ij hx)) ?_)
   dsimp only
   cases hlt:blt yy xx with
   | true =>
    rw[if_pos rfl]
    refine Ar (Ey hx ?_)
    have M1:=HI.pushX C T M m0 hm hx (Qg C T.sq (by omega) hn hy (C.ofLt hlt))
    by_cases e1:m - 1=0
    ·rw[if_pos (by rw[e1]; rfl)]
     exact Ay ⟨rfl,.inl ⟨_,_,rfl,T.dn_end M1 (by omega) hn (.inl e1)⟩⟩
    ·rw[if_neg (λz=>e1 (Dg z))]
     split
     ·exact Ay ⟨rfl,.inr ⟨_,_,_,_,_,rfl,M1,by omega,by omega,n0,hn,by omega⟩⟩
     ·exact Ay ⟨rfl,_,_,_,_,_,rfl,M1,by omega,by omega,n0,hn,by omega⟩
   | false =>
    rw[if_neg Bx]
    refine Ar (Ey hy ?_)
    have M1:=HI.pushY C T M (by omega) hn hy (Qg C T.sp m0 hm hx hlt)
    by_cases e1:n - 1=1
    ·rw[if_pos (by rw[e1]; rfl)]
     exact Ay ⟨rfl,.inl ⟨_,_,rfl,T.fs_end C M1 hm e1 (by omega)⟩⟩
    ·rw[if_neg (λz=>e1 (Dg z))]
     split
     ·exact Ay ⟨rfl,.inr ⟨_,_,_,_,_,rfl,M1,m0,hm,by omega,by omega,by omega⟩⟩
     ·exact Ay ⟨rfl,_,_,_,_,_,rfl,M1,m0,hm,by omega,by omega,by omega⟩
  ·(intro c st2 q_; obtain ⟨rfl,m,n,out,ac,bc,rfl,M⟩ := q_)
   exact ⟨rfl,.inr ⟨m,n,out,ac,bc,rfl,M⟩⟩
  ·rintro c st2 ⟨rfl,hc⟩
   rcases hc with hc | hc
   ·obtain ⟨r,Ex,rfl,hr⟩:=hc
    exact Ay ⟨kp1,r,_,rfl,hr⟩
   ·obtain ⟨m,n,out,ac,bc,rfl,M,m0,hm,n0,hn,hb⟩:=hc
    dsimp only
    refine Ar (Qf ?_)
    -- the gallop
    refine Ar (Gm (Ed
     (I:=λy c st'=>Kept st st'/\∃m n out g ac bc,c=(none,m,n,out,g,ac,bc)/\HI blt p q out m n/\0<m/\m<=p.size/\1<n/\n<=q.size/\(if y=0 then m+n+x+1<=p.size+q.size else m+n+x+2<=p.size+q.size))
     (Q:=λc st'=>Kept st st'/\((∃r Ex,c=(some r,Ex)/\gS blt p q r)\/∃m n out g ac bc,c=(none,m,n,out,g,ac,bc)/\HI blt p q out m n/\0<m/\m<=p.size/\1<n/\n<=q.size/\m+n+x+2<=p.size+q.size)) ?_ ?_
     ⟨kp1,m,n,out,_,ac,bc,rfl,M,m0,hm,n0,hn,by rw[if_pos rfl]; exact hb⟩) ?_)
    ·(intro y c Oz _ hy q_; obtain ⟨kp3,m,n,out,g,ac,bc,rfl,M,m0,hm,n0,hn,hb⟩ := q_)
     have hb':m+n+x+1<=p.size+q.size:=by split at hb <;> omega
     have key:∀g',wpS (model prog w) A E s (zZ p q out m n g' ac bc) (J6 blt p q st (m+n)) Oz:=λg'=>vR C T kp3 (kp3.kind.trans hk) M m0 hm n0 hn (Ah _)
     dsimp only
     refine Gm (?_:wpS (model prog w) A E s _ (J6 blt p q st (m+n)) Oz) λr st4 hr=>?_
     ·by_cases hg:g > 1
      ·rw[if_pos hg]
       exact key _
      ·rw[if_neg hg]
       exact key _
     ·obtain ⟨kp4,hr⟩:=hr
      match r,hr with
      | .done (some r,Ex),hr=>exact ⟨kp4,.inl ⟨r,Ex,rfl,hr⟩⟩
      | .done (none,m',n',out',g',ac',bc'),hr=>exact ⟨kp4,.inr ⟨m',n',out',g',ac',bc',rfl,hr.1,hr.2.1,hr.2.2.1,hr.2.2.2.1,hr.2.2.2.2.1,by have:=hr.2.2.2.2.2; omega⟩⟩
      | .yield (none,m',n',out',g',ac',bc'),hr=>exact ⟨kp4,m',n',out',g',ac',bc',rfl,hr.1,hr.2.1,hr.2.2.1,hr.2.2.2.1,hr.2.2.2.2.1,by rw[if_neg (by omega)]; have:=hr.2.2.2.2.2; omega⟩
    ·(intro c Oz q_; obtain ⟨kp3,m,n,out,g,ac,bc,rfl,M,m0,hm,n0,hn,hb⟩ := q_)
     rw[if_neg (by omega)] at hb
     exact ⟨kp3,.inr ⟨m,n,out,g,ac,bc,rfl,M,m0,hm,n0,hn,hb⟩⟩
    ·rintro c Oz ⟨kp3,hc⟩
     rcases hc with hc | hc
     ·obtain ⟨r,Ex,rfl,hr⟩:=hc
      exact Ay ⟨kp3,r,_,rfl,hr⟩
     ·obtain ⟨m,n,out,g,ac,bc,rfl,M,m0,hm,n0,hn,hb⟩:=hc
      dsimp only
      refine Ar (Qk λst4 kp4=>?_)
      exact Ay ⟨kp3.trans kp4,m,n,out,_,rfl,M,m0,hm,n0,hn,by omega⟩
 ·(intro c st1 q_; obtain ⟨kp1,m,n,out,g,rfl,M,m0,hm,n0,hn,hb⟩ := q_)
  exfalso
  have : max 0 (p.size+q.size)=p.size+q.size:=by omega
  rw[this] at hb
  omega
 ·(intro c st1 q_; obtain ⟨kp1,r,Ex,rfl,hr⟩ := q_)
  exact Ay (h r st1 kp1 hr)
end
def aE:Nat->Nat->StateT Bj Sem (Option Nat):=sortPriv% PySem.Builtin.countRun
def Vl:Nat->Nat->Nat->StateT Bj Sem Bool:=sortPriv% PySem.Builtin.binarySort
def X(xs:Array Keyed)(i:Nat):Keyed:=xs[i]?.getD (Ub,Ub)
theorem Uj{xs:Array Keyed}{i:Nat}(h:i<xs.size):xs[i]? = some (X xs i):=by
 unfold X
 rw[getElem?_pos xs i h]
 rfl
theorem Of{xs ys:Array Keyed}{i j:Nat}(h:xs[i]? = ys[j]?):X xs i=X ys j:=by unfold X; rw[h]
theorem Pj{xs:Array Keyed}{i j:Nat}(hj:j<=xs.size)(k:Nat):X (mirror xs i j ((j - i) / 2)) k=if i<=k/\k<j then X xs (i+j - 1 - k) else X xs k:=by
 have e:=getElem?_mirror_all (i:=i) hj k
 by_cases h:i<=k/\k<j
 ·rw[if_pos h] at e ⊢; exact Of e
 ·rw[if_neg h] at e ⊢; exact Of e
theorem qN{xs:Array Keyed}{src d:Nat}(hs:src<xs.size)(hd:d<=src)(k:Nat):X (bubble xs src d) k=if k=src - d then X xs src else if src - d<k/\k<=src then X xs (k - 1) else X xs k:=by
 have e:=getElem?_bubble hs d hd k
 by_cases h1:k=src - d
 ·rw[if_pos h1] at e ⊢; exact Of e
 ·rw[if_neg h1] at e ⊢
  by_cases h2:src - d<k/\k<=src
  ·rw[if_pos h2] at e ⊢; exact Of e
  ·rw[if_neg h2] at e ⊢; exact Of e
def Pf(blt:Keyed->Keyed->Bool)(xs:Array Keyed)(a b:Nat):Prop:=∀i j,a<=i->i<=j->j<b->le blt (X xs i) (X xs j)
def oU(blt:Keyed->Keyed->Bool)(xs:Array Keyed)(a b:Nat):Prop:=∀i j,a<=i->i<=j->j<b->le blt (X xs j) (X xs i)
structure Good(kd:Jw)(a₀:Array Keyed)(pend:Array (Nat×Nat×Nat))(st:Bj):Prop where
 kind:kindOf st=kd
 fail:Jt st=none
 perm:(arrOf st).Perm a₀
 pd:Ax st=pend
def cX(xs ys:Array Keyed)(a b:Nat):Prop:=∀i,(i<a\/b<=i)->X ys i=X xs i
theorem cX.refl(xs:Array Keyed)(a b:Nat):cX xs xs a b:=λ_ _=>rfl
theorem cX.trans{xs ys zs:Array Keyed}{a b:Nat}(h:cX xs ys a b)(k:cX ys zs a b):cX xs zs a b:=λi hi=>(k i hi).trans (h i hi)
section
variable{prog:Bm}{w:World}{A:Cr}{s:Ai}{kd:Jw}{Ok:Keyed->Prop}{blt:Keyed->Keyed->Bool}{E:Value->Ai->Prop}{a₀:Array Keyed}{pend:Array (Nat×Nat×Nat)}
theorem Good.size{st:Bj}(g:Good kd a₀ pend st):(arrOf st).size=a₀.size:=g.perm.size_eq
theorem Good.okX{st:Bj}(g:Good kd a₀ pend st)(h0:∀x∈a₀.toList,Ok x){i:Nat}(hi:i<a₀.size):Ok (X (arrOf st) i):=by
 have e:=Uj (xs:=arrOf st) (i:=i) (by rw[g.size]; exact hi)
 exact h0 _ ((Je.mp g.perm).mem_iff.mp (Ij e))
theorem Good.set{st:Bj}(g:Good kd a₀ pend st){xs:Array Keyed}(h:xs.Perm (arrOf st)):Good kd a₀ pend (setArr st xs):=⟨g.kind,g.fail,h.trans g.perm,g.pd⟩
theorem Sy(C:Cmp prog w A s kd Ok blt){st:Bj}(g:Good kd a₀ pend st)(h0:∀x∈a₀.toList,Ok x){i j:Nat}(hi:i<a₀.size)(hj:j<a₀.size){Q:Option Bool->Bj->Prop}(h:Q (some (blt (X (arrOf st) i) (X (arrOf st) j))) st):wpS (model prog w) A E s (ltAt' i j) Q st:=by
 rw[ltAt'_eq]
 refine Ar (Ld ?_)
 refine Ar (Ey (Uj (by rw[g.size]; exact hi)) ?_)
 refine Ar (Ey (Uj (by rw[g.size]; exact hj)) ?_)
 exact gB C g.kind (g.okX h0 hi) (g.okX h0 hj) h
theorem Oq{st:Bj}{i j:Nat}{Q:Unit->Bj->Prop}(h:Q () (setArr st (mirror (arrOf st) i j ((j - i) / 2)))):wpS (model prog w) A E s (Qn i j) Q st:=by
 rw[reverseSlice'_eq]
 exact Il h
def C7(lo a b:Nat):StateT Bj Sem (Option (Option Nat)×Nat) :=
 forIn [a:b] ((none,a):Option (Option Nat)×Nat) λ_ c=>do
  let some eZ <- ltAt' (lo+c.2) (lo+c.2 - 1) | pure (Ce (some none,c.2))
  if eZ=true then pure (Ce (none,c.2)) else pure (Fb (none,c.2+1))
theorem qR(C:Cmp prog w A s kd Ok blt){st:Bj}(g:Good kd a₀ pend st)(h0:∀x∈a₀.toList,Ok x){lo a b:Nat}(hb:lo+b<=a₀.size)(ha:1<=a)(hab:a<=b)(h1:Pf blt (arrOf st) lo (lo+a)){Q:Option (Option Nat)×Nat->Bj->Prop}(h:∀n,a<=n->n<=b->Pf blt (arrOf st) lo (lo+n)->(n=b\/blt (X (arrOf st) (lo+n)) (X (arrOf st) (lo+n - 1))=true)->Q (none,n) st):wpS (model prog w) A E s (C7 lo a b) Q st:=by
 unfold C7
 refine Ed (I:=λx c st'=>st'=st/\c=(none,x)/\Pf blt (arrOf st) lo (lo+x)) ?_ ?_ ⟨rfl,rfl,h1⟩
 ·(intro x c st' hx1 hx2 q_; obtain ⟨rfl,rfl,hs⟩ := q_)
  dsimp only
  refine Ar (Sy C g h0 (by omega) (by omega) ?_)
  dsimp only
  cases hl:blt (X (arrOf st') (lo+x)) (X (arrOf st') (lo+x - 1)) with
  | true =>
   rw[if_pos rfl]
   exact Ay (h x hx1 (by omega) hs (.inr hl))
  | false =>
   rw[if_neg Bx]
   refine Ay ⟨rfl,rfl,λi j hi hij hj=>?_⟩
   by_cases hjx:j<lo+x
   ·exact hs i j hi hij hjx
   ·have ej:j=lo+x:=by omega
    subst ej
    by_cases hi':i=lo+x
    ·subst hi'; exact C.refl _
    ·exact C.trans (hs i (lo+x - 1) hi (by omega) (by omega)) hl
 ·(intro c st' q_; obtain ⟨rfl,rfl,hs⟩ := q_)
  rw[show max a b=b by omega] at hs ⊢
  exact h b hab (Ah _) hs (.inl rfl)
theorem iF{xs:Array Keyed}{lo n:Nat}(hn:lo+n<=xs.size)(h:oU blt xs lo (lo+n)):Pf blt (mirror xs lo (lo+n) ((lo+n - lo) / 2)) lo (lo+n):=λi j hi hij hj=>by
 rw[Pj hn,Pj hn,if_pos (by omega),if_pos (by omega)]
 exact h _ _ (by omega) (by omega) (by omega)
theorem Vb{xs:Array Keyed}{lo n b e:Nat}(hn:lo+n<=xs.size)(he:e<=lo+n)(hb:lo<=b)(h:oU blt xs lo (lo+n))(eqv:∀i j,b<=i->i<e->b<=j->j<e->le blt (X xs i) (X xs j)):oU blt (mirror xs b e ((e - b) / 2)) lo (lo+n):=λi j hi hij hj=>by
 rw[Pj (by omega),Pj (by omega)]
 by_cases h1:b<=j/\j<e
 ·rw[if_pos h1]
  by_cases h2:b<=i/\i<e
  ·rw[if_pos h2]
   exact eqv _ _ (by omega) (by omega) (by omega) (by omega)
  ·rw[if_neg h2]
   exact h _ _ hi (by omega) (by omega)
 ·rw[if_neg h1]
  by_cases h2:b<=i/\i<e
  ·rw[if_pos h2]
   exact h _ _ (by omega) (by omega) (by omega)
  ·rw[if_neg h2]
   exact h i j hi hij hj
theorem Ol{xs:Array Keyed}{a b i j:Nat}(h1:a<=i)(h2:j<=b)(h3:j<=xs.size):cX xs (mirror xs i j ((j - i) / 2)) a b:=λk hk=>by
 rw[Pj h3,if_neg (by omega)]
def pO(lo n b:Nat):StateT Bj Sem (Option Nat):=do
 Qn lo (lo+n)
 let mut m:=n
 for _ in [n:b] do
  let some eZ <- ltAt' (lo+m) (lo+m - 1) | return none
  if eZ then break
  m:=m+1
 return some m
theorem kT(C:Cmp prog w A s kd Ok blt){st:Bj}(g:Good kd a₀ pend st)(h0:∀x∈a₀.toList,Ok x){lo n b:Nat}(hb:lo+b<=a₀.size)(hn:1<=n)(hnb:n<=b)(h1:oU blt (arrOf st) lo (lo+n)){Q:Option Nat->Bj->Prop}(h:∀m st',Good kd a₀ pend st'->1<=m->m<=b->Pf blt (arrOf st') lo (lo+m)->cX (arrOf st) (arrOf st') lo (lo+b)->Q (some m) st'):wpS (model prog w) A E s (pO lo n b) Q st:=by
 unfold pO
 have hsz:lo+n<=(arrOf st).size:=by rw[g.size]; omega
 refine Ar (Oq ?_)
 have g':Good kd a₀ pend (setArr st (mirror (arrOf st) lo (lo+n) ((lo+n - lo) / 2))):=g.set (mirror_perm _ _ _ _)
 refine Ar (qR C g' h0 hb hn hnb (iF hsz h1) λm hm1 hm2 hs _=>?_)
 exact Ay (h m _ g' (by omega) hm2 hs (Ol (Ah _) (by omega) hsz))
abbrev zY:=Option (Option Nat)×Nat×Nat
def M5(lo a b:Nat):StateT Bj Sem zY :=
 forIn [a:b] ((none,a,0):zY) λ_ c=>do
  let some eZ <- ltAt' (lo+c.2.1) (lo+c.2.1 - 1) | pure (Ce (some none,c.2.1,c.2.2))
  if eZ=true then
   if c.2.2 > 0 then do
    Qn (lo+c.2.1 - (c.2.2+1)) (lo+c.2.1)
    pure (Fb (none,c.2.1+1,0))
   else pure (Fb (none,c.2.1+1,0))
  else do
   let some more <- ltAt' (lo+c.2.1 - 1) (lo+c.2.1) | pure (Ce (some none,c.2.1,c.2.2))
   if more=true then pure (Ce (none,c.2.1,c.2.2)) else pure (Fb (none,c.2.1+1,c.2.2+1))
def wI(blt:Keyed->Keyed->Bool)(xs:Array Keyed)(lo n e:Nat):Prop:=e+1<=n/\∀i j,lo+n - (e+1)<=i->i<lo+n->lo+n - (e+1)<=j->j<lo+n->le blt (X xs i) (X xs j)
theorem tV(C:Cmp prog w A s kd Ok blt){xs:Array Keyed}{lo n:Nat}(h:1<=n):wI blt xs lo n 0:=⟨by omega,λi j i1 i2 j1 j2=>by
 have e:i=j:=by omega
 subst e
 exact C.refl _⟩
theorem Tb(C:Cmp prog w A s kd Ok blt){xs:Array Keyed}{lo n:Nat}(hn:1<=n)(h:oU blt xs lo (lo+n))(hl:le blt (X xs (lo+n)) (X xs (lo+n - 1))):oU blt xs lo (lo+(n+1)):=λi j hi hij hj=>by
 by_cases hjx:j<lo+n
 ·exact h i j hi hij hjx
 ·have ej:j=lo+n:=by omega
  subst ej
  by_cases hi':i=lo+n
  ·subst hi'; exact C.refl _
  ·exact C.trans hl (h i (lo+n - 1) hi (by omega) (by omega))
theorem xB(C:Cmp prog w A s kd Ok blt){st:Bj}(g:Good kd a₀ pend st)(h0:∀x∈a₀.toList,Ok x){lo a b:Nat}(hb:lo+b<=a₀.size)(ha:1<=a)(hab:a<=b)(h1:oU blt (arrOf st) lo (lo+a)){Q:zY->Bj->Prop}(h:∀n e st',Good kd a₀ pend st'->a<=n->n<=b->oU blt (arrOf st') lo (lo+n)->wI blt (arrOf st') lo n e->cX (arrOf st) (arrOf st') lo (lo+b)->Q (none,n,e) st'):wpS (model prog w) A E s (M5 lo a b) Q st:=by
 unfold M5
 refine Ed (I:=λx c st'=>∃e,c=(none,x,e)/\Good kd a₀ pend st'/\oU blt (arrOf st') lo (lo+x)/\wI blt (arrOf st') lo x e/\cX (arrOf st) (arrOf st') lo (lo+b)) ?_ ?_
  ⟨0,rfl,g,h1,tV C ha,cX.refl _ _ _⟩
 ·(intro x c st' hx1 hx2 q_; obtain ⟨e,rfl,g',hs,lk,ou⟩ := q_)
  have hsz:(arrOf st').size=a₀.size:=g'.size
  dsimp only
  refine Ar (Sy C g' h0 (by omega) (by omega) ?_)
  dsimp only
  cases hl:blt (X (arrOf st') (lo+x)) (X (arrOf st') (lo+x - 1)) with
  | true =>
   rw[if_pos rfl]
   have d1:=Tb C (by omega) hs (C.ofLt hl)
   have one:∀ys:Array Keyed,wI blt ys lo (x+1) 0:=λys=>⟨by omega,λi j i1 i2 j1 j2=>by
    have : i=j:=by omega
    subst this
    exact C.refl _⟩
   by_cases he:e > 0
   ·rw[if_pos he]
    refine Ar (Oq ?_)
    refine Ay ⟨0,rfl,g'.set (mirror_perm _ _ _ _),?_,one _,ou.trans (Ol (by have:=lk.1; omega) (by omega) (by omega))⟩
    exact Vb (by omega) (by omega) (by have:=lk.1; omega) d1 λi j i1 i2 j1 j2=>lk.2 i j i1 i2 j1 j2
   ·rw[if_neg he]
    exact Ay ⟨0,rfl,g',d1,one _,ou⟩
  | false =>
   rw[if_neg Bx]
   refine Ar (Sy C g' h0 (by omega) (by omega) ?_)
   dsimp only
   cases hm:blt (X (arrOf st') (lo+x - 1)) (X (arrOf st') (lo+x)) with
   | true =>
    rw[if_pos rfl]
    exact Ay (h x e st' g' hx1 (by omega) hs lk ou)
   | false =>
    rw[if_neg Bx]
    refine Ay ⟨e+1,rfl,g',Tb C (by omega) hs hm,⟨by have:=lk.1; omega,λi j i1 i2 j1 j2=>?_⟩,ou⟩
    have l1:le blt (X (arrOf st') (lo+x - 1)) (X (arrOf st') (lo+x)):=hl
    have l2:le blt (X (arrOf st') (lo+x)) (X (arrOf st') (lo+x - 1)):=hm
    by_cases ei:i=lo+x
    ·by_cases ej:j=lo+x
     ·rw[ei,ej]; exact C.refl _
     ·rw[ei]
      exact C.trans l2 (lk.2 (lo+x - 1) j (by omega) (by omega) (by omega) (by omega))
    ·by_cases ej:j=lo+x
     ·rw[ej]
      exact C.trans (lk.2 i (lo+x - 1) (by omega) (by omega) (by omega) (by omega)) l1
     ·exact lk.2 i j (by omega) (by omega) (by omega) (by omega)
 ·(intro c st' q_; obtain ⟨e,rfl,g',hs,lk,ou⟩ := q_)
  rw[show max a b=b by omega] at hs lk ⊢
  exact h b e st' g' hab (Ah _) hs lk ou
def yD(lo n b:Nat):StateT Bj Sem (Option Nat):=do
 liftM (rule "list.sort.descending-run")
 let mut m:=n+1
 let mut e:=0
 for _ in [m:b] do
  let some eZ <- ltAt' (lo+m) (lo+m - 1) | return none
  if eZ then
   if e > 0 then Qn (lo+m - (e+1)) (lo+m)
   e:=0
  else
   let some more <- ltAt' (lo+m - 1) (lo+m) | return none
   if more then break
   e:=e+1
  m:=m+1
 if e > 0 then Qn (lo+m - (e+1)) (lo+m)
 pO lo m b
theorem jV(C:Cmp prog w A s kd Ok blt){st:Bj}(g:Good kd a₀ pend st)(h0:∀x∈a₀.toList,Ok x){lo n b:Nat}(hb:lo+b<=a₀.size)(hnb:n+1<=b)(h1:oU blt (arrOf st) lo (lo+(n+1))){Q:Option Nat->Bj->Prop}(h:∀m st',Good kd a₀ pend st'->1<=m->m<=b->Pf blt (arrOf st') lo (lo+m)->cX (arrOf st) (arrOf st') lo (lo+b)->Q (some m) st'):wpS (model prog w) A E s (yD lo n b) Q st:=by
 unfold yD
 refine Ar (Qf ?_)
 refine Ar (xB C g h0 hb (by omega) hnb h1 λk e st1 g1 k1 k2 d1 lk ou=>?_)
 dsimp only
 have hsz:(arrOf st1).size=a₀.size:=g1.size
 by_cases he:e > 0
 ·rw[if_pos he]
  refine Ar (Oq ?_)
  refine kT C (g1.set (mirror_perm _ _ _ _)) h0 hb (by omega) k2 (Vb (by omega) (by omega) (by have:=lk.1; omega) d1 λi j i1 i2 j1 j2=>lk.2 i j i1 i2 j1 j2) λm st2 g2 m1 m2 as ou2=>?_
  exact h m st2 g2 m1 m2 as ((ou.trans (Ol (by have:=lk.1; omega) (by omega) (by omega))).trans ou2)
 ·rw[if_neg he]
  exact kT C g1 h0 hb (by omega) k2 d1 λm st2 g2 m1 m2 as ou2=>h m st2 g2 m1 m2 as (ou.trans ou2)
theorem rK(C:Cmp prog w A s kd Ok blt){st:Bj}(g:Good kd a₀ pend st)(h0:∀x∈a₀.toList,Ok x){lo b:Nat}(hb:lo+b<=a₀.size)(b1:1<=b){Q:Option Nat->Bj->Prop}(h:∀m st',Good kd a₀ pend st'->1<=m->m<=b->Pf blt (arrOf st') lo (lo+m)->cX (arrOf st) (arrOf st') lo (lo+b)->Q (some m) st'):wpS (model prog w) A E s (aE lo b) Q st:=by
 unfold aE
 have hsz:(arrOf st).size=a₀.size:=g.size
 refine Ar (qR C g h0 hb (Ah _) b1 (λi j i1 i2 j1=>by
  have : i=j:=by omega
  subst this
  exact C.refl _) λn n1 n2 hs hor=>?_)
 dsimp only
 by_cases e:n=b
 ·rw[if_pos (by rw[e]; exact beq_self_eq_true _)]
  exact Ay (h n st g n1 n2 hs (cX.refl _ _ _))
 rw[if_neg (λz=>e (Dg z))]
 have hlt:blt (X (arrOf st) (lo+n)) (X (arrOf st) (lo+n - 1))=true:=hor.resolve_left e
 by_cases hg:n > 1
 ·rw[if_pos hg]
  refine Ar (Sy C g h0 (by omega) (by omega) ?_)
  dsimp only
  cases hr:blt (X (arrOf st) lo) (X (arrOf st) (lo+n - 1)) with
  | true =>
   rw[if_pos rfl]
   exact Ay (h n st g n1 n2 hs (cX.refl _ _ _))
  | false =>
   rw[if_neg Bx]
   refine Ar (Oq ?_)
   -- all of it are alike
   have like:∀i j,lo<=i->i<lo+n->lo<=j->j<lo+n->le blt (X (arrOf st) i) (X (arrOf st) j):=λi j i1 i2 j1 j2 =>
    C.trans (hs i (lo+n - 1) i1 (by omega) (by omega)) (C.trans hr (hs lo j (Ah _) j1 j2))
   have d1:oU blt (arrOf st) lo (lo+(n+1)):=Tb C n1 (λi j i1 i2 j1=>like j i (by omega) j1 i1 (by omega)) (C.ofLt hlt)
   exact jV C (g.set (mirror_perm _ _ _ _)) h0 hb (by omega) (Vb (by omega) (by omega) (Ah _) d1 like) λm st2 g2 m1 m2 as ou2=>h m st2 g2 m1 m2 as ((Ol (Ah _) (by omega) (by omega)).trans ou2)
 ·rw[if_neg hg]
  have en:n=1:=by omega
  subst en
  have d1:oU blt (arrOf st) lo (lo+(1+1)):=Tb C (Ah _) (λi j i1 i2 j1=>by
   have : i=j:=by omega
   subst this
   exact C.refl _) (C.ofLt hlt)
  exact jV C g h0 hb (by omega) d1 h
end
def Sn:Nat->StateT Bj Sem Bool:=sortPriv% PySem.Builtin.mergeAt
section
variable{prog:Bm}{w:World}{A:Cr}{s:Ai}{kd:Jw}{Ok:Keyed->Prop}{blt:Keyed->Keyed->Bool}{E:Value->Ai->Prop}{a₀:Array Keyed}{pend:Array (Nat×Nat×Nat)}
theorem eX{st:Bj}{i j:Nat}{Q:Unit->Bj->Prop}(h:Q () (setArr st (bubble (arrOf st) i (i - j)))):wpS (model prog w) A E s (moveDown' i j) Q st:=by
 rw[moveDown'_eq]
 exact Il h
theorem oF(C:Cmp prog w A s kd Ok blt){st:Bj}(g:Good kd a₀ pend st)(h0:∀x∈a₀.toList,Ok x){lo n ok:Nat}(hb:lo+n<=a₀.size)(h1:Pf blt (arrOf st) lo (lo+ok))(hok:ok<=n){Q:Bool->Bj->Prop}(h:∀st',Good kd a₀ pend st'->Pf blt (arrOf st') lo (lo+n)->cX (arrOf st) (arrOf st') lo (lo+n)->Q true st'):wpS (model prog w) A E s (Vl lo n ok) Q st:=by
 unfold Vl
 refine Ar (Gm (Ed
  (I:=λk c st'=>c=(none,())/\Good kd a₀ pend st'/\Pf blt (arrOf st') lo (lo+k)/\cX (arrOf st) (arrOf st') lo (lo+n))
  (Q:=λc st'=>c=(none,())/\Good kd a₀ pend st'/\Pf blt (arrOf st') lo (lo+n)/\cX (arrOf st) (arrOf st') lo (lo+n)) ?_ ?_ ⟨rfl,g,?_,cX.refl _ _ _⟩) ?_)
 ·(intro k c st1 hk1 hk2 q_; obtain ⟨rfl,g1,hs,ou⟩ := q_)
  have hsz:(arrOf st1).size=a₀.size:=g1.size
  dsimp only
  refine Ar (Gm (Ed
   (I:=λy c st'=>st'=st1/\∃l r,c=(none,l,r)/\l<=r/\r<=k/\r - l+y<=k/\(∀i,i<l->le blt (X (arrOf st1) (lo+i)) (X (arrOf st1) (lo+k)))/\(∀i,r<=i->i<k->blt (X (arrOf st1) (lo+k)) (X (arrOf st1) (lo+i))=true))
   (Q:=λc st'=>st'=st1/\∃l,c=(none,l,l)/\l<=k/\(∀i,i<l->le blt (X (arrOf st1) (lo+i)) (X (arrOf st1) (lo+k)))/\(∀i,l<=i->i<k->blt (X (arrOf st1) (lo+k)) (X (arrOf st1) (lo+i))=true)) ?_ ?_
   ⟨rfl,0,k,rfl,by omega,by omega,by omega,λi hi=>by omega,λi h1 h2=>by omega⟩) ?_)
  ·(intro y c st2 _ hy q_; obtain ⟨rfl,l,r,rfl,a1,a2,a3,b1,b2⟩ := q_)
   dsimp only
   by_cases hlr:l ≥ r
   ·rw[if_pos hlr]
    have e:l=r:=by omega
    subst e
    exact Ay ⟨rfl,l,rfl,a2,b1,b2⟩
   ·rw[if_neg hlr]
    refine Ar (Sy C g1 h0 (by omega) (by omega) ?_)
    dsimp only
    cases hl:blt (X (arrOf st2) (lo+k)) (X (arrOf st2) (lo+(l+r) / 2)) with
    | true =>
     rw[if_pos rfl]
     exact Ay ⟨rfl,l,(l+r) / 2,rfl,by omega,by omega,by omega,b1,λi i1 i2=>C.ltLe hl (hs _ _ (by omega) (by omega) (by omega))⟩
    | false =>
     rw[if_neg Bx]
     exact Ay ⟨rfl,(l+r) / 2+1,r,rfl,by omega,a2,by omega,λi hi=>C.trans (hs _ _ (by omega) (by omega) (by omega)) hl,b2⟩
  ·(intro c st2 q_; obtain ⟨rfl,l,r,rfl,a1,a2,a3,b1,b2⟩ := q_)
   have : max 0 k=k:=by omega
   rw[this] at a3
   have e:l=r:=by omega
   subst e
   exact ⟨rfl,l,rfl,a2,b1,b2⟩
  ·(intro c st2 q_; obtain ⟨rfl,l,rfl,a2,b1,b2⟩ := q_)
   dsimp only
   refine Ar (eX ?_)
   have xb:=λi=>qN (xs:=arrOf st2) (src:=lo+k) (d:=lo+k - (lo+l)) (by omega) (by omega) i
   have ed:lo+k - (lo+k - (lo+l))=lo+l:=by omega
   refine Ay ⟨rfl,g1.set (bubble_perm _ _ _),λi j i1 i2 j1=>?_,ou.trans λi hi=>?_⟩
   ·show le blt (X (bubble (arrOf st2) (lo+k) (lo+k - (lo+l))) i) (X (bubble (arrOf st2) (lo+k) (lo+k - (lo+l))) j)
    rw[xb,xb,ed]
    by_cases e1:i=lo+l
    ·rw[if_pos e1]
     by_cases e2:j=lo+l
     ·rw[if_pos e2]; exact C.refl _
     ·rw[if_neg e2]
      by_cases e3:lo+l<j/\j<=lo+k
      ·rw[if_pos e3]
       have:=b2 (j - 1 - lo) (by omega) (by omega)
       rw[show lo+(j - 1 - lo)=j - 1 by omega] at this
       exact C.ofLt this
      ·exfalso; omega
    ·rw[if_neg e1]
     by_cases e2:j=lo+l
     ·rw[if_pos e2,if_neg (by omega)]
      have:=b1 (i - lo) (by omega)
      rw[show lo+(i - lo)=i by omega] at this
      exact this
     ·rw[if_neg e2]
      by_cases e3:lo+l<i/\i<=lo+k
      ·rw[if_pos e3,if_pos (by omega)]
       exact hs _ _ (by omega) (by omega) (by omega)
      ·rw[if_neg e3]
       by_cases e4:lo+l<j/\j<=lo+k
       ·rw[if_pos e4]
        exact hs _ _ (by omega) (by omega) (by omega)
       ·rw[if_neg e4]
        exact hs _ _ (by omega) (by omega) (by omega)
   ·show X (bubble (arrOf st2) (lo+k) (lo+k - (lo+l))) i=X (arrOf st2) i
    rw[xb,ed,if_neg (by omega),if_neg (by omega)]
 ·(intro c st1 q_; obtain ⟨rfl,g1,hs,ou⟩ := q_)
  refine ⟨rfl,g1,λi j i1 i2 j1=>hs i j i1 i2 (by omega),ou⟩
 ·intro i j i1 i2 j1
  by_cases e:i=j
  ·subst e; exact C.refl _
  ·exact h1 i j i1 i2 (by omega)
 ·(intro c st1 q_; obtain ⟨rfl,g1,hs,ou⟩ := q_)
  exact Ay (h st1 g1 hs ou)
end
abbrev Lv(xs:Array Keyed)(b:Nat)(l:List (Keyed×Nat)):Array Keyed:=l.foldl (λa x=>match x with | (p,j)=>a.setIfInBounds (b+j) p) xs
theorem Ys(b:Nat):∀(l:List Keyed) (o:Nat) (xs:Array Keyed),b+o+l.length<=xs.size->(Lv xs b (l.zipIdx o)).size=xs.size/\∀i:Nat,(Lv xs b (l.zipIdx o))[i]? = if b+o<=i/\i<b+o+l.length then l[i - (b+o)]? else xs[i]?
 | [],o,xs,_=>⟨rfl,λi=>by rw[if_neg (by rw[Ka]; omega)]; rfl⟩
 | x::l,o,xs,h=>by
  rw[Bi] at h
  have ih:=Ys b l (o+1) (xs.setIfInBounds (b+o) x) (by rw[Ny]; omega)
  have e:Lv xs b ((x::l).zipIdx o)=Lv (xs.setIfInBounds (b+o) x) b (l.zipIdx (o+1)):=by
   rw[List.zipIdx_cons]
   rfl
  rw[e]
  refine ⟨ih.1.trans (Ny),λi=>?_⟩
  rw[ih.2 i,Bi]
  by_cases h1:b+(o+1)<=i/\i<b+(o+1)+l.length
  ·rw[if_pos h1,if_pos (by omega)]
   rw[show i - (b+o)=(i - (b+(o+1)))+1 by omega,List.getElem?_cons_succ]
  ·rw[if_neg h1]
   by_cases h2:i=b+o
   ·subst h2
    rw[if_pos (by omega),Array.getElem?_setIfInBounds_self_of_lt (by omega),Xa]
    rfl
   ·rw[if_neg (by omega),Array.getElem?_setIfInBounds_ne (by omega)]
theorem iH{xs m:Array Keyed}{b n:Nat}(hb:b+n<=xs.size)(hn:m.size=n)(hp:m.toList.Perm ((xs.toList.drop b).take n)):(Lv xs b m.toList.zipIdx).Perm xs:=by
 have ha:=Ys b m.toList 0 xs (by rw[Aj]; omega)
 have e:(Lv xs b m.toList.zipIdx).toList=xs.toList.take b++(m.toList++xs.toList.drop (b+n)):=by
  apply Kn
  intro i
  have h1:=ha.2 i
  rw[Aj,hn] at h1
  have h2:(Lv xs b m.toList.zipIdx).toList[i]? = (Lv xs b m.toList.zipIdx)[i]?:=by simp
  rw[h2,h1]
  have lt:(xs.toList.take b).length=b:=by rw[Do,Aj]; omega
  by_cases c1:i<b
  ·rw[if_neg (by omega),Fe (by omega),Hi c1]
   simp
  ·rw[Ej (by omega),lt]
   by_cases c2:i<b+n
   ·rw[if_pos (by omega),Fe (by rw[Aj]; omega)]
    congr 1
   ·rw[if_neg (by omega),Ej (by rw[Aj]; omega),Vh,Aj]
    rw[show b+n+(i - b - m.size)=i by omega]
    simp
 refine Array.perm_iff_toList_perm.mpr ?_
 rw[e]
 have e2:xs.toList=xs.toList.take b++((xs.toList.drop b).take n++xs.toList.drop (b+n)):=by
  conv=>lhs; rw[<- Fg b xs.toList]
  congr 1
  conv=>lhs; rw[<- Fg n (xs.toList.drop b)]
  rw[List.drop_drop]
 conv=>rhs; rw[e2]
 exact Hu _ (List.Perm.append_right _ hp)
theorem Um{xs:Array Keyed}{a n:Nat}(h:a+n<=xs.size){i:Nat}(hi:i<n):(xs.extract a (a+n))[i]? = some (X xs (a+i)):=by
 rw[Array.getElem?_extract,if_pos (by omega)]
 exact Uj (by omega)
theorem Pn{xs:Array Keyed}{a n:Nat}(h:a+n<=xs.size):(xs.extract a (a+n)).size=n:=by
 rw[Array.size_extract]
 omega
theorem Ti{xs:Array Keyed}{a n:Nat}(h:a+n<=xs.size){x:Keyed}(hx:x∈(xs.extract a (a+n)).toList):∃i,i<n/\x=X xs (a+i):=by
 obtain ⟨i,hi,e⟩:=Fp.mp hx
 rw[Aj,Pn h] at hi
 refine ⟨i,hi,?_⟩
 have h1:=Um h hi
 have h2:(xs.extract a (a+n)).toList[i]? = some x:=by rw[<- e,<- Cf]
 rw[Ie,h1] at h2
 exact (Bt h2).symm
section
variable{prog:Bm}{w:World}{A:Cr}{s:Ai}{kd:Jw}{Ok:Keyed->Prop}{blt:Keyed->Keyed->Bool}{E:Value->Ai->Prop}{a₀:Array Keyed}{pend:Array (Nat×Nat×Nat)}
theorem Xk(C:Cmp prog w A s kd Ok blt){xs:Array Keyed}{a n c d:Nat}(h:a+n<=xs.size)(hs:Pf blt xs c d)(h1:c<=a)(h2:a+n<=d):(xs.extract a (a+n)).toList.Pairwise (le blt):=by
 rw[Dc]
 intro i j hi hj hij
 rw[Aj,Pn h] at hi hj
 have e1:(xs.extract a (a+n)).toList[i]? = some (X xs (a+i)):=by rw[Ie]; exact Um h hi
 have e2:(xs.extract a (a+n)).toList[j]? = some (X xs (a+j)):=by rw[Ie]; exact Um h hj
 obtain ⟨_,f1⟩:=Aq.mp e1
 obtain ⟨_,f2⟩:=Aq.mp e2
 rw[f1,f2]
 exact hs _ _ (by omega) (by omega) (by omega)
theorem fX(C:Cmp prog w A s kd Ok blt){xs:Array Keyed}{a b c:Nat}(hab:a<b)(h1:Pf blt xs a b)(h2:Pf blt xs b c)(h:le blt (X xs (b - 1)) (X xs b)):Pf blt xs a c:=λi j i1 i2 j1=>by
 by_cases e1:j<b
 ·exact h1 i j i1 i2 e1
 ·by_cases e2:b<=i
  ·exact h2 i j e2 i2 j1
  ·exact C.trans (h1 i (b - 1) i1 (by omega) (by omega)) (C.trans h (h2 b j (Ah _) (by omega) j1))
structure Good0(kd:Jw)(a₀:Array Keyed)(st:Bj):Prop where
 kind:kindOf st=kd
 fail:Jt st=none
 perm:(arrOf st).Perm a₀
theorem Good0.size{st:Bj}(g:Good0 kd a₀ st):(arrOf st).size=a₀.size:=g.perm.size_eq
theorem Good0.okX{st:Bj}(g:Good0 kd a₀ st)(h0:∀x∈a₀.toList,Ok x){i:Nat}(hi:i<a₀.size):Ok (X (arrOf st) i):=by
 have e:=Uj (xs:=arrOf st) (i:=i) (by rw[g.size]; exact hi)
 exact h0 _ ((Je.mp g.perm).mem_iff.mp (Ij e))
theorem sT{st:Bj}(g:Good0 kd a₀ st)(h0:∀x∈a₀.toList,Ok x){b n:Nat}(h:b+n<=a₀.size):Row Ok (arrOf st) b n (λi=>X (arrOf st) (b+i)) :=
 ⟨λi hi=>Uj (by rw[g.size]; omega),λi hi=>g.okX h0 (by omega)⟩
theorem A8{st st':Bj}{Q:Unit->Bj->Prop}(h:Q () st'):wpS (model prog w) A E s (set st':StateT Bj Sem Unit) Q st:=by
 unfold wpS
 rw[StateT.run_set]
 exact Am ⟨rfl,h⟩
theorem iV(C:Cmp prog w A s kd Ok blt){st:Bj}(g:Good0 kd a₀ st)(h0:∀x∈a₀.toList,Ok x){i sa na pa sb nb pb:Nat}(hi:(Ax st)[i]? = some (sa,na,pa))(hj:(Ax st)[i+1]? = some (sb,nb,pb))(e1:sb=sa+na)(n1:1<=na)(n2:1<=nb)(hz:sb+nb<=a₀.size)(s1:Pf blt (arrOf st) sa sb)(s2:Pf blt (arrOf st) sb (sb+nb)){Q:Bool->Bj->Prop}(h:∀st',Good0 kd a₀ st'->Ax st'=((Ax st).setIfInBounds i (sa,na+nb,pa)).eraseIdxIfInBounds (i+1)->Pf blt (arrOf st') sa (sb+nb)->cX (arrOf st) (arrOf st') sa (sb+nb)->Q true st'):wpS (model prog w) A E s (Sn i) Q st:=by
 have hsz:(arrOf st).size=a₀.size:=g.size
 unfold Sn
 refine Ar (Ld ?_)
 rw[hi,hj]
 dsimp only
 refine Ar (A8 ?_)
 refine Ar (Ey (Uj (xs:=arrOf st) (i:=sb) (by rw[hsz]; omega)) ?_)
 show wpS (model prog w) A E s _ _ (Tv (kindOf st) (arrOf st) (((Ax st).setIfInBounds i (sa,na+nb,pa)).eraseIdxIfInBounds (i+1)) (gallopOf st) (Jt st))
 generalize hst1:Tv (kindOf st) (arrOf st) (((Ax st).setIfInBounds i (sa,na+nb,pa)).eraseIdxIfInBounds (i+1)) (gallopOf st) (Jt st)=st1
 have k1:kindOf st1=kd:=by rw[<- hst1]; exact g.kind
 have ar1:arrOf st1=arrOf st:=by rw[<- hst1]
 have pd1:Ax st1=((Ax st).setIfInBounds i (sa,na+nb,pa)).eraseIdxIfInBounds (i+1):=by rw[<- hst1]
 have fl1:Jt st1=none:=by rw[<- hst1]; exact g.fail
 have g1:Good0 kd a₀ st1:=⟨k1,fl1,by rw[ar1]; exact g.perm⟩
 have same:Good0 kd a₀ st1->Pf blt (arrOf st) sa (sb+nb)->Q true st1:=λgg as=>h st1 gg pd1 (by rw[ar1]; exact as) (by rw[ar1]; exact cX.refl _ _ _)
 refine Ar (Lo C (hint:=0) (n:=na) (sT g h0 (b:=sa) (n:=na) (by omega)) (g.okX h0 (i:=sb) (by omega)) k1 (by omega) (λa c hac hc q1=>?_) λk kn t1 t2=>?_)
 ·simp only[Fv,Bd,if_false,Iw] at q1 ⊢
  exact C.trans (s1 _ _ (by omega) (by omega) (by omega)) q1
 dsimp only
 have f1:∀m,m<k->le blt (X (arrOf st) (sa+m)) (X (arrOf st) sb):=λm hm=>by
  have:=t1 m hm
  have z:blt (X (arrOf st) sb) (X (arrOf st) (sa+m))=false:=by simpa only [Fv,Bd,if_false,Iw] using this
  exact z
 by_cases c1:na - k=0
 ·rw[if_pos (by rw[c1]; rfl)]
  refine Ay (same g1 (fX C (by omega) s1 s2 ?_))
  have:=f1 (na - 1) (by omega)
  rw[show sa+(na - 1)=sb - 1 by omega] at this
  exact this
 rw[if_neg (λz=>c1 (Dg z))]
 have f2:blt (X (arrOf st) sb) (X (arrOf st) (sa+k))=true:=by
  have:=t2 k (Ah _) (by omega)
  simpa only [Fv,Bd,if_false,Vi] using this
 have el:sa+k+(na - k) - 1=sb - 1:=by omega
 rw[el]
 refine Ar (Ey (Uj (xs:=arrOf st) (i:=sb - 1) (by rw[hsz]; omega)) ?_)
 refine Ar (Lo C (hint:=nb - 1) (n:=nb) (sT g h0 (b:=sb) (n:=nb) (by omega)) (g.okX h0 (i:=sb - 1) (by omega)) k1 (by omega) (λa c hac hc q1=>?_) λl ln u1 u2=>?_)
 ·simp only[Fv,if_true] at q1 ⊢
  exact C.leLt (s2 _ _ (by omega) (by omega) (by omega)) q1
 dsimp only
 have f3:∀m,m<l->blt (X (arrOf st) (sb+m)) (X (arrOf st) (sb - 1))=true:=λm hm=>by
  have:=u1 m hm
  simpa only [Fv,if_true] using this
 have f4:∀m,l<=m->m<nb->le blt (X (arrOf st) (sb - 1)) (X (arrOf st) (sb+m)):=λm h1 h2=>by
  have:=u2 m h1 h2
  have z:blt (X (arrOf st) (sb+m)) (X (arrOf st) (sb - 1))=false:=by simpa only [Fv,if_true] using this
  exact z
 by_cases c2:l=0
 ·rw[if_pos (by rw[c2]; rfl)]
  subst c2
  exact Ay (same g1 (fX C (by omega) s1 s2 (f4 0 (Ah _) (by omega))))
 rw[if_neg (λz=>c2 (Dg z))]
 have ep:(arrOf st).extract (sa+k) sb=(arrOf st).extract (sa+k) (sa+k+(na - k)):=by rw[show sa+k+(na - k)=sb by omega]
 rw[ep]
 have hp:sa+k+(na - k)<=(arrOf st).size:=by omega
 have hq:sb+l<=(arrOf st).size:=by omega
 have T:Two Ok blt ((arrOf st).extract (sa+k) (sa+k+(na - k))) ((arrOf st).extract sb (sb+l)) (X (arrOf st) (sa+k)) (X (arrOf st) sb) (X (arrOf st) (sb - 1)):=by
  refine ⟨λx hx=>?_,λx hx=>?_,Xk C hp s1 (by omega) (by omega),Xk C hq s2 (by omega) (by omega),?_,?_,?_,f2,λy hy=>?_⟩
  ·obtain ⟨m,hm,rfl⟩:=Ti hp hx
   exact g.okX h0 (by omega)
  ·obtain ⟨m,hm,rfl⟩:=Ti hq hx
   exact g.okX h0 (by omega)
  ·exact Um hp (by omega)
  ·exact Um hq (by omega)
  ·rw[Pn hp,Um hp (by omega),show sa+k+(na - k - 1)=sb - 1 by omega]
  ·obtain ⟨m,hm,rfl⟩:=Ti hq hy
   exact f3 m hm
 -- bT the merge
 have fin:∀(r:Array Keyed) (st2:Bj),Kept st1 st2->gS blt ((arrOf st).extract (sa+k) (sa+k+(na - k))) ((arrOf st).extract sb (sb+l)) r ->
   Q (Jt (setArr st2 (Lv (arrOf st2) (sa+k) r.toList.zipIdx))).isNone (setArr st2 (Lv (arrOf st2) (sa+k) r.toList.zipIdx)):=by
  intro r st2 kp hr
  have ar2:arrOf st2=arrOf st:=kp.arr.trans ar1
  have fl2:Jt st2=none:=kp.fail.trans fl1
  have rsz:r.size=na - k+l:=by
   have:=hr.1.length_eq
   rw[Aw,Aj,Aj,Aj,Pn hp,Pn hq] at this
   exact this
  have seg:((arrOf st).toList.drop (sa+k)).take (na - k+l)=((arrOf st).extract (sa+k) (sa+k+(na - k))).toList++((arrOf st).extract sb (sb+l)).toList:=by
   rw[Tg,Tg,List.take_add,List.drop_drop,show sa+k+(na - k)=sb by omega]
  have pa':=Ys (sa+k) r.toList 0 (arrOf st) (by rw[Aj]; omega)
  have xat:∀m,X (Lv (arrOf st) (sa+k) r.toList.zipIdx) m=if sa+k<=m/\m<sb+l then X r (m - (sa+k)) else X (arrOf st) m:=λm=>by
   have:=pa'.2 m
   rw[Aj,rsz,Nat.add_zero] at this
   by_cases hm:sa+k<=m/\m<sb+l
   ·rw[if_pos hm]
    rw[if_pos (by omega)] at this
    refine Of (this.trans ?_)
    simp
   ·rw[if_neg hm]
    rw[if_neg (by omega)] at this
    exact Of this
  -- each thing of the merged is one of the two runs'
  have from2:∀m,m<na - k+l->(∃c,sa+k<=c/\c<sb/\X r m=X (arrOf st) c)\/(∃c,sb<=c/\c<sb+l/\X r m=X (arrOf st) c):=λm hm=>by
   have hx:=Ij (Uj (xs:=r) (i:=m) (by omega))
   rcases Au.mp (hr.1.mem_iff.mp hx) with z | z
   ·obtain ⟨c,hc,e⟩:=Ti hp z
    exact .inl ⟨sa+k+c,by omega,by omega,e⟩
   ·obtain ⟨c,hc,e⟩:=Ti hq z
    exact .inr ⟨sb+c,by omega,by omega,e⟩
  have rs:∀m n,m<=n->n<na - k+l->le blt (X r m) (X r n):=λm n hmn hn=>Js C hr.2 hmn (Du (Uj (by omega))) (Du (Uj (by omega)))
  have e3:Jt (setArr st2 (Lv (arrOf st2) (sa+k) r.toList.zipIdx))=none:=fl2
  rw[e3]
  refine h _ ⟨kp.kind.trans k1,e3,?_⟩ (kp.pend.trans pd1) ?_ ?_
  ·show (Lv (arrOf st2) (sa+k) r.toList.zipIdx).Perm a₀
   rw[ar2]
   refine (iH (by omega) rsz ?_).trans g.perm
   rw[seg]
   exact hr.1
  ·show Pf blt (Lv (arrOf st2) (sa+k) r.toList.zipIdx) sa (sb+nb)
   rw[ar2]
   intro c d c1 cd d1
   rw[xat,xat]
   by_cases zc:sa+k<=c/\c<sb+l
   ·rw[if_pos zc]
    by_cases zd:sa+k<=d/\d<sb+l
    ·rw[if_pos zd]
     exact rs _ _ (by omega) (by omega)
    ·rw[if_neg zd]
     rcases from2 (c - (sa+k)) (by omega) with ⟨b,b1,b2,e⟩ | ⟨b,b1,b2,e⟩
     ·rw[e]
      refine C.trans (s1 b (sb - 1) (by omega) (by omega) (by omega)) ?_
      have:=f4 (d - sb) (by omega) (by omega)
      rw[show sb+(d - sb)=d by omega] at this
      exact this
     ·rw[e]
      exact s2 b d b1 (by omega) (by omega)
   ·rw[if_neg zc]
    by_cases zd:sa+k<=d/\d<sb+l
    ·rw[if_pos zd]
     rcases from2 (d - (sa+k)) (by omega) with ⟨b,b1,b2,e⟩ | ⟨b,b1,b2,e⟩
     ·rw[e]
      exact s1 c b c1 (by omega) b2
     ·rw[e]
      have:=f1 (c - sa) (by omega)
      rw[show sa+(c - sa)=c by omega] at this
      exact C.trans this (s2 sb b (Ah _) b1 (by omega))
    ·rw[if_neg zd]
     by_cases y1:d<sb
     ·exact s1 c d c1 cd y1
     ·by_cases y2:sb<=c
      ·exact s2 c d y2 cd d1
      ·have:=f1 (c - sa) (by omega)
       rw[show sa+(c - sa)=c by omega] at this
       exact C.trans this (s2 sb d (Ah _) (by omega) d1)
  ·show cX (arrOf st) (Lv (arrOf st2) (sa+k) r.toList.zipIdx) sa (sb+nb)
   rw[ar2]
   intro m hm
   rw[xat,if_neg (by omega)]
 by_cases c3:na - k<=l
 ·rw[if_pos c3]
  refine Ar (gW C T k1 λr st2 kp hr=>?_)
  exact Ar (Il (Ar (Ld (Ay (fin r st2 kp hr)))))
 ·rw[if_neg c3]
  refine Ar (hV C T k1 λr st2 kp hr=>?_)
  exact Ar (Il (Ar (Ld (Ay (fin r st2 kp hr)))))
end
def Zu:StateT Bj Sem Unit:=sortPriv% PySem.Builtin.sortRuns
def Runs(blt:Keyed->Keyed->Bool)(xs:Array Keyed):List (Nat×Nat×Nat)->Nat->Nat->Prop
 | [],a,b=>a=b
 | (s,n,_)::r,a,b=>s=a/\1<=n/\Pf blt xs a (a+n)/\Runs blt xs r (a+n) b
variable{blt:Keyed->Keyed->Bool}
theorem Runs.len{xs:Array Keyed}:∀{l:List (Nat×Nat×Nat)} {a b:Nat},Runs blt xs l a b->a+l.length<=b
 | [],a,b,h=>by
  have e:a=b:=h
  rw[Ka]
  omega
 | (s,n,p)::r,a,b,h=>by
  have:=Runs.len h.2.2.2
  have:=h.2.1
  rw[Bi]
  omega
theorem Pf.out{xs ys:Array Keyed}{a b c d:Nat}(h:Pf blt xs a b)(o:cX xs ys c d)(e:b<=c\/d<=a):Pf blt ys a b:=λi j i1 i2 j1=>by
 rw[o i (by omega),o j (by omega)]
 exact h i j i1 i2 j1
theorem Runs.out{xs ys:Array Keyed}{c d:Nat}(o:cX xs ys c d):∀{l:List (Nat×Nat×Nat)} {a b:Nat},(b<=c\/d<=a)->Runs blt xs l a b->Runs blt ys l a b
 | [],_,_,_,h=>h
 | (s,n,p)::r,a,b,e,h=>by
  have hl:=Runs.len h.2.2.2
  exact ⟨h.1,h.2.1,h.2.2.1.out o (by omega),Runs.out o (by omega) h.2.2.2⟩
theorem Runs.push{xs:Array Keyed}{m q:Nat}(hm:1<=m):∀{l:List (Nat×Nat×Nat)} {a b:Nat},Runs blt xs l a b->Pf blt xs b (b+m)->Runs blt xs (l++[(b,m,q)]) a (b+m)
 | [],a,b,h,hs=>by
  have e:a=b:=h
  subst e
  exact ⟨rfl,hm,hs,rfl⟩
 | (s,n,p)::r,a,b,h,hs=>⟨h.1,h.2.1,h.2.2.1,Runs.push hm h.2.2.2 hs⟩
theorem Runs.power{xs:Array Keyed}{pw:Nat}:∀{l:List (Nat×Nat×Nat)} {a b:Nat} (k:Nat),Runs blt xs l a b->Runs blt xs (l.modify k λx=>(x.1,x.2.1,pw)) a b
 | [],_,_,k,h=>by simpa using h
 | (s,n,p)::r,a,b,0,h=>by
  rw[List.modify_zero_cons]
  exact h
 | (s,n,p)::r,a,b,k+1,h=>by
  rw[List.modify_succ_cons]
  exact ⟨h.1,h.2.1,h.2.2.1,Runs.power k h.2.2.2⟩
theorem Runs.two{xs:Array Keyed}:∀{l:List (Nat×Nat×Nat)} {a b i sa na pa sb nb pb:Nat},Runs blt xs l a b->l[i]? = some (sa,na,pa)->l[i+1]? = some (sb,nb,pb)->sb=sa+na/\1<=na/\1<=nb/\a<=sa/\sb+nb<=b/\Pf blt xs sa sb/\Pf blt xs sb (sb+nb)
 | [],_,_,_,_,_,_,_,_,_,_,h,_=>by simp at h
 | (s,n,p)::r,a,b,0,sa,na,pa,sb,nb,pb,h,h1,h2=>by
  obtain ⟨e,hn,hs,hr⟩:=h
  have q:s=sa/\n=na/\p=pa:=by simpa using h1
  obtain ⟨q1,q2,q3⟩:=q
  subst q1 q2 q3
  subst e
  cases r with
  | nil=>simp at h2
  | cons y r' =>
   obtain ⟨s',n',p'⟩:=y
   have q':s'=sb/\n'=nb/\p'=pb:=by simpa using h2
   obtain ⟨q1,q2,q3⟩:=q'
   subst q1 q2 q3
   obtain ⟨e',hn',hs',hr'⟩:=hr
   have:=Runs.len hr'
   exact ⟨e',hn,hn',Ah _,by omega,by rw[e']; exact hs,by rw[e']; exact hs'⟩
 | (s,n,p)::r,a,b,i+1,sa,na,pa,sb,nb,pb,h,h1,h2=>by
  have:=Runs.two h.2.2.2 (by simpa using h1) (by simpa using h2)
  exact ⟨this.1,this.2.1,this.2.2.1,by have:=this.2.2.2.1; have:=h.2.1; omega,this.2.2.2.2.1,this.2.2.2.2.2⟩
theorem Runs.merge{xs ys:Array Keyed}:∀{l:List (Nat×Nat×Nat)} {a b i sa na pa sb nb pb:Nat},Runs blt xs l a b->l[i]? = some (sa,na,pa)->l[i+1]? = some (sb,nb,pb)->cX xs ys sa (sb+nb)->Pf blt ys sa (sb+nb)->Runs blt ys ((l.set i (sa,na+nb,pa)).eraseIdx (i+1)) a b
 | [],_,_,_,_,_,_,_,_,_,_,h,_,_,_=>by simp at h
 | (s,n,p)::r,a,b,0,sa,na,pa,sb,nb,pb,h,h1,h2,o,as=>by
  have tw:=Runs.two h h1 h2
  obtain ⟨e,hn,hs,hr⟩:=h
  have q:s=sa/\n=na/\p=pa:=by simpa using h1
  obtain ⟨q1,q2,q3⟩:=q
  subst q1 q2 q3
  subst e
  cases r with
  | nil=>simp at h2
  | cons y r' =>
   obtain ⟨s',n',p'⟩:=y
   have q':s'=sb/\n'=nb/\p'=pb:=by simpa using h2
   obtain ⟨q1,q2,q3⟩:=q'
   subst q1 q2 q3
   obtain ⟨e',hn',hs',hr'⟩:=hr
   rw[List.set_cons_zero,Pe,List.eraseIdx_cons_zero]
   refine ⟨rfl,by omega,?_,?_⟩
   ·rw[show s+(n+n')=s'+n' by omega]
    exact as
   ·rw[show s+(n+n')=s+n+n' by omega]
    exact Runs.out o (.inr (by omega)) hr'
 | (s,n,p)::r,a,b,i+1,sa,na,pa,sb,nb,pb,h,h1,h2,o,as=>by
  have tw:=Runs.two (i:=i) h.2.2.2 (by simpa using h1) (by simpa using h2)
  rw[List.set_cons_succ,Pe]
  exact ⟨h.1,h.2.1,h.2.2.1.out o (.inl tw.2.2.2.1),Runs.merge h.2.2.2 (by simpa using h1) (by simpa using h2) o as⟩
theorem aO(P:Array (Nat×Nat×Nat))(i:Nat)(v:Nat×Nat×Nat):((P.setIfInBounds i v).eraseIdxIfInBounds (i+1)).toList=(P.toList.set i v).eraseIdx (i+1):=by
 rw[Array.toList_eraseIdxIfInBounds,aX]
section
variable{prog:Bm}{w:World}{A:Cr}{s:Ai}{kd:Jw}{Ok:Keyed->Prop}{E:Value->Ai->Prop}{a₀:Array Keyed}
theorem Mn{α:Type}{c:Prop}[Decidable c]{p q:StateT Bj Sem α}{Q:α->Bj->Prop}{st:Bj}(h1:c->wpS (model prog w) A E s p Q st)(h2:¬ c->wpS (model prog w) A E s q Q st):wpS (model prog w) A E s (if c then p else q) Q st:=by
 by_cases h:c
 ·rw[if_pos h]; exact h1 h
 ·rw[if_neg h]; exact h2 h
theorem bJ(C:Cmp prog w A s kd Ok blt){st:Bj}(g:Good0 kd a₀ st)(h0:∀x∈a₀.toList,Ok x){lo i:Nat}(hlo:lo<=a₀.size)(rn:Runs blt (arrOf st) (Ax st).toList 0 lo)(hi:i+1<(Ax st).size){Q:Bool->Bj->Prop}(h:∀st',Good0 kd a₀ st'->Runs blt (arrOf st') (Ax st').toList 0 lo->(Ax st').size+1=(Ax st).size->(∀c d,lo<=c->Pf blt (arrOf st) c d->Pf blt (arrOf st') c d)->Q true st'):wpS (model prog w) A E s (Sn i) Q st:=by
 obtain ⟨⟨sa,na,pa⟩,ha⟩ : ∃x,(Ax st)[i]? = some x:=⟨(Ax st)[i],by simp⟩
 obtain ⟨⟨sb,nb,pb⟩,hb⟩ : ∃x,(Ax st)[i+1]? = some x:=⟨(Ax st)[i+1],by simp⟩
 have la:(Ax st).toList[i]? = some (sa,na,pa):=by simpa using ha
 have lb:(Ax st).toList[i+1]? = some (sb,nb,pb):=by simpa using hb
 obtain ⟨t1,t2,t3,t4,t5,t6,t7⟩:=rn.two la lb
 refine iV C g h0 ha hb t1 t2 t3 (by omega) t6 t7 λst' g' pd as ou=>?_
 refine h st' g' ?_ ?_ λc d hc hs=>hs.out ou (.inr (by omega))
 ·rw[pd,aO]
  exact rn.merge la lb ou as
 ·have : (Ax st').toList.length+1=(Ax st).toList.length:=by
   rw[pd,aO,List.length_eraseIdx,List.length_set,Aj,if_pos hi]
   omega
  simpa using this
theorem xQ{st:Bj}(g:Good0 kd a₀ st):Good kd a₀ (Ax st) st:=⟨g.kind,g.fail,g.perm,rfl⟩
theorem dD{st:Bj}{p:Array (Nat×Nat×Nat)}(g:Good kd a₀ p st):Good0 kd a₀ st:=⟨g.kind,g.fail,g.perm⟩
theorem aB(C:Cmp prog w A s kd Ok blt){st:Bj}(g:Good0 kd a₀ st)(h0:∀x∈a₀.toList,Ok x)(hp:Ax st=#[])(hz:1<=a₀.size){Q:Unit->Bj->Prop}(h:∀st',Good0 kd a₀ st'->Pf blt (arrOf st') 0 a₀.size->Q () st'):wpS (model prog w) A E s Zu Q st:=by
 unfold Zu
 refine Ar (Ld ?_)
 have hsz:(arrOf st).size=a₀.size:=g.size
 dsimp only
 rw[hsz]
 generalize (sortPriv% PySem.Builtin.minRun) a₀.size a₀.size 0=mr
 refine Ar (Gm (Ed
  (I:=λx c st'=>∃lo,c=(none,lo)/\Good0 kd a₀ st'/\Runs blt (arrOf st') (Ax st').toList 0 lo/\lo<=a₀.size/\x<=lo)
  (Q:=λc st'=>c=(none,a₀.size)/\Good0 kd a₀ st'/\Runs blt (arrOf st') (Ax st').toList 0 a₀.size) ?_ ?_ ⟨0,rfl,g,by rw[hp]; exact rfl,by omega,by omega⟩) ?_)
 ·(intro x c st1 _ hx q_; obtain ⟨lo,rfl,g1,rn,hlo,hxl⟩ := q_)
  dsimp only
  by_cases hge:lo ≥ a₀.size
  ·rw[if_pos hge]
   have e:lo=a₀.size:=by omega
   subst e
   exact Ay ⟨rfl,g1,rn⟩
  rw[if_neg hge]
  refine Ar (rK C (xQ g1) h0 (lo:=lo) (b:=a₀.size - lo) (by omega) (by omega) λm st2 g2 m1 m2 as ou=>?_)
  dsimp only
  have rn2:Runs blt (arrOf st2) (Ax st2).toList 0 lo:=by
   rw[g2.pd]
   exact rn.out ou (.inl (Ah _))
  have g2':=dD g2
  clear rn g1
  refine Mn (λhmin=>?_) (λhmin=>?_)
  ·refine Ar (Qf ?_)
   refine Ar (oF C g2 h0 (lo:=lo) (n:=min (a₀.size - lo) mr) (ok:=m) (by omega) as (by omega) λOz g3 as3 ou3=>?_)
   refine Mn (λz=>absurd z (by decide)) (λ_=>?_)
   have n1:1<=min (a₀.size - lo) mr:=by omega
   have n2:lo+min (a₀.size - lo) mr<=a₀.size:=by omega
   have rn3:Runs blt (arrOf Oz) (Ax Oz).toList 0 lo:=by
    rw[g3.pd,<- g2.pd]
    exact rn2.out ou3 (.inl (Ah _))
   have g3':=dD g3
   generalize min (a₀.size - lo) mr=n at as3 n1 n2
   clear g2 g2' rn2 as ou ou3 g3 m1 m2 hmin
   refine Ar (Ld ?_)
   cases hb:(Ax Oz).back? with
   | none =>
    dsimp only
    refine Ar (Il ?_)
    refine Ay ⟨lo+n,rfl,⟨g3'.kind,g3'.fail,g3'.perm⟩,?_,n2,by omega⟩
    show Runs blt (arrOf Oz) ((Ax Oz).push (lo,n,0)).toList 0 (lo+n)
    rw[Ik]
    exact rn3.push n1 as3
   | some y =>
    obtain ⟨s1,l1,p1⟩:=y
    dsimp only
    refine Ar (Gm (Ed
     (I:=λ_ c st'=>c=(none,())/\Good0 kd a₀ st'/\Runs blt (arrOf st') (Ax st').toList 0 lo/\Pf blt (arrOf st') lo (lo+n))
     (Q:=λc st'=>c=(none,())/\Good0 kd a₀ st'/\Runs blt (arrOf st') (Ax st').toList 0 lo/\Pf blt (arrOf st') lo (lo+n)) ?_ (λ_ _ z=>z) ⟨rfl,g3',rn3,as3⟩) ?_)
    ·(intro z c st4 _ _ q_; obtain ⟨rfl,g4,rn4,as4⟩ := q_)
     refine Ar (Ld ?_)
     by_cases hs1:(Ax st4).size > 1
     ·rw[if_pos hs1]
      obtain ⟨⟨a1,b1,older⟩,ho⟩ : ∃x,(Ax st4)[(Ax st4).size - 2]? = some x:=⟨(Ax st4)[(Ax st4).size - 2],by simp⟩
      rw[ho]
      dsimp only
      refine Mn (λ_=>Ay ⟨rfl,g4,rn4,as4⟩) (λ_=>?_)
      refine Ar (bJ C g4 h0 hlo rn4 (i:=(Ax st4).size - 2) (show (Ax st4).size - 2+1<(Ax st4).size by omega) λst5 g5 rn5 _ keep=>?_)
      refine Mn (λz=>absurd z (by decide)) (λ_=>?_)
      exact Ay ⟨rfl,g5,rn5,keep _ _ (Ah _) as4⟩
     ·rw[if_neg hs1]
      exact Ay ⟨rfl,g4,rn4,as4⟩
    ·(intro c st4 q_; obtain ⟨rfl,g4,rn4,as4⟩ := q_)
     dsimp only
     refine Ar (Il ?_)
     refine Ar (Il ?_)
     refine Ay ⟨lo+n,rfl,⟨g4.kind,g4.fail,g4.perm⟩,?_,n2,by omega⟩
     show Runs blt (arrOf st4) (((Ax st4).modify ((Ax st4).size - 1) _).push (lo,n,0)).toList 0 (lo+n)
     rw[Ik,Array.toList_modify]
     exact (rn4.power _).push n1 as4
  ·have n2:lo+m<=a₀.size:=by omega
   refine Ar (Ld ?_)
   cases hb:(Ax st2).back? with
   | none =>
    dsimp only
    refine Ar (Il ?_)
    refine Ay ⟨lo+m,rfl,⟨g2'.kind,g2'.fail,g2'.perm⟩,?_,n2,by omega⟩
    show Runs blt (arrOf st2) ((Ax st2).push (lo,m,0)).toList 0 (lo+m)
    rw[Ik]
    exact rn2.push m1 as
   | some y =>
    obtain ⟨s1,l1,p1⟩:=y
    dsimp only
    refine Ar (Gm (Ed
     (I:=λ_ c st'=>c=(none,())/\Good0 kd a₀ st'/\Runs blt (arrOf st') (Ax st').toList 0 lo/\Pf blt (arrOf st') lo (lo+m))
     (Q:=λc st'=>c=(none,())/\Good0 kd a₀ st'/\Runs blt (arrOf st') (Ax st').toList 0 lo/\Pf blt (arrOf st') lo (lo+m)) ?_ (λ_ _ z=>z) ⟨rfl,g2',rn2,as⟩) ?_)
    ·(intro z c st4 _ _ q_; obtain ⟨rfl,g4,rn4,as4⟩ := q_)
     refine Ar (Ld ?_)
     by_cases hs1:(Ax st4).size > 1
     ·rw[if_pos hs1]
      obtain ⟨⟨a1,b1,older⟩,ho⟩ : ∃x,(Ax st4)[(Ax st4).size - 2]? = some x:=⟨(Ax st4)[(Ax st4).size - 2],by simp⟩
      rw[ho]
      dsimp only
      refine Mn (λ_=>Ay ⟨rfl,g4,rn4,as4⟩) (λ_=>?_)
      refine Ar (bJ C g4 h0 hlo rn4 (i:=(Ax st4).size - 2) (show (Ax st4).size - 2+1<(Ax st4).size by omega) λst5 g5 rn5 _ keep=>?_)
      refine Mn (λz=>absurd z (by decide)) (λ_=>?_)
      exact Ay ⟨rfl,g5,rn5,keep _ _ (Ah _) as4⟩
     ·rw[if_neg hs1]
      exact Ay ⟨rfl,g4,rn4,as4⟩
    ·(intro c st4 q_; obtain ⟨rfl,g4,rn4,as4⟩ := q_)
     dsimp only
     refine Ar (Il ?_)
     refine Ar (Il ?_)
     refine Ay ⟨lo+m,rfl,⟨g4.kind,g4.fail,g4.perm⟩,?_,n2,by omega⟩
     show Runs blt (arrOf st4) (((Ax st4).modify ((Ax st4).size - 1) _).push (lo,m,0)).toList 0 (lo+m)
     rw[Ik,Array.toList_modify]
     exact (rn4.power _).push m1 as4
 ·(intro c st1 q_; obtain ⟨lo,rfl,g1,rn,hlo,hxl⟩ := q_)
  have : max 0 a₀.size=a₀.size:=by omega
  rw[this] at hxl
  have e:lo=a₀.size:=by omega
  subst e
  exact ⟨rfl,g1,rn⟩
 ·(intro c st1 q_; obtain ⟨rfl,g1,rn⟩ := q_)
  dsimp only
  have len0:=Runs.len rn
  rw[Aj] at len0
  refine Ar (Gm (Ed
   (I:=λx c st'=>c=(none,())/\Good0 kd a₀ st'/\Runs blt (arrOf st') (Ax st').toList 0 a₀.size/\((Ax st').size<=1\/(Ax st').size+x<=a₀.size))
   (Q:=λc st'=>c=(none,())/\Good0 kd a₀ st'/\Runs blt (arrOf st') (Ax st').toList 0 a₀.size/\(Ax st').size<=1) ?_ ?_ ⟨rfl,g1,rn,.inr (by omega)⟩) ?_)
  ·(intro x c st2 _ hx q_; obtain ⟨rfl,g2,rn2,hs⟩ := q_)
   refine Ar (Ld ?_)
   refine Mn (λh1=>Ay ⟨rfl,g2,rn2,h1⟩) (λh1=>?_)
   have h1':¬ (Ax st2).size<=1:=h1
   generalize hB:Option.any _ _=bb
   have key:∀i,i+1<(Ax st2).size->wpS (model prog w) A E s (Sn i) (λr Oz=>r=true/\Good0 kd a₀ Oz/\Runs blt (arrOf Oz) (Ax Oz).toList 0 a₀.size/\(Ax Oz).size+1=(Ax st2).size) st2 :=
    λi hi=>bJ C g2 h0 (Ah _) rn2 hi λOz g3 rn3 sz _=>⟨rfl,g3,rn3,sz⟩
   refine Ar (Gm (key _ ?_) λr Oz ⟨er,g3,rn3,sz⟩=>?_)
   ·cases bb with
    | true=>show (Ax st2).size - 2 - 1+1<(Ax st2).size; omega
    | false=>show (Ax st2).size - 2+1<(Ax st2).size; omega
   subst er
   refine Mn (λz=>absurd z (by decide)) (λ_=>?_)
   exact Ay ⟨rfl,g3,rn3,.inr (by omega)⟩
  ·(intro c st2 q_; obtain ⟨rfl,g2,rn2,hs⟩ := q_)
   have : max 0 a₀.size=a₀.size:=by omega
   rw[this] at hs
   exact ⟨rfl,g2,rn2,by omega⟩
  ·(intro c st2 q_; obtain ⟨rfl,g2,rn2,hs⟩ := q_)
   dsimp only
   refine Ay (h st2 g2 ?_)
   generalize hl:(Ax st2).toList=l at rn2
   have hll:l.length<=1:=by rw[<- hl,Aj]; exact hs
   match l,rn2,hll with
   | [],rn2,_ =>
    have e:0=a₀.size:=rn2
    omega
   | [(s1,n1,p1)],rn2,_ =>
    obtain ⟨_,_,as,e⟩:=rn2
    have e':0+n1=a₀.size:=e
    rw[e'] at as
    exact as
end
end Ts
namespace Ts
open PySem PyProof.Rows L2
theorem Wu:∀l:List Int,HT.lexLt l l=false
 | []=>rfl
 | x::r=>by rw[HT.lexLt_cons,if_pos rfl]; exact Wu r
theorem Xb:∀{a b c:List Int},HT.lexLt a b=true->HT.lexLt b c=true->HT.lexLt a c=true
 | [],[],_,h,_=>by rw[HT.lexLt_nil_nil] at h; cases h
 | [],_::_,[],_,h=>by rw[HT.lexLt_cons_nil] at h; cases h
 | [],_::_,_::_,_,_=>HT.lexLt_nil_cons _ _
 | _::_,[],_,h,_=>by rw[HT.lexLt_cons_nil] at h; cases h
 | _::_,_::_,[],_,h=>by rw[HT.lexLt_cons_nil] at h; cases h
 | x::a,y::b,z::c,h1,h2=>by
  rw[HT.lexLt_cons] at h1 h2 ⊢
  by_cases e1:x=y
  ·subst e1
   rw[if_pos rfl] at h1
   by_cases e2:x=z
   ·subst e2
    rw[if_pos rfl] at h2 ⊢
    exact Xb h1 h2
   ·rw[if_neg e2] at h2 ⊢
    exact h2
  ·rw[if_neg e1] at h1
   have l1:x<y:=of_decide_eq_true h1
   by_cases e2:y=z
   ·subst e2
    rw[if_neg e1]
    exact h1
   ·rw[if_neg e2] at h2
    have l2:y<z:=of_decide_eq_true h2
    rw[if_neg (by omega)]
    exact decide_eq_true (by omega)
theorem cE:∀{a b:List Int},HT.lexLt a b=false->HT.lexLt b a=false->a=b
 | [],[],_,_=>rfl
 | [],_::_,h,_=>by rw[HT.lexLt_nil_cons] at h; cases h
 | _::_,[],_,h=>by rw[HT.lexLt_nil_cons] at h; cases h
 | x::a,y::b,h1,h2=>by
  rw[HT.lexLt_cons] at h1 h2
  by_cases e:x=y
  ·subst e
   rw[if_pos rfl] at h1 h2
   rw[cE h1 h2]
  ·rw[if_neg e] at h1
   rw[if_neg (Ow e)] at h2
   have l1:=of_decide_eq_false h1
   have l2:=of_decide_eq_false h2
   omega
theorem bH{a b c:List Int}(h:HT.lexLt a c=true):HT.lexLt a b=true\/HT.lexLt b c=true:=by
 cases h1:HT.lexLt a b with
 | true=>exact .inl rfl
 | false =>
  cases h2:HT.lexLt b a with
  | true=>exact .inr (Xb h2 h)
  | false =>
   rw[<- cE h1 h2]
   exact .inr h
def X3(c:Addr->List Int)(x:Keyed):List Int:=match x.1 with
 | .ref a=>c a
 | _=>[]
def X1(c:Addr->List Int)(x y:Keyed):Bool:=HT.lexLt (X3 c x) (X3 c y)
def iD(c:Addr->List Int)(rs:List Addr)(h:Heap):Prop:=∀r∈rs,∃its:List Value,He its (c r)/\IsTup h r its.toArray
section
variable{prog:Bm}{w:World}{A:Cr}{E:Value->Ai->Prop}{s:Ai}{c:Addr->List Int}{rs:List Addr}
theorem oQ(hH:iD c rs s.heap)(hu:A.units<cLine){a b:Addr}(ha:a∈rs)(hb:b∈rs){Q:Bool->Ai->Prop}(h:Q (HT.lexLt (c a) (c b)) s):wpAny (model prog w) A (oneLt' true (.ref a) (.ref b)) Q E s:=by
 obtain ⟨i1,t1,⟨c1,d1,dt1,sl1⟩,g1,k1,n1,e1⟩:=hH a ha
 obtain ⟨i2,t2,⟨c2,d2,dt2,sl2⟩,g2,k2,n2,e2⟩:=hH b hb
 simp only at k1 e1 k2 e2
 subst k1 e1 k2 e2
 rw[oneLt'_eq]
 simp only[if_true]
 refine Ac (wpAny_cRoomFor hu (Ac (wpAny_callSpecialIfBound?_slot ⟨_,g1,rfl⟩ PySem.F.slot_tuple_lt ?_)))
 refine call_meets PySem.F.slot_tuple_lt ⟨_,g1,rfl⟩ PySem.F.entry_tuple_lt (PySem.F.args_tuple_lt_2 _ _) (HT.tuple_lt_ints a b _ _ n1 n2 d1 d2 sl1 sl2 (c a) (c b) (by simpa using t1) (by simpa using t2)) ⟨g1,g2,?_⟩
 exact Gf h
theorem jN(hH:iD c rs s.heap)(hu:A.units<cLine):Cmp prog w A s oneType' (λx=>∃r∈rs,x.1=.ref r) (X1 c) where
 run:=λx y Q E ⟨r,hr,ex⟩ ⟨r',hr',ey⟩ h=>by
  obtain ⟨x1,x2⟩:=x
  obtain ⟨y1,y2⟩:=y
  simp only at ex ey
  subst ex ey
  rw[keyLt'_oneType]
  exact oQ hH hu hr hr' h
 irr:=λx=>Wu _
 tr:=λx y z h1 h2=>Xb h1 h2
 neg:=λx y z h=>bH h
theorem Ro:∀{l:List Addr} {Q:List (Option Value)->Ai->Prop},(∀r∈l,∃its:List Value,He its (c r)/\IsTup s.heap r its.toArray)->(∀fs:List (Option Value),fs.length=l.length->(∀(i:Nat) (r:Addr),l[i]? = some r->∃f,fs[i]? = some f/\(f.isSome=true↔c r≠[]))->Q fs s)->wpAny (model prog w) A ((l.map Ak).mapM Yw) Q E s
 | [],Q,_,h=>by
  rw[We,List.mapM_nil]
  exact Am (h [] rfl λi r e=>by simp at e)
 | r::l,Q,hH,h=>by
  obtain ⟨its,ti,o,g,k,n,e⟩:=hH r Aa
  rw[Bc,List.mapM_cons]
  have one:∀{R:Option Value->Ai->Prop},R its.toArray[0]? s->wpAny (model prog w) A (Yw (.ref r)) R E s:=λ{R} hR=>by
   unfold Yw
   refine Ac (Nu (T := "tuple") ⟨o,g,k⟩ ?_)
   rw[if_neg (by simp)]
   exact Ac (listItems_at g e (Am hR))
  refine Ac (one (Ac (Ro (λr' hr'=>hH r' (Ae _ hr')) λfs hl hf=>Am (h _ (by rw[Bi,Bi,hl]) λi r' er=>?_))))
  cases i with
  | zero =>
   have e':r=r':=by simpa using er
   subst e'
   refine ⟨_,rfl,?_⟩
   have hlen:=ti.length
   cases its with
   | nil =>
    cases hc:c r with
    | nil=>simp
    | cons _ _=>rw[hc] at hlen; simp at hlen
   | cons a b =>
    cases hc:c r with
    | nil=>rw[hc] at hlen; simp at hlen
    | cons _ _=>simp
  | succ i =>
   obtain ⟨f,h1,h2⟩:=hf i r' (by simpa using er)
   exact ⟨f,by simpa using h1,h2⟩
theorem Zv:∀{l:List Addr} {Q:List Value->Ai->Prop},(∀r∈l,∃its:List Value,He its (c r)/\IsTup s.heap r its.toArray)->Q (l.map λ_=>Ee "tuple") s->wpAny (model prog w) A ((l.map Ak).mapM typeOf) Q E s
 | [],Q,_,h=>by
  rw[We,List.mapM_nil]
  exact Am h
 | r::l,Q,hH,h=>by
  obtain ⟨its,ti,o,g,k,n,e⟩:=hH r Aa
  rw[Bc,List.mapM_cons]
  exact Ac (Nu (T := "tuple") ⟨o,g,k⟩ (Ac (Zv (λr' hr'=>hH r' (Ae _ hr')) (Am h))))
theorem dW{r:Addr}{l:List Addr}(hH:iD c (r::l) s.heap)(h0:c r=[]){Q:Jw->Ai->Prop}(h:Q oneType' s):wpAny (model prog w) A (keyKind' ((r::l).map Ak).toArray) Q E s:=by
 rw[keyKind'_eq,Wf]
 refine Ac ?_
 show wpAny (model prog w) A (List.toArray <$> ((r::l).map Ak).mapM Yw) _ E s
 rw[map_eq_pure_bind]
 refine Ac (Ro hH λfs hl hf=>Am ?_)
 obtain ⟨f,h1,h2⟩:=hf 0 r rfl
 have fn:f=none:=by
  cases f with
  | none=>rfl
  | some v=>exact absurd h0 (h2.mp rfl)
 subst fn
 have na:¬ (fs.toArray.all λx=>x.isSome)=true:=by
  intro z
  have:=Array.all_eq_true'.mp z none (by
   have:=Az h1
   simpa using this)
  simp at this
 have n0:¬ (fs.toArray[0]?.bind id).isSome=true:=by
  rw[List.getElem?_toArray,h1]
  simp
 rw[if_neg na,if_neg n0,oneTypeOnly'_eq,Wf]
 refine Ac (Ac ?_)
 show wpAny (model prog w) A (List.toArray <$> ((r::l).map Ak).mapM typeOf) _ E s
 rw[map_eq_pure_bind]
 refine Ac (Zv hH (Am ?_))
 have e0:((r::l).map λ_=>Ee "tuple").toArray[0]? = some (Ee "tuple"):=by simp
 have ea:(((r::l).map λ_=>Ee "tuple").toArray.all λx=>x == Ee "tuple")=true:=by
  simp only[List.all_toArray,Wg,List.all_eq_true]
  intro _ _
  rfl
 rw[e0]
 dsimp only
 rw[ea,if_pos rfl]
 exact Am (Am h)
theorem nR{a:Addr}{n:Nat}{P:Fin->Ai->Prop}(hl:s.heap.get? a=some (Cw "list" (rs.map Ak).toArray n))(hH:iD c rs s.heap)(h0:∀r l,rs=r::l->c r=[])(hu:A.units<cLine)(hz:rs.length<=Av)(h:∀rs':List Addr,rs'.Perm rs->rs'.Pairwise (λx y=>HT.lexLt (c y) (c x)=false)->P (.done (.ret .none)) { s with heap:=Sh s.heap a (rs.map Ak) (rs'.map Ak).toArray }):wpAny (model prog w) A (Builtin.«list.sort» ⟨[.ref a],[]⟩) P E s:=by
 have lt:=Bb hl
 have hsz:(rs.map Ak).toArray.size=rs.length:=by simp
 rw[list_sort_plain]
 refine Ac (listItems_at hl rfl (Ac (Mf hl rfl ?_ (by rw[hsz]; exact hz))))
 obtain ⟨ep,hl1⟩ : ∃ep,(s.heap.update a (Co λ_=>#[])).get? a=some (Cw "list" #[] ep):=⟨_,Tt hl (λ_=>#[])⟩
 refine Ac (Pu hl1 rfl (Ac (wpAny_newTuple (Ac (Yt (Ep ?_)) ))))
 have hl2:(((s.heap.update a (Co λ_=>#[])).push (Cw "tuple" (rs.map Ak).toArray 0)).push (Cw "list" #[] 0)).get? a=some (Cw "list" #[] ep):=by
  rw[Nx _ _ _ (by rw[Si,Gj]; exact Cc (Iz lt)),
   Nx _ _ _ (by rw[Gj]; exact Cc lt)]
  exact hl1
 have kept:∀b o,b≠a->s.heap.get? b=some o->(((s.heap.update a (Co λ_=>#[])).push (Cw "tuple" (rs.map Ak).toArray 0)).push (Cw "list" #[] 0)).get? b=some o:=λb o hb e=>by
  refine Al _ (Al _ ?_)
  exact ((Ek s.heap a _).2 b hb).trans e
 have hH2:iD c rs (((s.heap.update a (Co λ_=>#[])).push (Cw "tuple" (rs.map Ak).toArray 0)).push (Cw "list" #[] 0)):=λr hr=>by
  obtain ⟨its,t1,o,g1,k1,m1,e1⟩:=hH r hr
  refine ⟨its,t1,o,kept r o ?_ g1,k1,m1,e1⟩
  rintro rfl
  rw[hl] at g1
  cases g1
  exact absurd k1 (by simp)
 show wpAny (model prog w) A _ P E { s with heap:=((s.heap.update a (Co λ_=>#[])).push (Cw "tuple" (rs.map Ak).toArray 0)).push (Cw "list" #[] 0) }
 dsimp only
 -- what is left bT the runs
 have fin:∀(out:Array Value) (rs':List Addr),out=(rs'.map Ak).toArray->rs'.Perm rs->rs'.Pairwise (λx y=>HT.lexLt (c y) (c x)=false) ->
   P (.done (.ret .none)) { s with heap:=Sh s.heap a (rs.map Ak) out }:=λout rs' e p1 p2=>by rw[e]; exact h rs' p1 p2
 by_cases h2:(rs.map Ak).toArray.size<2
 ·rw[if_pos h2,if_pos h2]
  refine Ac (Am ?_)
  rw[StateT.run_pure]
  refine Ac (Am (Ac (Pu hl2 rfl (Ac (Mf hl2 rfl ?_ (by simp) ?_)))))
  ·simp only[bne_self_eq_false,Bd,if_false]
   refine Am (fin _ rs ?_ (Ic _) ?_)
   ·show Sg (λx=>x.2) ((rs.map Ak).toArray.zip (rs.map Ak).toArray)=_
    apply Array.ext'
    simp [List.map_snd_zip]
   ·rw[hsz] at h2
    match rs,h2 with
    | [],_=>exact Dz
    | [_],_=>exact Eh _ _
    | _::_::_,h2=>simp only[Bi] at h2; omega
  ·show (Sg (λx:Keyed=>x.2) ((rs.map Ak).toArray.zip (rs.map Ak).toArray)).size<=Av+1
   rw[Mu,Array.size_zip,hsz]
   omega
 ·rw[if_neg h2,if_neg h2]
  rw[hsz] at h2
  obtain ⟨r0,Ex,e0⟩ : ∃r l,rs=r::l:=by
   cases rs with
   | nil=>simp at h2
   | cons r l=>exact ⟨r,l,rfl⟩
  have hk:∀{R:Jw->Ai->Prop},R oneType' { s with heap:=((s.heap.update a (Co λ_=>#[])).push (Cw "tuple" (rs.map Ak).toArray 0)).push (Cw "list" #[] 0) } ->
    wpAny (model prog w) A (keyKind' (rs.map Ak).toArray) R E { s with heap:=((s.heap.update a (Co λ_=>#[])).push (Cw "tuple" (rs.map Ak).toArray 0)).push (Cw "list" #[] 0) }:=λ{R} hR=>by
   have hH3:=hH2
   rw[e0] at hH3 hR ⊢
   exact dW hH3 (h0 r0 Ex e0) hR
  refine Ac (hk ?_)
  have C:=jN (prog:=prog) (w:=w) (A:=A) (s:={ s with heap:=((s.heap.update a (Co λ_=>#[])).push (Cw "tuple" (rs.map Ak).toArray 0)).push (Cw "list" #[] 0) }) hH2 hu
  have a0:(Wb (rs.map Ak)).size=rs.length:=by rw[pairsOf_size,Ab]
  refine Ac (Cy (aB C (a₀:=Wb (rs.map Ak)) (st:=Tv oneType' ((rs.map Ak).toArray.zip (rs.map Ak).toArray) #[] 7 none) (E:=E)
   (Q:=λ_ st'=>Good0 oneType' (Wb (rs.map Ak)) st'/\Pf (X1 c) (arrOf st') 0 (Wb (rs.map Ak)).size)
   ⟨rfl,rfl,Array.Perm.refl _⟩ (λx hx=>?_) rfl (by rw[a0]; omega) λst' g as=>⟨g,as⟩) ?_ λ_ _ z=>z)
  ·rw[Vr] at hx
   obtain ⟨_,hm⟩:=aT hx
   obtain ⟨r,hr,e⟩:=Cp.mp hm
   exact ⟨r,hr,e.symm⟩
  ·(rintro ⟨⟨⟩,st'⟩ s' q_; obtain ⟨rfl,g,as⟩ := q_)
   dsimp only
   -- the things of the new order
   have pl:(arrOf st').toList.Perm ((rs.map Ak).zip (rs.map Ak)):=by rw[<- Vr]; exact Je.mp g.perm
   have each:∀x∈(arrOf st').toList,∃r∈rs,x=(Ak r,Ak r):=λx hx=>by
    obtain ⟨e,hm⟩:=aT (pl.mem_iff.mp hx)
    obtain ⟨r,hr,e2⟩:=Cp.mp hm
    refine ⟨r,hr,?_⟩
    obtain ⟨x1,x2⟩:=x
    simp only at e e2
    rw[<- e,e2]
   have ex:∀l:List Keyed,(∀x∈l,∃r∈rs,x=(Ak r,Ak r))->∃rs':List Addr,l=rs'.map λr=>(Ak r,Ak r):=by
    intro l
    induction l with
    | nil=>intro _; exact ⟨[],rfl⟩
    | cons x l ih =>
     intro hx
     obtain ⟨r,_,e⟩:=hx x Aa
     obtain ⟨rs',e'⟩:=ih λy hy=>hx y (Ae _ hy)
     exact ⟨r::rs',by rw[Bc,e,e']⟩
   obtain ⟨rs',ers⟩:=ex _ each
   have zz:(rs.map Ak).zip (rs.map Ak)=rs.map λr=>(Ak r,Ak r):=by
    rw[List.zip_map',]
   rw[ers,zz] at pl
   have inj:∀x:Keyed,∃a:Addr,True:=λ_=>⟨0,trivial⟩
   have pr:rs'.Perm rs:=by
    have:=pl.map (λx:Keyed=>match x.1 with | .ref a=>a | _=>0)
    rw[Ci,Ci] at this
    simpa [Function.comp_def] using this
   have so:rs'.Pairwise (λx y=>HT.lexLt (c y) (c x)=false):=by
    rw[Dc]
    intro i j hi hj hij
    have ls:(arrOf st').size=rs'.length:=by
     have:=congrArg Hb ers
     rw[Aj,Ab] at this
     exact this
    have xe:∀k (hk:k<rs'.length),X (arrOf st') k=(Ak rs'[k],Ak rs'[k]):=λk hk=>by
     have e1:=Du (Uj (xs:=arrOf st') (i:=k) (by omega))
     rw[ers,Bf,Cf hk] at e1
     exact (Bt e1).symm
    have:=as i j (Cz _) (by omega) (by rw[a0,<- pr.length_eq]; exact hj)
    rw[xe i hi,xe j hj] at this
    exact this
   refine Ac (Pu hl2 rfl (Ac (Mf hl2 rfl ?_ (by simp) ?_)))
   ·have fl:Jt st'=none:=g.fail
    rw[fl]
    simp only[bne_self_eq_false,Bd,if_false]
    refine Am (fin _ rs' ?_ pr so)
    apply Array.ext'
    rw[Array.toList_map,ers,Ci]
    rfl
   ·show (Sg (λx:Keyed=>x.2) (arrOf st')).size<=Av+1
    rw[Mu,g.size,a0]
    omega
end
theorem Ul:∀{rs:List Addr} {us:List Value},Fi (rs.map V.ref) us->us=rs.map Ak
 | [],_,r=>by cases r; rfl
 | a::l,_,r=>by
  rw[Bc] at r
  cases r with
  | cons r1 r2 =>
   cases r1
   rw[Ul r2]
   rfl
theorem Uh:∀rs:List Addr,Fi (rs.map V.ref) (rs.map Ak)
 | []=>.nil
 | _::l=>.cons rfl (Uh l)
section
variable{prog:Bm}{w:World}{A:Cr}{E:Value->Ai->Prop}{s:Ai}{c:Addr->List Int}{rs:List Addr}
theorem eV{l:Addr}{Q:Value->Ai->Prop}(hl:s.heap.IsList l (rs.map Ak).toArray)(hH:iD c rs s.heap)(h0:∀r l,rs=r::l->c r=[])(hu:A.units+2<cLine)(hz:rs.length<=Av)(h:∀rs':List Addr,rs'.Perm rs->rs'.Pairwise (λx y=>HT.lexLt (c y) (c x)=false)->Q (.ref (s.heap.objs.size+1)) { s with heap:=Wa s.heap (rs.map Ak) (rs'.map Ak).toArray }):wpAny (model prog w) A (call (.builtin "sorted") [.ref l]) Q E s:=by
 refine cV (by exact kind_sorted) plain_sorted entry_sorted (args_sorted1 _) ?_
 unfold Builtin.«sorted»
 refine Ac (m:=checkCount "sorted" 1 1 _) (Am (Ac (collect_list hl (Ac (Yt ?_)) (by rw[Ab]; exact hz))))
 have z1:((s.heap.push (Cw "list" #[] 0)).update s.heap.objs.size (Co (·++(rs.map Ak).toArray))).objs.size=s.heap.objs.size+1:=by rw[Gj,Si]
 have g1:(((s.heap.push (Cw "list" #[] 0)).update s.heap.objs.size (Co (·++(rs.map Ak).toArray))).push (Cw "list" (rs.map Ak).toArray 0)).get? (s.heap.objs.size+1)=some (Cw "list" (rs.map Ak).toArray 0):=by
  rw[<- z1]
  exact Bu _ rfl
 have kept:∀b o,s.heap.get? b=some o->(((s.heap.push (Cw "list" #[] 0)).update s.heap.objs.size (Co (·++(rs.map Ak).toArray))).push (Cw "list" (rs.map Ak).toArray 0)).get? b=some o:=λb o e=>by
  refine Al _ (((Ek _ _ _).2 b (Cc (Bb e))).trans (Al _ e))
 show wpAny _ _ _ _ _ { s with heap:=((s.heap.push (Cw "list" #[] 0)).update s.heap.objs.size (Co (·++(rs.map Ak).toArray))).push (Cw "list" (rs.map Ak).toArray 0) }
 rw[z1]
 refine Ac (Ep (Rc slot_list_sort ⟨_,g1,rfl⟩ entry_list_sort (nR g1 (λr hr=>?_) h0 ?_ hz λrs' p1 p2=>⟨_,rfl,?_⟩) (args_list_sort _)))
 ·obtain ⟨its,t1,o,q1,k1,m1,e1⟩:=hH r hr
  exact ⟨its,t1,o,kept r o q1,k1,m1,e1⟩
 ·first | exact Nh (by show A.units+2<=A.units+2; exact Ah _) hu | exact Nh (Ph _ 2) hu | (show A.units+1<cLine; omega) | trace_state
 ·exact Am ⟨_,rfl,h rs' p1 p2⟩
theorem Ou{h:Heap}{vs:List Value}{out:Array Value}{b:Addr}{o:Obj}(e:h.get? b=some o):(Wa h vs out).get? b=some o:=by
 have lt:=Bb e
 unfold Wa Sh
 have z1:((h.push (Cw "list" #[] 0)).update h.objs.size (Co (·++vs.toArray))).objs.size=h.objs.size+1:=by rw[Gj,Si]
 have n1:b≠h.objs.size+1:=Cc (Iz lt)
 refine ((Ek _ _ _).2 b n1).trans (Al _ (Al _ (((Ek _ _ _).2 b n1).trans (Al _ ?_))))
 exact ((Ek _ _ _).2 b (Cc lt)).trans (Al _ e)
theorem Qy{h:Heap}{vs:List Value}{out:Array Value}:∃n,(Wa h vs out).get? (h.objs.size+1)=some (Cw "list" out n):=by
 unfold Wa Sh
 have z1:((h.push (Cw "list" #[] 0)).update h.objs.size (Co (·++vs.toArray))).objs.size=h.objs.size+1:=by rw[Gj,Si]
 have g1:(((h.push (Cw "list" #[] 0)).update h.objs.size (Co (·++vs.toArray))).push (Cw "list" vs.toArray 0)).get? (h.objs.size+1)=some (Cw "list" vs.toArray 0):=by
  rw[<- z1]
  exact Bu _ rfl
 have g2:=Tt g1 (λ_=>#[])
 have g3:=Al (Cw "list" #[] 0) (Al (Cw "tuple" vs.toArray 0) g2)
 exact ⟨_,Tt g3 (λ_=>out)⟩
end
section
variable{X:Cx}
theorem call_sorted(hu:X.A.units+2<cLine):Mj X (.builtin "sorted") (λxs H Q=>∃(a:Addr) (rs:List Addr) (c:Addr->List Int),xs=[.ref a]/\Ox X.K H a (rs.map V.ref)/\(∀r∈rs,Ri X.K H r ((c r).map V.int))/\(∀r l,rs=r::l->c r=[])/\∀(p:Addr) (rs':List Addr),H p=none->rs'.Perm rs->rs'.Pairwise (λx y=>HT.lexLt (c y) (c x)=false)->Q (.ref p) (upd H p (.lst (rs'.map V.ref)))):=by
 intro pins s σ H xs us Q I r h
 obtain ⟨a,rs,c,rfl,hl,hc,h0,q⟩:=h
 obtain ⟨u,rfl,ru⟩:=vals1 r
 cases ru
 obtain ⟨its,rv,pl,hz⟩:=I.list hl
 have e:=Ul rv
 subst e
 rw[Ab] at hz
 refine eV (c:=c) pl.isList (λr hr=>?_) h0 hu hz λrs' p1 p2=>?_
 ·obtain ⟨ti,t1,t2,_⟩:=I.tuple (hc r hr)
  exact ⟨ti,intsAre_of t1,t2⟩
 ·obtain ⟨n,hn⟩:=Qy (h:=s.heap) (vs:=rs.map Ak) (out:=(rs'.map Ak).toArray)
  refine ⟨.ref (s.heap.objs.size+1),upd H (s.heap.objs.size+1) (.lst (rs'.map V.ref)),I.laid (t':=s.toks) (λb o e=>Ou e) (Nat.le_succ _) ⟨?_,_,n,Uh rs',hn⟩,rfl,q _ rs' (I.hok.fresh (Nat.le_succ _)) p1 p2⟩
  rw[Ab,p1.length_eq]
  exact hz
end
def N9{κ:Type}(c:Addr->κ)(d0:κ)(x:Keyed):κ:=match x.1 with
 | .ref a=>c a
 | _=>d0
def W6{κ:Type}(c:Addr->κ)(d0:κ)(lt_:κ->κ->Bool)(x y:Keyed):Bool:=lt_ (N9 c d0 x) (N9 c d0 y)
def gR{κ:Type}(prog:Bm)(w:World)(A:Cr)(s:Ai)(rs:List Addr)(c:Addr->κ)(d0:κ)(lt_:κ->κ->Bool):Prop :=
 ∃kd,(∀(R:Jw->Ai->Prop) (E:Value->Ai->Prop),R kd s->wpAny (model prog w) A (keyKind' (rs.map Ak).toArray) R E s)/\Cmp prog w A s kd (λx=>∃r∈rs,x.1=.ref r) (W6 c d0 lt_)
section
variable{prog:Bm}{w:World}{A:Cr}{E:Value->Ai->Prop}{s:Ai}{κ:Type}{c:Addr->κ}{d0:κ}{lt_:κ->κ->Bool}{rs:List Addr}
theorem gN{a:Addr}{n:Nat}{P:Fin->Ai->Prop}(hl:s.heap.get? a=some (Cw "list" (rs.map Ak).toArray n))(hC:∀h':Heap,(∀b o,b≠a->s.heap.get? b=some o->h'.get? b=some o)->2<=rs.length->gR prog w A { s with heap:=h' } rs c d0 lt_)(hz:rs.length<=Av)(h:∀rs':List Addr,rs'.Perm rs->rs'.Pairwise (λx y=>lt_ (c y) (c x)=false)->P (.done (.ret .none)) { s with heap:=Sh s.heap a (rs.map Ak) (rs'.map Ak).toArray }):wpAny (model prog w) A (Builtin.«list.sort» ⟨[.ref a],[]⟩) P E s:=by
 have lt:=Bb hl
 have hsz:(rs.map Ak).toArray.size=rs.length:=by simp
 rw[list_sort_plain]
 refine Ac (listItems_at hl rfl (Ac (Mf hl rfl ?_ (by rw[hsz]; exact hz))))
 obtain ⟨ep,hl1⟩ : ∃ep,(s.heap.update a (Co λ_=>#[])).get? a=some (Cw "list" #[] ep):=⟨_,Tt hl (λ_=>#[])⟩
 refine Ac (Pu hl1 rfl (Ac (wpAny_newTuple (Ac (Yt (Ep ?_)) ))))
 have hl2:(((s.heap.update a (Co λ_=>#[])).push (Cw "tuple" (rs.map Ak).toArray 0)).push (Cw "list" #[] 0)).get? a=some (Cw "list" #[] ep):=by
  rw[Nx _ _ _ (by rw[Si,Gj]; exact Cc (Iz lt)),
   Nx _ _ _ (by rw[Gj]; exact Cc lt)]
  exact hl1
 have kept:∀b o,b≠a->s.heap.get? b=some o->(((s.heap.update a (Co λ_=>#[])).push (Cw "tuple" (rs.map Ak).toArray 0)).push (Cw "list" #[] 0)).get? b=some o:=λb o hb e=>by
  refine Al _ (Al _ ?_)
  exact ((Ek s.heap a _).2 b hb).trans e
 show wpAny (model prog w) A _ P E { s with heap:=((s.heap.update a (Co λ_=>#[])).push (Cw "tuple" (rs.map Ak).toArray 0)).push (Cw "list" #[] 0) }
 dsimp only
 -- what is left bT the runs
 have fin:∀(out:Array Value) (rs':List Addr),out=(rs'.map Ak).toArray->rs'.Perm rs->rs'.Pairwise (λx y=>lt_ (c y) (c x)=false) ->
   P (.done (.ret .none)) { s with heap:=Sh s.heap a (rs.map Ak) out }:=λout rs' e p1 p2=>by rw[e]; exact h rs' p1 p2
 by_cases h2:(rs.map Ak).toArray.size<2
 ·rw[if_pos h2,if_pos h2]
  refine Ac (Am ?_)
  rw[StateT.run_pure]
  refine Ac (Am (Ac (Pu hl2 rfl (Ac (Mf hl2 rfl ?_ (by simp) ?_)))))
  ·simp only[bne_self_eq_false,Bd,if_false]
   refine Am (fin _ rs ?_ (Ic _) ?_)
   ·show Sg (λx=>x.2) ((rs.map Ak).toArray.zip (rs.map Ak).toArray)=_
    apply Array.ext'
    simp [List.map_snd_zip]
   ·rw[hsz] at h2
    match rs,h2 with
    | [],_=>exact Dz
    | [_],_=>exact Eh _ _
    | _::_::_,h2=>simp only[Bi] at h2; omega
  ·show (Sg (λx:Keyed=>x.2) ((rs.map Ak).toArray.zip (rs.map Ak).toArray)).size<=Av+1
   rw[Mu,Array.size_zip,hsz]
   omega
 ·rw[if_neg h2,if_neg h2]
  rw[hsz] at h2
  obtain ⟨kd,hk,C⟩:=hC (((s.heap.update a (Co λ_=>#[])).push (Cw "tuple" (rs.map Ak).toArray 0)).push (Cw "list" #[] 0)) kept (by omega)
  refine Ac (hk _ _ ?_)
  have a0:(Wb (rs.map Ak)).size=rs.length:=by rw[pairsOf_size,Ab]
  refine Ac (Cy (aB C (a₀:=Wb (rs.map Ak)) (st:=Tv kd ((rs.map Ak).toArray.zip (rs.map Ak).toArray) #[] 7 none) (E:=E)
   (Q:=λ_ st'=>Good0 kd (Wb (rs.map Ak)) st'/\Pf (W6 c d0 lt_) (arrOf st') 0 (Wb (rs.map Ak)).size)
   ⟨rfl,rfl,Array.Perm.refl _⟩ (λx hx=>?_) rfl (by rw[a0]; omega) λst' g as=>⟨g,as⟩) ?_ λ_ _ z=>z)
  ·rw[Vr] at hx
   obtain ⟨_,hm⟩:=aT hx
   obtain ⟨r,hr,e⟩:=Cp.mp hm
   exact ⟨r,hr,e.symm⟩
  ·(rintro ⟨⟨⟩,st'⟩ s' q_; obtain ⟨rfl,g,as⟩ := q_)
   dsimp only
   -- the things of the new order
   have pl:(arrOf st').toList.Perm ((rs.map Ak).zip (rs.map Ak)):=by rw[<- Vr]; exact Je.mp g.perm
   have each:∀x∈(arrOf st').toList,∃r∈rs,x=(Ak r,Ak r):=λx hx=>by
    obtain ⟨e,hm⟩:=aT (pl.mem_iff.mp hx)
    obtain ⟨r,hr,e2⟩:=Cp.mp hm
    refine ⟨r,hr,?_⟩
    obtain ⟨x1,x2⟩:=x
    simp only at e e2
    rw[<- e,e2]
   have ex:∀l:List Keyed,(∀x∈l,∃r∈rs,x=(Ak r,Ak r))->∃rs':List Addr,l=rs'.map λr=>(Ak r,Ak r):=by
    intro l
    induction l with
    | nil=>intro _; exact ⟨[],rfl⟩
    | cons x l ih =>
     intro hx
     obtain ⟨r,_,e⟩:=hx x Aa
     obtain ⟨rs',e'⟩:=ih λy hy=>hx y (Ae _ hy)
     exact ⟨r::rs',by rw[Bc,e,e']⟩
   obtain ⟨rs',ers⟩:=ex _ each
   have zz:(rs.map Ak).zip (rs.map Ak)=rs.map λr=>(Ak r,Ak r):=by
    rw[List.zip_map',]
   rw[ers,zz] at pl
   have inj:∀x:Keyed,∃a:Addr,True:=λ_=>⟨0,trivial⟩
   have pr:rs'.Perm rs:=by
    have:=pl.map (λx:Keyed=>match x.1 with | .ref a=>a | _=>0)
    rw[Ci,Ci] at this
    simpa [Function.comp_def] using this
   have so:rs'.Pairwise (λx y=>lt_ (c y) (c x)=false):=by
    rw[Dc]
    intro i j hi hj hij
    have ls:(arrOf st').size=rs'.length:=by
     have:=congrArg Hb ers
     rw[Aj,Ab] at this
     exact this
    have xe:∀k (hk:k<rs'.length),X (arrOf st') k=(Ak rs'[k],Ak rs'[k]):=λk hk=>by
     have e1:=Du (Uj (xs:=arrOf st') (i:=k) (by omega))
     rw[ers,Bf,Cf hk] at e1
     exact (Bt e1).symm
    have:=as i j (Cz _) (by omega) (by rw[a0,<- pr.length_eq]; exact hj)
    rw[xe i hi,xe j hj] at this
    exact this
   refine Ac (Pu hl2 rfl (Ac (Mf hl2 rfl ?_ (by simp) ?_)))
   ·have fl:Jt st'=none:=g.fail
    rw[fl]
    simp only[bne_self_eq_false,Bd,if_false]
    refine Am (fin _ rs' ?_ pr so)
    apply Array.ext'
    rw[Array.toList_map,ers,Ci]
    rfl
   ·show (Sg (λx:Keyed=>x.2) (arrOf st')).size<=Av+1
    rw[Mu,g.size,a0]
    omega
theorem bA{l:Addr}{Q:Value->Ai->Prop}(hl:s.heap.IsList l (rs.map Ak).toArray)(hC:∀(A':Cr) (h':Heap),A'.units<=A.units+2->A'.handled=A.handled->(∀b o,s.heap.get? b=some o->h'.get? b=some o)->2<=rs.length->gR prog w A' { s with heap:=h' } rs c d0 lt_)(hz:rs.length<=Av)(h:∀rs':List Addr,rs'.Perm rs->rs'.Pairwise (λx y=>lt_ (c y) (c x)=false)->Q (.ref (s.heap.objs.size+1)) { s with heap:=Wa s.heap (rs.map Ak) (rs'.map Ak).toArray }):wpAny (model prog w) A (call (.builtin "sorted") [.ref l]) Q E s:=by
 refine cV (by exact kind_sorted) plain_sorted entry_sorted (args_sorted1 _) ?_
 unfold Builtin.«sorted»
 refine Ac (m:=checkCount "sorted" 1 1 _) (Am (Ac (collect_list hl (Ac (Yt ?_)) (by rw[Ab]; exact hz))))
 have z1:((s.heap.push (Cw "list" #[] 0)).update s.heap.objs.size (Co (·++(rs.map Ak).toArray))).objs.size=s.heap.objs.size+1:=by rw[Gj,Si]
 have g1:(((s.heap.push (Cw "list" #[] 0)).update s.heap.objs.size (Co (·++(rs.map Ak).toArray))).push (Cw "list" (rs.map Ak).toArray 0)).get? (s.heap.objs.size+1)=some (Cw "list" (rs.map Ak).toArray 0):=by
  rw[<- z1]
  exact Bu _ rfl
 have kept:∀b o,s.heap.get? b=some o->(((s.heap.push (Cw "list" #[] 0)).update s.heap.objs.size (Co (·++(rs.map Ak).toArray))).push (Cw "list" (rs.map Ak).toArray 0)).get? b=some o:=λb o e=>by
  refine Al _ (((Ek _ _ _).2 b (Cc (Bb e))).trans (Al _ e))
 show wpAny _ _ _ _ _ { s with heap:=((s.heap.push (Cw "list" #[] 0)).update s.heap.objs.size (Co (·++(rs.map Ak).toArray))).push (Cw "list" (rs.map Ak).toArray 0) }
 rw[z1]
 refine Ac (Ep (Rc slot_list_sort ⟨_,g1,rfl⟩ entry_list_sort (gN g1 (λh' hk h2=>hC _ h' ?_ ?_ (λb o e=>hk b o (Cc (Iz (Bb e))) (kept b o e)) h2) hz λrs' p1 p2=>⟨_,rfl,?_⟩) (args_list_sort _)))
 ·first | exact Ah _ | (show A.units+1<=A.units+2; omega) | (show A.units<=A.units+2; omega)
 ·rfl
 ·exact Am ⟨_,rfl,h rs' p1 p2⟩
end
section
variable{prog:Bm}{w:World}{A:Cr}{E:Value->Ai->Prop}{s:Ai}{c:Addr->List Int}{rs:List Addr}
theorem vE{b:Bool}{x y:Int}{t u:Tok}{Q:Bool->Ai->Prop}(h:Q (decide (x<y)) s):wpAny (model prog w) A (oneLt' b (.int x t) (.int y u)) Q E s:=by
 cases b with
 | true=>exact oneLt_int h
 | false=>exact PySem.W.kat_one _ _ (lt_int h)
theorem fY{b:Bool}{Q:Bool->Ai->Prop}:∀{xs ys:List Value} {ns ms:List Int} (i:Nat),He xs ns->He ys ms->Q (HT.lexLt ns ms) s->PySem.W.KatLex prog w A b (decide (xs.length<ys.length)) Q (xs.zip ys) i s
 | _,_,_,_,i,.nil,.nil,h=>h
 | _,_,_,_,i,.nil,.cons m u k,h=>h
 | _,_,_,_,i,.cons n t k,.nil,h=>h
 | _,_,_,_,i,.cons (vs:=xs) n t k,.cons (vs:=ys) m u k2,h=>by
  rw[Vf]
  refine PySem.W.kat_cons (wpAny_eqBool_int ?_)
  rw[HT.lexLt_cons] at h
  cases hnm:(n == m) with
  | true =>
   have e:n=m:=by simpa using hnm
   rw[if_pos e] at h
   refine PySem.W.kat_yes ?_
   have : decide ((Sa n t::xs).length<(Sa m u::ys).length)=decide (xs.length<ys.length):=by simp
   rw[this]
   exact fY (i+1) k k2 h
  | false =>
   have e:¬ n=m:=by simpa using hnm
   rw[if_neg e] at h
   exact PySem.W.kat_no (vE h)
theorem Xr:∀{l:List Addr},(∀r∈l,∃its:List Value,He its (c r)/\IsTup s.heap r its.toArray)->(∀r∈l,c r≠[])->∃fs:List Value,PySem.W.KatTups s.heap (l.map Ak) fs/\fs.length=l.length/\∀v∈fs,∃i t,v=.int i t
 | [],_,_=>⟨[],.nil,rfl,λ_ h=>(nomatch h)⟩
 | r::l,hH,hn=>by
  obtain ⟨fs,h1,h2,h3⟩:=Xr (λr' hr'=>hH r' (Ae _ hr')) (λr' hr'=>hn r' (Ae _ hr'))
  obtain ⟨its,ti,o,g,k,n,e⟩:=hH r Aa
  have hne:=hn r Aa
  match its,ti with
  | [],ti=>cases hc:c r with
   | nil=>exact absurd hc hne
   | cons _ _=>rw[hc] at ti; cases ti
  | v::its,ti =>
   have : ∃i t,v=.int i t:=by
    revert ti
    generalize c r=cr
    intro ti
    cases ti with
    | cons m t k=>exact ⟨_,_,rfl⟩
   refine ⟨v::fs,PySem.W.KatTups.cons g k e (by simp) h1,by rw[Bi,Bi,h2],λx hx=>?_⟩
   rcases An.mp hx with rfl | hx
   ·exact this
   ·exact h3 x hx
theorem gD(hH:iD c rs s.heap)(hu:A.units<cLine)(h2:2<=rs.length):gR prog w A s rs c [] HT.lexLt:=by
 obtain ⟨r,l,rfl⟩ : ∃r l,rs=r::l:=by
  cases rs with
  | nil=>simp at h2
  | cons r l=>exact ⟨r,l,rfl⟩
 by_cases h0:c r=[]
 ·exact ⟨oneType',λR E h=>dW hH h0 h,jN hH hu⟩
 by_cases hall:∀r'∈r::l,c r'≠[]
 ·obtain ⟨fs,f1,f2,f3⟩:=Xr hH hall
  refine ⟨tuples' true,λR E h=>?_,?_⟩
  ·refine PySem.W.kat_kind (T:=.type "int") f1 (by rw[f2]; simp) (λv hv=>?_) (by decide) h
   obtain ⟨i,t,rfl⟩:=f3 v hv
   exact .now
  ·refine ⟨λx y Q E ⟨r1,hr1,ex⟩ ⟨r2,hr2,ey⟩ h=>?_,λx=>Wu _,λx y z=>Xb,λx y z=>bH⟩
   obtain ⟨x1,x2⟩:=x
   obtain ⟨y1,y2⟩:=y
   simp only at ex ey
   subst ex ey
   obtain ⟨i1,t1,o1,g1,k1,n1,e1⟩:=hH r1 hr1
   obtain ⟨i2,t2,o2,g2,k2,n2,e2⟩:=hH r2 hr2
   refine PySem.W.kat_lt g1 e1 g2 e2 ?_
   have e:(decide (i1.toArray.size<i2.toArray.size))=decide (i1.length<i2.length):=by simp
   rw[e]
   exact fY 0 t1 t2 h
 ·refine ⟨general',λR E h=>?_,?_⟩
  ·rw[kat_kind_eq,Wf,map_eq_pure_bind]
   refine Ac (Ac (Ro hH λfs hl hf=>Am ?_))
   have na:¬ (fs.toArray.all λx=>x.isSome)=true:=by
    intro z
    refine hall λr' hr'=>?_
    obtain ⟨i,hi⟩:=List.getElem?_of_mem hr'
    obtain ⟨f,q1,q2⟩:=hf i r' hi
    refine q2.mp ?_
    exact Array.all_eq_true'.mp z f (by have:=Az q1; simpa using this)
   obtain ⟨f,q1,q2⟩:=hf 0 r rfl
   have n0:(fs.toArray[0]?.bind id).isSome=true:=by
    rw[List.getElem?_toArray,q1]
    simpa using q2.mpr h0
   rw[if_neg na,if_pos n0]
   exact Am h
  ·refine ⟨λx y Q E ⟨r1,hr1,ex⟩ ⟨r2,hr2,ey⟩ h=>?_,λx=>Wu _,λx y z=>Xb,λx y z=>bH⟩
   obtain ⟨x1,x2⟩:=x
   obtain ⟨y1,y2⟩:=y
   simp only at ex ey
   subst ex ey
   obtain ⟨i1,t1,p1⟩:=hH r1 hr1
   obtain ⟨i2,t2,p2⟩:=hH r2 hr2
   show wpAny (model prog w) A (oneLt' false (.ref r1) (.ref r2)) Q E s
   exact PySem.W.kat_one _ _ (HT.lt_tupInts p1 p2 (show He i1.toArray.toList (c r1) by simpa using t1) (show He i2.toArray.toList (c r2) by simpa using t2) hu h)
end
section
variable{X:Cx}
def rSortI(K:PySem.W.Frag):List V->Hp->VK->Prop:=λxs H Q=>∃(a:Addr) (rs:List Addr) (c:Addr->List Int),xs=[.ref a]/\Ox K H a (rs.map V.ref)/\(∀r∈rs,Ri K H r ((c r).map V.int)) /\
  ∀(p:Addr) (rs':List Addr),H p=none->rs'.Perm rs->rs'.Pairwise (λx y=>HT.lexLt (c y) (c x)=false)->Q (.ref p) (upd H p (.lst (rs'.map V.ref)))
theorem call_sortedI(hu:X.A.units+64<cLine):Mj X (.builtin "sorted") (rSortI X.K):=by
 intro pins s σ H xs us Q I r h
 obtain ⟨a,rs,c,rfl,hl,hc,q⟩:=h
 obtain ⟨u,rfl,ru⟩:=vals1 r
 cases ru
 obtain ⟨its,rv,pl,hz⟩:=I.list hl
 have e:=Ul rv
 subst e
 rw[Ab] at hz
 refine bA (c:=c) (d0:=[]) (lt_:=HT.lexLt) pl.isList (λA' h' hA _ hk h2=>gD (λr hr=>?_) (by omega) h2) hz λrs' p1 p2=>?_
 ·obtain ⟨ti,t1,⟨o,g,k⟩,_⟩:=I.tuple (hc r hr)
  exact ⟨ti,intsAre_of t1,o,hk _ _ g,k⟩
 ·obtain ⟨n,hn⟩:=Qy (h:=s.heap) (vs:=rs.map Ak) (out:=(rs'.map Ak).toArray)
  refine ⟨.ref (s.heap.objs.size+1),upd H (s.heap.objs.size+1) (.lst (rs'.map V.ref)),I.laid (t':=s.toks) (λb o e=>Ou e) (Nat.le_succ _) ⟨?_,_,n,Uh rs',hn⟩,rfl,q _ rs' (I.hok.fresh (Nat.le_succ _)) p1 p2⟩
  rw[Ab,p1.length_eq]
  exact hz
end
end Ts
namespace DL
open PySem L2 Nd
def Jo{α:Type}(xs:List α)(lo hi:Option Int):List α:=(xs.drop (HT.sIx xs.length 0 lo)).take (HT.sIx xs.length xs.length hi - HT.sIx xs.length 0 lo)
theorem fF{α β:Type}(f:α->β)(xs:List α)(lo hi:Option Int):Jo (xs.map f) lo hi=(Jo xs lo hi).map f:=by
 unfold Jo
 rw[Ab,List.map_take,List.map_drop]
theorem Yh{α:Type}(xs:List α)(lo hi:Option Int):(Jo xs lo hi).Sublist xs:=(Ip _ _).trans (Hd _ _)
theorem mW{α:Type}(xs:List α)(k:Nat):Jo xs none (some (k:Int))=xs.take k:=by
 unfold Jo
 rw[HT.sIx_none,HT.sIx_nat,Se,Wz]
 by_cases h:k<=xs.length
 ·rw[Nat.min_eq_left h]
 ·rw[Nat.min_eq_right (by omega),Gi,Hx (by omega)]
section
variable{K:PySem.W.Frag}{H:Hp}
theorem RdFs.drop:∀(n:Nat) {xs:List V} {ds:List Ag} {F:List Addr},RdFs K H xs ds F->∃G,RdFs K H (xs.drop n) (ds.drop n) G/\G.Sublist F
 | 0,_,_,F,h=>⟨F,h,El _⟩
 | n+1,_,_,_,.nil=>⟨[],.nil,El _⟩
 | n+1,_,_,_,.cons _ t=>by
  obtain ⟨G,h1,h2⟩:=RdFs.drop n t
  exact ⟨G,h1,h2.trans (Cu _ _)⟩
theorem RdFs.take:∀(n:Nat) {xs:List V} {ds:List Ag} {F:List Addr},RdFs K H xs ds F->∃G,RdFs K H (xs.take n) (ds.take n) G/\G.Sublist F
 | 0,_,_,F,h=>⟨[],.nil,List.nil_sublist _⟩
 | n+1,_,_,_,.nil=>⟨[],.nil,El _⟩
 | n+1,_,_,_,.cons a t=>by
  obtain ⟨G,h1,h2⟩:=RdFs.take n t
  exact ⟨_,.cons a h1,(El _).append h2⟩
theorem RdFs.cut{xs:List V}{ds:List Ag}{F:List Addr}(h:RdFs K H xs ds F)(lo hi:Option Int):∃G,RdFs K H (Yd xs lo hi) (Jo ds lo hi) G/\G.Sublist F:=by
 unfold Yd Jo
 rw[h.len]
 obtain ⟨G,h1,h2⟩:=h.drop (HT.sIx ds.length 0 lo)
 obtain ⟨G',h3,h4⟩:=h1.take (HT.sIx ds.length ds.length hi - HT.sIx ds.length 0 lo)
 exact ⟨G',h3,h4.trans h2⟩
theorem RdFs.ints:∀ns:List Int,RdFs K H (ns.map V.int) (ns.map Bl) []
 | []=>.nil
 | n::ns=>RdFs.cons (F:=[]) (.int n) (RdFs.ints ns)
theorem RdFs.ints_inv:∀{ns:List Int} {xs:List V} {F:List Addr},RdFs K H xs (ns.map Bl) F->xs=ns.map V.int/\F=[]
 | [],_,_,h=>by cases h; exact ⟨rfl,rfl⟩
 | n::ns,_,_,h=>by
  rw[Bc] at h
  cases h with
  | cons a t =>
   obtain ⟨rfl,rfl⟩:=a.int_inv
   obtain ⟨rfl,rfl⟩:=RdFs.ints_inv t
   exact ⟨rfl,rfl⟩
theorem RdFs.bools_inv:∀{ns:List Bool} {xs:List V} {F:List Addr},RdFs K H xs (ns.map PyData.bool) F->xs=ns.map V.bl/\F=[]
 | [],_,_,h=>by cases h; exact ⟨rfl,rfl⟩
 | n::ns,_,_,h=>by
  rw[Bc] at h
  cases h with
  | cons a t =>
   obtain ⟨rfl,rfl⟩:=a.bl_inv
   obtain ⟨rfl,rfl⟩:=RdFs.bools_inv t
   exact ⟨rfl,rfl⟩
end
theorem Xj{a b:List Ag}:Dv (a++b)=(Dv a && Dv b):=by
 induction a with
 | nil=>simp [Dv]
 | cons x a ih=>simp [Dv,ih,Bool.and_assoc]
theorem Pp(ns:List Int):Dv (ns.map Bl)=true:=Rh (λ_=>by simp [imm]) ns
def kD:D2:=λx y P=>match x,y with
 | .dat _ (.list ds),.dat _ (.list es)=>Dv ds=true/\Dv es=true/\ds.length+es.length<=1000000/\P (.dat .ow (.list (ds++es)))
 | _,_=>False
def bZ:D2:=λx y P=>match x,y with
 | .dat _ (.tuple ds),.dat _ (.tuple es)=>Dv ds=true/\Dv es=true/\ds.length+es.length<=1000000/\P (.dat .ow (.tuple (ds++es)))
 | _,_=>False
def V7:D2:=λx y P=>match x,y with
 | .dat _ (.list ds),.dat _ (.int k)=>Dv ds=true /\ -1000000<=k/\k<=1000000/\ds.length * k.toNat<=1000000/\P (.dat .ow (.list (Ho k.toNat ds).flatten))
 | _,_=>False
section
variable{K:PySem.W.Frag}
theorem u6:lN K F0 kD:=by
 intro H0 X n S T x y v w F G H Q P hA hd k
 unfold kD at hd
 split at hd
 ·obtain ⟨i1,i2,hz,p⟩:=hd
  obtain ⟨b,ys,G1,rfl,hb,rb,_,_⟩:=(hA.told mem_mid).list_inv
  obtain ⟨a,xs,G2,rfl,ha,ra,_,_⟩:=(hA.told Ge).list_inv
  have l1:=ra.len
  have l2:=rb.len
  refine ⟨a,b,xs,ys,rfl,rfl,ha,hb,cS (by omega),λq hq=>?_⟩
  exact k _ _ _ _ (hA.drop2.newI (ra.app rb) (by rw[Xj,i1,i2]; rfl) (by rw[Aw]; exact cS (by omega)) hq .ow) p
 ·exact hd.elim
theorem wC:lN K (zG K) bZ:=by
 intro H0 X n S T x y v w F G H Q P hA hd k
 unfold bZ at hd
 split at hd
 ·obtain ⟨i1,i2,hz,p⟩:=hd
  obtain ⟨b,ys,rfl,hb,rb,zb⟩:=(hA.told mem_mid).tup_inv
  obtain ⟨a,xs,rfl,ha,ra,za⟩:=(hA.told Ge).tup_inv
  have l1:=ra.len
  have l2:=rb.len
  obtain rfl:=ra.imm i1
  obtain rfl:=rb.imm i2
  refine ⟨a,b,xs,ys,rfl,rfl,Ri.of ha,Ri.of hb,cS (by omega),λe=>?_,λe=>?_,λq hq=>?_⟩
  ·subst e
   obtain rfl:=Kf.mp (l1.symm.trans rfl)
   exact k _ _ [] _ (hA.drop2.pushI (.tup hb zb rb)) p
  ·subst e
   obtain rfl:=Kf.mp (l2.symm.trans rfl)
   rw[Ec] at p
   exact k _ _ [] _ (hA.drop2.pushI (.tup ha za ra)) p
  ·have s1:=Dq hq (.tup (xs++ys))
   exact k _ _ [] _ ((hA.drop2.grow s1 (Ah _)).pushI (.tup Cn (by rw[Aw]; exact cS (by omega)) ((ra.app rb).kp (Kp.of s1)))) p
 ·exact hd.elim
end
section
variable{X:Cx}{a b:Expr}{da db:DE}{pos:Pos}
theorem cN(ha:Gd X a da)(hb:Gd X b db):Gd X (.BinOp a .Add b pos) (Zl kD da db):=aN bQ u6 ha hb
theorem jR(ha:Gd X a da)(hb:Gd X b db):Gd X (.BinOp a .Add b pos) (Zl bZ da db):=aN vO wC ha hb
end
abbrev DO:=DS->(Option Int->DS->Prop)->Prop
def LO(K:PySem.W.Frag)(do_:DO):TO:=λσ H Q=>∃(H0:Hp) (X:Addr->Prop) (S T:List Ent) (δ:DS) (P:Option Int->DS->Prop),vs S=σ/\Sl S δ/\At K H0 X δ.n (S++T) H/\do_ δ P /\
 ∀o δ' S' H',vs S'=σ->Sl S' δ'->At K H0 X δ'.n (S'++T) H'->P o δ'->Q o H'
abbrev B9(X:Cx)(e:Option Expr)(d:DO):Prop:=PO X e (LO X.K d)
theorem PO.imp{X:Cx}{e:Option Expr}{t t':TO}(h:PO X e t)(k:∀σ H Q,t' σ H Q->t σ H Q):PO X e t':=λpins s σ H Q I q=>h pins s σ H Q I (k σ H Q q)
def lV:DO:=λδ P=>P none δ
def yN(de:DE):DO:=λδ P=>de δ λx δ'=>match x with
 | .dat _ (.int i)=>P (some i) δ'
 | _=>False
section
variable{X:Cx}{e:Expr}{de:DE}{lo hi:Option Expr}{dl dh:DO}{pos p2:Pos}
theorem Lr:B9 X none lV:=by
 refine PO.imp vK λσ H Q h=>?_
 obtain ⟨H0,Y,S,T,δ,P,rfl,hS,hA,hd,k⟩:=h
 exact k _ δ S H rfl hS hA hd
theorem Lw(h:Gd X e de):B9 X (some e) (yN de):=by
 refine PO.imp (uW h) λσ H Q h=>?_
 obtain ⟨H0,Y,S,T,δ,P,rfl,hS,hA,hd,k⟩:=h
 refine ⟨H0,Y,S,T,δ,_,rfl,hS,hA,hd,λx δ' v F S' H' e1 e2 hA' p=>?_⟩
 split at p
 ·obtain ⟨rfl,_⟩:=(hA'.told mem_mid).int_inv
  exact ⟨_,rfl,k _ δ' S' H' e1 e2 hA'.drop p⟩
 ·exact p.elim
def X2(i:Bool)(de:DE)(dl dh:DO):DE:=λδ P=>de δ λx δ1=>dl δ1 λl δ2=>dh δ2 λh δ3=>match x with
 | .dat m (.list ds)=>Zr i m (Jo ds l h) λz=>P z δ3
 | .dat m (.tuple ds)=>tS i m (Jo ds l h) λz=>P z δ3
 | _=>False
def T7(K:PySem.W.Frag):V->Option Int->Option Int->Hp->VK->Prop:=λx lo hi H Q=>j3 K x lo hi H Q\/yE x lo hi H Q
theorem Nj{i:Bool}(he:Gd X e de)(hl:B9 X lo dl)(hh:B9 X hi dh):Gd X (.Subscript e (.Slice lo hi none p2) pos) (X2 i de dl dh):=by
 refine PE.imp (dY (r:=T7 X.K) (vS.or wM) he hl hh) λσ H Q h=>?_
 obtain ⟨H0,Y,S,T,δ,P,rfl,hS,hA,hd,k⟩:=h
 refine ⟨H0,Y,S,T,δ,_,rfl,hS,hA,hd,λx δ1 v F S1 H1 e1 e2 hA1 p1=>?_⟩
 refine ⟨H0,Y,S1,⟨some v,x,F⟩::T,δ1,_,e1,e2,hA1,p1,λl δ2 S2 H2 e3 e4 hA2 p2=>?_⟩
 refine ⟨H0,Y,S2,⟨some v,x,F⟩::T,δ2,_,e3,e4,hA2,p2,λh δ3 S3 H3 e5 e6 hA3 p3=>?_⟩
 split at p3
 ·obtain ⟨a,xs,G,rfl,ha,ra,rfl,hz⟩:=(hA3.told mem_mid).list_inv
  refine .inl ⟨a,xs,rfl,Ox.of ha,λp hp=>?_⟩
  obtain ⟨G',h1,h2⟩:=ra.cut l h
  obtain ⟨z,F',hA4,p4⟩:=hA3.newL h1 (h2.trans (Dx _ _)) (Bv (Yh _ _ _).length_le hz) hp p3
  exact k z δ3 _ F' S3 _ e5 e6 hA4 p4
 ·obtain ⟨a,xs,rfl,ha,ra,hz⟩:=(hA3.told mem_mid).tup_inv
  refine .inr ⟨a,xs,rfl,ha,λp H' hp s1=>?_⟩
  obtain ⟨G',h1,h2⟩:=ra.cut l h
  obtain ⟨z,F',hA4,p4⟩:=(hA3.grow s1 (Ah _)).oldT (h1.kp (Kp.of s1)) h2 (Bv (Yh _ _ _).length_le hz) hp p3
  exact k z δ3 _ F' S3 _ e5 e6 hA4 p4
 ·exact p3.elim
end
end DL
namespace NdS
open PySem PyProof.Rows
end NdS
namespace Nd
open PySem PySem.Spec PyProof.Rows L2 NdS
end Nd
namespace DL
open PySem L2 Nd
def J4(x:Int):List Int->List Int
 | []=>[x]
 | y::l=>if x<y then x::y::l else if x=y then y::l else y::J4 x l
def F6(ns:List Int):List Int:=ns.foldr J4 []
abbrev DC:=List DV->(DV->Prop)->Prop
def Xn(K:PySem.W.Frag)(r:List V->Hp->VK->Prop)(rd:DC):Prop:=∀(H0:Hp) (X:Addr->Prop) (n:Nat) (S T As:List Ent) (us:List V) (H:Hp) (Q:VK) (P:DV->Prop),
 As.map Ent.v=us.map some->At K H0 X n (S++(As++T)) H->rd (As.map Ent.x) P->(∀z u F' H',At K H0 X n (S++⟨some u,z,F'⟩::T) H'->P z->Q u H')->r us H Q
def Q4(rd:DC)(da:DA):DE:=λδ P=>da δ λxs δ1=>rd xs λz=>P z δ1
section
variable{X:Cx}{x:Str}{p pos:Pos}{e:Expr}{es:List Expr}{da:DA}{id T:String}{r:List V->Hp->VK->Prop}{rd:DC}
theorem K2{K:PySem.W.Frag}(o:Xn K r rd):∀σ H Q,LE K (Q4 rd da) σ H Q->S8 r (LA K da) σ H Q:=by
 intro σ H Q h
 obtain ⟨H0,Y,S,T,δ,P,rfl,hS,hA,hd,k⟩:=h
 refine ⟨H0,Y,S,T,δ,_,rfl,hS,hA,hd,λxs δ' As us S' H' e1 e2 ex eu hA' p=>?_⟩
 subst ex
 exact o H0 Y δ'.n S' T As us H' Q _ eu hA' p λz u F' H'' hA3 p3=>k z δ' u F' S' H'' e1 e2 hA3 p3
theorem Ew(hc:Mj X (.builtin id) r)(o:Xn X.K r rd)(hg:Gl X x)(hm:X.mg x=none)(hv:Jz x=some (.builtin id))(ha:oT X (e::es) da)(hn:x ≠ "__name__" := by decide)(hdb:(x == ("__debug__" : Str))=false:=by decide)(he:Bs (e::es) X.env=(false,eval e X.env)::Bs es X.env:=by rfl)(hpl:(Io pos (Bs es X.env)).any (·.1)=false:=by rfl):Gd X (.Call (.Name x p) (e::es) [] pos) (Q4 rd da) :=
 PE.imp (Sr hc hg hm hv ha hn hdb he hpl) (K2 o)
end
theorem A4{α β:Type}{f:α->β}{l:List α}{x:β}(h:l.map f=[x]):∃a,l=[a]/\f a=x:=by
 cases l with
 | nil=>cases h
 | cons a t =>
  obtain ⟨h1,h2⟩:=Fz h
  exact ⟨a,by rw[List.map_eq_nil_iff.mp h2],h1⟩
theorem E5{α β:Type}{f:α->β}{l:List α}{x y:β}(h:l.map f=[x,y]):∃a b,l=[a,b]/\f a=x/\f b=y:=by
 cases l with
 | nil=>cases h
 | cons a t =>
  obtain ⟨h1,h2⟩:=Fz h
  obtain ⟨b,rfl,h3⟩:=A4 h2
  exact ⟨a,b,rfl,h1,h3⟩
theorem Mh{K:PySem.W.Frag}{H0 H:Hp}{X:Addr->Prop}{n:Nat}{S T As:List Ent}{us:List V}{x:DV}(eu:As.map Ent.v=us.map some)(hA:At K H0 X n (S++(As++T)) H)(ex:As.map Ent.x=[x]):∃v F,us=[v]/\At K H0 X n (S++⟨some v,x,F⟩::T) H:=by
 obtain ⟨⟨v,y,F⟩,rfl,h1⟩:=A4 ex
 obtain ⟨u,rfl,h2⟩:=A4 eu.symm
 have h1':y=x:=h1
 have h2':some u=v:=h2
 subst h1' h2'
 exact ⟨u,F,rfl,hA⟩
theorem Xd{K:PySem.W.Frag}{H0 H:Hp}{X:Addr->Prop}{n:Nat}{S T As:List Ent}{us:List V}{x y:DV}(eu:As.map Ent.v=us.map some)(hA:At K H0 X n (S++(As++T)) H)(ex:As.map Ent.x=[x,y]):∃v F w G,us=[v,w]/\At K H0 X n (S++⟨some v,x,F⟩::⟨some w,y,G⟩::T) H:=by
 obtain ⟨⟨v,x',F⟩,⟨w,y',G⟩,rfl,h1,h2⟩:=E5 ex
 obtain ⟨u,u',rfl,h3,h4⟩:=E5 eu.symm
 have h1':x'=x:=h1
 have h2':y'=y:=h2
 have h3':some u=v:=h3
 have h4':some u'=w:=h4
 subst h1' h2' h3' h4'
 exact ⟨u,F,u',G,rfl,hA⟩
def kR:DC:=λxs P=>match xs with
 | [.dat _ (.list ds)]=>P (.dat .ow (.int ds.length))
 | [.dat _ (.tuple ds)]=>P (.dat .ow (.int ds.length))
 | [.dat _ (.str z)]=>z.length<=1000000/\P (.dat .ow (.int z.length))
 | _=>False
def U3:DC:=λxs P=>match xs with
 | [.dat _ (.int i),.dat _ (.int j)]=>P (.dat .ow (.int (if j > i then j else i)))
 | _=>False
def gJ:DC:=λxs P=>match xs with
 | [.dat _ (.int i),.dat _ (.int j)]=>P (.dat .ow (.int (if j<i then j else i)))
 | _=>False
def T4:DC:=λxs P=>match xs with
 | [.dat _ (.list ds)]=>∃ns:List Int,ds=ns.map Bl/\ns≠[]/\∀M∈ns,(∀x∈ns,M<=x)->P (.dat .ow (.int M))
 | _=>False
def tQ:DC:=λxs P=>match xs with
 | [.dat _ (.list ds)]=>∃bs:List Bool,ds=bs.map PyData.bool/\P (.dat .ow (.bool (bs.all id)))
 | _=>False
def xT:Ag->String
 | .none => "NoneType"
 | .bool _ => "bool"
 | .int _ => "int"
 | .str _ => "str"
 | .list _ => "list"
 | .tuple _ => "tuple"
 | .dict _ => "dict"
def Va(d:Ag)(n:String):Bool:=xT d == n || (xT d == "bool" && n == "int")
def rD:DC:=λxs P=>match xs with
 | [.dat _ d,.val (.ty n)]=>(n = "int" \/ n = "bool" \/ n = "str" \/ n = "list" \/ n = "tuple")/\P (.dat .ow (.bool (Va d n)))
 | _=>False
section
variable{K:PySem.W.Frag}
theorem Mz:Xn K (λxs H Q=>∃x n,xs=[x]/\G4 K x H n/\Q (.int n) H) kR:=by
 intro H0 X n S T As us H Q P eu hA hd k
 unfold kR at hd
 split at hd
 ·rename_i ex
  obtain ⟨v,F,rfl,hA⟩:=Mh eu hA ex
  obtain ⟨a,xs,G,rfl,ha,ra,_,_⟩:=(hA.told mem_mid).list_inv
  exact ⟨_,_,rfl,.inl ⟨xs,Ox.of ha,ra.len.symm⟩,k _ _ [] H (hA.drop.pushI (.int _)) hd⟩
 ·rename_i ex
  obtain ⟨v,F,rfl,hA⟩:=Mh eu hA ex
  obtain ⟨a,xs,rfl,ha,ra,_⟩:=(hA.told mem_mid).tup_inv
  exact ⟨_,_,rfl,.inr ⟨xs,Ri.of ha,ra.len.symm⟩,k _ _ [] H (hA.drop.pushI (.int _)) hd⟩
 ·rename_i ex
  obtain ⟨v,F,rfl,hA⟩:=Mh eu hA ex
  obtain ⟨rfl,_⟩:=(hA.told mem_mid).str_inv
  exact ⟨_,_,rfl,⟨cS hd.1,rfl⟩,k _ _ [] H (hA.drop.pushI (.int _)) hd.2⟩
 ·exact hd.elim
theorem wR:Xn K (λxs H Q=>∃i j,xs=[V.int i,V.int j]/\Q (.int (if j<i then j else i)) H) gJ:=by
 intro H0 X n S T As us H Q P eu hA hd k
 unfold gJ at hd
 split at hd
 ·rename_i ex
  obtain ⟨v,F,w,G,rfl,hA⟩:=Xd eu hA ex
  obtain ⟨rfl,_⟩:=(hA.told mem_mid).int_inv
  obtain ⟨rfl,_⟩:=(hA.told Ge).int_inv
  exact ⟨_,_,rfl,k _ _ [] H (hA.drop2.pushI (.int _)) hd⟩
 ·exact hd.elim
theorem zT:Xn K (λxs H Q=>∃(p:Addr) (bs:List Bool),xs=[.ref p]/\Ox K H p (bs.map V.bl)/\Q (.bl (bs.all id)) H) tQ:=by
 intro H0 X n S T As us H Q P eu hA hd k
 unfold tQ at hd
 split at hd
 ·rename_i ex
  obtain ⟨v,F,rfl,hA⟩:=Mh eu hA ex
  obtain ⟨bs,rfl,h1⟩:=hd
  obtain ⟨a,xs,G,rfl,ha,ra,rfl,hz⟩:=(hA.told mem_mid).list_inv
  obtain ⟨rfl,_⟩:=ra.bools_inv
  exact ⟨a,bs,rfl,Ox.of ha,k _ _ [] H (hA.drop.pushI (.bl _)) h1⟩
 ·exact hd.elim
theorem vC{T n:String}{b:Bool}(h1:(Ee T == Ee n)=false)(h2:PySem.W.kitMeta n=true)(h3:(fastBuiltinMro T).map (λx=>x.contains (Ee n))=some b):PySem.W.kitOne K (.type T) (.type n)=some b:=u5 h1 h2 h3
theorem vZ{d:Ag}{n:String}(hn:n = "int" \/ n = "bool" \/ n = "str" \/ n = "list" \/ n = "tuple"):PySem.W.kitOne K (.type (xT d)) (.type n)=some (Va d n):=by
 have main:∀T:String,(T = "NoneType" \/ T = "bool" \/ T = "int" \/ T = "str" \/ T = "list" \/ T = "tuple" \/ T = "dict")->PySem.W.kitOne K (.type T) (.type n)=some (T == n || (T == "bool" && n == "int")):=by
  intro T hT
  rcases hT with rfl | rfl | rfl | rfl | rfl | rfl | rfl <;> rcases hn with rfl | rfl | rfl | rfl | rfl <;> first | exact u9 | exact vC (by decide +kernel) (by decide +kernel) (by decide +kernel)
 unfold Va
 refine main _ ?_
 cases d <;> simp [xT]
theorem Rr:Xn K (X0 K) rD:=by
 intro H0 X n S T As us H Q P eu hA hd k
 unfold rD at hd
 split at hd
 ·rename_i ex
  obtain ⟨v,F,w,G,rfl,hA⟩:=Xd eu hA ex
  have hw:w=.ty _:=Bt (hA.ok _ Ge).1
  subst hw
  have r:=hA.told mem_mid
  refine ⟨v,_,.type (xT _),_,rfl,?_,vZ hd.1,k _ _ [] H (hA.drop2.pushI (.bl _)) hd.2⟩
  ·cases r with
   | non=>exact .non
   | bl b=>exact .bl b
   | int i=>exact .int i
   | str x=>exact .str x
   | lst h l hs=>exact .lst h
   | tup h l hs=>exact .tup h
   | dic h e hs=>exact .dT h
   | dik h e hs=>exact .dK h
   | dnm h e hs=>exact .dT h
 ·exact hd.elim
end
def dV(v:V):DE:=λδ P=>P (.val v) δ
section
variable{X:Cx}{e:Expr}
theorem e7{v:V}(h:PE X e (tC v)):Gd X e (dV v):=by
 refine PE.imp h λσ H Q h=>?_
 obtain ⟨H0,Y,S,T,δ,P,rfl,hS,hA,hd,k⟩:=h
 exact k _ δ v [] S H rfl hS ((hA.push (e:=⟨some v,.val v,[]⟩) ⟨rfl,rfl⟩ (λf _=>⟨λ_ a ha=>(nomatch ha),λ_ a _=>Bh⟩) (λa ha=>(nomatch ha))).tomid) hd
theorem Yk{x:Str}{n:String}{pos:Pos}(hg:Gl X x)(hm:X.mg x=none)(hv:Jz x=some (.type n))(hn:x ≠ "__name__" := by decide)(hd:(x == ("__debug__" : Str))=false:=by decide):Gd X (.Name x pos) (dV (.ty n)):=e7 (wL hg hm hv rfl hn hd)
end
end DL
namespace Nd
open PySem PySem.Spec PyProof.Rows L2
def U9(K:PySem.W.Frag)(a b:Addr):It :=
  ⟨λi H=>∃xs ys x y,Ox K H a xs/\Ox K H b ys/\xs[i]? = some x/\ys[i]? = some y,
   λi H x H'=>∃p u v,x=.ref p/\H p=none/\H'=upd H p (.tup [u,v])/\(∀xs,Ox K H a xs->xs[i]? = some u)/\∀ys,Ox K H b ys->ys[i]? = some v,
   λi H=>∃xs ys,Ox K H a xs/\Ox K H b ys/\(xs.length<=i\/ys.length<=i)⟩
theorem rH{P:Bm}{w:World}{K:PySem.W.Frag}{elts:List Expr}{k:Nat}{pos:Pos}(a b z TI TO i1 i2:Addr)(D:ZipApart z TI TO i1 i2 a b):Turn P w K (.Tuple elts k pos) (U9 K a b) [z,TI,TO,i1,i2] z (λi h=>IsZip h z TI TO .none/\IsPair h TI (.ref i1) (.ref i2)/\(∃u v,IsPair h TO u v)/\h.IsListIter i1 a i/\h.IsListIter i2 b i) where
 mem:=Aa
 obj:=λi h st c hc=>by
  obtain ⟨hz,hTI,⟨u,v,hTO⟩,⟨o1,e1,c1,d1⟩,⟨o2,e2,c2,d2⟩⟩:=st
  simp only[An,Bh,or_false] at hc
  rcases hc with rfl | rfl | rfl | rfl | rfl
  ·exact ⟨_,hz,λv z=>by cases z⟩
  ·exact ⟨_,hTI,λv z=>by cases z⟩
  ·exact ⟨_,hTO,λv z=>by cases z⟩
  ·exact ⟨o1,e1,λv z=>by rw[d1] at z; cases z⟩
  ·exact ⟨o2,e2,λv z=>by rw[d2] at z; cases z⟩
 keep:=λi h h' st kp=>by
  obtain ⟨hz,hTI,⟨u,v,hTO⟩,h1,h2⟩:=st
  exact ⟨kp z (by simp) _ hz,kp TI (by simp) _ hTI,⟨u,v,kp TO (by simp) _ hTO⟩,h1.at λo q=>kp i1 (by simp) o q,h2.at λo q=>kp i2 (by simp) o q⟩
 item:=by
  intro X hP hw hK hc i pins s σ H E I hf st hg
  subst hP hw hK
  obtain ⟨xs,ys,x,y,hq1,hq2,hx,hy⟩:=hg
  obtain ⟨its1,rv1,p1,hz1⟩:=I.list hq1
  obtain ⟨its2,rv2,p2,hz2⟩:=I.list hq2
  obtain ⟨u1,hu1,ru1⟩:=rv1.get hx
  obtain ⟨u2,hu2,ru2⟩:=rv2.get hy
  obtain ⟨hz,hTI,⟨o1,o2,hTO⟩,hi1,hi2⟩:=st
  have zl:z<s.heap.objs.size:=Bb hz
  have TIl:TI<s.heap.objs.size:=Bb hTI
  have TOl:TO<s.heap.objs.size:=Bb hTO
  have i1l:i1<s.heap.objs.size:=by obtain ⟨_,q,_⟩:=hi1; exact Bb q
  have i2l:i2<s.heap.objs.size:=by obtain ⟨_,q,_⟩:=hi2; exact Bb q
  refine wpAny_pyNext_zip_item D hz hTI hTO hi1 hi2 p1.isList p2.isList (x:=u1) (y:=u2) (by simpa using hu1) (by simpa using hu2) λh1 a1 a2 a3 a4 a5 a6 hk=>⟨_,rfl,wpAny_letOwnedTupleGo_zip a1 λh2 he2 hs2=>?_⟩
  have hs2':Ko z h1 h2:=hs2
  have I1:Inv X pins σ (upd H s.heap.objs.size (.tup [x,y])) { s with heap:=s.heap.push { cls:=.type "tuple",data:=.seq #[u1,u2] } } :=
   I.laid (t':=s.toks) (λb o q=>Al _ q) (Ah _) ⟨by show 2<=Av; decide,[u1,u2],.cons ru1 (.cons ru2 .nil),_,Bu _ rfl,rfl,0,rfl⟩
  have nT:∀c∈[z,TI,TO,i1,i2],c≠s.heap.objs.size:=λc hc=>by
   simp only[An,Bh,or_false] at hc
   rcases hc with rfl | rfl | rfl | rfl | rfl <;> exact Cc (by assumption)
  have fr:∀c∈[z,TI,TO,i1,i2],(upd H s.heap.objs.size (.tup [x,y])) c=none:=λc hc=>by rw[Dm (nT c hc)]; exact (hf c hc).1
  refine ⟨.ref s.heap.objs.size,_,Th (fp:=[z,TI,TO,i1,i2]) (s:={ s with heap:=s.heap.push { cls:=.type "tuple",data:=.seq #[u1,u2] } }) (h':=h2) (t':=s.toks) I1 (λc o hc q=>?_) (λc hc=>⟨fr c hc,(hf c hc).2⟩),rfl,⟨_,x,y,rfl,I.hok.fresh (Ah _),rfl,(λzs hzs=>by rw[I.list_inj hzs hq1]; exact hx),λzs hzs=>by rw[I.list_inj hzs hq2]; exact hy⟩,⟨he2,?_,⟨u1,u2,?_⟩,?_,?_⟩,fr⟩
  ·simp only[An,Bh,or_false,not_or] at hc
   refine (hs2'.2 c hc.1).trans ?_
   by_cases hbT:c=s.heap.objs.size
   ·subst hbT
    have q':=(Bu s.heap (o:={ cls:=.type "tuple",data:=.seq #[u1,u2] }) rfl).symm.trans q
    rw[show h1.get? s.heap.objs.size=_ from a5]
    exact q'
   ·refine hk c o hc.1 hc.2.2.1 hc.2.2.2.1 hc.2.2.2.2 ?_
    have q0:(s.heap.push { cls:=.type "tuple",data:=.seq #[u1,u2] }).get? c=some o:=q
    rcases Heap.get?_push_cases q0 with zz | zz
    ·exact absurd zz.1 hbT
    ·exact zz
  ·exact (hs2'.2 TI D.TIz).trans (hk TI _ D.TIz D.TITO D.TIi1 D.TIi2 hTI)
  ·exact (hs2'.2 TO D.TOz).trans a2
  ·exact a3.at λo q=>(hs2'.2 i1 D.i1z).trans q
  ·exact a4.at λo q=>(hs2'.2 i2 D.i2z).trans q
 done:=by
  intro X hP hw hK hc i pins s σ H E I hf st hg
  subst hP hw hK
  obtain ⟨xs,ys,hq1,hq2,hx⟩:=hg
  obtain ⟨its1,rv1,p1,hz1⟩:=I.list hq1
  obtain ⟨its2,rv2,p2,hz2⟩:=I.list hq2
  obtain ⟨hz,hTI,⟨o1,o2,hTO⟩,hi1,hi2⟩:=st
  have hl1:=rv1.length
  have hl2:=rv2.length
  refine wpAny_pyNext_zip_end (I.ok.hd hc) D hz hTI hTO hi1 hi2 p1.isList p2.isList ?_ λh1 hk=>⟨rfl,Th (fp:=[z,TI,TO,i1,i2]) (t':=s.toks) I (λc o hc q=>?_) hf⟩
  ·rcases hx with h | h
   ·exact .inl (by simp; omega)
   ·exact .inr (by simp; omega)
  ·simp only[An,Bh,or_false,not_or] at hc
   exact hk c o hc.1 hc.2.2.1 hc.2.2.2.1 hc.2.2.2.2 q
 self:=λ_ _ _ _ _ st h=>wpAny_pyIter_zip st.1 h
theorem mF(I l1 l2:Nat)(h1:l1<I)(h2:l2<I):ZipApart (I+4) (I+2) (I+3) I (I+1) l1 l2:=by
 constructor <;> (intro e; have e':(_:Nat)=_:=e; omega)
section
variable{X:Cx}
def T3(K:PySem.W.Frag)(ta:TA):TI:=λσ H R=>ta σ H λvs H1=>∃a b,vs=[.ref a,.ref b]/\(∃xs,Ox K H1 a xs)/\(∃ys,Ox K H1 b ys)/\R (U9 K a b) H1
theorem u7{elts:List Expr}{k:Nat}{tp:Pos}{a b:Expr}{ta:TA}{p pos:Pos}(hg:Gl X "zip")(hm:X.mg "zip" = none)(ha:PA X [a,b] ta)(hs:Bs [a,b] X.env=(false,eval a X.env)::Bs [b] X.env:=by rfl)(hp:(Io pos (Bs [b] X.env)).any (·.1)=false:=by rfl):PI X (.Tuple elts k tp) (.Call (.Name "zip" p) [a,b] [] pos) (T3 X.K ta):=by
 intro pins s σ H R I h
 refine Call_ (Yq I hg hm (u:=.type "zip") (by decide +kernel) (Kw (Fs (ha pos pins s σ H _ I h) λus s1 ⟨vs,H1,I1,r1,q1⟩=>?_) hs hp))
 obtain ⟨l1,l2,e,⟨xs,hq1⟩,⟨ys,hq2⟩,q⟩:=q1
 subst e
 obtain ⟨u1,u2,rfl,ru1,ru2⟩:=vals2 r1
 cases ru1
 cases ru2
 obtain ⟨its1,rv1,pl1,hz1⟩:=I1.list hq1
 obtain ⟨its2,rv2,pl2,hz2⟩:=I1.list hq2
 have hlt1:l1<s1.heap.objs.size:=let ⟨o,q,_⟩:=pl1.isList; Bb q
 have hlt2:l2<s1.heap.objs.size:=let ⟨o,q,_⟩:=pl2.isList; Bb q
 refine call_zip_2 pl1.isList pl2.isList λh2 hz hTI hTO hi1 hi2 hsz hk=>wpAny_pyIter_zip hz ?_
 have fr1:∀n,Lk X pins H1 (s1.heap.objs.size+n):=λn=>I1.fpOk (Ph _ _) (I1.hok.fresh (Ph _ _))
 have fr:∀c∈[s1.heap.objs.size+4,s1.heap.objs.size+2,s1.heap.objs.size+3,s1.heap.objs.size,s1.heap.objs.size+1],Lk X pins H1 c:=λc hc=>by
  simp only[An,Bh,or_false] at hc
  rcases hc with rfl | rfl | rfl | rfl | rfl
  ·exact fr1 4
  ·exact fr1 2
  ·exact fr1 3
  ·exact fr1 0
  ·exact fr1 1
 exact ⟨s1.heap.objs.size+4,_,_,_,H1,rfl,I1.kept (t':=s1.toks) hk,rH l1 l2 _ _ _ _ _ (mF _ _ _ hlt1 hlt2),⟨hz,hTI,⟨_,_,hTO⟩,hi1,hi2⟩,fr,q⟩
end
end Nd
namespace Nd
open PySem PySem.Spec PyProof.Rows L2
open AutoSeq1 (wpAny_loadPart')
end Nd
namespace DL
open PySem L2 Nd
def dB(de:DE):DT:=λδ P=>de δ λx δ'=>match x with
 | .dat _ (.bool b)=>P b δ'
 | _=>False
def vB:Ag->Bool
 | .none=>false
 | .bool b=>b
 | .int i=>i != 0
 | .str s=>(s.length:Int) != 0
 | .list ds=>!ds.isEmpty
 | .tuple ds=>!ds.isEmpty
 | .dict _=>true
def G6:Ag->Prop
 | .str s=>s.length<=1000000
 | .dict _=>False
 | _=>True
def B1(de:DE):DT:=λδ P=>de δ λx δ'=>match x with
 | .dat _ d=>G6 d/\P (vB d) δ'
 | _=>False
def yP(dt:DT):DT:=λδ P=>dt δ λb δ'=>P (!b) δ'
def yV(dt du:DT):DT:=λδ P=>dt δ λb δ'=>match b with
 | true=>du δ' P
 | false=>P false δ'
def K1(dt du:DT):DT:=λδ P=>dt δ λb δ'=>match b with
 | true=>P true δ'
 | false=>du δ' P
def M8(de:DE):DE:=λδ P=>de δ λx δ'=>match x with
 | .dat _ (.bool b)=>P (.dat .ow (.bool (!b))) δ'
 | _=>False
def N3(da db:DE):DE:=λδ P=>da δ λx δ'=>match x with
 | .dat _ (.bool true)=>db δ' P
 | .dat _ (.bool false)=>P (.dat .ow (.bool false)) δ'
 | _=>False
def F5(dt:DT)(da db:DE):DE:=λδ P=>dt δ λb δ'=>match b with
 | true=>da δ' P
 | false=>db δ' P
def N4(de:DE):DE:=λδ P=>de δ λx δ'=>match x with
 | .dat _ (.int i)=>P (.dat .ow (.int (-i))) δ'
 | _=>False
section
variable{K:PySem.W.Frag}{de:DE}
theorem M9:∀σ H Q,LT K (dB de) σ H Q->LE K de σ H λx H'=>∃k,x=.bl k/\Q k H':=by
 intro σ H Q h
 obtain ⟨H0,Y,S,T,δ,P,rfl,hS,hA,hd,k⟩:=h
 refine ⟨H0,Y,S,T,δ,_,rfl,hS,hA,hd,λx δ1 v F S1 H1 e1 e2 hA1 p1=>?_⟩
 split at p1
 ·obtain ⟨rfl,_⟩:=(hA1.told mem_mid).bl_inv
  exact ⟨_,rfl,k _ δ1 S1 H1 e1 e2 hA1.drop p1⟩
 ·exact p1.elim
theorem x8{H:Hp}{v:V}{d:Ag}{F:List Addr}(r:RdF K H v d F)(h:G6 d):wA K v H (vB d):=by
 cases r with
 | non=>rfl
 | bl b=>rfl
 | int i=>rfl
 | str x=>exact ⟨cS h,rfl⟩
 | lst e l hs =>
  refine .inl ⟨_,Ox.of e,?_⟩
  have:=hs.len
  rename_i xs ds G
  cases xs <;> cases ds <;> first | rfl | cases this
 | tup e l hs =>
  refine .inr (.inl ⟨_,Ri.of e,?_⟩)
  have:=hs.len
  rename_i xs ds
  cases xs <;> cases ds <;> first | rfl | cases this
 | dic _ _ _=>exact h.elim
 | dik _ _ _=>exact h.elim
 | dnm _ _ _=>exact h.elim
theorem zP:∀σ H Q,LT K (B1 de) σ H Q->LE K de σ H λx H'=>∃k,wA K x H' k/\Q k H':=by
 intro σ H Q h
 obtain ⟨H0,Y,S,T,δ,P,rfl,hS,hA,hd,k⟩:=h
 refine ⟨H0,Y,S,T,δ,_,rfl,hS,hA,hd,λx δ1 v F S1 H1 e1 e2 hA1 p1=>?_⟩
 split at p1
 ·exact ⟨_,x8 (hA1.told mem_mid) p1.1,k _ δ1 S1 H1 e1 e2 hA1.drop p1.2⟩
 ·exact p1.elim
end
section
variable{X:Cx}{a b c e:Expr}{da db de:DE}{dt du:DT}{pos:Pos}{Ex:List Expr}
theorem La(h:Gd X e de)(he:∀whole,isTrue e X.env whole=(do let v <- whole; Pt e.pos; Px [v] (truthy v)):=by intro _; rfl):cF X e (dB de):=PT.imp (tL h he) M9
theorem Uq{op:CmpOp}{r:R2}{rd:D2}(ho:Ur X (Hk op) r)(o:lN X.K r rd)(ha:Gd X a da)(hb:Gd X b db)(hm:Ft op b=false):cF X (.Compare a [op] [b] pos) (dB (Zl rd da db)):=by
 refine PT.imp (wO ho ha hb hm) λσ H Q h=>?_
 exact kZ o _ _ _ (M9 σ H Q h)
theorem yH(ha:Gd X a da)(hb:Gd X b db):cF X (.Compare a [.Lt] [b] pos) (dB (Zl rdLt da db)):=Uq L5 (sS λ_ _ _=>.bl _) ha hb (Rq _)
theorem O3(ha:Gd X a da)(hb:Gd X b db):cF X (.Compare a [.GtE] [b] pos) (dB (Zl rdGe da db)):=Uq zB (sS λ_ _ _=>.bl _) ha hb (Rq _)
theorem zC(hu:X.A.units+64<cLine)(ha:Gd X a da)(hb:Gd X b db):cF X (.Compare a [.Eq] [b] pos) (dB (Zl (cM false) da db)):=Uq (tM hu) zJ ha hb (Rq _)
theorem kU(hu:X.A.units+64<cLine)(ha:Gd X a da)(hb:Gd X b db):cF X (.Compare a [.NotEq] [b] pos) (dB (Zl (cM true) da db)):=Uq (A7 hu) L1 ha hb (Rq _)
theorem rT(hu:X.A.units+64<cLine)(ha:Gd X a da)(hb:Gd X b db)(hm:Ft .NotIn b=false:=by with_unfolding_all rfl):cF X (.Compare a [.NotIn] [b] pos) (dB (Zl (mU true) da db)):=Uq (mI hu) yZ ha hb hm
theorem rN(ha:Gd X a da)(he:∀whole,isTrue a X.env whole=(do let v <- whole; Pt a.pos; Px [v] (truthy v)):=by intro _; rfl):cF X a (B1 da):=PT.imp (uF ha he) zP
theorem Ky(h:cF X a dt):cF X (.UnaryOp .Not a pos) (yP dt):=by
 refine PT.imp (zU h) λσ H Q h=>?_
 obtain ⟨H0,Y,S,T,δ,P,rfl,hS,hA,hd,k⟩:=h
 exact ⟨H0,Y,S,T,δ,_,rfl,hS,hA,hd,λb δ' S' H' e1 e2 hA' p=>k _ δ' S' H' e1 e2 hA' p⟩
theorem vG(h:cF X a dt):B3 X (.BoolOp .And [a] pos) dt:=xD h
theorem Rv(h:cF X a dt):B3 X (.BoolOp .Or [a] pos) dt:=n8 h
theorem B5(h:cF X a dt)(hb:B3 X (.BoolOp .And (b::Ex) pos) du):B3 X (.BoolOp .And (a::b::Ex) pos) (yV dt du):=by
 refine PW.imp (zR h hb) λσ H Q h=>?_
 obtain ⟨H0,Y,S,T,δ,P,rfl,hS,hA,hd,k⟩:=h
 refine ⟨H0,Y,S,T,δ,_,rfl,hS,hA,hd,λb δ' S' H' e1 e2 hA' p=>?_⟩
 cases b with
 | true=>exact gI ⟨H0,Y,S',T,δ',P,e1,e2,hA',p,k⟩
 | false=>exact nX (k _ δ' S' H' e1 e2 hA' p)
theorem Vq(h:cF X a dt)(hb:B3 X (.BoolOp .Or (b::Ex) pos) du):B3 X (.BoolOp .Or (a::b::Ex) pos) (K1 dt du):=by
 refine PW.imp (O9 h hb) λσ H Q h=>?_
 obtain ⟨H0,Y,S,T,δ,P,rfl,hS,hA,hd,k⟩:=h
 refine ⟨H0,Y,S,T,δ,_,rfl,hS,hA,hd,λb δ' S' H' e1 e2 hA' p=>?_⟩
 cases b with
 | true=>exact gI (k _ δ' S' H' e1 e2 hA' p)
 | false=>exact nX ⟨H0,Y,S',T,δ',P,e1,e2,hA',p,k⟩
theorem fW(h:B3 X a dt):cF X a dt:=PW.pt h
theorem tK{op}(h:Gd X a da):Gd X (.BoolOp op [a] pos) da:=A9 h
theorem pH(h:Gd X a da)(hb:Gd X (.BoolOp .And (b::Ex) pos) db):Gd X (.BoolOp .And (a::b::Ex) pos) (N3 da db):=by
 refine PE.imp (zW h hb) λσ H Q h=>?_
 obtain ⟨H0,Y,S,T,δ,P,rfl,hS,hA,hd,k⟩:=h
 refine ⟨H0,Y,S,T,δ,_,rfl,hS,hA,hd,λx δ1 v F S1 H1 e1 e2 hA1 p1=>?_⟩
 split at p1
 ·obtain ⟨rfl,_⟩:=(hA1.told mem_mid).bl_inv
  exact ⟨_,rfl,gI ⟨H0,Y,S1,T,δ1,P,e1,e2,hA1.drop,p1,k⟩⟩
 ·obtain ⟨rfl,_⟩:=(hA1.told mem_mid).bl_inv
  exact ⟨_,rfl,nX (k _ δ1 _ [] S1 H1 e1 e2 (hA1.drop.pushI (.bl _)) p1)⟩
 ·exact p1.elim
theorem i5(h:Gd X a da):Gd X (.UnaryOp .Not a pos) (M8 da):=by
 refine PE.imp (i3 h) λσ H Q h=>?_
 obtain ⟨H0,Y,S,T,δ,P,rfl,hS,hA,hd,k⟩:=h
 refine ⟨H0,Y,S,T,δ,_,rfl,hS,hA,hd,λx δ1 v F S1 H1 e1 e2 hA1 p1=>?_⟩
 split at p1
 ·obtain ⟨rfl,_⟩:=(hA1.told mem_mid).bl_inv
  exact ⟨_,rfl,k _ δ1 _ [] S1 H1 e1 e2 (hA1.drop.pushI (.bl _)) p1⟩
 ·exact p1.elim
theorem bM(h:Gd X a da):Gd X (.UnaryOp .USub a pos) (N4 da):=by
 refine PE.imp (N0 n5 h) λσ H Q h=>?_
 obtain ⟨H0,Y,S,T,δ,P,rfl,hS,hA,hd,k⟩:=h
 refine ⟨H0,Y,S,T,δ,_,rfl,hS,hA,hd,λx δ1 v F S1 H1 e1 e2 hA1 p1=>?_⟩
 split at p1
 ·obtain ⟨rfl,_⟩:=(hA1.told mem_mid).int_inv
  exact ⟨_,rfl,k _ δ1 _ [] S1 H1 e1 e2 (hA1.drop.pushI (.int _)) p1⟩
 ·exact p1.elim
theorem o5(hc:cF X c dt)(ha:Gd X a da)(hb:Gd X b db):Gd X (.IfExp c a b pos) (F5 dt da db):=by
 refine PE.imp (qG hc ha hb) λσ H Q h=>?_
 obtain ⟨H0,Y,S,T,δ,P,rfl,hS,hA,hd,k⟩:=h
 refine ⟨H0,Y,S,T,δ,_,rfl,hS,hA,hd,λb δ' S' H' e1 e2 hA' p=>?_⟩
 cases b with
 | true=>exact gI ⟨H0,Y,S',T,δ',P,e1,e2,hA',p,k⟩
 | false=>exact nX ⟨H0,Y,S',T,δ',P,e1,e2,hA',p,k⟩
end
theorem PS.impD{X:Cx}{st:Stmt}{t t':TS}(h:PS X st t)(k:∀D σ H,t' D σ H->t D σ H):PS X st t':=λpins s σ H D I q=>h pins s σ H D I (k D σ H q)
theorem kY.impD{X:Cx}{st:List Stmt}{t t':TS}(h:kY X st t)(k:∀D σ H,t' D σ H->t D σ H):kY X st t':=λpins s σ H D I q=>h pins s σ H D I (k D σ H q)
def yF:DB:=λD δ=>D.nx δ
def K8(t u:DB):DB:=λD δ=>t { D with nx:=λδ'=>u D δ' } δ
def K9(de:DE):DB:=λD δ=>de δ D.rt
def V9(dt:DT)(t u:DB):DB:=λD δ=>dt δ λb δ'=>match b with
 | true=>t D δ'
 | false=>u D δ'
def oO(de:DE)(dg:DG):DB:=λD δ=>de δ λx δ'=>dg x δ' D.nx
section
variable{X:Cx}{st:Stmt}{e tg c:Expr}{t u:DB}{Ex:List Stmt}{de:DE}{dg:DG}{dt:DT}{pos:Pos}
theorem Jp:bX X [] yF:=by
 refine kY.impD lI λD σ H h=>?_
 obtain ⟨H0,Y,S,T,δ,P,rfl,hS,hT,hA,hd,k1,k2,k3,k4⟩:=h
 exact k1 δ S H hS hA hd
theorem Dy(h1:qE X st t)(h2:bX X Ex u):bX X (st::Ex) (K8 t u):=by
 refine kY.impD (Gs h1 h2) λD σ H h=>?_
 obtain ⟨H0,Y,S,T,δ,P,rfl,hS,hT,hA,hd,k1,k2,k3,k4⟩:=h
 exact ⟨H0,Y,S,T,δ,_,rfl,hS,hT,hA,hd,λδ' S' H' e2 hA' p=>⟨H0,Y,S',T,δ',P,rfl,e2,hT,hA',p,k1,k2,k3,k4⟩,k2,k3,k4⟩
theorem Ei(h1:qE X st t):bX X [st] t:=Kq h1
theorem Fj(he:Gd X e de):qE X (.Return (some e) pos) (K9 de):=by
 refine PS.impD (Uo he) λD σ H h=>?_
 obtain ⟨H0,Y,S,T,δ,P,rfl,hS,hT,hA,hd,k1,k2,k3,k4⟩:=h
 exact ⟨H0,Y,S,T,δ,_,rfl,hS,hA,hd,λx δ' v F S' H' e1 e2 hA' p=>k2 x δ' v F S' H' e2 hA' p⟩
theorem Lz{a b:List Stmt}(hc:cF X c dt)(ha:bX X a t)(hb:bX X b u):qE X (.If c a b pos) (V9 dt t u):=by
 refine PS.impD (yA hc ha hb) λD σ H h=>?_
 obtain ⟨H0,Y,S,T,δ,P,rfl,hS,hT,hA,hd,k1,k2,k3,k4⟩:=h
 refine ⟨H0,Y,S,T,δ,_,rfl,hS,hA,hd,λb δ' S' H' e1 e2 hA' p=>?_⟩
 cases b with
 | true=>exact gI ⟨H0,Y,S',T,δ',P,e1,e2,hT,hA',p,k1,k2,k3,k4⟩
 | false=>exact nX ⟨H0,Y,S',T,δ',P,e1,e2,hT,hA',p,k1,k2,k3,k4⟩
theorem bU{K:PySem.W.Frag}{te:TE}{g:TG}(h1:∀σ H Q,LE K de σ H Q->te σ H Q)(h2:∀v σ H Q,LG K dg v σ H Q->g v σ H Q):∀D σ H,LS K (oO de dg) D σ H->mG te g D σ H:=by
 intro D σ H h
 obtain ⟨H0,Y,S,T,δ,P,rfl,hS,hT,hA,hd,k1,k2,k3,k4⟩:=h
 refine h1 _ _ _ ⟨H0,Y,S,T,δ,_,rfl,hS,hA,hd,λx δ' v F S' H' e1 e2 hA' p=>?_⟩
 exact h2 _ _ _ _ ⟨H0,Y,S',T,δ',x,F,P.nx,e1,e2,hA',p,λδ2 S2 H2 e3 hA2 q=>k1 δ2 S2 H2 e3 hA2 q⟩
end
def Pi(i:Nat):DG:=λx δ P=>match x with
 | .dat .pk _=>False
 | .dat _ d=>P ⟨δ.sl.set i (.dat .sh d),δ.n⟩
 | .val v=>P ⟨δ.sl.set i (.val v),δ.n⟩
 | .drw=>P ⟨δ.sl.set i .drw,δ.n⟩
 | .dT kvs=>P ⟨δ.sl.set i (.dT kvs),δ.n⟩
 | _=>False
def aP(i:Nat):DG:=λx δ P=>match x with
 | .dat .ow d=>P ⟨δ.sl.set i (.dat .ow d),δ.n⟩
 | .dat .tp d=>P ⟨δ.sl.set i (.dat .tp d),δ.n⟩
 | _=>False
theorem At.store{K:PySem.W.Frag}{H0 H:Hp}{X:Addr->Prop}{n:Nat}{S T:List Ent}{e:Ent}{i:Nat}(h:At K H0 X n (S++e::T) H):At K H0 X n (S.set i e++T) H:=by
 by_cases hi:i<S.length
 ·have hx:S[i]? = some S[i]:=by simp [hi]
  have p:(S++e::T).Perm (S[i]::(S.set i e++T)):=by
   refine Lb.trans ?_
   rw[<- Fm,<- Fm]
   exact (Tc hx).append_right T
  exact (h.perm p).sub (Dx _ _)
 ·rw[List.set_eq_of_length_le (by omega)]
  exact h.drop
theorem pI{S:List Ent}{i:Nat}{v:V}{x:DV}{F:List Addr}:vs (S.set i ⟨some v,x,F⟩)=(vs S).set i (some v):=by
 unfold vs
 rw[Ha]
theorem qC{S:List Ent}{δ:DS}{i n:Nat}{v:V}{x:DV}{F:List Addr}(h:Sl S δ):Sl (S.set i ⟨some v,x,F⟩) ⟨δ.sl.set i x,n⟩:=by
 unfold Sl at h ⊢
 rw[Ha,h]
theorem cK{K:PySem.W.Frag}{i:Nat}:∀v σ H Q,LG K (Pi i) v σ H Q->Qz i v σ H Q:=by
 intro v σ H Q h
 obtain ⟨H0,Y,S,T,δ,x,F,P,rfl,hS,hA,hd,k⟩:=h
 show Q ((vs S).set i (some v)) H
 have fin:∀y,At K H0 Y δ.n (S++⟨some v,y,F⟩::T) H->P ⟨δ.sl.set i y,δ.n⟩->Q ((vs S).set i (some v)) H:=λy hA' p=>by
  rw[<- pI (x:=y) (F:=F)]
  exact k _ _ H (qC hS) hA'.store p
 unfold Pi at hd
 split at hd
 ·exact hd.elim
 ·rename_i m d hm
  refine fin _ ?_ hd
  refine (hA.mid.wk ?_).tomid
  cases m <;> first | rfl | exact (hm rfl).elim
 ·exact fin _ hA hd
 ·exact fin _ hA hd
 ·exact fin _ hA hd
 ·exact hd.elim
theorem qF{K:PySem.W.Frag}{i:Nat}:∀v σ H Q,LG K (aP i) v σ H Q->Qz i v σ H Q:=by
 intro v σ H Q h
 obtain ⟨H0,Y,S,T,δ,x,F,P,rfl,hS,hA,hd,k⟩:=h
 show Q ((vs S).set i (some v)) H
 have fin:∀y,At K H0 Y δ.n (S++⟨some v,y,F⟩::T) H->P ⟨δ.sl.set i y,δ.n⟩->Q ((vs S).set i (some v)) H:=λy hA' p=>by
  rw[<- pI (x:=y) (F:=F)]
  exact k _ _ H (qC hS) hA'.store p
 unfold aP at hd
 split at hd
 ·exact fin _ hA hd
 ·exact fin _ hA hd
 ·exact hd.elim
section
variable{X:Cx}{pos:Pos}
theorem Ks{i:Nat}{x:Str}(hN:X.N.Nodup)(hi:X.N[i]? = some x)(hx:Loc X.env.scope x)(hf:X.fn x=true\/X.env.scope.names.lookup x=some .local:=by first | exact .inl rfl | exact .inr rfl | assumption):P5 X (.Name x pos) (Pi i):=PG.imp (Iy hN hi hx hf) cK
theorem Ug{i:Nat}{x:Str}{e:Expr}{de:DE}{pos':Pos}(hN:X.N.Nodup)(hi:X.N[i]? = some x)(hx:Loc X.env.scope x)(he:Gd X e de)(hs:Jy e (some (.Name x pos')) pos.line X.env=pure false:=by rfl)(hf:X.fn x=true\/X.env.scope.names.lookup x=some .local:=by first | exact .inl rfl | exact .inr rfl | assumption):qE X (.Assign [.Name x pos'] e pos) (oO de (Pi i)):=PS.impD (Mv hN hi hx he hs hf) (bU (λ_ _ _ h=>h) cK)
theorem Wo{i:Nat}{x:Str}{e:Expr}{de:DE}{pos':Pos}(hN:X.N.Nodup)(hi:X.N[i]? = some x)(hx:Loc X.env.scope x)(he:Gd X e de)(hs:Jy e (some (.Name x pos')) pos.line X.env=pure false:=by rfl)(hf:X.fn x=true\/X.env.scope.names.lookup x=some .local:=by first | exact .inl rfl | exact .inr rfl | assumption):qE X (.Assign [.Name x pos'] e pos) (oO de (aP i)):=PS.impD (Mv hN hi hx he hs hf) (bU (λ_ _ _ h=>h) qF)
end
def tZ:rL:=λxs δ P=>match xs with
 | []=>P δ
 | _=>False
def jZ(g:DG)(gs:rL):rL:=λxs δ P=>match xs with
 | x::r=>g x δ λδ'=>gs r δ' P
 | []=>False
def qU(n:Nat)(gs:rL):DG:=λx δ P=>match x with
 | .dat m (.tuple ds)=>ds.length=n/\gs (ds.map λd=>.dat (Mw m) d) δ P
 | _=>False
theorem At.unpack{K:PySem.W.Frag}{H0 H:Hp}{X:Addr->Prop}{n:Nat}{m:Md}:∀{us:List V} {ds:List Ag} {F:List Addr} {E:List Ent},RdFs K H us ds F->(m=.ow->F.Nodup)->(∀f∈E,Sw ⟨none,.dat (Mw m) .none,F⟩ f)->(∀a∈cells ⟨none,.dat (Mw m) .none,F⟩,H0 a=none)->At K H0 X n E H->∃As:List Ent,As.map Ent.v=us.map some/\As.map Ent.x=ds.map (λd=>.dat (Mw m) d)/\(∀e∈As,∀a∈e.F,a∈F)/\At K H0 X n (As++E) H
 | _,_,_,_,.nil,_,_,_,h=>⟨[],rfl,rfl,λ_ z=>(nomatch z),h⟩
 | _,_,_,E,.cons (x:=x) (d:=d) (F:=F1) (G:=G1) a t,hn,hs,hnew,h=>by
  have cs:∀{G:List Addr} {u:Option V} {d':Ag},(∀b∈G,b∈F1++G1)->∀b∈cells ⟨u,.dat (Mw m) d',G⟩,b∈cells ⟨none,.dat (Mw m) .none,F1++G1⟩:=λ{G u d'} hG b hb=>by
   cases m with
   | ow=>exact hG b hb
   | _=>exact nomatch hb
  have sub:∀{G:List Addr} {u:Option V} {d':Ag} {f:Ent},(∀b∈G,b∈F1++G1)->Sw ⟨none,.dat (Mw m) .none,F1++G1⟩ f->Sw ⟨u,.dat (Mw m) d',G⟩ f:=λ{G u d' f} hG q=>by
   refine ⟨λhp b hb=>q.1 ?_ b (cs hG b hb),λhp b hb z=>q.2 ?_ b hb (hG b z)⟩
   ·rcases hp with hp | hp
    ·exact .inl hp
    ·cases hp
   ·rcases hp with hp | hp
    ·refine .inl ?_
     cases m <;> exact hp
    ·exact .inr hp
  obtain ⟨As,h1,h2,h3,h4⟩:=At.unpack (m:=m) t (λz=>(Es.mp (hn z)).2.1) (λf hf=>sub (λb hb=>Ad _ hb) (hs f hf)) (λb hb=>hnew b (cs (λb hb=>Ad _ hb) b hb)) h
  refine ⟨⟨some x,.dat (Mw m) d,F1⟩::As,by rw[Bc,Bc,h1],by rw[Bc,Bc,h2],λe he b hb=>?_,?_⟩
  ·rcases An.mp he with rfl | he
   ·exact Ao _ hb
   ·exact Ad _ (h3 e he b hb)
  ·refine h4.push ⟨x,rfl,a,λz=>?_,λz=>?_⟩ (λf hf=>?_) λb hb=>.inl (hnew b (cs (λb hb=>Ao _ hb) b hb))
   ·cases m with
    | ow=>exact (Es.mp (hn rfl)).1
    | _=>cases z
   ·cases m <;> cases z
   ·rcases Au.mp hf with hf | hf
    ·have hx:f.x∈As.map Ent.x:=List.mem_map.mpr ⟨f,hf,rfl⟩
     rw[h2] at hx
     obtain ⟨d',_,ed⟩:=Cp.mp hx
     refine ⟨λhp b hb z=>?_,λhp b hb z=>?_⟩
     ·cases m with
      | ow=>exact (Es.mp (hn rfl)).2.2 b hb b (h3 f hf b z) rfl
      | _=>exact nomatch hb
     ·cases m with
      | ow=>exact (Es.mp (hn rfl)).2.2 b z b (h3 f hf b (Hh _ _ hb)) rfl
      | _ =>
       unfold cells at hb
       rw[<- ed] at hb
       exact nomatch hb
    ·exact sub (λb hb=>Ao _ hb) (hs f hf)
section
variable{X:Cx}{pos:Pos}
theorem lJ:xI X [] tZ:=by
 refine x4.imp kH λus σ H Q h=>?_
 obtain ⟨H0,Y,S,T,As,δ,P,rfl,hS,eu,hA,hd,k⟩:=h
 match As,hA,hd,eu with
 | [],hA,hd,eu =>
  cases us with
  | nil=>exact ⟨rfl,k δ S H hS hA hd⟩
  | cons _ _=>cases eu
 | _::_,hA,hd,eu=>exact hd.elim
theorem Sk{e:Expr}{es:List Expr}{g:DG}{gs:rL}(h1:P5 X e g)(h2:xI X es gs)(hs:(Ju (e::es) X.env).map (·.2)=Jv e X.env::(Ju es X.env).map (·.2):=by rfl):xI X (e::es) (jZ g gs):=by
 refine x4.imp (Xx h1 h2 hs) λus σ H Q h=>?_
 obtain ⟨H0,Y,S,T,As,δ,P,rfl,hS,eu,hA,hd,k⟩:=h
 match As,hA,hd,eu with
 | [],hA,hd,eu=>exact hd.elim
 | ⟨v,x,F⟩::As,hA,hd,eu =>
  cases us with
  | nil=>cases eu
  | cons u us =>
   rw[Bc,Bc] at eu
   obtain ⟨e1,e2⟩:=Fz eu
   have e1':v=some u:=e1
   subst e1'
   refine ⟨u,us,rfl,H0,Y,S,As++T,δ,x,F,_,rfl,hS,hA,hd,λδ' S' H' e3 hA' p=>?_⟩
   exact ⟨H0,Y,S',T,As,δ',P,rfl,e3,e2,hA',p,k⟩
theorem qO{es:List Expr}{kk:Nat}{gs:rL}{n:Nat}(hc:X.calm=true)(h:xI X es gs)(hn:(Ju es X.env).length=n:=by rfl)(hst:(Ju es X.env).findIdx? (·.1)=none:=by rfl):P5 X (.Tuple es kk pos) (qU n gs):=by
 refine PG.imp (qD hc h hn hst) λv σ H Q h=>?_
 obtain ⟨H0,Y,S,T,δ,x,F,P,rfl,hS,hA,hd,k⟩:=h
 unfold qU at hd
 split at hd
 ·rename_i m ds
  obtain ⟨a,xs,rfl,ha,ra,hz⟩:=(hA.told mem_mid).tup_inv
  have hm:=hA.mid
  have hp:=Bn.mp hm.sep
  obtain ⟨w,_,_,hnd,_⟩:=hm.ok _ Aa
  have cs:∀b∈cells ⟨none,.dat (Mw m) .none,F⟩,b∈cells ⟨some (.ref a),.dat m (.tuple ds),F⟩:=λb hb=>by
   cases m with
   | ow=>exact hb
   | _=>exact nomatch hb
  obtain ⟨As,h1,h2,h3,h4⟩:=At.unpack (m:=m) (E:=S++T) ra hnd (λf hf=>by
   refine ⟨λhq b hb=>(hp.1 f hf).1 ?_ b (cs b hb),λhq b hb=>(hp.1 f hf).2 ?_ b hb⟩
   ·rcases hq with hq | hq
    ·exact .inl hq
    ·cases hq
   ·rcases hq with hq | hq
    ·refine .inl ?_
     cases m <;> first | rfl | exact hq
    ·exact .inr hq) (λb hb=>by
   rcases hm.new _ Aa b (cs b hb) with z | z
   ·exact z
   ·cases z.2) hA.drop
  refine ⟨a,xs,rfl,Ri.of ha,by rw[ra.len]; exact hd.1,H0,Y,S,T,As,δ,P,rfl,hS,h1,h4.perm ?_,by rw[h2]; exact hd.2,k⟩
  rw[<- Bg,<- Bg]
  exact Di.append_right T
 ·exact hd.elim
end
theorem gU{K:PySem.W.Frag}{H0 H:Hp}{X:Addr->Prop}{n:Nat}{E:List Ent}(h:At K H0 X n E H):∀{e f:Ent},e∈E->f∈E->e=f\/Sw e f:=by
 have main:∀{E:List Ent},E.Pairwise Sw->∀{e f:Ent},e∈E->f∈E->e=f\/Sw e f:=by
  intro E
  induction E with
  | nil=>intro _ e f he; cases he
  | cons g E ih =>
   intro hp e f he hf
   have hc:=Bn.mp hp
   rcases An.mp he with he | he
   ·subst he
    rcases An.mp hf with hf | hf
    ·exact .inl hf.symm
    ·exact .inr (hc.1 f hf)
   ·rcases An.mp hf with hf | hf
    ·rw[hf]
     exact .inr (hc.1 e he).symm
    ·exact ih hc.2 he hf
 intro e f he hf
 exact main h.sep he hf
abbrev DI:=DS->(Md->List Ag->DS->Prop)->Prop
structure IterOk(K:PySem.W.Frag)(J:It)(hid:List Ent)(m:Md)(ds:List Ag):Prop where
 md:m=.sh\/m=.pk
 hd:∀e∈hid,cells e=[]
 np:m=.sh->∀e∈hid,Oy e.x=false
 go:∀H n i,(∀e∈hid,Ja K H n e)->i<ds.length->J.go i H
 yld:∀H n i x H',(∀e∈hid,Ja K H n e)->i<ds.length->J.yld i H x H'->Jk H H'/\∃d F,ds[i]? = some d/\RdF K H' x d F/\∀a∈F,∃e∈hid,a∈e.F
 stop:∀H n,(∀e∈hid,Ja K H n e)->J.stop ds.length H
def LI(K:PySem.W.Frag)(di:DI):TI:=λσ H R=>∃(H0:Hp) (X:Addr->Prop) (S T:List Ent) (δ:DS) (P:Md->List Ag->DS->Prop),vs S=σ/\Sl S δ/\At K H0 X δ.n (S++T) H/\di δ P /\
 ∀m ds δ' J hid S' H',vs S'=σ->Sl S' δ'->At K H0 X δ'.n (S'++(hid++T)) H'->IterOk K J hid m ds->ds.length<=Av->P m ds δ'->R J H'
abbrev B4(X:Cx)(tg iter:Expr)(di:DI):Prop:=PI X tg iter (LI X.K di)
theorem PI.imp{X:Cx}{tg e:Expr}{t t':TI}(h:PI X tg e t)(k:∀σ H Q,t' σ H Q->t σ H Q):PI X tg e t':=λpins s σ H Q I q=>h pins s σ H Q I (k σ H Q q)
def Kg:Md->Md
 | .pk=>.pk
 | _=>.sh
theorem Wp(m:Md):wk m (Kg m)=true:=by cases m <;> rfl
theorem At.item{K:PySem.W.Frag}{H0 H H':Hp}{X:Addr->Prop}{n:Nat}{S T hid:List Ent}{m:Md}{v:V}{d:Ag}{F:List Addr}(h:At K H0 X n (S++(hid++T)) H)(s:Jk H H')(r:RdF K H' v d F)(hF:∀a∈F,∃e∈hid,a∈e.F)(md:m=.sh\/m=.pk)(hh:∀e∈hid,cells e=[])(np:m=.sh->∀e∈hid,Oy e.x=false):At K H0 X n (S++⟨some v,.dat m d,F⟩::(hid++T)) H':=by
 have h1:=h.grow (n':=n) s (Ah _)
 have c0:∀a,a∉cells ⟨some v,.dat m d,F⟩:=λa ha=>by
  rcases md with rfl | rfl <;> exact nomatch ha
 refine (h1.push (e:=⟨some v,.dat m d,F⟩) ⟨v,rfl,r,λz=>?_,λz=>?_⟩ (λf hf=>⟨λ_ a ha=>absurd ha (c0 a),λhq a ha z=>?_⟩) λa ha=>absurd ha (c0 a)).tomid
 ·rcases md with rfl | rfl <;> cases z
 ·rcases md with rfl | rfl <;> cases z
 ·obtain ⟨e,he,ze⟩:=hF a z
  have he':e∈S++(hid++T):=Ad _ (Ao _ he)
  rcases gU h he' hf with rfl | q
  ·rw[hh e he] at ha
   cases ha
  ·refine q.2 ?_ a ha ze
   rcases hq with hq | hq
   ·refine .inl (np ?_ e he)
    rcases md with rfl | rfl
    ·rfl
    ·cases hq
   ·exact .inr hq
def W0(de:DE):DI:=λδ P=>de δ λx δ'=>match x with
 | .dat m (.list ds)=>P (Kg m) ds δ'
 | .dat m (.tuple ds)=>P (Kg m) ds δ'
 | _=>False
def cZ(da:DA):DI:=λδ P=>da δ λxs δ'=>match xs with
 | [.dat _ (.int j)]=>-1000000<=j/\j<=1000000/\P .sh ((Bp j.toNat).map λi:Nat=>.int i) δ'
 | _=>False
def Q6(da:DA):DI:=λδ P=>da δ λxs δ'=>match xs with
 | [.dat m (.list ds)]=>P (Kg m) (ds.zipIdx.map λp=>.tuple [.int p.2,p.1]) δ'
 | _=>False
def P2(da:DA):DI:=λδ P=>da δ λxs δ'=>match xs with
 | [.dat m (.tuple ds)]=>P (Kg m) (ds.zipIdx.map λp=>.tuple [.int p.2,p.1]) δ'
 | _=>False
def mdZip:Md->Md->Md
 | .pk,_=>.pk
 | _,.pk=>.pk
 | _,_=>.sh
def yO(da:DA):DI:=λδ P=>da δ λxs δ'=>match xs with
 | [.dat m (.list ds),.dat m' (.list es)]=>P (mdZip m m') ((ds.zip es).map λp=>.tuple [p.1,p.2]) δ'
 | _=>False
section
variable{K:PySem.W.Frag}
theorem Jl{H:Hp}{n:Nat}{v:V}{m:Md}{d:Ag}{F:List Addr}{hid:List Ent}(h:∀e∈hid,Ja K H n e)(he:⟨some v,.dat m d,F⟩∈hid):RdF K H v d F:=by
 obtain ⟨w,e1,h1,_⟩:=h _ he
 cases e1
 exact h1
theorem Yr{v:Option V}{m:Md}{d:Ag}{F:List Addr}:cells ⟨v,.dat (Kg m) d,F⟩=[]:=by cases m <;> rfl
theorem sJ{v:Option V}{m:Md}{d:Ag}{F:List Addr}:∀e∈[(⟨v,.dat (Kg m) d,F⟩ : Ent)],cells e=[]:=λe he=>by
 rw[Af.mp he]
 exact Yr
theorem yQ{v:Option V}{m:Md}{d:Ag}{F:List Addr}:Kg m=.sh->∀e∈[(⟨v,.dat (Kg m) d,F⟩ : Ent)],Oy e.x=false:=λz e he=>by
 rw[Af.mp he]
 show Oy (.dat (Kg m) d)=false
 rw[z]
 rfl
theorem lU(m:Md):Kg m=.sh\/Kg m=.pk:=by cases m <;> simp [Kg]
theorem nW{a:Addr}{m:Md}{ds:List Ag}{F:List Addr}:IterOk K (A6 K a) [⟨some (.ref a),.dat (Kg m) (.list ds),F⟩] (Kg m) ds where
 md:=lU m
 hd:=sJ
 np:=yQ
 go:=λH n i h hi=>by
  obtain ⟨b,xs,G,e,hb,rb,_,_⟩:=(Jl h Aa).list_inv
  cases e
  have hl:=rb.len
  exact ⟨xs,xs[i],Ox.of hb,by simp [show i<xs.length by omega]⟩
 yld:=λH n i x H' h hi y=>by
  obtain ⟨b,xs,G,e,hb,rb,rfl,_⟩:=(Jl h Aa).list_inv
  cases e
  obtain ⟨rfl,y⟩:=y
  have hx:=y xs (Ox.of hb)
  obtain ⟨x',F',h1,h2,h3⟩:=rb.get (i:=i) (e:=ds[i]) (by simp [hi])
  rw[hx] at h1
  cases h1
  exact ⟨Jk.refl _,ds[i],F',by simp [hi],h2,λc hc=>⟨_,Aa,Ae _ (h3.subset hc)⟩⟩
 stop:=λH n h=>by
  obtain ⟨b,xs,G,e,hb,rb,_,_⟩:=(Jl h Aa).list_inv
  cases e
  exact ⟨xs,Ox.of hb,by rw[rb.len]; exact Ah _⟩
theorem sE{a:Addr}{m:Md}{ds:List Ag}{F:List Addr}:IterOk K (R8 K a) [⟨some (.ref a),.dat (Kg m) (.tuple ds),F⟩] (Kg m) ds where
 md:=lU m
 hd:=sJ
 np:=yQ
 go:=λH n i h hi=>by
  obtain ⟨b,xs,e,hb,rb,_⟩:=(Jl h Aa).tup_inv
  cases e
  have hl:=rb.len
  exact ⟨xs,xs[i],Ri.of hb,by simp [show i<xs.length by omega]⟩
 yld:=λH n i x H' h hi y=>by
  obtain ⟨b,xs,e,hb,rb,_⟩:=(Jl h Aa).tup_inv
  cases e
  obtain ⟨rfl,y⟩:=y
  have hx:=y xs (Ri.of hb)
  obtain ⟨x',F',h1,h2,h3⟩:=rb.get (i:=i) (e:=ds[i]) (by simp [hi])
  rw[hx] at h1
  cases h1
  exact ⟨Jk.refl _,ds[i],F',by simp [hi],h2,λc hc=>⟨_,Aa,h3.subset hc⟩⟩
 stop:=λH n h=>by
  obtain ⟨b,xs,e,hb,rb,_⟩:=(Jl h Aa).tup_inv
  cases e
  exact ⟨xs,Ri.of hb,by rw[rb.len]; exact Ah _⟩
theorem iL{lo:Int}{n:Nat}:IterOk K (vH lo n) [] .sh ((Bp n).map λi:Nat=>.int (lo+i)) where
 md:=.inl rfl
 hd:=λ_ z=>nomatch z
 np:=λ_ _ z=>nomatch z
 go:=λH k i h hi=>by
  show i<n
  simpa using hi
 yld:=λH k i x H' h hi y=>by
  obtain ⟨rfl,rfl⟩:=y
  rw[Ab,Cs] at hi
  exact ⟨Jk.refl _,.int (lo+i),[],by simp [hi],.int _,λ_ z=>nomatch z⟩
 stop:=λH k h=>by simp [vH]
theorem qY{a b:Addr}{m m':Md}{ds es:List Ag}{F G:List Addr}:IterOk K (U9 K a b) [⟨some (.ref a),.dat (Kg m) (.list ds),F⟩,⟨some (.ref b),.dat (Kg m') (.list es),G⟩] (mdZip m m') ((ds.zip es).map λp=>.tuple [p.1,p.2]) where
 md:=by cases m <;> cases m' <;> simp [mdZip]
 hd:=λe he=>by
  rcases An.mp he with rfl | he
  ·exact Yr
  ·rw[Af.mp he]
   exact Yr
 np:=λz e he=>by
  rcases An.mp he with rfl | he
  ·cases m <;> cases m' <;> first | rfl | cases z
  ·rw[Af.mp he]
   cases m <;> cases m' <;> first | rfl | cases z
 go:=λH n i h hi=>by
  obtain ⟨b1,xs,G1,e1,hb1,rb1,_,_⟩:=(Jl h Aa).list_inv
  obtain ⟨b2,ys,G2,e2,hb2,rb2,_,_⟩:=(Jl h (Ae _ Aa)).list_inv
  cases e1
  cases e2
  have l1:=rb1.len
  have l2:=rb2.len
  rw[Ab,Mc] at hi
  exact ⟨xs,ys,xs[i],ys[i],Ox.of hb1,Ox.of hb2,by simp [show i<xs.length by omega],by simp [show i<ys.length by omega]⟩
 yld:=λH n i x H' h hi y=>by
  obtain ⟨b1,xs,G1,e1,hb1,rb1,rfl,_⟩:=(Jl h Aa).list_inv
  obtain ⟨b2,ys,G2,e2,hb2,rb2,rfl,_⟩:=(Jl h (Ae _ Aa)).list_inv
  cases e1
  cases e2
  rw[Ab,Mc] at hi
  obtain ⟨t,u,v,rfl,nt,rfl,y1,y2⟩:=y
  have hx1:=y1 xs (Ox.of hb1)
  have hx2:=y2 ys (Ox.of hb2)
  obtain ⟨x1,F1,h11,h12,h13⟩:=rb1.get (i:=i) (e:=ds[i]) (by simp [show i<ds.length by omega])
  obtain ⟨x2,F2,h21,h22,h23⟩:=rb2.get (i:=i) (e:=es[i]) (by simp [show i<es.length by omega])
  rw[hx1] at h11
  cases h11
  rw[hx2] at h21
  cases h21
  have s1:=Dq nt (.tup [u,v])
  refine ⟨s1,.tuple [ds[i],es[i]],F1++F2,?_,.tup Cn (by simp [Kv]) ?_,λc hc=>?_⟩
  ·rw[Bf,show (ds.zip es)[i]? = some (ds[i],es[i]) from List.getElem?_zip_eq_some.mpr ⟨by simp [show i<ds.length by omega],by simp [show i<es.length by omega]⟩]
   rfl
  ·have:=RdFs.cons (h12.kp (Kp.of s1)) (RdFs.cons (h22.kp (Kp.of s1)) RdFs.nil)
   rw[Ec] at this
   exact this
  ·rcases Au.mp hc with hc | hc
   ·exact ⟨_,Aa,Ae _ (h13.subset hc)⟩
   ·exact ⟨_,Ae _ Aa,Ae _ (h23.subset hc)⟩
 stop:=λH n h=>by
  obtain ⟨b1,xs,G1,e1,hb1,rb1,_,_⟩:=(Jl h Aa).list_inv
  obtain ⟨b2,ys,G2,e2,hb2,rb2,_,_⟩:=(Jl h (Ae _ Aa)).list_inv
  cases e1
  cases e2
  have l1:=rb1.len
  have l2:=rb2.len
  refine ⟨xs,ys,Ox.of hb1,Ox.of hb2,?_⟩
  rw[Ab,Mc]
  omega
end
section
variable{X:Cx}{tg e:Expr}{de:DE}{di:DI}
def dL(de:DE):DI:=λδ P=>de δ λx δ'=>match x with
 | .dat m (.list ds)=>P (Kg m) ds δ'
 | _=>False
def W4(de:DE):DI:=λδ P=>de δ λx δ'=>match x with
 | .dat m (.tuple ds)=>P (Kg m) ds δ'
 | _=>False
theorem zH(h:Gd X e de):B4 X tg e (dL de):=by
 refine PI.imp (Sv h) λσ H R h=>?_
 obtain ⟨H0,Y,S,T,δ,P,rfl,hS,hA,hd,k⟩:=h
 refine ⟨H0,Y,S,T,δ,_,rfl,hS,hA,hd,λx δ1 v F S1 H1 e1 e2 hA1 p1=>?_⟩
 split at p1
 ·obtain ⟨a,xs,G,rfl,ha,ra,rfl,hz⟩:=(hA1.told mem_mid).list_inv
  exact ⟨a,rfl,⟨xs,Ox.of ha⟩,k _ _ δ1 _ [_] S1 H1 e1 e2 ((hA1.mid.wk (Wp _)).tomid) nW hz p1⟩
 ·exact p1.elim
theorem U1(h:Gd X e de):B4 X tg e (W4 de):=by
 refine PI.imp (t8 h) λσ H R h=>?_
 obtain ⟨H0,Y,S,T,δ,P,rfl,hS,hA,hd,k⟩:=h
 refine ⟨H0,Y,S,T,δ,_,rfl,hS,hA,hd,λx δ1 v F S1 H1 e1 e2 hA1 p1=>?_⟩
 split at p1
 ·obtain ⟨a,xs,rfl,ha,ra,hz⟩:=(hA1.told mem_mid).tup_inv
  exact ⟨a,rfl,⟨xs,Ri.of ha⟩,k _ _ δ1 _ [_] S1 H1 e1 e2 ((hA1.mid.wk (Wp _)).tomid) sE hz p1⟩
 ·exact p1.elim
variable{es:List Expr}{da:DA}{a b:Expr}{p pos tp:Pos}{elts:List Expr}{kt:Nat}
theorem mV(hg:Gl X "range")(hm:X.mg "range" = none)(ha:oT X [a] da)(hs:Bs [a] X.env=[(false,eval a X.env)]:=by rfl):B4 X tg (.Call (.Name "range" p) [a] [] pos) (cZ da):=by
 refine PI.imp (Qm hg hm ha hs) λσ H R h=>?_
 obtain ⟨H0,Y,S,T,δ,P,rfl,hS,hA,hd,k⟩:=h
 refine ⟨H0,Y,S,T,δ,_,rfl,hS,hA,hd,λxs δ' As us S' H' e1 e2 ex eu hA' p=>?_⟩
 split at p
 ·obtain ⟨v,F,rfl,hA2⟩:=Mh eu hA' ex
  obtain ⟨rfl,_⟩:=(hA2.told mem_mid).int_inv
  obtain ⟨j0,j1,pp⟩:=p
  refine ⟨_,rfl,by omega,by omega,k _ _ δ' _ [] S' H' e1 e2 hA2.drop iL (by rw[Ab,Cs]; exact cS (by omega)) ?_⟩
  simpa using pp
 ·exact p.elim
theorem qS(hg:Gl X "zip")(hm:X.mg "zip" = none)(ha:oT X [a,b] da)(hs:Bs [a,b] X.env=(false,eval a X.env)::Bs [b] X.env:=by rfl)(hp:(Io pos (Bs [b] X.env)).any (·.1)=false:=by rfl):B4 X (.Tuple elts kt tp) (.Call (.Name "zip" p) [a,b] [] pos) (yO da):=by
 refine PI.imp (u7 hg hm ha hs hp) λσ H R h=>?_
 obtain ⟨H0,Y,S,T,δ,P,rfl,hS,hA,hd,k⟩:=h
 refine ⟨H0,Y,S,T,δ,_,rfl,hS,hA,hd,λxs δ' As us S' H' e1 e2 ex eu hA' p=>?_⟩
 split at p
 ·obtain ⟨v,F,w,G,rfl,hA2⟩:=Xd eu hA' ex
  obtain ⟨a,xs,G1,rfl,ha,ra,rfl,hz⟩:=(hA2.told mem_mid).list_inv
  obtain ⟨b,ys,G2,rfl,hb,rb,rfl,hz2⟩:=(hA2.told Ge).list_inv
  refine ⟨a,b,rfl,⟨xs,Ox.of ha⟩,⟨ys,Ox.of hb⟩,k _ _ δ' _ [_,_] S' H' e1 e2 (((((hA2.mid.wk (Wp _)).tomid).swap.mid.wk (Wp _)).tomid).swap) qY (by rw[Ab,Mc]; omega) p⟩
 ·exact p.elim
end
def C8(di:DI)(dg:DG)(db:DB):DB:=λD δ=>di δ λm ds δ1=>m=.sh/\∃I:Nat->DS->Prop,I 0 δ1 /\
 (∀i d δ',ds[i]? = some d->I i δ'->dg (.dat .sh d) δ' λδ2=>db { D with nx:=I (i+1),ct:=I (i+1),bk:=D.nx } δ2)/\∀δ',I ds.length δ'->D.nx δ'
section
variable{X:Cx}{tg iter:Expr}{di:DI}{dg:DG}{db:DB}{body:List Stmt}{pos:Pos}
theorem At.dropH{K:PySem.W.Frag}{H0 H:Hp}{X:Addr->Prop}{n:Nat}{S T hid:List Ent}{e:Ent}(h:At K H0 X n (S++e::(hid++T)) H):At K H0 X n (S++e::T) H:=h.sub ((El S).append ((Cu hid T).cons₂ e))
theorem Pq(hp:PassesOwn (model X.prog X.w) X.A X.env X.xe)(hc:X.calm=true)(hi:B4 X tg iter di)(hg:P5 X tg dg)(hb:bX X body db)(hs:∀x,Dh iter X.env x=pure x:=by intro _; rfl):qE X (.For tg iter body [] pos) (C8 di dg db):=by
 refine PS.impD (bV hp hc hi hg hb hs) λD σ H h=>?_
 obtain ⟨H0,Y,S,T,δ,P,rfl,hS,hT,hA,hd,k1,k2,k3,k4⟩:=h
 refine ⟨H0,Y,S,T,δ,_,rfl,hS,hA,hd,λm ds δ1 J hid S1 H1 e1 e2 hA1 it hz p1=>?_⟩
 obtain ⟨rfl,I,h0,hs,hf⟩:=p1
 rw[<- e1]
 have hT':∀e∈hid++T,Oy e.x=false:=λe he=>by
  rcases Au.mp he with he | he
  ·exact it.np rfl e he
  ·exact hT e he
 refine ⟨λi q σ H=>q=ds.length - i/\i<=ds.length/\∃S δ,vs S=σ/\Sl S δ/\At X.K H0 Y δ.n (S++(hid++T)) H/\I i δ,⟨ds.length,by simp,Cz _,S1,δ1,rfl,e2,hA1,h0⟩,?_⟩
 (intro i q σ H q_; obtain ⟨rfl,hi,S2,δ2,rfl,e3,hA2,hI⟩ := q_)
 have hid_ok:∀e∈hid,Ja X.K H δ2.n e:=λe he=>hA2.ok e (Ad _ (Ao _ he))
 by_cases hlt:i<ds.length
 ·refine .inr ⟨it.go H δ2.n i hid_ok hlt,λσ' H'=>∃S δ,vs S=σ'/\Sl S δ/\At X.K H0 Y δ.n (S++(hid++T)) H'/\I (i+1) δ,λσ' H' q=>⟨ds.length - (i+1),by omega,rfl,hlt,q⟩,λx H' y=>?_⟩
  obtain ⟨s1,d,F,h1,h2,h3⟩:=it.yld H δ2.n i x H' hid_ok hlt y
  refine ⟨H0,Y,S2,hid++T,δ2,.dat .sh d,F,_,rfl,e3,hA2.item s1 h2 h3 it.md it.hd it.np,hs i d δ2 h1 hI,λδ3 S3 H3 e4 hA3 p3=>?_⟩
  refine ⟨H0,Y,S3,hid++T,δ3,_,rfl,e4,hT',hA3,p3,λδ4 S4 H4 e5 hA4 p4=>⟨S4,δ4,rfl,e5,hA4,p4⟩,λx δ4 v F S4 H4 e5 hA4 p4=>k2 x δ4 v F S4 H4 e5 hA4.dropH p4,
   λδ4 S4 H4 e5 hA4 p4=>k1 δ4 S4 H4 e5 hA4.dropL p4,λδ4 S4 H4 e5 hA4 p4=>⟨S4,δ4,rfl,e5,hA4,p4⟩⟩
 ·have e:i=ds.length:=by omega
  subst e
  exact .inl ⟨it.stop H δ2.n hid_ok,k1 δ2 S2 H e3 hA2.dropL (hf δ2 hI)⟩
end
end DL
namespace Nd
open PySem PySem.Spec PyProof.Rows L2
theorem Zk(elt t1 i1 t2 i2:Expr)(scope:Scope)(pos:Pos)(it acc:Value)(env:Env) :
  compTurn (.ListComp elt [⟨t1,i1,[],0⟩,⟨t2,i2,[],0⟩] scope pos) 0 it acc env=(do
   Pt i1.pos
   match <- pyNext it with
   | none=>pure (.done .next)
   | some v =>
    Hj t1 it v
    Jv t1 env v
    let x <- eval i2 env
    Pt i2.pos
    let x <- Dh i2 env x
    let it2 <- Px [x] (pyIter x)
    let _ <- runOwn (.compStart (.ListComp elt [⟨t1,i1,[],0⟩,⟨t2,i2,[],0⟩] scope pos) 1 it2 acc env) env
    again (.compLoop (.ListComp elt [⟨t1,i1,[],0⟩,⟨t2,i2,[],0⟩] scope pos) 0 it acc env)):=by rfl
theorem Zn(elt t1 i1 t2 i2:Expr)(scope:Scope)(pos:Pos)(it acc:Value)(env:Env) :
  compTurn (.ListComp elt [⟨t1,i1,[],0⟩,⟨t2,i2,[],0⟩] scope pos) 1 it acc env=(do
   Pt i2.pos
   match <- pyNext it with
   | none=>pure (.done .next)
   | some v =>
    Hj t2 it v
    Jv t2 env v
    (do let _ <- call (.builtin "list.append") [acc,<- eval elt env])
    again (.compLoop (.ListComp elt [⟨t1,i1,[],0⟩,⟨t2,i2,[],0⟩] scope pos) 1 it acc env)):=by rfl
section
variable{prog:Bm}{w:World}{A:Cr}{R:Result->Ai->Prop}{s:Ai}
theorem Zh{elt:Expr}{g:Comprehension}{t2 i2:Expr}{scope:Scope}{pos:Pos}{it acc:Value}{env:Env}(h0:Hl (model prog w) A (.compLoop (.ListComp elt [g,⟨t2,i2,[],0⟩] scope pos) 1 it acc env) R s)(h:wpAny (model prog w) A (pyIter it) (λit' s'=>Hl (model prog w) A (.compLoop (.ListComp elt [g,⟨t2,i2,[],0⟩] scope pos) 1 it' acc env) R s') (λ_ _=>False) s):Hl (model prog w) A (.compStart (.ListComp elt [g,⟨t2,i2,[],0⟩] scope pos) 1 it acc env) R s:=by
 refine codeAny_of_tree ?_
 show wpAny _ _ ((compStart (.ListComp elt [g,⟨t2,i2,[],0⟩] scope pos) 1 it acc env).onRaise (λx=>do noteFrame x env; Pt theWindowsPlace)) _ _ s
 refine wpAny_notedAt ?_
 unfold compStart
 show wpAny _ _ (ask >>= _) _ _ s
 refine Ac (wpAny_askSetting (wpAny_ite ?_))
 split
 ·first
   | exact Ac (Am (Am (And.intro rfl h0)))
   | exact Am (And.intro rfl h0)
 ·first
   | exact Ac (wpAny_rule (Ac (Gu (Ac (Cy h (λit' s' h'=>Am (And.intro rfl h')) λ_ _ x=>x.elim)))))
   | (refine Ac (wpAny_rule ?_); show wpAny _ _ (Pt i2.pos >>= _) _ _ s; exact Ac (Gu (Ac (Cy h (λit' s' h'=>Am (And.intro rfl h')) λ_ _ x=>x.elim))))
theorem eR{elt t1 i1 t2 i2:Expr}{scope:Scope}{pos:Pos}{it acc:Value}{env:Env}(hs2:∀x,Dh i2 env x=pure x)(J:Nat->Ai->Prop) (turn:∀n s,J n s->wpAny (model prog w) A (pyNext it) (λr s1=>match r with
    | none=>R (.ok .next) s1
    | some v=>wpAny (model prog w) A (Hj t1 it v) (λ_ s2=>wpAny (model prog w) A (Jv t1 env v) (λ_ s3 =>
      wpAny (model prog w) A (eval i2 env) (λx s4=>wpAny (model prog w) A (pyIter x) (λit2 s5 =>
       Hl (model prog w) A (.compStart (.ListComp elt [⟨t1,i1,[],0⟩,⟨t2,i2,[],0⟩] scope pos) 1 it2 acc env) (λr s6=>match r with | .ok _=>∃m,m<n/\J m s6 | .error _=>False) s5) (λ_ _=>False) s4) (λ_ _=>False) s3) (λ_ _=>False) s2) (λ_ _=>False) s1) (λ_ _=>False) s)
  (n:Nat) (h:J n s):Hl (model prog w) A (.compLoop (.ListComp elt [⟨t1,i1,[],0⟩,⟨t2,i2,[],0⟩] scope pos) 0 it acc env) R s:=by
 refine codeAny_loop rfl J (λn s hJ=>?_) n h
 show wpAny _ A (Sem.onRaise (compTurn (.ListComp elt [⟨t1,i1,[],0⟩,⟨t2,i2,[],0⟩] scope pos) 0 it acc env) (λx=>do noteFrame x env; theTreesLotGoes x)) _ _ s
 refine wpAny_noted ?_
 rw[Zk]
 refine Ac (Gu (Ac (Cy (turn n s hJ) (λr s1 h1=>?_) λ_ _ z=>z.elim)))
 cases r with
 | none=>exact Am h1
 | some v =>
  refine Ac (Cy h1 (λ_ s2 h2=>?_) λ_ _ z=>z.elim)
  refine Ac (Cy h2 (λ_ s3 h3=>?_) λ_ _ z=>z.elim)
  refine Ac (Cy h3 (λx s4 h4=>?_) λ_ _ z=>z.elim)
  refine Ac (Gu (Ac (wpAny_of_eq (hs2 x) (Ac (Ep (Cy h4 (λit2 s5 h5=>?_) λ_ _ z=>z.elim))))))
  refine Ac (wpAny_runOwn ?_)
  refine Nv h5 λr s6 h6=>?_
  cases r with
  | ok f=>exact Am ⟨rfl,h6⟩
  | error e=>exact h6.elim
theorem dI{elt t1 i1 t2 i2:Expr}{scope:Scope}{pos:Pos}{it acc:Value}{env:Env}(J:Nat->Ai->Prop) (turn:∀n s,J n s->wpAny (model prog w) A (pyNext it) (λr s1=>match r with
    | none=>R (.ok .next) s1
    | some v=>wpAny (model prog w) A (Hj t2 it v) (λ_ s2=>wpAny (model prog w) A (Jv t2 env v) (λ_ s3 =>
      wpAny (model prog w) A (eval elt env) (λx s5=>wpAny (model prog w) A (call (.builtin "list.append") [acc,x]) (λ_ s6=>∃m,m<n/\J m s6) (λ_ _=>False) s5) (λ_ _=>False) s3) (λ_ _=>False) s2) (λ_ _=>False) s1) (λ_ _=>False) s)
  (n:Nat) (h:J n s):Hl (model prog w) A (.compLoop (.ListComp elt [⟨t1,i1,[],0⟩,⟨t2,i2,[],0⟩] scope pos) 1 it acc env) R s:=by
 refine codeAny_loop rfl J (λn s hJ=>?_) n h
 show wpAny _ A (Sem.onRaise (compTurn (.ListComp elt [⟨t1,i1,[],0⟩,⟨t2,i2,[],0⟩] scope pos) 1 it acc env) (λx=>do noteFrame x env; theTreesLotGoes x)) _ _ s
 refine wpAny_noted ?_
 rw[Zn]
 refine Ac (Gu (Ac (Cy (turn n s hJ) (λr s1 h1=>?_) λ_ _ z=>z.elim)))
 cases r with
 | none=>exact Am h1
 | some v =>
  refine Ac (Cy h1 (λ_ s2 h2=>?_) λ_ _ z=>z.elim)
  refine Ac (Cy h2 (λ_ s3 h3=>?_) λ_ _ z=>z.elim)
  refine Ac (Ac (Cy h3 (λx s5 h5=>?_) λ_ _ z=>z.elim))
  exact Ac (Cy h5 (λ_ s6 h6=>Am (Am ⟨rfl,h6⟩)) λ_ _ z=>z.elim)
end
section
variable{X:Cx}
def rP(J:It)(js:List Nat)(wi2:TI)(te:TE)(σ:L2.St)(H1:Hp)(Q:VK):Prop:=∀D,H1 D=none->∃W:Nat->Nat->Hp->Prop,(∃m,W 0 m (upd H1 D (.lst [])))/\∀i m H,W i m H ->
 (J.stop i H/\Q (.ref D) H)\/(J.go i H/\∀x H',J.yld i H x H'->∀o:Option V,wi2 (some x::o::Em σ js) H' λJ2 H2=>∃W2:Nat->Nat->Hp->Prop,(∃m2,W2 0 m2 H2)/\∀i2 m2 H3,W2 i2 m2 H3 ->
  (J2.stop i2 H3/\∃m',m'<m/\W (i+1) m' H3)\/(J2.go i2 H3/\∀y H4,J2.yld i2 H3 y H4->te (some x::some y::Em σ js) H4 λz H5=>∃acc,H5 D=some (.lst acc)/\acc.length<Av/\∃m2',m2'<m2/\W2 (i2+1) m2' (upd H5 D (.lst (acc++[z])))))
def gQ(wi:TI)(js:List Nat)(wi2:TI)(te:TE):TE:=λσ H Q=>wi σ H λJ H1=>rP J js wi2 te σ H1 Q
end
section
variable{X:Cx}
theorem F3{elt iter:Expr}{x x2 y0:Str}{px px2 pt py pos spos:Pos}{kt:Nat}{i0:Nat}{ifs:List Expr}{scope:Scope}{cl:List (Str×Addr)}{ys:List Str}{js:List Nat}{wi:TI}{tc:TT}{te:TE}(hN:X.N.Nodup)(hi0:X.N[i0]? = some y0)(hy0:X.env.scope.names.lookup y0=some .local)(C:CompScope X scope cl x ys js)(own2:oN scope x2)(nd2:(x::x2::ys).Nodup)(hc:X.calm=true)(hi:PI X (.Tuple [.Name x px,.Name x2 px2] kt pt) iter wi)(ht:∀fp s H,tE (Ea X scope cl (x::x2::ys) fp s H) ifs tc)(he:∀fp s H,PE (Ea X scope cl (x::x2::ys) fp s H) elt te)(hs:∀x,Dh iter X.env x=pure x:=by intro _; rfl)(hsw:Jy (.ListComp elt [⟨.Tuple [.Name x px,.Name x2 px2] kt pt,iter,ifs,0⟩] scope pos) (some (.Name y0 py)) spos.line X.env=pure true:=by rfl):PS X (.Assign [.Name y0 py] (.ListComp elt [⟨.Tuple [.Name x px,.Name x2 px2] kt pt,iter,ifs,0⟩] scope pos) spos) (mG (tP X.K wi js tc te) (Qz i0)):=by
 intro pins s σ H De I h
 have h:tP X.K wi js tc te σ H λv H1=>De.nx (σ.set i0 (some v)) H1:=h
 rw[Ua _ _ _ _ hsw]
 refine Ac (Gu (Ac ?_))
 show wpAny _ X.A (do let _ <- comprehension (.ListComp elt [⟨.Tuple [.Name x px,.Name x2 px2] kt pt,iter,ifs,0⟩] scope pos) scope X.env _ (newList []) false (eval iter X.env) (some (Jv (.Name y0 py) X.env))) _ _ s
 refine Ac (Cy (Ki (use:=some (Jv (.Name y0 py) X.env)) (Q:=λ_ s'=>SP X pins De .next s') rfl hs C.clos C.kind C.locs (Fs (hi pins s σ H _ I h) λv s1 h1=>Fs h1 λitv s2 h2=>?_)) (λ_ s' hq=>Am (Am hq)) λ_ _ e=>e)
 obtain ⟨it,fp,tn,J,H2,e,I2,T,st2,f2,q2⟩:=h2
 subst e
 have fD:H2 s2.heap.objs.size=none:=I2.hok.fresh (Ah _)
 obtain ⟨W,⟨m0,w0⟩,turn⟩:=q2 s2.heap.objs.size fD
 refine Gg ?_
 have I3:Inv X pins σ (upd H2 s2.heap.objs.size (.lst [])) { s2 with heap:=s2.heap.push { cls:=.type "list",dict:=none,data:=.seq ([]:List Value).toArray } } :=
  I2.laid (t':=s2.toks) (λb u q=>Al _ q) (Ah _) ⟨Cz _,[],0,.nil,Bu _ rfl⟩
 obtain ⟨f3,st3',o3'⟩:=So I2 T st2 f2 I3
 generalize hS3:({ s2 with heap:=s2.heap.push { cls:=.type "list",dict:=none,data:=.seq ([]:List Value).toArray } }:Ai)=s3 at I3
 have Oz:tn 0 s3.heap:=by rw[<- hS3]; exact st3'
 have o3:∀b∈fp,∃o,s3.heap.get? b=some o:=by rw[<- hS3]; exact o3'
 show wpAny _ _ (Lf scope X.env.globals cl [] X.env.qual none .none (some X.env)) _ _ _
 refine Qi C λh4 hns4 keep4 new4=>?_
 have I4:∀tk,Inv (Ea X scope cl (x::x2::ys) fp s3 (upd H2 s2.heap.objs.size (.lst []))) [] (none::none::Em σ js) (upd H2 s2.heap.objs.size (.lst [])) { s3 with heap:=h4,toks:=tk }:=λtk=>Oa (pre:=[x,x2]) C I3 f3 o3 hns4 keep4 new4
 have st4:tn 0 h4:=T.keep 0 _ _ Oz λb hb o q=>keep4 b o q
 generalize hX':Ea X scope cl (x::x2::ys) fp s3 (upd H2 s2.heap.objs.size (.lst []))=X' at I4
 obtain ⟨eP,eW,eK,eA,eC⟩:=Tj hc hX'
 have stat:∀{H':Hp},(∀b∈fp,H' b=none)->∀b∈fp,Lk X' [] H' b:=λ{H'} hn=>Qc hX' (I4 0) hn
 have loop:∀s5:Ai,s5={ s3 with heap:=h4,toks:=s3.toks+([]:List (Str×Value)).length } ->
   Hl (model X.prog X.w) X.A (.compLoop (.ListComp elt [⟨.Tuple [.Name x px,.Name x2 px2] kt pt,iter,ifs,0⟩] scope pos) 0 (.ref it) (.ref s2.heap.objs.size) (Vt scope (Eb (s3.heap.objs.size+1) scope.names cl) s3.heap.objs.size X.env))
    (compPost (model X.prog X.w) X.A X.xe (some (Jv (.Name y0 py) X.env)) (λ_ s'=>SP X pins De .next s') (.ref s2.heap.objs.size) s3.heap.objs.size) s5:=by
  rintro s5 rfl
  refine Rn (λn s'=>∃i o o2 H',Inv X' [] (o::o2::Em σ js) H' s'/\tn i s'.heap/\(∀b∈fp,H' b=none)/\W i n H') ?_ m0
   ⟨0,none,none,_,I4 _,st4,λb hb=>(f3 b hb).1,w0⟩
  (intro n s6 q_; obtain ⟨i,o,o2,H6,I6,st6,fr6,w6⟩ := q_)
  rcases turn i n H6 w6 with ⟨stop,qn⟩ | ⟨go,step⟩
  ·have hd:=T.done X' eP eW eK eC i [] s6 _ H6 (λ_ _=>False) I6 (stat fr6) st6 stop
   rw[eA] at hd
   refine Fs hd λr s7 q0_ => ?_
   obtain ⟨hr,I7⟩ := q0_
   subst hr
   obtain ⟨⟨m7,hn7'⟩,I7f,J7⟩:=Ut hX' I3 f3 I7
   have fC:Lk X pins H6 s3.heap.objs.size:=I3.fpOk (Ah _) I7f
   obtain ⟨oC,esC,epC,hoC,rC⟩:=id hn7'
   have J8:Inv X (pins++[(s3.heap.objs.size,oC)]) σ H6 s7:=J7.pins_of λp hp=>by
    rcases Au.mp hp with z | z
    ·have q:=J7.pin p (Ad _ z)
     exact q
    ·rw[Af.mp z]
     exact ⟨hoC,I7f,fC.2.1,fC.2.2.1,λv hv=>by rw[rC.1] at hv; cases hv⟩
   refine Fs (Iy (X:=X) (i:=i0) (x:=y0) (pos:=py) hN hi0 (.inl hy0) (.inr hy0) (pins++[(s3.heap.objs.size,oC)]) s7 σ H6 (.ref s2.heap.objs.size) (.ref s2.heap.objs.size) (λσ' H'=>σ'=σ.set i0 (some (.ref s2.heap.objs.size))/\H'=H6) J8 rfl ⟨rfl,rfl⟩) λ_ s9 q0_ => ?_
   obtain ⟨σ9,H9,I9,e9,e9'⟩ := q0_
   subst e9 e9'
   have hoC9:=(I9.pin (s3.heap.objs.size,oC) (Ad _ (Ad _ Aa))).1
   have I9':Inv X pins (σ.set i0 (some (.ref s2.heap.objs.size))) H9 s9:=I9.pins_of λp hp=>I9.pin p (Ad _ (Ao _ hp))
   refine ⟨m7,hn7'.at λo e=>by rw[hoC] at e; cases e; exact hoC9,λh10 hs10=>?_⟩
   exact ⟨_,H9,Th (t':=s9.toks) (fp:=[s3.heap.objs.size]) I9' (λb o hb e=>(hs10.2 b (λz=>hb (by rw[z]; exact Aa))).trans e) (λb hb=>by rw[Af.mp hb]; exact fC),qn⟩
  ·have hit:=T.item X' eP eW eK eC i [] s6 _ H6 (λ_ _=>False) I6 (stat fr6) st6 go
   rw[eA] at hit
   refine Fs hit λr s7 q0_ => ?_
   obtain ⟨u,hr,h7⟩ := q0_
   subst hr
   refine Fs h7 λ_ s8 q0_ => ?_
   obtain ⟨y,H8,I8,r8,y8,st8,fr8⟩ := q0_
   have I8':=I8.pinned (stat fr8) (T.obj _ _ st8)
   obtain ⟨tp,w1,w2,ey,hsq,N1,N2,hN1,hN2,hst⟩:=step y H8 y8
   have again:∀{H9:Hp} {s9:Ai} {m':Nat},Inv X' ([]++Mx fp s8.heap) (some w1::some w2::Em σ js) H9 s9->m'<n->W (i+1) m' H9->∃m,m<n/\∃i o o2 H',Inv X' [] (o::o2::Em σ js) H' s9/\tn i s9.heap/\(∀b∈fp,H' b=none)/\W i m H':=λ{H9 s9 m'} I9 hm w9=>by
    refine ⟨m',hm,i+1,some w1,some w2,H9,I9.unpinned,T.keep _ _ _ st8 λb hb o e=>(I9.pin (b,o) (Ad _ (Ad _ (Fo hb e)))).1,λb hb=>?_,w9⟩
    obtain ⟨o,e,_⟩:=T.obj _ _ st8 b hb
    exact (I9.pin (b,o) (Ad _ (Ad _ (Fo hb e)))).2.1
   subst hX'
   have g1:PG (Ea X scope cl (x::x2::ys) fp s3 (upd H2 s2.heap.objs.size (.lst []))) (.Tuple [.Name x px,.Name x2 px2] kt pt) (O8 X.K 2 (pB (Qz 0) (pB (Qz 1) C5))) :=
    qD (X:=Ea X scope cl (x::x2::ys) fp s3 (upd H2 s2.heap.objs.size (.lst []))) hc (Xx (Iy (i:=0) (x:=x) nd2 rfl (Qj C.own) (Uz C.own)) (Xx (Iy (i:=1) (x:=x2) nd2 rfl (Qj own2) (Uz own2)) kH))
   refine Fs (g1 _ s8 _ H8 y u (λσ' H'=>σ'=some w1::some w2::Em σ js/\H'=H8) I8' r8 ⟨tp,[w1,w2],ey,hsq,rfl,_,_,rfl,_,_,rfl,rfl,rfl,rfl⟩) λ_ s9 q0_ => ?_
   obtain ⟨σ9,H9,I9,e9,e9'⟩ := q0_
   subst e9 e9'
   refine Fs (ht fp s3 _ _ s9 _ _ _ I9 hst) λok s10 q0_ => ?_
   obtain ⟨H10,I10,q10⟩ := q0_
   cases ok with
   | false =>
    rw[if_neg Bx] at q10 ⊢
    obtain ⟨m',hm,w10⟩:=hN1 _ q10
    exact again I10 hm w10
   | true =>
    rw[if_pos rfl] at q10 ⊢
    refine Fs (he fp s3 _ _ s10 _ _ _ I10 q10) λz s11 q0_ => ?_
    obtain ⟨vz,H11,I11,r11,q11⟩ := q0_
    obtain ⟨acc,ha,hz,m',hm,w11⟩:=hN2 _ _ q11
    refine Fs (Kl _ s11 _ H11 (.ref s2.heap.objs.size) [vz] (.ref s2.heap.objs.size) [z] (λ_ H'=>H'=upd H11 s2.heap.objs.size (.lst (acc++[vz]))) I11 rfl (.cons r11 .nil) ⟨_,acc,vz,rfl,rfl,ha,hz,rfl⟩) λ_ s12 q0_ => ?_
    obtain ⟨_,H12,I12,_,e12⟩ := q0_
    subst e12
    exact again I12 hm w11
 exact Lg (loop _ rfl) (T.self X.A 0 _ _ _ st4 (loop _ rfl))
theorem sO{elt iter iter2:Expr}{x x2 y0:Str}{px px2 py pos spos:Pos}{i0:Nat}{scope:Scope}{cl:List (Str×Addr)}{ys:List Str}{js:List Nat}{wi wi2:TI}{te:TE}(hN:X.N.Nodup)(hi0:X.N[i0]? = some y0)(hy0:X.env.scope.names.lookup y0=some .local)(C:CompScope X scope cl x ys js)(own2:oN scope x2)(nd2:(x::x2::ys).Nodup)(hc:X.calm=true)(hi:PI X (.Name x px) iter wi)(hi2:∀fp s H,PI (Ea X scope cl (x::x2::ys) fp s H) (.Name x2 px2) iter2 wi2)(he:∀fp s H,PE (Ea X scope cl (x::x2::ys) fp s H) elt te)(hs:∀x,Dh iter X.env x=pure x:=by intro _; rfl)(hs2:∀fp s H v,Dh iter2 (Ea X scope cl (x::x2::ys) fp s H).env v=pure v:=by intro _ _ _ _; rfl)(hsw:Jy (.ListComp elt [⟨.Name x px,iter,[],0⟩,⟨.Name x2 px2,iter2,[],0⟩] scope pos) (some (.Name y0 py)) spos.line X.env=pure true:=by rfl):PS X (.Assign [.Name y0 py] (.ListComp elt [⟨.Name x px,iter,[],0⟩,⟨.Name x2 px2,iter2,[],0⟩] scope pos) spos) (mG (gQ wi js wi2 te) (Qz i0)):=by
 intro pins s σ H De I h
 have h:gQ wi js wi2 te σ H λv H1=>De.nx (σ.set i0 (some v)) H1:=h
 rw[Ua _ _ _ _ hsw]
 refine Ac (Gu (Ac ?_))
 show wpAny _ X.A (do let _ <- comprehension (.ListComp elt [⟨.Name x px,iter,[],0⟩,⟨.Name x2 px2,iter2,[],0⟩] scope pos) scope X.env _ (newList []) false (eval iter X.env) (some (Jv (.Name y0 py) X.env))) _ _ s
 refine Ac (Cy (Ki (use:=some (Jv (.Name y0 py) X.env)) (Q:=λ_ s'=>SP X pins De .next s') rfl hs C.clos C.kind C.locs (Fs (hi pins s σ H _ I h) λv s1 h1=>Fs h1 λitv s2 h2=>?_)) (λ_ s' hq=>Am (Am hq)) λ_ _ e=>e)
 obtain ⟨it,fp,tn,J,H2,e,I2,T,st2,f2,q2⟩:=h2
 subst e
 have fD:H2 s2.heap.objs.size=none:=I2.hok.fresh (Ah _)
 obtain ⟨W,⟨m0,w0⟩,turn⟩:=q2 s2.heap.objs.size fD
 refine Gg ?_
 have I3:Inv X pins σ (upd H2 s2.heap.objs.size (.lst [])) { s2 with heap:=s2.heap.push { cls:=.type "list",dict:=none,data:=.seq ([]:List Value).toArray } } :=
  I2.laid (t':=s2.toks) (λb u q=>Al _ q) (Ah _) ⟨Cz _,[],0,.nil,Bu _ rfl⟩
 obtain ⟨f3,st3',o3'⟩:=So I2 T st2 f2 I3
 generalize hS3:({ s2 with heap:=s2.heap.push { cls:=.type "list",dict:=none,data:=.seq ([]:List Value).toArray } }:Ai)=s3 at I3
 have Oz:tn 0 s3.heap:=by rw[<- hS3]; exact st3'
 have o3:∀b∈fp,∃o,s3.heap.get? b=some o:=by rw[<- hS3]; exact o3'
 show wpAny _ _ (Lf scope X.env.globals cl [] X.env.qual none .none (some X.env)) _ _ _
 refine Qi C λh4 hns4 keep4 new4=>?_
 have I4:∀tk,Inv (Ea X scope cl (x::x2::ys) fp s3 (upd H2 s2.heap.objs.size (.lst []))) [] (none::none::Em σ js) (upd H2 s2.heap.objs.size (.lst [])) { s3 with heap:=h4,toks:=tk }:=λtk=>Oa (pre:=[x,x2]) C I3 f3 o3 hns4 keep4 new4
 have st4:tn 0 h4:=T.keep 0 _ _ Oz λb hb o q=>keep4 b o q
 generalize hX':Ea X scope cl (x::x2::ys) fp s3 (upd H2 s2.heap.objs.size (.lst []))=X' at I4
 obtain ⟨eP,eW,eK,eA,eC⟩:=Tj hc hX'
 have stat:∀{H':Hp},(∀b∈fp,H' b=none)->∀b∈fp,Lk X' [] H' b:=λ{H'} hn=>Qc hX' (I4 0) hn
 have loop:∀s5:Ai,s5={ s3 with heap:=h4,toks:=s3.toks+([]:List (Str×Value)).length } ->
   Hl (model X.prog X.w) X.A (.compLoop (.ListComp elt [⟨.Name x px,iter,[],0⟩,⟨.Name x2 px2,iter2,[],0⟩] scope pos) 0 (.ref it) (.ref s2.heap.objs.size) (Vt scope (Eb (s3.heap.objs.size+1) scope.names cl) s3.heap.objs.size X.env))
    (compPost (model X.prog X.w) X.A X.xe (some (Jv (.Name y0 py) X.env)) (λ_ s'=>SP X pins De .next s') (.ref s2.heap.objs.size) s3.heap.objs.size) s5:=by
  rintro s5 rfl
  refine eR (λv=>hs2 fp s3 (upd H2 s2.heap.objs.size (.lst [])) v) (λn s'=>∃i o o2 H',Inv X' [] (o::o2::Em σ js) H' s'/\tn i s'.heap/\(∀b∈fp,H' b=none)/\W i n H') ?_ m0
   ⟨0,none,none,_,I4 _,st4,λb hb=>(f3 b hb).1,w0⟩
  (intro n s6 q_; obtain ⟨i,o,o2,H6,I6,st6,fr6,w6⟩ := q_)
  rcases turn i n H6 w6 with ⟨stop,qn⟩ | ⟨go,step⟩
  ·have hd:=T.done X' eP eW eK eC i [] s6 _ H6 (λ_ _=>False) I6 (stat fr6) st6 stop
   rw[eA] at hd
   refine Fs hd λr s7 q0_ => ?_
   obtain ⟨hr,I7⟩ := q0_
   subst hr
   obtain ⟨⟨m7,hn7'⟩,I7f,J7⟩:=Ut hX' I3 f3 I7
   have fC:Lk X pins H6 s3.heap.objs.size:=I3.fpOk (Ah _) I7f
   obtain ⟨oC,esC,epC,hoC,rC⟩:=id hn7'
   have J8:Inv X (pins++[(s3.heap.objs.size,oC)]) σ H6 s7:=J7.pins_of λp hp=>by
    rcases Au.mp hp with z | z
    ·have q:=J7.pin p (Ad _ z)
     exact q
    ·rw[Af.mp z]
     exact ⟨hoC,I7f,fC.2.1,fC.2.2.1,λv hv=>by rw[rC.1] at hv; cases hv⟩
   refine Fs (Iy (X:=X) (i:=i0) (x:=y0) (pos:=py) hN hi0 (.inl hy0) (.inr hy0) (pins++[(s3.heap.objs.size,oC)]) s7 σ H6 (.ref s2.heap.objs.size) (.ref s2.heap.objs.size) (λσ' H'=>σ'=σ.set i0 (some (.ref s2.heap.objs.size))/\H'=H6) J8 rfl ⟨rfl,rfl⟩) λ_ s9 q0_ => ?_
   obtain ⟨σ9,H9,I9,e9,e9'⟩ := q0_
   subst e9 e9'
   have hoC9:=(I9.pin (s3.heap.objs.size,oC) (Ad _ (Ad _ Aa))).1
   have I9':Inv X pins (σ.set i0 (some (.ref s2.heap.objs.size))) H9 s9:=I9.pins_of λp hp=>I9.pin p (Ad _ (Ao _ hp))
   refine ⟨m7,hn7'.at λo e=>by rw[hoC] at e; cases e; exact hoC9,λh10 hs10=>?_⟩
   exact ⟨_,H9,Th (t':=s9.toks) (fp:=[s3.heap.objs.size]) I9' (λb o hb e=>(hs10.2 b (λz=>hb (by rw[z]; exact Aa))).trans e) (λb hb=>by rw[Af.mp hb]; exact fC),qn⟩
  ·have hit:=T.item X' eP eW eK eC i [] s6 _ H6 (λ_ _=>False) I6 (stat fr6) st6 go
   rw[eA] at hit
   refine Fs hit λr s7 q0_ => ?_
   obtain ⟨u,hr,h7⟩ := q0_
   subst hr
   refine Fs h7 λ_ s8 q0_ => ?_
   obtain ⟨y,H8,I8,r8,y8,st8,fr8⟩ := q0_
   have I8':=I8.pinned (stat fr8) (T.obj _ _ st8)
   have stp:=step y H8 y8 o2
   have again:∀{H9:Hp} {s9:Ai} {m':Nat} {o9:Option V},Inv X' ([]++Mx fp s8.heap) (some y::o9::Em σ js) H9 s9->m'<n->W (i+1) m' H9->∃m,m<n/\∃i o o2 H',Inv X' [] (o::o2::Em σ js) H' s9/\tn i s9.heap/\(∀b∈fp,H' b=none)/\W i m H':=λ{H9 s9 m' o9} I9 hm w9=>by
    refine ⟨m',hm,i+1,some y,o9,H9,I9.unpinned,T.keep _ _ _ st8 λb hb o e=>(I9.pin (b,o) (Ad _ (Ad _ (Fo hb e)))).1,λb hb=>?_,w9⟩
    obtain ⟨o,e,_⟩:=T.obj _ _ st8 b hb
    exact (I9.pin (b,o) (Ad _ (Ad _ (Fo hb e)))).2.1
   subst hX'
   refine Fs (Iy (i:=0) (x:=x) (pos:=px) nd2 rfl (Qj C.own) (Uz C.own) _ s8 _ H8 y u (λσ' H'=>σ'=some y::o2::Em σ js/\H'=H8) I8' r8 ⟨rfl,rfl⟩) λ_ s9 q0_ => ?_
   obtain ⟨σ9,H9,I9,e9,e9'⟩ := q0_
   subst e9 e9'
   refine Fs (hi2 fp s3 _ _ s9 _ _ _ I9 stp) λv2 s10 h10=>Fs h10 λitv2 s11 h11=>?_
   obtain ⟨it2,fp2,tn2,J2,H11,e11,I11,T2,st11,f11,W2,⟨m20,w20⟩,turn2⟩:=h11
   subst e11
   have stat2:∀{H':Hp},(∀b∈fp2,H' b=none)->∀b∈fp2,Lk (Ea X scope cl (x::x2::ys) fp s3 (upd H2 s2.heap.objs.size (.lst []))) ([]++Mx fp s8.heap) H' b:=λhn b hb=>⟨hn b hb,(f11 b hb).2⟩
   have loop2:Hl (model X.prog X.w) X.A (.compLoop (.ListComp elt [⟨.Name x px,iter,[],0⟩,⟨.Name x2 px2,iter2,[],0⟩] scope pos) 1 (.ref it2) (.ref s2.heap.objs.size) (Vt scope (Eb (s3.heap.objs.size+1) scope.names cl) s3.heap.objs.size X.env))
     (λr s6=>match r with | .ok _=>∃m,m<n/\∃i o o2 H',Inv (Ea X scope cl (x::x2::ys) fp s3 (upd H2 s2.heap.objs.size (.lst []))) [] (o::o2::Em σ js) H' s6/\tn i s6.heap/\(∀b∈fp,H' b=none)/\W i m H' | .error _=>False) s11:=by
    refine dI (λn2 s'=>∃i2 o2 H',Inv (Ea X scope cl (x::x2::ys) fp s3 (upd H2 s2.heap.objs.size (.lst []))) ([]++Mx fp s8.heap) (some y::o2::Em σ js) H' s'/\tn2 i2 s'.heap/\(∀b∈fp2,H' b=none)/\W2 i2 n2 H') ?_ m20
     ⟨0,o2,H11,I11,st11,λb hb=>(f11 b hb).1,w20⟩
    (intro n2 s12 q_; obtain ⟨i2,p2,H12,I12,st12,fr12,w12⟩ := q_)
    rcases turn2 i2 n2 H12 w12 with ⟨stop2,m',hm',w'⟩ | ⟨go2,step2⟩
    ·have hd:=T2.done _ rfl rfl rfl hc i2 _ s12 _ H12 (λ_ _=>False) I12 (stat2 fr12) st12 stop2
     refine Fs hd λr s13 q0_ => ?_
     obtain ⟨hr,I13⟩ := q0_
     subst hr
     exact again I13 hm' w'
    ·have hit2:=T2.item _ rfl rfl rfl hc i2 _ s12 _ H12 (λ_ _=>False) I12 (stat2 fr12) st12 go2
     refine Fs hit2 λr s13 q0_ => ?_
     obtain ⟨u2,hr,h13⟩ := q0_
     subst hr
     refine Fs h13 λ_ s14 q0_ => ?_
     obtain ⟨z,H14,I14,r14,y14,st14,fr14⟩ := q0_
     have I14':=I14.pinned (stat2 fr14) (T2.obj _ _ st14)
     refine Fs (Iy (i:=1) (x:=x2) (pos:=px2) nd2 rfl (Qj own2) (Uz own2) _ s14 _ H14 z u2 (λσ' H'=>σ'=some y::some z::Em σ js/\H'=H14) I14' r14 ⟨rfl,rfl⟩) λ_ s15 q0_ => ?_
     obtain ⟨σ15,H15,I15,e15,e15'⟩ := q0_
     subst e15 e15'
     refine Fs (he fp s3 _ _ s15 _ _ _ I15 (step2 z H15 y14)) λzv s16 q0_ => ?_
     obtain ⟨vz,H16,I16,r16,q16⟩ := q0_
     obtain ⟨acc,ha,hz,m2',hm2,w16⟩:=q16
     refine Fs (Kl _ s16 _ H16 (.ref s2.heap.objs.size) [vz] (.ref s2.heap.objs.size) [zv] (λ_ H'=>H'=upd H16 s2.heap.objs.size (.lst (acc++[vz]))) I16 rfl (.cons r16 .nil) ⟨_,acc,vz,rfl,rfl,ha,hz,rfl⟩) λ_ s17 q0_ => ?_
     obtain ⟨_,H17,I17,_,e17⟩ := q0_
     subst e17
     refine ⟨m2',hm2,i2+1,some z,_,I17.unpinned,T2.keep _ _ _ st14 λb hb o e=>(I17.pin (b,o) (Ad _ (Ad _ (Fo hb e)))).1,λb hb=>?_,w16⟩
     obtain ⟨o,e,_⟩:=T2.obj _ _ st14 b hb
     exact (I17.pin (b,o) (Ad _ (Ad _ (Fo hb e)))).2.1
   exact Zh loop2 (T2.self X.A 0 _ _ _ st11 loop2)
 exact Lg (loop _ rfl) (T.self X.A 0 _ _ _ st4 (loop _ rfl))
end
end Nd
namespace DL
open PySem L2 Nd
def al(e:Ent):Ent:=match e.x with
 | .dat m d=>⟨e.v,.dat (cR m) d,e.F⟩
 | .val _=>e
 | .scr _=>e
 | _=>⟨e.v,.un,[]⟩
def alD:DV->DV
 | .dat m d=>.dat (cR m) d
 | .val v=>.val v
 | .scr ns=>.scr ns
 | _=>.un
def rM(S:List Ent)(j:Nat):Ent:=match S[j]? with
 | some e=>al e
 | none=>⟨none,.un,[]⟩
def xC(S:List Ent)(js:List Nat):List Ent:=js.map (rM S)
def frD1(sl:List DV)(j:Nat):DV:=match sl[j]? with
 | some x=>alD x
 | none=>.un
def frD(sl:List DV)(js:List Nat):List DV:=js.map (frD1 sl)
theorem R5(e:Ent):(al e).v=e.v:=by
 obtain ⟨v,x,F⟩:=e
 cases x <;> rfl
theorem V0(e:Ent):(al e).x=alD e.x:=by
 obtain ⟨v,x,F⟩:=e
 cases x <;> rfl
theorem O5(S:List Ent)(js:List Nat):vs (xC S js)=Em (vs S) js:=by
 unfold vs xC Em
 rw[Ci]
 refine Gc λj _=>?_
 rw[Bf]
 simp only[Function.comp,rM]
 cases S[j]? with
 | none=>rfl
 | some e=>exact R5 e
theorem L8{S:List Ent}{δ:DS}(h:Sl S δ)(js:List Nat):(xC S js).map Ent.x=frD δ.sl js:=by
 unfold Sl at h
 unfold xC frD
 rw[Ci]
 refine Gc λj _=>?_
 simp only[Function.comp,rM,frD1]
 rw[<- h,Bf]
 cases S[j]? with
 | none=>rfl
 | some e=>exact V0 e
section
variable{K:PySem.W.Frag}{H0 H H':Hp}{X:Addr->Prop}{n:Nat}{E S T:List Ent}
theorem dH(e:Ent):cells (al e)=[]:=by
 obtain ⟨v,x,F⟩:=e
 cases x with
 | dat m d=>cases m <;> rfl
 | _=>rfl
theorem At.view1(h:At K H0 X n E H){e:Ent}(he:e∈E):At K H0 X n (al e::E) H:=by
 refine h.push ?_ (λf hf=>⟨λ_ a ha=>(by rw[dH] at ha; cases ha),λhq a ha z=>?_⟩) λa ha=>(by rw[dH] at ha; cases ha)
 ·have:=h.ok e he
  obtain ⟨v,x,F⟩:=e
  cases x with
  | dat m d =>
   obtain ⟨w,h1,h2,_⟩:=this
   exact ⟨w,h1,h2,λz=>(by cases m <;> cases z),λz=>(by cases m <;> cases z)⟩
  | val v=>exact this
  | scr ns=>exact this
  | _=>exact (rfl:([]:List Addr)=[])
 ·obtain ⟨v,x,F⟩:=e
  cases x with
  | dat m d =>
   rcases gU h he hf with rfl | q
   ·rcases hq with hq | hq
    ·cases m <;> first | cases hq; done | exact nomatch ha
    ·cases hq
   ·refine q.2 ?_ a ha z
    rcases hq with hq | hq
    ·refine .inl ?_
     cases m <;> first | rfl | exact hq
    ·exact .inr hq
  | val v =>
   rw[show F=[] from (h.ok _ he).2] at z
   cases z
  | scr ns =>
   obtain ⟨_,_,hF,_⟩:=h.ok _ he
   rw[show F=[] from hF] at z
   cases z
  | _=>exact nomatch z
theorem At.blank(h:At K H0 X n E H){v:Option V}:At K H0 X n (⟨v,.un,[]⟩::E) H :=
 h.push (rfl:([]:List Addr)=[]) (λf _=>⟨λ_ a ha=>(nomatch ha),λ_ a _=>Bh⟩) (λa ha=>(nomatch ha))
theorem At.view(h:At K H0 X n E H)(hS:∀e∈S,e∈E):∀js:List Nat,At K H0 X n (xC S js++E) H
 | []=>h
 | j::js=>by
  have ih:=At.view h hS js
  show At K H0 X n (rM S j::(xC S js++E)) H
  unfold rM
  cases e:S[j]? with
  | none=>exact ih.blank
  | some x=>exact ih.view1 (Ad _ (hS x (Az e)))
theorem At.accNew(h:At K H0 X n E H){D:Addr}(hD:H D=Option.none):At K H0 X n (⟨some (.ref D),.acc [],[D]⟩::E) (upd H D (.lst [])):=by
 have s1:=Dq hD (.lst [])
 refine (h.grow (n':=n) s1 (Ah _)).push ⟨D,[],[],rfl,rfl,Cn,.nil,Cz _,Bh⟩ (λf hf=>?_) λa ha=>?_
 ·have nf:=h.free hD f hf
  refine ⟨λ_ a ha z=>?_,λ_ a ha z=>?_⟩
  ·rw[Af.mp ha] at z
   exact nf z
  ·rw[Af.mp z] at ha
   exact nf (Hh _ _ ha)
 ·rw[Af.mp ha]
  exact .inl (h.new0 hD)
theorem At.accPutG{D:Addr}{ds:List Ag}{v:V}{m:Md}{e:Ag}{F G:List Addr}(h:At K H0 X n (⟨some (.ref D),.acc ds,D::G⟩::⟨some v,.dat m e,F⟩::E) H)(hm:m≠.pk)(hz:ds.length+1<=Av):∃xs,H D=some (.lst xs)/\xs.length=ds.length/\At K H0 X n (⟨some (.ref D),.acc (ds++[e]),D::(G++F)⟩::E) (upd H D (.lst (xs++[v]))):=by
 obtain ⟨a,xs,G',e1,e0,ha,ra,_,nG⟩:=h.ok _ Aa
 have e1':some (V.ref D)=some (V.ref a):=e1
 cases e1'
 have e0':D::G=D::G':=e0
 cases e0'
 have r:RdF K H v e F:=h.told (Ae _ Aa)
 have hs:=Bn.mp h.sep
 have hs2:=Bn.mp hs.2
 have h1:=(h.sub (Dx _ _)).sub (Dx _ _)
 have npk:Oy (.dat m e)=false:=by cases m <;> first | rfl | exact absurd rfl hm
 have nF:D∉F:=(hs.1 _ Aa).1 (.inr rfl) D Aa
 have kp:∀{F:List Addr},D∉F->Kp F H (upd H D (.lst (xs++[v]))):=λ{F} hF b o q z=>by
  have : b≠D:=by
   rintro rfl
   rw[ha] at q
   cases q
   rcases z with z | z
   ·exact hF z
   ·rcases z with ⟨_,z⟩ | ⟨_,_,z⟩ <;> cases z
  rw[Dm this]
  exact q
 have nD:H0 D=Option.none:=by
  rcases h.new _ Aa D Aa with z | z
  ·exact z
  ·cases z.2
 refine ⟨xs,ha,ra.len,?_⟩
 refine ⟨λf hf=>?_,?_,λf hf=>?_,λb o nx q=>?_,λb o q=>?_,λb hb=>?_⟩
 rotate_right
 ·obtain ⟨z,c,k,f,h1,h2⟩:=h.xd b hb
  refine ⟨z,c,k,f,(Dm ?_).trans h1,h2⟩
  rintro rfl
  exact z nD
 ·rcases An.mp hf with rfl | hf
  ·exact ⟨D,xs++[v],G++F,rfl,rfl,Cn,(ra.kp (kp nG)).snoc (r.kp (kp nF)),by rw[Aw]; exact hz,λz=>(Au.mp z).elim nG nF⟩
  ·exact (h1.ok f hf).kp (kp ((hs.1 f (Ae _ hf)).1 (.inr rfl) D Aa)) (Ah _)
 ·refine Bn.mpr ⟨λf hf=>⟨λhq a ha'=>(hs.1 f (Ae _ hf)).1 (.inr rfl) a ha',λhq a ha' z=>?_⟩,hs2.2⟩
  have z1:=(hs.1 f (Ae _ hf)).2 (.inl rfl) a ha'
  rcases An.mp z with z | z
  ·exact z1 (z▸Aa)
  ·rcases Au.mp z with z | z
   ·exact z1 (Ae _ z)
   ·exact (hs2.1 f hf).2 (.inl npk) a ha' z
 ·rcases An.mp hf with rfl | hf
  ·intro a ha'
   rw[Af.mp ha']
   exact .inl nD
  ·exact h1.new f hf
 ·rw[Dm (Fd q nD)]
  exact h.same b o nx q
 ·rw[Dm (Fd q nD)]
  exact h.dom b o q
theorem At.accPut{D:Addr}{ds:List Ag}{v:V}{e:Ag}(h:At K H0 X n (⟨some (.ref D),.acc ds,[D]⟩::E) H)(r:RdF K H v e [])(hz:ds.length+1<=Av):∃xs,H D=some (.lst xs)/\xs.length=ds.length/\At K H0 X n (⟨some (.ref D),.acc (ds++[e]),[D]⟩::E) (upd H D (.lst (xs++[v]))) :=
 At.accPutG (m:=.ow) (At.pushI (S:=[⟨some (.ref D),.acc ds,[D]⟩]) h r) (by decide) hz
def kO:Bool->Md
 | true=>.ow
 | false=>.tp
theorem At.accGetG{D:Addr}{ds:List Ag}{b:Bool}{G:List Addr}(h:At K H0 X n (⟨some (.ref D),.acc ds,D::G⟩::E) H)(hb:b=true->G=[]):At K H0 X n (⟨some (.ref D),.dat (kO b) (.list ds),D::G⟩::E) H:=by
 obtain ⟨a,xs,G',e1,e0,ha,ra,hz,nG⟩:=h.ok _ Aa
 have e1':some (V.ref D)=some (V.ref a):=e1
 cases e1'
 have e0':D::G=D::G':=e0
 cases e0'
 have hs:=Bn.mp h.sep
 have cs:∀a∈cells ⟨some (.ref D),.dat (kO b) (.list ds),D::G⟩,a=D:=λa ha'=>by
  cases b with
  | true=>rw[hb rfl] at ha'; exact Af.mp ha'
  | false=>exact Af.mp ha'
 refine (h.sub (Dx _ _)).push ⟨_,rfl,.lst ha hz ra,λz=>?_,λ_ a l e=>?_⟩ (λf hf=>⟨λhq a ha'=>?_,λhq a ha'=>(hs.1 f hf).2 (.inl rfl) a ha'⟩) λa ha'=>?_
 ·cases b with
  | true=>rw[hb rfl]; exact Bo.mpr ⟨Bh,Df⟩
  | false=>cases z
 ·have e:D::G=a::l:=e
  cases e
  exact nG
 ·rw[cs a ha']
  exact (hs.1 f hf).1 (.inr rfl) D Aa
 ·rw[cs a ha']
  rcases h.new _ Aa D Aa with z | z
  ·exact .inl z
  ·cases z.2
end
def cH:DT:=λδ P=>P true δ
def w4(b:Bool)(m:Md)(e:Ag):Prop:=match b with
 | true=>imm e=true
 | false=>m≠.pk
def Uk(b:Bool)(dc:DT)(de:DE)(δ:DS)(yes:Ag->Nat->Prop)(no:Nat->Prop):Prop:=dc δ λc δ2=>match c with
 | true=>de δ2 λy δ3=>match y with
  | .dat m e=>w4 b m e/\yes e δ3.n
  | _=>False
 | false=>no δ2.n
def sL(b:Bool)(di:DI)(js:List Nat)(dc:DT)(de:DE):DE:=λδ P=>di δ λm ds δ1=>∃I:Nat->List Ag->Nat->Prop,I 0 [] δ1.n /\
 (∀i d acc n,ds[i]? = some d->I i acc n->Uk b dc de ⟨.dat m d::frD δ1.sl js,n⟩ (λe n'=>I (i+1) (acc++[e]) n') (λn'=>I (i+1) acc n')) /\
 ∀acc n,I ds.length acc n->P (.dat (kO b) (.list acc)) ⟨δ1.sl,n⟩
def Tq:DT->DE->DS->(Ag->Nat->Prop)->(Nat->Prop)->Prop:=Uk true
def qT:DI->List Nat->DT->DE->DE:=sL true
section
variable{K:PySem.W.Frag}{H0 H H':Hp}{Y:Addr->Prop}{n:Nat}{E S T:List Ent}
theorem pF{b:Bool}{dc:DT}{de:DE}{δ:DS}{yes:Ag->Nat->Prop}{no:Nat->Prop}{D:Addr}{G:List Addr}{acc:List Ag}{N1:Hp->Prop}{N2:VK}(hS:Sl S δ)(hb:b=true->G=[])(hA:At K H0 Y δ.n (S++⟨some (.ref D),.acc acc,D::G⟩::T) H)(h:Uk b dc de δ yes no)(hz:acc.length+1<=Av)(k1:∀n' H',At K H0 Y n' (⟨some (.ref D),.acc acc,D::G⟩::T) H'->no n'->N1 H')(k2:∀e n' v H' G',(b=true->G'=[])->(∃xs,H' D=some (.lst xs)/\xs.length=acc.length/\At K H0 Y n' (⟨some (.ref D),.acc (acc++[e]),D::G'⟩::T) (upd H' D (.lst (xs++[v]))))->yes e n'->N2 v H'):LT K dc (vs S) H λc H2=>if c=true then LE K de (vs S) H2 N2 else N1 H2:=by
 refine ⟨H0,Y,S,⟨some (.ref D),.acc acc,D::G⟩::T,δ,_,rfl,hS,hA,h,λc δ2 S2 H2 e1 e2 hA2 p2=>?_⟩
 cases c with
 | false=>exact nX (k1 _ _ (hA2.sub (Cu _ _)) p2)
 | true =>
  refine gI ⟨H0,Y,S2,⟨some (.ref D),.acc acc,D::G⟩::T,δ2,_,e1,e2,hA2,p2,λy δ3 v F S3 H3 e3 e4 hA3 p3=>?_⟩
  split at p3
  ·rename_i m e
   have r:=hA3.told mem_mid
   cases b with
   | true =>
    obtain rfl:=r.imm p3.1
    obtain rfl:=hb rfl
    exact k2 _ _ _ _ [] (λ_=>rfl) ((hA3.drop.sub (Cu _ _)).accPut r hz) p3.2
   | false =>
    have hA4:At K H0 Y δ3.n (⟨some v,.dat m e,F⟩::⟨some (.ref D),.acc acc,D::G⟩::T) H3:=hA3.sub (Cu _ _)
    exact k2 _ _ _ _ (G++F) (λz=>nomatch z) ((hA4.perm (Ib _ _ _)).accPutG p3.1 hz) p3.2
  ·exact p3.elim
theorem oI{dt:TT}:∀σ H Q,LT K cH σ H Q->Wv σ H Q:=by
 intro σ H Q h
 obtain ⟨H0,Y,S,T,δ,P,rfl,hS,hA,hd,k⟩:=h
 exact k true δ S H rfl hS hA hd
theorem tE.imp{X:Cx}{e:List Expr}{t t':TT}(h:tE X e t)(k:∀σ H Q,t' σ H Q->t σ H Q):tE X e t':=λpins s σ H Q I q=>h pins s σ H Q I (k σ H Q q)
theorem lK{b:Bool}{di:DI}{js:List Nat}{dc:DT}{de:DE}:∀σ H Q,LE K (sL b di js dc de) σ H Q->jL (LI K di) js (LT K dc) (LE K de) σ H Q:=by
 intro σ H Q h
 obtain ⟨H0,Y,S,T,δ,P,rfl,hS,hA,hd,k⟩:=h
 refine ⟨H0,Y,S,T,δ,_,rfl,hS,hA,hd,λm ds δ1 J hid S1 H1 e1 e2 hA1 it hz p1=>?_⟩
 obtain ⟨I,h0,hs,hf⟩:=p1
 rw[<- e1]
 intro D hD
 refine ⟨λi q H=>q=ds.length - i/\i<=ds.length/\∃acc n G,(b=true->G=[])/\At K H0 Y n (⟨some (.ref D),.acc acc,D::G⟩::(S1++(hid++T))) H/\acc.length<=i/\I i acc n,⟨ds.length,by simp,Cz _,[],δ1.n,[],λ_=>rfl,hA1.accNew hD,Ah _,h0⟩,?_⟩
 (intro i q H q_; obtain ⟨rfl,hi,acc,n,G,hG,hA2,hl,hI⟩ := q_)
 have hid_ok:∀e∈hid,Ja K H n e:=λe he=>hA2.ok e (Ae _ (Ad _ (Ao _ he)))
 by_cases hlt:i<ds.length
 ·refine .inr ⟨it.go H n i hid_ok hlt,λx H' y=>?_⟩
  obtain ⟨s1,d,F,h1,h2,h3⟩:=it.yld H n i x H' hid_ok hlt y
  have hA3:At K H0 Y n ((⟨some (.ref D),.acc acc,D::G⟩::S1)++⟨some x,.dat m d,F⟩::(hid++T)) H':=At.item (S:=⟨some (.ref D),.acc acc,D::G⟩::S1) hA2 s1 h2 h3 it.md it.hd it.np
  have hA4:=hA3.mid
  have hA5:=At.view (S:=S1) hA4 (λe he=>Ae _ (Ao _ (Ae _ he))) js
  have hA6:At K H0 Y n ((⟨some x,.dat m d,F⟩::xC S1 js)++⟨some (.ref D),.acc acc,D::G⟩::(S1++(hid++T))) H':=hA5.mid
  have hS6:Sl (⟨some x,.dat m d,F⟩::xC S1 js) ⟨.dat m d::frD δ1.sl js,n⟩:=by
   unfold Sl
   rw[Bc,L8 e2]
  have hv:vs (⟨some x,.dat m d,F⟩::xC S1 js)=some x::Em (vs S1) js:=by
   rw[<- O5]
   rfl
  refine ⟨λH2=>∃m',m'<ds.length - i/\_,λy H3=>∃acc,H3 D=some (.lst acc)/\acc.length<Av/\∃m',m'<ds.length - i/\_,λH2 q=>q,λy H3 q=>q,?_⟩
  rw[<- hv]
  refine pF hS6 hG hA6 (hs i d acc n h1 hI) (by omega) (λn' H2 hA7 p=>?_) (λe n' v H2 G' hG' hA7 p=>?_)
  ·exact ⟨ds.length - (i+1),by omega,rfl,hlt,acc,n',G,hG,hA7,by omega,p⟩
  ·obtain ⟨xs,g1,g2,g3⟩:=hA7
   exact ⟨xs,g1,by omega,ds.length - (i+1),by omega,rfl,hlt,acc++[e],n',G',hG',g3,by rw[Aw]; simp; omega,p⟩
 ·have e:i=ds.length:=by omega
  subst e
  refine .inl ⟨it.stop H n hid_ok,k _ ⟨δ1.sl,n⟩ _ (D::G) S1 H e1 e2 ?_ (hf acc n hI)⟩
  have hA3:=hA2.accGetG hG
  have hA4:At K H0 Y n (⟨some (.ref D),.dat (kO b) (.list acc),D::G⟩::(S1++T)) H:=hA3.sub (((El S1).append (Cu hid T)).cons₂ _)
  exact hA4.tomid
end
section
variable{X:Cx}{elt iter c:Expr}{x x2 y0:Str}{px px2 pt py pos spos:Pos}{kt i0:Nat}{ifs:List Expr}{scope:Scope}{cl:List (Str×Addr)}{ys:List Str}{js:List Nat}{di:DI}{dc:DT}{de:DE}
theorem Pl:tE X [] (LT X.K cH):=tE.imp Yj (oI (dt:=Wv))
theorem wV(h:cF X c dc):tE X [c] (LT X.K dc):=vQ h
theorem Wm(C:CompScope X scope cl x ys js)(hc:X.calm=true)(hi:B4 X (.Name x px) iter di)(ht:∀fp s H,tE (Ea X scope cl (x::ys) fp s H) ifs (LT X.K dc))(he:∀fp s H,Gd (Ea X scope cl (x::ys) fp s H) elt de)(hs:∀x,Dh iter X.env x=pure x:=by intro _; rfl):Gd X (.ListComp elt [⟨.Name x px,iter,ifs,0⟩] scope pos) (qT di js dc de):=PE.imp (bL C hc hi ht he hs) lK
def J5(o:Bool)(i:Nat):DG:=match o with
 | true=>aP i
 | false=>Pi i
theorem D0{K:PySem.W.Frag}{o:Bool}{i:Nat}:∀v σ H Q,LG K (J5 o i) v σ H Q->Qz i v σ H Q:=by
 cases o with
 | true=>exact qF
 | false=>exact cK
theorem lP{o:Bool}(hN:X.N.Nodup)(hi0:X.N[i0]? = some y0)(hy0:X.env.scope.names.lookup y0=some .local)(C:CompScope X scope cl x ys js)(hc:X.calm=true)(hi:B4 X (.Name x px) iter di)(ht:∀fp s H,tE (Ea X scope cl (x::ys) fp s H) ifs (LT X.K dc))(he:∀fp s H,Gd (Ea X scope cl (x::ys) fp s H) elt de)(hs:∀x,Dh iter X.env x=pure x:=by intro _; rfl)(hsw:Jy (.ListComp elt [⟨.Name x px,iter,ifs,0⟩] scope pos) (some (.Name y0 py)) spos.line X.env=pure true:=by rfl):qE X (.Assign [.Name y0 py] (.ListComp elt [⟨.Name x px,iter,ifs,0⟩] scope pos) spos) (oO (qT di js dc de) (J5 o i0)):=PS.impD (xO hN hi0 hy0 C hc hi ht he hs hsw) (bU lK D0)
end
end DL
namespace DL
open PySem PySem.Spec PyProof.Rows L2 Nd
section
variable{K:PySem.W.Frag}{H0 H H':Hp}{X:Addr->Prop}{n n':Nat}{E S T:List Ent}
theorem At.pushF(h:At K H0 X n E H){v:V}{d:Ag}{F:List Addr}(r:RdF K H v d F)(nd:F.Nodup)(fr:∀a∈F,∀f∈E,a∉f.F)(f0:∀a∈F,H0 a=none):At K H0 X n (⟨some v,.dat .ow d,F⟩::E) H:=by
 refine h.push ⟨v,rfl,r,λ_=>nd,λz=>nomatch z⟩ (λf hf=>⟨λ_ a ha z=>fr a ha f hf z,λ_ a ha z=>fr a z f hf (Hh _ _ ha)⟩) λa ha=>.inl (f0 a ha)
theorem At.drawn(h:At K H0 X n E H){e:Ent}{dr:Addr}(he:e∈E)(hx:e.x=.drw)(hv:e.v=some (.ref dr))(s:Vn dr H H')(hd:∃c k f,Zf H' dr c k f/\0<=k/\k<=(n':Int))(hn:n<=n'):At K H0 X n' E H':=by
 obtain ⟨v,x,F⟩:=e
 have hx':x=.drw:=hx
 subst hx'
 obtain ⟨dr',c0,k0,f0,hv',hF,hd0,_⟩:=h.ok _ he
 have e1:some (V.ref dr)=some (V.ref dr'):=hv.symm.trans hv'
 cases e1
 have hF':F=[dr]:=hF
 subst hF'
 refine ⟨λf hf=>?_,h.sep,h.new,λb o nx q=>?_,λb o q=>?_,λb hb=>?_⟩
 rotate_right
 ·obtain ⟨z,c,k,f,h1,h2,h3⟩:=h.xd b hb
  by_cases hbd:b=dr
  ·subst hbd
   exact ⟨z,hd⟩
  ·exact ⟨z,c,k,f,s _ _ hbd h1,h2,by omega⟩
 ·rcases gU h he hf with rfl | q
  ·obtain ⟨c,k,fl,h1,h2,h3⟩:=hd
   exact ⟨dr,c,k,fl,hv',rfl,h1,h2,h3⟩
  ·have nf:dr∉f.F:=q.1 (.inr rfl) dr Aa
   refine (h.ok f hf).kp (λb o eb z=>?_) hn
   by_cases hb:b=dr
   ·subst hb
    rcases z with z | z
    ·exact absurd z nf
    ·have hd0':H b=some (.lst _):=hd0
     rw[eb] at hd0'
     cases hd0'
     rcases z with ⟨_,z⟩ | ⟨_,_,z⟩ <;> cases z
   ·exact s b o hb eb
 ·have hb:b≠dr:=by
   rintro rfl
   rcases h.new _ he b Aa with z | z
   ·rw[z] at q; cases q
   ·exact nx z.1
  exact s b o hb (h.same b o nx q)
 ·by_cases hb:b=dr
  ·subst hb
   obtain ⟨c,k,fl,h1,_⟩:=hd
   exact ⟨_,h1⟩
  ·obtain ⟨o',z⟩:=h.dom b o q
   exact ⟨o',s b o' hb z⟩
end
abbrev PF:=List Ag->(Ag->Prop)->Prop
abbrev DF:=List Ag->Nat->(Ag->Nat->Prop)->Prop
def Qx(K:PySem.W.Frag)(pf:PF):Sp:=λus H Q _=>∃(As:List Ent) (n:Nat) (ds:List Ag) (R:Ag->Prop),As.map Ent.v=us.map some/\(∀e∈As,Ja K H n e)/\datas (As.map Ent.x)=some ds/\pf ds R /\
 ∀v d F H',R d->RdF K H' v d F->F.Nodup->(∀a∈F,H a=none)->Jk H H'->Q v H'
def P7(K:PySem.W.Frag)(df:DF):Sp:=λus H Q _=>∃(dr:Addr) (ws:List V) (As:List Ent) (n:Nat) (ds:List Ag) (R:Ag->Nat->Prop),us=.ref dr::ws/\As.map Ent.v=ws.map some/\(∀e∈As,Ja K H n e)/\(∀e∈As,dr∉e.F)/\(∃c k f,Zf H dr c k f/\0<=k/\k<=(n:Int))/\datas (As.map Ent.x)=some ds/\df ds n R /\
 ∀v d F n' H',n<=n'->R d n'->RdF K H' v d F->F.Nodup->(∀a∈F,H a=none)->(∃c k f,Zf H' dr c k f/\0<=k/\k<=(n':Int))->Vn dr H H'->Q v H'
def qK(pf:PF)(da:DA):DE:=λδ P=>da δ λxs δ1=>match datas xs with
 | some ds=>pf ds λd=>P (.dat .ow d) δ1
 | none=>False
section
variable{X:Cx}{CX:gZ}{k:Nat}{f:Addr}{fd:Cg}{ps:List Str}{pf:PF}{df:DF}{E:XK}{x:Str}{p pos:Pos}{e e0:Expr}{es:List Expr}{da:DA}
theorem Hy(F:FnOk X.prog X.w X.K X.mg X.base CX k f fd ps (Qx X.K pf))(hr:Room k X.A)(hg:Gl X x)(hm:X.mg x=some (.ref f))(hk:PySem.W.keepIn X.K (.ref f)=true)(hb:Binds X.K fd ps [])(hx:Om CX X E)(ha:oT X (e::es) da)(hdb:(x == ("__debug__" : Str))=false:=by decide)(he:Bs (e::es) X.env=(false,eval e X.env)::Bs es X.env:=by rfl)(hpl:(Io pos (Bs es X.env)).any (·.1)=false:=by rfl):Gd X (.Call (.Name x p) (e::es) [] pos) (qK pf da):=by
 refine PE.imp (To F hr hg hm hk hb .nil hx ha hdb he hpl) λσ H Q h=>?_
 obtain ⟨H0,Y,S,T,δ,P,rfl,hS,hA,hd,kk⟩:=h
 refine ⟨H0,Y,S,T,δ,_,rfl,hS,hA,hd,λxs δ' As us S' H' e1 e2 ex eu hA' p=>?_⟩
 subst ex
 cases q:datas (As.map Ent.x) with
 | none=>rw[q] at p; exact p.elim
 | some ds =>
  rw[q] at p
  rw[Ec]
  refine ⟨As,δ'.n,ds,_,eu,λe he=>hA'.ok e (Ad _ (Ao _ he)),q,p,λv d F H'' r rd nd fr s=>?_⟩
  exact kk _ δ' v F S' H'' e1 e2 (((hA'.dropL.grow s (Ah _)).pushF rd nd (λa ha=>hA'.dropL.free (fr a ha)) (λa ha=>hA'.new0 (fr a ha))).tomid) r
theorem sI(F:FnOk X.prog X.w X.K X.mg X.base CX k f fd ps (Qx X.K pf))(hr:Room k X.A)(hg:Gl X x)(hm:X.mg x=some (.ref f))(hk:PySem.W.keepIn X.K (.ref f)=true)(hb:Binds X.K fd ps [])(hx:Om CX X E)(hdb:(x == ("__debug__" : Str))=false:=by decide):Gd X (.Call (.Name x p) [] [] pos) (qK pf p9):=by
 refine PE.imp (sR F hr hg hm hk hb .nil hx hdb) λσ H Q h=>?_
 obtain ⟨H0,Y,S,T,δ,P,rfl,hS,hA,hd,kk⟩:=h
 show Qx X.K pf [] H Q E
 refine ⟨[],δ.n,[],_,rfl,λe he=>(nomatch he),rfl,hd,λv d F H'' r rd nd fr s=>?_⟩
 exact kk _ δ v F S H'' rfl hS (((hA.grow s (Ah _)).pushF rd nd (λa ha=>hA.free (fr a ha)) (λa ha=>hA.new0 (fr a ha))).tomid) r
def Td:Sp:=λvs H Q _=>∃c:Int,vs=[.int c]/\∀(p:Addr) (c':Int) (f:Bool) (H':Hp),H p=none->Zf H' p c' 0 f->Jk H H'->Q (.ref p) H'
def sX(da:DA):DE:=λδ P=>da δ λxs δ1=>match xs with
 | [.dat _ (.int _)]=>P .drw δ1
 | _=>False
theorem tO(F:FnOk X.prog X.w X.K X.mg X.base CX k f fd ps Td)(hr:Room k X.A)(hg:Gl X x)(hm:X.mg x=some (.ref f))(hk:PySem.W.keepIn X.K (.ref f)=true)(hb:Binds X.K fd ps [])(hx:Om CX X E)(ha:oT X (e::es) da)(hdb:(x == ("__debug__" : Str))=false:=by decide)(he:Bs (e::es) X.env=(false,eval e X.env)::Bs es X.env:=by rfl)(hpl:(Io pos (Bs es X.env)).any (·.1)=false:=by rfl):Gd X (.Call (.Name x p) (e::es) [] pos) (sX da):=by
 refine PE.imp (To F hr hg hm hk hb .nil hx ha hdb he hpl) λσ H Q h=>?_
 obtain ⟨H0,Y,S,T,δ,P,rfl,hS,hA,hd,kk⟩:=h
 refine ⟨H0,Y,S,T,δ,_,rfl,hS,hA,hd,λxs δ' As us S' H' e1 e2 ex eu hA' p=>?_⟩
 split at p
 ·obtain ⟨v,F,rfl,hA2⟩:=Mh eu hA' ex
  obtain ⟨rfl,_⟩:=(hA2.told mem_mid).int_inv
  refine ⟨_,rfl,λq c' fl H'' nq hdr s=>?_⟩
  have h3:=hA2.drop.grow (n':=δ'.n) s (Ah _)
  refine kk _ δ' _ [q] S' H'' e1 e2 ((h3.push (e:=⟨some (.ref q),.drw,[q]⟩) ⟨q,_,0,fl,rfl,rfl,hdr,by decide,by omega⟩ (λf hf=>?_) λa ha=>?_).tomid) p
  ·have nf:=hA2.drop.free nq f hf
   refine ⟨λ_ a ha z=>?_,λ_ a ha z=>?_⟩
   ·rw[Af.mp ha] at z
    exact nf z
   ·rw[Af.mp z] at ha
    exact nf (Hh _ _ ha)
  ·rw[Af.mp ha]
   exact .inl (hA2.new0 nq)
 ·exact p.elim
end
def args0(ds:List Ag)(k:Nat):List DV:=ds.map (λd=>.dat .sh d)++Ho k .un
def tH(e:Ent):Ent:=match e.x with
 | .dat _ d=>⟨e.v,.dat .sh d,e.F⟩
 | _=>e
theorem Qd:∀{xs:List DV} {ds:List Ag},datas xs=some ds->xs.length=ds.length
 | [],ds,h=>by cases h; rfl
 | x::xs,ds,h=>by
  cases x with
  | dat m d =>
   cases q:datas xs with
   | none=>simp [datas,q] at h
   | some es =>
    simp [datas,q] at h
    subst h
    rw[Bi,Bi,Qd q]
  | _=>cases h
theorem dJ:∀{As:List Ent} {ds:List Ag},datas (As.map Ent.x)=some ds->(As.map tH).map Ent.x=ds.map (λd=>.dat .sh d)
 | [],ds,h=>by cases h; rfl
 | ⟨v,x,F⟩::As,ds,h=>by
  rw[Bc] at h
  cases x with
  | dat m d =>
   cases q:datas (As.map Ent.x) with
   | none=>simp [datas,q] at h
   | some es =>
    simp [datas,q] at h
    subst h
    rw[Bc,Bc,Bc,dJ q]
    rfl
  | _=>cases h
theorem Uy:∀{As:List Ent} {ds:List Ag},datas (As.map Ent.x)=some ds->∀e∈As,∃m d,e.x=.dat m d
 | [],ds,h,e,he=>nomatch he
 | ⟨v,x,F⟩::As,ds,h,e,he=>by
  rw[Bc] at h
  cases x with
  | dat m d =>
   cases q:datas (As.map Ent.x) with
   | none=>simp [datas,q] at h
   | some es =>
    rcases An.mp he with rfl | he
    ·exact ⟨m,d,rfl⟩
    ·exact Uy q e he
  | _=>cases h
theorem U0(As:List Ent):(As.map tH).map Ent.v=As.map Ent.v:=by
 rw[Ci]
 refine Gc λe _=>?_
 obtain ⟨v,x,F⟩:=e
 cases x <;> rfl
def On(k:Nat):List Ent:=Ho k ⟨none,.un,[]⟩
theorem vL{As:List Ent}{ds:List Ag}(q:datas (As.map Ent.x)=some ds)(k:Nat):∀e∈As.map tH++On k,cells e=[]/\zS e.x=false:=λe he=>by
 rcases Au.mp he with he | he
 ·obtain ⟨f,hf,rfl⟩:=Cp.mp he
  obtain ⟨m,d,hx⟩:=Uy q f hf
  obtain ⟨v,x,F⟩:=f
  have hx':x=.dat m d:=hx
  subst hx'
  exact ⟨rfl,rfl⟩
 ·rw[(Na.mp he).2]
  exact ⟨rfl,rfl⟩
theorem Yl{α:Type}{R:α->α->Prop}:∀{l:List α},(∀a∈l,∀b∈l,R a b)->l.Pairwise R
 | [],_=>Dz
 | a::l,h=>Bn.mpr ⟨λb hb=>h a Aa b (Ae _ hb),Yl λx hx y hy=>h x (Ae _ hx) y (Ae _ hy)⟩
theorem E9{K:PySem.W.Frag}{H:Hp}{n:Nat}{As:List Ent}{ds:List Ag}(q:datas (As.map Ent.x)=some ds)(ok:∀e∈As,Ja K H n e)(k:Nat):∀e∈As.map tH++On k,Ja K H n e:=λe he=>by
 rcases Au.mp he with he | he
 ·obtain ⟨f,hf,rfl⟩:=Cp.mp he
  obtain ⟨m,d,hx⟩:=Uy q f hf
  have o:=ok f hf
  obtain ⟨v,x,F⟩:=f
  have hx':x=.dat m d:=hx
  subst hx'
  obtain ⟨w,h1,h2,_⟩:=o
  exact ⟨w,h1,h2,λz=>(nomatch z),λz=>(nomatch z)⟩
 ·rw[(Na.mp he).2]
  exact (rfl:([]:List Addr)=[])
theorem Wj{α β:Type}(f:α->β)(k:Nat)(a:α):(Ho k a).map f=Ho k (f a):=by
 rw[List.map_replicate]
def retE(R:Ag->Prop):DEnds where
 nx:=λ_=>R .none
 rt:=λx _=>∃d,x=.dat .ow d/\R d
section
variable{P:Bm}{w:World}{K:PySem.W.Frag}{mg:Str->Option Value}{base:Heap}
theorem Ku{x qual:Str}{st:Stmt}{f:Addr}{fd:Cg}{N ps:List Str}{k:Nat}{pf:PF}{db:DB}(F:Fun K x qual st f fd)(S:FnScope N ps (Ca st))(hb:∀(cdv:Value) (A:Cr) (outer:List Env) (s:Ai) (H:Hp) (E:XK),Room k (A.deeper (envOfC qual (Ca st) s.heap.objs.size f cdv))->bX (Qr Kd P w K mg base N qual (Ca st) f cdv A outer s H E).nox (Kc st) db)(h:∀ds R,pf ds R->ds.length=ps.length/\db (retE R) ⟨args0 ds (N.length - ps.length),0⟩):FnOk P w K mg base Kd (k+1) f fd ps (Qx K pf):=by
 refine F.ok S (λvs H Q E z=>?_) λcdv A outer s H us Q E hr z=>?_
 ·obtain ⟨As,n,ds,R,eu,ok,q,hp,_⟩:=z
  have l1:=(h ds R hp).1
  have l2:=Qd q
  rw[Ab] at l2
  have l3:=congrArg Hb eu
  rw[Ab,Ab] at l3
  omega
 ·obtain ⟨As,n,ds,R,eu,ok,q,hp,k1⟩:=z
  obtain ⟨l1,hd⟩:=h ds R hp
  have l2:=Qd q
  rw[Ab] at l2
  have l3:=congrArg Hb eu
  rw[Ab,Ab] at l3
  refine ⟨_,hb cdv A outer s H E hr,H,λ_=>False,As.map tH++On (N.length - ps.length),[],⟨args0 ds (N.length - ps.length),0⟩,retE R,?_,?_,λ_ z=>(nomatch z),?_,hd,λδ' S' H' e1 hA p=>?_,λx δ' v F' S' H' e1 hA p=>?_,λ_ _ _ _ _ p=>p.elim,λ_ _ _ _ _ p=>p.elim⟩
  ·unfold vs L2.start On
   rw[Bz,U0,eu,Wj,show us.length=ps.length by omega]
  ·unfold Sl args0 On
   rw[Bz,dJ q,Wj]
  ·rw[Ec]
   have hs:=vL q (N.length - ps.length)
   refine ⟨λe he=>?_,Yl λa ha b hb'=>⟨λhq c hc=>?_,λhq c hc=>?_⟩,λe he a ha=>?_,λb o _ e=>e,λb o e=>⟨o,e⟩,λb hb=>hb.elim⟩
   ·have:=E9 q ok (N.length - ps.length) e he
    obtain ⟨v,x,F⟩:=e
    cases x with
    | drw=>exact absurd (hs _ he).2 (by show ¬ (true=false); decide)
    | _=>exact this
   ·rw[(hs a ha).1] at hc; cases hc
   ·rw[(hs b hb').1] at hc; cases hc
   ·rw[(hs e he).1] at ha; cases ha
  ·exact k1 .non .none [] H' p .non Df (λ_ z=>(nomatch z)) λb o e=>hA.same b o (λz=>z) e
  ·obtain ⟨d,rfl,r⟩:=p
   rw[show S'++[(⟨some v,.dat .ow d,F'⟩ : Ent)]=S'++⟨some v,.dat .ow d,F'⟩::[] from rfl] at hA
   obtain ⟨u,e2,rd,nd,_⟩:=hA.ok _ mem_mid
   cases e2
   refine k1 v d F' H' r rd (nd rfl) (λa ha=>?_) λb o e=>hA.same b o (λz=>z) e
   rcases hA.new _ mem_mid a ha with z | z
   ·exact z
   ·exact z.1.elim
end
end DL
namespace L2
open PySem PySem.Spec PyProof.Rows
def tF(H:Hp):Prop:=∀b,H b=none\/(∃o xs,H b=some (.frz o (.lst xs)))\/∃ps,H b=some (.tbl ps)
def fR(tabs:List (Addr×Addr×Str))(H:Hp):Hp:=λb=>match tabs.find? (λr=>r.2.1 == b) with | some t=>some (.tbl #[.str t.2.2 0]) | none=>H b
theorem Rz{tabs:List (Addr×Addr×Str)}{H:Hp}{b:Addr}{t:Addr×Addr×Str}(h:tabs.find? (λr=>r.2.1 == b)=some t):fR tabs H b=some (.tbl #[.str t.2.2 0]):=by unfold fR; rw[h]
theorem Kj{tabs:List (Addr×Addr×Str)}{H:Hp}{b:Addr}(h:tabs.find? (λr=>r.2.1 == b)=none):fR tabs H b=H b:=by unfold fR; rw[h]
def cI(q:Bm)(K:PySem.W.Frag):Prop:=∃tabs:List (Addr×Addr×Str),(∀t∈tabs,∃x d,(recsOf q).find? (λe=>e.name == x)=some d/\PySem.W.tabIn K x=some (t.1,t.2.1))/\(∀t∈tabs,∀t'∈tabs,t.2.1=t'.2.1->t=t') /\
 (∀x∈Tp,∀c P,PySem.W.tabIn K x=some (c,P)->(c,P,j9 x)∈tabs)/\∀t∈tabs,K.lookup t.2.1=none
theorem vA{x:Str}(hx:x∈Tp):x = "often" \/ x = "cut_by" := by
 rcases An.mp hx with h | hx
 ·exact .inl h
 ·exact .inr (Af.mp hx)
theorem nM{q:Bm}{K:PySem.W.Frag}(h1:PySem.W.tabIn K "often" = none)(h2:PySem.W.tabIn K "cut_by" = none):cI q K:=by
 refine ⟨[],λ_ z=>(nomatch z),λ_ z=>(nomatch z),λx hx c P e=>?_,λ_ z=>(nomatch z)⟩
 rcases vA hx with rfl | rfl
 ·rw[h1] at e; cases e
 ·rw[h2] at e; cases e
theorem mH{P:Bm}{w:World}{K:PySem.W.Frag}{mg mb:Str->Option Value}{CX:gZ}{k:Nat}{fa a:Addr}{fd:Cg}{x:Str}{sp:Sp}{s₁:Ai}{vs:List Value}{ns:List Int}(tabs:List (Addr×Addr×Str))(hT:∀t∈tabs,PySem.W.CodeHd s₁.heap t.1 t.2.1/\s₁.heap.get? t.2.1=some (PySem.W.tabObj #[]))(hu:∀t∈tabs,∀t'∈tabs,t.2.1=t'.2.1->t=t')(hL:∀x∈Tp,∀c P,PySem.W.tabIn K x=some (c,P)->(c,P,j9 x)∈tabs)(hnt:∀t∈tabs,K.lookup t.2.1=none)(hbm:∃bm ob,mg "__builtins__" = some (.ref bm)/\bm≠Sj/\s₁.heap.get? bm=some ob/\ob.cls=.type "module" /\ ob.dict=some Sj/\ob.data=.plain)(KX:K.In s₁.heap)(hns:s₁.heap.Ns Cj mg)(hb:s₁.heap.Ns Sj mb)(hbb:∀x:Str,x ≠ "__name__" -> mb x=Jz x)(hlim:s₁.heap.NoLimit)(hg:s₁.gens=#[])(ha:s₁.heap.get? a=some { cls:=.type "list",data:=.seq vs.toArray })(hi:He vs ns)(hl:ns.length<=Av)(hr:Room k Wc)(F:∀base:Heap,K.In base->base.Ns Cj mg->FnOk P w K mg base CX k fa fd [x] sp)(hbind:∀(s:Ai) (u:Value),BindsTo s fd ⟨[u],[]⟩ [(x,u)])(hsp:∀H:Hp,tF H->DL.KL K H a (ns.map V.int)->sp [.ref a] H (λv _=>v=.bl true) λ_ _ _=>False)(hCX:∀H e s',CX [] H s₁ (λ_ _ _=>False) e s'->False):Hl (model P w) Wc (.call (.ref fa) ⟨[.ref a],[]⟩) (λr s'=>r=.ok (.ret (.bool true))/\OldK s₁.heap s'.heap/\s'.os=s₁.os/\Qa s'.gens) s₁:=by
 have rv:=aI hi
 have lenV:=hi.length
 -- from an abstract heap in which nothing but the script may be tracked
 have core:∀H:Hp,tF H->DL.KL K H a (ns.map V.int)->Za P w H s₁.heap->(∀b,H b≠none->b=a\/∃t∈tabs,b=t.2.1)->(H a≠none->K.lookup a=none)->(∀t∈tabs,zE H t.2.1 t.2.2) ->
   Hl (model P w) Wc (.call (.ref fa) ⟨[.ref a],[]⟩) (λr s'=>r=.ok (.ret (.bool true))/\OldK s₁.heap s'.heap/\s'.os=s₁.os/\Qa s'.gens) s₁:=by
  intro H hO hS hok hA hK hTH
  have base_of:∀{b:Addr} {o:Obj},s₁.heap.get? b=some o->H b=none->(Zc s₁.heap H).get? b=some o:=λe n=>tW e n
  have noA:∀{b:Addr} {o:Obj} {es:Array DictEntry} {ep:Nat},s₁.heap.get? b=some o->o.data=.dict es ep->H b=none:=λ{b o es ep} e d=>by
   cases q:H b with
   | none=>rfl
   | some u =>
    rcases hA b (by rw[q]; simp) with e' | ⟨t,ht,e'⟩
    ·subst e'
     rw[ha] at e; cases e
     have d':Data.seq vs.toArray _=Data.dict es ep:=d
     cases d'
    ·rw[e',(hT t ht).2] at e; cases e
     cases d
  have nsK:∀{b:Addr} {m:Str->Option Value},s₁.heap.Ns b m->(Zc s₁.heap H).Ns b m:=λ{b m} ⟨o,es,ep,e,d,r⟩=>⟨o,es,ep,base_of e (noA e d),d,r⟩
  have hKb:K.In (Zc s₁.heap H):=λb o e=>base_of (KX b o e) (by
   cases q:H b with
   | none=>rfl
   | some u =>
    rcases hA b (by rw[q]; simp) with e' | ⟨t,ht,e'⟩
    ·subst e'
     rw[hK (by rw[q]; simp)] at e; cases e
    ·rw[e',hnt t ht] at e; cases e)
  have noC:∀{b:Addr} {o:Obj},s₁.heap.get? b=some o->o.cls≠.none->o.cls≠.type "list" -> H b=none:=λ{b o} e d d2=>by
   cases q:H b with
   | none=>rfl
   | some u =>
    rcases hA b (by rw[q]; simp) with e' | ⟨t,ht,e'⟩
    ·subst e'
     rw[ha] at e; cases e
     exact absurd rfl d2
    ·rw[e',(hT t ht).2] at e; cases e
     exact absurd rfl d
  have hTb:oY K mg (Zc s₁.heap H) H:=λx hx c P e=>by
   have ht:=hL x hx c P e
   obtain ⟨bm,ob,b1,b2,b3,b4,b5,b6⟩:=hbm
   obtain ⟨⟨o,us,file,tf,flags,tg,inF,text,tt,e1,r1,r2⟩,hP⟩:=hT _ ht
   refine ⟨⟨o,us,file,tf,flags,tg,inF,text,tt,base_of e1 (noC e1 (by rw[r1]; nofun) (by rw[r1]; simp)),r1,r2⟩,⟨bm,ob,b1,b2,λz=>?_,λz=>?_,base_of b3 (noC b3 (by rw[b4]; nofun) (by rw[b4]; simp)),b4,b5,b6⟩,hTH _ ht⟩
   ·obtain ⟨o',es,ep,e',d,_⟩:=hns
    rw[<- z,b3] at e'; cases e'; rw[b6] at d; cases d
   ·have hP:s₁.heap.get? P=_:=hP
    rw[<- z,b3] at hP; cases hP; cases b4
  have hM:Mod K mg (Zc s₁.heap H):=⟨hKb,nsK hns,⟨mb,nsK hb,hbb⟩,let ⟨mc,h1,h2⟩:=hlim; ⟨mc,nsK h1,h2⟩⟩
  have e0:Env0 P w K mg (Zc s₁.heap H) Wc [] s₁ H:=⟨rfl,hM,λb o e=>vM e,Nat.le_of_eq (nB _ _),trivial,λb hb=>absurd (show b∈([]:List Addr) from hb) (by simp),hok,.of_eq hg,hTb⟩
  refine Nv ((F _ hKb (nsK hns)).run Wc [] s₁ H ⟨[.ref a],[]⟩ [.ref a] [.ref a] _ _ hr e0 (hbind s₁ (.ref a)) (.cons rfl .nil) (hsp H hO hS)) λr s' h=>?_
  cases r with
  | error e=>exact (hCX H e s' h).elim
  | ok fl =>
   cases fl with
   | next=>exact Jd h
   | brk=>exact Jd h
   | cont=>exact Jd h
   | ret u =>
    obtain ⟨v,H',os,bare,un,hok',r',q⟩:=h
    have q':v=.bl true:=q
    subst q'
    obtain rfl:u=Value.bool true:=r'
    have old:∀b o,s₁.heap.get? b=some o->s'.heap.get? b=some o\/∃t∈tabs,b=t.2.1:=λb o e=>by
     cases q:H b with
     | none=>exact .inl (un.keep b o e q (by intro z; exact absurd (show b∈([]:List Addr) from z) (by simp)) (by simp))
     | some u =>
      rcases hO b with z | ⟨ob,xs,z⟩ | ⟨ps,z⟩
      ·rw[q] at z; cases z
      ·have z2:=un.frzs b ob _ z
       obtain ⟨e1,_⟩:=hok b _ z
       obtain ⟨e2,_⟩:=hok' b _ z2
       rw[e] at e1; cases e1
       exact .inl e2
      ·rcases hA b (by rw[q]; simp) with e' | h'
       ·obtain ⟨_,e1,_⟩:=hok b _ z
        rw[e',ha] at e1; cases e1
       ·exact .inr h'
    have grown:∀t∈tabs,∃ps,s'.heap.get? t.2.1=some (PySem.W.tabObj ps):=λt ht=>by
     obtain ⟨ps,t0,h3,_⟩:=hTH t ht
     obtain ⟨more,h5⟩:=un.tbls _ _ h3
     obtain ⟨qs,e1,_⟩:=hok' _ _ h5
     exact ⟨qs,e1⟩
    refine ⟨rfl,⟨λb o e=>?_,λb o e=>?_⟩,os,bare⟩
    ·rcases old b o e with z | ⟨t,ht,rfl⟩
     ·exact .inl z
     ·obtain ⟨ps,hP⟩:=grown t ht
      have e2:=(hT t ht).2
      rw[e] at e2
      cases e2
      exact .inr (.inl ⟨((hT t ht).1.tab (hT t ht).2).isCodeTable,rfl,#[],ps,rfl,by rw[Array.empty_append]; exact hP⟩)
    ·rcases old b o e with z | ⟨t,ht,rfl⟩
     ·exact ⟨_,z⟩
     ·obtain ⟨ps,hP⟩:=grown t ht
      exact ⟨_,hP⟩
 have tabH:∀(t:Addr×Addr×Str),t∈tabs->tabs.find? (λr=>r.2.1 == t.2.1)=some t:=λt ht=>by
  cases q:tabs.find? (λr=>r.2.1 == t.2.1) with
  | none=>exact absurd (List.find?_eq_none.mp q t ht) (by simp)
  | some r=>exact congrArg some (hu r (Nr q) t ht (by have:=Qp q; simpa using this))
 have neA:∀t∈tabs,t.2.1≠a:=λt ht z=>by
  have e:=(hT t ht).2
  rw[z,ha] at e; cases e
 have all:∀H:Hp,(∀b,H b=none\/∃o xs,H b=some (.frz o (.lst xs)))->(∀b,H b≠none->b=a)->(H a≠none->K.lookup a=none)->DL.KL K H a (ns.map V.int)->Za P w H s₁.heap ->
   Hl (model P w) Wc (.call (.ref fa) ⟨[.ref a],[]⟩) (λr s'=>r=.ok (.ret (.bool true))/\OldK s₁.heap s'.heap/\s'.os=s₁.os/\Qa s'.gens) s₁:=by
  intro H h1 h2 h3 h4 h5
  refine core (fR tabs H) (λb=>?_) ?_ (λb u z=>?_) (λb z=>?_) (λz=>?_) λt ht=>?_
  ·cases q:tabs.find? (λr=>r.2.1 == b) with
   | some t=>exact .inr (.inr ⟨_,Rz q⟩)
   | none =>
    rcases h1 b with z | ⟨o,xs,z⟩
    ·exact .inl (by rw[Kj q]; exact z)
    ·exact .inr (.inl ⟨o,xs,by rw[Kj q]; exact z⟩)
  ·have na:tabs.find? (λr=>r.2.1 == a)=none:=uP.mpr λt ht z=>neA t ht (by simpa using z)
   rcases h4 with ⟨o,h⟩ | h
   ·exact .inl ⟨o,by rw[Kj na]; exact h⟩
   ·exact .inr h
  ·cases q:tabs.find? (λr=>r.2.1 == b) with
   | some t =>
    rw[Rz q] at z
    cases z
    have eb:t.2.1=b:=by have:=Qp q; simpa using this
    exact ⟨#[],by rw[<- eb]; exact (hT t (Nr q)).2,by simp [TriplesOk],λpos v y=>by simp [codeAmong] at y⟩
   | none =>
    rw[Kj q] at z
    rcases h1 b with y | ⟨o,xs,y⟩
    ·rw[z] at y; cases y
    ·rw[z] at y
     cases y
     exact h5 b _ z
  ·cases q:tabs.find? (λr=>r.2.1 == b) with
   | some t=>exact .inr ⟨t,Nr q,by have:=Qp q; exact (by simpa using this : t.2.1=b).symm⟩
   | none =>
    rw[Kj q] at z
    exact .inl (h2 b z)
  ·have na:tabs.find? (λr=>r.2.1 == a)=none:=uP.mpr λt ht z=>neA t ht (by simpa using z)
   rw[Kj na] at z
   exact h3 z
  ·exact ⟨#[.str t.2.2 0],0,Rz (tabH t ht),rfl⟩
 cases hk:K.lookup a with
 | some o =>
  -- the script is one of the module's own objects
  have e:=KX a o hk
  rw[ha] at e
  cases e
  exact all (λ_=>none) (λ_=>.inl rfl) (λb z=>absurd rfl z) (λz=>absurd rfl z) (.inr ⟨vs.toArray,_,hk,by rw[Ap,lenV]; exact hl,by simpa using rv⟩) (λb u z=>by have z':(none:Option HO)=some u:=z; cases z')
 | none =>
  refine all (λb=>if b=a then some (.frz { cls:=.type "list",data:=.seq vs.toArray } (.lst (ns.map V.int))) else none) (λb=>?_) (λb z=>?_) (λ_=>hk) (.inl ⟨{ cls:=.type "list",data:=.seq vs.toArray },if_pos rfl⟩) (λb u z=>?_)
  ·by_cases hb:b=a
   ·exact .inr ⟨_,_,if_pos hb⟩
   ·exact .inl (if_neg hb)
  ·by_cases hb:b=a
   ·exact hb
   ·exact absurd (if_neg hb) z
  ·by_cases hb:b=a
   ·have z':=(if_pos hb).symm.trans z
    cases z'
    subst hb
    exact ⟨ha,by rw[Ab]; exact hl,vs,_,rv,ha⟩
   ·have z':=(if_neg hb).symm.trans z
    cases z'
theorem walk_ofD{l:PySem.W.OpenLaw}{n k:Nat}{q:Bm}{loose:List Str}{XP:(Str->Option Value)->Heap->Prop}{YP:World->Heap->Prop}{d:DefRec}{K:Params->PySem.W.Frag}{CX:World->gZ}{sp:World->Sp}{x:Str}(hn:l.most=some n)(hn2:n<=Av)(hdf:d.params.defaults=[])(hr:Room k Wc)(hY:∀(w:World) (h:Heap),YP w h->(K w.params).In h)(F:∀(w:World) (mg:Str->Option Value) (fa:Addr) (h:Heap),(K w.params).In h->h.Ns Cj mg->mg d.name=some (.ref fa)->(cI q (K w.params))/\∃fd:Cg,(∀(s:Ai) (u:Value),BindsTo s fd ⟨[u],[]⟩ [(x,u)])/\∀base:Heap,(K w.params).In base->base.Ns Cj mg->FnOk l.prog w (K w.params) mg base (CX w) k fa fd [x] (sp w))(hsp:∀(w:World) (H:Hp) (a:Addr) (ns:List Int),ns.length<=n->tF H->DL.KL (K w.params) H a (ns.map V.int)->sp w [.ref a] H (λv _=>v=.bl true) λ_ _ _=>False)(hCX:∀(w:World) (H:Hp) (s:Ai) (e:Value) (s':Ai),CX w [] H s (λ_ _ _=>False) e s'->False):PySem.W.WalkO q loose XP YP l.row.toRowW d [] (λf vs=>PySem.call f vs):=by
 refine Att.attach_call hn hdf λw s₀ s₁ mg mb fa o pm cd doc a vs ns G Y ho hd hcd hmg hobj hints hlen hg=>?_
 have KX:=hY w _ Y
 obtain ⟨⟨tabs,t1,t2,t3,t4⟩,fd,hb,hF⟩:=F w mg fa _ KX G.T.g hmg
 exact mH tabs (λt ht=>by
  obtain ⟨x,d,h1,h2⟩:=t1 t ht
  exact PySem.W.tab_of G.T KX h1 h2) t2 t3 t4 G.T.bmain KX G.T.g G.T.b G.T.builtins G.T.nolimit hg hobj hints (Bv hlen hn2) hr hF hb (λH hO hS=>hsp w H a ns hlen hO hS) λH e s'=>hCX w H s₁ e s'
end L2
namespace DL
open PySem PySem.Spec PyProof.Rows L2 Nd
def npk:List DV->Bool
 | []=>true
 | .dat .pk _::_=>false
 | _::xs=>npk xs
theorem iP:∀{S:List Ent} {sl:List DV},S.map Ent.x=sl->npk sl=true->∀e∈S,Oy e.x=false
 | [],_,_,_,e,he=>nomatch he
 | ⟨v,x,F⟩::S,_,h,hn,e,he=>by
  subst h
  rw[Bc] at hn
  have : Oy x=false/\npk (S.map Ent.x)=true:=by
   cases x with
   | dat m d=>cases m <;> first | exact ⟨rfl,hn⟩ | cases hn
   | _=>exact ⟨rfl,hn⟩
  rcases An.mp he with rfl | he
  ·exact this.1
  ·exact iP rfl this.2 e he
def own1:Md->Bool
 | .ow=>true
 | .tp=>true
 | _=>false
section
variable{K:PySem.W.Frag}{H0 H:Hp}{X:Addr->Prop}{n:Nat}{E:List Ent}
theorem At.write{v:Option V}{m:Md}{ds es:List Ag}{a:Addr}{F G:List Addr}{ys:List V}(h:At K H0 X n (⟨v,.dat m (.list ds),a::F⟩::E) H)(ho:own1 m=true)(hv:v=some (.ref a))(np:∀e∈E,Oy e.x=false)(r:RdFs K H ys es G)(hG:G.Sublist F)(hz:es.length<=Av):At K H0 X n (⟨v,.dat m (.list es),a::G⟩::E) (upd H a (.lst ys)):=by
 obtain ⟨w,e1,rd,hn,ht⟩:=h.ok _ Aa
 obtain ⟨b,xs,G0,e2,ha,ra,eF,_⟩:=rd.list_inv
 have eF':a::F=b::G0:=eF
 cases eF'
 have hs:=Bn.mp h.sep
 have naF:a∉F:=by
  cases m with
  | ow=>exact (Bo.mp (hn rfl)).1
  | tp=>exact ht rfl a F rfl
  | sh=>cases ho
  | pk=>cases ho
 have ca:a∈cells ⟨v,.dat m (.list ds),a::F⟩:=by
  cases m <;> first | exact Aa | cases ho
 have kp:∀{F':List Addr},a∉F'->Kp F' H (upd H a (.lst ys)):=λ{F'} hF b o q z=>by
  have : b≠a:=by
   rintro rfl
   rw[ha] at q
   cases q
   rcases z with z | z
   ·exact hF z
   ·rcases z with ⟨_,z⟩ | ⟨_,_,z⟩ <;> cases z
  rw[Dm this]
  exact q
 have n0:H0 a=none:=by
  rcases h.new _ Aa a ca with z | z
  ·exact z
  ·cases z.2
 have cs:∀c∈cells ⟨v,.dat m (.list es),a::G⟩,c∈cells ⟨v,.dat m (.list ds),a::F⟩:=λc hc=>by
  cases m with
  | ow =>
   rcases An.mp hc with z | z
   ·exact An.mpr (.inl z)
   ·exact An.mpr (.inr (hG.subset z))
  | tp=>exact hc
  | sh=>cases ho
  | pk=>cases ho
 have hsub:∀c∈a::G,c∈a::F:=λc hc=>by
  rcases An.mp hc with z | z
  ·exact An.mpr (.inl z)
  ·exact An.mpr (.inr (hG.subset z))
 have naG:a∉G:=λz=>naF (hG.subset z)
 refine ⟨λf hf=>?_,?_,λf hf=>?_,λb o nx q=>?_,λb o q=>?_,λb hb=>?_⟩
 ·rcases An.mp hf with rfl | hf
  ·refine ⟨.ref a,hv,.lst Cn hz (r.kp (kp naG)),λz=>?_,λz c l e=>?_⟩
   ·exact Bo.mpr ⟨naG,(Bo.mp (hn z)).2.sublist hG⟩
   ·cases e
    exact naG
  ·exact (h.ok f (Ae _ hf)).kp (kp ((hs.1 f hf).1 (.inl (np f hf)) a ca)) (Ah _)
 ·refine Bn.mpr ⟨λf hf=>⟨λhq c hc=>(hs.1 f hf).1 (.inl (np f hf)) c (cs c hc),λhq c hc z=>(hs.1 f hf).2 (.inl ?_) c hc (hsub c z)⟩,hs.2⟩
  cases m <;> first | rfl | cases ho
 ·rcases An.mp hf with rfl | hf
  ·exact λc hc=>h.new _ Aa c (cs c hc)
  ·exact h.new f (Ae _ hf)
 ·rw[Dm (Fd q n0)]
  exact h.same b o nx q
 ·rw[Dm (Fd q n0)]
  exact h.dom b o q
 ·obtain ⟨z,c,k,f,h1,h2⟩:=h.xd b hb
  refine ⟨z,c,k,f,(Dm ?_).trans h1,h2⟩
  rintro rfl
  exact z n0
end
theorem Oh{α:Type}:∀{l:List α} {i:Nat} {x:α},l[i]? = some x->l.Perm (x::l.eraseIdx i)
 | [],i,x,h=>by simp at h
 | z::l,0,x,h=>by
  simp at h
  subst h
  exact Ic _
 | z::l,i+1,x,h=>by
  have ih:=Oh (l:=l) (i:=i) (x:=x) (by simpa using h)
  rw[Pe]
  exact (ih.cons z).trans (Ib x z _)
theorem aM{α:Type}{l:List α}{i:Nat}{x y:α}(h:l[i]? = some x):(l.set i y).Perm (y::l.eraseIdx i):=by
 have hlt:=(Aq.mp h).1
 have q:=Oh (l:=l.set i y) (i:=i) (x:=y) (by rw[Km]; simp [hlt])
 rw[List.eraseIdx_set_eq] at q
 exact q
theorem iU{K:PySem.W.Frag}{H0 H:Hp}{X:Addr->Prop}{S T:List Ent}{δ:DS}{i:Nat}{m:Md}{ds es:List Ag}(hS:Sl S δ)(hT:∀e∈T,Oy e.x=false)(hA:At K H0 X δ.n (S++T) H)(hi:δ.sl[i]? = some (.dat m (.list ds)))(ho:own1 m=true)(np:npk δ.sl=true):∃a xs G,(vs S)[i]? = some (some (.ref a))/\H a=some (.lst xs)/\RdFs K H xs ds G/\ds.length<=Av/\∀ys G',RdFs K H ys es G'->G'.Sublist G->es.length<=Av->∃S',vs S'=vs S/\Sl S' ⟨δ.sl.set i (.dat m (.list es)),δ.n⟩/\At K H0 X δ.n (S'++T) (upd H a (.lst ys)):=by
 obtain ⟨ent,e2,e3⟩:=Mk hS hi
 have hm:ent∈S:=Az e2
 obtain ⟨u,x,F⟩:=ent
 have e3':x=.dat m (.list ds):=e3
 subst e3'
 obtain ⟨v,hv,rd,_⟩:=hA.ok _ (Ao _ hm)
 obtain ⟨a,xs,G,rfl,ha,ra,eF,hz⟩:=rd.list_inv
 have eF':F=a::G:=eF
 subst eF'
 refine ⟨a,xs,G,by rw[Vp e2]; exact congrArg some hv,ha,ra,hz,λys G' r hG hz'=>?_⟩
 have hn:=iP hS np
 have pm:(S++T).Perm (⟨u,.dat m (.list ds),a::G⟩::(S.eraseIdx i++T)):=by
  exact (Oh e2).append_right T
 have h1:=(hA.perm pm).write (es:=es) (ys:=ys) ho hv (λe he=>?_) r hG hz'
 ·refine ⟨S.set i ⟨u,.dat m (.list es),a::G'⟩,?_,?_,h1.perm ?_⟩
  ·unfold vs
   rw[Ha]
   apply Kn
   intro j
   rw[Km]
   split
   ·rename_i hij
    subst hij
    rw[Bf,e2]
    split
    ·rfl
    ·rename_i hj
     rw[Ab] at hj
     exact absurd (Aq.mp e2).1 hj
   ·rfl
  ·unfold Sl at hS ⊢
   rw[Ha,hS]
  ·exact ((aM e2).append_right T).symm
 ·rcases Au.mp he with he | he
  ·exact hn e ((List.eraseIdx_sublist S i).subset he)
  ·exact hT e he
def spLawD(K:PySem.W.Frag):Sp:=λus H Q _=>∃(a:Addr) (ns:List Int),us=[.ref a]/\KL K H a (ns.map V.int)/\ns.length<=63/\∀H',Q (.bl true) H'
def retL:DEnds where
 nx:=λ_=>False
 rt:=λx _=>∃m,x=.dat m (.bool true)
section
variable{P:Bm}{w:World}{K:PySem.W.Frag}{mg:Str->Option Value}{base:Heap}
theorem i8{x qual p0:Str}{st:Stmt}{f:Addr}{fd:Cg}{N:List Str}{k:Nat}{db:DB}(F:Fun K x qual st f fd)(S:FnScope N [p0] (Ca st))(hb:∀(cdv:Value) (A:Cr) (outer:List Env) (s:Ai) (H:Hp) (E:XK),Room k (A.deeper (envOfC qual (Ca st) s.heap.objs.size f cdv))->bX (Qr Kd P w K mg base N qual (Ca st) f cdv A outer s H E).nox (Kc st) db)(h:∀ns:List Int,ns.length<=63->db retL ⟨.scr ns::Ho (N.length - 1) .un,0⟩):FnOk P w K mg base Kd (k+1) f fd [p0] (spLawD K):=by
 refine F.ok S (λvs H Q E z=>?_) λcdv A outer s H us Q E hr z=>?_
 ·obtain ⟨a,ns,rfl,_⟩:=z
  rfl
 ·obtain ⟨a,ns,rfl,hK,h63,k1⟩:=z
  refine ⟨_,hb cdv A outer s H E hr,H,λ_=>False,⟨some (.ref a),.scr ns,[]⟩::On (N.length - 1),[],⟨.scr ns::Ho (N.length - 1) .un,0⟩,retL,?_,?_,λ_ z=>(nomatch z),?_,h ns h63,λδ' S' H' e1 hA p=>p.elim,λx δ' v F' S' H' e1 hA p=>?_,λ_ _ _ _ _ p=>p.elim,λ_ _ _ _ _ p=>p.elim⟩
  ·unfold vs L2.start On
   rw[Bc,Wj]
   rfl
  ·unfold Sl On
   rw[Bc,Wj]
  ·rw[Ec]
   have hc:∀e∈(⟨some (.ref a),.scr ns,[]⟩::On (N.length - 1):List Ent),cells e=[]:=λe he=>by
    rcases An.mp he with rfl | he
    ·rfl
    ·rw[(Na.mp he).2]
     rfl
   refine ⟨λe he=>?_,Yl λa ha b hb'=>⟨λhq c z=>?_,λhq c z=>?_⟩,λe he a ha=>?_,λb o _ e=>e,λb o e=>⟨o,e⟩,λb hb=>hb.elim⟩
   ·rcases An.mp he with rfl | he
    ·exact ⟨a,rfl,rfl,hK,h63⟩
    ·rw[(Na.mp he).2]
     exact (rfl:([]:List Addr)=[])
   ·rw[hc a ha] at z; cases z
   ·rw[hc b hb'] at z; cases z
   ·rw[hc e he] at ha; cases ha
  ·obtain ⟨m,rfl⟩:=p
   rw[show S'++[(⟨some v,.dat m (.bool true),F'⟩ : Ent)]=S'++⟨some v,.dat m (.bool true),F'⟩::[] from rfl] at hA
   obtain ⟨rfl,_⟩:=(hA.told mem_mid).bl_inv
   exact k1 H'
end
def iY(i:Nat)(dl dh:DO):DE:=λδ P=>match δ.sl[i]? with
 | some (.scr ns)=>dl δ λl δ2=>dh δ2 λh δ3=>P (.dat .ow (.list ((Jo ns l h).map Bl))) δ3
 | _=>False
section
variable{X:Cx}{e b:Expr}{de:DE}{lo hi:Option Expr}{dl dh:DO}{pos p2:Pos}{i:Nat}
theorem i4{K:PySem.W.Frag}{H0 H:Hp}{Y:Addr->Prop}{S T:List Ent}{δ:DS}{ns:List Int}(hS:Sl S δ)(hA:At K H0 Y δ.n (S++T) H)(hi:δ.sl[i]? = some (.scr ns)):∃a,(vs S)[i]? = some (some (.ref a))/\(⟨some (.ref a),.scr ns,[]⟩ : Ent)∈S/\KL K H a (ns.map V.int)/\ns.length<=63:=by
 obtain ⟨ent,e2,e3⟩:=Mk hS hi
 have hm:ent∈S:=Az e2
 obtain ⟨u,x,F⟩:=ent
 have e3':x=.scr ns:=e3
 subst e3'
 obtain ⟨a,h1,h2,h3⟩:=hA.ok _ (Ao _ hm)
 have h1':u=some (.ref a):=h1
 have h2':F=[]:=h2
 subst h1' h2'
 exact ⟨a,by rw[Vp e2],hm,h3⟩
theorem pE(he:PE X e (Qt i))(hl:B9 X lo dl)(hh:B9 X hi dh):Gd X (.Subscript e (.Slice lo hi none p2) pos) (iY i dl dh):=by
 refine PE.imp (dY (r:=j3 X.K) vS he hl hh) λσ H Q h=>?_
 obtain ⟨H0,Y,S,T,δ,P,rfl,hS,hA,hd,k⟩:=h
 unfold iY at hd
 split at hd
 case h_2=>exact hd.elim
 rename_i ns hsl
 obtain ⟨a,ha,hm,hK,h63⟩:=i4 hS hA hsl
 have hA0:At X.K H0 Y δ.n (S++⟨some (.ref a),.scr ns,[]⟩::T) H:=(At.view1 hA (Ao _ hm)).tomid
 refine ⟨.ref a,ha,H0,Y,S,⟨some (.ref a),.scr ns,[]⟩::T,δ,_,rfl,hS,hA0,hd,λl δ2 S2 H2 e3 e4 hA2 p2=>?_⟩
 refine ⟨H0,Y,S2,⟨some (.ref a),.scr ns,[]⟩::T,δ2,_,e3,e4,hA2,p2,λh δ3 S3 H3 e5 e6 hA3 p3=>?_⟩
 obtain ⟨a',h1,_,hK3,_⟩:=hA3.ok _ mem_mid
 cases h1
 refine ⟨a,_,rfl,hK3.sq,λp hp=>?_⟩
 have : Yd (ns.map V.int) l h=(Jo ns l h).map V.int:=by
  rw[<- fF]; rfl
 rw[this]
 refine k _ δ3 _ _ S3 _ e5 e6 (hA3.drop.newI (RdFs.ints _) (Pp _) ?_ hp .ow) p3
 rw[Ab]
 have l1:=(Yh ns l h).length_le
 exact sz (by omega)
end
section
variable{K:PySem.W.Frag}{H0 H H':Hp}{Y:Addr->Prop}{n n':Nat}{E S T:List Ent}
theorem At.re(h:At K H0 Y n E H)(ok:∀e∈E,Ja K H' n' e)(s:∀b o,¬ Y b->H0 b=some o->H' b=some o)(dm:∀b o,H0 b=some o->∃o',H' b=some o')(xd:∀b,Y b->H0 b≠none/\∃c k f,Zf H' b c k f/\0<=k/\k<=(n':Int)):At K H0 Y n' E H':=⟨ok,h.sep,h.new,s,dm,xd⟩
end
theorem tY{P:Bm}{w:World}{K:PySem.W.Frag}{mg:Str->Option Value}{base:Heap}{k:Nat}{f:Addr}{fd:Cg}{ps:List Str}(F:FnOk P w K mg base Kd k f fd ps lX):FnOk P w K mg base Kd k f fd ps Td:=by
 refine F.imp λus H Q E h=>?_
 obtain ⟨c,rfl,h⟩:=h
 exact ⟨c,rfl,λp f H'=>h p c f H'⟩
def iR:DF:=λds n R=>ds=[]/\n<=100000/\∀r:Int,R (.int r) (n+1)
theorem uX{P:Bm}{w:World}{K:PySem.W.Frag}{mg:Str->Option Value}{base:Heap}{k:Nat}{f:Addr}{fd:Cg}{ps:List Str}(F:FnOk P w K mg base Kd k f fd ps sQ):FnOk P w K mg base Kd k f fd ps (P7 K iR):=by
 refine F.imp λus H Q E h=>?_
 obtain ⟨dr,ws,As,n,ds,R,rfl,eu,ok,nd,⟨c,kk,fl,hdr,h0,h1⟩,q,hp,k1⟩:=h
 obtain ⟨rfl,hn,hR⟩:=hp
 have hAs:As=[]:=by
  have:=Qd q
  rw[Ab] at this
  exact Kf.mp this
 subst hAs
 have hws:ws=[]:=by
  cases ws with
  | nil=>rfl
  | cons _ _=>cases eu
 subst hws
 refine ⟨dr,c,kk,fl,rfl,hdr,h0,by omega,λr c' H' hd' s=>?_⟩
 exact k1 (.int r) (.int r) [] (n+1) H' (by omega) (hR r) (.int r) Df (λ_ z=>(nomatch z)) ⟨c',kk+1,fl,hd',by omega,by omega⟩ s
theorem iS{ns:List Int}(r:Hv 60 ns):ns.length<=60:=Bv (NdS.len_leI (r.1.imp λ{x y} h=>Int.ne_of_lt h) λe he=>xX (r.2 e he).1 (r.2 e he).2) (by decide)
theorem uZ{K:PySem.W.Frag}{H:Hp}{a:Addr}{ns:List Int}(h:H a=some (.tup (ns.map V.int)))(l:ns.length<=1000000):RdF K H (.ref a) (Bw ns) []:=.tup h (by rw[Ab]; exact cS l) (RdFs.ints ns)
theorem rX{K:PySem.W.Frag}{H:Hp}{n:Nat}{As:List Ent}{us:List V}{d1:Ag}(eu:As.map Ent.v=us.map some)(ok:∀e∈As,Ja K H n e)(q:datas (As.map Ent.x)=some [d1]):∃v1 F1,us=[v1]/\RdF K H v1 d1 F1:=by
 have r:=Sz eu q ok
 generalize As.flatMap Ent.F=G0 at r
 cases r with
 | cons a t =>
  cases t
  exact ⟨_,_,rfl,a⟩
end DL
namespace Nd
open PySem PySem.Spec PyProof.Rows L2
end Nd
namespace DL
open PySem PySem.Spec PyProof.Rows L2 Nd
def W7(n:Nat)(gs:rL):DG:=λx δ P=>match x with
 | .dat m (.list ds)=>ds.length=n/\gs (ds.map λd=>.dat (Mw m) d) δ P
 | _=>False
def L7(ds:List Ag)(z:DV)(δ:DS)(D:DEnds):Prop:=match z with
 | .dat _ e=>npk δ.sl=true/\imm e=true/\ds.length<1000000/\D.nx δ
 | _=>False
def W9(de:DE)(y:DV)(δ:DS)(D:DEnds):Prop:=match y with
 | .dat .ow (.list ds)=>de δ λz δ2=>L7 ds z δ2 D
 | _=>False
def rA(i:Nat):DE:=λδ P=>match δ.sl[i]? with
 | some (.dat .ow d)=>P (.dat .ow d) ⟨δ.sl.set i (.dat .pk d),δ.n⟩
 | _=>False
theorem bO{X:Cx}{e:Expr}{i:Nat}(h:PE X e (Qt i)):Gd X e (rA i):=by
 refine PE.imp h λσ H Q h=>?_
 obtain ⟨H0,Y,S,T,δ,P,rfl,hS,hA,hd,k⟩:=h
 unfold rA at hd
 split at hd
 ·rename_i d e1
  obtain ⟨ent,e2,e3⟩:=Mk hS e1
  have hm:ent∈S:=Az e2
  obtain ⟨u,x,F⟩:=ent
  subst e3
  obtain ⟨v,hv,hv2⟩:=hA.ok _ (Ao _ hm)
  have hv':u=some v:=hv
  subst hv'
  refine ⟨v,by rw[Vp e2],k _ _ v F (S.set i ⟨some v,.dat .pk d,F⟩) H ?_ ?_ ?_ hd⟩
  ·unfold vs
   rw[Ha]
   apply Kn
   intro j
   rw[Km]
   split
   ·rename_i hij
    subst hij
    rw[Bf,e2]
    split
    ·rfl
    ·rename_i hj
     rw[Ab] at hj
     exact absurd (Aq.mp e2).1 hj
   ·rfl
  ·unfold Sl at hS ⊢
   rw[Ha,hS]
  ·have hp:At X.K H0 Y δ.n (S++⟨some v,.dat .pk d,F⟩::T) H:=hA.look hm rfl
   have p1:(S++⟨some v,.dat .pk d,F⟩::T).Perm ((S.set i ⟨some v,.dat .pk d,F⟩)++⟨some v,.dat .ow d,F⟩::T):=by
    refine Lb.trans ?_
    rw[<- Fm]
    exact ((Tc (y:=(⟨some v,.dat .pk d,F⟩ : Ent)) e2).append_right T).trans (by rw[Fm]; exact List.perm_middle.symm)
   exact hp.perm p1
 ·exact hd.elim
def callWT(df:DF)(xs:List DV)(δ:DS)(P:DV->DS->Prop):Prop:=match xs with
 | .drw::ys=>match datas ys with
  | some ds=>df ds δ.n λd n'=>P (.dat .ow d) ⟨δ.sl,n'⟩
  | none=>False
 | _=>False
def lM(df:DF)(da:DA):DE:=λδ P=>da δ λxs δ1=>callWT df xs δ1 P
section
variable{X:Cx}{CX:gZ}{k:Nat}{f:Addr}{fd:Cg}{ps:List Str}{df:DF}{E:XK}{x:Str}{p pos:Pos}{e:Expr}{es:List Expr}{da:DA}
theorem nQ(F:FnOk X.prog X.w X.K X.mg X.base CX k f fd ps (P7 X.K df))(hr:Room k X.A)(hg:Gl X x)(hm:X.mg x=some (.ref f))(hk:PySem.W.keepIn X.K (.ref f)=true)(hb:Binds X.K fd ps [])(hx:Om CX X E)(ha:oT X (e::es) da)(hdb:(x == ("__debug__" : Str))=false:=by decide)(he:Bs (e::es) X.env=(false,eval e X.env)::Bs es X.env:=by rfl)(hpl:(Io pos (Bs es X.env)).any (·.1)=false:=by rfl):Gd X (.Call (.Name x p) (e::es) [] pos) (lM df da):=by
 refine PE.imp (To F hr hg hm hk hb .nil hx ha hdb he hpl) λσ H Q h=>?_
 obtain ⟨H0,Y,S,T,δ,P,rfl,hS,hA,hd,kk⟩:=h
 refine ⟨H0,Y,S,T,δ,_,rfl,hS,hA,hd,λxs δ' As us S' H' e1 e2 ex eu hA' p=>?_⟩
 subst ex
 unfold callWT at p
 split at p
 ·rename_i ys ey
  match As,us,ey,eu,hA' with
  | ent::As,w::us,ey,eu,hA' =>
   obtain ⟨u,z,F⟩:=ent
   have ez:z=.drw:=(Fz ey).1
   have eys:As.map Ent.x=ys:=(Fz ey).2
   subst ez eys
   have eu1:u=some w:=(Fz eu).1
   have eu2:As.map Ent.v=us.map some:=(Fz eu).2
   have hE:(⟨u,.drw,F⟩ : Ent)∈S'++((⟨u,.drw,F⟩::As)++T):=Ad _ (Ao _ Aa)
   obtain ⟨dr,c0,k0,f0,hv0,hF0,hd0,hk0,hk1⟩:=hA'.ok _ hE
   have ew:some w=some (V.ref dr):=eu1.symm.trans hv0
   cases ew
   have hF':F=[dr]:=hF0
   subst hF'
   have hM:=hA'.perm (dX (S:=S') (T:=As++T))
   cases q:datas (As.map Ent.x) with
   | none=>rw[q] at p; exact p.elim
   | some ds =>
    rw[q] at p
    rw[Ec]
    refine ⟨dr,us,As,δ'.n,ds,_,rfl,eu2,λe he=>hA'.ok e (Ad _ (Ao _ (Ae _ he))),λe he=>?_,⟨c0,k0,f0,hd0,hk0,hk1⟩,q,p,λv d F n' H'' hn r rd nd fr hdr s=>?_⟩
    ·exact ((Bn.mp hM.sep).1 e (Ad _ (Ao _ he))).1 (.inr rfl) dr Aa
    ·have hA2:=hM.drawn Aa rfl hv0 s hdr hn
     have hA3:At X.K H0 Y n' (S'++T) H'':=hA2.sub (((El S').append (Cu As T)).cons _)
     exact kk _ ⟨δ'.sl,n'⟩ v F S' H'' e1 e2 ((hA3.pushF rd nd (λa ha=>hA'.dropL.free (fr a ha)) (λa ha=>hA'.new0 (fr a ha))).tomid) r
 ·exact p.elim
end
end DL
namespace Nd
open PySem PySem.Spec PyProof.Rows
end Nd
namespace L2
open PySem PySem.Spec PyProof.Rows
structure M1(X:Cx)(o:Expr)(m:Str)(apos:Pos)(e:Expr)(cpos:Pos):Prop where
 base:Yx o m X.env (eval o X.env)=eval o X.env
 few:((Io cpos (Bs [e] X.env)).all (λx=>!x.1) && (backToKw cpos (keywordEach [] X.env)).all (λx=>x.1.isSome)
  && decide (([e]:List Expr).length+([]:List Wh).length+(if ([]:List Wh).isEmpty then 0 else 1)<30))=true
 line:(apos.endLine == cpos.line)=true
 trees:Io cpos (Bs [e] X.env)=[(false,eval e X.env)]
structure M2(X:Cx)(o:Expr)(m:Str)(apos:Pos)(e f:Expr)(cpos:Pos):Prop where
 base:Yx o m X.env (eval o X.env)=eval o X.env
 few:((Io cpos (Bs [e,f] X.env)).all (λx=>!x.1) && (backToKw cpos (keywordEach [] X.env)).all (λx=>x.1.isSome)
  && decide (([e,f]:List Expr).length+([]:List Wh).length+(if ([]:List Wh).isEmpty then 0 else 1)<30))=true
 line:(apos.endLine == cpos.line)=true
 trees:Io cpos (Bs [e,f] X.env)=[(false,eval e X.env),(false,eval f X.env)]
end L2
namespace Nd
open PySem PySem.Spec PyProof.Rows L2
end Nd
namespace DL
open PySem PySem.Spec PyProof.Rows L2 Nd
def Q2(ks:List (List Int×Ag))(w:List Int):Option Ag:=(ks.find? λp=>decide (p.1=w)).map (·.2)
def S7(ks:List (List Int×Ag))(w:List Int)(d:Ag):List (List Int×Ag) :=
 if (ks.any λp=>decide (p.1=w))=true then ks.map (λp=>if p.1=w then (p.1,d) else p) else ks++[(w,d)]
theorem kG(w:List Int):(sM w).map kV=w.map V.int:=by
 unfold sM
 rw[Ci]
 rfl
def Q9:D2:=λx y P=>match x,y with
 | .dat _ (.dict X),.dat _ k=>∃ks w d,X=B8 ks/\k=Bw w/\Q2 ks w=some d/\P (.dat .ow d)
 | _,_=>False
section
variable{K:PySem.W.Frag}
theorem uU{H:Hp}{v:V}{w:List Int}{F:List Addr}(r:RdF K H v (Bw w) F):∃b,v=.ref b/\H b=some (.tup ((sM w).map kV)):=by
 obtain ⟨b,xs,rfl,hb,rb,_⟩:=r.tup_inv
 obtain ⟨rfl,_⟩:=rb.ints_inv
 exact ⟨b,rfl,by rw[kG]; exact hb⟩
end
def X4(i:Nat)(y z:DV)(δ:DS)(D:DEnds):Prop:=match δ.sl[i]?,y,z with
 | some (.dat .ow (.dict X)),.dat _ e,.dat _ k=>npk δ.sl=true/\imm e=true/\∃ks w,X=B8 ks/\k=Bw w/\ks.length<1000000/\D.nx ⟨δ.sl.set i (.dat .ow (.dict (B8 (S7 ks w e)))),δ.n⟩
 | _,_,_=>False
def Y8(i:Nat)(z:DV)(δ:DS)(D:DEnds):Prop:=match δ.sl[i]?,z with
 | some (.dat m (.list ds)),.dat _ (.int k)=>own1 m=true/\npk δ.sl=true/\Dv ds=true/\0<=k/\k<ds.length/\k<=1000000/\D.nx ⟨δ.sl.set i (.dat m (.list (ds.eraseIdx k.toNat))),δ.n⟩
 | _,_=>False
def isLst:Option DV->Bool
 | some (.dat _ (.list _))=>true
 | _=>false
def zD:V->Int
 | .int i=>i
 | _=>0
def wD(H:Hp)(r:Addr):List Int:=match H r with
 | some (.tup xs)=>xs.map zD
 | _=>[]
theorem j7{H:Hp}{r:Addr}{w:List Int}(h:H r=some (.tup (w.map V.int))):wD H r=w:=by
 unfold wD
 rw[h]
 show (w.map V.int).map zD=w
 rw[Ci]
 exact List.map_id' w
section
variable{K:PySem.W.Frag}{H:Hp}
theorem Xo:∀{ws:List (List Int)} {xs:List V} {ds:List Ag} {G:List Addr},RdFs K H xs ds G->ds=ws.map Bw->∃rs:List Addr,xs=rs.map V.ref/\ws=rs.map (wD H)/\G=[]/\(∀r∈rs,H r=some (.tup ((wD H r).map V.int)))/\∀r∈rs,RdF K H (.ref r) (Bw (wD H r)) []
 | [],_,_,_,h,e=>by
  subst e
  cases h
  exact ⟨[],rfl,rfl,rfl,(λ_ z=>nomatch z),(λ_ z=>nomatch z)⟩
 | w::ws,_,_,_,h,e=>by
  cases h with
  | nil=>cases e
  | cons a t =>
   obtain ⟨e1,e2⟩:=Fz e
   obtain ⟨rs,rfl,rfl,rfl,h1,h2⟩:=Xo t e2
   subst e1
   obtain ⟨r,rfl,hr⟩:=uU a
   rw[kG] at hr
   have ew:=j7 hr
   obtain rfl:=a.imm (show imm (Bw w)=true from Pp w)
   refine ⟨r::rs,rfl,by rw[Bc,ew],rfl,λx hx=>?_,λx hx=>?_⟩
   ·rcases An.mp hx with rfl | hx
    ·rw[ew]; exact hr
    ·exact h1 x hx
   ·rcases An.mp hx with rfl | hx
    ·rw[ew]; exact a
    ·exact h2 x hx
theorem Xm:∀{rs:List Addr},(∀r∈rs,RdF K H (.ref r) (Bw (wD H r)) [])->RdFs K H (rs.map V.ref) ((rs.map (wD H)).map Bw) []
 | [],_=>.nil
 | r::rs,h=>RdFs.cons (F:=[]) (G:=[]) (h r (Aa ..)) (Xm λx hx=>h x (Ae _ hx))
theorem Rp:∀L:List (List Int),Dv (L.map Bw)=true
 | []=>rfl
 | w::L=>by
  show (imm (Bw w) && Dv (L.map Bw))=true
  rw[Rp L,show imm (Bw w)=true from Pp w]; rfl
def aZ:DC:=λxs P=>match xs with
 | [.dat _ (.list ds)]=>∃ws:List (List Int),ds=ws.map Bw/\∀L:List (List Int),L.Perm ws->L.Pairwise (λx y=>HT.lexLt y x=false)->P (.dat .ow (.list (L.map Bw)))
 | _=>False
theorem pA:Xn K (Ts.rSortI K) aZ:=by
 intro H0 X n S T As us H Q P eu hA hd k
 unfold aZ at hd
 split at hd
 ·rename_i ex
  obtain ⟨v,F,rfl,hA⟩:=Mh eu hA ex
  obtain ⟨ws,rfl,h1⟩:=hd
  obtain ⟨a,xs,G,rfl,ha,ra,rfl,hz⟩:=(hA.told mem_mid).list_inv
  obtain ⟨rs,rfl,rfl,rfl,c1,c2⟩:=Xo ra rfl
  refine ⟨a,rs,wD H,rfl,Ox.of ha,λr hr=>Ri.of (c1 r hr),λq rs' nq pe pw=>?_⟩
  refine k _ _ _ _ (hA.drop.newI (Xm λr hr=>c2 r (pe.mem_iff.mp hr)) (Rp _) (by rw[Ab,Ab,pe.length_eq]; simpa using hz) nq .ow) (h1 _ (pe.map _) (Wd.mpr pw))
 ·exact hd.elim
end
end DL
namespace Nd
open PySem PySem.Spec PyProof.Rows L2
end Nd
namespace DL
open PySem PySem.Spec PyProof.Rows L2 Nd
end DL
namespace Nd
open PySem PySem.Spec PySem.Calls PyProof.Rows PyProof.V L2
end Nd
namespace DL
open PySem PySem.Spec PyProof.Rows L2 Nd
abbrev PX:=List Ag->(Ag->Prop)->(Addr->Prop)->Prop
end DL
namespace Nd
open PySem PySem.Spec PyProof.Rows L2
end Nd
namespace DL
open PySem PySem.Spec PyProof.Rows L2 Nd
end DL
namespace Nd
open PySem PySem.Spec PyProof.Rows L2
end Nd
namespace Nd
open PySem PySem.Spec
end Nd
namespace Nd
open PySem PySem.Spec PyProof.Rows L2
end Nd
namespace DL
open PySem PySem.Spec PyProof.Rows L2 Nd
end DL
namespace Nd
open PySem PySem.Spec PyProof.Rows L2
end Nd
namespace DL
open PySem PySem.Spec PyProof.Rows L2 Nd
end DL
namespace Nd
open PySem PySem.Spec PyProof.Rows L2
end Nd
namespace DL
open PySem PySem.Spec PyProof.Rows L2 Nd
theorem At.spoil{K:PySem.W.Frag}{H0 H H':Hp}{X:Addr->Prop}{n:Nat}{E:List Ent}{v:Option V}{d:Ag}{F:List Addr}(h:At K H0 X n (⟨v,.dat .ow d,F⟩::E) H)(np:∀f∈E,Oy f.x=false)(hs:∀b o,H b=some o->(b∉F\/Q0 o)->H' b=some o):At K H0 X n E H':=by
 have hp:=Bn.mp h.sep
 have n0:∀a∈F,H0 a=none:=λa ha=>by
  rcases h.new _ Aa a ha with z | z
  ·exact z
  ·cases z.2
 refine At.re (h.sub (Dx _ _)) (λf hf=>(h.ok f (Ae _ hf)).kp (λb o e z=>hs b o e (z.imp (λq r=>(hp.1 f hf).1 (.inl (np f hf)) b r q) id)) (Ah _)) (λb o nx q=>hs b o (h.same b o nx q) (.inl λz=>?_)) (λb o q=>?_) λb hb=>?_
 ·rw[n0 b z] at q; cases q
 ·obtain ⟨o',e⟩:=h.dom b o q
  exact ⟨o',hs b o' e (.inl λz=>by rw[n0 b z] at q; cases q)⟩
 ·obtain ⟨z,c,k,f,h1,h2⟩:=h.xd b hb
  exact ⟨z,c,k,f,hs _ _ h1 (.inl λw=>z (n0 b w)),h2⟩
end DL
namespace Ts
open PySem PyProof.Rows L2
end Ts
namespace DL
open PySem PySem.Spec PyProof.Rows L2 Nd Ts
end DL
namespace DL
open PySem PySem.Spec PyProof.Rows L2 Nd
end DL
namespace Nd
open PySem PySem.Spec PyProof.Rows L2
end Nd
namespace DL
open PySem PySem.Spec PyProof.Rows L2 Nd
end DL
namespace Nd
open PySem PySem.Spec PySem.Calls PyProof.Rows PyProof.V L2 Ts
end Nd
namespace DL
open PySem PySem.Spec PyProof.Rows L2 Nd Ts
theorem tab_no{K:PySem.W.Frag}{x:Str}(nm:PySem.W.nsIn K Cj x=some none):PySem.W.tabIn K x=none:=by
 unfold PySem.W.tabIn
 rw[nm]
end DL
namespace HT
open PySem PyProof.Rows
end HT
namespace Nd
open PySem PySem.Spec PySem.Calls PyProof.Rows PyProof.V L2 Ts
end Nd
namespace DL
open PySem PySem.Spec PyProof.Rows L2 Nd Ts
end DL
namespace DL
open PySem PySem.Spec PyProof.Rows L2 Nd
end DL
namespace DL
open PySem L2 Nd
end DL
namespace Nd
open PySem PySem.Spec PyProof.Rows L2
end Nd
namespace DL
open PySem PySem.Spec PyProof.Rows L2 Nd
theorem b0{K:PySem.W.Frag}{H0 H:Hp}{X:Addr->Prop}{S T:List Ent}{δ:DS}{i:Nat}(hS:Sl S δ)(hA:At K H0 X δ.n (S++T) H)(h:isLst δ.sl[i]? = true):∃a xs,(vs S)[i]? = some (some (.ref a))/\H a=some (.lst xs):=by
 cases q:δ.sl[i]? with
 | none=>rw[q] at h; cases h
 | some x =>
  rw[q] at h
  obtain ⟨ent,e2,e3⟩:=Mk hS q
  obtain ⟨u,y,F⟩:=ent
  have e3':y=x:=e3
  subst e3'
  have hm:(⟨u,y,F⟩ : Ent)∈S:=Az e2
  match y,h with
  | .dat m (.list ds),_ =>
   obtain ⟨v,hv,rd,_⟩:=hA.ok _ (Ao _ hm)
   obtain ⟨a,xs,G,rfl,ha,_⟩:=rd.list_inv
   exact ⟨a,xs,by rw[Vp e2]; exact congrArg some hv,ha⟩
end DL
namespace NdS
open PySem
theorem bR{m:Nat}:∀{f i t:Nat},t<f->it m t i∈C1 m f i
 | f+1,i,0,_=>Aa ..
 | f+1,i,t+1,h=>Ae _ (bR (Nat.lt_of_succ_lt_succ h))
theorem zO{m:Nat}(i:Nat):st (2 * m) i % m=st m (i % m):=by
 unfold st
 rw[Nat.mod_mod_of_dvd _ ⟨2,by omega⟩,Ot,Nat.mul_mod]
 conv=>rhs; rw[Ot,Nat.mul_mod,Nat.mod_mod]
theorem qX{m:Nat}:∀(t i:Nat),it (2 * m) t i % m=it m t (i % m)
 | 0,i=>rfl
 | t+1,i=>by
  show it (2 * m) t (st (2 * m) i) % m=it m t (st m (i % m))
  rw[qX t,zO]
theorem yI{m i:Nat}(h:0<m):st m i<m:=Ng _ h
theorem yJ{m:Nat}(h:0<m):∀{t i:Nat},i<m->it m t i<m
 | 0,_,hi=>hi
 | t+1,i,hi=>yJ h (t:=t) (yI h)
theorem wU{m i:Nat}:st (2 * m) ((i+m) % (2 * m))=(st (2 * m) i+m) % (2 * m):=by
 unfold st
 have e:(i+m) * 5+1=i * 5+1+m+2 * (2 * m):=by omega
 rw[Ot,Nat.mul_mod,Nat.mod_mod,<- Nat.mul_mod,<- Ot,e,Nat.add_mul_mod_self_right,Ot]
 conv=>rhs; rw[Ot,Nat.mod_mod]
theorem kP{m:Nat}:∀(t i:Nat),i<2 * m->it (2 * m) t ((i+m) % (2 * m))=(it (2 * m) t i+m) % (2 * m)
 | 0,i,_=>rfl
 | t+1,i,h=>by
  show it (2 * m) t (st (2 * m) ((i+m) % (2 * m)))=_
  rw[wU,kP t _ (yI (by omega))]
  rfl
theorem Ly{m:Nat}(g:Ii m)(h:it (2 * m) m 0=m):Ii (2 * m):=by
 obtain ⟨h0,h1,h2⟩:=g
 have half:∀t,it (2 * m) (m+t) 0=(it (2 * m) t 0+m) % (2 * m):=λt=>by
  rw[Yg,h]
  have:=kP (m:=m) t 0 (by omega)
  rw[Hf,Gn (show m<2 * m by omega)] at this
  exact this
 refine ⟨by omega,?_,λe he=>?_⟩
 ·have:=half m
  rw[h,show m+m=2 * m by omega,Nat.mod_self] at this
  exact this
 ·obtain ⟨t,ht,et⟩:=Wl (h2 (e % m) (Ng _ h0))
  have k:=qX (m:=m) t 0
  rw[Nat.zero_mod,et] at k
  have lt:it (2 * m) t 0<2 * m:=yJ (by omega) (by omega)
  by_cases c:it (2 * m) t 0=e
  ·rw[<- c]; exact bR (by omega)
  ·have hh:=half t
   have : (it (2 * m) t 0+m) % (2 * m)=e:=by
    generalize it (2 * m) t 0=x at k lt c
    have up:∀{y},m<=y->y<2 * m->y % m=y - m:=λ{y} h1 h2=>by rw[Nat.mod_eq_sub_mod h1,Gn (by omega)]
    by_cases c1:x<m <;> by_cases c2:e<m
    ·rw[Gn c1,Gn c2] at k; omega
    ·rw[Gn c1,up (by omega) he] at k
     rw[Gn (by omega)]; omega
    ·rw[up (by omega) lt,Gn c2] at k
     rw[show x+m=e+2 * m by omega,Nat.add_mod_right,Gn he]
    ·rw[up (by omega) lt,up (by omega) he] at k; omega
   rw[<- this,<- hh]
   exact bR (by omega)
theorem lO:Ii 512:=Ly mB (by decide +kernel)
theorem dQ:Ii 1024:=Ly lO (by decide +kernel)
theorem eE:Ii 2048:=Ly dQ (by decide +kernel)
theorem dG:Ii 4096:=Ly eE (by decide +kernel)
theorem pT:Ii 8192:=Ly dG (by decide +kernel)
theorem uC:∀{i:Nat},i<=10->Ii (2 ^ (i+3))
 | 0,_=>yL | 1,_=>x5 | 2,_=>q9 | 3,_=>u3 | 4,_=>wY | 5,_=>mB
 | 6,_=>lO | 7,_=>dQ | 8,_=>eE | 9,_=>dG | 10,_=>pT
 | i+11,h=>absurd h (by omega)
theorem fL{n:Nat}(hn:n<8192):∀(j i f:Nat),i+j=10->∃k,i<=k/\k<=10/\Jh n (f+j+1) (2 ^ (i+3))=2 ^ (k+3)/\n<2 ^ (k+3)
 | 0,i,f,h=>by
  have : i=10:=by omega
  subst this
  refine ⟨10,Ah _,Ah _,?_,hn⟩
  unfold Jh
  rw[if_neg (by show ¬ 8192<=n; omega)]
 | j+1,i,f,h=>by
  by_cases c:2 ^ (i+3)<=n
  ·obtain ⟨k,k1,k2,k3,k4⟩:=fL hn j (i+1) f (by omega)
   refine ⟨k,by omega,k2,?_,k4⟩
   rw[<- k3,show f+(j+1)+1=(f+j+1)+1 by omega]
   show (if 2 ^ (i+3)<=n then Jh n (f+j+1) (2 ^ (i+3) * 2) else _)=_
   rw[if_pos c,<- Ms]
  ·refine ⟨i,Ah _,by omega,?_,Nat.lt_of_not_le c⟩
   show (if 2 ^ (i+3)<=n then Jh n (f+(j+1)) (2 ^ (i+3) * 2) else _)=_
   rw[if_neg c]
theorem pG{n:Nat}(hn:n<8192):∃m,Sb n=m+1/\Ii (m+1)/\n<=m/\7<=m/\m<8192/\m % 2=1:=by
 obtain ⟨k,k1,k2,k3,k4⟩:=fL hn 10 0 53 rfl
 have k3':Sb n=2 ^ (k+3):=k3
 have e:2 ^ (k+3)=2 ^ k * 8:=Nat.pow_add 2 k 3
 have p:0<2 ^ k:=Nat.pow_pos (by decide)
 have up:2 ^ (k+3)<=2 ^ 13:=Lp (by decide) (by omega)
 have up':2 ^ (k+3)<=8192:=up
 refine ⟨2 ^ (k+3) - 1,by omega,?_,by omega,by omega,by omega,by omega⟩
 rw[show 2 ^ (k+3) - 1+1=2 ^ (k+3) by omega]
 exact uC k2
theorem mX{t:Cq}{es:Array (Int×Value)}{wanted:Nat}(hp:t.plain=true)(hw:wanted<8192)(h2:es.size * 2<=wanted):∃(t':Cq) (order:Array Nat),t.relaid (es.map (·.1)) wanted=some (t',order)/\order.toList.Perm (Bp es.size)/\Tab es.size t'/\t'.mask % 2=1/\Sb wanted<=8192:=by
 obtain ⟨m,e1,g,hm,m7,m8,mo⟩:=pG hw
 have sz:(es.map (·.1)).size=es.size:=Mu ..
 obtain ⟨t',order,q1,q2,q3,q4⟩:=uD (mask:=m) (finger:=t.finger) (moves:=t.movedTo m) (led:=t.led) g (es.map (·.1)) (by rw[sz]; omega)
 rw[sz] at q2 q3
 refine ⟨t',order,?_,q2,q3,?_,by omega⟩
 ·unfold SetTable.relaid
  rw[e1,Nat.add_sub_cancel,hp]
  exact q1
 ·rw[(Yi q1).2.1]; exact mo
def tI(t:Cq):Nat->Fl->Fl
 | 0,p=>p
 | k+1,p=>tI t k (t.advance p)
structure WayOk(t:Cq)(p:Fl):Prop where
 more:p.more<=9
 top:p.j+p.more<=t.mask
 dum:p.dummy=none
theorem WayOk.next{t:Cq}{p:Fl}(x:WayOk t p):WayOk t (t.advance p):=by
 obtain ⟨h1,h2,h3⟩:=x
 unfold Ve
 split
 ·exact ⟨by dsimp only; omega,by dsimp only; omega,h3⟩
 ·rw[jI]
  have hi:(p.i * 5+1+p.perturb / 32) % (t.mask+1)<=t.mask:=aV.mp (Ng _ (Wy _))
  have a1:=aJ hi
  have a2:=Vc t.mask ((p.i * 5+1+p.perturb / 32) % (t.mask+1))
  exact ⟨Uw _ _,by dsimp only; omega,h3⟩
theorem Us{t:Cq}(h:Int):WayOk t (t.probeStart h):=by
 have hi:Dd h % (t.mask+1)<=t.mask:=aV.mp (Ng _ (Wy _))
 have a1:=aJ hi
 have a2:=Vc t.mask (Dd h % (t.mask+1))
 exact ⟨Uw _ _,by show Dd h % (t.mask+1)+(Hr t.mask (Dd h % (t.mask+1)) - Dd h % (t.mask+1))<=t.mask; omega,rfl⟩
theorem bW{t:Cq}:∀(k:Nat) (p:Fl),p.more=k->∃q:Fl,tI t (k+1) p=q/\q.j=((p.i * 5+1+p.perturb / 32) % (t.mask+1))/\q.i=q.j/\q.perturb=p.perturb / 32/\q.more<=9
 | 0,p,h=>by
  refine ⟨_,rfl,?_⟩
  show (t.advance p).j=_/\(t.advance p).i=(t.advance p).j/\(t.advance p).perturb=_/\(t.advance p).more<=9
  unfold Ve
  rw[if_neg (by omega),jI]
  exact ⟨rfl,rfl,rfl,Uw _ _⟩
 | k+1,p,h=>by
  have e:t.advance p={ p with j:=p.j+1,more:=p.more - 1 }:=by
   unfold Ve
   rw[if_pos (by omega)]
  obtain ⟨q,q1,q2,q3,q4,q5⟩:=bW k (t.advance p) (by rw[e]; show p.more - 1=k; omega)
  rw[e] at q2 q4
  exact ⟨q,q1,q2,q3,q4,q5⟩
theorem jG{t:Cq}:∀(a b:Nat) (p:Fl),tI t (a+b) p=tI t b (tI t a p)
 | 0,b,p=>by rw[Hf]; rfl
 | a+1,b,p=>by rw[Vv]; exact jG a b _
theorem Zy{t:Cq}:∀(u:Nat) (p:Fl),p.more<=9->∃k,k<=p.more+1+10 * u/\(tI t k p).j=(lp (t.mask+1) (u+1) p.i p.perturb).1
 | 0,p,h=>by
  obtain ⟨q,q1,q2,q3,q4,q5⟩:=bW (t:=t) p.more p rfl
  exact ⟨p.more+1,by omega,by rw[q1]; exact q2⟩
 | u+1,p,h=>by
  obtain ⟨q,q1,q2,q3,q4,q5⟩:=bW (t:=t) p.more p rfl
  obtain ⟨k,k1,k2⟩:=Zy u q q5
  refine ⟨p.more+1+k,by omega,?_⟩
  rw[jG,q1,k2,q3,q2,q4]
  rfl
theorem nY{t:Cq}{n:Nat}(x:Tab n t)(h:Int):∃k,k<10 * Fk t.mask/\t.slot (tI t k (t.probeStart h)).j=.empty:=by
 have hm:=Wq x
 obtain ⟨e,he,hn⟩:=wH (m:=t.mask+1) x.rise (by rw[Aj,x.size]; omega)
 obtain ⟨u,hu,eu⟩:=eQ x.good (i:=Dd h % (t.mask+1)) (p:=Dd h) (e:=e) (Ng _ (Wy _)) (jO h) he
 have tn:10 * Fk t.mask=10 * t.mask+150:=by unfold Fk; omega
 cases u with
 | zero=>exact ⟨0,by omega,(Rg x.toTabOk).mpr (by rw[show (tI t 0 (t.probeStart h)).j=e from eu]; exact hn)⟩
 | succ u =>
  obtain ⟨k,k1,k2⟩:=Zy (t:=t) u (t.probeStart h) (Us h).more
  have:=(Us (t:=t) h).more
  exact ⟨k,by omega,(Rg x.toTabOk).mpr (by rw[k2,show (lp (t.mask+1) (u+1) (t.probeStart h).i (t.probeStart h).perturb).1=e from eu]; exact hn)⟩
theorem fS{t:Cq}{n:Nat}(x:TabOk n t){f:Nat->Int}{h:Int}:∀(fuel k:Nat) (p:Fl),WayOk t p->k<fuel->t.slot (tI t k p).j=.empty->(∃j,Py t f h fuel p=some (.empty j none)/\t.slot j=.empty/\j<=t.mask)\/(∃j i q k',Py t f h fuel p=some (.candidate j i q)/\t.slot j=.live i/\f i=h/\k'<k/\WayOk t q/\t.slot (tI t k' q).j=.empty)
 | 0,k,p,_,h,_=>absurd h (Gx _)
 | fuel+1,k,p,w,hk,he=>by
  unfold Py
  split
  ·rename_i hs
   exact .inl ⟨p.j,by rw[w.dum],hs,by have:=w.top; omega⟩
  ·rename_i hs
   exact absurd hs (Yc x)
  ·rename_i i hs
   cases k with
   | zero=>exact absurd (show t.slot p.j=.empty from he) (by rw[hs]; intro z; cases z)
   | succ k =>
    by_cases c:(f i == h)=true
    ·rw[if_pos c]
     exact .inr ⟨p.j,i,_,k,rfl,hs,by simpa using c,Pg _,w.next,he⟩
    ·rw[if_neg c]
     rcases fS x fuel k _ w.next (by omega) he with q | ⟨j,i',q,k',a,b,c,d,e⟩
     ·exact .inl q
     ·exact .inr ⟨j,i',q,k',a,b,c,by omega,e⟩
theorem oG{t:Cq}{n j i:Nat}(x:TabOk n t)(h:t.slot j=.live i):i<n:=by
 unfold SetTable.slot at h
 dsimp only at h
 split at h
 ·rename_i c
  injection h with h
  subst h
  have c':t.place[Ct t.place j]? = some j:=by simpa using c
  have:=(Gp.mp c').1
  rw[<- x.size]
  exact this
 ·split at h <;> cases h
end NdS
namespace NdS
open PySem PyProof.Rows
def qB(prog:Bm)(w:World)(U:List (List Int))(h:Heap)(e:Int×Value):Prop:=∃(b:Addr) (ks:List Int),e=(Ds (Dt prog w) ks,.ref b)/\Iu (Dt prog w) h ks b/\ks∈U
structure SetT(prog:Bm)(w:World)(U:List (List Int))(h:Heap)(a:Addr)(es:Array (Int×Value))(ep:Nat)(t:Cq):Prop where
 obj:h.get? a=some (Hw es ep t)
 ent:∀e∈es.toList,qB prog w U h e
 tab:Tab es.size t
 odd:t.mask % 2=1
 top:t.mask<8192
 few:es.size<=1100
def Kept(h h':Heap):Prop:=∀b o,o.cls=.type "set" \/ o.cls=.type "tuple" -> h.get? b=some o->h'.get? b=some o
def Tf(h h':Heap):Prop:=∀b o,o.cls=.type "tuple" -> h.get? b=some o->h'.get? b=some o
theorem Kept.t{h h':Heap}(k:Kept h h'):Tf h h':=λb o c e=>k b o (.inr c) e
theorem qB.keep{prog:Bm}{w:World}{U V:List (List Int)}{h h':Heap}{e:Int×Value}(x:qB prog w U h e)(k:Tf h h')(s:∀y∈U,y∈V):qB prog w V h' e:=by
 obtain ⟨b,ks,e,⟨o,items,n,ho,hc,hd,hi⟩,hm⟩:=x
 exact ⟨b,ks,e,⟨o,items,n,k b o hc ho,hc,hd,hi⟩,s _ hm⟩
theorem lA{prog:Bm}{w:World}{h h':Heap}{ks:List Int}{b:Addr}(x:Iu (Dt prog w) h ks b)(k:Tf h h'):Iu (Dt prog w) h' ks b:=by
 obtain ⟨o,items,n,ho,hc,hd,hi⟩:=x
 exact ⟨o,items,n,k b o hc ho,hc,hd,hi⟩
theorem SetT.keep{prog:Bm}{w:World}{U:List (List Int)}{h h':Heap}{a:Addr}{es:Array (Int×Value)}{ep:Nat}{t:Cq}(S:SetT prog w U h a es ep t)(k:Kept h h'):SetT prog w U h' a es ep t :=
 ⟨k _ _ (.inl rfl) S.obj,λe he=>(S.ent e he).keep k.t λ_ z=>z,S.tab,S.odd,S.top,S.few⟩
theorem Yp{h h':Heap}{a:Addr}{o:Obj}(ho:h.get? a=some o)(hc:o.cls≠.type "tuple")(sb:Ko a h h'):Tf h h':=λb o' c e=>by
 by_cases z:b=a
 ·subst z
  rw[ho] at e
  cases e
  exact absurd c hc
 ·exact (sb.2 b z).trans e
theorem sU{n:Nat}(h:n<=1200):n<=Av:=by rw[Kv]; omega
section
variable{prog:Bm}{w:World}{A:Cr}{E:Value->Ai->Prop}{s:Ai}{U:List (List Int)}
theorem Qh{a:Addr}{es:Array (Int×Value)}{ep:Nat}{t:Cq}{Q:(Array (Int×Value)×Nat×Cq)->Ai->Prop}(S:SetT prog w U s.heap a es ep t)(h:Q (es,ep,t) s):wpAny (model prog w) A (setState a) Q E s :=
 wpAny_setState_of S.obj rfl S.tab.fits h
theorem pN{ks:List Int}{a:Addr}{Q:Bool->Ai->Prop}(hk:Iu (Dt prog w) s.heap ks a)(h:Q true s):wpAny (model prog w) A (Vs 8 (.ref a)) Q E s:=by
 have hT:=hk.typeIs
 obtain ⟨o,items,n,ho,_,hd,hi⟩:=hk
 unfold Vs
 refine Ac (wpAny_specialOf hT F.slot_tuple_hash.lookup ?_)
 dsimp only
 refine Ac (wpAny_seqItems ho hd ?_)
 refine Ac ?_
 show wpAny _ _ (forIn items _ _) _ _ s
 rw[<- Array.forIn_toList]
 refine Rb _ (λEx r s'=>r.1=none/\s'=s/\∃l,ItemsAre (Dt prog w) l Ex) _ ?_ ?_ _ _ ⟨rfl,rfl,_,hi⟩
 ·(intro v Ex r s' q_; obtain ⟨hr,rfl,l,hall⟩ := q_)
  cases hall with
  | @cons k v' ks' vs' h1 h2 =>
   obtain ⟨tk,rfl⟩ : ∃tk,v=.int k tk:=by
    cases v <;> simp [Dt,Value.isInt] at h1
    rename_i z tk
    exact ⟨tk,by rw[h1]⟩
   refine Ac (m:=Vs 7 (.int k tk)) (wpAny_of_eq (a:=true) (show Vs 7 (.int k tk)=pure true by unfold Vs; rfl) ?_)
   simp only[Jx,Bd,if_false]
   exact Am ⟨rfl,rfl,_,h2⟩
 ·(rintro ⟨r1,r2⟩ s' q_; obtain ⟨hr,rfl,_⟩ := q_)
  simp only at hr
  subst hr
  exact Am h
theorem aK{ks:List Int}{a:Addr}{Q:Bool->Ai->Prop}(hk:Iu (Dt prog w) s.heap ks a)(h:Q false s):wpAny (model prog w) A (Le 8 (.ref a)) Q E s:=by
 have hT:=hk.typeIs
 obtain ⟨o,items,n,ho,_,hd,hi⟩:=hk
 unfold Le
 refine Ac (Nu hT ?_)
 dsimp only
 rw[if_pos (by decide)]
 refine Ac (Am ?_)
 simp only[Jx,Bd,if_false]
 refine Ac (wpAny_seqItems ho hd ?_)
 dsimp only
 refine Ac ?_
 show wpAny _ _ (forIn items _ _) _ _ s
 rw[<- Array.forIn_toList]
 refine Rb _ (λEx r s'=>r.1=none/\s'=s/\∃l,ItemsAre (Dt prog w) l Ex) _ ?_ ?_ _ _ ⟨rfl,rfl,_,hi⟩
 ·(intro v Ex r s' q_; obtain ⟨hr,rfl,l,hall⟩ := q_)
  cases hall with
  | @cons k v' ks' vs' h1 h2 =>
   obtain ⟨tk,rfl⟩ : ∃tk,v=.int k tk:=by
    cases v <;> simp [Dt,Value.isInt] at h1
    rename_i z tk
    exact ⟨tk,by rw[h1]⟩
   refine Ac (m:=Le 7 (.int k tk)) (wpAny_of_eq (a:=false) (show Le 7 (.int k tk)=pure false by unfold Le; rfl) ?_)
   simp only[Bd,if_false]
   exact Am ⟨rfl,rfl,_,h2⟩
 ·(rintro ⟨r1,r2⟩ s' q_; obtain ⟨hr,rfl,_⟩ := q_)
  simp only at hr
  subst hr
  exact Am h
theorem xH{x:Addr}{kx:List Int}{stored:List Value}{Q:Bool->Ai->Prop}(hx:Iu (Dt prog w) s.heap kx x)(hs:∀y∈stored,∃b ky,y=Ak b/\Iu (Dt prog w) s.heap ky b)(h:Q false s):wpAny (model prog w) A (searchCouldBeSeen (.ref x) stored) Q E s:=by
 unfold searchCouldBeSeen
 refine Ac ?_
 refine Rb _ (λEx r s'=>r.1=none/\s'=s/\∀y∈Ex,∃b ky,y=Ak b/\Iu (Dt prog w) s.heap ky b) _ ?_ ?_ _ _ ⟨rfl,rfl,hs⟩
 ·(intro v Ex r s' q_; obtain ⟨hr,rfl,hall⟩ := q_)
  obtain ⟨b,ky,rfl,hy⟩:=hall _ (Aa ..)
  have hall':=λy hy=>hall y (Ae _ hy)
  dsimp only
  split
  ·exact Am ⟨rfl,rfl,hall'⟩
  ·refine Ac (wpAny_eqIsQuiet_tuple hx ?_)
   simp only[Jx,Bd,if_false]
   refine Ac (wpAny_eqIsQuiet_tuple hy ?_)
   simp only[Jx,Bd,if_false]
   refine Ac (aK hx ?_)
   simp only[Bd,if_false]
   refine Ac (aK hy ?_)
   simp only[Bd,if_false]
   exact Am ⟨rfl,rfl,hall'⟩
 ·(rintro ⟨r1,r2⟩ s' q_; obtain ⟨hr,rfl,_⟩ := q_)
  simp only at hr
  subst hr
  exact Am h
theorem Zt{a x:Addr}{kx:List Int}{es:Array (Int×Value)}{ep:Nat}{t:Cq}{Q:SetFound->Ai->Prop}(S:SetT prog w U s.heap a es ep t)(hu:A.units<cLine)(hx:Iu (Dt prog w) s.heap kx x)(h1:kx∈U->Q (.there none) s)(h2:∀j,t.slot j=.empty->j<=t.mask->Q (.free j false) s):∀(fuel k:Nat) (stand:Option Fl),WayOk t (stand.getD (t.probeStart (Ds (Dt prog w) kx)))->k<fuel->k<10 * Fk t.mask->t.slot (tI t k (stand.getD (t.probeStart (Ds (Dt prog w) kx)))).j=.empty->wpAny (model prog w) A (Yu a (.ref x) (Ds (Dt prog w) kx) true fuel stand) Q E s
 | 0,k,_,_,h,_,_=>absurd h (Gx _)
 | fuel+1,k,stand,wo,hk,hk2,he=>by
  have gw:t.gaveWay=false:=by unfold SetTable.gaveWay; rw[S.odd]; rfl
  unfold Yu
  refine Ac (Qh S ?_)
  dsimp only
  rw[gw]
  simp only[Bd,if_false]
  rcases fS S.tab.toTabOk (f:=λi=>(es[i]?.map (·.1)).getD 0) (h:=Ds (Dt prog w) kx) (10 * Fk t.mask) k _ wo hk2 he with ⟨j,e,ej,jm⟩ | ⟨j,i,q,k',e,ej,ei,lt,wo',he'⟩
  ·have e':t.probe (λi=>(es[i]?.map (·.1)).getD 0) (Ds (Dt prog w) kx) (stand.getD (t.probeStart (Ds (Dt prog w) kx)))=some (.empty j none):=e
   rw (transparency:=.all) [e']
   exact Am (h2 j ej jm)
  ·have e':t.probe (λi=>(es[i]?.map (·.1)).getD 0) (Ds (Dt prog w) kx) (stand.getD (t.probeStart (Ds (Dt prog w) kx)))=some (.candidate j i q):=e
   rw (transparency:=.all) [e']
   dsimp only
   have hi:=oG S.tab.toTabOk ej
   have hei:es[i]? = some es[i]:=cW hi
   obtain ⟨b,ky,eb,hy,hm⟩:=S.ent es[i] (by simp)
   have Ex:wpAny (model prog w) A (do
     let some (_,y):=es[i]? | unsupported "internal:set-entry"
     let equal <- Px [y] (eqBool y (.ref x))
     let (es',_,t') <- setState a
     if true && equal then return .there none
     let some same:=t'.sameMemory t.moves t.mask | unsupported "set.changed-during-lookup:is-the-new-block-at-the-old-address"
     let still <- match (if same then t'.slot j else .empty) with
      | .live i'=>match es'[i']? with
       | some (_,y')=>do pure (if <- isSame y' y then some i' else none)
       | none=>pure none
      | _=>pure none
     match still with
     | none=>rule "set.search.anew"; Yu a (.ref x) (Ds (Dt prog w) kx) true fuel none
     | some i'=>if equal then return .there (some i') else Yu a (.ref x) (Ds (Dt prog w) kx) true fuel (some q)) Q E s:=by
    rw[hei,eb]
    dsimp only
    refine Ac (Ep (wpAny_eqBool_tuple hu hy hx ?_))
    refine Ac (Qh S ?_)
    dsimp only
    by_cases c:ky=kx
    ·rw[decide_eq_true c,if_pos (by decide)]
     exact Am (h1 (by rw[<- c]; exact hm))
    ·rw[decide_eq_false c,if_neg (by decide)]
     have sm:t.sameMemory t.moves t.mask=some true:=by unfold SetTable.sameMemory; rw[if_pos (by simp)]
     rw[sm]
     dsimp only
     rw[if_pos rfl,ej]
     dsimp only
     rw[hei,eb]
     dsimp only
     refine Ac (wpAny_isSame_ref_self (Ac (Am ?_)))
     rw[if_pos rfl]
     dsimp only
     rw[if_neg (by decide)]
     exact Zt S hu hx h1 h2 fuel k' (some q) wo' (by omega) (by omega) he'
   by_cases l:t.led=true
   ·rw[l]
    simp only[Jx,Bd,if_false]
    exact Ex
   ·rw[Bool.not_eq_true] at l
    rw[l]
    simp only[Bool.not_false,if_true]
    refine Ac (xH hx (λy hy=>?_) ?_)
    ·obtain ⟨e0,he0,rfl⟩:=Cp.mp hy
     obtain ⟨b',k'',rfl,h3,_⟩:=S.ent e0 (by
      have:=Array.mem_def.mp (Array.mem_filter.mp (Array.mem_def.mpr he0)).1
      exact this)
     exact ⟨b',k'',rfl,h3⟩
    ·simp only[Bd,if_false]
     exact Ex
end
section
variable{prog:Bm}{w:World}{A:Cr}{E:Value->Ai->Prop}{s:Ai}{U:List (List Int)}
theorem U6{t:Cq}{es:Array (Int×Value)}(x:Tab es.size t)(e:Int×Value){j:Nat}(h2:j∉t.place.toList)(h3:j<=t.mask):∃t1 p,t.put j=(t1,p)/\(Dj es p e).toList.Perm (es.toList++[e])/\(Dj es p e).size=es.size+1/\TabOk (es.size+1) t1/\t1.mask=t.mask/\t1.plain=true:=by
 have hm:=Wq x
 have perm:=cU es (Ct t.place j) e
 rw[Ik] at perm
 have size:(Dj es (Ct t.place j) e).size=es.size+1:=by
  rw[<- Aj,perm.length_eq,Aw,Aj]
  rfl
 have p2:=cU t.place (Ct t.place j) j
 rw[Ik] at p2
 have size2:(Dj t.place (Ct t.place j) j).size=es.size+1:=by
  rw[<- Aj,p2.length_eq,Aw,Aj,x.size]
  rfl
 have nd:SetTable.has t.dummies j=false:=by rw[x.dum]; rfl
 have ok:TabOk (es.size+1) { t with place:=Dj t.place (Ct t.place j) j } :=
  ⟨x.good,x.dum,x.plain,eU x.rise h2,λe he=>by
   rcases Au.mp (p2.mem_iff.mp he) with z | z
   ·exact x.top e z
   ·rw[Af.mp z]; exact h3,size2⟩
 refine ⟨{ t with place:=Dj t.place (Ct t.place j) j },Ct t.place j,?_,perm,size,ok,rfl,x.plain⟩
 unfold SetTable.put
 simp only[nd,Bd,if_false]
theorem iB{a:Addr}{es:Array (Int×Value)}{ep:Nat}{t:Cq}{wanted:Nat}{Q:Unit->Ai->Prop}(ho:s.heap.get? a=some (Hw es ep t))(ent:∀e∈es.toList,qB prog w U s.heap e)(ok:TabOk es.size t)(le:es.size<=t.mask)(few:es.size<=1100)(hw:wanted<8192)(h2:es.size * 2<=wanted)(h:∀es' ep' t' h',Ko a s.heap h'->SetT prog w U h' a es' ep' t'->es'.size=es.size->Q () { s with heap:=h' }):wpAny (model prog w) A (setRelay a wanted) Q E s:=by
 obtain ⟨t',order,q1,q2,q3,q4,q5⟩:=mX (es:=es) ok.plain hw h2
 obtain ⟨p1,p2⟩:=x3 es q2
 have mk:t'.mask<8192:=by
  unfold SetTable.relaid at q1
  rw[(Yi q1).2.1]
  omega
 unfold setRelay
 refine Ac (wpAny_setState_of ho rfl (ok.fits le) ?_)
 dsimp only
 rw[if_neg (by rw[Kv]; omega),q1]
 refine Ac ?_
 show wpAny (model prog w) A (do
  if (order.filterMap (es[·]?)).size != es.size then unsupported "internal:set-table-lost-an-element"
  pure (order.filterMap (es[·]?),t')) _ _ _
 rw[if_neg (by rw[p2]; simp)]
 refine Am ?_
 dsimp only
 refine wpAny_storeSet_of ho rfl ?_ (sU (by rw[p2]; omega))
 have sb:=Ek s.heap a (Vu (order.filterMap (es[·]?)) t')
 have kt:Tf s.heap _:=Yp ho (by show Ee "set" ≠ Ee "tuple"; decide) sb
 exact h _ _ _ _ sb ⟨lW ho _ _,λe he=>(ent e (p1.mem_iff.mp he)).keep kt λ_ z=>z,by rw[p2]; exact q3,q4,mk,by rw[p2]; exact few⟩ p2
theorem xS{a x:Addr}{kx:List Int}{es:Array (Int×Value)}{ep:Nat}{t:Cq}{Q:Bool->Ai->Prop}(S:SetT prog w U s.heap a es ep t)(hn:es.size<1100)(hu:A.units<cLine)(hx:Iu (Dt prog w) s.heap kx x)(h:∀b es' ep' t' h',Ko a s.heap h'->SetT prog w (kx::U) h' a es' ep' t'->es'.size<=es.size+1->(kx∉U->es'.size=es.size+1)->Q b { s with heap:=h' }):wpAny (model prog w) A (setAddHashed a (.ref x) (Ds (Dt prog w) kx)) Q E s:=by
 unfold setAddHashed setAddHashedIn
 refine Ep (Ac (Qh S ?_))
 dsimp only
 rw[if_neg (show ¬ (byScan (.ref x) es=true) from λz=>by simp [byScan,Value.scannable] at z)]
 obtain ⟨k,hk,he⟩:=nY S.tab (Ds (Dt prog w) kx)
 have hk':k<100000:=by
  have:=S.top
  unfold Fk at hk
  omega
 unfold setSearch
 refine Ac (Zt S hu hx (λhm=>?_) (λj ej jm=>?_) 100000 k none (Us _) hk' hk he)
 ·dsimp only
  refine Am ?_
  exact h false es ep t s.heap (Heap.SameBut.refl a s.heap) ⟨S.obj,λe he=>(S.ent e he).keep (λ_ _ _ z=>z) λ_ z=>Ae _ z,S.tab,S.odd,S.top,S.few⟩ (by omega) (λz=>absurd hm z)
 ·dsimp only
  refine Ac (Qh S ?_)
  dsimp only
  obtain ⟨t1,p,e1,p1,z1,ok1,m1,pl1⟩:=U6 S.tab (Ds (Dt prog w) kx,Ak x) ((Rg S.tab.toTabOk).mp ej) jm
  rw[e1]
  dsimp only
  rw[pl1,if_pos rfl]
  refine Ac (pN hx ?_)
  rw[if_pos rfl]
  have z1':(Dj es p (Ds (Dt prog w) kx,Ak x)).size<=1200:=by omega
  refine Ac (wpAny_storeSet_of S.obj rfl ?_ (sU z1'))
  have sb:=Ek s.heap a (Vu (Dj es p (Ds (Dt prog w) kx,Ak x)) t1)
  have kt:Tf s.heap _:=Yp S.obj (by show Ee "set" ≠ Ee "tuple"; decide) sb
  have ent1:∀e∈(Dj es p (Ds (Dt prog w) kx,Ak x)).toList,qB prog w (kx::U) s.heap e:=λe he=>by
   rcases Au.mp (p1.mem_iff.mp he) with z | z
   ·exact (S.ent e z).keep (λ_ _ _ z=>z) λ_ z=>Ae _ z
   ·rw[Af.mp z]; exact ⟨x,kx,rfl,hx,Aa ..⟩
  have o1:=lW S.obj (Dj es p (Ds (Dt prog w) kx,Ak x)) t1
  have ent2:=λe he=>(ent1 e he).keep kt λ_ z=>z
  have hm:=Wq S.tab
  by_cases tf:t1.tooFull=true
  ·rw[tf,if_pos (by decide)]
   have gr:SetTable.grown (es.size+1)=(es.size+1) * 4:=by unfold SetTable.grown; rw[if_neg (by omega)]
   rw[gr]
   refine Ac (iB o1 ent2 (by rw[z1]; exact ok1) (by omega) (by omega) (by omega) (by omega) λes' ep' t' h' sb' S' zz=>Am ?_)
   exact h true es' ep' t' h' (sb.trans sb') S' (by omega) λ_=>by omega
  ·have room:(es.size+1) * 5<t1.mask * 3:=by
    have : ¬ (t1.fill * 5 ≥ t1.mask * 3):=λz=>tf (by unfold SetTable.tooFull; exact decide_eq_true z)
    have e:t1.fill=es.size+1:=by
     unfold SetTable.fill
     rw[ok1.dum,ok1.size]
     rfl
    omega
   rw[Bool.not_eq_true] at tf
   rw[tf]
   simp only[Sf,Bd,if_false]
   refine Am ?_
   exact h true _ _ t1 _ sb ⟨o1,ent2,by rw[z1]; exact ⟨ok1,room⟩,by rw[m1]; exact S.odd,by rw[m1]; exact S.top,by omega⟩ (by omega) λ_=>by omega
end
section
variable{prog:Bm}{w:World}{A:Cr}{R:Result->Ai->Prop}
def Ss(prog:Bm)(w:World)(h:Heap)(vs:List Value)(ws:List (List Int)):Prop:=vs.length=ws.length/\∀(i:Nat) (h1:i<vs.length) (h2:i<ws.length),∃b,vs[i]=Ak b/\Iu (Dt prog w) h ws[i] b
theorem Ss.keep{h h':Heap}{vs:List Value}{ws:List (List Int)}(x:Ss prog w h vs ws)(k:Tf h h'):Ss prog w h' vs ws :=
 ⟨x.1,λi h1 h2=>by obtain ⟨b,e,z⟩:=x.2 i h1 h2; exact ⟨b,e,lA z k⟩⟩
theorem mE{a it l:Addr}(n1:a≠it)(n2:a≠l)(n3:l≠it){items:Array Value}{ws:List (List Int)}(few:ws.length<=1100)(hh:A.in1.handled=none)(hu:A.in1.units<cLine):∀(k i:Nat) (s:Ai) (es:Array (Int×Value)) (ep:Nat) (t:Cq) (U:List (List Int)),items.size - i=k->i<=items.size->s.heap.IsListIter it l i->s.heap.IsList l items->Ss prog w s.heap items.toList ws->SetT prog w U s.heap a es ep t->es.size<=i->(∀x,x∈U->x∈ws.take i)->(ws.Nodup->es.size=i)->(∀es' ep' t' h' tk,(∀b o,b≠a->b≠it->s.heap.get? b=some o->h'.get? b=some o)->SetT prog w ws h' a es' ep' t'->es'.size<=ws.length->(ws.Nodup->es'.size=ws.length)->R (.ok (.ret .none)) { s with heap:=h',toks:=tk })->Hl (model prog w) A (.builtin "set.update.loop" ⟨[.ref a,.ref it],[]⟩) R s:=by
 intro k
 induction k with
 | zero =>
  intro i s es ep t U hk hi hit hl hw S hz hU hN hR
  have len:items.size=ws.length:=by rw[<- hw.1,Aj]
  have e:i=items.size:=by omega
  refine Tu Os ?_
  rw[Qw Hz _]
  show wpAny _ A.in1 (pyNext (.ref it) >>= _) _ _ s
  refine Ac (wpAny_pyNext_list_end hh hit hl (by rw[e]; simp) λh' x=>?_)
  have kp:Kept s.heap h':=λb o c q=>by
   refine x b o (λz=>?_) q
   subst z
   obtain ⟨o',ho',c',_⟩:=hit
   rw[ho'] at q
   cases q
   rw[c'] at c
   rcases c with c | c <;> exact absurd c (by decide)
  have S':=S.keep kp
  refine Am (hR es ep t h' s.toks (λb o _ q e=>x b o q e) ⟨S'.obj,λe he=>(S'.ent e he).keep (λ_ _ _ z=>z) λy hy=>List.mem_of_mem_take (hU y hy),S'.tab,S'.odd,S'.top,S'.few⟩ (by omega) λz=>?_)
  rw[hN z]
  omega
 | succ k ih =>
  intro i s es ep t U hk hi hit hl hw S hz hU hN hR
  have len:items.size=ws.length:=by rw[<- hw.1,Aj]
  have lt:i<items.size:=by omega
  have lt':i<ws.length:=by omega
  obtain ⟨b,ev,hx⟩:=hw.2 i (by rw[Aj]; exact lt) lt'
  have ev':items[i]=Ak b:=by simpa using ev
  refine Tu Os ?_
  rw[Qw Hz _]
  show wpAny _ A.in1 (pyNext (.ref it) >>= _) _ _ s
  refine Ac (uQ hit hl (x:=items[i]) (by simp [lt]) λh1 hit1 sb1=>?_)
  rw[ev']
  show wpAny _ A.in1 (Px [Ak b] (setAdd a (.ref b)) >>= _) _ _ _
  refine Ac (Ep ?_)
  unfold setAdd
  have kp:Kept s.heap h1:=λb o c q=>by
   refine (sb1.2 b λz=>?_).trans q
   subst z
   obtain ⟨o',ho',c',_⟩:=hit
   rw[ho'] at q
   cases q
   rw[c'] at c
   rcases c with c | c <;> exact absurd c (by decide)
  have S1:=S.keep kp
  have hx1:=lA hx kp.t
  refine Ep (Ac (wpAny_pyHash_tuple (s:={ s with heap:=h1 }) hu hx1 ?_))
  refine xS (s:={ s with heap:=h1,toks:=s.toks+(ws[i].length+1) }) S1 (by omega) hu hx1 λb' es2 ep2 t2 h2 sb2 S2 l2 g2=>?_
  refine Am ⟨plainId_quiet Hz _,?_⟩
  have kt2:Tf h1 h2:=Yp S1.obj (by show Ee "set" ≠ Ee "tuple"; decide) sb2
  refine ih (i+1) { s with heap:=h2,toks:=s.toks+(ws[i].length+1) } es2 ep2 t2 (ws[i]::U) (by omega) lt ?_ ?_ (hw.keep λb o c e=>kt2 b o c (kp.t b o c e)) S2 (by omega) (λy hy=>?_) (λz=>?_) λes3 ep3 t3 h3 tk3 k3 S3 l3 g3=>?_
  ·obtain ⟨o,ho,r⟩:=hit1
   exact ⟨o,(sb2.2 it (Ow n1)).trans ho,r⟩
  ·obtain ⟨o,ho,r⟩:=hl
   exact ⟨o,(sb2.2 l (Ow n2)).trans ((sb1.2 l n3).trans ho),r⟩
  ·rw[Gy lt']
   rcases An.mp hy with q | q
   ·rw[q]; exact Ad _ (Af.mpr rfl)
   ·exact Ao _ (hU y q)
  ·rw[g2 λq=>?_,hN z]
   have q':=hU _ q
   obtain ⟨j,hj,ej⟩:=cY.mp q'
   exact absurd ej (Dc.mp z j i (by omega) lt' (by omega))
  ·exact hR es3 ep3 t3 h3 tk3 (λb o q1 q2 e=>k3 b o q1 q2 ((sb2.2 b q1).trans ((sb1.2 b q2).trans e))) S3 l3 g3
end
section
variable{prog:Bm}{w:World}{A:Cr}{E:Value->Ai->Prop}{s:Ai}
theorem gO{h:Heap}:SetT prog w [] (h.push (Hw #[] 0 (.fresh 0 0 (!bt w)))) h.objs.size #[] 0 (.fresh 0 0 (!bt w)) :=
 ⟨Bu _ rfl,(λe he=>by simp at he),⟨⟨yL,rfl,rfl,Dz,(λj hj=>by simp [SetTable.fresh] at hj),rfl⟩,by show 0 * 5<7 * 3; decide⟩,by show 7 % 2=1; decide,by show 7<8192; decide,by show 0<=1100; decide⟩
theorem tG{l:Addr}{items:Array Value}{ws:List (List Int)}{Q:Value->Ai->Prop}(hh:A.handled=none)(hu:A.units+64<cLine)(hl:s.heap.IsList l items)(hw:Ss prog w s.heap items.toList ws)(few:ws.length<=1100)(h:∀es ep t h' tk,(∀b o,s.heap.get? b=some o->h'.get? b=some o)->SetT prog w ws h' s.heap.objs.size es ep t->es.size<=ws.length->(ws.Nodup->es.size=ws.length)->Q (.ref s.heap.objs.size) { s with heap:=h',toks:=tk }):wpAny (model prog w) A (call (.type "set") [.ref l]) Q E s:=by
 obtain ⟨c,tl,hmro⟩:=PySem.F.called_set.mro
 have hmade:=PySem.F.called_set.made
 have hsub:=PySem.F.called_set.sub
 have h1:=PySem.F.called_set.notType
 have h2:=PySem.F.called_set.canCreate
 have hct:=PySem.F.typeCall_set_1 (.ref l)
 refine wpAny_call (codeAny_of_tree (show wpAny _ _ (callAny (.type "set") _) _ _ _ from ?_))
 refine Am ⟨Code.quiet_builtin _ (by decide +kernel),Tu PySem.F.entry_type_call ?_⟩
 rw[Around.under_plain (weight_type_call_type "set" [.ref l] []) rfl]
 repeat (any_goals (first | assumption | wp_step))
 refine Nv (rS (.ref l) (E:=E) (Q:=λv s1=>v=.ref s.heap.objs.size/\s1={ s with heap:=s.heap.push (Hw #[] 0 (.fresh 0 0 (!bt w))) }) ⟨rfl,rfl⟩) λr s1 hr=>?_
 rcases r with e | (_ | _ | _ | v)
 ·exact hr
 ·exact hr.elim
 ·exact hr.elim
 ·exact hr.elim
 obtain ⟨rfl,rfl⟩:=hr
 have S0:=gO (prog:=prog) (w:=w) (h:=s.heap)
 have T0:Shared.TypeIs { s with heap:=s.heap.push (Hw #[] 0 (.fresh 0 0 (!bt w))) } (.ref s.heap.objs.size) "set" := ⟨_,S0.obj,rfl⟩
 have hli:=PySem.F.called_set.init.lookup
 have hbi:=PySem.F.called_set.init.bind (.ref s.heap.objs.size)
 repeat (any_goals (first | assumption | wp_step))
 refine Nv (codeAny_call_builtin (R:=wants (λr s2=>r=.none/\∃es ep t h' tk,s2={ s with heap:=h',toks:=tk }/\(∀b o,s.heap.get? b=some o->h'.get? b=some o)/\SetT prog w ws h' s.heap.objs.size es ep t/\es.size<=ws.length/\(ws.Nodup->es.size=ws.length)) E)
  PySem.F.called_set.init.plain PySem.F.entry_set_init (check_set_init_1 T0 ?_)) λr s2 hr=>?_
 ·obtain ⟨⟨oc,od,odt,osl⟩,ho,hc,n,hd⟩:=id hl
  have hc':oc=.type "list" := hc
  have hd':odt=.seq items n:=hd
  subst hc' hd'
  have ho':=Al (Hw #[] 0 (.fresh 0 0 (!bt w))) ho
  have hl1:(s.heap.push (Hw #[] 0 (.fresh 0 0 (!bt w)))).IsList l items:=⟨_,ho',rfl,n,rfl⟩
  have f1:=PySem.F.sub_list_set
  have f2:=PySem.F.sub_list_frozenset
  have f3:(Ee "list" == Ee "dict")=false:=by decide
  have lt:=Bb ho
  unfold Builtin.«set.__init__» noKeywords Builtin.Frozenset.updateFrom
  generalize hPI:pyIter=PI
  wp_walk
  subst hPI
  refine aS hl1 (Ac (wpAny_runValue ?_))
  have sz:(s.heap.push (Hw #[] 0 (.fresh 0 0 (!bt w)))).objs.size=s.heap.objs.size+1:=Heap.size_push _ _
  have g1:((s.heap.push (Hw #[] 0 (.fresh 0 0 (!bt w)))).push { cls:=.type "list_iterator",data:=.fields #[.ref l,.int 0 0] }).get? (s.heap.push (Hw #[] 0 (.fresh 0 0 (!bt w)))).objs.size=some { cls:=.type "list_iterator",data:=.fields #[.ref l,.int 0 0] }:=Bu _ rfl
  have kp1:Tf s.heap ((s.heap.push (Hw #[] 0 (.fresh 0 0 (!bt w)))).push { cls:=.type "list_iterator",data:=.fields #[.ref l,.int 0 0] }):=λb o _ e=>Al _ (Al _ e)
  refine mE (by rw[sz]; exact Cc (Pg _)) (Nat.ne_of_gt lt) (by rw[sz]; exact Cc (Iz lt)) few (by simp [hh]) (by simp; omega) (items.size - 0) 0 _ #[] 0 (.fresh 0 0 (!bt w)) [] rfl (Cz _) ⟨_,g1,rfl,rfl⟩ ⟨_,Al _ ho',rfl,n,rfl⟩
   (hw.keep kp1) (S0.keep λb o _ q=>Al _ q) (Cz _) (λx hx=>nomatch hx) (λ_=>rfl) λes ep t h' tk k' S' m' m2'=>?_
  refine Am (Am ⟨rfl,es,ep,t,h',tk,rfl,λb o e=>?_,S',m',m2'⟩)
  ·have lb:=Bb e
   exact k' b o (Cc lb) (by rw[sz]; exact Cc (Iz lb)) (Al _ (Al _ e))
 ·rcases r with e | (_ | _ | _ | v)
  ·exact hr
  ·exact hr.elim
  ·exact hr.elim
  ·exact hr.elim
  obtain ⟨rfl,es,ep,t,h',tk,rfl,k',S',m',m2'⟩:=hr
  repeat (any_goals (first | assumption | wp_step))
  exact h es ep t h' tk k' S' m' m2'
end
end NdS
namespace Nd
open PySem PySem.Spec PyProof.Rows L2 NdS
def iE(a:Addr)(n:Nat)(h:Heap):Prop:=∃es ep t,h.get? a=some (Hw es ep t)/\t.fits es.size=true/\es.size=n
abbrev nL(a:Addr)(n:Nat):HO:=.ext (iE a n)
theorem xG{P:Bm}{w':World}{H:Hp}{h:Heap}{a:Addr}{n:Nat}(e:iE a n h):Kh P w' H h a (nL a n) :=
 ⟨e,let ⟨_,_,_,S,_⟩:=e; ⟨_,S⟩,λh1 h2 ⟨es,ep,t,S,m⟩ k=>⟨es,ep,t,k _ S,m⟩⟩
theorem oH{P:Bm}{w:World}{H:Hp}{h:Heap}{a:Addr}{n:Nat}(ok:Za P w H h)(e:H a=some (nL a n)):iE a n h :=
 (show Kh P w H h a (nL a n) from ok a _ e).1
theorem fP{prog:Bm}{w:World}:∀{ns:List Int} {vs:List Value},Fi (ns.map V.int) vs->ItemsAre (Dt prog w) ns vs
 | [],_,h=>by cases h; exact .nil
 | n::ns,_,h=>by
  cases h with
  | cons a t =>
   obtain ⟨tk,rfl⟩:=a
   exact .cons (intKind_is _ _ _ _) (fP t)
theorem mC:∀{rs:List Addr} {vs:List Value},Fi (rs.map V.ref) vs->vs=rs.map Ak
 | [],_,h=>by cases h; rfl
 | r::rs,_,h=>by
  cases h with
  | cons a t =>
   cases a
   rw[mC t]
   rfl
def J9(K:PySem.W.Frag):List V->Hp->VK->Prop:=λxs H Q=>∃(a:Addr) (rs:List Addr) (f:Addr->List Int),xs=[.ref a]/\Ox K H a (rs.map V.ref)/\(∀r∈rs,Ri K H r ((f r).map V.int))/\rs.length<=1100 /\
 ∀(p:Addr) (n:Nat),H p=none->n<=rs.length->((rs.map f).Nodup->n=rs.length)->Q (.ref p) (upd H p (nL p n))
theorem nZ{X:Cx}(hc:X.calm=true)(hu:X.A.units+64<cLine):Mj X (.type "set") (J9 X.K):=by
 intro pins s σ H xs us Q I r h
 obtain ⟨a,rs,f,rfl,hs,ht,few,q⟩:=h
 obtain ⟨u,rfl,ru⟩:=vals1 r
 cases ru
 obtain ⟨its,rv,pl,_⟩:=I.list hs
 have e:=mC rv
 subst e
 refine tG (ws:=rs.map f) (I.ok.hd hc) hu pl.isList ⟨by simp,λi h1 h2=>?_⟩ (by rw[Ab]; exact few) λes ep t h' tk k S m m2=>?_
 ·have hi:i<rs.length:=by simpa using h1
  obtain ⟨js,jv,⟨o,e,hcl,n,hd⟩,_⟩:=I.tuple (ht rs[i] (Pd hi))
  exact ⟨rs[i],by simp,o,_,n,e,hcl,hd,by rw[List.getElem_map]; simpa using fP jv⟩
 ·rw[Ab] at m m2
  exact ⟨.ref s.heap.objs.size,_,I.laid k (Ah _) (xG ⟨es,ep,t,S.obj,S.tab.fits,rfl⟩),rfl,q _ _ (I.hok.fresh (Ah _)) m m2⟩
def K0:List V->Hp->VK->Prop:=λxs H Q=>∃a n,xs=[V.ref a]/\H a=some (nL a n)/\n<=1100/\Q (.int n) H
theorem nO{X:Cx}:Mj X (.builtin "len") K0:=by
 intro pins s σ H xs us Q I r h
 obtain ⟨a,n,rfl,ha,hn,q⟩:=h
 obtain ⟨u,rfl,ru⟩:=vals1 r
 cases ru
 obtain ⟨es,ep,t,ho,hf,rfl⟩:=oH I.hok ha
 refine call_len_set ho ⟨rfl,rfl,rfl⟩ rfl hf (by omega) ?_
 exact ⟨.int es.size,H,I.tok _,⟨_,rfl⟩,q⟩
end Nd
namespace Nd
open PySem L2
theorem oZ{X:Cx}{K:PySem.W.Frag}{tg l:Expr}{tl:TE}(hK:X.K=K)(hl:PE X l tl):PI X tg l (kI K tl):=by
 subst hK
 exact Sv hl
theorem pU{J:It}{G:Hp->Prop}{xs:List V}{js:List Nat}{wi2:TI}{te:TE}{σ:L2.St}{H1:Hp}{Q:VK}(wk:Walked J G xs)(Pv:Addr->Nat->Hp->Prop)(h0:∀D,H1 D=none->Pv D 0 (upd H1 D (.lst [])))(hg:∀D i H,Pv D i H->G H)(hs:∀D i x H o,H1 D=none->xs[i]? = some x->Pv D i H->∀R:It->Hp->Prop,(∀J2 H2 (ys:List V) (G2:Hp->Prop) (Pw:Nat->Hp->Prop),Walked J2 G2 ys->Pw 0 H2->(∀j H,Pw j H->G2 H)->(∀j y H,ys[j]? = some y->Pw j H->∀Q':VK,(∀z H3 acc,H3 D=some (.lst acc)->acc.length<Av->Pw (j+1) (upd H3 D (.lst (acc++[z])))->Q' z H3)->te (some x::some y::Em σ js) H Q')->(∀H,Pw ys.length H->Pv D (i+1) H)->R J2 H2)->wi2 (some x::o::Em σ js) H R)(hd:∀D H,H1 D=none->Pv D xs.length H->Q (.ref D) H):rP J js wi2 te σ H1 Q:=by
 intro D nD
 refine ⟨λi m H=>m=xs.length - i/\i<=xs.length/\Pv D i H,⟨xs.length,by simp,Cz _,h0 D nD⟩,?_⟩
 (intro i m H q_; obtain ⟨rfl,hi,p⟩ := q_)
 have g:=hg D i H p
 by_cases hlt:i<xs.length
 ·refine .inr ⟨wk.go i H hlt g,λx H' y o=>?_⟩
  obtain ⟨e,hx⟩:=wk.yld i H x H' hlt g y
  subst e
  refine hs D i x _ o nD hx p _ λJ2 H2 ys G2 Pw wk2 p0 hg2 hs2 hd2=>?_
  refine ⟨λj m H=>m=ys.length - j/\j<=ys.length/\Pw j H,⟨ys.length,by simp,Cz _,p0⟩,?_⟩
  (intro j m2 H3 q_; obtain ⟨rfl,hj,p2⟩ := q_)
  have g2:=hg2 j H3 p2
  by_cases hl2:j<ys.length
  ·refine .inr ⟨wk2.go j H3 hl2 g2,λy H' yy=>?_⟩
   obtain ⟨e,hy⟩:=wk2.yld j H3 y H' hl2 g2 yy
   subst e
   exact hs2 j y _ hy p2 _ λz H3 acc ha hl p3=>⟨acc,ha,hl,ys.length - (j+1),by omega,rfl,hl2,p3⟩
  ·have e:j=ys.length:=by omega
   subst e
   exact .inl ⟨wk2.stop H3 g2,xs.length - (i+1),by omega,rfl,hlt,hd2 H3 p2⟩
 ·have e:i=xs.length:=by omega
  subst e
  exact .inl ⟨wk.stop H g,hd D H nD p⟩
end Nd
namespace DL
open PySem PySem.Spec PyProof.Rows L2 Nd
def P3(xs:List DV)(δ:DS)(P:DV->DS->Prop):Prop:=match xs with
 | [.dat _ (.list ds)]=>∃ws:List (List Int),ds=ws.map Bw/\ws.length<=1100/\∀n:Nat,n<=ws.length->(ws.Nodup->n=ws.length)->P (.dat .ow (.int n)) δ
 | _=>False
def kS(da:DA):DE:=λδ P=>da δ λxs δ1=>P3 xs δ1 P
section
variable{X:Cx}{p p2 pos pos2:Pos}{e:Expr}{da:DA}
theorem mP(hu:X.A.units+64<cLine)(hc:X.calm=true)(hg:Gl X "len")(hm:X.mg "len" = none)(hg2:Gl X "set")(hm2:X.mg "set" = none)(ha:oT X [e] da)(he:Bs [e] X.env=[(false,eval e X.env)]:=by rfl)(he2:Bs [.Call (.Name "set" p2) [e] [] pos2] X.env=[(false,eval (.Call (.Name "set" p2) [e] [] pos2) X.env)]:=by rfl):Gd X (.Call (.Name "len" p) [.Call (.Name "set" p2) [e] [] pos2] [] pos) (kS da):=by
 refine PE.imp (Sr nO hg hm (by decide +kernel) (Ez (oE (nZ hc hu) hg2 hm2 (by decide +kernel) ha (by decide) (by decide) he rfl) Gv he2) (by decide) (by decide) he2 rfl) λσ H Q h=>?_
 obtain ⟨H0,Y,S,T,δ,P,rfl,hS,hA,hd,k⟩:=h
 refine ⟨H0,Y,S,T,δ,_,rfl,hS,hA,hd,λxs δ' As us S' H' e1 e2 ex eu hA' p=>?_⟩
 unfold P3 at p
 split at p
 ·obtain ⟨v,F,rfl,hA2⟩:=Mh eu hA' ex
  obtain ⟨ws,rfl,hl,pp⟩:=p
  obtain ⟨a,xs,G,rfl,ha,ra,rfl,hz⟩:=(hA2.told mem_mid).list_inv
  obtain ⟨rs,rfl,rfl,rfl,c1,c2⟩:=Xo ra rfl
  rw[Ab] at hl
  refine ⟨a,rs,wD H',rfl,Ox.of ha,λr hr=>Ri.of (c1 r hr),hl,λq n hq h1 h2=>?_⟩
  refine ⟨q,n,rfl,Cn,by omega,?_⟩
  have s1:=Dq hq (nL q n)
  exact k _ δ' _ _ S' _ e1 e2 ((hA2.drop.grow s1 (Ah _)).pushI (.int _)) (pp n (by rw[Ab]; exact h1) (by rw[Ab]; exact h2))
 ·exact p.elim
end
def jY(ne:Bool):D2:=λx y P=>match x,y with
 | .dat _ (.bool b),.dat _ (.bool c)=>P (.dat .ow (.bool (match ne with | true=>!(b == c) | false=>b == c)))
 | _,_=>False
section
variable{X:Cx}{K:PySem.W.Frag}
theorem xE:Ur X (Hk .IsNot) (λx y H Q=>∃b c,x=.bl b/\y=.bl c/\Q (.bl (!(b == c))) H):=by
 intro pins s σ H x y v u Q I rx ry h
 obtain ⟨b,c,rfl,rfl,q⟩:=h
 cases rx
 cases ry
 exact wpAny_isNot_plain rfl (v7 I q (by cases b <;> cases c <;> rfl))
theorem vD:lN K (λx y H Q=>∃b c,x=.bl b/\y=.bl c/\Q (.bl (!(b == c))) H) (jY true):=by
 intro H0 X n S T x y v w F G H Q P hA hd k
 unfold jY at hd
 split at hd
 ·obtain ⟨rfl,_⟩:=(hA.told Ge).bl_inv
  obtain ⟨rfl,_⟩:=(hA.told mem_mid).bl_inv
  exact ⟨_,_,rfl,rfl,k _ _ [] H (hA.drop2.pushI (m:=.ow) (.bl _)) hd⟩
 ·exact hd.elim
variable{a b:Expr}{da db:DE}{pos:Pos}
theorem bC(ha:Gd X a da)(hb:Gd X b db):cF X (.Compare a [.IsNot] [b] pos) (dB (Zl (jY true) da db)):=Uq xE vD ha hb (Rq _)
end
def vT(i:Nat)(y:DV)(δ:DS)(D:DEnds):Prop:=match δ.sl[i]?,y with
 | some (.dat m (.list ds)),.dat _ (.list es)=>own1 m=true/\npk δ.sl=true/\Dv es=true/\ds.length+es.length<1000000/\D.nx ⟨δ.sl.set i (.dat m (.list (ds++es))),δ.n⟩
 | _,_=>False
def jM(i:Nat)(de:DE):DB:=λD δ=>isLst δ.sl[i]? = true/\de δ λy δ1=>vT i y δ1 D
section
variable{X:Cx}{o e:Expr}{de:DE}{apos cpos pos:Pos}{i:Nat}
theorem nJ(ho:PE X o (Qt i))(he:Gd X e de)(hbase:Yx o "extend" X.env (eval o X.env)=eval o X.env:=by rfl)
  (hfew:((Io cpos (Bs [e] X.env)).all (λx=>!x.1) && (backToKw cpos (keywordEach [] X.env)).all (λx=>x.1.isSome)
   && decide (([e]:List Expr).length+([]:List Wh).length+(if ([]:List Wh).isEmpty then 0 else 1)<30))=true:=by rfl)
  (hline:(apos.endLine == cpos.line)=true:=by rfl) (hs:Bs [e] X.env=(false,eval e X.env)::Bs [] X.env:=by rfl) (hplain:(Io cpos (Bs [] X.env)).any (·.1)=false:=by rfl)
  (hsw:Jy (.Call (.Attribute o "extend" apos) [e] [] cpos) none pos.line X.env=pure false:=by rfl) :
  qE X (.Expr (.Call (.Attribute o "extend" apos) [e] [] cpos) pos) (jM i de):=by
 refine PS.impD (Te (jX PySem.F.plainAttrs_list PySem.F.slot_list_extend PySem.F.type_list_extend oD ho (Ez he Gv hs) hbase hfew hline hs hplain) hsw) λD σ H h=>?_
 obtain ⟨H0,Y,S,T,δ,P,rfl,hS,hT,hA,⟨hd0,hd⟩,k1,k2,k3,k4⟩:=h
 obtain ⟨a,xs,hv,ha⟩:=b0 hS hA hd0
 refine ⟨.ref a,hv,.inl ⟨rfl,xs,Ox.of ha⟩,H0,Y,S,T,δ,_,rfl,hS,hA,hd,λy δ1 w F1 S1 H1 e4 e5 hA1 p1=>?_⟩
 unfold vT at p1
 split at p1
 ·rename_i m ds m' es hsl1
  obtain ⟨p1,p2,p3,p4,p5⟩:=p1
  obtain ⟨b,zs,Gz,rfl,hb,rb,rfl,_⟩:=(hA1.told mem_mid).list_inv
  obtain rfl:=rb.imm p3
  obtain ⟨a',xs1,G1,g1,g2,g3,g4,g5⟩:=iU (es:=ds++es) e5 hT hA1.drop hsl1 p1 p2
  have ea:some (V.ref a')=some (V.ref a):=Bt (by rw[<- g1,e4]; exact hv)
  cases ea
  obtain ⟨S2,h1,h2,h3⟩:=g5 (xs1++zs) (G1++[]) (g3.app rb) (by rw[Ec]; exact El _) (by rw[Aw]; exact cS (by omega))
  have hl:=g3.len
  have hl2:=rb.len
  refine ⟨a,b,xs1,zs,rfl,rfl,g2,hb,cS (by omega),?_⟩
  rw[<- e4,<- h1]
  exact k1 ⟨_,_⟩ S2 _ h2 h3 p5
 ·exact p1.elim
end
def yS(i p:Nat)(pf:PF):DE:=λδ P=>∃(m mz:Md) (ds:List Ag) (z:Int) (r:Ag->List Ag),δ.sl[i]? = some (.dat m (.list ds))/\δ.sl[p]? = some (.dat mz (.int z)) /\
 (∀d∈ds,pf [d,.int z] λe=>e=.list (r d))/\(ds.flatMap r).length<1000000/\P (.dat .ow (.list (ds.flatMap r))) δ
section
variable{K:PySem.W.Frag}
theorem kN{H0 H:Hp}{X:Addr->Prop}{S T:List Ent}{δ:DS}{i:Nat}{m:Md}{d:Ag}(hS:Sl S δ)(hA:At K H0 X δ.n (S++T) H)(h:δ.sl[i]? = some (.dat m d)):∃v F,(vs S)[i]? = some (some v)/\RdF K H v d F:=by
 obtain ⟨ent,e2,e3⟩:=Mk hS h
 obtain ⟨u,y,F⟩:=ent
 have e3':y=.dat m d:=e3
 subst e3'
 obtain ⟨v,hv,rd,_⟩:=hA.ok _ (Ao _ (Az e2))
 exact ⟨v,F,by rw[Vp e2]; exact congrArg some hv,rd⟩
theorem rY{H:Hp}{D:Addr}{l l2:List V}{F:List Addr}(hD:H D=some (.lst l))(nD:D∉F):Kp F H (upd H D (.lst l2)):=λb o e z=>by
 by_cases c:b=D
 ·subst c
  rw[hD] at e
  cases e
  rcases z with z | z
  ·exact absurd z nD
  ·rcases z with ⟨_,z⟩ | ⟨_,_,z⟩ <;> cases z
 ·rw[Dm c]; exact e
theorem aD{α β:Type}{r:α->List β}{l:List α}{i:Nat}{d:α}(h:l[i]? = some d):(l.take (i+1)).flatMap r=(l.take i).flatMap r++r d:=by
 obtain ⟨hi,e⟩:=Aq.mp h
 rw[Gy hi,List.flatMap_append,e]
 simp
theorem xY{α β:Type}{r:α->List β}{l:List α}(i:Nat):((l.take i).flatMap r).length<=(l.flatMap r).length:=by
 conv=>rhs; rw[<- Fg i l,List.flatMap_append,Aw]
 omega
theorem xN{i p:Nat}{pf:PF}{E:XK}:∀σ H Q,LE K (yS i p pf) σ H Q->gQ (kI K (Qt i)) [p] (kI K (lH (Qx K pf) [] E (fT (Qt 0) (fT (Qt 2) mZ)))) (Qt 1) σ H Q:=by
 intro σ H Q h
 obtain ⟨H0,Y,S,T,δ,P,rfl,hS,hA,⟨m,mz,ds,z,r,h1,h2,hf,hz,hP⟩,k⟩:=h
 obtain ⟨v,F,hv,rd⟩:=kN hS hA h1
 obtain ⟨w,Fw,hw,rw'⟩:=kN hS hA h2
 obtain ⟨rfl,_⟩:=rw'.int_inv
 obtain ⟨a,xs,Ga,rfl,ha,ra,_,_⟩:=rd.list_inv
 refine ⟨.ref a,hv,a,rfl,⟨xs,Ox.of ha⟩,?_⟩
 refine pU (Pr (K:=K) (a:=a) (xs:=xs)) (λD i' H'=>H D=none/\∃acc G,H' D=some (.lst acc)/\RdFs K H' acc ((ds.take i').flatMap r) G/\(D::G).Nodup/\(∀b∈G,H b=none)/\Jk H H') ?_ ?_ ?_ ?_
 ·intro D nD
  exact ⟨nD,[],[],Cn,.nil,Bo.mpr ⟨Bh,Df⟩,λ_ z=>(nomatch z),Dq nD _⟩
 ·(intro D i' H' q_; obtain ⟨nD,acc,G,_,_,_,_,sm⟩ := q_)
  exact Ox.of (sm _ _ ha)
 ·(intro D i' x H' o _ hx q_; obtain ⟨nD,acc,G,hD,rG,nG,fG,sm⟩ := q_; intro R hR)
  have hi':i'<ds.length:=by
   have:=(Aq.mp hx).1
   rw[ra.len] at this
   exact this
  have hdi:ds[i']? = some ds[i']:=Cf hi'
  obtain ⟨x',Fx,hx',rx,_⟩:=ra.get hdi
  rw[hx] at hx'
  cases hx'
  refine ⟨x,rfl,.int z,by show (Em (vs S) [p])[0]? = _; simp [Em,hw],?_⟩
  show Qx K pf [x,.int z] H' _ E
  refine ⟨[⟨some x,.dat .sh ds[i'],Fx⟩,⟨some (.int z),.dat .sh (.int z),[]⟩],0,[ds[i'],.int z],_,rfl,λe he=>?_,rfl,hf _ (Pd hi'),λv d F' H'' hd rd' nd' fr' sm'=>?_⟩
  ·rcases An.mp he with rfl | he
   ·exact ⟨x,rfl,rx.kp λb o e _=>sm b o e,(λz=>nomatch z),(λz=>nomatch z)⟩
   ·rw[Af.mp he]
    exact ⟨.int z,rfl,.int z,(λz=>nomatch z),(λz=>nomatch z)⟩
  ·subst hd
   obtain ⟨b,ys,Gb,rfl,hb,rb,rfl,_⟩:=rd'.list_inv
   obtain ⟨nb,ndb⟩:=Bo.mp nd'
   obtain ⟨nDG,ndG⟩:=Bo.mp nG
   have dom:∀c∈D::G,∃o,H' c=some o:=λc hc=>by
    rcases An.mp hc with rfl | hc
    ·exact ⟨_,hD⟩
    ·exact rG.dom c hc
   have off:∀c∈b::Gb,c∉D::G:=λc hc z=>by
    obtain ⟨o,e⟩:=dom c z
    rw[fr' c hc] at e
    cases e
   have frH:∀c∈b::Gb,H c=none:=λc hc=>sm.free (fr' c hc)
   refine ⟨b,rfl,⟨ys,Ox.of hb⟩,?_⟩
   refine hR _ _ ys (λH3=>Ox K H3 b ys) (λj H3=>∃acc G1 G2,H3 D=some (.lst acc)/\RdFs K H3 acc ((ds.take i').flatMap r++(r ds[i']).take j) G1/\RdFs K H3 (ys.drop j) ((r ds[i']).drop j) G2/\(D::(G1++G2)).Nodup/\(∀c∈G1++G2,H c=none)/\b∉D::(G1++G2)/\H3 b=some (.lst ys)/\Jk H H3) Pr ?_ ?_ ?_ ?_
   ·refine ⟨acc,G,Gb,sm' _ _ hD,?_,rb,?_,?_,?_,hb,sm.trans sm'⟩
    ·rw[List.take_zero,Ec]
     exact rG.kp λc o e _=>sm' c o e
    ·refine Bo.mpr ⟨λz=>?_,Es.mpr ⟨ndG,ndb,λc hc c' hc' e=>off c' (Ae _ hc') (by rw[<- e]; exact Ae _ hc)⟩⟩
     rcases Au.mp z with z | z
     ·exact nDG z
     ·exact off D (Ae _ z) Aa
    ·intro c hc
     rcases Au.mp hc with hc | hc
     ·exact fG c hc
     ·exact frH c (Ae _ hc)
    ·intro z
     rcases An.mp z with z | z
     ·exact off b Aa (by rw[z]; exact Aa)
     ·rcases Au.mp z with z | z
      ·exact off b Aa (Ae _ z)
      ·exact nb z
   ·(intro j H3 q_; obtain ⟨_,_,_,_,_,_,_,_,_,hb3,_⟩ := q_)
    exact Ox.of hb3
   ·(intro j y H3 hy q_; obtain ⟨acc3,G1,G2,hD3,r1,r2,nd3,f3,nb3,hb3,sm3⟩ := q_; intro Q' hQ')
    refine ⟨y,rfl,?_⟩
    have hj:j<ys.length:=(Aq.mp hy).1
    have hjr:j<(r ds[i']).length:=by rw[<- rb.len]; exact hj
    have ey:ys[j]=y:=(Aq.mp hy).2
    rw[Nt hj,Nt hjr,ey] at r2
    cases r2 with
    | @cons _ _ _ _ Fy G3 ry r2' =>
    obtain ⟨nD3,nd3'⟩:=Bo.mp nd3
    have la:=r1.len
    have le:((ds.take i').flatMap r++(r ds[i']).take j).length+1<=(ds.flatMap r).length:=by
     have q:=xY (r:=r) (l:=ds) (i'+1)
     rw[aD hdi,Aw] at q
     rw[Aw,Do]
     omega
    refine hQ' y H3 acc3 hD3 (Br (show acc3.length<1000000 by omega) (cS (n:=1000000) (Ah _))) ⟨acc3++[y],G1++Fy,G3,Cn,?_,?_,by rw[Bg]; exact nd3,by rw[Bg]; exact f3,by rw[Bg]; exact nb3,?_,λc o e=>?_⟩
    ·rw[Gy hjr,<- Bg]
     exact (r1.snoc ry).kp (rY hD3 λz=>nD3 (by
      rcases Au.mp z with z | z
      ·exact Ao _ z
      ·exact Ad _ (Ao _ z)))
    ·exact r2'.kp (rY hD3 λz=>nD3 (Ad _ (Ad _ z)))
    ·rw[Dm λz=>nb3 (by rw[z]; exact Aa)]
     exact hb3
    ·rw[Dm λz=>by rw[z,nD] at e; cases e]
     exact sm3 c o e
   ·(intro H3 q_; obtain ⟨acc3,G1,G2,hD3,r1,r2,nd3,f3,nb3,hb3,sm3⟩ := q_)
    refine ⟨nD,acc3,G1,hD3,?_,nd3.sublist ((gE G1 G2).cons₂ D),λc hc=>f3 c (Ao _ hc),sm3⟩
    rw[aD hdi]
    rw[Hx (Nat.le_of_eq rb.len.symm)] at r1
    exact r1
 ·(intro D H' _ q_; obtain ⟨nD,acc,G,hD,rG,nG,fG,sm⟩ := q_)
  rw[ra.len,Gi] at rG
  refine k _ δ (.ref D) (D::G) S H' rfl hS ?_ hP
  have fr:∀b∈D::G,H b=none:=λb hb=>by
   rcases An.mp hb with rfl | hb
   ·exact nD
   ·exact fG b hb
  exact ((hA.grow sm (Ah _)).pushF (.lst hD (cS (by omega)) rG) nG (λa ha=>hA.free (fr a ha)) (λa ha=>hA.new0 (fr a ha))).tomid
end
section
variable{X:Cx}{x x2 y0 fn:Str}{px px2 py pos spos fpos cpos:Pos}{iter e1 e2 elt:Expr}{i0 i p k:Nat}{scope:Scope}{cl:List (Str×Addr)}{ys:List Str}{pf:PF}{CX:gZ}{f:Addr}{fd:Cg}{ps:List Str}{E:XK}
theorem iA{o:Bool}(hN:X.N.Nodup)(hi0:X.N[i0]? = some y0)(hy0:X.env.scope.names.lookup y0=some .local)(C:CompScope X scope cl x ys [p])(own2:oN scope x2)(nd2:(x::x2::ys).Nodup)(hc:X.calm=true)(hi:PE X iter (Qt i))(hi2:∀fp s H,PE (Ea X scope cl (x::x2::ys) fp s H) (.Call (.Name fn fpos) [e1,e2] [] cpos) (lH (Qx X.K pf) [] E (fT (Qt 0) (fT (Qt 2) mZ))))(he:∀fp s H,PE (Ea X scope cl (x::x2::ys) fp s H) elt (Qt 1))(hs:∀x,Dh iter X.env x=pure x:=by intro _; rfl)(hs2:∀fp s H v,Dh (.Call (.Name fn fpos) [e1,e2] [] cpos) (Ea X scope cl (x::x2::ys) fp s H).env v=pure v:=by intro _ _ _ _; rfl)(hsw:Jy (.ListComp elt [⟨.Name x px,iter,[],0⟩,⟨.Name x2 px2,.Call (.Name fn fpos) [e1,e2] [] cpos,[],0⟩] scope pos) (some (.Name y0 py)) spos.line X.env=pure true:=by rfl):qE X (.Assign [.Name y0 py] (.ListComp elt [⟨.Name x px,iter,[],0⟩,⟨.Name x2 px2,.Call (.Name fn fpos) [e1,e2] [] cpos,[],0⟩] scope pos) spos) (oO (yS i p pf) (J5 o i0)) :=
 PS.impD (sO hN hi0 hy0 C own2 nd2 hc (Sv hi) (λfp s H=>oZ rfl (hi2 fp s H)) he hs hs2 hsw) (bU xN D0)
end
def P8(K:PySem.W.Frag):Sp:=λus H Q _=>∃(t:Addr) (rs:List Addr) (f:Addr->List V),us=[.ref t]/\H t=some (.lst (rs.map V.ref))/\(t::rs).Nodup/\(∀r∈rs,H r=some (.lst (f r))/\(f r).length<Av)/\rs.length<Av /\
 ∀H',H' t=some (.lst (rs.map V.ref++[.non]))->(∀r∈rs,H' r=some (.lst (f r++[.non])))->(∀b,b≠t->b∉rs->H' b=H b)->Q .non H'
def B7(H:Hp)(r:Addr):List V:=match H r with
 | some (.lst xs)=>xs
 | _=>[]
section
variable{K:PySem.W.Frag}
theorem eJ{H:Hp}:∀{C:List (List Ag)} {xs:List V} {G:List Addr},RdFs K H xs (C.map Fn) G->(∀c∈C,Dv c=true/\c.length<1000000)->xs=G.map V.ref/\(∀r∈G,H r=some (.lst (B7 H r))/\(B7 H r).length<Av)/\∀H',(∀r∈G,H' r=some (.lst (B7 H r++[.non])))->(∀b o,H b=some o->Q0 o->H' b=some o)->RdFs K H' xs (C.map λc=>Fn (c++[.none])) G
 | [],_,_,h,_=>by
  cases h
  exact ⟨rfl,(λ_ z=>nomatch z),λ_ _ _=>.nil⟩
 | c::C,_,_,h,hc=>by
  cases h with
  | @cons x _ xs _ F G a t =>
  obtain ⟨e1,e2,e3⟩:=eJ t λd hd=>hc d (Ae _ hd)
  obtain ⟨i1,i2⟩:=hc c Aa
  obtain ⟨r,ys,Gr,rfl,hr,ry,rfl,_⟩:=a.list_inv
  obtain rfl:=ry.imm i1
  have el:B7 H r=ys:=by unfold B7; rw[hr]
  refine ⟨by rw[e1]; rfl,λr' hr'=>?_,λH' h1 h2=>?_⟩
  ·rcases An.mp hr' with rfl | hr'
   ·rw[el]
    exact ⟨hr,Br (by rw[ry.len]; exact i2) (cS (n:=1000000) (Ah _))⟩
   ·exact e2 r' hr'
  ·have q:=h1 r Aa
   rw[el] at q
   have r1:RdFs K H' (ys++[.non]) (c++[.none]) ([]++[]):=(ry.kp λb o e z=>h2 b o e (z.resolve_left (λz=>nomatch z))).snoc .non
   exact RdFs.cons (F:=[r]) (.lst q (by rw[Aw]; exact cS (by simp; omega)) r1) (e3 H' (λr' hr'=>h1 r' (Ae _ hr')) h2)
theorem wN{σ:L2.St}{H:Hp}{R:List V->Hp->Prop}(h:R [] H):mZ σ H R:=h
def wZ(i:Nat):DB:=λD δ=>∃C:List (List Ag),δ.sl[i]? = some (.dat .ow (.list (C.map Fn)))/\npk δ.sl=true/\(∀c∈C,Dv c=true/\c.length<1000000)/\C.length<1000000 /\
 D.nx ⟨δ.sl.set i (.dat .ow (.list ((C.map λc=>Fn (c++[.none]))++[.none]))),δ.n⟩
theorem pW{S:List Ent}{δ:DS}{i:Nat}{u:Option V}{x y:DV}{F F':List Addr}(e2:S[i]? = some ⟨u,x,F⟩)(hS:Sl S δ):vs (S.set i ⟨u,y,F'⟩)=vs S/\Sl (S.set i ⟨u,y,F'⟩) ⟨δ.sl.set i y,δ.n⟩:=by
 constructor
 ·unfold vs
  rw[Ha]
  apply Kn
  intro j
  rw[Km]
  split
  ·rename_i hij
   subst hij
   rw[Bf,e2]
   split
   ·rfl
   ·rename_i hj
    rw[Ab] at hj
    exact absurd (Aq.mp e2).1 hj
  ·rfl
 ·unfold Sl at hS ⊢
  rw[Ha,hS]
end
section
variable{X:Cx}{CX:gZ}{k:Nat}{f:Addr}{fd:Cg}{ps:List Str}{E:XK}{x:Str}{p cpos pos:Pos}{e:Expr}{i:Nat}
theorem mN(F:FnOk X.prog X.w X.K X.mg X.base CX k f fd ps (P8 X.K))(hr:Room k X.A)(hg:Gl X x)(hm:X.mg x=some (.ref f))(hk:PySem.W.keepIn X.K (.ref f)=true)(hb:Binds X.K fd ps [])(hx:Om CX X E)(ho:PE X e (Qt i))(hdb:(x == ("__debug__" : Str))=false:=by decide)(he:Bs [e] X.env=(false,eval e X.env)::Bs [] X.env:=by rfl)(hpl:(Io cpos (Bs [] X.env)).any (·.1)=false:=by rfl)(hsw:Jy (.Call (.Name x p) [e] [] cpos) none pos.line X.env=pure false:=by rfl):qE X (.Expr (.Call (.Name x p) [e] [] cpos) pos) (wZ i):=by
 refine PS.impD (Te (To F hr hg hm hk hb .nil hx (Ez ho Gv he) hdb he hpl) hsw) λD σ H h=>?_
 obtain ⟨H0,Y,S,T,δ,P,rfl,hS,hT,hA,⟨C,h1,np,hC,lC,hD⟩,k1,k2,k3,k4⟩:=h
 obtain ⟨ent,e2,e3⟩:=Mk hS h1
 have hmS:ent∈S:=Az e2
 obtain ⟨u,y,F'⟩:=ent
 have e3':y=.dat .ow (.list (C.map Fn)):=e3
 subst e3'
 obtain ⟨v,hv,rd,nd,_⟩:=hA.ok _ (Ao _ hmS)
 have hv':u=some v:=hv
 subst hv'
 obtain ⟨t,xs,G,rfl,ht,ra,eF,hz⟩:=rd.list_inv
 have eF':F'=t::G:=eF
 subst eF'
 have nd':(t::G).Nodup:=nd rfl
 obtain ⟨g1,g2,g3⟩:=eJ ra hC
 subst g1
 have lG:G.length=C.length:=by have:=ra.len; simpa using this
 refine ⟨.ref t,by rw[Vp e2],?_⟩
 show mZ (vs S) H λxs H2=>P8 X.K ((V.ref t::xs)++[]) H2 (λx H1=>D.nx (vs S) H1) E
 refine wN ?_
 refine ⟨t,G,B7 H,rfl,ht,nd',g2,Br (by omega) (cS (n:=1000000) (Ah _)),λH' q1 q2 q3=>?_⟩
 have hn:=iP hS np
 have pm:(S++T).Perm (⟨some (.ref t),.dat .ow (.list (C.map Fn)),t::G⟩::(S.eraseIdx i++T)):=(Oh e2).append_right T
 have npE:∀f∈S.eraseIdx i++T,Oy f.x=false:=λf hf=>by
  rcases Au.mp hf with hf | hf
  ·exact hn f ((List.eraseIdx_sublist S i).subset hf)
  ·exact hT f hf
 have hAp:=hA.perm pm
 have keep:∀b o,H b=some o->(b∉t::G\/Q0 o)->H' b=some o:=λb o e z=>by
  by_cases c:b∈t::G
  ·rcases z with z | z
   ·exact absurd c z
   ·exfalso
    rcases An.mp c with rfl | c
    ·rw[ht] at e
     cases e
     rcases z with ⟨_,z⟩ | ⟨_,_,z⟩ <;> cases z
    ·rw[(g2 b c).1] at e
     cases e
     rcases z with ⟨_,z⟩ | ⟨_,_,z⟩ <;> cases z
  ·rw[q3 b (λz=>c (by rw[z]; exact Aa)) λz=>c (Ae _ z)]
   exact e
 have hA1:=hAp.spoil npE keep
 have hsep:=(Bn.mp hAp.sep).1
 have rd':RdF X.K H' (.ref t) (.list ((C.map λc=>Fn (c++[.none]))++[.none])) (t::G):=by
  have r:=(g3 H' q2 λb o e z=>keep b o e (.inr z)).snoc (.non:RdF X.K H' .non .none [])
  rw[Ec] at r
  exact .lst q1 (by rw[Aw,Ab]; exact cS (by simp; omega)) r
 have hA2:=hA1.pushF rd' nd' (λa ha f hf=>(hsep f hf).1 (.inl (npE f hf)) a ha) λa ha=>by
  rcases hAp.new _ Aa a ha with z | z
  ·exact z
  ·cases z.2
 obtain ⟨s1,s2⟩:=pW (y:=.dat .ow (.list ((C.map λc=>Fn (c++[.none]))++[.none]))) (F':=t::G) e2 hS
 rw[<- s1]
 exact k1 ⟨_,_⟩ _ H' s2 (hA2.perm ((aM e2).append_right T).symm) hD
end
def V1(t u:DB)(D:DEnds)(b:Bool)(δ:DS):Prop:=match b with
 | true=>t D δ
 | false=>u D δ
def J3(x:DV)(δ:DS)(P:DV->DS->Prop):Prop:=match x with
 | .dat _ d=>imm d=true/\P (.dat .ow d) δ
 | _=>False
def Y6(i:Nat)(s:Option DV)(δ:DS)(P:DV->DS->Prop):Prop:=match s with
 | some (.dat .pk _)=>False
 | some (.dat _ d)=>P (.dat .sh d) ⟨δ.sl.set i (.dat .sh d),δ.n⟩
 | _=>False
def tupB(xs:List DV)(δ:DS)(P:DV->DS->Prop):Prop:=match datas xs with
 | some ds=>ds.length<=1000/\P (.dat (pkMd .sh xs) (.tuple ds)) δ
 | none=>False
def lstB(xs:List DV)(δ:DS)(P:DV->DS->Prop):Prop:=match datas xs with
 | some ds=>ds.length<=1000/\P (.dat (pkMd .tp xs) (.list ds)) δ
 | none=>False
def yK(x:DV)(δ:DS)(P:Option Int->DS->Prop):Prop:=match x with
 | .dat _ (.int i)=>P (some i) δ
 | _=>False
def W3(i:Bool)(x:DV)(l h:Option Int)(δ:DS)(P:DV->DS->Prop):Prop:=match x with
 | .dat m (.list ds)=>Zr i m (Jo ds l h) λz=>P z δ
 | .dat m (.tuple ds)=>tS i m (Jo ds l h) λz=>P z δ
 | _=>False
def Z2(xs:List DV)(δ:DS)(P:DV->DS->Prop):Prop:=match xs with
 | [.dat _ (.list ds)]=>∃ns:List Int,ds=ns.map Bl/\(∀x∈ns,0<=x/\x<60)/\P (.dat .ow (.list ((F6 ns).map Bl))) δ
 | [.dat _ (.tuple ds)]=>∃ns:List Int,ds=ns.map Bl/\(∀x∈ns,0<=x/\x<60)/\P (.dat .ow (.list ((F6 ns).map Bl))) δ
 | _=>False
def bB(x:DV)(δ:DS)(P:Bool->DS->Prop):Prop:=match x with
 | .dat _ (.bool b)=>P b δ
 | _=>False
def K4(x:DV)(δ:DS)(P:Bool->DS->Prop):Prop:=match x with
 | .dat _ d=>G6 d/\P (vB d) δ
 | _=>False
def o7(du:DT)(b:Bool)(δ:DS)(P:Bool->DS->Prop):Prop:=match b with
 | true=>du δ P
 | false=>P false δ
def Q5(du:DT)(b:Bool)(δ:DS)(P:Bool->DS->Prop):Prop:=match b with
 | true=>P true δ
 | false=>du δ P
def O0(x:DV)(δ:DS)(P:DV->DS->Prop):Prop:=match x with
 | .dat _ (.bool b)=>P (.dat .ow (.bool (!b))) δ
 | _=>False
def B6(db:DE)(x:DV)(δ:DS)(P:DV->DS->Prop):Prop:=match x with
 | .dat _ (.bool true)=>db δ P
 | .dat _ (.bool false)=>P (.dat .ow (.bool false)) δ
 | _=>False
def V8(da db:DE)(b:Bool)(δ:DS)(P:DV->DS->Prop):Prop:=match b with
 | true=>da δ P
 | false=>db δ P
def C9(x:DV)(δ:DS)(P:DV->DS->Prop):Prop:=match x with
 | .dat _ (.int i)=>P (.dat .ow (.int (-i))) δ
 | _=>False
def lB(x:DV)(δ:DS)(P:Md->List Ag->DS->Prop):Prop:=match x with
 | .dat m (.list ds)=>P (Kg m) ds δ
 | _=>False
def W8(x:DV)(δ:DS)(P:Md->List Ag->DS->Prop):Prop:=match x with
 | .dat m (.tuple ds)=>P (Kg m) ds δ
 | _=>False
def zI(xs:List DV)(δ:DS)(P:Md->List Ag->DS->Prop):Prop:=match xs with
 | [.dat _ (.int j)]=>-1000000<=j/\j<=1000000/\P .sh ((Bp j.toNat).map λi:Nat=>.int i) δ
 | _=>False
def J0(xs:List DV)(δ:DS)(P:Md->List Ag->DS->Prop):Prop:=match xs with
 | [.dat m (.list ds),.dat m' (.list es)]=>P (mdZip m m') ((ds.zip es).map λp=>.tuple [p.1,p.2]) δ
 | _=>False
def C6(dg:DG)(db:DB)(D:DEnds)(m:Md)(ds:List Ag)(δ1:DS):Prop:=m=.sh/\∃I:Nat->DS->Prop,I 0 δ1 /\
 (∀i d δ',ds[i]? = some d->I i δ'->dg (.dat .sh d) δ' λδ2=>db { D with nx:=I (i+1),ct:=I (i+1),bk:=D.nx } δ2)/\∀δ',I ds.length δ'->D.nx δ'
def uE(js:List Nat)(dc:DT)(de:DE)(P:DV->DS->Prop)(m:Md)(ds:List Ag)(δ1:DS):Prop:=∃I:Nat->List Ag->Nat->Prop,I 0 [] δ1.n /\
 (∀i d acc n,ds[i]? = some d->I i acc n->Tq dc de ⟨.dat m d::frD δ1.sl js,n⟩ (λe n'=>I (i+1) (acc++[e]) n') (λn'=>I (i+1) acc n')) /\
 ∀acc n,I ds.length acc n->P (.dat .ow (.list acc)) ⟨δ1.sl,n⟩
def vW(yes:Ag->Nat->Prop)(y:DV)(δ:DS):Prop:=match y with
 | .dat _ e=>imm e=true/\yes e δ.n
 | _=>False
def rR(de:DE)(yes:Ag->Nat->Prop)(no:Nat->Prop)(b:Bool)(δ:DS):Prop:=match b with
 | true=>de δ λy δ3=>vW yes y δ3
 | false=>no δ.n
def yR(i:Nat)(x:Option DV)(δ:DS)(P:DV->DS->Prop):Prop:=match x with
 | some (.dat .ow d)=>P (.dat .ow d) ⟨δ.sl.set i (.dat .pk d),δ.n⟩
 | _=>False
def callB(pf:PF)(xs:List DV)(δ:DS)(P:DV->DS->Prop):Prop:=match datas xs with
 | some ds=>pf ds λd=>P (.dat .ow d) δ
 | none=>False
def tR(xs:List DV)(δ:DS)(P:DV->DS->Prop):Prop:=match xs with
 | [.dat _ (.int _)]=>P .drw δ
 | _=>False
theorem e_lenSet{da:DA}{δ:DS}{P:DV->DS->Prop}:kS da δ P=(da δ λxs δ1=>P3 xs δ1 P):=rfl
theorem e_lsB{m:Md}{ds:List Ag}{δ:DS}{P:DV->DS->Prop}:P3 [.dat m (.list ds)] δ P=(∃ws:List (List Int),ds=ws.map Bw/\ws.length<=1100/\∀n:Nat,n<=ws.length->(ws.Nodup->n=ws.length)->P (.dat .ow (.int n)) δ):=rfl
theorem e_isB1{m m2:Md}{b c:Bool}{P:DV->Prop}:jY true (.dat m (.bool b)) (.dat m2 (.bool c)) P=(P (.dat .ow (.bool (!(b == c))))):=rfl
theorem e_extend{i:Nat}{de:DE}{D:DEnds}{δ:DS}:jM i de D δ=(isLst (δ.sl[i]?)=true/\de δ λy δ1=>vT i y δ1 D):=rfl
theorem e_extB{i:Nat}{y:DV}{D:DEnds}{δ:DS}:vT i y δ D=(match δ.sl[i]?,y with | some (.dat m (.list ds)),.dat _ (.list es)=>own1 m=true/\npk δ.sl=true/\Dv es=true/\ds.length+es.length<1000000/\D.nx ⟨δ.sl.set i (.dat m (.list (ds++es))),δ.n⟩ | _,_=>False):=rfl
theorem e_seq{t u:DB}{D:DEnds}{δ:DS}:K8 t u D δ=(t { D with nx:=λδ'=>u D δ' } δ):=rfl
theorem e_skip{D:DEnds}{δ:DS}:yF D δ=(D.nx δ):=rfl
theorem e_ret{de:DE}{D:DEnds}{δ:DS}:K9 de D δ=(de δ D.rt):=rfl
theorem e_if{dt:DT}{t u:DB}{D:DEnds}{δ:DS}:V9 dt t u D δ=(dt δ (V1 t u D)):=rfl
theorem e_asg{de:DE}{dg:DG}{D:DEnds}{δ:DS}:oO de dg D δ=(de δ λx δ'=>dg x δ' D.nx):=rfl
theorem e_name{i:Nat}{m:Md}{d:Ag}{δ:DS}{Q:DS->Prop}:Pi i (.dat .ow d) δ Q=(Q ⟨δ.sl.set i (.dat .sh d),δ.n⟩):=rfl
theorem e_name2{i:Nat}{m:Md}{d:Ag}{δ:DS}{Q:DS->Prop}:Pi i (.dat .sh d) δ Q=(Q ⟨δ.sl.set i (.dat .sh d),δ.n⟩):=rfl
theorem e_own{i:Nat}{d:Ag}{δ:DS}{Q:DS->Prop}:aP i (.dat .ow d) δ Q=(Q ⟨δ.sl.set i (.dat .ow d),δ.n⟩):=rfl
theorem e_nT{i:Nat}{x:DV}{δ:DS}{Q:DS->Prop}:J5 true i x δ Q=(aP i x δ Q):=rfl
theorem e_nF{i:Nat}{x:DV}{δ:DS}{Q:DS->Prop}:J5 false i x δ Q=(Pi i x δ Q):=rfl
theorem e_gtup{n:Nat}{gs:rL}{m:Md}{ds:List Ag}{δ:DS}{Q:DS->Prop}:qU n gs (.dat m (.tuple ds)) δ Q=(ds.length=n/\gs (ds.map λd=>.dat (Mw m) d) δ Q):=rfl
theorem e_gsn{δ:DS}{Q:DS->Prop}:tZ [] δ Q=(Q δ):=rfl
theorem e_gsc{g:DG}{gs:rL}{x:DV}{r:List DV}{δ:DS}{Q:DS->Prop}:jZ g gs (x::r) δ Q=(g x δ λδ'=>gs r δ' Q):=rfl
theorem e_op{rd:D2}{da db:DE}{δ:DS}{P:DV->DS->Prop}:Zl rd da db δ P=(da δ λx δ1=>db δ1 λy δ2=>rd x y λz=>P z δ2):=rfl
theorem e_var{i:Nat}{δ:DS}{P:DV->DS->Prop}:x6 i δ P=(match δ.sl[i]? with | some (.dat m d)=>P (.dat (cR m) d) δ | _=>False):=rfl
theorem e_c{d:Ag}{δ:DS}{P:DV->DS->Prop}:dC d δ P=(P (.dat .ow d) δ):=rfl
theorem e_imm{de:DE}{δ:DS}{P:DV->DS->Prop}:F8 de δ P=(de δ λx δ'=>J3 x δ' P):=rfl
theorem e_immB{m:Md}{d:Ag}{δ:DS}{P:DV->DS->Prop}:J3 (.dat m d) δ P=(imm d=true/\P (.dat .ow d) δ):=rfl
theorem e_take{i:Nat}{δ:DS}{P:DV->DS->Prop}:sY i δ P=(match δ.sl[i]? with | some (.dat m d)=>P (.dat m d) ⟨δ.sl.set i .un,δ.n⟩ | _=>False):=rfl
theorem e_I{C:Int->Int->Prop}{g:Int->Int->Ag}{i j:Int}{m m':Md}{P:DV->Prop}:C0 C g (.dat m (.int i)) (.dat m' (.int j)) P=(C i j/\P (.dat .ow (g i j))):=rfl
theorem e_I0{g:Int->Int->Ag}{i j:Int}{m m':Md}{P:DV->Prop}:nA g (.dat m (.int i)) (.dat m' (.int j)) P=(P (.dat .ow (g i j))):=rfl
theorem e_eqF{d e:Ag}{m m':Md}{P:DV->Prop}:cM false (.dat m d) (.dat m' e) P=(d.depth<=60/\e.depth<=60/\P (.dat .ow (.bool (Dr d e)))):=rfl
theorem e_eqT{d e:Ag}{m m':Md}{P:DV->Prop}:cM true (.dat m d) (.dat m' e) P=(d.depth<=60/\e.depth<=60/\P (.dat .ow (.bool (!Dr d e)))):=rfl
theorem e_inFt_w1{nes:List Int}{d:Ag}{es:List Ag}{m m':Md}{P:DV->Prop}:mU false (.dat m d) (.dat m' (Bw nes)) P=(Be (nes.map Bl)<=60/\d.depth<=60/\P (.dat .ow (.bool ((nes.map Bl).any λe=>Dr e d)))):=rfl
theorem e_inTt_w1{nes:List Int}{d:Ag}{es:List Ag}{m m':Md}{P:DV->Prop}:mU true (.dat m d) (.dat m' (Bw nes)) P=(Be (nes.map Bl)<=60/\d.depth<=60/\P (.dat .ow (.bool (!((nes.map Bl).any λe=>Dr e d))))):=rfl
theorem e_ixl{ds:List Ag}{i:Int}{m m':Md}{P:DV->Prop}:wK (.dat m (.list ds)) (.dat m' (.int i)) P=(∃d,Tz ds i=some d/\P (.dat (Mw m) d)):=rfl
theorem e_cat{ds es:List Ag}{m m':Md}{P:DV->Prop}:kD (.dat m (.list ds)) (.dat m' (.list es)) P=(Dv ds=true/\Dv es=true/\ds.length+es.length<=1000000/\P (.dat .ow (.list (ds++es)))):=rfl
theorem e_catT_w1{nds:List Int}{ds es:List Ag}{m m':Md}{P:DV->Prop}:bZ (.dat m (Bw nds)) (.dat m' (.tuple es)) P=(Dv (nds.map Bl)=true/\Dv es=true/\(nds.map Bl).length+es.length<=1000000/\P (.dat .ow (.tuple ((nds.map Bl)++es)))):=rfl
theorem e_nlT{m:Md}{ds:List Ag}{P:DV->Prop}:Zr true m ds P=(Dv ds=true/\P (.dat .ow (.list ds))):=rfl
theorem e_nlF{m:Md}{ds:List Ag}{P:DV->Prop}:Zr false m ds P=(P (.dat (Zz m) (.list ds))):=rfl
theorem e_pkOfpk  : cR .pk=(Md.pk):=rfl
theorem e_pkOfsh  : cR .sh=(Md.sh):=rfl
theorem e_pkOfow  : cR .ow=(Md.pk):=rfl
theorem e_mdInsh  : Mw .sh=(Md.sh):=rfl
theorem e_mdInow  : Mw .ow=(Md.ow):=rfl
theorem e_mdNewpk  : Zz .pk=(Md.pk):=rfl
theorem e_mdItpk  : Kg .pk=(Md.pk):=rfl
theorem e_mdItsh  : Kg .sh=(Md.sh):=rfl
theorem e_mdItow  : Kg .ow=(Md.sh):=rfl
theorem e_nil{δ:DS}{P:List DV->DS->Prop}:p9 δ P=(P [] δ):=rfl
theorem e_cons{de:DE}{da:DA}{δ:DS}{P:List DV->DS->Prop}:yG de da δ P=(de δ λx δ1=>da δ1 λxs δ2=>P (x::xs) δ2):=rfl
theorem e_tup{da:DA}{δ:DS}{P:DV->DS->Prop}:G7 da δ P=(da δ λxs δ'=>tupB xs δ' P):=rfl
theorem e_lst{da:DA}{δ:DS}{P:DV->DS->Prop}:K5 da δ P=(da δ λxs δ'=>lstB xs δ' P):=rfl
theorem e_noPart{δ:DS}{P:Option Int->DS->Prop}:lV δ P=(P none δ):=rfl
theorem e_part{de:DE}{δ:DS}{P:Option Int->DS->Prop}:yN de δ P=(de δ λx δ'=>yK x δ' P):=rfl
theorem e_partB{m:Md}{i:Int}{δ:DS}{P:Option Int->DS->Prop}:yK (.dat m (.int i)) δ P=(P (some i) δ):=rfl
theorem e_sl{i:Bool}{de:DE}{dl dh:DO}{δ:DS}{P:DV->DS->Prop}:X2 i de dl dh δ P=(de δ λx δ1=>dl δ1 λl δ2=>dh δ2 λh δ3=>W3 i x l h δ3 P):=rfl
theorem e_slBl{i:Bool}{m:Md}{ds:List Ag}{l h:Option Int}{δ:DS}{P:DV->DS->Prop}:W3 i (.dat m (.list ds)) l h δ P=(Zr i m (Jo ds l h) λz=>P z δ):=rfl
theorem e_cb{rd:DC}{da:DA}{δ:DS}{P:DV->DS->Prop}:Q4 rd da δ P=(da δ λxs δ1=>rd xs λz=>P z δ1):=rfl
theorem e_lenl{ds:List Ag}{m m':Md}{P:DV->Prop}:kR [.dat m (.list ds)] P=(P (.dat .ow (.int ds.length))):=rfl
theorem e_lent_w1{nds:List Int}{ds:List Ag}{m m':Md}{P:DV->Prop}:kR [.dat m (Bw nds)] P=(P (.dat .ow (.int (nds.map Bl).length))):=rfl
theorem e_min2{i j:Int}{m m':Md}{P:DV->Prop}:gJ [.dat m (.int i),.dat m' (.int j)] P=(P (.dat .ow (.int (if j<i then j else i)))):=rfl
theorem e_all{ds:List Ag}{m m':Md}{P:DV->Prop}:tQ [.dat m (.list ds)] P=(∃bs:List Bool,ds=bs.map PyData.bool/\P (.dat .ow (.bool (bs.all id)))):=rfl
theorem e_isi{d:Ag}{n:String}{m m':Md}{P:DV->Prop}:rD [.dat m d,.val (.ty n)] P=((n = "int" \/ n = "bool" \/ n = "str" \/ n = "list" \/ n = "tuple")/\P (.dat .ow (.bool (Va d n)))):=rfl
theorem e_v{v:V}{δ:DS}{P:DV->DS->Prop}:dV v δ P=(P (.val v) δ):=rfl
theorem e_b{de:DE}{δ:DS}{P:Bool->DS->Prop}:dB de δ P=(de δ λx δ'=>bB x δ' P):=rfl
theorem e_bB{m:Md}{b:Bool}{δ:DS}{P:Bool->DS->Prop}:bB (.dat m (.bool b)) δ P=(P b δ):=rfl
theorem e_tru{de:DE}{δ:DS}{P:Bool->DS->Prop}:B1 de δ P=(de δ λx δ'=>K4 x δ' P):=rfl
theorem e_truB{m:Md}{d:Ag}{δ:DS}{P:Bool->DS->Prop}:K4 (.dat m d) δ P=(G6 d/\P (vB d) δ):=rfl
theorem e_notT{dt:DT}{δ:DS}{P:Bool->DS->Prop}:yP dt δ P=(dt δ λb δ'=>P (!b) δ'):=rfl
theorem e_andT{dt du:DT}{δ:DS}{P:Bool->DS->Prop}:yV dt du δ P=(dt δ λb δ'=>o7 du b δ' P):=rfl
theorem e_orT{dt du:DT}{δ:DS}{P:Bool->DS->Prop}:K1 dt du δ P=(dt δ λb δ'=>Q5 du b δ' P):=rfl
theorem e_orTf{du:DT}{δ:DS}{P:Bool->DS->Prop}:Q5 du false δ P=(du δ P):=rfl
theorem e_not{de:DE}{δ:DS}{P:DV->DS->Prop}:M8 de δ P=(de δ λx δ'=>O0 x δ' P):=rfl
theorem e_notB{m:Md}{b:Bool}{δ:DS}{P:DV->DS->Prop}:O0 (.dat m (.bool b)) δ P=(P (.dat .ow (.bool (!b))) δ):=rfl
theorem e_and{da db:DE}{δ:DS}{P:DV->DS->Prop}:N3 da db δ P=(da δ λx δ'=>B6 db x δ' P):=rfl
theorem e_andt{db:DE}{m:Md}{δ:DS}{P:DV->DS->Prop}:B6 db (.dat m (.bool true)) δ P=(db δ P):=rfl
theorem e_ifE{dt:DT}{da db:DE}{δ:DS}{P:DV->DS->Prop}:F5 dt da db δ P=(dt δ λb δ'=>V8 da db b δ' P):=rfl
theorem e_neg{de:DE}{δ:DS}{P:DV->DS->Prop}:N4 de δ P=(de δ λx δ'=>C9 x δ' P):=rfl
theorem e_negB{m:Md}{i:Int}{δ:DS}{P:DV->DS->Prop}:C9 (.dat m (.int i)) δ P=(P (.dat .ow (.int (-i))) δ):=rfl
theorem e_dL{de:DE}{δ:DS}{P:Md->List Ag->DS->Prop}:dL de δ P=(de δ λx δ'=>lB x δ' P):=rfl
theorem e_dTp{de:DE}{δ:DS}{P:Md->List Ag->DS->Prop}:W4 de δ P=(de δ λx δ'=>W8 x δ' P):=rfl
theorem e_lB{m:Md}{ds:List Ag}{δ:DS}{P:Md->List Ag->DS->Prop}:lB (.dat m (.list ds)) δ P=(P (Kg m) ds δ):=rfl
theorem e_tpB_w1{nds:List Int}{m:Md}{ds:List Ag}{δ:DS}{P:Md->List Ag->DS->Prop}:W8 (.dat m (Bw nds)) δ P=(P (Kg m) (nds.map Bl) δ):=rfl
theorem e_range1{da:DA}{δ:DS}{P:Md->List Ag->DS->Prop}:cZ da δ P=(da δ λxs δ'=>zI xs δ' P):=rfl
theorem e_rng1B{m:Md}{j:Int}{δ:DS}{P:Md->List Ag->DS->Prop}:zI [.dat m (.int j)] δ P=(-1000000<=j/\j<=1000000/\P .sh ((Bp j.toNat).map λi:Nat=>.int i) δ):=rfl
theorem e_zip{da:DA}{δ:DS}{P:Md->List Ag->DS->Prop}:yO da δ P=(da δ λxs δ'=>J0 xs δ' P):=rfl
theorem e_zipB{m m':Md}{ds es:List Ag}{δ:DS}{P:Md->List Ag->DS->Prop}:J0 [.dat m (.list ds),.dat m' (.list es)] δ P=(P (mdZip m m') ((ds.zip es).map λp=>.tuple [p.1,p.2]) δ):=rfl
theorem e_for{di:DI}{dg:DG}{db:DB}{D:DEnds}{δ:DS}:C8 di dg db D δ=(di δ (C6 dg db D)):=rfl
theorem e_comp{di:DI}{js:List Nat}{dc:DT}{de:DE}{δ:DS}{P:DV->DS->Prop}:qT di js dc de δ P=(di δ (uE js dc de P)):=rfl
theorem e_give{i:Nat}{δ:DS}{P:DV->DS->Prop}:rA i δ P=(yR i (δ.sl[i]?) δ P):=rfl
theorem e_giveB{i:Nat}{d:Ag}{δ:DS}{P:DV->DS->Prop}:yR i (some (.dat .ow d)) δ P=(P (.dat .ow d) ⟨δ.sl.set i (.dat .pk d),δ.n⟩):=rfl
theorem e_callWT{df:DF}{da:DA}{δ:DS}{P:DV->DS->Prop}:lM df da δ P=(da δ λxs δ1=>callWT df xs δ1 P):=rfl
theorem e_noTest{δ:DS}{P:Bool->DS->Prop}:cH δ P=(P true δ):=rfl
theorem e_step{dc:DT}{de:DE}{δ:DS}{yes:Ag->Nat->Prop}{no:Nat->Prop}:Tq dc de δ yes no=(dc δ λb δ2=>rR de yes no b δ2):=rfl
theorem e_stepT{de:DE}{δ:DS}{yes:Ag->Nat->Prop}{no:Nat->Prop}:rR de yes no true δ=(de δ λy δ3=>vW yes y δ3):=rfl
theorem e_yesB{m:Md}{e:Ag}{δ:DS}{yes:Ag->Nat->Prop}:vW yes (.dat m e) δ=(imm e=true/\yes e δ.n):=rfl
theorem e_call{pf:PF}{da:DA}{δ:DS}{P:DV->DS->Prop}:qK pf da δ P=(da δ λxs δ1=>callB pf xs δ1 P):=rfl
theorem e_draws{da:DA}{δ:DS}{P:DV->DS->Prop}:sX da δ P=(da δ λxs δ1=>tR xs δ1 P):=rfl
theorem e_drawsB{m:Md}{i:Int}{δ:DS}{P:DV->DS->Prop}:tR [.dat m (.int i)] δ P=(P .drw δ):=rfl
theorem e_scrSl{i:Nat}{dl dh:DO}{δ:DS}{P:DV->DS->Prop}:iY i dl dh δ P=(match δ.sl[i]? with | some (.scr ns)=>dl δ λl δ2=>dh δ2 λh δ3=>P (.dat .ow (.list ((Jo ns l h).map Bl))) δ3 | _=>False):=rfl
theorem e_sortW{m:Md}{ds:List Ag}{P:DV->Prop}:aZ [.dat m (.list ds)] P=(∃ws:List (List Int),ds=ws.map Bw/\∀L:List (List Int),L.Perm ws->L.Pairwise (λx y=>HT.lexLt y x=false)->P (.dat .ow (.list (L.map Bw)))):=rfl
section
variable{t u:DB}{D:DEnds}{δ δ1:DS}
theorem fB{α:Type}{dg:DG}{db:DB}{ds:List Ag}{l:List α}{g:α->Ag}(e:ds=l.map g)(I:Nat->DS->Prop)(h0:I 0 δ1)(hs:∀i a δ',l[i]? = some a->I i δ'->dg (.dat .sh (g a)) δ' λδ2=>db { D with nx:=I (i+1),ct:=I (i+1),bk:=D.nx } δ2)(hf:∀δ',I l.length δ'->D.nx δ'):C6 dg db D .sh ds δ1:=by
 subst e
 refine ⟨rfl,I,h0,λi d δ' hd hI=>?_,λδ' h=>hf δ' (by rw[Ab] at h; exact h)⟩
 rw[Bf] at hd
 cases q:l[i]? with
 | none=>rw[q] at hd; cases hd
 | some a=>rw[q] at hd; cases hd; exact hs i a δ' q hI
end
section
variable{js:List Nat}{dc:DT}{de:DE}{P:DV->DS->Prop}{m:Md}{ds:List Ag}{δ1:DS}{α:Type}
theorem yM{l:List α}{g:α->Ag}(e:ds=l.map g)(p:α->Bool)(f:α->Ag)(h:∀a∈l,∀(yes:Ag->Nat->Prop) (no:Nat->Prop),(p a=true->yes (f a) δ1.n)->(p a=false->no δ1.n)->Tq dc de ⟨.dat m (g a)::frD δ1.sl js,δ1.n⟩ yes no)(q:P (.dat .ow (.list ((l.filter p).map f))) δ1):uE js dc de P m ds δ1:=by
 subst e
 refine ⟨λi acc n=>n=δ1.n/\acc=((l.take i).filter p).map f,⟨rfl,by simp⟩,λi d acc n hd ⟨hn,ha⟩=>?_,λacc n ⟨hn,ha⟩=>?_⟩
 ·subst hn ha
  rw[Bf] at hd
  cases q:l[i]? with
  | none=>rw[q] at hd; cases hd
  | some a =>
   rw[q] at hd
   cases hd
   refine h a (Az q) _ _ (λhp=>⟨rfl,?_⟩) (λhp=>⟨rfl,?_⟩)
   ·rw[Ni q,Nb,Bz]; simp [hp]
   ·rw[Ni q,Nb,Bz]; simp [hp]
 ·subst hn ha
  rw[Ab,Gi]
  exact q
theorem eO{l:List α}{g:α->Ag}(e:ds=l.map g)(f:α->Ag)(h:∀a∈l,∀(yes:Ag->Nat->Prop) (no:Nat->Prop),yes (f a) δ1.n->Tq dc de ⟨.dat m (g a)::frD δ1.sl js,δ1.n⟩ yes no)(q:P (.dat .ow (.list (l.map f))) δ1):uE js dc de P m ds δ1:=by
 refine yM e (λ_=>true) f (λa ha yes no hy _=>h a ha yes no (hy rfl)) ?_
 rw[oW.mpr λ_ _=>rfl]
 exact q
end
theorem Xs{t u:DB}{D:DEnds}{b:Bool}{δ:DS}(h1:b=true->t D δ)(h2:b=false->u D δ):V1 t u D b δ:=by
 cases b with
 | true=>exact h1 rfl
 | false=>exact h2 rfl
theorem E1{da db:DE}{b:Bool}{δ:DS}{P:DV->DS->Prop}(h1:b=true->da δ P)(h2:b=false->db δ P):V8 da db b δ P:=by
 cases b with
 | true=>exact h1 rfl
 | false=>exact h2 rfl
theorem zV{du:DT}{b:Bool}{δ:DS}{P:Bool->DS->Prop}(h1:b=true->du δ P)(h2:b=false->P false δ):o7 du b δ P:=by
 cases b with
 | true=>exact h1 rfl
 | false=>exact h2 rfl
theorem pP{du:DT}{b:Bool}{δ:DS}{P:Bool->DS->Prop}(h1:b=true->P true δ)(h2:b=false->du δ P):Q5 du b δ P:=by
 cases b with
 | true=>exact h1 rfl
 | false=>exact h2 rfl
theorem u0{db:DE}{m:Md}{b:Bool}{δ:DS}{P:DV->DS->Prop}(h1:b=true->db δ P)(h2:b=false->P (.dat .ow (.bool false)) δ):B6 db (.dat m (.bool b)) δ P:=by
 cases b with
 | true=>exact h1 rfl
 | false=>exact h2 rfl
theorem wF{de:DE}{yes:Ag->Nat->Prop}{no:Nat->Prop}{b:Bool}{δ:DS}(h1:b=true->de δ λy δ3=>vW yes y δ3)(h2:b=false->no δ.n):rR de yes no b δ:=by
 cases b with
 | true=>exact h1 rfl
 | false=>exact h2 rfl
class Im (d:Ag):Prop where
 h:imm d=true
class ImA (ds:List Ag):Prop where
 h:Dv ds=true
theorem Y2{ds:List Ag}[h:ImA ds]:Dv ds=true:=h.h
instance {i:Int}:Im (.int i):=⟨by simp [imm]⟩
instance {i:Bool}:Im (.bool i):=⟨by simp [imm]⟩
instance {i:Str}:Im (.str i):=⟨by simp [imm]⟩
instance:Im .none:=⟨by simp [imm]⟩
instance {ds:List Ag} [h:ImA ds]:Im (.tuple ds):=⟨by rw[imm]; exact h.h⟩
instance {ns:List Int}:Im (Bw ns):=⟨rO ns⟩
instance:ImA []:=⟨by simp [Dv]⟩
instance {d:Ag} {ds:List Ag} [h:Im d] [t:ImA ds]:ImA (d::ds):=⟨by rw[Dv,h.h,t.h]; rfl⟩
instance {α:Type} {f:α->Ag} {l:List α} [h:∀a,Im (f a)]:ImA (l.map f):=⟨Rh (λa=>(h a).h) l⟩
instance {a b:List Ag} [h:ImA a] [k:ImA b]:ImA (a++b):=⟨by rw[Xj,h.h,k.h]; rfl⟩
class Dp (d:Ag) (k:outParam Nat):Prop where
 h:d.depth<=k
class DpA (ds:List Ag) (k:outParam Nat):Prop where
 h:Be ds<=k
theorem dp{d:Ag}{k:Nat}[h:Dp d k](hk:k<=60:=by decide):d.depth<=60:=Bv h.h hk
instance {i:Int}:Dp (.int i) 0:=⟨by simp [Cv]⟩
instance {i:Bool}:Dp (.bool i) 0:=⟨by simp [Cv]⟩
instance {i:Str}:Dp (.str i) 0:=⟨by simp [Cv]⟩
instance:Dp .none 0:=⟨by simp [Cv]⟩
instance {ds:List Ag} {k:Nat} [h:DpA ds k]:Dp (.tuple ds) (k+1):=⟨by have:=h.h; simp only[Cv]; omega⟩
instance {ds:List Ag} {k:Nat} [h:DpA ds k]:Dp (.list ds) (k+1):=⟨by have:=h.h; simp only[Cv]; omega⟩
instance {ns:List Int}:Dp (Bw ns) 1:=⟨iW ns⟩
instance:DpA [] 0:=⟨by simp [Be]⟩
instance {d:Ag} {ds:List Ag} {k j:Nat} [h:Dp d k] [t:DpA ds j]:DpA (d::ds) (k+j):=⟨by have:=h.h; have:=t.h; simp only[Be]; omega⟩
instance {α:Type} {f:α->Ag} {l:List α} {k:Nat} [h:∀a,Dp (f a) k]:DpA (l.map f) k:=⟨Vj λx hx=>by
 obtain ⟨a,_,rfl⟩:=Cp.mp hx
 exact (h a).h⟩
theorem bG{a b:List Ag}:Be (a++b)<=Be a+Be b:=by
 induction a with
 | nil=>simp [Be]
 | cons x a ih=>simp only[Fm,Be]; omega
instance {a b:List Ag} {k j:Nat} [h:DpA a k] [t:DpA b j]:DpA (a++b) (k+j):=⟨by have:=h.h; have:=t.h; have:=bG (a:=a) (b:=b); omega⟩
theorem dA(a b:List Ag):Dr (.list a) (.list b)=Lq a b:=by simp [Dr]
theorem vJ(a b:List Ag):Dr (.tuple a) (.tuple b)=Lq a b:=by simp [Dr]
theorem Sm{α:Type}[DecidableEq α]{f:α->Ag}(h:∀a b,Dr (f a) (f b)=decide (a=b)):∀l m:List α,Lq (l.map f) (m.map f)=decide (l=m)
 | [],[]=>by simp [Lq]
 | [],_::_=>by simp [Lq]
 | _::_,[]=>by simp [Lq]
 | a::l,b::m=>by simp [Lq,h,Sm h l m]
theorem eqD_intd(i j:Int):Dr (.int i) (.int j)=decide (i=j):=by simp [Dr]; rfl
theorem uI(a b:List Int):Dr (Bw a) (Bw b)=decide (a=b):=by
 unfold Bw
 rw[vJ,Sm eqD_intd]
def wordsD(ws:List (List Int)):Ag:=.list (ws.map Bw)
instance {ws:List (List Int)}:Dp (wordsD ws) 2:=⟨(inferInstance:Dp (.list (ws.map Bw)) 2).h⟩
theorem nU(a b:List (List Int)):Dr (wordsD a) (wordsD b)=decide (a=b):=by
 unfold wordsD
 rw[dA,Sm uI]
def kF(ns:List Int):Ag:=.list (ns.map Bl)
instance {ns:List Int}:Dp (kF ns) 1:=⟨(inferInstance:Dp (.list (ns.map Bl)) 1).h⟩
theorem pY(a b:List Int):Dr (kF a) (kF b)=decide (a=b):=by
 unfold kF
 rw[dA,Sm eqD_intd]
theorem any_int(ns:List Int)(i:Int):((ns.map Bl).any λe=>Dr e (.int i))=decide (i∈ns):=by
 rw[List.any_map]
 induction ns with
 | nil=>rfl
 | cons n ns ih =>
  rw[List.any_cons,ih]
  simp only[Function.comp,eqD_intd,An]
  by_cases h:n=i
  ·subst h; simp
  ·have : ¬ i=n:=λz=>h z.symm
   simp [h,this]
theorem vY{α β:Type}(f:α->β)(l:List α)(i:Int):Tz (l.map f) i=(Tz l i).map f:=by
 unfold Tz
 rw[Ab]
 cases oS l.length i with
 | none=>rfl
 | some j=>simp
theorem sF{α:Type}{l:List α}{i:Int}(h0:0<=i)(h1:i<l.length):∃a,l[i.toNat]? = some a/\Tz l i=some a/\a∈l:=by
 have hk:i.toNat<l.length:=by omega
 refine ⟨l[i.toNat],by simp [hk],?_,Pd hk⟩
 have q:Tz l ((i.toNat:Nat):Int)=some l[i.toNat]:=Oo (by simp [hk])
 rwa [show ((i.toNat:Nat):Int)=i by omega] at q
theorem im_e{d:Ag}[h:Im d]:(imm d=true)=True:=eq_true h.h
theorem ima_e{ds:List Ag}[h:ImA ds]:(Dv ds=true)=True:=eq_true h.h
theorem dp_e{d:Ag}{k:Nat}[h:Dp d k](hk:k<=60):(d.depth<=60)=True:=eq_true (Bv h.h hk)
theorem dpa_e{ds:List Ag}{k:Nat}[h:DpA ds k](hk:k<=60):(Be ds<=60)=True:=eq_true (Bv h.h hk)
theorem eqD_lw(a b:List (List Int)):Dr (.list (a.map Bw)) (.list (b.map Bw))=decide (a=b):=nU a b
theorem j5(a b:List Int):Dr (.list (a.map Bl)) (.list (b.map Bl))=decide (a=b):=pY a b
theorem eqD_l0(a:List Ag):Dr (.list a) (.list [])=a.isEmpty:=vI a
theorem ow_e{d:Ag}{R:Ag->Prop}:(∃e,DV.dat .ow d=.dat .ow e/\R e)=R d:=by
 apply propext
 constructor
 ·(intro q_; obtain ⟨e,h,r⟩ := q_); cases h; exact r
 ·intro r; exact ⟨d,rfl,r⟩
theorem tt_e{m:Md}{b:Bool}:(∃m',DV.dat m (.bool b)=.dat m' (.bool true))=(b=true):=by
 apply propext
 constructor
 ·rintro ⟨e,h⟩; cases h; rfl
 ·intro r; subst r; exact ⟨m,rfl⟩
theorem cdiv_e{i j:Int}:w5 i j=(0<j/\j<1073741824):=rfl
theorem cpow_e{i j:Int}:uY i j=(0<=j/\j<=1000000/\i.natAbs<2 ^ 64):=rfl
theorem sH{j i a:Nat}(h:(Bp j)[i]? = some a):a=i/\i<j:=by
 obtain ⟨h1,h2⟩:=Aq.mp h
 rw[Cs] at h1
 rw[List.getElem_range] at h2
 exact ⟨h2.symm,h1⟩
def NP(v:DV):Prop:=∀l,npk (v::l)=npk l
theorem Ml:NP .un:=λ_=>rfl
theorem Np{d:Ag}:NP (.dat .sh d):=λ_=>rfl
theorem E6{d:Ag}:NP (.dat .ow d):=λ_=>rfl
theorem isi_li(ds:List Ag):Va (.list ds) "list" = true:=by simp [Va,xT]
theorem n6(ds:List Ag):Va (.tuple ds) "tuple" = true:=by simp [Va,xT]
theorem isi_ib(i:Int):Va (.int i) "bool" = false:=by simp [Va,xT]
theorem isi_ii(i:Int):Va (.int i) "int" = true:=by simp [Va,xT]
theorem isi_wt(w:List Int):Va (Bw w) "tuple" = true:=n6 _
theorem E3{ns:List Int}(k:Nat):(Jo ns none (some (k:Int))).length<=k:=by
 rw[mW,Do]
 exact Nat.min_le_left _ _
theorem ifB_lf{t u:DB}{D:DEnds}{δ:DS}:V1 t u D false δ=u D δ:=rfl
theorem okT_l{ds:List Ag}:G6 (.list ds)=True:=rfl
theorem fE{α:Type}{l:List α}(h:l≠[]):∃a∈l,Tz l (-1)=some a/\l.getLast? = some a:=by
 have hp:=Jq.mpr h
 refine ⟨l[l.length - 1],Pd _,?_,?_⟩
 ·unfold Tz oS
  rw[if_neg (by decide),if_pos (by omega),show ((-1:Int)+l.length).toNat=l.length - 1 by omega]
  simp [hp]
 ·rw[List.getLast?_eq_getElem?]; simp [hp]
end DL
namespace K14
open PySem L2 Nd DL
def top(i:Nat):Stmt:=PySem.Challenge.pw_needledeck_k14_chains_told.main.body.getD i (.Pass ⟨0,0,0,0⟩)
abbrev Ry:Stmt:=top 1
abbrev Ui:Stmt:=top 2
abbrev Tn:Stmt:=top 3
abbrev Ww:Stmt:=top 5
abbrev Sx:Stmt:=top 6
abbrev Rl:Stmt:=top 7
abbrev Og:Stmt:=top 8
abbrev bN:Stmt:=top 10
abbrev jP:Stmt:=top 11
abbrev Kr:Stmt:=top 12
abbrev Mb:Stmt:=top 13
abbrev Mi:Stmt:=top 14
abbrev My:Stmt:=top 15
abbrev Oc:Stmt:=top 16
abbrev Oi:Stmt:=top 17
abbrev Vy:Stmt:=top 18
section
variable{P:Bm}{w:World}{K:PySem.W.Frag}{mg:Str->Option Value}{base:Heap}
theorem Y0:FnScope ["_law_cell"] ["_law_cell"] (Ca bN):=⟨rfl,rfl,rfl,by decide +kernel,rfl,by decide +kernel,by decide +kernel⟩
theorem sV{f:Addr}{fd:Cg}(F:Fun K "_law_draws" "_law_draws" bN f fd):FnOk P w K mg base Kd 1 f fd ["_law_cell"] lX:=by
 refine F.ok Y0 (λvs H Q E h=>?_) (λcdv A outer s H vs Q E hr h=>?_)
 ·obtain ⟨c,rfl,_⟩:=h
  rfl
 obtain ⟨c,rfl,q⟩:=h
 refine ⟨_,Kq (Uo (Ru (Ez (pv 0) (Ez Et (Ez (jW zB (pv 0) (Hg iO Et Et) (Rq _)) Gv))))),?_⟩
 refine ⟨_,rfl,_,rfl,10,18,rfl,rfl,⟨by decide,by decide,by decide⟩,_,_,rfl,rfl,(by show 3<=Av; decide),λp hp=>?_⟩
 exact q p _ _ hp Cn (Dq hp _)
theorem Y5:FnScope ["_law_draws_here", "_law_k", "_law_number"] ["_law_draws_here"] (Ca jP):=⟨rfl,rfl,rfl,by decide +kernel,rfl,by decide +kernel,by decide +kernel⟩
theorem xK{f:Addr}{fd:Cg}(F:Fun K "_law_next" "_law_next" jP f fd):FnOk P w K mg base Kd 1 f fd ["_law_draws_here"] sQ:=by
 refine F.ok Y5 (λvs H Q E h=>?_) (λcdv A outer s H vs Q E hr h=>?_)
 ·obtain ⟨d,c,k,fl,rfl,_⟩:=h
  rfl
 obtain ⟨d,c,k,fl,rfl,hd,h0,h1,q⟩:=h
 refine ⟨_,Gs (tD (Hg Rx (Ra Ll (pv 0) Et (λ_ _=>rfl)) Et) (tX (pv 0) Et gC))
  (Gs (Mv (i:=1) Y5.nd rfl (Ff rfl) (Ra Ll (pv 0) Et (λ_ _=>rfl)))
  (Gs (yA (tL (Ra Ll (pv 0) Et (λ_ _=>rfl)))
   (Gs (Mv (i:=2) Y5.nd rfl (Ff rfl) (Hg Ux (Ra Ll (pv 0) Et (λ_ _=>rfl)) (Hg iO Et Et)))
    (Gs (tD (Hg bP (Ra Ll (pv 0) Et (λ_ _=>rfl)) (Hg iO Et Et)) (tX (pv 0) Et gC))
    (Kq (Uo (pv 2))))) lI)
  (Gs (Mv (i:=2) Y5.nd rfl (Ff rfl) (Hg Ux (Hg Xq (Hg Rx (Hg Rx (Hg Ux (Ra Ll (pv 0) Et (λ_ _=>rfl)) Et) (Hg Xq (Hg Xq (pv 1) (pv 1)) Et)) (pv 1)) Et) Et))
  (Gs (Mv (i:=2) Y5.nd rfl (Ff rfl) (Hg Ux (Hg Xq (pv 2) (pv 2)) Et))
  (Kq (Uo (Hg bP (Hg Ux (Hg Xq (pv 2) (Hg Rx (pv 2) Et)) Et) Et))))))),?_⟩
 -- draws[1]=draws[1]+1
 refine ⟨_,rfl,d,_,1,_,rfl,rfl,Ox.of hd,rfl,_,_,rfl,rfl,_,rfl,d,_,1,1,rfl,rfl,hd,rfl,?_⟩
 have e1:(upd H d (.lst ([V.int c,V.int k,V.bl fl].set 1 (V.int (k+1))))) d=some (.lst [.int c,.int (k+1),.bl fl]):=Cn
 generalize hH1:upd H d (.lst ([V.int c,V.int k,V.bl fl].set 1 (V.int (k+1))))=H1 at e1
 have s1:Vn d H H1:=by rw[<- hH1]; exact Vn.upd
 -- k=draws[1]; if draws[2]
 refine ⟨_,rfl,d,_,1,_,rfl,rfl,Ox.of e1,rfl,_,rfl,d,_,2,_,rfl,rfl,Ox.of e1,rfl,_,rfl,?_⟩
 refine R1 (λ_=>?_) (λ_=>?_)
 ·refine ⟨_,rfl,d,_,0,_,rfl,rfl,Ox.of e1,rfl,10,6,rfl,rfl,⟨by decide,by decide,by decide⟩,_,_,rfl,rfl,(by show (0:Int)<10 ^ (6:Int).toNat; decide),?_⟩
  refine ⟨_,rfl,d,_,0,_,rfl,rfl,Ox.of e1,rfl,10,6,rfl,rfl,⟨by decide,by decide,by decide⟩,_,_,rfl,rfl,⟨by decide,by decide⟩,_,rfl,d,_,0,0,rfl,rfl,e1,rfl,_,rfl,?_⟩
  exact q _ _ _ Cn (s1.trans Vn.upd)
 ·have m1:=Wr c 1000003 (by decide)
  have b1:=Wr ((c % 1000003+(k+1) * (k+1) * 7919+(k+1)) * 48271) 2147483629 (by decide)
  refine ⟨_,rfl,d,_,0,_,rfl,rfl,Ox.of e1,rfl,_,_,rfl,rfl,(by show (0:Int)<1000003; decide),_,rfl,_,rfl,_,_,rfl,rfl,.inl ⟨by omega,by omega⟩,_,_,rfl,rfl,.inr ⟨by decide,by decide⟩,_,_,rfl,rfl,_,rfl,_,_,rfl,rfl,
   _,_,rfl,rfl,.inr ⟨by decide,by decide⟩,_,_,rfl,rfl,(by show (0:Int)<2147483629; decide),?_⟩
  generalize ((c % 1000003+(k+1) * (k+1) * 7919+(k+1)) * 48271) % 2147483629=x at b1
  have b2:=Wr (x * x) 2147483587 (by decide)
  refine ⟨_,rfl,_,rfl,_,_,rfl,rfl,.inl ⟨by omega,by omega⟩,_,_,rfl,rfl,(by show (0:Int)<2147483587; decide),?_⟩
  generalize (x * x) % 2147483587=y at b2
  refine ⟨_,rfl,_,rfl,_,_,rfl,rfl,_,_,rfl,rfl,.inl ⟨by omega,by omega⟩,_,_,rfl,rfl,(by show (0:Int)<2147483579; decide),_,_,rfl,rfl,⟨by decide,by decide⟩,?_⟩
  exact q _ _ _ e1 s1
theorem mQ{f:Addr}{fd:Cg}(F:Fun K "_law_draws" "_law_draws" bN f fd):FnOk P w K mg base Kd 1 f fd ["_law_cell"] Td:=tY (sV F)
theorem rV{f:Addr}{fd:Cg}(F:Fun K "_law_next" "_law_next" jP f fd):FnOk P w K mg base Kd 1 f fd ["_law_draws_here"] (P7 K iR):=uX (xK F)
end
end K14
namespace DL
open PySem L2 Nd
def sub(a b:List Int):Bool:=a.all λi=>decide (i∈b)
def eZ(a b:List Int):List Int:=a.filter λi=>decide (i∉b)
theorem bI(a:Int){b:Int}(h:0<b):0<=a % b/\a % b<b:=Wr a b h
def O2:PF:=λds R=>∃a b:List Int,ds=[Bw a,Bw b]/\R (.bool (sub a b))
end DL
namespace Nd
open PySem L2 Ts
def yX(K:PySem.W.Frag):R2:=λx y H Q=>∃a b xs ys,x=.ref a/\y=.ref b/\Ri K H a xs/\Ri K H b ys/\ys≠[]/\xs.length+ys.length<=Av/\(xs=[]->Q (.ref b) H)/\(xs≠[]->∀p,H p=none->Q (.ref p) (upd H p (.tup (xs++ys))))
open PyProof.Rows in
theorem wX{X:Cx}:Ur X (Jb .Add) (yX X.K):=by
 intro pins s σ H x y v u Q I rx ry h
 obtain ⟨a,b,xs,ys,rfl,rfl,ha,hb,hy,hz,q1,q2⟩:=h
 by_cases hx:xs=[]
 ·cases rx
  cases ry
  obtain ⟨its,r1,p1,_⟩:=I.tuple ha
  obtain ⟨its2,r2,p2,_⟩:=I.tuple hb
  have e1:its=[]:=r1.nil_iff.mpr hx
  subst e1
  obtain ⟨⟨c1,d1,dt1,sl1⟩,g1,k1,n1,e1⟩:=id p1
  obtain ⟨⟨c2,d2,dt2,sl2⟩,g2,k2,n2,e2⟩:=id p2
  simp only at k1 e1 k2 e2
  subst k1 e1 k2 e2
  exact aU ⟨_,g1,rfl⟩ ⟨_,g2,rfl⟩ Re Yv PySem.F.slot_tuple_add PySem.F.entry_tuple_add (PySem.F.args_tuple_add_2 _ _)
   (tuple_addW0 a b _ _ n1 n2 d1 d2 sl1 sl2 rfl) ⟨g1,g2,⟨.ref b,H,I,rfl,q1 hx⟩⟩
 ·exact kQ pins s σ H (.ref a) (.ref b) v u Q I rx ry ⟨a,b,xs,ys,rfl,rfl,ha,hb,hx,hz,λz=>absurd z hy,λ_=>q2 hx⟩
def Eo:Nat->List (List Int)
 | 0=>[[]]
 | n+1=>Eo n++(Eo n).map (·++[(n:Int)])
theorem Rm:∀n,(Eo n).length=2 ^ n
 | 0=>rfl
 | n+1=>by
  show (Eo n++(Eo n).map (·++[(n:Int)])).length=2 ^ (n+1)
  rw[Aw,Ab,Rm n,Ms]
  omega
theorem Oj{n:Nat}(h:n<=10):(Eo n).length<=1024:=by
 rw[Rm]
 exact Lp (by decide) h
theorem Mp:∀n,∀w∈Eo n,w.length<=n
 | 0,w,h=>by
  have : w=[]:=by simpa [Eo] using h
  rw[this]
  exact Ah _
 | n+1,w,h=>by
  rcases Au.mp (show w∈Eo n++(Eo n).map (·++[(n:Int)]) from h) with h | h
  ·exact Nat.le_succ_of_le (Mp n w h)
  ·obtain ⟨v,hv,e⟩:=Cp.mp h
   rw[<- e,Aw,Eg]
   exact Nat.succ_le_succ (Mp n v hv)
theorem Vo:∀n,∃r,Eo n=[]::r
 | 0=>⟨[],rfl⟩
 | n+1=>by
  obtain ⟨r,e⟩:=Vo n
  refine ⟨r++(Eo n).map (·++[(n:Int)]),?_⟩
  show Eo n++(Eo n).map (·++[(n:Int)])=_
  conv=>lhs; lhs; rw[e]
  rfl
def Ord(l:List (List Int)):Prop:=l.Pairwise λx y=>HT.lexLt y x=false
theorem fU:∀{l m:List (List Int)},l.Perm m->Ord l->Ord m->l=m
 | [],m,p,_,_=>(List.Perm.nil_eq p)
 | x::l,[],p,_,_=>by
  have:=p.length_eq
  simp at this
 | x::l,y::m,p,h1,h2=>by
  obtain ⟨a1,a2⟩:=Bn.mp h1
  obtain ⟨b1,b2⟩:=Bn.mp h2
  have e:x=y:=by
   have mx:x∈y::m:=p.mem_iff.mp Aa
   have my:y∈x::l:=p.mem_iff.mpr Aa
   rcases An.mp mx with e | mx
   ·exact e
   ·rcases An.mp my with e | my
    ·exact e.symm
    ·exact cE (b1 x mx) (a1 y my) |>.symm▸rfl
  subst e
  rw[fU ((List.perm_cons x).mp p) a2 b2]
def Ws(H:Hp)(ws:List (Addr×List Int)):Prop:=∀p∈ws,H p.1=some (.tup (p.2.map V.int))
def zQ(H:Hp)(a:Addr):List Int:=match H a with
 | some (.tup xs)=>xs.filterMap λx=>match x with | .int i=>some i | _=>none
 | _=>[]
theorem cG{H:Hp}{a:Addr}{w:List Int}(h:H a=some (.tup (w.map V.int))):zQ H a=w:=by
 unfold zQ
 rw[h]
 show (w.map V.int).filterMap _=w
 rw[List.filterMap_map]
 exact List.filterMap_some
theorem Ws.c{H:Hp}{ws:List (Addr×List Int)}(h:Ws H ws):(ws.map (·.1)).map (zQ H)=ws.map (·.2):=by
 rw[Ci]
 exact Gc λp hp=>cG (h p hp)
def kX:Sp:=λvs H Q _=>∃h:Int,vs=[.int h]/\0<=h/\h<=10 /\
 ∀(p:Addr) (rs:List Addr) (L:List (List Int)) (H':Hp),H p=none->H' p=some (.lst (rs.map V.ref))->(∀(i:Nat) (r:Addr) (w:List Int),rs[i]? = some r->L[i]? = some w->H' r=some (.tup (w.map V.int)))->rs.length=L.length->L.Perm (Eo h.toNat)->Ord L->Jk H H'->Q (.ref p) H'
end Nd
namespace Nd
open PySem L2
def ch:Nat->Nat->Nat
 | _,0=>1
 | 0,_+1=>0
 | n+1,k+1=>ch n k+ch n (k+1)
theorem Oe(n:Nat):ch n 0=1:=by cases n <;> rfl
theorem Kt(n k:Nat):ch (n+1) (k+1)=ch n k+ch n (k+1):=rfl
theorem Hq:∀{n k:Nat},n<k->ch n k=0
 | 0,0,h=>absurd h (Gh _)
 | 0,k+1,_=>rfl
 | n+1,0,h=>absurd h (Gx _)
 | n+1,k+1,h=>by rw[Kt,Hq (by omega:n<k),Hq (by omega:n<k+1)]
theorem Ta:∀n:Nat,ch n n=1
 | 0=>rfl
 | n+1=>by rw[Kt,Ta n,Hq (Pg n)]
theorem pZ:∀n:Nat,ch n 1=n
 | 0=>rfl
 | n+1=>by rw[Kt,Oe,pZ n]; omega
theorem lD:∀n k:Nat,ch n (k+1) * (k+1)=ch n k * (n - k)
 | 0,0=>rfl
 | 0,k+1=>by rw[Hq (by omega:0<k+1+1),Hq (by omega:0<k+1)]; simp
 | n+1,0=>by rw[pZ,Oe]; omega
 | n+1,k+1=>by
  have h1:=lD n k
  have h2:=lD n (k+1)
  rw[Kt,Kt n k]
  by_cases hk:n<=k
  ·by_cases hk2:n=k
   ·subst hk2
    rw[Ta,Hq (by omega:n<n+1),Hq (by omega:n<n+1+1)]
    simp
   ·rw[Hq (by omega:n<k+1),Hq (by omega:n<k+1+1),Hq (by omega:n<k)]
    simp
  ·have e1:n - k=n - (k+1)+1:=by omega
   have e2:n+1 - (k+1)=n - (k+1)+1:=by omega
   rw[e1] at h1
   rw[e2]
   generalize n - (k+1)=m at h1 h2
   generalize ch n k=A at *
   generalize ch n (k+1)=B at *
   generalize ch n (k+1+1)=C at *
   -- h1:B * (k+1)=A * (m+1); h2:C * (k+1+1)=B * m
   have : (B+C) * (k+1+1)=B * (k+1)+B+C * (k+1+1):=by
    rw[Nat.add_mul,Nat.mul_add B (k+1) 1,Nat.mul_one]
   rw[this,h1,h2,Nat.add_mul,Nat.mul_add B m 1,Nat.mul_one]
   omega
theorem qJ:∀{n k:Nat},k<=n->ch n k=ch n (n - k)
 | 0,k,h=>by
  have : k=0:=by omega
  subst this; rfl
 | n+1,0,_=>by rw[Oe,Wz,Ta]
 | n+1,k+1,h=>by
  by_cases hk:k=n
  ·subst hk; rw[Xa,Ta,Oe]
  ·have e:n+1 - (k+1)=(n - (k+1))+1:=by omega
   rw[Kt,e,Kt,qJ (by omega:k<=n),qJ (by omega:k+1<=n)]
   have e2:n - k=n - (k+1)+1:=by omega
   rw[e2]
   omega
theorem rB:∀n k:Nat,ch n k<=2 ^ n
 | n,0=>by rw[Oe]; exact Nat.one_le_two_pow
 | 0,k+1=>by rw[Hq (by omega)]; exact Cz _
 | n+1,k+1=>by
  have h1:=rB n k
  have h2:=rB n (k+1)
  rw[Kt,Ms]
  omega
theorem pS:∀{n k:Nat},k<=n->0<ch n k
 | n,0,_=>by rw[Oe]; exact Nat.one_pos
 | 0,k+1,h=>absurd h (Nat.not_succ_le_zero _)
 | n+1,k+1,h=>by rw[Kt]; have:=pS (by omega:k<=n); omega
def cw:Nat->Int->Nat->List (List Int)
 | _,_,0=>[[]]
 | 0,_,_+1=>[]
 | d+1,p,m+1=>(cw d (p+1) m).map (p::·)++cw d (p+1) (m+1)
def bT(top:Int):Nat->List Int->Nat
 | _,[]=>0
 | m,x::w=>ch (top - 1 - x).toNat m+bT top (m - 1) w
theorem iQ:∀{n:Nat} {w:List Int},w∈Eo n↔Hv n w
 | 0,w=>by
  show w∈[[]]↔_
  rw[List.mem_singleton]
  constructor
  ·rintro rfl; exact Hv.nil _
  ·rintro ⟨_,h⟩
   match w with
   | []=>rfl
   | x::w=>have:=h x Aa; omega
 | n+1,w=>by
  show w∈Eo n++(Eo n).map (·++[(n:Int)])↔_
  rw[List.mem_append,List.mem_map,iQ]
  constructor
  ·rintro (h | ⟨v,hv,rfl⟩)
   ·exact h.up (by omega)
   ·have:=(iQ.mp hv).more (by omega)
    exact this.up (by omega)
  ·intro h
   by_cases hn:(n:Int)∈w
   ·refine .inr ⟨w.dropLast,iQ.mpr ?_,?_⟩
    ·have hne:w≠[]:=λz=>by rw[z] at hn; cases hn
     have hl:w.getLast hne=n:=by
      have h1:=h.2 _ (Pc hne)
      by_cases e:w.getLast hne=n
      ·exact e
      ·exfalso
       have hd:=Cm hne
       rw[<- hd] at hn
       rcases Au.mp hn with z | z
       ·have hp:=h.1
        rw[<- hd] at hp
        have:=(Ck.mp hp).2.2 _ z _ (Af.mpr rfl)
        omega
       ·exact e (Af.mp z).symm
     have hd:=Cm hne
     have hp:=h.1
     rw[<- hd,hl] at hp
     obtain ⟨p1,_,p3⟩:=Ck.mp hp
     exact ⟨p1,λx hx=>⟨(h.2 x (Jg w hx)).1,p3 x hx _ (Af.mpr rfl)⟩⟩
    ·have hne:w≠[]:=λz=>by rw[z] at hn; cases hn
     have hl:w.getLast hne=n:=by
      have h1:=h.2 _ (Pc hne)
      by_cases e:w.getLast hne=n
      ·exact e
      ·exfalso
       have hd:=Cm hne
       rw[<- hd] at hn
       rcases Au.mp hn with z | z
       ·have hp:=h.1
        rw[<- hd] at hp
        have:=(Ck.mp hp).2.2 _ z _ (Af.mpr rfl)
        omega
       ·exact e (Af.mp z).symm
     rw[<- hl]
     exact Cm hne
   ·refine .inl ⟨h.1,λx hx=>?_⟩
    have:=h.2 x hx
    have : x≠n:=λz=>hn (by rw[<- z]; exact hx)
    omega
theorem Nz:∀n:Nat,(Eo n).Nodup
 | 0=>Bo.mpr ⟨Bh,Df⟩
 | n+1=>by
  show (Eo n++(Eo n).map (·++[(n:Int)])).Nodup
  refine Es.mpr ⟨Nz n,?_,λx hx y hy e=>?_⟩
  ·exact List.Pairwise.map _ (λa b h e=>h (gG e)) (Nz n)
  ·subst e
   obtain ⟨v,_,rfl⟩:=Cp.mp hy
   have:=(iQ.mp hx).2 n (Ad _ (Af.mpr rfl))
   omega
end Nd
namespace DL
open PySem L2 Nd
def cQ:PF:=λds R=>∃h:Int,ds=[.int h]/\0<=h/\h<=10/\∀L:List (List Int),L.Perm (Eo h.toNat)->Ord L->R (wordsD L)
theorem dE{K:PySem.W.Frag}{H:Hp}:∀{rs:List Addr} {L:List (List Int)},(∀(i:Nat) (r:Addr) (w:List Int),rs[i]? = some r->L[i]? = some w->H r=some (.tup (w.map V.int)))->rs.length=L.length->(∀w∈L,w.length<=1000000)->RdFs K H (rs.map V.ref) (L.map Bw) []
 | [],[],_,_,_=>.nil
 | r::rs,w::L,h,l,hw=>by
  have a:=uZ (K:=K) (h 0 r w rfl rfl) (hw w (Aa ..))
  have t:=dE (K:=K) (rs:=rs) (L:=L) (λi r' w' e1 e2=>h (i+1) r' w' e1 e2) (by simpa using l) (λw' z=>hw w' (Ae _ z))
  exact RdFs.cons a t
 | [],_::_,_,l,_=>by simp at l
 | _::_,[],_,l,_=>by simp at l
theorem mL{L:List (List Int)}{n:Nat}(hn:n<=10)(p:L.Perm (Eo n)):L.length<=1024/\∀w∈L,Hv n w/\w.length<=10:=⟨by rw[p.length_eq]; exact Oj hn,λw hw=>⟨iQ.mp (p.mem_iff.mp hw),Bv (Mp n w (p.mem_iff.mp hw)) hn⟩⟩
section
variable{P:Bm}{w:World}{K:PySem.W.Frag}{mg:Str->Option Value}{base:Heap}{k:Nat}{f:Addr}{fd:Cg}{ps:List Str}
theorem uL(F:FnOk P w K mg base Kd k f fd ps kX):FnOk P w K mg base Kd k f fd ps (Qx K cQ):=by
 refine F.imp λus H Q E h=>?_
 obtain ⟨As,n,ds,R,eu,ok,q,hp,k1⟩:=h
 obtain ⟨h,rfl,h0,h1,hR⟩:=hp
 obtain ⟨v1,F1,rfl,r1⟩:=rX eu ok q
 obtain ⟨rfl,_⟩:=r1.int_inv
 refine ⟨h,rfl,h0,h1,λp rs L H' np ep hr hl hp ho s=>?_⟩
 obtain ⟨l1,l2⟩:=mL (n:=h.toNat) (by omega) hp
 refine k1 (.ref p) _ [p] H' (hR L hp ho) (RdF.lst ep (by rw[Ab]; exact cS (by omega)) (dE hr hl λw hw=>by have:=(l2 w hw).2; omega)) (Bo.mpr ⟨Bh,Df⟩) (λa ha=>?_) s
 rw[Af.mp ha]; exact np
end
def pairD(p:Nat×Nat):Ag:=.tuple [.int p.1,.int p.2]
instance {p:Nat×Nat}:Im (pairD p):=⟨(inferInstance:Im (.tuple [.int p.1,.int p.2])).h⟩
instance {p:Nat×Nat}:Dp (pairD p) 1:=⟨(inferInstance:Dp (.tuple [.int p.1,.int p.2]) 1).h⟩
def yC(p:Nat×Nat×List Int):Ag:=.tuple [.int p.1,.int p.2.1,Bw p.2.2]
instance {p:Nat×Nat×List Int}:Im (yC p):=⟨(inferInstance:Im (.tuple [.int p.1,.int p.2.1,Bw p.2.2])).h⟩
instance {p:Nat×Nat×List Int}:Dp (yC p) 2:=⟨(inferInstance:Dp (.tuple [.int p.1,.int p.2.1,Bw p.2.2]) 2).h⟩
def T8(L:List (List Int))(f:List Int->Int):Ag:=.list ((L.map f).map Bl)
instance {L:List (List Int)} {f:List Int->Int}:Dp (T8 L f) 1:=⟨(inferInstance:Dp (.list ((L.map f).map Bl)) 1).h⟩
def jm(Q w c:List Int):Bool:=sub w c && c.all λi=>decide (i∈w\/i∉Q)
end DL
namespace DL
open PySem PySem.Spec PyProof.Rows L2 Nd
end DL
namespace DRow
open PySem L2 Nd DL
abbrev Cd:=List Int
def Vx(w u:List Int):Bool:=w.all λi=>decide (i∈u)
def g0(n1 n2:List Int)(ps:List (List Int×Bool)):Option Bool:=ps.foldl (λst p=>if Vx p.1 n1=Vx p.1 n2 then st else some (Vx p.1 n1 == !p.2)) none
theorem wB(n1 n2:List Int)(ps:List (List Int×Bool))(p:List Int×Bool):g0 n1 n2 (ps++[p])=if Vx p.1 n1=Vx p.1 n2 then g0 n1 n2 ps else some (Vx p.1 n1 == !p.2):=by
 unfold g0
 rw[List.foldl_append]
 rfl
def Xc(ps:List (List Int×Bool))(n:List Int):List Int:=ps.reverse.map λp=>if Vx p.1 n=p.2 then 1 else 0
theorem Zq(ps:List (List Int×Bool))(p:List Int×Bool)(n:List Int):Xc (ps++[p]) n=(if Vx p.1 n=p.2 then 1 else 0)::Xc ps n:=by
 unfold Xc
 rw[List.reverse_append,Bz]
 rfl
theorem tJ{α:Type}{P:List α->Prop}(h0:P [])(h1:∀l x,P l->P (l++[x]))(l:List α):P l:=by
 have : ∀m:List α,P m.reverse:=λm=>by
  induction m with
  | nil=>exact h0
  | cons x m ih=>rw[List.reverse_cons]; exact h1 _ _ ih
 have:=this l.reverse
 rwa [List.reverse_reverse] at this
theorem sD(n1 n2:List Int)(ps:List (List Int×Bool)):(g0 n1 n2 ps=none↔Xc ps n1=Xc ps n2)/\(g0 n1 n2 ps=some true↔HT.lexLt (Xc ps n1) (Xc ps n2)=true):=by
 induction ps using tJ with
 | h0=>exact ⟨⟨λ_=>rfl,λ_=>rfl⟩,⟨λh=>(by cases h),λh=>(by cases h)⟩⟩
 | h1 l p ih =>
  rw[wB,Zq,Zq,HT.lexLt_cons]
  by_cases h:Vx p.1 n1=Vx p.1 n2
  ·rw[if_pos h,h,if_pos rfl]
   refine ⟨ih.1.trans ⟨λe=>by rw[e],λe=>(Fz e).2⟩,ih.2⟩
  ·rw[if_neg h]
   cases h1:Vx p.1 n1 <;> cases h2:Vx p.1 n2 <;> cases h3:p.2 <;> rw[h1,h2] at h <;> first | exact absurd rfl h | simp
theorem Oz(x y:List Int)(ps:List (List Int×Bool)):g0 x y ps=some false↔(¬ Xc ps x=Xc ps y/\¬ HT.lexLt (Xc ps x) (Xc ps y)=true):=by
 rw[<- (sD x y ps).1,<- (sD x y ps).2]
 cases g0 x y ps with
 | none=>simp
 | some b=>cases b <;> simp
def two(x y:Cd):Cd->Bool:=λr=>decide (r=x) || decide (r=y)
abbrev Ps:=List Int×Bool
def yY(p:Ps):Ag:=.tuple [Bw p.1,.str (qH p.2)]
instance {p:Ps}:Im (yY p):=⟨(inferInstance:Im (.tuple [Bw p.1,.str (qH p.2)])).h⟩
instance {p:Ps}:Dp (yY p) 2:=⟨(inferInstance:Dp (.tuple [Bw p.1,.str (qH p.2)]) _).h⟩
instance {α:Type} {f:α->Ag} {l:List α} {lo hi:Option Int} [h:∀a,Im (f a)]:ImA (Jo (l.map f) lo hi):=⟨by rw[fF]; exact Y2⟩
theorem cutG_from{α:Type}(xs:List α)(k:Nat):Jo xs (some (k:Int)) none=xs.drop k:=by
 unfold Jo
 rw[HT.sIx_none,HT.sIx_nat]
 by_cases h:k<=xs.length
 ·rw[Nat.min_eq_left h,Hx (by rw[Pb]; exact Ah _)]
 ·rw[Nat.min_eq_right (by omega),jE (by omega),jE (by omega),List.take_nil]
end DRow
namespace DL
open PySem PySem.Spec PyProof.Rows L2 Nd DRow
theorem dZ{α β:Type}{f:α->β}:∀{l:List α},l.Nodup->(∀a∈l,∀b∈l,f a=f b->a=b)->(l.map f).Nodup
 | [],_,_=>Df
 | x::l,nd,h=>by
  have nd':=Bo.mp nd
  rw[Bc,List.nodup_cons]
  refine ⟨λz=>?_,dZ nd'.2 λa ha b hb=>h a (Ae _ ha) b (Ae _ hb)⟩
  obtain ⟨y,hy,e⟩:=Cp.mp z
  have:=h y (Ae _ hy) x Aa e
  rw[this] at hy
  exact nd'.1 hy
end DL
namespace K14
open PySem L2 Nd DL
local macro_rules | `(tactic| array_get_dec) => do
  let ids:=(("e_lenSet e_lsB e_isB1 e_extend e_extB e_seq e_skip e_ret e_if e_asg e_name e_name2 e_own e_nT e_nF e_gtup e_gsn e_gsc e_op e_var e_c e_imm e_immB e_take e_I e_I0 e_eqF e_eqT e_inFt_w1 e_inTt_w1 e_ixl e_cat e_catT_w1 e_nlT e_nlF e_pkOfpk e_pkOfsh e_pkOfow e_mdInsh e_mdInow e_mdNewpk e_mdItpk e_mdItsh e_mdItow e_nil e_cons e_tup e_lst e_noPart e_part e_partB e_sl e_slBl e_cb e_lenl e_lent_w1 e_min2 e_all e_isi e_v e_b e_bB e_tru e_truB e_notT e_andT e_orT e_orTf e_not e_notB e_and e_andt e_ifE e_neg e_negB e_dL e_dTp e_lB e_tpB_w1 e_range1 e_rng1B e_zip e_zipB e_for e_comp e_give e_giveB e_callWT e_noTest e_step e_stepT e_yesB e_call e_draws e_drawsB e_scrSl e_sortW isLst callWT wordsD callB tupB lstB datas pkMd allOw noPk own1 npk retE retL args0 frD frD1 alD List.map_cons List.map_nil List.replicate List.getElem?_cons_zero List.getElem?_cons_succ List.set_cons_zero List.set_cons_succ List.cons_append List.nil_append Option.map_some List.length_cons List.length_nil List.append_nil rdAdd rdDiv rdMod rdShl rdLt rdGe if_true mdZip Nat.reduceAdd Nat.reduceSub Nat.reduceLeDiff true_and im_e ima_e dp_e dpa_e any_int eqD_intd eqD_lw eqD_l0 ow_e tt_e cdiv_e cpow_e Int.reduceLT Int.reduceNeg and_self isi_li isi_ib isi_ii isi_wt Bool.not_true Bool.not_false decide_true String.reduceEq or_true true_or ifB_lf okT_l" : String).splitOn " ").toArray.map λ(x:String)=>Lean.mkIdent x.toName
  `(tactic| try simp only [$[$ids:ident],*])
def En(c:List (List Int)):Ag:=.list (c.map Bw)
def Lj(C:List (List (List Int))):Ag:=.list (C.map En)
def oV(w u:List Int):Bool:=w.all λi=>decide (i∈u)
theorem U2{w u:List Int}:oV w u=true↔∀i∈w,i∈u:=by
 unfold oV
 rw[List.all_eq_true]
 simp
def Ls(c:List (List Int)):List Int:=c.getLastD []
def Zb(c:List (List Int))(p:Int):List (List Int):=c.dropLast.map λw=>w++[p]
def Fh(c:List (List Int))(p:Int):List (List (List Int)):=if Zb c p=[] then [c++[Ls c++[p]]] else [c++[Ls c++[p]],Zb c p]
def Fu:Nat->List (List (List Int))
 | 0=>[[[]]]
 | n+1=>(Fu n).flatMap λc=>Fh c n
structure Cov(h:Nat)(C:List (List (List Int))):Prop where
 cover:∀w,Hv h w->∃c∈C,w∈c
 chain:∀c∈C,c.Pairwise λx y=>oV x y=true
 words:∀c∈C,∀w∈c,Hv h w
 ne:∀c∈C,c≠[]
 len:∀c∈C,c.length<=h+1
 nd:∀c∈C,c.Nodup
theorem jT{c:List (List Int)}{w:List Int}(h:w∈c):w=Ls c\/w∈c.dropLast:=by
 have ne:c≠[]:=λz=>by rw[z] at h; cases h
 have e:=Cm ne
 rw[<- e] at h
 rcases Au.mp h with h | h
 ·exact .inr h
 ·refine .inl ?_
  unfold Ls
  rw[Gw,Fq ne]
  exact Af.mp h
theorem bS{c:List (List Int)}(ne:c≠[]):Ls c∈c:=by
 unfold Ls
 rw[Gw,Fq ne]
 exact Pc ne
theorem pR{c:List (List Int)}(hp:c.Pairwise λx y=>oV x y=true){w:List Int}(h:w∈c):oV w (Ls c)=true:=by
 rcases jT h with rfl | hd
 ·exact U2.mpr λ_ z=>z
 have ne:c≠[]:=λz=>by rw[z] at h; cases h
 have e:=Cm ne
 rw[<- e] at hp
 have:=(Ck.mp hp).2.2 w hd _ (Af.mpr rfl)
 have e2:Ls c=c.getLast ne:=by
  unfold Ls
  rw[Gw,Fq ne]
  rfl
 rw[e2]
 exact this
theorem bY{x y:List Int}{p:Int}(h:oV x y=true):oV x (y++[p])=true/\oV (x++[p]) (y++[p])=true:=by
 have h:=U2.mp h
 refine ⟨U2.mpr λi hi=>Ao _ (h i hi),U2.mpr λi hi=>?_⟩
 rcases Au.mp hi with hi | hi
 ·exact Ao _ (h i hi)
 ·exact Ad _ hi
theorem Kk{n:Nat}{w:List Int}(h:Hv n w):Hv ((n+1:Nat):Int) w/\Hv ((n+1:Nat):Int) (w++[(n:Int)]):=by
 refine ⟨⟨h.1,λi hi=>by have:=h.2 i hi; omega⟩,Ck.mpr ⟨h.1,Eh ..,λa ha b hb=>?_⟩,λi hi=>?_⟩
 ·rw[Af.mp hb]; exact (h.2 a ha).2
 ·rcases Au.mp hi with hi | hi
  ·have:=h.2 i hi; omega
  ·rw[Af.mp hi]; omega
theorem uA{n:Nat}{w:List Int}(h:Hv ((n+1:Nat):Int) w):Hv n w\/∃u,Hv n u/\w=u++[(n:Int)]:=by
 by_cases z:(n:Int)∈w
 ·right
  have ne:w≠[]:=λe=>by rw[e] at z; cases z
  have e:=Cm ne
  have hp:=h.1
  rw[<- e] at hp
  obtain ⟨p1,_,p3⟩:=Ck.mp hp
  have el:w.getLast ne=(n:Int):=by
   have m:=Pc ne
   have b:=h.2 _ m
   rw[<- e] at z
   rcases Au.mp z with z | z
   ·have:=p3 _ z _ (Af.mpr rfl); omega
   ·exact (Af.mp z).symm
  refine ⟨w.dropLast,⟨p1,λi hi=>?_⟩,by rw[<- el]; exact e.symm⟩
  have:=p3 i hi _ (Af.mpr rfl)
  rw[el] at this
  exact ⟨(h.2 i (Jg _ hi)).1,this⟩
 ·left
  refine ⟨h.1,λi hi=>?_⟩
  have:=h.2 i hi
  have : i≠(n:Int):=λq=>z (by rw[<- q]; exact hi)
  omega
theorem oX{n:Nat}{C:List (List (List Int))}(h:Cov n C):Cov (n+1) (C.flatMap λc=>Fh c n):=by
 have two:∀c∈C,∀d,d∈Fh c n↔d=c++[Ls c++[(n:Int)]]\/(d=Zb c n/\Zb c n≠[]):=λc _ d=>by
  unfold Fh
  by_cases z:Zb c n=[]
  ·rw[if_pos z]
   simp [z]
  ·rw[if_neg z]
   simp [z]
 refine ⟨λw hw=>?_,λd hd=>?_,λd hd w hw=>?_,λd hd=>?_,λd hd=>?_,λd hd=>?_⟩
 ·rcases uA hw with hw | ⟨u,hu,rfl⟩
  ·obtain ⟨c,hc,hwc⟩:=h.cover w hw
   exact ⟨_,Dn.mpr ⟨c,hc,(two c hc _).mpr (.inl rfl)⟩,Ao _ hwc⟩
  ·obtain ⟨c,hc,huc⟩:=h.cover u hu
   rcases jT huc with rfl | hd
   ·exact ⟨_,Dn.mpr ⟨c,hc,(two c hc _).mpr (.inl rfl)⟩,Ad _ (Af.mpr rfl)⟩
   ·have hm:u++[(n:Int)]∈Zb c n:=List.mem_map_of_mem hd
    exact ⟨_,Dn.mpr ⟨c,hc,(two c hc _).mpr (.inr ⟨rfl,λz=>by rw[z] at hm; cases hm⟩)⟩,hm⟩
 ·obtain ⟨c,hc,hd⟩:=Dn.mp hd
  rcases (two c hc d).mp hd with rfl | ⟨rfl,_⟩
  ·refine Ck.mpr ⟨h.chain c hc,Eh ..,λx hx y hy=>?_⟩
   rw[Af.mp hy]
   exact (bY (pR (h.chain c hc) hx)).1
  ·refine Wd.mpr (((h.chain c hc).sublist (List.dropLast_sublist c)).imp λq=>(bY q).2)
 ·obtain ⟨c,hc,hd⟩:=Dn.mp hd
  rcases (two c hc d).mp hd with rfl | ⟨rfl,_⟩
  ·rcases Au.mp hw with hw | hw
   ·exact (Kk (h.words c hc w hw)).1
   ·rw[Af.mp hw]
    exact (Kk (h.words c hc _ (bS (h.ne c hc)))).2
  ·obtain ⟨u,hu,rfl⟩:=Cp.mp hw
   exact (Kk (h.words c hc u (Jg _ hu))).2
 ·obtain ⟨c,hc,hd⟩:=Dn.mp hd
  rcases (two c hc d).mp hd with rfl | ⟨rfl,z⟩
  ·simp
  ·exact z
 ·obtain ⟨c,hc,hd⟩:=Dn.mp hd
  have:=h.len c hc
  rcases (two c hc d).mp hd with rfl | ⟨rfl,z⟩
  ·rw[Aw,Eg]; omega
  ·unfold Zb; rw[Ab,Lm]; omega
 ·obtain ⟨c,hc,hd⟩:=Dn.mp hd
  rcases (two c hc d).mp hd with rfl | ⟨rfl,z⟩
  ·refine Es.mpr ⟨h.nd c hc,Bo.mpr ⟨Bh,Df⟩,λx hx y hy e=>?_⟩
   rw[Af.mp hy] at e
   have:=(h.words c hc x hx).2 (n:Int) (by rw[e]; exact Ad _ (Af.mpr rfl))
   omega
  ·exact dZ ((h.nd c hc).sublist (List.dropLast_sublist c)) λx _ y _ e=>gG e
theorem Ma:∀n,Cov n (Fu n)
 | 0=>by
  refine ⟨λw hw=>⟨[[]],Af.mpr rfl,?_⟩,λc hc=>?_,λc hc w hw=>?_,λc hc=>?_,λc hc=>?_,λc hc=>?_⟩
  ·cases w with
   | nil=>exact Af.mpr rfl
   | cons x w=>have:=hw.2 x Aa; omega
  all_goals rw[Af.mp hc] at *
  ·exact Eh ..
  ·rw[Af.mp hw]; exact ⟨Dz,λ_ z=>(nomatch z)⟩
  ·simp
  ·simp
  ·simp
 | n+1=>oX (Ma n)
theorem Yn:∀n,(Fu n).length<=2 ^ n
 | 0=>by simp [Fu]
 | n+1=>by
  have ih:=Yn n
  have : ∀C:List (List (List Int)),(C.flatMap λc=>Fh c n).length<=2 * C.length:=by
   intro C
   induction C with
   | nil=>simp
   | cons c C ihc =>
    rw[Ir,Aw,Bi]
    have : (Fh c n).length<=2:=by
     unfold Fh
     split <;> simp
    omega
  have:=this (Fu n)
  show ((Fu n).flatMap λc=>Fh c n).length<=_
  rw[Ms]
  omega
theorem gV{α:Type}(xs:List α):Jo xs none (some (-1))=xs.dropLast:=by
 unfold Jo HT.sIx
 rw[List.dropLast_eq_take]
 simp only[Se]
 congr 1
 by_cases z:xs.length=0
 ·simp [z]
 ·have : ¬ ((xs.length:Int) + -1<0):=by omega
  simp
  omega
theorem h9{c:List (List Int)}(ne:c≠[]):c.map Bw=c.dropLast.map Bw++[Bw (Ls c)]:=by
 have e:=Cm ne
 have e2:Ls c=c.getLast ne:=by
  unfold Ls
  rw[Gw,Fq ne]
  rfl
 rw[e2]
 conv=>lhs; rw[<- e]
 rw[Bz]
 rfl
def intD:Ag->Int
 | .int i=>i
 | _=>0
def N6:Ag->List Int
 | .tuple ds=>ds.map intD
 | _=>[]
def xU:Ag->List (List Int)
 | .list ds=>ds.map N6
 | _=>[]
theorem jJ(c:List (List Int)):xU (En c)=c:=by
 show (c.map Bw).map N6=c
 rw[Ci]
 refine (Gc λw _=>?_).trans (List.map_id c)
 show (w.map Bl).map intD=w
 rw[Ci]
 exact List.map_id w
theorem Zp(a:Nat):((Fu a).map En).flatMap (λd=>(Fh (xU d) a).map En)=(Fu (a+1)).map En:=by
 rw[List.flatMap_map]
 show _=((Fu a).flatMap λc=>Fh c a).map En
 rw[List.map_flatMap]
 simp only[jJ]
def lY:PF:=λds R=>∃(c:List (List Int)) (p:Int),ds=[En c,.int p]/\c≠[]/\c.length<=100/\(∀w∈c,w.length<=100)/\R (Lj (Fh c p))
def fN:PF:=λds R=>∃h:Int,ds=[.int h]/\1<=h/\h<=10/\R (Lj (Fu h.toNat))
section
variable{P:Bm}{w:World}{K:PySem.W.Frag}{mg:Str->Option Value}{base:Heap}
theorem sP:FnScope ["chain", "place", "longer", "shorter"] ["chain", "place"] (Ca Ww):=⟨rfl,rfl,rfl,by decide +kernel,rfl,by decide +kernel,by decide +kernel⟩
theorem qA{f   : Addr}{fd  : Cg}(F:Fun K "grown" "grown" Ww f fd):FnOk P w K mg base Kd 1 f fd ["chain", "place"] (Qx K (lY)):=by
 refine' Ku (k:=0) F sP (λcdv A outer s H E hr=>?hb) ?h
 case hb =>
  have hu64:=hr.units
  have CS1:∀{scope:Scope} (h:scope={ kind:=.function,names:=[(".0",.local),("word",.local),("place",.free)],isGenerator:=false,isCoroutine:=false }),
    CompScope (Qr Kd P w K mg base ["chain", "place", "longer", "shorter"] "grown" (Ca Ww) f cdv A outer s H E).nox scope [("place",s.heap.objs.size+1)] "word" ["place"] [1]:=by
   rintro scope rfl
   refine ⟨by rfl,.inl (by decide +kernel),by rfl,by decide +kernel,.inl rfl,λy c h=>?_,by rfl,by decide +kernel,rfl,λk y j e1 e2=>?_⟩
   ·have z:=Hn h
    simp only[An,Bh,or_false,Nf] at z
    obtain ⟨rfl,rfl⟩:=z; rfl
   ·match k,e1,e2 with
    | 0,e1,e2=>cases e1; cases e2; exact ⟨rfl,rfl,by first | exact .inl rfl | exact .inr rfl⟩
    | k+1,e1,e2=>cases e1
  exact Dy (Wo (i:=2) sP.nd rfl (Ff rfl) (cN (Bk (pv 0)) (Kz (Ba (jR (cJ (Bk (pv 0)) (bM Eu)) (iG (Ba (rJ (Bk (pv 1))) By))) By))))
   (Dy (lP (o:=true) (i0:=3) sP.nd rfl rfl (CS1 rfl) rfl (zH (Nj (i:=true) (Bk (pv 0)) Lr (Lw (bM Eu)))) (λ_ _ _=>Pl) (λ_ _ _=>jR (Bk (pv 0)) (iG (Ba (rJ (Bk (pv 1))) By))))
   (Ei (Fj (o5 (rN (Bk (pv 3))) (Kz (Ba (bO (pv 2)) (Ba (bO (pv 3)) By))) (Kz (Ba (bO (pv 2)) By))))))
 case h =>
  (intro ds R q_; obtain ⟨c,p,rfl,ne,lc,lw,hR⟩ := q_)
  refine ⟨rfl,?_⟩
  unfold En
  array_get_dec
  refine ⟨Bw (Ls c),by rw[h9 ne]; exact fE _ _,?_⟩
  array_get_dec
  rw[gV]
  have lt:=lw _ (bS ne)
  refine ⟨by rw[Ab]; omega,by rw[Ab]; omega,?_⟩
  refine eO (l:=c.dropLast) (g:=Bw) (by rw[List.map_dropLast]) (λw=>Bw (w++[p])) (λw hw yes no hy=>?_) ?_
  ·have:=lw w (Jg _ hw)
   array_get_dec
   refine ⟨by rw[Ab]; omega,?_⟩
   rw[show PyData.tuple (w.map Bl++[.int p])=Bw (w++[p]) by unfold Bw; rw[Bz]; rfl]
   exact hy
  array_get_dec
  have eL:Fn (c.map Bw++[.tuple ((Ls c).map Bl++[.int p])])=En (c++[Ls c++[p]]):=by
   unfold En Bw
   rw[Bz,Bc,Bz]
   rfl
  have eS:Fn (c.dropLast.map λw=>Bw (w++[p]))=En (Zb c p):=by
   unfold En Zb
   rw[Ci]
   rfl
  rw[eL,eS]
  refine E1 (λhb=>?_) (λhb=>?_)
  ·have ne2:Zb c p≠[]:=λz=>by rw[z] at hb; cases hb
   have e:Fh c p=[c++[Ls c++[p]],Zb c p]:=if_neg ne2
   rw[e] at hR
   array_get_dec
   exact hR
  ·have e2:Zb c p=[]:=by
    cases q:Zb c p with
    | nil=>rfl
    | cons x l=>rw[q] at hb; cases hb
   have e:Fh c p=[c++[Ls c++[p]]]:=if_pos e2
   rw[e] at hR
   array_get_dec
   exact hR
theorem nH:FnScope ["holes", "told", "place"] ["holes"] (Ca Sx):=⟨rfl,rfl,rfl,by decide +kernel,rfl,by decide +kernel,by decide +kernel⟩
theorem mT{f f_grown  : Addr}{fd d_grown:Cg}(F:Fun K "chains" "chains" Sx f fd)(G_grown:FnOk P w K mg base Kd 1 f_grown d_grown ["chain", "place"] (Qx K (lY)))(b_grown:Binds K d_grown ["chain", "place"] [])(k_grown:PySem.W.keepIn K (.ref f_grown)=true)(m_grown:mg "grown" = some (.ref f_grown))(mz_range:mg "range" = none):FnOk P w K mg base Kd 2 f fd ["holes"] (Qx K (fN)):=by
 refine' Ku (k:=1) F nH (λcdv A outer s H E hr=>?hb) ?h
 case hb =>
  have hr1:Room 1 _:=hr.mono (by decide)
  have hu64:=hr.units
  have CS1:∀{scope:Scope} (h:scope={ kind:=.function,names:=[(".0",.local),("old",.local),("chain",.local),("grown",.globalImplicit),("place",.free)],isGenerator:=false,isCoroutine:=false }),
    CompScope (Qr Kd P w K mg base ["holes", "told", "place"] "chains" (Ca Sx) f cdv A outer s H E).nox scope [("place",s.heap.objs.size+1)] "old" ["place"] [2]:=by
   rintro scope rfl
   refine ⟨by rfl,.inl (by decide +kernel),by rfl,by decide +kernel,.inl rfl,λy c h=>?_,by rfl,by decide +kernel,rfl,λk y j e1 e2=>?_⟩
   ·have z:=Hn h
    simp only[An,Bh,or_false,Nf] at z
    obtain ⟨rfl,rfl⟩:=z; rfl
   ·match k,e1,e2 with
    | 0,e1,e2=>cases e1; cases e2; exact ⟨rfl,rfl,by first | exact .inl rfl | exact .inr rfl⟩
    | k+1,e1,e2=>cases e1
  exact Dy (Wo (i:=1) nH.nd rfl (Ff rfl) (Kz (Ba (Kz (Ba (iG By) By)) By)))
   (Dy (Pq Er rfl (mV rfl mz_range (Ba (Bk (pv 0)) By)) (Ks (i:=2) nH.nd rfl (Or.inr rfl))
   (Ei (iA (o:=true) (i0:=1) (i:=1) (p:=2) nH.nd rfl rfl (CS1 rfl) (.inl rfl) (by decide +kernel) rfl (pv 1) (λ_ _ _=>To G_grown hr1 rfl m_grown k_grown b_grown .nil Kb (Ez (pv 0) (Ez (pv 2) Gv))) (λ_ _ _=>pv 1))))
   (Ei (Fj (uV (pv 1)))))
 case h =>
  (intro ds R q_; obtain ⟨h,rfl,h0,h1,hR⟩ := q_)
  refine ⟨rfl,?_⟩
  array_get_dec
  refine ⟨by omega,by omega,?_⟩
  refine fB (l:=Bp h.toNat) (g:=λi:Nat=>.int i) rfl (λi δ=>∃v2:DV,δ=⟨[.dat .sh (.int h),.dat .ow (Lj (Fu i)),v2],0⟩/\NP v2) ?_ ?_ ?_
  ·exact ⟨_,rfl,Ml⟩
  ·(intro i a _ ha q_; obtain ⟨v2,rfl,hv2⟩ := q_)
   obtain ⟨rfl,hi⟩:=sH ha
   have cv:=Ma a
   have cl:=Yn (a+1)
   have p3:2 ^ (a+1)<=2 ^ 10:=Lp (by decide) (by omega)
   array_get_dec
   refine ⟨.ow,.sh,(Fu a).map En,a,λd=>(Fh (xU d) a).map En,rfl,rfl,λd hd=>?_,?_,?_⟩
   ·obtain ⟨c,hc,rfl⟩:=Cp.mp hd
    have hl:=cv.len c hc
    refine ⟨c,a,rfl,cv.ne c hc,by omega,λw hw=>?_,?_⟩
    ·have:=iS ((cv.words c hc w hw).up (show ((a:Nat):Int)<=60 by omega))
     omega
    ·show Lj (Fh c a)=.list ((Fh (xU (En c)) a).map En)
     rw[jJ]
     rfl
   ·rw[Zp,Ab]
    omega
   ·rw[Zp]
    array_get_dec
    exact ⟨_,rfl,Np⟩
  ·(intro _ q_; obtain ⟨v2,rfl,hv2⟩ := q_)
   rw[Cs]
   array_get_dec
   exact hR
end
structure Chn(h:Int)(c:List (List Int)):Prop where
 ne:c≠[]
 words:∀w∈c,Hv h w
 adj:∀p∈c.zip c.tail,p.2.length=p.1.length+1/\oV p.1 p.2=true
 len:c.length<=100
theorem G9(c:List (List Int)):(((c.map Bw).zip (Jo (c.map Bw) (some 1) none)).map λp=>PyData.tuple [p.1,p.2])=(c.zip c.tail).map λp=>.tuple [Bw p.1,Bw p.2]:=by
 rw[show Jo (c.map Bw) (some 1) none=(c.map Bw).drop 1 from DRow.cutG_from (c.map Bw) 1,List.drop_one,<- List.map_tail,List.zip_map,Ci]
 rfl
theorem Xg{C:List (List (List Int))}{i:Nat}{c:List (List Int)}(h:C[i]? = some c):(C.take (i+1)).flatten=(C.take i).flatten++c:=by
 obtain ⟨hi,e⟩:=Aq.mp h
 rw[Gy hi,Tx,e]
 simp
theorem fH(C:List (List (List Int)))(i:Nat):(C.take i).flatten.length<=C.flatten.length:=by
 conv=>rhs; rw[<- Fg i C,Tx,Aw]
 omega
def lQ:PF:=λds R=>∃i:Int,ds=[.int i]/\R (.bool true)
def eB:PF:=λds R=>∃(h:Int) (w:List Int),ds=[.int h,Bw w]/\Hv h w/\R (.bool true)
def aR:PF:=λds R=>∃(h:Int) (c:List (List Int)),ds=[.int h,En c]/\Chn h c/\R (.bool true)
def jK:PF:=λds R=>∃(h:Int) (C:List (List (List Int))),ds=[.int h,Lj C]/\0<=h/\h<=11/\(∀c∈C,Chn h c)/\C.flatten.length<=1100/\C.flatten.Nodup/\R (.bool (decide (C.flatten.length=2 ^ h.toNat)))
section
variable{P:Bm}{w:World}{K:PySem.W.Frag}{mg:Str->Option Value}{base:Heap}
theorem eN:FnScope ["thing"] ["thing"] (Ca Ry):=⟨rfl,rfl,rfl,by decide +kernel,rfl,by decide +kernel,by decide +kernel⟩
theorem fJ{f   : Addr}{fd  : Cg}(F:Fun K "is_whole" "is_whole" Ry f fd)(mz_bool:mg "bool" = none)(mz_isinstance:mg "isinstance" = none)(mz_int:mg "int" = none):FnOk P w K mg base Kd 1 f fd ["thing"] (Qx K (lQ)):=by
 refine' Ku (k:=0) F eN (λcdv A outer s H E hr=>?hb) ?h
 case hb =>
  have hu64:=hr.units
  exact Ei (Fj (pH (Ew Rt Rr rfl mz_isinstance (by decide +kernel) (Ba (Bk (pv 0)) (Ba (Yk (n := "int") rfl mz_int (by decide +kernel)) By))) (tK (i5 (Ew Rt Rr rfl mz_isinstance (by decide +kernel) (Ba (Bk (pv 0)) (Ba (Yk (n := "bool") rfl mz_bool (by decide +kernel)) By)))))))
 case h =>
  (intro ds R q_; obtain ⟨i,rfl,hR⟩ := q_)
  refine ⟨rfl,?_⟩
  array_get_dec
  exact hR
theorem gX:FnScope ["holes", "thing", "least", "place"] ["holes", "thing"] (Ca Ui):=⟨rfl,rfl,rfl,by decide +kernel,rfl,by decide +kernel,by decide +kernel⟩
theorem gH{f f_is_whole  : Addr}{fd d_is_whole:Cg}(F:Fun K "is_word" "is_word" Ui f fd)(G_is_whole:FnOk P w K mg base Kd 1 f_is_whole d_is_whole ["thing"] (Qx K (lQ)))(b_is_whole:Binds K d_is_whole ["thing"] [])(k_is_whole:PySem.W.keepIn K (.ref f_is_whole)=true)(m_is_whole:mg "is_whole" = some (.ref f_is_whole))(mz_tuple:mg "tuple" = none)(mz_isinstance:mg "isinstance" = none):FnOk P w K mg base Kd 2 f fd ["holes", "thing"] (Qx K (eB)):=by
 refine' Ku (k:=1) F gX (λcdv A outer s H E hr=>?hb) ?h
 case hb =>
  have hr1:Room 1 _:=hr.mono (by decide)
  have hu64:=hr.units
  exact Dy (Lz (Ky (La (Ew Rt Rr rfl mz_isinstance (by decide +kernel) (Ba (Bk (pv 1)) (Ba (Yk (n := "tuple") rfl mz_tuple (by decide +kernel)) By)))))
   (Ei (Fj Jj)) Jp)
   (Dy (Ug (i:=2) gX.nd rfl (Ff rfl) Eu)
   (Dy (Pq Er rfl (U1 (Bk (pv 1))) (Ks (i:=3) gX.nd rfl (Ff rfl))
   (Dy (Lz (fW (Vq (Ky (La (Hy G_is_whole hr1 rfl m_is_whole k_is_whole b_is_whole Kb (Ba (Bk (pv 3)) By)))) (Vq (yH (Bk (pv 3)) (Bk (pv 2))) (Rv (O3 (Bk (pv 3)) (Bk (pv 0)))))))
    (Ei (Fj Jj)) Jp)
    (Ei (Ug (i:=2) gX.nd rfl (Ff rfl) (Rk (Bk (pv 3)) Eu)))))
   (Ei (Fj Jj))))
 case h =>
  (intro ds R q_; obtain ⟨h,w,rfl,rw,hR⟩ := q_)
  refine ⟨rfl,?_⟩
  array_get_dec
  refine fB (l:=w) (g:=Bl) rfl (λi δ=>∃(l:Int) (v:DV),δ=⟨[.dat .sh (.int h),.dat .sh (Bw w),.dat .sh (.int l),v],0⟩/\NP v/\∀(j:Nat) (x:Int),i<=j->w[j]? = some x->l<=x) ?_ ?_ ?_
  ·exact ⟨_,_,rfl,Ml,λj x _ hx=>(rw.2 x (Az hx)).1⟩
  ·(intro i x _ hx q_; obtain ⟨l,v,rfl,hv,hl⟩ := q_)
   have b:=rw.2 x (Az hx)
   have hlx:=hl i x (Ah _) hx
   array_get_dec
   refine ⟨x,rfl,?_⟩
   array_get_dec
   refine pP (λq=>absurd (of_decide_eq_true q) (by omega)) (λ_=>?_)
   array_get_dec
   refine Xs (λq=>absurd (of_decide_eq_true q) (by omega)) (λ_=>?_)
   array_get_dec
   refine ⟨_,_,rfl,Np,λj y hj hy=>?_⟩
   obtain ⟨i1,i2⟩:=Aq.mp hx
   obtain ⟨j1,j2⟩:=Aq.mp hy
   have:=Dc.mp rw.1 i j i1 j1 (by omega)
   omega
  ·(intro _ q_; obtain ⟨l,v,rfl,hv,hl⟩ := q_)
   array_get_dec
   exact hR
theorem oR:FnScope ["one", "other"] ["one", "other"] (Ca Tn):=⟨rfl,rfl,rfl,by decide +kernel,rfl,by decide +kernel,by decide +kernel⟩
theorem nP{f   : Addr}{fd  : Cg}(F:Fun K "within" "within" Tn f fd)(mz_all:mg "all" = none):FnOk P w K mg base Kd 1 f fd ["one", "other"] (Qx K (O2)):=by
 refine' Ku (k:=0) F oR (λcdv A outer s H E hr=>?hb) ?h
 case hb =>
  have hu64:=hr.units
  have CS1:∀{scope:Scope} (h:scope={ kind:=.function,names:=[(".0",.local),("place",.local),("other",.free)],isGenerator:=false,isCoroutine:=false }),
    CompScope (Qr Kd P w K mg base ["one", "other"] "within" (Ca Tn) f cdv A outer s H E).nox scope [("other",s.heap.objs.size+1)] "place" ["other"] [1]:=by
   rintro scope rfl
   refine ⟨by rfl,.inl (by decide +kernel),by rfl,by decide +kernel,.inl rfl,λy c h=>?_,by rfl,by decide +kernel,rfl,λk y j e1 e2=>?_⟩
   ·have z:=Hn h
    simp only[An,Bh,or_false,Nf] at z
    obtain ⟨rfl,rfl⟩:=z; rfl
   ·match k,e1,e2 with
    | 0,e1,e2=>cases e1; cases e2; exact ⟨rfl,rfl,by first | exact .inl rfl | exact .inr rfl⟩
    | k+1,e1,e2=>cases e1
  exact Ei (Fj (Ew (sW rfl) zT rfl mz_all (by decide +kernel) (Ba (Wm (CS1 rfl) rfl (U1 (Bk (pv 0))) (λ_ _ _=>Pl) (λ_ _ _=>O7 hu64 (Bk (pv 0)) (Bk (pv 1)))) By)))
 case h =>
  (intro ds R q_; obtain ⟨a,b,rfl,hR⟩ := q_)
  refine ⟨rfl,?_⟩
  array_get_dec
  refine eO (l:=a) (g:=Bl) rfl (λi=>.bool (decide (i∈b))) (λi _ yes no hy=>?_) ?_
  ·array_get_dec
   exact hy
  ·array_get_dec
   refine ⟨a.map λi=>decide (i∈b),by rw[Ci]; rfl,?_⟩
   rw[Wg]
   exact hR
theorem eM:FnScope ["holes", "thing", "word", "lower", "upper"] ["holes", "thing"] (Ca Rl):=⟨rfl,rfl,rfl,by decide +kernel,rfl,by decide +kernel,by decide +kernel⟩
theorem dS{f f_is_word f_within  : Addr}{fd d_is_word d_within:Cg}(F:Fun K "is_chain" "is_chain" Rl f fd)(G_is_word:FnOk P w K mg base Kd 2 f_is_word d_is_word ["holes", "thing"] (Qx K (eB)))(b_is_word:Binds K d_is_word ["holes", "thing"] [])(k_is_word:PySem.W.keepIn K (.ref f_is_word)=true)(m_is_word:mg "is_word" = some (.ref f_is_word))(G_within:FnOk P w K mg base Kd 1 f_within d_within ["one", "other"] (Qx K (O2)))(b_within:Binds K d_within ["one", "other"] [])(k_within:PySem.W.keepIn K (.ref f_within)=true)(m_within:mg "within" = some (.ref f_within))(mz_len:mg "len" = none)(mz_list:mg "list" = none)(mz_isinstance:mg "isinstance" = none)(mz_zip:mg "zip" = none):FnOk P w K mg base Kd 3 f fd ["holes", "thing"] (Qx K (aR)):=by
 refine' Ku (k:=2) F eM (λcdv A outer s H E hr=>?hb) ?h
 case hb =>
  have hr1:Room 1 _:=hr.mono (by decide)
  have hr2:Room 2 _:=hr.mono (by decide)
  have hu64:=hr.units
  exact Dy (Lz (fW (Vq (Ky (La (Ew Rt Rr rfl mz_isinstance (by decide +kernel) (Ba (Bk (pv 1)) (Ba (Yk (n := "list") rfl mz_list (by decide +kernel)) By))))) (Rv (zC hu64 (Ew Ji Mz rfl mz_len (by decide +kernel) (Ba (Bk (pv 1)) By)) Eu))))
   (Ei (Fj Jj)) Jp)
   (Dy (Pq Er rfl (zH (Bk (pv 1))) (Ks (i:=2) eM.nd rfl (Ff rfl))
   (Ei (Lz (Ky (La (Hy G_is_word hr2 rfl m_is_word k_is_word b_is_word Kb (Ba (Bk (pv 0)) (Ba (Bk (pv 2)) By)))))
    (Ei (Fj Jj)) Jp)))
   (Dy (Pq Er rfl (qS rfl mz_zip (Ba (Bk (pv 1)) (Ba (Nj (i:=true) (Bk (pv 1)) (Lw Eu) Lr) By))) (qO (n:=2) rfl (Sk (Ks (i:=3) eM.nd rfl (Ff rfl)) (Sk (Ks (i:=4) eM.nd rfl (Ff rfl)) lJ)))
   (Ei (Lz (fW (Vq (kU hu64 (Ew Ji Mz rfl mz_len (by decide +kernel) (Ba (Bk (pv 4)) By)) (Rk (Ew Ji Mz rfl mz_len (by decide +kernel) (Ba (Bk (pv 3)) By)) Eu)) (Rv (Ky (La (Hy G_within hr1 rfl m_within k_within b_within Kb (Ba (Bk (pv 3)) (Ba (Bk (pv 4)) By))))))))
    (Ei (Fj Jj)) Jp)))
   (Ei (Fj Jj))))
 case h =>
  (intro ds R q_; obtain ⟨h,c,rfl,hc,hR⟩ := q_)
  refine ⟨rfl,?_⟩
  unfold En
  array_get_dec
  have l0:0<c.length:=Jq.mpr hc.ne
  refine Xs (λq=>absurd (of_decide_eq_true q) (by rw[Ab]; omega)) (λ_=>?_)
  array_get_dec
  refine fB (l:=c) (g:=Bw) rfl (λi δ=>∃v2 v3 v4:DV,δ=⟨[.dat .sh (.int h),.dat .sh (.list (c.map Bw)),v2,v3,v4],0⟩/\NP v2/\NP v3/\NP v4) ?_ ?_ ?_
  ·exact ⟨_,_,_,rfl,Ml,Ml,Ml⟩
  ·(intro i w _ hw q_; obtain ⟨v2,v3,v4,rfl,hv2,hv3,hv4⟩ := q_)
   array_get_dec
   refine ⟨h,w,rfl,hc.words w (Az hw),?_⟩
   array_get_dec
   exact ⟨_,_,_,rfl,Np,hv3,hv4⟩
  ·(intro _ q_; obtain ⟨v2,v3,v4,rfl,hv2,hv3,hv4⟩ := q_)
   array_get_dec
   rw[G9]
   refine fB (l:=c.zip c.tail) (g:=λp=>.tuple [Bw p.1,Bw p.2]) rfl (λi δ=>∃v2 v3 v4:DV,δ=⟨[.dat .sh (.int h),.dat .sh (.list (c.map Bw)),v2,v3,v4],0⟩/\NP v2/\NP v3/\NP v4) ?_ ?_ ?_
   ·exact ⟨_,_,_,rfl,hv2,hv3,hv4⟩
   ·(intro i p _ hp q_; obtain ⟨v2,v3,v4,rfl,hv2,hv3,hv4⟩ := q_)
    obtain ⟨a1,a2⟩:=hc.adj p (Az hp)
    array_get_dec
    refine pP (λq=>?_) (λ_=>?_)
    ·rw[Ab,Ab] at q
     exact absurd q (by simp; omega)
    array_get_dec
    refine ⟨p.1,p.2,rfl,?_⟩
    rw[show sub p.1 p.2=true from a2]
    array_get_dec
    exact ⟨_,_,_,rfl,hv2,Np,Np⟩
   ·(intro _ q_; obtain ⟨v2,v3,v4,rfl,hv2,hv3,hv4⟩ := q_)
    exact hR
theorem Zj:FnScope ["holes", "thing", "words", "chain"] ["holes", "thing"] (Ca Og):=⟨rfl,rfl,rfl,by decide +kernel,rfl,by decide +kernel,by decide +kernel⟩
theorem Zd{f f_is_chain  : Addr}{fd d_is_chain:Cg}(F:Fun K "shows_most" "shows_most" Og f fd)(G_is_chain:FnOk P w K mg base Kd 3 f_is_chain d_is_chain ["holes", "thing"] (Qx K (aR)))(b_is_chain:Binds K d_is_chain ["holes", "thing"] [])(k_is_chain:PySem.W.keepIn K (.ref f_is_chain)=true)(m_is_chain:mg "is_chain" = some (.ref f_is_chain))(mz_list:mg "list" = none)(mz_isinstance:mg "isinstance" = none)(mz_len:mg "len" = none)(mz_set:mg "set" = none):FnOk P w K mg base Kd 4 f fd ["holes", "thing"] (Qx K (jK)):=by
 refine' Ku (k:=3) F Zj (λcdv A outer s H E hr=>?hb) ?h
 case hb =>
  have hr1:Room 1 _:=hr.mono (by decide)
  have hr2:Room 2 _:=hr.mono (by decide)
  have hr3:Room 3 _:=hr.mono (by decide)
  have hu64:=hr.units
  exact Dy (Lz (Ky (La (Ew Rt Rr rfl mz_isinstance (by decide +kernel) (Ba (Bk (pv 1)) (Ba (Yk (n := "list") rfl mz_list (by decide +kernel)) By)))))
   (Ei (Fj Jj)) Jp)
   (Dy (Wo (i:=2) Zj.nd rfl (Ff rfl) (Kz By))
   (Dy (Pq Er rfl (zH (Bk (pv 1))) (Ks (i:=3) Zj.nd rfl (Ff rfl))
   (Dy (Lz (Ky (La (Hy G_is_chain hr3 rfl m_is_chain k_is_chain b_is_chain Kb (Ba (Bk (pv 0)) (Ba (Bk (pv 3)) By)))))
    (Ei (Fj Jj)) Jp)
    (Ei (nJ (pv 2) (Bk (pv 3))))))
   (Ei (Fj (pH (kA hu64 (Ew Ji Mz rfl mz_len (by decide +kernel) (Ba (Bk (pv 2)) By)) (mP hu64 rfl rfl mz_len rfl mz_set (Ba (Bk (pv 2)) By))) (tK (kA hu64 (Ew Ji Mz rfl mz_len (by decide +kernel) (Ba (Bk (pv 2)) By)) (zL Eu (Bk (pv 0))))))))))
 case h =>
  (intro ds R q_; obtain ⟨h,C,rfl,h0,h1,hC,lC,nC,hR⟩ := q_)
  refine ⟨rfl,?_⟩
  unfold Lj
  array_get_dec
  refine fB (l:=C) (g:=En) rfl (λi δ=>∃v3:DV,δ=⟨[.dat .sh (.int h),.dat .sh (.list (C.map En)),.dat .ow (.list ((C.take i).flatten.map Bw)),v3],0⟩/\NP v3) ?_ ?_ ?_
  ·exact ⟨_,rfl,Ml⟩
  ·(intro i c _ hc q_; obtain ⟨v3,rfl,hv3⟩ := q_)
   array_get_dec
   refine ⟨h,c,rfl,hC c (Az hc),?_⟩
   unfold En
   array_get_dec
   have e:=Xg hc
   have le:=fH C (i+1)
   rw[e,Aw] at le
   refine ⟨by rw[Ab,Ab]; omega,?_⟩
   rw[e,Bz]
   exact ⟨_,rfl,Np⟩
  ·(intro _ q_; obtain ⟨v3,rfl,hv3⟩ := q_)
   rw[Gi]
   array_get_dec
   refine ⟨C.flatten,rfl,lC,λn _ h2=>?_⟩
   obtain rfl:=h2 nC
   refine u0 (λq=>?_) (λq=>?_)
   ·array_get_dec
    refine ⟨⟨h0,by omega,by decide⟩,?_⟩
    rw[Ab,Int.one_mul,show ((2:Int) ^ h.toNat)=((2 ^ h.toNat:Nat):Int) by simp,decide_eq_decide.mpr Int.ofNat_inj]
    exact hR
   ·rw[Ab] at q
    exact absurd q (by simp)
end
theorem Xp:∀{c:List (List Int)} (z:List Int),c≠[]->(c++[z]).zip (c++[z]).tail=c.zip c.tail++[(Ls c,z)]
 | [],_,h=>absurd rfl h
 | [a],z,_=>rfl
 | a::b::c,z,_=>by
  have ih:=Xp (c:=b::c) z (by simp)
  show (a,b)::((b::c++[z]).zip (b::c++[z]).tail)=_
  rw[ih]
  show _=(a,b)::((b::c).zip (b::c).tail++[(Ls (a::b::c),z)])
  congr 2
theorem sG{c:List (List Int)}{p:List Int×List Int}(h:p∈c.dropLast.zip c.dropLast.tail):p∈c.zip c.tail:=by
 by_cases ne:c=[]
 ·rw[ne] at h; cases h
 have e:=Cm ne
 by_cases nd:c.dropLast=[]
 ·rw[nd] at h; cases h
 rw[<- e,Xp _ nd]
 exact Ao _ h
theorem uG{n:Nat}{c d:List (List Int)}(hn:n<50)(h:Chn n c)(hl:c.length<=n+1)(hd:d∈Fh c n):Chn ((n+1:Nat):Int) d:=by
 have l1:d.length<=n+2:=by
  unfold Fh at hd
  split at hd
  ·rw[Af.mp hd,Aw,Eg]; omega
  ·rcases An.mp hd with rfl | hd
   ·rw[Aw,Eg]; omega
   ·rw[Af.mp hd]; unfold Zb; rw[Ab,Lm]; omega
 have A:d=c++[Ls c++[(n:Int)]]->Chn ((n+1:Nat):Int) d:=λe=>by
  subst e
  refine ⟨by simp,λw hw=>?_,λp hp=>?_,by omega⟩
  ·rcases Au.mp hw with hw | hw
   ·exact (Kk (h.words w hw)).1
   ·rw[Af.mp hw]; exact (Kk (h.words _ (bS h.ne))).2
  ·rw[Xp _ h.ne] at hp
   rcases Au.mp hp with hp | hp
   ·exact h.adj p hp
   ·rw[Af.mp hp]
    refine ⟨by simp,U2.mpr λi hi=>Ao _ hi⟩
 have B:d=Zb c n->Zb c n≠[]->Chn ((n+1:Nat):Int) d:=λe ne=>by
  subst e
  refine ⟨ne,λw hw=>?_,λp hp=>?_,by omega⟩
  ·obtain ⟨u,hu,rfl⟩:=Cp.mp hw
   exact (Kk (h.words u (Jg _ hu))).2
  ·unfold Zb at hp
   rw[<- List.map_tail,List.zip_map] at hp
   obtain ⟨q,hq,rfl⟩:=Cp.mp hp
   obtain ⟨a1,a2⟩:=h.adj q (sG hq)
   exact ⟨by show (q.2++[(n:Int)]).length=(q.1++[(n:Int)]).length+1; simp [a1],(bY a2).2⟩
 unfold Fh at hd
 split at hd
 ·exact A (Af.mp hd)
 ·rename_i ne
  rcases An.mp hd with e | hd
  ·exact A e
  ·exact B (Af.mp hd) ne
theorem Ym:∀{n:Nat},n<50->∀c∈Fu n,Chn n c
 | 0,_,c,hc=>by
  rw[Af.mp hc]
  refine ⟨by simp,λw hw=>?_,(λp hp=>by cases hp),by decide⟩
  rw[Af.mp hw]
  exact ⟨Dz,λ_ z=>nomatch z⟩
 | n+1,hn,d,hd=>by
  obtain ⟨c,hc,hd⟩:=Dn.mp hd
  exact uG (by omega) (Ym (by omega) c hc) ((Ma n).len c hc) hd
theorem iI{c:List (List Int)}{n:Int}(ne:c≠[]):(Fh c n).flatten.Perm (c++c.map λw=>w++[n]):=by
 have e:c.map (λw=>w++[n])=Zb c n++[Ls c++[n]]:=by
  conv=>lhs; rw[<- Cm ne]
  rw[Bz]
  unfold Zb Ls
  rw[Gw,Fq ne]
  rfl
 rw[e]
 unfold Fh
 split
 ·rename_i z
  rw[z]
  simp
 ·simp only[Nw,List.flatten_nil,Ec,Bg]
  exact (Di).append_left c
theorem Zw(n:Int):∀(C:List (List (List Int))),(∀c∈C,c≠[])->(C.flatMap λc=>Fh c n).flatten.Perm (C.flatten++C.flatten.map λw=>w++[n])
 | [],_=>Ic _
 | c::C,h=>by
  rw[Ir,Tx,Nw,Bz]
  have a:=iI (n:=n) (h c Aa)
  have b:=Zw n C λd hd=>h d (Ae _ hd)
  refine (a.append b).trans ?_
  rw[Bg,Bg]
  refine Hu c ?_
  rw[<- Bg,<- Bg]
  exact (Di).append_right _
theorem Po:∀n,(Fu n).flatten.Perm (Eo n)
 | 0=>Ic _
 | n+1=>by
  have b:=Zw (n:Int) (Fu n) (Ma n).ne
  exact b.trans ((Po n).append ((Po n).map _))
def kJ:Nat->List Nat
 | 0=>[1]
 | n+1=>(kJ n).flatMap λl=>if l=1 then [2] else [l+1,l - 1]
theorem iJ{c:List (List Int)}{n:Int}(ne:c≠[]):(Fh c n).map Hb=if c.length=1 then [2] else [c.length+1,c.length - 1]:=by
 have l0:0<c.length:=Jq.mpr ne
 have lu:(Zb c n).length=c.length - 1:=by unfold Zb; rw[Ab,Lm]
 unfold Fh
 by_cases z:Zb c n=[]
 ·have : c.length=1:=by rw[z] at lu; simp at lu; omega
  rw[if_pos z,if_pos this]
  simp [this]
 ·have : c.length≠1:=λq=>z (Kf.mp (by omega))
  rw[if_neg z,if_neg this]
  simp [lu]
theorem Vm:∀n,(Fu n).map Hb=kJ n
 | 0=>rfl
 | n+1=>by
  show ((Fu n).flatMap λc=>Fh c n).map Hb=(kJ n).flatMap _
  rw[<- Vm n,List.map_flatMap,List.flatMap_map]
  have : ∀(C:List (List (List Int))),(∀c∈C,c≠[])->C.flatMap (λc=>(Fh c n).map Hb)=C.flatMap λc=>if c.length=1 then [2] else [c.length+1,c.length - 1]:=by
   intro C
   induction C with
   | nil=>intro _; rfl
   | cons c C ih =>
    intro h
    rw[Ir,Ir,iJ (h c Aa),ih λd hd=>h d (Ae _ hd)]
  exact this _ (Ma n).ne
theorem fZ{n:Nat}(h:n<=10):(Fu n).length=ch n (n / 2):=by
 have key:∀k:Fin 11,(kJ k.1).length=ch k.1 (k.1 / 2):=by decide +kernel
 have:=key ⟨n,by omega⟩
 rw[<- Vm,Ab] at this
 exact this
def xZ:PF:=λds R=>∃u v:List Int,ds=[Bw u,Bw v]/\R (.bool (oV u v))
section
variable{P:Bm}{w:World}{K:PySem.W.Frag}{mg:Str->Option Value}{base:Heap}
theorem Xw:FnScope ["_law_one", "_law_other"] ["_law_one", "_law_other"] (Ca Kr):=⟨rfl,rfl,rfl,by decide +kernel,rfl,by decide +kernel,by decide +kernel⟩
theorem Xy{f   : Addr}{fd  : Cg}(F:Fun K "_law_within" "_law_within" Kr f fd):FnOk P w K mg base Kd 1 f fd ["_law_one", "_law_other"] (Qx K (xZ)):=by
 refine' Ku (k:=0) F Xw (λcdv A outer s H E hr=>?hb) ?h
 case hb =>
  have hu64:=hr.units
  have CS1:∀{scope:Scope} (h:scope={ kind:=.function,names:=[(".0",.local),("_law_place",.local),("_law_other",.free)],isGenerator:=false,isCoroutine:=false }),
    CompScope (Qr Kd P w K mg base ["_law_one", "_law_other"] "_law_within" (Ca Kr) f cdv A outer s H E).nox scope [("_law_other",s.heap.objs.size+1)] "_law_place" ["_law_other"] [1]:=by
   rintro scope rfl
   refine ⟨by rfl,.inl (by decide +kernel),by rfl,by decide +kernel,.inl rfl,λy c h=>?_,by rfl,by decide +kernel,rfl,λk y j e1 e2=>?_⟩
   ·have z:=Hn h
    simp only[An,Bh,or_false,Nf] at z
    obtain ⟨rfl,rfl⟩:=z; rfl
   ·match k,e1,e2 with
    | 0,e1,e2=>cases e1; cases e2; exact ⟨rfl,rfl,by first | exact .inl rfl | exact .inr rfl⟩
    | k+1,e1,e2=>cases e1
  exact Ei (Fj (kA hu64 (Wm (CS1 rfl) rfl (U1 (Bk (pv 0))) (λ_ _ _=>wV (rT hu64 (Bk (pv 0)) (Bk (pv 1)))) (λ_ _ _=>Bk (pv 0))) (Kz By)))
 case h =>
  (intro ds R q_; obtain ⟨u,v,rfl,hR⟩ := q_)
  refine ⟨rfl,?_⟩
  array_get_dec
  refine yM (l:=u) (g:=Bl) rfl (λi=>decide (i∉v)) (λi=>.int i) (λi _ yes no hy hn=>?_) ?_
  ·array_get_dec
   refine wF (λh=>?_) (λh=>?_)
   ·array_get_dec
    exact hy (by simpa using h)
   ·exact hn (by simpa using h)
  ·array_get_dec
   have e:(List.map (λi=>Bl i) (List.filter (λi=>decide (i∉v)) u)).isEmpty=oV u v:=by
    unfold oV
    rw[Bool.eq_iff_iff]
    simp
   rw[e]
   exact hR
theorem Yo:FnScope ["_law_holes", "_law_told", "_law_place"] ["_law_holes"] (Ca Mb):=⟨rfl,rfl,rfl,by decide +kernel,rfl,by decide +kernel,by decide +kernel⟩
theorem cO{f:Addr}{fd:Cg}(F:Fun K "_law_all" "_law_all" Mb f fd)(mR:mg "range" = none)(mS:mg "sorted" = none):FnOk P w K mg base Kd 1 f fd ["_law_holes"] kX:=by
 refine F.ok Yo (λvs H Q E h=>?_) (λcdv A outer s H vs Q E hr h=>?_)
 ·obtain ⟨h,rfl,_⟩:=h
  rfl
 obtain ⟨h,rfl,h0,h1,q⟩:=h
 have hu2:(A.deeper (PyProof.Rows.envOfC "_law_all" (Ca Mb) s.heap.objs.size f cdv)).units+2<cLine:=Nh (Nat.add_le_add_left (by decide:2<=64) _) hr.units
 refine ⟨_,Gs (Mv (i:=1) Yo.nd rfl (Ff rfl) (Ru (Ez (iK Gv) Gv)))
  (Gs (bV Er rfl (Qm rfl mR (Ez (pv 0) Gv)) (Iy (i:=2) Yo.nd rfl (Or.inr rfl))
   (Kq (Mv (i:=1) Yo.nd rfl (Ff rfl) (Hg bQ (pv 1)
    (bL (gT (x := "_law_word") (y := "_law_place") (j:=2) (cl:=[("_law_place",s.heap.objs.size+1)]) (by rfl) (by decide +kernel) (by rfl) (by decide +kernel) (by rfl) (λ_ _ h=>h) (by rfl) (by decide +kernel) (by rfl) (by rfl) (by rfl)) rfl (Sv (pv 1)) (λ_ _ _=>Yj)
     (λ_ _ _=>Hg (r:=yX K) wX (pv 0) (iK (Ez (pv 1) Gv))))))))
  (Kq (Uo (Sr (Ts.call_sorted hu2) rfl mS (by decide +kernel) (Ez (pv 1) Gv))))),?_⟩
 refine ⟨(by show 0<=Av; decide),λe ne=>⟨(by show 1<=Av; decide),λl nl=>?_⟩⟩
 have s1:=(Dq ne (.tup [])).trans (Dq nl (.lst [V.ref e]))
 have b1:(upd (upd H e (.tup [])) l (.lst [V.ref e])) l=some (.lst (([(e,[])].map λp:Addr×List Int=>p.1).map V.ref)):=Cn
 have b2:Ws (upd (upd H e (.tup [])) l (.lst [V.ref e])) [(e,[])]:=λp hp=>by
  have : p=(e,[]):=by simpa using hp
  rw[this]
  exact Dq nl _ _ _ Cn
 refine ⟨_,rfl,h,rfl,by omega,by omega,Zx (lo:=0) (n:=h.toNat) (λi σ H2=>∃(l:Addr) (ws:List (Addr×List Int)) (pl:Option V),σ=[some (.int h),some (.ref l),pl]/\H2 l=some (.lst ((ws.map λp:Addr×List Int=>p.1).map V.ref))/\Ws H2 ws/\(ws.map λp:Addr×List Int=>p.2)=Eo i/\Jk H H2)
  ⟨l,[(e,[])],none,rfl,b1,b2,rfl,s1⟩ ?_ ?_⟩
 ·(intro i σ H2 hi q_; obtain ⟨l,ws,pl,rfl,e1,hw,ew,sm⟩ := q_)
  have i10:i<=10:=by omega
  have lw:ws.length=(Eo i).length:=by rw[<- ew,Ab]
  have lz:=Oj i10
  have hz:((ws.map λp:Addr×List Int=>p.1).map V.ref).length=(Eo i).length:=by rw[Ab,Ab,lw]
  refine ⟨_,rfl,_,rfl,l,rfl,⟨_,Ox.of e1⟩,kM (Pr (xs:=(ws.map λp:Addr×List Int=>p.1).map V.ref)) (by rw[hz]; exact Bv lz (by decide))
   (λD j acc H3=>∃vs:List (Addr×List Int),acc=((vs.map λp:Addr×List Int=>p.1).map V.ref)/\Ws H3 vs/\(vs.map λp:Addr×List Int=>p.2)=((Eo i).take j).map (·++[(i:Int)])/\Jk H2 H3)
   (λD nD=>⟨[],rfl,λp hp=>(nomatch hp),by simp,Dq nD _⟩) (λD j acc H3 ⟨_,_,_,_,s3⟩=>Ox.of (s3 _ _ e1)) ?_ ?_⟩
  ·(intro D j x acc H3 nD hx ha q_; obtain ⟨vs,rfl,wv,ev,s3⟩ := q_)
   refine A0 ?_
   rw[Ci,Bf] at hx
   cases hj:ws[j]? with
   | none=>rw[hj] at hx; cases hx
   | some pr =>
    obtain ⟨a,wd⟩:=pr
    rw[hj] at hx
    have ex:V.ref a=x:=Bt hx
    subst ex
    have ha2:H3 a=some (.tup (wd.map V.int)):=s3 _ _ (hw (a,wd) (Az hj))
    have ewd:(Eo i)[j]? = some wd:=by
     rw[<- ew,Bf,hj]
     rfl
    have lwd:wd.length<=10:=Bv (Mp i wd (Az ewd)) i10
    -- the new word stands at r
    have fin:∀(r:Addr) (H4:Hp),Jk H3 H4->H4 r=some (.tup ((wd++[(i:Int)]).map V.int))->H4 D=some (.lst ((vs.map λp:Addr×List Int=>p.1).map V.ref)) /\
      ∃vs':List (Addr×List Int),(vs.map λp:Addr×List Int=>p.1).map V.ref++[V.ref r]=(vs'.map λp:Addr×List Int=>p.1).map V.ref/\Ws (upd H4 D (.lst ((vs.map λp:Addr×List Int=>p.1).map V.ref++[V.ref r]))) vs' /\
       (vs'.map λp:Addr×List Int=>p.2)=((Eo i).take (j+1)).map (·++[(i:Int)])/\Jk H2 (upd H4 D (.lst ((vs.map λp:Addr×List Int=>p.1).map V.ref++[V.ref r]))):=λr H4 s4 hr4=>by
     have hD4:=s4 _ _ ha
     refine ⟨hD4,vs++[(r,wd++[(i:Int)])],by simp,λp hp=>?_,?_,λb o z=>?_⟩
     ·have hp4:H4 p.1=some (.tup (p.2.map V.int)):=by
       rcases Au.mp hp with hp | hp
       ·exact s4 _ _ (wv p hp)
       ·have : p=(r,wd++[(i:Int)]):=by simpa using hp
        rw[this]
        exact hr4
      rw[Dm (C3 hp4 hD4 (by intro z; cases z))]
      exact hp4
     ·rw[Bz,ev,Ni ewd,Bz]
      rfl
     ·rw[Dm (Fd z nD)]
      exact s4 _ _ (s3 _ _ z)
    refine ⟨_,rfl,_,rfl,(by show 1<=Av; decide),λp1 np1=>?_⟩
    have s4:=Dq np1 (.tup [V.int (0+(i:Int))])
    refine ⟨a,p1,_,_,rfl,rfl,Ri.of (s4 _ _ ha2),Ri.of Cn,(λz=>nomatch z),?_,λz=>?_,λz p2 np2=>?_⟩
    ·rw[Ab]
     show wd.length+1<=Av
     exact yW (by omega)
    ·have e0:wd=[]:=by simpa using z
     subst e0
     exact fin p1 _ s4 (by rw[Cn,Qq]; rfl)
    ·refine fin p2 _ (s4.trans (Dq np2 _)) ?_
     rw[Cn,Bz,Qq]
     rfl
  ·(intro D acc H3 nD ha q_; obtain ⟨vs,rfl,wv,ev,s3⟩ := q_)
   rw[hz,Gi] at ev
   have lv:vs.length=(Eo i).length:=by
    have:=congrArg Hb ev
    rw[Ab,Ab] at this
    exact this
   refine ⟨l,D,_,_,rfl,rfl,s3 _ _ e1,ha,?_,λp np=>?_⟩
   ·rw[Ab,Ab,Ab,Ab,lw,lv]
    exact Bv (by omega:_<=2048) (by decide)
   ·have s4:=Dq np (.lst ((ws.map λp:Addr×List Int=>p.1).map V.ref++(vs.map λp:Addr×List Int=>p.1).map V.ref))
    refine ⟨p,ws++vs,_,rfl,?_,λx hx=>?_,?_,(sm.trans s3).trans s4⟩
    ·rw[Cn,Bz,Bz]
    ·rcases Au.mp hx with hx | hx
     ·exact s4 _ _ (s3 _ _ (hw x hx))
     ·exact s4 _ _ (wv x hx)
    ·rw[Bz,ew,ev]
     rfl
 ·(intro σ H2 q_; obtain ⟨l,ws,pl,rfl,e1,hw,ew,sm⟩ := q_)
  have ec:=hw.c
  refine ⟨_,rfl,l,ws.map (λp:Addr×List Int=>p.1),zQ H2,rfl,Ox.of e1,λr hr'=>?_,λr Ex er=>?_,λp rs' np pr so=>?_⟩
  ·obtain ⟨x,hx,e⟩:=Cp.mp hr'
   subst e
   rw[cG (hw x hx)]
   exact Ri.of (hw x hx)
  ·obtain ⟨tl,et⟩:=Vo h.toNat
   rw[<- ew] at et
   cases ws with
   | nil=>cases er
   | cons x ws' =>
    have e1:x.1=r:=by
     have:=congrArg List.head? er
     simpa using this
    have e2:x.2=[]:=by
     have:=congrArg List.head? et
     simpa using this
    rw[<- e1,cG (hw x Aa),e2]
  ·have s3:=Dq np (.lst (rs'.map V.ref))
   refine q p rs' (rs'.map (zQ H2)) _ (sm.free np) Cn (λi r wd h1 h2=>?_) (by rw[Ab]) ?_ ?_ (sm.trans s3)
   ·rw[Bf,h1] at h2
    have e2:zQ H2 r=wd:=Bt h2
    obtain ⟨x,hx,e⟩:=Cp.mp (pr.mem_iff.mp (Az h1))
    have hx':=hw x hx
    have e':x.1=r:=e
    rw[<- e2,<- e',cG hx']
    exact s3 _ _ hx'
   ·have:=pr.map (zQ H2)
    rw[ec,ew] at this
    exact this
   ·exact Wd.mpr so
theorem fV{f:Addr}{fd:Cg}(F:Fun K "_law_all" "_law_all" Mb f fd)(mR:mg "range" = none)(mS:mg "sorted" = none):FnOk P w K mg base Kd 1 f fd ["_law_holes"] (Qx K cQ):=uL (cO F mR mS)
end
def Yz(n:Nat):List Int:=(Bp (n+1)).map λk=>(ch n k:Int)
theorem Wi(n:Nat):(Yz n).length=n+1:=by unfold Yz; rw[Ab,Cs]
theorem iC{n k:Nat}(h:k<=n):(Yz n)[k]? = some (ch n k:Int):=by
 unfold Yz
 rw[Bf,Tw (by omega)]
 rfl
theorem pJ(n:Nat):[1]++((Bp n).map λj=>((ch n j:Int)+(ch n (j+1):Int)))++[1]=Yz (n+1):=by
 unfold Yz
 rw[jB,Bc,Ci,List.range_succ,Bz,Oe]
 have e:(Bp n).map ((λk=>(ch (n+1) k:Int)) ∘ Nat.succ)=(Bp n).map λj=>((ch n j:Int)+(ch n (j+1):Int)):=by
  refine Gc λj _=>?_
  show ((ch (n+1) (j+1):Nat):Int)=_
  rw[Kt]
  omega
 rw[e]
 show _=(1:Int)::(_++[((ch (n+1) (n+1):Nat):Int)])
 rw[Ta]
 rfl
def i9(n:Nat):V->V
 | .int j=>.int ((ch n j.toNat:Int)+(ch n (j.toNat+1):Int))
 | x=>x
theorem uN(n:Nat):(((Bp n).map λi:Nat=>V.int (0+i)).filter λ_=>true).map (i9 n)=((Bp n).map λj=>((ch n j:Int)+(ch n (j+1):Int))).map V.int:=by
 rw[oW.mpr (λ_ _=>rfl),Ci,Ci]
 refine Gc λj _=>?_
 show V.int ((ch n (0+(j:Int)).toNat:Int)+(ch n ((0+(j:Int)).toNat+1):Int))=_
 rw[show (0+(j:Int)).toNat=j by omega]
 rfl
def jS:Ag:=.list ((Bp 61).map λk=>.list ((Yz k).map Bl))
theorem dF(a:DV)(l:List DV):datas (a::l)≠some []:=λh=>by
 cases a <;> simp [datas] at h
def sZ:PF:=λds R=>ds=[]/\R jS
theorem kK{K:PySem.W.Frag}{H:Hp}:∀{as:List Addr} {k:Nat},(∀(j:Nat) (a:Addr),as[j]? = some a->H a=some (.lst ((Yz (k+j)).map V.int)))->k+as.length<=1000->RdFs K H (as.map V.ref) ((List.range' k as.length).map λk=>Fn ((Yz k).map Bl)) as
 | [],_,_,_=>.nil
 | a::as,k,h,hk=>by
  rw[Bi] at hk
  have h0:=h 0 a rfl
  rw[Bi,List.range'_succ]
  exact RdFs.cons (F:=[a]) (.lst h0 (by rw[Ab,Wi]; exact cS (by omega)) (RdFs.ints _)) (kK (k:=k+1) (λj b e=>by have:=h (j+1) b e; rw[show k+(j+1)=k+1+j by omega] at this; exact this) (by omega))
section
variable{P:Bm}{w:World}{K:PySem.W.Frag}{mg:Str->Option Value}{base:Heap}
theorem cP:FnScope ["_law_rows_here", "_law_turn", "_law_row"] [] (Ca Mi):=⟨rfl,rfl,rfl,by decide +kernel,rfl,by decide +kernel,by decide +kernel⟩
theorem bK{f:Addr}{fd:Cg}(F:Fun K "_law_rows" "_law_rows" Mi f fd)(mz_len:mg "len" = none)(mz_range:mg "range" = none):FnOk P w K mg base Kd 1 f fd [] (Qx K sZ):=by
 refine F.ok cP (λvs H Q E h=>?_) (λcdv A outer s H vs Q E hr h=>?_)
 ·obtain ⟨As,n,ds,R,e1,e2,e3,⟨rfl,_⟩,_⟩:=h
  cases As with
  | nil=>cases vs with
   | nil=>rfl
   | cons _ _=>cases e1
  | cons a As=>cases vs with
   | nil=>cases e1
   | cons v vs=>exact absurd e3 (dF _ _)
 obtain ⟨As,n,ds,R,e1,e2,e3,⟨rfl,hR⟩,q⟩:=h
 obtain rfl:vs=[]:=by
  cases As with
  | nil=>cases vs with
   | nil=>rfl
   | cons _ _=>cases e1
  | cons a As=>exact absurd e3 (dF _ _)
 have CS1:∀{scope:Scope} (h:scope={ kind:=.function,names:=[(".0",.local),("_law_j",.local),("_law_row",.free)],isGenerator:=false,isCoroutine:=false }),
   CompScope (Qr Kd P w K mg base ["_law_rows_here", "_law_turn", "_law_row"] "_law_rows" (Ca Mi) f cdv A outer s H E).nox scope [("_law_row",s.heap.objs.size+1)] "_law_j" ["_law_row"] [2]:=by
  rintro scope rfl
  refine ⟨by rfl,.inl (by decide +kernel),by rfl,by decide +kernel,.inl rfl,λy c h=>?_,by rfl,by decide +kernel,rfl,λk y j e1 e2=>?_⟩
  ·have z:=Hn h
   simp only[An,Bh,or_false,Nf] at z
   obtain ⟨rfl,rfl⟩:=z; rfl
  ·match k,e1,e2 with
   | 0,e1,e2=>cases e1; cases e2; exact ⟨rfl,rfl,by first | exact .inl rfl | exact .inr rfl⟩
   | k+1,e1,e2=>cases e1
 refine ⟨_,Gs (Mv (i:=0) cP.nd rfl (Ff rfl) (Ru (Ez (Ru (Ez Et Gv)) Gv)))
  (Gs (bV Er rfl (Qm rfl mz_range (Ez Et Gv)) (Iy (i:=1) cP.nd rfl (Ff rfl))
  (Gs (Mv (i:=2) cP.nd rfl (Or.inr rfl) (Ra (r:=pX K) Ll (pv 0) (pv 1) (λ_ _=>rfl)))
   (Kq (Te (jX PySem.F.plainAttrs_list PySem.F.slot_list_append PySem.F.type_list_append Kl (pv 0) (Ez (Hg bQ (Hg bQ (Ru (Ez Et Gv)) (bL (CS1 rfl) rfl (Qm rfl mz_range (Ez (Hg j6 (Sr (r:=E4 K) z0 rfl mz_len (by decide +kernel) (Ez (pv 2) Gv)) Et) Gv)) (λ_ _ _=>Yj) (λ_ _ _=>Hg Rx (Ra (r:=pX K) Ll (pv 1) (pv 0) (λ_ _=>rfl)) (Ra (r:=pX K) Ll (pv 1) (Hg Rx (pv 0) Et) (λ_ _=>rfl))))) (Ru (Ez Et Gv))) Gv))))))
  (Kq (Uo (pv 0)))),?_⟩
 refine ⟨sz,λp0 np0=>⟨sz,λp1 np1=>?_⟩⟩
 have s0:=Dq np0 (.lst [V.int 1])
 have s1:=Dq np1 (.lst [V.ref p0])
 have np1H:=s0.free np1
 have ep0:=s1 _ _ (Cn (H:=H) (a:=p0) (o:=.lst [V.int 1]))
 have ep1:=Cn (H:=upd H p0 (.lst [V.int 1])) (a:=p1) (o:=.lst [V.ref p0])
 have ne01:p0≠p1:=λz=>by rw[<- z,Cn] at np1; cases np1
 have sA:=s0.trans s1
 generalize upd (upd H p0 (.lst [V.int 1])) p1 (.lst [V.ref p0])=H1 at ep0 ep1 sA
 refine ⟨60,rfl,by decide,by decide,Zx (lo:=0) (n:=60) (λi σ H2=>∃(as:List Addr) (u1 u2:Option V),σ=[some (.ref p1),u1,u2]/\H2 p1=some (.lst (as.map V.ref))/\as.length=i+1/\(p1::as).Nodup/\(∀a∈as,H a=none)/\(∀(k:Nat) (a:Addr),as[k]? = some a->a≠p1/\H2 a=some (.lst ((Yz k).map V.int)))/\Jk H H2)
  ⟨[p0],none,none,rfl,ep1,rfl,Bo.mpr ⟨λz=>ne01 (Af.mp z).symm,Bo.mpr ⟨Bh,Df⟩⟩,λa ha=>by rw[Af.mp ha]; exact np0,λk a e=>?_,sA⟩ ?_ ?_⟩
 ·match k,e with
  | 0,e=>cases e; exact ⟨ne01,ep0⟩
  | k+1,e=>cases e
 ·(intro i σ H2 hi q_; obtain ⟨as,u1,u2,rfl,e1,la,nd,fr,ha,sm⟩ := q_)
  obtain ⟨a,ea⟩ : ∃a,as[i]? = some a:=⟨as[i]'(by omega),Cf (by omega)⟩
  obtain ⟨nea,eha⟩:=ha i a ea
  have at1:Tz (as.map V.ref) (0+(i:Int))=some (.ref a):=by
   rw[Qq]
   exact Oo (by rw[Bf,ea]; rfl)
  refine ⟨_,rfl,_,rfl,p1,_,_,_,rfl,rfl,Ox.of e1,at1,?_⟩
  have eha2:H2 a=some (.lst ((Yz i).map V.int)):=eha
  refine ⟨_,rfl,.inl ⟨rfl,_,Ox.of e1⟩,sz,λp3 np3=>?_⟩
  have s3:=Dq np3 (.lst [V.int 1])
  have elen:((((Yz i).map V.int).length:Nat):Int) - 1=(i:Int):=by rw[Ab,Wi]; omega
  refine ⟨_,rfl,a,_,rfl,.inl (Ox.of (s3 _ _ eha2)),_,_,rfl,rfl,((i:Int)),congrArg (λz=>[V.int z]) elen,by omega,by omega,?_⟩
  rw[Dw]
  refine oP (cB (lo:=0) (n:=i)) (by rw[Ab,Cs]; exact sz (by omega)) (λ_=>true) (i9 i) (λ_ _=>trivial) (λx hx H' s' Q' k=>k H' (Jk.refl _)) ?_ ?_
  ·intro x hx _ H' s' Q' k
   obtain ⟨j,hj,rfl⟩:=Cp.mp hx
   have jl:=Jf.mp hj
   have h1:Tz ((Yz i).map V.int) (0+(j:Int))=some (.int (ch i j:Int)):=by
    rw[Qq]
    exact Oo (by rw[Bf,iC (by omega)]; rfl)
   have h2:Tz ((Yz i).map V.int) (0+(j:Int)+1)=some (.int (ch i (j+1):Int)):=by
    rw[Qq,show ((j:Int)+1)=((j+1:Nat):Int) by omega]
    exact Oo (by rw[Bf,iC (by omega)]; rfl)
   refine ⟨_,rfl,_,rfl,a,_,_,_,rfl,rfl,Ox.of (s' _ _ (s3 _ _ eha2)),h1,_,rfl,_,rfl,_,_,rfl,rfl,a,_,_,_,rfl,rfl,Ox.of (s' _ _ (s3 _ _ eha2)),h2,_,_,rfl,rfl,?_⟩
   have:=k H' (Jk.refl _)
   simp only[i9] at this
   rw[show (0+(j:Int)).toNat=j by omega] at this
   exact this
  ·intro D H4 nD eD s4
   rw[uN] at eD
   have ep3:=s4 _ _ (Cn (H:=H2) (a:=p3) (o:=.lst [V.int 1]))
   refine ⟨p3,D,_,_,rfl,rfl,ep3,eD,(by rw[Ab,Ab,Cs]; exact sz (by simp; omega)),λp5 np5=>?_⟩
   have s5:=Dq np5 (.lst ([V.int 1]++((Bp i).map λj=>((ch i j:Int)+(ch i (j+1):Int))).map V.int))
   refine ⟨sz,λp6 np6=>?_⟩
   have s6:=Dq np6 (.lst [V.int 1])
   refine ⟨p5,p6,_,_,rfl,rfl,s6 _ _ Cn,Cn,(by rw[Aw,Ab,Ab,Cs]; exact sz (by simp; omega)),λp7 np7=>?_⟩
   have en:[V.int 1]++((Bp i).map λj=>((ch i j:Int)+(ch i (j+1):Int))).map V.int++[V.int 1]=(Yz (i+1)).map V.int:=by
    rw[<- pJ]
    simp
   rw[en]
   have s7:=Dq np7 (.lst ((Yz (i+1)).map V.int))
   have sB:=((s3.trans s4).trans (s5.trans s6)).trans s7
   have e17:=sB _ _ e1
   have ep7:=Cn (H:=upd (upd H4 p5 (.lst ([V.int 1]++((Bp i).map λj=>((ch i j:Int)+(ch i (j+1):Int))).map V.int))) p6 (.lst [V.int 1])) (a:=p7) (o:=.lst ((Yz (i+1)).map V.int))
   have n71:p7≠p1:=λz=>by
    have:=((s3.trans s4).trans (s5.trans s6)) _ _ e1
    rw[<- z,np7] at this
    cases this
   have fp7:∀b o,H2 b=some o->b≠p7:=λb o e z=>by
    have:=((s3.trans s4).trans (s5.trans s6)) _ _ e
    rw[z,np7] at this
    cases this
   have fH7:H p7=none:=by
    cases q7:H p7 with
    | none=>rfl
    | some o=>exact absurd rfl (fp7 _ _ (sm _ _ q7))
   generalize upd (upd (upd H4 p5 (.lst ([V.int 1]++((Bp i).map λj=>((ch i j:Int)+(ch i (j+1):Int))).map V.int))) p6 (.lst [V.int 1])) p7 (.lst ((Yz (i+1)).map V.int))=H7 at sB e17 ep7
   refine ⟨p1,_,_,rfl,rfl,e17,by rw[Ab]; exact Uv (by omega),?_⟩
   refine ⟨as++[p7],_,_,rfl,by rw[Cn,Bz]; rfl,by rw[Aw,Eg]; omega,?_,λa hm=>?_,λk b eb=>?_,qQ np1H (sm.trans sB)⟩
   ·rw[<- Fm]
    refine Es.mpr ⟨nd,Bo.mpr ⟨Bh,Df⟩,λx hx y hy e=>?_⟩
    rw[Af.mp hy] at e
    rcases An.mp hx with hx | hx
    ·exact n71 (by rw[<- e]; exact hx)
    ·obtain ⟨k,hk⟩:=mD.mp hx
     exact fp7 _ _ (ha k x hk).2 e
   ·rcases Au.mp hm with hm | hm
    ·exact fr a hm
    ·rw[Af.mp hm]; exact fH7
   by_cases hk:k<as.length
   ·rw[Fe hk] at eb
    obtain ⟨x1,x2⟩:=ha k b eb
    exact ⟨x1,by rw[Dm x1]; exact sB _ _ x2⟩
   ·rw[Ej (by omega)] at eb
    have hk2:k=i+1:=by
     have:=(Aq.mp eb).1
     simp at this
     omega
    subst hk2
    rw[la,Xa] at eb
    cases eb
    exact ⟨n71,by rw[Dm n71]; exact ep7⟩
 ·(intro σ H2 q_; obtain ⟨as,u1,u2,rfl,e1,la,nd,fr,ha,sm⟩ := q_)
  have rd:RdF K H2 (.ref p1) jS (p1::as):=by
   refine .lst e1 (by rw[Ab,Cs]; exact cS (by decide)) ?_
   have:=kK (K:=K) (H:=H2) (as:=as) (k:=0) (λj a e=>by rw[Hf]; exact (ha j a e).2) (by omega)
   rw[la,<- List.range_eq_range'] at this
   exact this
  exact ⟨_,rfl,q _ _ _ _ hR rd nd (λa hm=>by
   rcases An.mp hm with rfl | hm
   ·exact np1H
   ·exact fr a hm) sm⟩
end
def yT:PF:=λds R=>∃n k:Int,ds=[jS,.int n,.int k]/\0<=n/\n<=60/\0<=k/\R (.int (ch n.toNat k.toNat))
section
variable{P:Bm}{w:World}{K:PySem.W.Frag}{mg:Str->Option Value}{base:Heap}
theorem Yb:FnScope ["_law_rows_here", "_law_n", "_law_k"] ["_law_rows_here", "_law_n", "_law_k"] (Ca My):=⟨rfl,rfl,rfl,by decide +kernel,rfl,by decide +kernel,by decide +kernel⟩
theorem Xe{f   : Addr}{fd  : Cg}(F:Fun K "_law_choose" "_law_choose" My f fd)(mz_min:mg "min" = none):FnOk P w K mg base Kd 1 f fd ["_law_rows_here", "_law_n", "_law_k"] (Qx K (yT)):=by
 refine' Ku (k:=0) F Yb (λcdv A outer s H E hr=>?hb) ?h
 case hb =>
  have hu64:=hr.units
  exact Ei (Fj (cJ (cN (cJ (Bk (pv 0)) (Bk (pv 1))) (Kz (Ba Eu By))) (Ew (oB rfl) wR rfl mz_min (by decide +kernel) (Ba (Bk (pv 2)) (Ba (Rk (Bk (pv 1)) Eu) By)))))
 case h =>
  (intro ds R q_; obtain ⟨n,k,rfl,n0,n1,k0,hR⟩ := q_)
  refine ⟨rfl,?_⟩
  unfold jS
  array_get_dec
  have at1:Tz (List.map (λk=>Fn (List.map Bl (Yz k))) (Bp 61)) n=some (.list ((Yz n.toNat).map Bl)):=by
   obtain ⟨m,rfl⟩ : ∃m:Nat,n=m:=⟨n.toNat,by omega⟩
   refine Oo ?_
   rw[Bf,Tw (by omega)]
   rfl
  refine ⟨_,at1,?_⟩
  array_get_dec
  have at2:Tz ((Yz n.toNat).map Bl++[.int 0]) (if n+1<k then n+1 else k)=some (.int (ch n.toNat k.toNat:Int)):=by
   have hl:((Yz n.toNat).map Bl).length=n.toNat+1:=by rw[Ab,Wi]
   by_cases hk:k<=n
   ·rw[if_neg (by omega),show k=((k.toNat:Nat):Int) by omega]
    refine Oo ?_
    rw[Fe (by rw[hl]; omega),Bf,Dw,iC (by omega)]
    rfl
   ·have e:(if n+1<k then n+1 else k)=((n.toNat+1:Nat):Int):=by split <;> omega
    rw[e,Hq (by omega)]
    refine Oo ?_
    rw[Ej (by rw[hl]; exact Ah _),hl,Xa]
    rfl
  refine ⟨by rw[Ab,Wi]; omega,_,at2,?_⟩
  array_get_dec
  exact hR
theorem Zm:FnScope ["_law_thing", "_law_one"] ["_law_thing"] (Ca Oc):=⟨rfl,rfl,rfl,by decide +kernel,rfl,by decide +kernel,by decide +kernel⟩
theorem Zo{f:Addr}{fd:Cg}(F:Fun K "_law_spoil" "_law_spoil" Oc f fd):FnOk P w K mg base Kd 1 f fd ["_law_thing"] (P8 K):=by
 refine F.ok Zm (λvs H Q E h=>?_) (λcdv A outer s H vs Q E hr h=>?_)
 ·obtain ⟨t,rs,f,rfl,_⟩:=h
  rfl
 obtain ⟨t,rs,f,rfl,ht,nd,hr2,lr,q⟩:=h
 refine ⟨_,Gs (bV Er rfl (Sv (pv 0)) (Iy (i:=1) Zm.nd rfl (Ff rfl))
  (Kq (Te (jX PySem.F.plainAttrs_list PySem.F.slot_list_append PySem.F.type_list_append Kl (pv 1) (Ez tU Gv)))))
  (Kq (Te (jX PySem.F.plainAttrs_list PySem.F.slot_list_append PySem.F.type_list_append Kl (pv 0) (Ez tU Gv)))),?_⟩
 obtain ⟨ntr,ndr⟩:=Bo.mp nd
 refine ⟨_,rfl,t,rfl,⟨_,Ox.of ht⟩,?_⟩
 refine uB (K:=K) (a:=t) (xs:=rs.map V.ref) (λi σ H'=>(∃v,σ=[some (.ref t),v])/\H' t=some (.lst (rs.map V.ref))/\(∀(j:Nat) (r:Addr),rs[j]? = some r->H' r=some (.lst (if j<i then f r++[.non] else f r)))/\∀b,b≠t->b∉rs->H' b=H b) ?_ ?_ ?_ ?_
 ·exact ⟨⟨_,rfl⟩,ht,λj r hj=>by rw[if_neg (Gx _)]; exact (hr2 r (Az hj)).1,λb _ _=>rfl⟩
 ·(intro i σ H' _ q_; obtain ⟨_,h2,_⟩ := q_)
  exact Ox.of h2
 ·(intro i x σ H' hx q_; obtain ⟨⟨v,rfl⟩,h2,h3,h4⟩ := q_)
  rw[Bf] at hx
  cases hi:rs[i]? with
  | none=>rw[hi] at hx; cases hx
  | some r =>
   rw[hi] at hx
   cases hx
   have e:=h3 i r hi
   rw[if_neg (Gh _)] at e
   have hm:=Az hi
   have nt:r≠t:=λz=>ntr (by rw[<- z]; exact hm)
   refine ⟨_,rfl,.inl ⟨rfl,_,Ox.of e⟩,r,f r,.non,rfl,rfl,e,(hr2 r hm).2,?_⟩
   refine ⟨⟨_,rfl⟩,by rw[Dm (Ow nt)]; exact h2,λj r' hj=>?_,λb hb hb2=>?_⟩
   ·by_cases c:j=i
    ·subst c
     rw[hi] at hj
     cases hj
     rw[Cn,if_pos (Pg _)]
    ·have nr:r'≠r:=λz=>by
      subst z
      obtain ⟨j1,j2⟩:=Aq.mp hj
      obtain ⟨i1,i2⟩:=Aq.mp hi
      rcases Nat.lt_or_gt_of_ne c with c | c
      ·exact Dc.mp ndr j i j1 i1 c (j2.trans i2.symm)
      ·exact Dc.mp ndr i j i1 j1 c (i2.trans j2.symm)
     rw[Dm nr,h3 j r' hj]
     by_cases d:j<i
     ·rw[if_pos d,if_pos (by omega)]
     ·rw[if_neg d,if_neg (by omega)]
   ·rw[Dm λz=>hb2 (by rw[z]; exact hm)]
    exact h4 b hb hb2
 ·(intro σ H' q_; obtain ⟨⟨v,rfl⟩,h2,h3,h4⟩ := q_)
  rw[Ab] at h3
  refine ⟨_,rfl,.inl ⟨rfl,_,Ox.of h2⟩,t,_,.non,rfl,rfl,h2,by rw[Ab]; exact lr,?_⟩
  refine q _ Cn (λr hr=>?_) λb hb hb2=>?_
  ·obtain ⟨j,hj⟩:=mD.mp hr
   rw[Dm λz=>ntr (by rw[<- z]; exact hr),h3 j r hj,if_pos (Aq.mp hj).1]
  ·rw[Dm hb]
   exact h4 b hb hb2
end
theorem L0(c:List (List Int)):c.dropLast.zip c.tail=c.zip c.tail:=by
 refine List.ext_getElem (by simp only[Mc,Lm,List.length_tail]; omega) λi h1 h2=>?_
 simp only[List.getElem_zip,List.getElem_dropLast]
theorem v8(c:List (List Int)):(((Jo (c.map Bw) none (some (-1))).zip (Jo (c.map Bw) (some 1) none)).map λp=>PyData.tuple [p.1,p.2])=(c.zip c.tail).map λp=>.tuple [Bw p.1,Bw p.2]:=by
 rw[gV,<- List.map_dropLast,show Jo (c.map Bw) (some 1) none=(c.map Bw).drop 1 from DRow.cutG_from (c.map Bw) 1,List.drop_one,<- List.map_tail,List.zip_map,Ci,L0]
 rfl
def lE:PF:=λds R=>∃(h:Int) (C:List (List (List Int))),ds=[.int h,Lj C]/\1<=h/\h<=10/\C.length=ch h.toNat (h.toNat / 2)/\(∀c∈C,Chn h c)/\C.flatten.Perm (Eo h.toNat)/\R (.bool true)
section
variable{P:Bm}{w:World}{K:PySem.W.Frag}{mg:Str->Option Value}{base:Heap}
theorem Zi:FnScope ["_law_holes", "_law_told", "_law_met", "_law_chain", "_law_one", "_law_other"] ["_law_holes", "_law_told"] (Ca Oi):=⟨rfl,rfl,rfl,by decide +kernel,rfl,by decide +kernel,by decide +kernel⟩
theorem Ze{f f_L_within f_L_all f_L_rows f_L_choose  : Addr}{fd d_L_within d_L_all d_L_rows d_L_choose:Cg}(F:Fun K "_law_right" "_law_right" Oi f fd)(G_L_within:FnOk P w K mg base Kd 1 f_L_within d_L_within ["_law_one", "_law_other"] (Qx K (xZ)))(b_L_within:Binds K d_L_within ["_law_one", "_law_other"] [])(k_L_within:PySem.W.keepIn K (.ref f_L_within)=true)(m_L_within:mg "_law_within" = some (.ref f_L_within))(G_L_all:FnOk P w K mg base Kd 1 f_L_all d_L_all ["_law_holes"] (Qx K cQ))(b_L_all:Binds K d_L_all ["_law_holes"] [])(k_L_all:PySem.W.keepIn K (.ref f_L_all)=true)(m_L_all:mg "_law_all" = some (.ref f_L_all))(G_L_rows:FnOk P w K mg base Kd 1 f_L_rows d_L_rows [] (Qx K sZ))(b_L_rows:Binds K d_L_rows [] [])(k_L_rows:PySem.W.keepIn K (.ref f_L_rows)=true)(m_L_rows:mg "_law_rows" = some (.ref f_L_rows))(G_L_choose:FnOk P w K mg base Kd 1 f_L_choose d_L_choose ["_law_rows_here", "_law_n", "_law_k"] (Qx K (yT)))(b_L_choose:Binds K d_L_choose ["_law_rows_here", "_law_n", "_law_k"] [])(k_L_choose:PySem.W.keepIn K (.ref f_L_choose)=true)(m_L_choose:mg "_law_choose" = some (.ref f_L_choose))(mz_len:mg "len" = none)(mz_list:mg "list" = none)(mz_isinstance:mg "isinstance" = none)(mz_zip:mg "zip" = none)(mz_sorted:mg "sorted" = none):FnOk P w K mg base Kd 2 f fd ["_law_holes", "_law_told"] (Qx K (lE)):=by
 refine' Ku (k:=1) F Zi (λcdv A outer s H E hr=>?hb) ?h
 case hb =>
  have hr1:Room 1 _:=hr.mono (by decide)
  have hu64:=hr.units
  exact Dy (Lz (fW (Vq (Ky (La (Ew Rt Rr rfl mz_isinstance (by decide +kernel) (Ba (Bk (pv 1)) (Ba (Yk (n := "list") rfl mz_list (by decide +kernel)) By))))) (Rv (kU hu64 (Ew Ji Mz rfl mz_len (by decide +kernel) (Ba (Bk (pv 1)) By)) (Hy G_L_choose hr1 rfl m_L_choose k_L_choose b_L_choose Kb (Ba (sI G_L_rows hr1 rfl m_L_rows k_L_rows b_L_rows Kb) (Ba (Bk (pv 0)) (Ba (Xl (Bk (pv 0)) Eu) By))))))))
   (Ei (Fj Jj)) Jp)
   (Dy (Ug (i:=2) Zi.nd rfl (Ff rfl) (Kz By))
   (Dy (Pq Er rfl (zH (Bk (pv 1))) (Ks (i:=3) Zi.nd rfl (Ff rfl))
   (Dy (Lz (fW (Vq (Ky (La (Ew Rt Rr rfl mz_isinstance (by decide +kernel) (Ba (Bk (pv 3)) (Ba (Yk (n := "list") rfl mz_list (by decide +kernel)) By))))) (Rv (zC hu64 (Bk (pv 3)) (Kz By)))))
    (Ei (Fj Jj)) Jp)
    (Dy (Pq Er rfl (qS rfl mz_zip (Ba (Nj (i:=true) (Bk (pv 3)) Lr (Lw (bM Eu))) (Ba (Nj (i:=true) (Bk (pv 3)) (Lw Eu) Lr) By))) (qO (n:=2) rfl (Sk (Ks (i:=4) Zi.nd rfl (Ff rfl)) (Sk (Ks (i:=5) Zi.nd rfl (Ff rfl)) lJ)))
    (Ei (Lz (fW (Vq (kU hu64 (Ew Ji Mz rfl mz_len (by decide +kernel) (Ba (Bk (pv 5)) By)) (Rk (Ew Ji Mz rfl mz_len (by decide +kernel) (Ba (Bk (pv 4)) By)) Eu)) (Rv (Ky (La (Hy G_L_within hr1 rfl m_L_within k_L_within b_L_within Kb (Ba (Bk (pv 4)) (Ba (Bk (pv 5)) By))))))))
     (Ei (Fj Jj)) Jp)))
    (Ei (Ug (i:=2) Zi.nd rfl (Ff rfl) (cN (Bk (pv 2)) (Bk (pv 3))))))))
   (Ei (Fj (kA hu64 (Ew (Ts.call_sortedI hu64) pA rfl mz_sorted (by decide +kernel) (Ba (Bk (pv 2)) By)) (Hy G_L_all hr1 rfl m_L_all k_L_all b_L_all Kb (Ba (Bk (pv 0)) By)))))))
 case h =>
  (intro ds R q_; obtain ⟨h,C,rfl,h0,h1,lC,hC,pC,hR⟩ := q_)
  refine ⟨rfl,?_⟩
  unfold Lj
  array_get_dec
  refine ⟨rfl,h,h / 2,rfl,by omega,by omega,by omega,?_⟩
  array_get_dec
  have e2:((C.map En).length:Int)=(ch h.toNat (h / 2).toNat:Int):=by
   rw[Ab,lC]
   congr 2
   omega
  refine Xs (λq=>absurd q (by rw[e2]; simp)) (λ_=>?_)
  array_get_dec
  refine fB (l:=C) (g:=En) rfl (λi δ=>∃v3 v4 v5:DV,δ=⟨[.dat .sh (.int h),.dat .sh (.list (C.map En)),.dat .sh (.list ((C.take i).flatten.map Bw)),v3,v4,v5],0⟩/\NP v3/\NP v4/\NP v5) ?_ ?_ ?_
  ·exact ⟨_,_,_,rfl,Ml,Ml,Ml⟩
  ·(intro i c _ hc q_; obtain ⟨v3,v4,v5,rfl,hv3,hv4,hv5⟩ := q_)
   have cc:=hC c (Az hc)
   have l0:0<c.length:=Jq.mpr cc.ne
   unfold En
   array_get_dec
   refine Xs (λq=>absurd cc.ne (by cases c with | nil=>simp | cons _ _=>cases q)) (λ_=>?_)
   array_get_dec
   rw[v8]
   refine fB (l:=c.zip c.tail) (g:=λp=>.tuple [Bw p.1,Bw p.2]) rfl (λ_ δ=>∃v4 v5:DV,δ=⟨[.dat .sh (.int h),.dat .sh (.list (C.map En)),.dat .sh (.list ((C.take i).flatten.map Bw)),.dat .sh (.list (c.map Bw)),v4,v5],0⟩/\NP v4/\NP v5) ?_ ?_ ?_
   ·exact ⟨_,_,rfl,hv4,hv5⟩
   ·(intro j p _ hp q_; obtain ⟨v4,v5,rfl,hv4,hv5⟩ := q_)
    obtain ⟨a1,a2⟩:=cc.adj p (Az hp)
    array_get_dec
    refine pP (λq=>?_) (λ_=>?_)
    ·rw[Ab,Ab] at q
     exact absurd q (by simp; omega)
    array_get_dec
    refine ⟨p.1,p.2,rfl,?_⟩
    rw[a2]
    array_get_dec
    exact ⟨_,_,rfl,Np,Np⟩
   ·(intro _ q_; obtain ⟨v4,v5,rfl,hv4,hv5⟩ := q_)
    array_get_dec
    have e:=Xg hc
    have le:=fH C (i+1)
    have lw:C.flatten.length<=1024:=by rw[pC.length_eq]; exact Oj (by omega)
    rw[e,Aw] at le
    refine ⟨by rw[Ab,Ab]; omega,?_⟩
    rw[e,Bz]
    exact ⟨_,_,_,rfl,Np,hv4,hv5⟩
  ·(intro _ q_; obtain ⟨v3,v4,v5,rfl,hv3,hv4,hv5⟩ := q_)
   rw[Gi]
   array_get_dec
   refine ⟨C.flatten,rfl,λL pL oL=>?_⟩
   array_get_dec
   refine ⟨h,rfl,by omega,h1,λM pM oM=>?_⟩
   obtain rfl:L=M:=fU ((pL.trans pC).trans pM.symm) oL oM
   array_get_dec
   exact hR
end
theorem pQ{du:DT}{b:Bool}{δ:DS}{P:Bool->DS->Prop}(h:b=true->∀P:Bool->DS->Prop,P false δ->du δ P)(k:P false δ):o7 du b δ P:=zV (λq=>h q P k) λ_=>k
def R3(c:List (List Int)):Ag:=.list (c.map Bw++[.none])
theorem Chn.up{m:Nat}{c:List (List Int)}(h:Chn m c):Chn ((m+1:Nat):Int) c:=⟨h.ne,λw hw=>(Kk (h.words w hw)).1,h.adj,h.len⟩
section
variable{P:Bm}{w:World}{K:PySem.W.Frag}{mg:Str->Option Value}{base:Heap}
theorem B0:FnScope ["_law_script", "_law_cell", "_law_pick", "_law_holes", "_law_told", "_law_many"] ["_law_script"] (Ca Vy):=⟨rfl,rfl,rfl,by decide +kernel,rfl,by decide +kernel,by decide +kernel⟩
theorem j8{f f_chains f_shows_most f_L_draws f_L_next f_L_spoil f_L_right  : Addr}{fd d_chains d_shows_most d_L_draws d_L_next d_L_spoil d_L_right:Cg}(F:Fun K "law" "law" Vy f fd)(G_chains:FnOk P w K mg base Kd 2 f_chains d_chains ["holes"] (Qx K (fN)))(b_chains:Binds K d_chains ["holes"] [])(k_chains:PySem.W.keepIn K (.ref f_chains)=true)(m_chains:mg "chains" = some (.ref f_chains))(G_shows_most:FnOk P w K mg base Kd 4 f_shows_most d_shows_most ["holes", "thing"] (Qx K (jK)))(b_shows_most:Binds K d_shows_most ["holes", "thing"] [])(k_shows_most:PySem.W.keepIn K (.ref f_shows_most)=true)(m_shows_most:mg "shows_most" = some (.ref f_shows_most))(G_L_draws:FnOk P w K mg base Kd 1 f_L_draws d_L_draws ["_law_cell"] (Td))(b_L_draws:Binds K d_L_draws ["_law_cell"] [])(k_L_draws:PySem.W.keepIn K (.ref f_L_draws)=true)(m_L_draws:mg "_law_draws" = some (.ref f_L_draws))(G_L_next:FnOk P w K mg base Kd 1 f_L_next d_L_next ["_law_draws_here"] (P7 K iR))(b_L_next:Binds K d_L_next ["_law_draws_here"] [])(k_L_next:PySem.W.keepIn K (.ref f_L_next)=true)(m_L_next:mg "_law_next" = some (.ref f_L_next))(G_L_spoil:FnOk P w K mg base Kd 1 f_L_spoil d_L_spoil ["_law_thing"] (P8 K))(b_L_spoil:Binds K d_L_spoil ["_law_thing"] [])(k_L_spoil:PySem.W.keepIn K (.ref f_L_spoil)=true)(m_L_spoil:mg "_law_spoil" = some (.ref f_L_spoil))(G_L_right:FnOk P w K mg base Kd 2 f_L_right d_L_right ["_law_holes", "_law_told"] (Qx K (lE)))(b_L_right:Binds K d_L_right ["_law_holes", "_law_told"] [])(k_L_right:PySem.W.keepIn K (.ref f_L_right)=true)(m_L_right:mg "_law_right" = some (.ref f_L_right))(mz_len:mg "len" = none):FnOk P w K mg base Kd 5 f fd ["_law_script"] (spLawD K):=by
 refine' i8 (k:=4) F B0 (λcdv A outer s H E hr=>?hb) ?h
 case hb =>
  have hr1:Room 1 _:=hr.mono (by decide)
  have hr2:Room 2 _:=hr.mono (by decide)
  have hr3:Room 3 _:=hr.mono (by decide)
  have hr4:Room 4 _:=hr.mono (by decide)
  have hu64:=hr.units
  have CS1:∀{scope:Scope} (h:scope={ kind:=.function,names:=[(".0",.local),("_law_chain",.local),("len",.globalImplicit)],isGenerator:=false,isCoroutine:=false }),
    CompScope (Qr Kd P w K mg base ["_law_script", "_law_cell", "_law_pick", "_law_holes", "_law_told", "_law_many"] "law" (Ca Vy) f cdv A outer s H E).nox scope [] "_law_chain" [] []:=by
   rintro scope rfl
   exact Nd.compScope0 (by rfl) (by decide +kernel) (by rfl) (by decide +kernel) (by rfl) (by rfl)
  have CS2:∀{scope:Scope} (h:scope={ kind:=.function,names:=[(".0",.local),("_law_chain",.local),("len",.globalImplicit)],isGenerator:=false,isCoroutine:=false }),
    CompScope (Qr Kd P w K mg base ["_law_script", "_law_cell", "_law_pick", "_law_holes", "_law_told", "_law_many"] "law" (Ca Vy) f cdv A outer s H E).nox scope [] "_law_chain" [] []:=by
   rintro scope rfl
   exact Nd.compScope0 (by rfl) (by decide +kernel) (by rfl) (by decide +kernel) (by rfl) (by rfl)
  have CS3:∀{scope:Scope} (h:scope={ kind:=.function,names:=[(".0",.local),("_law_one",.local)],isGenerator:=false,isCoroutine:=false }),
    CompScope (Qr Kd P w K mg base ["_law_script", "_law_cell", "_law_pick", "_law_holes", "_law_told", "_law_many"] "law" (Ca Vy) f cdv A outer s H E).nox scope [] "_law_one" [] []:=by
   rintro scope rfl
   exact Nd.compScope0 (by rfl) (by decide +kernel) (by rfl) (by decide +kernel) (by rfl) (by rfl)
  exact Dy (Pq Er rfl (zH (cN (pE (pv 0) Lr (Lw Eu)) (Kz (Ba Eu By)))) (Ks (i:=1) B0.nd rfl (Ff rfl))
   (Dy (Ug (i:=2) B0.nd rfl (Ff rfl) (nQ G_L_next hr1 rfl m_L_next k_L_next b_L_next Kb (Ba (tO G_L_draws hr1 rfl m_L_draws k_L_draws b_L_draws Kb (Ba (Bk (pv 1)) By)) By)))
    (Dy (Ug (i:=3) B0.nd rfl (Ff rfl) (Rk Eu (cJ (Kz (Ba (Xi (Xl (Bk (pv 2)) Eu) Eu) (Ba (Xi (Xl (Bk (pv 2)) Eu) Eu) (Ba (Xi (Xl (Bk (pv 2)) Eu) Eu) (Ba (Xi (Xl (Bk (pv 2)) Eu) Eu) By))))) (Xi (Bk (pv 2)) Eu))))
    (Dy (Wo (i:=4) B0.nd rfl (Ff rfl) (Hy G_chains hr2 rfl m_chains k_chains b_chains Kb (Ba (Bk (pv 3)) By)))
    (Dy (Lz (fW (Vq (Ky (La (Hy G_L_right hr2 rfl m_L_right k_L_right b_L_right Kb (Ba (Bk (pv 3)) (Ba (Bk (pv 4)) By))))) (Rv (bC (Hy G_shows_most hr4 rfl m_shows_most k_shows_most b_shows_most Kb (Ba (Bk (pv 3)) (Ba (Bk (pv 4)) By))) Jj))))
    (Ei (Fj Jj)) Jp)
    (Dy (Lz (bC (Hy G_shows_most hr4 rfl m_shows_most k_shows_most b_shows_most Kb (Ba (Bk (pv 3)) (Ba (Nj (i:=false) (Bk (pv 4)) (Lw Eu) Lr) By))) Jj)
    (Ei (Fj Jj)) Jp)
    (Dy (Lz (fW (B5 (yH (Bk (pv 3)) Eu) (vG (bC (Hy G_shows_most hr4 rfl m_shows_most k_shows_most b_shows_most Kb (Ba (Rk (Bk (pv 3)) Eu) (Ba (Bk (pv 4)) By))) Jj))))
    (Ei (Fj Jj)) Jp)
    (Dy (lP (o:=false) (i0:=5) B0.nd rfl rfl (CS1 rfl) rfl (zH (Bk (pv 4))) (λ_ _ _=>Pl) (λ_ _ _=>Ew Ji Mz rfl mz_len (by decide +kernel) (Ba (Bk (pv 0)) By)))
    (Dy (mN G_L_spoil hr1 rfl m_L_spoil k_L_spoil b_L_spoil Kb (pv 4))
    (Dy (Lz (kU hu64 (Wm (CS2 rfl) rfl (zH (Nj (i:=false) (Bk (pv 4)) Lr (Lw (bM Eu)))) (λ_ _ _=>Pl) (λ_ _ _=>Ew Ji Mz rfl mz_len (by decide +kernel) (Ba (Bk (pv 0)) By))) (Wm (CS3 rfl) rfl (zH (Bk (pv 5))) (λ_ _ _=>Pl) (λ_ _ _=>Rk (Bk (pv 0)) Eu)))
    (Ei (Fj Jj)) Jp)
    (Ei (Lz (Ky (La (Hy G_L_right hr2 rfl m_L_right k_L_right b_L_right Kb (Ba (Bk (pv 3)) (Ba (Hy G_chains hr2 rfl m_chains k_chains b_chains Kb (Ba (Bk (pv 3)) By)) By)))))
    (Ei (Fj Jj)) Jp))))))))))))
   (Ei (Fj Jj))
 case h =>
  intro ns h63
  array_get_dec
  have lc:(Jo ns none (some 4)).length<=4:=E3 4
  refine ⟨by rw[Ab]; omega,?_⟩
  refine fB (l:=Jo ns none (some 4)++[0]) (g:=Bl) (by rw[Bz]; rfl) (λi δ=>∃(v1 v2 v3 v4 v5:DV) (n':Nat),δ=⟨[.scr ns,v1,v2,v3,v4,v5],n'⟩/\NP v1/\NP v2/\NP v3/\NP v4/\NP v5/\n'<=10 * i) ?_ ?_ ?_
  ·exact ⟨_,_,_,_,_,_,rfl,Ml,Ml,Ml,Ml,Ml,by omega⟩
  ·(intro i c _ hc q_; obtain ⟨v1,v2,v3,v4,v5,n0,rfl,hv1,hv2,hv3,hv4,hv5,hn⟩ := q_)
   have hi:i<5:=by
    have:=(Aq.mp hc).1
    rw[Aw,Eg] at this
    omega
   array_get_dec
   refine ⟨rfl,by omega,λr1=>?_⟩
   array_get_dec
   have b4:=bI r1 (b:=4) (by decide)
   have b5:=bI (r1 / 4) (b:=5) (by decide)
   have b7:=bI (r1 / 4) (b:=7) (by decide)
   have b10:=bI (r1 / 4) (b:=10) (by decide)
   obtain ⟨x,_,e2,xm⟩:=sF (l:=[r1 / 4 % 5,r1 / 4 % 7,r1 / 4 % 7,r1 / 4 % 10]) b4.1 (by simpa using b4.2)
   have e3:=vY Bl [r1 / 4 % 5,r1 / 4 % 7,r1 / 4 % 7,r1 / 4 % 10] (r1 % 4)
   rw[e2] at e3
   have x9:0<=x/\x<=9:=by
    simp only[An,Bh,or_false] at xm
    omega
   refine ⟨_,e3,?_⟩
   array_get_dec
   obtain ⟨m,em,m1,m10⟩ : ∃m:Nat,1+x=(m:Int)/\1<=m/\m<=10:=⟨(1+x).toNat,by omega,by omega,by omega⟩
   rw[em]
   obtain ⟨C,eC⟩ : ∃C,Fu m=C:=⟨_,rfl⟩
   have cC:∀c∈C,Chn m c:=λc hc=>Ym (by omega) c (by rw[eC]; exact hc)
   have pC:C.flatten.Perm (Eo m):=by rw[<- eC]; exact Po m
   have lC:C.length=ch m (m / 2):=by rw[<- eC]; exact fZ m10
   have lF:C.flatten.length=2 ^ m:=by rw[pC.length_eq,Rm]
   have nF:C.flatten.Nodup:=pC.nodup_iff.mpr (Nz m)
   have p10:2 ^ m<=2 ^ 10:=Lp (by decide) m10
   have l0:0<C.length:=by rw[lC]; exact pS (by omega)
   refine ⟨m,rfl,by omega,by omega,?_⟩
   rw[Dw,eC]
   array_get_dec
   refine ⟨m,C,rfl,by omega,by omega,by rw[Dw]; exact lC,cC,by rw[Dw]; exact pC,?_⟩
   array_get_dec
   refine ⟨m,C,rfl,by omega,by omega,cC,by omega,nF,?_⟩
   rw[Dw,decide_eq_true lF]
   unfold Lj
   array_get_dec
   refine Xs (λq=>absurd q (by decide)) (λ_=>?_)
   array_get_dec
   have e1:Jo (C.map En) (some 1) none=(C.drop 1).map En:=by
    rw[show Jo (C.map En) (some 1) none=(C.map En).drop 1 from DRow.cutG_from (C.map En) 1,List.map_drop]
   rw[e1]
   have sC:(C.drop 1).flatten.length<2 ^ m/\(C.drop 1).flatten.Sublist C.flatten:=by
    cases C with
    | nil=>exact absurd l0 (by simp)
    | cons c C =>
     rw[List.drop_one,List.tail_cons]
     have c0:0<c.length:=Jq.mpr (cC c Aa).ne
     rw[Nw,Aw] at lF
     exact ⟨by omega,by rw[Nw]; exact Cu _ _⟩
   refine ⟨m,C.drop 1,rfl,by omega,by omega,λc hc=>cC c (Sd hc),by omega,nF.sublist sC.2,?_⟩
   rw[Dw,decide_eq_false (show ¬ (C.drop 1).flatten.length=2 ^ m by omega)]
   array_get_dec
   refine Xs (λq=>absurd q (by decide)) (λ_=>?_)
   array_get_dec
   refine pQ (λq P hP=>?_) ?_
   ·have m9:=of_decide_eq_true q
    array_get_dec
    refine ⟨((m+1:Nat):Int),C,by rw[show ((m+1:Nat):Int)=(m:Int)+1 by omega]; rfl,by omega,by omega,λc hc=>(cC c hc).up,by omega,nF,?_⟩
    have p1:2 ^ (m+1)=2 ^ m * 2:=Ms 2 m
    have p0:0<2 ^ m:=Nat.pow_pos (by decide)
    rw[Dw,decide_eq_false (show ¬ C.flatten.length=2 ^ (m+1) by omega)]
    array_get_dec
    exact hP
   array_get_dec
   refine eO (l:=C) (g:=En) rfl (λc=>.int c.length) (λc _ yes no hy=>?_) ?_
   ·unfold En
    array_get_dec
    rw[Ab]
    exact hy
   array_get_dec
   refine ⟨C.map λc=>c.map Bw,by rw[Ci]; rfl,rfl,λc hc=>?_,?_,?_⟩
   ·obtain ⟨d,hd,rfl⟩:=Cp.mp hc
    have:=(cC d hd).len
    exact ⟨Rp d,by rw[Ab]; omega⟩
   ·rw[Ab]
    have:=rB m (m / 2)
    omega
   rw[Ci,show (λc=>Fn (c++[.none])) ∘ (λc:List (List Int)=>c.map Bw)=R3 from rfl]
   array_get_dec
   rw[gV,List.dropLast_concat]
   refine eO (l:=C) (g:=R3) rfl (λc=>.int ((c.length:Int)+1)) (λc _ yes no hy=>?_) ?_
   ·unfold R3
    array_get_dec
    rw[show (((c.map Bw++[PyData.none]).length:Nat):Int)=(c.length:Int)+1 by simp]
    exact hy
   array_get_dec
   refine eO (l:=C) (g:=λc=>.int c.length) rfl (λc=>.int ((c.length:Int)+1)) (λc _ yes no hy=>?_) ?_
   ·array_get_dec
    exact hy
   array_get_dec
   have eI:(C.map λc=>Bl ((c.length:Int)+1))=(C.map λc=>(c.length:Int)+1).map Bl:=by rw[Ci]; rfl
   rw[eI,j5]
   refine Xs (λq=>absurd q (by simp)) (λ_=>?_)
   array_get_dec
   refine ⟨m,rfl,by omega,by omega,?_⟩
   rw[Dw,eC]
   array_get_dec
   refine ⟨m,C,rfl,by omega,by omega,by rw[Dw]; exact lC,cC,by rw[Dw]; exact pC,?_⟩
   array_get_dec
   exact ⟨_,_,_,_,_,_,rfl,Np,Np,Np,E6,Np,by omega⟩
  ·(intro _ q_; obtain ⟨v1,v2,v3,v4,v5,n0,rfl,hv1,hv2,hv3,hv4,hv5,hn⟩ := q_)
   array_get_dec
end
structure Def(K:PySem.W.Frag)(x:Str)(st:Stmt)(f:Addr)(fd:Cg):Prop where
 nm:PySem.W.nsIn K Cj x=some (some (.ref f))
 fn:Fun K x x st f fd
theorem def_mk{K:PySem.W.Frag}{x:Str}{st:Stmt}{f:Addr}{od an:Option Addr}{sl:Array (Option Value)}{oc kV dc pm cd ct:Value}(a:PySem.W.nsIn K Cj x=some (some (.ref f)))(l:K.lookup f=some ⟨oc,od,.func (PySem.W.fnOf x x (Mo st) (Kc st) (Ca st) .none kV dc pm an cd ct),sl⟩)(c:PySem.W.codeIn K cd x=true)(k:PySem.W.keepIn K (.ref f)=true):Def K x st f (PySem.W.fnOf x x (Mo st) (Kc st) (Ca st) .none kV dc pm an cd ct):=⟨a,qW l c k⟩
theorem W5{P:List Value->Prop}(h:P []):∀us:List Value,us.length=0->P us
 | [],_=>h
theorem R6{P:List Value->Prop}{n:Nat}(h:∀a (us:List Value),us.length=n->P (a::us)):∀us:List Value,us.length=n+1->P us
 | a::us,e=>h a us (Nat.succ.inj e)
theorem o4{P:List Value->Prop}(h:∀a0,P [a0]):∀us:List Value,us.length=1->P us:=R6 λa us e=>W5 (P:=λus=>P (a::us)) (h a) us e
theorem zF{P:List Value->Prop}(h:∀a0 a1,P [a0,a1]):∀us:List Value,us.length=2->P us:=R6 λa us e=>o4 (P:=λus=>P (a::us)) (h a) us e
theorem X8{P:List Value->Prop}(h:∀a0 a1 a2,P [a0,a1,a2]):∀us:List Value,us.length=3->P us:=R6 λa us e=>zF (P:=λus=>P (a::us)) (h a) us e
theorem all_mk{l:PySem.W.OpenLaw}{q:Bm}{w:World}{K:PySem.W.Frag}{h:Heap}{mg:Str->Option Value}{fa f1 f2 f3 f4 f5 f6 f7 f8 f9 f10 f11 f12 f13 f14 f15 f16:Addr}{d1 d2 d3 d4 d5 d6 d7 d8 d9 d10 d11 d12 d13 d14 d15:Cg}(X:K.In h)(G:h.Ns Cj mg)(hfa:mg "law" = some (.ref fa)){od an:Option Addr}{sl:Array (Option Value)}{oc kV dc pm cd ct:Value}(D1:Def K "_law_draws" bN f1 d1)(D2:Def K "_law_next" jP f2 d2)(D3:Def K "grown" Ww f3 d3)(D4:Def K "chains" Sx f4 d4)(D5:Def K "is_whole" Ry f5 d5)(D6:Def K "is_word" Ui f6 d6)(D7:Def K "within" Tn f7 d7)(D8:Def K "is_chain" Rl f8 d8)(D9:Def K "shows_most" Og f9 d9)(D10:Def K "_law_within" Kr f10 d10)(D11:Def K "_law_all" Mb f11 d11)(D12:Def K "_law_rows" Mi f12 d12)(D13:Def K "_law_choose" My f13 d13)(D14:Def K "_law_spoil" Oc f14 d14)(D15:Def K "_law_right" Oi f15 d15)(aL:PySem.W.nsIn K Cj "law" = some (some (.ref f16)))(lL:K.lookup f16=some ⟨oc,od,.func (PySem.W.fnOf "law" "law" (Mo Vy) (Kc Vy) (Ca Vy) .none kV dc pm an cd ct),sl⟩)(cL:PySem.W.codeIn K cd "law" = true)(kL:PySem.W.keepIn K (.ref f16)=true)(z1:PySem.W.nsIn K Cj "range" = some none)(z2:PySem.W.nsIn K Cj "bool" = some none)(z3:PySem.W.nsIn K Cj "isinstance" = some none)(z4:PySem.W.nsIn K Cj "int" = some none)(z5:PySem.W.nsIn K Cj "tuple" = some none)(z6:PySem.W.nsIn K Cj "all" = some none)(z7:PySem.W.nsIn K Cj "len" = some none)(z8:PySem.W.nsIn K Cj "list" = some none)(z9:PySem.W.nsIn K Cj "zip" = some none)(z10:PySem.W.nsIn K Cj "set" = some none)(z11:PySem.W.nsIn K Cj "sorted" = some none)(z12:PySem.W.nsIn K Cj "min" = some none)(tz_often:PySem.W.nsIn K Cj "often" = some none)(tz_cut_by:PySem.W.nsIn K Cj "cut_by" = some none):cI q K/\∃fd:Cg,(∀(s:Ai) (v:Value),BindsTo s fd ⟨[v],[]⟩ [("_law_script",v)])/\∀base:Heap,K.In base->base.Ns Cj mg->FnOk l.prog w K mg base Kd 5 fa fd ["_law_script"] (DL.spLawD K):=by
 have e:=hfa.symm.trans (PySem.W.mg_of X G aL)
 cases e
 have FL:=qW (st:=Vy) lL cL kL
 have b1:=D1.fn.binds (ps:=["_law_cell"]) λ_ _ _ _ _ _=>o4 (λ_=>rfl)
 have b2:=D2.fn.binds (ps:=["_law_draws_here"]) λ_ _ _ _ _ _=>o4 (λ_=>rfl)
 have b3:=D3.fn.binds (ps:=["chain", "place"]) λ_ _ _ _ _ _=>zF (λ_ _=>rfl)
 have b4:=D4.fn.binds (ps:=["holes"]) λ_ _ _ _ _ _=>o4 (λ_=>rfl)
 have b5:=D5.fn.binds (ps:=["thing"]) λ_ _ _ _ _ _=>o4 (λ_=>rfl)
 have b6:=D6.fn.binds (ps:=["holes", "thing"]) λ_ _ _ _ _ _=>zF (λ_ _=>rfl)
 have b7:=D7.fn.binds (ps:=["one", "other"]) λ_ _ _ _ _ _=>zF (λ_ _=>rfl)
 have b8:=D8.fn.binds (ps:=["holes", "thing"]) λ_ _ _ _ _ _=>zF (λ_ _=>rfl)
 have b9:=D9.fn.binds (ps:=["holes", "thing"]) λ_ _ _ _ _ _=>zF (λ_ _=>rfl)
 have b10:=D10.fn.binds (ps:=["_law_one", "_law_other"]) λ_ _ _ _ _ _=>zF (λ_ _=>rfl)
 have b11:=D11.fn.binds (ps:=["_law_holes"]) λ_ _ _ _ _ _=>o4 (λ_=>rfl)
 have b12:=D12.fn.binds (ps:=[]) λ_ _ _ _ _ _=>W5 rfl
 have b13:=D13.fn.binds (ps:=["_law_rows_here", "_law_n", "_law_k"]) λ_ _ _ _ _ _=>X8 (λ_ _ _=>rfl)
 have b14:=D14.fn.binds (ps:=["_law_thing"]) λ_ _ _ _ _ _=>o4 (λ_=>rfl)
 have b15:=D15.fn.binds (ps:=["_law_holes", "_law_told"]) λ_ _ _ _ _ _=>zF (λ_ _=>rfl)
 have m1:=PySem.W.mg_of X G D1.nm
 have m2:=PySem.W.mg_of X G D2.nm
 have m3:=PySem.W.mg_of X G D3.nm
 have m4:=PySem.W.mg_of X G D4.nm
 have m5:=PySem.W.mg_of X G D5.nm
 have m6:=PySem.W.mg_of X G D6.nm
 have m7:=PySem.W.mg_of X G D7.nm
 have m8:=PySem.W.mg_of X G D8.nm
 have m9:=PySem.W.mg_of X G D9.nm
 have m10:=PySem.W.mg_of X G D10.nm
 have m11:=PySem.W.mg_of X G D11.nm
 have m12:=PySem.W.mg_of X G D12.nm
 have m13:=PySem.W.mg_of X G D13.nm
 have m14:=PySem.W.mg_of X G D14.nm
 have m15:=PySem.W.mg_of X G D15.nm
 have y1:=PySem.W.mg_none_of X G z1
 have y2:=PySem.W.mg_none_of X G z2
 have y3:=PySem.W.mg_none_of X G z3
 have y4:=PySem.W.mg_none_of X G z4
 have y5:=PySem.W.mg_none_of X G z5
 have y6:=PySem.W.mg_none_of X G z6
 have y7:=PySem.W.mg_none_of X G z7
 have y8:=PySem.W.mg_none_of X G z8
 have y9:=PySem.W.mg_none_of X G z9
 have y10:=PySem.W.mg_none_of X G z10
 have y11:=PySem.W.mg_none_of X G z11
 have y12:=PySem.W.mg_none_of X G z12
 have tn_often:=DL.tab_no tz_often
 have tn_cut_by:=DL.tab_no tz_cut_by
 refine ⟨nM tn_often tn_cut_by,PySem.W.fnOf "law" "law" (Mo Vy) (Kc Vy) (Ca Vy) .none kV dc pm an cd ct,λs v=>.of_eq rfl,λbase _ _=>?_⟩
 have g1:=mQ (P:=l.prog) (w:=w) (mg:=mg) (base:=base) D1.fn
 have g2:=rV (P:=l.prog) (w:=w) (mg:=mg) (base:=base) D2.fn
 have g3:=qA (P:=l.prog) (w:=w) (mg:=mg) (base:=base) D3.fn
 have g4:=mT (P:=l.prog) (w:=w) (mg:=mg) (base:=base) D4.fn g3 b3 D3.fn.kp m3 y1
 have g5:=fJ (P:=l.prog) (w:=w) (mg:=mg) (base:=base) D5.fn y2 y3 y4
 have g6:=gH (P:=l.prog) (w:=w) (mg:=mg) (base:=base) D6.fn g5 b5 D5.fn.kp m5 y5 y3
 have g7:=nP (P:=l.prog) (w:=w) (mg:=mg) (base:=base) D7.fn y6
 have g8:=dS (P:=l.prog) (w:=w) (mg:=mg) (base:=base) D8.fn g6 b6 D6.fn.kp m6 g7 b7 D7.fn.kp m7 y7 y8 y3 y9
 have g9:=Zd (P:=l.prog) (w:=w) (mg:=mg) (base:=base) D9.fn g8 b8 D8.fn.kp m8 y8 y3 y7 y10
 have g10:=Xy (P:=l.prog) (w:=w) (mg:=mg) (base:=base) D10.fn
 have g11:=fV (P:=l.prog) (w:=w) (mg:=mg) (base:=base) D11.fn y1 y11
 have g12:=bK (P:=l.prog) (w:=w) (mg:=mg) (base:=base) D12.fn y7 y1
 have g13:=Xe (P:=l.prog) (w:=w) (mg:=mg) (base:=base) D13.fn y12
 have g14:=Zo (P:=l.prog) (w:=w) (mg:=mg) (base:=base) D14.fn
 have g15:=Ze (P:=l.prog) (w:=w) (mg:=mg) (base:=base) D15.fn g10 b10 D10.fn.kp m10 g11 b11 D11.fn.kp m11 g12 b12 D12.fn.kp m12 g13 b13 D13.fn.kp m13 y7 y8 y3 y9 y11
 exact j8 FL g4 b4 D4.fn.kp m4 g9 b9 D9.fn.kp m9 g1 b1 D1.fn.kp m1 g2 b2 D2.fn.kp m2 g14 b14 D14.fn.kp m14 g15 b15 D15.fn.kp m15 y7
theorem walk{l:PySem.W.OpenLaw}{q:Bm}{loose:List Str}{XP:(Str->Option Value)->Heap->Prop}{YP:World->Heap->Prop}{d:DefRec}{K:Params->PySem.W.Frag}(hn:l.most=some 63)(hdf:d.params.defaults=[])(hY:∀(w:World) (h:Heap),YP w h->(K w.params).In h)(F:∀(w:World) (mg:Str->Option Value) (fa:Addr) (h:Heap),(K w.params).In h->h.Ns Cj mg->mg d.name=some (.ref fa)->cI q (K w.params)/\∃fd:Cg,(∀(s:Ai) (u:Value),BindsTo s fd ⟨[u],[]⟩ [("_law_script",u)])/\∀base:Heap,(K w.params).In base->base.Ns Cj mg->FnOk l.prog w (K w.params) mg base Kd 5 fa fd ["_law_script"] (DL.spLawD (K w.params))):PySem.W.WalkO q loose XP YP l.row.toRowW d [] (λf vs=>PySem.call f vs) :=
 L2.walk_ofD (n:=63) (k:=5) (x := "_law_script") (CX:=λ_=>Kd) (sp:=λw=>DL.spLawD (K w.params)) hn (by decide) hdf ⟨rfl,by decide,by decide,rfl⟩ hY F (λ_ _ a ns hl _ hS=>⟨a,ns,rfl,hS,hl,λ_=>rfl⟩) λ_ _ _ _ _ z=>z
end K14
open PySem PySem.W PyProof.Rows
local macro_rules | `(tactic| refine $h:ident (q := $q) (loose := $l) (Xt := $a) (XP := $b) (Yf := $c) (Ya := $d) (YP := $e) (N := $n) ?hl $y*) => `(tactic| refine $h:ident (q := $q) (loose := $l) (Xt := $a) (XP := $b) (Yf := $c) (Ya := $d) (YP := $e) (N := $n) (fun _ => by kernel_rfl) $y*)
set_option maxRecDepth 100000 in
set_option maxHeartbeats 0 in
theorem PySem.Challenge.cw_needledeck_k14_chains_told_holds : PySem.Challenge.rw_needledeck_k14_chains_told.Holds := by
 w_on; refine holds_law (by kernel_rfl) λsaid=>?_; k_head; (case hw=>w_witness2)
 k_fill
 refine K14.walk (l:=PySem.Challenge.rw_needledeck_k14_chains_told) rfl rfl (λw h Y=>PySem.W.kIn_of Y) ?F
 case F =>
  intro w mg fa h KX G hmg
  refine' K14.all_mk KX G hmg (K14.def_mk ?a1 ?l1 ?c1 ?k1) (K14.def_mk ?a2 ?l2 ?c2 ?k2) (K14.def_mk ?a3 ?l3 ?c3 ?k3) (K14.def_mk ?a4 ?l4 ?c4 ?k4) (K14.def_mk ?a5 ?l5 ?c5 ?k5) (K14.def_mk ?a6 ?l6 ?c6 ?k6) (K14.def_mk ?a7 ?l7 ?c7 ?k7) (K14.def_mk ?a8 ?l8 ?c8 ?k8) (K14.def_mk ?a9 ?l9 ?c9 ?k9) (K14.def_mk ?a10 ?l10 ?c10 ?k10) (K14.def_mk ?a11 ?l11 ?c11 ?k11) (K14.def_mk ?a12 ?l12 ?c12 ?k12) (K14.def_mk ?a13 ?l13 ?c13 ?k13) (K14.def_mk ?a14 ?l14 ?c14 ?k14) (K14.def_mk ?a15 ?l15 ?c15 ?k15) ?aL ?lL ?cL ?kL ?z1 ?z2 ?z3 ?z4 ?z5 ?z6 ?z7 ?z8 ?z9 ?z10 ?z11 ?z12 ?tz_often ?tz_cut_by
  (case a1=>k_is); (case l1=>k_is); (case c1=>k_is); (case k1=>k_is)
  (case a2=>k_is); (case l2=>k_is); (case c2=>k_is); (case k2=>k_is)
  (case a3=>k_is); (case l3=>k_is); (case c3=>k_is); (case k3=>k_is)
  (case a4=>k_is); (case l4=>k_is); (case c4=>k_is); (case k4=>k_is)
  (case a5=>k_is); (case l5=>k_is); (case c5=>k_is); (case k5=>k_is)
  (case a6=>k_is); (case l6=>k_is); (case c6=>k_is); (case k6=>k_is)
  (case a7=>k_is); (case l7=>k_is); (case c7=>k_is); (case k7=>k_is)
  (case a8=>k_is); (case l8=>k_is); (case c8=>k_is); (case k8=>k_is)
  (case a9=>k_is); (case l9=>k_is); (case c9=>k_is); (case k9=>k_is)
  (case a10=>k_is); (case l10=>k_is); (case c10=>k_is); (case k10=>k_is)
  (case a11=>k_is); (case l11=>k_is); (case c11=>k_is); (case k11=>k_is)
  (case a12=>k_is); (case l12=>k_is); (case c12=>k_is); (case k12=>k_is)
  (case a13=>k_is); (case l13=>k_is); (case c13=>k_is); (case k13=>k_is)
  (case a14=>k_is); (case l14=>k_is); (case c14=>k_is); (case k14=>k_is)
  (case a15=>k_is); (case l15=>k_is); (case c15=>k_is); (case k15=>k_is)
  (case aL=>k_is); (case lL=>k_is); (case cL=>k_is); (case kL=>k_is)
  (case z1=>k_is); (case z2=>k_is); (case z3=>k_is); (case z4=>k_is); (case z5=>k_is); (case z6=>k_is); (case z7=>k_is); (case z8=>k_is); (case z9=>k_is); (case z10=>k_is); (case z11=>k_is); (case z12=>k_is)
  (case tz_often=>k_is)
  (case tz_cut_by=>k_is)