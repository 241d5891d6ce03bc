import PyProof.Rows.All
import KE.KLam
import Wide.All
import OpenK.AllK
import Wide.FinOn
import Lean
import PyProof.EqAt
import PyProof.EqKinds
import PyProof.TupleCall
import PyProof.FactsAll.set
import PyProof.FactsAll.subtypes
import KE.KTupSum
import KE.KMinBuiltin
import PyProof.Draws
import PyProof.DictWalks
import PyProof.DictCompW
import PyProof.IsiH_tuple
import PyProof.FactsAll.zip
import KE.KDictOf
import PyProof.DictValues
import KE.KSortKey
import PyProof.WalkInts
import PyProof.TupleKey
import PyProof.SetRoads
import PyProof.IsRules
import PySem.Challenge.RW_needledeck_k56_fewest_places
set_option Elab.async false
set_option linter.all false
set_option maxRecDepth 100000
set_option maxHeartbeats 4000000
set_option genSizeOf false
local macro_rules|`(tactic|omega)=>`(tactic|first|lia|omega +splitDisjunctions)
theorem e0a2{A B:Prop}{G:Prop}(k:A→B→G)(h:A∧B):G:=k h.1 h.2
theorem e0a3{A B C:Prop}{G:Prop}(k:A→B→C→G)(h:A∧B∧C):G:=k h.1 h.2.1 h.2.2
theorem e0a4{A B C D:Prop}{G:Prop}(k:A→B→C→D→G)(h:A∧B∧C∧D):G:=k h.1 h.2.1 h.2.2.1 h.2.2.2
theorem e0a5{A B C D E:Prop}{G:Prop}(k:A→B→C→D→E→G)(h:A∧B∧C∧D∧E):G:=k h.1 h.2.1 h.2.2.1 h.2.2.2.1 h.2.2.2.2
theorem e0a6{A B C D E F:Prop}{G:Prop}(k:A→B→C→D→E→F→G)(h:A∧B∧C∧D∧E∧F):G:=k h.1 h.2.1 h.2.2.1 h.2.2.2.1 h.2.2.2.2.1 h.2.2.2.2.2
theorem e1a1{t0:Type}{A:t0→Prop}{G:Prop}(k:∀x,A x→G)(h:∃x,A x):G:=h.elim λx h=>k x h
theorem e1a2{t0:Type}{A B:t0→Prop}{G:Prop}(k:∀x,A x→B x→G)(h:∃x,A x∧B x):G:=h.elim λx h=>k x h.1 h.2
theorem e1a3{t0:Type}{A B C:t0→Prop}{G:Prop}(k:∀x,A x→B x→C x→G)(h:∃x,A x∧B x∧C x):G:=h.elim λx h=>k x h.1 h.2.1 h.2.2
theorem e1a4{t0:Type}{A B C D:t0→Prop}{G:Prop}(k:∀x,A x→B x→C x→D x→G)(h:∃x,A x∧B x∧C x∧D x):G:=h.elim λx h=>k x h.1 h.2.1 h.2.2.1 h.2.2.2
theorem e2a1{t0 t1:Type}{A:t0→t1→Prop}{G:Prop}(k:∀x y,A x y→G)(h:∃x y,A x y):G:=h.elim λx h=>h.elim λy h=>k x y h
theorem e2a2{t0 t1:Type}{A B:t0→t1→Prop}{G:Prop}(k:∀x y,A x y→B x y→G)(h:∃x y,A x y∧B x y):G:=h.elim λx h=>h.elim λy h=>k x y h.1 h.2
theorem e2a3{t0 t1:Type}{A B C:t0→t1→Prop}{G:Prop}(k:∀x y,A x y→B x y→C x y→G)(h:∃x y,A x y∧B x y∧C x y):G:=h.elim λx h=>h.elim λy h=>k x y h.1 h.2.1 h.2.2
theorem e2a4{t0 t1:Type}{A B C D:t0→t1→Prop}{G:Prop}(k:∀x y,A x y→B x y→C x y→D x y→G)(h:∃x y,A x y∧B x y∧C x y∧D x y):G:=h.elim λx h=>h.elim λy h=>k x y h.1 h.2.1 h.2.2.1 h.2.2.2
theorem e3a1{t0 t1 t2:Type}{A:t0→t1→t2→Prop}{G:Prop}(k:∀x y z,A x y z→G)(h:∃x y z,A x y z):G:=h.elim λx h=>h.elim λy h=>h.elim λz h=>k x y z h
theorem e3a3{t0 t1 t2:Type}{A B C:t0→t1→t2→Prop}{G:Prop}(k:∀x y z,A x y z→B x y z→C x y z→G)(h:∃x y z,A x y z∧B x y z∧C x y z):G:=h.elim λx h=>h.elim λy h=>h.elim λz h=>k x y z h.1 h.2.1 h.2.2
theorem e3a4{t0 t1 t2:Type}{A B C D:t0→t1→t2→Prop}{G:Prop}(k:∀x y z,A x y z→B x y z→C x y z→D x y z→G)(h:∃x y z,A x y z∧B x y z∧C x y z∧D x y z):G:=h.elim λx h=>h.elim λy h=>h.elim λz h=>k x y z h.1 h.2.1 h.2.2.1 h.2.2.2
theorem e3a5{t0 t1 t2:Type}{A B C D E:t0→t1→t2→Prop}{G:Prop}(k:∀x y z,A x y z→B x y z→C x y z→D x y z→E x y z→G)(h:∃x y z,A x y z∧B x y z∧C x y z∧D x y z∧E x y z):G:=h.elim λx h=>h.elim λy h=>h.elim λz h=>k x y z h.1 h.2.1 h.2.2.1 h.2.2.2.1 h.2.2.2.2
theorem e4a1{t0 t1 t2 t3:Type}{A:t0→t1→t2→t3→Prop}{G:Prop}(k:∀x y z w,A x y z w→G)(h:∃x y z w,A x y z w):G:=h.elim λx h=>h.elim λy h=>h.elim λz h=>h.elim λw h=>k x y z w h
theorem e4a2{t0 t1 t2 t3:Type}{A B:t0→t1→t2→t3→Prop}{G:Prop}(k:∀x y z w,A x y z w→B x y z w→G)(h:∃x y z w,A x y z w∧B x y z w):G:=h.elim λx h=>h.elim λy h=>h.elim λz h=>h.elim λw h=>k x y z w h.1 h.2
theorem e5a2{t0 t1 t2 t3 t4:Type}{A B:t0→t1→t2→t3→t4→Prop}{G:Prop}(k:∀x y z w u,A x y z w u→B x y z w u→G)(h:∃x y z w u,A x y z w u∧B x y z w u):G:=h.elim λx h=>h.elim λy h=>h.elim λz h=>h.elim λw h=>h.elim λu h=>k x y z w u h.1 h.2
theorem e4a5{t0 t1 t2 t3:Type}{A B C D E:t0→t1→t2→t3→Prop}{G:Prop}(k:∀x y z w,A x y z w→B x y z w→C x y z w→D x y z w→E x y z w→G)(h:∃x y z w,A x y z w∧B x y z w∧C x y z w∧D x y z w∧E x y z w):G:=h.elim λx h=>h.elim λy h=>h.elim λz h=>h.elim λw h=>k x y z w h.1 h.2.1 h.2.2.1 h.2.2.2.1 h.2.2.2.2
theorem e5a5{t0 t1 t2 t3 t4:Type}{A B C D E:t0→t1→t2→t3→t4→Prop}{G:Prop}(k:∀x y z w u,A x y z w u→B x y z w u→C x y z w u→D x y z w u→E x y z w u→G)(h:∃x y z w u,A x y z w u∧B x y z w u∧C x y z w u∧D x y z w u∧E x y z w u):G:=h.elim λx h=>h.elim λy h=>h.elim λz h=>h.elim λw h=>h.elim λu h=>k x y z w u h.1 h.2.1 h.2.2.1 h.2.2.2.1 h.2.2.2.2
theorem e6a5{t0 t1 t2 t3 t4 t5:Type}{A B C D E:t0→t1→t2→t3→t4→t5→Prop}{G:Prop}(k:∀x y z w u v,A x y z w u v→B x y z w u v→C x y z w u v→D x y z w u v→E x y z w u v→G)(h:∃x y z w u v,A x y z w u v∧B x y z w u v∧C x y z w u v∧D x y z w u v∧E x y z w u v):G:=h.elim λx h=>h.elim λy h=>h.elim λz h=>h.elim λw h=>h.elim λu h=>h.elim λv h=>k x y z w u v h.1 h.2.1 h.2.2.1 h.2.2.2.1 h.2.2.2.2
theorem e4a7{t0 t1 t2 t3:Type}{A B C D E F H:t0→t1→t2→t3→Prop}{G:Prop}(k:∀x y z w,A x y z w→B x y z w→C x y z w→D x y z w→E x y z w→F x y z w→H x y z w→G)(h:∃x y z w,A x y z w∧B x y z w∧C x y z w∧D x y z w∧E x y z w∧F x y z w∧H x y z w):G:=h.elim λx h=>h.elim λy h=>h.elim λz h=>h.elim λw h=>k x y z w h.1 h.2.1 h.2.2.1 h.2.2.2.1 h.2.2.2.2.1 h.2.2.2.2.2.1 h.2.2.2.2.2.2
theorem e5a7{t0 t1 t2 t3 t4:Type}{A B C D E F H:t0→t1→t2→t3→t4→Prop}{G:Prop}(k:∀x y z w u,A x y z w u→B x y z w u→C x y z w u→D x y z w u→E x y z w u→F x y z w u→H x y z w u→G)(h:∃x y z w u,A x y z w u∧B x y z w u∧C x y z w u∧D x y z w u∧E x y z w u∧F x y z w u∧H x y z w u):G:=h.elim λx h=>h.elim λy h=>h.elim λz h=>h.elim λw h=>h.elim λu h=>k x y z w u h.1 h.2.1 h.2.2.1 h.2.2.2.1 h.2.2.2.2.1 h.2.2.2.2.2.1 h.2.2.2.2.2.2
theorem e6a7{t0 t1 t2 t3 t4 t5:Type}{A B C D E F H:t0→t1→t2→t3→t4→t5→Prop}{G:Prop}(k:∀x y z w u v,A x y z w u v→B x y z w u v→C x y z w u v→D x y z w u v→E x y z w u v→F x y z w u v→H x y z w u v→G)(h:∃x y z w u v,A x y z w u v∧B x y z w u v∧C x y z w u v∧D x y z w u v∧E x y z w u v∧F x y z w u v∧H x y z w u v):G:=h.elim λx h=>h.elim λy h=>h.elim λz h=>h.elim λw h=>h.elim λu h=>h.elim λv h=>k x y z w u v h.1 h.2.1 h.2.2.1 h.2.2.2.1 h.2.2.2.2.1 h.2.2.2.2.2.1 h.2.2.2.2.2.2
local macro_rules|`(tactic|obtain $p:rcasesPatMed:=$v:term)=>do
 let c s:=((p.raw.reprint.getD "").splitOn s).length
 if c ","<3||c "|">1||c ":">1 then Lean.Macro.throwUnsupported
 let T (a:Lean.Syntax):Lean.TSyntax `Lean.Parser.Tactic.rcasesPatMed:=⟨a⟩
 let q:=p.raw
 let x:=q[0][0]
 let l:=x[1].getSepArgs
 let mut a:Array (Lean.TSyntax ``Lean.Parser.Tactic.tacticSeq):=#[]
 let mut y:Array Lean.Term:=#[]
 let mut z:Array (Array (Lean.TSyntax `tactic)):=#[]
 for o in l do
  let u:=o[0][0][0]
  let f:=Lean.mkIdent (←Lean.Macro.addMacroScope (.mkSimple s!"f{y.size}"))
  if u[0].getId==`rfl then
   y:=y.push f
   z:=z.push #[←`(tactic|subst $f:term)]
  else if u[0].isIdent then
   y:=y.push ⟨u[0]⟩
   z:=z.push #[]
  else if u[1].isMissing then
   y:=y.push (←`(_))
   z:=z.push #[]
  else
   y:=y.push f
   z:=z.push #[←`(tactic|obtain $(T o[0]):rcasesPatMed:=$f)]
 for j in [0:l.size] do
  if j==1 then continue
  let n:=l.size-j
  let mut i:=y.extract 0 n
  let mut w:=(z.extract 0 n).flatten
  if j>0 then
   i:=i.push (←`(r_))
   w:=w.push (←`(tactic|obtain $(T (q.setArg 0 (q[0].setArg 0 (x.setArg 1 (Lean.mkNullNode (Lean.mkSepArray (l.extract n l.size) (Lean.mkAtom ","))))))):rcasesPatMed:=r_))
  for k in [0:i.size] do
   let m:=Lean.mkIdent (.mkSimple s!"e{k}a{i.size-k}")
   let g←if v.raw.isIdent then `(tactic|(revert $(⟨v⟩):ident;refine $m fun $i*=>?_)) else `(tactic|refine $m (fun $i*=>?_) $v)
   a:=a.push (←`(Lean.Parser.Tactic.tacticSeq| $g:tactic;$[$w];*))
  if j==0&& !v.raw.isIdent then
   a:=a.push (←`(Lean.Parser.Tactic.tacticSeq| have h_ := $v; obtain $p := h_))
   break
 a:=a.push (←`(Lean.Parser.Tactic.tacticSeq| rcases $v:term with $p))
 `(tactic|first $[| $a]*)
open Array renaming length_toList → Ae, getD_eq_getD_getElem? → Bj, getElem?_eq_getElem → Cw, toList_append → Dj, getElem?_toList → Ed, toList_push → Fu, getElem?_eq_some_iff → Gk, size_setIfInBounds → Jx, toList_extract → Lw, replicate → Mi, perm_iff_toList_perm → Nk, getElem?_eq_none → Pm, toList_reverse → Rp, getElem?_setIfInBounds → Zr, toList_setIfInBounds → bT, toList_filterMap → iT
open Bool renaming false_eq_true → Bo, false_ne_true → Cm, and_eq_true → Gf, not_eq_true' → Ha, not_true → Kb, and_false → Sf, not_eq_false' → Vi
open Classical renaming propDecidable → En, byContradiction → Gj
open False renaming elim → Jf
open ForInStep renaming done → Cr, yield → Ey
open Function renaming comp → Ro
open Int renaming toNat_natCast → El
open LawfulBEq renaming eq_of_beq → Dn
open List renaming mem_cons_self → Aa, length_map → Ad, mem_cons_of_mem → Af, mem_singleton → Ai, getElem?_eq_some_iff → Ak, mem_append_right → Al, mem_cons → An, mem_append_left → Aq, size_toArray → Ar, map_cons → Aw, mem_append → Ay, length_cons → Ba, mem_of_getElem? → Bc, pairwise_cons → Bh, length_append → Bn, range → Bp, getElem?_map → Bt, getElem?_eq_getElem → Bu, not_mem_nil → Bv, lookup_cons → Bw, append_assoc → Bz, map_append → Cb, mem_map → Cc, nodup_cons → Ci, pairwise_append → Cn, nodup_nil → Cz, length_take → Da, sublist_cons_self → Df, length_range → Dg, pairwise_iff_getElem → Dl, mem_range → Dm, sublist_append_right → Dt, append_nil → Dz, map_map → Ei, perm_append_comm → Em, getElem?_append_right → Fd, getElem?_take_of_lt → Fl, mem_iff_getElem → Fp, length → Fq, pairwise_singleton → Fv, nodup_append → Fw, map_congr_left → Gb, getElem?_append_left → Gq, take_succ_eq_append_getElem → Gv, take_sublist → Gw, map_set → Gx, ext_getElem? → Gy, drop_sublist → Gz, filterMap_cons → Hi, replicate → Hm, mem_flatMap → Hn, length_eq_zero_iff → Ho, getElem_mem → Hq, take_of_length_le → Hu, mem_replicate → Hv, mem_filterMap → Hw, length_nil → Ig, find?_cons → Ih, take_append_drop → Iu, reverse_perm → Iy, cons_append → Jm, extract_eq_take_drop → Jn, length_erase_of_mem → Jz, any_cons → Ka, mem_filter → Kd, length_zipIdx → Kr, lookup → Ks, length_pos_of_mem → Kx, getElem?_set → Ky, length_singleton → Lk, take_length → Ln, mem_erase_of_ne → Mb, map_nil → Mw, zip_cons_cons → Np, mem_of_find?_eq_some → Od, mem_reverse → Pi, eraseIdx_cons_succ → Pj, find?_some → Rb, pairwise_reverse → Rf, getElem?_reverse → Rg, getElem?_eq_none → Rh, eraseIdx_sublist → Ri, mem_of_mem_take → Sd, mem_of_mem_drop → Se, getElem?_drop → Vh, pairwise_map → Wk, mapM_toArray → Wl, flatMap_cons → Wm, any_map → Wn, perm_middle → Zj, length_drop → Zk, eq_nil_of_length_eq_zero → Zq, getD_eq_getElem?_getD → eB, mem_take_iff_getElem → eI, getElem?_set_self → lA, length_pos_iff → qM, find?_eq_none → vS
open List.Pairwise renaming nil → Ep, sublist → Hj
open List.Perm renaming append_left → Hs, swap → Ij, refl → Ke
open List.Sublist renaming refl → Eh
open List.cons renaming inj → Fi
open Nat renaming le_refl → Ah, lt_of_lt_of_le → Bx, le_trans → Cg, ne_of_lt → Cy, not_lt_zero → Dr, zero_le → Ds, zero_add → Ge, mod_eq_of_lt → Gi, lt_irrefl → Hh, le_of_lt → Ld, mod_lt → Lu, pow_le_pow_right → Mh, lt_trichotomy → Pa, lt_succ_of_lt → Pb, add_mod → Pc, add_right_comm → Vz, succ_pos → Ww, sub_zero → Wx, lt_trans → Wy, lt_succ_self → Zp, lt_succ_iff → bR
open Ne renaming symm → Nn
open Option renaming isSome_iff_exists → Oc
open Option.some renaming inj → Ck
open Or renaming inl → Di
open Prod.mk renaming injEq → Gu
open PyProof.Rows renaming wpS_bind → Av, pendingOf → Az, wpS_pure → Bb, SortSt → Bq, wpS_forRange → Ea, slot_tuple_getitem → Ec, IntsAre → Fm, wpS_mono → Gh, wpS_modify → Iv, seqObj → Ju, failedOf → Kt, SortKind → Ku, callWith_type1 → Lh, wpS_get → Lq, envOfC → Pg, AllBare → Qf, reverseSlice' → Qx, sortedHeap → Sh, firstOfTuple' → Zi, subscriptTail_builtinR → vX
open PyProof.Rows.F renaming plain_set_update_loop → Fk, entry_set_update_loop → Oz
open PySem renaming wpAny_bind → Ab, PyData → Ac, Shared → Ag, wpAny_pure → Aj, sizeLine → Ax, Program → Be, SetTable → Bg, tupleKeyHash → Bm, starEach → Bs, intKind → Ce, Around → Co, mainGlobals → Ct, FuncData → Cv, wpAny_newObj_type → Ef, wpAny_holding → Ej, cellsFrom → Ek, behindInMarks → Et, IsTupleKey → Ex, compareOp → Fj, wpAny_mono → Fs, wpAny_call_entry → Gp, wpAny_callSpecial?_slot → Ib, backTo → Ic, bootBuiltins → Iw, wpAny_passesOwn → Jd, codeAny_builtin → Je, wpAny_truthy_bool → Jk, foldedSetIterable → Jl, sysModules → Js, sizeLine_eq → Jt, binaryOp → Jv, assignEach → Jw, wpAny_typeOf → Kc, wpAny_of_eq → Lf, swapsWith → Lg, rawInt → Lr, ofAClassStatement → Ls, codeAny → Mv, sliceBounds → Ni, NameKind → Nj, codeAny_mono → Oe, wpAny_Call_Name_kw → Pf, getItem → Qb, Keyword → Qe, setSearchFrom → Qw, plainId_quiet → Qy, attributeBase → Qz, wpAny_forIn_list → Rl, setField → Rm, builtinsNs → Si, wpAny_loadPart' → Ua, wpAny_execs_nil → Ub, letOwnedTupleGo → Uc, newFunctionEnv → Vv, keywordEach → Vw, hashByValue → Vx, IsPart → Wa, tupleKind → Wi, callerA → Wj, tupleKind_room_in1 → Zm, setEntries → Zn, entryOfKey → Zo, wpAny_setState_of → bP, wpAny_sequenceKey → bQ, wpAny_askSetting → eE, noFill_tuple_add → eG, wpAny_comprehension_free → qL, wpAny_pyNext_list_item → vW, codeAny_compStart_list → vY, slot_list_getitem → X9
open PySem.Around renaming under_plainId → Gs
open PySem.Builtin.List renaming listTooLong → Mt, listLengthHint → Ui
open PySem.Builtin.Range renaming rangeSize → Jg
open PySem.Builtin.Slice renaming slicePlaces → Ii, sliceAdjust → Lv, sliceApplied → Uh
open PySem.Builtin.Tuple renaming tupleExact → Fe, tupleItemsOf → Ue, tupleIsExact → Ug
open PySem.Calls renaming Name_function_global → bS
open PySem.Heap renaming get?_push_of_some → Am, lt_size → Bk, get?_push_size → Br, SameBut → Fn, get?_update_self → Gm, get?_update_other → lE
open PySem.Heap.SameBut renaming update → Cq
open PySem.NameKind renaming cell → Dq, free → Dx
open PySem.Obj renaming mapSeq → Ji, putSet → Vy
open PySem.PassesOwn renaming never → Ee
open PySem.PyData renaming depthAll → Bi, int → Ca, depth → Dd
open PySem.SeqAt renaming EqAt → Lj
open PySem.SetTable renaming below → Bl, insertAt → Cj, bits → Cp, runEnd → Cu, Probe → Dk, turns → Dv, laid → Fz, layClean → Ie, advance → Ja, toList_insertAt → Nm, insertAt_perm → Oy, slot → Rn, sizeAbove → Sb
open PySem.SetTable.below renaming go → Qd
open PySem.SetTable.layClean renaming free → Dh
open PySem.SetTable.probe renaming go → Qc
open PySem.SetTable.sizeAbove renaming go → Jh
open PySem.Str renaming ofString → Lc
open PySem.Value renaming ref → Ao, type → Eb, int → Li, none → Pl
open Sum renaming inl → Ra
open True renaming intro → Kq
namespace L2
open PySem PySem.Spec PyProof.Rows
abbrev Jy:=Sum Int Str
def aS:Jy->Value->Bool
 | .inl k,v=>Value.isInt k v
 | .inr x,v=>Value.isStrOf x v
def AF(w:World):Jy->Int
 | .inl k=>hashInt k
 | .inr x=>hashStr w x
theorem Gn:∀{k:Jy} {v:Value},aS k v=true->(∃i t,k=Ra i/\v=Li i t)\/(∃x t,k=Sum.inr x/\v=Value.str x t)
 | .inl i,v,h=>by
  obtain ⟨t,e⟩:=Value.isInt_shape (k:=i) (v:=v) h
  exact .inl ⟨i,t,rfl,e⟩
 | .inr x,v,h=>by
  obtain ⟨t,e⟩:=Value.isStrOf_shape (x:=x) (v:=v) h
  exact .inr ⟨x,t,rfl,e⟩
theorem qI(i:Int)(t:Tok):aS (.inl i) (.int i t)=true:=by simp [aS,Value.isInt]
theorem oN(x:Str)(t:Tok):aS (.inr x) (.str x t)=true:=by simp [aS,Value.isStrOf]
theorem L1(a b:Int):decide ((Ra a:Jy)=Ra b)=(a == b):=by
 by_cases e:a=b
 ·subst e; simp
 ·have h:¬ (Ra a:Jy)=Ra b:=λq=>e (Sum.inl.inj q)
  rw[decide_eq_false h]
  exact (beq_eq_false_iff_ne.mpr e).symm
theorem K3(a b:Str):decide ((Sum.inr a:Jy)=Sum.inr b)=decide (a=b):=by
 by_cases e:a=b
 ·subst e; simp
 ·have h:¬ (Sum.inr a:Jy)=Sum.inr b:=λq=>e (Sum.inr.inj q)
  rw[decide_eq_false h,decide_eq_false e]
theorem u9(a:Int)(b:Str):decide ((Ra a:Jy)=Sum.inr b)=false:=decide_eq_false (λq=>nomatch q)
theorem B6(a:Str)(b:Int):decide ((Sum.inr a:Jy)=Ra b)=false:=decide_eq_false (λq=>nomatch q)
def Hk(prog:Be)(w:World):PySem.KeyKind prog w Jy where
 is:=aS
 hash:=AF w
 inj:=λv a b ha hb=>by
  rcases Gn ha with ⟨i,t,rfl,rfl⟩ | ⟨x,t,rfl,rfl⟩
  ·rcases Gn hb with ⟨j,u,rfl,e⟩ | ⟨y,u,rfl,e⟩
   ·injection e with e1 _; rw[e1]
   ·exact nomatch e
  ·rcases Gn hb with ⟨j,u,rfl,e⟩ | ⟨y,u,rfl,e⟩
   ·exact nomatch e
   ·injection e with e1 _; rw[e1]
 byValue:=λk v h=>by
  rcases Gn h with ⟨i,t,rfl,rfl⟩ | ⟨x,t,rfl,rfl⟩ <;> rfl
 pyHash:=λhv h=>by
  rcases Gn hv with ⟨i,t,rfl,rfl⟩ | ⟨x,t,rfl,rfl⟩
  ·exact wpAny_pyHash_int h
  ·exact wpAny_pyHash_str h
 eqBool:=λhu hv h=>by
  rcases Gn hu with ⟨i,t,rfl,rfl⟩ | ⟨x,t,rfl,rfl⟩
  ·rcases Gn hv with ⟨j,u,rfl,rfl⟩ | ⟨y,u,rfl,rfl⟩
   ·rw[L1] at h; exact wpAny_eqBool_int h
   ·rw[u9] at h; exact SeqAt.EqAt.int_str i t y u _ _ _ _ h
  ·rcases Gn hv with ⟨j,u,rfl,rfl⟩ | ⟨y,u,rfl,rfl⟩
   ·rw[B6] at h; exact SeqAt.EqAt.str_int x t j u _ _ _ _ h
   ·rw[K3] at h; exact wpAny_eqBool_str h
 «strs»:=λk x t v h=>by
  rcases Gn h with ⟨i,u,rfl,e⟩ | ⟨y,u,rfl,e⟩
  ·exact nomatch e
  ·injection e with e1 _
   subst e1
   cases v <;> rfl
theorem fG(prog:Be)(w:World)(i:Int)(t:Tok):(Hk prog w).is (.inl i) (.int i t)=true:=qI i t
theorem gO(prog:Be)(w:World)(x:Str)(t:Tok):(Hk prog w).is (.inr x) (.str x t)=true:=oN x t
inductive V where
 | non | bl (b:Bool) | int (i:Int) | str (x:Str) | byt (b:Array UInt8) | flt (b:UInt64) | ref (a:Addr) | ty (n:String)
 deriving DecidableEq
def RelV:V->Value->Prop
 | .non,u=>u=Pl
 | .bl b,u=>u=Value.bool b
 | .int i,u=>∃t,u=Li i t
 | .str x,u=>∃t,u=Value.str x t
 | .byt b,u=>∃t,u=Value.bytes b t
 | .flt b,u=>∃t,u=Value.float b t
 | .ref a,u=>u=Ao a
 | .ty n,u=>u=Eb n
abbrev Fg:List V->List Value->Prop:=Paired RelV
theorem Fg.length{xs:List V}{us:List Value}(r:Fg xs us):xs.length=us.length:=Paired.length r
theorem Fg.get:∀{xs:List V} {us:List Value} {i:Nat} {x:V},Fg xs us->xs[i]? = some x->∃u,us[i]? = some u/\RelV x u
 | _,_,_,_,.nil,e=>by simp at e
 | _,_,0,_,.cons r _,e=>by simp at e; subst e; exact ⟨_,rfl,r⟩
 | _,_,i+1,x,.cons _ t,e=>by
  obtain ⟨u,h1,h2⟩:=Fg.get (i:=i) (x:=x) t (by simpa using e)
  exact ⟨u,by simpa using h1,h2⟩
theorem Fg.set{x:V}{u:Value}(r:RelV x u):∀{xs:List V} {us:List Value} (i:Nat),Fg xs us->Fg (xs.set i x) (us.set i u)
 | _,_,_,.nil=>.nil
 | _,_,0,.cons _ t=>.cons r t
 | _,_,i+1,.cons q t=>.cons q (Fg.set r i t)
theorem Fg.append:∀{xs ys:List V} {us ws:List Value},Fg xs us->Fg ys ws->Fg (xs++ys) (us++ws)
 | _,_,_,_,.nil,s=>s
 | _,_,_,_,.cons r t,s=>.cons r (Fg.append t s)
theorem Fg.take:∀{xs:List V} {us:List Value} (n:Nat),Fg xs us->Fg (xs.take n) (us.take n)
 | _,_,0,_=>.nil
 | _,_,_+1,.nil=>.nil
 | _,_,n+1,.cons r t=>.cons r (Fg.take n t)
theorem Fg.drop:∀{xs:List V} {us:List Value} (n:Nat),Fg xs us->Fg (xs.drop n) (us.drop n)
 | _,_,0,r=>r
 | _,_,_+1,.nil=>.nil
 | _,_,n+1,.cons _ t=>Fg.drop n t
def jU:Option V->Option Value->Prop
 | some v,some u=>RelV v u
 | none,none=>True
 | _,_=>False
def KV{κ:Type}:List (κ×V)->List (κ×Value)->Prop:=Paired λ(p:κ×V) (q:κ×Value)=>p.1=q.1/\RelV p.2 q.2
def kV:Jy->V
 | .inl i=>.int i
 | .inr x=>.str x
inductive HO where
 /-- a list -/
 | lst (xs:List V)
 /-- a tuple (never changes) -/
 | tup (xs:List V)
 /-- a dict whose xQ are ints and texts; one whose xQ are tuples of ints and texts (the empty one is both) -/
 | dK (kvs:List (Jy×V)) | dT (kvs:List (List Jy×V))
 /-- a set of ints: its members,its size -/
 | set (S:Int->Bool) (n:Nat)
 /-- an instance of the class at C,its dict at dx,its attributes -/
 | ins (C dx:Addr) (fs:List (Str×V))
 /-- the dict of the instance at x -/
 | own (x:Addr)
 /-- the dict of an exception -/
 | xd (fs:List (Str×V))
 /-- a bound method,f of x -/
 | met (f x:Addr)
 /-- a range object lo,lo+1,.. below hi -/
 | rng (lo hi:Int)
 /-- a thing that is known to the object (the script; a dict while a loop walks it): read,never written while it is so -/
 | frz (o:Obj) (u:HO)
 /-- a code object's table -/
 | tbl (ps:Array Value)
 /-- any other thing,by what is true of its one object (a def of one's own: BF a S n:=HO.ext λh=>..) -/
 | ext (φ:Heap->Prop)
abbrev Hp:=Addr->Option HO
def upd(H:Hp)(a:Addr)(o:HO):Hp:=λb=>if b=a then some o else H b
theorem Du{H:Hp}{a:Addr}{o:HO}:upd H a o a=some o:=by unfold upd; rw[if_pos rfl]
theorem Eg{H:Hp}{a b:Addr}{o:HO}(h:b≠a):upd H a o b=H b:=by unfold upd; rw[if_neg h]
theorem R6{H:Hp}{a b:Addr}{o u:HO}(h:H a=some o)(h':H b=some u)(d:o≠u):a≠b:=by
 intro e; subst e; rw[h] at h'; exact d (Ck h')
theorem Fo{H:Hp}{a b:Addr}{o:HO}(h:H a=some o)(h':H b=none):a≠b:=by
 intro e; subst e; rw[h] at h'; cases h'
section
variable(P:Be)(w:World)
def Gc(H:Hp)(h:Heap)(a:Addr):HO->Prop
 | .lst xs=>xs.length<=Ax/\∃(its:List Value) (n:Nat),Fg xs its/\h.get? a=some { cls:=.type "list",data:=.seq its.toArray n }
 | .tup xs=>xs.length<=Ax/\∃its:List Value,Fg xs its/\IsTup h a its.toArray
 | .dK kvs=>kvs.length<=Ax/\(a == Js)=false/\∃vs,KV kvs vs/\h.DictOf (Hk P w) a vs
 | .dT kvs=>kvs.length<=Ax/\(a == Js)=false/\∃xs:List (List Jy×Addr×Value),
   Paired (λ(p:List Jy×V) (q:List Jy×Addr×Value)=>p.1=q.1/\H q.2.1=some (.tup (p.1.map kV))/\RelV p.2 q.2.2) kvs xs /\
   ∃o es ep,h.get? a=some o/\o.ExactDict/\o.data=.dict es ep/\es.toList=xs.map (Zo (Wi (Hk P w)))/\(xs.map (·.1)).Nodup/\ep=es.size
 | .set S n=>h.SetOf (Ce P w) a S n
 | .ins C dx fs=>H dx=some (.own a)/\fs.length<=1000/\dx≠a/\h.get? a=some (PySem.W.instObj C dx) /\
   ∃mA,h.Ns1 dx mA/\(∀f,jU (fs.lookup f) (mA f))/\PySem.Within mA (fs.map (·.1))
 | .own _=>∃o,h.get? a=some o
 | .xd fs=>∃mA,h.Ns1 a mA/\∀f,jU (fs.lookup f) (mA f)
 | .rng lo hi=>∃t u v,h.get? a=some { cls:=.type "range",data:=.fields #[.int lo t,.int hi u,.int 1 v] }
 | .frz o u=>h.get? a=some o/\Gc H h a u
 | .tbl ps=>∃qs:Array Value,h.get? a=some { cls:=.none,data:=.fields qs }/\TriplesOk qs.toList/\∀(pos:Pos) (v:Value),codeAmong pos qs.toList=some v->∃(c:Addr) (oc:Obj) (us:Array Value) (q:Str) (t t0:Tok),v=.ref c/\H c=some (.own a)/\h.get? c=some oc/\oc.data=.fields us/\us[1]? = some (.str q t)/\ps[0]? = some (.str q t0)
 | .met f x=>h.get? a=some (PySem.W.methodObj (.ref f) (.ref x))
 | .ext φ=>φ h/\(∃o,h.get? a=some o)/\∀h1 h2:Heap,φ h1->(∀o,h1.get? a=some o->h2.get? a=some o)->φ h2
def Sz(H:Hp)(h:Heap):Prop:=∀a o,H a=some o->Gc P w H h a o
end
section
variable{P:Be}{w:World}{H H':Hp}{h h':Heap}{a:Addr}{o:HO}
theorem Gc.lt(x:Gc P w H h a o):a<h.objs.size:=by
 cases o with
 | lst xs=>obtain ⟨_,_,_,_,e⟩:=x; exact Bk e
 | tup xs=>obtain ⟨_,_,_,p⟩:=x; exact p.lt
 | dK kvs=>obtain ⟨_,_,_,_,o,_,_,e,_⟩:=x; exact Bk e
 | dT kvs=>obtain ⟨_,_,_,_,o,_,_,e,_⟩:=x; exact Bk e
 | set S n=>obtain ⟨o,_,_,_,e,_⟩:=x; exact Bk e
 | ins C dx fs=>obtain ⟨_,_,_,e,_⟩:=x; exact Bk e
 | own y=>obtain ⟨_,e⟩:=x; exact Bk e
 | xd fs=>obtain ⟨_,⟨_,_,_,e,_⟩,_⟩:=x; exact Bk e
 | rng lo hi=>obtain ⟨_,_,_,e⟩:=x; exact Bk e
 | frz ob u=>obtain ⟨e,_⟩:=x; exact Bk e
 | tbl ps=>obtain ⟨_,e,_⟩:=x; exact Bk e
 | met f y=>exact Bk (show h.get? a=some _ from x)
 | ext φ=>obtain ⟨_,⟨_,e⟩,_⟩:=x; exact Bk e
theorem Paired.mapP{α β:Type}{F G:α->β->Prop}:∀{l₁:List α} {l₂:List β},Paired F l₁ l₂->(∀a b,F a b->G a b)->Paired G l₁ l₂
 | _,_,.nil,_=>.nil
 | _,_,.cons r t,f=>.cons (f _ _ r) (Paired.mapP t f)
theorem Gc.stay(x:Gc P w H h a o)(k:∀b u,(b=a\/H b=some (.own a))->h.get? b=some u->h'.get? b=some u)(ho:∀b,H b=some (.own a)->H' b=some (.own a))(ht:∀b xs,H b=some (.tup xs)->H' b=some (.tup xs)):Gc P w H' h' a o:=by
 induction o with
 | lst xs=>obtain ⟨z,its,n,r,e⟩:=x; exact ⟨z,its,n,r,k _ _ (.inl rfl) e⟩
 | tup xs=>obtain ⟨z,its,r,ob,e,c⟩:=x; exact ⟨z,its,r,ob,k _ _ (.inl rfl) e,c⟩
 | dK kvs=>obtain ⟨z,y,vs,r,ob,es,ep,e,c⟩:=x; exact ⟨z,y,vs,r,ob,es,ep,k _ _ (.inl rfl) e,c⟩
 | dT kvs =>
  obtain ⟨z,y,xs,r,ob,es,ep,e,c⟩:=x
  exact ⟨z,y,xs,Paired.mapP r λp q z=>⟨z.1,ht _ _ z.2.1,z.2.2⟩,ob,es,ep,k _ _ (.inl rfl) e,c⟩
 | set S n=>obtain ⟨ob,es,ep,t,e,c⟩:=x; exact ⟨ob,es,ep,t,k _ _ (.inl rfl) e,c⟩
 | ins C dx fs =>
  obtain ⟨d,z,ne,e,mA,⟨od,es,ep,e2,c⟩,r⟩:=x
  exact ⟨ho _ d,z,ne,k _ _ (.inl rfl) e,mA,⟨od,es,ep,k _ _ (.inr d) e2,c⟩,r⟩
 | own y=>obtain ⟨ob,e⟩:=x; exact ⟨ob,k _ _ (.inl rfl) e⟩
 | xd fs=>obtain ⟨mA,⟨od,es,ep,e,c⟩,r⟩:=x; exact ⟨mA,⟨od,es,ep,k _ _ (.inl rfl) e,c⟩,r⟩
 | rng lo hi=>obtain ⟨t,u,v,e⟩:=x; exact ⟨t,u,v,k _ _ (.inl rfl) e⟩
 | frz ob u ih=>obtain ⟨e,q⟩:=x; exact ⟨k _ _ (.inl rfl) e,ih q⟩
 | tbl ps =>
  obtain ⟨qs,e,t,z⟩:=x
  exact ⟨qs,k _ _ (.inl rfl) e,t,λpos v y=>by
   obtain ⟨c,oc,us,q,t,t0,h1,h2,h3,h4⟩:=z pos v y
   exact ⟨c,oc,us,q,t,t0,h1,ho _ h2,k _ _ (.inr h2) h3,h4⟩⟩
 | met f y =>
  have e:h.get? a=some (PySem.W.methodObj (.ref f) (.ref y)):=x
  show h'.get? a=some (PySem.W.methodObj (.ref f) (.ref y))
  exact k a _ (.inl rfl) e
 | ext φ=>obtain ⟨p,⟨o,e⟩,st⟩:=x; exact ⟨st _ _ p λo q=>k _ _ (.inl rfl) q,⟨o,k _ _ (.inl rfl) e⟩,st⟩
theorem Sz.lt(x:Sz P w H h)(e:H a=some o):a<h.objs.size:=(x a o e).lt
theorem Sz.fresh(x:Sz P w H h)(e:h.objs.size<=a):H a=none:=by
 cases q:H a with
 | none=>rfl
 | some u=>exact absurd (Bx (x.lt q) e) (Hh _)
theorem Sz.kept(x:Sz P w H h)(k:∀b u,h.get? b=some u->h'.get? b=some u):Sz P w H h':=λa o e =>
 (x a o e).stay (λb u _ q=>k b u q) (λ_ q=>q) λ_ _ q=>q
theorem Sz.laid(x:Sz P w H h)(k:∀b u,h.get? b=some u->h'.get? b=some u)(hp:h.objs.size<=a)(new:Gc P w (upd H a o) h' a o):Sz P w (upd H a o) h':=λb u e=>by
 have hn:=x.fresh hp
 by_cases hb:b=a
 ·subst hb; rw[Du] at e; cases e; exact new
 ·rw[Eg hb] at e
  exact (x b u e).stay (λc v _ q=>k c v q) (λc q=>by rw[Eg (Fo q hn)]; exact q) λc xs q=>by rw[Eg (Fo q hn)]; exact q
end
def Rd(H:Hp)(a:Addr)(u:HO):Prop:=H a=some u\/∃o,H a=some (.frz o u)
theorem Rd.ok{P:Be}{w:World}{H:Hp}{h:Heap}{a:Addr}{u:HO}(r:Rd H a u)(x:Sz P w H h):Gc P w H h a u:=by
 rcases r with r | ⟨o,r⟩
 ·exact x a u r
 ·obtain ⟨_,q⟩:=x a _ r
  exact q
def V4:Option HO->Prop
 | some (.lst _)=>True
 | some (.dK _)=>True
 | some (.dT _)=>True
 | some (.set _ _)=>True
 | some (.ins _ _ _)=>True
 | some (.ext _)=>True
 | _=>False
section
variable{P:Be}{w:World}{H:Hp}{h h':Heap}{x e:Addr}{o':HO}
theorem Sz.write(ok:Sz P w H h)(mu:V4 (H x))(he:e=x\/H e=some (.own x))(k:∀b u,b≠e->h.get? b=some u->h'.get? b=some u)(heo:∃u,h'.get? e=some u)(new:Gc P w (upd H x o') h' x o'):Sz P w (upd H x o') h':=λb u q=>by
 have nown:∀c y,H c=some (.own y)->c≠x:=λc y r z=>by subst z; rw[r] at mu; exact mu
 have Yd:∀c xs,H c=some (.tup xs)->c≠x:=λc xs r z=>by subst z; rw[r] at mu; exact mu
 by_cases hb:b=x
 ·subst hb; rw[Du] at q; cases q; exact new
 ·rw[Eg hb] at q
  by_cases hbe:b=e
  ·have q':H b=some (.own x):=by
    rcases he with z | z
    ·exact absurd (hbe.trans z) hb
    ·rw[hbe]; exact z
   rw[q] at q'; cases q'
   obtain ⟨v,hv⟩:=heo
   exact ⟨v,by rw[hbe]; exact hv⟩
  ·refine (ok b u q).stay (λc v hc r=>k c v ?_ r) (λc r=>by rw[Eg (nown c b r)]; exact r) λc xs r=>by rw[Eg (Yd c xs r)]; exact r
   rcases hc with rfl | hc
   ·exact hbe
   ·rintro rfl
    rcases he with z | z
    ·exact nown c b hc z
    ·rw[hc] at z; cases z; exact hb rfl
end
structure Un(fs ex:List Addr)(H H':Hp)(h h':Heap):Prop where
 keep:∀b o,h.get? b=some o->H b=none->b∉fs->b∉ex->h'.get? b=some o
 slot:∀b o,h.get? b=some o->H b=none->b∈fs->b∉ex->∃sl,h'.get? b=some { o with slots:=sl }
 free:∀b o,h.get? b=some o->H b=none->b∉ex->H' b=none
 there:∀b o,h.get? b=some o->b∉ex->∃o',h'.get? b=some o'
 tups:∀b xs,H b=some (.tup xs)->H' b=some (.tup xs)
 frzs:∀b o u,H b=some (.frz o u)->H' b=some (.frz o u)
 tbls:∀b ps,H b=some (.tbl ps)->∃more,H' b=some (.tbl (ps++more))
section
variable{fs fs' ex ex':List Addr}{H H1 H2:Hp}{h h1 h2 h':Heap}{a x e:Addr}{o:HO}
theorem Un.any(u:Un fs ex H H1 h h1){b:Addr}{ob:Obj}(q:h.get? b=some ob)(n:H b=none)(hx:b∉ex):∃sl,h1.get? b=some { ob with slots:=sl }:=by
 by_cases hb:b∈fs
 ·exact u.slot b ob q n hb hx
 ·exact ⟨ob.slots,u.keep b ob q n hb hx⟩
theorem Un.kept(k:∀b u,h.get? b=some u->h'.get? b=some u):Un fs ex H H h h' :=
 ⟨λb ob q _ _ _=>k b ob q,λb ob q _ _ _=>⟨ob.slots,k b ob q⟩,λ_ _ _ n _=>n,λb ob q _=>⟨ob,k b ob q⟩,λ_ _ q=>q,λ_ _ _ q=>q,λ_ ps q=>⟨#[],by rw[q]; simp⟩⟩
theorem Un.refl:Un fs ex H H h h:=Un.kept λ_ _ q=>q
theorem Un.laid(k:∀b u,h.get? b=some u->h'.get? b=some u)(hp:h.objs.size<=a)(hn:H a=none):Un fs ex H (upd H a o) h h' where
 keep:=λb u q _ _ _=>k b u q
 slot:=λb u q _ _ _=>⟨u.slots,k b u q⟩
 free:=λb u q n _=>by rw[Eg (Cy (Bx (Bk q) hp))]; exact n
 there:=λb u q _=>⟨u,k b u q⟩
 tups:=λb xs q=>by rw[Eg (Fo q hn)]; exact q
 frzs:=λb u xs q=>by rw[Eg (Fo q hn)]; exact q
 tbls:=λb ps q=>⟨#[],by rw[Eg (Fo q hn),q]; simp⟩
theorem Un.write(mu:V4 (H x))(he:e=x\/H e=some (.own x))(k:∀b u,b≠e->h.get? b=some u->h'.get? b=some u)(heo:∃u,h'.get? e=some u):Un fs ex H (upd H x o) h h':=by
 have hx:∀b,H b=none->b≠x:=λb n z=>by subst z; rw[n] at mu; exact mu
 have hb:∀b,H b=none->b≠e:=λb n z=>by
  subst z
  rcases he with r | r
  ·exact hx b n r
  ·rw[n] at r; cases r
 have hm:∀b u,H b=some u->¬ V4 (some u)->b≠x:=λb u q nm z=>by subst z; rw[q] at mu; exact nm mu
 refine ⟨λb u q n _ _=>k b u (hb b n) q,λb u q n _ _=>⟨u.slots,k b u (hb b n) q⟩,λb u q n _=>by rw[Eg (hx b n)]; exact n,λb u q _=>?_,
  λb xs q=>by rw[Eg (hm b _ q λz=>z)]; exact q,λb u xs q=>by rw[Eg (hm b _ q λz=>z)]; exact q,λb ps q=>⟨#[],by rw[Eg (hm b _ q λz=>z),q]; simp⟩⟩
 by_cases hbe:b=e
 ·subst hbe; exact heo
 ·exact ⟨u,k b u hbe q⟩
end
def Y7(h:Heap)(H:Hp):List Addr:=(Bp h.objs.size).filter λa=>(H a).isSome
def aB(h:Heap)(H:Hp):Heap:=PySem.W.hideAll h (Y7 h H)
theorem oJ(h:Heap)(H:Hp):(aB h H).objs.size=h.objs.size:=PySem.W.hideAll_size _ _
theorem rY{h:Heap}{H:Hp}{b:Addr}{o:Obj}(e:h.get? b=some o)(n:H b=none):(aB h H).get? b=some o :=
 PySem.W.hideAll_get _ e λhm=>by
  have q:(H b).isSome=true:=(Kd.mp hm).2
  rw[n] at q; simp at q
theorem yE{h:Heap}{H:Hp}{b:Addr}{o:Obj}(e:(aB h H).get? b=some o):h.get? b=some o/\H b=none:=by
 have e':h.get? b=some o:=PySem.W.of_hideAll (Y7 h H) e
 refine ⟨e',?_⟩
 cases q:H b with
 | none=>rfl
 | some x =>
  have hm:b∈Y7 h H:=Kd.mpr ⟨Dm.mpr (Bk e'),by simp [q]⟩
  have z:(aB h H).get? b=none:=PySem.W.hideAll_none (Y7 h H) hm
  rw[z] at e; cases e
def yS(g h:Heap)(L:Addr):List (Addr×Obj):=(Bp h.objs.size).filterMap λa=>if a=L\/(g.get? a).isSome=true then none else (h.get? a).map λo=>(a,o)
def Eo(g h:Heap)(L d:Addr):List (Addr×Obj):=(yS g h L).filter λp=>decide (p.1≠d)
structure Mod(K:PySem.W.Frag)(mg:Str->Option Value)(base:Heap):Prop where
 kin:K.In base
 glob:base.Ns Ct mg
 blt:∃mb,base.Ns Si mb/\∀x:Str,x ≠ "__name__" -> mb x=Iw x
 nolimit:base.NoLimit
def Tg:List Str:=["often", "cut_by"]
def L8(x:Str):Str:=x ++ ".<locals>." ++ "<lambda>"
def i7(H:Hp)(P:Addr)(q:Str):Prop:=∃(ps:Array Value) (t0:Tok),H P=some (.tbl ps)/\ps[0]? = some (.str q t0)
def uG(K:PySem.W.Frag)(mg:Str->Option Value)(base:Heap)(H:Hp):Prop:=∀x∈Tg,∀c P,PySem.W.tabIn K x=some (c,P)->PySem.W.CodeHd base c P/\base.BuiltinsAt mg P/\i7 H P (L8 x)
theorem uG.un{K:PySem.W.Frag}{mg:Str->Option Value}{base:Heap}{fs ex:List Addr}{H H':Hp}{h h':Heap}(t:uG K mg base H)(u:Un fs ex H H' h h'):uG K mg base H':=λx hx c P e=>by
 obtain ⟨h1,h2,ps,t0,h3,h4⟩:=t x hx c P e
 obtain ⟨more,h5⟩:=u.tbls P ps h3
 refine ⟨h1,h2,ps++more,t0,h5,?_⟩
 have hl:0<ps.size:=by
  rcases Nat.eq_zero_or_pos ps.size with z | z
  ·rw[Pm (by omega)] at h4; cases h4
  ·exact z
 rw[Array.getElem?_append_left hl]
 exact h4
structure Cx where
 prog:Be
 w:World
 K:PySem.W.Frag
 mg:Str->Option Value
 base:Heap
 A:Co
 N:List Str
 s₀:Ag
 H₀:Hp
 env:Env
 outer:List Env
 stack:List Env
 ex:List Addr
 fn:Str->Bool
 calm:Bool
 pn:List (Addr×Obj)
 xe:Value->Ag->Prop
def pF(l:List Env):List Addr:=l.filterMap (·.frame)
abbrev Cx.fs(X:Cx):List Addr:=pF X.outer
def Q3(sc:Scope)(x:Str):Prop:=sc.names.lookup x=some .local\/sc.names.lookup x=some .cell\/sc.names.lookup x=some .free
def Loc(sc:Scope)(x:Str):Prop:=sc.names.lookup x=some .local\/sc.names.lookup x=some .cell
def AM(env:Env)(h:Heap)(m:Str->Option Value)(x:Str)(u:Value):Prop :=
 (env.kindOf x=some .local/\m x=some u)\/((env.kindOf x=some .cell\/env.kindOf x=some .free)/\∃c,env.cells.lookup x=some c/\h.IsCell c (some u))
structure Cx.Ok(X:Cx):Prop where
 mod:Mod X.K X.mg X.base
 kind:X.env.scope.kind=.function
 glob:X.env.globals=Ct
 blt:X.env.builtins=Si
 above:X.s₀.heap.objs.size<=X.env.locals
 inj:∀x y c,X.env.cells.lookup x=some c->X.env.cells.lookup y=some c->x=y
 has:∀x,(X.env.kindOf x=some .cell\/X.env.kindOf x=some .free)->∃c,X.env.cells.lookup x=some c
 cab:∀x c,X.fn x=true->X.env.cells.lookup x=some c->X.s₀.heap.objs.size<=c
 hd:X.calm=true->X.A.handled=none
 frames:X.A.frames=some X.stack
 stk:X.stack=X.outer\/(X.stack=X.env::X.outer/\X.env.frame=some X.env.locals)
 exf:∀b∈X.ex,b≠X.env.locals/\∀x c,X.env.cells.lookup x=some c->c≠b
 bs:∀b o,X.base.get? b=some o->X.s₀.heap.get? b=some o/\X.H₀ b=none
 bsz:X.base.objs.size<=X.s₀.heap.objs.size
 noex:∀b o,X.base.get? b=some o->b∉X.ex
 exfs:∀b∈X.ex,b∉X.fs
 funs:X.s₀.heap.FunFrames X.base X.outer
 frf:∀b∈X.fs,X.H₀ b=none
 tab:uG X.K X.mg X.base X.H₀
structure Inv(X:Cx)(pins:List (Addr×Obj))(σ:List (Option V))(H:Hp)(s:Ag):Prop where
 ok:X.Ok
 os:s.os=X.s₀.os
 bare:Qf s.gens
 base:Un X.fs X.ex X.H₀ H X.s₀.heap s.heap
 loc:∃m,s.heap.Ns X.env.locals m/\∀(i:Nat) (x:Str) (v:V),X.N[i]? = some x->σ[i]? = some (some v)->Q3 X.env.scope x->∃u,RelV v u/\AM X.env s.heap m x u
 cell:∀x c,X.env.cells.lookup x=some c->∃v,s.heap.IsCell c v
 free:H X.env.locals=none
 freeC:∀x c,X.env.cells.lookup x=some c->H c=none
 pin:∀p∈X.pn++pins,s.heap.get? p.1=some p.2/\H p.1=none/\p.1≠X.env.locals/\p.1∉X.fs/\∀v,p.2.data≠.cell v
 hok:Sz X.prog X.w H s.heap
 len:σ.length=X.N.length
section
variable{X:Cx}{pins:List (Addr×Obj)}{σ:List (Option V)}{H H':Hp}{s:Ag}{h':Heap}
theorem Cx.Ok.nofr(ok:X.Ok){b:Addr}{o:Obj}(e:X.base.get? b=some o):b∉X.fs:=λhb=>by
 have:=(ok.funs.mem hb).1
 rw[e] at this; cases this
theorem Inv.bs(I:Inv X pins σ H s):∀b o,X.base.get? b=some o->s.heap.get? b=some o/\H b=none:=λb o e =>
 ⟨I.base.keep b o (I.ok.bs b o e).1 (I.ok.bs b o e).2 (I.ok.nofr e) (I.ok.noex b o e),I.base.free b o (I.ok.bs b o e).1 (I.ok.bs b o e).2 (I.ok.noex b o e)⟩
theorem Inv.bk(I:Inv X pins σ H s):∀b o,X.base.get? b=some o->s.heap.get? b=some o:=λb o e=>(I.bs b o e).1
theorem Inv.mod(I:Inv X pins σ H s):Mod X.K X.mg X.base:=I.ok.mod
theorem Inv.kIn(I:Inv X pins σ H s):X.K.In s.heap:=I.ok.mod.kin.keeps I.bk
theorem Inv.lt(I:Inv X pins σ H s):X.env.locals<s.heap.objs.size:=let ⟨_,hn,_⟩:=I.loc; hn.lt
theorem Inv.sz(I:Inv X pins σ H s):X.s₀.heap.objs.size<=s.heap.objs.size:=Cg I.ok.above (Ld I.lt)
theorem Inv.nofs(I:Inv X pins σ H s){a:Addr}(h:s.heap.objs.size<=a):a∉X.fs:=λhb=>by
 obtain ⟨_,o,ho,_⟩:=I.ok.funs.mem hb
 exact absurd (Bx (Bk ho) (Cg I.sz h)) (Hh _)
theorem Inv.cne(I:Inv X pins σ H s):∀x c,X.env.cells.lookup x=some c->c≠X.env.locals:=λx c e z=>by
 obtain ⟨v,o,ho,hd⟩:=I.cell x c e
 obtain ⟨m,⟨o',es,ep,ho',hd',_⟩,_⟩:=I.loc
 rw[z,ho'] at ho; cases ho; rw[hd'] at hd; cases hd
theorem Inv.funs(I:Inv X pins σ H s):s.heap.FunFrames X.base X.outer:=by
 have all:∀(l:List Env),(∀b∈pF l,b∈X.fs)->X.s₀.heap.FunFrames X.base l->s.heap.FunFrames X.base l:=by
  intro l
  induction l with
  | nil=>intro _ _; trivial
  | cons env r ih =>
   intro hs hl
   obtain ⟨hk,⟨L,o,hf,hn,ho,hd⟩,hr⟩:=hl
   have hL:L∈X.fs:=hs L (by unfold pF; rw[Hi,hf]; exact Aa)
   obtain ⟨sl,e⟩:=I.base.slot L o ho (I.ok.frf L hL) hL λz=>I.ok.exfs L z hL
   exact ⟨hk,⟨L,_,hf,hn,e,hd⟩,ih (λb hb=>hs b (by unfold pF; rw[Hi,hf]; exact Af _ hb)) hr⟩
 exact all X.outer (λ_ hb=>hb) I.ok.funs
theorem Inv.stack(I:Inv X pins σ H s):s.heap.FunFrames X.base X.stack:=by
 rcases I.ok.stk with e | ⟨e,hf⟩
 ·rw[e]; exact I.funs
 ·rw[e]
  obtain ⟨m,hn,_⟩:=I.loc
  refine .cons (by rw[I.ok.kind]; decide) hf hn ?_ I.funs
  exact Heap.get?_none_of_le (Cg I.ok.bsz I.ok.above)
theorem Inv.stkSub(I:Inv X pins σ H s):∀b∈pF X.stack,b∈X.env.locals::X.fs:=λb hb=>by
 rcases I.ok.stk with e | ⟨e,hf⟩
 ·rw[e] at hb; exact Af _ hb
 ·rw[e] at hb
  unfold pF at hb
  rw[Hi,hf] at hb
  exact hb
theorem Inv.stkFree(I:Inv X pins σ H s):∀b∈pF X.stack,H b=none:=λb hb=>by
 rcases An.mp (I.stkSub b hb) with e | hb
 ·rw[e]; exact I.free
 ·obtain ⟨_,o,ho,_⟩:=I.ok.funs.mem hb
  exact I.base.free b o ho (I.ok.frf b hb) λz=>I.ok.exfs b z hb
theorem Inv.step{g':Array GenState}{t':Nat}{d':Drawn}{ch:List Addr}(I:Inv X pins σ H s)(hch:∀b∈ch,(b∈X.ex\/X.s₀.heap.objs.size<=b)/\b≠X.env.locals/\(∀x c,X.env.cells.lookup x=some c->c≠b)/\∀p∈X.pn++pins,p.1≠b)(keep:∀b o,b≠X.env.locals->b∉X.fs->b∉ch->s.heap.get? b=some o->H b=none->h'.get? b=some o)(slot:∀b o,b≠X.env.locals->b∈X.fs->b∉ch->s.heap.get? b=some o->H b=none->∃sl,h'.get? b=some { o with slots:=sl })(free:∀b o,b∉ch->s.heap.get? b=some o->H b=none->H' b=none)(there:∀b o,b∉ch->s.heap.get? b=some o->∃o',h'.get? b=some o')(tups:∀b xs,H b=some (.tup xs)->H' b=some (.tup xs))(frzs:∀b o u,H b=some (.frz o u)->H' b=some (.frz o u))(tbls:∀b ps,H b=some (.tbl ps)->∃more,H' b=some (.tbl (ps++more)))(ns:∀m,s.heap.Ns X.env.locals m->h'.Ns X.env.locals m)(hok:Sz X.prog X.w H' h')(hg:Qf g'):Inv X pins σ H' { s with heap:=h',gens:=g',drawn:=d',toks:=t' }:=by
 have neL:∀b o,X.s₀.heap.get? b=some o->b≠X.env.locals:=λb o e=>Cy (Bx (Bk e) I.ok.above)
 have neC:∀b o,X.s₀.heap.get? b=some o->b∉X.ex->b∉ch:=λb o e hx hb=>by
  rcases (hch b hb).1 with z | z
  ·exact hx z
  ·exact absurd (Bx (Bk e) z) (Hh _)
 have cellK:∀x c,X.env.cells.lookup x=some c->∀v,s.heap.IsCell c v->h'.IsCell c v:=λx c e v ⟨o,ho,hd⟩=>by
  have nch:c∉ch:=λz=>(hch c z).2.2.1 x c e rfl
  by_cases hc:c∈X.fs
  ·obtain ⟨sl,q⟩:=slot c o (I.cne x c e) hc nch ho (I.freeC x c e)
   exact ⟨_,q,hd⟩
  ·exact ⟨o,keep c o (I.cne x c e) hc nch ho (I.freeC x c e),hd⟩
 refine ⟨I.ok,I.os,hg,⟨λb o e n hb hx=>?_,λb o e n hb hx=>?_,λb o e n hx=>?_,λb o e hx=>?_,λb xs e=>tups b xs (I.base.tups b xs e),λb o xs e=>frzs b o xs (I.base.frzs b o xs e),λb ps e=>?_⟩,?_,λx c e=>?_,?_,λx c e=>?_,λp hp=>?_,hok,I.len⟩
 ·exact keep b o (neL b o e) hb (neC b o e hx) (I.base.keep b o e n hb hx) (I.base.free b o e n hx)
 ·obtain ⟨sl,e1⟩:=I.base.slot b o e n hb hx
  obtain ⟨sl',e2⟩:=slot b _ (neL b o e) hb (neC b o e hx) e1 (I.base.free b o e n hx)
  exact ⟨sl',e2⟩
 ·obtain ⟨o',e1⟩:=I.base.there b o e hx
  exact free b o' (neC b o e hx) e1 (I.base.free b o e n hx)
 ·obtain ⟨o',e1⟩:=I.base.there b o e hx
  exact there b o' (neC b o e hx) e1
 ·obtain ⟨m1,e1⟩:=I.base.tbls b ps e
  obtain ⟨m2,e2⟩:=tbls b _ e1
  exact ⟨m1++m2,by rw[e2,Array.append_assoc]⟩
 ·obtain ⟨m,hn,hl⟩:=I.loc
  refine ⟨m,ns m hn,λi x v e1 e2 e3=>?_⟩
  obtain ⟨u,r,l⟩:=hl i x v e1 e2 e3
  refine ⟨u,r,?_⟩
  rcases l with l | ⟨k,c,e,z⟩
  ·exact .inl l
  ·exact .inr ⟨k,c,e,cellK x c e _ z⟩
 ·obtain ⟨v,z⟩:=I.cell x c e
  exact ⟨v,cellK x c e v z⟩
 ·obtain ⟨m,⟨o,_,_,ho,_⟩,_⟩:=I.loc
  exact free _ o (λz=>(hch _ z).2.1 rfl) ho I.free
 ·obtain ⟨v,o,ho,hd⟩:=I.cell x c e
  exact free c o (λz=>(hch c z).2.2.1 x c e rfl) ho (I.freeC x c e)
 ·obtain ⟨e,n,ne,nf,d⟩:=I.pin p hp
  have nch:p.1∉ch:=λz=>(hch p.1 z).2.2.2 p hp rfl
  exact ⟨keep p.1 p.2 ne nf nch e n,free p.1 p.2 nch e n,ne,nf,d⟩
theorem Inv.un{t':Nat}(I:Inv X pins σ H s)(u:Un X.fs [] H H' s.heap h')(hok:Sz X.prog X.w H' h'):Inv X pins σ H' { s with heap:=h',toks:=t' }:=by
 obtain ⟨m,⟨o,es,ep,ho,r⟩,_⟩:=id I.loc
 obtain ⟨sl,hL⟩:=u.any ho I.free (by simp)
 exact I.step (g':=s.gens) (d':=s.drawn) (ch:=[]) (λ_ z=>nomatch z) (λb o _ hb _ e n=>u.keep b o e n hb (by simp)) (λb o _ hb _ e n=>u.slot b o e n hb (by simp)) (λb o _ e n=>u.free b o e n (by simp)) (λb o _ e=>u.there b o e (by simp)) u.tups u.frzs u.tbls (λm' hm=>by
  obtain ⟨o',es',ep',ho',r'⟩:=hm
  rw[ho] at ho'; cases ho'
  exact ⟨_,es',ep',hL,r'⟩) hok I.bare
theorem Inv.call{g':Array GenState}{t':Nat}{d':Drawn}{ch:List Addr}(I:Inv X pins σ H s)(u:Un (pF X.stack) ch H H' s.heap h')(hok:Sz X.prog X.w H' h')(hg:Qf g')(hch:∀b∈ch,(b∈X.ex\/X.s₀.heap.objs.size<=b)/\b≠X.env.locals/\(∀x c,X.env.cells.lookup x=some c->c≠b)/\∀p∈X.pn++pins,p.1≠b):Inv X pins σ H' { s with heap:=h',gens:=g',drawn:=d',toks:=t' }:=by
 obtain ⟨m,⟨o,es,ep,ho,r⟩,_⟩:=id I.loc
 obtain ⟨sl,hL⟩:=u.any ho I.free λz=>(hch _ z).2.1 rfl
 exact I.step (ch:=ch) hch (λb o hL hb hc e n=>u.keep b o e n (λz=>(An.mp (I.stkSub b z)).elim hL hb) hc) (λb o _ _ hc e n=>u.any e n hc) (λb o hc e n=>u.free b o e n hc) (λb o hc e=>u.there b o e hc) u.tups u.frzs u.tbls (λm' hm=>by
  obtain ⟨o',es',ep',ho',r'⟩:=hm
  rw[ho] at ho'; cases ho'
  exact ⟨_,es',ep',hL,r'⟩) hok hg
theorem Inv.turned{t':Nat}{it:Addr}(I:Inv X pins σ H s)(k:∀b o,b≠it->s.heap.get? b=some o->h'.get? b=some o)(hn:H it=none)(hL:it≠X.env.locals)(h1:it∈X.ex\/X.s₀.heap.objs.size<=it)(h2:∀x c,X.env.cells.lookup x=some c->c≠it)(h3:∀p∈X.pn++pins,p.1≠it):Inv X pins σ H { s with heap:=h',toks:=t' }:=by
 have nit:∀b u,H b=some u->b≠it:=λb u e z=>by rw[z,hn] at e; cases e
 refine I.step (g':=s.gens) (d':=s.drawn) (ch:=[it]) (λb hb=>?_) (λb o _ _ hc e _=>k b o (λz=>hc (by simp [z])) e) (λb o _ _ hc e _=>⟨o.slots,k b o (λz=>hc (by simp [z])) e⟩) (λ_ _ _ _ n=>n)
  (λb o hc e=>⟨o,k b o (λz=>hc (by simp [z])) e⟩) (λ_ _ e=>e) (λ_ _ _ e=>e) (λb ps e=>⟨#[],by rw[e]; simp⟩) (λm hm=>?_) (λb u e=>?_) I.bare
 ·have e:b=it:=by simpa using hb
  subst e
  exact ⟨h1,hL,h2,h3⟩
 ·obtain ⟨o,es,ep,ho,r⟩:=hm
  exact ⟨o,es,ep,k _ o (Nn hL) ho,r⟩
 ·refine (I.hok b u e).stay (λc v hc q=>k c v ?_ q) (λ_ q=>q) λ_ _ q=>q
  rcases hc with z | z
  ·rw[z]; exact nit b u e
  ·exact nit c _ z
theorem Inv.tok(I:Inv X pins σ H s)(t:Nat):Inv X pins σ H { s with toks:=t }:=I.un (h':=s.heap) (t':=t) Un.refl I.hok
theorem Inv.kept{t':Nat}(I:Inv X pins σ H s)(k:∀b u,s.heap.get? b=some u->h'.get? b=some u):Inv X pins σ H { s with heap:=h',toks:=t' }:=I.un (Un.kept k) (I.hok.kept k)
theorem Inv.laid{a:Addr}{o:HO}{t':Nat}(I:Inv X pins σ H s)(k:∀b u,s.heap.get? b=some u->h'.get? b=some u)(hp:s.heap.objs.size<=a)(new:Gc X.prog X.w (upd H a o) h' a o):Inv X pins σ (upd H a o) { s with heap:=h',toks:=t' }:=I.un (Un.laid k hp (I.hok.fresh hp)) (I.hok.laid k hp new)
theorem Inv.write{x e:Addr}{o:HO}{t':Nat}(I:Inv X pins σ H s)(mu:V4 (H x))(he:e=x\/H e=some (.own x))(k:∀b u,b≠e->s.heap.get? b=some u->h'.get? b=some u)(heo:∃u,h'.get? e=some u)(new:Gc X.prog X.w (upd H x o) h' x o):Inv X pins σ (upd H x o) { s with heap:=h',toks:=t' }:=I.un (Un.write mu he k heo) (I.hok.write mu he k heo new)
theorem Inv.pins_of{pins':List (Addr×Obj)}(I:Inv X pins σ H s)(h:∀p∈pins',s.heap.get? p.1=some p.2/\H p.1=none/\p.1≠X.env.locals/\p.1∉X.fs/\∀v,p.2.data≠.cell v):Inv X pins' σ H s :=
 ⟨I.ok,I.os,I.bare,I.base,I.loc,I.cell,I.free,I.freeC,λp hp=>(Ay.mp hp).elim (λz=>I.pin p (Aq _ z)) (h p),I.hok,I.len⟩
theorem fB{N:List Str}(hN:N.Nodup){i j:Nat}{x:Str}(a:N[i]? = some x)(b:N[j]? = some x):i=j:=by
 obtain ⟨h1,e1⟩:=Ak.mp a
 obtain ⟨h2,e2⟩:=Ak.mp b
 exact (List.getElem_inj hN).mp (e1.trans e2.symm)
theorem nV{M:Model}{A:Co}{E:Value->Ag->Prop}{i:Nat}{x:Str}{v:V}{u:Value}{Q:Unit->Ag->Prop}(I:Inv X pins σ H s)(hN:X.N.Nodup)(hi:X.N[i]? = some x)(hx:Loc X.env.scope x)(r:RelV v u)(h:∀s',Inv X pins (σ.set i (some v)) H s'->(∃a,Fn a s.heap s'.heap/\(a=X.env.locals\/X.env.cells.lookup x=some a))->Q () s')(hf:X.fn x=true\/X.env.scope.names.lookup x=some .local:=by first | exact .inl rfl | exact .inr rfl | assumption):wpAny M A (storeName X.env x u) Q E s:=by
 obtain ⟨m,hn,hl⟩:=id I.loc
 have hcls:(X.env.scope.kind == .class || (X.env.scope.kind == .module && X.env.locals != X.env.globals))=false:=by rw[I.ok.kind]; rfl
 have hiσ:i<σ.length:=by rw[I.len]; exact (Ak.mp hi).1
 have cne:=I.cne
 have tracked:∀{a:Addr} {h':Heap},(∃o,s.heap.get? a=some o/\H a=none)->Fn a s.heap h'->Sz X.prog X.w H h':=λ{a h'} ha hs b ob e=>by
  obtain ⟨_,_,hfree⟩:=ha
  refine (I.hok b ob e).stay (λc w' hc q=>(hs.2 c ?_).trans q) (λ_ q=>q) λ_ _ q=>q
  rintro rfl
  rcases hc with rfl | hc
  ·rw[hfree] at e; cases e
  ·rw[hfree] at hc; cases hc
 rcases hx with hk | hk
 ·refine wpAny_storeName_local hk hn (λh' hn' hs=>?_) hcls
  obtain ⟨oL,_,_,hoL,_⟩:=id hn
  refine h _ ⟨I.ok,I.os,I.bare,⟨λb o e n hb hx=>?_,λb o e n hb hx=>?_,I.base.free,λb o e hx=>?_,I.base.tups,I.base.frzs,I.base.tbls⟩,⟨_,hn',λj y v' e1 e2 e3=>?_⟩,λy c e=>?_,I.free,I.freeC,λp hp=>?_,tracked ⟨oL,hoL,I.free⟩ hs,by simpa using I.len⟩ ⟨_,hs,.inl rfl⟩
  ·exact (hs.2 b (Cy (Bx (Bk e) I.ok.above))).trans (I.base.keep b o e n hb hx)
  ·obtain ⟨sl,e1⟩:=I.base.slot b o e n hb hx
   exact ⟨sl,(hs.2 b (Cy (Bx (Bk e) I.ok.above))).trans e1⟩
  ·obtain ⟨o',e1⟩:=I.base.there b o e hx
   exact ⟨o',(hs.2 b (Cy (Bx (Bk e) I.ok.above))).trans e1⟩
  ·by_cases hj:j=i
   ·subst hj
    rw[hi] at e1; cases e1
    rw[lA hiσ] at e2
    cases e2
    exact ⟨u,r,.inl ⟨hk,by simp⟩⟩
   ·rw[List.getElem?_set_ne (Nn hj)] at e2
    obtain ⟨u',r',q⟩:=hl j y v' e1 e2 e3
    refine ⟨u',r',?_⟩
    rcases q with ⟨k,e⟩ | ⟨k,c,e,z⟩
    ·refine .inl ⟨k,?_⟩
     have : y≠x:=λe=>hj (fB hN e1 (e▸hi))
     simp [this,e]
    ·exact .inr ⟨k,c,e,z.sameBut hs (cne y c e)⟩
  ·obtain ⟨w',z⟩:=I.cell y c e
   exact ⟨w',z.sameBut hs (cne y c e)⟩
  ·obtain ⟨e,n,ne,nf,d⟩:=I.pin p hp
   exact ⟨(hs.2 p.1 ne).trans e,n,ne,nf,d⟩
 ·have hfn:X.fn x=true:=by
   rcases hf with z | z
   ·exact z
   ·rw[z] at hk; cases hk
  obtain ⟨c,hc⟩:=I.ok.has x (.inl hk)
  obtain ⟨w',z⟩:=I.cell x c hc
  refine wpAny_storeName_cell I.ok.kind hk hc z (λh' hc' hs=>?_)
  obtain ⟨oc,hoc,hocd⟩:=id z
  refine h { s with heap:=h' } ⟨I.ok,I.os,I.bare,⟨λb o e n hb hx=>?_,λb o e n hb hx=>?_,I.base.free,λb o e hx=>?_,I.base.tups,I.base.frzs,I.base.tbls⟩,⟨m,hn.sameBut hs (Nn (cne x c hc)),λj y v' e1 e2 e3=>?_⟩,λy c' e=>?_,I.free,I.freeC,λp hp=>?_,tracked ⟨oc,hoc,I.freeC x c hc⟩ hs,by simpa using I.len⟩ ⟨c,hs,.inr hc⟩
  ·exact (hs.2 b (Cy (Bx (Bk e) (I.ok.cab x c hfn hc)))).trans (I.base.keep b o e n hb hx)
  ·obtain ⟨sl,e1⟩:=I.base.slot b o e n hb hx
   exact ⟨sl,(hs.2 b (Cy (Bx (Bk e) (I.ok.cab x c hfn hc)))).trans e1⟩
  ·obtain ⟨o',e1⟩:=I.base.there b o e hx
   exact ⟨o',(hs.2 b (Cy (Bx (Bk e) (I.ok.cab x c hfn hc)))).trans e1⟩
  ·by_cases hj:j=i
   ·subst hj
    rw[hi] at e1; cases e1
    rw[lA hiσ] at e2
    cases e2
    exact ⟨u,r,.inr ⟨.inl hk,c,hc,hc'⟩⟩
   ·rw[List.getElem?_set_ne (Nn hj)] at e2
    obtain ⟨u',r',q⟩:=hl j y v' e1 e2 e3
    refine ⟨u',r',?_⟩
    rcases q with q | ⟨k,c',e,z'⟩
    ·exact .inl q
    ·refine .inr ⟨k,c',e,z'.sameBut hs ?_⟩
     rintro rfl
     exact hj (fB hN e1 (I.ok.inj _ _ _ e hc▸hi))
  ·by_cases hcc:c'=c
   ·subst hcc; exact ⟨_,hc'⟩
   ·obtain ⟨w2,z2⟩:=I.cell y c' e
    exact ⟨w2,z2.sameBut hs hcc⟩
  ·obtain ⟨e,n,ne,nf,d⟩:=I.pin p hp
   refine ⟨(hs.2 p.1 ?_).trans e,n,ne,nf,d⟩
   intro q
   rw[q,hoc] at e
   have q':oc=p.2:=Ck e
   exact d w' (by rw[<- q']; exact hocd)
theorem Yt{M:Model}{A:Co}{E:Value->Ag->Prop}{i:Nat}{x:Str}{v:V}{u:Value}{Q:Unit->Ag->Prop}(I:Inv X pins σ H s)(hN:X.N.Nodup)(hi:X.N[i]? = some x)(hx:Loc X.env.scope x)(r:RelV v u)(h:∀s',Inv X pins (σ.set i (some v)) H s'->Q () s')(hf:X.fn x=true\/X.env.scope.names.lookup x=some .local:=by first | exact .inl rfl | exact .inr rfl | assumption):wpAny M A (storeName X.env x u) Q E s :=
 nV I hN hi hx r (λs' I' _=>h s' I') hf
theorem Inv.call'{s':Ag}{ch:List Addr}(I:Inv X pins σ H s)(ho:s'.os=s.os)(u:Un (pF X.stack) ch H H' s.heap s'.heap)(hok:Sz X.prog X.w H' s'.heap)(hg:Qf s'.gens)(hch:∀b∈ch,(b∈X.ex\/X.s₀.heap.objs.size<=b)/\b≠X.env.locals/\(∀x c,X.env.cells.lookup x=some c->c≠b)/\∀p∈X.pn++pins,p.1≠b):Inv X pins σ H' s':=by
 obtain ⟨h',g',d',t',o'⟩:=s'
 have e:o'=s.os:=ho
 subst e
 exact I.call (g':=g') (t':=t') (d':=d') u hok hg hch
end
abbrev XK:=Value->Option Addr->Hp->Prop
abbrev St:=List (Option V)
abbrev VK:=V->Hp->Prop
abbrev TE:=St->Hp->VK->Prop
abbrev TT:=St->Hp->(Bool->Hp->Prop)->Prop
abbrev TA:=St->Hp->(List V->Hp->Prop)->Prop
structure Ends where
 nx:St->Hp->Prop
 rt:VK
 bk:St->Hp->Prop:=λ_ _=>False
 ct:St->Hp->Prop:=λ_ _=>False
abbrev TS:=Ends->St->Hp->Prop
def EP(X:Cx)(pins:List (Addr×Obj))(σ:St)(Q:VK)(u:Value)(s':Ag):Prop:=∃v H',Inv X pins σ H' s'/\RelV v u/\Q v H'
def TP(X:Cx)(pins:List (Addr×Obj))(σ:St)(Q:Bool->Hp->Prop)(b:Bool)(s':Ag):Prop:=∃H',Inv X pins σ H' s'/\Q b H'
def AP(X:Cx)(pins:List (Addr×Obj))(σ:St)(Q:List V->Hp->Prop)(us:List Value)(s':Ag):Prop:=∃vs H',Inv X pins σ H' s'/\Fg vs us/\Q vs H'
def SP(X:Cx)(pins:List (Addr×Obj))(D:Ends)(f:Flow)(s':Ag):Prop :=
 match f with
 | .next=>∃σ' H',Inv X pins σ' H' s'/\D.nx σ' H'
 | .brk=>∃σ' H',Inv X pins σ' H' s'/\D.bk σ' H'
 | .cont=>∃σ' H',Inv X pins σ' H' s'/\D.ct σ' H'
 | .ret u=>∃v σ' H',Inv X pins σ' H' s'/\RelV v u/\D.rt v H'
def PE(X:Cx)(e:Expr)(t:TE):Prop :=
 ∀(pins:List (Addr×Obj)) (s:Ag) (σ:St) (H:Hp) (Q:VK),Inv X pins σ H s->t σ H Q->wpAny (model X.prog X.w) X.A (eval e X.env) (EP X pins σ Q) X.xe s
def PT(X:Cx)(e:Expr)(t:TT):Prop :=
 ∀(pins:List (Addr×Obj)) (s:Ag) (σ:St) (H:Hp) (Q:Bool->Hp->Prop),Inv X pins σ H s->t σ H Q->wpAny (model X.prog X.w) X.A (isTrue e X.env (eval e X.env)) (TP X pins σ Q) X.xe s
def PW(X:Cx)(e:Expr)(t:TT):Prop :=
 ∀(whole:Sem Value) (pins:List (Addr×Obj)) (s:Ag) (σ:St) (H:Hp) (Q:Bool->Hp->Prop),Inv X pins σ H s->t σ H Q->wpAny (model X.prog X.w) X.A (isTrue e X.env whole) (TP X pins σ Q) X.xe s
theorem PW.pt{X:Cx}{e:Expr}{t:TT}(h:PW X e t):PT X e t:=h _
def PA(X:Cx)(es:List Expr)(t:TA):Prop :=
 ∀(pos:Pos) (pins:List (Addr×Obj)) (s:Ag) (σ:St) (H:Hp) (Q:List V->Hp->Prop),Inv X pins σ H s->t σ H Q->wpAny (model X.prog X.w) X.A (spliced (Ic pos (Bs es X.env))) (AP X pins σ Q) X.xe s
def PS(X:Cx)(st:Stmt)(t:TS):Prop :=
 ∀(pins:List (Addr×Obj)) (s:Ag) (σ:St) (H:Hp) (D:Ends),Inv X pins σ H s->t D σ H->wpAny (model X.prog X.w) X.A (exec st X.env) (SP X pins D) X.xe s
def jF(X:Cx)(st:List Stmt)(t:TS):Prop :=
 ∀(pins:List (Addr×Obj)) (s:Ag) (σ:St) (H:Hp) (D:Ends),Inv X pins σ H s->t D σ H->wpAny (model X.prog X.w) X.A (execs st X.env) (SP X pins D) X.xe s
theorem Hf{α:Type}{t:Sem α}{Q Q':α->Ag->Prop}{M:Model}{A:Co}{E:Value->Ag->Prop}{s:Ag}(h:wpAny M A t Q E s)(hQ:∀a s,Q a s->Q' a s):wpAny M A t Q' E s:=Fs h hQ λ_ _ x=>x
section
variable{X:Cx}
theorem DK{a b:Expr}{ta tb:TE}(ha:PE X a ta)(hb:PE X b tb){pins:List (Addr×Obj)}{s:Ag}{σ:St}{H:Hp}{R:V->V->Hp->Prop}(I:Inv X pins σ H s)(h:ta σ H λx H1=>tb σ H1 λy H2=>R x y H2){α:Type}{Q:α->Ag->Prop}{f:Value->Value->Sem α}(hf:∀v u s2 x y H2,Inv X pins σ H2 s2->RelV x v->RelV y u->R x y H2->wpAny (model X.prog X.w) X.A (f v u) Q X.xe s2):wpAny (model X.prog X.w) X.A (eval a X.env) (λv s₁=>wpAny (model X.prog X.w) X.A (eval b X.env) (λu s₂=>wpAny (model X.prog X.w) X.A (f v u) Q X.xe s₂) X.xe s₁) X.xe s:=by
 refine Hf (ha pins s σ H _ I h) λv s1 q0_ => ?_
 obtain ⟨x,H1,I1,r1,q1⟩ := q0_
 refine Hf (hb pins s1 σ H1 _ I1 q1) λu s2 q0_ => ?_
 obtain ⟨y,H2,I2,r2,q2⟩ := q0_
 exact hf v u s2 x y H2 I2 r1 r2 q2
def dI(i:Nat):TE:=λσ H Q=>∃v,σ[i]? = some (some v)/\Q v H
def tC(v:V):TE:=λ_ H Q=>Q v H
theorem B7{i:Nat}{x:Str}{pos:Pos}(hN:X.N[i]? = some x)(hv:Q3 X.env.scope x)(hd:(x == ("__debug__" : Str))=false:=by decide)(hcd:(x == ("__classdict__" : Str))=false:=by decide):PE X (.Name x pos) (dI i):=by
 intro pins s σ H Q I h
 obtain ⟨v,e,h⟩:=h
 obtain ⟨m,hn,hl⟩:=I.loc
 obtain ⟨u,r,l⟩:=hl i x v hN e hv
 have fin:EP X pins σ Q u s:=⟨v,H,I,r,h⟩
 rcases l with ⟨hk,hm⟩ | ⟨hk,c,hc,hcell⟩
 ·exact wpAny_Name (wpAny_loadName_local I.ok.kind hk hn hm fin) hd
 ·rcases hk with hk | hk
  ·exact wpAny_Name (wpAny_loadName_cell I.ok.kind hk hc hcell fin) hd
  ·exact wpAny_Name (wpAny_loadName_free I.ok.kind hk hc hcell fin hcd) hd
theorem Es{i j pos}:PE X (.Constant (.int i) j pos) (tC (.int i)):=λ_ _ _ H _ I h=>wpAny_Constant_int ⟨.int i,H,I.tok _,⟨_,rfl⟩,h⟩
theorem tN{b j pos}:PE X (.Constant (.bool b) j pos) (tC (.bl b)):=λ_ _ _ H _ I h=>Constant_bool ⟨.bl b,H,I,rfl,h⟩
theorem qO{j pos}:PE X (.Constant .none j pos) (tC .non):=λ_ _ _ H _ I h=>Constant_none ⟨.non,H,I,rfl,h⟩
theorem F7{x j pos}:PE X (.Constant (.str x) j pos) (tC (.str x)):=λ_ _ _ H _ I h=>Calls.Constant_str ⟨.str x,H,I.tok _,⟨_,rfl⟩,h⟩
def Gl(X:Cx)(x:Str):Prop:=X.env.kindOf x=some .globalImplicit
theorem lS{E:Value->Ag->Prop}{pins:List (Addr×Obj)}{s:Ag}{σ:St}{H:Hp}{x:Str}{u:Value}{pos:Pos}{Q:Value->Ag->Prop}(I:Inv X pins σ H s)(hg:Gl X x)(hm:X.mg x=some u)(h:Q u s)(hd:(x == ("__debug__" : Str))=false:=by decide):wpAny (model X.prog X.w) X.A (eval (.Name x pos) X.env) Q E s :=
 bS I.ok.kind hg (Calls.loadGlobal_global (by rw[I.ok.glob]; exact I.mod.glob.keeps I.bk) hm h) hd
theorem Yi{E:Value->Ag->Prop}{pins:List (Addr×Obj)}{s:Ag}{σ:St}{H:Hp}{x:Str}{u:Value}{pos:Pos}{Q:Value->Ag->Prop}(I:Inv X pins σ H s)(hg:Gl X x)(hm:X.mg x=none)(hv:Iw x=some u)(h:Q u s)(hn:x ≠ "__name__" := by decide)(hd:(x == ("__debug__" : Str))=false:=by decide):wpAny (model X.prog X.w) X.A (eval (.Name x pos) X.env) Q E s:=by
 obtain ⟨mb,h1,h2⟩:=I.mod.blt
 exact bS I.ok.kind hg (Calls.loadGlobal_builtin (by rw[I.ok.glob]; exact I.mod.glob.keeps I.bk) hm (by rw[I.ok.blt]; exact h1.keeps I.bk) ((h2 x hn).trans hv) h) hd
theorem yT{x:Str}{v:V}{u:Value}{pos:Pos}(hg:Gl X x)(hm:X.mg x=none)(hv:Iw x=some u)(r:RelV v u)(hn:x ≠ "__name__" := by decide)(hd:(x == ("__debug__" : Str))=false:=by decide):PE X (.Name x pos) (tC v) :=
 λ_ _ _ H _ I h=>Yi I hg hm hv ⟨v,H,I,r,h⟩ hn hd
variable{a b:Expr}{ta tb:TE}{pos:Pos}
def PC(X:Cx)(op:CmpOp)(a b:Expr)(t:TE):Prop :=
 ∀(pins:List (Addr×Obj)) (s:Ag) (σ:St) (H:Hp) (Q:VK),Inv X pins σ H s->t σ H Q ->
  wpAny (model X.prog X.w) X.A (eval a X.env) (λv s₁=>wpAny (model X.prog X.w) X.A (eval b X.env) (λu s₂=>wpAny (model X.prog X.w) X.A (Fj op v u) (EP X pins σ Q) X.xe s₂) X.xe s₁) X.xe s
theorem vA(b:Expr){op:CmpOp}(h:op≠.In)(h2:op≠.NotIn):Et op b=false:=by
 have e1:(op == CmpOp.In)=false:=by cases op <;> first | rfl | exact absurd rfl h
 have e2:(op == CmpOp.NotIn)=false:=by cases op <;> first | rfl | exact absurd rfl h2
 cases b <;> simp [Et,e1,e2]
def tB(t:TE):TT:=λσ H Q=>t σ H λx H1=>∃c,x=.bl c/\Q c H1
theorem J4{op:CmpOp}{t:TE}(h:PC X op a b t)(h1:Et op b=false:=by first | exact vA _ (by decide) (by decide) | rfl):PT X (.Compare a [op] [b] pos) (tB t):=by
 intro pins s σ H Q I hw
 refine wpAny_isTrue_Compare1 (Hf (h pins s σ H _ I hw) λv s1 h1=>Hf h1 λu s2 h2=>Hf h2 λc s3 ⟨x,H1,I1,r1,q1⟩=>?_) h1
 obtain ⟨d,rfl,q⟩:=q1
 cases r1
 exact Jk ⟨H1,I1,q⟩
theorem vH{e:Expr}{t:TE}(h:PE X e t)(he:∀whole,isTrue e X.env whole=(do let v <- whole; standAt e.pos; holding [v] (truthy v)):=by intro _; rfl):PT X e (tB t):=by
 intro pins s σ H Q I hw
 refine isTrue_plain (Hf (h pins s σ H _ I hw) λv s1 ⟨x,H1,I1,r1,q1⟩=>?_) (he _)
 obtain ⟨d,rfl,q⟩:=q1
 cases r1
 exact Jk ⟨H1,I1,q⟩
variable{tA tB':TT}{Eo:List Expr}
def AN(t u:TT):TT:=λσ H Q=>t σ H λc H1=>if c=true then u σ H1 Q else Q false H1
def CT(t u:TT):TT:=λσ H Q=>t σ H λc H1=>if c=true then Q true H1 else u σ H1 Q
def BA(t:TT):TT:=λσ H Q=>t σ H λc H1=>Q (!c) H1
theorem xM(ha:PT X a tA):PW X (.BoolOp .And [a] pos) tA:=by
 intro wh pins s σ H Q I h
 refine isTrue_and (Hf (ha pins s σ H Q I h) λc s1 e=>?_)
 cases c with
 | true=>exact isTrue_and_nil e
 | false=>exact e
theorem v9(ha:PT X a tA):PW X (.BoolOp .Or [a] pos) tA:=by
 intro wh pins s σ H Q I h
 refine isTrue_or (Hf (ha pins s σ H Q I h) λc s1 e=>?_)
 cases c with
 | false=>exact isTrue_or_nil e
 | true=>exact e
theorem G7(ha:PT X a tA)(hb:PW X (.BoolOp .And (b::Eo) pos) tB'):PW X (.BoolOp .And (a::b::Eo) pos) (AN tA tB'):=by
 intro wh pins s σ H Q I h
 refine isTrue_and (Hf (ha pins s σ H _ I h) λc s1 q0_ => ?_)
 obtain ⟨H1,I1,q1⟩ := q0_
 cases c with
 | true=>exact hb wh pins s1 σ H1 Q I1 q1
 | false=>exact ⟨H1,I1,q1⟩
theorem W4(ha:PT X a tA)(hb:PW X (.BoolOp .Or (b::Eo) pos) tB'):PW X (.BoolOp .Or (a::b::Eo) pos) (CT tA tB'):=by
 intro wh pins s σ H Q I h
 refine isTrue_or (Hf (ha pins s σ H _ I h) λc s1 q0_ => ?_)
 obtain ⟨H1,I1,q1⟩ := q0_
 cases c with
 | true=>exact ⟨H1,I1,q1⟩
 | false=>exact hb wh pins s1 σ H1 Q I1 q1
theorem B4(ha:PT X a tA):PT X (.UnaryOp .Not a pos) (BA tA):=by
 intro pins s σ H Q I h
 exact isTrue_not (ha pins s σ H (λc H1=>Q (!c) H1) I h)
def S7(ta tb:TE):TE:=λσ H Q=>ta σ H λx H1=>∃c,x=.bl c/\if c=true then tb σ H1 Q else Q (.bl false) H1
theorem L5{op}{t:TE}(h:PE X a t):PE X (.BoolOp op [a] pos) t:=λpins s σ H Q I hw=>BoolOp_one (h pins s σ H Q I hw)
theorem A0(ha:PE X a ta)(hb:PE X (.BoolOp .And (b::Eo) pos) tb):PE X (.BoolOp .And (a::b::Eo) pos) (S7 ta tb):=by
 intro pins s σ H Q I h
 refine BoolOp_and (Hf (ha pins s σ H _ I h) λv s1 q0_ => ?_)
 obtain ⟨x,H1,I1,r1,q1⟩ := q0_
 obtain ⟨c,rfl,q1⟩:=q1
 cases r1
 refine Jk ?_
 cases c with
 | true=>exact hb pins s1 σ H1 Q I1 q1
 | false=>exact ⟨.bl false,H1,I1,rfl,q1⟩
end
def Sn(K:PySem.W.Frag)(H:Hp)(a:Addr)(xs:List V):Prop :=
 Rd H a (.lst xs) \/
  ∃(o:Obj) (its:Array Value) (n:Nat),K.lookup a=some o/\o.cls=.type "list" /\ o.dict=none/\o.data=.seq its n/\its.size<=Ax/\Fg xs its.toList
def Sg(K:PySem.W.Frag)(H:Hp)(a:Addr)(xs:List V):Prop :=
 Rd H a (.tup xs) \/
  ∃(o:Obj) (its:Array Value) (n:Nat),K.lookup a=some o/\o.cls=.type "tuple" /\ o.data=.seq its n/\its.size<=Ax/\Fg xs its.toList
def BK:Value->Option V
 | .none=>some .non
 | .bool b=>some (.bl b)
 | .int i _=>some (.int i)
 | .str x _=>some (.str x)
 | .bytes b _=>some (.byt b)
 | .float b _=>some (.flt b)
 | .ref a=>some (.ref a)
 | .type n=>some (.ty n)
 | _=>none
theorem RelV.abs{x:V}{u:Value}(r:RelV x u):BK u=some x:=by
 cases x with
 | non=>cases r; rfl
 | bl _=>cases r; rfl
 | int _=>obtain ⟨t,rfl⟩:=r; rfl
 | str _=>obtain ⟨t,rfl⟩:=r; rfl
 | byt _=>obtain ⟨t,rfl⟩:=r; rfl
 | flt _=>obtain ⟨t,rfl⟩:=r; rfl
 | ref _=>cases r; rfl
 | ty _=>cases r; rfl
theorem RelV.inj{x y:V}{u:Value}(r:RelV x u)(q:RelV y u):x=y:=Ck (r.abs.symm.trans q.abs)
theorem Fg.inj:∀{xs ys:List V} {us:List Value},Fg xs us->Fg ys us->xs=ys
 | _,_,_,.nil,.nil=>rfl
 | _,_,_,.cons r t,.cons r' t'=>by rw[r.inj r',Fg.inj t t']
section
variable{X:Cx}{pins:List (Addr×Obj)}{σ:St}{H:Hp}{s:Ag}{a:Addr}{xs ys:List V}
theorem Sn.of{K:PySem.W.Frag}(h:H a=some (.lst xs)):Sn K H a xs:=.inl (.inl h)
theorem Sg.of{K:PySem.W.Frag}(h:H a=some (.tup xs)):Sg K H a xs:=.inl (.inl h)
theorem Inv.list(I:Inv X pins σ H s)(h:Sn X.K H a xs):∃its:List Value,Fg xs its/\PlainL s.heap a its.toArray/\xs.length<=Ax:=by
 rcases h with h | ⟨o,its,n,hk,hc,hd,hs,hz,r⟩
 ·obtain ⟨z,its,n,r,e⟩:=h.ok I.hok
  exact ⟨its,r,⟨_,n,e,rfl,rfl,rfl⟩,z⟩
 ·refine ⟨its.toList,r,⟨o,n,I.kIn a o hk,hc,hd,by simpa using hs⟩,?_⟩
  have e:=r.length
  simp only[Ae] at e
  omega
theorem Inv.tuple(I:Inv X pins σ H s)(h:Sg X.K H a xs):∃its:List Value,Fg xs its/\IsTup s.heap a its.toArray/\xs.length<=Ax:=by
 rcases h with h | ⟨o,its,n,hk,hc,hs,hz,r⟩
 ·obtain ⟨z,its,r,p⟩:=h.ok I.hok
  exact ⟨its,r,p,z⟩
 ·refine ⟨its.toList,r,⟨o,I.kIn a o hk,hc,n,by simpa using hs⟩,?_⟩
  have e:=r.length
  simp only[Ae] at e
  omega
theorem Inv.list_inj(I:Inv X pins σ H s)(h:Sn X.K H a xs)(h':Sn X.K H a ys):xs=ys:=by
 obtain ⟨its,r,⟨o,n,e,_,_,d⟩,_⟩:=I.list h
 obtain ⟨its',r',⟨o',n',e',_,_,d'⟩,_⟩:=I.list h'
 rw[e] at e'; cases e'
 rw[d] at d'
 injection d' with d1 _
 have : its=its':=by simpa using congrArg Array.toList d1
 subst this
 exact r.inj r'
theorem Inv.tuple_inj(I:Inv X pins σ H s)(h:Sg X.K H a xs)(h':Sg X.K H a ys):xs=ys:=by
 obtain ⟨its,r,⟨o,e,_,n,d⟩,_⟩:=I.tuple h
 obtain ⟨its',r',⟨o',e',_,n',d'⟩,_⟩:=I.tuple h'
 rw[e] at e'; cases e'
 rw[d] at d'
 injection d' with d1 _
 have : its=its':=by simpa using congrArg Array.toList d1
 subst this
 exact r.inj r'
end
abbrev Cx.wish(X:Cx)(E:Value->Ag->Prop):Cx:={ X with xe:=E }
abbrev Cx.nox(X:Cx):Cx:=X.wish λ_ _=>False
theorem Cx.Ok.wish{X:Cx}(ok:X.Ok)(E:Value->Ag->Prop):(X.wish E).Ok :=
 ⟨ok.mod,ok.kind,ok.glob,ok.blt,ok.above,ok.inj,ok.has,ok.cab,ok.hd,ok.frames,ok.stk,ok.exf,ok.bs,ok.bsz,ok.noex,ok.exfs,ok.funs,ok.frf,ok.tab⟩
theorem Cx.Ok.unwish{X:Cx}{E:Value->Ag->Prop}(ok:(X.wish E).Ok):X.Ok :=
 ⟨ok.mod,ok.kind,ok.glob,ok.blt,ok.above,ok.inj,ok.has,ok.cab,ok.hd,ok.frames,ok.stk,ok.exf,ok.bs,ok.bsz,ok.noex,ok.exfs,ok.funs,ok.frf,ok.tab⟩
section
variable{X:Cx}{pins:List (Addr×Obj)}{σ:St}{H:Hp}{s:Ag}{E:Value->Ag->Prop}
theorem Inv.wish(I:Inv X pins σ H s)(E:Value->Ag->Prop):Inv (X.wish E) pins σ H s:=⟨I.ok.wish E,I.os,I.bare,I.base,I.loc,I.cell,I.free,I.freeC,I.pin,I.hok,I.len⟩
theorem Inv.unwish(I:Inv (X.wish E) pins σ H s):Inv X pins σ H s:=⟨I.ok.unwish,I.os,I.bare,I.base,I.loc,I.cell,I.free,I.freeC,I.pin,I.hok,I.len⟩
theorem SP.unwish{D:Ends}{f:Flow}{s':Ag}(h:SP (X.wish E) pins D f s'):SP X pins D f s':=by
 cases f with
 | next=>obtain ⟨σ',H',I,q⟩:=h; exact ⟨σ',H',I.unwish,q⟩
 | brk=>obtain ⟨σ',H',I,q⟩:=h; exact ⟨σ',H',I.unwish,q⟩
 | cont=>obtain ⟨σ',H',I,q⟩:=h; exact ⟨σ',H',I.unwish,q⟩
 | ret u=>obtain ⟨v,σ',H',I,r,q⟩:=h; exact ⟨v,σ',H',I.unwish,r,q⟩
theorem jF.nox{st:List Stmt}{t:TS}(h:jF X.nox st t):jF X st t:=λpins s σ H D I hw =>
 Fs (h pins s σ H D (I.wish _) hw) (λ_ _ q=>q.unwish) λ_ _ z=>Jf z
end
section
variable{X:Cx}{st:Stmt}{Eo:List Stmt}{t u:TS}{e:Expr}{te:TE}{pos:Pos}
def U6:TS:=λD σ H=>D.nx σ H
def BJ(t u:TS):TS:=λD σ H=>t { D with nx:=u D } σ H
theorem dZ:jF X [] U6:=λ_ _ σ H _ I h=>Ub ⟨σ,H,I,h⟩
theorem Kl(h1:PS X st t)(h2:jF X Eo u):jF X (st::Eo) (BJ t u):=by
 intro pins s σ H D I h
 refine wpAny_execs_cons (Hf (h1 pins s σ H { D with nx:=u D } I h) λf s1 q=>?_)
 cases f with
 | next =>
  obtain ⟨σ',H',I',q⟩:=q
  exact h2 pins s1 σ' H' D I' q
 | ret v=>exact q
 | brk=>exact q
 | cont=>exact q
theorem Tz(h1:PS X st t):jF X [st] t:=by
 intro pins s σ H D I h
 refine wpAny_execs_cons (Hf (h1 pins s σ H D I h) λf s1 q=>?_)
 cases f with
 | next=>exact Ub q
 | ret v=>exact q
 | brk=>exact q
 | cont=>exact q
theorem Inv.quiet{pins:List (Addr×Obj)}{σ:St}{H:Hp}{s:Ag}(I:Inv X pins σ H s):interactive X.env=false:=by simp [interactive,I.ok.kind]
def O4(te:TE):TS:=λD σ H=>te σ H λ_ H1=>D.nx σ H1
theorem lZ(he:PE X e te)(hs:Lg e none pos.line X.env=pure false:=by rfl):PS X (.Expr e pos) (O4 te):=by
 intro pins s σ H D I h
 exact wpAny_Expr_any (Hf (he pins s σ H _ I h) λv s1 ⟨x,H1,I1,r1,q1⟩=>⟨σ,H1,I1,q1⟩) I.quiet hs
def AB(te:TE):TS:=λD σ H=>te σ H D.rt
theorem Zc(he:PE X e te):PS X (.Return (some e) pos) (AB te):=by
 intro pins s σ H D I h
 exact wpAny_Return_some (Hf (he pins s σ H _ I h) λv s1 ⟨x,H1,I1,r1,q1⟩=>⟨x,σ,H1,I1,r1,q1⟩)
def Z9(c:TT)(t u:TS):TS:=λD σ H=>c σ H λb H1=>if b=true then t D σ H1 else u D σ H1
theorem sA{c:Expr}{a b:List Stmt}{tc:TT}(hc:PT X c tc)(ha:jF X a t)(hb:jF X b u):PS X (.If c a b pos) (Z9 tc t u):=by
 intro pins s σ H D I h
 refine wpAny_If (Hf (hc pins s σ H _ I h) λd s1 q0_ => ?_)
 obtain ⟨H1,I1,q1⟩ := q0_
 cases d with
 | true=>exact ha pins s1 σ H1 D I1 q1
 | false=>exact hb pins s1 σ H1 D I1 q1
def E3:TS:=λ_ _ _=>False
theorem tO:PS X st E3:=λ_ _ _ _ _ _ h=>h.elim
end
abbrev TG:=V->St->Hp->(St->Hp->Prop)->Prop
abbrev zF:=List V->St->Hp->(St->Hp->Prop)->Prop
def PG(X:Cx)(target:Expr)(t:TG):Prop :=
 ∀(pins:List (Addr×Obj)) (s:Ag) (σ:St) (H:Hp) (v:V) (u:Value) (Q:St->Hp->Prop),Inv X pins σ H s->RelV v u->t v σ H Q ->
  wpAny (model X.prog X.w) X.A (assign target X.env u) (λ_ s'=>∃σ' H',Inv X pins σ' H' s'/\Q σ' H') X.xe s
def K9(X:Cx)(ts:List Expr)(t:zF):Prop :=
 ∀(pins:List (Addr×Obj)) (s:Ag) (σ:St) (H:Hp) (vs:List V) (us:List Value) (Q:St->Hp->Prop),Inv X pins σ H s->Fg vs us->t vs σ H Q ->
  wpAny (model X.prog X.w) X.A (assignInOrder ((Jw ts X.env).map (·.2)) us) (λ_ s'=>∃σ' H',Inv X pins σ' H' s'/\Q σ' H') X.xe s
abbrev J2:=V->V->V->Hp->(Hp->Prop)->Prop
def T7(X:Cx)(t:J2):Prop :=
 ∀(pins:List (Addr×Obj)) (s:Ag) (σ:St) (H:Hp) (o i v:V) (ov iv u:Value) (Q:Hp->Prop),Inv X pins σ H s->RelV o ov->RelV i iv->RelV v u->t o i v H Q ->
  wpAny (model X.prog X.w) X.A (setItem ov iv u) (λ_ s'=>∃H',Inv X pins σ H' s'/\Q H') X.xe s
abbrev Y6:=V->V->Hp->VK->Prop
def Z0(X:Cx)(op:Operator)(t:Y6):Prop :=
 ∀(pins:List (Addr×Obj)) (s:Ag) (σ:St) (H:Hp) (x y:V) (v u:Value) (Q:VK),Inv X pins σ H s->RelV x v->RelV y u->t x y H Q ->
  wpAny (model X.prog X.w) X.A (inplaceOp op v u) (EP X pins σ Q) X.xe s
section
variable{X:Cx}{pos:Pos}
def bO(i:Nat):TG:=λv σ H Q=>Q (σ.set i (some v)) H
theorem Wv{i:Nat}{x:Str}(hN:X.N.Nodup)(hi:X.N[i]? = some x)(hx:Loc X.env.scope x)(hf:X.fn x=true\/X.env.scope.names.lookup x=some .local:=by first | exact .inl rfl | exact .inr rfl | assumption):PG X (.Name x pos) (bO i):=by
 intro pins s σ H v u Q I r h
 exact wpAny_assign_Name (Yt I hN hi hx r (λs' I'=>⟨_,H,I',h⟩) hf)
def BM:zF:=λvs σ H Q=>vs=[]/\Q σ H
def V7(t:TG)(u:zF):zF:=λvs σ H Q=>∃v r,vs=v::r/\t v σ H λσ' H'=>u r σ' H' Q
theorem yG:K9 X [] BM:=by
 intro pins s σ H vs us Q I r h
 obtain ⟨e,h⟩:=h
 subst e
 cases r
 exact assignInOrder_nil ⟨σ,H,I,h⟩
theorem sM{e:Expr}{es:List Expr}{t:TG}{u:zF}(h1:PG X e t)(h2:K9 X es u)(hs:(Jw (e::es) X.env).map (·.2)=assign e X.env::(Jw es X.env).map (·.2):=by rfl):K9 X (e::es) (V7 t u):=by
 intro pins s σ H vs us Q I r h
 obtain ⟨v,vr,e1,h⟩:=h
 subst e1
 cases r with
 | cons r rr =>
  rw[hs]
  refine assignInOrder_cons (Hf (h1 pins s σ H _ _ _ I r h) λ_ s1 q0_ => ?_)
  obtain ⟨σ1,H1,I1,q1⟩ := q0_
  exact h2 pins s1 σ1 H1 _ _ Q I1 rr q1
def BD(K:PySem.W.Frag)(n:Nat)(t:zF):TG:=λv σ H Q=>∃a xs,v=.ref a/\Sg K H a xs/\xs.length=n/\t xs σ H Q
theorem B3{es:List Expr}{k:Nat}{t:zF}{n:Nat}(hc:X.calm=true)(h:K9 X es t)(hn:(Jw es X.env).length=n:=by rfl)(hst:(Jw es X.env).findIdx? (·.1)=none:=by rfl):PG X (.Tuple es k pos) (BD X.K n t):=by
 intro pins s σ H v u Q I r hw
 obtain ⟨a,xs,e1,hq,hl,hw⟩:=hw
 subst e1
 cases r
 obtain ⟨its,rv,ht,hz⟩:=I.tuple hq
 refine assign_Tuple_tuple (I.ok.hd hc) ht (by simp [hn,<- hl,rv.length]) hst λh' hx=>?_
 have I1:Inv X pins σ H { s with heap:=h' }:=I.kept (t':=s.toks) λb o e=>hx b o (Cy (Bk e)) e
 exact h pins _ σ H xs _ Q I1 (by simpa using rv) hw
def AO(to ti:TE)(t:J2):TG:=λv σ H Q=>to σ H λo H1=>ti σ H1 λi H2=>t o i v H2 λH3=>Q σ H3
theorem uT{o i:Expr}{to ti:TE}{t:J2}(ho:PE X o to)(hi:PE X i ti)(hs:T7 X t)
  (ha:∀v,assign (.Subscript o i pos) X.env v=(do
   let ov <- holding [v] (eval o X.env)
   let iv <- holding [v,ov] (eval i X.env)
   standAt pos
   holding [v,ov,iv] (setItem ov iv v)
   release [v,ov,iv] []):=by intro _; rfl):PG X (.Subscript o i pos) (AO to ti t):=by
 intro pins s σ H v u Q I r h
 rw[ha]
 refine Ab (Ej (Hf (ho pins s σ H _ I h) λov s1 q0_ => ?_))
 obtain ⟨x,H1,I1,r1,q1⟩ := q0_
 refine Ab (Ej (Hf (hi pins s1 σ H1 _ I1 q1) λiv s2 q0_ => ?_))
 obtain ⟨y,H2,I2,r2,q2⟩ := q0_
 refine Ab (wpAny_standAt (Ab (Ej (Hf (hs pins s2 σ H2 x y v ov iv u _ I2 r1 r2 r q2) λ_ s3 q0_ => ?_))))
 obtain ⟨H3,I3,q3⟩ := q0_
 exact wpAny_release ⟨σ,H3,I3,q3⟩
def xW(te:TE)(g:TG):TS:=λD σ H=>te σ H λx H1=>g x σ H1 D.nx
theorem qN{tg e:Expr}{te:TE}{g:TG}(he:PE X e te)(hg:PG X tg g)(hs:swapsWithSole [tg] e pos.line X.env=pure false:=by rfl)(hw:swappedStores [tg] e X.env=pure none:=by rfl)(h1:(Jw [tg] X.env).map (·.2)=[assign tg X.env]:=by rfl):PS X (.Assign [tg] e pos) (xW te g):=by
 intro pins s σ H D I h
 refine wpAny_Assign_stores (Hf (he pins s σ H _ I h) λv s1 ⟨x,H1,I1,r1,q1⟩=>?_) hs hw
 rw[h1]
 exact Hf (hg pins s1 σ H1 x v _ I1 r1 q1) λ_ s2 q=>q
theorem Ur{i:Nat}{x:Str}{e:Expr}{te:TE}{pos':Pos}(hN:X.N.Nodup)(hi:X.N[i]? = some x)(hx:Loc X.env.scope x)(he:PE X e te)(hs:Lg e (some (.Name x pos')) pos.line X.env=pure false:=by rfl)(hf:X.fn x=true\/X.env.scope.names.lookup x=some .local:=by first | exact .inl rfl | exact .inr rfl | assumption):PS X (.Assign [.Name x pos'] e pos) (xW te (bO i)):=by
 intro pins s σ H D I h
 refine wpAny_Assign_Name (Hf (he pins s σ H _ I h) λv s1 ⟨y,H1,I1,r1,q1⟩=>?_) hs
 exact Yt I1 hN hi hx r1 (λs2 I2=>⟨_,H1,I2,q1⟩) hf
def Z5(i:Nat)(te:TE)(ti:Y6):TS:=λD σ H=>∃x,σ[i]? = some (some x)/\te σ H λy H1=>ti x y H1 λz H2=>D.nx (σ.set i (some z)) H2
theorem M4{i:Nat}{x:Str}{e:Expr}{te:TE}{op:Operator}{ti:Y6}{pos':Pos}(hN:X.N.Nodup)(hi:X.N[i]? = some x)(hx:Loc X.env.scope x)(he:PE X e te)(ho:Z0 X op ti)(hf:X.fn x=true\/X.env.scope.names.lookup x=some .local:=by first | exact .inl rfl | exact .inr rfl | assumption):PS X (.AugAssign (.Name x pos') op e pos) (Z5 i te ti):=by
 intro pins s σ H D I h
 obtain ⟨v,e1,h⟩:=h
 obtain ⟨m,hn,hl⟩:=I.loc
 have vis:Q3 X.env.scope x:=by rcases hx with k | k; exact .inl k; exact .inr (.inl k)
 obtain ⟨u,r,l⟩:=hl i x v hi e1 vis
 refine wpAny_AugAssign_Name ?_
 have go:wpAny (model X.prog X.w) X.A (eval e X.env) (λw s₂=>wpAny (model X.prog X.w) X.A (inplaceOp op u w) (λr s₃=>wpAny (model X.prog X.w) X.A (storeName X.env x r) (λ_=>SP X pins D .next) X.xe s₃) X.xe s₂) X.xe s:=by
  refine Hf (he pins s σ H _ I h) λw s1 q0_ => ?_
  obtain ⟨y,H1,I1,r1,q1⟩ := q0_
  refine Hf (ho pins s1 σ H1 v y u w _ I1 r r1 q1) λz s2 q0_ => ?_
  obtain ⟨zv,H2,I2,r2,q2⟩ := q0_
  exact Yt I2 hN hi hx r2 (λs3 I3=>⟨_,H2,I3,q2⟩) hf
 rcases l with ⟨hk,hm⟩ | ⟨hk,c,hc,hcell⟩
 ·exact wpAny_loadName_local I.ok.kind hk hn hm go
 ·rcases hk with hk | hk
  ·exact wpAny_loadName_cell I.ok.kind hk hc hcell go
  ·rcases hx with k | k
   ·have : X.env.scope.names.lookup x=some .free:=hk
    rw[k] at this; cases this
   ·have : X.env.scope.names.lookup x=some .free:=hk
    rw[k] at this; cases this
def AS(f:Int->Int->Int):Y6:=λx y H Q=>∃i j,x=.int i/\y=.int j/\Q (.int (f i j)) H
theorem C7:Z0 X .Add (AS λi j=>i+j):=by
 intro pins s σ H x y v u Q I r1 r2 h
 obtain ⟨i,j,e1,e2,q⟩:=h
 subst e1; subst e2
 obtain ⟨t,rfl⟩:=r1
 obtain ⟨t',rfl⟩:=r2
 exact iadd_int ⟨.int _,H,I.tok _,⟨_,rfl⟩,q⟩
theorem K5:Z0 X .Sub (AS λi j=>i - j):=by
 intro pins s σ H x y v u Q I r1 r2 h
 obtain ⟨i,j,e1,e2,q⟩:=h
 subst e1; subst e2
 obtain ⟨t,rfl⟩:=r1
 obtain ⟨t',rfl⟩:=r2
 exact isub_int ⟨.int _,H,I.tok _,⟨_,rfl⟩,q⟩
end
section
variable{X:Cx}{pos:Pos}
def G4(c:TT)(tb:TS):TS:=λD σ H=>∃W:Nat->St->Hp->Prop,(∃m,W m σ H)/\∀m σ H,W m σ H ->
 c σ H λb H1=>if b=true then ∃N:St->Hp->Prop,(∀σ' H',N σ' H'->∃m',m'<m/\W m' σ' H')/\tb { D with nx:=N,ct:=N,bk:=D.nx } σ H1 else D.nx σ H1
theorem sE{c:Expr}{body:List Stmt}{tc:TT}{tb:TS}(hp:PassesOwn (model X.prog X.w) X.A X.env X.xe)(hc:PT X c tc)(hb:jF X body tb):PS X (.While c body [] pos) (G4 tc tb):=by
 intro pins s σ H D I h
 obtain ⟨W,⟨m0,w0⟩,turn⟩:=h
 refine wpAny_While (codeAny_whileLoop (λn s'=>∃σ' H',Inv X pins σ' H' s'/\W n σ' H') ?_ m0 ⟨σ,H,I,w0⟩)
 (intro n s1 q_; obtain ⟨σ1,H1,I1,w1⟩ := q_)
 refine Jd hp (Hf (hc pins s1 σ1 H1 _ I1 (turn n σ1 H1 w1)) λb s2 q0_ => ?_)
 obtain ⟨H2,I2,q2⟩ := q0_
 cases b with
 | true =>
  obtain ⟨N,hN,q2⟩:=q2
  rw[if_pos rfl]
  refine Jd hp (Hf (hb pins s2 σ1 H2 _ I2 q2) λf s3 q3=>?_)
  cases f with
  | next =>
   obtain ⟨σ3,H3,I3,n3⟩:=q3
   obtain ⟨m',hm,w3⟩:=hN σ3 H3 n3
   exact ⟨m',hm,σ3,H3,I3,w3⟩
  | cont =>
   obtain ⟨σ3,H3,I3,n3⟩:=q3
   obtain ⟨m',hm,w3⟩:=hN σ3 H3 n3
   exact ⟨m',hm,σ3,H3,I3,w3⟩
  | brk=>exact q3
  | ret v=>exact q3
 | false =>
  rw[if_neg Cm]
  exact Ub ⟨σ1,H2,I2,q2⟩
end
structure It where
 go:Nat->Hp->Prop
 yld:Nat->Hp->V->Hp->Prop
 stop:Nat->Hp->Prop
def Ph(X:Cx)(pins:List (Addr×Obj))(H:Hp)(b:Addr):Prop :=
 H b=none/\b≠X.env.locals/\b∉X.fs/\(b∈X.ex\/X.s₀.heap.objs.size<=b)/\(∀x c,X.env.cells.lookup x=some c->c≠b)/\∀p∈X.pn++pins,p.1≠b
theorem Inv.fpOk{X:Cx}{pins:List (Addr×Obj)}{σ:St}{H H':Hp}{s:Ag}{b:Addr}(I:Inv X pins σ H s)(hb:s.heap.objs.size<=b)(hn:H' b=none):Ph X pins H' b:=by
 refine ⟨hn,Nat.ne_of_gt (Bx I.lt hb),I.nofs hb,.inr (Cg I.sz hb),λx c e z=>?_,λp hp z=>?_⟩
 ·obtain ⟨v,q⟩:=I.cell x c e
  exact absurd (Bx q.lt (by rw[z]; exact hb)) (Hh _)
 ·exact absurd (Bx (Bk (I.pin p hp).1) (by rw[z]; exact hb)) (Hh _)
structure Turn(P:Be)(w:World)(K:PySem.W.Frag)(tg:Expr)(J:It)(fp:List Addr)(it:Addr)(tn:Nat->Heap->Prop):Prop where
 mem:it∈fp
 obj:∀i h,tn i h->∀b∈fp,∃o,h.get? b=some o/\∀v,o.data≠.cell v
 keep:∀i h h',tn i h->(∀b∈fp,∀o,h.get? b=some o->h'.get? b=some o)->tn i h'
 item:∀(X:Cx),X.prog=P->X.w=w->X.K=K->X.calm=true->∀(i:Nat) (pins:List (Addr×Obj)) (s:Ag) (σ:St) (H:Hp) (E:Value->Ag->Prop),Inv X pins σ H s->(∀b∈fp,Ph X pins H b)->tn i s.heap->J.go i H ->
  wpAny (model P w) X.A (pyNext (.ref it)) (λr s1=>∃u,r=some u /\
   wpAny (model P w) X.A (Uc tg (.ref it) u) (λ_ s2=>∃x H',Inv X pins σ H' s2/\RelV x u/\J.yld i H x H'/\tn (i+1) s2.heap/\∀b∈fp,H' b=none) E s1) E s
 done:∀(X:Cx),X.prog=P->X.w=w->X.K=K->X.calm=true->∀(i:Nat) (pins:List (Addr×Obj)) (s:Ag) (σ:St) (H:Hp) (E:Value->Ag->Prop),Inv X pins σ H s->(∀b∈fp,Ph X pins H b)->tn i s.heap->J.stop i H ->
  wpAny (model P w) X.A (pyNext (.ref it)) (λr s1=>r=none/\Inv X pins σ H s1) E s
 self:∀(A:Co) (i:Nat) (s:Ag) (Q:Value->Ag->Prop) (E:Value->Ag->Prop),tn i s.heap->Q (.ref it) s->wpAny (model P w) A (pyIter (.ref it)) Q E s
abbrev TI:=St->Hp->(It->Hp->Prop)->Prop
def BQ(X:Cx)(pins:List (Addr×Obj))(σ:St)(tg:Expr)(R:It->Hp->Prop)(itv:Value)(s2:Ag):Prop :=
 ∃(it:Addr) (fp:List Addr) (tn:Nat->Heap->Prop) (J:It) (H':Hp),itv=.ref it/\Inv X pins σ H' s2/\Turn X.prog X.w X.K tg J fp it tn/\tn 0 s2.heap/\(∀b∈fp,Ph X pins H' b)/\R J H'
def PI(X:Cx)(tg iter:Expr)(wi:TI):Prop :=
 ∀(pins:List (Addr×Obj)) (s:Ag) (σ:St) (H:Hp) (R:It->Hp->Prop),Inv X pins σ H s->wi σ H R ->
  wpAny (model X.prog X.w) X.A (eval iter X.env) (λv s1=>wpAny (model X.prog X.w) X.A (pyIter v) (BQ X pins σ tg R) X.xe s1) X.xe s
theorem qU{M:Model}{A:Co}{E:Value->Ag->Prop}{s:Ag}{tg:Expr}{it:Addr}{u:Value}{o:Obj}{n:String}{vs:Array Value}{Q:Unit->Ag->Prop}(ho:s.heap.get? it=some o)(hc:o.cls=.type n)(hd:o.data=.fields vs)(hn:["enumerate", "zip", "dict_itemiterator", "dict_reverseitemiterator", "odict_iterator", "itertools.zip_longest", "itertools.pairwise"].contains n=false)(hQ:Q () s):wpAny M A (Uc tg (.ref it) u) Q E s:=by
  unfold Uc
  cases tg <;> first
    | exact Aj hQ
    | (cases u <;> first
        | exact Aj hQ
        | (refine Ab (wpAny_load ho ?_)
           rw[hc,hd]
           show wpAny M A (if (["enumerate", "zip", "dict_itemiterator", "dict_reverseitemiterator", "odict_iterator", "itertools.zip_longest", "itertools.pairwise"].contains n && vs[0]? == some (Lr _))=true then _ else _) Q E s
           rw[if_neg (by intro h; rw[hn,Bool.false_and] at h; cases h)]
           exact Aj hQ))
def AD(K:PySem.W.Frag)(a:Addr):It :=
 ⟨λi H=>∃xs x,Sn K H a xs/\xs[i]? = some x,λi H x H'=>H'=H/\∀xs,Sn K H a xs->xs[i]? = some x,λi H=>∃xs,Sn K H a xs/\xs.length<=i⟩
def BO(K:PySem.W.Frag)(a:Addr):It :=
 ⟨λi H=>∃xs x,Sg K H a xs/\xs[i]? = some x,λi H x H'=>H'=H/\∀xs,Sg K H a xs->xs[i]? = some x,λi H=>∃xs,Sg K H a xs/\xs.length<=i⟩
def W9(lo:Int)(n:Nat):It:=⟨λi _=>i<n,λi H x H'=>H'=H/\x=.int (lo+i),λi _=>n<=i⟩
theorem oD{P:Be}{w:World}{K:PySem.W.Frag}{tg:Expr}(a it:Addr):Turn P w K tg (AD K a) [it] it (λi h=>h.IsListIter it a i) where
 mem:=by simp
 obj:=λi h st b hb=>by
  have e:b=it:=by simpa using hb
  subst e
  obtain ⟨o,e,c,d⟩:=st
  exact ⟨o,e,λv z=>by rw[d] at z; cases z⟩
 keep:=λi h h' st k=>st.at λo e=>k it (by simp) o e
 item:=by
  intro X hP hw hK hc i pins s σ H E I hf st hg
  subst hP hw hK
  obtain ⟨xs,x,hq,hx⟩:=hg
  obtain ⟨its,rv,p,hz⟩:=I.list hq
  obtain ⟨u,hu,ru⟩:=rv.get hx
  obtain ⟨f0,f1,f2,f3,f4,f5⟩:=hf it (by simp)
  refine vW st p.isList (x:=u) (by simpa using hu) λh' st' sb=>?_
  have I1:Inv X pins σ H { s with heap:=h' }:=I.turned (t':=s.toks) (λb o hb e=>(sb.2 b hb).trans e) f0 f1 f3 f4 f5
  obtain ⟨o,e,c,d⟩:=id st'
  exact ⟨u,rfl,qU (s:={ s with heap:=h' }) e c d (by decide) ⟨x,H,I1,ru,⟨rfl,λys hy=>by rw[I.list_inj hy hq]; exact hx⟩,st',λb hb=>(hf b hb).1⟩⟩
 done:=by
  intro X hP hw hK hc i pins s σ H E I hf st hg
  subst hP hw hK
  obtain ⟨xs,hq,hx⟩:=hg
  obtain ⟨its,rv,p,hz⟩:=I.list hq
  obtain ⟨f0,f1,f2,f3,f4,f5⟩:=hf it (by simp)
  have hl:=rv.length
  exact wpAny_pyNext_list_end (I.ok.hd hc) st p.isList (by simp; omega) λh' eb=>⟨rfl,I.turned (t':=s.toks) (λb o hb e=>eb b o hb e) f0 f1 f3 f4 f5⟩
 self:=λ_ _ _ _ _ st h=>wpAny_pyIter_listiter st h
theorem jQ{P:Be}{w:World}{K:PySem.W.Frag}{tg:Expr}(a it:Addr):Turn P w K tg (BO K a) [it] it (λi h=>h.IsTupleIter it a i) where
 mem:=by simp
 obj:=λi h st b hb=>by
  have e:b=it:=by simpa using hb
  subst e
  obtain ⟨o,e,c,d⟩:=st
  exact ⟨o,e,λv z=>by rw[d] at z; cases z⟩
 keep:=λi h h' st k=>st.at λo e=>k it (by simp) o e
 item:=by
  intro X hP hw hK hc i pins s σ H E I hf st hg
  subst hP hw hK
  obtain ⟨xs,x,hq,hx⟩:=hg
  obtain ⟨its,rv,p,hz⟩:=I.tuple hq
  obtain ⟨u,hu,ru⟩:=rv.get hx
  obtain ⟨f0,f1,f2,f3,f4,f5⟩:=hf it (by simp)
  refine wpAny_pyNext_tuple_item st (show s.heap.IsTuple a its.toArray from p) (x:=u) (by simpa using hu) λh' st' sb=>?_
  have I1:Inv X pins σ H { s with heap:=h' }:=I.turned (t':=s.toks) (λb o hb e=>(sb.2 b hb).trans e) f0 f1 f3 f4 f5
  obtain ⟨o,e,c,d⟩:=id st'
  exact ⟨u,rfl,qU (s:={ s with heap:=h' }) e c d (by decide) ⟨x,H,I1,ru,⟨rfl,λys hy=>by rw[I.tuple_inj hy hq]; exact hx⟩,st',λb hb=>(hf b hb).1⟩⟩
 done:=by
  intro X hP hw hK hc i pins s σ H E I hf st hg
  subst hP hw hK
  obtain ⟨xs,hq,hx⟩:=hg
  obtain ⟨its,rv,p,hz⟩:=I.tuple hq
  obtain ⟨f0,f1,f2,f3,f4,f5⟩:=hf it (by simp)
  have hl:=rv.length
  exact wpAny_pyNext_tuple_end (I.ok.hd hc) st (show s.heap.IsTuple a its.toArray from p) (by simp; omega) λh' eb=>⟨rfl,I.turned (t':=s.toks) (λb o hb e=>eb b o hb e) f0 f1 f3 f4 f5⟩
 self:=λ_ _ _ _ _ st h=>wpAny_pyIter_tupleiter st h
theorem kX{P:Be}{w:World}{K:PySem.W.Frag}{tg:Expr}(it:Addr)(lo:Int)(n:Nat):Turn P w K tg (W9 lo n) [it] it (λi h=>IsRangeIter h it (lo+(i:Nat) * 1) ((n:Int) - (i:Nat)) 1) where
 mem:=by simp
 obj:=λi h st b hb=>by
  have e:b=it:=by simpa using hb
  subst e
  exact ⟨_,st,λv z=>by
   have z':Data.fields _=Data.cell v:=z
   cases z'⟩
 keep:=λi h h' st k=>k it (by simp) _ st
 item:=by
  intro X hP hw hK hc i pins s σ H E I hf st hg
  subst hP hw hK
  obtain ⟨f0,f1,f2,f3,f4,f5⟩:=hf it (by simp)
  have W:=Walks.range (prog:=X.prog) (w:=X.w) (I.ok.hd hc) it lo 1 n
  refine W.item i s _ _ hg st λv h' tk hv st' kk=>?_
  obtain ⟨t,rfl⟩:=hv
  have I1:Inv X pins σ H { s with heap:=h',toks:=tk }:=I.turned (λb o hb e=>kk b o (by simpa using hb) e) f0 f1 f3 f4 f5
  refine ⟨_,rfl,qU (s:={ s with heap:=h',toks:=tk }) (n := "range_iterator") st' rfl rfl (by decide) ⟨.int (lo+i),H,I1,⟨t,?_⟩,⟨rfl,rfl⟩,st',λb hb=>(hf b hb).1⟩⟩
  rw[Int.mul_one]
 done:=by
  intro X hP hw hK hc i pins s σ H E I hf st hg
  subst hP hw hK
  obtain ⟨f0,f1,f2,f3,f4,f5⟩:=hf it (by simp)
  exact wpAny_pyNext_range_end (I.ok.hd hc) st (by have : n<=i:=hg; omega) λh' eb=>⟨rfl,I.turned (t':=s.toks) (λb o hb e=>eb b o hb e) f0 f1 f3 f4 f5⟩
 self:=λ_ _ _ _ _ st h=>wpAny_pyIter_rangeiter st h
section
variable{X:Cx}{tg:Expr}
def V5(K:PySem.W.Frag)(tl:TE):TI:=λσ H R=>tl σ H λx H1=>∃a,x=.ref a/\(∃xs,Sn K H1 a xs)/\R (AD K a) H1
def BI(K:PySem.W.Frag)(tl:TE):TI:=λσ H R=>tl σ H λx H1=>∃a,x=.ref a/\(∃xs,Sg K H1 a xs)/\R (BO K a) H1
theorem zQ{l:Expr}{tl:TE}(hl:PE X l tl):PI X tg l (V5 X.K tl):=by
 intro pins s σ H R I h
 refine Hf (hl pins s σ H _ I h) λv s1 q0_ => ?_
 obtain ⟨x,H1,I1,r1,q1⟩ := q0_
 obtain ⟨a,e,⟨xs,hq⟩,q⟩:=q1
 subst e
 cases r1
 obtain ⟨its,rv,p,hz⟩:=I1.list hq
 refine wpAny_pyIter_list p.isList ?_
 refine ⟨s1.heap.objs.size,[s1.heap.objs.size],_,_,H1,rfl,I1.kept (t':=s1.toks) λb o e=>Am _ e,oD a _,⟨_,Br _ rfl,rfl,rfl⟩,λb hb=>?_,q⟩
 have e:b=s1.heap.objs.size:=by simpa using hb
 subst e
 exact I1.fpOk (Ah _) (I1.hok.fresh (Ah _))
theorem K0{l:Expr}{tl:TE}(hl:PE X l tl):PI X tg l (BI X.K tl):=by
 intro pins s σ H R I h
 refine Hf (hl pins s σ H _ I h) λv s1 q0_ => ?_
 obtain ⟨x,H1,I1,r1,q1⟩ := q0_
 obtain ⟨a,e,⟨xs,hq⟩,q⟩:=q1
 subst e
 cases r1
 obtain ⟨its,rv,p,hz⟩:=I1.tuple hq
 refine wpAny_pyIter_tuple (show s1.heap.IsTuple a its.toArray from p) ?_
 refine ⟨s1.heap.objs.size,[s1.heap.objs.size],_,_,H1,rfl,I1.kept (t':=s1.toks) λb o e=>Am _ e,jQ a _,⟨_,Br _ rfl,rfl,rfl⟩,λb hb=>?_,q⟩
 have e:b=s1.heap.objs.size:=by simpa using hb
 subst e
 exact I1.fpOk (Ah _) (I1.hok.fresh (Ah _))
theorem vG{pins:List (Addr×Obj)}{σ:St}{H:Hp}{s:Ag}{R:It->Hp->Prop}{E:Value->Ag->Prop}{lo hi:Int}{t u v:Tok}{tk:Nat}(I:Inv X pins σ H s)(h1:-(2 ^ 62)<=lo)(h2:lo<2 ^ 62)(h3:-(2 ^ 62)<=hi)(h4:hi<2 ^ 62)(q:R (W9 lo (hi - lo).toNat) H):wpAny (model X.prog X.w) X.A (pyIter (.ref s.heap.objs.size)) (BQ X pins σ tg R) E { s with heap:=s.heap.push { cls:=.type "range",data:=.fields #[.int lo t,.int hi u,.int 1 v] },toks:=tk }:=by
 refine wpAny_pyIter_range (IsRange.new ..) (small_one h1 h2 h3 h4) ?_
 have I1:Inv X pins σ H { s with heap:=s.heap.push { cls:=.type "range",data:=.fields #[.int lo t,.int hi u,.int 1 v] },toks:=tk }:=I.kept λb o e=>Am _ e
 refine ⟨(s.heap.push { cls:=.type "range",data:=.fields #[.int lo t,.int hi u,.int 1 v] }).objs.size,[(s.heap.push { cls:=.type "range",data:=.fields #[.int lo t,.int hi u,.int 1 v] }).objs.size],_,_,H,rfl,
  I1.kept (t':=tk) λb o e=>Am _ e,kX _ lo (hi - lo).toNat,?_,λb hb=>?_,q⟩
 ·have e1:lo+((0:Nat):Int) * 1=lo:=by simp
  have e2:(((hi - lo).toNat:Nat):Int) - ((0:Nat):Int)=Jg lo hi 1:=by rw[rangeSize_one]; split <;> omega
  show IsRangeIter _ _ (lo+((0:Nat):Int) * 1) ((((hi - lo).toNat:Nat):Int) - ((0:Nat):Int)) 1
  rw[e1,e2]
  exact Br _ rfl
 ·have e:b=(s.heap.push { cls:=.type "range",data:=.fields #[.int lo t,.int hi u,.int 1 v] }).objs.size:=by simpa using hb
  subst e
  exact I1.fpOk (Ah _) (I1.hok.fresh (Ah _))
def O5(ta:TA):TI:=λσ H R=>ta σ H λvs H1=>∃j:Int,vs=[.int j] /\ -(2 ^ 62)<=j/\j<2 ^ 62/\R (W9 0 j.toNat) H1
theorem qC{a:Expr}{ta:TA}{p pos:Pos}(hg:Gl X "range")(hm:X.mg "range" = none)(ha:PA X [a] ta)(hs:Bs [a] X.env=[(false,eval a X.env)]:=by rfl):PI X tg (.Call (.Name "range" p) [a] [] pos) (O5 ta):=by
 intro pins s σ H R I h
 refine Call_ (Yi I hg hm boot_range (Lh (Hf (ha pos pins s σ H _ I h) λus s1 ⟨vs,H1,I1,r1,q1⟩=>?_) hs rfl))
 obtain ⟨j,e,q1,q2,q⟩:=q1
 subst e
 cases r1 with
 | cons r rr =>
  cases rr
  obtain ⟨t,rfl⟩:=r
  exact call_range_1 (vG I1 (by omega) (by omega) q1 q2 (by simpa using q))
def BE(wi:TI)(g:TG)(tb:TS):TS:=λD σ H=>wi σ H λJ H1=>∃W:Nat->Nat->St->Hp->Prop,(∃m,W 0 m σ H1)/\∀i m σ H,W i m σ H ->
 (J.stop i H/\D.nx σ H)\/(J.go i H/\∃N:St->Hp->Prop,(∀σ' H',N σ' H'->∃m',m'<m/\W (i+1) m' σ' H')/\∀x H',J.yld i H x H'->g x σ H' λσ2 H2=>tb { D with nx:=N,ct:=N,bk:=D.nx } σ2 H2)
def Ut(fp:List Addr)(h:Heap):List (Addr×Obj):=fp.filterMap λb=>(h.get? b).map λo=>(b,o)
theorem Kv{fp:List Addr}{h:Heap}{b:Addr}{o:Obj}(hb:b∈fp)(e:h.get? b=some o):(b,o)∈Ut fp h:=Hw.mpr ⟨b,hb,by rw[e]; rfl⟩
theorem nS{fp:List Addr}{h:Heap}{p:Addr×Obj}(hp:p∈Ut fp h):p.1∈fp/\h.get? p.1=some p.2:=by
 obtain ⟨b,hb,e⟩:=Hw.mp hp
 cases q:h.get? b with
 | none=>rw[q] at e; cases e
 | some o =>
  rw[q] at e
  have e':(b,o)=p:=Ck e
  subst e'
  exact ⟨hb,q⟩
theorem Inv.pinned{pins:List (Addr×Obj)}{σ:St}{H:Hp}{s:Ag}{fp:List Addr}(I:Inv X pins σ H s)(hf:∀b∈fp,Ph X pins H b)(ho:∀b∈fp,∃o,s.heap.get? b=some o/\∀v,o.data≠.cell v):Inv X (pins++Ut fp s.heap) σ H s :=
 I.pins_of λp hp=>(Ay.mp hp).elim (λz=>I.pin p (Al _ z)) λz=>by
  obtain ⟨hb,e⟩:=nS z
  obtain ⟨f0,f1,f2,_⟩:=hf p.1 hb
  obtain ⟨o,e',d⟩:=ho p.1 hb
  rw[e] at e'; cases e'
  exact ⟨e,f0,f1,f2,d⟩
theorem Inv.unpinned{pins pl:List (Addr×Obj)}{σ:St}{H:Hp}{s:Ag}(I:Inv X (pins++pl) σ H s):Inv X pins σ H s:=I.pins_of λp hp=>I.pin p (Al _ (Aq _ hp))
theorem A5{iter:Expr}{body:List Stmt}{wi:TI}{g:TG}{tb:TS}{pos:Pos}(hp:PassesOwn (model X.prog X.w) X.A X.env X.xe)(hc:X.calm=true)(hi:PI X tg iter wi)(hg:PG X tg g)(hb:jF X body tb)(hs:∀x,Jl iter X.env x=pure x:=by intro _; rfl):PS X (.For tg iter body [] pos) (BE wi g tb):=by
 intro pins s σ H D I h
 refine wpAny_For (Hf (hi pins s σ H _ I h) λv s1 h1=>Hf h1 λitv s2 h2=>?_) hs
 obtain ⟨it,fp,tn,J,H2,e,I2,T,st2,f2,W,⟨m0,w0⟩,turn⟩:=h2
 subst e
 -- what stays true of the iterator's objects through the loop
 have stat:∀{H':Hp},(∀b∈fp,H' b=none)->∀b∈fp,Ph X pins H' b:=λhn b hb=>⟨hn b hb,(f2 b hb).2⟩
 refine codeAny_forLoop_any (λn s'=>∃i σ' H',Inv X pins σ' H' s'/\tn i s'.heap/\(∀b∈fp,H' b=none)/\W i n σ' H') ?_ m0 ⟨0,σ,H2,I2,st2,λb hb=>(f2 b hb).1,w0⟩
 (intro n s3 q_; obtain ⟨i,σ3,H3,I3,Re,fr3,w3⟩ := q_)
 rcases turn i n σ3 H3 w3 with ⟨stop,qn⟩ | ⟨go,N,hN,step⟩
 ·refine Jd hp (Hf (T.done X rfl rfl rfl hc i pins s3 σ3 H3 X.xe I3 (stat fr3) Re stop) λr s4 q0_ => ?_)
  obtain ⟨hr,I4⟩ := q0_
  subst hr
  exact Ub ⟨σ3,H3,I4,qn⟩
 ·refine Jd hp (Hf (T.item X rfl rfl rfl hc i pins s3 σ3 H3 X.xe I3 (stat fr3) Re go) λr s4 q0_ => ?_)
  obtain ⟨u,hr,h4⟩ := q0_
  subst hr
  refine Jd hp (Hf h4 λ_ s5 q0_ => ?_)
  obtain ⟨x,H5,I5,r5,y5,st5,fr5⟩ := q0_
  have I5':=I5.pinned (stat fr5) (T.obj _ _ st5)
  refine Jd hp (Hf (hg _ s5 σ3 H5 x u _ I5' r5 (step x H5 y5)) λ_ s6 q0_ => ?_)
  obtain ⟨σ6,H6,I6,q6⟩ := q0_
  refine Jd hp (Hf (hb _ s6 σ6 H6 _ I6 q6) λf s7 q7=>?_)
  have again:∀{σ7:St} {H7:Hp},Inv X (pins++Ut fp s5.heap) σ7 H7 s7->N σ7 H7->∃m,m<n/\∃i σ' H',Inv X pins σ' H' s7/\tn i s7.heap/\(∀b∈fp,H' b=none)/\W i m σ' H':=λ{σ7 H7} I7 n7=>by
   obtain ⟨m',hm,w7⟩:=hN σ7 H7 n7
   refine ⟨m',hm,i+1,σ7,H7,I7.unpinned,T.keep _ _ _ st5 λb hb o e=>(I7.pin (b,o) (Al _ (Al _ (Kv hb e)))).1,λb hb=>?_,w7⟩
   obtain ⟨o,e,d⟩:=T.obj _ _ st5 b hb
   exact (I7.pin (b,o) (Al _ (Al _ (Kv hb e)))).2.1
  cases f with
  | next=>obtain ⟨σ7,H7,I7,n7⟩:=q7; exact again I7 n7
  | cont=>obtain ⟨σ7,H7,I7,n7⟩:=q7; exact again I7 n7
  | brk=>obtain ⟨σ7,H7,I7,q7⟩:=q7; exact ⟨σ7,H7,I7.unpinned,q7⟩
  | ret v=>obtain ⟨x7,σ7,H7,I7,r7,q7⟩:=q7; exact ⟨x7,σ7,H7,I7.unpinned,r7,q7⟩
end
abbrev R2:=V->V->Hp->VK->Prop
def Tu(X:Cx)(f:Value->Value->Sem Value)(r:R2):Prop :=
 ∀(pins:List (Addr×Obj)) (s:Ag) (σ:St) (H:Hp) (x y:V) (v u:Value) (Q:VK),Inv X pins σ H s->RelV x v->RelV y u->r x y H Q ->
  wpAny (model X.prog X.w) X.A (f v u) (EP X pins σ Q) X.xe s
def AE(X:Cx)(f:Value->Sem Value)(r:V->Hp->VK->Prop):Prop :=
 ∀(pins:List (Addr×Obj)) (s:Ag) (σ:St) (H:Hp) (x:V) (v:Value) (Q:VK),Inv X pins σ H s->RelV x v->r x H Q ->
  wpAny (model X.prog X.w) X.A (f v) (EP X pins σ Q) X.xe s
def Kf(X:Cx)(f:Value)(r:List V->Hp->VK->Prop):Prop :=
 ∀(pins:List (Addr×Obj)) (s:Ag) (σ:St) (H:Hp) (xs:List V) (us:List Value) (Q:VK),Inv X pins σ H s->Fg xs us->r xs H Q ->
  wpAny (model X.prog X.w) X.A (call f us) (EP X pins σ Q) X.xe s
def AR(X:Cx)(r:V->Hp->(Bool->Hp->Prop)->Prop):Prop :=
 ∀(pins:List (Addr×Obj)) (s:Ag) (σ:St) (H:Hp) (x:V) (v:Value) (Q:Bool->Hp->Prop),Inv X pins σ H s->RelV x v->r x H Q ->
  wpAny (model X.prog X.w) X.A (truthy v) (TP X pins σ Q) X.xe s
def P1(r:R2)(ta tb:TE):TE:=λσ H Q=>ta σ H λx H1=>tb σ H1 λy H2=>r x y H2 Q
def CV(r:V->Hp->VK->Prop)(ta:TE):TE:=λσ H Q=>ta σ H λx H1=>r x H1 Q
def rI(C:Int->Int->Prop)(g:Int->Int->V):R2:=λx y H Q=>∃i j,x=.int i/\y=.int j/\C i j/\Q (g i j) H
def wH(g:Int->Int->V):R2:=λx y H Q=>∃i j,x=.int i/\y=.int j/\Q (g i j) H
def rU(g:Int->V):V->Hp->VK->Prop:=λx H Q=>∃i,x=.int i/\Q (g i) H
section
variable{X:Cx}{a b c:Expr}{ta tb tc:TE}{pos:Pos}
theorem J5(ha:PE X a ta)(hb:PE X b tb){pins:List (Addr×Obj)}{s:Ag}{σ:St}{H:Hp}{R:V->V->Hp->Prop}(I:Inv X pins σ H s)(h:ta σ H λx H1=>tb σ H1 λy H2=>R x y H2){Q:Value->Ag->Prop}{f:Value->Value->Sem Value}(hf:∀v u s2 x y H2,Inv X pins σ H2 s2->RelV x v->RelV y u->R x y H2->wpAny (model X.prog X.w) X.A (f v u) Q X.xe s2):wpAny (model X.prog X.w) X.A (eval a X.env) (λv s₁=>wpAny (model X.prog X.w) X.A (eval b X.env) (λu s₂=>wpAny (model X.prog X.w) X.A (f v u) Q X.xe s₂) X.xe s₁) X.xe s:=by
 refine Hf (ha pins s σ H _ I h) λv s1 q0_ => ?_
 obtain ⟨x,H1,I1,r1,q1⟩ := q0_
 refine Hf (hb pins s1 σ H1 _ I1 q1) λu s2 q0_ => ?_
 obtain ⟨y,H2,I2,r2,q2⟩ := q0_
 exact hf v u s2 x y H2 I2 r1 r2 q2
theorem Ir{op:Operator}{r:R2}(ho:Tu X (Jv op) r)(ha:PE X a ta)(hb:PE X b tb):PE X (.BinOp a op b pos) (P1 r ta tb):=by
 intro pins s σ H Q I h
 exact wpAny_BinOp (J5 ha hb I h λv u s2 x y H2 I2 rx ry q=>ho pins s2 σ H2 x y v u Q I2 rx ry q)
theorem S5{op:UnaryOp}{r:V->Hp->VK->Prop}(ho:AE X (unaryOp op) r)(ha:PE X a ta):PE X (.UnaryOp op a pos) (CV r ta):=by
 intro pins s σ H Q I h
 exact UnaryOp_ (Hf (ha pins s σ H _ I h) λv s1 ⟨x,H1,I1,r1,q1⟩=>ho pins s1 σ H1 x v Q I1 r1 q1)
theorem P5{f:Value->Value->Sem Value}{C:Int->Int->Prop}{g:Int->Int->Int}(rule:∀(i j:Int) (t u:Tok) (s:Ag) (Q:Value->Ag->Prop) (E:Value->Ag->Prop),C i j->Q (.int (g i j) s.toks) { s with toks:=s.toks+1 }->wpAny (model X.prog X.w) X.A (f (.int i t) (.int j u)) Q E s):Tu X f (rI C λi j=>.int (g i j)):=by
 intro pins s σ H x y v u Q I rx ry h
 obtain ⟨i,j,rfl,rfl,hc,q⟩:=h
 obtain ⟨t,rfl⟩:=rx
 obtain ⟨t',rfl⟩:=ry
 exact rule i j t t' s _ _ hc ⟨.int (g i j),H,I.tok _,⟨_,rfl⟩,q⟩
theorem U8{f:Value->Value->Sem Value}{g:Int->Int->Int}(rule:∀(i j:Int) (t u:Tok) (s:Ag) (Q:Value->Ag->Prop) (E:Value->Ag->Prop),Q (.int (g i j) s.toks) { s with toks:=s.toks+1 }->wpAny (model X.prog X.w) X.A (f (.int i t) (.int j u)) Q E s):Tu X f (wH λi j=>.int (g i j)):=by
 intro pins s σ H x y v u Q I rx ry h
 obtain ⟨i,j,rfl,rfl,q⟩:=h
 obtain ⟨t,rfl⟩:=rx
 obtain ⟨t',rfl⟩:=ry
 exact rule i j t t' s _ _ ⟨.int (g i j),H,I.tok _,⟨_,rfl⟩,q⟩
theorem xT{f:Value->Value->Sem Value}{g:Int->Int->Bool}(rule:∀(i j:Int) (t u:Tok) (s:Ag) (Q:Value->Ag->Prop) (E:Value->Ag->Prop),Q (.bool (g i j)) s->wpAny (model X.prog X.w) X.A (f (.int i t) (.int j u)) Q E s):Tu X f (wH λi j=>.bl (g i j)):=by
 intro pins s σ H x y v u Q I rx ry h
 obtain ⟨i,j,rfl,rfl,q⟩:=h
 obtain ⟨t,rfl⟩:=rx
 obtain ⟨t',rfl⟩:=ry
 exact rule i j t t' s _ _ ⟨.bl (g i j),H,I,rfl,q⟩
def N0(i j:Int):Prop:=0<j/\j<1073741824
def AW(i j:Int):Prop:=0<=j/\j<=1000000/\i.natAbs<2 ^ 64
def z0(i j:Int):Prop:=(-(2 ^ 64)<i/\i<2 ^ 64)\/(-(2 ^ 64)<j/\j<2 ^ 64)
theorem z0.ok{i j:Int}(h:z0 i j):IntMulOk i j:=by
 rcases h with ⟨h1,h2⟩ | ⟨h1,h2⟩
 ·exact .of_left (intBits_le_64 h1 h2)
 ·exact .of_right (intBits_le_64 h1 h2)
theorem Xy:Tu X (Jv .Add) (wH λi j=>.int (i+j)):=U8 λ_ _ _ _ _ _ _ q=>add_int q
theorem L9:Tu X (Jv .Sub) (wH λi j=>.int (i - j)):=U8 λ_ _ _ _ _ _ _ q=>sub_int q
theorem Ul:Tu X (Jv .Mult) (rI z0 λi j=>.int (i * j)):=P5 λ_ _ _ _ _ _ _ hc q=>mul_int q hc.ok
theorem dS:Tu X (Jv .FloorDiv) (rI N0 λi j=>.int (i / j)):=P5 λi j _ _ _ _ _ hc q=>by
 have h1:(0:Int)<j:=hc.1
 have h2:j<1073741824:=hc.2
 exact floordiv_int (by omega) (by rw[Int.fdiv_eq_ediv_of_nonneg i (by omega)]; exact q) (.inl (PyProof.noPylong_small (by omega)))
theorem Rt:Tu X (Jv .Mod) (rI (λ_ j=>0<j) λi j=>.int (i % j)):=P5 λi j _ _ _ _ _ hc q=>by
 have h1:(0:Int)<j:=hc
 exact mod_int' (by omega) (by rw[Int.fmod_eq_emod_of_nonneg i (by omega)]; exact q)
theorem cN:Tu X (Jv .Pow) (rI AW λi j=>.int (i ^ j.toNat)):=P5 λ_ _ _ _ _ _ _ hc q=>pow_int_small hc.1 hc.2.1 hc.2.2 q
theorem CQ{f:Value->Sem Value}{g:Int->Int}(rule:∀(i:Int) (t:Tok) (s:Ag) (Q:Value->Ag->Prop) (E:Value->Ag->Prop),Q (.int (g i) s.toks) { s with toks:=s.toks+1 }->wpAny (model X.prog X.w) X.A (f (.int i t)) Q E s):AE X f (rU λi=>.int (g i)):=by
 intro pins s σ H x v Q I rx h
 obtain ⟨i,rfl,q⟩:=h
 obtain ⟨t,rfl⟩:=rx
 exact rule i t s _ _ ⟨.int (g i),H,I.tok _,⟨_,rfl⟩,q⟩
theorem M8:AE X (unaryOp .USub) (rU λi=>.int (-i)):=CQ λ_ _ _ _ _ q=>neg_int q
end
section
variable{X:Cx}{a b c:Expr}{ta tb tc:TE}{pos:Pos}
theorem sG{pins:List (Addr×Obj)}{σ:St}{H:Hp}{s:Ag}{Q:VK}{k k':Bool}(I:Inv X pins σ H s)(q:Q (.bl k) H)(e:k=k'):EP X pins σ Q (.bool k') s:=by
 subst e
 exact ⟨.bl k,H,I,rfl,q⟩
theorem n9:Tu X (Fj .Lt) (wH λi j=>.bl (decide (i<j))):=xT λ_ _ _ _ _ _ _ q=>lt_int q
theorem op_le:Tu X (Fj .LtE) (wH λi j=>.bl (decide (i<=j))):=xT λ_ _ _ _ _ _ _ q=>le_int q
theorem Q9:Tu X (Fj .Gt) (wH λi j=>.bl (decide (j<i))):=xT λ_ _ _ _ _ _ _ q=>gt_int q
theorem i8:Tu X (Fj .GtE) (wH λi j=>.bl (decide (j<=i))):=xT λ_ _ _ _ _ _ _ q=>ge_int q
theorem B2:Tu X (Fj .Is) (λx y H Q=>y=.non/\Q (.bl (decide (x=.non))) H):=by
 intro pins s σ H x y v u Q I rx ry h
 obtain ⟨rfl,q⟩:=h
 cases ry
 refine is_none_gen (sG I q ?_)
 cases x <;> first
  | (cases rx; rfl)
  | (obtain ⟨t,rfl⟩:=rx; rfl)
theorem zG:Tu X (Fj .IsNot) (λx y H Q=>y=.non/\Q (.bl (!decide (x=.non))) H):=by
 intro pins s σ H x y v u Q I rx ry h
 obtain ⟨rfl,q⟩:=h
 cases ry
 refine isnot_none_gen (sG I q ?_)
 cases x <;> first
  | (cases rx; rfl)
  | (obtain ⟨t,rfl⟩:=rx; rfl)
theorem Ms(b:Expr){op:CmpOp}(h:op≠.In:=by decide)(h2:op≠.NotIn:=by decide):Et op b=false:=by
 have e1:(op == CmpOp.In)=false:=by cases op <;> first | rfl | exact absurd rfl h
 have e2:(op == CmpOp.NotIn)=false:=by cases op <;> first | rfl | exact absurd rfl h2
 cases b <;> simp [Et,e1,e2]
theorem zV{op:CmpOp}{r:R2}(ho:Tu X (Fj op) r)(ha:PE X a ta)(hb:PE X b tb)(hm:Et op b=false):PE X (.Compare a [op] [b] pos) (P1 r ta tb):=by
 intro pins s σ H Q I h
 exact wpAny_Compare1 (J5 ha hb I h λv u s2 x y H2 I2 rx ry q=>ho pins s2 σ H2 x y v u Q I2 rx ry q) hm
def R0(t:TE):TT:=λσ H Q=>t σ H λx H'=>∃k,x=.bl k/\Q k H'
theorem lI{op:CmpOp}{r:R2}(ho:Tu X (Fj op) r)(ha:PE X a ta)(hb:PE X b tb)(hm:Et op b=false):PT X (.Compare a [op] [b] pos) (R0 (P1 r ta tb)):=by
 intro pins s σ H Q I h
 refine wpAny_isTrue_Compare1 (Hf (ha pins s σ H _ I h) λv s1 ⟨x,H1,I1,r1,q1⟩=>Hf (hb pins s1 σ H1 _ I1 q1) λu s2 ⟨y,H2,I2,r2,q2⟩ =>
  Hf (ho pins s2 σ H2 x y v u _ I2 r1 r2 q2) λc s3 ⟨z,H3,I3,r3,k,e,q3⟩=>?_) hm
 subst e
 cases r3
 exact Jk ⟨H3,I3,q3⟩
def BC(K:PySem.W.Frag)(x:V)(H:Hp)(k:Bool):Prop :=
 match x with
 | .non=>k=false
 | .bl b=>k=b
 | .int i=>k=(i != 0)
 | .str y=>y.length<=Ax/\k=((y.length:Int) != 0)
 | .byt y=>y.size<=Ax/\k=((y.size:Int) != 0)
 | .ref p=>(∃xs,Sn K H p xs/\k = !xs.isEmpty)\/(∃xs,Sg K H p xs/\k = !xs.isEmpty)\/∃kvs,H p=some (.dK kvs)/\k = !kvs.isEmpty
 | _=>False
theorem iU{κ:Type}{kvs:List (κ×V)}{vs:List (κ×Value)}(r:KV kvs vs):(!vs.isEmpty) = !kvs.isEmpty:=by
 cases r <;> rfl
theorem Ym{xs:List V}{its:List Value}(r:Fg xs its):(!its.toArray.isEmpty) = !xs.isEmpty:=by
 cases r <;> simp
theorem Vf:(Ax:Nat)<2 ^ 63:=by rw[Jt]; decide
theorem Z7:AR X (λx H Q=>∃k,BC X.K x H k/\Q k H):=by
 intro pins s σ H x v Q I rx h
 obtain ⟨k,e,q⟩:=h
 have hl:=Vf
 have hs:Ax=16777216:=Jt
 cases x with
 | non =>
  cases rx
  have e':k=false:=e
  subst e'
  exact truthy_none ⟨H,I,q⟩
 | bl b =>
  cases rx
  have e':k=b:=e
  subst e'
  exact Jk ⟨H,I,q⟩
 | int i =>
  obtain ⟨t,rfl⟩:=rx
  have e':k=(i != 0):=e
  subst e'
  exact PySem.P.truthy_int ⟨H,I,q⟩
 | str y =>
  obtain ⟨t,rfl⟩:=rx
  obtain ⟨hy,e'⟩ : y.length<=Ax/\k=((y.length:Int) != 0):=e
  subst e'
  exact PySem.P.truthy_str (by omega) ⟨H,I.tok _,q⟩
 | byt y =>
  obtain ⟨t,rfl⟩:=rx
  obtain ⟨hy,e'⟩ : y.size<=Ax/\k=((y.size:Int) != 0):=e
  subst e'
  exact PySem.W.truthy_bytes (by omega) ⟨H,I.tok _,q⟩
 | ref p =>
  cases rx
  have e':(∃xs,Sn X.K H p xs/\k = !xs.isEmpty)\/(∃xs,Sg X.K H p xs/\k = !xs.isEmpty)\/∃kvs,H p=some (.dK kvs)/\k = !kvs.isEmpty:=e
  rcases e' with ⟨xs,hx,e'⟩ | ⟨xs,hx,e'⟩ | ⟨kvs,hx,e'⟩
  ·subst e'
   obtain ⟨its,r,pl,hz⟩:=I.list hx
   have hlen:=r.length
   exact wpAny_truthy_list pl.isList (by simp only[Ar]; omega) ⟨H,I.tok _,by rw[Ym r]; exact q⟩
  ·subst e'
   obtain ⟨its,r,pl,hz⟩:=I.tuple hx
   have hlen:=r.length
   exact truthy_tuple pl (by simp only[Ar]; omega) ⟨H,I.tok _,by rw[Ym r]; exact q⟩
  ·subst e'
   obtain ⟨hz,hS,vs,r,m⟩ : kvs.length<=Ax/\(p == Js)=false/\∃vs,KV kvs vs/\s.heap.DictOf (Hk X.prog X.w) p vs:=I.hok p _ hx
   have hlen:kvs.length=vs.length:=Paired.length r
   exact wpAny_truthy_dict hS m (by omega) ⟨H,I.tok _,by rw[iU r]; exact q⟩
 | _=>exact (show False from e).elim
theorem vals1{x:V}{us:List Value}(r:Fg [x] us):∃u,us=[u]/\RelV x u:=by
 cases r with
 | cons r1 r2=>cases r2; exact ⟨_,rfl,r1⟩
theorem vals2{x y:V}{us:List Value}(r:Fg [x,y] us):∃u w',us=[u,w']/\RelV x u/\RelV y w':=by
 cases r with
 | cons r1 r2 =>
  cases r2 with
  | cons r3 r4=>cases r4; exact ⟨_,_,rfl,r1,r3⟩
theorem pW(hc:X.calm=true):Kf X (.builtin "min") (λxs H Q=>∃i j,xs=[.int i,.int j]/\Q (.int (if j<i then j else i)) H):=by
 intro pins s σ H xs us Q I r h
 obtain ⟨i,j,rfl,q⟩:=h
 obtain ⟨u,w',rfl,⟨t,rfl⟩,⟨t',rfl⟩⟩:=vals2 r
 refine min_two_ints (I.ok.hd hc) λh' tk k=>⟨_,H,I.kept k,?_,q⟩
 by_cases hj:j<i
 ·rw[if_pos hj,if_pos hj]; exact ⟨_,rfl⟩
 ·rw[if_neg hj,if_neg hj]; exact ⟨_,rfl⟩
theorem oP:Kf X (.type "int") (λxs H Q=>(∃i,xs=[.int i]/\Q (.int i) H)\/∃k,xs=[.bl k]/\Q (.int (if k then 1 else 0)) H):=by
 intro pins s σ H xs us Q I r h
 rcases h with ⟨i,rfl,q⟩ | ⟨k,rfl,q⟩
 ·obtain ⟨u,rfl,t,rfl⟩:=vals1 r
  exact call_int_int ⟨.int i,H,I,⟨_,rfl⟩,q⟩
 ·obtain ⟨u,rfl,r1⟩:=vals1 r
  cases r1
  exact call_int_bool ⟨.int (if k then 1 else 0),H,I.tok _,⟨_,rfl⟩,q⟩
def V0(K:PySem.W.Frag)(x:V)(H:Hp)(n:Nat):Prop :=
 match x with
 | .str y=>y.length<=Ax/\n=y.length
 | .byt y=>y.size<=Ax/\n=y.size
 | .ref p=>(∃xs,Sn K H p xs/\n=xs.length)\/∃xs,Sg K H p xs/\n=xs.length
 | _=>False
theorem Le:Kf X (.builtin "len") (λxs H Q=>∃x n,xs=[x]/\V0 X.K x H n/\Q (.int n) H):=by
 intro pins s σ H xs us Q I r h
 obtain ⟨x,n,rfl,e,q⟩:=h
 obtain ⟨u,rfl,rx⟩:=vals1 r
 have hl:=Vf
 have hs:Ax=16777216:=Jt
 cases x with
 | str y =>
  obtain ⟨t,rfl⟩:=rx
  obtain ⟨hy,e'⟩ : y.length<=Ax/\n=y.length:=e
  subst e'
  exact len_str (by omega) ⟨.int _,H,I.tok _,⟨_,rfl⟩,q⟩
 | byt y =>
  obtain ⟨t,rfl⟩:=rx
  obtain ⟨hy,e'⟩ : y.size<=Ax/\n=y.size:=e
  subst e'
  exact PySem.W.len_bytes (by omega) ⟨.int _,H,I.tok _,⟨_,rfl⟩,q⟩
 | ref p =>
  cases rx
  have e':(∃xs,Sn X.K H p xs/\n=xs.length)\/∃xs,Sg X.K H p xs/\n=xs.length:=e
  rcases e' with ⟨xs,hx,e'⟩ | ⟨xs,hx,e'⟩
  ·subst e'
   obtain ⟨its,r',pl,hz⟩:=I.list hx
   have hlen:=r'.length
   exact Calls.call_len_list pl.isList (by simp only[Ar]; omega) ⟨.int xs.length,H,I.tok _,⟨_,by simp only[Ar]; rw[hlen]⟩,q⟩
  ·subst e'
   obtain ⟨its,r',pl,hz⟩:=I.tuple hx
   have hlen:=r'.length
   exact len_tuple pl (by simp only[Ar]; omega) ⟨.int xs.length,H,I.tok _,⟨_,by simp only[Ar]; rw[hlen]⟩,q⟩
 | _=>exact (show False from e).elim
end
structure ObjM(h:Heap)(x dx C:Addr)(mA:Str->Option Value):Prop where
 obj:h.get? x=some (PySem.W.instObj C dx)
 ns:h.Ns1 dx mA
 ne:dx≠x
theorem pH{h:Heap}{dx:Addr}{mA:Str->Option Value}(n:h.Ns1 dx mA):∃od,h.get? dx=some od/\∀name,PySem.W.lookIn name od=some (mA name):=by
 obtain ⟨o,es,ep,ho,hd,hk,_,hm⟩:=n
 refine ⟨o,ho,λname=>?_⟩
 have e:=hm name
 unfold nsFind findBy at e
 rw[<- Array.find?_toList] at e
 unfold PySem.W.lookIn
 rw[hd]
 dsimp only
 split
 ·rename_i y q
  rw[q] at e
  exact congrArg some e
 ·rename_i q
  rw[q] at e
  have a:es.toList.any (·.refKey)=false:=by
   rw[List.any_eq_false]
   intro y hy
   obtain ⟨z,t,hkey⟩:=hk y (Array.mem_toList_iff.mp hy)
   simp [DictEntry.refKey,hkey]
  have a':¬ es.toList.any (·.refKey)=true:=by rw[a]; exact Cm
  rw[if_neg a']
  exact congrArg some e
theorem ObjM.look{h:Heap}{x dx C:Addr}{mA:Str->Option Value}(I:ObjM h x dx C mA):∃od,PySem.W.InstAt h x (PySem.W.instObj C dx) C (some od)/\∀name,PySem.W.lookIn name od=some (mA name) :=
 let ⟨od,ho,hl⟩:=pH I.ns
 ⟨od,⟨I.obj,rfl,rfl,ho⟩,hl⟩
theorem jU.some_of{v:V}{o:Option Value}(r:jU (some v) o):∃u,o=some u/\RelV v u:=by
 cases o with
 | none=>exact (show False from r).elim
 | some u=>exact ⟨u,rfl,r⟩
section
variable{P:Be}{w:World}{H H':Hp}{h h':Heap}{a C dx:Addr}{fs fs':List (Str×V)}
theorem xN(hok:Sz P w H h)(e:H a=some (.ins C dx fs)):∃mA,ObjM h a dx C mA/\(∀f,jU (fs.lookup f) (mA f))/\PySem.Within mA (fs.map (·.1))/\fs.length<=1000/\H dx=some (.own a):=by
 obtain ⟨d,z,ne,ob,mA,n,r,q⟩:=(show Gc P w H h a (.ins C dx fs) from hok a _ e)
 exact ⟨mA,⟨ob,n,ne⟩,r,q,z,d⟩
end
structure Cls(K:PySem.W.Frag)(C:Addr):Prop where
 pg:PySem.W.plainGet K C Str.empty=true
 hd:PySem.W.hasDictIn K C=true
 po:PySem.W.plainOver K C=true
 sa:PySem.W.findIn K (.ref C) "__setattr__" = some (some (.builtin "object.__setattr__"))
theorem Cls.get{K:PySem.W.Frag}{C:Addr}(c:Cls K C)(f:Str):PySem.W.plainGet K C f=true:=c.pg
section
variable{X:Cx}{pins:List (Addr×Obj)}{σ:St}{H:Hp}{s:Ag}{A:Co}{E:Value->Ag->Prop}{Q:Value->Ag->Prop}{c:Value}{b:Bool}
inductive TyOf (K:PySem.W.Frag) (H:Hp):V->Value->Prop where
 | non:TyOf K H .non (.type "NoneType")
 | bl (x:Bool):TyOf K H (.bl x) (.type "bool")
 | int (i:Int):TyOf K H (.int i) (.type "int")
 | str (x:Str):TyOf K H (.str x) (.type "str")
 | flt (x:UInt64):TyOf K H (.flt x) (.type "float")
 | lst {a:Addr} {xs:List V} (e:H a=some (.lst xs)):TyOf K H (.ref a) (.type "list")
 | frz {a:Addr} {o:Obj} {xs:List V} (e:H a=some (.frz o (.lst xs))):TyOf K H (.ref a) (.type "list")
 | tup {a:Addr} {xs:List V} (e:H a=some (.tup xs)):TyOf K H (.ref a) (.type "tuple")
 | dK {a:Addr} {kvs:List (Jy×V)} (e:H a=some (.dK kvs)):TyOf K H (.ref a) (.type "dict")
 | dT {a:Addr} {kvs:List (List Jy×V)} (e:H a=some (.dT kvs)):TyOf K H (.ref a) (.type "dict")
 | ins {a C dx:Addr} {fs:List (Str×V)} (e:H a=some (.ins C dx fs)) (cl:Cls K C) (ha:PySem.W.findIn K (.ref C) "__class__" = some (some (.builtin "object.__class__")))
   (hn:PySem.W.specialIn K (.builtin "object.__class__") "__get__" = some (some (.builtin "getset_descriptor.__get__"))) (htk:PySem.W.takesIn K (.builtin "object.__class__")=some true)
   (hm:PySem.W.mroIn K C (.type "object")=some true):TyOf K H (.ref a) (.ref C)
theorem pM{x:V}{u t:Value}(I:Inv X pins σ H s)(rx:RelV x u)(ty:TyOf X.K H x t)(e:PySem.W.kitOne X.K t c=some b)(h:∀tk,Q (.bool b) { s with toks:=tk }):wpAny (model X.prog X.w) A (call (.builtin "isinstance") [u,c]) Q E s:=by
 cases ty with
 | non=>cases (show u=Pl from rx); exact PySem.W.kia_one PySem.W.kitx_none I.kIn Kq e (λz=>nomatch z) h
 | bl y=>cases (show u=Value.bool y from rx); exact PySem.W.kia_one PySem.W.kitx_bool I.kIn Kq e (λz=>nomatch z) h
 | int i=>obtain ⟨t,q⟩:=(show ∃t,u=Li i t from rx); cases q; exact PySem.W.kia_one PySem.W.kitx_int I.kIn Kq e (λz=>nomatch z) h
 | str y=>obtain ⟨t,q⟩:=(show ∃t,u=Value.str y t from rx); cases q; exact PySem.W.kia_one PySem.W.kitx_str I.kIn Kq e (λz=>nomatch z) h
 | flt y=>obtain ⟨t,q⟩:=(show ∃t,u=Value.float y t from rx); cases q; exact PySem.W.kia_one PySem.W.kitx_float I.kIn Kq e (λz=>nomatch z) h
 | @lst a xs ea =>
  cases (show u=Ao a from rx)
  obtain ⟨_,_,n,_,h1⟩:=(show Gc X.prog X.w H s.heap a (.lst xs) from I.hok a _ ea)
  exact PySem.W.kia_one PySem.W.kitx_list I.kIn ⟨_,h1,rfl⟩ e (λz=>nomatch z) h
 | @frz a ob xs ea =>
  cases (show u=Ao a from rx)
  obtain ⟨_,_,_,n,_,h1⟩:=(show Gc X.prog X.w H s.heap a (.frz ob (.lst xs)) from I.hok a _ ea)
  exact PySem.W.kia_one PySem.W.kitx_list I.kIn ⟨_,h1,rfl⟩ e (λz=>nomatch z) h
 | @tup a xs ea =>
  cases (show u=Ao a from rx)
  obtain ⟨_,_,_,p⟩:=(show Gc X.prog X.w H s.heap a (.tup xs) from I.hok a _ ea)
  obtain ⟨o,h1,h2,_⟩:=p
  exact PySem.W.kia_one PySem.W.kitx_tuple I.kIn ⟨o,h1,h2⟩ e (λz=>nomatch z) h
 | @dK a kvs ea =>
  cases (show u=Ao a from rx)
  obtain ⟨_,_,vs,_,p⟩:=(show Gc X.prog X.w H s.heap a (.dK kvs) from I.hok a _ ea)
  obtain ⟨o,es,ep,h1,h2,_⟩:=p
  exact PySem.W.kia_one PySem.W.kitx_dict I.kIn ⟨o,h1,h2.1⟩ e (λz=>nomatch z) h
 | @dT a kvs ea =>
  cases (show u=Ao a from rx)
  obtain ⟨_,_,xs,_,o,es,ep,h1,h2,_⟩:=(show Gc X.prog X.w H s.heap a (.dT kvs) from I.hok a _ ea)
  exact PySem.W.kia_one PySem.W.kitx_dict I.kIn ⟨o,h1,h2.1⟩ e (λz=>nomatch z) h
 | @ins a C dx fs ea cl ha hn htk hm =>
  cases (show u=Ao a from rx)
  obtain ⟨mA,O,_⟩:=xN I.hok ea
  obtain ⟨od,J,_⟩:=O.look
  exact PySem.W.kia_one (PySem.W.kitx_own (cl.get _) cl.hd ha hn htk hm) I.kIn J e (λz=>nomatch z) h
end
structure Room(k:Nat)(A:Co):Prop where
 hd:A.handled=none
 dp:A.depth+3 * k+5<recursionLimit
 un:A.units+16 * k+200<cLine
 gd:A.guards=some []
theorem Room.mono{j k:Nat}{A:Co}(r:Room k A)(h:j<=k):Room j A:=⟨r.hd,by have:=r.dp; omega,by have:=r.un; omega,r.gd⟩
theorem Room.deeper{k:Nat}{A:Co}(r:Room (k+1) A)(env:Env):Room k (A.deeper env) :=
 ⟨r.hd,by have:=r.dp; show A.depth+1+3 * k+5<_; omega,by have:=r.un; show A.units+3+16 * k+200<_; omega,r.gd⟩
theorem Room.depth{k:Nat}{A:Co}(r:Room k A):A.depth<recursionLimit:=by have:=r.dp; omega
theorem Room.units{k:Nat}{A:Co}(r:Room k A):A.units+64<cLine:=by have:=r.un; omega
def P3:TA:=λ_ H Q=>Q [] H
def U1(ta:TE)(tr:TA):TA:=λσ H Q=>ta σ H λx H1=>tr σ H1 λxs H2=>Q (x::xs) H2
section
variable{X:Cx}{e:Expr}{es:List Expr}{te:TE}{t:TA}{pos:Pos}
theorem Om:PA X [] P3:=λ_ _ _ _ H Q I h=>Calls.spliced_nil ⟨[],H,I,.nil,h⟩
theorem Hy(ha:PE X e te)(hr:PA X es t)(hs:Bs (e::es) X.env=(false,eval e X.env)::Bs es X.env:=by rfl):PA X (e::es) (U1 te t):=by
 intro pos pins s σ H Q I h
 rw[hs]
 show wpAny _ _ (spliced ((false,eval e X.env)::Ic pos (Bs es X.env))) _ _ s
 refine Calls.spliced_cons (Hf (ha pins s σ H _ I h) λu s1 q0_ => ?_)
 obtain ⟨x,H1,I1,r1,q1⟩ := q0_
 exact Hf (hr pos pins s1 σ H1 _ I1 q1) λus s2 ⟨xs,H2,I2,r2,q2⟩=>⟨x::xs,H2,I2,.cons r1 r2,q2⟩
def AK(t:TA):TE:=λσ H Q=>t σ H λxs H1=>xs.length<=Ax/\∀p,H1 p=none->Q (.ref p) (upd H1 p (.tup xs))
def AC(t:TA):TE:=λσ H Q=>t σ H λxs H1=>xs.length<=Ax/\∀p,H1 p=none->Q (.ref p) (upd H1 p (.lst xs))
theorem C8{x1}(h:PA X es t):PE X (.Tuple es x1 pos) (AK t):=by
 intro pins s σ H Q I hq
 refine wpAny_Tuple_spliced (Hf (h pos pins s σ H _ I hq) λus s1 ⟨xs,H1,I1,r,z,q⟩=>⟨by rw[<- r.length]; exact z,?_⟩)
 have hf:H1 s1.heap.objs.size=none:=I1.hok.fresh (Ah _)
 refine ⟨.ref s1.heap.objs.size,upd H1 s1.heap.objs.size (.tup xs),I1.laid (t':=s1.toks) (λb u e=>Am _ e) (Ah _) ?_,rfl,q _ hf⟩
 exact ⟨z,us,r,⟨_,Br _ rfl,rfl,_,rfl⟩⟩
theorem jR(h:PA X es t):PE X (.List es pos) (AC t):=by
 intro pins s σ H Q I hq
 refine wpAny_List_spliced (Hf (h pos pins s σ H _ I hq) λus s1 ⟨xs,H1,I1,r,z,q⟩=>⟨by rw[<- r.length]; exact z,?_⟩)
 have hf:H1 s1.heap.objs.size=none:=I1.hok.fresh (Ah _)
 refine ⟨.ref s1.heap.objs.size,upd H1 s1.heap.objs.size (.lst xs),I1.laid (t':=s1.toks) (λb u e=>Am _ e) (Ah _) ?_,rfl,q _ hf⟩
 exact ⟨z,us,0,r,Br _ rfl⟩
end
abbrev Sp:=List V->Hp->VK->XK->Prop
abbrev pV:=List Env->Hp->Ag->XK->Value->Ag->Prop
structure Env0(P:Be)(w:World)(K:PySem.W.Frag)(mg:Str->Option Value)(base:Heap)(A:Co)(outer:List Env)(s:Ag)(H:Hp):Prop where
 frames:A.frames=some outer
 mod:Mod K mg base
 bs:∀b o,base.get? b=some o->s.heap.get? b=some o/\H b=none
 bsz:base.objs.size<=s.heap.objs.size
 funs:s.heap.FunFrames base outer
 frf:∀b∈pF outer,H b=none
 hok:Sz P w H s.heap
 bare:Qf s.gens
 tab:uG K mg base H
def CE(outer:List Env)(P:Be)(w:World)(H:Hp)(s:Ag)(Q:VK)(u:Value)(s':Ag):Prop :=
 ∃v H',s'.os=s.os/\Qf s'.gens/\Un (pF outer) [] H H' s.heap s'.heap/\Sz P w H' s'.heap/\RelV v u/\Q v H'
def CR(CX:pV)(outer:List Env)(P:Be)(w:World)(H:Hp)(s:Ag)(Q:VK)(E:XK)(r:Result)(s':Ag):Prop :=
 match r with
 | .ok (.ret u)=>CE outer P w H s Q u s'
 | .ok _=>False
 | .error e=>CX outer H s E e s'
structure FnOk(P:Be)(w:World)(K:PySem.W.Frag)(mg:Str->Option Value)(base:Heap)(CX:pV)(k:Nat)(f:Addr)(fd:Cv)(ps:List Str)(sp:Sp):Prop where
 len:∀vs H Q E,sp vs H Q E->vs.length=ps.length
 run:∀(A:Co) (outer:List Env) (s:Ag) (H:Hp) (args:Args) (us:List Value) (vs:List V) (Q:VK) (E:XK),Room k A->Env0 P w K mg base A outer s H->BindsTo s fd args (ps.zip us)->Fg vs us->sp vs H Q E ->
  Mv (model P w) A (.call (.ref f) args) (CR CX outer P w H s Q E) s
theorem FnOk.imp{P:Be}{w:World}{K:PySem.W.Frag}{mg:Str->Option Value}{base:Heap}{CX:pV}{k:Nat}{f:Addr}{fd:Cv}{ps:List Str}{sp sp':Sp}(F:FnOk P w K mg base CX k f fd ps sp)(h:∀vs H Q E,sp' vs H Q E->sp vs H Q E):FnOk P w K mg base CX k f fd ps sp' :=
 ⟨λvs H Q E q=>F.len vs H Q E (h _ _ _ _ q),λA outer s H args us vs Q E hr he hb hv hs=>F.run A outer s H args us vs Q E hr he hb hv (h _ _ _ _ hs)⟩
section
variable{X:Cx}{pins:List (Addr×Obj)}{σ:St}{H:Hp}{s s':Ag}
theorem Inv.env0(I:Inv X pins σ H s):Env0 X.prog X.w X.K X.mg X.base X.A X.stack s H :=
 ⟨I.ok.frames,I.ok.mod,I.bs,Cg I.ok.bsz I.sz,I.stack,I.stkFree,I.hok,I.bare,I.ok.tab.un I.base⟩
theorem Inv.after{Q:VK}{u:Value}(I:Inv X pins σ H s)(h:CE X.stack X.prog X.w H s Q u s'):EP X pins σ Q u s':=by
 obtain ⟨v,H',os,bare,un,hok,r,q⟩:=h
 obtain ⟨hh,g,d,t,os'⟩:=s'
 obtain rfl:os'=s.os:=os
 exact ⟨v,H',I.call (h':=hh) (g':=g) (d':=d) (t':=t) (ch:=[]) un hok bare (λb z=>absurd z (by simp)),r,q⟩
end
def r6(sp:Sp)(dvs:List V)(E:XK)(t:TA):TE:=λσ H Q=>t σ H λvs H1=>sp (vs++dvs) H1 Q E
def Binds(K:PySem.W.Frag)(fd:Cv)(ps:List Str)(ds:List Value):Prop :=
 ∀(s:Ag) (us:List Value),K.In s.heap->(us++ds).length=ps.length->BindsTo s fd ⟨us,[]⟩ (ps.zip (us++ds))
theorem Binds.all{K:PySem.W.Frag}{fd:Cv}{ps:List Str}(h:∀us:List Value,us.length=ps.length->bindArgs fd ⟨us,[]⟩=pure (ps.zip us)):Binds K fd ps []:=λs us _ hl=>by
 rw[Dz] at hl ⊢
 exact .of_eq (h us hl)
def Og(CX:pV)(X:Cx)(E:XK):Prop:=∀(pins:List (Addr×Obj)) (σ:St) (H:Hp) (s:Ag) (e:Value) (s':Ag),Inv X pins σ H s->CX X.stack H s E e s'->X.xe e s'
section
variable{X:Cx}{CX:pV}{k:Nat}{f C:Addr}{fd:Cv}{ps:List Str}{sp:Sp}{dvs:List V}{ds:List Value}{E:XK}{x m:Str}{p pos apos:Pos}{e o:Expr}{es:List Expr}{ta:TE}{t:TA}
theorem uA{pins:List (Addr×Obj)}{σ:St}{H:Hp}{s:Ag}{Q:VK}{us:List Value}{vs:List V}(F:FnOk X.prog X.w X.K X.mg X.base CX k f fd ps sp)(hr:Room k X.A)(hb:Binds X.K fd ps ds)(hd:Fg dvs ds)(hx:Og CX X E)(I:Inv X pins σ H s)(r:Fg vs us)(h:sp (vs++dvs) H Q E):wpAny (model X.prog X.w) X.A (call (.ref f) us) (EP X pins σ Q) X.xe s:=by
 have r2:Fg (vs++dvs) (us++ds):=r.append hd
 have hl:(us++ds).length=ps.length:=by rw[<- r2.length]; exact F.len _ _ _ _ h
 refine wpAny_call (Oe (F.run X.A X.stack s H ⟨us,[]⟩ (us++ds) (vs++dvs) Q E hr I.env0 (hb s us I.kIn hl) r2 h) λr s' hq=>?_)
 cases r with
 | error e=>exact hx pins σ H s e s' I hq
 | ok fl =>
  cases fl with
  | ret u=>exact I.after hq
  | next=>exact Jf hq
  | brk=>exact Jf hq
  | cont=>exact Jf hq
theorem Wo(F:FnOk X.prog X.w X.K X.mg X.base CX k f fd ps sp)(hr:Room k X.A)(hg:Gl X x)(hm:X.mg x=some (.ref f))(hk:PySem.W.keepIn X.K (.ref f)=true)(hb:Binds X.K fd ps ds)(hd:Fg dvs ds)(hx:Og CX X E)(ha:PA X (e::es) t)(hdb:(x == ("__debug__" : Str))=false:=by decide)(he:Bs (e::es) X.env=(false,eval e X.env)::Bs es X.env:=by rfl)(hpl:(Ic pos (Bs es X.env)).any (·.1)=false:=by rfl):PE X (.Call (.Name x p) (e::es) [] pos) (r6 sp dvs E t):=by
 intro pins s σ H Q I h
 refine Pf (lS I hg hm ?_ hdb)
 refine PySem.W.callWith_K (h₀:=X.base) I.ok.mod.kin hk (Hf (ha pos pins s σ H _ I h) λus s1 ⟨vs,H1,I1,r,q⟩=>⟨I1.kIn,?_⟩) he hpl
 exact uA F hr hb hd hx I1 r q
theorem uY(F:FnOk X.prog X.w X.K X.mg X.base CX k f fd ps sp)(hr:Room k X.A)(hg:Gl X x)(hm:X.mg x=some (.ref f))(hk:PySem.W.keepIn X.K (.ref f)=true)(hb:Binds X.K fd ps ds)(hd:Fg dvs ds)(hx:Og CX X E)(hdb:(x == ("__debug__" : Str))=false:=by decide):PE X (.Call (.Name x p) [] [] pos) (r6 sp dvs E P3):=by
 intro pins s σ H Q I h
 refine Pf (lS I hg hm ?_ hdb)
 exact PySem.W.callWith_K0 I.kIn hk (uA (us:=[]) F hr hb hd hx I .nil h)
end
structure FnScope(N P:List Str)(sc:Scope):Prop where
 kind:sc.kind=.function
 co:sc.isCoroutine=false
 gen:sc.isGenerator=false
 nd:N.Nodup
 pre:N.take P.length=P
 par:∀x∈P,sc.names.lookup x=some .local\/sc.names.lookup x=some .cell
 nofree:∀y∈sc.names,y.2≠.free
theorem aG{kindOf:Str->Option Nj}{x:Str}:∀{binds:List (Str×Value)} {m:Str->Option Value},(∀v,(x,v)∉binds)->bindL kindOf binds m x=m x
 | [],_,_=>rfl
 | (n,v)::r,m,h=>by
  unfold bindL
  rw[aG λw hw=>h w (Af _ hw)]
  split
  ·have : x≠n:=by rintro rfl; exact h v Aa
   simp [this]
  ·rfl
theorem bC{kindOf:Str->Option Nj}{x:Str}:∀{binds:List (Str×Value)} {m:Str->Option Value},(∀v,(x,v)∉binds)->bindC kindOf binds m x=m x
 | [],_,_=>rfl
 | (n,v)::r,m,h=>by
  unfold bindC
  rw[bC λw hw=>h w (Af _ hw)]
  split
  ·rfl
  ·have : x≠n:=by rintro rfl; exact h v Aa
   simp [this]
theorem aW{kindOf:Str->Option Nj}{x:Str}{v:Value}:∀{P:List Str} {vs:List Value} {i:Nat} {m:Str->Option Value},P.Nodup->P[i]? = some x->vs[i]? = some v->kindOf x=some .local->bindL kindOf (P.zip vs) m x=some v
 | [],_,_,_,_,h,_,_=>by simp at h
 | _::_,[],_,_,_,_,h,_=>by simp at h
 | p::P,w::vs,0,m,nd,h1,h2,hk=>by
  simp at h1 h2; subst h1; subst h2
  show bindL kindOf ((p,w)::P.zip vs) m p=_
  unfold bindL
  rw[aG λv hv=>(Ci.mp nd).1 (List.of_mem_zip hv).1,if_pos hk]
  simp
 | p::P,w::vs,i+1,m,nd,h1,h2,hk=>by
  show bindL kindOf ((p,w)::P.zip vs) m x=_
  unfold bindL
  exact aW (i:=i) (Ci.mp nd).2 (by simpa using h1) (by simpa using h2) hk
theorem aT{kindOf:Str->Option Nj}{x:Str}{v:Value}:∀{P:List Str} {vs:List Value} {i:Nat} {m:Str->Option Value},P.Nodup->P[i]? = some x->vs[i]? = some v->kindOf x≠some .local->bindC kindOf (P.zip vs) m x=some v
 | [],_,_,_,_,h,_,_=>by simp at h
 | _::_,[],_,_,_,_,h,_=>by simp at h
 | p::P,w::vs,0,m,nd,h1,h2,hk=>by
  simp at h1 h2; subst h1; subst h2
  show bindC kindOf ((p,w)::P.zip vs) m p=_
  unfold bindC
  rw[bC λv hv=>(Ci.mp nd).1 (List.of_mem_zip hv).1,if_neg hk]
  simp
 | p::P,w::vs,i+1,m,nd,h1,h2,hk=>by
  show bindC kindOf ((p,w)::P.zip vs) m x=_
  unfold bindC
  exact aT (i:=i) (Ci.mp nd).2 (by simpa using h1) (by simpa using h2) hk
def start(N:List Str)(vs:List V):St:=vs.map some++Hm (N.length - vs.length) none
def Nz(CX:pV)(P:Be)(w:World)(K:PySem.W.Frag)(mg:Str->Option Value)(base:Heap)(N:List Str)(qual:Str)(scope:Scope)(f:Addr)(cd:Value)(A:Co)(outer:List Env)(s:Ag)(H:Hp)(E:XK):Cx where
 prog:=P
 w:=w
 K:=K
 mg:=mg
 base:=base
 A:=A.deeper (Pg qual scope s.heap.objs.size f cd)
 N:=N
 s₀:=s
 H₀:=H
 env:=Pg qual scope s.heap.objs.size f cd
 outer:=outer
 stack:=Pg qual scope s.heap.objs.size f cd::outer
 ex:=[]
 calm:=true
 fn:=λ_=>true
 pn:=[]
 xe:=λe s'=>wpAny (model P w) (A.deeper (Pg qual scope s.heap.objs.size f cd)) (leaving (Pg qual scope s.heap.objs.size f cd) e) (λ_ s''=>CX outer H s E e s'') (λe' s''=>CX outer H s E e' s'') s'
theorem gK{sc:Scope}{n:Nat}{x:Str}(h:sc.names.lookup x=some .cell):∃c,(Ek n sc.names []).lookup x=some c:=by
 have q:=PySem.W.cellsFrom_some sc.names n [] (.inl h)
 exact Oc.mp q
theorem oR{CX:pV}{P:Be}{w:World}{K:PySem.W.Frag}{mg:Str->Option Value}{base:Heap}{N ps:List Str}{qual:Str}{scope:Scope}{f:Addr}{cd:Value}{A:Co}{outer:List Env}{s s1:Ag}{H:Hp}{E:XK}{us:List Value}{vs:List V}(S:FnScope N ps scope)(hd:A.handled=none)(e0:Env0 P w K mg base A outer s H)(hl:vs.length=ps.length)(r:Fg vs us)(x:InCallC s s.heap.objs.size (bindL (Pg qual scope s.heap.objs.size f cd).kindOf (ps.zip us) λ_=>none) (Ek (s.heap.objs.size+1) scope.names []) (bindC (Pg qual scope s.heap.objs.size f cd).kindOf (ps.zip us) λ_=>none) s1):Inv (Nz CX P w K mg base N qual scope f cd A outer s H E) [] (start N vs) H s1:=by
 have hpl:ps.length<=N.length:=by have:=congrArg Fq S.pre; rw[Da] at this; omega
 obtain ⟨h1,tk,rfl,hk⟩:=x.done
 have noA:∀b:Addr,b∉(Nz CX P w K mg base N qual scope f cd A outer s H E).ex:=λb z=>absurd (show b∈([]:List Addr) from z) (by simp)
 refine ⟨⟨e0.mod,S.kind,rfl,rfl,Ah _,λy z c h1 h2=>?_,λy hy=>?_,λy c _ h=>?_,λ_=>hd,Around.frames_deeper e0.frames,.inr ⟨rfl,rfl⟩,λb z=>absurd z (noA b),e0.bs,e0.bsz,λb _ _=>noA b,λb z=>absurd z (noA b),e0.funs,e0.frf,e0.tab⟩,
  rfl,e0.bare,Un.kept hk,⟨_,x.toInCall.ns,λi y v h1 h2 h3=>?_⟩,λy c h=>⟨_,x.cell y c h⟩,e0.hok.fresh (Ah _),λy c h=>?_,λp hp=>absurd (show p∈([]:List (Addr×Obj)) from hp) (by simp),e0.hok.kept hk,?_⟩
 ·exact name_of_addr x.apart (PySem.mem_of_lookup h1) (PySem.mem_of_lookup h2)
 ·have hy:scope.names.lookup y=some .cell\/scope.names.lookup y=some .free:=hy
  rcases hy with hy | hy
  ·exact gK hy
  ·exact absurd rfl (S.nofree _ (PySem.mem_of_lookup hy))
 ·exact Ld (x.above y c (PySem.mem_of_lookup h))
 ·have hi:i<vs.length:=by
   unfold start at h2
   by_cases hi:i<vs.length
   ·exact hi
   ·rw[Fd (by simpa using hi)] at h2
    rw[List.getElem?_replicate] at h2
    split at h2 <;> cases h2
  have ha:vs[i]? = some v:=by
   unfold start at h2
   rw[Gq (by simpa using hi),Bt] at h2
   cases e:vs[i]? with
   | none=>rw[e] at h2; cases h2
   | some a=>rw[e] at h2; cases h2; rfl
  obtain ⟨u,hu,rv⟩:=r.get ha
  have hp:ps[i]? = some y:=by
   rw[<- S.pre,Fl (by omega)]; exact h1
  have ndP:ps.Nodup:=by rw[<- S.pre]; exact S.nd.sublist (Gw _ _)
  refine ⟨u,rv,?_⟩
  rcases S.par y (Bc hp) with k | k
  ·exact .inl ⟨k,aW ndP hp hu k⟩
  ·obtain ⟨c,e⟩:=gK (n:=s.heap.objs.size+1) k
   refine .inr ⟨.inl k,c,e,?_⟩
   have q:=x.cell y c e
   rw[aT ndP hp hu (by show scope.names.lookup y≠_; rw[k]; decide)] at q
   exact q
 ·exact e0.hok.fresh (Ld (x.above y c (PySem.mem_of_lookup h)))
 ·unfold start
  show _=N.length
  rw[Bn,Ad,List.length_replicate]
  omega
theorem Q5{CX:pV}{P:Be}{w:World}{K:PySem.W.Frag}{mg:Str->Option Value}{base:Heap}{k:Nat}{f:Addr}{name qual:Str}{params:Arguments}{body:List Stmt}{scope:Scope}{dV kV doc pm cdv ct oc:Value}{an od:Option Addr}{osl:Array (Option Value)}{N ps:List Str}{sp:Sp}(lk:K.lookup f=some ⟨oc,od,.func (PySem.W.fnOf name qual params body scope dV kV doc pm an cdv ct),osl⟩)(hcd:PySem.W.codeIn K cdv qual=true)(S:FnScope N ps scope)(len:∀vs H Q E,sp vs H Q E->vs.length=ps.length)(hbody:∀(A:Co) (outer:List Env) (s:Ag) (H:Hp) (vs:List V) (Q:VK) (E:XK),Room k (A.deeper (Pg qual scope s.heap.objs.size f cdv))->sp vs H Q E->∃t,jF (Nz CX P w K mg base N qual scope f cdv A outer s H E) body t/\t { nx:=λ_ H'=>Q .non H',rt:=Q } (start N vs) H):FnOk P w K mg base CX (k+1) f (PySem.W.fnOf name qual params body scope dV kV doc pm an cdv ct) ps sp:=by
 refine ⟨len,λA outer s H args us vs Q E hr e0 hb r hsp=>?_⟩
 have hl:=len _ _ _ _ hsp
 have KX:K.In s.heap:=e0.mod.kin.keeps λb o e=>(e0.bs b o e).1
 have lim:s.heap.NoLimit:=e0.mod.nolimit.keeps λb o e=>(e0.bs b o e).1
 have hkind:∀y∈ps.zip us,scope.names.lookup y.1=some .local\/(scope.names.lookup y.1=some .cell/\((Ek (s.heap.objs.size+1) scope.names []).lookup y.1).isSome=true):=λ⟨n,v⟩ hy=>by
  rcases S.par n (List.of_mem_zip hy).1 with q | q
  ·exact .inl q
  ·exact .inr ⟨q,PySem.W.cellsFrom_some _ _ _ (.inl q)⟩
 refine codeAny_call_function hr.depth (KX _ _ lk) rfl S.co S.gen rfl (PySem.W.codeRec_of KX hcd) (hb _ _ _ _ ?_)
 refine wpAny_newFunctionEnv_cells S.kind hkind λenv he s1 x=>?_
 subst he
 refine ⟨lim.keeps x.toInCall.keep,codeAny_func ?_⟩
 obtain ⟨t,ht,hq⟩:=hbody A outer s H vs Q E (hr.deeper _) hsp
 have I:Inv (Nz CX P w K mg base N qual scope f cdv A outer s H E) [] (start N vs) H s1:=oR S hr.hd e0 hl r x
 refine Fs (ht [] s1 (start N vs) H _ I hq) (λfl s' hs=>?_) λe s' hs=>hs
 have fin:∀{σ':St} {H':Hp} {v:V} {u:Value},Inv (Nz CX P w K mg base N qual scope f cdv A outer s H E) [] σ' H' s'->RelV v u->Q v H'->CE outer P w H s Q u s' :=
  λ{σ' H' v u} J rv q=>⟨v,H',J.os,J.bare,J.base,J.hok,rv,q⟩
 cases fl with
 | ret u =>
  obtain ⟨v,σ',H',J,rv,q⟩:=hs
  exact fin J rv q
 | next =>
  obtain ⟨σ',H',J,q⟩:=hs
  exact fin (v:=V.non) (u:=Pl) J rfl q
 | brk =>
  obtain ⟨_,_,_,q⟩:=hs
  exact Jf q
 | cont =>
  obtain ⟨_,_,_,q⟩:=hs
  exact Jf q
section
variable{X:Cx}{x:Str}{p pos:Pos}{e:Expr}{es:List Expr}{t:TA}{id T:String}{r:List V->Hp->VK->Prop}
def AZ(r:List V->Hp->VK->Prop)(t:TA):TE:=λσ H Q=>t σ H λvs H1=>r vs H1 Q
theorem Yl(hc:Kf X (.builtin id) r)(hg:Gl X x)(hm:X.mg x=none)(hv:Iw x=some (.builtin id))(ha:PA X (e::es) t)(hn:x ≠ "__name__" := by decide)(hdb:(x == ("__debug__" : Str))=false:=by decide)(he:Bs (e::es) X.env=(false,eval e X.env)::Bs es X.env:=by rfl)(hpl:(Ic pos (Bs es X.env)).any (·.1)=false:=by rfl):PE X (.Call (.Name x p) (e::es) [] pos) (AZ r t):=by
 intro pins s σ H Q I h
 refine Pf (Yi I hg hm hv ?_ hn hdb)
 exact PyProof.Rows.callWith_builtin1 (Hf (ha pos pins s σ H _ I h) λus s1 ⟨vs,H1,I1,r1,q1⟩=>hc pins s1 σ H1 vs us Q I1 r1 q1) he hpl
theorem Ny(hc:Kf X (.type T) r)(hg:Gl X x)(hm:X.mg x=none)(hv:Iw x=some (.type T))(ha:PA X (e::es) t)(hn:x ≠ "__name__" := by decide)(hdb:(x == ("__debug__" : Str))=false:=by decide)(he:Bs (e::es) X.env=(false,eval e X.env)::Bs es X.env:=by rfl)(hpl:(Ic pos (Bs es X.env)).any (·.1)=false:=by rfl):PE X (.Call (.Name x p) (e::es) [] pos) (AZ r t):=by
 intro pins s σ H Q I h
 refine Pf (Yi I hg hm hv ?_ hn hdb)
 exact Lh (Hf (ha pos pins s σ H _ I h) λus s1 ⟨vs,H1,I1,r1,q1⟩=>hc pins s1 σ H1 vs us Q I1 r1 q1) he hpl
end
end L2
namespace HT
open PySem PyProof.Rows
def lexLt:List Int->List Int->Bool
 | [],[]=>false
 | [],_::_=>true
 | _::_,[]=>false
 | x::xs,y::ys=>if x=y then lexLt xs ys else decide (x<y)
theorem lexLt_cons(x y:Int)(xs ys:List Int):lexLt (x::xs) (y::ys)=if x=y then lexLt xs ys else decide (x<y):=rfl
theorem lexLt_nil_nil:lexLt [] []=false:=rfl
theorem lexLt_nil_cons(y:Int)(ys:List Int):lexLt [] (y::ys)=true:=rfl
theorem lexLt_cons_nil(x:Int)(xs:List Int):lexLt (x::xs) []=false:=rfl
theorem uB(A:Co)(s:Ag)(a:Int)(t:Tok)(c:Int)(u:Tok):∃e,Lj A s (.int a t) (.int c u) e/\(e=true↔a=c) :=
 ⟨(a == c),SeqAt.EqAt.int_int a t c u,by simp⟩
theorem sX(A:Co)(s:Ag)(a:Int)(t:Tok)(c:Int)(u:Tok)(prog:Be)(w:World)(E:Value->Ag->Prop)(Q:Value->Ag->Prop)(h:Q (.bool (decide (a<c))) s):wpAny (model prog w) A (richCompare .Lt (.int a t) (.int c u)) Q E s :=
 (PyProof.Rows.lt_int h:wpAny (model prog w) A (Fj .Lt (.int a t) (.int c u)) Q E s)
section
open PySem.SeqAt
open PySem.AutoSeq1 (wpAny_loadPart')
open PySem.MeetsSeq PySem.MeetsSeq2 PySem.MeetsSeq3
theorem tuple_lt_ints(l b:Addr)(items items2:Array Value)(n n2:Nat)(dd dd2:Option Addr)(sl sl2:Array (Option Value))(ns ms:List Int)(hi:Fm items.toList ns)(hj:Fm items2.toList ms):Meets (Builtin.«tuple.__lt__» ⟨[.ref l,.ref b],[]⟩) (λ_ R s=>s.heap.get? l=some { cls:=.type "tuple",dict:=dd,data:=.seq items n,slots:=sl }/\s.heap.get? b=some { cls:=.type "tuple",dict:=dd2,data:=.seq items2 n2,slots:=sl2 }/\R (.ok (.ret (.bool (lexLt ns ms)))) s) :=
 .of_wp λprog w A R s h=>by
  obtain ⟨hp,g,d,tk,os⟩:=s; obtain ⟨hl,hb,h⟩:=h
  have f2:=AutoSeq1.sub_tuple_tuple
  have z1:items.size=ns.length:=by rw[<- hi.length]; simp
  have z2:items2.size=ms.length:=by rw[<- hj.length]; simp
  wp_walk using Ua hl,Ua hb,Rl _ (λEo b s'=>b.1=none/\s'=⟨hp,g,d,tk,os⟩/\∃(vs ws:List Value) (ns' ms':List Int),Eo=vs.zip ws /\
   Fm vs ns'/\Fm ws ms'/\ns'.length+items2.size=ms'.length+items.size/\R (.ok (.ret (.bool (lexLt ns' ms')))) ⟨hp,g,d,tk,os⟩) _
  case turn =>
   (rintro ⟨y,x⟩ Eo b s' q_; obtain ⟨hb',rfl,vs,ws,ns',ms',hz,hvi,hwi,hlen,hR⟩ := q_)
   cases hvi with
   | nil=>rw[List.zip_nil_left] at hz; cases hz
   | cons a t hvi' =>
    cases hwi with
    | nil=>rw[List.zip_nil_right] at hz; cases hz
    | cons c u hwi' =>
     rw[Np] at hz
     injection hz with hyx hrest
     injection hyx with hy hx
     subst hy hx
     rw[lexLt_cons] at hR
     simp only[Ba] at hlen
     obtain ⟨e,he,hiff⟩:=uB A.in1 ⟨hp,g,d,tk,os⟩ a t c u
     refine Ab (he prog w _ _ ?_)
     cases e with
     | true =>
      rw[if_pos (hiff.mp rfl)] at hR
      wp_walk
      exact ⟨rfl,rfl,_,_,_,_,hrest,hvi',hwi',by omega,hR⟩
     | false =>
      rw[if_neg (λq=>absurd (hiff.mpr q) Cm)] at hR
      have hri:=sX A.in1 ⟨hp,g,d,tk,os⟩ a t c u prog w
      wp_walk using hri
      exact ⟨_,rfl,by simpa using hR⟩
  case fin =>
   (rintro ⟨b1,b2⟩ s' q_; obtain ⟨hb',rfl,vs,ws,ns',ms',hz,hvi,hwi,hlen,hR⟩ := q_)
   simp only at hb'
   subst hb'
   have hv:lexLt ns' ms'=decide (items.size<items2.size):=by
    cases hvi with
    | nil =>
     cases hwi with
     | nil =>
      simp only[Ig] at hlen
      rw[lexLt_nil_nil]
      exact (decide_eq_false (by omega)).symm
     | cons c u hw =>
      simp only[Ig,Ba] at hlen
      rw[lexLt_nil_cons]
      exact (decide_eq_true (by omega)).symm
    | cons a t hv =>
     cases hwi with
     | nil =>
      simp only[Ig,Ba] at hlen
      rw[lexLt_cons_nil]
      exact (decide_eq_false (by omega)).symm
     | cons c u hw =>
      rw[Np] at hz
      cases hz
   rw[hv] at hR
   wp_walk
   exact ⟨_,rfl,by simpa [Builtin.Tuple.tupleCompareSizes] using hR⟩
  case h =>
   exact ⟨rfl,rfl,items.toList,items2.toList,ns,ms,rfl,hi,hj,by omega,h⟩
end
section
variable{prog:Be}{w:World}{A:Co}{E:Value->Ag->Prop}{s:Ag}
theorem lt_tupInts{l b:Addr}{items items2:Array Value}{ns ms:List Int}{Q:Value->Ag->Prop}(hl:IsTup s.heap l items)(hb:IsTup s.heap b items2)(hi:Fm items.toList ns)(hj:Fm items2.toList ms)(hu:A.units<cLine)(h:Q (.bool (lexLt ns ms)) s):wpAny (model prog w) A (Fj .Lt (.ref l) (.ref b)) Q E s:=by
 obtain ⟨⟨cls,dd,data,sl⟩,ho,hc,n,hd⟩:=id hl
 obtain ⟨⟨cls2,dd2,data2,sl2⟩,ho2,hc2,n2,hd2⟩:=id hb
 simp only at hc hd hc2 hd2
 subst hc hd hc2 hd2
 exact richCompare_meets_room (op:=.Lt) ⟨_,ho,rfl⟩ ⟨_,ho2,rfl⟩ PySem.F.slot_tuple_lt PySem.F.entry_tuple_lt (PySem.F.args_tuple_lt_2 _ _) (tuple_lt_ints l b items items2 n n2 dd dd2 sl sl2 ns ms hi hj)
  ⟨ho,ho2,show Value.bool (lexLt ns ms)≠Value.notImplemented/\Q (.bool (lexLt ns ms)) s from ⟨(λx=>nomatch x),h⟩⟩ hu
theorem cat_tup{t b:Addr}{vs ws:List Value}{Q:Value->Ag->Prop}(ht:IsTup s.heap t vs.toArray)(hb:IsTup s.heap b ws.toArray)(hv:vs≠[])(h1:ws=[]->Q (.ref t) s)(h2:ws≠[]->Q (.ref s.heap.objs.size) { s with heap:=s.heap.push { cls:=.type "tuple",data:=.seq (vs++ws).toArray } })(hsz:vs.length+ws.length<=Ax):wpAny (model prog w) A (Jv .Add (.ref t) (.ref b)) Q E s:=by
 obtain ⟨⟨cls,dd,data,sl⟩,ho,hc,n,hd⟩:=id ht
 obtain ⟨⟨cls2,dd2,data2,sl2⟩,ho2,hc2,n2,hd2⟩:=id hb
 simp only at hc hd hc2 hd2
 subst hc hd hc2 hd2
 have e:vs.toArray++ws.toArray=(vs++ws).toArray:=by simp
 by_cases hw:ws=[]
 ·exact concat_meets ⟨_,ho,rfl⟩ ⟨_,ho2,rfl⟩ eG seq_tuple_add PySem.F.slot_tuple_add PySem.F.entry_tuple_add (PySem.F.args_tuple_add_2 _ _)
   (tuple_addW1 t b vs.toArray ws.toArray n n2 dd dd2 sl sl2 (by simpa using hv) (by simp [hw])) ⟨ho,ho2,h1 hw⟩
 ·refine concat_meets ⟨_,ho,rfl⟩ ⟨_,ho2,rfl⟩ eG seq_tuple_add PySem.F.slot_tuple_add PySem.F.entry_tuple_add (PySem.F.args_tuple_add_2 _ _)
   (tuple_addW2 t b vs.toArray ws.toArray n n2 dd dd2 sl sl2 (by simpa using hv) (by simpa using hw) (by rw[Ar,Ar]; exact hsz)) ⟨ho,ho2,?_⟩
  rw[e]
  exact h2 hw
def sIx(n d:Nat):Option Int->Nat
 | none=>d
 | some v=>if v<0 then (v+(n:Int)).toNat else min v.toNat n
theorem sIx_none(n d:Nat):sIx n d none=d:=rfl
theorem sIx_nat(n d k:Nat):sIx n d (some (k:Int))=min k n:=by
 show (if (k:Int)<0 then ((k:Int)+(n:Int)).toNat else min (k:Int).toNat n)=min k n
 rw[if_neg (by omega),El]
theorem L4(n d:Nat)(hd:d<=n)(o:Option Int):sIx n d o<=n:=by
 cases o with
 | none=>exact hd
 | some v =>
  show (if v<0 then (v+(n:Int)).toNat else min v.toNat n)<=n
  by_cases hv:v<0
  ·rw[if_pos hv]; omega
  ·rw[if_neg hv]; exact Nat.min_le_right _ _
theorem mC(v:Int)(n d:Nat):(if v<0 then max (v+(n:Int)) 0 else min v (n:Int))=((sIx n d (some v):Nat):Int):=by
 show (if v<0 then max (v+(n:Int)) 0 else min v (n:Int))=(((if v<0 then (v+(n:Int)).toNat else min v.toNat n):Nat):Int)
 by_cases hv:v<0
 ·simp only[if_pos hv]; omega
 ·simp only[if_neg hv]; omega
theorem iW(lo hi:Option Int)(n:Nat):Lv lo hi 1 (n:Int)=(((sIx n 0 lo:Nat):Int),((sIx n n hi:Nat):Int)):=by
 have h1:¬ ((1:Int)<0):=by omega
 unfold Lv
 simp only[h1,if_false]
 refine Prod.ext ?_ ?_
 ·cases lo with
  | none=>rfl
  | some v=>exact mC v n 0
 ·cases hi with
  | none=>rfl
  | some v=>exact mC v n n
theorem kN(i j:Nat):Ii (i:Int) (j:Int) 1=j - i:=by
 unfold Ii
 have h1:(1:Int) > 0:=by omega
 simp only[h1,if_true,Int.ediv_one]
 split <;> omega
theorem Yb{v:Value}{o:Option Int}{Q:Option Int->Ag->Prop}(p:Wa v o)(h:Q o s):wpAny (model prog w) A (Builtin.Slice.slicePartIndex v) Q E s:=by
 cases p with
 | none=>exact slicePart_none h
 | int i t=>exact slicePart_int h
theorem sliceApplied_gen{sl:Addr}{vl vu:Value}{lo hi:Option Int}{n:Nat}{Q:Int×Int×Nat->Ag->Prop}(hs:s.heap.IsSliceOf sl vl vu .none)(pl:Wa vl lo)(pu:Wa vu hi)(h:Q (((sIx n 0 lo:Nat):Int),1,sIx n n hi - sIx n 0 lo) s):wpAny (model prog w) A (Uh (.ref sl) (pure (n:Int))) Q E s:=by
 obtain ⟨os,hos,hcs,hds⟩:=id hs
 unfold Uh Builtin.Slice.sliceFields
 refine Ab (Ab (wpAny_field hos hds (x:=vl) rfl (Ab (wpAny_field hos hds (x:=vu) rfl (Ab (wpAny_field hos hds (x:=.none) rfl (Aj ?_)))))))
 refine Ab (slicePart_none ?_)
 show wpAny _ _ (if ((1:Int) == 0)=true then _ else _) _ _ s
 rw[if_neg (by decide)]
 refine Ab (Yb pl (Ab (Yb pu (Ab (Aj ?_)))))
 show wpAny _ _ (match Lv lo hi 1 (n:Int) with | (lo,hi)=>pure (lo,(1:Int),Ii lo hi 1)) _ _ s
 rw[iW lo hi n]
 show wpAny _ _ (pure (((sIx n 0 lo:Nat):Int),(1:Int),Ii ((sIx n 0 lo:Nat):Int) ((sIx n n hi:Nat):Int) 1)) _ _ s
 rw[kN]
 exact Aj h
theorem tM(xs:Array Value)(i k:Nat):((Bp k).filterMap λ(m:Nat)=>xs[((i:Int)+(m:Int) * 1).toNat]?).toArray=((xs.toList.drop i).take k).toArray:=by
 have e:(λ(m:Nat)=>xs[((i:Int)+(m:Int) * 1).toNat]?)=λm=>xs[i+m]?:=by
  funext m
  have : ((i:Int)+(m:Int) * 1).toNat=i+m:=by omega
  rw[this]
 rw[e]
 have:=pick_run xs i k
 rw[List.filterMap_map] at this
 have e2:((λx=>xs[x]?) ∘ λx=>i+x)=λm=>xs[i+m]?:=rfl
 rw[e2] at this
 rw[this]
theorem getItem_tuple_cut{t sl:Addr}{items:Array Value}{vl vu:Value}{lo hi:Option Int}{Q:Value->Ag->Prop}(ht:IsTup s.heap t items)(hs:s.heap.IsSliceOf sl vl vu .none)(pl:Wa vl lo)(pu:Wa vu hi)(hw:¬ (sIx items.size 0 lo=0/\sIx items.size items.size hi=items.size))(h:Q (.ref s.heap.objs.size) { s with heap:=s.heap.push { cls:=.type "tuple",data:=.seq ((items.toList.drop (sIx items.size 0 lo)).take (sIx items.size items.size hi - sIx items.size 0 lo)).toArray } })(hsz:items.size<=Ax):wpAny (model prog w) A (Qb (.ref t) (.ref sl)) Q E s:=by
 have htake:sizeOk (.seq ((items.toList.drop (sIx items.size 0 lo)).take (sIx items.size items.size hi - sIx items.size 0 lo)).toArray):=by
  show ((items.toList.drop (sIx items.size 0 lo)).take (sIx items.size items.size hi - sIx items.size 0 lo)).toArray.size<=Ax
  rw[Ar,Da,Zk,Ae]
  omega
 have hj:sIx items.size items.size hi<=items.size:=L4 _ _ (Ah _) hi
 obtain ⟨os,hos,hcs,hds⟩:=id hs
 have hTs:s.TypeIs (.ref sl) "slice" := ⟨os,hos,hcs⟩
 unfold Qb
 try with_reducible refine Ej ?_
 first | refine Ab (Aj ?_) | skip
 refine Ab (bQ ht.typeIs (by decide) ?_)
 refine Ab (Ib (name:=Lc "__getitem__") ht.typeIs Ec
  (Gp Ec ht.typeIs entry_tuple_getitem ?_ (args_tuple_getitem _ _)))
 show wpAny _ _ (Ue (.ref t) >>= _) _ _ s
 refine Ab (tupleItemsOf_ ht ?_)
 refine Ab (Kc hTs ?_)
 rw[if_pos (by decide)]
 refine Ab (sliceApplied_gen hs pl pu ?_)
 have hno:¬ ((((sIx items.size 0 lo:Nat):Int) == 0 && (1:Int) == 1 && (sIx items.size items.size hi - sIx items.size 0 lo) == items.size)=true):=by
  intro q
  rw[Gf,Gf] at q
  have q1:((sIx items.size 0 lo:Nat):Int)=0:=Dn q.1.1
  have q2:sIx items.size items.size hi - sIx items.size 0 lo=items.size:=Dn q.2
  exact hw ⟨by omega,by omega⟩
 show wpAny _ _ (if (((sIx items.size 0 lo:Nat):Int) == 0 && (1:Int) == 1 && (sIx items.size items.size hi - sIx items.size 0 lo) == items.size)=true then _ else _) _ _ s
 rw[if_neg hno,tM]
 first
  | exact Ab (m:=Fe _) (Ef (Aj ⟨_,rfl,Aj h⟩) htake)
  | exact Ab (m:=Fe _) (Ef (Ab (Aj (Aj ⟨_,rfl,Aj h⟩))) htake)
  | exact Ab (Ab (m:=Fe _) (Ef (Aj (Aj ⟨_,rfl,Aj h⟩)) htake))
  | exact Ab (Ab (m:=Fe _) (Ef (Aj ⟨_,rfl,Aj h⟩) htake))
end
end HT
namespace L2
open PySem PySem.Spec PyProof.Rows
abbrev TO:=St->Hp->(Option Int->Hp->Prop)->Prop
def PO(X:Cx)(e:Option Expr)(t:TO):Prop :=
 ∀(pins:List (Addr×Obj)) (s:Ag) (σ:St) (H:Hp) (Q:Option Int->Hp->Prop),Inv X pins σ H s->t σ H Q ->
  wpAny (model X.prog X.w) X.A (evalPart e X.env) (λu s'=>∃o H',Inv X pins σ H' s'/\Wa u o/\Q o H') X.xe s
def yV:TO:=λ_ H Q=>Q none H
def S6(t:TE):TO:=λσ H Q=>t σ H λx H1=>∃i,x=.int i/\Q (some i) H1
theorem intsAre_of{ns:List Int}:∀{us:List Value},Fg (ns.map V.int) us->Fm us ns:=by
 induction ns with
 | nil=>intro us r; rw[Mw] at r; cases r; exact .nil
 | cons n ns ih =>
  intro us r
  rw[Aw] at r
  cases r with
  | cons r1 r2 =>
   obtain ⟨t,e⟩:=r1
   subst e
   exact .cons n t (ih r2)
section
variable{X:Cx}{e:Expr}{te:TE}{lo hi:Option Expr}{tl th:TO}{pos p2:Pos}
theorem yR:PO X none yV:=by
 intro pins s σ H Q I h
 rw[evalPart_none]
 exact Aj ⟨none,H,I,.none,h⟩
theorem yD(h:PE X e te):PO X (some e) (S6 te):=by
 intro pins s σ H Q I hw
 rw[evalPart_some]
 refine Hf (h pins s σ H _ I hw) λu s1 q0_ => ?_
 obtain ⟨x,H1,I1,r1,q1⟩ := q0_
 obtain ⟨i,rfl,q⟩:=q1
 obtain ⟨t,rfl⟩:=r1
 exact ⟨some i,H1,I1,.int i t,q⟩
def F3(X:Cx)(r:V->Option Int->Option Int->Hp->VK->Prop):Prop :=
 ∀(pins:List (Addr×Obj)) (s:Ag) (σ:St) (H:Hp) (x:V) (v vl vu:Value) (lo hi:Option Int) (sl:Addr) (Q:VK),Inv X pins σ H s->RelV x v->s.heap.IsSliceOf sl vl vu .none->Wa vl lo->Wa vu hi->r x lo hi H Q ->
  ∃T id,typeLookup (.type T) "__getitem__" = pure (some (.builtin id))/\s.TypeIs v T/\wpAny (model X.prog X.w) X.A (Qb v (.ref sl)) (EP X pins σ Q) X.xe s
theorem F3.or{r r':V->Option Int->Option Int->Hp->VK->Prop}(h:F3 X r)(h':F3 X r'):F3 X (λx lo hi H Q=>r x lo hi H Q\/r' x lo hi H Q):=by
 intro pins s σ H x v vl vu lo hi sl Q I rx hs pl pu q
 rcases q with q | q
 ·exact h pins s σ H x v vl vu lo hi sl Q I rx hs pl pu q
 ·exact h' pins s σ H x v vl vu lo hi sl Q I rx hs pl pu q
def CK(r:V->Option Int->Option Int->Hp->VK->Prop)(te:TE)(tl th:TO):TE:=λσ H Q=>te σ H λx H1=>tl σ H1 λl H2=>th σ H2 λu H3=>r x l u H3 Q
theorem fL{r:V->Option Int->Option Int->Hp->VK->Prop}(hr:F3 X r)(he:PE X e te)(hl:PO X lo tl)(hu:PO X hi th):PE X (.Subscript e (.Slice lo hi none p2) pos) (CK r te tl th):=by
 intro pins s σ H Q I h
 refine Subscript_ (Hf (he pins s σ H _ I h) λv s1 q0_ => ?_)
 obtain ⟨x,H1,I1,r1,q1⟩ := q0_
 refine wpAny_Slice (Hf (hl pins s1 σ H1 _ I1 q1) λvl s2 ⟨l,H2,I2,pl,q2⟩=>Hf (hu pins s2 σ H2 _ I2 q2) λvu s3 q0_ => ?_)
 obtain ⟨u,H3,I3,pu,q3⟩ := q0_
 rw[evalPart_none]
 refine Aj ?_
 have I4:Inv X pins σ H3 { s3 with heap:=s3.heap.push { cls:=.type "slice",data:=.fields #[vl,vu,.none] } }:=I3.kept (t':=s3.toks) λb ob q=>Am _ q
 obtain ⟨T,id,hT,ht,hg⟩:=hr pins { s3 with heap:=s3.heap.push { cls:=.type "slice",data:=.fields #[vl,vu,.none] } } σ H3 x v vl vu l u s3.heap.objs.size Q I4 r1 (Heap.IsSliceOf.new ..) pl pu q3
 show wpAny (model X.prog X.w) X.A (subscriptTail e (.Slice lo hi none p2) v (.ref s3.heap.objs.size)) (EP X pins σ Q) X.xe { s3 with heap:=s3.heap.push { cls:=.type "slice",data:=.fields #[vl,vu,.none] } }
 exact tail_any (ops:=[.ref s3.heap.objs.size,v]) ht hT hg (by with_unfolding_all rfl)
def Yx(xs:List V)(lo hi:Option Int):List V:=(xs.drop (HT.sIx xs.length 0 lo)).take (HT.sIx xs.length xs.length hi - HT.sIx xs.length 0 lo)
theorem Vl(xs:List V)(lo hi:Option Int):(Yx xs lo hi).length<=xs.length:=by
 unfold Yx
 rw[Da,Zk]
 omega
def AG(K:PySem.W.Frag):V->Option Int->Option Int->Hp->VK->Prop:=λx lo hi H Q=>∃a xs,x=.ref a/\Sg K H a xs /\
 ¬ (HT.sIx xs.length 0 lo=0/\HT.sIx xs.length xs.length hi=xs.length)/\∀p,H p=none->Q (.ref p) (upd H p (.tup (Yx xs lo hi)))
theorem C6:F3 X (AG X.K):=by
 intro pins s σ H x v vl vu lo hi sl Q I rx hs pl pu h
 obtain ⟨a,xs,rfl,hx,hw,q⟩:=h
 cases rx
 obtain ⟨its,r,ht,hz⟩:=I.tuple hx
 have hlen:its.toArray.size=xs.length:=by rw[Ar]; exact r.length.symm
 refine ⟨"tuple",_,Ec.lookup,ht.typeIs,?_⟩
 refine HT.getItem_tuple_cut ht hs pl pu (by rw[hlen]; exact hw) ?_ (by rw[hlen]; exact hz)
 rw[hlen]
 refine ⟨.ref s.heap.objs.size,_,I.laid (t':=s.toks) (o:=.tup (Yx xs lo hi)) (λb ob q=>Am _ q) (Ah _) ?_,rfl,q _ (I.hok.fresh (Ah _))⟩
 exact ⟨Cg (Vl xs lo hi) hz,_,(r.drop (HT.sIx xs.length 0 lo)).take (HT.sIx xs.length xs.length hi - HT.sIx xs.length 0 lo),IsTup.new _ _⟩
def W1(K:PySem.W.Frag):R2:=λx y H Q=>∃a b xs ys,x=.ref a/\y=.ref b/\Sg K H a xs/\Sg K H b ys/\xs≠[]/\xs.length+ys.length<=Ax /\
 (ys=[]->Q (.ref a) H)/\(ys≠[]->∀p,H p=none->Q (.ref p) (upd H p (.tup (xs++ys))))
theorem Fg.nil_iff{xs:List V}{us:List Value}(r:Fg xs us):us=[]↔xs=[]:=by
 cases r with
 | nil=>simp
 | cons _ _=>simp
theorem zL:Tu X (Jv .Add) (W1 X.K):=by
 intro pins s σ H x y v u Q I rx ry h
 obtain ⟨a,b,xs,ys,rfl,rfl,ha,hb,hx,hz,q1,q2⟩:=h
 cases rx
 cases ry
 obtain ⟨its,r1,p1,_⟩:=I.tuple ha
 obtain ⟨its2,r2,p2,_⟩:=I.tuple hb
 refine HT.cat_tup p1 p2 (λz=>hx (r1.nil_iff.mp z)) (λz=>⟨.ref a,H,I,rfl,q1 (r2.nil_iff.mp z)⟩) (λz=>?_) (by rw[<- r1.length,<- r2.length]; exact hz)
 refine ⟨.ref s.heap.objs.size,_,I.laid (t':=s.toks) (o:=.tup (xs++ys)) (λb ob q=>Am _ q) (Ah _) ?_,rfl,q2 (λw=>z (r2.nil_iff.mpr w)) _ (I.hok.fresh (Ah _))⟩
 exact ⟨by rw[Bn]; exact hz,_,r1.append r2,IsTup.new _ _⟩
end
def pI(n:Nat)(i:Int):Option Nat:=if 0<=i then (if i<n then some i.toNat else none) else if -(n:Int)<=i then some (i+n).toNat else none
def Rj{α:Type}(xs:List α)(i:Int):Option α:=(pI xs.length i).bind λj=>xs[j]?
theorem mE{n:Nat}{i:Int}{j:Nat}(h:pI n i=some j):seqIndex? i n=some j/\j<n /\ -(n:Int)<=i/\i<n:=by
 unfold pI at h
 by_cases h0:0<=i
 ·rw[if_pos h0] at h
  by_cases h1:i<n
  ·rw[if_pos h1] at h
   have e:i.toNat=j:=Ck h
   exact ⟨by rw[seqIndex_of h0 h1,e],by omega,by omega,h1⟩
  ·rw[if_neg h1] at h; cases h
 ·rw[if_neg h0] at h
  by_cases h1:-(n:Int)<=i
  ·rw[if_pos h1] at h
   have e:(i+n).toNat=j:=Ck h
   exact ⟨by rw[seqIndex_neg (by omega) h1,e],by omega,h1,by omega⟩
  ·rw[if_neg h1] at h; cases h
theorem dM{α:Type}{xs:List α}{i:Int}{v:α}(h:Rj xs i=some v):∃j,seqIndex? i xs.length=some j/\xs[j]? = some v/\j<xs.length /\ -(xs.length:Int)<=i/\i<xs.length:=by
 unfold Rj at h
 cases e:pI xs.length i with
 | none=>rw[e] at h; cases h
 | some j =>
  rw[e] at h
  obtain ⟨h1,h2,h3,h4⟩:=mE e
  exact ⟨j,h1,h,h2,h3,h4⟩
theorem cP{α:Type}{xs:List α}{j:Nat}{v:α}(h:xs[j]? = some v):Rj xs (j:Int)=some v:=by
 have hj:j<xs.length:=(Ak.mp h).1
 have e:pI xs.length (j:Int)=some j:=by
  unfold pI
  rw[if_pos (by omega),if_pos (by omega)]; simp
 unfold Rj; rw[e]; exact h
theorem iM{α:Type}(xs:List α)(v:α):Rj (xs++[v]) (-1)=some v:=by
 have hl:(xs++[v]).length=xs.length+1:=by simp
 have e:pI (xs++[v]).length (-1)=some xs.length:=by
  unfold pI
  rw[hl,if_neg (by decide),if_pos (by omega)]
  congr 1
  omega
 unfold Rj
 rw[e]
 show (xs++[v])[xs.length]? = some v
 simp
def cK(b:Expr):Prop:=∀o i,subscripted b false o i=operate [o,i] (Qb o i)
def yK(X:Cx)(r:R2):Prop :=
 ∀(value slice:Expr) (pins:List (Addr×Obj)) (s:Ag) (σ:St) (H:Hp) (x y:V) (v u:Value) (Q:VK),Inv X pins σ H s->RelV x v->RelV y u->r x y H Q ->
  subscripted slice false v u=operate [v,u] (Qb v u)->wpAny (model X.prog X.w) X.A (subscriptTail value slice v u) (EP X pins σ Q) X.xe s
def CU(X:Cx)(id:String)(r:V->List V->Hp->VK->Prop):Prop :=
 ∀(pins:List (Addr×Obj)) (s:Ag) (σ:St) (H:Hp) (x:V) (xs:List V) (v:Value) (us:List Value) (Q:VK),Inv X pins σ H s->RelV x v->Fg xs us->r x xs H Q ->
  wpAny (model X.prog X.w) X.A (call (.builtin id) (v::us)) (EP X pins σ Q) X.xe s
section
variable{X:Cx}{a b:Expr}{ta tb:TE}{pos:Pos}
theorem yK.or{r r':R2}(h:yK X r)(h':yK X r'):yK X (λx y H Q=>r x y H Q\/r' x y H Q):=by
 intro value slice pins s σ H x y v u Q I rx ry q hs
 rcases q with q | q
 ·exact h value slice pins s σ H x y v u Q I rx ry q hs
 ·exact h' value slice pins s σ H x y v u Q I rx ry q hs
theorem Vp{r:R2}(hr:yK X r)(ha:PE X a ta)(hb:PE X b tb)(hs:cK b):PE X (.Subscript a b pos) (P1 r ta tb):=by
 intro pins s σ H Q I h
 exact Subscript_ (J5 ha hb I h λv u s2 x y H2 I2 rx ry q=>hr a b pins s2 σ H2 x y v u Q I2 rx ry q (hs _ _))
def X8(K:PySem.W.Frag):R2:=λx y H Q=>∃p xs i v,x=.ref p/\y=.int i/\Sn K H p xs/\Rj xs i=some v/\Q v H
def E6(K:PySem.W.Frag):R2:=λx y H Q=>∃p xs i v,x=.ref p/\y=.int i/\Sg K H p xs/\Rj xs i=some v/\Q v H
def U9:R2:=λx y H Q=>∃z i c,x=.str z/\y=.int i/\z.length<=Ax/\Rj z.cps.toList i=some c/\Q (.str ⟨#[c]⟩) H
theorem Qm:yK X (X8 X.K):=by
 intro value slice pins s σ H x y v u Q I rx ry h hs
 obtain ⟨p,xs,i,z,rfl,rfl,hq,he,q⟩:=h
 cases rx
 obtain ⟨t,rfl⟩:=ry
 obtain ⟨its,r,pl,hz⟩:=I.list hq
 obtain ⟨j,h1,h2,h3,h4,h5⟩:=dM he
 obtain ⟨w,ew,rw'⟩:=r.get h2
 have hl:=r.length
 have hn:=Vf
 have fin:EP X pins σ Q w s:=⟨z,H,I,rw',q⟩
 by_cases h0:0<=i
 ·have hj:i.toNat=j:=by
   rw[seqIndex_of h0 h5] at h1
   exact Ck h1
  exact item_listR pl.isList h0 (by omega) (by rw[hj]; simpa using ew) fin hs
 ·have hj:(i+(its.toArray.size:Int)).toNat=j:=by
   rw[seqIndex_neg (by omega) h4] at h1
   rw[Ar,<- hl]
   exact Ck h1
  exact vX (x:=w) pl.isList.typeIs X9.lookup
   (wpAny_getItem_list_neg (Q:=λr s'=>r=w/\EP X pins σ Q r s') pl.isList (by omega) (by rw[Ar] <;> omega) (by omega) (by rw[hj]; simpa using ew) ⟨rfl,fin⟩) hs
theorem w4:yK X (E6 X.K):=by
 intro value slice pins s σ H x y v u Q I rx ry h hs
 obtain ⟨p,xs,i,z,rfl,rfl,hq,he,q⟩:=h
 cases rx
 obtain ⟨t,rfl⟩:=ry
 obtain ⟨its,r,pl,hz⟩:=I.tuple hq
 obtain ⟨j,h1,h2,h3,h4,h5⟩:=dM he
 obtain ⟨w,ew,rw'⟩:=r.get h2
 have hl:=r.length
 have hn:=Vf
 have fin:EP X pins σ Q w s:=⟨z,H,I,rw',q⟩
 exact vX (x:=w) pl.typeIs slot_tuple_getitem.lookup
  (getItem_tuple (j:=j) (Q:=λr s'=>r=w/\EP X pins σ Q r s') pl (by omega) (by omega) (by rw[Ar,<- hl]; exact h1) (by simpa using ew) ⟨rfl,fin⟩) hs
theorem A6:yK X U9:=by
 intro value slice pins s σ H x y v u Q I rx ry h hs
 obtain ⟨z,i,c,rfl,rfl,hz,he,q⟩:=h
 obtain ⟨t,rfl⟩:=rx
 obtain ⟨t',rfl⟩:=ry
 obtain ⟨j,h1,h2,h3,h4,h5⟩:=dM he
 have hl:z.cps.toList.length=z.length:=by simp [Str.length]
 rw[hl] at h1 h4 h5
 have hn:=Vf
 exact tail_any (typeIs_str s z t) slot_str_getitem.lookup (getItem_str (c:=c) (by
  have e1:decide (i < -(2 ^ 63:Int))=false:=decide_eq_false (by omega)
  have e2:decide (i ≥ 2 ^ 63)=false:=decide_eq_false (by omega)
  rw[e1,e2,Bool.or_false]) (by rw[h1]; simpa using h2) ⟨.str ⟨#[c]⟩,H,I.tok _,⟨_,rfl⟩,q⟩) hs
def CF(K:PySem.W.Frag):R2:=λx y H Q=>X8 K x y H Q\/E6 K x y H Q\/U9 x y H Q
theorem M3:yK X (CF X.K):=Qm.or (w4.or A6)
theorem iX(its:List Value)(n j:Nat)(u:Value):Ji (·.setIfInBounds j u) { cls:=.type "list",data:=.seq its.toArray n }={ cls:=.type "list",data:=.seq (its.set j u).toArray n }:=by
 simp [Ji]
theorem Inv.lst{pins:List (Addr×Obj)}{σ:St}{H:Hp}{s:Ag}{p:Addr}{xs:List V}(I:Inv X pins σ H s)(h:H p=some (.lst xs)):∃(its:List Value) (n:Nat),Fg xs its/\s.heap.get? p=some { cls:=.type "list",data:=.seq its.toArray n }/\xs.length<=Ax:=by
 obtain ⟨z,its,n,r,e⟩:=I.hok p _ h
 exact ⟨its,n,r,e,z⟩
theorem Inv.lstUpd{pins:List (Addr×Obj)}{σ:St}{H:Hp}{s:Ag}{p:Addr}{xs ys:List V}{its its':List Value}{n n':Nat}{f:Obj->Obj}(I:Inv X pins σ H s)(h:H p=some (.lst xs))(ho:s.heap.get? p=some { cls:=.type "list",data:=.seq its.toArray n })(hf:f { cls:=.type "list",data:=.seq its.toArray n }={ cls:=.type "list",data:=.seq its'.toArray n' })(r:Fg ys its')(hz:ys.length<=Ax)(t:Nat):Inv X pins σ (upd H p (.lst ys)) { s with heap:=s.heap.update p f,toks:=t }:=by
 have e:(s.heap.update p f).get? p=some { cls:=.type "list",data:=.seq its'.toArray n' }:=by
  rw[Gm f ho (by rw[hf] <;> rfl),hf]
 refine I.write (x:=p) (e:=p) (by rw[h]; trivial) (.inl rfl) (λb u hb q=>(lE _ _ (Nn hb)).trans q) ⟨_,e⟩ ?_
 exact ⟨hz,its',n',r,e⟩
def X4:V->V->V->Hp->(Hp->Prop)->Prop:=λo i v H Q=>∃p xs k j,o=.ref p/\i=.int k/\H p=some (.lst xs)/\pI xs.length k=some j/\Q (upd H p (.lst (xs.set j v)))
theorem iC:T7 X X4:=by
 intro pins s σ H o i v ov iv u Q I ro ri rv h
 obtain ⟨p,xs,k,j,rfl,rfl,hp,hj,q⟩:=h
 cases ro
 obtain ⟨t,rfl⟩:=ri
 obtain ⟨its,n,r,ho,hz⟩:=I.lst hp
 obtain ⟨h1,h2,h3,h4⟩:=mE hj
 have hl:=r.length
 have hn:=Vf
 have I':Inv X pins σ (upd H p (.lst (xs.set j v))) { s with heap:=s.heap.update p (Ji (·.setIfInBounds j u)) } :=
  I.lstUpd hp ho (iX its n j u) (r.set rv j) (by rw[List.length_set]; exact hz) s.toks
 by_cases h0:0<=k
 ·have hk:k.toNat=j:=by
   rw[seqIndex_of h0 h4] at h1
   exact Ck h1
  exact PySem.W.ki_setAt ho h0 (by omega) (by rw[Ar,<- hl]; exact h4) (by rw[hk]; exact ⟨_,I',q⟩)
 ·have hk:(k+(its.toArray.size:Int)).toNat=j:=by
   rw[seqIndex_neg (by omega) h3] at h1
   rw[Ar,<- hl]
   exact Ck h1
  exact PySem.W.ki_setBack ho (by omega) (by rw[Ar,<- hl]; exact h3) (by omega) (by rw[hk]; exact ⟨_,I',q⟩)
theorem cW(lo hi:Option Int)(n:Nat):(Ni lo hi none n).1=((HT.sIx n 0 lo:Nat):Int)/\(Ni lo hi none n).2.1=((HT.sIx n n hi:Nat):Int)/\(Ni lo hi none n).2.2=1:=by
 refine ⟨?_,?_,rfl⟩
 ·cases lo with
  | none=>simp [Ni,HT.sIx]
  | some i =>
   simp only[Ni,HT.sIx,Option.getD_none,show (1:Int) > 0 by decide,if_true]
   by_cases h:i<0
   ·simp only[h,if_true] <;> omega
   ·simp only[h,if_false] <;> omega
 ·cases hi with
  | none=>simp [Ni,HT.sIx]
  | some i =>
   simp only[Ni,HT.sIx,Option.getD_none,show (1:Int) > 0 by decide,if_true]
   by_cases h:i<0
   ·simp only[h,if_true] <;> omega
   ·simp only[h,if_false] <;> omega
theorem Zu(its:List Value)(lo hi:Option Int):slicePick its.toArray lo hi none=((its.drop (HT.sIx its.length 0 lo)).take (HT.sIx its.length its.length hi - HT.sIx its.length 0 lo)).toArray:=by
 obtain ⟨h1,h2,h3⟩:=cW lo hi its.toArray.size
 unfold slicePick
 rw[h1,h2,h3]
 simp only[sliceRange_one,pick_run,Ar] <;> rfl
def J6(K:PySem.W.Frag):V->Option Int->Option Int->Hp->VK->Prop:=λx lo hi H Q=>∃a xs,x=.ref a/\Sn K H a xs/\∀p,H p=none->Q (.ref p) (upd H p (.lst (Yx xs lo hi)))
theorem xC:F3 X (J6 X.K):=by
 intro pins s σ H x v vl vu lo hi sl Q I rx hs pl pu h
 obtain ⟨a,xs,rfl,hx,q⟩:=h
 cases rx
 obtain ⟨its,r,ht,hz⟩:=I.list hx
 have hlen:=r.length
 refine ⟨"list",_,X9.lookup,ht.isList.typeIs,?_⟩
 refine wpAny_getItem_list_slice ht.isList hs pl pu .none (by simp) ?_ (by rw[Ar] <;> omega)
 rw[Zu,<- hlen]
 refine ⟨.ref s.heap.objs.size,_,I.laid (t':=s.toks) (o:=.lst (Yx xs lo hi)) (λb ob q=>Am _ q) (Ah _) ?_,rfl,q _ (I.hok.fresh (Ah _))⟩
 exact ⟨Cg (Vl xs lo hi) hz,_,0,(r.drop (HT.sIx xs.length 0 lo)).take (HT.sIx xs.length xs.length hi - HT.sIx xs.length 0 lo),Br _ rfl⟩
theorem dG:Kf X (.type "list") (λxs H Q=>∃p ys,xs=[.ref p]/\(Sn X.K H p ys\/Sg X.K H p ys)/\∀l,H l=none->Q (.ref l) (upd H l (.lst ys))):=by
 intro pins s σ H xs us Q I r h
 obtain ⟨p,ys,rfl,hq,q⟩:=h
 obtain ⟨u,rfl,rx⟩:=vals1 r
 cases rx
 have fin:∀(its:List Value),Fg ys its->ys.length<=Ax->∀(h':Heap) (c':Nat),(∀b o',s.heap.get? b=some o'->h'.get? b=some o') ->
   h'.get? s.heap.objs.size=some { cls:=.type "list",dict:=none,data:=.seq its.toArray c',slots:=#[] }->EP X pins σ Q (.ref s.heap.objs.size) { s with heap:=h' }:=λits r' hz h' c' kp e =>
  ⟨.ref s.heap.objs.size,_,I.laid (t':=s.toks) kp (Ah _) (show Gc X.prog X.w _ h' _ (.lst ys) from ⟨hz,its,c',r',e⟩),rfl,q _ (I.hok.fresh (Ah _))⟩
 rcases hq with hq | hq
 ·obtain ⟨its,r',pl,hz⟩:=I.list hq
  have hlen:=r'.length
  obtain ⟨o,ho,hc,n,hd⟩:=pl.isList
  exact call_list_seq p (.inl rfl) ho hc hd (λh' c' kp e=>fin its r' hz h' c' kp e) (by simp only[Ar] <;> omega)
 ·obtain ⟨its,r',pl,hz⟩:=I.tuple hq
  have hlen:=r'.length
  obtain ⟨o,ho,hc,n,hd⟩:=pl
  exact call_list_seq p (.inr rfl) ho hc hd (λh' c' kp e=>fin its r' hz h' c' kp e) (by simp only[Ar] <;> omega)
theorem aF:Kf X (.type "tuple") (λxs H Q=>∃p ys,xs=[.ref p]/\((Sn X.K H p ys/\∀l,H l=none->Q (.ref l) (upd H l (.tup ys)))\/(Sg X.K H p ys/\Q (.ref p) H))):=by
 intro pins s σ H xs us Q I r h
 obtain ⟨p,ys,rfl,h⟩:=h
 obtain ⟨u,rfl,rx⟩:=vals1 r
 cases rx
 rcases h with ⟨hq,q⟩ | ⟨hq,q⟩
 ·obtain ⟨its,r',pl,hz⟩:=I.list hq
  have hlen:=r'.length
  refine call_tuple_list pl.isList (λh' kp=>?_) (by simp only[Ar] <;> omega)
  have I1:Inv X pins σ H { s with heap:=h' }:=I.kept (t':=s.toks) kp
  have I2:Inv X pins σ (upd H h'.objs.size (.tup ys)) { s with heap:=h'.push { cls:=.type "tuple",data:=.seq its.toArray } } :=
   I1.laid (t':=s.toks) (λb o e=>Am _ e) (Ah _) (show Gc X.prog X.w _ _ _ (.tup ys) from ⟨hz,its,r',IsTup.new _ _⟩)
  exact ⟨.ref h'.objs.size,_,I2,rfl,q _ (I1.hok.fresh (Ah _))⟩
 ·obtain ⟨its,r',pl,hz⟩:=I.tuple hq
  exact call_tuple_same pl ⟨.ref p,H,I,rfl,q⟩
def BS(K:PySem.W.Frag)(T:String)(x:V)(H:Hp):Prop:=match x with
 | .str _=>T = "str"
 | .int _=>T = "int"
 | .ref p=>(T = "list" /\ ∃xs,Sn K H p xs)\/(T = "tuple" /\ ∃o,K.lookup p=some o/\o.cls=.type "tuple" /\ o.dict=none) \/
   (T = "dict" /\ ((∃kvs,H p=some (.dK kvs))\/∃kvs,H p=some (.dT kvs)))\/(T = "set" /\ ∃S n,H p=some (.set S n))
 | _=>False
theorem N3{pins:List (Addr×Obj)}{σ:St}{H:Hp}{s:Ag}{T:String}{x:V}{v:Value}(I:Inv X pins σ H s)(r:RelV x v)(ty:BS X.K T x H):s.TypeIs v T/\∀a,v=.ref a->∃ob,s.heap.get? a=some ob/\ob.dict=none:=by
 cases x with
 | str z =>
  obtain ⟨t,rfl⟩:=r
  cases (show T = "str" from ty)
  exact ⟨typeIs_str s z t,λ_ e=>nomatch e⟩
 | int i =>
  obtain ⟨t,rfl⟩:=r
  cases (show T = "int" from ty)
  exact ⟨typeIs_int s i t,λ_ e=>nomatch e⟩
 | ref p =>
  cases r
  rcases ty with ⟨rfl,xs,hq⟩ | ⟨rfl,o,hk,hc,hd⟩ | ⟨rfl,hk⟩ | ⟨rfl,S,n,hk⟩
  ·obtain ⟨its,_,pl,_⟩:=I.list hq
   refine ⟨pl.isList.typeIs,λa e=>?_⟩
   cases e
   obtain ⟨o,n,e,c,hd,_⟩:=pl
   exact ⟨o,e,hd⟩
  ·refine ⟨⟨o,I.kIn p o hk,hc⟩,λa e=>?_⟩
   cases e
   exact ⟨o,I.kIn _ o hk,hd⟩
  ·have z:∃o,s.heap.get? p=some o/\o.ExactDict:=by
    rcases hk with ⟨kvs,hk⟩ | ⟨kvs,hk⟩
    ·obtain ⟨_,_,_,_,o,_,_,e,ex,_⟩:=I.hok p _ hk
     exact ⟨o,e,ex⟩
    ·obtain ⟨_,_,_,_,o,_,_,e,ex,_⟩:=I.hok p _ hk
     exact ⟨o,e,ex⟩
   obtain ⟨o,e,ex⟩:=z
   refine ⟨⟨o,e,ex.1⟩,λa e2=>?_⟩
   cases e2
   exact ⟨o,e,ex.2.1⟩
  ·obtain ⟨o,_,_,_,e,ex,_⟩:=I.hok p _ hk
   refine ⟨⟨o,e,ex.1⟩,λa e2=>?_⟩
   cases e2
   exact ⟨o,e,ex.2.1⟩
 | _=>exact Jf ty
def CO(K:PySem.W.Frag)(T:String)(r:V->List V->Hp->VK->Prop)(to:TE)(t:TA):TE:=λσ H Q=>to σ H λx H1=>BS K T x H1/\t σ H1 λxs H2=>r x xs H2 Q
variable{o e:Expr}{es:List Expr}{to:TE}{t:TA}{name:Str}{apos cpos:Pos}{T id:String}{r:V->List V->Hp->VK->Prop}
theorem n6(pa:PlainAttrs T)(slot:Slot T name id)(hty:typeOf (.builtin id)=pure (.type "method_descriptor"))(hm:CU X id r)(ho:PE X o to)(ha:PA X (e::es) t)
  (hbase:Qz o name X.env (eval o X.env)=eval o X.env:=by rfl)
  (hfew:((Ic cpos (Bs (e::es) X.env)).all (λx=>!x.1) && (backToKw cpos (Vw [] X.env)).all (λx=>x.1.isSome)
   && decide ((e::es).length+([]:List Qe).length+(if ([]:List Qe).isEmpty then 0 else 1)<30))=true:=by rfl)
  (hline:(apos.endLine == cpos.line)=true:=by rfl) (hs:Bs (e::es) X.env=(false,eval e X.env)::Bs es X.env:=by rfl) (hplain:(Ic cpos (Bs es X.env)).any (·.1)=false:=by rfl) :
  PE X (.Call (.Attribute o name apos) (e::es) [] cpos) (CO X.K T r to t):=by
 intro pins s σ H Q I h
 refine wpAny_Call_method_late hbase hfew hline rfl (Hf (ho pins s σ H _ I h) λv s1 q0_ => ?_)
 obtain ⟨x,H1,I1,r1,ty,q1⟩ := q0_
 obtain ⟨h1,h2⟩:=N3 I1 r1 ty
 refine ⟨T,id,pa,slot,hty,h1,h2,?_⟩
 have hA:=ha cpos pins s1 σ H1 _ I1 q1
 rw[hs] at hA ⊢
 refine Calls.callWith_builtin (by show (false || (Ic cpos (Bs es X.env)).any (·.1))=false; rw[hplain] <;> rfl) (Calls.evalArgs_plain ?_)
 exact Hf hA λus s2 ⟨vs,H2,I2,r2,q2⟩=>hm pins s2 σ H2 x vs v us Q I2 r1 r2 q2
end
def BU(X:Cx)(id:String)(r:V->List V->Hp->VK->Prop):Prop :=
 ∀(pins:List (Addr×Obj)) (s:Ag) (σ:St) (H:Hp) (x:V) (xs:List V) (v:Value) (us:List Value) (Q:VK),Inv X pins σ H s->RelV x v->Fg xs us->r x xs H Q ->
  wpAny (model X.prog X.w) X.A (call (.builtin id) (v::us)) (EP X pins σ Q) X.xe s
theorem Fg.one:∀{x:V} {us:List Value},Fg [x] us->∃u,us=[u]/\RelV x u
 | _,_,.cons r .nil=>⟨_,rfl,r⟩
section
variable{X:Cx}{pins:List (Addr×Obj)}{σ:St}{H:Hp}{s:Ag}{l b:Addr}{xs ys zs:List V}
theorem Inv.lset{its its':List Value}{n:Nat}{f:Array Value->Array Value}{t':Nat}(I:Inv X pins σ H s)(hH:H l=some (.lst xs))(e:s.heap.get? l=some { cls:=.type "list",data:=.seq its.toArray n })(hf:f its.toArray=its'.toArray)(hv:Fg ys its')(hz:ys.length<=Ax):Inv X pins σ (upd H l (.lst ys)) { s with heap:=s.heap.update l (Ji f),toks:=t' }:=by
 have q:=PySem.IsL.update e f
 rw[hf] at q
 refine I.write (x:=l) (e:=l) (by rw[hH]; exact trivial) (.inl rfl) (λb' u hb hu=>(lE s.heap (Ji f) (Nn hb)).trans hu) ⟨_,q⟩ ?_
 exact ⟨hz,its',_,hv,q⟩
theorem Inv.lnew{its:List Value}{t':Nat}(I:Inv X pins σ H s)(hv:Fg ys its)(hz:ys.length<=Ax):Inv X pins σ (upd H s.heap.objs.size (.lst ys)) { s with heap:=s.heap.push { cls:=.type "list",data:=.seq its.toArray },toks:=t' } :=
 I.laid (λ_ _ q=>Am _ q) (Ah _) ⟨hz,its,0,hv,Br _ rfl⟩
theorem Inv.fresh(I:Inv X pins σ H s):H s.heap.objs.size=none:=I.hok.fresh (Ah _)
theorem Inv.lstM(I:Inv X pins σ H s)(hH:H l=some (.lst xs)):xs.length<=Ax/\∃(its:List Value) (n:Nat),Fg xs its/\xs.length=its.length/\s.heap.get? l=some { cls:=.type "list",data:=.seq its.toArray n }:=by
 obtain ⟨z,its,n,r,e⟩:=I.hok l _ hH
 exact ⟨z,its,n,r,r.length,e⟩
theorem rB{n:Nat}(h:n<=Ax):Mt n=false:=by
 unfold Mt
 exact decide_eq_false (by omega)
end
section
variable{X:Cx}
def xK:V->List V->Hp->VK->Prop:=λx vs H Q=>∃l xs y,x=.ref l/\vs=[y]/\H l=some (.lst xs)/\xs.length<Ax/\Q .non (upd H l (.lst (xs++[y])))
theorem Qg:BU X "list.append" xK:=by
 intro pins s σ H x vs v us Q I rx rv h
 obtain ⟨l,xs,y,rfl,rfl,hH,hz,q⟩:=h
 cases rx
 obtain ⟨u,rfl,ru⟩:=rv.one
 obtain ⟨z,its,n,r,hl,e⟩:=I.lstM hH
 refine call_meets F.slot_list_append ⟨_,e,rfl⟩ F.entry_list_append (F.args_list_append_2 _ _) (PySem.list_append l its.toArray n u (by rw[Ar]; omega)) ⟨e,?_⟩
 refine ⟨.non,_,I.lset (its':=its++[u]) hH e (by simp) (r.append (.cons ru .nil)) ?_,rfl,q⟩
 rw[Bn,Lk]
 omega
def yY:V->List V->Hp->VK->Prop:=λx vs H Q=>∃l b xs zs,x=.ref l/\vs=[.ref b]/\H l=some (.lst xs)/\H b=some (.lst zs)/\xs.length+zs.length<=Ax/\Q .non (upd H l (.lst (xs++zs)))
theorem O0:BU X "list.extend" yY:=by
 intro pins s σ H x vs v us Q I rx rv h
 obtain ⟨l,b,xs,zs,rfl,rfl,hH,hB,hz,q⟩:=h
 cases rx
 obtain ⟨u,rfl,ru⟩:=rv.one
 cases ru
 obtain ⟨z,its,n,r,hl,e⟩:=I.lstM hH
 obtain ⟨z2,its2,n2,r2,hl2,e2⟩:=I.lstM hB
 have hsz:its.toArray.size+its2.toArray.size<=Ax:=by rw[Ar,Ar]; omega
 have hlong:¬ (!its.toArray.isEmpty && Mt (its.toArray.size+its2.toArray.size))=true:=by
  rw[rB hsz,Sf]
  exact Cm
 refine call_meets F.slot_list_extend ⟨_,e,rfl⟩ F.entry_list_extend (F.args_list_extend_2 _ _)
  (AutoSeq1.list_extend_list_list_0 l its.toArray n b its2.toArray n2 hlong (by rw[Ar]; omega) (by omega)) ⟨e,e2,?_⟩
 refine ⟨.non,_,I.lset (its':=its++its2) hH e (by simp) (r.append r2) ?_,rfl,q⟩
 rw[Bn]
 omega
def O9:R2:=λx y H Q=>∃l b xs zs,x=.ref l/\y=.ref b/\H l=some (.lst xs)/\H b=some (.lst zs)/\xs.length+zs.length<=Ax/\∀p,H p=none->Q (.ref p) (upd H p (.lst (xs++zs)))
theorem J9:Tu X (Jv .Add) O9:=by
 intro pins s σ H x y v u Q I rx ry h
 obtain ⟨l,b,xs,zs,rfl,rfl,hH,hB,hz,q⟩:=h
 cases rx
 cases ry
 obtain ⟨z,its,n,r,hl,e⟩:=I.lstM hH
 obtain ⟨z2,its2,n2,r2,hl2,e2⟩:=I.lstM hB
 refine PySem.P.add_list e e2 ?_ (by rw[Ar,Ar]; omega)
 have ea:its.toArray++its2.toArray=(its++its2).toArray:=by simp
 rw[ea]
 exact ⟨.ref _,_,I.lnew (t':=s.toks) (r.append r2) (by rw[Bn]; omega),rfl,q _ I.fresh⟩
end
end L2
namespace Att
open PySem PySem.W PySem.Calls PyProof.Rows
theorem Wb{P:Params}{h:Heap}:∀(ns:List Int) (vs:List Value),WellAll P h vs (ns.map WData.int)->Fm vs ns:=by
 intro ns
 induction ns with
 | nil =>
  intro vs w
  rw[Mw] at w
  cases w
  exact .nil
 | cons n ns ih =>
  intro vs w
  rw[Aw] at w
  cases w with
  | cons a b =>
   cases a
   exact .cons _ _ (ih _ b)
theorem pP{l:OpenLaw}{n:Nat}(hn:l.most=some n){P:Params}{h:Heap}{args:List WData}{vals:List Value}(hpre:l.row.toRowW.claim.pre args=true)(hwl:WellAll P h vals args):∃a vs ns,vals=[Ao a]/\args=[WData.list (ns.map WData.int)]/\h.get? a=some { cls:=.type "list",data:=.seq vs.toArray }/\Fm vs ns/\ns.length<=n:=by
 have hsh:WShape.hasAll [] args [.list .int]=true:=(pre_splitW hpre).1
 have hc:l.pre.holds [] { args:=args }=true:=(pre_splitW hpre).2
 obtain ⟨d,r,rfl,h1,h2⟩:=hasAllW_cons hsh
 obtain rfl:=hasAllW_nil h2
 obtain ⟨xs,rfl,h3⟩:=hasW_list h1
 obtain ⟨ns,rfl⟩:=items_int h3
 have hlen:ns.length<=n:=by
  unfold OpenLaw.pre at hc
  have h4:(WTm.not (.lt (.lit (.int (n:Int))) (.len (.arg 0)))).holds [] { args:=[.list (ns.map .int)] }=true:=by
   have h4:=(holds_andW hc).1
   rw[hn] at h4
   exact h4
  have h5:=condW_of h4 (w_not (w_lt w_lit (w_len_list (w_arg rfl))))
  rw[Ad] at h5
  refine Nat.le_of_not_lt λq=>?_
  have q':(n:Int)<((ns.length:Nat):Int):=by omega
  first
   | (rw[decide_eq_true q'] at h5; exact absurd h5 (by decide))
   | (simp at h5; omega)
 cases hwl with
 | cons w1 w2 =>
  cases w2
  cases w1 with
  | list ho hall=>exact ⟨_,_,ns,rfl,rfl,ho,Wb ns _ hall,hlen⟩
theorem pE(l:OpenLaw)(args:List WData):l.row.toRowW.claim.post args (.bool true) args=true :=
 postW_of (r:=l.row.toRowW) (X:=(true == true))
  (show WShape.has [] (.bool true) .bool=true by first | rfl | decide | simp [WShape.has,WShape.arms,WShape.armsAll])
  (show (WTm.eq .res (.lit (.bool true))).value [] { args:=args,res:=some (.bool true),after:=args }=some (.bool (true == true)) from w_eq_bool (w_res rfl) w_lit) rfl
theorem attach_call{l:OpenLaw}{n:Nat}{q:Be}{loose:List Str}{XP:(Str->Option Value)->Heap->Prop}{YP:World->Heap->Prop}{d:DefRec}(hn:l.most=some n)(hdf:d.params.defaults=[])(call:∀(w:World) (s₀ s₁:Ag) (mg mb:Str->Option Value) (fa:Addr) (o:Obj) (pm cd doc:Value) (a:Addr) (vs:List Value) (ns:List Int),Ground q loose [] XP w s₀ mg mb s₁.heap->YP w s₁.heap->s₁.heap.get? fa=some o->o.data=.func (docDef d.name d.params d.body d.scope pm cd doc)->s₁.heap.CodeRec cd d.name->mg d.name=some (.ref fa)->s₁.heap.get? a=some { cls:=.type "list",data:=.seq vs.toArray }->Fm vs ns->ns.length<=n->s₁.gens=#[]->Mv (model l.prog w) Wj (.call (.ref fa) ⟨[.ref a],[]⟩) (λr s'=>r=.ok (.ret (.bool true))/\OldK s₁.heap s'.heap/\s'.os=s₁.os/\Qf s'.gens) s₁):WalkO q loose XP YP l.row.toRowW d [] (λf vs=>PySem.call f vs):=by
 intro w s₀ s₁ mg mb G Y fa o pm cd doc dV kV ho hd hcd hD hmg hg args vals as hpre hlay hrd hwl hlo
 obtain rfl:dV=.none:=Dflts.none hD hdf
 obtain rfl:kV=.none:=Dflts.noKw hD
 obtain ⟨a,vs,ns,rfl,rfl,hobj,hints,hlen⟩:=pP hn hpre hwl
 refine enter_call (Oe (call w s₀ s₁ mg mb fa o pm cd doc a vs ns G Y ho (fd_plain hd) hcd hmg hobj hints hlen hg) λr s' hq=>?_)
 obtain ⟨rfl,h2,h3,h4⟩:=hq
 exact ⟨.inl ⟨.bool true,.bool true,[],rfl,λ_=>rfl,.bool true,pE l _,λ_=>⟨Ep,λ_ hm=>(nomatch hm)⟩⟩,h2,h3,h4⟩
end Att
namespace L2
open PySem PySem.Spec PyProof.Rows
theorem bK:∀{vs:List Value} {ns:List Int},Fm vs ns->Fg (ns.map V.int) vs
 | _,_,.nil=>.nil
 | _,_,.cons n t h=>.cons ⟨t,rfl⟩ (bK h)
def Mx(s:Stmt):Arguments:=match s with
 | .FunctionDef _ a _ _ _ _ _ _ _ _=>a
 | _=>{ posonlyargs:=[],args:=[],vararg:=none,kwonlyargs:=[],kw_defaults:=[],kwarg:=none,defaults:=[] }
def Iz(s:Stmt):List Stmt:=match s with
 | .FunctionDef _ _ b _ _ _ _ _ _ _=>b
 | _=>[]
def By(s:Stmt):Scope:=match s with
 | .FunctionDef _ _ _ _ _ _ sc _ _ _=>sc
 | _=>{ kind:=.function,names:=[],isGenerator:=false,isCoroutine:=false }
abbrev Jb:pV:=λ_ _ _ _ _ _=>False
abbrev E0:XK:=λ_ _ _=>False
theorem Gg{X:Cx}:Og Jb X E0:=λ_ _ _ _ _ _ _ h=>h.elim
structure Fun(K:PySem.W.Frag)(x qual:Str)(st:Stmt)(f:Addr)(fd:Cv):Prop where
 ex:∃(oc:Value) (od:Option Addr) (kV doc pm:Value) (an:Option Addr) (cdv ct:Value) (osl:Array (Option Value)),
  fd=PySem.W.fnOf x qual (Mx st) (Iz st) (By st) .none kV doc pm an cdv ct/\K.lookup f=some ⟨oc,od,.func fd,osl⟩/\PySem.W.codeIn K cdv qual=true
 kp:PySem.W.keepIn K (.ref f)=true
section
variable{P:Be}{w:World}{K:PySem.W.Frag}{mg:Str->Option Value}{base:Heap}
theorem Fun.ok{x qual:Str}{st:Stmt}{f:Addr}{fd:Cv}{N ps:List Str}{k:Nat}{sp:Sp}(F:Fun K x qual st f fd)(S:FnScope N ps (By st))(len:∀vs H Q E,sp vs H Q E->vs.length=ps.length)(hbody:∀(cdv:Value) (A:Co) (outer:List Env) (s:Ag) (H:Hp) (vs:List V) (Q:VK) (E:XK),Room k (A.deeper (Pg qual (By st) s.heap.objs.size f cdv))->sp vs H Q E->∃t,jF (Nz Jb P w K mg base N qual (By st) f cdv A outer s H E).nox (Iz st) t/\t { nx:=λ_ H'=>Q .non H',rt:=Q } (start N vs) H):FnOk P w K mg base Jb (k+1) f fd ps sp:=by
 obtain ⟨oc,od,kV,doc,pm,an,cdv,ct,osl,rfl,lk,hcd⟩:=F.ex
 refine Q5 lk hcd S len λA outer s H vs Q E hr hsp=>?_
 obtain ⟨t,h,q⟩:=hbody cdv A outer s H vs Q E hr hsp
 exact ⟨t,h.nox,q⟩
theorem Fun.binds{x qual:Str}{st:Stmt}{f:Addr}{fd:Cv}{ps:List Str}(F:Fun K x qual st f fd)(h:∀(kV doc pm:Value) (an:Option Addr) (cdv ct:Value) (us:List Value),us.length=ps.length->bindArgs (PySem.W.fnOf x qual (Mx st) (Iz st) (By st) .none kV doc pm an cdv ct) ⟨us,[]⟩=pure (ps.zip us)):Binds K fd ps []:=by
 obtain ⟨oc,od,kV,doc,pm,an,cdv,ct,osl,rfl,lk,hcd⟩:=F.ex
 exact .all (h kV doc pm an cdv ct)
theorem vD{x qual:Str}{st:Stmt}{f:Addr}{oc:Value}{od an:Option Addr}{osl:Array (Option Value)}{kV doc pm cdv ct:Value}(l:K.lookup f=some ⟨oc,od,.func (PySem.W.fnOf x qual (Mx st) (Iz st) (By st) .none kV doc pm an cdv ct),osl⟩)(c:PySem.W.codeIn K cdv qual=true)(k:PySem.W.keepIn K (.ref f)=true):Fun K x qual st f (PySem.W.fnOf x qual (Mx st) (Iz st) (By st) .none kV doc pm an cdv ct):=⟨⟨oc,od,kV,doc,pm,an,cdv,ct,osl,rfl,l,c⟩,k⟩
end
theorem pT{n:Nat}(h:n<=1000):n<Ax:=Nat.lt_of_le_of_lt h (by decide)
section
variable{X:Cx}
theorem pv(i:Nat){x:Str}{pos:Pos}(hN:X.N[i]? = some x:=by rfl)(hv:Q3 X.env.scope x:=by first | exact Di rfl | exact Or.inr (Di rfl) | exact Or.inr (Or.inr rfl))(hd:(x == ("__debug__" : Str))=false:=by decide)(hcd:(x == ("__classdict__" : Str))=false:=by decide):PE X (.Name x pos) (dI i):=B7 hN hv hd hcd
end
theorem sW{A B:Prop}(h:B):if false=true then A else B:=by
 rw[if_neg Cm]
 exact h
theorem vK{A B:Prop}(h:A):if true=true then A else B:=by
 rw[if_pos rfl]
 exact h
theorem Q6{c A B:Prop}[Decidable c](h1:c->A)(h2:¬ c->B):if c then A else B:=by
 by_cases h:c
 ·rw[if_pos h]
  exact h1 h
 ·rw[if_neg h]
  exact h2 h
def Wd(H H':Hp):Prop:=∀b o,H b=some o->H' b=some o
theorem Wd.refl(H:Hp):Wd H H:=λ_ _ h=>h
end L2
namespace Nd
open PySem PySem.Spec PyProof.Rows L2
def He(X:Cx)(scope:Scope)(cl:List (Str×Addr))(N:List Str)(fp:List Addr)(s:Ag)(H:Hp):Cx where
 prog:=X.prog
 w:=X.w
 K:=X.K
 mg:=X.mg
 base:=X.base
 A:=X.A
 N:=N
 s₀:=s
 H₀:=H
 env:=compEnvC scope (Ek (s.heap.objs.size+1) scope.names cl) s.heap.objs.size X.env
 outer:=X.stack
 stack:=X.stack
 ex:=fp
 fn:=λy=>decide (scope.names.lookup y=some Dq)
 calm:=X.calm
 pn:=[]
 xe:=λ_ _=>False
section
variable{prog:Be}{w:World}{A:Co}{R:Result->Ag->Prop}{s:Ag}
theorem Yp{elt tg iter:Expr}{ifs:List Expr}{scope:Scope}{pos:Pos}{it acc:Value}{env:Env}(J:Nat->Ag->Prop) (turn:∀n s,J n s->wpAny (model prog w) A (pyNext it) (λr s1=>match r with
    | none=>R (.ok .next) s1
    | some v=>wpAny (model prog w) A (Uc tg it v) (λ_ s2=>wpAny (model prog w) A (assign tg env v) (λ_ s3 =>
      wpAny (model prog w) A (forIn ifs true λc r=>if r=true then (do
        let ok <- isTrue c env (eval c env)
        pure (Ey ok)) else pure (Ey r)) (λok s4 =>
       if ok=true then
        wpAny (model prog w) A (eval elt env) (λx s5=>wpAny (model prog w) A (call (.builtin "list.append") [acc,x]) (λ_ s6=>∃m,m<n/\J m s6) (λ_ _=>False) s5) (λ_ _=>False) s4
       else ∃m,m<n/\J m s4) (λ_ _=>False) s3) (λ_ _=>False) s2) (λ_ _=>False) s1) (λ_ _=>False) s)
  (n:Nat) (h:J n s):Mv (model prog w) A (.compLoop (.ListComp elt [⟨tg,iter,ifs,0⟩] scope pos) 0 it acc env) R s:=by
 refine codeAny_loop rfl J (λn s hJ=>?_) n h
 show wpAny _ A (Sem.onRaise (compTurn (.ListComp elt [⟨tg,iter,ifs,0⟩] scope pos) 0 it acc env) (λx=>do noteFrame x env; theTreesLotGoes x)) _ _ s
 refine wpAny_noted ?_
 rw[compTurn_list]
 refine Ab (wpAny_standAt (Ab (Fs (turn n s hJ) (λr s1 h1=>?_) λ_ _ z=>z.elim)))
 cases r with
 | none=>exact Aj h1
 | some v =>
  refine Ab (Fs h1 (λ_ s2 h2=>?_) λ_ _ z=>z.elim)
  refine Ab (Fs h2 (λ_ s3 h3=>?_) λ_ _ z=>z.elim)
  refine Ab (Fs h3 (λok s4 h4=>?_) λ_ _ z=>z.elim)
  cases ok with
  | false=>exact Aj ⟨rfl,h4⟩
  | true =>
   refine Ab (Ab (Fs h4 (λx s5 h5=>?_) λ_ _ z=>z.elim))
   exact Ab (Fs h5 (λ_ s6 h6=>Aj (Aj ⟨rfl,h6⟩)) λ_ _ z=>z.elim)
end
section
variable{X:Cx}{pins:List (Addr×Obj)}{σ:L2.St}{H:Hp}{s:Ag}{scope:Scope}{cl:List (Str×Addr)}{fp:List Addr}{N:List Str}
def M7(scope:Scope)(x:Str):Prop:=scope.names.lookup x=some .local\/scope.names.lookup x=some .cell
structure CompScope(X:Cx)(scope:Scope)(cl:List (Str×Addr))(x:Str)(ys:List Str)(js:List Nat):Prop where
 clos:closureFor scope X.env=pure cl
 oc:(∀y∈scope.names,y.2≠.cell)\/∃z:Str,(∀n,Ek n scope.names []=[(z,n)])/\scope.names.lookup z=some .cell/\∀y∈scope.names,y.2=.cell->y.1=z
 kind:scope.kind=.function
 locs:∀y∈scope.names,y.2=.local->scope.names.lookup y.1=some .local
 own:M7 scope x
 sub:∀y c,cl.lookup y=some c->X.env.cells.lookup y=some c
 has_:(scope.names.all λy=>!(y.2 == Dx) || (cl.lookup y.1).isSome)=true
 nd:(x::ys).Nodup
 len:ys.length=js.length
 at_:∀(k:Nat) (y:Str) (j:Nat),ys[k]? = some y->js[k]? = some j->X.N[j]? = some y/\scope.names.lookup y=some .free/\(X.env.kindOf y=some .cell\/X.env.kindOf y=some .free)
theorem CompScope.has{x:Str}{ys:List Str}{js:List Nat}(C:CompScope X scope cl x ys js):∀y∈scope.names,y.2=.free->(cl.lookup y.1).isSome=true:=λy hy e=>by
 have h:=List.all_eq_true.mp C.has_ y hy
 rw[e] at h
 simpa using h
theorem Pz{env:Env}{y:Str}{k:Nj}:∀{names:List (Str×Nj)},
  (names.map λ(n,k)=>if (k == Dx && env.scope.kind == .function && env.kindOf n == some .cell) then (n,Dq) else (n,k)).lookup y=some k ->
  ∃k0,names.lookup y=some k0/\(k=k0\/(k0=.free/\k=.cell))
 | [],h=>by simp at h
 | (n,k0)::r,h=>by
  have ih:=@Pz env y k r
  rw[Aw] at h
  by_cases hc:(k0 == Dx && env.scope.kind == .function && env.kindOf n == some .cell)=true
  ·have h':Ks y ((n,Dq)::(r.map λ(n,k)=>if (k == Dx && env.scope.kind == .function && env.kindOf n == some .cell) then (n,Dq) else (n,k)))=some k:=by
    simpa [hc] using h
   cases hy:y == n with
   | true =>
    rw[Bw,hy] at h'
    have e:k=Dq:=by simpa using h'.symm
    refine ⟨k0,by rw[Bw,hy],.inr ⟨?_,e⟩⟩
    rw[Gf,Gf] at hc
    exact Dn hc.1.1
   | false =>
    rw[Bw,hy] at h'
    obtain ⟨q,e1,e2⟩:=ih h'
    exact ⟨q,by rw[Bw,hy]; exact e1,e2⟩
  ·have h':Ks y ((n,k0)::(r.map λ(n,k)=>if (k == Dx && env.scope.kind == .function && env.kindOf n == some .cell) then (n,Dq) else (n,k)))=some k:=by
    simpa [hc] using h
   cases hy:y == n with
   | true =>
    rw[Bw,hy] at h'
    exact ⟨k0,by rw[Bw,hy],.inl (by simpa using h'.symm)⟩
   | false =>
    rw[Bw,hy] at h'
    obtain ⟨q,e1,e2⟩:=ih h'
    exact ⟨q,by rw[Bw,hy]; exact e1,e2⟩
theorem Tw{env:Env}{y:Str}:∀{names:List (Str×Nj)},names.lookup y=some .free ->
  (names.map λ(n,k)=>if (k == Dx && env.scope.kind == .function && env.kindOf n == some .cell) then (n,Dq) else (n,k)).lookup y=some .cell \/
  (names.map λ(n,k)=>if (k == Dx && env.scope.kind == .function && env.kindOf n == some .cell) then (n,Dq) else (n,k)).lookup y=some .free
 | [],h=>by simp at h
 | (n,k0)::r,h=>by
  have ih:=@Tw env y r
  show Ks y ((if (k0 == Dx && env.scope.kind == .function && env.kindOf n == some .cell)=true then (n,Dq) else (n,k0))::_)=_\/Ks y ((if (k0 == Dx && env.scope.kind == .function && env.kindOf n == some .cell)=true then (n,Dq) else (n,k0))::_)=_
  by_cases hc:(k0 == Dx && env.scope.kind == .function && env.kindOf n == some .cell)=true
  ·rw[if_pos hc]
   cases hy:y == n with
   | true=>exact .inl (by rw[Bw,hy])
   | false =>
    rw[Bw,hy] at h
    simp only[Bw,hy]
    exact ih h
  ·rw[if_neg hc]
   cases hy:y == n with
   | true =>
    rw[Bw,hy] at h
    exact .inr (by rw[Bw,hy]; exact h)
   | false =>
    rw[Bw,hy] at h
    simp only[Bw,hy]
    exact ih h
theorem Fh{α β:Type}[BEq α][LawfulBEq α]{y:α}{k:β}:∀{l:List (α×β)},l.lookup y=some k->(y,k)∈l
 | [],h=>by simp at h
 | (n,v)::r,h=>by
  cases hy:y == n with
  | true =>
   rw[Bw,hy] at h
   have e:=Dn hy
   subst e
   have : v=k:=by simpa using h
   subst this
   exact Aa
  | false =>
   rw[Bw,hy] at h
   exact Af _ (Fh h)
end
theorem cC{a c:Nat}(h:c<a)(e:c=a+1):False:=by omega
theorem Hr:∀(names:List (Str×Nj)) (n:Nat) (acc:List (Str×Addr)),Ek n names acc=Ek n names []++acc
 | [],_,_=>rfl
 | (x,k)::r,n,acc=>by
  unfold Ek
  by_cases h:(k == Dq)=true
  ·rw[if_pos h,if_pos h,Hr r _ ((x,n)::acc),Hr r _ [(x,n)],Bz]; rfl
  ·rw[if_neg h,if_neg h]; exact Hr r n acc
theorem Mo:∀(names:List (Str×Nj)) (n:Nat) (acc:List (Str×Addr)),(∀y∈names,y.2≠.cell)->Ek n names acc=acc
 | [],_,_,_=>rfl
 | (x,k)::r,n,acc,h=>by
  unfold Ek
  rw[if_neg (by have:=h (x,k) Aa; simpa using this)]
  exact Mo r n acc λy hy=>h y (Af _ hy)
theorem Tj{env:Env}{y:Str}:∀{names:List (Str×Nj)},names.lookup y=some .cell->(names.map λ(n,k)=>if (k == Dx && env.scope.kind == .function && env.kindOf n == some .cell) then (n,Dq) else (n,k)).lookup y=some .cell
 | [],h=>by simp at h
 | (n,k0)::r,h=>by
  have ih:=@Tj env y r
  show Ks y ((if (k0 == Dx && env.scope.kind == .function && env.kindOf n == some .cell)=true then (n,Dq) else (n,k0))::_)=_
  by_cases hc:(k0 == Dx && env.scope.kind == .function && env.kindOf n == some .cell)=true
  ·rw[if_pos hc]
   cases hy:y == n with
   | true=>rw[Bw,hy]
   | false=>rw[Bw,hy] at h ⊢; exact ih h
  ·rw[if_neg hc]
   cases hy:y == n with
   | true=>rw[Bw,hy] at h ⊢; exact h
   | false=>rw[Bw,hy] at h ⊢; exact ih h
theorem mD{env:Env}{scope:Scope}{x:Str}(o:M7 scope x):Loc (relabel scope env) x:=o.imp lookup_relabel_local Tj
section
variable{X:Cx}{scope:Scope}{cl:List (Str×Addr)}{x y:Str}{ys:List Str}{js:List Nat}{n c:Nat}{N:List Str}{fp:List Addr}{s:Ag}{H:Hp}
theorem tH(o:M7 scope x):(He X scope cl N fp s H).fn x=true\/(He X scope cl N fp s H).env.scope.names.lookup x=some .local:=by
 rcases o with o | o
 ·exact .inr (lookup_relabel_local o)
 ·exact .inl (decide_eq_true o)
theorem CompScope.split(C:CompScope X scope cl x ys js)(h:(Ek n scope.names cl).lookup y=some c):cl.lookup y=some c\/(c=n/\Ek 0 scope.names []=[(y,0)]/\Ek n scope.names []=[(y,n)]/\scope.names.lookup y=some .cell):=by
 rcases C.oc with o | ⟨z,o1,o2,_⟩
 ·rw[Mo _ _ _ o] at h; exact .inl h
 ·rw[Hr,o1] at h
  have h2:Ks y ((z,n)::cl)=some c:=h
  rw[Bw] at h2
  cases e:y == z with
  | true =>
   rw[e] at h2
   have ec:c=n:=(Ck h2).symm
   have ey:=Dn e
   subst ey
   exact .inr ⟨ec,o1 0,o1 n,o2⟩
  | false=>rw[e] at h2; exact .inl h2
theorem CompScope.find(C:CompScope X scope cl x ys js)(h:cl.lookup y=some c)(hy:scope.names.lookup y=some .free):(Ek n scope.names cl).lookup y=some c:=by
 rcases C.oc with o | ⟨z,o1,o2,_⟩
 ·rw[Mo _ _ _ o]; exact h
 ·rw[Hr,o1]
  show Ks y ((z,n)::cl)=some c
  rw[Bw]
  cases e:y == z with
  | true=>rw[Dn e,o2] at hy; cases hy
  | false=>exact h
theorem CompScope.cellAt(C:CompScope X scope cl x ys js)(hy:(y,Dq)∈scope.names):(Ek n scope.names cl).lookup y=some n:=by
 rcases C.oc with o | ⟨z,o1,o2,o3⟩
 ·exact absurd rfl (o _ hy)
 ·have ez:y=z:=o3 _ hy rfl
  subst ez
  rw[Hr,o1]
  show Ks y ((y,n)::cl)=some n
  rw[Bw,beq_self_eq_true]
theorem bJ{M:Model}{A:Co}{E:Value->Ag->Prop}{Q:Env->Ag->Prop}(C:CompScope X scope cl x ys js)(hQ:∀h4,h4.Ns s.heap.objs.size (λ_=>none)->(∀b u,s.heap.get? b=some u->h4.get? b=some u)->(∀z n,Ek (s.heap.objs.size+1) scope.names []=[(z,n)]->h4.IsCell n none)->Q (newEnv scope s.heap.objs.size X.env.globals (Ek (s.heap.objs.size+1) scope.names cl) X.env.qual none .none (some X.env) Si) { s with heap:=h4,toks:=s.toks+([]:List (Str×Value)).length }):wpAny M A (Vv scope X.env.globals cl [] X.env.qual none .none (some X.env)) Q E s:=by
 simp only[Vv,Option.isSome_some,if_true]
 refine Ab (wpAny_alloc (Ab (wpAny_layCells _ (λx k cs=>by cases e:k == Dq <;> simp [e]) _ _ _ _ ?_)))
 have hsz:({ s with heap:=s.heap.push { cls:=.type "dict",data:=.dict #[] } }:Ag).heap.objs.size=s.heap.objs.size+1:=Heap.size_push ..
 rw[hsz]
 refine Ab (Aj (Aj (hQ _ ((Heap.Ns.new s.heap (.type "dict")).keeps (pushCells_keeps _ _)) (λb u e=>pushCells_keeps _ _ b u (Am _ e)) λz n e=>?_)))
 have ok:=(cellsFrom_ok scope.names (s.heap.push { cls:=.type "dict",data:=.dict #[] }) 0 [] ⟨λ_ _ hm=>(nomatch hm),Ep⟩ (Ds _)).empty z n
 rw[show (s.heap.push { cls:=.type "dict",data:=.dict #[] }).objs.size=s.heap.objs.size+1 from hsz,e] at ok
 exact (ok (Ai.mpr rfl)).1
end
section
variable{X:Cx}{pins:List (Addr×Obj)}{σ:L2.St}{H:Hp}{s:Ag}{scope:Scope}{cl:List (Str×Addr)}{fp:List Addr}{N:List Str}
theorem wW{x:Str}{ys:List Str}{js:List Nat}(C:CompScope X scope cl x ys js)(I:Inv X pins σ H s)(hf:∀b∈fp,Ph X pins H b)(ho:∀b∈fp,∃o,s.heap.get? b=some o):(He X scope cl N fp s H).Ok where
 mod:=I.ok.mod
 kind:=C.kind
 glob:=I.ok.glob
 blt:=I.ok.blt
 above:=Ah _
 inj:=λy z c h1 h2=>by
  have lt:∀y,cl.lookup y=some c->c<s.heap.objs.size:=λy e=>let ⟨_,q⟩:=I.cell y c (C.sub y c e); q.lt
  rcases C.split h1 with h1 | ⟨e1,a1,_⟩
  ·rcases C.split h2 with h2 | ⟨e2,_⟩
   ·exact I.ok.inj y z c (C.sub y c h1) (C.sub z c h2)
   ·exact (cC (lt y h1) e2).elim
  ·rcases C.split h2 with h2 | ⟨e2,a2,_⟩
   ·exact (cC (lt z h2) e1).elim
   ·rw[a1] at a2
    simpa using a2
 has:=λy hy=>by
  have key:∀k,(k=Dq\/k=Dx)->(compEnvC scope cl s.heap.objs.size X.env).kindOf y=some k->∃c,(Ek (s.heap.objs.size+1) scope.names cl).lookup y=some c:=by
   intro k hk e
   obtain ⟨k0,e0,e1⟩:=Pz (names:=scope.names) (env:=X.env) (y:=y) (k:=k) e
   have m:=Fh e0
   by_cases hk0:k0=.cell
   ·exact ⟨_,C.cellAt (hk0▸m)⟩
   have hfree:k0=.free:=by
    rcases e1 with e1 | e1
    ·subst e1
     rcases hk with hk | hk
     ·exact absurd hk hk0
     ·exact hk
    ·exact e1.1
   obtain ⟨c,hc⟩:=Oc.mp (C.has _ m hfree)
   exact ⟨c,C.find hc (hfree▸e0)⟩
  rcases hy with hy | hy
  ·exact key _ (.inl rfl) hy
  ·exact key _ (.inr rfl) hy
 cab:=λy c h e=>by
  have h:scope.names.lookup y=some .cell:=of_decide_eq_true h
  have:=(C.cellAt (n:=s.heap.objs.size+1) (Fh h)).symm.trans e
  show s.heap.objs.size<=c
  have:=Ck this
  omega
 hd:=I.ok.hd
 frames:=I.ok.frames
 stk:=.inl rfl
 exf:=λb hb=>by
  obtain ⟨o,e⟩:=ho b hb
  refine ⟨Cy (Bk e),λy c hc=>?_⟩
  rcases C.split hc with hc | ⟨hc,_⟩
  ·exact (hf b hb).2.2.2.2.1 y c (C.sub y c hc)
  ·exact λz=>cC (Bk e) (z.symm.trans hc)
 bs:=I.bs
 bsz:=Cg I.ok.bsz I.sz
 noex:=λb o e hb=>by
  rcases (hf b hb).2.2.2.1 with z | z
  ·exact I.ok.noex b o e z
  ·exact absurd (Bx (Bk (I.ok.bs b o e).1) z) (Hh _)
 exfs:=λb hb z=>by
  rcases An.mp (I.stkSub b z) with e | e
  ·exact (hf b hb).2.1 e
  ·exact (hf b hb).2.2.1 e
 funs:=I.stack
 frf:=I.stkFree
 tab:=I.ok.tab.un I.base
def Jp(σ:L2.St)(js:List Nat):L2.St:=js.map λj=>(σ[j]?).join
theorem Yh{x:Str}{pre ys:List Str}{js:List Nat}{h1:Heap}{tk:Nat}{m1:Str->Option Value}(C:CompScope X scope cl x ys js)(I:Inv X pins σ H s)(hf:∀b∈fp,Ph X pins H b)(ho:∀b∈fp,∃o,s.heap.get? b=some o)(hns:h1.Ns s.heap.objs.size m1)(keep:∀b u,s.heap.get? b=some u->h1.get? b=some u)(new:∀z n,Ek (s.heap.objs.size+1) scope.names []=[(z,n)]->h1.IsCell n none):Inv (He X scope cl (pre++ys) fp s H) [] (pre.map (λ_=>none)++Jp σ js) H { s with heap:=h1,toks:=tk }:=by
 have cellK:∀y c,cl.lookup y=some c->∃v,s.heap.IsCell c v/\h1.IsCell c v:=λy c e=>by
  obtain ⟨v,o,q,d⟩:=I.cell y c (C.sub y c e)
  exact ⟨v,⟨o,q,d⟩,o,keep c o q,d⟩
 refine ⟨wW C I hf ho,rfl,I.bare,Un.kept keep,⟨m1,hns,λi y v e1 e2 _=>?_⟩,λy c e=>?_,I.hok.fresh (Ah _),λy c e=>?_,λp hp=>?_,I.hok.kept keep,?_⟩
 ·have e2:(pre.map (λ_=>(none:Option V))++Jp σ js)[i]? = some (some v):=e2
  have e1:(pre++ys)[i]? = some y:=e1
  by_cases hi:i<pre.length
  ·rw[Gq (by rw[Ad]; exact hi),Bt] at e2
   cases q:pre[i]? with
   | none=>rw[q] at e2; cases e2
   | some z=>rw[q] at e2; cases e2
  ·rw[Fd (by rw[Ad]; omega),Ad] at e2
   rw[Fd (by omega)] at e1
   have e1':=e1
   have e2':=e2
   generalize i - pre.length=k at e1' e2'
   unfold Jp at e2'
   rw[Bt] at e2'
   cases ej:js[k]? with
   | none=>rw[ej] at e2'; simp at e2'
   | some j =>
    rw[ej] at e2'
    have e3:(σ[j]?).join=some v:=by simpa using e2'
    have e4:σ[j]? = some (some v):=by
     cases q:σ[j]? with
     | none=>rw[q] at e3; simp at e3
     | some z=>rw[q] at e3; simp at e3; rw[e3]
    obtain ⟨a1,a2,a3⟩:=C.at_ k y j e1' ej
    obtain ⟨m0,_,hl⟩:=I.loc
    have vis:Q3 X.env.scope y:=a3.elim (λa3=>.inr (.inl a3)) λa3=>.inr (.inr a3)
    obtain ⟨u,r,l⟩:=hl j y v a1 e4 vis
    refine ⟨u,r,?_⟩
    rcases l with ⟨k1,_⟩ | ⟨_,c,hc,hv⟩
    ·rcases a3 with a3 | a3 <;> rw[k1] at a3 <;> cases a3
    ·obtain ⟨c',hc'⟩:=Oc.mp (C.has _ (Fh a2) rfl)
     have ec:c'=c:=by
      have:=C.sub y c' hc'
      rw[hc] at this
      exact (Ck this).symm
     subst ec
     obtain ⟨o,q,d⟩:=hv
     exact .inr ⟨Tw a2,c',C.find hc' a2,o,keep c' o q,d⟩
 ·rcases C.split e with e | ⟨e,_,e',_⟩
  ·obtain ⟨v,_,z⟩:=cellK y c e
   exact ⟨v,z⟩
  ·exact ⟨_,e▸new _ _ e'⟩
 ·rcases C.split e with e | ⟨e,_⟩
  ·exact I.freeC y c (C.sub y c e)
  ·exact I.hok.fresh (by omega)
 ·cases (show p∈([]:List (Addr×Obj)) from hp)
 ·show (pre.map (λ_=>(none:Option V))++Jp σ js).length=(pre++ys).length
  simp [Jp,C.len]
end
section
variable{X:Cx}
def T1(J:It)(js:List Nat)(tc:TT)(te:TE)(σ:L2.St)(H1:Hp)(Q:VK):Prop:=∀D,H1 D=none->∃W:Nat->Nat->Hp->Prop,(∃m,W 0 m (upd H1 D (.lst [])))/\∀i m H,W i m H ->
 (J.stop i H/\Q (.ref D) H)\/(J.go i H/\∀x H',J.yld i H x H'->∃(N1:Hp->Prop) (N2:VK),(∀H2,N1 H2->∃m',m'<m/\W (i+1) m' H2) /\
  (∀y H3,N2 y H3->∃acc,H3 D=some (.lst acc)/\acc.length<Ax/\∃m',m'<m/\W (i+1) m' (upd H3 D (.lst (acc++[y])))) /\
  tc (some x::Jp σ js) H' λc H2=>if c=true then te (some x::Jp σ js) H2 N2 else N1 H2)
def mZ(wi:TI)(js:List Nat)(tc:TT)(te:TE):TE:=λσ H Q=>wi σ H λJ H1=>T1 J js tc te σ H1 Q
def cG:TT:=λ_ H Q=>Q true H
def vT(X:Cx)(ifs:List Expr)(t:TT):Prop :=
 ∀(pins:List (Addr×Obj)) (s:Ag) (σ:L2.St) (H:Hp) (Q:Bool->Hp->Prop),Inv X pins σ H s->t σ H Q ->
  wpAny (model X.prog X.w) X.A (forIn ifs true λc r=>if r=true then (do
   let ok <- isTrue c X.env (eval c X.env)
   pure (Ey ok)) else pure (Ey r)) (TP X pins σ Q) X.xe s
theorem uW:vT X [] cG:=λpins s σ H Q I h=>wpAny_tests_nil ⟨H,I,h⟩
theorem xG{c:Expr}{t:TT}(h:PT X c t):vT X [c] t:=λpins s σ H Q I q=>wpAny_tests_one (h pins s σ H Q I q)
theorem kG{X X':Cx}{pins:List (Addr×Obj)}{σ σ':L2.St}{H3 H6:Hp}{s3 s7:Ag}{scope:Scope}{cl:List (Str×Addr)}{N:List Str}{fp:List Addr}(hX':He X scope cl N fp s3 H3=X')(I3:Inv X pins σ H3 s3)(f3:∀b∈fp,Ph X pins H3 b)(I7:Inv X' [] σ' H6 s7):∃m7,s7.heap.Ns s3.heap.objs.size m7/\∀h8,Fn s3.heap.objs.size s7.heap h8->Inv X pins σ H6 { s7 with heap:=h8 }:=by
 have eP:X'.prog=X.prog:=by rw[<- hX']; rfl
 have eW:X'.w=X.w:=by rw[<- hX']; rfl
 obtain ⟨m7,hn7,_⟩:=I7.loc
 have hn7':s7.heap.Ns s3.heap.objs.size m7:=by rw[<- hX'] at hn7; exact hn7
 refine ⟨m7,hn7',λh8 hs8=>?_⟩
 have I7f:H6 s3.heap.objs.size=none:=by have:=I7.free; rw[<- hX'] at this; exact this
 have b7:Un (pF X.stack) fp H3 H6 s3.heap s7.heap:=by have:=I7.base; rw[<- hX'] at this; exact this
 have ne8:∀b o,s3.heap.get? b=some o->b≠s3.heap.objs.size:=λb o q=>Cy (Bk q)
 have u8:Un (pF X.stack) fp H3 H6 s3.heap h8:=by
  refine ⟨λb o q n hb hx=>(hs8.2 b (ne8 b o q)).trans (b7.keep b o q n hb hx),λb o q n hb hx=>?_,b7.free,λb o q hx=>?_,b7.tups,b7.frzs,b7.tbls⟩
  ·obtain ⟨sl,z⟩:=b7.slot b o q n hb hx
   exact ⟨sl,(hs8.2 b (ne8 b o q)).trans z⟩
  ·obtain ⟨o',z⟩:=b7.there b o q hx
   exact ⟨o',(hs8.2 b (ne8 b o q)).trans z⟩
 have hok8:Sz X.prog X.w H6 h8:=λb ob e=>by
  have hk7:=I7.hok
  rw[eP,eW] at hk7
  refine (hk7 b ob e).stay (λc w' hcc q=>(hs8.2 c ?_).trans q) (λ_ q=>q) λ_ _ q=>q
  rintro rfl
  rcases hcc with rfl | hcc
  ·rw[I7f] at e; cases e
  ·rw[I7f] at hcc; cases hcc
 have os7:s7.os=s3.os:=by have:=I7.os; rw[<- hX'] at this; exact this
 exact I3.call' (s':={ s7 with heap:=h8 }) (ch:=fp) os7 u8 hok8 I7.bare (λb hb=>⟨(f3 b hb).2.2.2.1,(f3 b hb).2.1,(f3 b hb).2.2.2.2.1,(f3 b hb).2.2.2.2.2⟩)
theorem aO{X X':Cx}{σ':L2.St}{H3 H6:Hp}{s3 s7:Ag}{scope:Scope}{cl:List (Str×Addr)}{N:List Str}{fp:List Addr}(hX':He X scope cl N fp s3 H3=X')(I4:Inv X' [] σ' H6 s7){H':Hp}(hn:∀b∈fp,H' b=none):∀b∈fp,Ph X' [] H' b:=λb hb=>by
 have ok:=I4.ok
 have hex:b∈X'.ex:=by rw[<- hX']; exact hb
 exact ⟨hn b hb,(ok.exf b hex).1,ok.exfs b hex,.inl hex,(ok.exf b hex).2,λp hp=>by rw[<- hX'] at hp; cases (show p∈([]:List (Addr×Obj)) from hp)⟩
theorem iO{X X':Cx}{H3:Hp}{s3:Ag}{scope:Scope}{cl:List (Str×Addr)}{N:List Str}{fp:List Addr}(hc:X.calm=true)(hX':He X scope cl N fp s3 H3=X'):X'.prog=X.prog/\X'.w=X.w/\X'.K=X.K/\X'.A=X.A/\X'.calm=true:=by
 subst hX'
 exact ⟨rfl,rfl,rfl,rfl,hc⟩
theorem oS{X X':Cx}{pins:List (Addr×Obj)}{σ σ':L2.St}{H3 H6:Hp}{s3 s7:Ag}{scope:Scope}{cl:List (Str×Addr)}{N:List Str}{fp:List Addr}(hX':He X scope cl N fp s3 H3=X')(I3:Inv X pins σ H3 s3)(f3:∀b∈fp,Ph X pins H3 b)(I7:Inv X' [] σ' H6 s7):(∃m7,s7.heap.Ns s3.heap.objs.size m7)/\H6 s3.heap.objs.size=none/\Inv X pins σ H6 s7:=by
 subst hX'
 obtain ⟨m7,hn7,_⟩:=I7.loc
 exact ⟨⟨m7,hn7⟩,I7.free,I3.call' (s':=s7) (ch:=fp) I7.os I7.base I7.hok I7.bare (λb hb=>⟨(f3 b hb).2.2.2.1,(f3 b hb).2.1,(f3 b hb).2.2.2.2.1,(f3 b hb).2.2.2.2.2⟩)⟩
theorem fF{X:Cx}{pins:List (Addr×Obj)}{σ:L2.St}{H2:Hp}{s2:Ag}{tg:Expr}{J:It}{fp:List Addr}{it:Addr}{tn:Nat->Heap->Prop}(I2:Inv X pins σ H2 s2)(T:Turn X.prog X.w X.K tg J fp it tn)(st2:tn 0 s2.heap)(f2:∀b∈fp,Ph X pins H2 b){ob:Obj}{ho:HO}(I3:Inv X pins σ (upd H2 s2.heap.objs.size ho) { s2 with heap:=s2.heap.push ob }):(∀b∈fp,Ph X pins (upd H2 s2.heap.objs.size ho) b)/\tn 0 (s2.heap.push ob)/\∀b∈fp,∃o,(s2.heap.push ob).get? b=some o:=by
 have Re:tn 0 (s2.heap.push ob):=T.keep 0 _ _ st2 λb hb o q=>Am _ q
 refine ⟨λb hb=>⟨?_,(f2 b hb).2⟩,Re,λb hb=>?_⟩
 ·rw[Eg ?_]
  ·exact (f2 b hb).1
  ·intro z
   obtain ⟨o,q,_⟩:=T.obj _ _ st2 b hb
   have:=Bk q
   rw[z] at this
   exact absurd this (Hh _)
 ·obtain ⟨o,q,_⟩:=T.obj _ _ Re b hb
  exact ⟨o,q⟩
theorem zW{elt iter:Expr}{x:Str}{px pos:Pos}{ifs:List Expr}{scope:Scope}{cl:List (Str×Addr)}{ys:List Str}{js:List Nat}{wi:TI}{tc:TT}{te:TE}(C:CompScope X scope cl x ys js)(hc:X.calm=true)(hi:PI X (.Name x px) iter wi)(ht:∀fp s H,vT (He X scope cl (x::ys) fp s H) ifs tc)(he:∀fp s H,PE (He X scope cl (x::ys) fp s H) elt te)(hs:∀x,Jl iter X.env x=pure x:=by intro _; rfl):PE X (.ListComp elt [⟨.Name x px,iter,ifs,0⟩] scope pos) (mZ wi js tc te):=by
 intro pins s σ H Q I h
 rw[eval_ListComp]
 refine qL (use:=none) rfl hs C.clos C.kind C.locs (Hf (hi pins s σ H _ I h) λv s1 h1=>Hf h1 λitv s2 h2=>?_)
 obtain ⟨it,fp,tn,J,H2,e,I2,T,st2,f2,q2⟩:=h2
 subst e
 have fD:H2 s2.heap.objs.size=none:=I2.hok.fresh (Ah _)
 obtain ⟨W,⟨m0,w0⟩,turn⟩:=q2 s2.heap.objs.size fD
 refine Ef ?_
 have I3:Inv X pins σ (upd H2 s2.heap.objs.size (.lst [])) { s2 with heap:=s2.heap.push { cls:=.type "list",dict:=none,data:=.seq ([]:List Value).toArray } } :=
  I2.laid (t':=s2.toks) (λb u q=>Am _ q) (Ah _) ⟨Ds _,[],0,.nil,Br _ rfl⟩
 obtain ⟨f3,st3',o3'⟩:=fF I2 T st2 f2 I3
 generalize hS3:({ s2 with heap:=s2.heap.push { cls:=.type "list",dict:=none,data:=.seq ([]:List Value).toArray } }:Ag)=s3 at I3
 have Re:tn 0 s3.heap:=by rw[<- hS3]; exact st3'
 have o3:∀b∈fp,∃o,s3.heap.get? b=some o:=by rw[<- hS3]; exact o3'
 show wpAny _ _ (Vv scope X.env.globals cl [] X.env.qual none .none (some X.env)) _ _ _
 refine bJ C λh4 hns4 keep4 new4=>?_
 have I4:∀tk,Inv (He X scope cl (x::ys) fp s3 (upd H2 s2.heap.objs.size (.lst []))) [] (none::Jp σ js) (upd H2 s2.heap.objs.size (.lst [])) { s3 with heap:=h4,toks:=tk }:=λtk=>Yh (pre:=[x]) C I3 f3 o3 hns4 keep4 new4
 have st4:tn 0 h4:=T.keep 0 _ _ Re λb hb o q=>keep4 b o q
 generalize hX':He X scope cl (x::ys) fp s3 (upd H2 s2.heap.objs.size (.lst []))=X' at I4
 obtain ⟨eP,eW,eK,eA,eC⟩:=iO hc hX'
 have stat:∀{H':Hp},(∀b∈fp,H' b=none)->∀b∈fp,Ph X' [] H' b:=λ{H'} hn=>aO hX' (I4 0) hn
 have loop:∀s5:Ag,s5={ s3 with heap:=h4,toks:=s3.toks+([]:List (Str×Value)).length } ->
   Mv (model X.prog X.w) X.A (.compLoop (.ListComp elt [⟨.Name x px,iter,ifs,0⟩] scope pos) 0 (.ref it) (.ref s2.heap.objs.size) (compEnvC scope (Ek (s3.heap.objs.size+1) scope.names cl) s3.heap.objs.size X.env))
    (compPost (model X.prog X.w) X.A X.xe none (EP X pins σ Q) (.ref s2.heap.objs.size) s3.heap.objs.size) s5:=by
  rintro s5 rfl
  refine Yp (λn s'=>∃i o H',Inv X' [] (o::Jp σ js) H' s'/\tn i s'.heap/\(∀b∈fp,H' b=none)/\W i n H') ?_ m0
   ⟨0,none,_,I4 _,st4,λb hb=>(f3 b hb).1,w0⟩
  (intro n s6 q_; obtain ⟨i,o,H6,I6,st6,fr6,w6⟩ := q_)
  rcases turn i n H6 w6 with ⟨stop,qn⟩ | ⟨go,step⟩
  ·have hd:=T.done X' eP eW eK eC i [] s6 _ H6 (λ_ _=>False) I6 (stat fr6) st6 stop
   rw[eA] at hd
   refine Hf hd λr s7 q0_ => ?_
   obtain ⟨hr,I7⟩ := q0_
   subst hr
   obtain ⟨m7,hn7,fin7⟩:=kG hX' I3 f3 I7
   exact ⟨m7,hn7,λh8 hs8=>⟨.ref s2.heap.objs.size,H6,fin7 h8 hs8,rfl,qn⟩⟩
  ·have hit:=T.item X' eP eW eK eC i [] s6 _ H6 (λ_ _=>False) I6 (stat fr6) st6 go
   rw[eA] at hit
   refine Hf hit λr s7 q0_ => ?_
   obtain ⟨u,hr,h7⟩ := q0_
   subst hr
   refine Hf h7 λ_ s8 q0_ => ?_
   obtain ⟨y,H8,I8,r8,y8,st8,fr8⟩ := q0_
   have I8':=I8.pinned (stat fr8) (T.obj _ _ st8)
   obtain ⟨N1,N2,hN1,hN2,hst⟩:=step y H8 y8
   have again:∀{H9:Hp} {s9:Ag} {m':Nat},Inv X' ([]++Ut fp s8.heap) (some y::Jp σ js) H9 s9->m'<n->W (i+1) m' H9->∃m,m<n/\∃i o H',Inv X' [] (o::Jp σ js) H' s9/\tn i s9.heap/\(∀b∈fp,H' b=none)/\W i m H':=λ{H9 s9 m'} I9 hm w9=>by
    refine ⟨m',hm,i+1,some y,H9,I9.unpinned,T.keep _ _ _ st8 λb hb o e=>(I9.pin (b,o) (Al _ (Al _ (Kv hb e)))).1,λb hb=>?_,w9⟩
    obtain ⟨o,e,_⟩:=T.obj _ _ st8 b hb
    exact (I9.pin (b,o) (Al _ (Al _ (Kv hb e)))).2.1
   subst hX'
   refine Hf (Wv (i:=0) (x:=x) (pos:=px) C.nd rfl (mD C.own) (tH C.own) _ s8 _ H8 y u (λσ' H'=>σ'=some y::Jp σ js/\H'=H8) I8' r8 ⟨rfl,rfl⟩) λ_ s9 q0_ => ?_
   obtain ⟨σ9,H9,I9,e9,e9'⟩ := q0_
   subst e9 e9'
   refine Hf (ht fp s3 _ _ s9 _ _ _ I9 hst) λok s10 q0_ => ?_
   obtain ⟨H10,I10,q10⟩ := q0_
   cases ok with
   | false =>
    rw[if_neg Cm] at q10 ⊢
    obtain ⟨m',hm,w10⟩:=hN1 _ q10
    exact again I10 hm w10
   | true =>
    rw[if_pos rfl] at q10 ⊢
    refine Hf (he fp s3 _ _ s10 _ _ _ I10 q10) λz s11 q0_ => ?_
    obtain ⟨vz,H11,I11,r11,q11⟩ := q0_
    obtain ⟨acc,ha,hz,m',hm,w11⟩:=hN2 _ _ q11
    refine Hf (Qg _ s11 _ H11 (.ref s2.heap.objs.size) [vz] (.ref s2.heap.objs.size) [z] (λ_ H'=>H'=upd H11 s2.heap.objs.size (.lst (acc++[vz]))) I11 rfl (.cons r11 .nil) ⟨_,acc,vz,rfl,rfl,ha,hz,rfl⟩) λ_ s12 q0_ => ?_
    obtain ⟨_,H12,I12,_,e12⟩ := q0_
    subst e12
    exact again I12 hm w11
 exact vY (loop _ rfl) (T.self X.A 0 _ _ _ st4 (loop _ rfl))
end
theorem Ft{H:Hp}{p:Addr}(h:H p=none)(o:HO):Wd H (upd H p o):=λb u q=>by rw[Eg (Fo q h)]; exact q
theorem aV{α:Type}{xs:List α}{i:Nat}{x:α}(h:xs[i]? = some x):xs.take (i+1)=xs.take i++[x]:=by
 rw[List.take_succ,h]; rfl
mutual
inductive RdV (K:PySem.W.Frag) (H:Hp):V->Ac->Prop
 | non:RdV K H .non .none
 | bl (b:Bool):RdV K H (.bl b) (.bool b)
 | int (i:Int):RdV K H (.int i) (.int i)
 | str (x:Str):RdV K H (.str x) (.str x)
 | lst {a:Addr} {xs:List V} {ds:List Ac}:Sn K H a xs->RdVs K H xs ds->RdV K H (.ref a) (.list ds)
 | tup {a:Addr} {xs:List V} {ds:List Ac}:Sg K H a xs->RdVs K H xs ds->RdV K H (.ref a) (.tuple ds)
inductive RdVs (K:PySem.W.Frag) (H:Hp):List V->List Ac->Prop
 | nil:RdVs K H [] []
 | cons {x:V} {d:Ac} {xs:List V} {ds:List Ac}:RdV K H x d->RdVs K H xs ds->RdVs K H (x::xs) (d::ds)
end
mutual
def V2(b:Nat):Ac->Prop
 | .none=>True
 | .bool _=>True
 | .int i=>i.natAbs<10 ^ b
 | .str x=>(reprText x).length<=b
 | .list xs=>dP b xs
 | .tuple xs=>dP b xs
 | .dict _=>False
def dP(b:Nat):List Ac->Prop
 | []=>True
 | x::xs=>V2 b x/\dP b xs
end
mutual
def t9:Ac->Nat
 | .list xs=>Xc xs+1
 | .tuple xs=>Xc xs+1
 | _=>1
def Xc:List Ac->Nat
 | []=>0
 | x::xs=>t9 x+Xc xs
end
theorem jW(ns:List Int):Bi (ns.map Ca)=0:=by
 induction ns with
 | nil=>rfl
 | cons n ns ih=>simp only[Aw,Bi,Dd,ih,Nat.max_self]
theorem Vj{m:Nat}:∀{xs:List Ac},(∀x∈xs,x.depth<=m)->Bi xs<=m
 | [],_=>by simp [Bi]
 | x::xs,h=>by
  have h1:=h x (Aa ..)
  have h2:=Vj (xs:=xs) λy hy=>h y (Af _ hy)
  simp only[Bi]
  omega
section
variable{X:Cx}{pins:List (Addr×Obj)}{σ:L2.St}{H:Hp}{s:Ag}{A:Co}
theorem Vc(A:Co):A.in1.units<=A.units+1:=by
 first | exact Ah _ | (simp [Around.in1]; done) | (unfold Around.in1; simp)
theorem fM:Kf X (.builtin "isinstance") (λxs H Q=>∃x n t b,xs=[x,.ty n]/\TyOf X.K H x t/\PySem.W.kitOne X.K t (.type n)=some b/\Q (.bl b) H):=by
 intro pins s σ H xs us Q I r h
 obtain ⟨x,n,t,b,rfl,ty,e,q⟩:=h
 obtain ⟨u,v,rfl,ru,rv⟩:=vals2 r
 cases rv
 exact pM I ru ty e λtk=>⟨.bl b,H,I.tok _,rfl,q⟩
end
section
variable{prog:Be}{w:World}{A:Co}{E:Value->Ag->Prop}{s:Ag}
theorem Rc{t sl:Addr}{items:Array Value}{vl vu:Value}{lo hi:Option Int}{Q:Value->Ag->Prop}(ht:IsTup s.heap t items)(hs:s.heap.IsSliceOf sl vl vu .none)(pl:Wa vl lo)(pu:Wa vu hi)(hw:HT.sIx items.size 0 lo=0/\HT.sIx items.size items.size hi=items.size)(h:Q (.ref t) s):wpAny (model prog w) A (Qb (.ref t) (.ref sl)) Q E s:=by
 obtain ⟨os,hos,hcs,hds⟩:=id hs
 have hTs:s.TypeIs (.ref sl) "slice" := ⟨os,hos,hcs⟩
 unfold Qb
 try with_reducible refine Ej ?_
 first | refine Ab (Aj ?_) | skip
 refine Ab (bQ ht.typeIs (by decide) ?_)
 refine Ab (Ib (name:=Lc "__getitem__") ht.typeIs Ec
  (Gp Ec ht.typeIs entry_tuple_getitem ?_ (args_tuple_getitem _ _)))
 show wpAny _ _ (Ue (.ref t) >>= _) _ _ s
 refine Ab (tupleItemsOf_ ht ?_)
 refine Ab (Kc hTs ?_)
 rw[if_pos (by decide)]
 refine Ab (HT.sliceApplied_gen hs pl pu ?_)
 rw[hw.1,hw.2]
 have hyes:(((0:Nat):Int) == 0 && (1:Int) == 1 && (items.size - 0) == items.size)=true:=by simp
 show wpAny _ _ (if (((0:Nat):Int) == 0 && (1:Int) == 1 && (items.size - 0) == items.size)=true then _ else _) _ _ s
 rw[if_pos hyes]
 have hex:∀{R:Bool->Ag->Prop},R true s->wpAny (model prog w) A.in1 (Ug (.ref t)) R E s:=λ{R} hR=>by
  unfold Ug
  refine Ab (Kc ht.typeIs (Aj ?_))
  rw[beq_self_eq_true]
  exact hR
 refine Ab (hex ?_)
 rw[if_pos rfl]
 exact Ab (wpAny_rule (Aj ⟨_,rfl,Aj h⟩))
end
mutual
def Do:Ac->Ac->Bool
 | .none,.none=>true
 | .bool a,.bool b=>a == b
 | .bool a,.int b=>(if a then 1 else 0) == b
 | .int a,.bool b=>a == (if b then 1 else 0)
 | .int a,.int b=>a == b
 | .str a,.str b=>a == b
 | .list xs,.list ys=>Mp xs ys
 | .tuple xs,.tuple ys=>Mp xs ys
 | _,_=>false
def Mp:List Ac->List Ac->Bool
 | [],[]=>true
 | x::xs,y::ys=>Do x y && Mp xs ys
 | _,_=>false
end
theorem Mk:∀ds es:List Ac,(((Bp (min ds.length es.length)).all λj=>Do (ds.getD j .none) (es.getD j .none)) && ds.length == es.length)=Mp ds es
 | [],[]=>by simp [Mp]
 | [],_::_=>by simp [Mp]
 | _::_,[]=>by simp [Mp]
 | d::ds,e::es=>by
  have ih:=Mk ds es
  rw[Mp,<- ih]
  have h1:min (d::ds).length (e::es).length=min ds.length es.length+1:=by simp only[Ba]; omega
  rw[h1,List.range_succ_eq_map,List.all_cons,List.all_map]
  have h2:((d::ds).length == (e::es).length)=(ds.length == es.length):=by
   rw[Bool.eq_iff_iff]; simp
  rw[h2,Bool.and_assoc]
  rfl
section
variable{X:Cx}{pins:List (Addr×Obj)}{σ:L2.St}{H:Hp}{s:Ag}{K:PySem.W.Frag}
mutual
theorem RdV.eqD_self:∀{v:V} {d:Ac},RdV K H v d->Do d d=true
 | _,_,.non=>by simp [Do]
 | _,_,.bl b=>by simp [Do]
 | _,_,.int i=>by simp [Do]
 | _,_,.str x=>by simp [Do]
 | _,_,.lst _ h=>by rw[Do]; exact RdVs.eqDs_self h
 | _,_,.tup _ h=>by rw[Do]; exact RdVs.eqDs_self h
theorem RdVs.eqDs_self:∀{vs:List V} {ds:List Ac},RdVs K H vs ds->Mp ds ds=true
 | _,_,.nil=>by simp [Mp]
 | _,_,.cons h t=>by rw[Mp,RdV.eqD_self h,RdVs.eqDs_self t]; rfl
end
theorem gM(I:Inv X pins σ H s){a:Addr}{xs ys:List V}(h1:Sn X.K H a xs)(h2:Sg X.K H a ys):False:=by
 obtain ⟨us,_,p1,_⟩:=I.list h1
 obtain ⟨vs,_,p2,_⟩:=I.tuple h2
 exact SeqAt.ne_of_list_tuple p1.isList p2 rfl
mutual
theorem RdV.det(I:Inv X pins σ H s):∀{v:V} {d e:Ac},RdV X.K H v d->RdV X.K H v e->d=e
 | _,_,_,.non,h=>by cases h; rfl
 | _,_,_,.bl b,h=>by cases h; rfl
 | _,_,_,.int i,h=>by cases h; rfl
 | _,_,_,.str x,h=>by cases h; rfl
 | _,_,_,.lst q r,h=>by
  cases h with
  | lst q' r' =>
   have e:=I.list_inj q q'
   subst e
   rw[RdVs.det I r r']
  | tup q' r'=>exact (gM I q q').elim
 | _,_,_,.tup q r,h=>by
  cases h with
  | lst q' r'=>exact (gM I q' q).elim
  | tup q' r' =>
   have e:=I.tuple_inj q q'
   subst e
   rw[RdVs.det I r r']
theorem RdVs.det(I:Inv X pins σ H s):∀{vs:List V} {ds es:List Ac},RdVs X.K H vs ds->RdVs X.K H vs es->ds=es
 | _,_,_,.nil,h=>by cases h; rfl
 | _,_,_,.cons r t,h=>by
  cases h with
  | cons r' t'=>rw[RdV.det I r r',RdVs.det I t t']
end
theorem RdVs.length:∀{vs:List V} {ds:List Ac},RdVs K H vs ds->vs.length=ds.length
 | _,_,.nil=>rfl
 | _,_,.cons _ t=>by rw[Ba,Ba,RdVs.length t]
theorem Uv{A:Co}{n:Nat}(h:A.units+(n+1)<cLine):A.in1.units+n<cLine:=by
 have:=Vc A
 omega
theorem eV{A:Co}{a b:Addr}{us vs:List Value}{ds es:List Ac}(p1:PlainL s.heap a us.toArray)(p2:PlainL s.heap b vs.toArray)(l1:us.length=ds.length)(l2:vs.length=es.length)(hu:A.units<cLine)(he:∀j (h1:j<us.length) (h2:j<vs.length),Lj A.in1 s us[j] vs[j] (Do (ds.getD j .none) (es.getD j .none))):SeqAt.RcAt A s (.ref a) (.ref b) (Mp ds es):=by
 rw[<- Mk]
 by_cases hl:ds.length=es.length
 ·have hs:us.toArray.size=vs.toArray.size:=by rw[Ar,Ar,l1,l2,hl]
  have h:=SeqAt.RcAt.lists (A:=A) (e:=λj=>Do (ds.getD j .none) (es.getD j .none)) p1.isList p2.isList hs hu (λj h1 h2=>by simpa using he j (by simpa using h1) (by simpa using h2))
  rw[Ar,l1] at h
  rw[hl,Nat.min_self,beq_self_eq_true,Bool.and_true,<- hl]
  exact h
 ·have hs:(us.toArray.size != vs.toArray.size)=true:=by rw[Ar,Ar,l1,l2]; simpa using hl
  have h:=SeqAt.RcAt.lists_lengths (A:=A) p1.isList p2.isList hs hu
  have e0:(ds.length == es.length)=false:=by simpa using hl
  rw[e0,Sf]
  exact h
theorem aR{A:Co}{a b:Addr}{us vs:List Value}{ds es:List Ac}(p1:IsTup s.heap a us.toArray)(p2:IsTup s.heap b vs.toArray)(l1:us.length=ds.length)(l2:vs.length=es.length)(hu:A.units<cLine)(he:∀j (h1:j<us.length) (h2:j<vs.length),Lj A.in1 s us[j] vs[j] (Do (ds.getD j .none) (es.getD j .none))):SeqAt.RcAt A s (.ref a) (.ref b) (Mp ds es):=by
 rw[<- Mk]
 have h:=SeqAt.RcAt.tuples (A:=A) (e:=λj=>Do (ds.getD j .none) (es.getD j .none)) (show s.heap.IsTuple a us.toArray from p1) (show s.heap.IsTuple b vs.toArray from p2) hu (λj h1 h2=>by simpa using he j (by simpa using h1) (by simpa using h2))
 rw[Ar,Ar,l1,l2] at h
 exact h
mutual
theorem uU(I:Inv X pins σ H s):∀{A:Co} {x y:V} {d e:Ac} {u v:Value},RdV X.K H x d->RdV X.K H y e->RelV x u->RelV y v->A.units+d.depth<cLine->Lj A s u v (Do d e)
 | A,_,_,_,_,_,_,.non,h,ru,rv,hu=>by
  cases ru
  have hu':A.units<cLine:=by omega
  cases h with
  | non=>cases rv; rw[Do]; exact SeqAt.EqAt.same _
  | bl b=>cases rv; rw[Do]; exact SeqAt.EqAt.none_bool b; all_goals simp
  | int b=>obtain ⟨t,rfl⟩:=rv; rw[Do]; exact SeqAt.EqAt.none_int b t; all_goals simp
  | str b=>obtain ⟨t,rfl⟩:=rv; rw[Do]; exact SeqAt.EqAt.none_str b t; all_goals simp
  | lst q r=>cases rv; obtain ⟨us,_,p,_⟩:=I.list q; rw[Do]; exact SeqAt.EqAt.none_list p.isList hu'; all_goals simp
  | tup q r=>cases rv; obtain ⟨us,_,p,_⟩:=I.tuple q; rw[Do]; exact SeqAt.EqAt.none_tuple p hu'; all_goals simp
 | A,_,_,_,_,_,_,.bl a,h,ru,rv,hu=>by
  cases ru
  have hu':A.units<cLine:=by omega
  cases h with
  | non=>cases rv; rw[Do]; exact SeqAt.EqAt.bool_none a; all_goals simp
  | bl b=>cases rv; rw[Do]; exact SeqAt.EqAt.bool_bool a b
  | int b=>obtain ⟨t,rfl⟩:=rv; rw[Do]; exact SeqAt.EqAt.bool_int a b t
  | str b=>obtain ⟨t,rfl⟩:=rv; rw[Do]; exact SeqAt.EqAt.bool_str a b t; all_goals simp
  | lst q r=>cases rv; obtain ⟨us,_,p,_⟩:=I.list q; rw[Do]; exact SeqAt.EqAt.bool_list a p.isList hu'; all_goals simp
  | tup q r=>cases rv; obtain ⟨us,_,p,_⟩:=I.tuple q; rw[Do]; exact SeqAt.EqAt.bool_tuple a p hu'; all_goals simp
 | A,_,_,_,_,_,_,.int a,h,ru,rv,hu=>by
  obtain ⟨t',rfl⟩:=ru
  have hu':A.units<cLine:=by omega
  cases h with
  | non=>cases rv; rw[Do]; exact SeqAt.EqAt.int_none a t'; all_goals simp
  | bl b=>cases rv; rw[Do]; exact SeqAt.EqAt.int_bool a t' b
  | int b=>obtain ⟨t,rfl⟩:=rv; rw[Do]; exact SeqAt.EqAt.int_int a t' b t
  | str b=>obtain ⟨t,rfl⟩:=rv; rw[Do]; exact SeqAt.EqAt.int_str a t' b t; all_goals simp
  | lst q r=>cases rv; obtain ⟨us,_,p,_⟩:=I.list q; rw[Do]; exact SeqAt.EqAt.int_list a t' p.isList hu'; all_goals simp
  | tup q r=>cases rv; obtain ⟨us,_,p,_⟩:=I.tuple q; rw[Do]; exact SeqAt.EqAt.int_tuple a t' p hu'; all_goals simp
 | A,_,_,_,_,_,_,.str a,h,ru,rv,hu=>by
  obtain ⟨t',rfl⟩:=ru
  have hu':A.units<cLine:=by omega
  cases h with
  | non=>cases rv; rw[Do]; exact SeqAt.EqAt.str_none a t'; all_goals simp
  | bl b=>cases rv; rw[Do]; exact SeqAt.EqAt.str_bool a t' b; all_goals simp
  | int b=>obtain ⟨t,rfl⟩:=rv; rw[Do]; exact SeqAt.EqAt.str_int a t' b t; all_goals simp
  | str b=>obtain ⟨t,rfl⟩:=rv; rw[Do]; exact SeqAt.EqAt.str_str a t' b t
  | lst q r=>cases rv; obtain ⟨us,_,p,_⟩:=I.list q; rw[Do]; exact SeqAt.EqAt.str_list a t' p.isList hu'; all_goals simp
  | tup q r=>cases rv; obtain ⟨us,_,p,_⟩:=I.tuple q; rw[Do]; exact SeqAt.EqAt.str_tuple a t' p hu'; all_goals simp
 | A,_,_,_,_,_,_,@RdV.lst _ _ a xs ds q r,h,ru,rv,hu=>by
  cases ru
  have hu':A.units<cLine:=by omega
  obtain ⟨us,r1,p,_⟩:=I.list q
  cases h with
  | non=>cases rv; rw[Do]; exact SeqAt.EqAt.list_none p.isList hu'; all_goals simp
  | bl b=>cases rv; rw[Do]; exact SeqAt.EqAt.list_bool b p.isList hu'; all_goals simp
  | int b=>obtain ⟨t,rfl⟩:=rv; rw[Do]; exact SeqAt.EqAt.list_int b t p.isList hu'; all_goals simp
  | str b=>obtain ⟨t,rfl⟩:=rv; rw[Do]; exact SeqAt.EqAt.list_str b t p.isList hu'; all_goals simp
  | @lst b ys es q2 rr2 =>
   cases rv
   obtain ⟨vs,r2,p2,_⟩:=I.list q2
   rw[Do]
   by_cases hab:a=b
   ·subst hab
    have e:=I.list_inj q q2
    subst e
    rw[<- RdVs.det I r rr2,RdVs.eqDs_self r]
    exact SeqAt.EqAt.same _
   ·refine SeqAt.EqAt.of_refs hab (eV p p2 (r1.length.symm.trans r.length) (r2.length.symm.trans rr2.length) hu' λj h1 h2=>?_)
    exact Ox I r rr2 r1 r2 (Uv (by simpa only [Dd] using hu)) j h1 h2
  | tup q2 rr2=>cases rv; obtain ⟨vs,_,p2,_⟩:=I.tuple q2; rw[Do]; exact SeqAt.EqAt.list_tuple p.isList p2 hu'; all_goals simp
 | A,_,_,_,_,_,_,@RdV.tup _ _ a xs ds q r,h,ru,rv,hu=>by
  cases ru
  have hu':A.units<cLine:=by omega
  obtain ⟨us,r1,p,_⟩:=I.tuple q
  cases h with
  | non=>cases rv; rw[Do]; exact SeqAt.EqAt.tuple_none p hu'; all_goals simp
  | bl b=>cases rv; rw[Do]; exact SeqAt.EqAt.tuple_bool b p hu'; all_goals simp
  | int b=>obtain ⟨t,rfl⟩:=rv; rw[Do]; exact SeqAt.EqAt.tuple_int b t p hu'; all_goals simp
  | str b=>obtain ⟨t,rfl⟩:=rv; rw[Do]; exact SeqAt.EqAt.tuple_str b t p hu'; all_goals simp
  | lst q2 rr2=>cases rv; obtain ⟨vs,_,p2,_⟩:=I.list q2; rw[Do]; exact SeqAt.EqAt.tuple_list p p2.isList hu'; all_goals simp
  | @tup b ys es q2 rr2 =>
   cases rv
   obtain ⟨vs,r2,p2,_⟩:=I.tuple q2
   rw[Do]
   by_cases hab:a=b
   ·subst hab
    have e:=I.tuple_inj q q2
    subst e
    rw[<- RdVs.det I r rr2,RdVs.eqDs_self r]
    exact SeqAt.EqAt.same _
   ·refine SeqAt.EqAt.of_refs hab (aR p p2 (r1.length.symm.trans r.length) (r2.length.symm.trans rr2.length) hu' λj h1 h2=>?_)
    exact Ox I r rr2 r1 r2 (Uv (by simpa only [Dd] using hu)) j h1 h2
theorem Ox(I:Inv X pins σ H s):∀{A:Co} {xs ys:List V} {ds es:List Ac} {us vs:List Value},RdVs X.K H xs ds->RdVs X.K H ys es->Fg xs us->Fg ys vs->A.units+Bi ds<cLine->∀j (h1:j<us.length) (h2:j<vs.length),Lj A s us[j] vs[j] (Do (ds.getD j .none) (es.getD j .none))
 | _,_,_,_,_,_,_,.nil,_,r1,_,_=>λj h1 h2=>by cases r1; exact absurd h1 (Dr _)
 | A,_,_,_,_,_,_,@RdVs.cons _ _ x d xs ds r t,h,r1,r2,hu=>λj h1 h2=>by
  cases h with
  | nil=>cases r2; exact absurd h2 (Dr _)
  | cons r' t' =>
   cases r1 with
   | cons ra ta =>
    cases r2 with
    | cons rb tb =>
     have hm:A.units+d.depth<cLine/\A.units+Bi ds<cLine:=by
      simp only[Bi] at hu
      omega
     cases j with
     | zero=>simpa using uU I r r' ra rb hm.1
     | succ j=>simpa using Ox I t t' ta tb hm.2 j (by simpa using h1) (by simpa using h2)
end
end
section
variable{X:Cx}{pins:List (Addr×Obj)}{σ:L2.St}{H:Hp}{s:Ag}{K:PySem.W.Frag}
theorem nY{A:Co}{a b:Addr}{us vs:List Value}{ds es:List Ac}(p1:PlainL s.heap a us.toArray)(p2:PlainL s.heap b vs.toArray)(l1:us.length=ds.length)(l2:vs.length=es.length)(hu:A.units<cLine)(he:∀j (h1:j<us.length) (h2:j<vs.length),Lj A.in1 s us[j] vs[j] (Do (ds.getD j .none) (es.getD j .none))):SeqAt.RcNeAt A s (.ref a) (.ref b) (!Mp ds es):=by
 rw[<- Mk]
 by_cases hl:ds.length=es.length
 ·have hs:us.toArray.size=vs.toArray.size:=by rw[Ar,Ar,l1,l2,hl]
  have h:=SeqAt.RcNeAt.lists (A:=A) (e:=λj=>Do (ds.getD j .none) (es.getD j .none)) p1.isList p2.isList hs hu (λj h1 h2=>by simpa using he j (by simpa using h1) (by simpa using h2))
  rw[Ar,l1] at h
  rw[hl,Nat.min_self,beq_self_eq_true,Bool.and_true,<- hl]
  exact h
 ·have hs:(us.toArray.size != vs.toArray.size)=true:=by rw[Ar,Ar,l1,l2]; simpa using hl
  have h:=SeqAt.RcNeAt.lists_lengths (A:=A) p1.isList p2.isList hs hu
  have e0:(ds.length == es.length)=false:=by simpa using hl
  rw[e0,Sf]
  exact h
theorem kQ{A:Co}{a b:Addr}{us vs:List Value}{ds es:List Ac}(p1:IsTup s.heap a us.toArray)(p2:IsTup s.heap b vs.toArray)(l1:us.length=ds.length)(l2:vs.length=es.length)(hu:A.units<cLine)(he:∀j (h1:j<us.length) (h2:j<vs.length),Lj A.in1 s us[j] vs[j] (Do (ds.getD j .none) (es.getD j .none))):SeqAt.RcNeAt A s (.ref a) (.ref b) (!Mp ds es):=by
 rw[<- Mk]
 have h:=SeqAt.RcNeAt.tuples (A:=A) (e:=λj=>Do (ds.getD j .none) (es.getD j .none)) (show s.heap.IsTuple a us.toArray from p1) (show s.heap.IsTuple b vs.toArray from p2) hu (λj h1 h2=>by simpa using he j (by simpa using h1) (by simpa using h2))
 rw[Ar,Ar,l1,l2] at h
 exact h
end
section
variable{X:Cx}
def R4(K:PySem.W.Frag):R2:=λx y H Q=>∃d e,RdV K H x d/\RdV K H y e/\d.depth<=60/\Q (.bl (Do d e)) H
def O6(K:PySem.W.Frag):R2:=λx y H Q=>∃d e,RdV K H x d/\RdV K H y e/\d.depth<=60/\Q (.bl (!Do d e)) H
theorem uM(hu:X.A.units+64<cLine):Tu X (Fj .Eq) (R4 X.K):=by
 intro pins s σ H x y v u Q I rx ry h
 obtain ⟨d,e,h1,h2,hd,q⟩:=h
 have hu':X.A.units<cLine:=by omega
 cases h1 with
 | non =>
  cases rx
  cases h2 with
  | non=>cases ry; rw[Do] at q; exact SeqAt.RcAt.none_none _ _ _ _ ⟨.bl _,H,I,rfl,q⟩
  | bl b=>cases ry; rw[Do] at q; exact SeqAt.RcAt.none_bool b _ _ _ _ ⟨.bl _,H,I,rfl,q⟩; all_goals simp
  | int b=>obtain ⟨t,rfl⟩:=ry; rw[Do] at q; exact SeqAt.RcAt.none_int b t _ _ _ _ ⟨.bl _,H,I,rfl,q⟩; all_goals simp
  | str b=>obtain ⟨t,rfl⟩:=ry; rw[Do] at q; exact SeqAt.RcAt.none_str b t _ _ _ _ ⟨.bl _,H,I,rfl,q⟩; all_goals simp
  | @lst b ys es q2 rr2=>cases ry; obtain ⟨vs,r2,p2,_⟩:=I.list q2; rw[Do] at q; exact SeqAt.RcAt.none_list p2.isList hu' _ _ _ _ ⟨.bl _,H,I,rfl,q⟩; all_goals simp
  | @tup b ys es q2 rr2=>cases ry; obtain ⟨vs,r2,p2,_⟩:=I.tuple q2; rw[Do] at q; exact SeqAt.RcAt.none_tuple p2 hu' _ _ _ _ ⟨.bl _,H,I,rfl,q⟩; all_goals simp
 | bl a =>
  cases rx
  cases h2 with
  | non=>cases ry; rw[Do] at q; exact SeqAt.RcAt.bool_none a _ _ _ _ ⟨.bl _,H,I,rfl,q⟩; all_goals simp
  | bl b=>cases ry; rw[Do] at q; exact SeqAt.RcAt.bool_bool a b _ _ _ _ ⟨.bl _,H,I,rfl,q⟩
  | int b=>obtain ⟨t,rfl⟩:=ry; rw[Do] at q; exact SeqAt.RcAt.bool_int a b t _ _ _ _ ⟨.bl _,H,I,rfl,q⟩
  | str b=>obtain ⟨t,rfl⟩:=ry; rw[Do] at q; exact SeqAt.RcAt.bool_str a b t _ _ _ _ ⟨.bl _,H,I,rfl,q⟩; all_goals simp
  | @lst b ys es q2 rr2=>cases ry; obtain ⟨vs,r2,p2,_⟩:=I.list q2; rw[Do] at q; exact SeqAt.RcAt.bool_list a p2.isList hu' _ _ _ _ ⟨.bl _,H,I,rfl,q⟩; all_goals simp
  | @tup b ys es q2 rr2=>cases ry; obtain ⟨vs,r2,p2,_⟩:=I.tuple q2; rw[Do] at q; exact SeqAt.RcAt.bool_tuple a p2 hu' _ _ _ _ ⟨.bl _,H,I,rfl,q⟩; all_goals simp
 | int a =>
  obtain ⟨t',rfl⟩:=rx
  cases h2 with
  | non=>cases ry; rw[Do] at q; exact SeqAt.RcAt.int_none a t' _ _ _ _ ⟨.bl _,H,I,rfl,q⟩; all_goals simp
  | bl b=>cases ry; rw[Do] at q; exact SeqAt.RcAt.int_bool a t' b _ _ _ _ ⟨.bl _,H,I,rfl,q⟩
  | int b=>obtain ⟨t,rfl⟩:=ry; rw[Do] at q; exact SeqAt.RcAt.int_int a t' b t _ _ _ _ ⟨.bl _,H,I,rfl,q⟩
  | str b=>obtain ⟨t,rfl⟩:=ry; rw[Do] at q; exact SeqAt.RcAt.int_str a t' b t _ _ _ _ ⟨.bl _,H,I,rfl,q⟩; all_goals simp
  | @lst b ys es q2 rr2=>cases ry; obtain ⟨vs,r2,p2,_⟩:=I.list q2; rw[Do] at q; exact SeqAt.RcAt.int_list a t' p2.isList hu' _ _ _ _ ⟨.bl _,H,I,rfl,q⟩; all_goals simp
  | @tup b ys es q2 rr2=>cases ry; obtain ⟨vs,r2,p2,_⟩:=I.tuple q2; rw[Do] at q; exact SeqAt.RcAt.int_tuple a t' p2 hu' _ _ _ _ ⟨.bl _,H,I,rfl,q⟩; all_goals simp
 | str a =>
  obtain ⟨t',rfl⟩:=rx
  cases h2 with
  | non=>cases ry; rw[Do] at q; exact SeqAt.RcAt.str_none a t' _ _ _ _ ⟨.bl _,H,I,rfl,q⟩; all_goals simp
  | bl b=>cases ry; rw[Do] at q; exact SeqAt.RcAt.str_bool a t' b _ _ _ _ ⟨.bl _,H,I,rfl,q⟩; all_goals simp
  | int b=>obtain ⟨t,rfl⟩:=ry; rw[Do] at q; exact SeqAt.RcAt.str_int a t' b t _ _ _ _ ⟨.bl _,H,I,rfl,q⟩; all_goals simp
  | str b=>obtain ⟨t,rfl⟩:=ry; rw[Do] at q; exact SeqAt.RcAt.str_str a t' b t _ _ _ _ ⟨.bl _,H,I,rfl,q⟩
  | @lst b ys es q2 rr2=>cases ry; obtain ⟨vs,r2,p2,_⟩:=I.list q2; rw[Do] at q; exact SeqAt.RcAt.str_list a t' p2.isList hu' _ _ _ _ ⟨.bl _,H,I,rfl,q⟩; all_goals simp
  | @tup b ys es q2 rr2=>cases ry; obtain ⟨vs,r2,p2,_⟩:=I.tuple q2; rw[Do] at q; exact SeqAt.RcAt.str_tuple a t' p2 hu' _ _ _ _ ⟨.bl _,H,I,rfl,q⟩; all_goals simp
 | @lst a xs ds qa r =>
  cases rx
  obtain ⟨us,r1,p,_⟩:=I.list qa
  cases h2 with
  | non=>cases ry; rw[Do] at q; exact SeqAt.RcAt.list_none p.isList hu' _ _ _ _ ⟨.bl _,H,I,rfl,q⟩; all_goals simp
  | bl b=>cases ry; rw[Do] at q; exact SeqAt.RcAt.list_bool b p.isList hu' _ _ _ _ ⟨.bl _,H,I,rfl,q⟩; all_goals simp
  | int b=>obtain ⟨t,rfl⟩:=ry; rw[Do] at q; exact SeqAt.RcAt.list_int b t p.isList hu' _ _ _ _ ⟨.bl _,H,I,rfl,q⟩; all_goals simp
  | str b=>obtain ⟨t,rfl⟩:=ry; rw[Do] at q; exact SeqAt.RcAt.list_str b t p.isList hu' _ _ _ _ ⟨.bl _,H,I,rfl,q⟩; all_goals simp
  | @lst b ys es q2 rr2=>cases ry; obtain ⟨vs,r2,p2,_⟩:=I.list q2; rw[Do] at q; exact eV p p2 (r1.length.symm.trans r.length) (r2.length.symm.trans rr2.length) hu' (λj h1 h2=>Ox I r rr2 r1 r2 (Uv (by simp only[Dd] at hd; omega)) j h1 h2) _ _ _ _ ⟨.bl _,H,I,rfl,q⟩
  | @tup b ys es q2 rr2=>cases ry; obtain ⟨vs,r2,p2,_⟩:=I.tuple q2; rw[Do] at q; exact SeqAt.RcAt.list_tuple p.isList p2 hu' _ _ _ _ ⟨.bl _,H,I,rfl,q⟩; all_goals simp
 | @tup a xs ds qa r =>
  cases rx
  obtain ⟨us,r1,p,_⟩:=I.tuple qa
  cases h2 with
  | non=>cases ry; rw[Do] at q; exact SeqAt.RcAt.tuple_none p hu' _ _ _ _ ⟨.bl _,H,I,rfl,q⟩; all_goals simp
  | bl b=>cases ry; rw[Do] at q; exact SeqAt.RcAt.tuple_bool b p hu' _ _ _ _ ⟨.bl _,H,I,rfl,q⟩; all_goals simp
  | int b=>obtain ⟨t,rfl⟩:=ry; rw[Do] at q; exact SeqAt.RcAt.tuple_int b t p hu' _ _ _ _ ⟨.bl _,H,I,rfl,q⟩; all_goals simp
  | str b=>obtain ⟨t,rfl⟩:=ry; rw[Do] at q; exact SeqAt.RcAt.tuple_str b t p hu' _ _ _ _ ⟨.bl _,H,I,rfl,q⟩; all_goals simp
  | @lst b ys es q2 rr2=>cases ry; obtain ⟨vs,r2,p2,_⟩:=I.list q2; rw[Do] at q; exact SeqAt.RcAt.tuple_list p p2.isList hu' _ _ _ _ ⟨.bl _,H,I,rfl,q⟩; all_goals simp
  | @tup b ys es q2 rr2=>cases ry; obtain ⟨vs,r2,p2,_⟩:=I.tuple q2; rw[Do] at q; exact aR p p2 (r1.length.symm.trans r.length) (r2.length.symm.trans rr2.length) hu' (λj h1 h2=>Ox I r rr2 r1 r2 (Uv (by simp only[Dd] at hd; omega)) j h1 h2) _ _ _ _ ⟨.bl _,H,I,rfl,q⟩
theorem L6(hu:X.A.units+64<cLine):Tu X (Fj .NotEq) (O6 X.K):=by
 intro pins s σ H x y v u Q I rx ry h
 obtain ⟨d,e,h1,h2,hd,q⟩:=h
 have hu':X.A.units<cLine:=by omega
 cases h1 with
 | non =>
  cases rx
  cases h2 with
  | non=>cases ry; rw[Do] at q; exact SeqAt.RcNeAt.none_none _ _ _ _ ⟨.bl _,H,I,rfl,q⟩
  | bl b=>cases ry; rw[Do] at q; exact SeqAt.RcNeAt.none_bool b _ _ _ _ ⟨.bl _,H,I,rfl,q⟩; all_goals simp
  | int b=>obtain ⟨t,rfl⟩:=ry; rw[Do] at q; exact SeqAt.RcNeAt.none_int b t _ _ _ _ ⟨.bl _,H,I,rfl,q⟩; all_goals simp
  | str b=>obtain ⟨t,rfl⟩:=ry; rw[Do] at q; exact SeqAt.RcNeAt.none_str b t _ _ _ _ ⟨.bl _,H,I,rfl,q⟩; all_goals simp
  | @lst b ys es q2 rr2=>cases ry; obtain ⟨vs,r2,p2,_⟩:=I.list q2; rw[Do] at q; exact SeqAt.RcNeAt.none_list p2.isList hu' _ _ _ _ ⟨.bl _,H,I,rfl,q⟩; all_goals simp
  | @tup b ys es q2 rr2=>cases ry; obtain ⟨vs,r2,p2,_⟩:=I.tuple q2; rw[Do] at q; exact SeqAt.RcNeAt.none_tuple p2 hu' _ _ _ _ ⟨.bl _,H,I,rfl,q⟩; all_goals simp
 | bl a =>
  cases rx
  cases h2 with
  | non=>cases ry; rw[Do] at q; exact SeqAt.RcNeAt.bool_none a _ _ _ _ ⟨.bl _,H,I,rfl,q⟩; all_goals simp
  | bl b=>cases ry; rw[Do] at q; exact SeqAt.RcNeAt.bool_bool a b _ _ _ _ ⟨.bl _,H,I,rfl,q⟩
  | int b=>obtain ⟨t,rfl⟩:=ry; rw[Do] at q; exact SeqAt.RcNeAt.bool_int a b t _ _ _ _ ⟨.bl _,H,I,rfl,q⟩
  | str b=>obtain ⟨t,rfl⟩:=ry; rw[Do] at q; exact SeqAt.RcNeAt.bool_str a b t _ _ _ _ ⟨.bl _,H,I,rfl,q⟩; all_goals simp
  | @lst b ys es q2 rr2=>cases ry; obtain ⟨vs,r2,p2,_⟩:=I.list q2; rw[Do] at q; exact SeqAt.RcNeAt.bool_list a p2.isList hu' _ _ _ _ ⟨.bl _,H,I,rfl,q⟩; all_goals simp
  | @tup b ys es q2 rr2=>cases ry; obtain ⟨vs,r2,p2,_⟩:=I.tuple q2; rw[Do] at q; exact SeqAt.RcNeAt.bool_tuple a p2 hu' _ _ _ _ ⟨.bl _,H,I,rfl,q⟩; all_goals simp
 | int a =>
  obtain ⟨t',rfl⟩:=rx
  cases h2 with
  | non=>cases ry; rw[Do] at q; exact SeqAt.RcNeAt.int_none a t' _ _ _ _ ⟨.bl _,H,I,rfl,q⟩; all_goals simp
  | bl b=>cases ry; rw[Do] at q; exact SeqAt.RcNeAt.int_bool a t' b _ _ _ _ ⟨.bl _,H,I,rfl,q⟩
  | int b=>obtain ⟨t,rfl⟩:=ry; rw[Do] at q; exact SeqAt.RcNeAt.int_int a t' b t _ _ _ _ ⟨.bl _,H,I,rfl,q⟩
  | str b=>obtain ⟨t,rfl⟩:=ry; rw[Do] at q; exact SeqAt.RcNeAt.int_str a t' b t _ _ _ _ ⟨.bl _,H,I,rfl,q⟩; all_goals simp
  | @lst b ys es q2 rr2=>cases ry; obtain ⟨vs,r2,p2,_⟩:=I.list q2; rw[Do] at q; exact SeqAt.RcNeAt.int_list a t' p2.isList hu' _ _ _ _ ⟨.bl _,H,I,rfl,q⟩; all_goals simp
  | @tup b ys es q2 rr2=>cases ry; obtain ⟨vs,r2,p2,_⟩:=I.tuple q2; rw[Do] at q; exact SeqAt.RcNeAt.int_tuple a t' p2 hu' _ _ _ _ ⟨.bl _,H,I,rfl,q⟩; all_goals simp
 | str a =>
  obtain ⟨t',rfl⟩:=rx
  cases h2 with
  | non=>cases ry; rw[Do] at q; exact SeqAt.RcNeAt.str_none a t' _ _ _ _ ⟨.bl _,H,I,rfl,q⟩; all_goals simp
  | bl b=>cases ry; rw[Do] at q; exact SeqAt.RcNeAt.str_bool a t' b _ _ _ _ ⟨.bl _,H,I,rfl,q⟩; all_goals simp
  | int b=>obtain ⟨t,rfl⟩:=ry; rw[Do] at q; exact SeqAt.RcNeAt.str_int a t' b t _ _ _ _ ⟨.bl _,H,I,rfl,q⟩; all_goals simp
  | str b=>obtain ⟨t,rfl⟩:=ry; rw[Do] at q; exact SeqAt.RcNeAt.str_str a t' b t _ _ _ _ ⟨.bl _,H,I,rfl,q⟩
  | @lst b ys es q2 rr2=>cases ry; obtain ⟨vs,r2,p2,_⟩:=I.list q2; rw[Do] at q; exact SeqAt.RcNeAt.str_list a t' p2.isList hu' _ _ _ _ ⟨.bl _,H,I,rfl,q⟩; all_goals simp
  | @tup b ys es q2 rr2=>cases ry; obtain ⟨vs,r2,p2,_⟩:=I.tuple q2; rw[Do] at q; exact SeqAt.RcNeAt.str_tuple a t' p2 hu' _ _ _ _ ⟨.bl _,H,I,rfl,q⟩; all_goals simp
 | @lst a xs ds qa r =>
  cases rx
  obtain ⟨us,r1,p,_⟩:=I.list qa
  cases h2 with
  | non=>cases ry; rw[Do] at q; exact SeqAt.RcNeAt.list_none p.isList hu' _ _ _ _ ⟨.bl _,H,I,rfl,q⟩; all_goals simp
  | bl b=>cases ry; rw[Do] at q; exact SeqAt.RcNeAt.list_bool b p.isList hu' _ _ _ _ ⟨.bl _,H,I,rfl,q⟩; all_goals simp
  | int b=>obtain ⟨t,rfl⟩:=ry; rw[Do] at q; exact SeqAt.RcNeAt.list_int b t p.isList hu' _ _ _ _ ⟨.bl _,H,I,rfl,q⟩; all_goals simp
  | str b=>obtain ⟨t,rfl⟩:=ry; rw[Do] at q; exact SeqAt.RcNeAt.list_str b t p.isList hu' _ _ _ _ ⟨.bl _,H,I,rfl,q⟩; all_goals simp
  | @lst b ys es q2 rr2=>cases ry; obtain ⟨vs,r2,p2,_⟩:=I.list q2; rw[Do] at q; exact nY p p2 (r1.length.symm.trans r.length) (r2.length.symm.trans rr2.length) hu' (λj h1 h2=>Ox I r rr2 r1 r2 (Uv (by simp only[Dd] at hd; omega)) j h1 h2) _ _ _ _ ⟨.bl _,H,I,rfl,q⟩
  | @tup b ys es q2 rr2=>cases ry; obtain ⟨vs,r2,p2,_⟩:=I.tuple q2; rw[Do] at q; exact SeqAt.RcNeAt.list_tuple p.isList p2 hu' _ _ _ _ ⟨.bl _,H,I,rfl,q⟩; all_goals simp
 | @tup a xs ds qa r =>
  cases rx
  obtain ⟨us,r1,p,_⟩:=I.tuple qa
  cases h2 with
  | non=>cases ry; rw[Do] at q; exact SeqAt.RcNeAt.tuple_none p hu' _ _ _ _ ⟨.bl _,H,I,rfl,q⟩; all_goals simp
  | bl b=>cases ry; rw[Do] at q; exact SeqAt.RcNeAt.tuple_bool b p hu' _ _ _ _ ⟨.bl _,H,I,rfl,q⟩; all_goals simp
  | int b=>obtain ⟨t,rfl⟩:=ry; rw[Do] at q; exact SeqAt.RcNeAt.tuple_int b t p hu' _ _ _ _ ⟨.bl _,H,I,rfl,q⟩; all_goals simp
  | str b=>obtain ⟨t,rfl⟩:=ry; rw[Do] at q; exact SeqAt.RcNeAt.tuple_str b t p hu' _ _ _ _ ⟨.bl _,H,I,rfl,q⟩; all_goals simp
  | @lst b ys es q2 rr2=>cases ry; obtain ⟨vs,r2,p2,_⟩:=I.list q2; rw[Do] at q; exact SeqAt.RcNeAt.tuple_list p p2.isList hu' _ _ _ _ ⟨.bl _,H,I,rfl,q⟩; all_goals simp
  | @tup b ys es q2 rr2=>cases ry; obtain ⟨vs,r2,p2,_⟩:=I.tuple q2; rw[Do] at q; exact kQ p p2 (r1.length.symm.trans r.length) (r2.length.symm.trans rr2.length) hu' (λj h1 h2=>Ox I r rr2 r1 r2 (Uv (by simp only[Dd] at hd; omega)) j h1 h2) _ _ _ _ ⟨.bl _,H,I,rfl,q⟩
theorem rA{z z':V}{v:Value}(h:RelV z v)(h':RelV z' v):z=z':=by
 cases z <;> cases z' <;> simp only[L2.RelV] at h h' <;> first | rfl | (subst h; cases h'; rfl) | (subst h; cases h'; done) | (obtain ⟨t,rfl⟩:=h; obtain ⟨t',e⟩:=h'; cases e; rfl) | (obtain ⟨t,rfl⟩:=h; obtain ⟨t',e⟩:=h'; cases e; done) | (obtain ⟨t,rfl⟩:=h; cases h'; done) | (subst h; obtain ⟨t',e⟩:=h'; cases e)
open Classical in
noncomputable def Lp(K:PySem.W.Frag)(H:Hp)(d:Ac)(v:Value):Bool:=if h:∃e z,RdV K H z e/\RelV z v then Do h.choose d else false
theorem gE{pins:List (Addr×Obj)}{σ:L2.St}{H:Hp}{s:Ag}(I:Inv X pins σ H s){d e:Ac}{z:V}{v:Value}(h:RdV X.K H z e)(r:RelV z v):Lp X.K H d v=Do e d:=by
 unfold Lp
 have hx:∃e z,RdV X.K H z e/\RelV z v:=⟨e,z,h,r⟩
 rw[dif_pos hx]
 obtain ⟨z',h',r'⟩:=hx.choose_spec
 have ez:=rA r' r
 subst ez
 rw[RdV.det I h' h]
theorem Nw{pins:List (Addr×Obj)}{σ:L2.St}{H:Hp}{s:Ag}(I:Inv X pins σ H s){d:Ac}:∀{xs:List V} {ds:List Ac} {us:List Value},RdVs X.K H xs ds->Fg xs us->us.any (Lp X.K H d)=ds.any λe=>Do e d
 | _,_,_,.nil,r=>by cases r; rfl
 | _,_,_,.cons h t,r=>by
  cases r with
  | cons r1 r2=>rw[Ka,Ka,gE I h r1,Nw I t r2]
theorem Nq{pins:List (Addr×Obj)}{σ:L2.St}{H:Hp}{s:Ag}(I:Inv X pins σ H s){A:Co}{x:V}{d:Ac}{u:Value}(hx:RdV X.K H x d)(rx:RelV x u):∀{xs:List V} {ds:List Ac} {us:List Value},RdVs X.K H xs ds->Fg xs us->A.units+Bi ds<cLine->∀v∈us,Lj A s v u (Lp X.K H d v)
 | _,_,_,.nil,r,_=>λv hv=>by cases r; cases hv
 | _,_,_,@RdVs.cons _ _ y e ys es h t,r,hu=>λv hv=>by
  have hm:A.units+e.depth<cLine/\A.units+Bi es<cLine:=by
   simp only[Bi] at hu
   omega
  cases r with
  | cons r1 r2 =>
   rcases An.mp hv with rfl | hv
   ·rw[gE I h r1]; exact uU I h hx r1 rx hm.1
   ·exact Nq I hx rx t r2 hm.2 v hv
def x9(K:PySem.W.Frag)(neg:Bool):R2:=λx y H Q=>∃p xs d ds,y=.ref p/\(Sn K H p xs\/Sg K H p xs)/\RdV K H x d/\RdVs K H xs ds/\Bi ds<=60/\Q (.bl (if neg then !(ds.any λe=>Do e d) else ds.any λe=>Do e d)) H
theorem uX(hu:X.A.units+64<cLine):Tu X (Fj .In) (x9 X.K false):=by
 intro pins s σ H x y v u Q I rx ry h
 obtain ⟨p,xs,d,ds,rfl,hq,hx,hs,hd,q⟩:=h
 cases ry
 have hu1:X.A.in1.units+Bi ds<cLine:=by have:=Vc X.A; omega
 rcases hq with hq | hq
 ·obtain ⟨its,r,pl,hz⟩:=I.list hq
  refine SeqAt.in_listAt (Lp X.K H d) pl.isList (λw hw=>Nq I hx rx hs r hu1 w (by simpa using hw)) ⟨.bl _,H,I,rfl,?_⟩
  rw[show its.toArray.any (Lp X.K H d)=its.any (Lp X.K H d) by simp,Nw I hs r]
  exact q
 ·obtain ⟨its,r,pl,hz⟩:=I.tuple hq
  refine SeqAt.in_tupleAt (Lp X.K H d) pl (λw hw=>Nq I hx rx hs r hu1 w (by simpa using hw)) ⟨.bl _,H,I,rfl,?_⟩
  rw[show its.toArray.any (Lp X.K H d)=its.any (Lp X.K H d) by simp,Nw I hs r]
  exact q
theorem nQ(hu:X.A.units+64<cLine):Tu X (Fj .NotIn) (x9 X.K true):=by
 intro pins s σ H x y v u Q I rx ry h
 obtain ⟨p,xs,d,ds,rfl,hq,hx,hs,hd,q⟩:=h
 cases ry
 have hu1:X.A.in1.units+Bi ds<cLine:=by have:=Vc X.A; omega
 rcases hq with hq | hq
 ·obtain ⟨its,r,pl,hz⟩:=I.list hq
  refine SeqAt.notIn_listAt (Lp X.K H d) pl.isList (λw hw=>Nq I hx rx hs r hu1 w (by simpa using hw)) ⟨.bl _,H,I,rfl,?_⟩
  rw[show its.toArray.any (Lp X.K H d)=its.any (Lp X.K H d) by simp,Nw I hs r]
  exact q
 ·obtain ⟨its,r,pl,hz⟩:=I.tuple hq
  refine SeqAt.notIn_tupleAt (Lp X.K H d) pl (λw hw=>Nq I hx rx hs r hu1 w (by simpa using hw)) ⟨.bl _,H,I,rfl,?_⟩
  rw[show its.toArray.any (Lp X.K H d)=its.any (Lp X.K H d) by simp,Nw I hs r]
  exact q
end
def AL(K:PySem.W.Frag)(a:Addr):It :=
 ⟨λi H=>∃xs x,Sn K H a xs/\xs[i]? = some x,λi H x H'=>∃p y,x=.ref p/\H p=none/\H'=upd H p (.tup [.int i,y])/\∀xs,Sn K H a xs->xs[i]? = some y,λi H=>∃xs,Sn K H a xs/\xs.length<=i⟩
section
variable{X:Cx}{pins:List (Addr×Obj)}{σ:L2.St}{H:Hp}{s:Ag}{h':Heap}
theorem dW{t':Nat}{fp:List Addr}(I:Inv X pins σ H s)(k:∀b o,b∉fp->s.heap.get? b=some o->h'.get? b=some o)(hf:∀b∈fp,Ph X pins H b):Inv X pins σ H { s with heap:=h',toks:=t' }:=by
 have nit:∀b u,H b=some u->b∉fp:=λb u e z=>by rw[(hf b z).1] at e; cases e
 refine I.step (g':=s.gens) (d':=s.drawn) (ch:=fp) (λb hb=>?_) (λb o _ _ hc e _=>k b o hc e) (λb o _ _ hc e _=>⟨o.slots,k b o hc e⟩) (λ_ _ _ _ n=>n)
  (λb o hc e=>⟨o,k b o hc e⟩) (λ_ _ e=>e) (λ_ _ _ e=>e) (λb ps e=>⟨#[],by rw[e]; simp⟩) (λm hm=>?_) (λb u e=>?_) I.bare
 ·obtain ⟨_,f1,_,f3,f4,f5⟩:=hf b hb
  exact ⟨f3,f1,f4,f5⟩
 ·obtain ⟨o,es,ep,ho,r⟩:=hm
  exact ⟨o,es,ep,k _ o (λz=>(hf _ z).2.1 rfl) ho,r⟩
 ·refine (I.hok b u e).stay (λc v hc q=>k c v ?_ q) (λ_ q=>q) λ_ _ q=>q
  rcases hc with z | z
  ·rw[z]; exact nit b u e
  ·exact nit c _ z
end
theorem nU{P:Be}{w:World}{K:PySem.W.Frag}{elts:List Expr}{k:Nat}{pos:Pos}(a e it:Addr)(ne:e≠it):Turn P w K (.Tuple elts k pos) (AL K a) [e,it] e (λi h=>(∃old,IsEnum h e it ((i:Nat):Int) old)/\h.IsListIter it a i) where
 mem:=Aa
 obj:=λi h st b hb=>by
  obtain ⟨⟨old,he⟩,o,e1,c,d⟩:=st
  rcases An.mp hb with z | z
  ·subst z
   exact ⟨_,he,λv z=>by cases z⟩
  ·rw[Ai.mp z]
   exact ⟨o,e1,λv z=>by rw[d] at z; cases z⟩
 keep:=λi h h' st kp=>⟨let ⟨old,he⟩:=st.1; ⟨old,kp e Aa _ he⟩,st.2.at λo q=>kp it (Af _ Aa) o q⟩
 item:=by
  intro X hP hw hK hc i pins s σ H E I hf st hg
  subst hP hw hK
  obtain ⟨xs,x,hq,hx⟩:=hg
  obtain ⟨its,rv,p,hz⟩:=I.list hq
  obtain ⟨u,hu,ru⟩:=rv.get hx
  obtain ⟨⟨old,he⟩,hit⟩:=st
  have el:e<s.heap.objs.size:=Bk he
  have il:it<s.heap.objs.size:=by obtain ⟨_,q,_⟩:=hit; exact Bk q
  refine wpAny_pyNext_enum_item he hit p.isList (x:=u) (by simpa using hu) ne λh1 ho hit1 hT hsz hk=>⟨_,rfl,wpAny_letOwnedTupleGo_enum ho λh2 he2 hs2=>?_⟩
  have hs2':Fn e h1 h2:=hs2
  -- the pair laid,then the iterators turned
  have I1:Inv X pins σ (upd H s.heap.objs.size (.tup [.int i,x])) { s with heap:=s.heap.push { cls:=.type "tuple",data:=.seq #[.int i s.toks,u] } } :=
   I.laid (t':=s.toks) (λb o q=>Am _ q) (Ah _) ⟨by show 2<=Ax; decide,[.int i s.toks,u],.cons ⟨_,rfl⟩ (.cons ru .nil),_,Br _ rfl,rfl,0,rfl⟩
  have nT:∀b∈[e,it],b≠s.heap.objs.size:=λb hb=>by
   rcases An.mp hb with z | z
   ·rw[z]; exact Cy el
   ·rw[Ai.mp z]; exact Cy il
  have fr:∀b∈[e,it],(upd H s.heap.objs.size (.tup [.int i,x])) b=none:=λb hb=>by rw[Eg (nT b hb)]; exact (hf b hb).1
  refine ⟨.ref s.heap.objs.size,_,dW (fp:=[e,it]) (s:={ s with heap:=s.heap.push { cls:=.type "tuple",data:=.seq #[.int i s.toks,u] } }) (h':=h2) (t':=s.toks+1) I1 (λb o hb q=>?_) (λb hb=>⟨fr b hb,(hf b hb).2⟩),rfl,⟨_,x,rfl,I.hok.fresh (Ah _),rfl,λys hy=>by rw[I.list_inj hy hq]; exact hx⟩,⟨⟨u,?_⟩,?_⟩,fr⟩
  ·have nbe:b≠e:=λz=>hb (by rw[z]; exact Aa)
   have nbi:b≠it:=λz=>hb (by rw[z]; exact Af _ Aa)
   refine (hs2'.2 b nbe).trans ?_
   by_cases hbT:b=s.heap.objs.size
   ·subst hbT
    have q':=(Br s.heap (o:={ cls:=.type "tuple",data:=.seq #[.int i s.toks,u] }) rfl).symm.trans q
    rw[hT]
    exact q'
   ·refine hk b o nbe nbi ?_
    have q0:(s.heap.push { cls:=.type "tuple",data:=.seq #[.int i s.toks,u] }).get? b=some o:=q
    rcases Heap.get?_push_cases q0 with z | z
    ·exact absurd z.1 hbT
    ·exact z
  ·have : ((i+1:Nat):Int)=(i:Int)+1:=by omega
   rw[this]
   exact he2
  ·exact hit1.at λo q=>(hs2'.2 it (Nn ne)).trans q
 done:=by
  intro X hP hw hK hc i pins s σ H E I hf st hg
  subst hP hw hK
  obtain ⟨xs,hq,hx⟩:=hg
  obtain ⟨its,rv,p,hz⟩:=I.list hq
  obtain ⟨⟨old,he⟩,hit⟩:=st
  have hl:=rv.length
  exact wpAny_pyNext_enum_end (I.ok.hd hc) he hit p.isList (by simp; omega) λh1 eb=>⟨rfl,dW (fp:=[e,it]) (t':=s.toks) I (λb o hb q=>eb b o (λz=>hb (by rw[z]; exact Af _ Aa)) q) hf⟩
 self:=λ_ _ _ _ _ st h=>let ⟨_,he⟩:=st.1; wpAny_pyIter_enum he h
section
variable{X:Cx}
def O3(K:PySem.W.Frag)(ta:TA):TI:=λσ H R=>ta σ H λvs H1=>∃a,vs=[.ref a]/\(∃xs,Sn K H1 a xs)/\R (AL K a) H1
theorem xJ{elts:List Expr}{k:Nat}{tp:Pos}{a:Expr}{ta:TA}{p pos:Pos}(hg:Gl X "enumerate")(hm:X.mg "enumerate" = none)(ha:PA X [a] ta)(hs:Bs [a] X.env=[(false,eval a X.env)]:=by rfl):PI X (.Tuple elts k tp) (.Call (.Name "enumerate" p) [a] [] pos) (O3 X.K ta):=by
 intro pins s σ H R I h
 refine Call_ (Yi I hg hm (u:=.type "enumerate") (by decide +kernel) (Lh (Hf (ha pos pins s σ H _ I h) λus s1 ⟨vs,H1,I1,r1,q1⟩=>?_) hs rfl))
 obtain ⟨l,e,⟨xs,hq⟩,q⟩:=q1
 subst e
 obtain ⟨u,rfl,ru⟩:=vals1 r1
 cases ru
 obtain ⟨its,rv,pl,hz⟩:=I1.list hq
 refine call_enumerate_list pl.isList λh2 he hit hsz hk=>wpAny_pyIter_enum he ?_
 have fr:∀b∈[s1.heap.objs.size+1,s1.heap.objs.size],Ph X pins H1 b:=λb hb=>by
  rcases An.mp hb with z | z
  ·rw[z]; exact I1.fpOk (Nat.le_succ _) (I1.hok.fresh (Nat.le_succ _))
  ·rw[Ai.mp z]; exact I1.fpOk (Ah _) (I1.hok.fresh (Ah _))
 exact ⟨s1.heap.objs.size+1,[s1.heap.objs.size+1,s1.heap.objs.size],_,_,H1,rfl,I1.kept (t':=s1.toks) hk,nU l _ _ (Nat.succ_ne_self _),⟨⟨_,he⟩,hit⟩,fr,q⟩
end
section
variable{X:Cx}
theorem vZ{elt iter:Expr}{x y0:Str}{px py pos spos:Pos}{i0:Nat}{ifs:List Expr}{scope:Scope}{cl:List (Str×Addr)}{ys:List Str}{js:List Nat}{wi:TI}{tc:TT}{te:TE}(hN:X.N.Nodup)(hi0:X.N[i0]? = some y0)(hy0:X.env.scope.names.lookup y0=some .local)(C:CompScope X scope cl x ys js)(hc:X.calm=true)(hi:PI X (.Name x px) iter wi)(ht:∀fp s H,vT (He X scope cl (x::ys) fp s H) ifs tc)(he:∀fp s H,PE (He X scope cl (x::ys) fp s H) elt te)(hs:∀x,Jl iter X.env x=pure x:=by intro _; rfl)(hsw:Lg (.ListComp elt [⟨.Name x px,iter,ifs,0⟩] scope pos) (some (.Name y0 py)) spos.line X.env=pure true:=by rfl):PS X (.Assign [.Name y0 py] (.ListComp elt [⟨.Name x px,iter,ifs,0⟩] scope pos) spos) (xW (mZ wi js tc te) (bO i0)):=by
 intro pins s σ H De I h
 have h:mZ wi js tc te σ H λv H1=>De.nx (σ.set i0 (some v)) H1:=h
 rw[exec_Assign_Name_used _ _ _ _ hsw]
 refine Ab (wpAny_standAt (Ab ?_))
 show wpAny _ X.A (do let _ <- comprehension (.ListComp elt [⟨.Name x px,iter,ifs,0⟩] scope pos) scope X.env _ (newList []) false (eval iter X.env) (some (assign (.Name y0 py) X.env))) _ _ s
 refine Ab (Fs (qL (use:=some (assign (.Name y0 py) X.env)) (Q:=λ_ s'=>SP X pins De .next s') rfl hs C.clos C.kind C.locs (Hf (hi pins s σ H _ I h) λv s1 h1=>Hf h1 λitv s2 h2=>?_)) (λ_ s' hq=>Aj (Aj hq)) λ_ _ e=>e)
 obtain ⟨it,fp,tn,J,H2,e,I2,T,st2,f2,q2⟩:=h2
 subst e
 have fD:H2 s2.heap.objs.size=none:=I2.hok.fresh (Ah _)
 obtain ⟨W,⟨m0,w0⟩,turn⟩:=q2 s2.heap.objs.size fD
 refine Ef ?_
 have I3:Inv X pins σ (upd H2 s2.heap.objs.size (.lst [])) { s2 with heap:=s2.heap.push { cls:=.type "list",dict:=none,data:=.seq ([]:List Value).toArray } } :=
  I2.laid (t':=s2.toks) (λb u q=>Am _ q) (Ah _) ⟨Ds _,[],0,.nil,Br _ rfl⟩
 obtain ⟨f3,st3',o3'⟩:=fF I2 T st2 f2 I3
 generalize hS3:({ s2 with heap:=s2.heap.push { cls:=.type "list",dict:=none,data:=.seq ([]:List Value).toArray } }:Ag)=s3 at I3
 have Re:tn 0 s3.heap:=by rw[<- hS3]; exact st3'
 have o3:∀b∈fp,∃o,s3.heap.get? b=some o:=by rw[<- hS3]; exact o3'
 show wpAny _ _ (Vv scope X.env.globals cl [] X.env.qual none .none (some X.env)) _ _ _
 refine bJ C λh4 hns4 keep4 new4=>?_
 have I4:∀tk,Inv (He X scope cl (x::ys) fp s3 (upd H2 s2.heap.objs.size (.lst []))) [] (none::Jp σ js) (upd H2 s2.heap.objs.size (.lst [])) { s3 with heap:=h4,toks:=tk }:=λtk=>Yh (pre:=[x]) C I3 f3 o3 hns4 keep4 new4
 have st4:tn 0 h4:=T.keep 0 _ _ Re λb hb o q=>keep4 b o q
 generalize hX':He X scope cl (x::ys) fp s3 (upd H2 s2.heap.objs.size (.lst []))=X' at I4
 obtain ⟨eP,eW,eK,eA,eC⟩:=iO hc hX'
 have stat:∀{H':Hp},(∀b∈fp,H' b=none)->∀b∈fp,Ph X' [] H' b:=λ{H'} hn=>aO hX' (I4 0) hn
 have loop:∀s5:Ag,s5={ s3 with heap:=h4,toks:=s3.toks+([]:List (Str×Value)).length } ->
   Mv (model X.prog X.w) X.A (.compLoop (.ListComp elt [⟨.Name x px,iter,ifs,0⟩] scope pos) 0 (.ref it) (.ref s2.heap.objs.size) (compEnvC scope (Ek (s3.heap.objs.size+1) scope.names cl) s3.heap.objs.size X.env))
    (compPost (model X.prog X.w) X.A X.xe (some (assign (.Name y0 py) X.env)) (λ_ s'=>SP X pins De .next s') (.ref s2.heap.objs.size) s3.heap.objs.size) s5:=by
  rintro s5 rfl
  refine Yp (λn s'=>∃i o H',Inv X' [] (o::Jp σ js) H' s'/\tn i s'.heap/\(∀b∈fp,H' b=none)/\W i n H') ?_ m0
   ⟨0,none,_,I4 _,st4,λb hb=>(f3 b hb).1,w0⟩
  (intro n s6 q_; obtain ⟨i,o,H6,I6,st6,fr6,w6⟩ := q_)
  rcases turn i n H6 w6 with ⟨stop,qn⟩ | ⟨go,step⟩
  ·have hd:=T.done X' eP eW eK eC i [] s6 _ H6 (λ_ _=>False) I6 (stat fr6) st6 stop
   rw[eA] at hd
   refine Hf hd λr s7 q0_ => ?_
   obtain ⟨hr,I7⟩ := q0_
   subst hr
   obtain ⟨⟨m7,hn7'⟩,I7f,J7⟩:=oS hX' I3 f3 I7
   have fC:Ph X pins H6 s3.heap.objs.size:=I3.fpOk (Ah _) I7f
   obtain ⟨oC,esC,epC,hoC,rC⟩:=id hn7'
   have J8:Inv X (pins++[(s3.heap.objs.size,oC)]) σ H6 s7:=J7.pins_of λp hp=>by
    rcases Ay.mp hp with z | z
    ·have q:=J7.pin p (Al _ z)
     exact q
    ·rw[Ai.mp z]
     exact ⟨hoC,I7f,fC.2.1,fC.2.2.1,λv hv=>by rw[rC.1] at hv; cases hv⟩
   refine Hf (Wv (X:=X) (i:=i0) (x:=y0) (pos:=py) hN hi0 (.inl hy0) (.inr hy0) (pins++[(s3.heap.objs.size,oC)]) s7 σ H6 (.ref s2.heap.objs.size) (.ref s2.heap.objs.size) (λσ' H'=>σ'=σ.set i0 (some (.ref s2.heap.objs.size))/\H'=H6) J8 rfl ⟨rfl,rfl⟩) λ_ s9 q0_ => ?_
   obtain ⟨σ9,H9,I9,e9,e9'⟩ := q0_
   subst e9 e9'
   have hoC9:=(I9.pin (s3.heap.objs.size,oC) (Al _ (Al _ Aa))).1
   have I9':Inv X pins (σ.set i0 (some (.ref s2.heap.objs.size))) H9 s9:=I9.pins_of λp hp=>I9.pin p (Al _ (Aq _ hp))
   refine ⟨m7,hn7'.at λo e=>by rw[hoC] at e; cases e; exact hoC9,λh10 hs10=>?_⟩
   exact ⟨_,H9,dW (t':=s9.toks) (fp:=[s3.heap.objs.size]) I9' (λb o hb e=>(hs10.2 b (λz=>hb (by rw[z]; exact Aa))).trans e) (λb hb=>by rw[Ai.mp hb]; exact fC),qn⟩
  ·have hit:=T.item X' eP eW eK eC i [] s6 _ H6 (λ_ _=>False) I6 (stat fr6) st6 go
   rw[eA] at hit
   refine Hf hit λr s7 q0_ => ?_
   obtain ⟨u,hr,h7⟩ := q0_
   subst hr
   refine Hf h7 λ_ s8 q0_ => ?_
   obtain ⟨y,H8,I8,r8,y8,st8,fr8⟩ := q0_
   have I8':=I8.pinned (stat fr8) (T.obj _ _ st8)
   obtain ⟨N1,N2,hN1,hN2,hst⟩:=step y H8 y8
   have again:∀{H9:Hp} {s9:Ag} {m':Nat},Inv X' ([]++Ut fp s8.heap) (some y::Jp σ js) H9 s9->m'<n->W (i+1) m' H9->∃m,m<n/\∃i o H',Inv X' [] (o::Jp σ js) H' s9/\tn i s9.heap/\(∀b∈fp,H' b=none)/\W i m H':=λ{H9 s9 m'} I9 hm w9=>by
    refine ⟨m',hm,i+1,some y,H9,I9.unpinned,T.keep _ _ _ st8 λb hb o e=>(I9.pin (b,o) (Al _ (Al _ (Kv hb e)))).1,λb hb=>?_,w9⟩
    obtain ⟨o,e,_⟩:=T.obj _ _ st8 b hb
    exact (I9.pin (b,o) (Al _ (Al _ (Kv hb e)))).2.1
   subst hX'
   refine Hf (Wv (i:=0) (x:=x) (pos:=px) C.nd rfl (mD C.own) (tH C.own) _ s8 _ H8 y u (λσ' H'=>σ'=some y::Jp σ js/\H'=H8) I8' r8 ⟨rfl,rfl⟩) λ_ s9 q0_ => ?_
   obtain ⟨σ9,H9,I9,e9,e9'⟩ := q0_
   subst e9 e9'
   refine Hf (ht fp s3 _ _ s9 _ _ _ I9 hst) λok s10 q0_ => ?_
   obtain ⟨H10,I10,q10⟩ := q0_
   cases ok with
   | false =>
    rw[if_neg Cm] at q10 ⊢
    obtain ⟨m',hm,w10⟩:=hN1 _ q10
    exact again I10 hm w10
   | true =>
    rw[if_pos rfl] at q10 ⊢
    refine Hf (he fp s3 _ _ s10 _ _ _ I10 q10) λz s11 q0_ => ?_
    obtain ⟨vz,H11,I11,r11,q11⟩ := q0_
    obtain ⟨acc,ha,hz,m',hm,w11⟩:=hN2 _ _ q11
    refine Hf (Qg _ s11 _ H11 (.ref s2.heap.objs.size) [vz] (.ref s2.heap.objs.size) [z] (λ_ H'=>H'=upd H11 s2.heap.objs.size (.lst (acc++[vz]))) I11 rfl (.cons r11 .nil) ⟨_,acc,vz,rfl,rfl,ha,hz,rfl⟩) λ_ s12 q0_ => ?_
    obtain ⟨_,H12,I12,_,e12⟩ := q0_
    subst e12
    exact again I12 hm w11
 exact vY (loop _ rfl) (T.self X.A 0 _ _ _ st4 (loop _ rfl))
end
end Nd
namespace Nd
open PySem L2
def o5(K:PySem.W.Frag):R2:=λx y H Q=>∃a b xs ys,x=.ref a/\y=.ref b/\Sg K H a xs/\Sg K H b ys/\xs.length+ys.length<=Ax/\(xs=[]->Q (.ref b) H)/\(ys=[]->Q (.ref a) H)/\(∀p,H p=none->Q (.ref p) (upd H p (.tup (xs++ys))))
open PyProof.Rows in
theorem zM{X:Cx}:Tu X (Jv .Add) (o5 X.K):=by
 intro pins s σ H x y v u Q I rx ry h
 obtain ⟨a,b,xs,ys,rfl,rfl,ha,hb,hz,q1,q3,q2⟩:=h
 by_cases hx:xs=[]
 ·cases rx
  cases ry
  obtain ⟨its,r1,p1,_⟩:=I.tuple ha
  obtain ⟨its2,r2,p2,_⟩:=I.tuple hb
  have e1:its=[]:=r1.nil_iff.mpr hx
  subst e1
  obtain ⟨⟨c1,d1,dt1,sl1⟩,g1,k1,n1,e1⟩:=id p1
  obtain ⟨⟨c2,d2,dt2,sl2⟩,g2,k2,n2,e2⟩:=id p2
  simp only at k1 e1 k2 e2
  subst k1 e1 k2 e2
  exact concat_meets ⟨_,g1,rfl⟩ ⟨_,g2,rfl⟩ eG seq_tuple_add PySem.F.slot_tuple_add PySem.F.entry_tuple_add (PySem.F.args_tuple_add_2 _ _)
   (tuple_addW0 a b _ _ n1 n2 d1 d2 sl1 sl2 rfl) ⟨g1,g2,⟨.ref b,H,I,rfl,q1 hx⟩⟩
 ·exact zL pins s σ H (.ref a) (.ref b) v u Q I rx ry ⟨a,b,xs,ys,rfl,rfl,ha,hb,hx,hz,q3,λ_=>q2⟩
end Nd
namespace Nd
open PySem PySem.Spec PyProof.Rows L2
end Nd
namespace Nd
open PySem L2
def CH(K:PySem.W.Frag):List V->Hp->VK->Prop:=λxs H Q=>∃x n t b,xs=[x,.ty n]/\TyOf K H x t/\PySem.W.kitOne K t (.type n)=some b/\Q (.bl b) H
theorem Uu{X:Cx}:Kf X (.builtin "isinstance") (CH X.K):=fM
theorem A9{K:PySem.W.Frag}{T:String}:PySem.W.kitOne K (.type T) (.type T)=some true:=by
 unfold PySem.W.kitOne
 rw[if_pos (by simp)]
theorem compScope0{X:Cx}{scope:Scope}{x:Str}(clos:closureFor scope X.env=pure [])(nocell:∀y∈scope.names,y.2≠.cell)(kind:scope.kind=.function)(locs:∀y∈scope.names,y.2=.local->scope.names.lookup y.1=some .local)(own:scope.names.lookup x=some .local)(has_:(scope.names.all λy=>!(y.2 == Dx) || (([]:List (Str×Addr)).lookup y.1).isSome)=true):CompScope X scope [] x [] [] :=
 ⟨clos,.inl nocell,kind,locs,.inl own,λ_ _ h=>by simp at h,has_,Ci.mpr ⟨Bv,Cz⟩,rfl,λk y j e1 _=>by simp at e1⟩
theorem sz{n:Nat}(h:n<=1000:=by first | decide | simp | (simp; omega)):n<=Ax:=Ld (pT h)
end Nd
namespace Nd
open PySem PySem.Spec PyProof.Rows L2
theorem L7{K:PySem.W.Frag}{T n:String}{b:Bool}(h1:(Eb T == Eb n)=false)(h2:PySem.W.kitMeta n=true)(h3:(fastBuiltinMro T).map (λx=>x.contains (Eb n))=some b):PySem.W.kitOne K (.type T) (.type n)=some b:=by
 unfold PySem.W.kitOne PySem.W.kitCls
 rw[h1,if_neg (by decide)]
 dsimp only
 rw[if_pos h2]
 exact h3
theorem u5:∀{vs:List Value} {ns:List Int},Fm vs ns->Fg (ns.map V.int) vs
 | _,_,.nil=>.nil
 | _,_,.cons n t h=>.cons ⟨t,rfl⟩ (u5 h)
end Nd
namespace NdS
open PySem
theorem Sr{mask finger moves:Nat}{led plain:Bool}{hs:Array Int}{t:Bg}{order:Array Nat}(h:Fz mask finger moves led plain hs=some (t,order)):t.led=led/\t.mask=mask/\t.plain=plain/\t.dummies=#[]:=by
 unfold Fz at h
 cases hl:Ie mask hs with
 | none=>rw[hl] at h; cases h
 | some owner =>
  rw[hl] at h
  cases h
  exact ⟨rfl,rfl,rfl,rfl⟩
def st(m i:Nat):Nat:=(i * 5+1) % m
def it(m:Nat):Nat->Nat->Nat
 | 0,i=>i
 | t+1,i=>it m t (st m i)
theorem Zd(m:Nat):∀(a b i:Nat),it m (a+b) i=it m b (it m a i)
 | 0,b,i=>by rw[Ge]; rfl
 | a+1,b,i=>by rw[Vz]; exact Zd m a b (st m i)
def T5(m:Nat):Nat->Nat->List Nat
 | 0,_=>[]
 | f+1,i=>i::T5 m f (st m i)
theorem Wu{m:Nat}:∀{f i e:Nat},e∈T5 m f i->∃t,t<f/\it m t i=e
 | 0,_,_,h=>by cases h
 | f+1,i,e,h=>by
  rcases An.mp h with z | z
  ·exact ⟨0,Ww _,z.symm⟩
  ·obtain ⟨t,h1,h2⟩:=Wu z
   exact ⟨t+1,Nat.succ_lt_succ h1,h2⟩
def Il(m:Nat):Prop:=0<m/\it m m 0=0/\∀e,e<m->e∈T5 m m 0
theorem Nt{m:Nat}(h0:0<m)(h1:(it m m 0 == 0)=true)(h2:((Bp m).all λe=>(T5 m m 0).contains e)=true):Il m :=
 ⟨h0,by simpa using h1,λe he=>by
  have:=List.all_eq_true.mp h2 e (Dm.mpr he)
  simpa using this⟩
theorem i3:Il 8:=Nt (by decide) (by decide +kernel) (by decide +kernel)
theorem B5:Il 16:=Nt (by decide) (by decide +kernel) (by decide +kernel)
theorem D0:Il 32:=Nt (by decide) (by decide +kernel) (by decide +kernel)
theorem C3:Il 64:=Nt (by decide) (by decide +kernel) (by decide +kernel)
theorem xB:Il 128:=Nt (by decide) (by decide +kernel) (by decide +kernel)
theorem nK:Il 256:=Nt (by decide) (by decide +kernel) (by decide +kernel)
theorem T2{m:Nat}(g:Il m){i e:Nat}(hi:i<m)(he:e<m):∃t,t<m/\it m t i=e:=by
 obtain ⟨h0,h1,h2⟩:=g
 obtain ⟨a,ha,ea⟩:=Wu (h2 i hi)
 obtain ⟨b,hb,eb⟩:=Wu (h2 e he)
 by_cases hab:a<=b
 ·refine ⟨b - a,by omega,?_⟩
  rw[<- ea,<- Zd,Nat.add_sub_cancel' hab]
  exact eb
 ·refine ⟨b+m - a,by omega,?_⟩
  rw[<- ea,<- Zd,show a+(b+m - a)=m+b by omega,Zd,h1]
  exact eb
def lp(m:Nat):Nat->Nat->Nat->Nat×Nat
 | 0,i,p=>(i,p)
 | t+1,i,p=>lp m t ((i * 5+1+p / 32) % m) (p / 32)
theorem uC(m:Nat):∀(a b i p:Nat),lp m (a+b) i p=lp m b (lp m a i p).1 (lp m a i p).2
 | 0,b,i,p=>by rw[Ge]; rfl
 | a+1,b,i,p=>by rw[Vz]; exact uC m a b _ _
theorem mG(m:Nat):∀(t i:Nat),lp m t i 0=(it m t i,0)
 | 0,_=>rfl
 | t+1,i=>mG m t (st m i)
theorem fX{m:Nat}:∀(n i p:Nat),p<32 ^ n->(lp m n i p).2=0
 | 0,i,p,h=>by show p=0; simpa using h
 | n+1,i,p,h=>fX n _ _ (by rw[Nat.pow_succ] at h; exact Nat.div_lt_of_lt_mul (by omega))
theorem j3{m:Nat}(h0:0<m):∀(n i p:Nat),i<m->(lp m n i p).1<m
 | 0,i,p,h=>h
 | n+1,i,p,h=>j3 h0 n _ _ (Lu _ h0)
theorem iQ{m:Nat}(g:Il m){i p e:Nat}(hi:i<m)(hp:p<2 ^ 64)(he:e<m):∃t,t<m+14/\(lp m t i p).1=e:=by
 have h13:=fX (m:=m) 13 i p (Bx hp (by decide))
 obtain ⟨t,ht,e1⟩:=T2 g (j3 g.1 13 i p hi) he
 refine ⟨13+t,by omega,?_⟩
 rw[uC,h13,mG]
 exact e1
theorem Qs(mask i:Nat):i<=Cu mask i:=by unfold Cu; split <;> omega
theorem bG{mask:Nat}{owner:Array (Option Nat)}:∀(fuel i p t:Nat),t<fuel->(owner.getD (lp (mask+1) t i p).1 (some 0)).isNone=true->∃j,Dh mask owner fuel i p=some j/\(owner.getD j (some 0)).isNone=true
 | 0,_,_,_,h,_=>absurd h (Dr _)
 | fuel+1,i,p,t,h,hn=>by
  unfold Dh
  split
  ·rename_i k hk
   exact ⟨i+k,rfl,by have:=Rb hk; exact this⟩
  ·rename_i hk
   rw[List.find?_eq_none] at hk
   cases t with
   | zero =>
    have:=hk 0 (Dm.mpr (by have:=Qs mask i; omega))
    exact absurd hn (by simpa [lp] using this)
   | succ t =>
    exact bG fuel _ _ t (by omega) hn
theorem Rx{L:List (Option Nat)}:∀{j x:Nat},L[j]? = some none->((L.set j (some x)).filterMap id).Perm (x::L.filterMap id):=by
 induction L with
 | nil=>intro j x h; simp at h
 | cons a L ih =>
  intro j x h
  cases j with
  | zero =>
   simp at h
   subst h
   simp
  | succ j =>
   have h':L[j]? = some none:=by simpa using h
   have:=ih (x:=x) h'
   cases a with
   | none=>simpa using this
   | some b=>simpa using (List.Perm.cons b this).trans (Ij x b _)
theorem pD{L:List (Option Nat)}:(L.filterMap id).length<L.length->∃j:Nat,L[j]? = some none:=by
 induction L with
 | nil=>intro h; simp at h
 | cons a L ih =>
  intro h
  cases a with
  | none=>exact ⟨0,rfl⟩
  | some b =>
   have : (L.filterMap id).length<L.length:=by simpa using h
   obtain ⟨j,hj⟩:=ih this
   exact ⟨j+1,by simpa using hj⟩
theorem lT(h:Int):Cp h<2 ^ 64:=by
 unfold Cp
 have h1:=Int.emod_nonneg h (show (2 ^ 64:Int)≠0 by decide)
 have h2:=Int.emod_lt_of_pos h (show (0:Int)<2 ^ 64 by decide)
 omega
def cA(mask:Nat)(acc:Option (Array (Option Nat)×Nat))(h:Int):Option (Array (Option Nat)×Nat):=do
 let (owner,k) <- acc
 let j <- Dh mask owner (Dv mask) (Cp h % (mask+1)) (Cp h)
 pure (owner.setIfInBounds j (some k),k+1)
theorem eY{mask:Nat}(g:Il (mask+1)):∀(hs:List Int) (owner:Array (Option Nat)) (n:Nat),owner.size=mask+1->(owner.toList.filterMap id).Perm (Bp n)->n+hs.length<=mask->∃owner':Array (Option Nat),hs.foldl (cA mask) (some (owner,n))=some (owner',n+hs.length)/\owner'.size=mask+1/\(owner'.toList.filterMap id).Perm (Bp (n+hs.length))
 | [],owner,n,h1,h2,_=>⟨owner,rfl,h1,h2⟩
 | h::hs,owner,n,h1,h2,h3=>by
  rw[Ba] at h3
  have len:(owner.toList.filterMap id).length=n:=by rw[h2.length_eq,Dg]
  obtain ⟨e,he⟩:=pD (L:=owner.toList) (by rw[len,Ae]; omega)
  have he':e<mask+1:=by
   have:=(Ak.mp he).1
   rw[Ae] at this
   omega
  obtain ⟨t,ht,et⟩:=iQ g (i:=Cp h % (mask+1)) (p:=Cp h) (e:=e) (Lu _ g.1) (lT h) he'
  have hn:(owner.getD (lp (mask+1) t (Cp h % (mask+1)) (Cp h)).1 (some 0)).isNone=true:=by
   rw[et,Bj,<- Ed,he]
   rfl
  obtain ⟨j,ej,hj⟩:=bG (mask:=mask) (owner:=owner) (Dv mask) _ _ t (by unfold Dv; omega) hn
  have hj':owner.toList[j]? = some none:=by
   rw[Bj,<- Ed] at hj
   cases q:owner.toList[j]? with
   | none=>rw[q] at hj; simp at hj
   | some v =>
    rw[q] at hj
    cases v with
    | none=>rfl
    | some v=>simp at hj
  have e1:cA mask (some (owner,n)) h=some (owner.setIfInBounds j (some n),n+1):=by
   show (do
    let j <- Dh mask owner (Dv mask) (Cp h % (mask+1)) (Cp h)
    pure (owner.setIfInBounds j (some n),n+1))=_
   rw[ej]
   rfl
  rw[List.foldl_cons,e1]
  have p1:((owner.setIfInBounds j (some n)).toList.filterMap id).Perm (Bp (n+1)):=by
   rw[bT]
   refine (Rx hj').trans ?_
   rw[List.range_succ]
   exact (List.Perm.cons n h2).trans (Em (l₁:=[n]) (l₂:=Bp n))
  obtain ⟨o',q1,q2,q3⟩:=eY g hs (owner.setIfInBounds j (some n)) (n+1) (by rw[Jx]; exact h1) p1 (by omega)
  refine ⟨o',?_,q2,?_⟩
  ·rw[q1,Ba]
   congr 2
   omega
  ·rw[Ba,show n+(hs.length+1)=n+1+hs.length by omega]
   exact q3
theorem iG{mask:Nat}(g:Il (mask+1))(hs:Array Int)(hl:hs.size<=mask):∃owner:Array (Option Nat),Ie mask hs=some owner/\owner.size=mask+1/\(owner.toList.filterMap id).Perm (Bp hs.size):=by
 have h0:((Mi (mask+1) (none:Option Nat)).toList.filterMap id).Perm (Bp 0):=by
  rw[Array.toList_replicate]
  simp
 obtain ⟨o,h1,h2,h3⟩:=eY g hs.toList (Mi (mask+1) none) 0 (by simp) h0 (by simpa using hl)
 rw[Ae,Ge] at h1 h3
 refine ⟨o,?_,h2,h3⟩
 unfold Ie
 rw[<- Array.foldl_toList]
 show (hs.toList.foldl (cA mask) (some (Mi (mask+1) none,0))).map (·.1)=some o
 rw[h1]
 rfl
theorem kA(owner:Array (Option Nat)):((Bp owner.size).filterMap λj=>(owner.getD j none).map λx=>(j,x)).map (·.2)=owner.toList.filterMap id:=by
 obtain ⟨L⟩:=owner
 simp only[Ar]
 have h:∀(L:List (Option Nat)) (pre:List (Option Nat)),((List.range' pre.length L.length).filterMap λj=>(((pre++L)[j]?).getD none).map λx=>(j,x)).map (·.2)=L.filterMap id:=by
  intro L
  induction L with
  | nil=>intro pre; rfl
  | cons a L ih =>
   intro pre
   rw[Ba,List.range'_succ,Hi]
   have e:((pre++a::L)[pre.length]?).getD none=a:=by simp
   have ih':=ih (pre++[a])
   rw[Bn,Lk,Bz,List.singleton_append] at ih'
   cases a with
   | none =>
    simp only[e,Option.map_none,List.filterMap_cons_none,id]
    exact ih'
   | some b =>
    simp only[e,Option.map_some,Aw,List.filterMap_cons_some,id]
    rw[ih']
    simp
 have:=h L []
 rw[Ig,<- List.range_eq_range',List.nil_append] at this
 rw[<- this]
 congr 1
 congr 1
 funext j
 rw[Bj]
 simp
theorem xY{mask finger moves:Nat}{led plain:Bool}(g:Il (mask+1))(hs:Array Int)(hl:hs.size<=mask):∃(t:Bg) (order:Array Nat),Fz mask finger moves led plain hs=some (t,order)/\order.toList.Perm (Bp hs.size)/\t.fits hs.size=true/\t.led=led:=by
 obtain ⟨o,h1,h2,h3⟩:=iG g hs hl
 have e:Fz mask finger moves led plain hs=some ({ mask:=mask,place:=(((Bp (mask+1)).filterMap λj=>(o.getD j none).map λx=>(j,x)).map (·.1)).toArray,dummies:=#[],finger:=finger,led:=led,moves:=moves,plain:=plain },
   (((Bp (mask+1)).filterMap λj=>(o.getD j none).map λx=>(j,x)).map (·.2)).toArray):=by
  unfold Fz
  rw[h1]
  rfl
 have lo:=kA o
 rw[h2] at lo
 have len:((Bp (mask+1)).filterMap λj=>(o.getD j none).map λx=>(j,x)).length=hs.size:=by
  have:=congrArg Fq lo
  rw[Ad,h3.length_eq,Dg] at this
  exact this
 refine ⟨_,_,e,by rw[List.toList_toArray,lo]; exact h3,?_,rfl⟩
 simp only[SetTable.fits,SetTable.fill,Ar,Ad,len,Gf,beq_self_eq_true,true_and,decide_eq_true_eq]
 show hs.size+0<=mask
 omega
theorem A4{α:Type}(es:Array α){order:Array Nat}(p:order.toList.Perm (Bp es.size)):(order.filterMap (es[·]?)).toList.Perm es.toList/\(order.filterMap (es[·]?)).size=es.size:=by
 have e:(order.filterMap (es[·]?)).toList.Perm es.toList:=by
  rw[iT]
  have:=p.filterMap (es[·]?)
  rw[filterMap_getElem?_range] at this
  exact this
 exact ⟨e,by rw[<- Ae,e.length_eq,Ae]⟩
abbrev cO(p:Array Nat):Prop:=p.toList.Pairwise (· < ·)
theorem Qj{p:Array Nat}(r:cO p){i j:Nat}(h:i<j)(hj:j<p.size):p[i]'(by omega)<p[j]:=by
 have:=Dl.mp r i j (by rw[Ae]; omega) (by rw[Ae]; exact hj) h
 simpa using this
structure Below(p:Array Nat)(j b:Nat):Prop where
 le:b<=p.size
 lo:∀i (h:i<p.size),i<b->p[i]<j
 hi:∀i (h:i<p.size),b<=i->j<=p[i]
theorem Xd{p:Array Nat}{j:Nat}(r:cO p):∀(fuel lo hi:Nat),hi<=p.size->lo<=hi->hi - lo<=fuel->(∀i (h:i<p.size),i<lo->p[i]<j)->(∀i (h:i<p.size),hi<=i->j<=p[i])->Below p j (Qd p j fuel lo hi)
 | 0,lo,hi,h1,h2,h3,h4,h5=>by
  unfold Qd
  have e:lo=hi:=by omega
  exact ⟨by omega,λi h hl=>h4 i h hl,λi h hl=>h5 i h (by omega)⟩
 | fuel+1,lo,hi,h1,h2,h3,h4,h5=>by
  unfold Qd
  split
  ·rename_i hl
   have hm:(lo+hi) / 2<p.size:=by omega
   have e:p.getD ((lo+hi) / 2) j=p[(lo+hi) / 2]:=by simp [Array.getD,hm]
   dsimp only
   rw[e]
   split
   ·rename_i hc
    refine Xd r fuel _ hi h1 (by omega) (by omega) (λi h hi'=>?_) h5
    by_cases z:i=(lo+hi) / 2
    ·subst z; exact hc
    ·exact Wy (Qj r (show i<(lo+hi) / 2 by omega) hm) hc
   ·rename_i hc
    refine Xd r fuel lo _ (by omega) (by omega) (by omega) h4 (λi h hi'=>?_)
    by_cases z:i=(lo+hi) / 2
    ·subst z; omega
    ·exact Cg (by omega) (Ld (Qj r (show (lo+hi) / 2<i by omega) h))
  ·exact ⟨by omega,λi h hl=>h4 i h hl,λi h hl=>h5 i h (by omega)⟩
theorem Pp{p:Array Nat}(r:cO p)(j:Nat):Below p j (Bl p j) :=
 Xd r _ _ _ (Ah _) (Ds _) (by omega) (λi h hl=>absurd hl (Dr _)) (λi h hl=>absurd hl (by omega))
theorem Below.eq{p:Array Nat}{j b b':Nat}(x:Below p j b)(y:Below p j b'):b=b':=by
 rcases Pa b b' with z | z | z
 ·have h:b<p.size:=Bx z y.le
  exact absurd (y.lo b h z) (Nat.not_lt.mpr (x.hi b h (Ah _)))
 ·exact z
 ·have h:b'<p.size:=Bx z x.le
  exact absurd (x.lo b' h z) (Nat.not_lt.mpr (y.hi b' h (Ah _)))
theorem gY{p:Array Nat}(r:cO p):Bl p 0=0 :=
 (Pp r 0).eq ⟨Ds _,λi h hl=>absurd hl (Dr _),λi h _=>Ds _⟩
theorem jJ{p:Array Nat}(r:cO p){i:Nat}(h:i<p.size):Bl p (p[i]+1)=i+1 :=
 (Pp r _).eq ⟨h,λk hk hl=>by
  by_cases z:k=i
  ·subst z; exact Zp _
  ·exact Pb (Qj r (show k<i by omega) h),λk hk hl=>Qj r (show i<k by omega) hk⟩
structure TabOk(n:Nat)(t:Bg):Prop where
 good:Il (t.mask+1)
 dum:t.dummies=#[]
 plain:t.plain=true
 rise:cO t.place
 top:∀j∈t.place.toList,j<=t.mask
 size:t.place.size=n
structure Tab(n:Nat)(t:Bg):Prop extends TabOk n t where
 room:n * 5<t.mask * 3
theorem Wp{t:Bg}{n:Nat}(x:Tab n t):n+1<=t.mask:=by have:=x.room; omega
theorem TabOk.fits{t:Bg}{n:Nat}(x:TabOk n t)(h:n<=t.mask):t.fits n=true:=by
 simp only[SetTable.fits,SetTable.fill,x.dum,x.size,Gf,beq_self_eq_true,true_and,decide_eq_true_eq]
 show n+0<=t.mask
 omega
theorem Tab.fits{t:Bg}{n:Nat}(x:Tab n t):t.fits n=true:=x.toTabOk.fits (by have:=Wp x; omega)
theorem Mq{t:Bg}{n j:Nat}(x:TabOk n t):t.slot j=.empty↔j∉t.place.toList:=by
 have nd:SetTable.has t.dummies j=false:=by rw[x.dum]; rfl
 unfold Rn
 dsimp only
 rw[nd]
 constructor
 ·intro h hm
  obtain ⟨i,hi,e⟩:=Fp.mp hm
  rw[Ae] at hi
  have e':t.place[i]=j:=by simpa using e
  have b:Bl t.place j=i:=(Pp x.rise j).eq ⟨Ld hi,λk hk hl=>by rw[<- e']; exact Qj x.rise hl hi,λk hk hl=>by
   by_cases z:i=k
   ·subst z; exact Nat.le_of_eq e'.symm
   ·rw[<- e']; exact Ld (Qj x.rise (show i<k by omega) hk)⟩
  rw[b,Cw hi,e',if_pos (by simp)] at h
  cases h
 ·intro h
  rw[if_neg (λz=>h ?_)]
  ·rfl
  ·have z':t.place[Bl t.place j]? = some j:=by simpa using z
   have:=Array.mem_of_getElem? z'
   exact Array.mem_def.mp this
theorem Xu{t:Bg}{n j:Nat}(x:TabOk n t):t.slot j≠.dummy:=by
 have nd:SetTable.has t.dummies j=false:=by rw[x.dum]; rfl
 unfold Rn
 dsimp only
 rw[nd]
 split
 ·intro h; cases h
 ·intro h; cases h
theorem aY{mask i:Nat}(h:i<=mask):Cu mask i<=mask:=by unfold Cu; split <;> omega
theorem Uj(mask i:Nat):Cu mask i - i<=9:=by unfold Cu; split <;> omega
theorem cV(mask i p:Nat):SetTable.leap mask i p=((i * 5+1+p / 32) % (mask+1),p / 32):=rfl
theorem tF:∀{l1 l2:List Nat},l1.Nodup->(∀e∈l1,e∈l2)->l1.length<=l2.length
 | [],_,_,_=>Ds _
 | a::l1,l2,nd,h=>by
  have nd':=Ci.mp nd
  have ha:=h a (Aa ..)
  have:=tF (l2:=l2.erase a) nd'.2 λe he=>(Mb (show e≠a from λz=>nd'.1 (by rw[<- z]; exact he))).mpr (h e (Af _ he))
  rw[Jz ha] at this
  have p:0<l2.length:=Kx ha
  rw[Ba]
  omega
theorem yJ{m:Nat}{l:List Nat}(nd:l.Pairwise (· < ·))(h:l.length<m):∃e,e<m/\e∉l:=by
 refine Gj λz=>?_
 have all:∀e,e∈Bp m->e∈l:=λe he=>Gj λq=>z ⟨e,Dm.mp he,q⟩
 have:=tF List.nodup_range all
 rw[Dg] at this
 omega
theorem iJ{p:Array Nat}(r:cO p){j:Nat}(h:j∉p.toList):cO (Cj p (Bl p j) j):=by
  have b:=Pp r j
  show (Cj p (Bl p j) j).toList.Pairwise (· < ·)
  rw[Nm]
  have r1:(p.toList.take (Bl p j)).Pairwise (· < ·):=r.sublist (Gw _ _)
  have r2:(p.toList.drop (Bl p j)).Pairwise (· < ·):=r.sublist (Gz _ _)
  have lo:∀e∈p.toList.take (Bl p j),e<j:=λe he=>by
    obtain ⟨i,hi,ei⟩:=eI.mp he
    rw[Ae] at hi
    have:=b.lo i (by omega) (by omega)
    rw[<- ei]
    simpa using this
  have hi:∀e∈p.toList.drop (Bl p j),j<e:=λe he=>by
    have hm:e∈p.toList:=Se he
    obtain ⟨i,hi,ei⟩:=List.mem_drop_iff_getElem.mp he
    rw[Ae] at hi
    have:=b.hi (i+Bl p j) (by omega) (by omega)
    have e1:j<=e:=by
      rw[<- ei]
      simpa [Nat.add_comm] using this
    exact Nat.lt_of_le_of_ne e1 λz=>h (by rw[z]; exact hm)
  simp only[List.pairwise_append,List.pairwise_cons,An,Ay]
  first
    | exact ⟨r1,⟨hi,r2⟩,λa ha c hc=>by
        rcases hc with z | z
        · rw[z]; exact lo a ha
        · exact Wy (lo a ha) (hi c z)⟩
    | (refine ⟨⟨r1,⟨by simp,Ep⟩,λa ha c hc=>?_⟩,r2,λa ha c hc=>?_⟩
       · have z:c=j:=by simpa using hc
         rw[z]; exact lo a ha
       · rcases ha with z | z | z
         · exact Wy (lo a z) (hi c hc)
         · rw[z]; exact hi c hc
         · cases z)
theorem oT{mask finger moves:Nat}{led plain:Bool}{hs:Array Int}{t:Bg}{order:Array Nat}(h:Fz mask finger moves led plain hs=some (t,order)):cO t.place/\(∀j∈t.place.toList,j<=mask):=by
 unfold Fz at h
 cases hl:Ie mask hs with
 | none=>rw[hl] at h; cases h
 | some owner =>
  rw[hl] at h
  cases h
  have sub:∀(l:List Nat),l.Pairwise (· < ·)->(((l.filterMap λj=>(owner.getD j none).map λx=>(j,x)).map (·.1)).Pairwise (· < ·))/\∀j∈((l.filterMap λj=>(owner.getD j none).map λx=>(j,x)).map (·.1)),j∈l:=by
   intro l hl
   have m:∀j∈((l.filterMap λj=>(owner.getD j none).map λx=>(j,x)).map (·.1)),j∈l:=λj hj=>by
    obtain ⟨q,hq,rfl⟩:=Cc.mp hj
    obtain ⟨k,hk,ek⟩:=Hw.mp hq
    cases hg:owner.getD k none with
    | none=>rw[hg] at ek; cases ek
    | some v=>rw[hg] at ek; cases ek; exact hk
   refine ⟨?_,m⟩
   clear m
   induction l with
   | nil=>exact Ep
   | cons a l ih =>
    have hl':=Bh.mp hl
    have ih':=ih hl'.2
    rw[Hi]
    cases hg:owner.getD a none with
    | none=>simpa [hg] using ih'
    | some v =>
     simp only[Option.map_some,Aw,List.pairwise_cons]
     refine ⟨λj hj=>?_,ih'⟩
     obtain ⟨q,hq,rfl⟩:=Cc.mp hj
     obtain ⟨k,hk,ek⟩:=Hw.mp hq
     cases hg2:owner.getD k none with
     | none=>rw[hg2] at ek; cases ek
     | some v2=>rw[hg2] at ek; cases ek; exact hl'.1 k hk
  obtain ⟨s1,s2⟩:=sub (Bp (mask+1)) List.pairwise_lt_range
  exact ⟨s1,λj hj=>bR.mp (Dm.mp (s2 j hj))⟩
theorem tG{mask finger moves:Nat}{led:Bool}(g:Il (mask+1))(hs:Array Int)(hl:hs.size * 5<mask * 3):∃(t:Bg) (order:Array Nat),Fz mask finger moves led true hs=some (t,order)/\order.toList.Perm (Bp hs.size)/\Tab hs.size t/\t.led=led:=by
 obtain ⟨t,order,h1,h2,h3,h4⟩:=xY (finger:=finger) (moves:=moves) (led:=led) (plain:=true) g hs (by omega)
 obtain ⟨l1,l2,l3,l4⟩:=Sr h1
 obtain ⟨r1,r2⟩:=oT h1
 have sz:t.place.size=hs.size:=by
  have:=h3
  simp only[SetTable.fits,Gf,beq_iff_eq] at this
  exact this.1
 exact ⟨t,order,h1,h2,⟨⟨by rw[l2]; exact g,l4,l3,r1,by rw[l2]; exact r2,sz⟩,by rw[l2]; exact hl⟩,l1⟩
abbrev bt(w:World):Bool:=w.params.followText "set-order"
def Q1:Int×Value->Int
 | (_,.int k _)=>k
 | _=>0
def Q2(e:Int×Value):Prop:=∃k tk,e=(hashInt k,Li k tk)
abbrev xQ(es:Array (Int×Value)):List Int:=es.toList.map Q1
abbrev Hl(es:Array (Int×Value))(ep:Nat)(t:Bg):Obj:={ cls:=.type "set",dict:=none,data:=.set es ep t }
structure SetS(w:World)(h:Heap)(a:Addr)(es:Array (Int×Value))(ep:Nat)(t:Bg):Prop where
 obj:h.get? a=some (Hl es ep t)
 ent:∀e∈es.toList,Q2 e
 nd:(xQ es).Nodup
 tab:Tab es.size t
 led:bt w=false->t.led=true
 few:es.size<64
def ins(k:Int)(l:List Int):List Int:=if k∈l then l else k::l
theorem lU{es:Array (Int×Value)}{ep:Nat}{t:Bg}(es':Array (Int×Value))(t':Bg):Vy es' t' (Hl es ep t)=Hl es' (ep+1) t':=putSet_of es' t' rfl
theorem mW{h:Heap}{a:Addr}{es:Array (Int×Value)}{ep:Nat}{t:Bg}(ho:h.get? a=some (Hl es ep t))(es':Array (Int×Value))(t':Bg):(h.update a (Vy es' t')).get? a=some (Hl es' (ep+1) t'):=by
 have:=Gm (Vy es' t') ho (by rw[lU]; rfl)
 rw[lU] at this
 exact this
theorem Ik{α:Type}:∀{l:List α} {i:Nat} (h:i<l.length),(l[i]::l.eraseIdx i).Perm l
 | [],_,h=>absurd h (Dr _)
 | a::l,0,h=>Ke _
 | a::l,i+1,h=>by
  have:=Ik (l:=l) (i:=i) (by simpa using h)
  exact (Ij a _ _).trans (List.Perm.cons a this)
theorem lR{α:Type}(next:Nat->Nat):∀(fuel k:Nat) (left:List α) (out:Array α),left.length=fuel->(pickOrder.go next fuel k left out).toList.Perm (out.toList++left)
 | 0,k,left,out,h=>by
  unfold pickOrder.go
  have : left=[]:=Zq h
  subst this
  simp
 | fuel+1,k,left,out,h=>by
  unfold pickOrder.go
  have hi:next k % left.length<left.length:=Lu _ (by omega)
  rw[Bu hi]
  dsimp only
  refine (lR next fuel (k+1) _ _ (by rw[List.length_eraseIdx,if_pos hi]; omega)).trans ?_
  rw[Fu,Bz]
  exact Hs _ (Ik hi)
theorem qE{α:Type}(next:Nat->Nat)(xs:Array α):(pickOrder next xs).toList.Perm xs.toList:=by
 unfold pickOrder
 simpa using lR next xs.size 0 xs.toList #[] (by simp)
section
variable{prog:Be}{w:World}{A:Co}{E:Value->Ag->Prop}{s:Ag}
theorem Uw{Q:Bool->Ag->Prop}(h:Q (bt w) s):wpAny (model prog w) A setsByText Q E s:=by
 unfold setsByText
 exact Ab (eE (Aj h))
theorem oZ{a:Addr}{es:Array (Int×Value)}{ep:Nat}:(if bt w then pickOrder (w.params.setOrder a ep) es else es).toList.Perm es.toList:=by
 cases bt w with
 | true=>exact qE _ _
 | false=>exact Ke _
end
theorem len_leI:∀{l1 l2:List Int},l1.Nodup->(∀e∈l1,e∈l2)->l1.length<=l2.length
 | [],_,_,_=>Ds _
 | a::l1,l2,nd,h=>by
  have nd':=Ci.mp nd
  have ha:=h a (Aa ..)
  have:=len_leI (l2:=l2.erase a) nd'.2 λe he=>(Mb (show e≠a from λz=>nd'.1 (by rw[<- z]; exact he))).mpr (h e (Af _ he))
  rw[Jz ha] at this
  have p:0<l2.length:=Kx ha
  rw[Ba]
  omega
theorem Vo:isSubtype (.type "set") (.type "set")=pure true:=by rw[isSubtype_type]; kernel_rfl
end NdS
namespace NdS
open PySem PyProof.Rows
section
variable{prog:Be}{w:World}{A:Co}{E:Value->Ag->Prop}{s:Ag}
theorem rW(v:Value){Q:Value->Ag->Prop}(h:Q (.ref s.heap.objs.size) { s with heap:=s.heap.push (Hl #[] 0 (.fresh 0 0 (!bt w))) }):Mv (model prog w) A (.call (.builtin "set.__new__") ⟨[.type "set",v],[]⟩) (wants Q E) s:=by
 have sub:=Vo
 obtain ⟨hp,g,d,tk,os⟩:=s
 refine codeAny_of_tree (show wpAny _ A.in1 (do checkBuiltinCall "set.__new__" ⟨[.type "set",v],[]⟩; again (.builtin "set.__new__" ⟨[.type "set",v],[]⟩)) _ _ _ from ?_)
 refine Ab (Lf (PySem.F.newCall_set_1 v) (Aj ⟨Qy PySem.F.plain_set_new _,Je PySem.F.entry_set_new ?_⟩))
 rw[Gs PySem.F.plain_set_new _]
 unfold Builtin.«set.__new__» Builtin.Frozenset.newClass
 dsimp only
 wp_walk
 refine eE (Aj ?_)
 dsimp only
 simp only[newObj]
 exact Ab (wpAny_alloc (Aj (Aj h)))
end
theorem Qu:Slot "set_iterator" "__next__" "set_iterator.__next__" :=
 .of (owner := "set_iterator") (n := "__next__") (by rw[typeLookup_type,builtinLookup_eq_fast]; kernel_rfl) (by decide +kernel) (by decide +kernel) (by decide +kernel) (by first | exact .inl (by decide +kernel) | exact .inr (by decide +kernel)) (by rw[isSubtype_type]; kernel_rfl)
theorem Yq:entryFor table "set_iterator.__next__" = some Builtin.«set_iterator.__next__»:=entryFor_of_tree (by kernel_rfl)
theorem bF(a:Value):argsOk "set_iterator.__next__" ⟨[a],[]⟩:=by unfold argsOk; kernel_rfl
theorem jB:entryFor table "set.__iter__" = some Builtin.«frozenset.__iter__» :=
 entryFor_alias (id' := "frozenset.__iter__") (by kernel_rfl) (by first | rfl | decide +kernel) (by decide +kernel) (by kernel_rfl)
abbrev lO(f i:Nat)(a:Addr)(n ep:Nat):Obj:={ cls:=.type "set_iterator",data:=.fields #[Lr f,Lr i,.ref a,Lr n,Lr ep] }
def arrOf(w:World)(a:Addr)(ep:Nat)(es:Array (Int×Value)):Array (Int×Value):=if bt w then pickOrder (w.params.setOrder a ep) es else es
theorem eZ{w:World}{a:Addr}{ep:Nat}{es:Array (Int×Value)}:(arrOf w a ep es).toList.Perm es.toList:=oZ
theorem Nv{w:World}{a:Addr}{ep:Nat}{es:Array (Int×Value)}:(arrOf w a ep es).size=es.size:=by
 have:=(eZ (w:=w) (a:=a) (ep:=ep) (es:=es)).length_eq
 rw[Ae,Ae] at this
 exact this
theorem aJ:Slot "set_iterator" "__iter__" "set_iterator.__iter__" :=
 .of (owner := "set_iterator") (n := "__iter__") (by rw[typeLookup_type,builtinLookup_eq_fast]; kernel_rfl) (by decide +kernel) (by decide +kernel) (by decide +kernel) (by first | exact .inl (by decide +kernel) | exact .inr (by decide +kernel)) (by rw[isSubtype_type]; kernel_rfl)
theorem jN:entryFor table "set_iterator.__iter__" = some Builtin.«dict_keyiterator.__iter__» :=
 entryFor_alias (id' := "dict_keyiterator.__iter__") (by kernel_rfl) (by first | rfl | decide +kernel) (by decide +kernel) (by kernel_rfl)
theorem pL(a:Value):argsOk "set_iterator.__iter__" ⟨[a],[]⟩:=by unfold argsOk; kernel_rfl
section
variable{prog:Be}{w:World}{A:Co}{E:Value->Ag->Prop}{s:Ag}
theorem rD{r:Addr}{Q:Bool->Ag->Prop}(hT:s.TypeIs (.ref r) "set")(h:Q false s):wpAny (model prog w) A (Ui (.ref r)) Q E s:=by
 unfold Ui
 refine Ab (wpAny_specialOf hT PySem.F.slot_set_len.lookup ?_)
 generalize hid:("set.__len__" : String)=id0
 wp_delta
 rw[show splitId id0=some ("set", "__len__") from by subst hid; decide +kernel]
 subst hid
 refine Ab (wpAny_isInstance (T := "set") (b:=true) hT Vo ?_)
 refine wpAny_ite_split (λz=>absurd z (by decide)) (λ_=>wpAny_ite_split (λ_=>?_) (λz=>absurd (by decide +kernel) z))
 exact Ab (Kc hT (Aj h))
end
end NdS
namespace Nd
open PySem PySem.Spec PyProof.Rows L2 NdS
def W0(w:World)(a:Addr)(ks:List Int)(h:Heap):Prop:=∃es ep t,SetS w h a es ep t/\∀x,x∈xQ es↔x∈ks
abbrev BF(w:World)(a:Addr)(ks:List Int):HO:=.ext (W0 w a ks)
end Nd
namespace Nd
open PySem L2
def Vs(d:Addr)(H H':Hp):Prop:=∀b o,b≠d->H b=some o->H' b=some o
theorem Vs.trans{d:Addr}{H H1 H2:Hp}(a:Vs d H H1)(b:Vs d H1 H2):Vs d H H2:=λc o n h=>b c o n (a c o n h)
theorem Vs.upd{d:Addr}{H:Hp}{o:HO}:Vs d H (upd H d o):=λb o n h=>by rw[Eg n]; exact h
theorem pK{n:Nat}(h:n<=1000000):n<=Ax:=by rw[Jt]; omega
theorem dF(a b:Int)(h:0<b):0<=a % b/\a % b<b:=⟨Int.emod_nonneg _ (by omega),Int.emod_lt_of_pos _ h⟩
def Hg(h:Int)(ns:List Int):Prop:=ns.Pairwise (· < ·)/\∀x∈ns,0<=x/\x<h
theorem Hg.nil(h:Int):Hg h []:=⟨Ep,λx hx=>by cases hx⟩
theorem Hg.more{h:Int}{ns:List Int}(r:Hg h ns)(h0:0<=h):Hg (h+1) (ns++[h]) :=
 ⟨Cn.mpr ⟨r.1,Fv _ _,λa ha b hb=>by rw[Ai.mp hb]; exact (r.2 a ha).2⟩,λx hx=>by
  rcases Ay.mp hx with z | z
  ·have:=r.2 x z; omega
  ·have:=Ai.mp z; omega⟩
theorem Hg.up{h h':Int}{ns:List Int}(r:Hg h ns)(l:h<=h'):Hg h' ns:=⟨r.1,λx hx=>by have:=r.2 x hx; omega⟩
def dX(H:Hp)(d:Addr)(c k:Int)(f:Bool):Prop:=H d=some (.lst [.int c,.int k,.bl f])
def tJ:Sp:=λvs H Q _=>∃(d:Addr) (c k:Int) (f:Bool),vs=[.ref d]/\dX H d c k f/\0<=k/\k<=1000000/\∀(r c':Int) (H':Hp),dX H' d c' (k+1) f->Vs d H H'->Q (.int r) H'
def Bd(ns:List Int):Ac:=.tuple (ns.map Ca)
theorem kR(ns:List Int):(Bd ns).depth<=1:=by
 have : (Bd ns).depth<=Bi (ns.map Ca)+1:=by simp [Bd,Dd]
 rw[jW] at this
 exact this
def CW:List Int:=(Bp 60).map λi:Nat=>(i:Int)
theorem nO{x:Int}(h0:0<=x)(h1:x<60):x∈CW:=Cc.mpr ⟨x.toNat,Dm.mpr (by omega),by omega⟩
theorem yW(TD:List Ac):Do (.list TD) (.list [])=TD.isEmpty:=by cases TD <;> simp [Do,Mp]
def uZ(b:Bool):Str:=if b=true then "back" else "front"
def order{α:Type}(a b:α)(l:List α):Option Bool->List α
 | none=>l
 | some true=>[a,b]
 | some false=>[b,a]
structure TD(K:PySem.W.Frag)(H:Hp)(x:V)(d:Ac)(n m:Nat):Prop where
 rd:RdV K H x d
 fits:V2 22 d
 nd:t9 d<=n
 dp:d.depth<=m
abbrev j4(K:PySem.W.Frag):List V->Hp->VK->Prop:=λxs H Q=>∃p ys,xs=[V.ref p]/\(Sn K H p ys\/Sg K H p ys)/\∀l,H l=none->Q (.ref l) (upd H l (.lst ys))
theorem yC{X:Cx}:Kf X (.type "list") (j4 X.K):=dG
abbrev n4(K:PySem.W.Frag):List V->Hp->VK->Prop:=λxs H Q=>∃p ys,xs=[V.ref p]/\((Sn K H p ys/\∀l,H l=none->Q (.ref l) (upd H l (.tup ys)))\/(Sg K H p ys/\Q (.ref p) H))
theorem Tc{X:Cx}:Kf X (.type "tuple") (n4 X.K):=aF
end Nd
namespace DL
open PySem L2 Nd
def KL(K:PySem.W.Frag)(H:Hp)(a:Addr)(xs:List V):Prop :=
 (∃o,H a=some (.frz o (.lst xs)))\/∃(its:Array Value) (n:Nat),K.lookup a=some { cls:=.type "list",data:=.seq its n }/\its.size<=Ax/\Fg xs its.toList
def Xg:Nat->Ac
 | 0=>.none
 | n+1=>.tuple [Xg n]
def Vm(ks:List (List Int×Ac)):List (Ac×Ac):=(Xg 100,.none)::ks.map λp=>(Bd p.1,p.2)
def AU(ks:List (Int×Ac)):List (Ac×Ac):=(Xg 100,.bool true)::ks.map λp=>(.int p.1,p.2)
def zU:List (Ac×Ac)->Bool
 | (_,.none)::_=>true
 | _=>false
def E7(a:Addr)(ks:List (List Int×Ac)):List (Ac×Ac):=(Xg 100,.int a)::ks.map λp=>(Bd p.1,p.2)
def Lz(w:List Int):List Jy:=w.map Ra
mutual
inductive RdF (K:PySem.W.Frag) (H:Hp):V->Ac->List Addr->Prop
 | non:RdF K H .non .none []
 | bl (b:Bool):RdF K H (.bl b) (.bool b) []
 | int (i:Int):RdF K H (.int i) (.int i) []
 | str (x:Str):RdF K H (.str x) (.str x) []
 | lst {a:Addr} {xs:List V} {ds:List Ac} {F:List Addr}:H a=some (.lst xs)->ds.length<=Ax->RdFs K H xs ds F->RdF K H (.ref a) (.list ds) (a::F)
 | tup {a:Addr} {xs:List V} {ds:List Ac} {F:List Addr}:H a=some (.tup xs)->ds.length<=Ax->RdFs K H xs ds F->RdF K H (.ref a) (.tuple ds) F
 | dic {a:Addr} {kv:List (List Jy×V)} {ks:List (List Int×Ac)}:H a=some (.dT kv)->kv.map (·.1)=ks.map (λp=>Lz p.1)->RdFs K H (kv.map (·.2)) (ks.map (·.2)) []->RdF K H (.ref a) (.dict (Vm ks)) [a]
 | dik {a:Addr} {kv:List (Jy×V)} {ks:List (Int×Ac)}:H a=some (.dK kv)->kv.map (·.1)=ks.map (λp=>(Ra p.1:Jy))->RdFs K H (kv.map (·.2)) (ks.map (·.2)) []->RdF K H (.ref a) (.dict (AU ks)) [a]
 | dnm {a:Addr} {kv:List (List Jy×V)} {ks:List (List Int×Ac)}:H a=some (.dT kv)->kv.map (·.1)=ks.map (λp=>Lz p.1)->RdFs K H (kv.map (·.2)) (ks.map (·.2)) []->RdF K H (.ref a) (.dict (E7 a ks)) [a]
inductive RdFs (K:PySem.W.Frag) (H:Hp):List V->List Ac->List Addr->Prop
 | nil:RdFs K H [] [] []
 | cons {x:V} {d:Ac} {xs:List V} {ds:List Ac} {F G:List Addr}:RdF K H x d F->RdFs K H xs ds G->RdFs K H (x::xs) (d::ds) (F++G)
end
def AA(o:HO):Prop:=(∃xs,o=.tup xs)\/∃ob u,o=.frz ob u
def Kp(F:List Addr)(H H':Hp):Prop:=∀b o,H b=some o->(b∈F\/AA o)->H' b=some o
theorem Kp.of{F:List Addr}{H H':Hp}(s:Wd H H'):Kp F H H':=λb o e _=>s b o e
theorem Kp.sub{F G:List Addr}{H H':Hp}(k:Kp F H H')(h:∀a∈G,a∈F):Kp G H H':=λb o e z=>k b o e (z.imp (h b) id)
section
variable{K:PySem.W.Frag}{H H':Hp}
theorem KL.kp{a:Addr}{xs:List V}{F:List Addr}(h:KL K H a xs)(k:Kp F H H'):KL K H' a xs:=by
 rcases h with ⟨o,h⟩ | h
 ·exact .inl ⟨o,k _ _ h (.inr (.inr ⟨_,_,rfl⟩))⟩
 ·exact .inr h
theorem KL.sq{a:Addr}{xs:List V}(h:KL K H a xs):Sn K H a xs:=by
 rcases h with ⟨o,h⟩ | ⟨its,n,h,hz,r⟩
 ·exact .inl (.inr ⟨o,h⟩)
 ·exact .inr ⟨_,its,n,h,rfl,rfl,rfl,hz,r⟩
mutual
theorem RdF.kp:∀{v:V} {d:Ac} {F:List Addr},RdF K H v d F->Kp F H H'->RdF K H' v d F
 | _,_,_,.non,_=>.non
 | _,_,_,.bl b,_=>.bl b
 | _,_,_,.int i,_=>.int i
 | _,_,_,.str x,_=>.str x
 | _,_,_,.lst h l hs,k=>.lst (k _ _ h (.inl Aa)) l (RdFs.kp hs (k.sub λ_ z=>Af _ z))
 | _,_,_,.tup h l hs,k=>.tup (k _ _ h (.inr (.inl ⟨_,rfl⟩))) l (RdFs.kp hs k)
 | _,_,_,.dic h e hs,k=>.dic (k _ _ h (.inl Aa)) e (RdFs.kp hs (k.sub λ_ z=>nomatch z))
 | _,_,_,.dik h e hs,k=>.dik (k _ _ h (.inl Aa)) e (RdFs.kp hs (k.sub λ_ z=>nomatch z))
 | _,_,_,.dnm h e hs,k=>.dnm (k _ _ h (.inl Aa)) e (RdFs.kp hs (k.sub λ_ z=>nomatch z))
theorem RdFs.kp:∀{v:List V} {d:List Ac} {F:List Addr},RdFs K H v d F->Kp F H H'->RdFs K H' v d F
 | _,_,_,.nil,_=>.nil
 | _,_,_,.cons h hs,k=>.cons (RdF.kp h (k.sub λ_ z=>Aq _ z)) (RdFs.kp hs (k.sub λ_ z=>Al _ z))
end
theorem Na:∀n,(Xg n).depth=n
 | 0=>by simp [Xg,Dd]
 | n+1=>by
  have:=Na n
  simp only[Xg,Dd,Bi,this]
  omega
theorem qZ{ks:List (Int×Ac)}:100<=(PyData.dict (AU ks)).depth:=by
 have:=Na 100
 simp only[AU,Dd,PyData.depthKv,this]
 omega
theorem sP{a:Addr}{ks:List (List Int×Ac)}:100<=(PyData.dict (E7 a ks)).depth:=by
 have:=Na 100
 simp only[E7,Dd,PyData.depthKv,this]
 omega
theorem vJ{ks:List (List Int×Ac)}:100<=(PyData.dict (Vm ks)).depth:=by
 have:=Na 100
 simp only[Vm,Dd,PyData.depthKv,this]
 omega
mutual
theorem RdF.rd:∀{v:V} {d:Ac} {F:List Addr},RdF K H v d F->d.depth<=90->RdV K H v d
 | _,_,_,.non,_=>.non
 | _,_,_,.bl b,_=>.bl b
 | _,_,_,.int i,_=>.int i
 | _,_,_,.str x,_=>.str x
 | _,_,_,.lst h l hs,z=>.lst (Sn.of h) (RdFs.rd hs (by simp only[Dd] at z; omega))
 | _,_,_,.tup h l hs,z=>.tup (Sg.of h) (RdFs.rd hs (by simp only[Dd] at z; omega))
 | _,_,_,.dic h e hs,z=>absurd (Cg vJ z) (by decide)
 | _,_,_,.dik h e hs,z=>absurd (Cg qZ z) (by decide)
 | _,_,_,.dnm h e hs,z=>absurd (Cg sP z) (by decide)
theorem RdFs.rd:∀{v:List V} {d:List Ac} {F:List Addr},RdFs K H v d F->Bi d<=90->RdVs K H v d
 | _,_,_,.nil,_=>.nil
 | _,_,_,.cons h hs,z=>.cons (RdF.rd h (by simp only[Bi] at z; omega)) (RdFs.rd hs (by simp only[Bi] at z; omega))
end
mutual
theorem RdF.dom:∀{v:V} {d:Ac} {F:List Addr},RdF K H v d F->∀a∈F,∃o,H a=some o
 | _,_,_,.non,_,z=>nomatch z
 | _,_,_,.bl b,_,z=>nomatch z
 | _,_,_,.int i,_,z=>nomatch z
 | _,_,_,.str x,_,z=>nomatch z
 | _,_,_,.lst h l hs,b,z=>by
  rcases An.mp z with rfl | z
  ·exact ⟨_,h⟩
  ·exact RdFs.dom hs b z
 | _,_,_,.tup h l hs,b,z=>RdFs.dom hs b z
 | _,_,_,.dic h e hs,b,z=>⟨_,Ai.mp z▸h⟩
 | _,_,_,.dik h e hs,b,z=>⟨_,Ai.mp z▸h⟩
 | _,_,_,.dnm h e hs,b,z=>⟨_,Ai.mp z▸h⟩
theorem RdFs.dom:∀{v:List V} {d:List Ac} {F:List Addr},RdFs K H v d F->∀a∈F,∃o,H a=some o
 | _,_,_,.nil,_,z=>nomatch z
 | _,_,_,.cons h hs,b,z=>by
  rcases Ay.mp z with z | z
  ·exact RdF.dom h b z
  ·exact RdFs.dom hs b z
end
theorem RdFs.len:∀{v:List V} {d:List Ac} {F:List Addr},RdFs K H v d F->v.length=d.length
 | _,_,_,.nil=>rfl
 | _,_,_,.cons _ t=>by rw[Ba,Ba,RdFs.len t]
theorem RdFs.get:∀{v:List V} {d:List Ac} {F:List Addr} {i:Nat} {e:Ac},RdFs K H v d F->d[i]? = some e->∃x G,v[i]? = some x/\RdF K H x e G/\G.Sublist F
 | _,_,_,_,_,.nil,z=>by simp at z
 | _,_,_,0,_,.cons h _,z=>by
  simp at z
  subst z
  exact ⟨_,_,rfl,h,List.sublist_append_left _ _⟩
 | _,_,_,i+1,e,.cons _ t,z=>by
  obtain ⟨x,G,h1,h2,h3⟩:=RdFs.get (i:=i) (e:=e) t (by simpa using z)
  exact ⟨x,G,by simpa using h1,h2,h3.trans (Dt _ _)⟩
theorem RdFs.app:∀{v w:List V} {d e:List Ac} {F G:List Addr},RdFs K H v d F->RdFs K H w e G->RdFs K H (v++w) (d++e) (F++G)
 | _,_,_,_,_,_,.nil,h=>h
 | _,_,_,_,_,_,.cons a t,h=>by
  rw[Bz]
  exact .cons a (RdFs.app t h)
theorem RdFs.snoc{v:List V}{d:List Ac}{F G:List Addr}{x:V}{e:Ac}(t:RdFs K H v d F)(h:RdF K H x e G):RdFs K H (v++[x]) (d++[e]) (F++G):=by
 have:=t.app (.cons h .nil)
 rw[Dz] at this
 exact this
end
mutual
def imm:Ac->Bool
 | .list _=>false
 | .dict _=>false
 | .tuple xs=>Dy xs
 | _=>true
def Dy:List Ac->Bool
 | []=>true
 | x::xs=>imm x && Dy xs
end
theorem jL:∀{xs:List Ac},Dy xs=true↔∀x∈xs,imm x=true
 | []=>by simp [Dy]
 | x::xs=>by simp [Dy,jL (xs:=xs)]
theorem Rr{α:Type}{f:α->Ac}(h:∀a,imm (f a)=true)(l:List α):Dy (l.map f)=true:=jL.mpr λx hx=>by
 obtain ⟨a,_,rfl⟩:=Cc.mp hx
 exact h a
theorem vQ(ns:List Int):imm (Bd ns)=true:=by
 unfold Bd
 rw[imm]
 exact Rr (λ_=>by simp [imm]) ns
section
variable{K:PySem.W.Frag}{H H':Hp}
mutual
theorem RdF.imm:∀{v:V} {d:Ac} {F:List Addr},RdF K H v d F->DL.imm d=true->F=[]
 | _,_,_,.non,_=>rfl
 | _,_,_,.bl b,_=>rfl
 | _,_,_,.int i,_=>rfl
 | _,_,_,.str x,_=>rfl
 | _,_,_,.lst h l hs,k=>by simp [DL.imm] at k
 | _,_,_,.tup h l hs,k=>RdFs.imm hs (by simpa [DL.imm] using k)
 | _,_,_,.dic h e hs,k=>by simp [DL.imm] at k
 | _,_,_,.dik h e hs,k=>by simp [DL.imm] at k
 | _,_,_,.dnm h e hs,k=>by simp [DL.imm] at k
theorem RdFs.imm:∀{v:List V} {d:List Ac} {F:List Addr},RdFs K H v d F->Dy d=true->F=[]
 | _,_,_,.nil,_=>rfl
 | _,_,_,.cons h hs,k=>by
  rw[Dy,Gf] at k
  rw[RdF.imm h k.1,RdFs.imm hs k.2]
  rfl
end
end
inductive Md where
 | pk | sh | tp | ow
 deriving DecidableEq
inductive DV where
 | un
 | dat (m:Md) (d:Ac)
 | drw
 | dT (kvs:List (List Jy×Ac))
 | val (v:V)
 | scr (ns:List Int)
 | acc (ds:List Ac)
 | grd (Hc:Hp)
 | tpl (xs:List V)
structure DS where
 sl:List DV
 n:Nat
structure Ent where
 v:Option V
 x:DV
 F:List Addr
def Mu:DV->Bool
 | .dat .pk _=>true
 | _=>false
def W8:DV->Bool
 | .drw=>true
 | _=>false
def x5:DV->Bool
 | .drw=>true
 | .acc _=>true
 | .dT _=>true
 | .grd _=>true
 | _=>false
def cells(e:Ent):List Addr:=match e.x with
 | .dat .ow _=>e.F
 | .dat .tp _=>e.F.take 1
 | .drw=>e.F
 | .dT _=>e.F
 | .acc _=>e.F.take 1
 | .grd _=>e.F
 | _=>[]
theorem Ga(e:Ent):∀a∈cells e,a∈e.F:=by
 obtain ⟨v,x,F⟩:=e
 intro a h
 cases x with
 | un=>exact nomatch h
 | val _=>exact nomatch h
 | scr _=>exact nomatch h
 | drw=>exact h
 | dT _=>exact h
 | grd _=>exact h
 | tpl _=>exact nomatch h
 | acc _=>exact (Gw _ _).subset h
 | dat m d =>
  cases m with
  | pk=>exact nomatch h
  | sh=>exact nomatch h
  | tp=>exact (Gw _ _).subset h
  | ow=>exact h
def Sq(e f:Ent):Prop:=((Mu f.x=false\/x5 e.x=true)->∀a∈cells e,a∉f.F)/\((Mu e.x=false\/x5 f.x=true)->∀a∈cells f,a∉e.F)
theorem Sq.symm{e f:Ent}(h:Sq e f):Sq f e:=⟨h.2,h.1⟩
def Jc(K:PySem.W.Frag)(H:Hp)(n:Nat)(e:Ent):Prop:=match e.x with
 | .un=>e.F=[]
 | .dat m d=>∃v,e.v=some v/\RdF K H v d e.F/\(m=.ow->e.F.Nodup)/\(m=.tp->∀a l,e.F=a::l->a∉l)
 | .drw=>∃dr c k f,e.v=some (.ref dr)/\e.F=[dr]/\dX H dr c k f/\0<=k/\k<=(n:Int)
 | .dT kvs=>∃a ks,e.v=some (.ref a)/\e.F=[a]/\H a=some (.dT ks)/\ks.map (·.1)=kvs.map (·.1)/\RdFs K H (ks.map (·.2)) (kvs.map (·.2)) []
 | .val v=>e.v=some v/\e.F=[]
 | .scr ns=>∃a,e.v=some (.ref a)/\e.F=[]/\KL K H a (ns.map V.int)/\ns.length<=63
 | .acc ds=>∃a xs G,e.v=some (.ref a)/\e.F=a::G/\H a=some (.lst xs)/\RdFs K H xs ds G/\ds.length<=Ax/\a∉G
 | .grd Hc=>∀a∈e.F,∃o,Hc a=some o/\H a=some o
 | .tpl xs=>∃t,e.v=some (.ref t)/\H t=some (.tup xs)/\e.F=[]
structure At(K:PySem.W.Frag)(H0:Hp)(X:Addr->Prop)(n:Nat)(E:List Ent)(H:Hp):Prop where
 ok:∀e∈E,Jc K H n e
 sep:E.Pairwise Sq
 new:∀e∈E,∀a∈cells e,H0 a=none\/(X a/\W8 e.x=true)
 same:∀b o,¬ X b->H0 b=some o->H b=some o
 dom:∀b o,H0 b=some o->∃o',H b=some o'
 xd:∀b,X b->H0 b≠none/\∃c k f,dX H b c k f/\0<=k/\k<=(n:Int)
section
variable{K:PySem.W.Frag}{H0 H H':Hp}{X:Addr->Prop}{n n':Nat}{E E' S T:List Ent}{e f:Ent}
theorem At.perm(h:At K H0 X n E H)(p:E.Perm E'):At K H0 X n E' H :=
 ⟨λe he=>h.ok e (p.mem_iff.mpr he),(p.pairwise_iff λ{a b}=>Sq.symm).mp h.sep,λe he=>h.new e (p.mem_iff.mpr he),h.same,h.dom,h.xd⟩
theorem At.sub(h:At K H0 X n E H)(p:E'.Sublist E):At K H0 X n E' H :=
 ⟨λe he=>h.ok e (p.subset he),h.sep.sublist p,λe he=>h.new e (p.subset he),h.same,h.dom,h.xd⟩
theorem At.drop(h:At K H0 X n (S++e::T) H):At K H0 X n (S++T) H:=h.sub ((Eh S).append (Df _ _))
theorem sU:(S++e::T).Perm (e::(S++T)):=Zj
theorem At.mid(h:At K H0 X n (S++e::T) H):At K H0 X n (e::(S++T)) H:=h.perm sU
theorem At.tomid(h:At K H0 X n (e::(S++T)) H):At K H0 X n (S++e::T) H:=h.perm sU.symm
theorem Jc.dom(h:Jc K H n e):∀a∈e.F,∃o,H a=some o:=by
 obtain ⟨v,x,F⟩:=e
 intro a ha
 cases x with
 | un=>rw[show F=[] from h] at ha; cases ha
 | val _=>rw[show F=[] from h.2] at ha; cases ha
 | scr _ =>
  obtain ⟨_,_,hF,_⟩:=h
  rw[show F=[] from hF] at ha; cases ha
 | dat m d =>
  obtain ⟨w,_,h,_⟩:=h
  obtain ⟨xs,z⟩:=h.dom a ha
  exact ⟨_,z⟩
 | drw =>
  obtain ⟨dr,c,k,f,_,hF,h,_⟩:=h
  rw[show F=[dr] from hF] at ha
  rw[Ai.mp ha]
  exact ⟨_,h⟩
 | grd Hc =>
  obtain ⟨o,_,z⟩:=h a ha
  exact ⟨o,z⟩
 | tpl xs =>
  obtain ⟨_,_,_,hF⟩:=h
  rw[show F=[] from hF] at ha; cases ha
 | dT kvs =>
  obtain ⟨b,ks,_,hF,h,_⟩:=h
  rw[show F=[b] from hF] at ha
  rw[Ai.mp ha]
  exact ⟨_,h⟩
 | acc ds =>
  obtain ⟨b,ks,G,_,hF,h,hr,_⟩:=h
  rw[show F=b::G from hF] at ha
  rcases An.mp ha with rfl | ha
  ·exact ⟨_,h⟩
  ·obtain ⟨xs,z⟩:=hr.dom a ha
   exact ⟨_,z⟩
theorem Jc.kp(h:Jc K H n e)(k:Kp e.F H H')(hn:n<=n'):Jc K H' n' e:=by
 obtain ⟨v,x,F⟩:=e
 cases x with
 | un=>exact h
 | val _=>exact h
 | scr _ =>
  obtain ⟨a,h1,h2,h3,h4⟩:=h
  exact ⟨a,h1,h2,h3.kp k,h4⟩
 | dat m d =>
  obtain ⟨w,h1,h2,h3⟩:=h
  exact ⟨w,h1,h2.kp k,h3⟩
 | drw =>
  obtain ⟨dr,c,kk,f,h1,hF,h2,h3,h4⟩:=h
  have hF':F=[dr]:=hF
  subst hF'
  exact ⟨dr,c,kk,f,h1,rfl,k _ _ h2 (.inl Aa),h3,by omega⟩
 | tpl xs =>
  obtain ⟨t,h1,h2,h3⟩:=h
  exact ⟨t,h1,k _ _ h2 (.inr (.inl ⟨_,rfl⟩)),h3⟩
 | grd Hc =>
  intro a ha
  obtain ⟨o,h1,h2⟩:=h a ha
  exact ⟨o,h1,k _ _ h2 (.inl ha)⟩
 | dT kvs =>
  obtain ⟨b,ks,h1,hF,h2,h3,h4⟩:=h
  have hF':F=[b]:=hF
  subst hF'
  exact ⟨b,ks,h1,rfl,k _ _ h2 (.inl Aa),h3,h4.kp (k.sub λ_ z=>nomatch z)⟩
 | acc ds =>
  obtain ⟨b,ks,G,h1,hF,h2,h3,h4⟩:=h
  have hF':F=b::G:=hF
  subst hF'
  exact ⟨b,ks,G,h1,rfl,k _ _ h2 (.inl Aa),h3.kp (k.sub λ_ z=>Af _ z),h4⟩
theorem At.grow(h:At K H0 X n E H)(s:Wd H H')(hn:n<=n'):At K H0 X n' E H' :=
 ⟨λe he=>(h.ok e he).kp (Kp.of s) hn,h.sep,h.new,λb o nx e=>s _ _ (h.same b o nx e),λb o e=>let ⟨o',q⟩:=h.dom b o e; ⟨o',s _ _ q⟩,λb hb=>let ⟨z,c,k,f,h1,h2,h3⟩:=h.xd b hb; ⟨z,c,k,f,s _ _ h1,h2,by omega⟩⟩
theorem At.free(h:At K H0 X n E H){a:Addr}(ha:H a=none):∀e∈E,a∉e.F:=λe he z=>by
 obtain ⟨o,q⟩:=(h.ok e he).dom a z
 rw[ha] at q; cases q
theorem At.push(h:At K H0 X n E H)(ok:Jc K H n e)(sep:∀f∈E,Sq e f)(new:∀a∈cells e,H0 a=none\/(X a/\W8 e.x=true)):At K H0 X n (e::E) H :=
 ⟨λg hg=>by
  rcases An.mp hg with rfl | hg
  ·exact ok
  ·exact h.ok g hg,Bh.mpr ⟨sep,h.sep⟩,λg hg=>by
  rcases An.mp hg with rfl | hg
  ·exact new
  ·exact h.new g hg,h.same,h.dom,h.xd⟩
theorem At.new0(h:At K H0 X n E H){p:Addr}(hp:H p=none):H0 p=none:=by
 cases q:H0 p with
 | none=>rfl
 | some o =>
  obtain ⟨o',z⟩:=h.dom p o q
  rw[hp] at z; cases z
theorem xZ{v:Option V}{m:Md}{d:Ac}:Sq ⟨v,.dat m d,[]⟩ f:=by
 refine ⟨λ_ a ha=>?_,λ_ a _=>Bv⟩
 have:=Ga _ a ha
 cases this
theorem At.pushI(h:At K H0 X n (S++T) H){v:V}{m:Md}{d:Ac}(r:RdF K H v d []):At K H0 X n (S++⟨some v,.dat m d,[]⟩::T) H :=
 (h.push (e:=⟨some v,.dat m d,[]⟩) ⟨v,rfl,r,λ_=>Cz,λ_ a l z=>nomatch z⟩ (λf _=>xZ) (λa ha=>nomatch Ga _ a ha)).tomid
def wk:Md->Md->Bool
 | _,.pk=>true
 | .pk,_=>false
 | _,.sh=>true
 | .sh,_=>false
 | _,.tp=>true
 | .tp,.ow=>false
 | .ow,.ow=>true
theorem fN{v:Option V}{m m':Md}{d:Ac}{F:List Addr}(w:wk m m'=true):∀a∈cells ⟨v,.dat m' d,F⟩,a∈cells ⟨v,.dat m d,F⟩:=by
 intro a ha
 cases m <;> cases m' <;> first | exact absurd w (by decide) | exact ha | exact absurd ha Bv | exact (Gw 1 F).subset ha
theorem oM{α:Type}{F:List α}(h:F.Nodup):∀a l,F=a::l->a∉l:=λa l e=>by
 subst e
 exact (Ci.mp h).1
theorem Jc.wk{v:Option V}{m m':Md}{d:Ac}{F:List Addr}(w:wk m m'=true)(h:Jc K H n ⟨v,.dat m d,F⟩):Jc K H n ⟨v,.dat m' d,F⟩:=by
 obtain ⟨u,h1,h2,h3,h4⟩:=h
 refine ⟨u,h1,h2,λe=>?_,λe=>?_⟩
 ·subst e
  cases m <;> first | exact absurd w (by decide) | exact h3 rfl
 ·subst e
  cases m <;> first | exact absurd w (by decide) | exact h4 rfl | exact oM (h3 rfl)
theorem Sq.wk{v:Option V}{m m':Md}{d:Ac}{F:List Addr}(w:wk m m'=true)(h:Sq ⟨v,.dat m d,F⟩ f):Sq ⟨v,.dat m' d,F⟩ f:=by
 refine ⟨λhp a ha=>?_,λhp a ha=>?_⟩
 ·rcases hp with hp | hp
  ·exact h.1 (.inl hp) a (fN w a ha)
  ·cases hp
 ·rcases hp with hp | hp
  ·refine h.2 (.inl ?_) a ha
   cases m <;> cases m' <;> first | rfl | exact absurd w (by decide) | exact absurd hp (by show ¬ (true=false); decide)
  ·exact h.2 (.inr hp) a ha
theorem At.wk{v:Option V}{m m':Md}{d:Ac}{F:List Addr}(w:wk m m'=true)(h:At K H0 X n (⟨v,.dat m d,F⟩::E) H):At K H0 X n (⟨v,.dat m' d,F⟩::E) H:=by
 have hs:=Bh.mp h.sep
 refine (h.sub (Df _ _)).push ((h.ok _ Aa).wk w) (λf hf=>(hs.1 f hf).wk w) λa ha=>?_
 rcases h.new _ Aa a (fN w a ha) with z | z
 ·exact .inl z
 ·cases z.2
end
abbrev DE:=DS->(DV->DS->Prop)->Prop
abbrev DT:=DS->(Bool->DS->Prop)->Prop
abbrev DA:=DS->(List DV->DS->Prop)->Prop
structure DEnds where
 nx:DS->Prop
 rt:DV->DS->Prop
 bk:DS->Prop:=λ_=>False
 ct:DS->Prop:=λ_=>False
abbrev DB:=DEnds->DS->Prop
abbrev DG:=DV->DS->(DS->Prop)->Prop
abbrev vU:=List DV->DS->(DS->Prop)->Prop
def vs(S:List Ent):L2.St:=S.map Ent.v
def Sl(S:List Ent)(δ:DS):Prop:=S.map Ent.x=δ.sl
section
variable(K:PySem.W.Frag)
def LE(de:DE):TE:=λσ H Q=>∃(H0:Hp) (X:Addr->Prop) (S T:List Ent) (δ:DS) (P:DV->DS->Prop),vs S=σ/\Sl S δ/\At K H0 X δ.n (S++T) H/\de δ P /\
 ∀x δ' v F S' H',vs S'=σ->Sl S' δ'->At K H0 X δ'.n (S'++⟨some v,x,F⟩::T) H'->P x δ'->Q v H'
def LT(dt:DT):TT:=λσ H Q=>∃(H0:Hp) (X:Addr->Prop) (S T:List Ent) (δ:DS) (P:Bool->DS->Prop),vs S=σ/\Sl S δ/\At K H0 X δ.n (S++T) H/\dt δ P /\
 ∀b δ' S' H',vs S'=σ->Sl S' δ'->At K H0 X δ'.n (S'++T) H'->P b δ'->Q b H'
def LA(da:DA):TA:=λσ H Q=>∃(H0:Hp) (X:Addr->Prop) (S T:List Ent) (δ:DS) (P:List DV->DS->Prop),vs S=σ/\Sl S δ/\At K H0 X δ.n (S++T) H/\da δ P /\
 ∀xs δ' As us S' H',vs S'=σ->Sl S' δ'->As.map Ent.x=xs->As.map Ent.v=us.map some->At K H0 X δ'.n (S'++(As++T)) H'->P xs δ'->Q us H'
def LS(db:DB):TS:=λD σ H=>∃(H0:Hp) (X:Addr->Prop) (S T:List Ent) (δ:DS) (P:DEnds),vs S=σ/\Sl S δ/\(∀e∈T,Mu e.x=false)/\At K H0 X δ.n (S++T) H/\db P δ /\
 (∀δ' S' H',Sl S' δ'->At K H0 X δ'.n (S'++T) H'->P.nx δ'->D.nx (vs S') H') /\
 (∀x δ' v F S' H',Sl S' δ'->At K H0 X δ'.n (S'++⟨some v,x,F⟩::T) H'->P.rt x δ'->D.rt v H') /\
 (∀δ' S' H',Sl S' δ'->At K H0 X δ'.n (S'++T) H'->P.bk δ'->D.bk (vs S') H') /\
 (∀δ' S' H',Sl S' δ'->At K H0 X δ'.n (S'++T) H'->P.ct δ'->D.ct (vs S') H')
def LG(dg:DG):TG:=λv σ H Q=>∃(H0:Hp) (X:Addr->Prop) (S T:List Ent) (δ:DS) (x:DV) (F:List Addr) (P:DS->Prop),vs S=σ/\Sl S δ/\At K H0 X δ.n (S++⟨some v,x,F⟩::T) H/\dg x δ P /\
 ∀δ' S' H',Sl S' δ'->At K H0 X δ'.n (S'++T) H'->P δ'->Q (vs S') H'
def CY(dg:vU):zF:=λus σ H Q=>∃(H0:Hp) (X:Addr->Prop) (S T As:List Ent) (δ:DS) (P:DS->Prop),vs S=σ/\Sl S δ/\As.map Ent.v=us.map some/\At K H0 X δ.n (S++(As++T)) H/\dg (As.map Ent.x) δ P /\
 ∀δ' S' H',Sl S' δ'->At K H0 X δ'.n (S'++T) H'->P δ'->Q (vs S') H'
end
abbrev Eu(X:Cx)(e:Expr)(de:DE):Prop:=PE X e (LE X.K de)
abbrev Zl(X:Cx)(e:Expr)(dt:DT):Prop:=PT X e (LT X.K dt)
abbrev G9(X:Cx)(e:Expr)(dt:DT):Prop:=PW X e (LT X.K dt)
abbrev kT(X:Cx)(es:List Expr)(da:DA):Prop:=PA X es (LA X.K da)
abbrev jE(X:Cx)(st:Stmt)(db:DB):Prop:=PS X st (LS X.K db)
abbrev Wh(X:Cx)(st:List Stmt)(db:DB):Prop:=jF X st (LS X.K db)
abbrev Y5(X:Cx)(tg:Expr)(dg:DG):Prop:=PG X tg (LG X.K dg)
abbrev wG(X:Cx)(tg:List Expr)(dg:vU):Prop:=K9 X tg (CY X.K dg)
theorem PE.imp{X:Cx}{e:Expr}{t t':TE}(h:PE X e t)(k:∀σ H Q,t' σ H Q->t σ H Q):PE X e t':=λpins s σ H Q I q=>h pins s σ H Q I (k σ H Q q)
theorem PT.imp{X:Cx}{e:Expr}{t t':TT}(h:PT X e t)(k:∀σ H Q,t' σ H Q->t σ H Q):PT X e t':=λpins s σ H Q I q=>h pins s σ H Q I (k σ H Q q)
theorem PW.imp{X:Cx}{e:Expr}{t t':TT}(h:PW X e t)(k:∀σ H Q,t' σ H Q->t σ H Q):PW X e t':=λwh pins s σ H Q I q=>h wh pins s σ H Q I (k σ H Q q)
theorem PA.imp{X:Cx}{e:List Expr}{t t':TA}(h:PA X e t)(k:∀σ H Q,t' σ H Q->t σ H Q):PA X e t':=λpos pins s σ H Q I q=>h pos pins s σ H Q I (k σ H Q q)
theorem PG.imp{X:Cx}{e:Expr}{t t':TG}(h:PG X e t)(k:∀v σ H Q,t' v σ H Q->t v σ H Q):PG X e t':=λpins s σ H v u Q I r q=>h pins s σ H v u Q I r (k v σ H Q q)
theorem K9.imp{X:Cx}{e:List Expr}{t t':zF}(h:K9 X e t)(k:∀v σ H Q,t' v σ H Q->t v σ H Q):K9 X e t':=λpins s σ H v u Q I r q=>h pins s σ H v u Q I r (k v σ H Q q)
section
variable{K:PySem.W.Frag}{H:Hp}{v:V}{F:List Addr}
theorem RdF.int_inv{i:Int}(h:RdF K H v (.int i) F):v=.int i/\F=[]:=by cases h; exact ⟨rfl,rfl⟩
theorem RdF.bl_inv{i:Bool}(h:RdF K H v (.bool i) F):v=.bl i/\F=[]:=by cases h; exact ⟨rfl,rfl⟩
theorem RdF.str_inv{i:Str}(h:RdF K H v (.str i) F):v=.str i/\F=[]:=by cases h; exact ⟨rfl,rfl⟩
theorem RdF.non_inv(h:RdF K H v .none F):v=.non/\F=[]:=by cases h; exact ⟨rfl,rfl⟩
theorem RdF.list_inv{ds:List Ac}(h:RdF K H v (.list ds) F):∃a xs G,v=.ref a/\H a=some (.lst xs)/\RdFs K H xs ds G/\F=a::G/\ds.length<=Ax:=by
 cases h with
 | lst h l hs=>exact ⟨_,_,_,rfl,h,hs,rfl,l⟩
theorem RdF.tup_inv{ds:List Ac}(h:RdF K H v (.tuple ds) F):∃a xs,v=.ref a/\H a=some (.tup xs)/\RdFs K H xs ds F/\ds.length<=Ax:=by
 cases h with
 | tup h l hs=>exact ⟨_,_,rfl,h,hs,l⟩
end
section
variable{K:PySem.W.Frag}{H0 H H':Hp}{X:Addr->Prop}{n:Nat}{E S T:List Ent}{v:V}{m:Md}{d:Ac}{F:List Addr}
theorem At.told(h:At K H0 X n E H)(he:⟨some v,.dat m d,F⟩∈E):RdF K H v d F:=by
 obtain ⟨w,e1,h1,_⟩:=h.ok _ he
 cases e1
 exact h1
theorem mem_mid{e:Ent}:e∈S++e::T:=Al _ Aa
theorem Ff{e f:Ent}:f∈S++e::f::T:=Al _ (Af _ Aa)
theorem At.drop2{e f:Ent}(h:At K H0 X n (S++e::f::T) H):At K H0 X n (S++T) H:=h.drop.drop
theorem At.dropL{As:List Ent}(h:At K H0 X n (S++(As++T)) H):At K H0 X n (S++T) H:=h.sub ((Eh S).append (Dt As T))
end
def eR:Md->Md
 | .ow=>.pk
 | .tp=>.pk
 | m=>m
def w5(i:Nat):DE:=λδ P=>match δ.sl[i]? with
 | some (.dat m d)=>P (.dat (eR m) d) δ
 | _=>False
def dC(d:Ac):DE:=λδ P=>P (.dat .ow d) δ
theorem Kj{S:List Ent}{δ:DS}{i:Nat}{x:DV}(h:Sl S δ)(e:δ.sl[i]? = some x):∃ent,S[i]? = some ent/\ent.x=x:=by
 unfold Sl at h
 rw[<- h,Bt] at e
 cases q:S[i]? with
 | none=>rw[q] at e; cases e
 | some ent=>rw[q] at e; exact ⟨ent,rfl,Ck e⟩
theorem Pd{S:List Ent}{i:Nat}{e:Ent}(h:S[i]? = some e):(vs S)[i]? = some e.v:=by
 unfold vs
 rw[Bt,h]
 rfl
theorem At.look{K:PySem.W.Frag}{H0 H:Hp}{X:Addr->Prop}{n:Nat}{S T:List Ent}{u:Option V}{v:V}{m:Md}{d:Ac}{F:List Addr}(h:At K H0 X n (S++T) H)(he:⟨u,.dat m d,F⟩∈S)(hu:u=some v):At K H0 X n (S++⟨some v,.dat (eR m) d,F⟩::T) H:=by
 subst hu
 obtain ⟨S1,S2,rfl⟩:=List.append_of_mem he
 have hp:((S1++⟨some v,.dat m d,F⟩::S2)++T).Perm (⟨some v,.dat m d,F⟩::(S1++(S2++T))):=by
  rw[Bz,Jm]
  exact Zj
 have h2:=h.perm hp
 have hs:=Bh.mp h2.sep
 refine (h.push (e:=⟨some v,.dat (eR m) d,F⟩) ?_ (λf hf=>?_) λa ha=>?_).tomid
 ·obtain ⟨w,e1,h1,_⟩:=h2.ok _ Aa
  refine ⟨w,e1,h1,λz=>?_,λz=>?_⟩ <;> cases m <;> cases z
 ·refine ⟨λ_ a ha=>?_,λhq a ha=>?_⟩
  ·cases m <;> exact nomatch ha
  ·rcases An.mp (hp.mem_iff.mp hf) with rfl | hf
   ·rcases hq with hq | hq
    ·cases m <;> first | cases hq; done | exact nomatch ha
    ·cases hq
   ·refine (hs.1 f hf).2 ?_ a ha
    rcases hq with hq | hq
    ·refine .inl ?_
     cases m <;> first | rfl | exact hq
    ·exact .inr hq
 ·cases m <;> exact nomatch ha
section
variable{X:Cx}{e:Expr}
theorem Ap{i:Nat}(h:PE X e (dI i)):Eu X e (w5 i):=by
 refine PE.imp h λσ H Q h=>?_
 obtain ⟨H0,Y,S,T,δ,P,rfl,hS,hA,hd,k⟩:=h
 unfold w5 at hd
 split at hd
 ·rename_i m d e1
  obtain ⟨ent,e2,e3⟩:=Kj hS e1
  have hm:ent∈S:=Bc e2
  obtain ⟨u,x,F⟩:=ent
  subst e3
  obtain ⟨v,hv,_⟩:=hA.ok _ (Aq _ hm)
  refine ⟨v,by rw[Pd e2]; exact congrArg some hv,k _ δ v F S H rfl hS (hA.look hm hv) hd⟩
 ·exact hd.elim
theorem cF{v:V}{d:Ac}(h:PE X e (tC v))(r:∀H,RdF X.K H v d []):Eu X e (dC d):=by
 refine PE.imp h λσ H Q h=>?_
 obtain ⟨H0,Y,S,T,δ,P,rfl,hS,hA,hd,k⟩:=h
 exact k _ δ v [] S H rfl hS (hA.pushI (r H)) hd
theorem Cs{i j pos}:Eu X (.Constant (.int i) j pos) (dC (.int i)):=cF Es λ_=>.int i
theorem Pe{i j pos}:Eu X (.Constant (.bool i) j pos) (dC (.bool i)):=cF tN λ_=>.bl i
theorem Yo{i j pos}:Eu X (.Constant (.str i) j pos) (dC (.str i)):=cF F7 λ_=>.str i
theorem kP{j pos}:Eu X (.Constant .none j pos) (dC .none):=cF qO λ_=>.non
end
def P2(de:DE):DE:=λδ P=>de δ λx δ'=>match x with
 | .dat _ d=>imm d=true/\P (.dat .ow d) δ'
 | _=>False
theorem Oi{X:Cx}{e:Expr}{de:DE}(h:Eu X e de):Eu X e (P2 de):=by
 refine PE.imp h λσ H Q h=>?_
 obtain ⟨H0,Y,S,T,δ,P,rfl,hS,hA,hd,k⟩:=h
 refine ⟨H0,Y,S,T,δ,_,rfl,hS,hA,hd,λx δ' v F S' H' e1 e2 hA' p=>?_⟩
 cases x with
 | dat m d =>
  have r:=hA'.told mem_mid
  obtain rfl:=r.imm p.1
  exact k _ δ' v [] S' H' e1 e2 (hA'.drop.pushI r) p.2
 | _=>exact p.elim
def qT(i:Nat):DE:=λδ P=>match δ.sl[i]? with
 | some (.dat m d)=>P (.dat m d) ⟨δ.sl.set i .un,δ.n⟩
 | _=>False
theorem Xv{α:Type}:∀{l:List α} {i:Nat} {x y:α},l[i]? = some x->(y::l).Perm (x::l.set i y)
 | [],i,x,y,h=>by simp at h
 | z::l,0,x,y,h=>by
  simp at h
  subst h
  exact Ij _ _ _
 | z::l,i+1,x,y,h=>by
  have ih:=Xv (l:=l) (i:=i) (x:=x) (y:=y) (by simpa using h)
  rw[List.set_cons_succ]
  exact (Ij z y l).trans ((ih.cons z).trans (Ij x z _))
theorem nC{X:Cx}{e:Expr}{i:Nat}(h:PE X e (dI i)):Eu X e (qT i):=by
 refine PE.imp h λσ H Q h=>?_
 obtain ⟨H0,Y,S,T,δ,P,rfl,hS,hA,hd,k⟩:=h
 unfold qT at hd
 split at hd
 ·rename_i m d e1
  obtain ⟨ent,e2,e3⟩:=Kj hS e1
  have hm:ent∈S:=Bc e2
  obtain ⟨u,x,F⟩:=ent
  subst e3
  obtain ⟨v,hv,hv2⟩:=hA.ok _ (Aq _ hm)
  have hv':u=some v:=hv
  subst hv'
  refine ⟨v,by rw[Pd e2],k _ _ v F (S.set i ⟨some v,.un,[]⟩) H ?_ ?_ ?_ hd⟩
  ·unfold vs
   rw[Gx]
   apply Gy
   intro j
   rw[Ky]
   split
   ·rename_i hij
    subst hij
    rw[Bt,e2]
    split
    ·rfl
    ·rename_i hj
     rw[Ad] at hj
     exact absurd (Ak.mp e2).1 hj
   ·rfl
  ·unfold Sl at hS ⊢
   rw[Gx,hS]
  ·have hp:=hA.push (e:=⟨some v,.un,[]⟩) (show Jc X.K H δ.n ⟨some v,.un,[]⟩ from rfl) (λf _=>⟨λ_ a ha=>(nomatch ha),λ_ a _=>Bv⟩) (λa ha=>(nomatch ha))
   have p1:(⟨some v,.un,[]⟩::(S++T)).Perm ((S.set i ⟨some v,.un,[]⟩)++⟨some v,.dat m d,F⟩::T):=by
    rw[<- Jm]
    exact ((Xv (y:=(⟨some v,.un,[]⟩ : Ent)) e2).append_right T).trans (by rw[Jm]; exact List.perm_middle.symm)
   exact hp.perm p1
 ·exact hd.elim
abbrev D2:=DV->DV->(DV->Prop)->Prop
def gI(K:PySem.W.Frag)(r:R2)(rd:D2):Prop:=∀(H0:Hp) (X:Addr->Prop) (n:Nat) (S T:List Ent) (x y:DV) (v w:V) (F G:List Addr) (H:Hp) (Q:VK) (P:DV->Prop),
 At K H0 X n (S++⟨some w,y,G⟩::⟨some v,x,F⟩::T) H->rd x y P->(∀z u F' H',At K H0 X n (S++⟨some u,z,F'⟩::T) H'->P z->Q u H')->r v w H Q
def Te(rd:D2)(da db:DE):DE:=λδ P=>da δ λx δ1=>db δ1 λy δ2=>rd x y λz=>P z δ2
theorem op_le{K:PySem.W.Frag}{r:R2}{rd:D2}{da db:DE}(o:gI K r rd):∀σ H Q,LE K (Te rd da db) σ H Q->P1 r (LE K da) (LE K db) σ H Q:=by
 intro σ H Q h
 obtain ⟨H0,Y,S,T,δ,P,rfl,hS,hA,hd,k⟩:=h
 refine ⟨H0,Y,S,T,δ,_,rfl,hS,hA,hd,λx δ1 v F S1 H1 e1 e2 hA1 p1=>?_⟩
 refine ⟨H0,Y,S1,⟨some v,x,F⟩::T,δ1,_,e1,e2,hA1,p1,λy δ2 w G S2 H2 e3 e4 hA2 p2=>?_⟩
 exact o H0 Y δ2.n S2 T x y v w F G H2 Q _ hA2 p2 λz u F' H' hA3 p3=>k z δ2 u F' S2 H' e3 e4 hA3 p3
section
variable{X:Cx}{a b:Expr}{da db:DE}{pos:Pos}{r:R2}{rd:D2}
theorem Ys{op:Operator}(ho:Tu X (Jv op) r)(o:gI X.K r rd)(ha:Eu X a da)(hb:Eu X b db):Eu X (.BinOp a op b pos) (Te rd da db):=PE.imp (Ir ho ha hb) (op_le o)
theorem dU{op:CmpOp}(ho:Tu X (Fj op) r)(o:gI X.K r rd)(ha:Eu X a da)(hb:Eu X b db)(hm:Et op b=false):Eu X (.Compare a [op] [b] pos) (Te rd da db):=PE.imp (zV ho ha hb hm) (op_le o)
theorem O2(ho:yK X r)(o:gI X.K r rd)(ha:Eu X a da)(hb:Eu X b db)(hs:cK b):Eu X (.Subscript a b pos) (Te rd da db):=PE.imp (Vp ho ha hb hs) (op_le o)
end
def N9(C:Int->Int->Prop)(g:Int->Int->Ac):D2:=λx y P=>match x,y with
 | .dat _ (.int i),.dat _ (.int j)=>C i j/\P (.dat .ow (g i j))
 | _,_=>False
def Xb(g:Int->Int->Ac):D2:=λx y P=>match x,y with
 | .dat _ (.int i),.dat _ (.int j)=>P (.dat .ow (g i j))
 | _,_=>False
section
variable{K:PySem.W.Frag}
theorem C1{C:Int->Int->Prop}{g:Int->Int->V}{g':Int->Int->Ac}(h:∀i j H,RdF K H (g i j) (g' i j) []):gI K (rI C g) (N9 C g'):=by
 intro H0 X n S T x y v w F G H Q P hA hd k
 unfold N9 at hd
 split at hd
 ·obtain ⟨rfl,_⟩:=(hA.told Ff).int_inv
  obtain ⟨rfl,_⟩:=(hA.told mem_mid).int_inv
  exact ⟨_,_,rfl,rfl,hd.1,k _ _ [] H (hA.drop2.pushI (h _ _ H)) hd.2⟩
 ·exact hd.elim
theorem Yg{g:Int->Int->V}{g':Int->Int->Ac}(h:∀i j H,RdF K H (g i j) (g' i j) []):gI K (wH g) (Xb g'):=by
 intro H0 X n S T x y v w F G H Q P hA hd k
 unfold Xb at hd
 split at hd
 ·obtain ⟨rfl,_⟩:=(hA.told Ff).int_inv
  obtain ⟨rfl,_⟩:=(hA.told mem_mid).int_inv
  exact ⟨_,_,rfl,rfl,k _ _ [] H (hA.drop2.pushI (h _ _ H)) hd⟩
 ·exact hd.elim
end
abbrev rdAdd:D2:=Xb λi j=>.int (i+j)
abbrev rdSub:D2:=Xb λi j=>.int (i - j)
abbrev rdMul:D2:=N9 z0 λi j=>.int (i * j)
abbrev rdDiv:D2:=N9 N0 λi j=>.int (i / j)
abbrev rdMod:D2:=N9 (λ_ j=>0<j) λi j=>.int (i % j)
abbrev rdLt:D2:=Xb λi j=>.bool (decide (i<j))
abbrev rdLe:D2:=Xb λi j=>.bool (decide (i<=j))
abbrev rdGt:D2:=Xb λi j=>.bool (decide (j<i))
abbrev rdGe:D2:=Xb λi j=>.bool (decide (j<=i))
section
variable{X:Cx}{a b:Expr}{da db:DE}{pos:Pos}
theorem uP(ha:Eu X a da)(hb:Eu X b db):Eu X (.BinOp a .Add b pos) (Te rdAdd da db):=Ys Xy (Yg λ_ _ _=>.int _) ha hb
theorem Pv(ha:Eu X a da)(hb:Eu X b db):Eu X (.BinOp a .Sub b pos) (Te rdSub da db):=Ys L9 (Yg λ_ _ _=>.int _) ha hb
theorem F5(ha:Eu X a da)(hb:Eu X b db):Eu X (.BinOp a .Mult b pos) (Te rdMul da db):=Ys Ul (C1 λ_ _ _=>.int _) ha hb
theorem Xx(ha:Eu X a da)(hb:Eu X b db):Eu X (.BinOp a .FloorDiv b pos) (Te rdDiv da db):=Ys dS (C1 λ_ _ _=>.int _) ha hb
theorem Py(ha:Eu X a da)(hb:Eu X b db):Eu X (.BinOp a .Mod b pos) (Te rdMod da db):=Ys Rt (C1 λ_ _ _=>.int _) ha hb
theorem p8(ha:Eu X a da)(hb:Eu X b db):Eu X (.Compare a [.Lt] [b] pos) (Te rdLt da db):=dU n9 (Yg λ_ _ _=>.bl _) ha hb (Ms _)
theorem P4(ha:Eu X a da)(hb:Eu X b db):Eu X (.Compare a [.LtE] [b] pos) (Te rdLe da db):=dU L2.op_le (Yg λ_ _ _=>.bl _) ha hb (Ms _)
end
def dE(ne:Bool):D2:=λx y P=>match x,y with
 | .dat _ d,.dat _ e=>d.depth<=60/\e.depth<=60/\P (.dat .ow (.bool (match ne with | true=>!Do d e | false=>Do d e)))
 | _,_=>False
def jZ(ne:Bool):D2:=λx y P=>match x,y with
 | .dat _ d,.dat _ (.list es)=>Bi es<=60/\d.depth<=60/\P (.dat .ow (.bool (match ne with | true=>!(es.any λe=>Do e d) | false=>es.any λe=>Do e d)))
 | .dat _ d,.dat _ (.tuple es)=>Bi es<=60/\d.depth<=60/\P (.dat .ow (.bool (match ne with | true=>!(es.any λe=>Do e d) | false=>es.any λe=>Do e d)))
 | _,_=>False
section
variable{K:PySem.W.Frag}
theorem o6:gI K (R4 K) (dE false):=by
 intro H0 X n S T x y v w F G H Q P hA hd k
 unfold dE at hd
 split at hd
 ·exact ⟨_,_,(hA.told Ff).rd (Cg hd.1 (by decide)),(hA.told mem_mid).rd (Cg hd.2.1 (by decide)),hd.1,k _ _ [] H (hA.drop2.pushI (.bl _)) hd.2.2⟩
 ·exact hd.elim
theorem R5:gI K (O6 K) (dE true):=by
 intro H0 X n S T x y v w F G H Q P hA hd k
 unfold dE at hd
 split at hd
 ·exact ⟨_,_,(hA.told Ff).rd (Cg hd.1 (by decide)),(hA.told mem_mid).rd (Cg hd.2.1 (by decide)),hd.1,k _ _ [] H (hA.drop2.pushI (.bl _)) hd.2.2⟩
 ·exact hd.elim
theorem uF{ne:Bool}:gI K (x9 K ne) (jZ ne):=by
 intro H0 X n S T x y v w F G H Q P hA hd k
 unfold jZ at hd
 split at hd
 ·obtain ⟨a,xs,G',rfl,hq,hs,_,_⟩:=(hA.told mem_mid).list_inv
  refine ⟨a,xs,_,_,rfl,.inl (Sn.of hq),(hA.told Ff).rd (Cg hd.2.1 (by decide)),hs.rd (Cg hd.1 (by decide)),hd.1,?_⟩
  cases ne with
  | true=>exact k _ _ [] H (hA.drop2.pushI (.bl _)) hd.2.2
  | false=>exact k _ _ [] H (hA.drop2.pushI (.bl _)) hd.2.2
 ·obtain ⟨a,xs,rfl,hq,hs,_⟩:=(hA.told mem_mid).tup_inv
  refine ⟨a,xs,_,_,rfl,.inr (Sg.of hq),(hA.told Ff).rd (Cg hd.2.1 (by decide)),hs.rd (Cg hd.1 (by decide)),hd.1,?_⟩
  cases ne with
  | true=>exact k _ _ [] H (hA.drop2.pushI (.bl _)) hd.2.2
  | false=>exact k _ _ [] H (hA.drop2.pushI (.bl _)) hd.2.2
 ·exact hd.elim
def isNone:Ac->Bool
 | .none=>true
 | _=>false
theorem mN{v:V}{H:Hp}{d:Ac}{F:List Addr}(r:RdF K H v d F):decide (v=.non)=isNone d:=by
 cases r <;> simp [isNone]
def Vt(ne:Bool):D2:=λx y P=>match x,y with
 | .dat _ d,.dat _ .none=>P (.dat .ow (.bool (match ne with | true=>!isNone d | false=>isNone d)))
 | _,_=>False
theorem G3:gI K (λx y H Q=>y=.non/\Q (.bl (decide (x=.non))) H) (Vt false):=by
 intro H0 X n S T x y v w F G H Q P hA hd k
 unfold Vt at hd
 split at hd
 ·obtain ⟨rfl,_⟩:=(hA.told mem_mid).non_inv
  refine ⟨rfl,k _ _ [] H (hA.drop2.pushI (m:=.ow) (.bl _)) ?_⟩
  rw[mN (hA.told Ff)]
  exact hd
 ·exact hd.elim
theorem xV:gI K (λx y H Q=>y=.non/\Q (.bl (!decide (x=.non))) H) (Vt true):=by
 intro H0 X n S T x y v w F G H Q P hA hd k
 unfold Vt at hd
 split at hd
 ·rename_i m d m'
  obtain ⟨rfl,_⟩:=(hA.told mem_mid).non_inv
  refine ⟨rfl,k _ _ [] H (hA.drop2.pushI (m:=.ow) (.bl _)) ?_⟩
  rw[mN (hA.told Ff)]
  exact hd
 ·exact hd.elim
end
section
variable{X:Cx}{a b:Expr}{da db:DE}{pos:Pos}
theorem bI(hu:X.A.units+64<cLine)(ha:Eu X a da)(hb:Eu X b db):Eu X (.Compare a [.Eq] [b] pos) (Te (dE false) da db):=dU (uM hu) o6 ha hb (Ms _)
theorem P0(hu:X.A.units+64<cLine)(ha:Eu X a da)(hb:Eu X b db)(hm:Et .In b=false:=by with_unfolding_all rfl):Eu X (.Compare a [.In] [b] pos) (Te (jZ false) da db):=dU (uX hu) uF ha hb hm
end
def Mn:Md->Md
 | .ow=>.ow
 | .tp=>.sh
 | m=>m
theorem At.part{K:PySem.W.Frag}{H0 H:Hp}{X:Addr->Prop}{n:Nat}{S T:List Ent}{v w:V}{m:Md}{d e:Ac}{F G:List Addr}(h:At K H0 X n (S++⟨some v,.dat m d,F⟩::T) H)(r:RdF K H w e G)(hG:G.Sublist F):At K H0 X n (S++⟨some w,.dat (Mn m) e,G⟩::T) H:=by
 have h2:=h.mid
 have hs:=Bh.mp h2.sep
 obtain ⟨v',e1,h1,hn,ht⟩:=h2.ok _ Aa
 have cs:∀a∈cells ⟨some w,.dat (Mn m) e,G⟩,a∈cells ⟨some v,.dat m d,F⟩:=λa ha=>by
  cases m with
  | ow=>exact hG.subset ha
  | tp=>exact nomatch ha
  | sh=>exact nomatch ha
  | pk=>exact nomatch ha
 refine (h.drop.push (e:=⟨some w,.dat (Mn m) e,G⟩) ⟨w,rfl,r,λz=>?_,λz=>?_⟩ (λf hf=>?_) λa ha=>?_).tomid
 ·cases m with
  | ow=>exact (hn rfl).sublist hG
  | _=>cases z
 ·cases m <;> cases z
 ·refine ⟨λhp a ha=>(hs.1 f hf).1 ?_ a (cs a ha),λhp a ha z=>(hs.1 f hf).2 ?_ a ha (hG.subset z)⟩
  ·rcases hp with hp | hp
   ·exact .inl hp
   ·cases hp
  ·rcases hp with hp | hp
   ·refine .inl ?_
    cases m <;> first | rfl | exact hp
   ·exact .inr hp
 ·rcases h2.new _ Aa a (cs a ha) with z | z
  ·exact .inl z
  ·cases z.2
def pS:D2:=λx y P=>match x,y with
 | .dat m (.list ds),.dat _ (.int i)=>∃d,Rj ds i=some d/\P (.dat (Mn m) d)
 | .dat m (.tuple ds),.dat _ (.int i)=>∃d,Rj ds i=some d/\P (.dat (Mn m) d)
 | .dat _ (.str z),.dat _ (.int i)=>z.length<=Ax/\∃c,Rj z.cps.toList i=some c/\P (.dat .ow (.str ⟨#[c]⟩))
 | _,_=>False
theorem qY{K:PySem.W.Frag}{H:Hp}{xs:List V}{ds:List Ac}{F:List Addr}{i:Int}{d:Ac}(r:RdFs K H xs ds F)(h:Rj ds i=some d):∃x G,Rj xs i=some x/\RdF K H x d G/\G.Sublist F:=by
 unfold Rj at h ⊢
 rw[r.len]
 cases e:pI ds.length i with
 | none=>rw[e] at h; cases h
 | some j =>
  rw[e] at h
  exact r.get h
theorem W7{K:PySem.W.Frag}:gI K (CF K) pS:=by
 intro H0 X n S T x y v w F G H Q P hA hd k
 unfold pS at hd
 split at hd
 ·obtain ⟨d,hi,p⟩:=hd
  obtain ⟨rfl,_⟩:=(hA.told mem_mid).int_inv
  have r:=hA.told Ff
  have hA':=hA.drop
  obtain ⟨a,xs,G0,rfl,hq,hs,hG,_⟩:=r.list_inv
  obtain ⟨x,G',h1,h2,h3⟩:=qY hs hi
  subst hG
  exact .inl ⟨_,_,_,_,rfl,rfl,Sn.of hq,h1,k _ _ G' H (hA'.part h2 (h3.trans (Df _ _))) p⟩
 ·obtain ⟨d,hi,p⟩:=hd
  obtain ⟨rfl,_⟩:=(hA.told mem_mid).int_inv
  have r:=hA.told Ff
  have hA':=hA.drop
  obtain ⟨a,xs,rfl,hq,hs,_⟩:=r.tup_inv
  obtain ⟨x,G',h1,h2,h3⟩:=qY hs hi
  exact .inr (.inl ⟨_,_,_,_,rfl,rfl,Sg.of hq,h1,k _ _ G' H (hA'.part h2 h3) p⟩)
 ·obtain ⟨hz,c,hi,p⟩:=hd
  obtain ⟨rfl,_⟩:=(hA.told mem_mid).int_inv
  obtain ⟨rfl,_⟩:=(hA.told Ff).str_inv
  exact .inr (.inr ⟨_,_,_,rfl,rfl,hz,hi,k _ _ [] H (hA.drop2.pushI (.str _)) p⟩)
 ·exact hd.elim
theorem Fb{X:Cx}{a b:Expr}{da db:DE}{pos:Pos}(ha:Eu X a da)(hb:Eu X b db)(hs:cK b:=by intro _ _; rfl):Eu X (.Subscript a b pos) (Te pS da db):=O2 M3 W7 ha hb hs
def mK:Md->Md
 | .ow=>.ow
 | .pk=>.pk
 | _=>.tp
def Yj(i:Bool)(m:Md)(ds:List Ac)(P:DV->Prop):Prop:=match i with
 | true=>Dy ds=true/\P (.dat .ow (.list ds))
 | false=>P (.dat (mK m) (.list ds))
def Yd(i:Bool)(m:Md)(ds:List Ac)(P:DV->Prop):Prop:=match i with
 | true=>Dy ds=true/\P (.dat .ow (.tuple ds))
 | false=>P (.dat (Mn m) (.tuple ds))
section
variable{K:PySem.W.Frag}{H0 H:Hp}{X:Addr->Prop}{n:Nat}{S T:List Ent}{v w:V}{m:Md}{d e:Ac}{F G:List Addr}{p:Addr}{xs:List V}{ds:List Ac}{P:DV->Prop}{i:Bool}
theorem At.newI(h:At K H0 X n (S++T) H)(r:RdFs K H xs ds G)(hi:Dy ds=true)(hz:ds.length<=Ax)(hp:H p=none)(m:Md):At K H0 X n (S++⟨some (.ref p),.dat m (.list ds),[p]⟩::T) (upd H p (.lst xs)):=by
 obtain rfl:=r.imm hi
 have s1:=Ft hp (.lst xs)
 have h1:=h.grow (n':=n) s1 (Ah _)
 refine (h1.push (e:=⟨some (.ref p),.dat m (.list ds),[p]⟩) ⟨_,rfl,.lst Du hz (r.kp (Kp.of s1)),λ_=>Ci.mpr ⟨Bv,Cz⟩,λ_ a l z=>by cases z; exact Bv⟩ (λf hf=>?_) λa ha=>?_).tomid
 ·have nf:=h.free hp f hf
  refine ⟨λ_ a ha z=>?_,λ_ a ha z=>?_⟩
  ·have:=Ga _ a ha
   rw[Ai.mp this] at z
   exact nf z
  ·rw[Ai.mp z] at ha
   exact nf (Ga _ _ ha)
 ·have:=Ga _ a ha
  rw[Ai.mp this]
  exact .inl (h.new0 hp)
theorem At.newL(h:At K H0 X n (S++⟨some v,.dat m d,F⟩::T) H)(r:RdFs K H xs ds G)(hG:G.Sublist F)(hz:ds.length<=Ax)(hp:H p=none)(q:Yj i m ds P):∃z F',At K H0 X n (S++⟨some (.ref p),z,F'⟩::T) (upd H p (.lst xs))/\P z:=by
 cases i with
 | true=>exact ⟨_,_,h.drop.newI r q.1 hz hp .ow,q.2⟩
 | false =>
  have q:P (.dat (mK m) (.list ds)):=q
  refine ⟨_,p::G,?_,q⟩
  have s1:=Ft hp (.lst xs)
  have h2:=h.mid
  have hs:=Bh.mp h2.sep
  obtain ⟨v',e1,_,hn,_⟩:=h2.ok _ Aa
  have h1:=h.drop.grow (n':=n) s1 (Ah _)
  have npF:p∉F:=h2.free hp _ Aa
  have npG:p∉G:=λz=>npF (hG.subset z)
  have cs:∀a∈cells ⟨some (.ref p),.dat (mK m) (.list ds),p::G⟩,a=p\/(a∈cells ⟨some v,.dat m d,F⟩):=λa ha=>by
   cases m with
   | ow =>
    rcases An.mp ha with z | z
    ·exact .inl z
    ·exact .inr (hG.subset z)
   | tp=>exact .inl (Ai.mp ha)
   | sh=>exact .inl (Ai.mp ha)
   | pk=>exact nomatch ha
  refine (h1.push (e:=⟨some (.ref p),.dat (mK m) (.list ds),p::G⟩) ⟨_,rfl,.lst Du hz (r.kp (Kp.of s1)),λz=>?_,λz a l e=>?_⟩ (λf hf=>?_) λa ha=>?_).tomid
  ·cases m with
   | ow=>exact Ci.mpr ⟨npG,(hn rfl).sublist hG⟩
   | _=>cases z
  ·cases e
   exact npG
  ·have nf:=h2.free hp f (Af _ hf)
   refine ⟨λhq a ha z=>?_,λhq a ha z=>?_⟩
   ·rcases cs a ha with rfl | hc
    ·exact nf z
    ·refine (hs.1 f hf).1 ?_ a hc z
     rcases hq with hq | hq
     ·exact .inl hq
     ·cases hq
   ·rcases An.mp z with rfl | z
    ·exact nf (Ga _ _ ha)
    ·refine (hs.1 f hf).2 ?_ a ha (hG.subset z)
     rcases hq with hq | hq
     ·refine .inl ?_
      cases m <;> first | rfl | exact hq
     ·exact .inr hq
  ·rcases cs a ha with rfl | hc
   ·exact .inl (h2.new0 hp)
   ·rcases h2.new _ Aa a hc with z | z
    ·exact .inl z
    ·cases z.2
theorem At.newT(h:At K H0 X n (S++⟨some v,.dat m d,F⟩::T) H)(r:RdFs K H xs ds G)(hG:G.Sublist F)(hz:ds.length<=Ax)(hp:H p=none)(q:Yd i m ds P):∃z F',At K H0 X n (S++⟨some (.ref p),z,F'⟩::T) (upd H p (.tup xs))/\P z:=by
 have s1:=Ft hp (.tup xs)
 have h1:=h.grow (n':=n) s1 (Ah _)
 cases i with
 | true =>
  obtain rfl:=r.imm q.1
  exact ⟨_,[],h1.drop.pushI (.tup Du hz (r.kp (Kp.of s1))),q.2⟩
 | false=>exact ⟨_,G,h1.part (.tup Du hz (r.kp (Kp.of s1))) hG,q⟩
theorem At.oldT{t:Addr}(h:At K H0 X n (S++⟨some v,.dat m d,F⟩::T) H)(r:RdFs K H xs ds G)(hG:G.Sublist F)(hz:ds.length<=Ax)(ht:H t=some (.tup xs))(q:Yd i m ds P):∃z F',At K H0 X n (S++⟨some (.ref t),z,F'⟩::T) H/\P z:=by
 cases i with
 | true =>
  obtain rfl:=r.imm q.1
  exact ⟨_,[],h.drop.pushI (.tup ht hz r),q.2⟩
 | false=>exact ⟨_,G,h.part (.tup ht hz r) hG,q⟩
end
def F8:DA:=λδ P=>P [] δ
def i4(de:DE)(da:DA):DA:=λδ P=>de δ λx δ1=>da δ1 λxs δ2=>P (x::xs) δ2
section
variable{X:Cx}{e:Expr}{es:List Expr}{de:DE}{da:DA}
theorem Bf:kT X [] F8:=by
 refine PA.imp Om λσ H Q h=>?_
 obtain ⟨H0,Y,S,T,δ,P,rfl,hS,hA,hd,k⟩:=h
 exact k [] δ [] [] S H rfl hS rfl rfl hA hd
theorem Au(ha:Eu X e de)(hr:kT X es da)(hs:Bs (e::es) X.env=(false,eval e X.env)::Bs es X.env:=by rfl):kT X (e::es) (i4 de da):=by
 refine PA.imp (Hy ha hr hs) λσ H Q h=>?_
 obtain ⟨H0,Y,S,T,δ,P,rfl,hS,hA,hd,k⟩:=h
 refine ⟨H0,Y,S,T,δ,_,rfl,hS,hA,hd,λx δ1 v F S1 H1 e1 e2 hA1 p1=>?_⟩
 refine ⟨H0,Y,S1,⟨some v,x,F⟩::T,δ1,_,e1,e2,hA1,p1,λxs δ2 As us S2 H2 e3 e4 ex eu hA2 p2=>?_⟩
 refine k (x::xs) δ2 (⟨some v,x,F⟩::As) (v::us) S2 H2 e3 e4 (by rw[Aw,ex]) (by rw[Aw,Aw,eu]) (hA2.perm ((Ke S2).append ?_)) p2
 exact Zj
end
def allOw:List DV->Bool
 | []=>true
 | .dat .ow _::xs=>allOw xs
 | _=>false
def noPk:List DV->Bool
 | []=>true
 | .dat .pk _::_=>false
 | .dat _ _::xs=>noPk xs
 | _=>false
def datas:List DV->Option (List Ac)
 | []=>some []
 | .dat _ d::xs=>(datas xs).map (d::·)
 | _=>none
def pkMd(top:Md)(xs:List DV):Md:=if allOw xs=true then .ow else if noPk xs=true then top else .pk
section
variable{K:PySem.W.Frag}{H0 H:Hp}{X:Addr->Prop}{n:Nat}{S T As:List Ent}
theorem Xa:∀{As:List Ent} {us:List V} {ds:List Ac},As.map Ent.v=us.map some->datas (As.map Ent.x)=some ds->(∀e∈As,Jc K H n e)->RdFs K H us ds (As.flatMap Ent.F)
 | [],us,ds,e,h,_=>by
  cases us with
  | nil=>cases h; exact .nil
  | cons _ _=>cases e
 | ent::As,us,ds,e,h,ok=>by
  cases us with
  | nil=>cases e
  | cons u us =>
   rw[Aw,Aw] at e
   obtain ⟨e1,e2⟩:=Fi e
   obtain ⟨v,x,F⟩:=ent
   have e1':v=some u:=e1
   subst e1'
   rw[Aw] at h
   cases x with
   | dat m d =>
    rw[show datas (DV.dat m d::As.map Ent.x)=(datas (As.map Ent.x)).map (d::·) from rfl] at h
    cases q:datas (As.map Ent.x) with
    | none=>rw[q] at h; cases h
    | some es =>
     rw[q] at h
     cases h
     obtain ⟨w,ew,rw',_⟩:=ok _ Aa
     cases ew
     rw[Wm]
     exact .cons rw' (Xa e2 q λf hf=>ok f (Af _ hf))
   | _=>cases h
theorem Nx:∀{As:List Ent},allOw (As.map Ent.x)=true->∀e∈As,∃d,e.x=.dat .ow d
 | [],_,_,h=>nomatch h
 | ⟨v,x,F⟩::As,h,e,he=>by
  rw[Aw] at h
  have hx:(∃d,x=.dat .ow d)/\allOw (As.map Ent.x)=true:=by
   cases x with
   | dat m d=>cases m <;> first | exact ⟨⟨d,rfl⟩,h⟩ | cases h
   | _=>cases h
  rcases An.mp he with rfl | he
  ·exact hx.1
  ·exact Nx hx.2 e he
theorem iH:∀{As:List Ent},noPk (As.map Ent.x)=true->∀e∈As,Mu e.x=false
 | [],_,_,h=>nomatch h
 | ⟨v,x,F⟩::As,h,e,he=>by
  rw[Aw] at h
  have hx:Mu x=false/\noPk (As.map Ent.x)=true:=by
   cases x with
   | dat m d=>cases m <;> first | exact ⟨rfl,h⟩ | cases h
   | _=>cases h
  rcases An.mp he with rfl | he
  ·exact hx.1
  ·exact iH hx.2 e he
theorem Ze:∀{As:List Ent},(∀e∈As,∃d,e.x=.dat .ow d)->(∀e∈As,Jc K H n e)->As.Pairwise Sq->(As.flatMap Ent.F).Nodup
 | [],_,_,_=>Cz
 | ent::As,ho,ok,hs=>by
  rw[Wm]
  have hc:=Bh.mp hs
  obtain ⟨v,x,F⟩:=ent
  obtain ⟨d,hd⟩:=ho _ Aa
  have hd':x=.dat .ow d:=hd
  subst hd'
  obtain ⟨w,_,_,hn,_⟩:=ok _ Aa
  refine Fw.mpr ⟨hn rfl,Ze (λe he=>ho e (Af _ he)) (λe he=>ok e (Af _ he)) hc.2,λa ha b hb z=>?_⟩
  subst z
  obtain ⟨f,hf,hb⟩:=Hn.mp hb
  obtain ⟨d',hd'⟩:=ho f (Af _ hf)
  exact (hc.1 f hf).1 (.inl (by rw[hd']; rfl)) a ha hb
theorem At.pack{v:V}{d:Ac}{N:List Addr}{H':Hp}{top:Md}(h:At K H0 X n (S++(As++T)) H)(s:Wd H H')(hN:∀a∈N,H a=none)(ndN:N.Nodup)(htop:(top=.tp/\N.length=1)\/(top=.sh/\N=[]))(r:RdF K H' v d (N++As.flatMap Ent.F)):At K H0 X n (S++⟨some v,.dat (pkMd top (As.map Ent.x)) d,N++As.flatMap Ent.F⟩::T) H':=by
 have hp:(S++(As++T)).Perm (As++(S++T)):=by
  rw[<- Bz,<- Bz]
  exact Em.append_right T
 have h2:=h.perm hp
 have hs:=Cn.mp h2.sep
 have h1:=(h.dropL).grow (n':=n) s (Ah _)
 have nN:∀a∈N,∀f∈As++(S++T),a∉f.F:=λa ha f hf=>h2.free (hN a ha) f hf
 have nFlat:∀a∈N,a∉As.flatMap Ent.F:=λa ha z=>by
  obtain ⟨f,hf,z⟩:=Hn.mp z
  exact nN a ha f (Aq _ hf) z
 have cs:∀a∈cells ⟨some v,.dat (pkMd top (As.map Ent.x)) d,N++As.flatMap Ent.F⟩,a∈N\/(allOw (As.map Ent.x)=true/\∃f∈As,a∈cells f):=λa ha=>by
  unfold pkMd at ha
  by_cases hw:allOw (As.map Ent.x)=true
  ·rw[if_pos hw] at ha
   rcases Ay.mp ha with z | z
   ·exact .inl z
   ·obtain ⟨f,hf,z⟩:=Hn.mp z
    obtain ⟨d',hd'⟩:=Nx hw f hf
    refine .inr ⟨hw,f,hf,?_⟩
    unfold cells
    rw[hd']
    exact z
  ·rw[if_neg hw] at ha
   by_cases hk:noPk (As.map Ent.x)=true
   ·rw[if_pos hk] at ha
    rcases htop with ⟨rfl,h1⟩ | ⟨rfl,rfl⟩
    ·match N,h1,ha with
     | [b],_,ha=>exact .inl ha
    ·exact nomatch ha
   ·rw[if_neg hk] at ha
    exact nomatch ha
 refine (h1.push (e:=⟨some v,.dat (pkMd top (As.map Ent.x)) d,N++As.flatMap Ent.F⟩) ⟨_,rfl,r,λz=>?_,λz a l e=>?_⟩ (λf hf=>?_) λa ha=>?_).tomid
 ·have hw:allOw (As.map Ent.x)=true:=by
   unfold pkMd at z
   by_cases hw:allOw (As.map Ent.x)=true
   ·exact hw
   ·rw[if_neg hw] at z
    split at z
    ·rcases htop with ⟨rfl,_⟩ | ⟨rfl,_⟩ <;> cases z
    ·cases z
  refine Fw.mpr ⟨ndN,Ze (Nx hw) (λe he=>h2.ok e (Aq _ he)) hs.1,λa ha b hb e=>?_⟩
  subst e
  exact nFlat a ha hb
 ·have ht:top=.tp:=by
   unfold pkMd at z
   split at z
   ·cases z
   ·split at z
    ·exact z
    ·cases z
  subst ht
  rcases htop with ⟨_,h1⟩ | ⟨h1,_⟩
  ·match N,h1,e,nFlat with
   | [b],_,e,nFlat =>
    cases e
    exact nFlat a Aa
  ·cases h1
 ·have hf':f∈As++(S++T):=Al _ hf
  refine ⟨λhq a ha z=>?_,λhq a ha z=>?_⟩
  ·rcases cs a ha with hn | ⟨_,g,hg,hc⟩
   ·exact nN a hn f hf' z
   ·refine (hs.2.2 g hg f hf).1 ?_ a hc z
    rcases hq with hq | hq
    ·exact .inl hq
    ·cases hq
  ·rcases Ay.mp z with z | z
   ·exact nN a z f hf' (Ga _ _ ha)
   ·obtain ⟨g,hg,z⟩:=Hn.mp z
    refine (hs.2.2 g hg f hf).2 ?_ a ha z
    rcases hq with hq | hq
    ·refine .inl ?_
     have hq':Mu (.dat (pkMd top (As.map Ent.x)) d)=false:=hq
     unfold pkMd at hq'
     by_cases hw:allOw (As.map Ent.x)=true
     ·obtain ⟨d',hd'⟩:=Nx hw g hg
      rw[hd']
      rfl
     ·rw[if_neg hw] at hq'
      by_cases hk:noPk (As.map Ent.x)=true
      ·exact iH hk g hg
      ·rw[if_neg hk] at hq'
       cases hq'
    ·exact .inr hq
 ·rcases cs a ha with hn | ⟨_,g,hg,hc⟩
  ·exact .inl (h2.new0 (hN a hn))
  ·rcases h2.new g (Aq _ hg) a hc with z | z
   ·exact .inl z
   ·obtain ⟨d',hd'⟩:=Nx (by assumption) g hg
    rw[hd'] at z
    cases z.2
end
def T9(da:DA):DE:=λδ P=>da δ λxs δ'=>match datas xs with
 | some ds=>ds.length<=1000/\P (.dat (pkMd .sh xs) (.tuple ds)) δ'
 | none=>False
def S9(da:DA):DE:=λδ P=>da δ λxs δ'=>match datas xs with
 | some ds=>ds.length<=1000/\P (.dat (pkMd .tp xs) (.list ds)) δ'
 | none=>False
section
variable{X:Cx}{es:List Expr}{da:DA}{pos:Pos}
theorem Pq{x1}(h:kT X es da):Eu X (.Tuple es x1 pos) (T9 da):=by
 refine PE.imp (C8 h) λσ H Q h=>?_
 obtain ⟨H0,Y,S,T,δ,P,rfl,hS,hA,hd,k⟩:=h
 refine ⟨H0,Y,S,T,δ,_,rfl,hS,hA,hd,λxs δ' As us S' H' e1 e2 ex eu hA' p=>?_⟩
 cases q:datas xs with
 | none=>rw[q] at p; exact p.elim
 | some ds =>
  rw[q] at p
  subst ex
  have r:=Xa eu q λe he=>hA'.ok e (Al _ (Aq _ he))
  have hl:=r.len
  have hz:ds.length<=Ax:=sz p.1
  refine ⟨by omega,λt ht=>?_⟩
  have s1:=Ft ht (.tup us)
  exact k _ δ' _ _ S' _ e1 e2 (hA'.pack (N:=[]) s1 (λ_ z=>nomatch z) Cz (.inr ⟨rfl,rfl⟩) (.tup Du hz (r.kp (Kp.of s1)))) p.2
theorem Km(h:kT X es da):Eu X (.List es pos) (S9 da):=by
 refine PE.imp (jR h) λσ H Q h=>?_
 obtain ⟨H0,Y,S,T,δ,P,rfl,hS,hA,hd,k⟩:=h
 refine ⟨H0,Y,S,T,δ,_,rfl,hS,hA,hd,λxs δ' As us S' H' e1 e2 ex eu hA' p=>?_⟩
 cases q:datas xs with
 | none=>rw[q] at p; exact p.elim
 | some ds =>
  rw[q] at p
  subst ex
  have r:=Xa eu q λe he=>hA'.ok e (Al _ (Aq _ he))
  have hl:=r.len
  have hz:ds.length<=Ax:=sz p.1
  refine ⟨by omega,λt ht=>?_⟩
  have s1:=Ft ht (.lst us)
  exact k _ δ' _ _ S' _ e1 e2 (hA'.pack (N:=[t]) s1 (λa z=>by rw[Ai.mp z]; exact ht) (Ci.mpr ⟨Bv,Cz⟩) (.inl ⟨rfl,rfl⟩) (.lst Du hz (r.kp (Kp.of s1)))) p.2
end
end DL
namespace Nd
open PySem PySem.Spec PyProof.Rows L2
section
variable{X:Cx}
def n8:V->Option Int->Option Int->Hp->VK->Prop:=λx lo hi H Q=>∃a xs,x=.ref a/\H a=some (.tup xs)/\∀p H',H' p=some (.tup (Yx xs lo hi))->Wd H H'->Q (.ref p) H'
theorem xE:F3 X n8:=by
 intro pins s σ H x v vl vu lo hi sl Q I rx hs pl pu h
 obtain ⟨a,xs,rfl,hx',q⟩:=h
 have hx:Sg X.K H a xs:=Sg.of hx'
 cases rx
 by_cases hw:HT.sIx xs.length 0 lo=0/\HT.sIx xs.length xs.length hi=xs.length
 ·obtain ⟨its,r,ht,hz⟩:=I.tuple hx
  have hlen:its.toArray.size=xs.length:=by rw[Ar]; exact r.length.symm
  refine ⟨"tuple",_,Ec.lookup,ht.typeIs,?_⟩
  refine Rc ht hs pl pu (by rw[hlen]; exact hw) ⟨.ref a,H,I,rfl,q a H ?_ (Wd.refl _)⟩
  unfold Yx
  rw[hw.1,hw.2,List.drop_zero,Wx,Ln]
  exact hx'
 ·exact C6 pins s σ H (.ref a) (.ref a) vl vu lo hi sl Q I rfl hs pl pu ⟨a,xs,rfl,hx,hw,λp np=>q p _ Du (Ft np _)⟩
end
end Nd
namespace Ts
open PySem PyProof.Rows
def Qk:Bool->Keyed->Array Keyed->Nat->Nat->Nat->StateT Bq Sem (Option Nat):=sortPriv% PySem.Builtin.gallop
structure Cmp(prog:Be)(w:World)(A:Co)(s:Ag)(kd:Ku)(Ok:Keyed->Prop)(blt:Keyed->Keyed->Bool):Prop where
 run:∀(x y:Keyed) (Q:Bool->Ag->Prop) (E:Value->Ag->Prop),Ok x->Ok y->Q (blt x y) s->wpAny (model prog w) A (keyLt' kd x.1 y.1) Q E s
 irr:∀x,blt x x=false
 tr:∀x y z,blt x y=true->blt y z=true->blt x z=true
 neg:∀x y z,blt x z=true->blt x y=true\/blt y z=true
def le(blt:Keyed->Keyed->Bool)(x y:Keyed):Prop:=blt y x=false
section
variable{prog:Be}{w:World}{A:Co}{s:Ag}{kd:Ku}{Ok:Keyed->Prop}{blt:Keyed->Keyed->Bool}
theorem Cmp.refl(C:Cmp prog w A s kd Ok blt)(x:Keyed):le blt x x:=C.irr x
theorem Cmp.ofLt(C:Cmp prog w A s kd Ok blt){x y:Keyed}(h:blt x y=true):le blt x y:=by
 unfold le
 cases q:blt y x with
 | false=>rfl
 | true=>have:=C.tr _ _ _ h q; rw[C.irr] at this; cases this
theorem Cmp.trans(C:Cmp prog w A s kd Ok blt){x y z:Keyed}(h1:le blt x y)(h2:le blt y z):le blt x z:=by
 unfold le at *
 cases q:blt z x with
 | false=>rfl
 | true =>
  rcases C.neg _ y _ q with h | h
  ·rw[h2] at h; cases h
  ·rw[h1] at h; cases h
theorem Cmp.ltLe(C:Cmp prog w A s kd Ok blt){x y z:Keyed}(h1:blt x y=true)(h2:le blt y z):blt x z=true:=by
 unfold le at h2
 rcases C.neg _ z _ h1 with h | h
 ·exact h
 ·rw[h2] at h; cases h
theorem Cmp.leLt(C:Cmp prog w A s kd Ok blt){x y z:Keyed}(h1:le blt x y)(h2:blt y z=true):blt x z=true:=by
 unfold le at h1
 rcases C.neg _ x _ h2 with h | h
 ·rw[h1] at h; cases h
 ·exact h
variable{E:Value->Ag->Prop}
structure Kept(st st':Bq):Prop where
 kind:kindOf st'=kindOf st
 arr:arrOf st'=arrOf st
 pend:Az st'=Az st
 fail:Kt st'=Kt st
theorem Kept.refl(st:Bq):Kept st st:=⟨rfl,rfl,rfl,rfl⟩
theorem Kept.trans{a b c:Bq}(h:Kept a b)(k:Kept b c):Kept a c:=⟨k.kind.trans h.kind,k.arr.trans h.arr,k.pend.trans h.pend,k.fail.trans h.fail⟩
theorem gX(C:Cmp prog w A s kd Ok blt){st:Bq}{x y:Keyed}{Q:Option Bool->Bq->Prop}(hk:kindOf st=kd)(ox:Ok x)(oy:Ok y)(h:Q (some (blt x y)) st):wpS (model prog w) A E s (lt' x y) Q st:=by
 rw[lt'_eq]
 refine Av (Lq ?_)
 rw[hk]
 exact Av (wpS_lift (wpAny_attempt (C.run x y _ _ ox oy ⟨rfl,Bb h⟩)))
theorem Ew{st:Bq}{xs:Array Keyed}{i:Nat}{p:Keyed}{Q:Keyed->Bq->Prop}(h:xs[i]? = some p)(q:Q p st):wpS (model prog w) A E s (elem' xs i) Q st:=by
 rw[elem'_eq,h]
 exact Bb q
def Qh(left:Bool)(key:Keyed)(arr:Array Keyed)(base i:Nat):StateT Bq Sem (Option Bool):=do
 let x <- elem' arr (base+i)
 if left then lt' x key else return (<- lt' key x).map (!·)
def mH(left:Bool)(key:Keyed)(arr:Array Keyed)(base n lo0 hi0:Nat):StateT Bq Sem (Option Nat):=do
 let mut lo:=lo0
 let mut hi:=hi0
 for _ in [0:n] do
  if lo ≥ hi then break
  let mid:=lo+(hi - lo) / 2
  let some up <- Qh left key arr base mid | return none
  if up then lo:=mid+1 else hi:=mid
 return some hi
theorem kI(left:Bool)(key:Keyed)(arr:Array Keyed)(base n hint:Nat):Qk left key arr base n hint=(do
  let some right <- Qh left key arr base hint | return none
  let mut last:=0
  let mut ofs:=1
  if right then
   let top:=n - hint
   for _ in [0:n] do
    if ofs ≥ top then break
    let some up <- Qh left key arr base (hint+ofs) | return none
    if !up then break
    last:=ofs
    ofs:=2 * ofs+1
   mH left key arr base n (hint+last+1) (hint+min ofs top)
  else
   let top:=hint+1
   for _ in [0:n] do
    if ofs ≥ top then break
    let some got <- Qh left key arr base (hint - ofs) | return none
    if got then break
    last:=ofs
    ofs:=2 * ofs+1
   mH left key arr base n (hint+1 - min ofs top) (hint - last)):=rfl
def Fx(blt:Keyed->Keyed->Bool)(left:Bool)(key x:Keyed):Bool:=if left then blt x key else !blt key x
structure Row(Ok:Keyed->Prop)(arr:Array Keyed)(base n:Nat)(el:Nat->Keyed):Prop where
 at_:∀i,i<n->arr[base+i]? = some (el i)
 ok:∀i,i<n->Ok (el i)
theorem Qo(C:Cmp prog w A s kd Ok blt){st:Bq}{left:Bool}{key:Keyed}{arr:Array Keyed}{base n i:Nat}{el:Nat->Keyed}(R:Row Ok arr base n el)(ok:Ok key)(hk:kindOf st=kd)(hi:i<n){Q:Option Bool->Bq->Prop}(h:Q (some (Fx blt left key (el i))) st):wpS (model prog w) A E s (Qh left key arr base i) Q st:=by
 unfold Qh
 refine Av (Ew (R.at_ i hi) ?_)
 cases left with
 | true =>
  rw[if_pos rfl]
  exact gX C hk (R.ok i hi) ok h
 | false =>
  rw[if_neg Cm]
  exact Av (gX C hk ok (R.ok i hi) (Bb h))
theorem mB(C:Cmp prog w A s kd Ok blt){st:Bq}{left:Bool}{key:Keyed}{arr:Array Keyed}{base n lo hi:Nat}{el:Nat->Keyed}(R:Row Ok arr base n el)(ok:Ok key)(hk:kindOf st=kd)(mono:∀i j,i<=j->j<n->Fx blt left key (el j)=true->Fx blt left key (el i)=true)(h1:lo<=hi)(h2:hi<=n)(t1:∀i,i<lo->Fx blt left key (el i)=true)(t2:∀i,hi<=i->i<n->Fx blt left key (el i)=false){Q:Option Nat->Bq->Prop}(h:∀k,k<=n->(∀i,i<k->Fx blt left key (el i)=true)->(∀i,k<=i->i<n->Fx blt left key (el i)=false)->Q (some k) st):wpS (model prog w) A E s (mH left key arr base n lo hi) Q st:=by
 unfold mH
 refine Av (Gh (Ea (I:=λx c st'=>∃l r,c=(none,l,r)/\st'=st/\l<=r/\r<=n/\r - l+x<=n/\(∀i,i<l->Fx blt left key (el i)=true)/\(∀i,r<=i->i<n->Fx blt left key (el i)=false))
  (Q:=λc st'=>∃r,c=(none,r,r)/\st'=st/\r<=n/\(∀i,i<r->Fx blt left key (el i)=true)/\(∀i,r<=i->i<n->Fx blt left key (el i)=false)) ?_ ?_ ⟨lo,hi,rfl,rfl,h1,h2,by omega,t1,t2⟩) ?_)
 ·(intro x c st' _ hx q_; obtain ⟨l,r,rfl,rfl,a1,a2,a3,b1,b2⟩ := q_)
  dsimp only
  by_cases hlr:l ≥ r
  ·rw[if_pos hlr]
   have e:l=r:=by omega
   subst e
   exact Bb ⟨l,rfl,rfl,a2,b1,b2⟩
  ·rw[if_neg hlr]
   have hm:l+(r - l) / 2<n:=by omega
   refine Av (Qo C R ok hk hm ?_)
   dsimp only
   cases hb:Fx blt left key (el (l+(r - l) / 2)) with
   | true =>
    rw[if_pos rfl]
    exact Bb ⟨l+(r - l) / 2+1,r,rfl,rfl,by omega,a2,by omega,λi hi=>mono i _ (by omega) hm hb,b2⟩
   | false =>
    rw[if_neg Cm]
    refine Bb ⟨l,l+(r - l) / 2,rfl,rfl,by omega,by omega,by omega,b1,λi hi hn=>?_⟩
    cases q:Fx blt left key (el i) with
    | false=>rfl
    | true=>rw[mono _ i hi hn q] at hb; cases hb
 ·(intro c st' q_; obtain ⟨l,r,rfl,rfl,a1,a2,a3,b1,b2⟩ := q_)
  have e:l=r:=by
   have : max 0 n=n:=by omega
   rw[this] at a3
   omega
  subst e
  exact ⟨l,rfl,rfl,a2,b1,b2⟩
 ·(intro c st' q_; obtain ⟨r,rfl,rfl,a2,b1,b2⟩ := q_)
  exact Bb (h r a2 b1 b2)
theorem Mg(C:Cmp prog w A s kd Ok blt){st:Bq}{left:Bool}{key:Keyed}{arr:Array Keyed}{base n hint:Nat}{el:Nat->Keyed}(R:Row Ok arr base n el)(ok:Ok key)(hk:kindOf st=kd)(hh:hint<n)(mono:∀i j,i<=j->j<n->Fx blt left key (el j)=true->Fx blt left key (el i)=true){Q:Option Nat->Bq->Prop}(h:∀k,k<=n->(∀i,i<k->Fx blt left key (el i)=true)->(∀i,k<=i->i<n->Fx blt left key (el i)=false)->Q (some k) st):wpS (model prog w) A E s (Qk left key arr base n hint) Q st:=by
 have anti:∀i j,i<=j->j<n->Fx blt left key (el i)=false->Fx blt left key (el j)=false:=λi j hij hj q=>by
  cases z:Fx blt left key (el j) with
  | false=>rfl
  | true=>rw[mono i j hij hj z] at q; cases q
 rw[kI]
 refine Av (Qo C R ok hk hh ?_)
 dsimp only
 cases hb:Fx blt left key (el hint) with
 | true =>
  rw[if_pos rfl]
  refine Av (Gh (Ea (I:=λx c st'=>∃la o,c=(none,la,o)/\st'=st/\la<o/\x+1<=o/\hint+la<n/\Fx blt left key (el (hint+la))=true)
   (Q:=λc st'=>∃la o,c=(none,la,o)/\st'=st/\la<o/\hint+la<n/\Fx blt left key (el (hint+la))=true/\(o ≥ n - hint\/(hint+o<n/\Fx blt left key (el (hint+o))=false))) ?_ ?_
   ⟨0,1,rfl,rfl,by omega,by omega,by omega,hb⟩) ?_)
  ·(intro x c st' _ hx q_; obtain ⟨la,o,rfl,rfl,a1,a2,a3,b1⟩ := q_)
   dsimp only
   by_cases ho:o ≥ n - hint
   ·rw[if_pos ho]
    exact Bb ⟨la,o,rfl,rfl,a1,a3,b1,.inl ho⟩
   ·rw[if_neg ho]
    have hm:hint+o<n:=by omega
    refine Av (Qo C R ok hk hm ?_)
    dsimp only
    cases hb2:Fx blt left key (el (hint+o)) with
    | true =>
     simp only[Kb,Bo,if_false]
     exact Bb ⟨o,2 * o+1,rfl,rfl,by omega,by omega,hm,hb2⟩
    | false =>
     simp only[Bool.not_false,if_true]
     exact Bb ⟨la,o,rfl,rfl,a1,a3,b1,.inr ⟨hm,hb2⟩⟩
  ·(intro c st' q_; obtain ⟨la,o,rfl,rfl,a1,a2,a3,b1⟩ := q_)
   have : max 0 n=n:=by omega
   rw[this] at a2
   exact ⟨la,o,rfl,rfl,a1,a3,b1,.inl (by omega)⟩
  ·(intro c st' q_; obtain ⟨la,o,rfl,rfl,a1,a3,b1,b2⟩ := q_)
   dsimp only
   refine mB C R ok hk mono (by omega) (by omega) (λi hi=>mono i _ (by omega) a3 b1) (λi hi hn=>?_) h
   rcases b2 with b2 | ⟨b2,b3⟩
   ·exfalso; omega
   ·exact anti _ i (by omega) hn b3
 | false =>
  rw[if_neg Cm]
  refine Av (Gh (Ea (I:=λx c st'=>∃la o,c=(none,la,o)/\st'=st/\la<o/\x+1<=o/\la<=hint/\Fx blt left key (el (hint - la))=false)
   (Q:=λc st'=>∃la o,c=(none,la,o)/\st'=st/\la<o/\la<=hint/\Fx blt left key (el (hint - la))=false/\(o ≥ hint+1\/(o<=hint/\Fx blt left key (el (hint - o))=true))) ?_ ?_
   ⟨0,1,rfl,rfl,by omega,by omega,by omega,hb⟩) ?_)
  ·(intro x c st' _ hx q_; obtain ⟨la,o,rfl,rfl,a1,a2,a3,b1⟩ := q_)
   dsimp only
   by_cases ho:o ≥ hint+1
   ·rw[if_pos ho]
    exact Bb ⟨la,o,rfl,rfl,a1,a3,b1,.inl ho⟩
   ·rw[if_neg ho]
    have hm:hint - o<n:=by omega
    refine Av (Qo C R ok hk hm ?_)
    dsimp only
    cases hb2:Fx blt left key (el (hint - o)) with
    | true =>
     rw[if_pos rfl]
     exact Bb ⟨la,o,rfl,rfl,a1,a3,b1,.inr ⟨by omega,hb2⟩⟩
    | false =>
     rw[if_neg Cm]
     exact Bb ⟨o,2 * o+1,rfl,rfl,by omega,by omega,by omega,hb2⟩
  ·(intro c st' q_; obtain ⟨la,o,rfl,rfl,a1,a2,a3,b1⟩ := q_)
   have : max 0 n=n:=by omega
   rw[this] at a2
   exact ⟨la,o,rfl,rfl,a1,a3,b1,.inl (by omega)⟩
  ·(intro c st' q_; obtain ⟨la,o,rfl,rfl,a1,a3,b1,b2⟩ := q_)
   dsimp only
   refine mB C R ok hk mono (by omega) (by omega) (λi hi=>?_) (λi hi hn=>anti _ i hi hn b1) h
   rcases b2 with b2 | ⟨b2,b3⟩
   ·exfalso; omega
   ·exact mono i _ (by omega) (by omega) b3
end
structure MI{α:Type}(R:α->α->Prop)(xs ys out:List α)(i j:Nat):Prop where
 perm:out.Perm (xs.take i++ys.take j)
 srt:out.Pairwise R
 lx:∀o∈out,∀z∈xs.drop i,R o z
 ly:∀o∈out,∀z∈ys.drop j,R o z
section
variable{α:Type}{R:α->α->Prop}{xs ys out:List α}{i j:Nat}
theorem aU{l:List α}{n:Nat}{a:α}(h:l[n]? = some a):l.drop n=a::l.drop (n+1):=by
 obtain ⟨hn,e⟩:=Ak.mp h
 rw[List.drop_eq_getElem_cons hn,e]
theorem take_snoc{l:List α}{n:Nat}{a:α}(h:l[n]? = some a):l.take (n+1)=l.take n++[a]:=by
 rw[List.take_succ,h]; rfl
theorem MI.pushY(M:MI R xs ys out i j)(sy:ys.Pairwise R){y:α}(hy:ys[j]? = some y)(hx:∀z∈xs.drop i,R y z):MI R xs ys (out++[y]) i (j+1):=by
 have dy:=aU hy
 have sd:(y::ys.drop (j+1)).Pairwise R:=by rw[<- dy]; exact Hj (Gz _ _) sy
 obtain ⟨s1,s2⟩:=Bh.mp sd
 refine ⟨?_,?_,λo ho z hz=>?_,λo ho z hz=>?_⟩
 ·rw[take_snoc hy,<- Bz]
  exact M.perm.append_right _
 ·refine Cn.mpr ⟨M.srt,Fv _ _,λo ho z hz=>?_⟩
  have e:z=y:=by simpa using hz
  rw[e]
  exact M.ly o ho y (by rw[dy]; exact Aa)
 ·rcases Ay.mp ho with ho | ho
  ·exact M.lx o ho z hz
  ·have e:o=y:=by simpa using ho
   rw[e]; exact hx z hz
 ·rcases Ay.mp ho with ho | ho
  ·exact M.ly o ho z (by rw[dy]; exact Af _ hz)
  ·have e:o=y:=by simpa using ho
   rw[e]; exact s1 z hz
theorem MI.pushX(M:MI R xs ys out i j)(sx:xs.Pairwise R){x:α}(hx:xs[i]? = some x)(hy:∀z∈ys.drop j,R x z):MI R xs ys (out++[x]) (i+1) j:=by
 have dx:=aU hx
 have sd:(x::xs.drop (i+1)).Pairwise R:=by rw[<- dx]; exact Hj (Gz _ _) sx
 obtain ⟨s1,s2⟩:=Bh.mp sd
 refine ⟨?_,?_,λo ho z hz=>?_,λo ho z hz=>?_⟩
 ·rw[take_snoc hx]
  have p1:(out++[x]).Perm ((xs.take i++ys.take j)++[x]):=M.perm.append_right _
  refine p1.trans ?_
  rw[Bz,Bz]
  exact Hs _ Em
 ·refine Cn.mpr ⟨M.srt,Fv _ _,λo ho z hz=>?_⟩
  have e:z=x:=by simpa using hz
  rw[e]
  exact M.lx o ho x (by rw[dx]; exact Aa)
 ·rcases Ay.mp ho with ho | ho
  ·exact M.lx o ho z (by rw[dx]; exact Af _ hz)
  ·have e:o=x:=by simpa using ho
   rw[e]; exact s1 z hz
 ·rcases Ay.mp ho with ho | ho
  ·exact M.ly o ho z hz
  ·have e:o=x:=by simpa using ho
   rw[e]; exact hy z hz
theorem Po{l:List α}{n k:Nat}{a:α}(h:l[n+k]? = some a):(l.drop n).take (k+1)=(l.drop n).take k++[a]:=take_snoc (by rw[Vh]; exact h)
theorem MI.blockX(M:MI R xs ys out i j)(sx:xs.Pairwise R):∀k,i+k<=xs.length->(∀m,m<k->∀x,xs[i+m]? = some x->∀z∈ys.drop j,R x z)->MI R xs ys (out++(xs.drop i).take k) (i+k) j
 | 0,_,_=>by simpa using M
 | k+1,hk,h=>by
  have ih:=MI.blockX M sx k (by omega) λm hm=>h m (by omega)
  obtain ⟨x,hx⟩ : ∃x,xs[i+k]? = some x:=⟨xs[i+k],by simp⟩
  rw[Po hx,<- Bz]
  exact ih.pushX sx hx (h k (by omega) x hx)
theorem MI.blockY(M:MI R xs ys out i j)(sy:ys.Pairwise R):∀k,j+k<=ys.length->(∀m,m<k->∀y,ys[j+m]? = some y->∀z∈xs.drop i,R y z)->MI R xs ys (out++(ys.drop j).take k) i (j+k)
 | 0,_,_=>by simpa using M
 | k+1,hk,h=>by
  have ih:=MI.blockY M sy k (by omega) λm hm=>h m (by omega)
  obtain ⟨y,hy⟩ : ∃y,ys[j+k]? = some y:=⟨ys[j+k],by simp⟩
  rw[Po hy,<- Bz]
  exact ih.pushY sy hy (h k (by omega) y hy)
theorem MI.endX(M:MI R xs ys out i j)(sx:xs.Pairwise R)(hj:ys.length<=j):(out++xs.drop i++ys.drop j).Perm (xs++ys)/\(out++xs.drop i++ys.drop j).Pairwise R:=by
 rw[List.drop_eq_nil_of_le hj,Dz]
 constructor
 ·have p1:(out++xs.drop i).Perm ((xs.take i++ys.take j)++xs.drop i):=M.perm.append_right _
  refine p1.trans ?_
  rw[Hu hj]
  have p2:(xs.take i++ys++xs.drop i).Perm (xs.take i++(xs.drop i++ys)):=by
   rw[Bz]
   exact Hs _ Em
  refine p2.trans ?_
  rw[<- Bz,Iu]
 ·exact Cn.mpr ⟨M.srt,Hj (Gz _ _) sx,M.lx⟩
theorem MI.endYX(M:MI R xs ys out i j)(sx:xs.Pairwise R)(sy:ys.Pairwise R)(h:∀y∈ys.drop j,∀x∈xs.drop i,R y x):(out++ys.drop j++xs.drop i).Perm (xs++ys)/\(out++ys.drop j++xs.drop i).Pairwise R:=by
 constructor
 ·have p1:(out++(ys.drop j++xs.drop i)).Perm ((xs.take i++ys.take j)++(ys.drop j++xs.drop i)):=M.perm.append_right _
  rw[Bz]
  refine p1.trans ?_
  rw[Bz,<- Bz (ys.take j),Iu]
  have p2:(xs.take i++(ys++xs.drop i)).Perm (xs.take i++(xs.drop i++ys)):=Hs _ Em
  refine p2.trans ?_
  rw[<- Bz,Iu]
 ·refine Cn.mpr ⟨Cn.mpr ⟨M.srt,Hj (Gz _ _) sy,M.ly⟩,Hj (Gz _ _) sx,λa ha b hb=>?_⟩
  rcases Ay.mp ha with ha | ha
  ·exact M.lx a ha b hb
  ·exact h a ha b hb
end
def fE:Array Keyed->Array Keyed->StateT Bq Sem (Array Keyed):=sortPriv% PySem.Builtin.mergeLo
def Wt:Nat->StateT Bq Sem Unit:=sortPriv% PySem.Builtin.setMinGallop
abbrev A3(st:Bq)(g:Nat):Bq:=SortSt.mk' (kindOf st) (arrOf st) (Az st) g (Kt st)
theorem kE(g:Nat):Wt g=modify λst=>A3 st g:=rfl
theorem Wr(p:Array Keyed)(i:Nat):(p.extract i p.size).toList=p.toList.drop i:=by
 rw[Lw,Jn,Hu]
 rw[Zk,Ae]
 exact Ah _
theorem Tp(p:Array Keyed)(i k:Nat):(p.extract i (i+k)).toList=(p.toList.drop i).take k:=by
 rw[Lw,Jn,Nat.add_sub_cancel_left]
abbrev dn(p q out:Array Keyed)(i j:Nat):Array Keyed:=out++p.extract i p.size++q.extract j q.size
abbrev lst(p q out:Array Keyed)(i j:Nat):Array Keyed:=out++q.extract j q.size++p.extract i p.size
theorem yF(p q out:Array Keyed)(i j:Nat):(dn p q out i j).toList=out.toList++p.toList.drop i++q.toList.drop j:=by
 rw[Dj,Dj,Wr,Wr]
theorem rE(p q out:Array Keyed)(i j:Nat):(lst p q out i j).toList=out.toList++q.toList.drop j++p.toList.drop i:=by
 rw[Dj,Dj,Wr,Wr]
abbrev zH:=Option (Array Keyed)×Array Keyed×Nat×Nat×Nat×Nat×Nat
def xF(p q out:Array Keyed)(i j g ac k:Nat):StateT Bq Sem (ForInStep zH):=do
 let x <- elem' p i
 if (i+1+1 == p.size)=true then pure (Cr (some (lst p q (out.push x) (i+1) j),out.push x,i+1,j,g,ac,k))
 else if (decide (ac<7) && decide (k<7))=true then pure (Cr (none,out.push x,i+1,j,g,ac,k))
 else pure (Ey (none,out.push x,i+1,j,g,ac,k))
def wO(p q out:Array Keyed)(i j g ac bc:Nat):StateT Bq Sem (ForInStep zH):=do
 let y <- elem' q j
 if (j+1 == q.size)=true then pure (Cr (some (dn p q (out.push y) i (j+1)),out.push y,i,j+1,g,ac,bc))
 else do
  let x <- elem' p i
  let some k <- Qk true x q (j+1) (q.size - (j+1)) 0 | pure (Cr (some (dn p q (out.push y) i (j+1)),out.push y,i,j+1,g,ac,bc))
  if k > 0 then
   if (j+1+k == q.size)=true then pure (Cr (some (dn p q (out.push y++q.extract (j+1) (j+1+k)) i (j+1+k)),out.push y++q.extract (j+1) (j+1+k),i,j+1+k,g,ac,k))
   else xF p q (out.push y++q.extract (j+1) (j+1+k)) i (j+1+k) g ac k
  else xF p q (out.push y) i (j+1) g ac k
def x8(p q out:Array Keyed)(i j g ac bc:Nat):StateT Bq Sem (ForInStep zH):=do
 Wt g
 let y <- elem' q j
 let some k <- Qk false y p i (p.size - i) 0 | pure (Cr (some (dn p q out i j),out,i,j,g,ac,bc))
 if k > 0 then
  if (i+k+1 == p.size)=true then pure (Cr (some (lst p q (out++p.extract i (i+k)) (i+k) j),out++p.extract i (i+k),i+k,j,g,k,bc))
  else if (i+k == p.size)=true then pure (Cr (some (dn p q (out++p.extract i (i+k)) (i+k) j),out++p.extract i (i+k),i+k,j,g,k,bc))
  else wO p q (out++p.extract i (i+k)) (i+k) j g k bc
 else wO p q out i j g k bc
section
variable{prog:Be}{w:World}{A:Co}{s:Ag}{kd:Ku}{Ok:Keyed->Prop}{blt:Keyed->Keyed->Bool}{E:Value->Ag->Prop}
theorem Qv{st:Bq}{x:String}{Q:Unit->Bq->Prop}(h:Q () st):wpS (model prog w) A E s (liftM (rule x):StateT Bq Sem Unit) Q st:=wpS_lift (wpAny_rule ⟨rfl,h⟩)
theorem Qp{st:Bq}{g:Nat}{Q:Unit->Bq->Prop}(h:∀st',Kept st st'->Q () st'):wpS (model prog w) A E s (Wt g) Q st:=by
 rw[kE]
 exact Iv (h _ ⟨rfl,rfl,rfl,rfl⟩)
structure Two(Ok:Keyed->Prop)(blt:Keyed->Keyed->Bool)(p q:Array Keyed)(x0 y0 xl:Keyed):Prop where
 op:∀x∈p.toList,Ok x
 oq:∀x∈q.toList,Ok x
 sp:p.toList.Pairwise (le blt)
 sq:q.toList.Pairwise (le blt)
 hx0:p[0]? = some x0
 hy0:q[0]? = some y0
 hxl:p[p.size - 1]? = some xl
 first:blt y0 x0=true
 last:∀y∈q.toList,blt y xl=true
abbrev kS(blt:Keyed->Keyed->Bool)(p q r:Array Keyed):Prop:=r.toList.Perm (p.toList++q.toList)/\r.toList.Pairwise (le blt)
theorem Dw{p:Array Keyed}{i:Nat}{x:Keyed}(h:p[i]? = some x):p.toList[i]? = some x:=by simpa using h
theorem Fc{p:Array Keyed}{i:Nat}(h:i<p.size):∃x,p[i]? = some x:=⟨p[i],by simp [h]⟩
theorem Iq{p:Array Keyed}{i:Nat}{x:Keyed}(h:p[i]? = some x):x∈p.toList:=Bc (Dw h)
theorem fS{α:Type}{l:List α}{i:Nat}{z:α}(h:z∈l.drop i):∃k,l[i+k]? = some z:=by
 obtain ⟨k,hk,e⟩:=Fp.mp h
 exact ⟨k,by rw[<- Vh,Bu hk,e]⟩
theorem Jq(C:Cmp prog w A s kd Ok blt){l:List Keyed}(sl:l.Pairwise (le blt)){i j:Nat}{x y:Keyed}(hij:i<=j)(hx:l[i]? = some x)(hy:l[j]? = some y):le blt x y:=by
 by_cases e:i=j
 ·subst e
  rw[hx] at hy
  cases hy
  exact C.refl x
 ·obtain ⟨hi,ex⟩:=Ak.mp hx
  obtain ⟨hj,ey⟩:=Ak.mp hy
  have:=Dl.mp sl i j hi hj (by omega)
  rw[ex,ey] at this
  exact this
theorem Nb(C:Cmp prog w A s kd Ok blt){l:List Keyed}(sl:l.Pairwise (le blt)){i:Nat}{x y:Keyed}(hx:l[i]? = some x)(h:le blt y x):∀z∈l.drop i,le blt y z:=λz hz=>by
 obtain ⟨k,hk⟩:=fS hz
 exact C.trans h (Jq C sl (Nat.le_add_right i k) hx hk)
abbrev LI(blt:Keyed->Keyed->Bool)(p q out:Array Keyed)(i j:Nat):Prop:=MI (le blt) p.toList q.toList out.toList i j
theorem Mf(out:Array Keyed)(x:Keyed):(out.push x).toList=out.toList++[x]:=by simp
theorem Two.last_end(C:Cmp prog w A s kd Ok blt){p q out:Array Keyed}{x0 y0 xl:Keyed}(T:Two Ok blt p q x0 y0 xl){i j:Nat}(M:LI blt p q out i j)(hi:i+1=p.size):kS blt p q (lst p q out i j):=by
 have h:=M.endYX T.sp T.sq (λy hy x hx=>?_)
 ·rw[<- rE] at h
  exact h
 ·obtain ⟨k,hk⟩:=fS hx
  have : k=0:=by
   have:=(Ak.mp hk).1
   rw[Ae] at this
   omega
  subst this
  have e:x=xl:=by
   have:=Dw T.hxl
   rw[show p.size - 1=i+0 by omega,hk] at this
   exact Ck this
  rw[e]
  exact C.ofLt (T.last y (Se hy))
theorem Two.done_end{p q out:Array Keyed}{x0 y0 xl:Keyed}(T:Two Ok blt p q x0 y0 xl){i j:Nat}(M:LI blt p q out i j)(hj:q.size<=j):kS blt p q (dn p q out i j):=by
 have h:=M.endX T.sp (by rw[Ae]; exact hj)
 rw[<- yF] at h
 exact h
def R9(blt:Keyed->Keyed->Bool)(p q:Array Keyed)(st:Bq)(n:Nat)(r:ForInStep zH)(st':Bq):Prop:=Kept st st'/\match r with
 | .done (some r,_)=>kS blt p q r
 | .done (none,out,i,j,_)=>LI blt p q out i j/\i+1<p.size/\j<q.size/\n<i+j
 | .yield (none,out,i,j,_)=>LI blt p q out i j/\i+1<p.size/\j<q.size/\n<i+j
 | .yield (some _,_)=>False
theorem mM(C:Cmp prog w A s kd Ok blt){p q out:Array Keyed}{x0 y0 xl:Keyed}(T:Two Ok blt p q x0 y0 xl){i j g ac k n:Nat}{st0 st:Bq}(kp:Kept st0 st)(M:LI blt p q out i j)(hi:i+1<p.size)(hj:j<q.size)(hn:n<=i+j){x:Keyed}(hx:p[i]? = some x)(hq:∀z∈q.toList.drop j,le blt x z):wpS (model prog w) A E s (xF p q out i j g ac k) (R9 blt p q st0 n) st:=by
 unfold xF
 refine Av (Ew hx ?_)
 have M1:LI blt p q (out.push x) (i+1) j:=by
  have:=M.pushX T.sp (Dw hx) hq
  rw[<- Mf] at this
  exact this
 by_cases h1:i+1+1=p.size
 ·rw[if_pos (by rw[h1]; exact beq_self_eq_true _)]
  exact Bb ⟨kp,T.last_end C M1 h1⟩
 ·rw[if_neg (λz=>h1 (Dn z))]
  by_cases h2:(decide (ac<7) && decide (k<7))=true
  ·rw[if_pos h2]
   exact Bb ⟨kp,M1,by omega,hj,by omega⟩
  ·rw[if_neg h2]
   exact Bb ⟨kp,M1,by omega,hj,by omega⟩
theorem lG(C:Cmp prog w A s kd Ok blt){p q out:Array Keyed}{x0 y0 xl:Keyed}(T:Two Ok blt p q x0 y0 xl){i j g ac bc n:Nat}{st0 st:Bq}(kp:Kept st0 st)(hk:kindOf st=kd)(M:LI blt p q out i j)(hi:i+1<p.size)(hj:j<q.size)(hn:n<=i+j){x y:Keyed}(hx:p[i]? = some x)(hy:q[j]? = some y)(hyx:blt y x=true):wpS (model prog w) A E s (wO p q out i j g ac bc) (R9 blt p q st0 n) st:=by
 unfold wO
 refine Av (Ew hy ?_)
 have M1:LI blt p q (out.push y) i (j+1):=by
  have:=M.pushY T.sq (Dw hy) (Nb C T.sp (Dw hx) (C.ofLt hyx))
  rw[<- Mf] at this
  exact this
 by_cases h1:j+1=q.size
 ·rw[if_pos (by rw[h1]; exact beq_self_eq_true _)]
  exact Bb ⟨kp,T.done_end M1 (by omega)⟩
 ·rw[if_neg (λz=>h1 (Dn z))]
  refine Av (Ew hx ?_)
  have R:Row Ok q (j+1) (q.size - (j+1)) (λm=>q.getD (j+1+m) y):=⟨λm hm=>?_,λm hm=>?_⟩
  ·refine Av (Mg C R (T.op x (Iq hx)) hk (by omega) (λa b hab hb q1=>?_) λk hk1 t1 t2=>?_)
   ·obtain ⟨ya,ea⟩:=Fc (p:=q) (i:=j+1+a) (by omega)
    obtain ⟨yb,eb⟩:=Fc (p:=q) (i:=j+1+b) (by omega)
    have ga:q.getD (j+1+a) y=ya:=by simp [Bj,ea]
    have gb:q.getD (j+1+b) y=yb:=by simp [Bj,eb]
    simp only[ga,gb,Fx,if_true] at q1 ⊢
    exact C.leLt (Jq C T.sq (by omega) (Dw ea) (Dw eb)) q1
   ·dsimp only
    have val:∀m yy,q[j+1+m]? = some yy->q.getD (j+1+m) y=yy:=λm yy e=>by simp [Bj,e]
    have M2:LI blt p q (out.push y++q.extract (j+1) (j+1+k)) i (j+1+k):=by
     have:=M1.blockY T.sq k (by rw[Ae]; omega) (λm hm yy ey=>by
      have ey':q[j+1+m]? = some yy:=by simpa using ey
      have:=t1 m hm
      rw[val m yy ey'] at this
      simp only[Fx,if_true] at this
      exact Nb C T.sp (Dw hx) (C.ofLt this))
     rw[<- Tp,<- Dj] at this
     exact this
    by_cases h2:k > 0
    ·rw[if_pos h2]
     by_cases h3:j+1+k=q.size
     ·rw[if_pos (by rw[h3]; exact beq_self_eq_true _)]
      exact Bb ⟨kp,T.done_end M2 (by omega)⟩
     ·rw[if_neg (λz=>h3 (Dn z))]
      obtain ⟨yk,ek⟩:=Fc (p:=q) (i:=j+1+k) (by omega)
      refine mM C T kp M2 hi (by omega) (by omega) hx (Nb C T.sq (Dw ek) ?_)
      have:=t2 k (Ah _) (by omega)
      rw[val k yk ek] at this
      have z:blt yk x=false:=by simpa only [Fx,if_true] using this
      exact z
    ·rw[if_neg h2]
     have hk0:k=0:=by omega
     subst hk0
     obtain ⟨yk,ek⟩:=Fc (p:=q) (i:=j+1) (by omega)
     refine mM C T kp M1 hi (by omega) (by omega) hx (Nb C T.sq (Dw ek) ?_)
     have:=t2 0 (Ah _) (by omega)
     rw[val 0 yk ek] at this
     have z:blt yk x=false:=by simpa only [Fx,if_true] using this
     exact z
  ·obtain ⟨ya,ea⟩:=Fc (p:=q) (i:=j+1+m) (by omega)
   rw[ea]
   simp [Bj,ea]
  ·obtain ⟨ya,ea⟩:=Fc (p:=q) (i:=j+1+m) (by omega)
   have : q.getD (j+1+m) y=ya:=by simp [Bj,ea]
   rw[this]
   exact T.oq ya (Iq ea)
theorem zY(C:Cmp prog w A s kd Ok blt){p q out:Array Keyed}{x0 y0 xl:Keyed}(T:Two Ok blt p q x0 y0 xl){i j g ac bc n:Nat}{st0 st:Bq}(kp:Kept st0 st)(hk:kindOf st=kd)(M:LI blt p q out i j)(hi:i+1<p.size)(hj:j<q.size)(hn:n<=i+j):wpS (model prog w) A E s (x8 p q out i j g ac bc) (R9 blt p q st0 n) st:=by
 unfold x8
 refine Av (Qp λst1 kp1=>?_)
 have kp':=kp.trans kp1
 have hk':kindOf st1=kd:=kp1.kind.trans hk
 obtain ⟨y,hy⟩:=Fc (p:=q) hj
 refine Av (Ew hy ?_)
 have val:∀m xx,p[i+m]? = some xx->p.getD (i+m) y=xx:=λm xx e=>by simp [Bj,e]
 have R:Row Ok p i (p.size - i) (λm=>p.getD (i+m) y):=⟨λm hm=>by
  obtain ⟨xa,ea⟩:=Fc (p:=p) (i:=i+m) (by omega)
  rw[val m xa ea,ea],λm hm=>by
  obtain ⟨xa,ea⟩:=Fc (p:=p) (i:=i+m) (by omega)
  show Ok (p.getD (i+m) y)
  rw[val m xa ea]
  exact T.op xa (Iq ea)⟩
 refine Av (Mg C R (T.oq y (Iq hy)) hk' (by omega) (λa b hab hb q1=>?_) λk hk1 t1 t2=>?_)
 ·obtain ⟨xa,ea⟩:=Fc (p:=p) (i:=i+a) (by omega)
  obtain ⟨xb,eb⟩:=Fc (p:=p) (i:=i+b) (by omega)
  simp only[val a xa ea,val b xb eb,Fx,Bo,if_false,Ha] at q1 ⊢
  exact C.trans (Jq C T.sp (by omega) (Dw ea) (Dw eb)) q1
 ·dsimp only
  -- the last one is beyond y: so k does not reach it
  have hkl:i+k+1<=p.size:=by
   rcases Nat.lt_or_ge (i+k) p.size with z | z
   ·omega
   ·exfalso
    have:=t1 (p.size - 1 - i) (by omega)
    have e:p[i+(p.size - 1 - i)]? = some xl:=by
     rw[show i+(p.size - 1 - i)=p.size - 1 by omega]
     exact T.hxl
    rw[val _ xl e] at this
    simp only[Fx,Bo,if_false,T.last y (Iq hy),Kb] at this
  have M1:LI blt p q (out++p.extract i (i+k)) (i+k) j:=by
   have:=M.blockX T.sp k (by rw[Ae]; omega) (λm hm xx ex=>by
    have ex':p[i+m]? = some xx:=by simpa using ex
    have:=t1 m hm
    rw[val m xx ex'] at this
    simp only[Fx,Bo,if_false,Ha] at this
    exact Nb C T.sq (Dw hy) this)
   rw[<- Tp,<- Dj] at this
   exact this
  obtain ⟨xk,ek⟩:=Fc (p:=p) (i:=i+k) (by omega)
  have hyx:blt y xk=true:=by
   have:=t2 k (Ah _) (by omega)
   rw[val k xk ek] at this
   simpa only [Fx,Bo,if_false,Vi] using this
  by_cases h2:k > 0
  ·rw[if_pos h2]
   by_cases h3:i+k+1=p.size
   ·rw[if_pos (by rw[h3]; exact beq_self_eq_true _)]
    exact Bb ⟨kp',T.last_end C M1 h3⟩
   ·rw[if_neg (λz=>h3 (Dn z)),if_neg (λz=>by have:=Dn z; omega)]
    exact lG C T kp' hk' M1 (by omega) hj (by omega) ek hy hyx
  ·rw[if_neg h2]
   have hk0:k=0:=by omega
   subst hk0
   exact lG C T kp' hk' M hi hj hn ek hy hyx
theorem kY(C:Cmp prog w A s kd Ok blt){p q:Array Keyed}{x0 y0 xl:Keyed}(T:Two Ok blt p q x0 y0 xl){st:Bq}(hk:kindOf st=kd){Q:Array Keyed->Bq->Prop}(h:∀r st',Kept st st'->kS blt p q r->Q r st'):wpS (model prog w) A E s (fE p q) Q st:=by
 have p0:0<p.size:=by
  have:=(Gk.mp T.hx0).1
  exact this
 have q0:0<q.size:=by
  have:=(Gk.mp T.hy0).1
  exact this
 have M0:LI blt p q #[y0] 0 1:=by
  have m:LI blt p q #[] 0 0:=⟨by simp,by simp,λo ho=>by simp at ho,λo ho=>by simp at ho⟩
  have:=m.pushY T.sq (Dw T.hy0) (Nb C T.sp (Dw T.hx0) (C.ofLt T.first))
  simpa using this
 unfold fE
 refine Av (Qv ?_)
 refine Av (Ew T.hy0 ?_)
 dsimp only
 by_cases h1:1=q.size
 ·rw[if_pos (by rw[<- h1]; rfl)]
  exact Bb (h _ _ (Kept.refl _) (T.done_end M0 (by omega)))
 rw[if_neg (λz=>h1 (Dn z))]
 by_cases h2:0+1=p.size
 ·rw[if_pos (by rw[<- h2]; rfl)]
  exact Bb (h _ _ (Kept.refl _) (T.last_end C M0 (by omega)))
 rw[if_neg (λz=>h2 (Dn z))]
 refine Av (Lq ?_)
 refine Av (Gh (Ea
  (I:=λx c st'=>Kept st st'/\∃out i j g,c=(none,out,i,j,g)/\LI blt p q out i j/\i+1<p.size/\j<q.size/\x+1<=i+j)
  (Q:=λc st'=>Kept st st'/\∃r Eo,c=(some r,Eo)/\kS blt p q r) ?_ ?_ ⟨Kept.refl _,_,0,1,_,rfl,M0,by omega,by omega,by omega⟩) ?_)
 ·(intro x c st1 _ hx q_; obtain ⟨kp1,out,i,j,g,rfl,M,hi,hj,hn⟩ := q_)
  dsimp only
  -- one by one
  refine Av (Gh (Ea
   (I:=λ_ c st'=>st'=st1/\∃out i j ac bc,c=(none,out,i,j,ac,bc)/\LI blt p q out i j/\i+1<p.size/\j<q.size/\x+1<=i+j)
   (Q:=λc st'=>st'=st1/\((∃r Eo,c=(some r,Eo)/\kS blt p q r)\/∃out i j ac bc,c=(none,out,i,j,ac,bc)/\LI blt p q out i j/\i+1<p.size/\j<q.size/\x+1<=i+j)) ?_ ?_ ⟨rfl,out,i,j,0,0,rfl,M,hi,hj,hn⟩) ?_)
  ·(intro z c st2 _ hz q_; obtain ⟨rfl,out,i,j,ac,bc,rfl,M,hi,hj,hn⟩ := q_)
   dsimp only
   obtain ⟨yy,hy⟩:=Fc (p:=q) hj
   obtain ⟨xx,hx⟩:=Fc (p:=p) (i:=i) (by omega)
   refine Av (Ew hy ?_)
   refine Av (Ew hx ?_)
   refine Av (gX C (kp1.kind.trans hk) (T.oq yy (Iq hy)) (T.op xx (Iq hx)) ?_)
   dsimp only
   cases hb:blt yy xx with
   | true =>
    rw[if_pos rfl]
    refine Av (Ew hy ?_)
    have M1:LI blt p q (out.push yy) i (j+1):=by
     have:=M.pushY T.sq (Dw hy) (Nb C T.sp (Dw hx) (C.ofLt hb))
     rw[<- Mf] at this
     exact this
    by_cases e1:j+1=q.size
    ·rw[if_pos (by rw[e1]; exact beq_self_eq_true _)]
     exact Bb ⟨rfl,.inl ⟨_,_,rfl,T.done_end M1 (by omega)⟩⟩
    ·rw[if_neg (λz=>e1 (Dn z))]
     split
     ·exact Bb ⟨rfl,.inr ⟨_,_,_,_,_,rfl,M1,hi,by omega,by omega⟩⟩
     ·exact Bb ⟨rfl,_,_,_,_,_,rfl,M1,hi,by omega,by omega⟩
   | false =>
    rw[if_neg Cm]
    refine Av (Ew hx ?_)
    have M1:LI blt p q (out.push xx) (i+1) j:=by
     have:=M.pushX T.sp (Dw hx) (Nb C T.sq (Dw hy) hb)
     rw[<- Mf] at this
     exact this
    by_cases e1:i+1+1=p.size
    ·rw[if_pos (by rw[e1]; exact beq_self_eq_true _)]
     exact Bb ⟨rfl,.inl ⟨_,_,rfl,T.last_end C M1 (by omega)⟩⟩
    ·rw[if_neg (λz=>e1 (Dn z))]
     split
     ·exact Bb ⟨rfl,.inr ⟨_,_,_,_,_,rfl,M1,by omega,hj,by omega⟩⟩
     ·exact Bb ⟨rfl,_,_,_,_,_,rfl,M1,by omega,hj,by omega⟩
  ·(intro c st2 q_; obtain ⟨rfl,out,i,j,ac,bc,rfl,M⟩ := q_)
   exact ⟨rfl,.inr ⟨out,i,j,ac,bc,rfl,M⟩⟩
  ·rintro c st2 ⟨rfl,hc⟩
   rcases hc with hc | hc
   ·obtain ⟨r,Eo,rfl,hr⟩:=hc
    exact Bb ⟨kp1,r,_,rfl,hr⟩
   ·obtain ⟨out,i,j,ac,bc,rfl,M,hi,hj,hn⟩:=hc
    dsimp only
    refine Av (Qv ?_)
    -- the gallop
    refine Av (Gh (Ea
     (I:=λy c st'=>Kept st st'/\∃out i j g ac bc,c=(none,out,i,j,g,ac,bc)/\LI blt p q out i j/\i+1<p.size/\j<q.size/\(if y=0 then x+1<=i+j else x+2<=i+j))
     (Q:=λc st'=>Kept st st'/\((∃r Eo,c=(some r,Eo)/\kS blt p q r)\/∃out i j g ac bc,c=(none,out,i,j,g,ac,bc)/\LI blt p q out i j/\i+1<p.size/\j<q.size/\x+2<=i+j)) ?_ ?_
     ⟨kp1,out,i,j,_,ac,bc,rfl,M,hi,hj,by rw[if_pos rfl]; exact hn⟩) ?_)
    ·(intro y c Re _ hy q_; obtain ⟨kp3,out,i,j,g,ac,bc,rfl,M,hi,hj,hn⟩ := q_)
     have hn':x+1<=i+j:=by split at hn <;> omega
     have key:∀g',wpS (model prog w) A E s (x8 p q out i j g' ac bc) (R9 blt p q st (x+1)) Re:=λg'=>zY C T kp3 (kp3.kind.trans hk) M hi hj hn'
     dsimp only
     refine Gh (?_:wpS (model prog w) A E s _ (R9 blt p q st (x+1)) Re) λr st4 hr=>?_
     ·by_cases hg:g > 1
      ·rw[if_pos hg]
       exact key _
      ·rw[if_neg hg]
       exact key _
     ·obtain ⟨kp4,hr⟩:=hr
      match r,hr with
      | .done (some r,Eo),hr=>exact ⟨kp4,.inl ⟨r,Eo,rfl,hr⟩⟩
      | .done (none,out,i,j,g,ac,bc),hr=>exact ⟨kp4,.inr ⟨out,i,j,g,ac,bc,rfl,hr.1,hr.2.1,hr.2.2.1,by have:=hr.2.2.2; omega⟩⟩
      | .yield (none,out,i,j,g,ac,bc),hr=>exact ⟨kp4,out,i,j,g,ac,bc,rfl,hr.1,hr.2.1,hr.2.2.1,by rw[if_neg (by omega)]; have:=hr.2.2.2; omega⟩
    ·(intro c Re q_; obtain ⟨kp3,out,i,j,g,ac,bc,rfl,M,hi,hj,hn⟩ := q_)
     rw[if_neg (by omega)] at hn
     exact ⟨kp3,.inr ⟨out,i,j,g,ac,bc,rfl,M,hi,hj,hn⟩⟩
    ·rintro c Re ⟨kp3,hc⟩
     rcases hc with hc | hc
     ·obtain ⟨r,Eo,rfl,hr⟩:=hc
      exact Bb ⟨kp3,r,_,rfl,hr⟩
     ·obtain ⟨out,i,j,g,ac,bc,rfl,M,hi,hj,hn⟩:=hc
      dsimp only
      refine Av (Qp λst4 kp4=>?_)
      exact Bb ⟨kp3.trans kp4,out,i,j,_,rfl,M,hi,hj,by omega⟩
 ·(intro c st1 q_; obtain ⟨kp1,out,i,j,g,rfl,M,hi,hj,hn⟩ := q_)
  exfalso
  have : max 0 (p.size+q.size)=p.size+q.size:=by omega
  rw[this] at hn
  omega
 ·(intro c st1 q_; obtain ⟨kp1,r,Eo,rfl,hr⟩ := q_)
  exact Bb (h r st1 kp1 hr)
end
def iF:Array Keyed->Array Keyed->StateT Bq Sem (Array Keyed):=sortPriv% PySem.Builtin.mergeHi
abbrev C0(p q out:Array Keyed)(m n:Nat):Array Keyed:=p.extract 0 m++q.extract 0 n++out.reverse
abbrev Y2(p q out:Array Keyed)(m n:Nat):Array Keyed:=q.extract 0 n++p.extract 0 m++out.reverse
abbrev wJ:=Option (Array Keyed)×Nat×Nat×Array Keyed×Nat×Nat×Nat
def zR(p q out:Array Keyed)(m n g ac k:Nat):StateT Bq Sem (ForInStep wJ):=do
 let x <- elem' p (m - 1)
 if (m - 1 == 0)=true then pure (Cr (some (C0 p q (out.push x) (m - 1) n),m - 1,n,out.push x,g,ac,k))
 else if (decide (ac<7) && decide (k<7))=true then pure (Cr (none,m - 1,n,out.push x,g,ac,k))
 else pure (Ey (none,m - 1,n,out.push x,g,ac,k))
def xU(p q out:Array Keyed)(m n g ac bc:Nat):StateT Bq Sem (ForInStep wJ):=do
 let y <- elem' q (n - 1)
 if (n - 1 == 1)=true then pure (Cr (some (Y2 p q (out.push y) m (n - 1)),m,n - 1,out.push y,g,ac,bc))
 else do
  let x <- elem' p (m - 1)
  let some t <- Qk true x q 0 (n - 1) (n - 1 - 1) | pure (Cr (some (C0 p q (out.push y) m (n - 1)),m,n - 1,out.push y,g,ac,bc))
  if n - 1 - t > 0 then
   if (t == 1)=true then pure (Cr (some (Y2 p q (out.push y++(q.extract t (n - 1)).reverse) m t),m,t,out.push y++(q.extract t (n - 1)).reverse,g,ac,n - 1 - t))
   else if (t == 0)=true then pure (Cr (some (C0 p q (out.push y++(q.extract t (n - 1)).reverse) m t),m,t,out.push y++(q.extract t (n - 1)).reverse,g,ac,n - 1 - t))
   else zR p q (out.push y++(q.extract t (n - 1)).reverse) m t g ac (n - 1 - t)
  else zR p q (out.push y) m (n - 1) g ac (n - 1 - t)
def C2(p q out:Array Keyed)(m n g ac bc:Nat):StateT Bq Sem (ForInStep wJ):=do
 Wt g
 let y <- elem' q (n - 1)
 let some t <- Qk false y p 0 m (m - 1) | pure (Cr (some (C0 p q out m n),m,n,out,g,ac,bc))
 if m - t > 0 then
  if (t == 0)=true then pure (Cr (some (C0 p q (out++(p.extract t m).reverse) t n),t,n,out++(p.extract t m).reverse,g,m - t,bc))
  else xU p q (out++(p.extract t m).reverse) t n g (m - t) bc
 else xU p q out m n g (m - t) bc
section
variable{α:Type}{R:α->α->Prop}{xs ys out:List α}{i j:Nat}
theorem MI.swap(M:MI R xs ys out i j):MI R ys xs out j i:=⟨M.perm.trans Em,M.srt,M.ly,M.lx⟩
theorem MI.endXY(M:MI R xs ys out i j)(sx:xs.Pairwise R)(sy:ys.Pairwise R)(h:∀x∈xs.drop i,∀y∈ys.drop j,R x y):(out++xs.drop i++ys.drop j).Perm (xs++ys)/\(out++xs.drop i++ys.drop j).Pairwise R:=by
 have:=M.swap.endYX sy sx h
 exact ⟨this.1.trans Em,this.2⟩
end
abbrev ge(blt:Keyed->Keyed->Bool)(x y:Keyed):Prop:=le blt y x
abbrev HI(blt:Keyed->Keyed->Bool)(p q out:Array Keyed)(m n:Nat):Prop:=MI (ge blt) p.toList.reverse q.toList.reverse out.toList (p.size - m) (q.size - n)
theorem Ip(p:Array Keyed){m:Nat}(h:m<=p.size):p.toList.reverse.drop (p.size - m)=(p.toList.take m).reverse:=by
 rw[List.drop_reverse,Ae]
 congr 2
 omega
theorem rL{p:Array Keyed}{m:Nat}{x:Keyed}(h0:0<m)(h:m<=p.size)(e:p[m - 1]? = some x):p.toList.reverse[p.size - m]? = some x:=by
 rw[Rg (by rw[Ae]; omega),Ae,show p.size - 1 - (p.size - m)=m - 1 by omega]
 exact Dw e
theorem wV(p:Array Keyed)(m:Nat):(p.extract 0 m).toList=p.toList.take m:=by
 rw[Lw,Jn,List.drop_zero,Wx]
theorem X7(p:Array Keyed){t m:Nat}(h1:t<=m)(h2:m<=p.size):(p.extract t m).reverse.toList=(p.toList.reverse.drop (p.size - m)).take (m - t):=by
 rw[Ip p h2,List.take_reverse,Rp,Lw,Jn,Da,Ae,List.drop_take]
 congr 2
 ·omega
 ·congr 1
  omega
section
variable{prog:Be}{w:World}{A:Co}{s:Ag}{kd:Ku}{Ok:Keyed->Prop}{blt:Keyed->Keyed->Bool}{E:Value->Ag->Prop}
theorem Io{l:List Keyed}(h:l.Pairwise (le blt)):l.reverse.Pairwise (ge blt):=Rf.mpr h
theorem Two.dn_end{p q out:Array Keyed}{x0 y0 xl:Keyed}(T:Two Ok blt p q x0 y0 xl){m n:Nat}(M:HI blt p q out m n)(hm:m<=p.size)(hn:n<=q.size)(h:m=0\/n=0):kS blt p q (C0 p q out m n):=by
 have h1:=M.endYX (Io T.sp) (Io T.sq) (λy hy x hx=>by
  rw[Ip p hm] at hx
  rw[Ip q hn] at hy
  rcases h with h | h
  ·subst h; simp at hx
  ·subst h; simp at hy)
 rw[Ip p hm,Ip q hn] at h1
 have e:(C0 p q out m n).toList=(out.toList++(q.toList.take n).reverse++(p.toList.take m).reverse).reverse:=by
  rw[Dj,Dj,wV,wV,Rp]
  simp
 refine ⟨?_,?_⟩
 ·rw[e]
  refine (Iy _).trans (h1.1.trans ?_)
  exact List.Perm.append (Iy _) (Iy _)
 ·rw[e]
  exact Rf.mpr h1.2
theorem Two.fs_end(C:Cmp prog w A s kd Ok blt){p q out:Array Keyed}{x0 y0 xl:Keyed}(T:Two Ok blt p q x0 y0 xl){m n:Nat}(M:HI blt p q out m n)(hm:m<=p.size)(hn:n=1)(hq:1<=q.size):kS blt p q (Y2 p q out m n):=by
 subst hn
 have h1:=M.endXY (Io T.sp) (Io T.sq) (λx hx y hy=>by
  rw[Ip p hm] at hx
  rw[Ip q hq] at hy
  have ey:y=y0:=by
   have : y∈q.toList.take 1:=Pi.mp hy
   obtain ⟨k,hk,e⟩:=Fp.mp this
   have hk0:k=0:=by
    rw[Da] at hk
    omega
   subst hk0
   have e2:q.toList[0]? = some y:=by
    rw[<- e,<- Bu hk,Fl (by omega)]
   rw[Dw T.hy0] at e2
   exact (Ck e2).symm
  rw[ey]
  have hx':x∈p.toList:=Sd (Pi.mp hx)
  obtain ⟨k,hk,e⟩:=Fp.mp hx'
  have e2:p.toList[k]? = some x:=by rw[<- e,Bu hk]
  exact C.trans (C.ofLt T.first) (Jq C T.sp (Ds k) (Dw T.hx0) e2))
 rw[Ip p hm,Ip q hq] at h1
 have e:(Y2 p q out m 1).toList=(out.toList++(p.toList.take m).reverse++(q.toList.take 1).reverse).reverse:=by
  rw[Dj,Dj,wV,wV,Rp]
  simp
 refine ⟨?_,?_⟩
 ·rw[e]
  refine (Iy _).trans (h1.1.trans ?_)
  exact List.Perm.append (Iy _) (Iy _)
 ·rw[e]
  exact Rf.mpr h1.2
theorem Qn(C:Cmp prog w A s kd Ok blt){p:Array Keyed}(sp:p.toList.Pairwise (le blt)){m:Nat}{x y:Keyed}(h0:0<m)(hm:m<=p.size)(hx:p[m - 1]? = some x)(h:le blt x y):∀z∈p.toList.reverse.drop (p.size - m),ge blt y z:=λz hz=>by
 rw[Ip p hm] at hz
 obtain ⟨k,hk,e⟩:=Fp.mp (Pi.mp hz)
 have e2:p.toList[k]? = some z:=by
  rw[Da] at hk
  rw[<- e,<- Bu (by rw[Da]; exact hk),Fl (by omega)]
 rw[Da] at hk
 exact C.trans (Jq C sp (by omega) e2 (Dw hx)) h
theorem HI.pushX(C:Cmp prog w A s kd Ok blt){p q out:Array Keyed}{x0 y0 xl:Keyed}(T:Two Ok blt p q x0 y0 xl){m n:Nat}(M:HI blt p q out m n)(h0:0<m)(hm:m<=p.size){x:Keyed}(hx:p[m - 1]? = some x)(h:∀z∈q.toList.reverse.drop (q.size - n),ge blt x z):HI blt p q (out.push x) (m - 1) n:=by
 have:=MI.pushX M (Io T.sp) (rL h0 hm hx) h
 rw[<- Mf,show p.size - m+1=p.size - (m - 1) by omega] at this
 exact this
theorem HI.pushY(C:Cmp prog w A s kd Ok blt){p q out:Array Keyed}{x0 y0 xl:Keyed}(T:Two Ok blt p q x0 y0 xl){m n:Nat}(M:HI blt p q out m n)(h0:0<n)(hn:n<=q.size){y:Keyed}(hy:q[n - 1]? = some y)(h:∀z∈p.toList.reverse.drop (p.size - m),ge blt y z):HI blt p q (out.push y) m (n - 1):=by
 have:=MI.pushY M (Io T.sq) (rL h0 hn hy) h
 rw[<- Mf,show q.size - n+1=q.size - (n - 1) by omega] at this
 exact this
def T6(blt:Keyed->Keyed->Bool)(p q:Array Keyed)(st:Bq)(b:Nat)(r:ForInStep wJ)(st':Bq):Prop:=Kept st st'/\match r with
 | .done (some r,_)=>kS blt p q r
 | .done (none,m,n,out,_)=>HI blt p q out m n/\0<m/\m<=p.size/\1<n/\n<=q.size/\m+n<b
 | .yield (none,m,n,out,_)=>HI blt p q out m n/\0<m/\m<=p.size/\1<n/\n<=q.size/\m+n<b
 | .yield (some _,_)=>False
theorem nI(C:Cmp prog w A s kd Ok blt){p q out:Array Keyed}{x0 y0 xl:Keyed}(T:Two Ok blt p q x0 y0 xl){m n g ac k b:Nat}{st0 st:Bq}(kp:Kept st0 st)(M:HI blt p q out m n)(m0:0<m)(hm:m<=p.size)(n0:1<n)(hn:n<=q.size)(hb:m+n<=b){x:Keyed}(hx:p[m - 1]? = some x)(hq:∀z∈q.toList.reverse.drop (q.size - n),ge blt x z):wpS (model prog w) A E s (zR p q out m n g ac k) (T6 blt p q st0 b) st:=by
 unfold zR
 refine Av (Ew hx ?_)
 have M1:=HI.pushX C T M m0 hm hx hq
 by_cases h1:m - 1=0
 ·rw[if_pos (by rw[h1]; rfl)]
  exact Bb ⟨kp,T.dn_end M1 (by omega) hn (.inl h1)⟩
 ·rw[if_neg (λz=>h1 (Dn z))]
  by_cases h2:(decide (ac<7) && decide (k<7))=true
  ·rw[if_pos h2]
   exact Bb ⟨kp,M1,by omega,by omega,n0,hn,by omega⟩
  ·rw[if_neg h2]
   exact Bb ⟨kp,M1,by omega,by omega,n0,hn,by omega⟩
theorem mP(C:Cmp prog w A s kd Ok blt){p q out:Array Keyed}{x0 y0 xl:Keyed}(T:Two Ok blt p q x0 y0 xl){m n g ac bc b:Nat}{st0 st:Bq}(kp:Kept st0 st)(hk:kindOf st=kd)(M:HI blt p q out m n)(m0:0<m)(hm:m<=p.size)(n0:1<n)(hn:n<=q.size)(hb:m+n<=b){x y:Keyed}(hx:p[m - 1]? = some x)(hy:q[n - 1]? = some y)(hxy:le blt x y):wpS (model prog w) A E s (xU p q out m n g ac bc) (T6 blt p q st0 b) st:=by
 unfold xU
 refine Av (Ew hy ?_)
 have M1:=HI.pushY C T M (by omega) hn hy (Qn C T.sp m0 hm hx hxy)
 by_cases h1:n - 1=1
 ·rw[if_pos (by rw[h1]; rfl)]
  exact Bb ⟨kp,T.fs_end C M1 hm h1 (by omega)⟩
 rw[if_neg (λz=>h1 (Dn z))]
 refine Av (Ew hx ?_)
 have val:∀i yy,q[i]? = some yy->q.getD (0+i) y=yy:=λi yy e=>by rw[Ge]; simp [Bj,e]
 have R:Row Ok q 0 (n - 1) (λi=>q.getD (0+i) y):=⟨λi hi=>by
  obtain ⟨ya,ea⟩:=Fc (p:=q) (i:=i) (by omega)
  rw[val i ya ea,Ge,ea],λi hi=>by
  obtain ⟨ya,ea⟩:=Fc (p:=q) (i:=i) (by omega)
  show Ok (q.getD (0+i) y)
  rw[val i ya ea]
  exact T.oq ya (Iq ea)⟩
 refine Av (Mg C R (T.op x (Iq hx)) hk (by omega) (λa c hab hc q1=>?_) λt ht t1 t2=>?_)
 ·obtain ⟨ya,ea⟩:=Fc (p:=q) (i:=a) (by omega)
  obtain ⟨yc,ec⟩:=Fc (p:=q) (i:=c) (by omega)
  simp only[val a ya ea,val c yc ec,Fx,if_true] at q1 ⊢
  exact C.leLt (Jq C T.sq hab (Dw ea) (Dw ec)) q1
 dsimp only
 have M2:HI blt p q (out.push y++(q.extract t (n - 1)).reverse) m t:=by
  have:=MI.blockY M1 (Io T.sq) (n - 1 - t) (by rw[List.length_reverse,Ae]; omega) (λi hi yy ey=>by
   have e1:q[n - 1 - i - 1]? = some yy:=by
    rw[Rg (by rw[Ae]; omega),Ae,show q.size - 1 - (q.size - (n - 1)+i)=n - 1 - i - 1 by omega] at ey
    simpa using ey
   have:=t2 (n - 1 - i - 1) (by omega) (by omega)
   rw[val _ yy e1] at this
   have z:blt yy x=false:=by simpa only [Fx,if_true] using this
   exact Qn C T.sp m0 hm hx z)
  rw[<- X7 q (by omega) (by omega),<- Dj,show q.size - (n - 1)+(n - 1 - t)=q.size - t by omega] at this
  exact this
 -- what is left of q is below x
 have below:∀z∈q.toList.reverse.drop (q.size - t),ge blt x z:=λz hz=>by
  rw[Ip q (by omega)] at hz
  obtain ⟨k,hk',e⟩:=Fp.mp (Pi.mp hz)
  rw[Da] at hk'
  have e2:q.toList[k]? = some z:=by
   rw[<- e,<- Bu (by rw[Da]; exact hk'),Fl (by omega)]
  have e3:q[k]? = some z:=by simpa using e2
  have:=t1 k (by omega)
  rw[val k z e3] at this
  exact C.ofLt (by simpa only [Fx,if_true] using this)
 by_cases h2:n - 1 - t > 0
 ·rw[if_pos h2]
  by_cases h3:t=1
  ·rw[if_pos (by rw[h3]; rfl)]
   exact Bb ⟨kp,T.fs_end C M2 hm h3 (by omega)⟩
  ·rw[if_neg (λz=>h3 (Dn z))]
   by_cases h4:t=0
   ·rw[if_pos (by rw[h4]; rfl)]
    exact Bb ⟨kp,T.dn_end M2 hm (by omega) (.inr h4)⟩
   ·rw[if_neg (λz=>h4 (Dn z))]
    exact nI C T kp M2 m0 hm (by omega) (by omega) (by omega) hx below
 ·rw[if_neg h2]
  have et:t=n - 1:=by omega
  rw[et] at below
  exact nI C T kp M1 m0 hm (by omega) (by omega) (by omega) hx below
theorem yP(C:Cmp prog w A s kd Ok blt){p q out:Array Keyed}{x0 y0 xl:Keyed}(T:Two Ok blt p q x0 y0 xl){m n g ac bc b:Nat}{st0 st:Bq}(kp:Kept st0 st)(hk:kindOf st=kd)(M:HI blt p q out m n)(m0:0<m)(hm:m<=p.size)(n0:1<n)(hn:n<=q.size)(hb:m+n<=b):wpS (model prog w) A E s (C2 p q out m n g ac bc) (T6 blt p q st0 b) st:=by
 unfold C2
 refine Av (Qp λst1 kp1=>?_)
 have kp':=kp.trans kp1
 have hk':kindOf st1=kd:=kp1.kind.trans hk
 obtain ⟨y,hy⟩:=Fc (p:=q) (i:=n - 1) (by omega)
 refine Av (Ew hy ?_)
 have val:∀i xx,p[i]? = some xx->p.getD (0+i) y=xx:=λi xx e=>by rw[Ge]; simp [Bj,e]
 have R:Row Ok p 0 m (λi=>p.getD (0+i) y):=⟨λi hi=>by
  obtain ⟨xa,ea⟩:=Fc (p:=p) (i:=i) (by omega)
  rw[val i xa ea,Ge,ea],λi hi=>by
  obtain ⟨xa,ea⟩:=Fc (p:=p) (i:=i) (by omega)
  show Ok (p.getD (0+i) y)
  rw[val i xa ea]
  exact T.op xa (Iq ea)⟩
 refine Av (Mg C R (T.oq y (Iq hy)) hk' (by omega) (λa c hab hc q1=>?_) λt ht t1 t2=>?_)
 ·obtain ⟨xa,ea⟩:=Fc (p:=p) (i:=a) (by omega)
  obtain ⟨xc,ec⟩:=Fc (p:=p) (i:=c) (by omega)
  simp only[val a xa ea,val c xc ec,Fx,Bo,if_false,Ha] at q1 ⊢
  exact C.trans (Jq C T.sp hab (Dw ea) (Dw ec)) q1
 dsimp only
 have M1:HI blt p q (out++(p.extract t m).reverse) t n:=by
  have:=MI.blockX M (Io T.sp) (m - t) (by rw[List.length_reverse,Ae]; omega) (λi hi xx ex=>by
   have e1:p[m - i - 1]? = some xx:=by
    rw[Rg (by rw[Ae]; omega),Ae,show p.size - 1 - (p.size - m+i)=m - i - 1 by omega] at ex
    simpa using ex
   have:=t2 (m - i - 1) (by omega) (by omega)
   rw[val _ xx e1] at this
   have z:blt y xx=true:=by simpa only [Fx,Bo,if_false,Vi] using this
   exact Qn C T.sq (by omega) hn hy (C.ofLt z))
  rw[<- X7 p (by omega) hm,<- Dj,show p.size - m+(m - t)=p.size - t by omega] at this
  exact this
 have below:∀x,0<t->p[t - 1]? = some x->le blt x y:=λx h0 hx=>by
  have:=t1 (t - 1) (by omega)
  rw[val _ x hx] at this
  have z:blt y x=false:=by simpa only [Fx,Bo,if_false,Ha] using this
  exact z
 by_cases h2:m - t > 0
 ·rw[if_pos h2]
  by_cases h3:t=0
  ·rw[if_pos (by rw[h3]; rfl)]
   exact Bb ⟨kp',T.dn_end M1 (by omega) hn (.inl h3)⟩
  ·rw[if_neg (λz=>h3 (Dn z))]
   obtain ⟨x,hx⟩:=Fc (p:=p) (i:=t - 1) (by omega)
   exact mP C T kp' hk' M1 (by omega) (by omega) n0 hn (by omega) hx hy (below x (by omega) hx)
 ·rw[if_neg h2]
  have et:t=m:=by omega
  subst et
  obtain ⟨x,hx⟩:=Fc (p:=p) (i:=t - 1) (by omega)
  exact mP C T kp' hk' M m0 hm n0 hn hb hx hy (below x m0 hx)
theorem iV(C:Cmp prog w A s kd Ok blt){p q:Array Keyed}{x0 y0 xl:Keyed}(T:Two Ok blt p q x0 y0 xl){st:Bq}(hk:kindOf st=kd){Q:Array Keyed->Bq->Prop}(h:∀r st',Kept st st'->kS blt p q r->Q r st'):wpS (model prog w) A E s (iF p q) Q st:=by
 have p0:0<p.size:=(Gk.mp T.hx0).1
 have q0:0<q.size:=(Gk.mp T.hy0).1
 obtain ⟨yl,hyl⟩:=Fc (p:=q) (i:=q.size - 1) (by omega)
 have M0:HI blt p q #[xl] (p.size - 1) q.size:=by
  have m:HI blt p q #[] p.size q.size:=⟨by simp,by simp,λo ho=>by simp at ho,λo ho=>by simp at ho⟩
  have:=HI.pushX C T m p0 (Ah _) T.hxl (Qn C T.sq q0 (Ah _) hyl (C.ofLt (T.last yl (Iq hyl))))
  simpa using this
 unfold iF
 refine Av (Qv ?_)
 refine Av (Ew T.hxl ?_)
 dsimp only
 by_cases h1:p.size - 1=0
 ·rw[if_pos (by rw[h1]; rfl)]
  exact Bb (h _ _ (Kept.refl _) (T.dn_end M0 (by omega) (by omega) (.inl h1)))
 rw[if_neg (λz=>h1 (Dn z))]
 by_cases h2:q.size=1
 ·rw[if_pos (by rw[h2]; rfl)]
  exact Bb (h _ _ (Kept.refl _) (T.fs_end C M0 (by omega) h2 (by omega)))
 rw[if_neg (λz=>h2 (Dn z))]
 refine Av (Lq ?_)
 refine Av (Gh (Ea
  (I:=λx c st'=>Kept st st'/\∃m n out g,c=(none,m,n,out,g)/\HI blt p q out m n/\0<m/\m<=p.size/\1<n/\n<=q.size/\m+n+x+1<=p.size+q.size)
  (Q:=λc st'=>Kept st st'/\∃r Eo,c=(some r,Eo)/\kS blt p q r) ?_ ?_ ⟨Kept.refl _,_,_,_,_,rfl,M0,by omega,by omega,by omega,by omega,by omega⟩) ?_)
 ·(intro x c st1 _ hx q_; obtain ⟨kp1,m,n,out,g,rfl,M,m0,hm,n0,hn,hb⟩ := q_)
  dsimp only
  -- one by one
  refine Av (Gh (Ea
   (I:=λ_ c st'=>st'=st1/\∃m n out ac bc,c=(none,m,n,out,ac,bc)/\HI blt p q out m n/\0<m/\m<=p.size/\1<n/\n<=q.size/\m+n+x+1<=p.size+q.size)
   (Q:=λc st'=>st'=st1/\((∃r Eo,c=(some r,Eo)/\kS blt p q r)\/∃m n out ac bc,c=(none,m,n,out,ac,bc)/\HI blt p q out m n/\0<m/\m<=p.size/\1<n/\n<=q.size/\m+n+x+1<=p.size+q.size)) ?_ ?_ ⟨rfl,m,n,out,0,0,rfl,M,m0,hm,n0,hn,hb⟩) ?_)
  ·(intro z c st2 _ hz q_; obtain ⟨rfl,m,n,out,ac,bc,rfl,M,m0,hm,n0,hn,hb⟩ := q_)
   dsimp only
   obtain ⟨yy,hy⟩:=Fc (p:=q) (i:=n - 1) (by omega)
   obtain ⟨xx,hx⟩:=Fc (p:=p) (i:=m - 1) (by omega)
   refine Av (Ew hy ?_)
   refine Av (Ew hx ?_)
   refine Av (gX C (kp1.kind.trans hk) (T.oq yy (Iq hy)) (T.op xx (Iq hx)) ?_)
   dsimp only
   cases hlt:blt yy xx with
   | true =>
    rw[if_pos rfl]
    refine Av (Ew hx ?_)
    have M1:=HI.pushX C T M m0 hm hx (Qn C T.sq (by omega) hn hy (C.ofLt hlt))
    by_cases e1:m - 1=0
    ·rw[if_pos (by rw[e1]; rfl)]
     exact Bb ⟨rfl,.inl ⟨_,_,rfl,T.dn_end M1 (by omega) hn (.inl e1)⟩⟩
    ·rw[if_neg (λz=>e1 (Dn z))]
     split
     ·exact Bb ⟨rfl,.inr ⟨_,_,_,_,_,rfl,M1,by omega,by omega,n0,hn,by omega⟩⟩
     ·exact Bb ⟨rfl,_,_,_,_,_,rfl,M1,by omega,by omega,n0,hn,by omega⟩
   | false =>
    rw[if_neg Cm]
    refine Av (Ew hy ?_)
    have M1:=HI.pushY C T M (by omega) hn hy (Qn C T.sp m0 hm hx hlt)
    by_cases e1:n - 1=1
    ·rw[if_pos (by rw[e1]; rfl)]
     exact Bb ⟨rfl,.inl ⟨_,_,rfl,T.fs_end C M1 hm e1 (by omega)⟩⟩
    ·rw[if_neg (λz=>e1 (Dn z))]
     split
     ·exact Bb ⟨rfl,.inr ⟨_,_,_,_,_,rfl,M1,m0,hm,by omega,by omega,by omega⟩⟩
     ·exact Bb ⟨rfl,_,_,_,_,_,rfl,M1,m0,hm,by omega,by omega,by omega⟩
  ·(intro c st2 q_; obtain ⟨rfl,m,n,out,ac,bc,rfl,M⟩ := q_)
   exact ⟨rfl,.inr ⟨m,n,out,ac,bc,rfl,M⟩⟩
  ·rintro c st2 ⟨rfl,hc⟩
   rcases hc with hc | hc
   ·obtain ⟨r,Eo,rfl,hr⟩:=hc
    exact Bb ⟨kp1,r,_,rfl,hr⟩
   ·obtain ⟨m,n,out,ac,bc,rfl,M,m0,hm,n0,hn,hb⟩:=hc
    dsimp only
    refine Av (Qv ?_)
    -- the gallop
    refine Av (Gh (Ea
     (I:=λy c st'=>Kept st st'/\∃m n out g ac bc,c=(none,m,n,out,g,ac,bc)/\HI blt p q out m n/\0<m/\m<=p.size/\1<n/\n<=q.size/\(if y=0 then m+n+x+1<=p.size+q.size else m+n+x+2<=p.size+q.size))
     (Q:=λc st'=>Kept st st'/\((∃r Eo,c=(some r,Eo)/\kS blt p q r)\/∃m n out g ac bc,c=(none,m,n,out,g,ac,bc)/\HI blt p q out m n/\0<m/\m<=p.size/\1<n/\n<=q.size/\m+n+x+2<=p.size+q.size)) ?_ ?_
     ⟨kp1,m,n,out,_,ac,bc,rfl,M,m0,hm,n0,hn,by rw[if_pos rfl]; exact hb⟩) ?_)
    ·(intro y c Re _ hy q_; obtain ⟨kp3,m,n,out,g,ac,bc,rfl,M,m0,hm,n0,hn,hb⟩ := q_)
     have hb':m+n+x+1<=p.size+q.size:=by split at hb <;> omega
     have key:∀g',wpS (model prog w) A E s (C2 p q out m n g' ac bc) (T6 blt p q st (m+n)) Re:=λg'=>yP C T kp3 (kp3.kind.trans hk) M m0 hm n0 hn (Ah _)
     dsimp only
     refine Gh (?_:wpS (model prog w) A E s _ (T6 blt p q st (m+n)) Re) λr st4 hr=>?_
     ·by_cases hg:g > 1
      ·rw[if_pos hg]
       exact key _
      ·rw[if_neg hg]
       exact key _
     ·obtain ⟨kp4,hr⟩:=hr
      match r,hr with
      | .done (some r,Eo),hr=>exact ⟨kp4,.inl ⟨r,Eo,rfl,hr⟩⟩
      | .done (none,m',n',out',g',ac',bc'),hr=>exact ⟨kp4,.inr ⟨m',n',out',g',ac',bc',rfl,hr.1,hr.2.1,hr.2.2.1,hr.2.2.2.1,hr.2.2.2.2.1,by have:=hr.2.2.2.2.2; omega⟩⟩
      | .yield (none,m',n',out',g',ac',bc'),hr=>exact ⟨kp4,m',n',out',g',ac',bc',rfl,hr.1,hr.2.1,hr.2.2.1,hr.2.2.2.1,hr.2.2.2.2.1,by rw[if_neg (by omega)]; have:=hr.2.2.2.2.2; omega⟩
    ·(intro c Re q_; obtain ⟨kp3,m,n,out,g,ac,bc,rfl,M,m0,hm,n0,hn,hb⟩ := q_)
     rw[if_neg (by omega)] at hb
     exact ⟨kp3,.inr ⟨m,n,out,g,ac,bc,rfl,M,m0,hm,n0,hn,hb⟩⟩
    ·rintro c Re ⟨kp3,hc⟩
     rcases hc with hc | hc
     ·obtain ⟨r,Eo,rfl,hr⟩:=hc
      exact Bb ⟨kp3,r,_,rfl,hr⟩
     ·obtain ⟨m,n,out,g,ac,bc,rfl,M,m0,hm,n0,hn,hb⟩:=hc
      dsimp only
      refine Av (Qp λst4 kp4=>?_)
      exact Bb ⟨kp3.trans kp4,m,n,out,_,rfl,M,m0,hm,n0,hn,by omega⟩
 ·(intro c st1 q_; obtain ⟨kp1,m,n,out,g,rfl,M,m0,hm,n0,hn,hb⟩ := q_)
  exfalso
  have : max 0 (p.size+q.size)=p.size+q.size:=by omega
  rw[this] at hb
  omega
 ·(intro c st1 q_; obtain ⟨kp1,r,Eo,rfl,hr⟩ := q_)
  exact Bb (h r st1 kp1 hr)
end
def aN:Nat->Nat->StateT Bq Sem (Option Nat):=sortPriv% PySem.Builtin.countRun
def Vq:Nat->Nat->Nat->StateT Bq Sem Bool:=sortPriv% PySem.Builtin.binarySort
def X(xs:Array Keyed)(i:Nat):Keyed:=xs[i]?.getD (Pl,Pl)
theorem Wc{xs:Array Keyed}{i:Nat}(h:i<xs.size):xs[i]? = some (X xs i):=by
 unfold X
 rw[getElem?_pos xs i h]
 rfl
theorem On{xs ys:Array Keyed}{i j:Nat}(h:xs[i]? = ys[j]?):X xs i=X ys j:=by unfold X; rw[h]
theorem Pw{xs:Array Keyed}{i j:Nat}(hj:j<=xs.size)(k:Nat):X (mirror xs i j ((j - i) / 2)) k=if i<=k/\k<j then X xs (i+j - 1 - k) else X xs k:=by
 have e:=getElem?_mirror_all (i:=i) hj k
 by_cases h:i<=k/\k<j
 ·rw[if_pos h] at e ⊢; exact On e
 ·rw[if_neg h] at e ⊢; exact On e
theorem vF{xs:Array Keyed}{src d:Nat}(hs:src<xs.size)(hd:d<=src)(k:Nat):X (bubble xs src d) k=if k=src - d then X xs src else if src - d<k/\k<=src then X xs (k - 1) else X xs k:=by
 have e:=getElem?_bubble hs d hd k
 by_cases h1:k=src - d
 ·rw[if_pos h1] at e ⊢; exact On e
 ·rw[if_neg h1] at e ⊢
  by_cases h2:src - d<k/\k<=src
  ·rw[if_pos h2] at e ⊢; exact On e
  ·rw[if_neg h2] at e ⊢; exact On e
def Qa(blt:Keyed->Keyed->Bool)(xs:Array Keyed)(a b:Nat):Prop:=∀i j,a<=i->i<=j->j<b->le blt (X xs i) (X xs j)
def qJ(blt:Keyed->Keyed->Bool)(xs:Array Keyed)(a b:Nat):Prop:=∀i j,a<=i->i<=j->j<b->le blt (X xs j) (X xs i)
structure Good(kd:Ku)(a₀:Array Keyed)(pend:Array (Nat×Nat×Nat))(st:Bq):Prop where
 kind:kindOf st=kd
 fail:Kt st=none
 perm:(arrOf st).Perm a₀
 pd:Az st=pend
def eD(xs ys:Array Keyed)(a b:Nat):Prop:=∀i,(i<a\/b<=i)->X ys i=X xs i
theorem eD.refl(xs:Array Keyed)(a b:Nat):eD xs xs a b:=λ_ _=>rfl
theorem eD.trans{xs ys zs:Array Keyed}{a b:Nat}(h:eD xs ys a b)(k:eD ys zs a b):eD xs zs a b:=λi hi=>(k i hi).trans (h i hi)
section
variable{prog:Be}{w:World}{A:Co}{s:Ag}{kd:Ku}{Ok:Keyed->Prop}{blt:Keyed->Keyed->Bool}{E:Value->Ag->Prop}{a₀:Array Keyed}{pend:Array (Nat×Nat×Nat)}
theorem Good.size{st:Bq}(g:Good kd a₀ pend st):(arrOf st).size=a₀.size:=g.perm.size_eq
theorem Good.okX{st:Bq}(g:Good kd a₀ pend st)(h0:∀x∈a₀.toList,Ok x){i:Nat}(hi:i<a₀.size):Ok (X (arrOf st) i):=by
 have e:=Wc (xs:=arrOf st) (i:=i) (by rw[g.size]; exact hi)
 exact h0 _ ((Nk.mp g.perm).mem_iff.mp (Iq e))
theorem Good.set{st:Bq}(g:Good kd a₀ pend st){xs:Array Keyed}(h:xs.Perm (arrOf st)):Good kd a₀ pend (setArr st xs):=⟨g.kind,g.fail,h.trans g.perm,g.pd⟩
theorem Sj(C:Cmp prog w A s kd Ok blt){st:Bq}(g:Good kd a₀ pend st)(h0:∀x∈a₀.toList,Ok x){i j:Nat}(hi:i<a₀.size)(hj:j<a₀.size){Q:Option Bool->Bq->Prop}(h:Q (some (blt (X (arrOf st) i) (X (arrOf st) j))) st):wpS (model prog w) A E s (ltAt' i j) Q st:=by
 rw[ltAt'_eq]
 refine Av (Lq ?_)
 refine Av (Ew (Wc (by rw[g.size]; exact hi)) ?_)
 refine Av (Ew (Wc (by rw[g.size]; exact hj)) ?_)
 exact gX C g.kind (g.okX h0 hi) (g.okX h0 hj) h
theorem Ou{st:Bq}{i j:Nat}{Q:Unit->Bq->Prop}(h:Q () (setArr st (mirror (arrOf st) i j ((j - i) / 2)))):wpS (model prog w) A E s (Qx i j) Q st:=by
 rw[reverseSlice'_eq]
 exact Iv h
def P6(lo a b:Nat):StateT Bq Sem (Option (Option Nat)×Nat) :=
 forIn [a:b] ((none,a):Option (Option Nat)×Nat) λ_ c=>do
  let some fK <- ltAt' (lo+c.2) (lo+c.2 - 1) | pure (Cr (some none,c.2))
  if fK=true then pure (Cr (none,c.2)) else pure (Ey (none,c.2+1))
theorem rN(C:Cmp prog w A s kd Ok blt){st:Bq}(g:Good kd a₀ pend st)(h0:∀x∈a₀.toList,Ok x){lo a b:Nat}(hb:lo+b<=a₀.size)(ha:1<=a)(hab:a<=b)(h1:Qa blt (arrOf st) lo (lo+a)){Q:Option (Option Nat)×Nat->Bq->Prop}(h:∀n,a<=n->n<=b->Qa blt (arrOf st) lo (lo+n)->(n=b\/blt (X (arrOf st) (lo+n)) (X (arrOf st) (lo+n - 1))=true)->Q (none,n) st):wpS (model prog w) A E s (P6 lo a b) Q st:=by
 unfold P6
 refine Ea (I:=λx c st'=>st'=st/\c=(none,x)/\Qa blt (arrOf st) lo (lo+x)) ?_ ?_ ⟨rfl,rfl,h1⟩
 ·(intro x c st' hx1 hx2 q_; obtain ⟨rfl,rfl,hs⟩ := q_)
  dsimp only
  refine Av (Sj C g h0 (by omega) (by omega) ?_)
  dsimp only
  cases hl:blt (X (arrOf st') (lo+x)) (X (arrOf st') (lo+x - 1)) with
  | true =>
   rw[if_pos rfl]
   exact Bb (h x hx1 (by omega) hs (.inr hl))
  | false =>
   rw[if_neg Cm]
   refine Bb ⟨rfl,rfl,λi j hi hij hj=>?_⟩
   by_cases hjx:j<lo+x
   ·exact hs i j hi hij hjx
   ·have ej:j=lo+x:=by omega
    subst ej
    by_cases hi':i=lo+x
    ·subst hi'; exact C.refl _
    ·exact C.trans (hs i (lo+x - 1) hi (by omega) (by omega)) hl
 ·(intro c st' q_; obtain ⟨rfl,rfl,hs⟩ := q_)
  rw[show max a b=b by omega] at hs ⊢
  exact h b hab (Ah _) hs (.inl rfl)
theorem jD{xs:Array Keyed}{lo n:Nat}(hn:lo+n<=xs.size)(h:qJ blt xs lo (lo+n)):Qa blt (mirror xs lo (lo+n) ((lo+n - lo) / 2)) lo (lo+n):=λi j hi hij hj=>by
 rw[Pw hn,Pw hn,if_pos (by omega),if_pos (by omega)]
 exact h _ _ (by omega) (by omega) (by omega)
theorem Ve{xs:Array Keyed}{lo n b e:Nat}(hn:lo+n<=xs.size)(he:e<=lo+n)(hb:lo<=b)(h:qJ blt xs lo (lo+n))(eqv:∀i j,b<=i->i<e->b<=j->j<e->le blt (X xs i) (X xs j)):qJ blt (mirror xs b e ((e - b) / 2)) lo (lo+n):=λi j hi hij hj=>by
 rw[Pw (by omega),Pw (by omega)]
 by_cases h1:b<=j/\j<e
 ·rw[if_pos h1]
  by_cases h2:b<=i/\i<e
  ·rw[if_pos h2]
   exact eqv _ _ (by omega) (by omega) (by omega) (by omega)
  ·rw[if_neg h2]
   exact h _ _ hi (by omega) (by omega)
 ·rw[if_neg h1]
  by_cases h2:b<=i/\i<e
  ·rw[if_pos h2]
   exact h _ _ (by omega) (by omega) (by omega)
  ·rw[if_neg h2]
   exact h i j hi hij hj
theorem Oq{xs:Array Keyed}{a b i j:Nat}(h1:a<=i)(h2:j<=b)(h3:j<=xs.size):eD xs (mirror xs i j ((j - i) / 2)) a b:=λk hk=>by
 rw[Pw h3,if_neg (by omega)]
def tS(lo n b:Nat):StateT Bq Sem (Option Nat):=do
 Qx lo (lo+n)
 let mut m:=n
 for _ in [n:b] do
  let some fK <- ltAt' (lo+m) (lo+m - 1) | return none
  if fK then break
  m:=m+1
 return some m
theorem lY(C:Cmp prog w A s kd Ok blt){st:Bq}(g:Good kd a₀ pend st)(h0:∀x∈a₀.toList,Ok x){lo n b:Nat}(hb:lo+b<=a₀.size)(hn:1<=n)(hnb:n<=b)(h1:qJ blt (arrOf st) lo (lo+n)){Q:Option Nat->Bq->Prop}(h:∀m st',Good kd a₀ pend st'->1<=m->m<=b->Qa blt (arrOf st') lo (lo+m)->eD (arrOf st) (arrOf st') lo (lo+b)->Q (some m) st'):wpS (model prog w) A E s (tS lo n b) Q st:=by
 unfold tS
 have hsz:lo+n<=(arrOf st).size:=by rw[g.size]; omega
 refine Av (Ou ?_)
 have g':Good kd a₀ pend (setArr st (mirror (arrOf st) lo (lo+n) ((lo+n - lo) / 2))):=g.set (mirror_perm _ _ _ _)
 refine Av (rN C g' h0 hb hn hnb (jD hsz h1) λm hm1 hm2 hs _=>?_)
 exact Bb (h m _ g' (by omega) hm2 hs (Oq (Ah _) (by omega) hsz))
abbrev J1:=Option (Option Nat)×Nat×Nat
def T4(lo a b:Nat):StateT Bq Sem J1 :=
 forIn [a:b] ((none,a,0):J1) λ_ c=>do
  let some fK <- ltAt' (lo+c.2.1) (lo+c.2.1 - 1) | pure (Cr (some none,c.2.1,c.2.2))
  if fK=true then
   if c.2.2 > 0 then do
    Qx (lo+c.2.1 - (c.2.2+1)) (lo+c.2.1)
    pure (Ey (none,c.2.1+1,0))
   else pure (Ey (none,c.2.1+1,0))
  else do
   let some more <- ltAt' (lo+c.2.1 - 1) (lo+c.2.1) | pure (Cr (some none,c.2.1,c.2.2))
   if more=true then pure (Cr (none,c.2.1,c.2.2)) else pure (Ey (none,c.2.1+1,c.2.2+1))
def yL(blt:Keyed->Keyed->Bool)(xs:Array Keyed)(lo n e:Nat):Prop:=e+1<=n/\∀i j,lo+n - (e+1)<=i->i<lo+n->lo+n - (e+1)<=j->j<lo+n->le blt (X xs i) (X xs j)
theorem sD(C:Cmp prog w A s kd Ok blt){xs:Array Keyed}{lo n:Nat}(h:1<=n):yL blt xs lo n 0:=⟨by omega,λi j i1 i2 j1 j2=>by
 have e:i=j:=by omega
 subst e
 exact C.refl _⟩
theorem Tt(C:Cmp prog w A s kd Ok blt){xs:Array Keyed}{lo n:Nat}(hn:1<=n)(h:qJ blt xs lo (lo+n))(hl:le blt (X xs (lo+n)) (X xs (lo+n - 1))):qJ blt xs lo (lo+(n+1)):=λi j hi hij hj=>by
 by_cases hjx:j<lo+n
 ·exact h i j hi hij hjx
 ·have ej:j=lo+n:=by omega
  subst ej
  by_cases hi':i=lo+n
  ·subst hi'; exact C.refl _
  ·exact C.trans hl (h i (lo+n - 1) hi (by omega) (by omega))
theorem wZ(C:Cmp prog w A s kd Ok blt){st:Bq}(g:Good kd a₀ pend st)(h0:∀x∈a₀.toList,Ok x){lo a b:Nat}(hb:lo+b<=a₀.size)(ha:1<=a)(hab:a<=b)(h1:qJ blt (arrOf st) lo (lo+a)){Q:J1->Bq->Prop}(h:∀n e st',Good kd a₀ pend st'->a<=n->n<=b->qJ blt (arrOf st') lo (lo+n)->yL blt (arrOf st') lo n e->eD (arrOf st) (arrOf st') lo (lo+b)->Q (none,n,e) st'):wpS (model prog w) A E s (T4 lo a b) Q st:=by
 unfold T4
 refine Ea (I:=λx c st'=>∃e,c=(none,x,e)/\Good kd a₀ pend st'/\qJ blt (arrOf st') lo (lo+x)/\yL blt (arrOf st') lo x e/\eD (arrOf st) (arrOf st') lo (lo+b)) ?_ ?_
  ⟨0,rfl,g,h1,sD C ha,eD.refl _ _ _⟩
 ·(intro x c st' hx1 hx2 q_; obtain ⟨e,rfl,g',hs,lk,ou⟩ := q_)
  have hsz:(arrOf st').size=a₀.size:=g'.size
  dsimp only
  refine Av (Sj C g' h0 (by omega) (by omega) ?_)
  dsimp only
  cases hl:blt (X (arrOf st') (lo+x)) (X (arrOf st') (lo+x - 1)) with
  | true =>
   rw[if_pos rfl]
   have d1:=Tt C (by omega) hs (C.ofLt hl)
   have one:∀ys:Array Keyed,yL blt ys lo (x+1) 0:=λys=>⟨by omega,λi j i1 i2 j1 j2=>by
    have : i=j:=by omega
    subst this
    exact C.refl _⟩
   by_cases he:e > 0
   ·rw[if_pos he]
    refine Av (Ou ?_)
    refine Bb ⟨0,rfl,g'.set (mirror_perm _ _ _ _),?_,one _,ou.trans (Oq (by have:=lk.1; omega) (by omega) (by omega))⟩
    exact Ve (by omega) (by omega) (by have:=lk.1; omega) d1 λi j i1 i2 j1 j2=>lk.2 i j i1 i2 j1 j2
   ·rw[if_neg he]
    exact Bb ⟨0,rfl,g',d1,one _,ou⟩
  | false =>
   rw[if_neg Cm]
   refine Av (Sj C g' h0 (by omega) (by omega) ?_)
   dsimp only
   cases hm:blt (X (arrOf st') (lo+x - 1)) (X (arrOf st') (lo+x)) with
   | true =>
    rw[if_pos rfl]
    exact Bb (h x e st' g' hx1 (by omega) hs lk ou)
   | false =>
    rw[if_neg Cm]
    refine Bb ⟨e+1,rfl,g',Tt C (by omega) hs hm,⟨by have:=lk.1; omega,λi j i1 i2 j1 j2=>?_⟩,ou⟩
    have l1:le blt (X (arrOf st') (lo+x - 1)) (X (arrOf st') (lo+x)):=hl
    have l2:le blt (X (arrOf st') (lo+x)) (X (arrOf st') (lo+x - 1)):=hm
    by_cases ei:i=lo+x
    ·by_cases ej:j=lo+x
     ·rw[ei,ej]; exact C.refl _
     ·rw[ei]
      exact C.trans l2 (lk.2 (lo+x - 1) j (by omega) (by omega) (by omega) (by omega))
    ·by_cases ej:j=lo+x
     ·rw[ej]
      exact C.trans (lk.2 i (lo+x - 1) (by omega) (by omega) (by omega) (by omega)) l1
     ·exact lk.2 i j (by omega) (by omega) (by omega) (by omega)
 ·(intro c st' q_; obtain ⟨e,rfl,g',hs,lk,ou⟩ := q_)
  rw[show max a b=b by omega] at hs lk ⊢
  exact h b e st' g' hab (Ah _) hs lk ou
def q9(lo n b:Nat):StateT Bq Sem (Option Nat):=do
 liftM (rule "list.sort.descending-run")
 let mut m:=n+1
 let mut e:=0
 for _ in [m:b] do
  let some fK <- ltAt' (lo+m) (lo+m - 1) | return none
  if fK then
   if e > 0 then Qx (lo+m - (e+1)) (lo+m)
   e:=0
  else
   let some more <- ltAt' (lo+m - 1) (lo+m) | return none
   if more then break
   e:=e+1
  m:=m+1
 if e > 0 then Qx (lo+m - (e+1)) (lo+m)
 tS lo m b
theorem nE(C:Cmp prog w A s kd Ok blt){st:Bq}(g:Good kd a₀ pend st)(h0:∀x∈a₀.toList,Ok x){lo n b:Nat}(hb:lo+b<=a₀.size)(hnb:n+1<=b)(h1:qJ blt (arrOf st) lo (lo+(n+1))){Q:Option Nat->Bq->Prop}(h:∀m st',Good kd a₀ pend st'->1<=m->m<=b->Qa blt (arrOf st') lo (lo+m)->eD (arrOf st) (arrOf st') lo (lo+b)->Q (some m) st'):wpS (model prog w) A E s (q9 lo n b) Q st:=by
 unfold q9
 refine Av (Qv ?_)
 refine Av (wZ C g h0 hb (by omega) hnb h1 λk e st1 g1 k1 k2 d1 lk ou=>?_)
 dsimp only
 have hsz:(arrOf st1).size=a₀.size:=g1.size
 by_cases he:e > 0
 ·rw[if_pos he]
  refine Av (Ou ?_)
  refine lY C (g1.set (mirror_perm _ _ _ _)) h0 hb (by omega) k2 (Ve (by omega) (by omega) (by have:=lk.1; omega) d1 λi j i1 i2 j1 j2=>lk.2 i j i1 i2 j1 j2) λm st2 g2 m1 m2 as ou2=>?_
  exact h m st2 g2 m1 m2 as ((ou.trans (Oq (by have:=lk.1; omega) (by omega) (by omega))).trans ou2)
 ·rw[if_neg he]
  exact lY C g1 h0 hb (by omega) k2 d1 λm st2 g2 m1 m2 as ou2=>h m st2 g2 m1 m2 as (ou.trans ou2)
theorem sF(C:Cmp prog w A s kd Ok blt){st:Bq}(g:Good kd a₀ pend st)(h0:∀x∈a₀.toList,Ok x){lo b:Nat}(hb:lo+b<=a₀.size)(b1:1<=b){Q:Option Nat->Bq->Prop}(h:∀m st',Good kd a₀ pend st'->1<=m->m<=b->Qa blt (arrOf st') lo (lo+m)->eD (arrOf st) (arrOf st') lo (lo+b)->Q (some m) st'):wpS (model prog w) A E s (aN lo b) Q st:=by
 unfold aN
 have hsz:(arrOf st).size=a₀.size:=g.size
 refine Av (rN C g h0 hb (Ah _) b1 (λi j i1 i2 j1=>by
  have : i=j:=by omega
  subst this
  exact C.refl _) λn n1 n2 hs hor=>?_)
 dsimp only
 by_cases e:n=b
 ·rw[if_pos (by rw[e]; exact beq_self_eq_true _)]
  exact Bb (h n st g n1 n2 hs (eD.refl _ _ _))
 rw[if_neg (λz=>e (Dn z))]
 have hlt:blt (X (arrOf st) (lo+n)) (X (arrOf st) (lo+n - 1))=true:=hor.resolve_left e
 by_cases hg:n > 1
 ·rw[if_pos hg]
  refine Av (Sj C g h0 (by omega) (by omega) ?_)
  dsimp only
  cases hr:blt (X (arrOf st) lo) (X (arrOf st) (lo+n - 1)) with
  | true =>
   rw[if_pos rfl]
   exact Bb (h n st g n1 n2 hs (eD.refl _ _ _))
  | false =>
   rw[if_neg Cm]
   refine Av (Ou ?_)
   -- all of it are alike
   have like:∀i j,lo<=i->i<lo+n->lo<=j->j<lo+n->le blt (X (arrOf st) i) (X (arrOf st) j):=λi j i1 i2 j1 j2 =>
    C.trans (hs i (lo+n - 1) i1 (by omega) (by omega)) (C.trans hr (hs lo j (Ah _) j1 j2))
   have d1:qJ blt (arrOf st) lo (lo+(n+1)):=Tt C n1 (λi j i1 i2 j1=>like j i (by omega) j1 i1 (by omega)) (C.ofLt hlt)
   exact nE C (g.set (mirror_perm _ _ _ _)) h0 hb (by omega) (Ve (by omega) (by omega) (Ah _) d1 like) λm st2 g2 m1 m2 as ou2=>h m st2 g2 m1 m2 as ((Oq (Ah _) (by omega) (by omega)).trans ou2)
 ·rw[if_neg hg]
  have en:n=1:=by omega
  subst en
  have d1:qJ blt (arrOf st) lo (lo+(1+1)):=Tt C (Ah _) (λi j i1 i2 j1=>by
   have : i=j:=by omega
   subst this
   exact C.refl _) (C.ofLt hlt)
  exact nE C g h0 hb (by omega) d1 h
end
def Tx:Nat->StateT Bq Sem Bool:=sortPriv% PySem.Builtin.mergeAt
section
variable{prog:Be}{w:World}{A:Co}{s:Ag}{kd:Ku}{Ok:Keyed->Prop}{blt:Keyed->Keyed->Bool}{E:Value->Ag->Prop}{a₀:Array Keyed}{pend:Array (Nat×Nat×Nat)}
theorem fU{st:Bq}{i j:Nat}{Q:Unit->Bq->Prop}(h:Q () (setArr st (bubble (arrOf st) i (i - j)))):wpS (model prog w) A E s (moveDown' i j) Q st:=by
 rw[moveDown'_eq]
 exact Iv h
theorem oY(C:Cmp prog w A s kd Ok blt){st:Bq}(g:Good kd a₀ pend st)(h0:∀x∈a₀.toList,Ok x){lo n ok:Nat}(hb:lo+n<=a₀.size)(h1:Qa blt (arrOf st) lo (lo+ok))(hok:ok<=n){Q:Bool->Bq->Prop}(h:∀st',Good kd a₀ pend st'->Qa blt (arrOf st') lo (lo+n)->eD (arrOf st) (arrOf st') lo (lo+n)->Q true st'):wpS (model prog w) A E s (Vq lo n ok) Q st:=by
 unfold Vq
 refine Av (Gh (Ea
  (I:=λk c st'=>c=(none,())/\Good kd a₀ pend st'/\Qa blt (arrOf st') lo (lo+k)/\eD (arrOf st) (arrOf st') lo (lo+n))
  (Q:=λc st'=>c=(none,())/\Good kd a₀ pend st'/\Qa blt (arrOf st') lo (lo+n)/\eD (arrOf st) (arrOf st') lo (lo+n)) ?_ ?_ ⟨rfl,g,?_,eD.refl _ _ _⟩) ?_)
 ·(intro k c st1 hk1 hk2 q_; obtain ⟨rfl,g1,hs,ou⟩ := q_)
  have hsz:(arrOf st1).size=a₀.size:=g1.size
  dsimp only
  refine Av (Gh (Ea
   (I:=λy c st'=>st'=st1/\∃l r,c=(none,l,r)/\l<=r/\r<=k/\r - l+y<=k/\(∀i,i<l->le blt (X (arrOf st1) (lo+i)) (X (arrOf st1) (lo+k)))/\(∀i,r<=i->i<k->blt (X (arrOf st1) (lo+k)) (X (arrOf st1) (lo+i))=true))
   (Q:=λc st'=>st'=st1/\∃l,c=(none,l,l)/\l<=k/\(∀i,i<l->le blt (X (arrOf st1) (lo+i)) (X (arrOf st1) (lo+k)))/\(∀i,l<=i->i<k->blt (X (arrOf st1) (lo+k)) (X (arrOf st1) (lo+i))=true)) ?_ ?_
   ⟨rfl,0,k,rfl,by omega,by omega,by omega,λi hi=>by omega,λi h1 h2=>by omega⟩) ?_)
  ·(intro y c st2 _ hy q_; obtain ⟨rfl,l,r,rfl,a1,a2,a3,b1,b2⟩ := q_)
   dsimp only
   by_cases hlr:l ≥ r
   ·rw[if_pos hlr]
    have e:l=r:=by omega
    subst e
    exact Bb ⟨rfl,l,rfl,a2,b1,b2⟩
   ·rw[if_neg hlr]
    refine Av (Sj C g1 h0 (by omega) (by omega) ?_)
    dsimp only
    cases hl:blt (X (arrOf st2) (lo+k)) (X (arrOf st2) (lo+(l+r) / 2)) with
    | true =>
     rw[if_pos rfl]
     exact Bb ⟨rfl,l,(l+r) / 2,rfl,by omega,by omega,by omega,b1,λi i1 i2=>C.ltLe hl (hs _ _ (by omega) (by omega) (by omega))⟩
    | false =>
     rw[if_neg Cm]
     exact Bb ⟨rfl,(l+r) / 2+1,r,rfl,by omega,a2,by omega,λi hi=>C.trans (hs _ _ (by omega) (by omega) (by omega)) hl,b2⟩
  ·(intro c st2 q_; obtain ⟨rfl,l,r,rfl,a1,a2,a3,b1,b2⟩ := q_)
   have : max 0 k=k:=by omega
   rw[this] at a3
   have e:l=r:=by omega
   subst e
   exact ⟨rfl,l,rfl,a2,b1,b2⟩
  ·(intro c st2 q_; obtain ⟨rfl,l,rfl,a2,b1,b2⟩ := q_)
   dsimp only
   refine Av (fU ?_)
   have xb:=λi=>vF (xs:=arrOf st2) (src:=lo+k) (d:=lo+k - (lo+l)) (by omega) (by omega) i
   have ed:lo+k - (lo+k - (lo+l))=lo+l:=by omega
   refine Bb ⟨rfl,g1.set (bubble_perm _ _ _),λi j i1 i2 j1=>?_,ou.trans λi hi=>?_⟩
   ·show le blt (X (bubble (arrOf st2) (lo+k) (lo+k - (lo+l))) i) (X (bubble (arrOf st2) (lo+k) (lo+k - (lo+l))) j)
    rw[xb,xb,ed]
    by_cases e1:i=lo+l
    ·rw[if_pos e1]
     by_cases e2:j=lo+l
     ·rw[if_pos e2]; exact C.refl _
     ·rw[if_neg e2]
      by_cases e3:lo+l<j/\j<=lo+k
      ·rw[if_pos e3]
       have:=b2 (j - 1 - lo) (by omega) (by omega)
       rw[show lo+(j - 1 - lo)=j - 1 by omega] at this
       exact C.ofLt this
      ·exfalso; omega
    ·rw[if_neg e1]
     by_cases e2:j=lo+l
     ·rw[if_pos e2,if_neg (by omega)]
      have:=b1 (i - lo) (by omega)
      rw[show lo+(i - lo)=i by omega] at this
      exact this
     ·rw[if_neg e2]
      by_cases e3:lo+l<i/\i<=lo+k
      ·rw[if_pos e3,if_pos (by omega)]
       exact hs _ _ (by omega) (by omega) (by omega)
      ·rw[if_neg e3]
       by_cases e4:lo+l<j/\j<=lo+k
       ·rw[if_pos e4]
        exact hs _ _ (by omega) (by omega) (by omega)
       ·rw[if_neg e4]
        exact hs _ _ (by omega) (by omega) (by omega)
   ·show X (bubble (arrOf st2) (lo+k) (lo+k - (lo+l))) i=X (arrOf st2) i
    rw[xb,ed,if_neg (by omega),if_neg (by omega)]
 ·(intro c st1 q_; obtain ⟨rfl,g1,hs,ou⟩ := q_)
  refine ⟨rfl,g1,λi j i1 i2 j1=>hs i j i1 i2 (by omega),ou⟩
 ·intro i j i1 i2 j1
  by_cases e:i=j
  ·subst e; exact C.refl _
  ·exact h1 i j i1 i2 (by omega)
 ·(intro c st1 q_; obtain ⟨rfl,g1,hs,ou⟩ := q_)
  exact Bb (h st1 g1 hs ou)
end
abbrev Ml(xs:Array Keyed)(b:Nat)(l:List (Keyed×Nat)):Array Keyed:=l.foldl (λa x=>match x with | (p,j)=>a.setIfInBounds (b+j) p) xs
theorem Zh(b:Nat):∀(l:List Keyed) (o:Nat) (xs:Array Keyed),b+o+l.length<=xs.size->(Ml xs b (l.zipIdx o)).size=xs.size/\∀i:Nat,(Ml xs b (l.zipIdx o))[i]? = if b+o<=i/\i<b+o+l.length then l[i - (b+o)]? else xs[i]?
 | [],o,xs,_=>⟨rfl,λi=>by rw[if_neg (by rw[Ig]; omega)]; rfl⟩
 | x::l,o,xs,h=>by
  rw[Ba] at h
  have ih:=Zh b l (o+1) (xs.setIfInBounds (b+o) x) (by rw[Jx]; omega)
  have e:Ml xs b ((x::l).zipIdx o)=Ml (xs.setIfInBounds (b+o) x) b (l.zipIdx (o+1)):=by
   rw[List.zipIdx_cons]
   rfl
  rw[e]
  refine ⟨ih.1.trans (Jx),λi=>?_⟩
  rw[ih.2 i,Ba]
  by_cases h1:b+(o+1)<=i/\i<b+(o+1)+l.length
  ·rw[if_pos h1,if_pos (by omega)]
   rw[show i - (b+o)=(i - (b+(o+1)))+1 by omega,List.getElem?_cons_succ]
  ·rw[if_neg h1]
   by_cases h2:i=b+o
   ·subst h2
    rw[if_pos (by omega),Array.getElem?_setIfInBounds_self_of_lt (by omega),Nat.sub_self]
    rfl
   ·rw[if_neg (by omega),Array.getElem?_setIfInBounds_ne (by omega)]
theorem jX{xs m:Array Keyed}{b n:Nat}(hb:b+n<=xs.size)(hn:m.size=n)(hp:m.toList.Perm ((xs.toList.drop b).take n)):(Ml xs b m.toList.zipIdx).Perm xs:=by
 have ha:=Zh b m.toList 0 xs (by rw[Ae]; omega)
 have e:(Ml xs b m.toList.zipIdx).toList=xs.toList.take b++(m.toList++xs.toList.drop (b+n)):=by
  apply Gy
  intro i
  have h1:=ha.2 i
  rw[Ae,hn] at h1
  have h2:(Ml xs b m.toList.zipIdx).toList[i]? = (Ml xs b m.toList.zipIdx)[i]?:=by simp
  rw[h2,h1]
  have lt:(xs.toList.take b).length=b:=by rw[Da,Ae]; omega
  by_cases c1:i<b
  ·rw[if_neg (by omega),Gq (by omega),Fl c1]
   simp
  ·rw[Fd (by omega),lt]
   by_cases c2:i<b+n
   ·rw[if_pos (by omega),Gq (by rw[Ae]; omega)]
    congr 1
   ·rw[if_neg (by omega),Fd (by rw[Ae]; omega),Vh,Ae]
    rw[show b+n+(i - b - m.size)=i by omega]
    simp
 refine Array.perm_iff_toList_perm.mpr ?_
 rw[e]
 have e2:xs.toList=xs.toList.take b++((xs.toList.drop b).take n++xs.toList.drop (b+n)):=by
  conv=>lhs; rw[<- Iu b xs.toList]
  congr 1
  conv=>lhs; rw[<- Iu n (xs.toList.drop b)]
  rw[List.drop_drop]
 conv=>rhs; rw[e2]
 exact Hs _ (List.Perm.append_right _ hp)
theorem Va{xs:Array Keyed}{a n:Nat}(h:a+n<=xs.size){i:Nat}(hi:i<n):(xs.extract a (a+n))[i]? = some (X xs (a+i)):=by
 rw[Array.getElem?_extract,if_pos (by omega)]
 exact Wc (by omega)
theorem Pt{xs:Array Keyed}{a n:Nat}(h:a+n<=xs.size):(xs.extract a (a+n)).size=n:=by
 rw[Array.size_extract]
 omega
theorem Sv{xs:Array Keyed}{a n:Nat}(h:a+n<=xs.size){x:Keyed}(hx:x∈(xs.extract a (a+n)).toList):∃i,i<n/\x=X xs (a+i):=by
 obtain ⟨i,hi,e⟩:=Fp.mp hx
 rw[Ae,Pt h] at hi
 refine ⟨i,hi,?_⟩
 have h1:=Va h hi
 have h2:(xs.extract a (a+n)).toList[i]? = some x:=by rw[<- e,<- Bu]
 rw[Ed,h1] at h2
 exact (Ck h2).symm
section
variable{prog:Be}{w:World}{A:Co}{s:Ag}{kd:Ku}{Ok:Keyed->Prop}{blt:Keyed->Keyed->Bool}{E:Value->Ag->Prop}{a₀:Array Keyed}{pend:Array (Nat×Nat×Nat)}
theorem Xw(C:Cmp prog w A s kd Ok blt){xs:Array Keyed}{a n c d:Nat}(h:a+n<=xs.size)(hs:Qa blt xs c d)(h1:c<=a)(h2:a+n<=d):(xs.extract a (a+n)).toList.Pairwise (le blt):=by
 rw[Dl]
 intro i j hi hj hij
 rw[Ae,Pt h] at hi hj
 have e1:(xs.extract a (a+n)).toList[i]? = some (X xs (a+i)):=by rw[Ed]; exact Va h hi
 have e2:(xs.extract a (a+n)).toList[j]? = some (X xs (a+j)):=by rw[Ed]; exact Va h hj
 obtain ⟨_,f1⟩:=Ak.mp e1
 obtain ⟨_,f2⟩:=Ak.mp e2
 rw[f1,f2]
 exact hs _ _ (by omega) (by omega) (by omega)
theorem gR(C:Cmp prog w A s kd Ok blt){xs:Array Keyed}{a b c:Nat}(hab:a<b)(h1:Qa blt xs a b)(h2:Qa blt xs b c)(h:le blt (X xs (b - 1)) (X xs b)):Qa blt xs a c:=λi j i1 i2 j1=>by
 by_cases e1:j<b
 ·exact h1 i j i1 i2 e1
 ·by_cases e2:b<=i
  ·exact h2 i j e2 i2 j1
  ·exact C.trans (h1 i (b - 1) i1 (by omega) (by omega)) (C.trans h (h2 b j (Ah _) (by omega) j1))
structure Good0(kd:Ku)(a₀:Array Keyed)(st:Bq):Prop where
 kind:kindOf st=kd
 fail:Kt st=none
 perm:(arrOf st).Perm a₀
theorem Good0.size{st:Bq}(g:Good0 kd a₀ st):(arrOf st).size=a₀.size:=g.perm.size_eq
theorem Good0.okX{st:Bq}(g:Good0 kd a₀ st)(h0:∀x∈a₀.toList,Ok x){i:Nat}(hi:i<a₀.size):Ok (X (arrOf st) i):=by
 have e:=Wc (xs:=arrOf st) (i:=i) (by rw[g.size]; exact hi)
 exact h0 _ ((Nk.mp g.perm).mem_iff.mp (Iq e))
theorem rH{st:Bq}(g:Good0 kd a₀ st)(h0:∀x∈a₀.toList,Ok x){b n:Nat}(h:b+n<=a₀.size):Row Ok (arrOf st) b n (λi=>X (arrOf st) (b+i)) :=
 ⟨λi hi=>Wc (by rw[g.size]; omega),λi hi=>g.okX h0 (by omega)⟩
theorem M9{st st':Bq}{Q:Unit->Bq->Prop}(h:Q () st'):wpS (model prog w) A E s (set st':StateT Bq Sem Unit) Q st:=by
 unfold wpS
 rw[StateT.run_set]
 exact Aj ⟨rfl,h⟩
theorem kU(C:Cmp prog w A s kd Ok blt){st:Bq}(g:Good0 kd a₀ st)(h0:∀x∈a₀.toList,Ok x){i sa na pa sb nb pb:Nat}(hi:(Az st)[i]? = some (sa,na,pa))(hj:(Az st)[i+1]? = some (sb,nb,pb))(e1:sb=sa+na)(n1:1<=na)(n2:1<=nb)(hz:sb+nb<=a₀.size)(s1:Qa blt (arrOf st) sa sb)(s2:Qa blt (arrOf st) sb (sb+nb)){Q:Bool->Bq->Prop}(h:∀st',Good0 kd a₀ st'->Az st'=((Az st).setIfInBounds i (sa,na+nb,pa)).eraseIdxIfInBounds (i+1)->Qa blt (arrOf st') sa (sb+nb)->eD (arrOf st) (arrOf st') sa (sb+nb)->Q true st'):wpS (model prog w) A E s (Tx i) Q st:=by
 have hsz:(arrOf st).size=a₀.size:=g.size
 unfold Tx
 refine Av (Lq ?_)
 rw[hi,hj]
 dsimp only
 refine Av (M9 ?_)
 refine Av (Ew (Wc (xs:=arrOf st) (i:=sb) (by rw[hsz]; omega)) ?_)
 show wpS (model prog w) A E s _ _ (SortSt.mk' (kindOf st) (arrOf st) (((Az st).setIfInBounds i (sa,na+nb,pa)).eraseIdxIfInBounds (i+1)) (gallopOf st) (Kt st))
 generalize hst1:SortSt.mk' (kindOf st) (arrOf st) (((Az st).setIfInBounds i (sa,na+nb,pa)).eraseIdxIfInBounds (i+1)) (gallopOf st) (Kt st)=st1
 have k1:kindOf st1=kd:=by rw[<- hst1]; exact g.kind
 have ar1:arrOf st1=arrOf st:=by rw[<- hst1]
 have pd1:Az st1=((Az st).setIfInBounds i (sa,na+nb,pa)).eraseIdxIfInBounds (i+1):=by rw[<- hst1]
 have fl1:Kt st1=none:=by rw[<- hst1]; exact g.fail
 have g1:Good0 kd a₀ st1:=⟨k1,fl1,by rw[ar1]; exact g.perm⟩
 have same:Good0 kd a₀ st1->Qa blt (arrOf st) sa (sb+nb)->Q true st1:=λgg as=>h st1 gg pd1 (by rw[ar1]; exact as) (by rw[ar1]; exact eD.refl _ _ _)
 refine Av (Mg C (hint:=0) (n:=na) (rH g h0 (b:=sa) (n:=na) (by omega)) (g.okX h0 (i:=sb) (by omega)) k1 (by omega) (λa c hac hc q1=>?_) λk kn t1 t2=>?_)
 ·simp only[Fx,Bo,if_false,Ha] at q1 ⊢
  exact C.trans (s1 _ _ (by omega) (by omega) (by omega)) q1
 dsimp only
 have f1:∀m,m<k->le blt (X (arrOf st) (sa+m)) (X (arrOf st) sb):=λm hm=>by
  have:=t1 m hm
  have z:blt (X (arrOf st) sb) (X (arrOf st) (sa+m))=false:=by simpa only [Fx,Bo,if_false,Ha] using this
  exact z
 by_cases c1:na - k=0
 ·rw[if_pos (by rw[c1]; rfl)]
  refine Bb (same g1 (gR C (by omega) s1 s2 ?_))
  have:=f1 (na - 1) (by omega)
  rw[show sa+(na - 1)=sb - 1 by omega] at this
  exact this
 rw[if_neg (λz=>c1 (Dn z))]
 have f2:blt (X (arrOf st) sb) (X (arrOf st) (sa+k))=true:=by
  have:=t2 k (Ah _) (by omega)
  simpa only [Fx,Bo,if_false,Vi] using this
 have el:sa+k+(na - k) - 1=sb - 1:=by omega
 rw[el]
 refine Av (Ew (Wc (xs:=arrOf st) (i:=sb - 1) (by rw[hsz]; omega)) ?_)
 refine Av (Mg C (hint:=nb - 1) (n:=nb) (rH g h0 (b:=sb) (n:=nb) (by omega)) (g.okX h0 (i:=sb - 1) (by omega)) k1 (by omega) (λa c hac hc q1=>?_) λl ln u1 u2=>?_)
 ·simp only[Fx,if_true] at q1 ⊢
  exact C.leLt (s2 _ _ (by omega) (by omega) (by omega)) q1
 dsimp only
 have f3:∀m,m<l->blt (X (arrOf st) (sb+m)) (X (arrOf st) (sb - 1))=true:=λm hm=>by
  have:=u1 m hm
  simpa only [Fx,if_true] using this
 have f4:∀m,l<=m->m<nb->le blt (X (arrOf st) (sb - 1)) (X (arrOf st) (sb+m)):=λm h1 h2=>by
  have:=u2 m h1 h2
  have z:blt (X (arrOf st) (sb+m)) (X (arrOf st) (sb - 1))=false:=by simpa only [Fx,if_true] using this
  exact z
 by_cases c2:l=0
 ·rw[if_pos (by rw[c2]; rfl)]
  subst c2
  exact Bb (same g1 (gR C (by omega) s1 s2 (f4 0 (Ah _) (by omega))))
 rw[if_neg (λz=>c2 (Dn z))]
 have ep:(arrOf st).extract (sa+k) sb=(arrOf st).extract (sa+k) (sa+k+(na - k)):=by rw[show sa+k+(na - k)=sb by omega]
 rw[ep]
 have hp:sa+k+(na - k)<=(arrOf st).size:=by omega
 have hq:sb+l<=(arrOf st).size:=by omega
 have T:Two Ok blt ((arrOf st).extract (sa+k) (sa+k+(na - k))) ((arrOf st).extract sb (sb+l)) (X (arrOf st) (sa+k)) (X (arrOf st) sb) (X (arrOf st) (sb - 1)):=by
  refine ⟨λx hx=>?_,λx hx=>?_,Xw C hp s1 (by omega) (by omega),Xw C hq s2 (by omega) (by omega),?_,?_,?_,f2,λy hy=>?_⟩
  ·obtain ⟨m,hm,rfl⟩:=Sv hp hx
   exact g.okX h0 (by omega)
  ·obtain ⟨m,hm,rfl⟩:=Sv hq hx
   exact g.okX h0 (by omega)
  ·exact Va hp (by omega)
  ·exact Va hq (by omega)
  ·rw[Pt hp,Va hp (by omega),show sa+k+(na - k - 1)=sb - 1 by omega]
  ·obtain ⟨m,hm,rfl⟩:=Sv hq hy
   exact f3 m hm
 -- kJ the merge
 have fin:∀(r:Array Keyed) (st2:Bq),Kept st1 st2->kS blt ((arrOf st).extract (sa+k) (sa+k+(na - k))) ((arrOf st).extract sb (sb+l)) r ->
   Q (Kt (setArr st2 (Ml (arrOf st2) (sa+k) r.toList.zipIdx))).isNone (setArr st2 (Ml (arrOf st2) (sa+k) r.toList.zipIdx)):=by
  intro r st2 kp hr
  have ar2:arrOf st2=arrOf st:=kp.arr.trans ar1
  have fl2:Kt st2=none:=kp.fail.trans fl1
  have rsz:r.size=na - k+l:=by
   have:=hr.1.length_eq
   rw[Bn,Ae,Ae,Ae,Pt hp,Pt hq] at this
   exact this
  have seg:((arrOf st).toList.drop (sa+k)).take (na - k+l)=((arrOf st).extract (sa+k) (sa+k+(na - k))).toList++((arrOf st).extract sb (sb+l)).toList:=by
   rw[Tp,Tp,List.take_add,List.drop_drop,show sa+k+(na - k)=sb by omega]
  have pa':=Zh (sa+k) r.toList 0 (arrOf st) (by rw[Ae]; omega)
  have xat:∀m,X (Ml (arrOf st) (sa+k) r.toList.zipIdx) m=if sa+k<=m/\m<sb+l then X r (m - (sa+k)) else X (arrOf st) m:=λm=>by
   have:=pa'.2 m
   rw[Ae,rsz,Nat.add_zero] at this
   by_cases hm:sa+k<=m/\m<sb+l
   ·rw[if_pos hm]
    rw[if_pos (by omega)] at this
    refine On (this.trans ?_)
    simp
   ·rw[if_neg hm]
    rw[if_neg (by omega)] at this
    exact On this
  -- each thing of the merged is one of the two runs'
  have from2:∀m,m<na - k+l->(∃c,sa+k<=c/\c<sb/\X r m=X (arrOf st) c)\/(∃c,sb<=c/\c<sb+l/\X r m=X (arrOf st) c):=λm hm=>by
   have hx:=Iq (Wc (xs:=r) (i:=m) (by omega))
   rcases Ay.mp (hr.1.mem_iff.mp hx) with z | z
   ·obtain ⟨c,hc,e⟩:=Sv hp z
    exact .inl ⟨sa+k+c,by omega,by omega,e⟩
   ·obtain ⟨c,hc,e⟩:=Sv hq z
    exact .inr ⟨sb+c,by omega,by omega,e⟩
  have rs:∀m n,m<=n->n<na - k+l->le blt (X r m) (X r n):=λm n hmn hn=>Jq C hr.2 hmn (Dw (Wc (by omega))) (Dw (Wc (by omega)))
  have e3:Kt (setArr st2 (Ml (arrOf st2) (sa+k) r.toList.zipIdx))=none:=fl2
  rw[e3]
  refine h _ ⟨kp.kind.trans k1,e3,?_⟩ (kp.pend.trans pd1) ?_ ?_
  ·show (Ml (arrOf st2) (sa+k) r.toList.zipIdx).Perm a₀
   rw[ar2]
   refine (jX (by omega) rsz ?_).trans g.perm
   rw[seg]
   exact hr.1
  ·show Qa blt (Ml (arrOf st2) (sa+k) r.toList.zipIdx) sa (sb+nb)
   rw[ar2]
   intro c d c1 cd d1
   rw[xat,xat]
   by_cases zc:sa+k<=c/\c<sb+l
   ·rw[if_pos zc]
    by_cases zd:sa+k<=d/\d<sb+l
    ·rw[if_pos zd]
     exact rs _ _ (by omega) (by omega)
    ·rw[if_neg zd]
     rcases from2 (c - (sa+k)) (by omega) with ⟨b,b1,b2,e⟩ | ⟨b,b1,b2,e⟩
     ·rw[e]
      refine C.trans (s1 b (sb - 1) (by omega) (by omega) (by omega)) ?_
      have:=f4 (d - sb) (by omega) (by omega)
      rw[show sb+(d - sb)=d by omega] at this
      exact this
     ·rw[e]
      exact s2 b d b1 (by omega) (by omega)
   ·rw[if_neg zc]
    by_cases zd:sa+k<=d/\d<sb+l
    ·rw[if_pos zd]
     rcases from2 (d - (sa+k)) (by omega) with ⟨b,b1,b2,e⟩ | ⟨b,b1,b2,e⟩
     ·rw[e]
      exact s1 c b c1 (by omega) b2
     ·rw[e]
      have:=f1 (c - sa) (by omega)
      rw[show sa+(c - sa)=c by omega] at this
      exact C.trans this (s2 sb b (Ah _) b1 (by omega))
    ·rw[if_neg zd]
     by_cases y1:d<sb
     ·exact s1 c d c1 cd y1
     ·by_cases y2:sb<=c
      ·exact s2 c d y2 cd d1
      ·have:=f1 (c - sa) (by omega)
       rw[show sa+(c - sa)=c by omega] at this
       exact C.trans this (s2 sb d (Ah _) (by omega) d1)
  ·show eD (arrOf st) (Ml (arrOf st2) (sa+k) r.toList.zipIdx) sa (sb+nb)
   rw[ar2]
   intro m hm
   rw[xat,if_neg (by omega)]
 by_cases c3:na - k<=l
 ·rw[if_pos c3]
  refine Av (kY C T k1 λr st2 kp hr=>?_)
  exact Av (Iv (Av (Lq (Bb (fin r st2 kp hr)))))
 ·rw[if_neg c3]
  refine Av (iV C T k1 λr st2 kp hr=>?_)
  exact Av (Iv (Av (Lq (Bb (fin r st2 kp hr)))))
end
def bA:StateT Bq Sem Unit:=sortPriv% PySem.Builtin.sortRuns
def Runs(blt:Keyed->Keyed->Bool)(xs:Array Keyed):List (Nat×Nat×Nat)->Nat->Nat->Prop
 | [],a,b=>a=b
 | (s,n,_)::r,a,b=>s=a/\1<=n/\Qa blt xs a (a+n)/\Runs blt xs r (a+n) b
variable{blt:Keyed->Keyed->Bool}
theorem Runs.len{xs:Array Keyed}:∀{l:List (Nat×Nat×Nat)} {a b:Nat},Runs blt xs l a b->a+l.length<=b
 | [],a,b,h=>by
  have e:a=b:=h
  rw[Ig]
  omega
 | (s,n,p)::r,a,b,h=>by
  have:=Runs.len h.2.2.2
  have:=h.2.1
  rw[Ba]
  omega
theorem Qa.out{xs ys:Array Keyed}{a b c d:Nat}(h:Qa blt xs a b)(o:eD xs ys c d)(e:b<=c\/d<=a):Qa blt ys a b:=λi j i1 i2 j1=>by
 rw[o i (by omega),o j (by omega)]
 exact h i j i1 i2 j1
theorem Runs.out{xs ys:Array Keyed}{c d:Nat}(o:eD xs ys c d):∀{l:List (Nat×Nat×Nat)} {a b:Nat},(b<=c\/d<=a)->Runs blt xs l a b->Runs blt ys l a b
 | [],_,_,_,h=>h
 | (s,n,p)::r,a,b,e,h=>by
  have hl:=Runs.len h.2.2.2
  exact ⟨h.1,h.2.1,h.2.2.1.out o (by omega),Runs.out o (by omega) h.2.2.2⟩
theorem Runs.push{xs:Array Keyed}{m q:Nat}(hm:1<=m):∀{l:List (Nat×Nat×Nat)} {a b:Nat},Runs blt xs l a b->Qa blt xs b (b+m)->Runs blt xs (l++[(b,m,q)]) a (b+m)
 | [],a,b,h,hs=>by
  have e:a=b:=h
  subst e
  exact ⟨rfl,hm,hs,rfl⟩
 | (s,n,p)::r,a,b,h,hs=>⟨h.1,h.2.1,h.2.2.1,Runs.push hm h.2.2.2 hs⟩
theorem Runs.power{xs:Array Keyed}{pw:Nat}:∀{l:List (Nat×Nat×Nat)} {a b:Nat} (k:Nat),Runs blt xs l a b->Runs blt xs (l.modify k λx=>(x.1,x.2.1,pw)) a b
 | [],_,_,k,h=>by simpa using h
 | (s,n,p)::r,a,b,0,h=>by
  rw[List.modify_zero_cons]
  exact h
 | (s,n,p)::r,a,b,k+1,h=>by
  rw[List.modify_succ_cons]
  exact ⟨h.1,h.2.1,h.2.2.1,Runs.power k h.2.2.2⟩
theorem Runs.two{xs:Array Keyed}:∀{l:List (Nat×Nat×Nat)} {a b i sa na pa sb nb pb:Nat},Runs blt xs l a b->l[i]? = some (sa,na,pa)->l[i+1]? = some (sb,nb,pb)->sb=sa+na/\1<=na/\1<=nb/\a<=sa/\sb+nb<=b/\Qa blt xs sa sb/\Qa blt xs sb (sb+nb)
 | [],_,_,_,_,_,_,_,_,_,_,h,_=>by simp at h
 | (s,n,p)::r,a,b,0,sa,na,pa,sb,nb,pb,h,h1,h2=>by
  obtain ⟨e,hn,hs,hr⟩:=h
  have q:s=sa/\n=na/\p=pa:=by simpa using h1
  obtain ⟨q1,q2,q3⟩:=q
  subst q1 q2 q3
  subst e
  cases r with
  | nil=>simp at h2
  | cons y r' =>
   obtain ⟨s',n',p'⟩:=y
   have q':s'=sb/\n'=nb/\p'=pb:=by simpa using h2
   obtain ⟨q1,q2,q3⟩:=q'
   subst q1 q2 q3
   obtain ⟨e',hn',hs',hr'⟩:=hr
   have:=Runs.len hr'
   exact ⟨e',hn,hn',Ah _,by omega,by rw[e']; exact hs,by rw[e']; exact hs'⟩
 | (s,n,p)::r,a,b,i+1,sa,na,pa,sb,nb,pb,h,h1,h2=>by
  have:=Runs.two h.2.2.2 (by simpa using h1) (by simpa using h2)
  exact ⟨this.1,this.2.1,this.2.2.1,by have:=this.2.2.2.1; have:=h.2.1; omega,this.2.2.2.2.1,this.2.2.2.2.2⟩
theorem Runs.merge{xs ys:Array Keyed}:∀{l:List (Nat×Nat×Nat)} {a b i sa na pa sb nb pb:Nat},Runs blt xs l a b->l[i]? = some (sa,na,pa)->l[i+1]? = some (sb,nb,pb)->eD xs ys sa (sb+nb)->Qa blt ys sa (sb+nb)->Runs blt ys ((l.set i (sa,na+nb,pa)).eraseIdx (i+1)) a b
 | [],_,_,_,_,_,_,_,_,_,_,h,_,_,_=>by simp at h
 | (s,n,p)::r,a,b,0,sa,na,pa,sb,nb,pb,h,h1,h2,o,as=>by
  have tw:=Runs.two h h1 h2
  obtain ⟨e,hn,hs,hr⟩:=h
  have q:s=sa/\n=na/\p=pa:=by simpa using h1
  obtain ⟨q1,q2,q3⟩:=q
  subst q1 q2 q3
  subst e
  cases r with
  | nil=>simp at h2
  | cons y r' =>
   obtain ⟨s',n',p'⟩:=y
   have q':s'=sb/\n'=nb/\p'=pb:=by simpa using h2
   obtain ⟨q1,q2,q3⟩:=q'
   subst q1 q2 q3
   obtain ⟨e',hn',hs',hr'⟩:=hr
   rw[List.set_cons_zero,Pj,List.eraseIdx_cons_zero]
   refine ⟨rfl,by omega,?_,?_⟩
   ·rw[show s+(n+n')=s'+n' by omega]
    exact as
   ·rw[show s+(n+n')=s+n+n' by omega]
    exact Runs.out o (.inr (by omega)) hr'
 | (s,n,p)::r,a,b,i+1,sa,na,pa,sb,nb,pb,h,h1,h2,o,as=>by
  have tw:=Runs.two (i:=i) h.2.2.2 (by simpa using h1) (by simpa using h2)
  rw[List.set_cons_succ,Pj]
  exact ⟨h.1,h.2.1,h.2.2.1.out o (.inl tw.2.2.2.1),Runs.merge h.2.2.2 (by simpa using h1) (by simpa using h2) o as⟩
theorem bN(P:Array (Nat×Nat×Nat))(i:Nat)(v:Nat×Nat×Nat):((P.setIfInBounds i v).eraseIdxIfInBounds (i+1)).toList=(P.toList.set i v).eraseIdx (i+1):=by
 rw[Array.toList_eraseIdxIfInBounds,bT]
section
variable{prog:Be}{w:World}{A:Co}{s:Ag}{kd:Ku}{Ok:Keyed->Prop}{E:Value->Ag->Prop}{a₀:Array Keyed}
theorem Nf{α:Type}{c:Prop}[Decidable c]{p q:StateT Bq Sem α}{Q:α->Bq->Prop}{st:Bq}(h1:c->wpS (model prog w) A E s p Q st)(h2:¬ c->wpS (model prog w) A E s q Q st):wpS (model prog w) A E s (if c then p else q) Q st:=by
 by_cases h:c
 ·rw[if_pos h]; exact h1 h
 ·rw[if_neg h]; exact h2 h
theorem cZ(C:Cmp prog w A s kd Ok blt){st:Bq}(g:Good0 kd a₀ st)(h0:∀x∈a₀.toList,Ok x){lo i:Nat}(hlo:lo<=a₀.size)(rn:Runs blt (arrOf st) (Az st).toList 0 lo)(hi:i+1<(Az st).size){Q:Bool->Bq->Prop}(h:∀st',Good0 kd a₀ st'->Runs blt (arrOf st') (Az st').toList 0 lo->(Az st').size+1=(Az st).size->(∀c d,lo<=c->Qa blt (arrOf st) c d->Qa blt (arrOf st') c d)->Q true st'):wpS (model prog w) A E s (Tx i) Q st:=by
 obtain ⟨⟨sa,na,pa⟩,ha⟩ : ∃x,(Az st)[i]? = some x:=⟨(Az st)[i],by simp⟩
 obtain ⟨⟨sb,nb,pb⟩,hb⟩ : ∃x,(Az st)[i+1]? = some x:=⟨(Az st)[i+1],by simp⟩
 have la:(Az st).toList[i]? = some (sa,na,pa):=by simpa using ha
 have lb:(Az st).toList[i+1]? = some (sb,nb,pb):=by simpa using hb
 obtain ⟨t1,t2,t3,t4,t5,t6,t7⟩:=rn.two la lb
 refine kU C g h0 ha hb t1 t2 t3 (by omega) t6 t7 λst' g' pd as ou=>?_
 refine h st' g' ?_ ?_ λc d hc hs=>hs.out ou (.inr (by omega))
 ·rw[pd,bN]
  exact rn.merge la lb ou as
 ·have : (Az st').toList.length+1=(Az st).toList.length:=by
   rw[pd,bN,List.length_eraseIdx,List.length_set,Ae,if_pos hi]
   omega
  simpa using this
theorem xA{st:Bq}(g:Good0 kd a₀ st):Good kd a₀ (Az st) st:=⟨g.kind,g.fail,g.perm,rfl⟩
theorem eT{st:Bq}{p:Array (Nat×Nat×Nat)}(g:Good kd a₀ p st):Good0 kd a₀ st:=⟨g.kind,g.fail,g.perm⟩
theorem qD(C:Cmp prog w A s kd Ok blt){st:Bq}(g:Good0 kd a₀ st)(h0:∀x∈a₀.toList,Ok x)(hp:Az st=#[])(hz:1<=a₀.size){Q:Unit->Bq->Prop}(h:∀st',Good0 kd a₀ st'->Qa blt (arrOf st') 0 a₀.size->Q () st'):wpS (model prog w) A E s bA Q st:=by
 unfold bA
 refine Av (Lq ?_)
 have hsz:(arrOf st).size=a₀.size:=g.size
 dsimp only
 rw[hsz]
 generalize (sortPriv% PySem.Builtin.minRun) a₀.size a₀.size 0=mr
 refine Av (Gh (Ea
  (I:=λx c st'=>∃lo,c=(none,lo)/\Good0 kd a₀ st'/\Runs blt (arrOf st') (Az st').toList 0 lo/\lo<=a₀.size/\x<=lo)
  (Q:=λc st'=>c=(none,a₀.size)/\Good0 kd a₀ st'/\Runs blt (arrOf st') (Az st').toList 0 a₀.size) ?_ ?_ ⟨0,rfl,g,by rw[hp]; exact rfl,by omega,by omega⟩) ?_)
 ·(intro x c st1 _ hx q_; obtain ⟨lo,rfl,g1,rn,hlo,hxl⟩ := q_)
  dsimp only
  by_cases hge:lo ≥ a₀.size
  ·rw[if_pos hge]
   have e:lo=a₀.size:=by omega
   subst e
   exact Bb ⟨rfl,g1,rn⟩
  rw[if_neg hge]
  refine Av (sF C (xA g1) h0 (lo:=lo) (b:=a₀.size - lo) (by omega) (by omega) λm st2 g2 m1 m2 as ou=>?_)
  dsimp only
  have rn2:Runs blt (arrOf st2) (Az st2).toList 0 lo:=by
   rw[g2.pd]
   exact rn.out ou (.inl (Ah _))
  have g2':=eT g2
  clear rn g1
  refine Nf (λhmin=>?_) (λhmin=>?_)
  ·refine Av (Qv ?_)
   refine Av (oY C g2 h0 (lo:=lo) (n:=min (a₀.size - lo) mr) (ok:=m) (by omega) as (by omega) λRe g3 as3 ou3=>?_)
   refine Nf (λz=>absurd z (by decide)) (λ_=>?_)
   have n1:1<=min (a₀.size - lo) mr:=by omega
   have n2:lo+min (a₀.size - lo) mr<=a₀.size:=by omega
   have rn3:Runs blt (arrOf Re) (Az Re).toList 0 lo:=by
    rw[g3.pd,<- g2.pd]
    exact rn2.out ou3 (.inl (Ah _))
   have g3':=eT g3
   generalize min (a₀.size - lo) mr=n at as3 n1 n2
   clear g2 g2' rn2 as ou ou3 g3 m1 m2 hmin
   refine Av (Lq ?_)
   cases hb:(Az Re).back? with
   | none =>
    dsimp only
    refine Av (Iv ?_)
    refine Bb ⟨lo+n,rfl,⟨g3'.kind,g3'.fail,g3'.perm⟩,?_,n2,by omega⟩
    show Runs blt (arrOf Re) ((Az Re).push (lo,n,0)).toList 0 (lo+n)
    rw[Fu]
    exact rn3.push n1 as3
   | some y =>
    obtain ⟨s1,l1,p1⟩:=y
    dsimp only
    refine Av (Gh (Ea
     (I:=λ_ c st'=>c=(none,())/\Good0 kd a₀ st'/\Runs blt (arrOf st') (Az st').toList 0 lo/\Qa blt (arrOf st') lo (lo+n))
     (Q:=λc st'=>c=(none,())/\Good0 kd a₀ st'/\Runs blt (arrOf st') (Az st').toList 0 lo/\Qa blt (arrOf st') lo (lo+n)) ?_ (λ_ _ z=>z) ⟨rfl,g3',rn3,as3⟩) ?_)
    ·(intro z c st4 _ _ q_; obtain ⟨rfl,g4,rn4,as4⟩ := q_)
     refine Av (Lq ?_)
     by_cases hs1:(Az st4).size > 1
     ·rw[if_pos hs1]
      obtain ⟨⟨a1,b1,older⟩,ho⟩ : ∃x,(Az st4)[(Az st4).size - 2]? = some x:=⟨(Az st4)[(Az st4).size - 2],by simp⟩
      rw[ho]
      dsimp only
      refine Nf (λ_=>Bb ⟨rfl,g4,rn4,as4⟩) (λ_=>?_)
      refine Av (cZ C g4 h0 hlo rn4 (i:=(Az st4).size - 2) (show (Az st4).size - 2+1<(Az st4).size by omega) λst5 g5 rn5 _ keep=>?_)
      refine Nf (λz=>absurd z (by decide)) (λ_=>?_)
      exact Bb ⟨rfl,g5,rn5,keep _ _ (Ah _) as4⟩
     ·rw[if_neg hs1]
      exact Bb ⟨rfl,g4,rn4,as4⟩
    ·(intro c st4 q_; obtain ⟨rfl,g4,rn4,as4⟩ := q_)
     dsimp only
     refine Av (Iv ?_)
     refine Av (Iv ?_)
     refine Bb ⟨lo+n,rfl,⟨g4.kind,g4.fail,g4.perm⟩,?_,n2,by omega⟩
     show Runs blt (arrOf st4) (((Az st4).modify ((Az st4).size - 1) _).push (lo,n,0)).toList 0 (lo+n)
     rw[Fu,Array.toList_modify]
     exact (rn4.power _).push n1 as4
  ·have n2:lo+m<=a₀.size:=by omega
   refine Av (Lq ?_)
   cases hb:(Az st2).back? with
   | none =>
    dsimp only
    refine Av (Iv ?_)
    refine Bb ⟨lo+m,rfl,⟨g2'.kind,g2'.fail,g2'.perm⟩,?_,n2,by omega⟩
    show Runs blt (arrOf st2) ((Az st2).push (lo,m,0)).toList 0 (lo+m)
    rw[Fu]
    exact rn2.push m1 as
   | some y =>
    obtain ⟨s1,l1,p1⟩:=y
    dsimp only
    refine Av (Gh (Ea
     (I:=λ_ c st'=>c=(none,())/\Good0 kd a₀ st'/\Runs blt (arrOf st') (Az st').toList 0 lo/\Qa blt (arrOf st') lo (lo+m))
     (Q:=λc st'=>c=(none,())/\Good0 kd a₀ st'/\Runs blt (arrOf st') (Az st').toList 0 lo/\Qa blt (arrOf st') lo (lo+m)) ?_ (λ_ _ z=>z) ⟨rfl,g2',rn2,as⟩) ?_)
    ·(intro z c st4 _ _ q_; obtain ⟨rfl,g4,rn4,as4⟩ := q_)
     refine Av (Lq ?_)
     by_cases hs1:(Az st4).size > 1
     ·rw[if_pos hs1]
      obtain ⟨⟨a1,b1,older⟩,ho⟩ : ∃x,(Az st4)[(Az st4).size - 2]? = some x:=⟨(Az st4)[(Az st4).size - 2],by simp⟩
      rw[ho]
      dsimp only
      refine Nf (λ_=>Bb ⟨rfl,g4,rn4,as4⟩) (λ_=>?_)
      refine Av (cZ C g4 h0 hlo rn4 (i:=(Az st4).size - 2) (show (Az st4).size - 2+1<(Az st4).size by omega) λst5 g5 rn5 _ keep=>?_)
      refine Nf (λz=>absurd z (by decide)) (λ_=>?_)
      exact Bb ⟨rfl,g5,rn5,keep _ _ (Ah _) as4⟩
     ·rw[if_neg hs1]
      exact Bb ⟨rfl,g4,rn4,as4⟩
    ·(intro c st4 q_; obtain ⟨rfl,g4,rn4,as4⟩ := q_)
     dsimp only
     refine Av (Iv ?_)
     refine Av (Iv ?_)
     refine Bb ⟨lo+m,rfl,⟨g4.kind,g4.fail,g4.perm⟩,?_,n2,by omega⟩
     show Runs blt (arrOf st4) (((Az st4).modify ((Az st4).size - 1) _).push (lo,m,0)).toList 0 (lo+m)
     rw[Fu,Array.toList_modify]
     exact (rn4.power _).push m1 as4
 ·(intro c st1 q_; obtain ⟨lo,rfl,g1,rn,hlo,hxl⟩ := q_)
  have : max 0 a₀.size=a₀.size:=by omega
  rw[this] at hxl
  have e:lo=a₀.size:=by omega
  subst e
  exact ⟨rfl,g1,rn⟩
 ·(intro c st1 q_; obtain ⟨rfl,g1,rn⟩ := q_)
  dsimp only
  have len0:=Runs.len rn
  rw[Ae] at len0
  refine Av (Gh (Ea
   (I:=λx c st'=>c=(none,())/\Good0 kd a₀ st'/\Runs blt (arrOf st') (Az st').toList 0 a₀.size/\((Az st').size<=1\/(Az st').size+x<=a₀.size))
   (Q:=λc st'=>c=(none,())/\Good0 kd a₀ st'/\Runs blt (arrOf st') (Az st').toList 0 a₀.size/\(Az st').size<=1) ?_ ?_ ⟨rfl,g1,rn,.inr (by omega)⟩) ?_)
  ·(intro x c st2 _ hx q_; obtain ⟨rfl,g2,rn2,hs⟩ := q_)
   refine Av (Lq ?_)
   refine Nf (λh1=>Bb ⟨rfl,g2,rn2,h1⟩) (λh1=>?_)
   have h1':¬ (Az st2).size<=1:=h1
   generalize hB:Option.any _ _=bb
   have key:∀i,i+1<(Az st2).size->wpS (model prog w) A E s (Tx i) (λr Re=>r=true/\Good0 kd a₀ Re/\Runs blt (arrOf Re) (Az Re).toList 0 a₀.size/\(Az Re).size+1=(Az st2).size) st2 :=
    λi hi=>cZ C g2 h0 (Ah _) rn2 hi λRe g3 rn3 sz _=>⟨rfl,g3,rn3,sz⟩
   refine Av (Gh (key _ ?_) λr Re ⟨er,g3,rn3,sz⟩=>?_)
   ·cases bb with
    | true=>show (Az st2).size - 2 - 1+1<(Az st2).size; omega
    | false=>show (Az st2).size - 2+1<(Az st2).size; omega
   subst er
   refine Nf (λz=>absurd z (by decide)) (λ_=>?_)
   exact Bb ⟨rfl,g3,rn3,.inr (by omega)⟩
  ·(intro c st2 q_; obtain ⟨rfl,g2,rn2,hs⟩ := q_)
   have : max 0 a₀.size=a₀.size:=by omega
   rw[this] at hs
   exact ⟨rfl,g2,rn2,by omega⟩
  ·(intro c st2 q_; obtain ⟨rfl,g2,rn2,hs⟩ := q_)
   dsimp only
   refine Bb (h st2 g2 ?_)
   generalize hl:(Az st2).toList=l at rn2
   have hll:l.length<=1:=by rw[<- hl,Ae]; exact hs
   match l,rn2,hll with
   | [],rn2,_ =>
    have e:0=a₀.size:=rn2
    omega
   | [(s1,n1,p1)],rn2,_ =>
    obtain ⟨_,_,as,e⟩:=rn2
    have e':0+n1=a₀.size:=e
    rw[e'] at as
    exact as
end
end Ts
namespace Ts
open PySem PyProof.Rows L2
theorem Wq:∀l:List Int,HT.lexLt l l=false
 | []=>rfl
 | x::r=>by rw[HT.lexLt_cons,if_pos rfl]; exact Wq r
theorem Xr:∀{a b c:List Int},HT.lexLt a b=true->HT.lexLt b c=true->HT.lexLt a c=true
 | [],[],_,h,_=>by rw[HT.lexLt_nil_nil] at h; cases h
 | [],_::_,[],_,h=>by rw[HT.lexLt_cons_nil] at h; cases h
 | [],_::_,_::_,_,_=>HT.lexLt_nil_cons _ _
 | _::_,[],_,h,_=>by rw[HT.lexLt_cons_nil] at h; cases h
 | _::_,_::_,[],_,h=>by rw[HT.lexLt_cons_nil] at h; cases h
 | x::a,y::b,z::c,h1,h2=>by
  rw[HT.lexLt_cons] at h1 h2 ⊢
  by_cases e1:x=y
  ·subst e1
   rw[if_pos rfl] at h1
   by_cases e2:x=z
   ·subst e2
    rw[if_pos rfl] at h2 ⊢
    exact Xr h1 h2
   ·rw[if_neg e2] at h2 ⊢
    exact h2
  ·rw[if_neg e1] at h1
   have l1:x<y:=of_decide_eq_true h1
   by_cases e2:y=z
   ·subst e2
    rw[if_neg e1]
    exact h1
   ·rw[if_neg e2] at h2
    have l2:y<z:=of_decide_eq_true h2
    rw[if_neg (by omega)]
    exact decide_eq_true (by omega)
theorem lF:∀{a b:List Int},HT.lexLt a b=false->HT.lexLt b a=false->a=b
 | [],[],_,_=>rfl
 | [],_::_,h,_=>by rw[HT.lexLt_nil_cons] at h; cases h
 | _::_,[],_,h=>by rw[HT.lexLt_nil_cons] at h; cases h
 | x::a,y::b,h1,h2=>by
  rw[HT.lexLt_cons] at h1 h2
  by_cases e:x=y
  ·subst e
   rw[if_pos rfl] at h1 h2
   rw[lF h1 h2]
  ·rw[if_neg e] at h1
   rw[if_neg (Nn e)] at h2
   have l1:=of_decide_eq_false h1
   have l2:=of_decide_eq_false h2
   omega
theorem dD{a b c:List Int}(h:HT.lexLt a c=true):HT.lexLt a b=true\/HT.lexLt b c=true:=by
 cases h1:HT.lexLt a b with
 | true=>exact .inl rfl
 | false =>
  cases h2:HT.lexLt b a with
  | true=>exact .inr (Xr h2 h)
  | false =>
   rw[<- lF h1 h2]
   exact .inr h
def CA(c:Addr->List Int)(x:Keyed):List Int:=match x.1 with
 | .ref a=>c a
 | _=>[]
def CL(c:Addr->List Int)(x y:Keyed):Bool:=HT.lexLt (CA c x) (CA c y)
def yZ(c:Addr->List Int)(rs:List Addr)(h:Heap):Prop:=∀r∈rs,∃its:List Value,Fm its (c r)/\IsTup h r its.toArray
section
variable{prog:Be}{w:World}{A:Co}{E:Value->Ag->Prop}{s:Ag}{c:Addr->List Int}{rs:List Addr}
theorem oB(hH:yZ c rs s.heap)(hu:A.units<cLine){a b:Addr}(ha:a∈rs)(hb:b∈rs){Q:Bool->Ag->Prop}(h:Q (HT.lexLt (c a) (c b)) s):wpAny (model prog w) A (oneLt' true (.ref a) (.ref b)) Q E s:=by
 obtain ⟨i1,t1,⟨c1,d1,dt1,sl1⟩,g1,k1,n1,e1⟩:=hH a ha
 obtain ⟨i2,t2,⟨c2,d2,dt2,sl2⟩,g2,k2,n2,e2⟩:=hH b hb
 simp only at k1 e1 k2 e2
 subst k1 e1 k2 e2
 rw[oneLt'_eq]
 simp only[if_true]
 refine Ab (wpAny_cRoomFor hu (Ab (wpAny_callSpecialIfBound?_slot ⟨_,g1,rfl⟩ PySem.F.slot_tuple_lt ?_)))
 refine call_meets PySem.F.slot_tuple_lt ⟨_,g1,rfl⟩ PySem.F.entry_tuple_lt (PySem.F.args_tuple_lt_2 _ _) (HT.tuple_lt_ints a b _ _ n1 n2 d1 d2 sl1 sl2 (c a) (c b) (by simpa using t1) (by simpa using t2)) ⟨g1,g2,?_⟩
 exact Jk h
theorem wD(hH:yZ c rs s.heap)(hu:A.units<cLine):Cmp prog w A s oneType' (λx=>∃r∈rs,x.1=.ref r) (CL c) where
 run:=λx y Q E ⟨r,hr,ex⟩ ⟨r',hr',ey⟩ h=>by
  obtain ⟨x1,x2⟩:=x
  obtain ⟨y1,y2⟩:=y
  simp only at ex ey
  subst ex ey
  rw[keyLt'_oneType]
  exact oB hH hu hr hr' h
 irr:=λx=>Wq _
 tr:=λx y z h1 h2=>Xr h1 h2
 neg:=λx y z h=>dD h
theorem Rq:∀{l:List Addr} {Q:List (Option Value)->Ag->Prop},(∀r∈l,∃its:List Value,Fm its (c r)/\IsTup s.heap r its.toArray)->(∀fs:List (Option Value),fs.length=l.length->(∀(i:Nat) (r:Addr),l[i]? = some r->∃f,fs[i]? = some f/\(f.isSome=true↔c r≠[]))->Q fs s)->wpAny (model prog w) A ((l.map Ao).mapM Zi) Q E s
 | [],Q,_,h=>by
  rw[Mw,List.mapM_nil]
  exact Aj (h [] rfl λi r e=>by simp at e)
 | r::l,Q,hH,h=>by
  obtain ⟨its,ti,o,g,k,n,e⟩:=hH r Aa
  rw[Aw,List.mapM_cons]
  have one:∀{R:Option Value->Ag->Prop},R its.toArray[0]? s->wpAny (model prog w) A (Zi (.ref r)) R E s:=λ{R} hR=>by
   unfold Zi
   refine Ab (Kc (T := "tuple") ⟨o,g,k⟩ ?_)
   rw[if_neg (by simp)]
   exact Ab (listItems_at g e (Aj hR))
  refine Ab (one (Ab (Rq (λr' hr'=>hH r' (Af _ hr')) λfs hl hf=>Aj (h _ (by rw[Ba,Ba,hl]) λi r' er=>?_))))
  cases i with
  | zero =>
   have e':r=r':=by simpa using er
   subst e'
   refine ⟨_,rfl,?_⟩
   have hlen:=ti.length
   cases its with
   | nil =>
    cases hc:c r with
    | nil=>simp
    | cons _ _=>rw[hc] at hlen; simp at hlen
   | cons a b =>
    cases hc:c r with
    | nil=>rw[hc] at hlen; simp at hlen
    | cons _ _=>simp
  | succ i =>
   obtain ⟨f,h1,h2⟩:=hf i r' (by simpa using er)
   exact ⟨f,by simpa using h1,h2⟩
theorem aZ:∀{l:List Addr} {Q:List Value->Ag->Prop},(∀r∈l,∃its:List Value,Fm its (c r)/\IsTup s.heap r its.toArray)->Q (l.map λ_=>Eb "tuple") s->wpAny (model prog w) A ((l.map Ao).mapM typeOf) Q E s
 | [],Q,_,h=>by
  rw[Mw,List.mapM_nil]
  exact Aj h
 | r::l,Q,hH,h=>by
  obtain ⟨its,ti,o,g,k,n,e⟩:=hH r Aa
  rw[Aw,List.mapM_cons]
  exact Ab (Kc (T := "tuple") ⟨o,g,k⟩ (Ab (aZ (λr' hr'=>hH r' (Af _ hr')) (Aj h))))
theorem vM{r:Addr}{l:List Addr}(hH:yZ c (r::l) s.heap)(h0:c r=[]){Q:Ku->Ag->Prop}(h:Q oneType' s):wpAny (model prog w) A (keyKind' ((r::l).map Ao).toArray) Q E s:=by
 rw[keyKind'_eq,Wl]
 refine Ab ?_
 show wpAny (model prog w) A (List.toArray <$> ((r::l).map Ao).mapM Zi) _ E s
 rw[map_eq_pure_bind]
 refine Ab (Rq hH λfs hl hf=>Aj ?_)
 obtain ⟨f,h1,h2⟩:=hf 0 r rfl
 have fn:f=none:=by
  cases f with
  | none=>rfl
  | some v=>exact absurd h0 (h2.mp rfl)
 subst fn
 have na:¬ (fs.toArray.all λx=>x.isSome)=true:=by
  intro z
  have:=Array.all_eq_true'.mp z none (by
   have:=Bc h1
   simpa using this)
  simp at this
 have n0:¬ (fs.toArray[0]?.bind id).isSome=true:=by
  rw[List.getElem?_toArray,h1]
  simp
 rw[if_neg na,if_neg n0,oneTypeOnly'_eq,Wl]
 refine Ab (Ab ?_)
 show wpAny (model prog w) A (List.toArray <$> ((r::l).map Ao).mapM typeOf) _ E s
 rw[map_eq_pure_bind]
 refine Ab (aZ hH (Aj ?_))
 have e0:((r::l).map λ_=>Eb "tuple").toArray[0]? = some (Eb "tuple"):=by simp
 have ea:(((r::l).map λ_=>Eb "tuple").toArray.all λx=>x == Eb "tuple")=true:=by
  simp only[List.all_toArray,List.all_map,List.all_eq_true]
  intro _ _
  rfl
 rw[e0]
 dsimp only
 rw[ea,if_pos rfl]
 exact Aj (Aj h)
end
theorem vals_refs:∀rs:List Addr,Fg (rs.map V.ref) (rs.map Ao)
 | []=>.nil
 | _::l=>.cons rfl (vals_refs l)
def U5{κ:Type}(c:Addr->κ)(d0:κ)(x:Keyed):κ:=match x.1 with
 | .ref a=>c a
 | _=>d0
def BY{κ:Type}(c:Addr->κ)(d0:κ)(lt_:κ->κ->Bool)(x y:Keyed):Bool:=lt_ (U5 c d0 x) (U5 c d0 y)
def sO{κ:Type}(prog:Be)(w:World)(A:Co)(s:Ag)(rs:List Addr)(c:Addr->κ)(d0:κ)(lt_:κ->κ->Bool):Prop :=
 ∃kd,(∀(R:Ku->Ag->Prop) (E:Value->Ag->Prop),R kd s->wpAny (model prog w) A (keyKind' (rs.map Ao).toArray) R E s)/\Cmp prog w A s kd (λx=>∃r∈rs,x.1=.ref r) (BY c d0 lt_)
section
variable{prog:Be}{w:World}{A:Co}{E:Value->Ag->Prop}{s:Ag}{κ:Type}{c:Addr->κ}{d0:κ}{lt_:κ->κ->Bool}{rs:List Addr}
theorem sort_listG{a:Addr}{n:Nat}{P:Fin->Ag->Prop}(hl:s.heap.get? a=some (Ju "list" (rs.map Ao).toArray n))(hC:∀h':Heap,(∀b o,b≠a->s.heap.get? b=some o->h'.get? b=some o)->2<=rs.length->sO prog w A { s with heap:=h' } rs c d0 lt_)(hz:rs.length<=Ax)(h:∀rs':List Addr,rs'.Perm rs->rs'.Pairwise (λx y=>lt_ (c y) (c x)=false)->P (.done (.ret .none)) { s with heap:=Sh s.heap a (rs.map Ao) (rs'.map Ao).toArray }):wpAny (model prog w) A (Builtin.«list.sort» ⟨[.ref a],[]⟩) P E s:=by
 have lt:=Bk hl
 have hsz:(rs.map Ao).toArray.size=rs.length:=by simp
 rw[list_sort_plain]
 refine Ab (listItems_at hl rfl (Ab (listUpdate_at hl rfl ?_ (by rw[hsz]; exact hz))))
 obtain ⟨ep,hl1⟩ : ∃ep,(s.heap.update a (Ji λ_=>#[])).get? a=some (Ju "list" #[] ep):=⟨_,get?_update_seq hl (λ_=>#[])⟩
 refine Ab (seqEpoch_at hl1 rfl (Ab (wpAny_newTuple (Ab (wpAny_newList (Ej ?_)) ))))
 have hl2:(((s.heap.update a (Ji λ_=>#[])).push (Ju "tuple" (rs.map Ao).toArray 0)).push (Ju "list" #[] 0)).get? a=some (Ju "list" #[] ep):=by
  rw[Heap.get?_push_ne _ _ _ (by rw[size_push',Heap.size_update]; exact Cy (Pb lt)),
   Heap.get?_push_ne _ _ _ (by rw[Heap.size_update]; exact Cy lt)]
  exact hl1
 have kept:∀b o,b≠a->s.heap.get? b=some o->(((s.heap.update a (Ji λ_=>#[])).push (Ju "tuple" (rs.map Ao).toArray 0)).push (Ju "list" #[] 0)).get? b=some o:=λb o hb e=>by
  refine Am _ (Am _ ?_)
  exact ((Cq s.heap a _).2 b hb).trans e
 show wpAny (model prog w) A _ P E { s with heap:=((s.heap.update a (Ji λ_=>#[])).push (Ju "tuple" (rs.map Ao).toArray 0)).push (Ju "list" #[] 0) }
 dsimp only
 -- what is left kJ the runs
 have fin:∀(out:Array Value) (rs':List Addr),out=(rs'.map Ao).toArray->rs'.Perm rs->rs'.Pairwise (λx y=>lt_ (c y) (c x)=false) ->
   P (.done (.ret .none)) { s with heap:=Sh s.heap a (rs.map Ao) out }:=λout rs' e p1 p2=>by rw[e]; exact h rs' p1 p2
 by_cases h2:(rs.map Ao).toArray.size<2
 ·rw[if_pos h2,if_pos h2]
  refine Ab (Aj ?_)
  rw[StateT.run_pure]
  refine Ab (Aj (Ab (seqEpoch_at hl2 rfl (Ab (listUpdate_at hl2 rfl ?_ (by simp) ?_)))))
  ·simp only[bne_self_eq_false,Bo,if_false]
   refine Aj (fin _ rs ?_ (Ke _) ?_)
   ·show Array.map (λx=>x.2) ((rs.map Ao).toArray.zip (rs.map Ao).toArray)=_
    apply Array.ext'
    simp [List.map_snd_zip]
   ·rw[hsz] at h2
    match rs,h2 with
    | [],_=>exact Ep
    | [_],_=>exact Fv _ _
    | _::_::_,h2=>simp only[Ba] at h2; omega
  ·show (Array.map (λx:Keyed=>x.2) ((rs.map Ao).toArray.zip (rs.map Ao).toArray)).size<=Ax+1
   rw[Array.size_map,Array.size_zip,hsz]
   omega
 ·rw[if_neg h2,if_neg h2]
  rw[hsz] at h2
  obtain ⟨kd,hk,C⟩:=hC (((s.heap.update a (Ji λ_=>#[])).push (Ju "tuple" (rs.map Ao).toArray 0)).push (Ju "list" #[] 0)) kept (by omega)
  refine Ab (hk _ _ ?_)
  have a0:(pairsOf (rs.map Ao)).size=rs.length:=by rw[pairsOf_size,Ad]
  refine Ab (Fs (qD C (a₀:=pairsOf (rs.map Ao)) (st:=SortSt.mk' kd ((rs.map Ao).toArray.zip (rs.map Ao).toArray) #[] 7 none) (E:=E)
   (Q:=λ_ st'=>Good0 kd (pairsOf (rs.map Ao)) st'/\Qa (BY c d0 lt_) (arrOf st') 0 (pairsOf (rs.map Ao)).size)
   ⟨rfl,rfl,Array.Perm.refl _⟩ (λx hx=>?_) rfl (by rw[a0]; omega) λst' g as=>⟨g,as⟩) ?_ λ_ _ z=>z)
  ·rw[pairsOf_toList] at hx
   obtain ⟨_,hm⟩:=mem_zip_self hx
   obtain ⟨r,hr,e⟩:=Cc.mp hm
   exact ⟨r,hr,e.symm⟩
  ·(rintro ⟨⟨⟩,st'⟩ s' q_; obtain ⟨rfl,g,as⟩ := q_)
   dsimp only
   -- the things of the new order
   have pl:(arrOf st').toList.Perm ((rs.map Ao).zip (rs.map Ao)):=by rw[<- pairsOf_toList]; exact Nk.mp g.perm
   have each:∀x∈(arrOf st').toList,∃r∈rs,x=(Ao r,Ao r):=λx hx=>by
    obtain ⟨e,hm⟩:=mem_zip_self (pl.mem_iff.mp hx)
    obtain ⟨r,hr,e2⟩:=Cc.mp hm
    refine ⟨r,hr,?_⟩
    obtain ⟨x1,x2⟩:=x
    simp only at e e2
    rw[<- e,e2]
   have ex:∀l:List Keyed,(∀x∈l,∃r∈rs,x=(Ao r,Ao r))->∃rs':List Addr,l=rs'.map λr=>(Ao r,Ao r):=by
    intro l
    induction l with
    | nil=>intro _; exact ⟨[],rfl⟩
    | cons x l ih =>
     intro hx
     obtain ⟨r,_,e⟩:=hx x Aa
     obtain ⟨rs',e'⟩:=ih λy hy=>hx y (Af _ hy)
     exact ⟨r::rs',by rw[Aw,e,e']⟩
   obtain ⟨rs',ers⟩:=ex _ each
   have zz:(rs.map Ao).zip (rs.map Ao)=rs.map λr=>(Ao r,Ao r):=by
    rw[List.zip_map',]
   rw[ers,zz] at pl
   have inj:∀x:Keyed,∃a:Addr,True:=λ_=>⟨0,trivial⟩
   have pr:rs'.Perm rs:=by
    have:=pl.map (λx:Keyed=>match x.1 with | .ref a=>a | _=>0)
    rw[Ei,Ei] at this
    simpa [Function.comp_def] using this
   have so:rs'.Pairwise (λx y=>lt_ (c y) (c x)=false):=by
    rw[Dl]
    intro i j hi hj hij
    have ls:(arrOf st').size=rs'.length:=by
     have:=congrArg Fq ers
     rw[Ae,Ad] at this
     exact this
    have xe:∀k (hk:k<rs'.length),X (arrOf st') k=(Ao rs'[k],Ao rs'[k]):=λk hk=>by
     have e1:=Dw (Wc (xs:=arrOf st') (i:=k) (by omega))
     rw[ers,Bt,Bu hk] at e1
     exact (Ck e1).symm
    have:=as i j (Ds _) (by omega) (by rw[a0,<- pr.length_eq]; exact hj)
    rw[xe i hi,xe j hj] at this
    exact this
   refine Ab (seqEpoch_at hl2 rfl (Ab (listUpdate_at hl2 rfl ?_ (by simp) ?_)))
   ·have fl:Kt st'=none:=g.fail
    rw[fl]
    simp only[bne_self_eq_false,Bo,if_false]
    refine Aj (fin _ rs' ?_ pr so)
    apply Array.ext'
    rw[Array.toList_map,ers,Ei]
    rfl
   ·show (Array.map (λx:Keyed=>x.2) (arrOf st')).size<=Ax+1
    rw[Array.size_map,g.size,a0]
    omega
end
section
variable{prog:Be}{w:World}{A:Co}{E:Value->Ag->Prop}{s:Ag}{c:Addr->List Int}{rs:List Addr}
theorem zT{b:Bool}{x y:Int}{t u:Tok}{Q:Bool->Ag->Prop}(h:Q (decide (x<y)) s):wpAny (model prog w) A (oneLt' b (.int x t) (.int y u)) Q E s:=by
 cases b with
 | true=>exact oneLt_int h
 | false=>exact PySem.W.kat_one _ _ (lt_int h)
theorem iI{b:Bool}{Q:Bool->Ag->Prop}:∀{xs ys:List Value} {ns ms:List Int} (i:Nat),Fm xs ns->Fm ys ms->Q (HT.lexLt ns ms) s->PySem.W.KatLex prog w A b (decide (xs.length<ys.length)) Q (xs.zip ys) i s
 | _,_,_,_,i,.nil,.nil,h=>h
 | _,_,_,_,i,.nil,.cons m u k,h=>h
 | _,_,_,_,i,.cons n t k,.nil,h=>h
 | _,_,_,_,i,.cons (vs:=xs) n t k,.cons (vs:=ys) m u k2,h=>by
  rw[Np]
  refine PySem.W.kat_cons (wpAny_eqBool_int ?_)
  rw[HT.lexLt_cons] at h
  cases hnm:(n == m) with
  | true =>
   have e:n=m:=by simpa using hnm
   rw[if_pos e] at h
   refine PySem.W.kat_yes ?_
   have : decide ((Li n t::xs).length<(Li m u::ys).length)=decide (xs.length<ys.length):=by simp
   rw[this]
   exact iI (i+1) k k2 h
  | false =>
   have e:¬ n=m:=by simpa using hnm
   rw[if_neg e] at h
   exact PySem.W.kat_no (zT h)
theorem Xs:∀{l:List Addr},(∀r∈l,∃its:List Value,Fm its (c r)/\IsTup s.heap r its.toArray)->(∀r∈l,c r≠[])->∃fs:List Value,PySem.W.KatTups s.heap (l.map Ao) fs/\fs.length=l.length/\∀v∈fs,∃i t,v=.int i t
 | [],_,_=>⟨[],.nil,rfl,λ_ h=>(nomatch h)⟩
 | r::l,hH,hn=>by
  obtain ⟨fs,h1,h2,h3⟩:=Xs (λr' hr'=>hH r' (Af _ hr')) (λr' hr'=>hn r' (Af _ hr'))
  obtain ⟨its,ti,o,g,k,n,e⟩:=hH r Aa
  have hne:=hn r Aa
  match its,ti with
  | [],ti=>cases hc:c r with
   | nil=>exact absurd hc hne
   | cons _ _=>rw[hc] at ti; cases ti
  | v::its,ti =>
   have : ∃i t,v=.int i t:=by
    revert ti
    generalize c r=cr
    intro ti
    cases ti with
    | cons m t k=>exact ⟨_,_,rfl⟩
   refine ⟨v::fs,PySem.W.KatTups.cons g k e (by simp) h1,by rw[Ba,Ba,h2],λx hx=>?_⟩
   rcases An.mp hx with rfl | hx
   ·exact this
   ·exact h3 x hx
theorem kinded_ints(hH:yZ c rs s.heap)(hu:A.units<cLine)(h2:2<=rs.length):sO prog w A s rs c [] HT.lexLt:=by
 obtain ⟨r,l,rfl⟩ : ∃r l,rs=r::l:=by
  cases rs with
  | nil=>simp at h2
  | cons r l=>exact ⟨r,l,rfl⟩
 by_cases h0:c r=[]
 ·exact ⟨oneType',λR E h=>vM hH h0 h,wD hH hu⟩
 by_cases hall:∀r'∈r::l,c r'≠[]
 ·obtain ⟨fs,f1,f2,f3⟩:=Xs hH hall
  refine ⟨tuples' true,λR E h=>?_,?_⟩
  ·refine PySem.W.kat_kind (T:=.type "int") f1 (by rw[f2]; simp) (λv hv=>?_) (by decide) h
   obtain ⟨i,t,rfl⟩:=f3 v hv
   exact .now
  ·refine ⟨λx y Q E ⟨r1,hr1,ex⟩ ⟨r2,hr2,ey⟩ h=>?_,λx=>Wq _,λx y z=>Xr,λx y z=>dD⟩
   obtain ⟨x1,x2⟩:=x
   obtain ⟨y1,y2⟩:=y
   simp only at ex ey
   subst ex ey
   obtain ⟨i1,t1,o1,g1,k1,n1,e1⟩:=hH r1 hr1
   obtain ⟨i2,t2,o2,g2,k2,n2,e2⟩:=hH r2 hr2
   refine PySem.W.kat_lt g1 e1 g2 e2 ?_
   have e:(decide (i1.toArray.size<i2.toArray.size))=decide (i1.length<i2.length):=by simp
   rw[e]
   exact iI 0 t1 t2 h
 ·refine ⟨general',λR E h=>?_,?_⟩
  ·rw[kat_kind_eq,Wl,map_eq_pure_bind]
   refine Ab (Ab (Rq hH λfs hl hf=>Aj ?_))
   have na:¬ (fs.toArray.all λx=>x.isSome)=true:=by
    intro z
    refine hall λr' hr'=>?_
    obtain ⟨i,hi⟩:=List.getElem?_of_mem hr'
    obtain ⟨f,q1,q2⟩:=hf i r' hi
    refine q2.mp ?_
    exact Array.all_eq_true'.mp z f (by have:=Bc q1; simpa using this)
   obtain ⟨f,q1,q2⟩:=hf 0 r rfl
   have n0:(fs.toArray[0]?.bind id).isSome=true:=by
    rw[List.getElem?_toArray,q1]
    simpa using q2.mpr h0
   rw[if_neg na,if_pos n0]
   exact Aj h
  ·refine ⟨λx y Q E ⟨r1,hr1,ex⟩ ⟨r2,hr2,ey⟩ h=>?_,λx=>Wq _,λx y z=>Xr,λx y z=>dD⟩
   obtain ⟨x1,x2⟩:=x
   obtain ⟨y1,y2⟩:=y
   simp only at ex ey
   subst ex ey
   obtain ⟨i1,t1,p1⟩:=hH r1 hr1
   obtain ⟨i2,t2,p2⟩:=hH r2 hr2
   show wpAny (model prog w) A (oneLt' false (.ref r1) (.ref r2)) Q E s
   exact PySem.W.kat_one _ _ (HT.lt_tupInts p1 p2 (show Fm i1.toArray.toList (c r1) by simpa using t1) (show Fm i2.toArray.toList (c r2) by simpa using t2) hu h)
end
end Ts
namespace DL
open PySem L2 Nd
def Nr{α:Type}(xs:List α)(lo hi:Option Int):List α:=(xs.drop (HT.sIx xs.length 0 lo)).take (HT.sIx xs.length xs.length hi - HT.sIx xs.length 0 lo)
theorem fP{α β:Type}(f:α->β)(xs:List α)(lo hi:Option Int):Nr (xs.map f) lo hi=(Nr xs lo hi).map f:=by
 unfold Nr
 rw[Ad,List.map_take,List.map_drop]
theorem Wz{α:Type}(xs:List α)(lo hi:Option Int):(Nr xs lo hi).Sublist xs:=(Gw _ _).trans (Gz _ _)
theorem oF{α:Type}(xs:List α)(k:Nat):Nr xs none (some (k:Int))=xs.take k:=by
 unfold Nr
 rw[HT.sIx_none,HT.sIx_nat,List.drop_zero,Wx]
 by_cases h:k<=xs.length
 ·rw[Nat.min_eq_left h]
 ·rw[Nat.min_eq_right (by omega),Ln,Hu (by omega)]
section
variable{K:PySem.W.Frag}{H:Hp}
theorem RdFs.drop:∀(n:Nat) {xs:List V} {ds:List Ac} {F:List Addr},RdFs K H xs ds F->∃G,RdFs K H (xs.drop n) (ds.drop n) G/\G.Sublist F
 | 0,_,_,F,h=>⟨F,h,Eh _⟩
 | n+1,_,_,_,.nil=>⟨[],.nil,Eh _⟩
 | n+1,_,_,_,.cons _ t=>by
  obtain ⟨G,h1,h2⟩:=RdFs.drop n t
  exact ⟨G,h1,h2.trans (Dt _ _)⟩
theorem RdFs.take:∀(n:Nat) {xs:List V} {ds:List Ac} {F:List Addr},RdFs K H xs ds F->∃G,RdFs K H (xs.take n) (ds.take n) G/\G.Sublist F
 | 0,_,_,F,h=>⟨[],.nil,List.nil_sublist _⟩
 | n+1,_,_,_,.nil=>⟨[],.nil,Eh _⟩
 | n+1,_,_,_,.cons a t=>by
  obtain ⟨G,h1,h2⟩:=RdFs.take n t
  exact ⟨_,.cons a h1,(Eh _).append h2⟩
theorem RdFs.cut{xs:List V}{ds:List Ac}{F:List Addr}(h:RdFs K H xs ds F)(lo hi:Option Int):∃G,RdFs K H (Yx xs lo hi) (Nr ds lo hi) G/\G.Sublist F:=by
 unfold Yx Nr
 rw[h.len]
 obtain ⟨G,h1,h2⟩:=h.drop (HT.sIx ds.length 0 lo)
 obtain ⟨G',h3,h4⟩:=h1.take (HT.sIx ds.length ds.length hi - HT.sIx ds.length 0 lo)
 exact ⟨G',h3,h4.trans h2⟩
theorem RdFs.ints:∀ns:List Int,RdFs K H (ns.map V.int) (ns.map Ca) []
 | []=>.nil
 | n::ns=>RdFs.cons (F:=[]) (.int n) (RdFs.ints ns)
theorem RdFs.ints_inv:∀{ns:List Int} {xs:List V} {F:List Addr},RdFs K H xs (ns.map Ca) F->xs=ns.map V.int/\F=[]
 | [],_,_,h=>by cases h; exact ⟨rfl,rfl⟩
 | n::ns,_,_,h=>by
  rw[Aw] at h
  cases h with
  | cons a t =>
   obtain ⟨rfl,rfl⟩:=a.int_inv
   obtain ⟨rfl,rfl⟩:=RdFs.ints_inv t
   exact ⟨rfl,rfl⟩
end
theorem Ye{a b:List Ac}:Dy (a++b)=(Dy a && Dy b):=by
 induction a with
 | nil=>simp [Dy]
 | cons x a ih=>simp [Dy,ih,Bool.and_assoc]
theorem Px(ns:List Int):Dy (ns.map Ca)=true:=Rr (λ_=>by simp [imm]) ns
def lH:D2:=λx y P=>match x,y with
 | .dat _ (.list ds),.dat _ (.list es)=>Dy ds=true/\Dy es=true/\ds.length+es.length<=1000000/\P (.dat .ow (.list (ds++es)))
 | _,_=>False
def cI:D2:=λx y P=>match x,y with
 | .dat _ (.tuple ds),.dat _ (.tuple es)=>Dy ds=true/\Dy es=true/\ds.length+es.length<=1000000/\P (.dat .ow (.tuple (ds++es)))
 | _,_=>False
def CC:D2:=λx y P=>match x,y with
 | .dat _ (.list ds),.dat _ (.int k)=>Dy ds=true /\ -1000000<=k/\k<=1000000/\ds.length * k.toNat<=1000000/\P (.dat .ow (.list (Hm k.toNat ds).flatten))
 | _,_=>False
section
variable{K:PySem.W.Frag}
theorem B1:gI K O9 lH:=by
 intro H0 X n S T x y v w F G H Q P hA hd k
 unfold lH at hd
 split at hd
 ·obtain ⟨i1,i2,hz,p⟩:=hd
  obtain ⟨b,ys,G1,rfl,hb,rb,_,_⟩:=(hA.told mem_mid).list_inv
  obtain ⟨a,xs,G2,rfl,ha,ra,_,_⟩:=(hA.told Ff).list_inv
  have l1:=ra.len
  have l2:=rb.len
  refine ⟨a,b,xs,ys,rfl,rfl,ha,hb,pK (by omega),λq hq=>?_⟩
  exact k _ _ _ _ (hA.drop2.newI (ra.app rb) (by rw[Ye,i1,i2]; rfl) (by rw[Bn]; exact pK (by omega)) hq .ow) p
 ·exact hd.elim
theorem xS:gI K (o5 K) cI:=by
 intro H0 X n S T x y v w F G H Q P hA hd k
 unfold cI at hd
 split at hd
 ·obtain ⟨i1,i2,hz,p⟩:=hd
  obtain ⟨b,ys,rfl,hb,rb,zb⟩:=(hA.told mem_mid).tup_inv
  obtain ⟨a,xs,rfl,ha,ra,za⟩:=(hA.told Ff).tup_inv
  have l1:=ra.len
  have l2:=rb.len
  obtain rfl:=ra.imm i1
  obtain rfl:=rb.imm i2
  refine ⟨a,b,xs,ys,rfl,rfl,Sg.of ha,Sg.of hb,pK (by omega),λe=>?_,λe=>?_,λq hq=>?_⟩
  ·subst e
   obtain rfl:=Ho.mp (l1.symm.trans rfl)
   exact k _ _ [] _ (hA.drop2.pushI (.tup hb zb rb)) p
  ·subst e
   obtain rfl:=Ho.mp (l2.symm.trans rfl)
   rw[Dz] at p
   exact k _ _ [] _ (hA.drop2.pushI (.tup ha za ra)) p
  ·have s1:=Ft hq (.tup (xs++ys))
   exact k _ _ [] _ ((hA.drop2.grow s1 (Ah _)).pushI (.tup Du (by rw[Bn]; exact pK (by omega)) ((ra.app rb).kp (Kp.of s1)))) p
 ·exact hd.elim
end
section
variable{X:Cx}{a b:Expr}{da db:DE}{pos:Pos}
theorem rS(ha:Eu X a da)(hb:Eu X b db):Eu X (.BinOp a .Add b pos) (Te lH da db):=Ys J9 B1 ha hb
theorem mI(ha:Eu X a da)(hb:Eu X b db):Eu X (.BinOp a .Add b pos) (Te cI da db):=Ys zM xS ha hb
end
abbrev DO:=DS->(Option Int->DS->Prop)->Prop
def LO(K:PySem.W.Frag)(do_:DO):TO:=λσ H Q=>∃(H0:Hp) (X:Addr->Prop) (S T:List Ent) (δ:DS) (P:Option Int->DS->Prop),vs S=σ/\Sl S δ/\At K H0 X δ.n (S++T) H/\do_ δ P /\
 ∀o δ' S' H',vs S'=σ->Sl S' δ'->At K H0 X δ'.n (S'++T) H'->P o δ'->Q o H'
abbrev N8(X:Cx)(e:Option Expr)(d:DO):Prop:=PO X e (LO X.K d)
theorem PO.imp{X:Cx}{e:Option Expr}{t t':TO}(h:PO X e t)(k:∀σ H Q,t' σ H Q->t σ H Q):PO X e t':=λpins s σ H Q I q=>h pins s σ H Q I (k σ H Q q)
def mF:DO:=λδ P=>P none δ
def j9(de:DE):DO:=λδ P=>de δ λx δ'=>match x with
 | .dat _ (.int i)=>P (some i) δ'
 | _=>False
section
variable{X:Cx}{e:Expr}{de:DE}{lo hi:Option Expr}{dl dh:DO}{pos p2:Pos}
theorem hZ:N8 X none mF:=by
 refine PO.imp yR λσ H Q h=>?_
 obtain ⟨H0,Y,S,T,δ,P,rfl,hS,hA,hd,k⟩:=h
 exact k _ δ S H rfl hS hA hd
theorem gC(h:Eu X e de):N8 X (some e) (j9 de):=by
 refine PO.imp (yD h) λσ H Q h=>?_
 obtain ⟨H0,Y,S,T,δ,P,rfl,hS,hA,hd,k⟩:=h
 refine ⟨H0,Y,S,T,δ,_,rfl,hS,hA,hd,λx δ' v F S' H' e1 e2 hA' p=>?_⟩
 split at p
 ·obtain ⟨rfl,_⟩:=(hA'.told mem_mid).int_inv
  exact ⟨_,rfl,k _ δ' S' H' e1 e2 hA'.drop p⟩
 ·exact p.elim
def BP(i:Bool)(de:DE)(dl dh:DO):DE:=λδ P=>de δ λx δ1=>dl δ1 λl δ2=>dh δ2 λh δ3=>match x with
 | .dat m (.list ds)=>Yj i m (Nr ds l h) λz=>P z δ3
 | .dat m (.tuple ds)=>Yd i m (Nr ds l h) λz=>P z δ3
 | _=>False
def Z4(K:PySem.W.Frag):V->Option Int->Option Int->Hp->VK->Prop:=λx lo hi H Q=>J6 K x lo hi H Q\/n8 x lo hi H Q
theorem tT{i:Bool}(he:Eu X e de)(hl:N8 X lo dl)(hh:N8 X hi dh):Eu X (.Subscript e (.Slice lo hi none p2) pos) (BP i de dl dh):=by
 refine PE.imp (fL (r:=Z4 X.K) (xC.or xE) he hl hh) λσ H Q h=>?_
 obtain ⟨H0,Y,S,T,δ,P,rfl,hS,hA,hd,k⟩:=h
 refine ⟨H0,Y,S,T,δ,_,rfl,hS,hA,hd,λx δ1 v F S1 H1 e1 e2 hA1 p1=>?_⟩
 refine ⟨H0,Y,S1,⟨some v,x,F⟩::T,δ1,_,e1,e2,hA1,p1,λl δ2 S2 H2 e3 e4 hA2 p2=>?_⟩
 refine ⟨H0,Y,S2,⟨some v,x,F⟩::T,δ2,_,e3,e4,hA2,p2,λh δ3 S3 H3 e5 e6 hA3 p3=>?_⟩
 split at p3
 ·obtain ⟨a,xs,G,rfl,ha,ra,rfl,hz⟩:=(hA3.told mem_mid).list_inv
  refine .inl ⟨a,xs,rfl,Sn.of ha,λp hp=>?_⟩
  obtain ⟨G',h1,h2⟩:=ra.cut l h
  obtain ⟨z,F',hA4,p4⟩:=hA3.newL h1 (h2.trans (Df _ _)) (Cg (Wz _ _ _).length_le hz) hp p3
  exact k z δ3 _ F' S3 _ e5 e6 hA4 p4
 ·obtain ⟨a,xs,rfl,ha,ra,hz⟩:=(hA3.told mem_mid).tup_inv
  refine .inr ⟨a,xs,rfl,ha,λp H' hp s1=>?_⟩
  obtain ⟨G',h1,h2⟩:=ra.cut l h
  obtain ⟨z,F',hA4,p4⟩:=(hA3.grow s1 (Ah _)).oldT (h1.kp (Kp.of s1)) h2 (Cg (Wz _ _ _).length_le hz) hp p3
  exact k z δ3 _ F' S3 _ e5 e6 hA4 p4
 ·exact p3.elim
end
end DL
namespace NdS
open PySem PyProof.Rows
end NdS
namespace Nd
open PySem PySem.Spec PyProof.Rows L2 NdS
end Nd
namespace DL
open PySem L2 Nd
def W2(x:Int):List Int->List Int
 | []=>[x]
 | y::l=>if x<y then x::y::l else if x=y then y::l else y::W2 x l
def L0(ns:List Int):List Int:=ns.foldr W2 []
abbrev DC:=List DV->(DV->Prop)->Prop
def Ta(K:PySem.W.Frag)(r:List V->Hp->VK->Prop)(rd:DC):Prop:=∀(H0:Hp) (X:Addr->Prop) (n:Nat) (S T As:List Ent) (us:List V) (H:Hp) (Q:VK) (P:DV->Prop),
 As.map Ent.v=us.map some->At K H0 X n (S++(As++T)) H->rd (As.map Ent.x) P->(∀z u F' H',At K H0 X n (S++⟨some u,z,F'⟩::T) H'->P z->Q u H')->r us H Q
def Z1(rd:DC)(da:DA):DE:=λδ P=>da δ λxs δ1=>rd xs λz=>P z δ1
section
variable{X:Cx}{x:Str}{p pos:Pos}{e:Expr}{es:List Expr}{da:DA}{id T:String}{r:List V->Hp->VK->Prop}{rd:DC}
theorem i6{K:PySem.W.Frag}(o:Ta K r rd):∀σ H Q,LE K (Z1 rd da) σ H Q->AZ r (LA K da) σ H Q:=by
 intro σ H Q h
 obtain ⟨H0,Y,S,T,δ,P,rfl,hS,hA,hd,k⟩:=h
 refine ⟨H0,Y,S,T,δ,_,rfl,hS,hA,hd,λxs δ' As us S' H' e1 e2 ex eu hA' p=>?_⟩
 subst ex
 exact o H0 Y δ'.n S' T As us H' Q _ eu hA' p λz u F' H'' hA3 p3=>k z δ' u F' S' H'' e1 e2 hA3 p3
theorem Gd(hc:Kf X (.builtin id) r)(o:Ta X.K r rd)(hg:Gl X x)(hm:X.mg x=none)(hv:Iw x=some (.builtin id))(ha:kT X (e::es) da)(hn:x ≠ "__name__" := by decide)(hdb:(x == ("__debug__" : Str))=false:=by decide)(he:Bs (e::es) X.env=(false,eval e X.env)::Bs es X.env:=by rfl)(hpl:(Ic pos (Bs es X.env)).any (·.1)=false:=by rfl):Eu X (.Call (.Name x p) (e::es) [] pos) (Z1 rd da) :=
 PE.imp (Yl hc hg hm hv ha hn hdb he hpl) (i6 o)
theorem Mc(hc:Kf X (.type T) r)(o:Ta X.K r rd)(hg:Gl X x)(hm:X.mg x=none)(hv:Iw x=some (.type T))(ha:kT X (e::es) da)(hn:x ≠ "__name__" := by decide)(hdb:(x == ("__debug__" : Str))=false:=by decide)(he:Bs (e::es) X.env=(false,eval e X.env)::Bs es X.env:=by rfl)(hpl:(Ic pos (Bs es X.env)).any (·.1)=false:=by rfl):Eu X (.Call (.Name x p) (e::es) [] pos) (Z1 rd da) :=
 PE.imp (Ny hc hg hm hv ha hn hdb he hpl) (i6 o)
end
theorem C5{α β:Type}{f:α->β}{l:List α}{x:β}(h:l.map f=[x]):∃a,l=[a]/\f a=x:=by
 cases l with
 | nil=>cases h
 | cons a t =>
  obtain ⟨h1,h2⟩:=Fi h
  exact ⟨a,by rw[List.map_eq_nil_iff.mp h2],h1⟩
theorem X2{α β:Type}{f:α->β}{l:List α}{x y:β}(h:l.map f=[x,y]):∃a b,l=[a,b]/\f a=x/\f b=y:=by
 cases l with
 | nil=>cases h
 | cons a t =>
  obtain ⟨h1,h2⟩:=Fi h
  obtain ⟨b,rfl,h3⟩:=C5 h2
  exact ⟨a,b,rfl,h1,h3⟩
theorem Hx{K:PySem.W.Frag}{H0 H:Hp}{X:Addr->Prop}{n:Nat}{S T As:List Ent}{us:List V}{x:DV}(eu:As.map Ent.v=us.map some)(hA:At K H0 X n (S++(As++T)) H)(ex:As.map Ent.x=[x]):∃v F,us=[v]/\At K H0 X n (S++⟨some v,x,F⟩::T) H:=by
 obtain ⟨⟨v,y,F⟩,rfl,h1⟩:=C5 ex
 obtain ⟨u,rfl,h2⟩:=C5 eu.symm
 have h1':y=x:=h1
 have h2':some u=v:=h2
 subst h1' h2'
 exact ⟨u,F,rfl,hA⟩
theorem gV{K:PySem.W.Frag}{H0 H:Hp}{X:Addr->Prop}{n:Nat}{S T As:List Ent}{us:List V}{x y:DV}(eu:As.map Ent.v=us.map some)(hA:At K H0 X n (S++(As++T)) H)(ex:As.map Ent.x=[x,y]):∃v F w G,us=[v,w]/\At K H0 X n (S++⟨some v,x,F⟩::⟨some w,y,G⟩::T) H:=by
 obtain ⟨⟨v,x',F⟩,⟨w,y',G⟩,rfl,h1,h2⟩:=X2 ex
 obtain ⟨u,u',rfl,h3,h4⟩:=X2 eu.symm
 have h1':x'=x:=h1
 have h2':y'=y:=h2
 have h3':some u=v:=h3
 have h4':some u'=w:=h4
 subst h1' h2' h3' h4'
 exact ⟨u,F,u',G,rfl,hA⟩
def eO:DC:=λxs P=>match xs with
 | [.dat _ (.list ds)]=>P (.dat .ow (.int ds.length))
 | [.dat _ (.tuple ds)]=>P (.dat .ow (.int ds.length))
 | [.dat _ (.str z)]=>z.length<=1000000/\P (.dat .ow (.int z.length))
 | _=>False
def kF(i:Bool):DC:=λxs P=>match xs with
 | [.dat m (.list ds)]=>Yj i m ds P
 | [.dat m (.tuple ds)]=>Yj i m ds P
 | _=>False
def cE(i:Bool):DC:=λxs P=>match xs with
 | [.dat m (.list ds)]=>Yd i m ds P
 | [.dat m (.tuple ds)]=>P (.dat m (.tuple ds))
 | _=>False
def vI:DC:=λxs P=>match xs with
 | [.dat _ (.int i)]=>P (.dat .ow (.int i))
 | [.dat _ (.bool b)]=>P (.dat .ow (.int (if b=true then 1 else 0)))
 | _=>False
def BG:DC:=λxs P=>match xs with
 | [.dat _ (.int i),.dat _ (.int j)]=>P (.dat .ow (.int (if j > i then j else i)))
 | _=>False
def jM:DC:=λxs P=>match xs with
 | [.dat _ (.int i),.dat _ (.int j)]=>P (.dat .ow (.int (if j<i then j else i)))
 | _=>False
def yX:Ac->String
 | .none => "NoneType"
 | .bool _ => "bool"
 | .int _ => "int"
 | .str _ => "str"
 | .list _ => "list"
 | .tuple _ => "tuple"
 | .dict _ => "dict"
def Up(d:Ac)(n:String):Bool:=yX d == n || (yX d == "bool" && n == "int")
def vE:DC:=λxs P=>match xs with
 | [.dat _ d,.val (.ty n)]=>(n = "int" \/ n = "bool" \/ n = "str" \/ n = "list" \/ n = "tuple")/\P (.dat .ow (.bool (Up d n)))
 | _=>False
section
variable{K:PySem.W.Frag}
theorem Pr:Ta K (λxs H Q=>∃x n,xs=[x]/\V0 K x H n/\Q (.int n) H) eO:=by
 intro H0 X n S T As us H Q P eu hA hd k
 unfold eO at hd
 split at hd
 ·rename_i ex
  obtain ⟨v,F,rfl,hA⟩:=Hx eu hA ex
  obtain ⟨a,xs,G,rfl,ha,ra,_,_⟩:=(hA.told mem_mid).list_inv
  exact ⟨_,_,rfl,.inl ⟨xs,Sn.of ha,ra.len.symm⟩,k _ _ [] H (hA.drop.pushI (.int _)) hd⟩
 ·rename_i ex
  obtain ⟨v,F,rfl,hA⟩:=Hx eu hA ex
  obtain ⟨a,xs,rfl,ha,ra,_⟩:=(hA.told mem_mid).tup_inv
  exact ⟨_,_,rfl,.inr ⟨xs,Sg.of ha,ra.len.symm⟩,k _ _ [] H (hA.drop.pushI (.int _)) hd⟩
 ·rename_i ex
  obtain ⟨v,F,rfl,hA⟩:=Hx eu hA ex
  obtain ⟨rfl,_⟩:=(hA.told mem_mid).str_inv
  exact ⟨_,_,rfl,⟨pK hd.1,rfl⟩,k _ _ [] H (hA.drop.pushI (.int _)) hd.2⟩
 ·exact hd.elim
theorem zI{i:Bool}:Ta K (j4 K) (kF i):=by
 intro H0 X n S T As us H Q P eu hA hd k
 unfold kF at hd
 split at hd
 ·rename_i ex
  obtain ⟨v,F,rfl,hA⟩:=Hx eu hA ex
  obtain ⟨a,xs,G,rfl,ha,ra,rfl,hz⟩:=(hA.told mem_mid).list_inv
  refine ⟨a,xs,rfl,.inl (Sn.of ha),λl hl=>?_⟩
  obtain ⟨z,F',h1,h2⟩:=hA.newL ra (Df _ _) hz hl hd
  exact k _ _ _ _ h1 h2
 ·rename_i ex
  obtain ⟨v,F,rfl,hA⟩:=Hx eu hA ex
  obtain ⟨a,xs,rfl,ha,ra,hz⟩:=(hA.told mem_mid).tup_inv
  refine ⟨a,xs,rfl,.inr (Sg.of ha),λl hl=>?_⟩
  obtain ⟨z,F',h1,h2⟩:=hA.newL ra (Eh _) hz hl hd
  exact k _ _ _ _ h1 h2
 ·exact hd.elim
theorem Sw{i:Bool}:Ta K (n4 K) (cE i):=by
 intro H0 X n S T As us H Q P eu hA hd k
 unfold cE at hd
 split at hd
 ·rename_i ex
  obtain ⟨v,F,rfl,hA⟩:=Hx eu hA ex
  obtain ⟨a,xs,G,rfl,ha,ra,rfl,hz⟩:=(hA.told mem_mid).list_inv
  refine ⟨a,xs,rfl,.inl ⟨Sn.of ha,λl hl=>?_⟩⟩
  obtain ⟨z,F',h1,h2⟩:=hA.newT ra (Df _ _) hz hl hd
  exact k _ _ _ _ h1 h2
 ·rename_i ex
  obtain ⟨v,F,rfl,hA⟩:=Hx eu hA ex
  obtain ⟨a,xs,rfl,ha,ra,hz⟩:=(hA.told mem_mid).tup_inv
  exact ⟨a,xs,rfl,.inr ⟨Sg.of ha,k _ _ F H hA hd⟩⟩
 ·exact hd.elim
theorem E1:Ta K (λxs H Q=>(∃i,xs=[V.int i]/\Q (.int i) H)\/∃k,xs=[V.bl k]/\Q (.int (if k then 1 else 0)) H) vI:=by
 intro H0 X n S T As us H Q P eu hA hd k
 unfold vI at hd
 split at hd
 ·rename_i ex
  obtain ⟨v,F,rfl,hA⟩:=Hx eu hA ex
  obtain ⟨rfl,_⟩:=(hA.told mem_mid).int_inv
  exact .inl ⟨_,rfl,k _ _ [] H (hA.drop.pushI (.int _)) hd⟩
 ·rename_i ex
  obtain ⟨v,F,rfl,hA⟩:=Hx eu hA ex
  obtain ⟨rfl,_⟩:=(hA.told mem_mid).bl_inv
  exact .inr ⟨_,rfl,k _ _ [] H (hA.drop.pushI (.int _)) hd⟩
 ·exact hd.elim
theorem yU:Ta K (λxs H Q=>∃i j,xs=[V.int i,V.int j]/\Q (.int (if j<i then j else i)) H) jM:=by
 intro H0 X n S T As us H Q P eu hA hd k
 unfold jM at hd
 split at hd
 ·rename_i ex
  obtain ⟨v,F,w,G,rfl,hA⟩:=gV eu hA ex
  obtain ⟨rfl,_⟩:=(hA.told mem_mid).int_inv
  obtain ⟨rfl,_⟩:=(hA.told Ff).int_inv
  exact ⟨_,_,rfl,k _ _ [] H (hA.drop2.pushI (.int _)) hd⟩
 ·exact hd.elim
theorem wC{T n:String}{b:Bool}(h1:(Eb T == Eb n)=false)(h2:PySem.W.kitMeta n=true)(h3:(fastBuiltinMro T).map (λx=>x.contains (Eb n))=some b):PySem.W.kitOne K (.type T) (.type n)=some b:=L7 h1 h2 h3
theorem wU{d:Ac}{n:String}(hn:n = "int" \/ n = "bool" \/ n = "str" \/ n = "list" \/ n = "tuple"):PySem.W.kitOne K (.type (yX d)) (.type n)=some (Up d n):=by
 have main:∀T:String,(T = "NoneType" \/ T = "bool" \/ T = "int" \/ T = "str" \/ T = "list" \/ T = "tuple" \/ T = "dict")->PySem.W.kitOne K (.type T) (.type n)=some (T == n || (T == "bool" && n == "int")):=by
  intro T hT
  rcases hT with rfl | rfl | rfl | rfl | rfl | rfl | rfl <;> rcases hn with rfl | rfl | rfl | rfl | rfl <;> first | exact A9 | exact wC (by decide +kernel) (by decide +kernel) (by decide +kernel)
 unfold Up
 refine main _ ?_
 cases d <;> simp [yX]
theorem Vd:Ta K (CH K) vE:=by
 intro H0 X n S T As us H Q P eu hA hd k
 unfold vE at hd
 split at hd
 ·rename_i ex
  obtain ⟨v,F,w,G,rfl,hA⟩:=gV eu hA ex
  have hw:w=.ty _:=Ck (hA.ok _ Ff).1
  subst hw
  have r:=hA.told mem_mid
  refine ⟨v,_,.type (yX _),_,rfl,?_,wU hd.1,k _ _ [] H (hA.drop2.pushI (.bl _)) hd.2⟩
  ·cases r with
   | non=>exact .non
   | bl b=>exact .bl b
   | int i=>exact .int i
   | str x=>exact .str x
   | lst h l hs=>exact .lst h
   | tup h l hs=>exact .tup h
   | dic h e hs=>exact .dT h
   | dik h e hs=>exact .dK h
   | dnm h e hs=>exact .dT h
 ·exact hd.elim
end
def dV(v:V):DE:=λδ P=>P (.val v) δ
section
variable{X:Cx}{e:Expr}
theorem B8{v:V}(h:PE X e (tC v)):Eu X e (dV v):=by
 refine PE.imp h λσ H Q h=>?_
 obtain ⟨H0,Y,S,T,δ,P,rfl,hS,hA,hd,k⟩:=h
 exact k _ δ v [] S H rfl hS ((hA.push (e:=⟨some v,.val v,[]⟩) ⟨rfl,rfl⟩ (λf _=>⟨λ_ a ha=>(nomatch ha),λ_ a _=>Bv⟩) (λa ha=>(nomatch ha))).tomid) hd
theorem aX{x:Str}{n:String}{pos:Pos}(hg:Gl X x)(hm:X.mg x=none)(hv:Iw x=some (.type n))(hn:x ≠ "__name__" := by decide)(hd:(x == ("__debug__" : Str))=false:=by decide):Eu X (.Name x pos) (dV (.ty n)):=B8 (yT hg hm hv rfl hn hd)
end
end DL
namespace Nd
open PySem PySem.Spec PyProof.Rows L2
end Nd
namespace Nd
open PySem PySem.Spec PyProof.Rows L2
open AutoSeq1 (wpAny_loadPart')
end Nd
namespace DL
open PySem L2 Nd
def dB(de:DE):DT:=λδ P=>de δ λx δ'=>match x with
 | .dat _ (.bool b)=>P b δ'
 | _=>False
def r0(dt:DT):DT:=λδ P=>dt δ λb δ'=>P (!b) δ'
def e8(dt du:DT):DT:=λδ P=>dt δ λb δ'=>match b with
 | true=>du δ' P
 | false=>P false δ'
def P9(dt du:DT):DT:=λδ P=>dt δ λb δ'=>match b with
 | true=>P true δ'
 | false=>du δ' P
def R8(da db:DE):DE:=λδ P=>da δ λx δ'=>match x with
 | .dat _ (.bool true)=>db δ' P
 | .dat _ (.bool false)=>P (.dat .ow (.bool false)) δ'
 | _=>False
def R7(de:DE):DE:=λδ P=>de δ λx δ'=>match x with
 | .dat _ (.int i)=>P (.dat .ow (.int (-i))) δ'
 | _=>False
section
variable{K:PySem.W.Frag}{de:DE}
theorem x6:∀σ H Q,LT K (dB de) σ H Q->LE K de σ H λx H'=>∃k,x=.bl k/\Q k H':=by
 intro σ H Q h
 obtain ⟨H0,Y,S,T,δ,P,rfl,hS,hA,hd,k⟩:=h
 refine ⟨H0,Y,S,T,δ,_,rfl,hS,hA,hd,λx δ1 v F S1 H1 e1 e2 hA1 p1=>?_⟩
 split at p1
 ·obtain ⟨rfl,_⟩:=(hA1.told mem_mid).bl_inv
  exact ⟨_,rfl,k _ δ1 S1 H1 e1 e2 hA1.drop p1⟩
 ·exact p1.elim
end
section
variable{X:Cx}{a b c e:Expr}{da db de:DE}{dt du:DT}{pos:Pos}{Eo:List Expr}
theorem Lm(h:Eu X e de)(he:∀whole,isTrue e X.env whole=(do let v <- whole; standAt e.pos; holding [v] (truthy v)):=by intro _; rfl):Zl X e (dB de):=PT.imp (vH h he) x6
theorem Ow{op:CmpOp}{r:R2}{rd:D2}(ho:Tu X (Fj op) r)(o:gI X.K r rd)(ha:Eu X a da)(hb:Eu X b db)(hm:Et op b=false):Zl X (.Compare a [op] [b] pos) (dB (Te rd da db)):=by
 refine PT.imp (lI ho ha hb hm) λσ H Q h=>?_
 exact op_le o _ _ _ (x6 σ H Q h)
theorem sI(ha:Eu X a da)(hb:Eu X b db):Zl X (.Compare a [.Lt] [b] pos) (dB (Te rdLt da db)):=Ow n9 (Yg λ_ _ _=>.bl _) ha hb (Ms _)
theorem zZ(ha:Eu X a da)(hb:Eu X b db):Zl X (.Compare a [.Gt] [b] pos) (dB (Te rdGt da db)):=Ow Q9 (Yg λ_ _ _=>.bl _) ha hb (Ms _)
theorem U7(ha:Eu X a da)(hb:Eu X b db):Zl X (.Compare a [.GtE] [b] pos) (dB (Te rdGe da db)):=Ow i8 (Yg λ_ _ _=>.bl _) ha hb (Ms _)
theorem Vr(hu:X.A.units+64<cLine)(ha:Eu X a da)(hb:Eu X b db):Zl X (.Compare a [.Eq] [b] pos) (dB (Te (dE false) da db)):=Ow (uM hu) o6 ha hb (Ms _)
theorem Tn(hu:X.A.units+64<cLine)(ha:Eu X a da)(hb:Eu X b db):Zl X (.Compare a [.NotEq] [b] pos) (dB (Te (dE true) da db)):=Ow (L6 hu) R5 ha hb (Ms _)
theorem o4(hu:X.A.units+64<cLine)(ha:Eu X a da)(hb:Eu X b db)(hm:Et .In b=false:=by with_unfolding_all rfl):Zl X (.Compare a [.In] [b] pos) (dB (Te (jZ false) da db)):=Ow (uX hu) uF ha hb hm
theorem fI(hu:X.A.units+64<cLine)(ha:Eu X a da)(hb:Eu X b db)(hm:Et .NotIn b=false:=by with_unfolding_all rfl):Zl X (.Compare a [.NotIn] [b] pos) (dB (Te (jZ true) da db)):=Ow (nQ hu) uF ha hb hm
theorem L3(ha:Eu X a da)(hb:Eu X b db):Zl X (.Compare a [.Is] [b] pos) (dB (Te (Vt false) da db)):=Ow B2 G3 ha hb (Ms _)
theorem yI(ha:Eu X a da)(hb:Eu X b db):Zl X (.Compare a [.IsNot] [b] pos) (dB (Te (Vt true) da db)):=Ow zG xV ha hb (Ms _)
theorem Oj(h:Zl X a dt):Zl X (.UnaryOp .Not a pos) (r0 dt):=by
 refine PT.imp (B4 h) λσ H Q h=>?_
 obtain ⟨H0,Y,S,T,δ,P,rfl,hS,hA,hd,k⟩:=h
 exact ⟨H0,Y,S,T,δ,_,rfl,hS,hA,hd,λb δ' S' H' e1 e2 hA' p=>k _ δ' S' H' e1 e2 hA' p⟩
theorem zX(h:Zl X a dt):G9 X (.BoolOp .And [a] pos) dt:=xM h
theorem Of(h:Zl X a dt):G9 X (.BoolOp .Or [a] pos) dt:=v9 h
theorem K1(h:Zl X a dt)(hb:G9 X (.BoolOp .And (b::Eo) pos) du):G9 X (.BoolOp .And (a::b::Eo) pos) (e8 dt du):=by
 refine PW.imp (G7 h hb) λσ H Q h=>?_
 obtain ⟨H0,Y,S,T,δ,P,rfl,hS,hA,hd,k⟩:=h
 refine ⟨H0,Y,S,T,δ,_,rfl,hS,hA,hd,λb δ' S' H' e1 e2 hA' p=>?_⟩
 cases b with
 | true=>exact vK ⟨H0,Y,S',T,δ',P,e1,e2,hA',p,k⟩
 | false=>exact sW (k _ δ' S' H' e1 e2 hA' p)
theorem Rk(h:Zl X a dt)(hb:G9 X (.BoolOp .Or (b::Eo) pos) du):G9 X (.BoolOp .Or (a::b::Eo) pos) (P9 dt du):=by
 refine PW.imp (W4 h hb) λσ H Q h=>?_
 obtain ⟨H0,Y,S,T,δ,P,rfl,hS,hA,hd,k⟩:=h
 refine ⟨H0,Y,S,T,δ,_,rfl,hS,hA,hd,λb δ' S' H' e1 e2 hA' p=>?_⟩
 cases b with
 | true=>exact vK (k _ δ' S' H' e1 e2 hA' p)
 | false=>exact sW ⟨H0,Y,S',T,δ',P,e1,e2,hA',p,k⟩
theorem Zt(h:G9 X a dt):Zl X a dt:=PW.pt h
theorem sJ{op}(h:Eu X a da):Eu X (.BoolOp op [a] pos) da:=L5 h
theorem dR(h:Eu X a da)(hb:Eu X (.BoolOp .And (b::Eo) pos) db):Eu X (.BoolOp .And (a::b::Eo) pos) (R8 da db):=by
 refine PE.imp (A0 h hb) λσ H Q h=>?_
 obtain ⟨H0,Y,S,T,δ,P,rfl,hS,hA,hd,k⟩:=h
 refine ⟨H0,Y,S,T,δ,_,rfl,hS,hA,hd,λx δ1 v F S1 H1 e1 e2 hA1 p1=>?_⟩
 split at p1
 ·obtain ⟨rfl,_⟩:=(hA1.told mem_mid).bl_inv
  exact ⟨_,rfl,vK ⟨H0,Y,S1,T,δ1,P,e1,e2,hA1.drop,p1,k⟩⟩
 ·obtain ⟨rfl,_⟩:=(hA1.told mem_mid).bl_inv
  exact ⟨_,rfl,sW (k _ δ1 _ [] S1 H1 e1 e2 (hA1.drop.pushI (.bl _)) p1)⟩
 ·exact p1.elim
theorem A8(h:Eu X a da):Eu X (.UnaryOp .USub a pos) (R7 da):=by
 refine PE.imp (S5 M8 h) λσ H Q h=>?_
 obtain ⟨H0,Y,S,T,δ,P,rfl,hS,hA,hd,k⟩:=h
 refine ⟨H0,Y,S,T,δ,_,rfl,hS,hA,hd,λx δ1 v F S1 H1 e1 e2 hA1 p1=>?_⟩
 split at p1
 ·obtain ⟨rfl,_⟩:=(hA1.told mem_mid).int_inv
  exact ⟨_,rfl,k _ δ1 _ [] S1 H1 e1 e2 (hA1.drop.pushI (.int _)) p1⟩
 ·exact p1.elim
end
theorem PS.impD{X:Cx}{st:Stmt}{t t':TS}(h:PS X st t)(k:∀D σ H,t' D σ H->t D σ H):PS X st t':=λpins s σ H D I q=>h pins s σ H D I (k D σ H q)
theorem jF.impD{X:Cx}{st:List Stmt}{t t':TS}(h:jF X st t)(k:∀D σ H,t' D σ H->t D σ H):jF X st t':=λpins s σ H D I q=>h pins s σ H D I (k D σ H q)
def u4:DB:=λD δ=>D.nx δ
def X6(t u:DB):DB:=λD δ=>t { D with nx:=λδ'=>u D δ' } δ
def S8(de:DE):DB:=λD δ=>de δ D.rt
def BR(dt:DT)(t u:DB):DB:=λD δ=>dt δ λb δ'=>match b with
 | true=>t D δ'
 | false=>u D δ'
def uK(de:DE)(dg:DG):DB:=λD δ=>de δ λx δ'=>dg x δ' D.nx
def C9:DB:=λ_ _=>False
section
variable{X:Cx}{st:Stmt}{e tg c:Expr}{t u:DB}{Eo:List Stmt}{de:DE}{dg:DG}{dt:DT}{pos:Pos}
theorem Hb:Wh X [] u4:=by
 refine jF.impD dZ λD σ H h=>?_
 obtain ⟨H0,Y,S,T,δ,P,rfl,hS,hT,hA,hd,k1,k2,k3,k4⟩:=h
 exact k1 δ S H hS hA hd
theorem Cf(h1:jE X st t)(h2:Wh X Eo u):Wh X (st::Eo) (X6 t u):=by
 refine jF.impD (Kl h1 h2) λD σ H h=>?_
 obtain ⟨H0,Y,S,T,δ,P,rfl,hS,hT,hA,hd,k1,k2,k3,k4⟩:=h
 exact ⟨H0,Y,S,T,δ,_,rfl,hS,hT,hA,hd,λδ' S' H' e2 hA' p=>⟨H0,Y,S',T,δ',P,rfl,e2,hT,hA',p,k1,k2,k3,k4⟩,k2,k3,k4⟩
theorem Dc(h1:jE X st t):Wh X [st] t:=Tz h1
theorem Er(he:Eu X e de):jE X (.Return (some e) pos) (S8 de):=by
 refine PS.impD (Zc he) λD σ H h=>?_
 obtain ⟨H0,Y,S,T,δ,P,rfl,hS,hT,hA,hd,k1,k2,k3,k4⟩:=h
 exact ⟨H0,Y,S,T,δ,_,rfl,hS,hA,hd,λx δ' v F S' H' e1 e2 hA' p=>k2 x δ' v F S' H' e2 hA' p⟩
theorem Jj{a b:List Stmt}(hc:Zl X c dt)(ha:Wh X a t)(hb:Wh X b u):jE X (.If c a b pos) (BR dt t u):=by
 refine PS.impD (sA hc ha hb) λD σ H h=>?_
 obtain ⟨H0,Y,S,T,δ,P,rfl,hS,hT,hA,hd,k1,k2,k3,k4⟩:=h
 refine ⟨H0,Y,S,T,δ,_,rfl,hS,hA,hd,λb δ' S' H' e1 e2 hA' p=>?_⟩
 cases b with
 | true=>exact vK ⟨H0,Y,S',T,δ',P,e1,e2,hT,hA',p,k1,k2,k3,k4⟩
 | false=>exact sW ⟨H0,Y,S',T,δ',P,e1,e2,hT,hA',p,k1,k2,k3,k4⟩
theorem kZ{K:PySem.W.Frag}{te:TE}{g:TG}(h1:∀σ H Q,LE K de σ H Q->te σ H Q)(h2:∀v σ H Q,LG K dg v σ H Q->g v σ H Q):∀D σ H,LS K (uK de dg) D σ H->xW te g D σ H:=by
 intro D σ H h
 obtain ⟨H0,Y,S,T,δ,P,rfl,hS,hT,hA,hd,k1,k2,k3,k4⟩:=h
 refine h1 _ _ _ ⟨H0,Y,S,T,δ,_,rfl,hS,hA,hd,λx δ' v F S' H' e1 e2 hA' p=>?_⟩
 exact h2 _ _ _ _ ⟨H0,Y,S',T,δ',x,F,P.nx,e1,e2,hA',p,λδ2 S2 H2 e3 hA2 q=>k1 δ2 S2 H2 e3 hA2 q⟩
theorem uH:jE X st C9:=by
 refine PS.impD tO λD σ H h=>?_
 obtain ⟨H0,Y,S,T,δ,P,rfl,hS,hT,hA,hd,_⟩:=h
 exact hd
end
def Oh(i:Nat):DG:=λx δ P=>match x with
 | .dat .pk _=>False
 | .dat _ d=>P ⟨δ.sl.set i (.dat .sh d),δ.n⟩
 | .val v=>P ⟨δ.sl.set i (.val v),δ.n⟩
 | .drw=>P ⟨δ.sl.set i .drw,δ.n⟩
 | .dT kvs=>P ⟨δ.sl.set i (.dT kvs),δ.n⟩
 | _=>False
def fZ(i:Nat):DG:=λx δ P=>match x with
 | .dat .ow d=>P ⟨δ.sl.set i (.dat .ow d),δ.n⟩
 | .dat .tp d=>P ⟨δ.sl.set i (.dat .tp d),δ.n⟩
 | _=>False
theorem At.store{K:PySem.W.Frag}{H0 H:Hp}{X:Addr->Prop}{n:Nat}{S T:List Ent}{e:Ent}{i:Nat}(h:At K H0 X n (S++e::T) H):At K H0 X n (S.set i e++T) H:=by
 by_cases hi:i<S.length
 ·have hx:S[i]? = some S[i]:=by simp [hi]
  have p:(S++e::T).Perm (S[i]::(S.set i e++T)):=by
   refine List.perm_middle.trans ?_
   rw[<- Jm,<- Jm]
   exact (Xv hx).append_right T
  exact (h.perm p).sub (Df _ _)
 ·rw[List.set_eq_of_length_le (by omega)]
  exact h.drop
theorem kM{S:List Ent}{i:Nat}{v:V}{x:DV}{F:List Addr}:vs (S.set i ⟨some v,x,F⟩)=(vs S).set i (some v):=by
 unfold vs
 rw[Gx]
theorem jY{S:List Ent}{δ:DS}{i n:Nat}{v:V}{x:DV}{F:List Addr}(h:Sl S δ):Sl (S.set i ⟨some v,x,F⟩) ⟨δ.sl.set i x,n⟩:=by
 unfold Sl at h ⊢
 rw[Gx,h]
theorem cM{K:PySem.W.Frag}{i:Nat}:∀v σ H Q,LG K (Oh i) v σ H Q->bO i v σ H Q:=by
 intro v σ H Q h
 obtain ⟨H0,Y,S,T,δ,x,F,P,rfl,hS,hA,hd,k⟩:=h
 show Q ((vs S).set i (some v)) H
 have fin:∀y,At K H0 Y δ.n (S++⟨some v,y,F⟩::T) H->P ⟨δ.sl.set i y,δ.n⟩->Q ((vs S).set i (some v)) H:=λy hA' p=>by
  rw[<- kM (x:=y) (F:=F)]
  exact k _ _ H (jY hS) hA'.store p
 unfold Oh at hd
 split at hd
 ·exact hd.elim
 ·rename_i m d hm
  refine fin _ ?_ hd
  refine (hA.mid.wk ?_).tomid
  cases m <;> first | rfl | exact (hm rfl).elim
 ·exact fin _ hA hd
 ·exact fin _ hA hd
 ·exact fin _ hA hd
 ·exact hd.elim
theorem rT{K:PySem.W.Frag}{i:Nat}:∀v σ H Q,LG K (fZ i) v σ H Q->bO i v σ H Q:=by
 intro v σ H Q h
 obtain ⟨H0,Y,S,T,δ,x,F,P,rfl,hS,hA,hd,k⟩:=h
 show Q ((vs S).set i (some v)) H
 have fin:∀y,At K H0 Y δ.n (S++⟨some v,y,F⟩::T) H->P ⟨δ.sl.set i y,δ.n⟩->Q ((vs S).set i (some v)) H:=λy hA' p=>by
  rw[<- kM (x:=y) (F:=F)]
  exact k _ _ H (jY hS) hA'.store p
 unfold fZ at hd
 split at hd
 ·exact fin _ hA hd
 ·exact fin _ hA hd
 ·exact hd.elim
section
variable{X:Cx}{pos:Pos}
theorem Ki{i:Nat}{x:Str}(hN:X.N.Nodup)(hi:X.N[i]? = some x)(hx:Loc X.env.scope x)(hf:X.fn x=true\/X.env.scope.names.lookup x=some .local:=by first | exact .inl rfl | exact .inr rfl | assumption):Y5 X (.Name x pos) (Oh i):=PG.imp (Wv hN hi hx hf) cM
theorem Ez{i:Nat}{x:Str}{e:Expr}{de:DE}{pos':Pos}(hN:X.N.Nodup)(hi:X.N[i]? = some x)(hx:Loc X.env.scope x)(he:Eu X e de)(hs:Lg e (some (.Name x pos')) pos.line X.env=pure false:=by rfl)(hf:X.fn x=true\/X.env.scope.names.lookup x=some .local:=by first | exact .inl rfl | exact .inr rfl | assumption):jE X (.Assign [.Name x pos'] e pos) (uK de (Oh i)):=PS.impD (Ur hN hi hx he hs hf) (kZ (λ_ _ _ h=>h) cM)
theorem Oo{i:Nat}{x:Str}{e:Expr}{de:DE}{pos':Pos}(hN:X.N.Nodup)(hi:X.N[i]? = some x)(hx:Loc X.env.scope x)(he:Eu X e de)(hs:Lg e (some (.Name x pos')) pos.line X.env=pure false:=by rfl)(hf:X.fn x=true\/X.env.scope.names.lookup x=some .local:=by first | exact .inl rfl | exact .inr rfl | assumption):jE X (.Assign [.Name x pos'] e pos) (uK de (fZ i)):=PS.impD (Ur hN hi hx he hs hf) (kZ (λ_ _ _ h=>h) rT)
end
def qX:vU:=λxs δ P=>match xs with
 | []=>P δ
 | _=>False
def mQ(g:DG)(gs:vU):vU:=λxs δ P=>match xs with
 | x::r=>g x δ λδ'=>gs r δ' P
 | []=>False
def sN(n:Nat)(gs:vU):DG:=λx δ P=>match x with
 | .dat m (.tuple ds)=>ds.length=n/\gs (ds.map λd=>.dat (Mn m) d) δ P
 | _=>False
theorem At.unpack{K:PySem.W.Frag}{H0 H:Hp}{X:Addr->Prop}{n:Nat}{m:Md}:∀{us:List V} {ds:List Ac} {F:List Addr} {E:List Ent},RdFs K H us ds F->(m=.ow->F.Nodup)->(∀f∈E,Sq ⟨none,.dat (Mn m) .none,F⟩ f)->(∀a∈cells ⟨none,.dat (Mn m) .none,F⟩,H0 a=none)->At K H0 X n E H->∃As:List Ent,As.map Ent.v=us.map some/\As.map Ent.x=ds.map (λd=>.dat (Mn m) d)/\(∀e∈As,∀a∈e.F,a∈F)/\At K H0 X n (As++E) H
 | _,_,_,_,.nil,_,_,_,h=>⟨[],rfl,rfl,λ_ z=>(nomatch z),h⟩
 | _,_,_,E,.cons (x:=x) (d:=d) (F:=F1) (G:=G1) a t,hn,hs,hnew,h=>by
  have cs:∀{G:List Addr} {u:Option V} {d':Ac},(∀b∈G,b∈F1++G1)->∀b∈cells ⟨u,.dat (Mn m) d',G⟩,b∈cells ⟨none,.dat (Mn m) .none,F1++G1⟩:=λ{G u d'} hG b hb=>by
   cases m with
   | ow=>exact hG b hb
   | _=>exact nomatch hb
  have sub:∀{G:List Addr} {u:Option V} {d':Ac} {f:Ent},(∀b∈G,b∈F1++G1)->Sq ⟨none,.dat (Mn m) .none,F1++G1⟩ f->Sq ⟨u,.dat (Mn m) d',G⟩ f:=λ{G u d' f} hG q=>by
   refine ⟨λhp b hb=>q.1 ?_ b (cs hG b hb),λhp b hb z=>q.2 ?_ b hb (hG b z)⟩
   ·rcases hp with hp | hp
    ·exact .inl hp
    ·cases hp
   ·rcases hp with hp | hp
    ·refine .inl ?_
     cases m <;> exact hp
    ·exact .inr hp
  obtain ⟨As,h1,h2,h3,h4⟩:=At.unpack (m:=m) t (λz=>(Fw.mp (hn z)).2.1) (λf hf=>sub (λb hb=>Al _ hb) (hs f hf)) (λb hb=>hnew b (cs (λb hb=>Al _ hb) b hb)) h
  refine ⟨⟨some x,.dat (Mn m) d,F1⟩::As,by rw[Aw,Aw,h1],by rw[Aw,Aw,h2],λe he b hb=>?_,?_⟩
  ·rcases An.mp he with rfl | he
   ·exact Aq _ hb
   ·exact Al _ (h3 e he b hb)
  ·refine h4.push ⟨x,rfl,a,λz=>?_,λz=>?_⟩ (λf hf=>?_) λb hb=>.inl (hnew b (cs (λb hb=>Aq _ hb) b hb))
   ·cases m with
    | ow=>exact (Fw.mp (hn rfl)).1
    | _=>cases z
   ·cases m <;> cases z
   ·rcases Ay.mp hf with hf | hf
    ·have hx:f.x∈As.map Ent.x:=Cc.mpr ⟨f,hf,rfl⟩
     rw[h2] at hx
     obtain ⟨d',_,ed⟩:=Cc.mp hx
     refine ⟨λhp b hb z=>?_,λhp b hb z=>?_⟩
     ·cases m with
      | ow=>exact (Fw.mp (hn rfl)).2.2 b hb b (h3 f hf b z) rfl
      | _=>exact nomatch hb
     ·cases m with
      | ow=>exact (Fw.mp (hn rfl)).2.2 b z b (h3 f hf b (Ga _ _ hb)) rfl
      | _ =>
       unfold cells at hb
       rw[<- ed] at hb
       exact nomatch hb
    ·exact sub (λb hb=>Aq _ hb) (hs f hf)
section
variable{X:Cx}{pos:Pos}
theorem zK:wG X [] qX:=by
 refine K9.imp yG λus σ H Q h=>?_
 obtain ⟨H0,Y,S,T,As,δ,P,rfl,hS,eu,hA,hd,k⟩:=h
 match As,hA,hd,eu with
 | [],hA,hd,eu =>
  cases us with
  | nil=>exact ⟨rfl,k δ S H hS hA hd⟩
  | cons _ _=>cases eu
 | _::_,hA,hd,eu=>exact hd.elim
theorem gB{e:Expr}{es:List Expr}{g:DG}{gs:vU}(h1:Y5 X e g)(h2:wG X es gs)(hs:(Jw (e::es) X.env).map (·.2)=assign e X.env::(Jw es X.env).map (·.2):=by rfl):wG X (e::es) (mQ g gs):=by
 refine K9.imp (sM h1 h2 hs) λus σ H Q h=>?_
 obtain ⟨H0,Y,S,T,As,δ,P,rfl,hS,eu,hA,hd,k⟩:=h
 match As,hA,hd,eu with
 | [],hA,hd,eu=>exact hd.elim
 | ⟨v,x,F⟩::As,hA,hd,eu =>
  cases us with
  | nil=>cases eu
  | cons u us =>
   rw[Aw,Aw] at eu
   obtain ⟨e1,e2⟩:=Fi eu
   have e1':v=some u:=e1
   subst e1'
   refine ⟨u,us,rfl,H0,Y,S,As++T,δ,x,F,_,rfl,hS,hA,hd,λδ' S' H' e3 hA' p=>?_⟩
   exact ⟨H0,Y,S',T,As,δ',P,rfl,e3,e2,hA',p,k⟩
theorem K2{es:List Expr}{kk:Nat}{gs:vU}{n:Nat}(hc:X.calm=true)(h:wG X es gs)(hn:(Jw es X.env).length=n:=by rfl)(hst:(Jw es X.env).findIdx? (·.1)=none:=by rfl):Y5 X (.Tuple es kk pos) (sN n gs):=by
 refine PG.imp (B3 hc h hn hst) λv σ H Q h=>?_
 obtain ⟨H0,Y,S,T,δ,x,F,P,rfl,hS,hA,hd,k⟩:=h
 unfold sN at hd
 split at hd
 ·rename_i m ds
  obtain ⟨a,xs,rfl,ha,ra,hz⟩:=(hA.told mem_mid).tup_inv
  have hm:=hA.mid
  have hp:=Bh.mp hm.sep
  obtain ⟨w,_,_,hnd,_⟩:=hm.ok _ Aa
  have cs:∀b∈cells ⟨none,.dat (Mn m) .none,F⟩,b∈cells ⟨some (.ref a),.dat m (.tuple ds),F⟩:=λb hb=>by
   cases m with
   | ow=>exact hb
   | _=>exact nomatch hb
  obtain ⟨As,h1,h2,h3,h4⟩:=At.unpack (m:=m) (E:=S++T) ra hnd (λf hf=>by
   refine ⟨λhq b hb=>(hp.1 f hf).1 ?_ b (cs b hb),λhq b hb=>(hp.1 f hf).2 ?_ b hb⟩
   ·rcases hq with hq | hq
    ·exact .inl hq
    ·cases hq
   ·rcases hq with hq | hq
    ·refine .inl ?_
     cases m <;> first | rfl | exact hq
    ·exact .inr hq) (λb hb=>by
   rcases hm.new _ Aa b (cs b hb) with z | z
   ·exact z
   ·cases z.2) hA.drop
  refine ⟨a,xs,rfl,Sg.of ha,by rw[ra.len]; exact hd.1,H0,Y,S,T,As,δ,P,rfl,hS,h1,h4.perm ?_,by rw[h2]; exact hd.2,k⟩
  rw[<- Bz,<- Bz]
  exact Em.append_right T
 ·exact hd.elim
end
theorem iZ{K:PySem.W.Frag}{H0 H:Hp}{X:Addr->Prop}{n:Nat}{E:List Ent}(h:At K H0 X n E H):∀{e f:Ent},e∈E->f∈E->e=f\/Sq e f:=by
 have main:∀{E:List Ent},E.Pairwise Sq->∀{e f:Ent},e∈E->f∈E->e=f\/Sq e f:=by
  intro E
  induction E with
  | nil=>intro _ e f he; cases he
  | cons g E ih =>
   intro hp e f he hf
   have hc:=Bh.mp hp
   rcases An.mp he with he | he
   ·subst he
    rcases An.mp hf with hf | hf
    ·exact .inl hf.symm
    ·exact .inr (hc.1 f hf)
   ·rcases An.mp hf with hf | hf
    ·rw[hf]
     exact .inr (hc.1 e he).symm
    ·exact ih hc.2 he hf
 intro e f he hf
 exact main h.sep he hf
abbrev DI:=DS->(Md->List Ac->DS->Prop)->Prop
structure IterOk(K:PySem.W.Frag)(J:It)(hid:List Ent)(m:Md)(ds:List Ac):Prop where
 md:m=.sh\/m=.pk
 hd:∀e∈hid,cells e=[]
 np:m=.sh->∀e∈hid,Mu e.x=false
 go:∀H n i,(∀e∈hid,Jc K H n e)->i<ds.length->J.go i H
 yld:∀H n i x H',(∀e∈hid,Jc K H n e)->i<ds.length->J.yld i H x H'->Wd H H'/\∃d F,ds[i]? = some d/\RdF K H' x d F/\∀a∈F,∃e∈hid,a∈e.F
 stop:∀H n,(∀e∈hid,Jc K H n e)->J.stop ds.length H
def LI(K:PySem.W.Frag)(di:DI):TI:=λσ H R=>∃(H0:Hp) (X:Addr->Prop) (S T:List Ent) (δ:DS) (P:Md->List Ac->DS->Prop),vs S=σ/\Sl S δ/\At K H0 X δ.n (S++T) H/\di δ P /\
 ∀m ds δ' J hid S' H',vs S'=σ->Sl S' δ'->At K H0 X δ'.n (S'++(hid++T)) H'->IterOk K J hid m ds->ds.length<=Ax->P m ds δ'->R J H'
abbrev J3(X:Cx)(tg iter:Expr)(di:DI):Prop:=PI X tg iter (LI X.K di)
theorem PI.imp{X:Cx}{tg e:Expr}{t t':TI}(h:PI X tg e t)(k:∀σ H Q,t' σ H Q->t σ H Q):PI X tg e t':=λpins s σ H Q I q=>h pins s σ H Q I (k σ H Q q)
def Kn:Md->Md
 | .pk=>.pk
 | _=>.sh
theorem cY(m:Md):wk m (Kn m)=true:=by cases m <;> rfl
theorem At.item{K:PySem.W.Frag}{H0 H H':Hp}{X:Addr->Prop}{n:Nat}{S T hid:List Ent}{m:Md}{v:V}{d:Ac}{F:List Addr}(h:At K H0 X n (S++(hid++T)) H)(s:Wd H H')(r:RdF K H' v d F)(hF:∀a∈F,∃e∈hid,a∈e.F)(md:m=.sh\/m=.pk)(hh:∀e∈hid,cells e=[])(np:m=.sh->∀e∈hid,Mu e.x=false):At K H0 X n (S++⟨some v,.dat m d,F⟩::(hid++T)) H':=by
 have h1:=h.grow (n':=n) s (Ah _)
 have c0:∀a,a∉cells ⟨some v,.dat m d,F⟩:=λa ha=>by
  rcases md with rfl | rfl <;> exact nomatch ha
 refine (h1.push (e:=⟨some v,.dat m d,F⟩) ⟨v,rfl,r,λz=>?_,λz=>?_⟩ (λf hf=>⟨λ_ a ha=>absurd ha (c0 a),λhq a ha z=>?_⟩) λa ha=>absurd ha (c0 a)).tomid
 ·rcases md with rfl | rfl <;> cases z
 ·rcases md with rfl | rfl <;> cases z
 ·obtain ⟨e,he,ze⟩:=hF a z
  have he':e∈S++(hid++T):=Al _ (Aq _ he)
  rcases iZ h he' hf with rfl | q
  ·rw[hh e he] at ha
   cases ha
  ·refine q.2 ?_ a ha ze
   rcases hq with hq | hq
   ·refine .inl (np ?_ e he)
    rcases md with rfl | rfl
    ·rfl
    ·cases hq
   ·exact .inr hq
def CG(de:DE):DI:=λδ P=>de δ λx δ'=>match x with
 | .dat m (.list ds)=>P (Kn m) ds δ'
 | .dat m (.tuple ds)=>P (Kn m) ds δ'
 | _=>False
def gZ(da:DA):DI:=λδ P=>da δ λxs δ'=>match xs with
 | [.dat _ (.int j)]=>-1000000<=j/\j<=1000000/\P .sh ((Bp j.toNat).map λi:Nat=>.int i) δ'
 | _=>False
def tR(da:DA):DI:=λδ P=>da δ λxs δ'=>match xs with
 | [.dat m (.list ds)]=>P (Kn m) (ds.zipIdx.map λp=>.tuple [.int p.2,p.1]) δ'
 | _=>False
def Z3(da:DA):DI:=λδ P=>da δ λxs δ'=>match xs with
 | [.dat m (.tuple ds)]=>P (Kn m) (ds.zipIdx.map λp=>.tuple [.int p.2,p.1]) δ'
 | _=>False
section
variable{K:PySem.W.Frag}
theorem Lx{H:Hp}{n:Nat}{v:V}{m:Md}{d:Ac}{F:List Addr}{hid:List Ent}(h:∀e∈hid,Jc K H n e)(he:⟨some v,.dat m d,F⟩∈hid):RdF K H v d F:=by
 obtain ⟨w,e1,h1,_⟩:=h _ he
 cases e1
 exact h1
theorem uS{v:Option V}{m:Md}{d:Ac}{F:List Addr}:cells ⟨v,.dat (Kn m) d,F⟩=[]:=by cases m <;> rfl
theorem jH{v:Option V}{m:Md}{d:Ac}{F:List Addr}:∀e∈[(⟨v,.dat (Kn m) d,F⟩ : Ent)],cells e=[]:=λe he=>by
 rw[Ai.mp he]
 exact uS
theorem sT{v:Option V}{m:Md}{d:Ac}{F:List Addr}:Kn m=.sh->∀e∈[(⟨v,.dat (Kn m) d,F⟩ : Ent)],Mu e.x=false:=λz e he=>by
 rw[Ai.mp he]
 show Mu (.dat (Kn m) d)=false
 rw[z]
 rfl
theorem bV(m:Md):Kn m=.sh\/Kn m=.pk:=by cases m <;> simp [Kn]
theorem qF{a:Addr}{m:Md}{ds:List Ac}{F:List Addr}:IterOk K (AD K a) [⟨some (.ref a),.dat (Kn m) (.list ds),F⟩] (Kn m) ds where
 md:=bV m
 hd:=jH
 np:=sT
 go:=λH n i h hi=>by
  obtain ⟨b,xs,G,e,hb,rb,_,_⟩:=(Lx h Aa).list_inv
  cases e
  have hl:=rb.len
  exact ⟨xs,xs[i],Sn.of hb,by simp [show i<xs.length by omega]⟩
 yld:=λH n i x H' h hi y=>by
  obtain ⟨b,xs,G,e,hb,rb,rfl,_⟩:=(Lx h Aa).list_inv
  cases e
  obtain ⟨rfl,y⟩:=y
  have hx:=y xs (Sn.of hb)
  obtain ⟨x',F',h1,h2,h3⟩:=rb.get (i:=i) (e:=ds[i]) (by simp [hi])
  rw[hx] at h1
  cases h1
  exact ⟨Wd.refl _,ds[i],F',by simp [hi],h2,λc hc=>⟨_,Aa,Af _ (h3.subset hc)⟩⟩
 stop:=λH n h=>by
  obtain ⟨b,xs,G,e,hb,rb,_,_⟩:=(Lx h Aa).list_inv
  cases e
  exact ⟨xs,Sn.of hb,by rw[rb.len]; exact Ah _⟩
theorem rZ{a:Addr}{m:Md}{ds:List Ac}{F:List Addr}:IterOk K (BO K a) [⟨some (.ref a),.dat (Kn m) (.tuple ds),F⟩] (Kn m) ds where
 md:=bV m
 hd:=jH
 np:=sT
 go:=λH n i h hi=>by
  obtain ⟨b,xs,e,hb,rb,_⟩:=(Lx h Aa).tup_inv
  cases e
  have hl:=rb.len
  exact ⟨xs,xs[i],Sg.of hb,by simp [show i<xs.length by omega]⟩
 yld:=λH n i x H' h hi y=>by
  obtain ⟨b,xs,e,hb,rb,_⟩:=(Lx h Aa).tup_inv
  cases e
  obtain ⟨rfl,y⟩:=y
  have hx:=y xs (Sg.of hb)
  obtain ⟨x',F',h1,h2,h3⟩:=rb.get (i:=i) (e:=ds[i]) (by simp [hi])
  rw[hx] at h1
  cases h1
  exact ⟨Wd.refl _,ds[i],F',by simp [hi],h2,λc hc=>⟨_,Aa,h3.subset hc⟩⟩
 stop:=λH n h=>by
  obtain ⟨b,xs,e,hb,rb,_⟩:=(Lx h Aa).tup_inv
  cases e
  exact ⟨xs,Sg.of hb,by rw[rb.len]; exact Ah _⟩
theorem kO{lo:Int}{n:Nat}:IterOk K (W9 lo n) [] .sh ((Bp n).map λi:Nat=>.int (lo+i)) where
 md:=.inl rfl
 hd:=λ_ z=>nomatch z
 np:=λ_ _ z=>nomatch z
 go:=λH k i h hi=>by
  show i<n
  simpa using hi
 yld:=λH k i x H' h hi y=>by
  obtain ⟨rfl,rfl⟩:=y
  rw[Ad,Dg] at hi
  exact ⟨Wd.refl _,.int (lo+i),[],by simp [hi],.int _,λ_ z=>nomatch z⟩
 stop:=λH k h=>by simp [W9]
theorem oW{a:Addr}{m:Md}{ds:List Ac}{F:List Addr}:IterOk K (AL K a) [⟨some (.ref a),.dat (Kn m) (.list ds),F⟩] (Kn m) (ds.zipIdx.map λp=>.tuple [.int p.2,p.1]) where
 md:=bV m
 hd:=jH
 np:=sT
 go:=λH n i h hi=>by
  obtain ⟨b,xs,G,e,hb,rb,_,_⟩:=(Lx h Aa).list_inv
  cases e
  have hl:=rb.len
  rw[Ad,Kr] at hi
  exact ⟨xs,xs[i],Sn.of hb,by simp [show i<xs.length by omega]⟩
 yld:=λH n i x H' h hi y=>by
  obtain ⟨b,xs,G,e,hb,rb,rfl,_⟩:=(Lx h Aa).list_inv
  cases e
  rw[Ad,Kr] at hi
  obtain ⟨t,z,rfl,nt,rfl,y⟩:=y
  have hx:=y xs (Sn.of hb)
  obtain ⟨x',F',h1,h2,h3⟩:=rb.get (i:=i) (e:=ds[i]) (by simp [hi])
  rw[hx] at h1
  cases h1
  have s1:=Ft nt (.tup [.int i,z])
  refine ⟨s1,.tuple [.int i,ds[i]],F',by simp [hi],.tup Du (by simp [Jt]) ?_,λc hc=>⟨_,Aa,Af _ (h3.subset hc)⟩⟩
  have:=RdFs.cons (F:=[]) (.int (i:Int)) (RdFs.cons (h2.kp (Kp.of s1)) RdFs.nil)
  rw[Dz] at this
  exact this
 stop:=λH n h=>by
  obtain ⟨b,xs,G,e,hb,rb,_,_⟩:=(Lx h Aa).list_inv
  cases e
  exact ⟨xs,Sn.of hb,by rw[Ad,Kr,rb.len]; exact Ah _⟩
end
section
variable{X:Cx}{tg e:Expr}{de:DE}{di:DI}
def dL(de:DE):DI:=λδ P=>de δ λx δ'=>match x with
 | .dat m (.list ds)=>P (Kn m) ds δ'
 | _=>False
def BX(de:DE):DI:=λδ P=>de δ λx δ'=>match x with
 | .dat m (.tuple ds)=>P (Kn m) ds δ'
 | _=>False
theorem o8(h:Eu X e de):J3 X tg e (dL de):=by
 refine PI.imp (zQ h) λσ H R h=>?_
 obtain ⟨H0,Y,S,T,δ,P,rfl,hS,hA,hd,k⟩:=h
 refine ⟨H0,Y,S,T,δ,_,rfl,hS,hA,hd,λx δ1 v F S1 H1 e1 e2 hA1 p1=>?_⟩
 split at p1
 ·obtain ⟨a,xs,G,rfl,ha,ra,rfl,hz⟩:=(hA1.told mem_mid).list_inv
  exact ⟨a,rfl,⟨xs,Sn.of ha⟩,k _ _ δ1 _ [_] S1 H1 e1 e2 ((hA1.mid.wk (cY _)).tomid) qF hz p1⟩
 ·exact p1.elim
theorem BN(h:Eu X e de):J3 X tg e (BX de):=by
 refine PI.imp (K0 h) λσ H R h=>?_
 obtain ⟨H0,Y,S,T,δ,P,rfl,hS,hA,hd,k⟩:=h
 refine ⟨H0,Y,S,T,δ,_,rfl,hS,hA,hd,λx δ1 v F S1 H1 e1 e2 hA1 p1=>?_⟩
 split at p1
 ·obtain ⟨a,xs,rfl,ha,ra,hz⟩:=(hA1.told mem_mid).tup_inv
  exact ⟨a,rfl,⟨xs,Sg.of ha⟩,k _ _ δ1 _ [_] S1 H1 e1 e2 ((hA1.mid.wk (cY _)).tomid) rZ hz p1⟩
 ·exact p1.elim
variable{es:List Expr}{da:DA}{a b:Expr}{p pos tp:Pos}{elts:List Expr}{kt:Nat}
theorem Jo(hg:Gl X "range")(hm:X.mg "range" = none)(ha:kT X [a] da)(hs:Bs [a] X.env=[(false,eval a X.env)]:=by rfl):J3 X tg (.Call (.Name "range" p) [a] [] pos) (gZ da):=by
 refine PI.imp (qC hg hm ha hs) λσ H R h=>?_
 obtain ⟨H0,Y,S,T,δ,P,rfl,hS,hA,hd,k⟩:=h
 refine ⟨H0,Y,S,T,δ,_,rfl,hS,hA,hd,λxs δ' As us S' H' e1 e2 ex eu hA' p=>?_⟩
 split at p
 ·obtain ⟨v,F,rfl,hA2⟩:=Hx eu hA' ex
  obtain ⟨rfl,_⟩:=(hA2.told mem_mid).int_inv
  obtain ⟨j0,j1,pp⟩:=p
  refine ⟨_,rfl,by omega,by omega,k _ _ δ' _ [] S' H' e1 e2 hA2.drop kO (by rw[Ad,Dg]; exact pK (by omega)) ?_⟩
  simpa using pp
 ·exact p.elim
theorem zO(hg:Gl X "enumerate")(hm:X.mg "enumerate" = none)(ha:kT X [a] da)(hs:Bs [a] X.env=[(false,eval a X.env)]:=by rfl):J3 X (.Tuple elts kt tp) (.Call (.Name "enumerate" p) [a] [] pos) (tR da):=by
 refine PI.imp (xJ hg hm ha hs) λσ H R h=>?_
 obtain ⟨H0,Y,S,T,δ,P,rfl,hS,hA,hd,k⟩:=h
 refine ⟨H0,Y,S,T,δ,_,rfl,hS,hA,hd,λxs δ' As us S' H' e1 e2 ex eu hA' p=>?_⟩
 split at p
 ·obtain ⟨v,F,rfl,hA2⟩:=Hx eu hA' ex
  obtain ⟨a,xs,G,rfl,ha,ra,rfl,hz⟩:=(hA2.told mem_mid).list_inv
  exact ⟨a,rfl,⟨xs,Sn.of ha⟩,k _ _ δ' _ [_] S' H' e1 e2 ((hA2.mid.wk (cY _)).tomid) oW (by rw[Ad,Kr]; exact hz) p⟩
 ·exact p.elim
end
def O8(di:DI)(dg:DG)(db:DB):DB:=λD δ=>di δ λm ds δ1=>m=.sh/\∃I:Nat->DS->Prop,I 0 δ1 /\
 (∀i d δ',ds[i]? = some d->I i δ'->dg (.dat .sh d) δ' λδ2=>db { D with nx:=I (i+1),ct:=I (i+1),bk:=D.nx } δ2)/\∀δ',I ds.length δ'->D.nx δ'
section
variable{X:Cx}{tg iter:Expr}{di:DI}{dg:DG}{db:DB}{body:List Stmt}{pos:Pos}
theorem At.dropH{K:PySem.W.Frag}{H0 H:Hp}{X:Addr->Prop}{n:Nat}{S T hid:List Ent}{e:Ent}(h:At K H0 X n (S++e::(hid++T)) H):At K H0 X n (S++e::T) H:=h.sub ((Eh S).append ((Dt hid T).cons₂ e))
theorem Nl(hp:PassesOwn (model X.prog X.w) X.A X.env X.xe)(hc:X.calm=true)(hi:J3 X tg iter di)(hg:Y5 X tg dg)(hb:Wh X body db)(hs:∀x,Jl iter X.env x=pure x:=by intro _; rfl):jE X (.For tg iter body [] pos) (O8 di dg db):=by
 refine PS.impD (A5 hp hc hi hg hb hs) λD σ H h=>?_
 obtain ⟨H0,Y,S,T,δ,P,rfl,hS,hT,hA,hd,k1,k2,k3,k4⟩:=h
 refine ⟨H0,Y,S,T,δ,_,rfl,hS,hA,hd,λm ds δ1 J hid S1 H1 e1 e2 hA1 it hz p1=>?_⟩
 obtain ⟨rfl,I,h0,hs,hf⟩:=p1
 rw[<- e1]
 have hT':∀e∈hid++T,Mu e.x=false:=λe he=>by
  rcases Ay.mp he with he | he
  ·exact it.np rfl e he
  ·exact hT e he
 refine ⟨λi q σ H=>q=ds.length - i/\i<=ds.length/\∃S δ,vs S=σ/\Sl S δ/\At X.K H0 Y δ.n (S++(hid++T)) H/\I i δ,⟨ds.length,by simp,Ds _,S1,δ1,rfl,e2,hA1,h0⟩,?_⟩
 (intro i q σ H q_; obtain ⟨rfl,hi,S2,δ2,rfl,e3,hA2,hI⟩ := q_)
 have hid_ok:∀e∈hid,Jc X.K H δ2.n e:=λe he=>hA2.ok e (Al _ (Aq _ he))
 by_cases hlt:i<ds.length
 ·refine .inr ⟨it.go H δ2.n i hid_ok hlt,λσ' H'=>∃S δ,vs S=σ'/\Sl S δ/\At X.K H0 Y δ.n (S++(hid++T)) H'/\I (i+1) δ,λσ' H' q=>⟨ds.length - (i+1),by omega,rfl,hlt,q⟩,λx H' y=>?_⟩
  obtain ⟨s1,d,F,h1,h2,h3⟩:=it.yld H δ2.n i x H' hid_ok hlt y
  refine ⟨H0,Y,S2,hid++T,δ2,.dat .sh d,F,_,rfl,e3,hA2.item s1 h2 h3 it.md it.hd it.np,hs i d δ2 h1 hI,λδ3 S3 H3 e4 hA3 p3=>?_⟩
  refine ⟨H0,Y,S3,hid++T,δ3,_,rfl,e4,hT',hA3,p3,λδ4 S4 H4 e5 hA4 p4=>⟨S4,δ4,rfl,e5,hA4,p4⟩,λx δ4 v F S4 H4 e5 hA4 p4=>k2 x δ4 v F S4 H4 e5 hA4.dropH p4,
   λδ4 S4 H4 e5 hA4 p4=>k1 δ4 S4 H4 e5 hA4.dropL p4,λδ4 S4 H4 e5 hA4 p4=>⟨S4,δ4,rfl,e5,hA4,p4⟩⟩
 ·have e:i=ds.length:=by omega
  subst e
  exact .inl ⟨it.stop H δ2.n hid_ok,k1 δ2 S2 H e3 hA2.dropL (hf δ2 hI)⟩
end
def sZ(dt:DT)(db:DB):DB:=λD δ=>∃(I:DS->Prop) (μ:DS->Nat),I δ/\∀δ',I δ'->dt δ' λb δ2=>match b with
 | true=>db { D with nx:=λδ3=>I δ3/\μ δ3<μ δ',ct:=λδ3=>I δ3/\μ δ3<μ δ',bk:=D.nx } δ2
 | false=>D.nx δ2
end DL
namespace Nd
open PySem PySem.Spec PyProof.Rows L2
end Nd
namespace DL
open PySem L2 Nd
def al(e:Ent):Ent:=match e.x with
 | .dat m d=>⟨e.v,.dat (eR m) d,e.F⟩
 | .val _=>e
 | .scr _=>e
 | _=>⟨e.v,.un,[]⟩
def alD:DV->DV
 | .dat m d=>.dat (eR m) d
 | .val v=>.val v
 | .scr ns=>.scr ns
 | _=>.un
def rX(S:List Ent)(j:Nat):Ent:=match S[j]? with
 | some e=>al e
 | none=>⟨none,.un,[]⟩
def wM(S:List Ent)(js:List Nat):List Ent:=js.map (rX S)
def frD1(sl:List DV)(j:Nat):DV:=match sl[j]? with
 | some x=>alD x
 | none=>.un
def frD(sl:List DV)(js:List Nat):List DV:=js.map (frD1 sl)
theorem AH(e:Ent):(al e).v=e.v:=by
 obtain ⟨v,x,F⟩:=e
 cases x <;> rfl
theorem BL(e:Ent):(al e).x=alD e.x:=by
 obtain ⟨v,x,F⟩:=e
 cases x <;> rfl
theorem T3(S:List Ent)(js:List Nat):vs (wM S js)=Jp (vs S) js:=by
 unfold vs wM Jp
 rw[Ei]
 refine Gb λj _=>?_
 rw[Bt]
 simp only[Ro,rX]
 cases S[j]? with
 | none=>rfl
 | some e=>exact AH e
theorem W5{S:List Ent}{δ:DS}(h:Sl S δ)(js:List Nat):(wM S js).map Ent.x=frD δ.sl js:=by
 unfold Sl at h
 unfold wM frD
 rw[Ei]
 refine Gb λj _=>?_
 simp only[Ro,rX,frD1]
 rw[<- h,Bt]
 cases S[j]? with
 | none=>rfl
 | some e=>exact BL e
section
variable{K:PySem.W.Frag}{H0 H H':Hp}{X:Addr->Prop}{n:Nat}{E S T:List Ent}
theorem iE(e:Ent):cells (al e)=[]:=by
 obtain ⟨v,x,F⟩:=e
 cases x with
 | dat m d=>cases m <;> rfl
 | _=>rfl
theorem At.view1(h:At K H0 X n E H){e:Ent}(he:e∈E):At K H0 X n (al e::E) H:=by
 refine h.push ?_ (λf hf=>⟨λ_ a ha=>(by rw[iE] at ha; cases ha),λhq a ha z=>?_⟩) λa ha=>(by rw[iE] at ha; cases ha)
 ·have:=h.ok e he
  obtain ⟨v,x,F⟩:=e
  cases x with
  | dat m d =>
   obtain ⟨w,h1,h2,_⟩:=this
   exact ⟨w,h1,h2,λz=>(by cases m <;> cases z),λz=>(by cases m <;> cases z)⟩
  | val v=>exact this
  | scr ns=>exact this
  | _=>exact (rfl:([]:List Addr)=[])
 ·obtain ⟨v,x,F⟩:=e
  cases x with
  | dat m d =>
   rcases iZ h he hf with rfl | q
   ·rcases hq with hq | hq
    ·cases m <;> first | cases hq; done | exact nomatch ha
    ·cases hq
   ·refine q.2 ?_ a ha z
    rcases hq with hq | hq
    ·refine .inl ?_
     cases m <;> first | rfl | exact hq
    ·exact .inr hq
  | val v =>
   rw[show F=[] from (h.ok _ he).2] at z
   cases z
  | scr ns =>
   obtain ⟨_,_,hF,_⟩:=h.ok _ he
   rw[show F=[] from hF] at z
   cases z
  | _=>exact nomatch z
theorem At.blank(h:At K H0 X n E H){v:Option V}:At K H0 X n (⟨v,.un,[]⟩::E) H :=
 h.push (rfl:([]:List Addr)=[]) (λf _=>⟨λ_ a ha=>(nomatch ha),λ_ a _=>Bv⟩) (λa ha=>(nomatch ha))
theorem At.view(h:At K H0 X n E H)(hS:∀e∈S,e∈E):∀js:List Nat,At K H0 X n (wM S js++E) H
 | []=>h
 | j::js=>by
  have ih:=At.view h hS js
  show At K H0 X n (rX S j::(wM S js++E)) H
  unfold rX
  cases e:S[j]? with
  | none=>exact ih.blank
  | some x=>exact ih.view1 (Al _ (hS x (Bc e)))
theorem At.accNew(h:At K H0 X n E H){D:Addr}(hD:H D=Option.none):At K H0 X n (⟨some (.ref D),.acc [],[D]⟩::E) (upd H D (.lst [])):=by
 have s1:=Ft hD (.lst [])
 refine (h.grow (n':=n) s1 (Ah _)).push ⟨D,[],[],rfl,rfl,Du,.nil,Ds _,Bv⟩ (λf hf=>?_) λa ha=>?_
 ·have nf:=h.free hD f hf
  refine ⟨λ_ a ha z=>?_,λ_ a ha z=>?_⟩
  ·rw[Ai.mp ha] at z
   exact nf z
  ·rw[Ai.mp z] at ha
   exact nf (Ga _ _ ha)
 ·rw[Ai.mp ha]
  exact .inl (h.new0 hD)
theorem At.accPutG{D:Addr}{ds:List Ac}{v:V}{m:Md}{e:Ac}{F G:List Addr}(h:At K H0 X n (⟨some (.ref D),.acc ds,D::G⟩::⟨some v,.dat m e,F⟩::E) H)(hm:m≠.pk)(hz:ds.length+1<=Ax):∃xs,H D=some (.lst xs)/\xs.length=ds.length/\At K H0 X n (⟨some (.ref D),.acc (ds++[e]),D::(G++F)⟩::E) (upd H D (.lst (xs++[v]))):=by
 obtain ⟨a,xs,G',e1,e0,ha,ra,_,nG⟩:=h.ok _ Aa
 have e1':some (V.ref D)=some (V.ref a):=e1
 cases e1'
 have e0':D::G=D::G':=e0
 cases e0'
 have r:RdF K H v e F:=h.told (Af _ Aa)
 have hs:=Bh.mp h.sep
 have hs2:=Bh.mp hs.2
 have h1:=(h.sub (Df _ _)).sub (Df _ _)
 have npk:Mu (.dat m e)=false:=by cases m <;> first | rfl | exact absurd rfl hm
 have nF:D∉F:=(hs.1 _ Aa).1 (.inr rfl) D Aa
 have kp:∀{F:List Addr},D∉F->Kp F H (upd H D (.lst (xs++[v]))):=λ{F} hF b o q z=>by
  have : b≠D:=by
   rintro rfl
   rw[ha] at q
   cases q
   rcases z with z | z
   ·exact hF z
   ·rcases z with ⟨_,z⟩ | ⟨_,_,z⟩ <;> cases z
  rw[Eg this]
  exact q
 have nD:H0 D=Option.none:=by
  rcases h.new _ Aa D Aa with z | z
  ·exact z
  ·cases z.2
 refine ⟨xs,ha,ra.len,?_⟩
 refine ⟨λf hf=>?_,?_,λf hf=>?_,λb o nx q=>?_,λb o q=>?_,λb hb=>?_⟩
 rotate_right
 ·obtain ⟨z,c,k,f,h1,h2⟩:=h.xd b hb
  refine ⟨z,c,k,f,(Eg ?_).trans h1,h2⟩
  rintro rfl
  exact z nD
 ·rcases An.mp hf with rfl | hf
  ·exact ⟨D,xs++[v],G++F,rfl,rfl,Du,(ra.kp (kp nG)).snoc (r.kp (kp nF)),by rw[Bn]; exact hz,λz=>(Ay.mp z).elim nG nF⟩
  ·exact (h1.ok f hf).kp (kp ((hs.1 f (Af _ hf)).1 (.inr rfl) D Aa)) (Ah _)
 ·refine Bh.mpr ⟨λf hf=>⟨λhq a ha'=>(hs.1 f (Af _ hf)).1 (.inr rfl) a ha',λhq a ha' z=>?_⟩,hs2.2⟩
  have z1:=(hs.1 f (Af _ hf)).2 (.inl rfl) a ha'
  rcases An.mp z with z | z
  ·exact z1 (z▸Aa)
  ·rcases Ay.mp z with z | z
   ·exact z1 (Af _ z)
   ·exact (hs2.1 f hf).2 (.inl npk) a ha' z
 ·rcases An.mp hf with rfl | hf
  ·intro a ha'
   rw[Ai.mp ha']
   exact .inl nD
  ·exact h1.new f hf
 ·rw[Eg (Fo q nD)]
  exact h.same b o nx q
 ·rw[Eg (Fo q nD)]
  exact h.dom b o q
theorem At.accPut{D:Addr}{ds:List Ac}{v:V}{e:Ac}(h:At K H0 X n (⟨some (.ref D),.acc ds,[D]⟩::E) H)(r:RdF K H v e [])(hz:ds.length+1<=Ax):∃xs,H D=some (.lst xs)/\xs.length=ds.length/\At K H0 X n (⟨some (.ref D),.acc (ds++[e]),[D]⟩::E) (upd H D (.lst (xs++[v]))) :=
 At.accPutG (m:=.ow) (At.pushI (S:=[⟨some (.ref D),.acc ds,[D]⟩]) h r) (by decide) hz
def mJ:Bool->Md
 | true=>.ow
 | false=>.tp
theorem At.accGetG{D:Addr}{ds:List Ac}{b:Bool}{G:List Addr}(h:At K H0 X n (⟨some (.ref D),.acc ds,D::G⟩::E) H)(hb:b=true->G=[]):At K H0 X n (⟨some (.ref D),.dat (mJ b) (.list ds),D::G⟩::E) H:=by
 obtain ⟨a,xs,G',e1,e0,ha,ra,hz,nG⟩:=h.ok _ Aa
 have e1':some (V.ref D)=some (V.ref a):=e1
 cases e1'
 have e0':D::G=D::G':=e0
 cases e0'
 have hs:=Bh.mp h.sep
 have cs:∀a∈cells ⟨some (.ref D),.dat (mJ b) (.list ds),D::G⟩,a=D:=λa ha'=>by
  cases b with
  | true=>rw[hb rfl] at ha'; exact Ai.mp ha'
  | false=>exact Ai.mp ha'
 refine (h.sub (Df _ _)).push ⟨_,rfl,.lst ha hz ra,λz=>?_,λ_ a l e=>?_⟩ (λf hf=>⟨λhq a ha'=>?_,λhq a ha'=>(hs.1 f hf).2 (.inl rfl) a ha'⟩) λa ha'=>?_
 ·cases b with
  | true=>rw[hb rfl]; exact Ci.mpr ⟨Bv,Cz⟩
  | false=>cases z
 ·have e:D::G=a::l:=e
  cases e
  exact nG
 ·rw[cs a ha']
  exact (hs.1 f hf).1 (.inr rfl) D Aa
 ·rw[cs a ha']
  rcases h.new _ Aa D Aa with z | z
  ·exact .inl z
  ·cases z.2
end
def cQ:DT:=λδ P=>P true δ
def F4(b:Bool)(m:Md)(e:Ac):Prop:=match b with
 | true=>imm e=true
 | false=>m≠.pk
def Uz(b:Bool)(dc:DT)(de:DE)(δ:DS)(yes:Ac->Nat->Prop)(no:Nat->Prop):Prop:=dc δ λc δ2=>match c with
 | true=>de δ2 λy δ3=>match y with
  | .dat m e=>F4 b m e/\yes e δ3.n
  | _=>False
 | false=>no δ2.n
def uR(b:Bool)(di:DI)(js:List Nat)(dc:DT)(de:DE):DE:=λδ P=>di δ λm ds δ1=>∃I:Nat->List Ac->Nat->Prop,I 0 [] δ1.n /\
 (∀i d acc n,ds[i]? = some d->I i acc n->Uz b dc de ⟨.dat m d::frD δ1.sl js,n⟩ (λe n'=>I (i+1) (acc++[e]) n') (λn'=>I (i+1) acc n')) /\
 ∀acc n,I ds.length acc n->P (.dat (mJ b) (.list acc)) ⟨δ1.sl,n⟩
def Sy:DT->DE->DS->(Ac->Nat->Prop)->(Nat->Prop)->Prop:=Uz true
def uV:DI->List Nat->DT->DE->DE:=uR true
section
variable{K:PySem.W.Frag}{H0 H H':Hp}{Y:Addr->Prop}{n:Nat}{E S T:List Ent}
theorem rQ{b:Bool}{dc:DT}{de:DE}{δ:DS}{yes:Ac->Nat->Prop}{no:Nat->Prop}{D:Addr}{G:List Addr}{acc:List Ac}{N1:Hp->Prop}{N2:VK}(hS:Sl S δ)(hb:b=true->G=[])(hA:At K H0 Y δ.n (S++⟨some (.ref D),.acc acc,D::G⟩::T) H)(h:Uz b dc de δ yes no)(hz:acc.length+1<=Ax)(k1:∀n' H',At K H0 Y n' (⟨some (.ref D),.acc acc,D::G⟩::T) H'->no n'->N1 H')(k2:∀e n' v H' G',(b=true->G'=[])->(∃xs,H' D=some (.lst xs)/\xs.length=acc.length/\At K H0 Y n' (⟨some (.ref D),.acc (acc++[e]),D::G'⟩::T) (upd H' D (.lst (xs++[v]))))->yes e n'->N2 v H'):LT K dc (vs S) H λc H2=>if c=true then LE K de (vs S) H2 N2 else N1 H2:=by
 refine ⟨H0,Y,S,⟨some (.ref D),.acc acc,D::G⟩::T,δ,_,rfl,hS,hA,h,λc δ2 S2 H2 e1 e2 hA2 p2=>?_⟩
 cases c with
 | false=>exact sW (k1 _ _ (hA2.sub (Dt _ _)) p2)
 | true =>
  refine vK ⟨H0,Y,S2,⟨some (.ref D),.acc acc,D::G⟩::T,δ2,_,e1,e2,hA2,p2,λy δ3 v F S3 H3 e3 e4 hA3 p3=>?_⟩
  split at p3
  ·rename_i m e
   have r:=hA3.told mem_mid
   cases b with
   | true =>
    obtain rfl:=r.imm p3.1
    obtain rfl:=hb rfl
    exact k2 _ _ _ _ [] (λ_=>rfl) ((hA3.drop.sub (Dt _ _)).accPut r hz) p3.2
   | false =>
    have hA4:At K H0 Y δ3.n (⟨some v,.dat m e,F⟩::⟨some (.ref D),.acc acc,D::G⟩::T) H3:=hA3.sub (Dt _ _)
    exact k2 _ _ _ _ (G++F) (λz=>nomatch z) ((hA4.perm (Ij _ _ _)).accPutG p3.1 hz) p3.2
  ·exact p3.elim
theorem pY{dt:TT}:∀σ H Q,LT K cQ σ H Q->cG σ H Q:=by
 intro σ H Q h
 obtain ⟨H0,Y,S,T,δ,P,rfl,hS,hA,hd,k⟩:=h
 exact k true δ S H rfl hS hA hd
theorem vT.imp{X:Cx}{e:List Expr}{t t':TT}(h:vT X e t)(k:∀σ H Q,t' σ H Q->t σ H Q):vT X e t':=λpins s σ H Q I q=>h pins s σ H Q I (k σ H Q q)
theorem nM{b:Bool}{di:DI}{js:List Nat}{dc:DT}{de:DE}:∀σ H Q,LE K (uR b di js dc de) σ H Q->mZ (LI K di) js (LT K dc) (LE K de) σ H Q:=by
 intro σ H Q h
 obtain ⟨H0,Y,S,T,δ,P,rfl,hS,hA,hd,k⟩:=h
 refine ⟨H0,Y,S,T,δ,_,rfl,hS,hA,hd,λm ds δ1 J hid S1 H1 e1 e2 hA1 it hz p1=>?_⟩
 obtain ⟨I,h0,hs,hf⟩:=p1
 rw[<- e1]
 intro D hD
 refine ⟨λi q H=>q=ds.length - i/\i<=ds.length/\∃acc n G,(b=true->G=[])/\At K H0 Y n (⟨some (.ref D),.acc acc,D::G⟩::(S1++(hid++T))) H/\acc.length<=i/\I i acc n,⟨ds.length,by simp,Ds _,[],δ1.n,[],λ_=>rfl,hA1.accNew hD,Ah _,h0⟩,?_⟩
 (intro i q H q_; obtain ⟨rfl,hi,acc,n,G,hG,hA2,hl,hI⟩ := q_)
 have hid_ok:∀e∈hid,Jc K H n e:=λe he=>hA2.ok e (Af _ (Al _ (Aq _ he)))
 by_cases hlt:i<ds.length
 ·refine .inr ⟨it.go H n i hid_ok hlt,λx H' y=>?_⟩
  obtain ⟨s1,d,F,h1,h2,h3⟩:=it.yld H n i x H' hid_ok hlt y
  have hA3:At K H0 Y n ((⟨some (.ref D),.acc acc,D::G⟩::S1)++⟨some x,.dat m d,F⟩::(hid++T)) H':=At.item (S:=⟨some (.ref D),.acc acc,D::G⟩::S1) hA2 s1 h2 h3 it.md it.hd it.np
  have hA4:=hA3.mid
  have hA5:=At.view (S:=S1) hA4 (λe he=>Af _ (Aq _ (Af _ he))) js
  have hA6:At K H0 Y n ((⟨some x,.dat m d,F⟩::wM S1 js)++⟨some (.ref D),.acc acc,D::G⟩::(S1++(hid++T))) H':=hA5.mid
  have hS6:Sl (⟨some x,.dat m d,F⟩::wM S1 js) ⟨.dat m d::frD δ1.sl js,n⟩:=by
   unfold Sl
   rw[Aw,W5 e2]
  have hv:vs (⟨some x,.dat m d,F⟩::wM S1 js)=some x::Jp (vs S1) js:=by
   rw[<- T3]
   rfl
  refine ⟨λH2=>∃m',m'<ds.length - i/\_,λy H3=>∃acc,H3 D=some (.lst acc)/\acc.length<Ax/\∃m',m'<ds.length - i/\_,λH2 q=>q,λy H3 q=>q,?_⟩
  rw[<- hv]
  refine rQ hS6 hG hA6 (hs i d acc n h1 hI) (by omega) (λn' H2 hA7 p=>?_) (λe n' v H2 G' hG' hA7 p=>?_)
  ·exact ⟨ds.length - (i+1),by omega,rfl,hlt,acc,n',G,hG,hA7,by omega,p⟩
  ·obtain ⟨xs,g1,g2,g3⟩:=hA7
   exact ⟨xs,g1,by omega,ds.length - (i+1),by omega,rfl,hlt,acc++[e],n',G',hG',g3,by rw[Bn]; simp; omega,p⟩
 ·have e:i=ds.length:=by omega
  subst e
  refine .inl ⟨it.stop H n hid_ok,k _ ⟨δ1.sl,n⟩ _ (D::G) S1 H e1 e2 ?_ (hf acc n hI)⟩
  have hA3:=hA2.accGetG hG
  have hA4:At K H0 Y n (⟨some (.ref D),.dat (mJ b) (.list acc),D::G⟩::(S1++T)) H:=hA3.sub (((Eh S1).append (Dt hid T)).cons₂ _)
  exact hA4.tomid
end
section
variable{X:Cx}{elt iter c:Expr}{x x2 y0:Str}{px px2 pt py pos spos:Pos}{kt i0:Nat}{ifs:List Expr}{scope:Scope}{cl:List (Str×Addr)}{ys:List Str}{js:List Nat}{di:DI}{dc:DT}{de:DE}
theorem gP:vT X [] (LT X.K cQ):=vT.imp uW (pY (dt:=cG))
theorem Nc(h:Zl X c dc):vT X [c] (LT X.K dc):=xG h
theorem Ma(C:CompScope X scope cl x ys js)(hc:X.calm=true)(hi:J3 X (.Name x px) iter di)(ht:∀fp s H,vT (He X scope cl (x::ys) fp s H) ifs (LT X.K dc))(he:∀fp s H,Eu (He X scope cl (x::ys) fp s H) elt de)(hs:∀x,Jl iter X.env x=pure x:=by intro _; rfl):Eu X (.ListComp elt [⟨.Name x px,iter,ifs,0⟩] scope pos) (uV di js dc de):=PE.imp (zW C hc hi ht he hs) nM
def BB(o:Bool)(i:Nat):DG:=match o with
 | true=>fZ i
 | false=>Oh i
theorem AX{K:PySem.W.Frag}{o:Bool}{i:Nat}:∀v σ H Q,LG K (BB o i) v σ H Q->bO i v σ H Q:=by
 cases o with
 | true=>exact rT
 | false=>exact cM
theorem zE{o:Bool}(hN:X.N.Nodup)(hi0:X.N[i0]? = some y0)(hy0:X.env.scope.names.lookup y0=some .local)(C:CompScope X scope cl x ys js)(hc:X.calm=true)(hi:J3 X (.Name x px) iter di)(ht:∀fp s H,vT (He X scope cl (x::ys) fp s H) ifs (LT X.K dc))(he:∀fp s H,Eu (He X scope cl (x::ys) fp s H) elt de)(hs:∀x,Jl iter X.env x=pure x:=by intro _; rfl)(hsw:Lg (.ListComp elt [⟨.Name x px,iter,ifs,0⟩] scope pos) (some (.Name y0 py)) spos.line X.env=pure true:=by rfl):jE X (.Assign [.Name y0 py] (.ListComp elt [⟨.Name x px,iter,ifs,0⟩] scope pos) spos) (uK (uV di js dc de) (BB o i0)):=PS.impD (vZ hN hi0 hy0 C hc hi ht he hs hsw) (kZ nM AX)
end
end DL
namespace DL
open PySem PySem.Spec PyProof.Rows L2 Nd
section
variable{K:PySem.W.Frag}{H0 H H':Hp}{X:Addr->Prop}{n n':Nat}{E S T:List Ent}
theorem At.pushF(h:At K H0 X n E H){v:V}{d:Ac}{F:List Addr}(r:RdF K H v d F)(nd:F.Nodup)(fr:∀a∈F,∀f∈E,a∉f.F)(f0:∀a∈F,H0 a=none):At K H0 X n (⟨some v,.dat .ow d,F⟩::E) H:=by
 refine h.push ⟨v,rfl,r,λ_=>nd,λz=>nomatch z⟩ (λf hf=>⟨λ_ a ha z=>fr a ha f hf z,λ_ a ha z=>fr a z f hf (Ga _ _ ha)⟩) λa ha=>.inl (f0 a ha)
theorem At.drawn(h:At K H0 X n E H){e:Ent}{dr:Addr}(he:e∈E)(hx:e.x=.drw)(hv:e.v=some (.ref dr))(s:Vs dr H H')(hd:∃c k f,dX H' dr c k f/\0<=k/\k<=(n':Int))(hn:n<=n'):At K H0 X n' E H':=by
 obtain ⟨v,x,F⟩:=e
 have hx':x=.drw:=hx
 subst hx'
 obtain ⟨dr',c0,k0,f0,hv',hF,hd0,_⟩:=h.ok _ he
 have e1:some (V.ref dr)=some (V.ref dr'):=hv.symm.trans hv'
 cases e1
 have hF':F=[dr]:=hF
 subst hF'
 refine ⟨λf hf=>?_,h.sep,h.new,λb o nx q=>?_,λb o q=>?_,λb hb=>?_⟩
 rotate_right
 ·obtain ⟨z,c,k,f,h1,h2,h3⟩:=h.xd b hb
  by_cases hbd:b=dr
  ·subst hbd
   exact ⟨z,hd⟩
  ·exact ⟨z,c,k,f,s _ _ hbd h1,h2,by omega⟩
 ·rcases iZ h he hf with rfl | q
  ·obtain ⟨c,k,fl,h1,h2,h3⟩:=hd
   exact ⟨dr,c,k,fl,hv',rfl,h1,h2,h3⟩
  ·have nf:dr∉f.F:=q.1 (.inr rfl) dr Aa
   refine (h.ok f hf).kp (λb o eb z=>?_) hn
   by_cases hb:b=dr
   ·subst hb
    rcases z with z | z
    ·exact absurd z nf
    ·have hd0':H b=some (.lst _):=hd0
     rw[eb] at hd0'
     cases hd0'
     rcases z with ⟨_,z⟩ | ⟨_,_,z⟩ <;> cases z
   ·exact s b o hb eb
 ·have hb:b≠dr:=by
   rintro rfl
   rcases h.new _ he b Aa with z | z
   ·rw[z] at q; cases q
   ·exact nx z.1
  exact s b o hb (h.same b o nx q)
 ·by_cases hb:b=dr
  ·subst hb
   obtain ⟨c,k,fl,h1,_⟩:=hd
   exact ⟨_,h1⟩
  ·obtain ⟨o',z⟩:=h.dom b o q
   exact ⟨o',s b o' hb z⟩
end
abbrev PF:=List Ac->(Ac->Prop)->Prop
abbrev DF:=List Ac->Nat->(Ac->Nat->Prop)->Prop
def Ud(K:PySem.W.Frag)(pf:PF):Sp:=λus H Q _=>∃(As:List Ent) (n:Nat) (ds:List Ac) (R:Ac->Prop),As.map Ent.v=us.map some/\(∀e∈As,Jc K H n e)/\datas (As.map Ent.x)=some ds/\pf ds R /\
 ∀v d F H',R d->RdF K H' v d F->F.Nodup->(∀a∈F,H a=none)->Wd H H'->Q v H'
def nB(K:PySem.W.Frag)(df:DF):Sp:=λus H Q _=>∃(dr:Addr) (ws:List V) (As:List Ent) (n:Nat) (ds:List Ac) (R:Ac->Nat->Prop),us=.ref dr::ws/\As.map Ent.v=ws.map some/\(∀e∈As,Jc K H n e)/\(∀e∈As,dr∉e.F)/\(∃c k f,dX H dr c k f/\0<=k/\k<=(n:Int))/\datas (As.map Ent.x)=some ds/\df ds n R /\
 ∀v d F n' H',n<=n'->R d n'->RdF K H' v d F->F.Nodup->(∀a∈F,H a=none)->(∃c k f,dX H' dr c k f/\0<=k/\k<=(n':Int))->Vs dr H H'->Q v H'
def rK(pf:PF)(da:DA):DE:=λδ P=>da δ λxs δ1=>match datas xs with
 | some ds=>pf ds λd=>P (.dat .ow d) δ1
 | none=>False
def jT(i:Nat)(df:DF)(da:DA):DE:=λδ P=>match δ.sl[i]? with
 | some .drw=>da δ λxs δ1=>match δ1.sl[i]? with
  | some .drw=>match datas xs with
   | some ds=>df ds δ1.n λd n'=>P (.dat .ow d) ⟨δ1.sl,n'⟩
   | none=>False
  | _=>False
 | _=>False
section
variable{X:Cx}{CX:pV}{k:Nat}{f:Addr}{fd:Cv}{ps:List Str}{pf:PF}{df:DF}{E:XK}{x:Str}{p pos:Pos}{e e0:Expr}{es:List Expr}{da:DA}
theorem Fy(F:FnOk X.prog X.w X.K X.mg X.base CX k f fd ps (Ud X.K pf))(hr:Room k X.A)(hg:Gl X x)(hm:X.mg x=some (.ref f))(hk:PySem.W.keepIn X.K (.ref f)=true)(hb:Binds X.K fd ps [])(hx:Og CX X E)(ha:kT X (e::es) da)(hdb:(x == ("__debug__" : Str))=false:=by decide)(he:Bs (e::es) X.env=(false,eval e X.env)::Bs es X.env:=by rfl)(hpl:(Ic pos (Bs es X.env)).any (·.1)=false:=by rfl):Eu X (.Call (.Name x p) (e::es) [] pos) (rK pf da):=by
 refine PE.imp (Wo F hr hg hm hk hb .nil hx ha hdb he hpl) λσ H Q h=>?_
 obtain ⟨H0,Y,S,T,δ,P,rfl,hS,hA,hd,kk⟩:=h
 refine ⟨H0,Y,S,T,δ,_,rfl,hS,hA,hd,λxs δ' As us S' H' e1 e2 ex eu hA' p=>?_⟩
 subst ex
 cases q:datas (As.map Ent.x) with
 | none=>rw[q] at p; exact p.elim
 | some ds =>
  rw[q] at p
  rw[Dz]
  refine ⟨As,δ'.n,ds,_,eu,λe he=>hA'.ok e (Al _ (Aq _ he)),q,p,λv d F H'' r rd nd fr s=>?_⟩
  exact kk _ δ' v F S' H'' e1 e2 (((hA'.dropL.grow s (Ah _)).pushF rd nd (λa ha=>hA'.dropL.free (fr a ha)) (λa ha=>hA'.new0 (fr a ha))).tomid) r
theorem W6(F:FnOk X.prog X.w X.K X.mg X.base CX k f fd ps (Ud X.K pf))(hr:Room k X.A)(hg:Gl X x)(hm:X.mg x=some (.ref f))(hk:PySem.W.keepIn X.K (.ref f)=true)(hb:Binds X.K fd ps [])(hx:Og CX X E)(hdb:(x == ("__debug__" : Str))=false:=by decide):Eu X (.Call (.Name x p) [] [] pos) (rK pf F8):=by
 refine PE.imp (uY F hr hg hm hk hb .nil hx hdb) λσ H Q h=>?_
 obtain ⟨H0,Y,S,T,δ,P,rfl,hS,hA,hd,kk⟩:=h
 show Ud X.K pf [] H Q E
 refine ⟨[],δ.n,[],_,rfl,λe he=>(nomatch he),rfl,hd,λv d F H'' r rd nd fr s=>?_⟩
 exact kk _ δ v F S H'' rfl hS (((hA.grow s (Ah _)).pushF rd nd (λa ha=>hA.free (fr a ha)) (λa ha=>hA.new0 (fr a ha))).tomid) r
theorem Mm{i:Nat}(F:FnOk X.prog X.w X.K X.mg X.base CX k f fd ps (nB X.K df))(hr:Room k X.A)(hg:Gl X x)(hm:X.mg x=some (.ref f))(hk:PySem.W.keepIn X.K (.ref f)=true)(hb:Binds X.K fd ps [])(hx:Og CX X E)(h0:PE X e0 (dI i))(ha:kT X es da)(hdb:(x == ("__debug__" : Str))=false:=by decide)(he:Bs (e0::es) X.env=(false,eval e0 X.env)::Bs es X.env:=by rfl)(hpl:(Ic pos (Bs es X.env)).any (·.1)=false:=by rfl):Eu X (.Call (.Name x p) (e0::es) [] pos) (jT i df da):=by
 refine PE.imp (Wo F hr hg hm hk hb .nil hx (Hy h0 ha he) hdb he hpl) λσ H Q h=>?_
 obtain ⟨H0,Y,S,T,δ,P,rfl,hS,hA,hd,kk⟩:=h
 unfold jT at hd
 split at hd
 case h_2=>exact hd.elim
 rename_i hsl0
 have main:∀w,(vs S)[i]? = some (some w)->LA X.K da (vs S) H λxs H2=>nB X.K df ((w::xs)++[]) H2 Q E:=λw hw=>by
  refine ⟨H0,Y,S,T,δ,_,rfl,hS,hA,hd,λxs δ' As us S' H' e1 e2 ex eu hA' p=>?_⟩
  subst ex
  split at p
  ·rename_i hsl
   obtain ⟨ent,s1,s2⟩:=Kj e2 hsl
   have hm':ent∈S':=Bc s1
   have hv:ent.v=some w:=by
    have:=Pd s1
    rw[e1,hw] at this
    exact (Ck this).symm
   obtain ⟨u,z,F⟩:=ent
   have s2':z=.drw:=s2
   subst s2'
   have hE:(⟨u,.drw,F⟩ : Ent)∈S'++(As++T):=Aq _ hm'
   obtain ⟨dr,c0,k0,f0,hv0,hF0,hd0,hk0,hk1⟩:=hA'.ok _ hE
   have ew:some w=some (V.ref dr):=hv.symm.trans hv0
   cases ew
   have hF':F=[dr]:=hF0
   subst hF'
   cases q:datas (As.map Ent.x) with
   | none=>rw[q] at p; exact p.elim
   | some ds =>
    rw[q] at p
    rw[Dz]
    refine ⟨dr,us,As,δ'.n,ds,_,rfl,eu,λe he=>hA'.ok e (Al _ (Aq _ he)),λe he=>?_,⟨c0,k0,f0,hd0,hk0,hk1⟩,q,p,λv d F n' H'' hn r rd nd fr hdr s=>?_⟩
    ·obtain ⟨_,_,hp⟩ := Cn.mp hA'.sep
     exact (hp _ hm' e (Aq _ he)).1 (.inr rfl) dr Aa
    ·have hA2:=hA'.dropL.drawn (Aq _ hm') rfl hv s hdr hn
     exact kk _ ⟨δ'.sl,n'⟩ v F S' H'' e1 e2 ((hA2.pushF rd nd (λa ha=>hA'.dropL.free (fr a ha)) (λa ha=>hA'.new0 (fr a ha))).tomid) r
  ·exact p.elim
 obtain ⟨ent,s1,s2⟩:=Kj hS hsl0
 have hm':ent∈S:=Bc s1
 obtain ⟨u,z,F⟩:=ent
 have s2':z=.drw:=s2
 subst s2'
 obtain ⟨dr,c0,k0,f0,hv0,_⟩:=hA.ok _ (Aq _ hm')
 have hw:(vs S)[i]? = some (some (.ref dr)):=(Pd s1).trans (congrArg some hv0)
 exact ⟨_,hw,main _ hw⟩
def So:Sp:=λvs H Q _=>∃c:Int,vs=[.int c]/\∀(p:Addr) (c':Int) (f:Bool) (H':Hp),H p=none->dX H' p c' 0 f->Wd H H'->Q (.ref p) H'
def uJ(da:DA):DE:=λδ P=>da δ λxs δ1=>match xs with
 | [.dat _ (.int _)]=>P .drw δ1
 | _=>False
theorem sQ(F:FnOk X.prog X.w X.K X.mg X.base CX k f fd ps So)(hr:Room k X.A)(hg:Gl X x)(hm:X.mg x=some (.ref f))(hk:PySem.W.keepIn X.K (.ref f)=true)(hb:Binds X.K fd ps [])(hx:Og CX X E)(ha:kT X (e::es) da)(hdb:(x == ("__debug__" : Str))=false:=by decide)(he:Bs (e::es) X.env=(false,eval e X.env)::Bs es X.env:=by rfl)(hpl:(Ic pos (Bs es X.env)).any (·.1)=false:=by rfl):Eu X (.Call (.Name x p) (e::es) [] pos) (uJ da):=by
 refine PE.imp (Wo F hr hg hm hk hb .nil hx ha hdb he hpl) λσ H Q h=>?_
 obtain ⟨H0,Y,S,T,δ,P,rfl,hS,hA,hd,kk⟩:=h
 refine ⟨H0,Y,S,T,δ,_,rfl,hS,hA,hd,λxs δ' As us S' H' e1 e2 ex eu hA' p=>?_⟩
 split at p
 ·obtain ⟨v,F,rfl,hA2⟩:=Hx eu hA' ex
  obtain ⟨rfl,_⟩:=(hA2.told mem_mid).int_inv
  refine ⟨_,rfl,λq c' fl H'' nq hdr s=>?_⟩
  have h3:=hA2.drop.grow (n':=δ'.n) s (Ah _)
  refine kk _ δ' _ [q] S' H'' e1 e2 ((h3.push (e:=⟨some (.ref q),.drw,[q]⟩) ⟨q,_,0,fl,rfl,rfl,hdr,by decide,by omega⟩ (λf hf=>?_) λa ha=>?_).tomid) p
  ·have nf:=hA2.drop.free nq f hf
   refine ⟨λ_ a ha z=>?_,λ_ a ha z=>?_⟩
   ·rw[Ai.mp ha] at z
    exact nf z
   ·rw[Ai.mp z] at ha
    exact nf (Ga _ _ ha)
  ·rw[Ai.mp ha]
   exact .inl (hA2.new0 nq)
 ·exact p.elim
end
def args0(ds:List Ac)(k:Nat):List DV:=ds.map (λd=>.dat .sh d)++Hm k .un
def Zx(e:Ent):Ent:=match e.x with
 | .dat _ d=>⟨e.v,.dat .sh d,e.F⟩
 | _=>e
theorem Jr:∀{xs:List DV} {ds:List Ac},datas xs=some ds->xs.length=ds.length
 | [],ds,h=>by cases h; rfl
 | x::xs,ds,h=>by
  cases x with
  | dat m d =>
   cases q:datas xs with
   | none=>simp [datas,q] at h
   | some es =>
    simp [datas,q] at h
    subst h
    rw[Ba,Ba,Jr q]
  | _=>cases h
theorem Td:∀{As:List Ent} {ds:List Ac},datas (As.map Ent.x)=some ds->(As.map Zx).map Ent.x=ds.map (λd=>.dat .sh d)
 | [],ds,h=>by cases h; rfl
 | ⟨v,x,F⟩::As,ds,h=>by
  rw[Aw] at h
  cases x with
  | dat m d =>
   cases q:datas (As.map Ent.x) with
   | none=>simp [datas,q] at h
   | some es =>
    simp [datas,q] at h
    subst h
    rw[Aw,Aw,Aw,Td q]
    rfl
  | _=>cases h
theorem Ux:∀{As:List Ent} {ds:List Ac},datas (As.map Ent.x)=some ds->∀e∈As,∃m d,e.x=.dat m d
 | [],ds,h,e,he=>nomatch he
 | ⟨v,x,F⟩::As,ds,h,e,he=>by
  rw[Aw] at h
  cases x with
  | dat m d =>
   cases q:datas (As.map Ent.x) with
   | none=>simp [datas,q] at h
   | some es =>
    rcases An.mp he with rfl | he
    ·exact ⟨m,d,rfl⟩
    ·exact Ux q e he
  | _=>cases h
theorem C4(As:List Ent):(As.map Zx).map Ent.v=As.map Ent.v:=by
 rw[Ei]
 refine Gb λe _=>?_
 obtain ⟨v,x,F⟩:=e
 cases x <;> rfl
def Ht(k:Nat):List Ent:=Hm k ⟨none,.un,[]⟩
theorem cT{As:List Ent}{ds:List Ac}(q:datas (As.map Ent.x)=some ds)(k:Nat):∀e∈As.map Zx++Ht k,cells e=[]/\x5 e.x=false:=λe he=>by
 rcases Ay.mp he with he | he
 ·obtain ⟨f,hf,rfl⟩:=Cc.mp he
  obtain ⟨m,d,hx⟩:=Ux q f hf
  obtain ⟨v,x,F⟩:=f
  have hx':x=.dat m d:=hx
  subst hx'
  exact ⟨rfl,rfl⟩
 ·rw[(Hv.mp he).2]
  exact ⟨rfl,rfl⟩
theorem Pn{α:Type}{R:α->α->Prop}:∀{l:List α},(∀a∈l,∀b∈l,R a b)->l.Pairwise R
 | [],_=>Ep
 | a::l,h=>Bh.mpr ⟨λb hb=>h a Aa b (Af _ hb),Pn λx hx y hy=>h x (Af _ hx) y (Af _ hy)⟩
theorem qQ{K:PySem.W.Frag}{H:Hp}{n:Nat}{As:List Ent}{ds:List Ac}(q:datas (As.map Ent.x)=some ds)(ok:∀e∈As,Jc K H n e)(k:Nat):∀e∈As.map Zx++Ht k,Jc K H n e:=λe he=>by
 rcases Ay.mp he with he | he
 ·obtain ⟨f,hf,rfl⟩:=Cc.mp he
  obtain ⟨m,d,hx⟩:=Ux q f hf
  have o:=ok f hf
  obtain ⟨v,x,F⟩:=f
  have hx':x=.dat m d:=hx
  subst hx'
  obtain ⟨w,h1,h2,_⟩:=o
  exact ⟨w,h1,h2,λz=>(nomatch z),λz=>(nomatch z)⟩
 ·rw[(Hv.mp he).2]
  exact (rfl:([]:List Addr)=[])
theorem Nh{α β:Type}(f:α->β)(k:Nat)(a:α):(Hm k a).map f=Hm k (f a):=by
 rw[List.map_replicate]
def retE(R:Ac->Prop):DEnds where
 nx:=λ_=>R .none
 rt:=λx _=>∃d,x=.dat .ow d/\R d
def retW(n:Nat)(R:Ac->Nat->Prop):DEnds where
 nx:=λδ=>n<=δ.n/\R .none δ.n
 rt:=λx δ=>n<=δ.n/\∃d,x=.dat .ow d/\R d δ.n
section
variable{P:Be}{w:World}{K:PySem.W.Frag}{mg:Str->Option Value}{base:Heap}
theorem Kg{x qual:Str}{st:Stmt}{f:Addr}{fd:Cv}{N ps:List Str}{k:Nat}{pf:PF}{db:DB}(F:Fun K x qual st f fd)(S:FnScope N ps (By st))(hb:∀(cdv:Value) (A:Co) (outer:List Env) (s:Ag) (H:Hp) (E:XK),Room k (A.deeper (Pg qual (By st) s.heap.objs.size f cdv))->Wh (Nz Jb P w K mg base N qual (By st) f cdv A outer s H E).nox (Iz st) db)(h:∀ds R,pf ds R->ds.length=ps.length/\db (retE R) ⟨args0 ds (N.length - ps.length),0⟩):FnOk P w K mg base Jb (k+1) f fd ps (Ud K pf):=by
 refine F.ok S (λvs H Q E z=>?_) λcdv A outer s H us Q E hr z=>?_
 ·obtain ⟨As,n,ds,R,eu,ok,q,hp,_⟩:=z
  have l1:=(h ds R hp).1
  have l2:=Jr q
  rw[Ad] at l2
  have l3:=congrArg Fq eu
  rw[Ad,Ad] at l3
  omega
 ·obtain ⟨As,n,ds,R,eu,ok,q,hp,k1⟩:=z
  obtain ⟨l1,hd⟩:=h ds R hp
  have l2:=Jr q
  rw[Ad] at l2
  have l3:=congrArg Fq eu
  rw[Ad,Ad] at l3
  refine ⟨_,hb cdv A outer s H E hr,H,λ_=>False,As.map Zx++Ht (N.length - ps.length),[],⟨args0 ds (N.length - ps.length),0⟩,retE R,?_,?_,λ_ z=>(nomatch z),?_,hd,λδ' S' H' e1 hA p=>?_,λx δ' v F' S' H' e1 hA p=>?_,λ_ _ _ _ _ p=>p.elim,λ_ _ _ _ _ p=>p.elim⟩
  ·unfold vs L2.start Ht
   rw[Cb,C4,eu,Nh,show us.length=ps.length by omega]
  ·unfold Sl args0 Ht
   rw[Cb,Td q,Nh]
  ·rw[Dz]
   have hs:=cT q (N.length - ps.length)
   refine ⟨λe he=>?_,Pn λa ha b hb'=>⟨λhq c hc=>?_,λhq c hc=>?_⟩,λe he a ha=>?_,λb o _ e=>e,λb o e=>⟨o,e⟩,λb hb=>hb.elim⟩
   ·have:=qQ q ok (N.length - ps.length) e he
    obtain ⟨v,x,F⟩:=e
    cases x with
    | drw=>exact absurd (hs _ he).2 (by show ¬ (true=false); decide)
    | _=>exact this
   ·rw[(hs a ha).1] at hc; cases hc
   ·rw[(hs b hb').1] at hc; cases hc
   ·rw[(hs e he).1] at ha; cases ha
  ·exact k1 .non .none [] H' p .non Cz (λ_ z=>(nomatch z)) λb o e=>hA.same b o (λz=>z) e
  ·obtain ⟨d,rfl,r⟩:=p
   rw[show S'++[(⟨some v,.dat .ow d,F'⟩ : Ent)]=S'++⟨some v,.dat .ow d,F'⟩::[] from rfl] at hA
   obtain ⟨u,e2,rd,nd,_⟩:=hA.ok _ mem_mid
   cases e2
   refine k1 v d F' H' r rd (nd rfl) (λa ha=>?_) λb o e=>hA.same b o (λz=>z) e
   rcases hA.new _ mem_mid a ha with z | z
   ·exact z
   ·exact z.1.elim
theorem cX{x qual:Str}{st:Stmt}{f:Addr}{fd:Cv}{N ps:List Str}{p0:Str}{k:Nat}{df:DF}{db:DB}(F:Fun K x qual st f fd)(S:FnScope N (p0::ps) (By st))(hb:∀(cdv:Value) (A:Co) (outer:List Env) (s:Ag) (H:Hp) (E:XK),Room k (A.deeper (Pg qual (By st) s.heap.objs.size f cdv))->Wh (Nz Jb P w K mg base N qual (By st) f cdv A outer s H E).nox (Iz st) db)(h:∀ds n R,df ds n R->ds.length=ps.length/\db (retW n R) ⟨.drw::args0 ds (N.length - (p0::ps).length),n⟩):FnOk P w K mg base Jb (k+1) f fd (p0::ps) (nB K df):=by
 refine F.ok S (λvs H Q E z=>?_) λcdv A outer s H us Q E hr z=>?_
 ·obtain ⟨dr,ws,As,n,ds,R,rfl,eu,ok,nd,hdr,q,hp,_⟩:=z
  have l1:=(h ds n R hp).1
  have l2:=Jr q
  rw[Ad] at l2
  have l3:=congrArg Fq eu
  rw[Ad,Ad] at l3
  rw[Ba,Ba]
  omega
 ·obtain ⟨dr,ws,As,n,ds,R,rfl,eu,ok,ndr,hdr,q,hp,k1⟩:=z
  obtain ⟨l1,hd⟩:=h ds n R hp
  have l2:=Jr q
  rw[Ad] at l2
  have l3:=congrArg Fq eu
  rw[Ad,Ad] at l3
  -- what the end tells of the draws: they stand in an old cell
  have ends:∀{E':List Ent} {n':Nat} {H':Hp},At K H (·=dr) n' E' H'->∀b o,b≠dr->H b=some o->H' b=some o:=λhA b o nb e=>hA.same b o nb e
  refine ⟨_,hb cdv A outer s H E hr,H,(·=dr),⟨some (.ref dr),.drw,[dr]⟩::(As.map Zx++Ht (N.length - (p0::ps).length)),[],⟨.drw::args0 ds (N.length - (p0::ps).length),n⟩,retW n R,?_,?_,λ_ z=>(nomatch z),?_,hd,λδ' S' H' e1 hA p=>?_,λx δ' v F' S' H' e1 hA p=>?_,λ_ _ _ _ _ p=>p.elim,λ_ _ _ _ _ p=>p.elim⟩
  ·unfold vs L2.start Ht
   rw[Aw,Cb,C4,eu,Nh,Ba,Ba,show ws.length=ps.length by omega]
   rfl
  ·unfold Sl args0 Ht
   rw[Aw,Cb,Td q,Nh]
  ·rw[Dz]
   have hs:=cT q (N.length - (p0::ps).length)
   have hsub:∀e∈As.map Zx++Ht (N.length - (p0::ps).length),dr∉e.F:=λe he=>by
    rcases Ay.mp he with he | he
    ·obtain ⟨f,hf,rfl⟩:=Cc.mp he
     obtain ⟨v,x,F⟩:=f
     have:=ndr _ hf
     cases x <;> exact this
    ·rw[(Hv.mp he).2]
     exact Bv
   refine ⟨λe he=>?_,Bh.mpr ⟨λb hb'=>⟨λhq c hc=>?_,λhq c hc=>?_⟩,Pn λa ha b hb'=>⟨λhq c hc=>?_,λhq c hc=>?_⟩⟩,λe he a ha=>?_,λb o _ e=>e,λb o e=>⟨o,e⟩,λb hb=>?_⟩
   rotate_right
   ·subst hb
    obtain ⟨c,kk,fl,z1,z2⟩:=hdr
    exact ⟨λz=>(by rw[show H b=some _ from z1] at z; cases z),c,kk,fl,z1,z2⟩
   ·rcases An.mp he with rfl | he
    ·obtain ⟨c,kk,fl,z1,z2,z3⟩:=hdr
     exact ⟨dr,c,kk,fl,rfl,rfl,z1,z2,z3⟩
    ·exact qQ q ok _ e he
   ·rw[Ai.mp hc]
    exact hsub b hb'
   ·rw[(hs b hb').1] at hc; cases hc
   ·rw[(hs a ha).1] at hc; cases hc
   ·rw[(hs b hb').1] at hc; cases hc
   ·rcases An.mp he with rfl | he
    ·rw[Ai.mp ha]
     exact .inr ⟨rfl,rfl⟩
    ·rw[(hs e he).1] at ha; cases ha
  ·exact k1 .non .none [] δ'.n H' p.1 p.2 .non Cz (λ_ z=>(nomatch z)) (hA.xd dr rfl).2 (ends hA)
  ·obtain ⟨hn,d,rfl,r⟩:=p
   rw[show S'++[(⟨some v,.dat .ow d,F'⟩ : Ent)]=S'++⟨some v,.dat .ow d,F'⟩::[] from rfl] at hA
   obtain ⟨u,e2,rd,nd,_⟩:=hA.ok _ mem_mid
   cases e2
   refine k1 v d F' δ'.n H' hn r rd (nd rfl) (λa ha=>?_) (hA.xd dr rfl).2 (ends hA)
   rcases hA.new _ mem_mid a ha with z | z
   ·exact z
   ·cases z.2
end
end DL
namespace L2
open PySem PySem.Spec PyProof.Rows
def rR(H:Hp):Prop:=∀b,H b=none\/(∃o xs,H b=some (.frz o (.lst xs)))\/∃ps,H b=some (.tbl ps)
def eN(tabs:List (Addr×Addr×Str))(H:Hp):Hp:=λb=>match tabs.find? (λr=>r.2.1 == b) with | some t=>some (.tbl #[.str t.2.2 0]) | none=>H b
theorem Ry{tabs:List (Addr×Addr×Str)}{H:Hp}{b:Addr}{t:Addr×Addr×Str}(h:tabs.find? (λr=>r.2.1 == b)=some t):eN tabs H b=some (.tbl #[.str t.2.2 0]):=by unfold eN; rw[h]
theorem Kw{tabs:List (Addr×Addr×Str)}{H:Hp}{b:Addr}(h:tabs.find? (λr=>r.2.1 == b)=none):eN tabs H b=H b:=by unfold eN; rw[h]
def dY(q:Be)(K:PySem.W.Frag):Prop:=∃tabs:List (Addr×Addr×Str),(∀t∈tabs,∃x d,(recsOf q).find? (λe=>e.name == x)=some d/\PySem.W.tabIn K x=some (t.1,t.2.1))/\(∀t∈tabs,∀t'∈tabs,t.2.1=t'.2.1->t=t') /\
 (∀x∈Tg,∀c P,PySem.W.tabIn K x=some (c,P)->(c,P,L8 x)∈tabs)/\∀t∈tabs,K.lookup t.2.1=none
theorem wQ{x:Str}(hx:x∈Tg):x = "often" \/ x = "cut_by" := by
 rcases An.mp hx with h | hx
 ·exact .inl h
 ·exact .inr (Ai.mp hx)
theorem oE{q:Be}{K:PySem.W.Frag}(h1:PySem.W.tabIn K "often" = none)(h2:PySem.W.tabIn K "cut_by" = none):dY q K:=by
 refine ⟨[],λ_ z=>(nomatch z),λ_ z=>(nomatch z),λx hx c P e=>?_,λ_ z=>(nomatch z)⟩
 rcases wQ hx with rfl | rfl
 ·rw[h1] at e; cases e
 ·rw[h2] at e; cases e
theorem qG{P:Be}{w:World}{K:PySem.W.Frag}{mg mb:Str->Option Value}{CX:pV}{k:Nat}{fa a:Addr}{fd:Cv}{x:Str}{sp:Sp}{s₁:Ag}{vs:List Value}{ns:List Int}(tabs:List (Addr×Addr×Str))(hT:∀t∈tabs,PySem.W.CodeHd s₁.heap t.1 t.2.1/\s₁.heap.get? t.2.1=some (PySem.W.tabObj #[]))(hu:∀t∈tabs,∀t'∈tabs,t.2.1=t'.2.1->t=t')(hL:∀x∈Tg,∀c P,PySem.W.tabIn K x=some (c,P)->(c,P,L8 x)∈tabs)(hnt:∀t∈tabs,K.lookup t.2.1=none)(hbm:∃bm ob,mg "__builtins__" = some (.ref bm)/\bm≠Si/\s₁.heap.get? bm=some ob/\ob.cls=.type "module" /\ ob.dict=some Si/\ob.data=.plain)(KX:K.In s₁.heap)(hns:s₁.heap.Ns Ct mg)(hb:s₁.heap.Ns Si mb)(hbb:∀x:Str,x ≠ "__name__" -> mb x=Iw x)(hlim:s₁.heap.NoLimit)(hg:s₁.gens=#[])(ha:s₁.heap.get? a=some { cls:=.type "list",data:=.seq vs.toArray })(hi:Fm vs ns)(hl:ns.length<=Ax)(hr:Room k Wj)(F:∀base:Heap,K.In base->base.Ns Ct mg->FnOk P w K mg base CX k fa fd [x] sp)(hbind:∀(s:Ag) (u:Value),BindsTo s fd ⟨[u],[]⟩ [(x,u)])(hsp:∀H:Hp,rR H->DL.KL K H a (ns.map V.int)->sp [.ref a] H (λv _=>v=.bl true) λ_ _ _=>False)(hCX:∀H e s',CX [] H s₁ (λ_ _ _=>False) e s'->False):Mv (model P w) Wj (.call (.ref fa) ⟨[.ref a],[]⟩) (λr s'=>r=.ok (.ret (.bool true))/\OldK s₁.heap s'.heap/\s'.os=s₁.os/\Qf s'.gens) s₁:=by
 have rv:=bK hi
 have lenV:=hi.length
 -- from an abstract heap in which nothing but the script may be tracked
 have core:∀H:Hp,rR H->DL.KL K H a (ns.map V.int)->Sz P w H s₁.heap->(∀b,H b≠none->b=a\/∃t∈tabs,b=t.2.1)->(H a≠none->K.lookup a=none)->(∀t∈tabs,i7 H t.2.1 t.2.2) ->
   Mv (model P w) Wj (.call (.ref fa) ⟨[.ref a],[]⟩) (λr s'=>r=.ok (.ret (.bool true))/\OldK s₁.heap s'.heap/\s'.os=s₁.os/\Qf s'.gens) s₁:=by
  intro H hO hS hok hA hK hTH
  have base_of:∀{b:Addr} {o:Obj},s₁.heap.get? b=some o->H b=none->(aB s₁.heap H).get? b=some o:=λe n=>rY e n
  have noA:∀{b:Addr} {o:Obj} {es:Array DictEntry} {ep:Nat},s₁.heap.get? b=some o->o.data=.dict es ep->H b=none:=λ{b o es ep} e d=>by
   cases q:H b with
   | none=>rfl
   | some u =>
    rcases hA b (by rw[q]; simp) with e' | ⟨t,ht,e'⟩
    ·subst e'
     rw[ha] at e; cases e
     have d':Data.seq vs.toArray _=Data.dict es ep:=d
     cases d'
    ·rw[e',(hT t ht).2] at e; cases e
     cases d
  have nsK:∀{b:Addr} {m:Str->Option Value},s₁.heap.Ns b m->(aB s₁.heap H).Ns b m:=λ{b m} ⟨o,es,ep,e,d,r⟩=>⟨o,es,ep,base_of e (noA e d),d,r⟩
  have hKb:K.In (aB s₁.heap H):=λb o e=>base_of (KX b o e) (by
   cases q:H b with
   | none=>rfl
   | some u =>
    rcases hA b (by rw[q]; simp) with e' | ⟨t,ht,e'⟩
    ·subst e'
     rw[hK (by rw[q]; simp)] at e; cases e
    ·rw[e',hnt t ht] at e; cases e)
  have noC:∀{b:Addr} {o:Obj},s₁.heap.get? b=some o->o.cls≠.none->o.cls≠.type "list" -> H b=none:=λ{b o} e d d2=>by
   cases q:H b with
   | none=>rfl
   | some u =>
    rcases hA b (by rw[q]; simp) with e' | ⟨t,ht,e'⟩
    ·subst e'
     rw[ha] at e; cases e
     exact absurd rfl d2
    ·rw[e',(hT t ht).2] at e; cases e
     exact absurd rfl d
  have hTb:uG K mg (aB s₁.heap H) H:=λx hx c P e=>by
   have ht:=hL x hx c P e
   obtain ⟨bm,ob,b1,b2,b3,b4,b5,b6⟩:=hbm
   obtain ⟨⟨o,us,file,tf,flags,tg,inF,text,tt,e1,r1,r2⟩,hP⟩:=hT _ ht
   refine ⟨⟨o,us,file,tf,flags,tg,inF,text,tt,base_of e1 (noC e1 (by rw[r1]; nofun) (by rw[r1]; simp)),r1,r2⟩,⟨bm,ob,b1,b2,λz=>?_,λz=>?_,base_of b3 (noC b3 (by rw[b4]; nofun) (by rw[b4]; simp)),b4,b5,b6⟩,hTH _ ht⟩
   ·obtain ⟨o',es,ep,e',d,_⟩:=hns
    rw[<- z,b3] at e'; cases e'; rw[b6] at d; cases d
   ·have hP:s₁.heap.get? P=_:=hP
    rw[<- z,b3] at hP; cases hP; cases b4
  have hM:Mod K mg (aB s₁.heap H):=⟨hKb,nsK hns,⟨mb,nsK hb,hbb⟩,let ⟨mc,h1,h2⟩:=hlim; ⟨mc,nsK h1,h2⟩⟩
  have e0:Env0 P w K mg (aB s₁.heap H) Wj [] s₁ H:=⟨rfl,hM,λb o e=>yE e,Nat.le_of_eq (oJ _ _),trivial,λb hb=>absurd (show b∈([]:List Addr) from hb) (by simp),hok,.of_eq hg,hTb⟩
  refine Oe ((F _ hKb (nsK hns)).run Wj [] s₁ H ⟨[.ref a],[]⟩ [.ref a] [.ref a] _ _ hr e0 (hbind s₁ (.ref a)) (.cons rfl .nil) (hsp H hO hS)) λr s' h=>?_
  cases r with
  | error e=>exact (hCX H e s' h).elim
  | ok fl =>
   cases fl with
   | next=>exact Jf h
   | brk=>exact Jf h
   | cont=>exact Jf h
   | ret u =>
    obtain ⟨v,H',os,bare,un,hok',r',q⟩:=h
    have q':v=.bl true:=q
    subst q'
    obtain rfl:u=Value.bool true:=r'
    have old:∀b o,s₁.heap.get? b=some o->s'.heap.get? b=some o\/∃t∈tabs,b=t.2.1:=λb o e=>by
     cases q:H b with
     | none=>exact .inl (un.keep b o e q (by intro z; exact absurd (show b∈([]:List Addr) from z) (by simp)) (by simp))
     | some u =>
      rcases hO b with z | ⟨ob,xs,z⟩ | ⟨ps,z⟩
      ·rw[q] at z; cases z
      ·have z2:=un.frzs b ob _ z
       obtain ⟨e1,_⟩:=hok b _ z
       obtain ⟨e2,_⟩:=hok' b _ z2
       rw[e] at e1; cases e1
       exact .inl e2
      ·rcases hA b (by rw[q]; simp) with e' | h'
       ·obtain ⟨_,e1,_⟩:=hok b _ z
        rw[e',ha] at e1; cases e1
       ·exact .inr h'
    have grown:∀t∈tabs,∃ps,s'.heap.get? t.2.1=some (PySem.W.tabObj ps):=λt ht=>by
     obtain ⟨ps,t0,h3,_⟩:=hTH t ht
     obtain ⟨more,h5⟩:=un.tbls _ _ h3
     obtain ⟨qs,e1,_⟩:=hok' _ _ h5
     exact ⟨qs,e1⟩
    refine ⟨rfl,⟨λb o e=>?_,λb o e=>?_⟩,os,bare⟩
    ·rcases old b o e with z | ⟨t,ht,rfl⟩
     ·exact .inl z
     ·obtain ⟨ps,hP⟩:=grown t ht
      have e2:=(hT t ht).2
      rw[e] at e2
      cases e2
      exact .inr (.inl ⟨((hT t ht).1.tab (hT t ht).2).isCodeTable,rfl,#[],ps,rfl,by rw[Array.empty_append]; exact hP⟩)
    ·rcases old b o e with z | ⟨t,ht,rfl⟩
     ·exact ⟨_,z⟩
     ·obtain ⟨ps,hP⟩:=grown t ht
      exact ⟨_,hP⟩
 have tabH:∀(t:Addr×Addr×Str),t∈tabs->tabs.find? (λr=>r.2.1 == t.2.1)=some t:=λt ht=>by
  cases q:tabs.find? (λr=>r.2.1 == t.2.1) with
  | none=>exact absurd (List.find?_eq_none.mp q t ht) (by simp)
  | some r=>exact congrArg some (hu r (Od q) t ht (by have:=Rb q; simpa using this))
 have neA:∀t∈tabs,t.2.1≠a:=λt ht z=>by
  have e:=(hT t ht).2
  rw[z,ha] at e; cases e
 have all:∀H:Hp,(∀b,H b=none\/∃o xs,H b=some (.frz o (.lst xs)))->(∀b,H b≠none->b=a)->(H a≠none->K.lookup a=none)->DL.KL K H a (ns.map V.int)->Sz P w H s₁.heap ->
   Mv (model P w) Wj (.call (.ref fa) ⟨[.ref a],[]⟩) (λr s'=>r=.ok (.ret (.bool true))/\OldK s₁.heap s'.heap/\s'.os=s₁.os/\Qf s'.gens) s₁:=by
  intro H h1 h2 h3 h4 h5
  refine core (eN tabs H) (λb=>?_) ?_ (λb u z=>?_) (λb z=>?_) (λz=>?_) λt ht=>?_
  ·cases q:tabs.find? (λr=>r.2.1 == b) with
   | some t=>exact .inr (.inr ⟨_,Ry q⟩)
   | none =>
    rcases h1 b with z | ⟨o,xs,z⟩
    ·exact .inl (by rw[Kw q]; exact z)
    ·exact .inr (.inl ⟨o,xs,by rw[Kw q]; exact z⟩)
  ·have na:tabs.find? (λr=>r.2.1 == a)=none:=vS.mpr λt ht z=>neA t ht (by simpa using z)
   rcases h4 with ⟨o,h⟩ | h
   ·exact .inl ⟨o,by rw[Kw na]; exact h⟩
   ·exact .inr h
  ·cases q:tabs.find? (λr=>r.2.1 == b) with
   | some t =>
    rw[Ry q] at z
    cases z
    have eb:t.2.1=b:=by have:=Rb q; simpa using this
    exact ⟨#[],by rw[<- eb]; exact (hT t (Od q)).2,by simp [TriplesOk],λpos v y=>by simp [codeAmong] at y⟩
   | none =>
    rw[Kw q] at z
    rcases h1 b with y | ⟨o,xs,y⟩
    ·rw[z] at y; cases y
    ·rw[z] at y
     cases y
     exact h5 b _ z
  ·cases q:tabs.find? (λr=>r.2.1 == b) with
   | some t=>exact .inr ⟨t,Od q,by have:=Rb q; exact (by simpa using this : t.2.1=b).symm⟩
   | none =>
    rw[Kw q] at z
    exact .inl (h2 b z)
  ·have na:tabs.find? (λr=>r.2.1 == a)=none:=vS.mpr λt ht z=>neA t ht (by simpa using z)
   rw[Kw na] at z
   exact h3 z
  ·exact ⟨#[.str t.2.2 0],0,Ry (tabH t ht),rfl⟩
 cases hk:K.lookup a with
 | some o =>
  -- the script is one of the module's own objects
  have e:=KX a o hk
  rw[ha] at e
  cases e
  exact all (λ_=>none) (λ_=>.inl rfl) (λb z=>absurd rfl z) (λz=>absurd rfl z) (.inr ⟨vs.toArray,_,hk,by rw[Ar,lenV]; exact hl,by simpa using rv⟩) (λb u z=>by have z':(none:Option HO)=some u:=z; cases z')
 | none =>
  refine all (λb=>if b=a then some (.frz { cls:=.type "list",data:=.seq vs.toArray } (.lst (ns.map V.int))) else none) (λb=>?_) (λb z=>?_) (λ_=>hk) (.inl ⟨{ cls:=.type "list",data:=.seq vs.toArray },if_pos rfl⟩) (λb u z=>?_)
  ·by_cases hb:b=a
   ·exact .inr ⟨_,_,if_pos hb⟩
   ·exact .inl (if_neg hb)
  ·by_cases hb:b=a
   ·exact hb
   ·exact absurd (if_neg hb) z
  ·by_cases hb:b=a
   ·have z':=(if_pos hb).symm.trans z
    cases z'
    subst hb
    exact ⟨ha,by rw[Ad]; exact hl,vs,_,rv,ha⟩
   ·have z':=(if_neg hb).symm.trans z
    cases z'
theorem walk_ofD{l:PySem.W.OpenLaw}{n k:Nat}{q:Be}{loose:List Str}{XP:(Str->Option Value)->Heap->Prop}{YP:World->Heap->Prop}{d:DefRec}{K:Params->PySem.W.Frag}{CX:World->pV}{sp:World->Sp}{x:Str}(hn:l.most=some n)(hn2:n<=Ax)(hdf:d.params.defaults=[])(hr:Room k Wj)(hY:∀(w:World) (h:Heap),YP w h->(K w.params).In h)(F:∀(w:World) (mg:Str->Option Value) (fa:Addr) (h:Heap),(K w.params).In h->h.Ns Ct mg->mg d.name=some (.ref fa)->(dY q (K w.params))/\∃fd:Cv,(∀(s:Ag) (u:Value),BindsTo s fd ⟨[u],[]⟩ [(x,u)])/\∀base:Heap,(K w.params).In base->base.Ns Ct mg->FnOk l.prog w (K w.params) mg base (CX w) k fa fd [x] (sp w))(hsp:∀(w:World) (H:Hp) (a:Addr) (ns:List Int),ns.length<=n->rR H->DL.KL (K w.params) H a (ns.map V.int)->sp w [.ref a] H (λv _=>v=.bl true) λ_ _ _=>False)(hCX:∀(w:World) (H:Hp) (s:Ag) (e:Value) (s':Ag),CX w [] H s (λ_ _ _=>False) e s'->False):PySem.W.WalkO q loose XP YP l.row.toRowW d [] (λf vs=>PySem.call f vs):=by
 refine Att.attach_call hn hdf λw s₀ s₁ mg mb fa o pm cd doc a vs ns G Y ho hd hcd hmg hobj hints hlen hg=>?_
 have KX:=hY w _ Y
 obtain ⟨⟨tabs,t1,t2,t3,t4⟩,fd,hb,hF⟩:=F w mg fa _ KX G.T.g hmg
 exact qG tabs (λt ht=>by
  obtain ⟨x,d,h1,h2⟩:=t1 t ht
  exact PySem.W.tab_of G.T KX h1 h2) t2 t3 t4 G.T.bmain KX G.T.g G.T.b G.T.builtins G.T.nolimit hg hobj hints (Cg hlen hn2) hr hF hb (λH hO hS=>hsp w H a ns hlen hO hS) λH e s'=>hCX w H s₁ e s'
end L2
namespace DL
open PySem PySem.Spec PyProof.Rows L2 Nd
def npk:List DV->Bool
 | []=>true
 | .dat .pk _::_=>false
 | _::xs=>npk xs
theorem dJ:∀{S:List Ent} {sl:List DV},S.map Ent.x=sl->npk sl=true->∀e∈S,Mu e.x=false
 | [],_,_,_,e,he=>nomatch he
 | ⟨v,x,F⟩::S,_,h,hn,e,he=>by
  subst h
  rw[Aw] at hn
  have : Mu x=false/\npk (S.map Ent.x)=true:=by
   cases x with
   | dat m d=>cases m <;> first | exact ⟨rfl,hn⟩ | cases hn
   | _=>exact ⟨rfl,hn⟩
  rcases An.mp he with rfl | he
  ·exact this.1
  ·exact dJ rfl this.2 e he
def own1:Md->Bool
 | .ow=>true
 | .tp=>true
 | _=>false
section
variable{K:PySem.W.Frag}{H0 H:Hp}{X:Addr->Prop}{n:Nat}{E:List Ent}
theorem At.write{v:Option V}{m:Md}{ds es:List Ac}{a:Addr}{F G:List Addr}{ys:List V}(h:At K H0 X n (⟨v,.dat m (.list ds),a::F⟩::E) H)(ho:own1 m=true)(hv:v=some (.ref a))(np:∀e∈E,Mu e.x=false)(r:RdFs K H ys es G)(hG:G.Sublist F)(hz:es.length<=Ax):At K H0 X n (⟨v,.dat m (.list es),a::G⟩::E) (upd H a (.lst ys)):=by
 obtain ⟨w,e1,rd,hn,ht⟩:=h.ok _ Aa
 obtain ⟨b,xs,G0,e2,ha,ra,eF,_⟩:=rd.list_inv
 have eF':a::F=b::G0:=eF
 cases eF'
 have hs:=Bh.mp h.sep
 have naF:a∉F:=by
  cases m with
  | ow=>exact (Ci.mp (hn rfl)).1
  | tp=>exact ht rfl a F rfl
  | sh=>cases ho
  | pk=>cases ho
 have ca:a∈cells ⟨v,.dat m (.list ds),a::F⟩:=by
  cases m <;> first | exact Aa | cases ho
 have kp:∀{F':List Addr},a∉F'->Kp F' H (upd H a (.lst ys)):=λ{F'} hF b o q z=>by
  have : b≠a:=by
   rintro rfl
   rw[ha] at q
   cases q
   rcases z with z | z
   ·exact hF z
   ·rcases z with ⟨_,z⟩ | ⟨_,_,z⟩ <;> cases z
  rw[Eg this]
  exact q
 have n0:H0 a=none:=by
  rcases h.new _ Aa a ca with z | z
  ·exact z
  ·cases z.2
 have cs:∀c∈cells ⟨v,.dat m (.list es),a::G⟩,c∈cells ⟨v,.dat m (.list ds),a::F⟩:=λc hc=>by
  cases m with
  | ow =>
   rcases An.mp hc with z | z
   ·exact An.mpr (.inl z)
   ·exact An.mpr (.inr (hG.subset z))
  | tp=>exact hc
  | sh=>cases ho
  | pk=>cases ho
 have hsub:∀c∈a::G,c∈a::F:=λc hc=>by
  rcases An.mp hc with z | z
  ·exact An.mpr (.inl z)
  ·exact An.mpr (.inr (hG.subset z))
 have naG:a∉G:=λz=>naF (hG.subset z)
 refine ⟨λf hf=>?_,?_,λf hf=>?_,λb o nx q=>?_,λb o q=>?_,λb hb=>?_⟩
 ·rcases An.mp hf with rfl | hf
  ·refine ⟨.ref a,hv,.lst Du hz (r.kp (kp naG)),λz=>?_,λz c l e=>?_⟩
   ·exact Ci.mpr ⟨naG,(Ci.mp (hn z)).2.sublist hG⟩
   ·cases e
    exact naG
  ·exact (h.ok f (Af _ hf)).kp (kp ((hs.1 f hf).1 (.inl (np f hf)) a ca)) (Ah _)
 ·refine Bh.mpr ⟨λf hf=>⟨λhq c hc=>(hs.1 f hf).1 (.inl (np f hf)) c (cs c hc),λhq c hc z=>(hs.1 f hf).2 (.inl ?_) c hc (hsub c z)⟩,hs.2⟩
  cases m <;> first | rfl | cases ho
 ·rcases An.mp hf with rfl | hf
  ·exact λc hc=>h.new _ Aa c (cs c hc)
  ·exact h.new f (Af _ hf)
 ·rw[Eg (Fo q n0)]
  exact h.same b o nx q
 ·rw[Eg (Fo q n0)]
  exact h.dom b o q
 ·obtain ⟨z,c,k,f,h1,h2⟩:=h.xd b hb
  refine ⟨z,c,k,f,(Eg ?_).trans h1,h2⟩
  rintro rfl
  exact z n0
end
theorem Ik{α:Type}:∀{l:List α} {i:Nat} {x:α},l[i]? = some x->l.Perm (x::l.eraseIdx i)
 | [],i,x,h=>by simp at h
 | z::l,0,x,h=>by
  simp at h
  subst h
  exact Ke _
 | z::l,i+1,x,h=>by
  have ih:=Ik (l:=l) (i:=i) (x:=x) (by simpa using h)
  rw[Pj]
  exact (ih.cons z).trans (Ij x z _)
theorem Vg{α:Type}{l:List α}{i:Nat}{x y:α}(h:l[i]? = some x):(l.set i y).Perm (y::l.eraseIdx i):=by
 have hlt:=(Ak.mp h).1
 have q:=Ik (l:=l.set i y) (i:=i) (x:=y) (by rw[Ky]; simp [hlt])
 rw[List.eraseIdx_set_eq] at q
 exact q
theorem kB{K:PySem.W.Frag}{H0 H:Hp}{X:Addr->Prop}{S T:List Ent}{δ:DS}{i:Nat}{m:Md}{ds es:List Ac}(hS:Sl S δ)(hT:∀e∈T,Mu e.x=false)(hA:At K H0 X δ.n (S++T) H)(hi:δ.sl[i]? = some (.dat m (.list ds)))(ho:own1 m=true)(np:npk δ.sl=true):∃a xs G,(vs S)[i]? = some (some (.ref a))/\H a=some (.lst xs)/\RdFs K H xs ds G/\ds.length<=Ax/\∀ys G',RdFs K H ys es G'->G'.Sublist G->es.length<=Ax->∃S',vs S'=vs S/\Sl S' ⟨δ.sl.set i (.dat m (.list es)),δ.n⟩/\At K H0 X δ.n (S'++T) (upd H a (.lst ys)):=by
 obtain ⟨ent,e2,e3⟩:=Kj hS hi
 have hm:ent∈S:=Bc e2
 obtain ⟨u,x,F⟩:=ent
 have e3':x=.dat m (.list ds):=e3
 subst e3'
 obtain ⟨v,hv,rd,_⟩:=hA.ok _ (Aq _ hm)
 obtain ⟨a,xs,G,rfl,ha,ra,eF,hz⟩:=rd.list_inv
 have eF':F=a::G:=eF
 subst eF'
 refine ⟨a,xs,G,by rw[Pd e2]; exact congrArg some hv,ha,ra,hz,λys G' r hG hz'=>?_⟩
 have hn:=dJ hS np
 have pm:(S++T).Perm (⟨u,.dat m (.list ds),a::G⟩::(S.eraseIdx i++T)):=by
  exact (Ik e2).append_right T
 have h1:=(hA.perm pm).write (es:=es) (ys:=ys) ho hv (λe he=>?_) r hG hz'
 ·refine ⟨S.set i ⟨u,.dat m (.list es),a::G'⟩,?_,?_,h1.perm ?_⟩
  ·unfold vs
   rw[Gx]
   apply Gy
   intro j
   rw[Ky]
   split
   ·rename_i hij
    subst hij
    rw[Bt,e2]
    split
    ·rfl
    ·rename_i hj
     rw[Ad] at hj
     exact absurd (Ak.mp e2).1 hj
   ·rfl
  ·unfold Sl at hS ⊢
   rw[Gx,hS]
  ·exact ((Vg e2).append_right T).symm
 ·rcases Ay.mp he with he | he
  ·exact hn e ((Ri S i).subset he)
  ·exact hT e he
def bW(i:Nat)(de:DE):DB:=λD δ=>match δ.sl[i]? with
 | some (.dat _ (.list _))=>de δ λy δ1=>match δ1.sl[i]?,y with
  | some (.dat m (.list ds)),.dat _ e=>own1 m=true/\npk δ1.sl=true/\imm e=true/\ds.length<1000000/\D.nx ⟨δ1.sl.set i (.dat m (.list (ds++[e]))),δ1.n⟩
  | _,_=>False
 | _=>False
section
variable{X:Cx}{o e:Expr}{de:DE}{apos cpos pos:Pos}{i:Nat}
theorem Us(ho:PE X o (dI i))(he:Eu X e de)(hbase:Qz o "append" X.env (eval o X.env)=eval o X.env:=by rfl)
  (hfew:((Ic cpos (Bs [e] X.env)).all (λx=>!x.1) && (backToKw cpos (Vw [] X.env)).all (λx=>x.1.isSome)
   && decide (([e]:List Expr).length+([]:List Qe).length+(if ([]:List Qe).isEmpty then 0 else 1)<30))=true:=by rfl)
  (hline:(apos.endLine == cpos.line)=true:=by rfl) (hs:Bs [e] X.env=(false,eval e X.env)::Bs [] X.env:=by rfl) (hplain:(Ic cpos (Bs [] X.env)).any (·.1)=false:=by rfl)
  (hsw:Lg (.Call (.Attribute o "append" apos) [e] [] cpos) none pos.line X.env=pure false:=by rfl) :
  jE X (.Expr (.Call (.Attribute o "append" apos) [e] [] cpos) pos) (bW i de):=by
 refine PS.impD (lZ (n6 PySem.F.plainAttrs_list PySem.F.slot_list_append PySem.F.type_list_append Qg ho (Hy he Om hs) hbase hfew hline hs hplain) hsw) λD σ H h=>?_
 obtain ⟨H0,Y,S,T,δ,P,rfl,hS,hT,hA,hd,k1,k2,k3,k4⟩:=h
 unfold bW at hd
 split at hd
 case h_2=>exact hd.elim
 rename_i m0 ds0 hsl
 obtain ⟨ent,e2,e3⟩:=Kj hS hsl
 have hm:ent∈S:=Bc e2
 obtain ⟨u,x,F⟩:=ent
 have e3':x=.dat m0 (.list ds0):=e3
 subst e3'
 obtain ⟨v,hv,rd,_⟩:=hA.ok _ (Aq _ hm)
 obtain ⟨a,xs,G,rfl,ha,ra,eF,hz⟩:=rd.list_inv
 refine ⟨.ref a,by rw[Pd e2]; exact congrArg some hv,.inl ⟨rfl,xs,Sn.of ha⟩,H0,Y,S,T,δ,_,rfl,hS,hA,hd,λy δ1 w F1 S1 H1 e4 e5 hA1 p1=>?_⟩
 split at p1
 ·rename_i m ds m' e' hsl1
  obtain ⟨p1,p2,p3,p4,p5⟩:=p1
  have r:=hA1.told mem_mid
  obtain rfl:=r.imm p3
  obtain ⟨b,xs1,G1,g1,g2,g3,g4,g5⟩:=kB (es:=ds++[e']) e5 hT hA1.drop hsl1 p1 p2
  rw[e4,Pd e2] at g1
  have : some (V.ref b)=some (V.ref a):=(Ck g1).symm.trans hv
  cases this
  obtain ⟨S2,h1,h2,h3⟩:=g5 (xs1++[w]) (G1++[]) (g3.snoc r) (by rw[Dz]; exact Eh _) (by rw[Bn]; exact pK (by simp; omega))
  have hl:=g3.len
  refine ⟨a,xs1,w,rfl,rfl,g2,Bx (by omega) (pK (n:=1000000) (Ah _)),?_⟩
  rw[<- e4,<- h1]
  exact k1 ⟨_,_⟩ S2 _ h2 h3 p5
 ·exact p1.elim
end
def BZ(i:Nat)(dk de:DE):DB:=λD δ=>de δ λy δ1=>match δ1.sl[i]? with
 | some (.dat _ (.list _))=>dk δ1 λz δ2=>match δ2.sl[i]?,y,z with
  | some (.dat m (.list ds)),.dat _ e,.dat _ (.int k)=>own1 m=true/\npk δ2.sl=true/\imm e=true/\Dy ds=true/\∃j,pI ds.length k=some j/\D.nx ⟨δ2.sl.set i (.dat m (.list (ds.set j e))),δ2.n⟩
  | _,_,_=>False
 | _=>False
def xD(i:Nat)(rd:D2)(de:DE):DB:=λD δ=>match δ.sl[i]? with
 | some (.dat _ (.int a))=>de δ λy δ1=>rd (.dat .ow (.int a)) y λz=>match z with
  | .dat _ d=>imm d=true/\D.nx ⟨δ1.sl.set i (.dat .sh d),δ1.n⟩
  | _=>False
 | _=>False
section
variable{X:Cx}{x:Str}{e:Expr}{de:DE}{pos pos':Pos}{i:Nat}
theorem lV{op:Operator}{g:Int->Int->Int}(hN:X.N.Nodup)(hi:X.N[i]? = some x)(hx:Loc X.env.scope x)(he:Eu X e de)(ho:Z0 X op (AS g))(hf:X.fn x=true\/X.env.scope.names.lookup x=some .local:=by first | exact .inl rfl | exact .inr rfl | assumption):jE X (.AugAssign (.Name x pos') op e pos) (xD i (Xb λa b=>.int (g a b)) de):=by
 refine PS.impD (M4 hN hi hx he ho hf) λD σ H h=>?_
 obtain ⟨H0,Y,S,T,δ,P,rfl,hS,hT,hA,hd,k1,k2,k3,k4⟩:=h
 unfold xD at hd
 split at hd
 case h_2=>exact hd.elim
 rename_i m0 a hsl
 obtain ⟨ent,e2,e3⟩:=Kj hS hsl
 have hm:ent∈S:=Bc e2
 obtain ⟨u,x,F⟩:=ent
 have e3':x=.dat m0 (.int a):=e3
 subst e3'
 obtain ⟨v,hv,rd,_⟩:=hA.ok _ (Aq _ hm)
 obtain ⟨rfl,_⟩:=rd.int_inv
 refine ⟨.int a,by rw[Pd e2]; exact congrArg some hv,H0,Y,S,T,δ,_,rfl,hS,hA,hd,λy δ1 w F1 S1 H1 e4 e5 hA1 p1=>?_⟩
 unfold Xb at p1
 split at p1
 ·rename_i a' b' ea
  cases ea
  obtain ⟨rfl,_⟩:=(hA1.told mem_mid).int_inv
  refine ⟨a,_,rfl,rfl,?_⟩
  show D.nx ((vs S).set i (some (V.int (g a _)))) H1
  rw[<- e4,<- kM (x:=.dat .sh (.int (g a _))) (F:=[])]
  exact k1 ⟨_,_⟩ _ H1 (jY e5) ((hA1.drop.pushI (.int _)).store) p1.2
 ·exact p1.elim
theorem nH(hN:X.N.Nodup)(hi:X.N[i]? = some x)(hx:Loc X.env.scope x)(he:Eu X e de)(hf:X.fn x=true\/X.env.scope.names.lookup x=some .local:=by first | exact .inl rfl | exact .inr rfl | assumption):jE X (.AugAssign (.Name x pos') .Add e pos) (xD i rdAdd de):=lV hN hi hx he C7 hf
end
def spLawD(K:PySem.W.Frag):Sp:=λus H Q _=>∃(a:Addr) (ns:List Int),us=[.ref a]/\KL K H a (ns.map V.int)/\ns.length<=63/\∀H',Q (.bl true) H'
def retL:DEnds where
 nx:=λ_=>False
 rt:=λx _=>∃m,x=.dat m (.bool true)
section
variable{P:Be}{w:World}{K:PySem.W.Frag}{mg:Str->Option Value}{base:Heap}
theorem K8{x qual p0:Str}{st:Stmt}{f:Addr}{fd:Cv}{N:List Str}{k:Nat}{db:DB}(F:Fun K x qual st f fd)(S:FnScope N [p0] (By st))(hb:∀(cdv:Value) (A:Co) (outer:List Env) (s:Ag) (H:Hp) (E:XK),Room k (A.deeper (Pg qual (By st) s.heap.objs.size f cdv))->Wh (Nz Jb P w K mg base N qual (By st) f cdv A outer s H E).nox (Iz st) db)(h:∀ns:List Int,ns.length<=63->db retL ⟨.scr ns::Hm (N.length - 1) .un,0⟩):FnOk P w K mg base Jb (k+1) f fd [p0] (spLawD K):=by
 refine F.ok S (λvs H Q E z=>?_) λcdv A outer s H us Q E hr z=>?_
 ·obtain ⟨a,ns,rfl,_⟩:=z
  rfl
 ·obtain ⟨a,ns,rfl,hK,h63,k1⟩:=z
  refine ⟨_,hb cdv A outer s H E hr,H,λ_=>False,⟨some (.ref a),.scr ns,[]⟩::Ht (N.length - 1),[],⟨.scr ns::Hm (N.length - 1) .un,0⟩,retL,?_,?_,λ_ z=>(nomatch z),?_,h ns h63,λδ' S' H' e1 hA p=>p.elim,λx δ' v F' S' H' e1 hA p=>?_,λ_ _ _ _ _ p=>p.elim,λ_ _ _ _ _ p=>p.elim⟩
  ·unfold vs L2.start Ht
   rw[Aw,Nh]
   rfl
  ·unfold Sl Ht
   rw[Aw,Nh]
  ·rw[Dz]
   have hc:∀e∈(⟨some (.ref a),.scr ns,[]⟩::Ht (N.length - 1):List Ent),cells e=[]:=λe he=>by
    rcases An.mp he with rfl | he
    ·rfl
    ·rw[(Hv.mp he).2]
     rfl
   refine ⟨λe he=>?_,Pn λa ha b hb'=>⟨λhq c z=>?_,λhq c z=>?_⟩,λe he a ha=>?_,λb o _ e=>e,λb o e=>⟨o,e⟩,λb hb=>hb.elim⟩
   ·rcases An.mp he with rfl | he
    ·exact ⟨a,rfl,rfl,hK,h63⟩
    ·rw[(Hv.mp he).2]
     exact (rfl:([]:List Addr)=[])
   ·rw[hc a ha] at z; cases z
   ·rw[hc b hb'] at z; cases z
   ·rw[hc e he] at ha; cases ha
  ·obtain ⟨m,rfl⟩:=p
   rw[show S'++[(⟨some v,.dat m (.bool true),F'⟩ : Ent)]=S'++⟨some v,.dat m (.bool true),F'⟩::[] from rfl] at hA
   obtain ⟨rfl,_⟩:=(hA.told mem_mid).bl_inv
   exact k1 H'
end
def iY(i:Nat)(dl dh:DO):DE:=λδ P=>match δ.sl[i]? with
 | some (.scr ns)=>dl δ λl δ2=>dh δ2 λh δ3=>P (.dat .ow (.list ((Nr ns l h).map Ca))) δ3
 | _=>False
section
variable{X:Cx}{e b:Expr}{de:DE}{lo hi:Option Expr}{dl dh:DO}{pos p2:Pos}{i:Nat}
theorem M6{K:PySem.W.Frag}{H0 H:Hp}{Y:Addr->Prop}{S T:List Ent}{δ:DS}{ns:List Int}(hS:Sl S δ)(hA:At K H0 Y δ.n (S++T) H)(hi:δ.sl[i]? = some (.scr ns)):∃a,(vs S)[i]? = some (some (.ref a))/\(⟨some (.ref a),.scr ns,[]⟩ : Ent)∈S/\KL K H a (ns.map V.int)/\ns.length<=63:=by
 obtain ⟨ent,e2,e3⟩:=Kj hS hi
 have hm:ent∈S:=Bc e2
 obtain ⟨u,x,F⟩:=ent
 have e3':x=.scr ns:=e3
 subst e3'
 obtain ⟨a,h1,h2,h3⟩:=hA.ok _ (Aq _ hm)
 have h1':u=some (.ref a):=h1
 have h2':F=[]:=h2
 subst h1' h2'
 exact ⟨a,by rw[Pd e2],hm,h3⟩
theorem vR(he:PE X e (dI i))(hl:N8 X lo dl)(hh:N8 X hi dh):Eu X (.Subscript e (.Slice lo hi none p2) pos) (iY i dl dh):=by
 refine PE.imp (fL (r:=J6 X.K) xC he hl hh) λσ H Q h=>?_
 obtain ⟨H0,Y,S,T,δ,P,rfl,hS,hA,hd,k⟩:=h
 unfold iY at hd
 split at hd
 case h_2=>exact hd.elim
 rename_i ns hsl
 obtain ⟨a,ha,hm,hK,h63⟩:=M6 hS hA hsl
 have hA0:At X.K H0 Y δ.n (S++⟨some (.ref a),.scr ns,[]⟩::T) H:=(At.view1 hA (Aq _ hm)).tomid
 refine ⟨.ref a,ha,H0,Y,S,⟨some (.ref a),.scr ns,[]⟩::T,δ,_,rfl,hS,hA0,hd,λl δ2 S2 H2 e3 e4 hA2 p2=>?_⟩
 refine ⟨H0,Y,S2,⟨some (.ref a),.scr ns,[]⟩::T,δ2,_,e3,e4,hA2,p2,λh δ3 S3 H3 e5 e6 hA3 p3=>?_⟩
 obtain ⟨a',h1,_,hK3,_⟩:=hA3.ok _ mem_mid
 cases h1
 refine ⟨a,_,rfl,hK3.sq,λp hp=>?_⟩
 have : Yx (ns.map V.int) l h=(Nr ns l h).map V.int:=by
  rw[<- fP]; rfl
 rw[this]
 refine k _ δ3 _ _ S3 _ e5 e6 (hA3.drop.newI (RdFs.ints _) (Px _) ?_ hp .ow) p3
 rw[Ad]
 have l1:=(Wz ns l h).length_le
 exact sz (by omega)
end
section
variable{K:PySem.W.Frag}{H0 H H':Hp}{Y:Addr->Prop}{n n':Nat}{E S T:List Ent}
theorem At.re(h:At K H0 Y n E H)(ok:∀e∈E,Jc K H' n' e)(s:∀b o,¬ Y b->H0 b=some o->H' b=some o)(dm:∀b o,H0 b=some o->∃o',H' b=some o')(xd:∀b,Y b->H0 b≠none/\∃c k f,dX H' b c k f/\0<=k/\k<=(n':Int)):At K H0 Y n' E H':=⟨ok,h.sep,h.new,s,dm,xd⟩
end
theorem fY{X:Cx}{c:Expr}{body:List Stmt}{dt:DT}{db:DB}{pos:Pos}(hp:PassesOwn (model X.prog X.w) X.A X.env X.xe)(hc:Zl X c dt)(hb:Wh X body db):jE X (.While c body [] pos) (sZ dt db):=by
 refine PS.impD (sE hp hc hb) λD σ H h=>?_
 obtain ⟨H0,Y,S,T,δ,P,rfl,hS,hT,hA,hd,k1,k2,k3,k4⟩:=h
 obtain ⟨I,μ,h0,hs⟩:=hd
 refine ⟨λq σ H=>∃S δ,vs S=σ/\Sl S δ/\At X.K H0 Y δ.n (S++T) H/\I δ/\q=μ δ,⟨_,S,δ,rfl,hS,hA,h0,rfl⟩,?_⟩
 (intro q σ H q_; obtain ⟨S1,δ1,rfl,e1,hA1,hI,rfl⟩ := q_)
 refine ⟨H0,Y,S1,T,δ1,_,rfl,e1,hA1,hs δ1 hI,λb δ2 S2 H2 e2 e3 hA2 p2=>?_⟩
 cases b with
 | true =>
  refine ⟨λσ' H'=>∃S δ,vs S=σ'/\Sl S δ/\At X.K H0 Y δ.n (S++T) H'/\I δ/\μ δ<μ δ1,λσ' H' ⟨S,δ,z1,z2,z3,z4,z5⟩=>⟨_,z5,S,δ,z1,z2,z3,z4,rfl⟩,?_⟩
  exact ⟨H0,Y,S2,T,δ2,_,e2,e3,hT,hA2,p2,λδ4 S4 H4 e5 hA4 p4=>⟨S4,δ4,rfl,e5,hA4,p4⟩,k2,λδ4 S4 H4 e5 hA4 p4=>k1 δ4 S4 H4 e5 hA4 p4,λδ4 S4 H4 e5 hA4 p4=>⟨S4,δ4,rfl,e5,hA4,p4⟩⟩
 | false =>
  rw[<- e2]
  exact k1 δ2 S2 H2 e3 hA2 p2
def P8(i j:Int):Prop:=0<=j/\(Builtin.Int.intBits i:Int) * j<=2 ^ 27
theorem yA{X:Cx}:Tu X (Jv .Pow) (rI P8 λi j=>.int (i ^ j.toNat)):=P5 λ_ _ _ _ _ _ _ hc q=>pow_int hc.1 hc.2 q
def Xq:DF:=λds n R=>ds=[]/\n<=100000/\∀r:Int,R (.int r) (n+1)
theorem xR{P:Be}{w:World}{K:PySem.W.Frag}{mg:Str->Option Value}{base:Heap}{k:Nat}{f:Addr}{fd:Cv}{ps:List Str}(F:FnOk P w K mg base Jb k f fd ps tJ):FnOk P w K mg base Jb k f fd ps (nB K Xq):=by
 refine F.imp λus H Q E h=>?_
 obtain ⟨dr,ws,As,n,ds,R,rfl,eu,ok,nd,⟨c,kk,fl,hdr,h0,h1⟩,q,hp,k1⟩:=h
 obtain ⟨rfl,hn,hR⟩:=hp
 have hAs:As=[]:=by
  have:=Jr q
  rw[Ad] at this
  exact Ho.mp this
 subst hAs
 have hws:ws=[]:=by
  cases ws with
  | nil=>rfl
  | cons _ _=>cases eu
 subst hws
 refine ⟨dr,c,kk,fl,rfl,hdr,h0,by omega,λr c' H' hd' s=>?_⟩
 exact k1 (.int r) (.int r) [] (n+1) H' (by omega) (hR r) (.int r) Cz (λ_ z=>(nomatch z)) ⟨c',kk+1,fl,hd',by omega,by omega⟩ s
theorem Ov{ns:List Int}(r:Hg 60 ns):ns.length<=60:=Cg (NdS.len_leI (r.1.imp λ{x y} h=>Int.ne_of_lt h) λe he=>nO (r.2 e he).1 (r.2 e he).2) (by decide)
def Q7{α:Type}(xs:List α)(k:Nat)(y:α):List α:=xs.take k++y::xs.drop k
def DD:Md->Md->Md
 | .ow,.ow=>.ow
 | _,_=>.tp
end DL
namespace Nd
open PySem PySem.Spec PyProof.Rows L2
end Nd
namespace DL
open PySem PySem.Spec PyProof.Rows L2 Nd
end DL
namespace Nd
open PySem PySem.Spec PyProof.Rows
section
variable{prog:Be}{w:World}{κ:Type}[DecidableEq κ](knd:HeapKind prog w κ)
def DictE(h:Heap)(d:Addr)(xs:List (κ×Addr×Value)):Prop :=
 ∃(o:Obj) (es:Array DictEntry) (ep:Nat),h.get? d=some o/\o.ExactDict/\o.data=.dict es ep/\es.toList=xs.map (Zo knd)/\(∀x∈xs,knd.is h x.1 x.2.1)/\(xs.map (·.1)).Nodup/\ep=es.size
variable{knd}
theorem DictE.of{h:Heap}{d:Addr}{xs:List (κ×Addr×Value)}(x:DictE knd h d xs):h.DictOfH knd d xs:=let ⟨o,es,ep,a,b,c,e,f,g,_⟩:=x; ⟨o,es,ep,a,b,c,e,f,g⟩
variable{A:Co}{E:Value->Ag->Prop}{s:Ag}{d a:Addr}{xs:List (κ×Addr×Value)}{k:κ}{v:Value}
theorem oI{xs:List (κ×Addr×Value)}{k:κ}{a:Addr}{v:Value}(hn:(xs.map (·.1)).Nodup)(hk:k∉xs.map (·.1)):((xs++[(k,a,v)]).map (·.1)).Nodup:=by
 rw[Cb,List.nodup_append]
 refine ⟨hn,by simp,λx hx y hy e=>hk ?_⟩
 rw[Aw,Mw,Ai] at hy
 have hy:y=k:=hy
 rw[<- hy,<- e]
 exact hx
theorem tY{o:Obj}{es:Array DictEntry}{ep:Nat}{h:Heap}(ho:h.get? d=some o)(hc:o.ExactDict)(hd:o.data=.dict es ep)(he:es.toList=xs.map (Zo knd))(his:∀x∈xs,knd.is h x.1 x.2.1)(hn:(xs.map (·.1)).Nodup)(hep:ep=es.size)(hkey:knd.is h k a)(ha:atKey xs k=none)(hk:k∉xs.map (·.1)):DictE knd (h.update d (Obj.mapDictKeys λes=>es.push ⟨knd.hash k,.ref a,v⟩)) d (storedH xs k a v):=by
 rw[storedH_new ha]
 refine ⟨_,_,ep+1,Gm _ ho (Obj.isFreed_of_dict (Obj.data_mapDictKeys hd _)),hc.mapDictKeys _,Obj.data_mapDictKeys hd _,by simp [he,Zo],λx hx=>?_,oI hn hk,by rw[hep,Array.size_push]⟩
 rcases Ay.mp hx with z | z
 ·exact knd.keeps (his x z) ho hd (Cq ..)
 ·rw[Ai.mp z]
  exact knd.keeps hkey ho hd (Cq ..)
theorem tV{Q:Unit->Ag->Prop}(hu:knd.room A)(hkey:knd.is s.heap k a)(hm:DictE knd s.heap d xs)(q:∀h',DictE knd h' d (storedH xs k a v)->Fn d s.heap h'->Q () { s with heap:=h',toks:=s.toks+knd.draws k })(hz:xs.length<=Ax):wpAny (model prog w) A (dictSet d (.ref a) v) Q E s:=by
 obtain ⟨o,es,ep,ho,hc,hd,he,his,hn,hep⟩:=hm
 unfold dictSet
 try with_reducible refine Ej ?_
 refine Ab (knd.pyHash hu hkey ?_)
 unfold dictSetHashed
 try with_reducible refine Ej ?_
 refine Ab (wpAny_dictFind_heap (s:={ s with toks:=s.toks+knd.draws k }) hu hkey ho hd he his hn (λno=>?_) λj p hj=>?_)
 ·exact Ab (wpAny_rule (wpAny_updateDictKeys (hz:=by have e:=size_of_entries he; omega) (s:={ s with toks:=s.toks+knd.draws k }) ho hd (q _ (tY ho hc hd he his hn hep hkey (atKey_none_of_get no) (not_mem_keys_of_get no)) (Cq ..))))
 ·refine Ab (wpAny_rule (Ab (wpAny_updateDict (s:={ s with toks:=s.toks+knd.draws k }) ho hd (wpAny_point (q _ ?_ (Cq ..))))))
  rw[storedH_old (atKey_of_get hn hj)]
  refine ⟨_,_,ep,Gm _ ho (Obj.isFreed_of_dict (Obj.data_mapDict hd _)),hc.mapDict _,Obj.data_mapDict hd _,?_,λx hx=>?_,by rw[keys_map_putAt]; exact hn,by rw[hep]; simp⟩
  ·have e1:=modify_map_putAt (Zo knd) (λe:DictEntry=>{ e with val:=v }) k v (λ_ _=>rfl) hn hj
   rw[<- he] at e1
   obtain ⟨l⟩:=es
   simpa using e1
  ·obtain ⟨y,hy,rfl⟩:=Cc.mp hx
   unfold putAt
   split <;> exact knd.keeps (his y hy) ho hd (Cq ..)
theorem setItemE{Q:Unit->Ag->Prop}(hu:knd.room A.in1)(hkey:knd.is s.heap k a)(hm:DictE knd s.heap d xs)(q:∀h',DictE knd h' d (storedH xs k a v)->Fn d s.heap h'->Q () { s with heap:=h',toks:=s.toks+knd.draws k })(hz:xs.length<=Ax):wpAny (model prog w) A (setItem (.ref d) (.ref a) v) Q E s:=by
 have tD:=hm.of.typeIs
 unfold setItem
 try with_reducible refine Ej ?_
 refine Ab (bQ tD (by decide) ?_)
 refine Ab (Ib (name:=Lc "__setitem__") tD slot_dict_setitem (Gp slot_dict_setitem tD entry_dict_setitem ?_ (args_dict_setitem _ _ _)))
 show wpAny _ _ (bind (Builtin.Dict.notOrdered "__setitem__" ⟨[.ref d,.ref a,v],[]⟩) _) _ _ s
 refine Ab (wpAny_notOrdered_dict tD ?_)
 show wpAny _ _ (bind (dictSet d (.ref a) v) _) _ _ s
 exact Ab (tV hu hkey hm (λh' a b=>Aj ⟨.none,rfl,Aj (q h' a b)⟩) hz)
end
end Nd
namespace L2
open PySem PySem.Spec PyProof.Rows
section
variable{κ:Type}[DecidableEq κ]
def Uk(kvs:List (κ×V))(k:κ):Option V:=(kvs.find? λkv=>decide (kv.1=k)).map (·.2)
def Tv(kvs:List (κ×V))(k:κ)(v:V):List (κ×V) :=
 if (kvs.any λkv=>decide (kv.1=k))=true then kvs.map (λkv=>if kv.1=k then (kv.1,v) else kv) else kvs++[(k,v)]
theorem Ss{p:κ×V}{r:List (κ×V)}{k:κ}(e:p.1=k):Uk (p::r) k=some p.2:=by simp [Uk,Ih,e]
theorem Tr{p:κ×V}{r:List (κ×V)}{k:κ}(e:¬ p.1=k):Uk (p::r) k=Uk r k:=by simp [Uk,Ih,e]
theorem iD(k:κ):∀kvs:List (κ×V),(kvs.any λkv=>decide (kv.1=k))=(Uk kvs k).isSome
 | []=>rfl
 | p::r=>by
  rw[Ka]
  by_cases e:p.1=k
  ·simp only[Ss e,decide_eq_true e,Bool.true_or,Option.isSome_some]
  ·rw[Tr e,decide_eq_false e,Bool.false_or]; exact iD k r
theorem Vu(kvs:List (κ×V))(k:κ)(v:V):(Tv kvs k v).length<=kvs.length+1:=by
 unfold Tv
 split
 ·rw[Ad]; omega
 ·rw[Bn,Ba,Ig]; omega
theorem jU.isSome_eq{o:Option V}{u:Option Value}(r:jU o u):o.isSome=u.isSome:=by
 cases o with
 | none=>cases u with
  | none=>rfl
  | some _=>exact (show False from r).elim
 | some _=>cases u with
  | none=>exact (show False from r).elim
  | some _=>rfl
theorem KV.val{kvs:List (κ×V)}{vs:List (κ×Value)}(r:KV kvs vs)(k:κ):jU (Uk kvs k) (valueAt vs k):=by
 unfold KV at r
 induction r with
 | nil=>exact Kq
 | @cons p q ps qs h t ih =>
  obtain ⟨h1,h2⟩:=h
  by_cases e:p.1=k
  ·have e':q.1=k:=h1.symm.trans e
   have b:valueAt (q::qs) k=some q.2:=by simp [valueAt,Ih,e']
   rw[Ss e,b]; exact h2
  ·have e':¬ q.1=k:=λz=>e (h1.trans z)
   have b:valueAt (q::qs) k=valueAt qs k:=by simp [valueAt,Ih,e']
   rw[Tr e,b]; exact ih
theorem KV.any{kvs:List (κ×V)}{vs:List (κ×Value)}(r:KV kvs vs)(k:κ):(kvs.any λkv=>decide (kv.1=k))=vs.any λkv=>decide (kv.1=k):=by
 unfold KV at r
 induction r with
 | nil=>rfl
 | cons h t ih=>rw[Ka,Ka,ih,h.1]
theorem KV.repl{kvs:List (κ×V)}{vs:List (κ×Value)}(r:KV kvs vs)(k:κ){y:V}{u:Value}(ry:RelV y u):KV (kvs.map λkv=>if kv.1=k then (kv.1,y) else kv) (vs.map λkv=>if kv.1=k then (kv.1,u) else kv):=by
 unfold KV at r ⊢
 induction r with
 | nil=>exact .nil
 | @cons p q ps qs h t ih =>
  rw[Aw,Aw]
  refine .cons ?_ ih
  obtain ⟨h1,h2⟩:=h
  by_cases e:p.1=k
  ·rw[if_pos e,if_pos (h1.symm.trans e)]; exact ⟨h1,ry⟩
  ·rw[if_neg e,if_neg (λz=>e (h1.trans z))]; exact ⟨h1,h2⟩
theorem KV.put{kvs:List (κ×V)}{vs:List (κ×Value)}(r:KV kvs vs)(k:κ){y:V}{u:Value}(ry:RelV y u):KV (Tv kvs k y) (stored vs k u):=by
 unfold Tv stored
 rw[r.any k]
 by_cases e:(vs.any λkv=>decide (kv.1=k))=true
 ·rw[if_pos e,if_pos e]; exact r.repl k ry
 ·rw[if_neg e,if_neg e]; exact Paired.snoc r ⟨rfl,ry⟩
theorem KV.length{kvs:List (κ×V)}{vs:List (κ×Value)}(r:KV kvs vs):kvs.length=vs.length:=Paired.length r
end
theorem nJ{P:Be}{w:World}{k:Jy}{u:Value}(r:RelV (kV k) u):(Hk P w).is k u=true:=by
 cases k with
 | inl i=>obtain ⟨t,e⟩:=(show ∃t,u=Li i t from r); subst e; exact fG P w i t
 | inr x=>obtain ⟨t,e⟩:=(show ∃t,u=Value.str x t from r); subst e; exact gO P w x t
theorem aK{P:Be}{w:World}:∀{ks:List Jy} {us:List Value},Fg (ks.map kV) us->ItemsAre (Hk P w) ks us
 | [],_,r=>by rw[Mw] at r; cases r; exact .nil
 | k::ks,_,r=>by
  rw[Aw] at r
  cases r with
  | cons h t=>exact .cons (nJ h) (aK t)
abbrev KT(H:Hp):List (List Jy×V)->List (List Jy×Addr×Value)->Prop:=Paired λp q=>p.1=q.1/\H q.2.1=some (.tup (p.1.map kV))/\RelV p.2 q.2.2
theorem KT.val{H:Hp}{kvs:List (List Jy×V)}{xs:List (List Jy×Addr×Value)}(r:KT H kvs xs)(k:List Jy):jU (Uk kvs k) ((atKey xs k).map (·.2)):=by
 induction r with
 | nil=>exact Kq
 | @cons p q ps qs h t ih =>
  obtain ⟨h1,_,h2⟩:=h
  by_cases e:p.1=k
  ·have e':q.1=k:=h1.symm.trans e
   have b:atKey (q::qs) k=some q.2:=by simp [atKey,Ih,e']
   rw[Ss e,b]; exact h2
  ·have e':¬ q.1=k:=λz=>e (h1.trans z)
   have b:atKey (q::qs) k=atKey qs k:=by simp [atKey,Ih,e']
   rw[Tr e,b]; exact ih
theorem KT.repl{H:Hp}{kvs:List (List Jy×V)}{xs:List (List Jy×Addr×Value)}(r:KT H kvs xs)(k:List Jy){y:V}{u:Value}(ry:RelV y u):KT H (kvs.map λkv=>if kv.1=k then (kv.1,y) else kv) (xs.map (putAt k u)):=by
 induction r with
 | nil=>exact .nil
 | @cons p q ps qs h t ih =>
  rw[Aw,Aw]
  refine .cons ?_ ih
  obtain ⟨h1,h2,h3⟩:=h
  unfold putAt
  by_cases e:p.1=k
  ·rw[if_pos e,if_pos (h1.symm.trans e)]; exact ⟨h1,h2,ry⟩
  ·rw[if_neg e,if_neg (λz=>e (h1.trans z))]; exact ⟨h1,h2,h3⟩
theorem KT.put{H:Hp}{kvs:List (List Jy×V)}{xs:List (List Jy×Addr×Value)}(r:KT H kvs xs)(k:List Jy){b:Addr}{y:V}{u:Value}(hb:H b=some (.tup (k.map kV)))(ry:RelV y u):KT H (Tv kvs k y) (storedH xs k b u):=by
 have e:(kvs.any λkv=>decide (kv.1=k))=(atKey xs k).isSome:=by
  rw[iD,(r.val k).isSome_eq,Option.isSome_map]
 unfold Tv storedH
 rw[e]
 by_cases q:(atKey xs k).isSome=true
 ·rw[if_pos q,if_pos q]; exact r.repl k ry
 ·rw[if_neg q,if_neg q]; exact Paired.snoc r ⟨rfl,hb,ry⟩
theorem KT.keeps{H H':Hp}{kvs:List (List Jy×V)}{xs:List (List Jy×Addr×Value)}(r:KT H kvs xs)(ht:∀b ys,H b=some (.tup ys)->H' b=some (.tup ys)):KT H' kvs xs :=
 Paired.mapP r λ_ _ z=>⟨z.1,ht _ _ z.2.1,z.2.2⟩
section
variable{P:Be}{w:World}{H:Hp}{h:Heap}{a:Addr}
theorem uL{u:HO}(ok:Sz P w H h)(e:Rd H a u):Gc P w H h a u:=e.ok ok
theorem mS{kvs:List (Jy×V)}(ok:Sz P w H h)(e:Rd H a (.dK kvs)):kvs.length<=Ax/\(a == Js)=false/\∃vs,KV kvs vs/\h.DictOf (Hk P w) a vs :=
 show Gc P w H h a (.dK kvs) from uL ok e
theorem V9{kvs:List (Jy×V)}(ok:Sz P w H h)(e:H a=some (.dK kvs)):kvs.length<=Ax/\(a == Js)=false/\∃vs,KV kvs vs/\h.DictOf (Hk P w) a vs:=mS ok (.inl e)
theorem Yn{ks:List Jy}(ok:Sz P w H h)(e:H a=some (.tup (ks.map kV))):(Wi (Hk P w)).is h ks a:=by
 obtain ⟨_,its,r,o,h1,h2,n,h3⟩:=(show Gc P w H h a (.tup (ks.map kV)) from ok a _ e)
 exact ⟨o,its.toArray,n,h1,h2,h3,by simpa using aK r⟩
theorem uE{kvs:List (List Jy×V)}(ok:Sz P w H h)(e:Rd H a (.dT kvs)):kvs.length<=Ax/\(a == Js)=false/\∃xs,KT H kvs xs/\h.DictOfH (Wi (Hk P w)) a xs:=by
 obtain ⟨z,y,xs,r,o,es,ep,h1,h2,h3,h4,h5,h6⟩:=(show Gc P w H h a (.dT kvs) from uL ok e)
 refine ⟨z,y,xs,r,o,es,ep,h1,h2,h3,h4,λx hx=>?_,h5⟩
 have all:∀{l:List (List Jy×V)} {m:List (List Jy×Addr×Value)},KT H l m->∀x∈m,(Wi (Hk P w)).is h x.1 x.2.1:=by
  intro l m q
  induction q with
  | nil=>intro x hx; exact nomatch hx
  | @cons p q ps qs hq t ih =>
   intro x hx
   rcases An.mp hx with e | hx
   ·subst e
    exact Yn ok (by rw[<- hq.1]; exact hq.2.1)
   ·exact ih x hx
 exact all r x hx
theorem F9{kvs:List (List Jy×V)}(ok:Sz P w H h)(e:Rd H a (.dT kvs)):kvs.length<=Ax/\(a == Js)=false/\∃xs,KT H kvs xs/\Nd.DictE (Wi (Hk P w)) h a xs:=by
 obtain ⟨z,y,xs,r,o,es,ep,h1,h2,h3,h4,h5,h6⟩:=(show Gc P w H h a (.dT kvs) from uL ok e)
 refine ⟨z,y,xs,r,o,es,ep,h1,h2,h3,h4,λx hx=>?_,h5,h6⟩
 have all:∀{l:List (List Jy×V)} {m:List (List Jy×Addr×Value)},KT H l m->∀x∈m,(Wi (Hk P w)).is h x.1 x.2.1:=by
  intro l m q
  induction q with
  | nil=>intro x hx; exact nomatch hx
  | @cons p q ps qs hq t ih =>
   intro x hx
   rcases An.mp hx with e | hx
   ·subst e
    exact Yn ok (by rw[<- hq.1]; exact hq.2.1)
   ·exact ih x hx
 exact all r x hx
end
def iB(H:Hp)(a:Addr)(y:V)(r:Option V):Prop :=
 (∃kvs k,Rd H a (.dK kvs)/\y=kV k/\r=Uk kvs k)\/∃kvs k b,Rd H a (.dT kvs)/\y=.ref b/\H b=some (.tup (k.map kV))/\r=Uk kvs k
def I0(H:Hp)(a:Addr)(y v:V)(H':Hp):Prop :=
 (∃kvs k,H a=some (.dK kvs)/\y=kV k/\kvs.length<Ax/\H'=upd H a (.dK (Tv kvs k v))) \/
 ∃kvs k b,H a=some (.dT kvs)/\y=.ref b/\H b=some (.tup (k.map kV))/\kvs.length<Ax/\H'=upd H a (.dT (Tv kvs k v))
theorem iB.t{H:Hp}{a b:Addr}{kvs:List (List Jy×V)}{k:List Jy}(e:H a=some (.dT kvs))(eb:H b=some (.tup (k.map kV))):iB H a (.ref b) (Uk kvs k):=.inr ⟨kvs,k,b,.inl e,rfl,eb,rfl⟩
theorem I0.t{H:Hp}{a b:Addr}{kvs:List (List Jy×V)}{k:List Jy}{v:V}(e:H a=some (.dT kvs))(eb:H b=some (.tup (k.map kV)))(hl:kvs.length<Ax):I0 H a (.ref b) v (upd H a (.dT (Tv kvs k v))):=.inr ⟨kvs,k,b,e,rfl,eb,hl,rfl⟩
section
variable{X:Cx}{pins:List (Addr×Obj)}{σ:St}{H:Hp}{s:Ag}{a:Addr}{y v:V}{u r:Value}{o:Option V}{A:Co}{E:Value->Ag->Prop}
theorem Inv.big(I:Inv X pins σ H s):Js<s.heap.objs.size:=by
 have h:Ct<s.heap.objs.size:=(I.mod.glob.keeps I.bk).lt
 exact Wy (by decide) h
theorem pZ{Q:Value->Ag->Prop}(hu:A.units+1<cLine)(I:Inv X pins σ H s)(g:iB H a y (some v))(ry:RelV y u)(h:∀w' s',Inv X pins σ H s'->RelV v w'->Q w' s'):wpAny (model X.prog X.w) A (Qb (.ref a) u) Q E s:=by
 rcases g with ⟨kvs,k,e,ey,l⟩ | ⟨kvs,k,b,e,ey,eb,l⟩
 ·subst ey
  obtain ⟨z,hd,vs,rel,dd⟩:=mS I.hok e
  obtain ⟨w',hw,rw'⟩:=jU.some_of (v:=v) (o:=valueAt vs k) (by rw[l]; exact rel.val k)
  exact wpAny_getItem_of (nJ ry) dd.mapOf hw (h w' _ (I.tok _) rw')
 ·subst ey
  cases (show u=Ao b from ry)
  obtain ⟨z,hd,xs,rel,dd⟩:=uE I.hok e
  obtain ⟨w',hw,rw'⟩:=jU.some_of (v:=v) (o:=(atKey xs k).map (·.2)) (by rw[l]; exact rel.val k)
  obtain ⟨p,hp,hp2⟩:=Option.map_eq_some_iff.mp hw
  refine wpAny_getItem_heap (Zm hu) (Yn I.hok eb) dd hp ?_
  rw[hp2]
  exact h w' _ (I.tok _) rw'
theorem Z6{Q:Value->Ag->Prop}(hu:A.units+1<cLine)(I:Inv X pins σ H s)(g:iB H a y o)(ry:RelV y u)(h:∀s',Inv X pins σ H s'->Q (.bool o.isSome) s'):wpAny (model X.prog X.w) A (Fj .In u (.ref a)) Q E s:=by
 rcases g with ⟨kvs,k,e,ey,l⟩ | ⟨kvs,k,b,e,ey,eb,l⟩
 ·subst ey
  obtain ⟨z,hd,vs,rel,dd⟩:=mS I.hok e
  refine wpAny_in_of (nJ ry) hd dd.mapOf ?_
  rw[<- (rel.val k).isSome_eq,<- l]
  exact h _ (I.tok _)
 ·subst ey
  cases (show u=Ao b from ry)
  obtain ⟨z,hd,xs,rel,dd⟩:=uE I.hok e
  refine wpAny_in_heap (Zm hu) (Yn I.hok eb) hd dd ?_
  have q:=(rel.val k).isSome_eq
  rw[Option.isSome_map] at q
  rw[<- q,<- l]
  exact h _ (I.tok _)
theorem mR{h':Heap}{t':Nat}{ob:HO}(I:Inv X pins σ H s)(mu:V4 (H a))(hs:Fn a s.heap h')(he:∃q,h'.get? a=some q)(new:Gc X.prog X.w (upd H a ob) h' a ob):Inv X pins σ (upd H a ob) { s with heap:=h',toks:=t' } :=
 I.write (x:=a) (e:=a) mu (.inl rfl) (λb q hb z=>(hs.2 b hb).trans z) he new
theorem G5{P:Be}{w:World}{H':Hp}{h':Heap}{kvs:List (Jy×V)}{vs:List (Jy×Value)}(z:kvs.length<=Ax)(hd:(a == Js)=false)(rel:KV kvs vs)(dd:h'.DictOf (Hk P w) a vs):Gc P w H' h' a (.dK kvs):=⟨z,hd,vs,rel,dd⟩
theorem nR{H':Hp}{Q:Unit->Ag->Prop}(hu:A.units+1<cLine)(I:Inv X pins σ H s)(g:I0 H a y v H')(ry:RelV y u)(rv:RelV v r)(h:∀s',Inv X pins σ H' s'->Q () s'):wpAny (model X.prog X.w) A (setItem (.ref a) u r) Q E s:=by
 rcases g with ⟨kvs,k,e,ey,l,eH⟩ | ⟨kvs,k,b,e,ey,eb,l,eH⟩
 ·subst ey eH
  obtain ⟨z,hd,vs,rel,dd⟩:=V9 I.hok e
  have hz:vs.length<=Ax:=by rw[<- rel.length]; exact z
  have hl:(Tv kvs k v).length<=Ax:=by have:=Vu kvs k v; omega
  refine wpAny_setItem_pairs (hsz:=hz) (nJ ry) dd λh' dd' hs=>h _ ?_
  have he:∃q,h'.get? a=some q:=let ⟨q,_,_,hq,_⟩:=dd'; ⟨q,hq⟩
  exact mR I (by rw[e]; exact Kq) hs he (G5 hl hd (rel.put k rv) dd')
 ·subst ey eH
  cases (show u=Ao b from ry)
  obtain ⟨z,hd,xs,rel,dd⟩:=F9 I.hok (.inl e)
  have hz:xs.length<=Ax:=by rw[<- Paired.length rel]; exact z
  have hl:(Tv kvs k v).length<=Ax:=by have:=Vu kvs k v; omega
  refine Nd.setItemE (hz:=hz) (Zm hu) (Yn I.hok eb) dd λh' dd' hs=>h _ ?_
  obtain ⟨q,es,ep,hq,h2,h3,h4,_,h5⟩:=dd'
  refine mR I (by rw[e]; exact Kq) hs ⟨q,hq⟩ ⟨hl,hd,_,(rel.put k eb rv).keeps λc ys ec=>?_,q,es,ep,hq,h2,h3,h4,h5⟩
  rw[Eg (R6 ec e (λz=>nomatch z))]
  exact ec
end
def B0(i:Expr):Prop:=∀ov iv,subscripted i false ov iv=operate [ov,iv] (Qb ov iv)
theorem zB{prog:Be}{w:World}{A:Co}{E:Value->Ag->Prop}{s:Ag}{env:Env}{value slice:Expr}{pos:Pos}{T id:String}{Q:Value->Ag->Prop}(hl:typeLookup (.type T) "__getitem__" = pure (some (.builtin id)))(hs:B0 slice)(h:wpAny (model prog w) A (eval value env) (λo s₁=>wpAny (model prog w) A (eval slice env) (λi s₂=>s₂.TypeIs o T/\wpAny (model prog w) A (Qb o i) Q E s₂) E s₁) E s):wpAny (model prog w) A (eval (.Subscript value slice pos) env) Q E s:=by
 refine Subscript_ (Fs h (λo s₁ h₁=>Fs h₁ (λi s₂ h₂=>?_) λ_ _ x=>x) λ_ _ x=>x)
 obtain ⟨hT,h₂⟩:=h₂
 unfold subscriptTail
 refine Ab ?_
 rw[getitemInPython_of_ne hT.not_modules]
 refine Ab (wpAny_specialOf hT hl ?_)
 have fin:wpAny (model prog w) A (subscripted slice false o i) (λr s₃=>wpAny (model prog w) A (letTemporaryGo value o r >>= λ_=>pure r) Q E s₃) E s₂:=by
  rw[hs o i]
  exact wpAny_operating (Fs h₂ (λr s₃ h₃=>Ab (wpAny_letTemporaryGo (Aj h₃))) λ_ _ x=>x)
 first
  | exact Aj (Ab fin)
  | exact Ab (Aj (Ab fin))
  | exact Ab fin
theorem gW{X:Cx}{pins:List (Addr×Obj)}{σ:St}{H:Hp}{s:Ag}{a:Addr}{y:V}{o:Option V}(I:Inv X pins σ H s)(g:iB H a y o):s.TypeIs (.ref a) "dict" := by
 rcases g with ⟨kvs,k,e,_,_⟩ | ⟨kvs,k,b,e,_,_,_⟩
 ·obtain ⟨_,_,vs,_,dd⟩:=mS I.hok e
  exact dd.typeIs
 ·obtain ⟨_,_,xs,_,dd⟩:=uE I.hok e
  exact dd.typeIs
def X5(td ty:TE):TE:=λσ H Q=>td σ H λx H1=>ty σ H1 λy H2=>∃a v,x=.ref a/\iB H2 a y (some v)/\Q v H2
def AV(ty td:TE):TE:=λσ H Q=>ty σ H λy H1=>td σ H1 λx H2=>∃a o,x=.ref a/\iB H2 a y o/\Q (.bl o.isSome) H2
def U2(td ty tv:TE):TS:=λD σ H=>tv σ H λv H1=>td σ H1 λx H2=>ty σ H2 λy H3=>∃a H4,x=.ref a/\I0 H3 a y v H4/\D.nx σ H4
section
variable{X:Cx}{o i e value:Expr}{pos pos' tpos:Pos}{td ty tv:TE}
theorem zP(hu:X.A.units+1<cLine)(ho:PE X o td)(hi:PE X i ty)(hs:B0 i):PE X (.Subscript o i pos) (X5 td ty):=by
 intro pins s σ H Q I h
 refine zB PySem.F.slot_dict_getitem.lookup hs (Hf (ho pins s σ H _ I h) λu s1 ⟨x,H1,I1,rx,q1⟩=>Hf (hi pins s1 σ H1 _ I1 q1) λiv s2 q0_ => ?_)
 obtain ⟨y,H2,I2,ry,a,v,ex,g,q2⟩ := q0_
 subst ex
 obtain rfl:u=Ao a:=rx
 exact ⟨gW I2 g,pZ hu I2 g ry λw' s3 I3 rw'=>⟨v,H2,I3,rw',q2⟩⟩
theorem K4(hu:X.A.units+1<cLine)(hi:PE X i ty)(ho:PE X o td):PC X .In i o (AV ty td):=by
 intro pins s σ H Q I h
 refine Hf (hi pins s σ H _ I h) λiv s1 ⟨y,H1,I1,ry,q1⟩=>Hf (ho pins s1 σ H1 _ I1 q1) λu s2 q0_ => ?_
 obtain ⟨x,H2,I2,rx,a,ov,ex,g,q2⟩ := q0_
 subst ex
 obtain rfl:u=Ao a:=rx
 exact Z6 hu I2 g ry λs3 I3=>⟨.bl ov.isSome,H2,I3,rfl,q2⟩
theorem wB(hu:X.A.units+1<cLine)(ho:PE X o td)(hi:PE X i ty)(hv:PE X value tv)(hs:Lg value (some (.Subscript o i pos')) pos.line X.env=pure false):PS X (.Assign [.Subscript o i pos'] value pos) (U2 td ty tv):=by
 intro pins s σ H D I h
 refine wpAny_Assign_Subscript (Hf (hv pins s σ H _ I h) λr s1 ⟨v,H1,I1,rv,q1⟩=>Hf (ho pins s1 σ H1 _ I1 q1) λu s2 ⟨x,H2,I2,rx,q2⟩=>Hf (hi pins s2 σ H2 _ I2 q2) λiv s3 ⟨y,H3,I3,ry,a,H4,ex,g,q3⟩=>?_) hs
 subst ex
 obtain rfl:u=Ao a:=rx
 exact nR hu I3 g ry rv λs4 I4=>⟨σ,H4,I4,q3⟩
end
theorem vB{P:Be}{w:World}{H:Hp}(h:Heap)(hb:Js<h.objs.size):Gc P w H (h.push { cls:=.type "dict",data:=.dict #[] }) h.objs.size (.dT []) :=
 ⟨Ds _,beq_eq_false_iff_ne.mpr (Nn (Cy hb)),[],.nil,_,#[],0,Br _ rfl,⟨rfl,rfl,rfl⟩,rfl,rfl,Cz,rfl⟩
def F6:TE:=λ_ H Q=>∀p,H p=none->Q (.ref p) (upd H p (.dT []))
section
variable{X:Cx}{pos:Pos}
theorem sS:PE X (.Dict [] [] pos) F6:=λpins s σ H Q I h =>
 wpAny_Dict_empty ⟨.ref s.heap.objs.size,_,I.laid (a:=s.heap.objs.size) (o:=.dT []) (t':=s.toks) (λ_ _ q=>Am _ q) (Ah _) (vB s.heap I.big),rfl,h _ (I.hok.fresh (Ah _))⟩
end
structure M1(X:Cx)(o:Expr)(m:Str)(apos:Pos)(e:Expr)(cpos:Pos):Prop where
 base:Qz o m X.env (eval o X.env)=eval o X.env
 few:((Ic cpos (Bs [e] X.env)).all (λx=>!x.1) && (backToKw cpos (Vw [] X.env)).all (λx=>x.1.isSome)
  && decide (([e]:List Expr).length+([]:List Qe).length+(if ([]:List Qe).isEmpty then 0 else 1)<30))=true
 line:(apos.endLine == cpos.line)=true
 trees:Ic cpos (Bs [e] X.env)=[(false,eval e X.env)]
structure M2(X:Cx)(o:Expr)(m:Str)(apos:Pos)(e f:Expr)(cpos:Pos):Prop where
 base:Qz o m X.env (eval o X.env)=eval o X.env
 few:((Ic cpos (Bs [e,f] X.env)).all (λx=>!x.1) && (backToKw cpos (Vw [] X.env)).all (λx=>x.1.isSome)
  && decide (([e,f]:List Expr).length+([]:List Qe).length+(if ([]:List Qe).isEmpty then 0 else 1)<30))=true
 line:(apos.endLine == cpos.line)=true
 trees:Ic cpos (Bs [e,f] X.env)=[(false,eval e X.env),(false,eval f X.env)]
end L2
namespace Nd
open PySem PySem.Spec PyProof.Rows L2
end Nd
namespace DL
open PySem PySem.Spec PyProof.Rows L2 Nd
def Rv(ks:List (List Int×Ac))(w:List Int):Option Ac:=(ks.find? λp=>decide (p.1=w)).map (·.2)
def oH(ks:List (List Int×Ac))(w:List Int)(d:Ac):List (List Int×Ac) :=
 if (ks.any λp=>decide (p.1=w))=true then ks.map (λp=>if p.1=w then (p.1,d) else p) else ks++[(w,d)]
theorem Sk{α β:Type}{f:α->β}(hf:∀a b,f a=f b->a=b):∀{l m:List α},l.map f=m.map f->l=m
 | [],[],_=>rfl
 | [],_::_,h=>by cases h
 | _::_,[],h=>by cases h
 | a::l,b::m,h=>by
  obtain ⟨h1,h2⟩:=Fi h
  rw[hf a b h1,Sk hf h2]
theorem Nu{a b:List Int}(h:Bd a=Bd b):a=b:=Sk (λx y e=>by cases e; rfl) (PyData.tuple.inj h)
theorem Qt{a b:List (List Int×Ac)}(h:Vm a=Vm b):a=b:=Sk (λx y e=>by
 obtain ⟨e1,e2⟩:=Prod.mk.inj e
 exact Prod.ext (Nu e1) e2) (Fi h).2
theorem Yk{a b:List Int}(h:Lz a=Lz b):a=b:=Sk (λx y e=>by cases e; rfl) h
theorem mT(w:List Int):(Lz w).map kV=w.map V.int:=by
 unfold Lz
 rw[Ei]
 rfl
section
variable{K:PySem.W.Frag}{H H':Hp}
structure DRel(K:PySem.W.Frag)(H:Hp)(kv:List (List Jy×V))(ks:List (List Int×Ac)):Prop where
 key:kv.map (·.1)=ks.map λp=>Lz p.1
 val:RdFs K H (kv.map (·.2)) (ks.map (·.2)) []
theorem RdF.dict_inv{v:V}{X:List (Ac×Ac)}{F:List Addr}(h:RdF K H v (.dict X) F)(hX:zU X=true:=by first | rfl | assumption):∃a kv ks,v=.ref a/\X=Vm ks/\H a=some (.dT kv)/\DRel K H kv ks/\F=[a]:=by
 cases h with
 | dic h e hs=>exact ⟨_,_,_,rfl,rfl,h,⟨e,hs⟩,rfl⟩
 | dik h e hs=>cases hX
 | dnm h e hs=>cases hX
theorem RdFs.cons_nil{x:V}{d:Ac}{xs:List V}{ds:List Ac}{F:List Addr}(h:RdFs K H (x::xs) (d::ds) F)(hF:F=[]):RdF K H x d []/\RdFs K H xs ds []:=by
 cases h with
 | cons a t =>
  obtain ⟨rfl,rfl⟩:=List.append_eq_nil_iff.mp hF
  exact ⟨a,t⟩
theorem tL{kv:List (List Jy×V)}{ks:List (List Int×Ac)}(r:DRel K H kv ks):kv.length=ks.length:=by
 have:=congrArg Fq r.key
 simpa using this
theorem Zb(w:List Int):∀{kv:List (List Jy×V)} {ks:List (List Int×Ac)},DRel K H kv ks->(Uk kv (Lz w)=none/\Rv ks w=none)\/∃v d,Uk kv (Lz w)=some v/\Rv ks w=some d/\RdF K H v d []
 | [],[],_=>.inl ⟨rfl,rfl⟩
 | [],_::_,r=>by cases r.key
 | _::_,[],r=>by cases r.key
 | (k,v)::kv,(u,d)::ks,r=>by
  obtain ⟨e1,e2⟩:=Fi r.key
  have e1:k=Lz u:=e1
  obtain ⟨r1,r2⟩:=RdFs.cons_nil r.val rfl
  by_cases h:u=w
  ·subst h e1
   refine .inr ⟨v,d,Ss rfl,by simp [Rv],r1⟩
  ·have hk:¬ k=Lz w:=λz=>h (Yk (e1.symm.trans z))
   rw[Tr hk,show Rv ((u,d)::ks) w=Rv ks w by simp [Rv,h]]
   exact Zb w ⟨e2,r2⟩
theorem uQ(w:List Int){kv:List (List Jy×V)}{ks:List (List Int×Ac)}(r:DRel K H kv ks):(kv.any λp=>decide (p.1=Lz w))=(ks.any λp=>decide (p.1=w)):=by
 have h1:(kv.any λp=>decide (p.1=Lz w))=((kv.map (·.1)).any λk=>decide (k=Lz w)):=by rw[Wn]; rfl
 rw[h1,r.key,Wn]
 congr 1
 funext p
 exact decide_eq_decide.mpr ⟨λz=>Yk z,λz=>by show Lz p.1=Lz w; rw[z]⟩
theorem bH(w:List Int){v:V}{d:Ac}(rv:RdF K H v d []):∀{kv:List (List Jy×V)} {ks:List (List Int×Ac)},DRel K H kv ks->DRel K H (kv.map λp=>if p.1=Lz w then (p.1,v) else p) (ks.map λp=>if p.1=w then (p.1,d) else p)
 | [],[],r=>r
 | [],_::_,r=>by cases r.key
 | _::_,[],r=>by cases r.key
 | (k,v')::kv,(u,d')::ks,r=>by
  obtain ⟨e1,e2⟩:=Fi r.key
  have e1:k=Lz u:=e1
  obtain ⟨r1,r2⟩:=RdFs.cons_nil r.val rfl
  have ih:=bH w rv (kv:=kv) (ks:=ks) ⟨e2,r2⟩
  rw[Aw,Aw]
  by_cases h:u=w
  ·rw[if_pos (show k=Lz w by rw[e1,h]),if_pos h]
   exact ⟨by rw[Aw,Aw,ih.key]; exact congrArg (·::_) e1,RdFs.cons (F:=[]) (G:=[]) rv ih.val⟩
  ·have hk:¬ k=Lz w:=λz=>h (Yk (e1.symm.trans z))
   rw[if_neg (show ¬ (k,v').1=Lz w from hk),if_neg (show ¬ (u,d').1=w from h)]
   exact ⟨by rw[Aw,Aw,ih.key]; exact congrArg (·::_) e1,RdFs.cons (F:=[]) (G:=[]) r1 ih.val⟩
theorem rM(w:List Int){v:V}{d:Ac}(rv:RdF K H v d []){kv:List (List Jy×V)}{ks:List (List Int×Ac)}(r:DRel K H kv ks):DRel K H (Tv kv (Lz w) v) (oH ks w d):=by
 unfold Tv oH
 rw[uQ w r]
 split
 ·exact bH w rv r
 ·refine ⟨by rw[Cb,Cb,r.key]; rfl,?_⟩
  rw[Cb,Cb]
  exact r.val.snoc rv
end
def Q4:R2:=λx y H Q=>∃a v,x=.ref a/\iB H a y (some v)/\Q v H
def X1(ne:Bool):R2:=λy x H Q=>∃a o,x=.ref a/\iB H a y o/\Q (.bl (match ne with | true=>!o.isSome | false=>o.isSome)) H
def cS:D2:=λx y P=>match x,y with
 | .dat _ (.dict X),.dat _ k=>∃ks w d,X=Vm ks/\k=Bd w/\Rv ks w=some d/\P (.dat .ow d)
 | _,_=>False
def mY(ne:Bool):D2:=λy x P=>match y,x with
 | .dat _ k,.dat _ (.dict X)=>∃ks w,X=Vm ks/\k=Bd w/\P (.dat .ow (.bool (match ne with | true=>!(Rv ks w).isSome | false=>(Rv ks w).isSome)))
 | _,_=>False
section
variable{K:PySem.W.Frag}
theorem word_at{H:Hp}{v:V}{w:List Int}{F:List Addr}(r:RdF K H v (Bd w) F):∃b,v=.ref b/\H b=some (.tup ((Lz w).map kV)):=by
 obtain ⟨b,xs,rfl,hb,rb,_⟩:=r.tup_inv
 obtain ⟨rfl,_⟩:=rb.ints_inv
 exact ⟨b,rfl,by rw[mT]; exact hb⟩
theorem zD:gI K Q4 cS:=by
 intro H0 X n S T x y v w F G H Q P hA hd k
 unfold cS at hd
 split at hd
 ·obtain ⟨ks,u,d,rfl,rfl,hg,p⟩:=hd
  obtain ⟨b,rfl,hb⟩:=word_at (hA.told mem_mid)
  obtain ⟨a,kv,ks',rfl,ek,ha,rel,_⟩:=(hA.told Ff).dict_inv
  obtain rfl:=Qt ek
  rcases Zb u rel with ⟨_,z⟩ | ⟨v',d',h1,h2,h3⟩
  ·rw[z] at hg; cases hg
  ·rw[h2] at hg; cases hg
   exact ⟨a,v',rfl,h1▸iB.t ha hb,k _ _ [] H (hA.drop2.pushI h3) p⟩
 ·exact hd.elim
theorem E9{ne:Bool}:gI K (X1 ne) (mY ne):=by
 intro H0 X n S T x y v w F G H Q P hA hd k
 unfold mY at hd
 split at hd
 ·obtain ⟨ks,u,rfl,rfl,p⟩:=hd
  obtain ⟨b,rfl,hb⟩:=word_at (hA.told Ff)
  obtain ⟨a,kv,ks',rfl,ek,ha,rel,_⟩:=(hA.told mem_mid).dict_inv
  obtain rfl:=Qt ek
  refine ⟨a,_,rfl,iB.t ha hb,?_⟩
  rcases Zb u rel with ⟨h1,h2⟩ | ⟨v',d',h1,h2,h3⟩
  ·rw[h1]
   rw[h2] at p
   cases ne <;> exact k _ _ [] H (hA.drop2.pushI (.bl _)) p
  ·rw[h1]
   rw[h2] at p
   cases ne <;> exact k _ _ [] H (hA.drop2.pushI (.bl _)) p
 ·exact hd.elim
end
section
variable{X:Cx}{a b:Expr}{da db:DE}{pos:Pos}
theorem AY{n:Nat}(hu:n+64<cLine):n+1<cLine:=by omega
theorem zC(hu:X.A.units+64<cLine)(ha:Eu X a da)(hb:Eu X b db)(hs:B0 b:=by intro _ _; rfl):Eu X (.Subscript a b pos) (Te cS da db):=PE.imp (zP (AY hu) ha hb hs) (op_le zD)
theorem A2(hu:X.A.units+64<cLine)(ha:Eu X a da)(hb:Eu X b db)(hm:Et .In b=false:=by with_unfolding_all rfl):Zl X (.Compare a [.In] [b] pos) (dB (Te (mY false) da db)):=PT.imp (J4 (K4 (AY hu) ha hb) hm) λσ H Q h=>op_le (r:=X1 false) E9 _ _ _ (x6 σ H Q h)
end
def j5:DE:=λδ P=>P (.dat .ow (.dict (Vm []))) δ
theorem At.newD{K:PySem.W.Frag}{H0 H:Hp}{X:Addr->Prop}{n:Nat}{S T:List Ent}{p:Addr}(h:At K H0 X n (S++T) H)(hp:H p=none):At K H0 X n (S++⟨some (.ref p),.dat .ow (.dict (Vm [])),[p]⟩::T) (upd H p (.dT [])):=by
 have s1:=Ft hp (.dT [])
 refine ((h.grow (n':=n) s1 (Ah _)).push (e:=⟨some (.ref p),.dat .ow (.dict (Vm [])),[p]⟩) ⟨_,rfl,.dic Du rfl .nil,λ_=>Ci.mpr ⟨Bv,Cz⟩,λz=>nomatch z⟩ (λf hf=>?_) λa ha=>?_).tomid
 ·have nf:=h.free hp f hf
  refine ⟨λ_ a ha z=>?_,λ_ a ha z=>?_⟩
  ·rw[Ai.mp ha] at z
   exact nf z
  ·rw[Ai.mp z] at ha
   exact nf (Ga _ _ ha)
 ·rw[Ai.mp ha]
  exact .inl (h.new0 hp)
theorem zJ{X:Cx}{pos:Pos}:Eu X (.Dict [] [] pos) j5:=by
 refine PE.imp sS λσ H Q h=>?_
 obtain ⟨H0,Y,S,T,δ,P,rfl,hS,hA,hd,k⟩:=h
 exact λp hp=>k _ δ _ _ S _ rfl hS (hA.newD hp) hd
theorem At.writeD{K:PySem.W.Frag}{H0 H:Hp}{X:Addr->Prop}{n:Nat}{E:List Ent}{v:Option V}{ks ks':List (List Int×Ac)}{a:Addr}{kv':List (List Jy×V)}(h:At K H0 X n (⟨v,.dat .ow (.dict (Vm ks)),[a]⟩::E) H)(hv:v=some (.ref a))(np:∀e∈E,Mu e.x=false)(r:DRel K H kv' ks'):At K H0 X n (⟨v,.dat .ow (.dict (Vm ks')),[a]⟩::E) (upd H a (.dT kv')):=by
 obtain ⟨w,e1,rd,hn,ht⟩:=h.ok _ Aa
 obtain ⟨b,kv,ks0,e2,ek,ha,_,eF⟩:=rd.dict_inv
 have eF':[a]=[b]:=eF
 cases eF'
 have hs:=Bh.mp h.sep
 have kp:∀{F':List Addr},a∉F'->Kp F' H (upd H a (.dT kv')):=λ{F'} hF b o q z=>by
  have : b≠a:=by
   rintro rfl
   rw[ha] at q
   cases q
   rcases z with z | z
   ·exact hF z
   ·rcases z with ⟨_,z⟩ | ⟨_,_,z⟩ <;> cases z
  rw[Eg this]
  exact q
 have n0:H0 a=none:=by
  rcases h.new _ Aa a Aa with z | z
  ·exact z
  ·cases z.2
 refine ⟨λf hf=>?_,Bh.mpr ⟨λf hf=>⟨λhq c hc=>(hs.1 f hf).1 (.inl (np f hf)) c hc,λhq c hc=>(hs.1 f hf).2 (.inl rfl) c hc⟩,hs.2⟩,λf hf=>?_,λb o nx q=>?_,λb o q=>?_,λb hb=>?_⟩
 ·rcases An.mp hf with rfl | hf
  ·exact ⟨.ref a,hv,.dic Du r.key (r.val.kp (kp Bv)),λ_=>Ci.mpr ⟨Bv,Cz⟩,λz=>nomatch z⟩
  ·exact (h.ok f (Af _ hf)).kp (kp ((hs.1 f hf).1 (.inl (np f hf)) a Aa)) (Ah _)
 ·rcases An.mp hf with rfl | hf
  ·exact λc hc=>h.new _ Aa c hc
  ·exact h.new f (Af _ hf)
 ·rw[Eg (Fo q n0)]
  exact h.same b o nx q
 ·rw[Eg (Fo q n0)]
  exact h.dom b o q
 ·obtain ⟨z,c,k,f,h1,h2⟩:=h.xd b hb
  refine ⟨z,c,k,f,(Eg ?_).trans h1,h2⟩
  rintro rfl
  exact z n0
theorem gL{K:PySem.W.Frag}{H0 H:Hp}{X:Addr->Prop}{S T:List Ent}{δ:DS}{i:Nat}{ks ks':List (List Int×Ac)}(hS:Sl S δ)(hT:∀e∈T,Mu e.x=false)(hA:At K H0 X δ.n (S++T) H)(hi:δ.sl[i]? = some (.dat .ow (.dict (Vm ks))))(np:npk δ.sl=true):∃a kv,(vs S)[i]? = some (some (.ref a))/\H a=some (.dT kv)/\DRel K H kv ks/\∀kv',DRel K H kv' ks'->∃S',vs S'=vs S/\Sl S' ⟨δ.sl.set i (.dat .ow (.dict (Vm ks'))),δ.n⟩/\At K H0 X δ.n (S'++T) (upd H a (.dT kv')):=by
 obtain ⟨ent,e2,e3⟩:=Kj hS hi
 have hm:ent∈S:=Bc e2
 obtain ⟨u,x,F⟩:=ent
 have e3':x=.dat .ow (.dict (Vm ks)):=e3
 subst e3'
 obtain ⟨v,hv,rd,_⟩:=hA.ok _ (Aq _ hm)
 obtain ⟨a,kv,ks0,rfl,ek,ha,rel,eF⟩:=rd.dict_inv
 obtain rfl:=Qt ek
 have eF':F=[a]:=eF
 subst eF'
 refine ⟨a,kv,by rw[Pd e2]; exact congrArg some hv,ha,rel,λkv' r=>?_⟩
 have hn:=dJ hS np
 have h1:=(hA.perm ((Ik e2).append_right T)).writeD (ks':=ks') (kv':=kv') hv (λe he=>?_) r
 ·refine ⟨S.set i ⟨u,.dat .ow (.dict (Vm ks')),[a]⟩,?_,?_,h1.perm ((Vg e2).append_right T).symm⟩
  ·unfold vs
   rw[Gx]
   apply Gy
   intro j
   rw[Ky]
   split
   ·rename_i hij
    subst hij
    rw[Bt,e2]
    split
    ·rfl
    ·rename_i hj
     rw[Ad] at hj
     exact absurd (Ak.mp e2).1 hj
   ·rfl
  ·unfold Sl at hS ⊢
   rw[Gx,hS]
 ·rcases Ay.mp he with he | he
  ·exact hn e ((Ri S i).subset he)
  ·exact hT e he
def dputB(i:Nat)(y z:DV)(δ:DS)(D:DEnds):Prop:=match δ.sl[i]?,y,z with
 | some (.dat .ow (.dict X)),.dat _ e,.dat _ k=>npk δ.sl=true/\imm e=true/\∃ks w,X=Vm ks/\k=Bd w/\ks.length<1000000/\D.nx ⟨δ.sl.set i (.dat .ow (.dict (Vm (oH ks w e)))),δ.n⟩
 | _,_,_=>False
def isDct:Option DV->Bool
 | some (.dat _ (.dict X))=>zU X
 | _=>false
def p7(i:Nat)(dk de:DE):DB:=λD δ=>de δ λy δ1=>isDct δ1.sl[i]? = true/\dk δ1 λz δ2=>dputB i y z δ2 D
section
variable{X:Cx}{o i e:Expr}{dk de:DE}{apos cpos pos pos':Pos}{n:Nat}
theorem qR{K:PySem.W.Frag}{H0 H:Hp}{Y:Addr->Prop}{S T:List Ent}{δ:DS}(hS:Sl S δ)(hA:At K H0 Y δ.n (S++T) H)(hi:isDct δ.sl[n]? = true):∃a kv,(vs S)[n]? = some (some (.ref a))/\H a=some (.dT kv):=by
 cases q:δ.sl[n]? with
 | none=>rw[q] at hi; cases hi
 | some x =>
  rw[q] at hi
  obtain ⟨ent,e2,e3⟩:=Kj hS q
  obtain ⟨u,y,F⟩:=ent
  have e3':y=x:=e3
  subst e3'
  have hm:(⟨u,y,F⟩ : Ent)∈S:=Bc e2
  match y,hi with
  | .dat m (.dict X),hi =>
   have hX:zU X=true:=hi
   obtain ⟨v,hv,rd,_⟩:=hA.ok _ (Aq _ hm)
   obtain ⟨a,kv,ks,rfl,_,ha,_⟩:=rd.dict_inv
   exact ⟨a,kv,by rw[Pd e2]; exact congrArg some hv,ha⟩
theorem wX(hu:X.A.units+64<cLine)(ho:PE X o (dI n))(hi:Eu X i dk)(he:Eu X e de)(hs:Lg e (some (.Subscript o i pos')) pos.line X.env=pure false:=by rfl):jE X (.Assign [.Subscript o i pos'] e pos) (p7 n dk de):=by
 refine PS.impD (wB (AY hu) ho hi he hs) λD σ H h=>?_
 obtain ⟨H0,Y,S,T,δ,P,rfl,hS,hT,hA,hd,k1,k2,k3,k4⟩:=h
 refine ⟨H0,Y,S,T,δ,_,rfl,hS,hA,hd,λy δ1 v F S1 H1 e1 e2 hA1 p1=>?_⟩
 obtain ⟨p1,p2⟩:=p1
 obtain ⟨a,kv,hv,ha⟩:=qR e2 hA1.drop p1
 rw[e1] at hv
 refine ⟨.ref a,hv,H0,Y,S1,⟨some v,y,F⟩::T,δ1,_,e1,e2,hA1,p2,λz δ2 w G S2 H2 e3 e4 hA2 p3=>?_⟩
 unfold dputB at p3
 split at p3
 ·rename_i X0 m1 d m2 k hsl
  obtain ⟨p3,p4,ks,u,rfl,rfl,p5,p6⟩:=p3
  obtain ⟨b,rfl,hb⟩:=word_at (hA2.told mem_mid)
  have r:=hA2.told Ff
  obtain rfl:=r.imm p4
  obtain ⟨a',kv',g1,g2,g3,g4⟩:=gL (ks':=oH ks u d) e4 hT hA2.drop2 hsl p3
  rw[e3,hv] at g1
  cases g1
  obtain ⟨S3,h1,h2,h3⟩:=g4 (Tv kv' (Lz u) v) (rM u r g3)
  refine ⟨a,_,rfl,I0.t g2 hb (by rw[tL g3]; exact Bx p5 (pK (n:=1000000) (Ah _))),?_⟩
  rw[<- e3,<- h1]
  exact k1 ⟨_,_⟩ S3 _ h2 h3 p6
 ·exact p3.elim
end
def j8:V->Int
 | .int i=>i
 | _=>0
def vV(H:Hp)(r:Addr):List Int:=match H r with
 | some (.tup xs)=>xs.map j8
 | _=>[]
theorem E8{H:Hp}{r:Addr}{w:List Int}(h:H r=some (.tup (w.map V.int))):vV H r=w:=by
 unfold vV
 rw[h]
 show (w.map V.int).map j8=w
 rw[Ei]
 exact List.map_id' w
section
variable{K:PySem.W.Frag}{H:Hp}
theorem Zg:∀{ws:List (List Int)} {xs:List V} {ds:List Ac} {G:List Addr},RdFs K H xs ds G->ds=ws.map Bd->∃rs:List Addr,xs=rs.map V.ref/\ws=rs.map (vV H)/\G=[]/\(∀r∈rs,H r=some (.tup ((vV H r).map V.int)))/\∀r∈rs,RdF K H (.ref r) (Bd (vV H r)) []
 | [],_,_,_,h,e=>by
  subst e
  cases h
  exact ⟨[],rfl,rfl,rfl,(λ_ z=>nomatch z),(λ_ z=>nomatch z)⟩
 | w::ws,_,_,_,h,e=>by
  cases h with
  | nil=>cases e
  | cons a t =>
   obtain ⟨e1,e2⟩:=Fi e
   obtain ⟨rs,rfl,rfl,rfl,h1,h2⟩:=Zg t e2
   subst e1
   obtain ⟨r,rfl,hr⟩:=word_at a
   rw[mT] at hr
   have ew:=E8 hr
   obtain rfl:=a.imm (show imm (Bd w)=true from Px w)
   refine ⟨r::rs,rfl,by rw[Aw,ew],rfl,λx hx=>?_,λx hx=>?_⟩
   ·rcases An.mp hx with rfl | hx
    ·rw[ew]; exact hr
    ·exact h1 x hx
   ·rcases An.mp hx with rfl | hx
    ·rw[ew]; exact a
    ·exact h2 x hx
theorem Sa:∀L:List (List Int),Dy (L.map Bd)=true
 | []=>rfl
 | w::L=>by
  show (imm (Bd w) && Dy (L.map Bd))=true
  rw[Sa L,show imm (Bd w)=true from Px w]; rfl
end
end DL
namespace Nd
open PySem PySem.Spec PyProof.Rows L2
end Nd
namespace DL
open PySem PySem.Spec PyProof.Rows L2 Nd
end DL
namespace Nd
open PySem PySem.Spec PySem.Calls PyProof.Rows PyProof.V L2
def V8(r:Addr)(j:Int)(h:Heap):Prop:=∃t u v,IsRange h r 0 j 1 t u v
abbrev qP(r:Addr)(j:Int):HO:=.ext (V8 r j)
section
variable{prog:Be}{w:World}{A:Co}{E:Value->Ag->Prop}{s:Ag}
theorem aD{R:List Value->Ag->Prop}{r:Addr}{a b c:Int}{t u v:Tok}{n:Nat}(hh:A.handled=none)(hr:IsRange s.heap r a b c t u v)(hsmall:Builtin.Range.small a b c=true)(hn:Jg a b c=n)(hlen:n<=2 ^ 24)(h:∀(h':Heap) (tk:Nat) (acc:Array Value),(∀b o,s.heap.get? b=some o->h'.get? b=some o)->ItemsOf (λi v=>∃t,v=.int (a+i * c) t) acc n->R acc.toList { s with heap:=h',toks:=tk }):wpAny (model prog w) A (collect (.ref r)) R E s:=by
 unfold collect
 refine Ab (wpAny_runValue (Je PyProof.Rows.entry_proto_collect' ?_))
 rw[Gs PySem.F.plain_proto_collect _]
 show wpAny _ A.in1 (newList [] >>= λl=>again (.builtin "list.__iadd__" ⟨[l,.ref r],[]⟩)) _ _ s
 refine Ab (Ef ?_)
 refine Aj ⟨Qy PySem.F.plain_list_iadd _,Je PyProof.Rows.entry_list_iadd' ?_⟩
 rw[Gs PySem.F.plain_list_iadd _]
 have hS₁:(s.heap.push { cls:=.type "list",data:=.seq ([]:List Value).toArray }).get? s.heap.objs.size=some { cls:=.type "list",data:=.seq #[] }:=Br _ rfl
 show wpAny _ A.in1 (Builtin.List.listExtendWith (.ref s.heap.objs.size) (.ref r) (.ref s.heap.objs.size)) _ _ _
 have key:=wpAny_extend_range (prog:=prog) (w:=w) (A:=A) (s:={ s with heap:=s.heap.push { cls:=.type "list",data:=.seq ([]:List Value).toArray } })
  (R:=λ(q:Result) (s':Ag)=>∃(h':Heap) (tk:Nat) (acc':Array Value) (c':Nat),q=.ok (.ret (.ref s.heap.objs.size))/\s'={ s with heap:=h',toks:=tk } /\
   (∀b o,s.heap.get? b=some o->h'.get? b=some o)/\h'.get? s.heap.objs.size=some { cls:=.type "list",dict:=none,data:=.seq acc' c',slots:=#[] }/\ItemsOf (λi v=>∃t,v=.int (a+i * c) t) acc' n)
  hh (Am _ hr) hsmall hn hlen s.heap.objs.size (.ref s.heap.objs.size) 0 hS₁
  (λh' tk acc' c' hk hS' hacc=>⟨h',tk,acc',c',rfl,rfl,λb o e=>hk b o (Cy (Bk e)) (Am _ e),hS',hacc⟩)
 refine Fs key (λfin s' x=>?_) λe s' x=>?_
 ·cases fin with
  | done f =>
   obtain ⟨h',tk,acc',c',e,rfl,hk,hS',hacc⟩:=x
   cases e
   show wpAny _ A (load s.heap.objs.size >>= _) _ _ _
   refine Ab (wpAny_load hS' ?_)
   exact Aj (h h' tk acc' hk hacc)
  | again c₁ =>
   refine ⟨x.1,Oe x.2 λq s₂ y=>?_⟩
   obtain ⟨h',tk,acc',c',rfl,rfl,hk,hS',hacc⟩:=y
   show wpAny _ A (load s.heap.objs.size >>= _) _ _ _
   refine Ab (wpAny_load hS' ?_)
   exact Aj (h h' tk acc' hk hacc)
 ·obtain ⟨_,_,_,_,e',_⟩:=x
  cases e'
theorem Uq{Q₁:Value->Ag->Prop}{r:Addr}{a b c:Int}{t u v:Tok}{n:Nat}(hh:A.handled=none)(hr:IsRange s.heap r a b c t u v)(hsmall:Builtin.Range.small a b c=true)(hn:Jg a b c=n)(hlen:n<=1000)(h:∀(h':Heap) (tk:Nat) (acc:Array Value),(∀b o,s.heap.get? b=some o->h'.get? b=some o)->ItemsOf (λi v=>∃t,v=.int (a+i * c) t) acc n->Q₁ (.ref h'.objs.size) { s with heap:=h'.push { cls:=.type "tuple",data:=.seq acc },toks:=tk }):Mv (model prog w) A (.call (.builtin "tuple.__new__") ⟨[.type "tuple",.ref r],[]⟩) (wants Q₁ E) s:=by
 refine codeAny_of_tree ?_
 show wpAny _ A.in1 (do checkBuiltinCall "tuple.__new__" ⟨[.type "tuple",.ref r],[]⟩; again (.builtin "tuple.__new__" ⟨[.type "tuple",.ref r],[]⟩)) _ _ s
 refine Ab (Lf (F.newCall_tuple_1 _) (Aj ⟨Qy F.plain_tuple_new _,Je F.entry_tuple_new ?_⟩))
 rw[Gs F.plain_tuple_new _]
 have hsub:=sub_tuple_self
 have hinit:=init_tuple_lookup
 have hmh:=madeHere_tuple
 have hTI:s.TypeIs (.ref r) "range" := ⟨_,hr,rfl⟩
 have hh1:A.in1.handled=none:=hh
 wp_walk using Kc hTI,aD hh1 hr hsmall hn (by omega)
 intro h' tk acc hm hacc
 show wpAny _ _ (Fe acc.toList.toArray >>= λv=>ret v) _ _ _
 unfold Fe
 refine Ab (Ef ?_ (by show acc.toList.toArray.size<=Ax; simp only[Array.toArray_toList]; rw[hacc.1,Jt]; omega))
 refine Aj ?_
 have e:acc.toList.toArray=acc:=by simp
 rw[e]
 exact h h' tk acc hm hacc
end
theorem Zs:∀{n:Nat} {acc:Array Value},acc.size=n->(∀(i:Nat) v,acc[i]? = some v->∃t,v=Li (i:Int) t)->Fm acc.toList ((Bp n).map λk:Nat=>(k:Int)):=by
 intro n acc hs h
 have gen:∀(l:List Value) (m:Nat),(∀(i:Nat) v,l[i]? = some v->∃t,v=Li ((m+i:Nat):Int) t)->Fm l ((List.range' m l.length).map λk:Nat=>(k:Int)):=by
  intro l
  induction l with
  | nil=>intro m _; exact .nil
  | cons x l ih =>
   intro m hx
   obtain ⟨t,e⟩:=hx 0 x rfl
   have:=ih (m+1) λi v hv=>by
    obtain ⟨t,e⟩:=hx (i+1) v hv
    exact ⟨t,by rw[e]; congr 1; omega⟩
   rw[Ba,List.range'_succ,Aw]
   rw[e]
   exact .cons _ t this
 have:=gen acc.toList 0 λi v hv=>by
  obtain ⟨t,e⟩:=h i v (by simpa using hv)
  exact ⟨t,by rw[e]; congr 1; omega⟩
 rw[List.range_eq_range']
 have e:acc.toList.length=n:=by simpa using hs
 rw[e] at this
 exact this
section
variable{X:Cx}
def U0:List V->Hp->VK->Prop:=λxs H Q=>∃j:Int,xs=[.int j]/\∀r,H r=none->Q (.ref r) (upd H r (qP r j))
theorem gG:Kf X (.type "range") U0:=by
 intro pins s σ H xs us Q I r h
 obtain ⟨j,rfl,q⟩:=h
 obtain ⟨u,rfl,t,rfl⟩:=vals1 r
 refine call_range_1 ⟨.ref s.heap.objs.size,_,I.laid (a:=s.heap.objs.size) (o:=qP s.heap.objs.size j) (t':=s.toks+1+1) (λb o e=>Am _ e) (Ah _) ?_,rfl,q _ (I.hok.fresh (Ah _))⟩
 refine ⟨⟨_,_,_,Br _ rfl⟩,⟨_,Br _ rfl⟩,λh1 h2 ⟨t,u,v,e⟩ k=>⟨t,u,v,k _ e⟩⟩
def O1:List V->Hp->VK->Prop:=λxs H Q=>∃(r:Addr) (j:Int),xs=[.ref r]/\H r=some (qP r j)/\0<=j/\j<=1000/\∀l,H l=none->Q (.ref l) (upd H l (.tup (((Bp j.toNat).map λn:Nat=>(n:Int)).map V.int)))
theorem iN(hc:X.calm=true):Kf X (.type "tuple") O1:=by
 intro pins s σ H xs us Q I r h
 obtain ⟨p,j,rfl,hp,j0,j1,q⟩:=h
 obtain ⟨u,rfl,ru⟩:=vals1 r
 cases ru
 obtain ⟨⟨t,u,v,hr⟩,_,_⟩:=(show Gc X.prog X.w H s.heap p (qP p j) from I.hok p _ hp)
 have hn:Jg 0 j 1=((j.toNat:Nat):Int):=by rw[rangeSize_one]; split <;> omega
 refine callType_codes (Q₁:=λobj s₁=>s₁.TypeIs obj "tuple" /\ EP X pins σ Q obj s₁) F.called_tuple (F.typeCall_tuple_1 _) F.entry_object_init
  (Uq (prog:=X.prog) (w:=X.w) (E:=X.xe) (Q₁:=λobj s₁=>s₁.TypeIs obj "tuple" /\ EP X pins σ Q obj s₁) (A:=X.A.in1) (show X.A.in1.handled=none from I.ok.hd hc) hr (small_one (by omega) (by omega) (by omega) (by omega)) hn (by omega) λh' tk acc hk hacc=>⟨⟨_,Br _ rfl,rfl⟩,?_⟩) λobj s₁ h₁=>?_
 ·have I1:Inv X pins σ H { s with heap:=h',toks:=tk }:=I.kept hk
  have hv:Fg (((Bp j.toNat).map λn:Nat=>(n:Int)).map V.int) acc.toList:=by
   refine u5 (Zs ?_ ?_)
   ·exact hacc.1
   ·intro i v hv
    obtain ⟨t,e⟩:=hacc.2 i v hv
    exact ⟨t,by rw[e]; congr 1; omega⟩
  refine ⟨.ref h'.objs.size,_,I1.laid (a:=h'.objs.size) (o:=.tup (((Bp j.toNat).map λn:Nat=>(n:Int)).map V.int)) (t':=tk) (λb o e=>Am _ e) (Ah _) ⟨?_,acc.toList,hv,?_⟩,rfl,q _ (I1.hok.fresh (Ah _))⟩
  ·rw[Ad,Ad,Dg]; exact sz (by omega)
  ·have e:acc=acc.toList.toArray:=by simp
   rw[e]
   exact IsTup.new _ _
 ·exact ⟨h₁.1,F.args_object_init_2 obj _,object_init_meets F.called_tuple.init.lookup F.called_tuple.made (by decide) X.prog X.w X.A.in1 _ s₁ ⟨h₁.1,rfl,h₁.2⟩⟩
end
end Nd
namespace DL
open PySem PySem.Spec PyProof.Rows L2 Nd
def U3(K:PySem.W.Frag)(pf:PF):Sp:=λus H Q _=>∃(As:List Ent) (n:Nat) (ds:List Ac) (R:Ac->Prop) (C:List Addr),As.map Ent.v=us.map some/\(∀e∈As,Jc K H n e)/\datas (As.map Ent.x)=some ds/\pf ds R/\(∀a∈C,H a≠none/\∀e∈As,a∉e.F) /\
 ∀v d F H',R d->RdF K H' v d F->(∀a∈F,a∉C)->Wd H H'->Q v H'
def retA(R:Ac->Prop):DEnds where
 nx:=λ_=>R .none
 rt:=λx _=>∃m d,x=.dat m d/\m≠.pk/\R d
section
variable{K:PySem.W.Frag}{H0 H H':Hp}{X:Addr->Prop}{n:Nat}{E S T:List Ent}
theorem At.pushS(h:At K H0 X n E H){v:V}{d:Ac}{F:List Addr}(r:RdF K H v d F)(fr:∀f∈E,∀a∈cells f,a∉F):At K H0 X n (⟨some v,.dat .sh d,F⟩::E) H :=
 h.push ⟨v,rfl,r,λz=>(nomatch z),λz=>(nomatch z)⟩ (λf hf=>⟨λ_ a ha=>(nomatch ha),λ_ a ha=>fr f hf a ha⟩) λa ha=>(nomatch ha)
end
section
variable{P:Be}{w:World}{K:PySem.W.Frag}{mg:Str->Option Value}{base:Heap}
theorem AQ{As:List Ent}{k:Nat}:∀e∈As.map Zx++Ht k,∀a∈e.F,∃f∈As,a∈f.F:=λe he a ha=>by
 rcases Ay.mp he with he | he
 ·obtain ⟨f,hf,rfl⟩:=Cc.mp he
  refine ⟨f,hf,?_⟩
  obtain ⟨v,x,F⟩:=f
  cases x <;> exact ha
 ·rw[(Hv.mp he).2] at ha
  exact nomatch ha
theorem tE{x qual:Str}{st:Stmt}{f:Addr}{fd:Cv}{N ps:List Str}{k:Nat}{pf:PF}{db:DB}(F:Fun K x qual st f fd)(S:FnScope N ps (By st))(hb:∀(cdv:Value) (A:Co) (outer:List Env) (s:Ag) (H:Hp) (E:XK),Room k (A.deeper (Pg qual (By st) s.heap.objs.size f cdv))->Wh (Nz Jb P w K mg base N qual (By st) f cdv A outer s H E).nox (Iz st) db)(h:∀ds R,pf ds R->ds.length=ps.length/\db (retA R) ⟨args0 ds (N.length - ps.length),0⟩):FnOk P w K mg base Jb (k+1) f fd ps (U3 K pf):=by
 refine F.ok S (λvs H Q E z=>?_) λcdv A outer s H us Q E hr z=>?_
 ·obtain ⟨As,n,ds,R,C,eu,ok,q,hp,_⟩:=z
  have l1:=(h ds R hp).1
  have l2:=Jr q
  rw[Ad] at l2
  have l3:=congrArg Fq eu
  rw[Ad,Ad] at l3
  omega
 ·obtain ⟨As,n,ds,R,C,eu,ok,q,hp,hG,k1⟩:=z
  obtain ⟨l1,hd⟩:=h ds R hp
  have l2:=Jr q
  rw[Ad] at l2
  have l3:=congrArg Fq eu
  rw[Ad,Ad] at l3
  let H0:Hp:=λa=>open Classical in if a∈C then none else H a
  have h0n:∀{a},a∈C->H0 a=none:=λz=>if_pos z
  have h0s:∀{a},a∉C->H0 a=H a:=λz=>if_neg z
  -- what holds at the end
  have ends:∀{E':List Ent} {n':Nat} {H':Hp},At K H0 (λ_=>False) n' (E'++[⟨none,.grd H,C⟩]) H'->Wd H H':=λ{E' n' H'} hA b o e=>by
   by_cases hb:b∈C
   ·obtain ⟨o',g1,g2⟩:=hA.ok _ (Al _ Aa) b hb
    rw[e] at g1
    cases g1
    exact g2
   ·exact hA.same b o (λz=>z) (by rw[h0s hb]; exact e)
  refine ⟨_,hb cdv A outer s H E hr,H0,λ_=>False,As.map Zx++Ht (N.length - ps.length),[⟨none,.grd H,C⟩],⟨args0 ds (N.length - ps.length),0⟩,retA R,?_,?_,λe z=>?_,?_,hd,λδ' S' H' e1 hA p=>?_,λx δ' v F' S' H' e1 hA p=>?_,λ_ _ _ _ _ p=>p.elim,λ_ _ _ _ _ p=>p.elim⟩
  ·unfold vs L2.start Ht
   rw[Cb,C4,eu,Nh,show us.length=ps.length by omega]
  ·unfold Sl args0 Ht
   rw[Cb,Td q,Nh]
  ·rw[Ai.mp z]; rfl
  ·have hs:=cT q (N.length - ps.length)
   have hF:=AQ (As:=As) (k:=N.length - ps.length)
   have gF:∀e∈As.map Zx++Ht (N.length - ps.length),∀a∈C,a∉e.F:=λe he a ha z=>by
    obtain ⟨f,hf,zf⟩:=hF e he a z
    exact (hG _ ha).2 f hf zf
   refine ⟨λe he=>?_,Cn.mpr ⟨Pn λa ha b hb'=>⟨λhq c hc=>?_,λhq c hc=>?_⟩,Fv _ _,λa ha b hb'=>⟨λhq c hc=>?_,λhq c hc=>?_⟩⟩,λe he a ha=>?_,λb o _ e=>?_,λb o e=>?_,λb hb=>hb.elim⟩
   ·rcases Ay.mp he with he | he
    ·have:=qQ q ok (N.length - ps.length) e he
     obtain ⟨v,x,F⟩:=e
     cases x with
     | drw=>exact absurd (hs _ he).2 (by show ¬ (true=false); decide)
     | _=>exact this
    ·rw[Ai.mp he]
     intro a ha
     have:=(hG _ ha).1
     cases q:H a with
     | none=>exact absurd q this
     | some o=>exact ⟨o,by first | rfl | exact q,by first | rfl | exact q⟩
   ·rw[(hs a ha).1] at hc; cases hc
   ·rw[(hs b hb').1] at hc; cases hc
   ·rw[(hs a ha).1] at hc; cases hc
   ·rw[Ai.mp hb'] at hc
    exact gF a ha c hc
   ·rcases Ay.mp he with he | he
    ·rw[(hs e he).1] at ha; cases ha
    ·rw[Ai.mp he] at ha
     exact .inl (h0n ha)
   ·by_cases hb:b∈C
    ·rw[h0n hb] at e; cases e
    ·rw[h0s hb] at e; exact e
   ·by_cases hb:b∈C
    ·rw[h0n hb] at e; cases e
    ·rw[h0s hb] at e; exact ⟨o,e⟩
  ·exact k1 .non .none [] H' p .non (λ_ z=>(nomatch z)) (ends hA)
  ·obtain ⟨m,d,rfl,hm,r⟩:=p
   obtain ⟨u,e2,rd,_⟩:=hA.ok _ mem_mid
   cases e2
   have hA2:At K H0 (λ_=>False) δ'.n ((S'++[⟨some v,.dat m d,F'⟩])++[⟨none,.grd H,C⟩]) H':=by rw[Bz]; exact hA
   refine k1 v d F' H' r rd (λa ha=>?_) (ends hA2)
   have sp:=(Cn.mp hA2.sep).2.2 _ (Al _ Aa) _ Aa
   exact λz=>sp.2 (.inr rfl) a z ha
end
def uI(pf:PF)(da:DA):DE:=λδ P=>da δ λxs δ1=>noPk xs=true/\match datas xs with
 | some ds=>pf ds λd=>P (.dat .sh d) δ1
 | none=>False
theorem fJ:∀{As:List Ent},noPk (As.map Ent.x)=true->∀e∈As,Mu e.x=false
 | [],_,e,he=>nomatch he
 | ⟨v,x,F⟩::As,h,e,he=>by
  rw[Aw] at h
  have hh:Mu x=false/\noPk (As.map Ent.x)=true:=by
   cases x with
   | dat m d=>cases m <;> first | exact ⟨rfl,h⟩ | (simp [noPk] at h)
   | _=>exact ⟨rfl,by simpa [noPk] using h⟩
  rcases An.mp he with rfl | he
  ·exact hh.1
  ·exact fJ hh.2 e he
section
variable{X:Cx}{CX:pV}{k:Nat}{f:Addr}{fd:Cv}{ps:List Str}{pf:PF}{E:XK}{x:Str}{p pos:Pos}{e:Expr}{es:List Expr}{da:DA}
theorem Xf(F:FnOk X.prog X.w X.K X.mg X.base CX k f fd ps (U3 X.K pf))(hr:Room k X.A)(hg:Gl X x)(hm:X.mg x=some (.ref f))(hk:PySem.W.keepIn X.K (.ref f)=true)(hb:Binds X.K fd ps [])(hx:Og CX X E)(ha:kT X (e::es) da)(hdb:(x == ("__debug__" : Str))=false:=by decide)(he:Bs (e::es) X.env=(false,eval e X.env)::Bs es X.env:=by rfl)(hpl:(Ic pos (Bs es X.env)).any (·.1)=false:=by rfl):Eu X (.Call (.Name x p) (e::es) [] pos) (uI pf da):=by
 refine PE.imp (Wo F hr hg hm hk hb .nil hx ha hdb he hpl) λσ H Q h=>?_
 obtain ⟨H0,Y,S,T,δ,P,rfl,hS,hA,hd,kk⟩:=h
 refine ⟨H0,Y,S,T,δ,_,rfl,hS,hA,hd,λxs δ' As us S' H' e1 e2 ex eu hA' p=>?_⟩
 subst ex
 obtain ⟨np,p⟩:=p
 cases q:datas (As.map Ent.x) with
 | none=>rw[q] at p; exact p.elim
 | some ds =>
  rw[q] at p
  rw[Dz]
  have hAs:=fJ np
  have hE:=hA'.dropL
  refine ⟨As,δ'.n,ds,_,(S'++T).flatMap cells,eu,λe he=>hA'.ok e (Al _ (Aq _ he)),q,p,λa ha=>?_,λv d F H'' r rd fr s=>?_⟩
  ·obtain ⟨g,hg1,hg2⟩:=Hn.mp ha
   refine ⟨λz=>?_,λe he=>?_⟩
   ·obtain ⟨o,q⟩:=(hE.ok g hg1).dom a (Ga _ _ hg2)
    rw[z] at q; cases q
   ·obtain ⟨_,hp2,hp⟩ := Cn.mp hA'.sep
    rcases Ay.mp hg1 with hg1 | hg1
    ·exact (hp g hg1 e (Aq _ he)).1 (.inl (hAs e he)) a hg2
    ·exact ((Cn.mp hp2).2.2 e he g hg1).2 (.inl (hAs e he)) a hg2
  ·refine kk _ δ' v F S' H'' e1 e2 (((hE.grow s (Ah _)).pushS rd λf hf a ha z=>fr a z (List.mem_flatMap.mpr ⟨f,hf,ha⟩)).tomid) r
end
def CM(da:DA):DE:=λδ P=>da δ λxs δ1=>match xs with
 | [.dat _ (.tuple ds)]=>∃ns:List Int,ds=ns.map Ca/\(∀x∈ns,0<=x/\x<60)/\P (.dat .ow (.list ((L0 ns).map Ca))) δ1
 | _=>False
def Ru(j:Nat):List Int:=(Bp j).map λn:Nat=>(n:Int)
def Y1(x:DV)(δ:DS)(P:DV->DS->Prop):Prop:=match x with
 | .dat _ (.int j)=>0<=j/\j<=1000/\P (.dat .ow (Bd (Ru j.toNat))) δ
 | _=>False
def CD(de:DE):DE:=λδ P=>de δ λx δ1=>Y1 x δ1 P
section
variable{X:Cx}{p p2 pos pos2:Pos}{e:Expr}{de:DE}
theorem bD(hc:X.calm=true)(hg:Gl X "tuple")(hm:X.mg "tuple" = none)(hg2:Gl X "range")(hm2:X.mg "range" = none)(ha:Eu X e de)(he:Bs [e] X.env=[(false,eval e X.env)]:=by rfl)(he2:Bs [.Call (.Name "range" p2) [e] [] pos2] X.env=[(false,eval (.Call (.Name "range" p2) [e] [] pos2) X.env)]:=by rfl):Eu X (.Call (.Name "tuple" p) [.Call (.Name "range" p2) [e] [] pos2] [] pos) (CD de):=by
 refine PE.imp (Ny (iN hc) hg hm (by decide +kernel) (Hy (Ny gG hg2 hm2 (by decide +kernel) (Hy ha Om he) (by decide) (by decide) he rfl) Om he2) (by decide) (by decide) he2 rfl) λσ H Q h=>?_
 obtain ⟨H0,Y,S,T,δ,P,rfl,hS,hA,hd,k⟩:=h
 refine ⟨H0,Y,S,T,δ,_,rfl,hS,hA,hd,λx δ' v F S' H' e1 e2 hA' p=>?_⟩
 unfold Y1 at p
 split at p
 ·rename_i m j
  obtain ⟨j0,j1,p⟩:=p
  obtain ⟨rfl,_⟩:=(hA'.told mem_mid).int_inv
  refine ⟨j,rfl,λr nr=>⟨r,j,rfl,Du,j0,j1,λl nl=>?_⟩⟩
  have s1:=Ft nr (qP r j)
  have s2:=Ft nl (.tup ((Ru j.toNat).map V.int))
  refine k _ δ' _ _ S' _ e1 e2 (((hA'.drop.grow s1 (Ah _)).grow s2 (Ah _)).pushI (RdF.tup Du ?_ (RdFs.ints _))) p
  rw[Ad]
  unfold Ru
  rw[Ad,Dg]
  exact pK (by omega)
 ·exact p.elim
end
abbrev PX:=List Ac->(Ac->Prop)->(Addr->Prop)->Prop
end DL
namespace Nd
open PySem PySem.Spec PyProof.Rows L2
end Nd
namespace DL
open PySem PySem.Spec PyProof.Rows L2 Nd
end DL
namespace Nd
open PySem PySem.Spec PyProof.Rows L2
end Nd
namespace Nd
open PySem PySem.Spec
end Nd
namespace Nd
open PySem PySem.Spec PyProof.Rows L2
end Nd
namespace DL
open PySem PySem.Spec PyProof.Rows L2 Nd
end DL
namespace Nd
open PySem PySem.Spec PyProof.Rows L2
end Nd
namespace DL
open PySem PySem.Spec PyProof.Rows L2 Nd
end DL
namespace Nd
open PySem PySem.Spec PyProof.Rows L2
end Nd
namespace DL
open PySem PySem.Spec PyProof.Rows L2 Nd
theorem At.spoil{K:PySem.W.Frag}{H0 H H':Hp}{X:Addr->Prop}{n:Nat}{E:List Ent}{v:Option V}{d:Ac}{F:List Addr}(h:At K H0 X n (⟨v,.dat .ow d,F⟩::E) H)(np:∀f∈E,Mu f.x=false)(hs:∀b o,H b=some o->(b∉F\/AA o)->H' b=some o):At K H0 X n E H':=by
 have hp:=Bh.mp h.sep
 have n0:∀a∈F,H0 a=none:=λa ha=>by
  rcases h.new _ Aa a ha with z | z
  ·exact z
  ·cases z.2
 refine At.re (h.sub (Df _ _)) (λf hf=>(h.ok f (Af _ hf)).kp (λb o e z=>hs b o e (z.imp (λq r=>(hp.1 f hf).1 (.inl (np f hf)) b r q) id)) (Ah _)) (λb o nx q=>hs b o (h.same b o nx q) (.inl λz=>?_)) (λb o q=>?_) λb hb=>?_
 ·rw[n0 b z] at q; cases q
 ·obtain ⟨o',e⟩:=h.dom b o q
  exact ⟨o',hs b o' e (.inl λz=>by rw[n0 b z] at q; cases q)⟩
 ·obtain ⟨z,c,k,f,h1,h2⟩:=h.xd b hb
  exact ⟨z,c,k,f,hs _ _ h1 (.inl λw=>z (n0 b w)),h2⟩
end DL
namespace Ts
open PySem PyProof.Rows L2
end Ts
namespace DL
open PySem PySem.Spec PyProof.Rows L2 Nd Ts
end DL
namespace DL
open PySem PySem.Spec PyProof.Rows L2 Nd
end DL
namespace Nd
open PySem PySem.Spec PyProof.Rows L2
end Nd
namespace DL
open PySem PySem.Spec PyProof.Rows L2 Nd
theorem xH{a b:Addr}{x y:List (List Int×Ac)}(h:E7 a x=E7 b y):a=b/\x=y:=by
 obtain ⟨h1,h2⟩:=Fi h
 refine ⟨Int.ofNat.inj (PyData.int.inj (Prod.mk.inj h1).2),?_⟩
 refine Sk (λx y e=>?_) h2
 obtain ⟨e1,e2⟩:=Prod.mk.inj e
 exact Prod.ext (Nu e1) e2
def yH:D2:=λx y P=>match x,y with
 | .dat _ (.dict X),.dat _ k=>∃a ks w d,X=E7 a ks/\k=Bd w/\Rv ks w=some d/\P (.dat .ow d)
 | _,_=>False
end DL
namespace Nd
open PySem PySem.Spec PySem.Calls PyProof.Rows PyProof.V L2 Ts
end Nd
namespace DL
open PySem PySem.Spec PyProof.Rows L2 Nd Ts
theorem tab_no{K:PySem.W.Frag}{x:Str}(nm:PySem.W.nsIn K Ct x=some none):PySem.W.tabIn K x=none:=by
 unfold PySem.W.tabIn
 rw[nm]
end DL
namespace HT
open PySem PyProof.Rows
end HT
namespace Nd
open PySem PySem.Spec PySem.Calls PyProof.Rows PyProof.V L2 Ts
end Nd
namespace DL
open PySem PySem.Spec PyProof.Rows L2 Nd Ts
end DL
namespace DL
open PySem PySem.Spec PyProof.Rows L2 Nd
end DL
namespace DL
open PySem L2 Nd
end DL
namespace Nd
open PySem PySem.Spec PyProof.Rows L2
end Nd
namespace DL
open PySem PySem.Spec PyProof.Rows L2 Nd
def i5(i:Nat)(z y:DV)(δ:DS)(D:DEnds):Prop:=match δ.sl[i]?,z,y with
 | some (.dat m (.list ds)),.dat _ (.int k),.dat my e=>own1 m=true/\npk δ.sl=true/\my≠.pk/\ds.length<1000000/\0<=k/\k<=1000000/\D.nx ⟨δ.sl.set i (.dat (DD m my) (.list (Q7 ds k.toNat e))),δ.n⟩
 | _,_,_=>False
def tX(i:Nat)(dk de:DE):DB:=λD δ=>match δ.sl[i]? with
 | some (.dat _ (.list _))=>dk δ λz δ1=>de δ1 λy δ2=>i5 i z y δ2 D
 | _=>False
def BW(db:DB)(D:DEnds)(I:DS->Prop)(μ:DS->Nat)(δ':DS)(b:Bool)(δ2:DS):Prop:=match b with
 | true=>db { D with nx:=λδ3=>I δ3/\μ δ3<μ δ',ct:=λδ3=>I δ3/\μ δ3<μ δ',bk:=D.nx } δ2
 | false=>D.nx δ2
theorem qW{dt:DT}{db:DB}{D:DEnds}{δ:DS}(I:DS->Prop)(μ:DS->Nat)(h0:I δ)(h:∀δ',I δ'->dt δ' (BW db D I μ δ')):sZ dt db D δ:=⟨I,μ,h0,h⟩
theorem n5{db:DB}{D:DEnds}{I:DS->Prop}{μ:DS->Nat}{δ' δ2:DS}{b:Bool}(h1:b=true->db { D with nx:=λδ3=>I δ3/\μ δ3<μ δ',ct:=λδ3=>I δ3/\μ δ3<μ δ',bk:=D.nx } δ2)(h2:b=false->D.nx δ2):BW db D I μ δ' b δ2:=by
 cases b with
 | true=>exact h1 rfl
 | false=>exact h2 rfl
end DL
namespace NdS
open PySem
theorem dO{m:Nat}:∀{f i t:Nat},t<f->it m t i∈T5 m f i
 | f+1,i,0,_=>Aa ..
 | f+1,i,t+1,h=>Af _ (dO (Nat.lt_of_succ_lt_succ h))
theorem K6{m:Nat}(i:Nat):st (2 * m) i % m=st m (i % m):=by
 unfold st
 rw[Nat.mod_mod_of_dvd _ ⟨2,by omega⟩,Pc,Nat.mul_mod]
 conv=>rhs; rw[Pc,Nat.mul_mod,Nat.mod_mod]
theorem vL{m:Nat}:∀(t i:Nat),it (2 * m) t i % m=it m t (i % m)
 | 0,i=>rfl
 | t+1,i=>by
  show it (2 * m) t (st (2 * m) i) % m=it m t (st m (i % m))
  rw[vL t,K6]
theorem r9{m i:Nat}(h:0<m):st m i<m:=Lu _ h
theorem g0{m:Nat}(h:0<m):∀{t i:Nat},i<m->it m t i<m
 | 0,_,hi=>hi
 | t+1,i,hi=>g0 h (t:=t) (r9 h)
theorem xP{m i:Nat}:st (2 * m) ((i+m) % (2 * m))=(st (2 * m) i+m) % (2 * m):=by
 unfold st
 have e:(i+m) * 5+1=i * 5+1+m+2 * (2 * m):=by omega
 rw[Pc,Nat.mul_mod,Nat.mod_mod,<- Nat.mul_mod,<- Pc,e,Nat.add_mul_mod_self_right,Pc]
 conv=>rhs; rw[Pc,Nat.mod_mod]
theorem lW{m:Nat}:∀(t i:Nat),i<2 * m->it (2 * m) t ((i+m) % (2 * m))=(it (2 * m) t i+m) % (2 * m)
 | 0,i,_=>rfl
 | t+1,i,h=>by
  show it (2 * m) t (st (2 * m) ((i+m) % (2 * m)))=_
  rw[xP,lW t _ (r9 (by omega))]
  rfl
theorem Mj{m:Nat}(g:Il m)(h:it (2 * m) m 0=m):Il (2 * m):=by
 obtain ⟨h0,h1,h2⟩:=g
 have half:∀t,it (2 * m) (m+t) 0=(it (2 * m) t 0+m) % (2 * m):=λt=>by
  rw[Zd,h]
  have:=lW (m:=m) t 0 (by omega)
  rw[Ge,Gi (show m<2 * m by omega)] at this
  exact this
 refine ⟨by omega,?_,λe he=>?_⟩
 ·have:=half m
  rw[h,show m+m=2 * m by omega,Nat.mod_self] at this
  exact this
 ·obtain ⟨t,ht,et⟩:=Wu (h2 (e % m) (Lu _ h0))
  have k:=vL (m:=m) t 0
  rw[Nat.zero_mod,et] at k
  have lt:it (2 * m) t 0<2 * m:=g0 (by omega) (by omega)
  by_cases c:it (2 * m) t 0=e
  ·rw[<- c]; exact dO (by omega)
  ·have hh:=half t
   have : (it (2 * m) t 0+m) % (2 * m)=e:=by
    generalize it (2 * m) t 0=x at k lt c
    have up:∀{y},m<=y->y<2 * m->y % m=y - m:=λ{y} h1 h2=>by rw[Nat.mod_eq_sub_mod h1,Gi (by omega)]
    by_cases c1:x<m <;> by_cases c2:e<m
    ·rw[Gi c1,Gi c2] at k; omega
    ·rw[Gi c1,up (by omega) he] at k
     rw[Gi (by omega)]; omega
    ·rw[up (by omega) lt,Gi c2] at k
     rw[show x+m=e+2 * m by omega,Nat.add_mod_right,Gi he]
    ·rw[up (by omega) lt,up (by omega) he] at k; omega
   rw[<- this,<- hh]
   exact dO (by omega)
theorem lJ:Il 512:=Mj nK (by decide +kernel)
theorem gA:Il 1024:=Mj lJ (by decide +kernel)
theorem eX:Il 2048:=Mj gA (by decide +kernel)
theorem fR:Il 4096:=Mj eX (by decide +kernel)
theorem vN:Il 8192:=Mj fR (by decide +kernel)
theorem qV:∀{i:Nat},i<=10->Il (2 ^ (i+3))
 | 0,_=>i3 | 1,_=>B5 | 2,_=>D0 | 3,_=>C3 | 4,_=>xB | 5,_=>nK
 | 6,_=>lJ | 7,_=>gA | 8,_=>eX | 9,_=>fR | 10,_=>vN
 | i+11,h=>absurd h (by omega)
theorem gU{n:Nat}(hn:n<8192):∀(j i f:Nat),i+j=10->∃k,i<=k/\k<=10/\Jh n (f+j+1) (2 ^ (i+3))=2 ^ (k+3)/\n<2 ^ (k+3)
 | 0,i,f,h=>by
  have : i=10:=by omega
  subst this
  refine ⟨10,Ah _,Ah _,?_,hn⟩
  unfold Jh
  rw[if_neg (by show ¬ 8192<=n; omega)]
 | j+1,i,f,h=>by
  by_cases c:2 ^ (i+3)<=n
  ·obtain ⟨k,k1,k2,k3,k4⟩:=gU hn j (i+1) f (by omega)
   refine ⟨k,by omega,k2,?_,k4⟩
   rw[<- k3,show f+(j+1)+1=(f+j+1)+1 by omega]
   show (if 2 ^ (i+3)<=n then Jh n (f+j+1) (2 ^ (i+3) * 2) else _)=_
   rw[if_pos c,<- Nat.pow_succ]
  ·refine ⟨i,Ah _,by omega,?_,Nat.lt_of_not_le c⟩
   show (if 2 ^ (i+3)<=n then Jh n (f+(j+1)) (2 ^ (i+3) * 2) else _)=_
   rw[if_neg c]
theorem tQ{n:Nat}(hn:n<8192):∃m,Sb n=m+1/\Il (m+1)/\n<=m/\7<=m/\m<8192/\m % 2=1:=by
 obtain ⟨k,k1,k2,k3,k4⟩:=gU hn 10 0 53 rfl
 have k3':Sb n=2 ^ (k+3):=k3
 have e:2 ^ (k+3)=2 ^ k * 8:=Nat.pow_add 2 k 3
 have p:0<2 ^ k:=Nat.pow_pos (by decide)
 have up:2 ^ (k+3)<=2 ^ 13:=Mh (by decide) (by omega)
 have up':2 ^ (k+3)<=8192:=up
 refine ⟨2 ^ (k+3) - 1,by omega,?_,by omega,by omega,by omega,by omega⟩
 rw[show 2 ^ (k+3) - 1+1=2 ^ (k+3) by omega]
 exact qV k2
theorem oO{t:Bg}{es:Array (Int×Value)}{wanted:Nat}(hp:t.plain=true)(hw:wanted<8192)(h2:es.size * 2<=wanted):∃(t':Bg) (order:Array Nat),t.relaid (es.map (·.1)) wanted=some (t',order)/\order.toList.Perm (Bp es.size)/\Tab es.size t'/\t'.mask % 2=1/\Sb wanted<=8192/\t'.led=t.led:=by
 obtain ⟨m,e1,g,hm,m7,m8,mo⟩:=tQ hw
 have sz:(es.map (·.1)).size=es.size:=Array.size_map ..
 obtain ⟨t',order,q1,q2,q3,q4⟩:=tG (mask:=m) (finger:=t.finger) (moves:=t.movedTo m) (led:=t.led) g (es.map (·.1)) (by rw[sz]; omega)
 rw[sz] at q2 q3
 refine ⟨t',order,?_,q2,q3,?_,by omega,q4⟩
 ·unfold SetTable.relaid
  rw[e1,Nat.add_sub_cancel,hp]
  exact q1
 ·rw[(Sr q1).2.1]; exact mo
def Lo(t:Bg):Nat->Dk->Dk
 | 0,p=>p
 | k+1,p=>Lo t k (t.advance p)
structure WayOk(t:Bg)(p:Dk):Prop where
 more:p.more<=9
 top:p.j+p.more<=t.mask
 dum:p.dummy=none
theorem WayOk.next{t:Bg}{p:Dk}(x:WayOk t p):WayOk t (t.advance p):=by
 obtain ⟨h1,h2,h3⟩:=x
 unfold Ja
 split
 ·exact ⟨by dsimp only; omega,by dsimp only; omega,h3⟩
 ·rw[cV]
  have hi:(p.i * 5+1+p.perturb / 32) % (t.mask+1)<=t.mask:=bR.mp (Lu _ (Ww _))
  have a1:=aY hi
  have a2:=Qs t.mask ((p.i * 5+1+p.perturb / 32) % (t.mask+1))
  exact ⟨Uj _ _,by dsimp only; omega,h3⟩
theorem Qq{t:Bg}(h:Int):WayOk t (t.probeStart h):=by
 have hi:Cp h % (t.mask+1)<=t.mask:=bR.mp (Lu _ (Ww _))
 have a1:=aY hi
 have a2:=Qs t.mask (Cp h % (t.mask+1))
 exact ⟨Uj _ _,by show Cp h % (t.mask+1)+(Cu t.mask (Cp h % (t.mask+1)) - Cp h % (t.mask+1))<=t.mask; omega,rfl⟩
theorem bU{t:Bg}:∀(k:Nat) (p:Dk),p.more=k->∃q:Dk,Lo t (k+1) p=q/\q.j=((p.i * 5+1+p.perturb / 32) % (t.mask+1))/\q.i=q.j/\q.perturb=p.perturb / 32/\q.more<=9
 | 0,p,h=>by
  refine ⟨_,rfl,?_⟩
  show (t.advance p).j=_/\(t.advance p).i=(t.advance p).j/\(t.advance p).perturb=_/\(t.advance p).more<=9
  unfold Ja
  rw[if_neg (by omega),cV]
  exact ⟨rfl,rfl,rfl,Uj _ _⟩
 | k+1,p,h=>by
  have e:t.advance p={ p with j:=p.j+1,more:=p.more - 1 }:=by
   unfold Ja
   rw[if_pos (by omega)]
  obtain ⟨q,q1,q2,q3,q4,q5⟩:=bU k (t.advance p) (by rw[e]; show p.more - 1=k; omega)
  rw[e] at q2 q4
  exact ⟨q,q1,q2,q3,q4,q5⟩
theorem Kh{t:Bg}:∀(a b:Nat) (p:Dk),Lo t (a+b) p=Lo t b (Lo t a p)
 | 0,b,p=>by rw[Ge]; rfl
 | a+1,b,p=>by rw[Vz]; exact Kh a b _
theorem aP{t:Bg}:∀(u:Nat) (p:Dk),p.more<=9->∃k,k<=p.more+1+10 * u/\(Lo t k p).j=(lp (t.mask+1) (u+1) p.i p.perturb).1
 | 0,p,h=>by
  obtain ⟨q,q1,q2,q3,q4,q5⟩:=bU (t:=t) p.more p rfl
  exact ⟨p.more+1,by omega,by rw[q1]; exact q2⟩
 | u+1,p,h=>by
  obtain ⟨q,q1,q2,q3,q4,q5⟩:=bU (t:=t) p.more p rfl
  obtain ⟨k,k1,k2⟩:=aP u q q5
  refine ⟨p.more+1+k,by omega,?_⟩
  rw[Kh,q1,k2,q3,q2,q4]
  rfl
theorem oG{t:Bg}{n:Nat}(x:Tab n t)(h:Int):∃k,k<10 * Dv t.mask/\t.slot (Lo t k (t.probeStart h)).j=.empty:=by
 have hm:=Wp x
 obtain ⟨e,he,hn⟩:=yJ (m:=t.mask+1) x.rise (by rw[Ae,x.size]; omega)
 obtain ⟨u,hu,eu⟩:=iQ x.good (i:=Cp h % (t.mask+1)) (p:=Cp h) (e:=e) (Lu _ (Ww _)) (lT h) he
 have tn:10 * Dv t.mask=10 * t.mask+150:=by unfold Dv; omega
 cases u with
 | zero=>exact ⟨0,by omega,(Mq x.toTabOk).mpr (by rw[show (Lo t 0 (t.probeStart h)).j=e from eu]; exact hn)⟩
 | succ u =>
  obtain ⟨k,k1,k2⟩:=aP (t:=t) u (t.probeStart h) (Qq h).more
  have:=(Qq (t:=t) h).more
  exact ⟨k,by omega,(Mq x.toTabOk).mpr (by rw[k2,show (lp (t.mask+1) (u+1) (t.probeStart h).i (t.probeStart h).perturb).1=e from eu]; exact hn)⟩
theorem nW{t:Bg}{n j i:Nat}(x:TabOk n t)(h:t.slot j=.live i):i<n:=by
 unfold Rn at h
 dsimp only at h
 split at h
 ·rename_i c
  injection h with h
  subst h
  have c':t.place[Bl t.place j]? = some j:=by simpa using c
  have:=(Gk.mp c').1
  rw[<- x.size]
  exact this
 ·split at h <;> cases h
end NdS
namespace NdS
open PySem PyProof.Rows
theorem sR{t u:Bg}(h:t.mask=u.mask)(p:Dk):t.advance p=u.advance p:=by
 unfold Ja
 rw[h]
theorem Xi{t u:Bg}(h:t.mask=u.mask):∀(k:Nat) (p:Dk),Lo t k p=Lo u k p
 | 0,_=>rfl
 | k+1,p=>by
  show Lo t k (t.advance p)=Lo u k (u.advance p)
  rw[sR h,Xi h k]
theorem Xn{t u:Bg}(h:t.mask=u.mask)(x:Int):t.probeStart x=u.probeStart x:=by
 unfold SetTable.probeStart
 rw[h]
def Vk(t:Bg)(P:Nat->Prop)(h:Int)(j:Nat):Prop:=∃k,(Lo t k (t.probeStart h)).j=j/\∀k',k'<k->P (Lo t k' (t.probeStart h)).j
theorem Vk.mono{t u:Bg}{P Q:Nat->Prop}{h:Int}{j:Nat}(x:Vk t P h j)(e:t.mask=u.mask)(s:∀i,P i->Q i):Vk u Q h j:=by
 obtain ⟨k,h1,h2⟩:=x
 refine ⟨k,?_,λk' hk=>?_⟩
 ·rw[<- Xi e,<- Xn e]; exact h1
 ·rw[<- Xi e,<- Xn e]; exact s _ (h2 k' hk)
def N5(t:Bg)(es:List Int):Prop:=∀x∈es.zip t.place.toList,Vk t (·∈t.place.toList) x.1 x.2
theorem Xj{t:Bg}:∀(k:Nat) (p:Dk),k<=p.more->Lo t k p={ p with j:=p.j+k,more:=p.more - k }
 | 0,_,_=>rfl
 | k+1,p,h=>by
  show Lo t k (t.advance p)=_
  have e:t.advance p={ p with j:=p.j+1,more:=p.more - 1 }:=by
   unfold Ja
   rw[if_pos (by omega)]
  rw[e,Xj k _ (by show k<=p.more - 1; omega)]
  simp only[SetTable.Probe.mk.injEq,and_true,true_and]
  omega
def Ot(m i pe:Nat):Dk:={ j:=i,more:=Cu m i - i,i:=i,perturb:=pe,dummy:=none }
theorem tP{t:Bg}(i pe:Nat):Lo t (Cu t.mask i - i+1) (Ot t.mask i pe)=Ot t.mask ((i * 5+1+pe / 32) % (t.mask+1)) (pe / 32):=by
 rw[Kh,Xj (Cu t.mask i - i) (Ot t.mask i pe) (Ah _)]
 show t.advance _=_
 unfold Ja
 rw[if_neg (by show ¬ (Cu t.mask i - i - (Cu t.mask i - i) > 0); omega),cV]
 rfl
theorem hW{t:Bg}{owner:Array (Option Nat)}:∀(fuel i pe j:Nat),Dh t.mask owner fuel i pe=some j->∃k,(Lo t k (Ot t.mask i pe)).j=j/\∀k',k'<k->(owner.getD (Lo t k' (Ot t.mask i pe)).j (some 0)).isNone=false
 | 0,_,_,_,h=>by unfold Dh at h; cases h
 | fuel+1,i,pe,j,h=>by
  unfold Dh at h
  split at h
  ·rename_i k hk
   injection h with h
   obtain ⟨p1,as,bs,e1,p2⟩:=List.find?_eq_some_iff_append.mp hk
   have el:∀(n:Nat) (as bs:List Nat) (k:Nat),Bp n=as++k::bs->as=Bp k/\k<n:=λn as bs k e=>by
    have l1:as.length<n:=by
     have:=congrArg Fq e
     rw[Dg,Bn,Ba] at this
     omega
    have g:(Bp n)[as.length]? = some k:=by rw[e]; simp
    rw[List.getElem?_range l1] at g
    injection g with g
    refine ⟨?_,by omega⟩
    have tk:=congrArg (List.take as.length) e
    rw[List.take_left',List.take_range,Nat.min_eq_left (by omega)] at tk
    ·rw[<- tk,g]
    ·rfl
   obtain ⟨ea,kn⟩:=el _ _ _ _ e1
   refine ⟨k,?_,λk' hk'=>?_⟩
   ·rw[Xj k _ (by show k<=Cu t.mask i - i; omega)]
    exact h
   ·rw[Xj k' _ (by show k'<=Cu t.mask i - i; omega)]
    have:=p2 k' (by rw[ea]; exact Dm.mpr hk')
    show (owner.getD (i+k') (some 0)).isNone=false
    rw[Ha] at this
    exact this
  ·rename_i hk
   have none:=List.find?_eq_none.mp hk
   obtain ⟨k,k1,k2⟩:=hW fuel _ _ j h
   have sl:Lo t (Cu t.mask i - i+1) (Ot t.mask i pe)=Ot t.mask (SetTable.leap t.mask i pe).1 (SetTable.leap t.mask i pe).2:=tP i pe
   refine ⟨Cu t.mask i - i+1+k,by rw[Kh,sl]; exact k1,λk' hk'=>?_⟩
   by_cases c:k'<=Cu t.mask i - i
   ·rw[Xj k' _ c]
    have a:=Qs t.mask i
    have:=none k' (Dm.mpr (by omega))
    show (owner.getD (i+k') (some 0)).isNone=false
    exact Bool.eq_false_iff.mpr this
   ·rw[show k'=Cu t.mask i - i+1+(k' - (Cu t.mask i - i+1)) by omega,Kh,sl]
    exact k2 _ (by omega)
theorem tI{t:Bg}:∀(k:Nat) (p:Dk),WayOk t p->WayOk t (Lo t k p)
 | 0,_,h=>h
 | k+1,_,h=>tI k _ h.next
theorem B9{t:Bg}(k:Nat)(h:Int):(Lo t k (t.probeStart h)).j<=t.mask:=by
 have:=(tI k _ (Qq (t:=t) h)).top
 omega
def Xz(owner:Array (Option Nat))(i:Nat):Prop:=(owner.getD i (some 0)).isNone=false
def E4(t:Bg)(H:Nat->Int)(owner:Array (Option Nat)):Prop:=∀j k,owner[j]? = some (some k)->Vk t (Xz owner) (H k) j
theorem fA{m:Nat}:∀hs:List Int,hs.foldl (cA m) none=none
 | []=>rfl
 | h::hs=>by rw[List.foldl_cons]; exact fA hs
theorem bL{owner:Array (Option Nat)}{j n i:Nat}(h:Xz owner i):Xz (owner.setIfInBounds j (some n)) i:=by
 unfold Xz at *
 rw[Bj] at *
 rw[Zr]
 split
 ·split <;> rfl
 ·exact h
theorem lN{t:Bg}{H:Nat->Int}:∀(hs:List Int) (owner:Array (Option Nat)) (n:Nat) (owner':Array (Option Nat)) (n':Nat),hs.foldl (cA t.mask) (some (owner,n))=some (owner',n')->(∀i h,hs[i]? = some h->H (n+i)=h)->E4 t H owner->E4 t H owner'/\owner'.size=owner.size
 | [],owner,n,owner',n',e,_,x=>by
  rw[List.foldl_nil] at e
  injection e with e
  injection e with e1 e2
  rw[<- e1]
  exact ⟨x,rfl⟩
 | h::hs,owner,n,owner',n',e,eH,x=>by
  rw[List.foldl_cons] at e
  cases ef:Dh t.mask owner (Dv t.mask) (Cp h % (t.mask+1)) (Cp h) with
  | none =>
   have e1:cA t.mask (some (owner,n)) h=none:=by
    show (do
     let j <- Dh t.mask owner (Dv t.mask) (Cp h % (t.mask+1)) (Cp h)
     pure (owner.setIfInBounds j (some n),n+1))=_
    rw[ef]
    rfl
   rw[e1,fA] at e
   cases e
  | some j =>
   have e1:cA t.mask (some (owner,n)) h=some (owner.setIfInBounds j (some n),n+1):=by
    show (do
     let j <- Dh t.mask owner (Dv t.mask) (Cp h % (t.mask+1)) (Cp h)
     pure (owner.setIfInBounds j (some n),n+1))=_
    rw[ef]
    rfl
   rw[e1] at e
   refine (λz=>⟨z.1,z.2.trans (Jx ..)⟩) (lN hs _ _ owner' n' e (λi h' hi=>?_) λj' k hk=>?_)
   ·rw[show n+1+i=n+(i+1) by omega]
    exact eH (i+1) h' hi
   ·rw[Zr] at hk
    split at hk
    ·rename_i c
     split at hk
     ·injection hk with hk
      injection hk with hk
      obtain ⟨k0,k1,k2⟩:=hW (t:=t) _ _ _ _ ef
      have hH:H k=h:=by rw[<- hk]; exact eH 0 h rfl
      rw[hH,<- c]
      exact Vk.mono (P:=Xz owner) ⟨k0,k1,k2⟩ rfl λi z=>bL z
     ·cases hk
    ·exact (x j' k hk).mono rfl λi z=>bL z
theorem oU{mask finger moves:Nat}{led plain:Bool}{hs:Array Int}{t:Bg}{order:Array Nat}(h:Fz mask finger moves led plain hs=some (t,order)):N5 t (order.toList.map λk=>hs.getD k 0):=by
 have hm:=(Sr h).2.1
 unfold Fz at h
 cases hl:Ie mask hs with
 | none=>rw[hl] at h; cases h
 | some owner =>
  rw[hl] at h
  have x:E4 t (λk=>hs.getD k 0) owner/\owner.size=mask+1:=by
   unfold Ie at hl
   rw[<- Array.foldl_toList] at hl
   replace hl:(hs.toList.foldl (cA mask) (some (Mi (mask+1) none,0))).map (·.1)=some owner:=hl
   cases hf:hs.toList.foldl (cA mask) (some (Mi (mask+1) none,0)) with
   | none=>rw[hf] at hl; cases hl
   | some r =>
    obtain ⟨o,n⟩:=r
    rw[hf] at hl
    injection hl with hl
    rw[<- hl]
    have hf':=hf
    rw[<- hm] at hf
    have z:=lN (t:=t) (H:=λk=>hs.getD k 0) _ _ _ _ _ hf (λi h hi=>by
     rw[Ge,Bj,<- Ed,hi]
     rfl) λj k hk=>by
     rw[Array.getElem?_replicate] at hk
     split at hk <;> simp at hk
    exact ⟨z.1,by rw[z.2,Array.size_replicate,hm]⟩
  obtain ⟨x,sz⟩:=x
  cases h
  intro y hy
  have hT:∀i,i<=mask->Xz owner i->i∈((Bp (mask+1)).filterMap λj=>(owner.getD j none).map λx=>(j,x)).map (·.1):=λi hi z=>by
   unfold Xz at z
   have lt:i<owner.size:=by omega
   rw[Bj,Cw lt] at z
   cases q:owner[i] with
   | none=>rw[q] at z; simp at z
   | some v =>
    refine Cc.mpr ⟨(i,v),Hw.mpr ⟨i,Dm.mpr (by omega),?_⟩,rfl⟩
    rw[Bj,Cw lt,q]
    rfl
  dsimp only at hy ⊢
  rw[Ei,List.zip_map'] at hy
  obtain ⟨⟨j,k⟩,hjk,rfl⟩:=Cc.mp hy
  obtain ⟨j0,hj0,ej⟩:=Hw.mp hjk
  have e2:owner[j]? = some (some k):=by
   rw[Bj] at ej
   cases q:owner[j0]? with
   | none=>rw[q] at ej; cases ej
   | some v =>
    rw[q] at ej
    cases v with
    | none=>cases ej
    | some v=>cases ej; exact q
  have ow:=x j k e2
  obtain ⟨k0,k1,k2⟩:=ow
  refine ⟨k0,k1,λk' hk'=>?_⟩
  exact hT _ (B9 k' _) (k2 k' hk')
theorem N5.put{t:Bg}{hs:List Int}{h:Int}{j p:Nat}(x:N5 t hs)(len:hs.length=t.place.size)(o:Vk t (·∈t.place.toList) h j):N5 { t with place:=Cj t.place p j } (hs.take p++h::hs.drop p):=by
 have pm:=Oy t.place p j
 rw[Fu] at pm
 have up:∀i,i∈t.place.toList->i∈(Cj t.place p j).toList:=λi hi=>pm.mem_iff.mpr (Aq _ hi)
 intro y hy
 have hy':y∈(hs.take p++h::hs.drop p).zip (t.place.toList.take p++j::t.place.toList.drop p):=by
  have e:=Nm t.place p j
  have e':(Cj t.place p j).toList=t.place.toList.take p++j::t.place.toList.drop p:=by first | exact e | (rw[e]; simp)
  rw[<- e']
  exact hy
 rw[List.zip_append (by rw[Da,Da,len,Ae]),Np] at hy'
 rcases Ay.mp hy' with z | z
 ·have : y∈hs.zip t.place.toList:=by
   rw[List.zip_eq_zipWith,<- List.take_zipWith] at z
   exact Sd z
  exact (x y this).mono rfl up
 ·rcases An.mp z with rfl | z
  ·exact o.mono rfl up
  ·have : y∈hs.zip t.place.toList:=by
    rw[List.zip_eq_zipWith,<- List.drop_zipWith] at z
    exact Se z
   exact (x y this).mono rfl up
theorem fO{α:Type}{es:Array (Int×α)}:∀L:List Nat,(∀k∈L,k<es.size)->(L.filterMap (es[·]?)).map (·.1)=L.map λk=>(es.map (·.1)).getD k 0
 | [],_=>rfl
 | k::L,h=>by
  have hk:=h k Aa
  rw[Hi,Cw hk]
  dsimp only
  rw[Aw,Aw,fO L λi hi=>h i (Af _ hi),Bj,Array.getElem?_map,Cw hk]
  rfl
theorem iK{t:Bg}{n:Nat}(x:TabOk n t){f:Nat->Int}{h:Int}:∀(fuel k:Nat) (p:Dk),WayOk t p->k<fuel->t.slot (Lo t k p).j=.empty->(∃j m,Qc t f h fuel p=some (.empty j none)/\t.slot j=.empty/\j<=t.mask/\(Lo t m p).j=j/\∀m',m'<m->t.slot (Lo t m' p).j≠.empty/\∀i,t.slot (Lo t m' p).j=.live i->f i≠h)\/(∃j i m k',Qc t f h fuel p=some (.candidate j i (Lo t (m+1) p))/\t.slot j=.live i/\f i=h/\k'+m+1=k/\WayOk t (Lo t (m+1) p)/\t.slot (Lo t k' (Lo t (m+1) p)).j=.empty/\(Lo t m p).j=j/\∀m',m'<m->t.slot (Lo t m' p).j≠.empty/\∀i,t.slot (Lo t m' p).j=.live i->f i≠h)
 | 0,k,p,_,h,_=>absurd h (Dr _)
 | fuel+1,k,p,w,hk,he=>by
  unfold Qc
  split
  ·rename_i hs
   exact .inl ⟨p.j,0,by rw[w.dum],hs,by have:=w.top; omega,rfl,λm' z=>absurd z (Dr _)⟩
  ·rename_i hs
   exact absurd hs (Xu x)
  ·rename_i i hs
   cases k with
   | zero=>exact absurd (show t.slot p.j=.empty from he) (by rw[hs]; intro z; cases z)
   | succ k =>
    by_cases c:(f i == h)=true
    ·rw[if_pos c]
     exact .inr ⟨p.j,i,0,k,rfl,hs,by simpa using c,by omega,w.next,he,rfl,λm' z=>absurd z (Dr _)⟩
    ·rw[if_neg c]
     have hd:t.slot p.j≠.empty/\∀i,t.slot p.j=.live i->f i≠h:=⟨by rw[hs]; exact λz=>(by cases z),λi' z=>by
      rw[hs] at z
      injection z with z
      rw[<- z]
      simpa using c⟩
     have ahead:∀{m:Nat},(∀m',m'<m->t.slot (Lo t m' (t.advance p)).j≠.empty/\∀i,t.slot (Lo t m' (t.advance p)).j=.live i->f i≠h)->∀m',m'<m+1->t.slot (Lo t m' p).j≠.empty/\∀i,t.slot (Lo t m' p).j=.live i->f i≠h:=λ{m} q m' hm'=>by
      cases m' with
      | zero=>exact hd
      | succ m'=>exact q m' (by omega)
     rcases iK x fuel k _ w.next (by omega) he with ⟨j,m,a,b,c,d,e⟩ | ⟨j,i',m,k',a,b,c,d,e,f,g,q⟩
     ·exact .inl ⟨j,m+1,a,b,c,d,ahead e⟩
     ·exact .inr ⟨j,i',m+1,k',a,b,c,by omega,e,f,g,ahead q⟩
theorem jP{t:Bg}{n j i:Nat}(x:TabOk n t)(h:t.place.toList[i]? = some j):t.slot j=.live i:=by
 have b:=Pp x.rise j
 have e:Bl t.place j=i:=by
  have hi:=(Ak.mp h).1
  have hi':i<t.place.size:=by rw[<- Ae]; exact hi
  have ei:t.place[i]=j:=by
   have:=(Ak.mp h).2
   simpa using this
  rcases Pa (Bl t.place j) i with z | z | z
  ·have:=b.hi (Bl t.place j) (by omega) (Ah _)
   have:=Dl.mp x.rise (Bl t.place j) i (by rw[Ae]; omega) hi z
   simp at this
   omega
  ·exact z
  ·have:=b.lo i hi' z
   omega
 unfold Rn
 dsimp only
 rw[e,<- Ed,h,if_pos (by simp)]
def vO(prog:Be)(w:World)(U:List (List Int))(h:Heap)(e:Int×Value):Prop:=∃(b:Addr) (ks:List Int),e=(Bm (Ce prog w) ks,.ref b)/\Ex (Ce prog w) h ks b/\ks∈U
structure SetT(prog:Be)(w:World)(U:List (List Int))(h:Heap)(a:Addr)(es:Array (Int×Value))(ep:Nat)(t:Bg):Prop where
 obj:h.get? a=some (Hl es ep t)
 ent:∀e∈es.toList,vO prog w U h e
 tab:Tab es.size t
 odd:t.mask % 2=1
 top:t.mask<8192
 few:es.size<=1100
 led:bt w=false->t.led=true
 nd:U.Nodup
 sz:es.size=U.length
 all:∀u∈U,∃e∈es.toList,∃b,e=(Bm (Ce prog w) u,Ao b)/\Ex (Ce prog w) h u b
 ways:N5 t (es.toList.map (·.1))
def Kept(h h':Heap):Prop:=∀b o,o.cls=.type "set" \/ o.cls=.type "tuple" -> h.get? b=some o->h'.get? b=some o
def Sm(h h':Heap):Prop:=∀b o,o.cls=.type "tuple" -> h.get? b=some o->h'.get? b=some o
theorem Kept.t{h h':Heap}(k:Kept h h'):Sm h h':=λb o c e=>k b o (.inr c) e
theorem vO.keep{prog:Be}{w:World}{U V:List (List Int)}{h h':Heap}{e:Int×Value}(x:vO prog w U h e)(k:Sm h h')(s:∀y∈U,y∈V):vO prog w V h' e:=by
 obtain ⟨b,ks,e,⟨o,items,n,ho,hc,hd,hi⟩,hm⟩:=x
 exact ⟨b,ks,e,⟨o,items,n,k b o hc ho,hc,hd,hi⟩,s _ hm⟩
theorem Qr{prog:Be}{w:World}{h h':Heap}{ks:List Int}{b:Addr}(x:Ex (Ce prog w) h ks b)(k:Sm h h'):Ex (Ce prog w) h' ks b:=by
 obtain ⟨o,items,n,ho,hc,hd,hi⟩:=x
 exact ⟨o,items,n,k b o hc ho,hc,hd,hi⟩
theorem SetT.keep{prog:Be}{w:World}{U:List (List Int)}{h h':Heap}{a:Addr}{es:Array (Int×Value)}{ep:Nat}{t:Bg}(S:SetT prog w U h a es ep t)(k:Kept h h'):SetT prog w U h' a es ep t :=
 ⟨k _ _ (.inl rfl) S.obj,λe he=>(S.ent e he).keep k.t λ_ z=>z,S.tab,S.odd,S.top,S.few,S.led,S.nd,S.sz,λu hu=>by obtain ⟨e,he,b,eb,x⟩:=S.all u hu; exact ⟨e,he,b,eb,Qr x k.t⟩,S.ways⟩
theorem Yv{h h':Heap}{a:Addr}{o:Obj}(ho:h.get? a=some o)(hc:o.cls≠.type "tuple")(sb:Fn a h h'):Sm h h':=λb o' c e=>by
 by_cases z:b=a
 ·subst z
  rw[ho] at e
  cases e
  exact absurd c hc
 ·exact (sb.2 b z).trans e
theorem Yu{n:Nat}(h:n<=1200):n<=Ax:=by rw[Jt]; omega
section
variable{prog:Be}{w:World}{A:Co}{E:Value->Ag->Prop}{s:Ag}{U:List (List Int)}
theorem Ql{a:Addr}{es:Array (Int×Value)}{ep:Nat}{t:Bg}{Q:(Array (Int×Value)×Nat×Bg)->Ag->Prop}(S:SetT prog w U s.heap a es ep t)(h:Q (es,ep,t) s):wpAny (model prog w) A (setState a) Q E s :=
 bP S.obj rfl S.tab.fits h
theorem tK{ks:List Int}{a:Addr}{Q:Bool->Ag->Prop}(hk:Ex (Ce prog w) s.heap ks a)(h:Q true s):wpAny (model prog w) A (Vx 8 (.ref a)) Q E s:=by
 have hT:=hk.typeIs
 obtain ⟨o,items,n,ho,_,hd,hi⟩:=hk
 unfold Vx
 refine Ab (wpAny_specialOf hT F.slot_tuple_hash.lookup ?_)
 dsimp only
 refine Ab (wpAny_seqItems ho hd ?_)
 refine Ab ?_
 show wpAny _ _ (forIn items _ _) _ _ s
 rw[<- Array.forIn_toList]
 refine Rl _ (λEo r s'=>r.1=none/\s'=s/\∃l,ItemsAre (Ce prog w) l Eo) _ ?_ ?_ _ _ ⟨rfl,rfl,_,hi⟩
 ·(intro v Eo r s' q_; obtain ⟨hr,rfl,l,hall⟩ := q_)
  cases hall with
  | @cons k v' ks' vs' h1 h2 =>
   obtain ⟨tk,rfl⟩ : ∃tk,v=.int k tk:=by
    cases v <;> simp [Ce,Value.isInt] at h1
    rename_i z tk
    exact ⟨tk,by rw[h1]⟩
   refine Ab (m:=Vx 7 (.int k tk)) (Lf (a:=true) (show Vx 7 (.int k tk)=pure true by unfold Vx; rfl) ?_)
   simp only[Kb,Bo,if_false]
   exact Aj ⟨rfl,rfl,_,h2⟩
 ·(rintro ⟨r1,r2⟩ s' q_; obtain ⟨hr,rfl,_⟩ := q_)
  simp only at hr
  subst hr
  exact Aj h
theorem aQ{ks:List Int}{a:Addr}{Q:Bool->Ag->Prop}(hk:Ex (Ce prog w) s.heap ks a)(h:Q false s):wpAny (model prog w) A (Ls 8 (.ref a)) Q E s:=by
 have hT:=hk.typeIs
 obtain ⟨o,items,n,ho,_,hd,hi⟩:=hk
 unfold Ls
 refine Ab (Kc hT ?_)
 dsimp only
 rw[if_pos (by decide)]
 refine Ab (Aj ?_)
 simp only[Kb,Bo,if_false]
 refine Ab (wpAny_seqItems ho hd ?_)
 dsimp only
 refine Ab ?_
 show wpAny _ _ (forIn items _ _) _ _ s
 rw[<- Array.forIn_toList]
 refine Rl _ (λEo r s'=>r.1=none/\s'=s/\∃l,ItemsAre (Ce prog w) l Eo) _ ?_ ?_ _ _ ⟨rfl,rfl,_,hi⟩
 ·(intro v Eo r s' q_; obtain ⟨hr,rfl,l,hall⟩ := q_)
  cases hall with
  | @cons k v' ks' vs' h1 h2 =>
   obtain ⟨tk,rfl⟩ : ∃tk,v=.int k tk:=by
    cases v <;> simp [Ce,Value.isInt] at h1
    rename_i z tk
    exact ⟨tk,by rw[h1]⟩
   refine Ab (m:=Ls 7 (.int k tk)) (Lf (a:=false) (show Ls 7 (.int k tk)=pure false by unfold Ls; rfl) ?_)
   simp only[Bo,if_false]
   exact Aj ⟨rfl,rfl,_,h2⟩
 ·(rintro ⟨r1,r2⟩ s' q_; obtain ⟨hr,rfl,_⟩ := q_)
  simp only at hr
  subst hr
  exact Aj h
theorem wK{x:Addr}{kx:List Int}{stored:List Value}{Q:Bool->Ag->Prop}(hx:Ex (Ce prog w) s.heap kx x)(hs:∀y∈stored,∃b ky,y=Ao b/\Ex (Ce prog w) s.heap ky b)(h:Q false s):wpAny (model prog w) A (searchCouldBeSeen (.ref x) stored) Q E s:=by
 unfold searchCouldBeSeen
 refine Ab ?_
 refine Rl _ (λEo r s'=>r.1=none/\s'=s/\∀y∈Eo,∃b ky,y=Ao b/\Ex (Ce prog w) s.heap ky b) _ ?_ ?_ _ _ ⟨rfl,rfl,hs⟩
 ·(intro v Eo r s' q_; obtain ⟨hr,rfl,hall⟩ := q_)
  obtain ⟨b,ky,rfl,hy⟩:=hall _ (Aa ..)
  have hall':=λy hy=>hall y (Af _ hy)
  dsimp only
  split
  ·exact Aj ⟨rfl,rfl,hall'⟩
  ·refine Ab (wpAny_eqIsQuiet_tuple hx ?_)
   simp only[Kb,Bo,if_false]
   refine Ab (wpAny_eqIsQuiet_tuple hy ?_)
   simp only[Kb,Bo,if_false]
   refine Ab (aQ hx ?_)
   simp only[Bo,if_false]
   refine Ab (aQ hy ?_)
   simp only[Bo,if_false]
   exact Aj ⟨rfl,rfl,hall'⟩
 ·(rintro ⟨r1,r2⟩ s' q_; obtain ⟨hr,rfl,_⟩ := q_)
  simp only at hr
  subst hr
  exact Aj h
def h9(prog:Be)(w:World)(h:Heap)(es:Array (Int×Value))(t:Bg)(kx:List Int)(p:Dk):Prop :=
 ∃kt i b,t.slot (Lo t kt p).j=.live i/\es[i]? = some (Bm (Ce prog w) kx,Ao b)/\Ex (Ce prog w) h kx b/\∀k',k'<kt->t.slot (Lo t k' p).j≠.empty
theorem gH{a:Addr}{kx:List Int}{es:Array (Int×Value)}{ep:Nat}{t:Bg}(S:SetT prog w U s.heap a es ep t)(h:kx∈U):h9 prog w s.heap es t kx (t.probeStart (Bm (Ce prog w) kx)):=by
 obtain ⟨e,he,b,eb,x⟩:=S.all kx h
 obtain ⟨i,hi,ei⟩:=List.getElem_of_mem he
 have hi':i<es.size:=by rw[<- Ae]; exact hi
 have hp:i<t.place.toList.length:=by rw[Ae,S.tab.size]; exact hi'
 have hz:((es.toList.map (·.1)).zip t.place.toList)[i]? = some (Bm (Ce prog w) kx,t.place.toList[i]):=by
  rw[List.getElem?_zip_eq_some]
  refine ⟨?_,Bu hp⟩
  rw[Bt,Bu hi,ei,eb]
  rfl
 obtain ⟨k,k1,k2⟩:=S.ways _ (Bc hz)
 refine ⟨k,i,b,?_,?_,x,λk' hk'=>?_⟩
 ·rw[k1]
  exact jP S.tab.toTabOk (Bu hp)
 ·rw[Cw hi']
  have : es[i]=e:=by simpa using ei
  rw[this,eb]
 ·exact λz=>(Mq S.tab.toTabOk).mp z (k2 k' hk')
theorem Vn{a x:Addr}{kx:List Int}{es:Array (Int×Value)}{ep:Nat}{t:Bg}{Q:SetFound->Ag->Prop}(S:SetT prog w U s.heap a es ep t)(hu:A.units<cLine)(hx:Ex (Ce prog w) s.heap kx x)(h1:kx∈U->Q (.there none) s)(h2:∀j,t.slot j=.empty->j<=t.mask->Vk t (·∈t.place.toList) (Bm (Ce prog w) kx) j->kx∉U->Q (.free j false) s):∀(fuel k:Nat) (stand:Option Dk),WayOk t (stand.getD (t.probeStart (Bm (Ce prog w) kx)))->k<fuel->k<10 * Dv t.mask->t.slot (Lo t k (stand.getD (t.probeStart (Bm (Ce prog w) kx)))).j=.empty->(∃k0,Lo t k0 (t.probeStart (Bm (Ce prog w) kx))=stand.getD (t.probeStart (Bm (Ce prog w) kx))/\∀k',k'<k0->t.slot (Lo t k' (t.probeStart (Bm (Ce prog w) kx))).j≠.empty)->(kx∈U->h9 prog w s.heap es t kx (stand.getD (t.probeStart (Bm (Ce prog w) kx))))->wpAny (model prog w) A (Qw a (.ref x) (Bm (Ce prog w) kx) true fuel stand) Q E s
 | 0,k,_,_,h,_,_,_,_=>absurd h (Dr _)
 | fuel+1,k,stand,wo,hk,hk2,he,pre,tgt=>by
  have gw:t.gaveWay=false:=by unfold SetTable.gaveWay; rw[S.odd]; rfl
  unfold Qw
  refine Ab (Ql S ?_)
  dsimp only
  rw[gw]
  simp only[Bo,if_false]
  obtain ⟨k0,ek0,pre⟩:=pre
  have fH:∀{i:Nat} {b:Addr},es[i]? = some (Bm (Ce prog w) kx,Ao b)->(es[i]?.map (·.1)).getD 0=Bm (Ce prog w) kx:=λ{i b} e=>by rw[e]; rfl
  rcases iK S.tab.toTabOk (f:=λi=>(es[i]?.map (·.1)).getD 0) (h:=Bm (Ce prog w) kx) (10 * Dv t.mask) k _ wo hk2 he with ⟨j,m,e,ej,jm,em,am⟩ | ⟨j,i,m,k',e,ej,ei,lt,wo',he',em,am⟩
  ·have e':t.probe (λi=>(es[i]?.map (·.1)).getD 0) (Bm (Ce prog w) kx) (stand.getD (t.probeStart (Bm (Ce prog w) kx)))=some (.empty j none):=e
   rw (transparency:=.all) [e']
   refine Aj (h2 j ej jm ⟨k0+m,by rw[Kh,ek0]; exact em,λk' hk'=>?_⟩ λhm=>?_)
   ·refine Gj λz=>?_
    have z':=(Mq S.tab.toTabOk).mpr z
    by_cases c:k'<k0
    ·exact pre k' c z'
    ·rw[show k'=k0+(k' - k0) by omega,Kh,ek0] at z'
     exact (am _ (by omega)).1 z'
   ·obtain ⟨kt,i,b,a1,a2,a3,a4⟩:=tgt hm
    rcases Pa kt m with z | z | z
    ·exact (am kt z).2 i a1 (fH a2)
    ·subst z
     rw[em,ej] at a1
     cases a1
    ·exact a4 m z (by rw[em]; exact ej)
  ·have e':t.probe (λi=>(es[i]?.map (·.1)).getD 0) (Bm (Ce prog w) kx) (stand.getD (t.probeStart (Bm (Ce prog w) kx)))=some (.candidate j i (Lo t (m+1) (stand.getD (t.probeStart (Bm (Ce prog w) kx))))):=e
   rw (transparency:=.all) [e']
   dsimp only
   have hi:=nW S.tab.toTabOk ej
   have hei:es[i]? = some es[i]:=Cw hi
   obtain ⟨b,ky,eb,hy,hm⟩:=S.ent es[i] (by simp)
   have Eo:wpAny (model prog w) A (do
     let some (_,y):=es[i]? | unsupported "internal:set-entry"
     let equal <- holding [y] (eqBool y (.ref x))
     let (es',_,t') <- setState a
     if true && equal then return .there none
     let some same:=t'.sameMemory t.moves t.mask | unsupported "set.changed-during-lookup:is-the-new-block-at-the-old-address"
     let still <- match (if same then t'.slot j else .empty) with
      | .live i'=>match es'[i']? with
       | some (_,y')=>do pure (if <- isSame y' y then some i' else none)
       | none=>pure none
      | _=>pure none
     match still with
     | none=>rule "set.search.anew"; Qw a (.ref x) (Bm (Ce prog w) kx) true fuel none
     | some i'=>if equal then return .there (some i') else Qw a (.ref x) (Bm (Ce prog w) kx) true fuel (some (Lo t (m+1) (stand.getD (t.probeStart (Bm (Ce prog w) kx)))))) Q E s:=by
    rw[hei,eb]
    dsimp only
    refine Ab (Ej (wpAny_eqBool_tuple hu hy hx ?_))
    refine Ab (Ql S ?_)
    dsimp only
    by_cases c:ky=kx
    ·rw[decide_eq_true c,if_pos (by decide)]
     exact Aj (h1 (by rw[<- c]; exact hm))
    ·rw[decide_eq_false c,if_neg (by decide)]
     have sm:t.sameMemory t.moves t.mask=some true:=by unfold SetTable.sameMemory; rw[if_pos (by simp)]
     rw[sm]
     dsimp only
     rw[if_pos rfl,ej]
     dsimp only
     rw[hei,eb]
     dsimp only
     refine Ab (wpAny_isSame_ref_self (Ab (Aj ?_)))
     rw[if_pos rfl]
     dsimp only
     rw[if_neg (by decide)]
     refine Vn S hu hx h1 h2 fuel k' (some (Lo t (m+1) (stand.getD (t.probeStart (Bm (Ce prog w) kx))))) wo' (by omega) (by omega) he' ⟨k0+(m+1),by rw[Kh,ek0]; rfl,λk'' hk'' z=>?_⟩ λhmm=>?_
     ·by_cases c:k''<k0
      ·exact pre k'' c z
      ·rw[show k''=k0+(k'' - k0) by omega,Kh,ek0] at z
       by_cases c2:k'' - k0<m
       ·exact (am _ c2).1 z
       ·rw[show k'' - k0=m by omega,em,ej] at z
        cases z
     ·obtain ⟨kt,i0,b0,a1,a2,a3,a4⟩:=tgt hmm
      rcases Pa kt m with z | z | z
      ·exact absurd (fH a2) ((am kt z).2 i0 a1)
      ·subst z
       rw[em,ej] at a1
       injection a1 with a1
       subst a1
       rw[hei,eb] at a2
       injection a2 with a2
       injection a2 with a21 a22
       injection a22 with a22
       subst a22
       exact absurd (hy.inj a3) c
      ·refine ⟨kt - (m+1),i0,b0,?_,a2,a3,λk'' hk''=>?_⟩
       ·show t.slot (Lo t (kt - (m+1)) (Lo t (m+1) _)).j=_
        rw[<- Kh,show m+1+(kt - (m+1))=kt by omega]
        exact a1
       ·show t.slot (Lo t k'' (Lo t (m+1) _)).j≠_
        rw[<- Kh]
        exact a4 _ (by omega)
   by_cases l:t.led=true
   ·rw[l]
    simp only[Kb,Bo,if_false]
    exact Eo
   ·rw[Bool.not_eq_true] at l
    rw[l]
    simp only[Bool.not_false,if_true]
    refine Ab (wK hx (λy hy=>?_) ?_)
    ·obtain ⟨e0,he0,rfl⟩:=Cc.mp hy
     obtain ⟨b',k'',rfl,h3,_⟩:=S.ent e0 (by
      have:=Array.mem_def.mp (Array.mem_filter.mp (Array.mem_def.mpr he0)).1
      exact this)
     exact ⟨b',k'',rfl,h3⟩
    ·simp only[Bo,if_false]
     exact Eo
theorem pC{a x:Addr}{kx:List Int}{es:Array (Int×Value)}{ep:Nat}{t:Bg}{Q:SetFound->Ag->Prop}(S:SetT prog w U s.heap a es ep t)(hu:A.units<cLine)(hx:Ex (Ce prog w) s.heap kx x)(h1:kx∈U->Q (.there none) s)(h2:∀j,t.slot j=.empty->j<=t.mask->Vk t (·∈t.place.toList) (Bm (Ce prog w) kx) j->kx∉U->Q (.free j false) s)(fuel k:Nat)(hk:k<fuel)(hk2:k<10 * Dv t.mask)(he:t.slot (Lo t k (t.probeStart (Bm (Ce prog w) kx))).j=.empty):wpAny (model prog w) A (Qw a (.ref x) (Bm (Ce prog w) kx) true fuel none) Q E s :=
 Vn S hu hx h1 h2 fuel k none (Qq _) hk hk2 he ⟨0,rfl,λk' z=>absurd z (Dr _)⟩ λh=>gH S h
end
section
variable{prog:Be}{w:World}{A:Co}{E:Value->Ag->Prop}{s:Ag}{U:List (List Int)}
theorem BH{t:Bg}{es:Array (Int×Value)}(x:Tab es.size t)(e:Int×Value){j:Nat}(h2:j∉t.place.toList)(h3:j<=t.mask)(wy:N5 t (es.toList.map (·.1)))(ow:Vk t (·∈t.place.toList) e.1 j):∃t1 p,t.put j=(t1,p)/\(Cj es p e).toList.Perm (es.toList++[e])/\(Cj es p e).size=es.size+1/\TabOk (es.size+1) t1/\t1.mask=t.mask/\t1.plain=true/\t1.led=t.led/\N5 t1 ((Cj es p e).toList.map (·.1)):=by
 have hm:=Wp x
 have perm:=Oy es (Bl t.place j) e
 rw[Fu] at perm
 have size:(Cj es (Bl t.place j) e).size=es.size+1:=by
  rw[<- Ae,perm.length_eq,Bn,Ae]
  rfl
 have p2:=Oy t.place (Bl t.place j) j
 rw[Fu] at p2
 have size2:(Cj t.place (Bl t.place j) j).size=es.size+1:=by
  rw[<- Ae,p2.length_eq,Bn,Ae,x.size]
  rfl
 have nd:SetTable.has t.dummies j=false:=by rw[x.dum]; rfl
 have ok:TabOk (es.size+1) { t with place:=Cj t.place (Bl t.place j) j } :=
  ⟨x.good,x.dum,x.plain,iJ x.rise h2,λe he=>by
   rcases Ay.mp (p2.mem_iff.mp he) with z | z
   ·exact x.top e z
   ·rw[Ai.mp z]; exact h3,size2⟩
 refine ⟨{ t with place:=Cj t.place (Bl t.place j) j },Bl t.place j,?_,perm,size,ok,rfl,x.plain,rfl,?_⟩
 ·unfold SetTable.put
  simp only[nd,Bo,if_false]
 ·have e1:(Cj es (Bl t.place j) e).toList=es.toList.take (Bl t.place j)++e::es.toList.drop (Bl t.place j):=by
   have z:=Nm es (Bl t.place j) e
   first | exact z | (rw[z]; simp)
  rw[e1,Cb,Aw,List.map_take,List.map_drop]
  exact wy.put (by rw[Ad,Ae,x.size]) ow
theorem kW{a:Addr}{es:Array (Int×Value)}{ep:Nat}{t:Bg}{wanted:Nat}{Q:Unit->Ag->Prop}(ho:s.heap.get? a=some (Hl es ep t))(ent:∀e∈es.toList,vO prog w U s.heap e)(ok:TabOk es.size t)(le:es.size<=t.mask)(few:es.size<=1100)(led:bt w=false->t.led=true)(und:U.Nodup)(usz:es.size=U.length)(uall:∀u∈U,∃e∈es.toList,∃b,e=(Bm (Ce prog w) u,Ao b)/\Ex (Ce prog w) s.heap u b)(hw:wanted<8192)(h2:es.size * 2<=wanted)(h:∀es' ep' t' h',Fn a s.heap h'->SetT prog w U h' a es' ep' t'->es'.size=es.size->es'.toList.Perm es.toList->Q () { s with heap:=h' }):wpAny (model prog w) A (setRelay a wanted) Q E s:=by
 obtain ⟨t',order,q1,q2,q3,q4,q5,q6⟩:=oO (es:=es) ok.plain hw h2
 obtain ⟨p1,p2⟩:=A4 es q2
 have mk:t'.mask<8192:=by
  unfold SetTable.relaid at q1
  rw[(Sr q1).2.1]
  omega
 unfold setRelay
 refine Ab (bP ho rfl (ok.fits le) ?_)
 dsimp only
 rw[if_neg (by rw[Jt]; omega),q1]
 refine Ab ?_
 show wpAny (model prog w) A (do
  if (order.filterMap (es[·]?)).size != es.size then unsupported "internal:set-table-lost-an-element"
  pure (order.filterMap (es[·]?),t')) _ _ _
 rw[if_neg (by rw[p2]; simp)]
 refine Aj ?_
 dsimp only
 refine wpAny_storeSet_of ho rfl ?_ (Yu (by rw[p2]; omega))
 have sb:=Cq s.heap a (Vy (order.filterMap (es[·]?)) t')
 have kt:Sm s.heap _:=Yv ho (by show Eb "set" ≠ Eb "tuple"; decide) sb
 exact h _ _ _ _ sb ⟨mW ho _ _,λe he=>(ent e (p1.mem_iff.mp he)).keep kt λ_ z=>z,by rw[p2]; exact q3,q4,mk,by rw[p2]; exact few,λz=>by rw[q6]; exact led z,und,by rw[p2]; exact usz,λu hu=>by obtain ⟨e,he,b,eb,x⟩:=uall u hu; exact ⟨e,p1.mem_iff.mpr he,b,eb,Qr x kt⟩,by rw[iT,fO _ λk hk=>Dm.mp (q2.mem_iff.mp hk)]; exact oU q1⟩ p2 p1
theorem zN{a x:Addr}{kx:List Int}{es:Array (Int×Value)}{ep:Nat}{t:Bg}{Q:Bool->Ag->Prop}(S:SetT prog w U s.heap a es ep t)(hn:es.size<1100)(hu:A.units<cLine)(hx:Ex (Ce prog w) s.heap kx x)(h0:kx∈U->Q false s)(h:∀es' ep' t' h',kx∉U->Fn a s.heap h'->SetT prog w (kx::U) h' a es' ep' t'->(es'.toList.map (·.2)).Perm (es.toList.map (·.2)++[Ao x])->Q true { s with heap:=h' }):wpAny (model prog w) A (setAddHashed a (.ref x) (Bm (Ce prog w) kx)) Q E s:=by
 unfold setAddHashed setAddHashedIn
 refine Ej (Ab (Ql S ?_))
 dsimp only
 rw[if_neg (show ¬ (byScan (.ref x) es=true) from λz=>by simp [byScan,Value.scannable] at z)]
 obtain ⟨k,hk,he⟩:=oG S.tab (Bm (Ce prog w) kx)
 have hk':k<100000:=by
  have:=S.top
  unfold Dv at hk
  omega
 unfold setSearch
 refine Ab (pC S hu hx (λhm=>?_) (λj ej jm ow nk=>?_) 100000 k hk' hk he)
 ·dsimp only
  refine Aj ?_
  exact h0 hm
 ·dsimp only
  refine Ab (Ql S ?_)
  dsimp only
  obtain ⟨t1,p,e1,p1,z1,ok1,m1,pl1,ld1,wy1⟩:=BH S.tab (Bm (Ce prog w) kx,Ao x) ((Mq S.tab.toTabOk).mp ej) jm S.ways ow
  rw[e1]
  dsimp only
  rw[pl1,if_pos rfl]
  refine Ab (tK hx ?_)
  rw[if_pos rfl]
  have z1':(Cj es p (Bm (Ce prog w) kx,Ao x)).size<=1200:=by omega
  refine Ab (wpAny_storeSet_of S.obj rfl ?_ (Yu z1'))
  have sb:=Cq s.heap a (Vy (Cj es p (Bm (Ce prog w) kx,Ao x)) t1)
  have kt:Sm s.heap _:=Yv S.obj (by show Eb "set" ≠ Eb "tuple"; decide) sb
  have ent1:∀e∈(Cj es p (Bm (Ce prog w) kx,Ao x)).toList,vO prog w (kx::U) s.heap e:=λe he=>by
   rcases Ay.mp (p1.mem_iff.mp he) with z | z
   ·exact (S.ent e z).keep (λ_ _ _ z=>z) λ_ z=>Af _ z
   ·rw[Ai.mp z]; exact ⟨x,kx,rfl,hx,Aa ..⟩
  have o1:=mW S.obj (Cj es p (Bm (Ce prog w) kx,Ao x)) t1
  have ent2:=λe he=>(ent1 e he).keep kt λ_ z=>z
  have hm:=Wp S.tab
  have und:(kx::U).Nodup:=Ci.mpr ⟨nk,S.nd⟩
  have usz:(Cj es p (Bm (Ce prog w) kx,Ao x)).size=(kx::U).length:=by rw[z1,S.sz,Ba]
  have uall:∀u∈kx::U,∃e∈(Cj es p (Bm (Ce prog w) kx,Ao x)).toList,∃b,e=(Bm (Ce prog w) u,Ao b)/\Ex (Ce prog w) _ u b:=λu hu=>by
   rcases An.mp hu with rfl | hu
   ·exact ⟨_,p1.mem_iff.mpr (Al _ (Ai.mpr rfl)),x,rfl,Qr hx kt⟩
   ·obtain ⟨e,he,b,eb,q⟩:=S.all u hu
    exact ⟨e,p1.mem_iff.mpr (Aq _ he),b,eb,Qr q kt⟩
  have pv:((Cj es p (Bm (Ce prog w) kx,Ao x)).toList.map (·.2)).Perm (es.toList.map (·.2)++[Ao x]):=by
   have:=p1.map (·.2)
   rw[Cb] at this
   exact this
  by_cases tf:t1.tooFull=true
  ·rw[tf,if_pos (by decide)]
   have gr:SetTable.grown (es.size+1)=(es.size+1) * 4:=by unfold SetTable.grown; rw[if_neg (by omega)]
   rw[gr]
   refine Ab (kW o1 ent2 (by rw[z1]; exact ok1) (by omega) (by omega) (λz=>by rw[ld1]; exact S.led z) und usz uall (by omega) (by omega) λes' ep' t' h' sb' S' zz pz=>Aj ?_)
   exact h es' ep' t' h' nk (sb.trans sb') S' ((pz.map (·.2)).trans pv)
  ·have room:(es.size+1) * 5<t1.mask * 3:=by
    have : ¬ (t1.fill * 5 ≥ t1.mask * 3):=λz=>tf (by unfold SetTable.tooFull; exact decide_eq_true z)
    have e:t1.fill=es.size+1:=by
     unfold SetTable.fill
     rw[ok1.dum,ok1.size]
     rfl
    omega
   rw[Bool.not_eq_true] at tf
   rw[tf]
   simp only[Sf,Bo,if_false]
   refine Aj ?_
   exact h _ _ t1 _ nk sb ⟨o1,ent2,by rw[z1]; exact ⟨ok1,room⟩,by rw[m1]; exact S.odd,by rw[m1]; exact S.top,by omega,λz=>by rw[ld1]; exact S.led z,und,usz,uall,wy1⟩ pv
end
section
variable{prog:Be}{w:World}{A:Co}{R:Result->Ag->Prop}
def Su(prog:Be)(w:World)(h:Heap)(vs:List Value)(ws:List (List Int)):Prop:=vs.length=ws.length/\∀(i:Nat) (h1:i<vs.length) (h2:i<ws.length),∃b,vs[i]=Ao b/\Ex (Ce prog w) h ws[i] b
theorem Su.keep{h h':Heap}{vs:List Value}{ws:List (List Int)}(x:Su prog w h vs ws)(k:Sm h h'):Su prog w h' vs ws :=
 ⟨x.1,λi h1 h2=>by obtain ⟨b,e,z⟩:=x.2 i h1 h2; exact ⟨b,e,Qr z k⟩⟩
theorem pO{a it l:Addr}(n1:a≠it)(n2:a≠l)(n3:l≠it){items:Array Value}{ws:List (List Int)}(few:ws.length<=1100)(hh:A.in1.handled=none)(hu:A.in1.units<cLine):∀(k i:Nat) (s:Ag) (es:Array (Int×Value)) (ep:Nat) (t:Bg) (U:List (List Int)),items.size - i=k->i<=items.size->s.heap.IsListIter it l i->s.heap.IsList l items->Su prog w s.heap items.toList ws->SetT prog w U s.heap a es ep t->es.size<=i->(∀x,x∈U↔x∈ws.take i)->(ws.Nodup->(es.toList.map (·.2)).Perm (items.toList.take i))->(∀v∈es.toList.map (·.2),v∈items.toList)->(∀es' ep' t' h' tk V,(∀b o,b≠a->b≠it->s.heap.get? b=some o->h'.get? b=some o)->SetT prog w V h' a es' ep' t'->(∀x,x∈V↔x∈ws)->(ws.Nodup->(es'.toList.map (·.2)).Perm items.toList)->(∀v∈es'.toList.map (·.2),v∈items.toList)->R (.ok (.ret .none)) { s with heap:=h',toks:=tk })->Mv (model prog w) A (.builtin "set.update.loop" ⟨[.ref a,.ref it],[]⟩) R s:=by
 intro k
 induction k with
 | zero =>
  intro i s es ep t U hk hi hit hl hw S hz hU hN hV hR
  have len:items.size=ws.length:=by rw[<- hw.1,Ae]
  have e:i=items.size:=by omega
  refine Je Oz ?_
  rw[Gs Fk _]
  show wpAny _ A.in1 (pyNext (.ref it) >>= _) _ _ s
  refine Ab (wpAny_pyNext_list_end hh hit hl (by rw[e]; simp) λh' x=>?_)
  have kp:Kept s.heap h':=λb o c q=>by
   refine x b o (λz=>?_) q
   subst z
   obtain ⟨o',ho',c',_⟩:=hit
   rw[ho'] at q
   cases q
   rw[c'] at c
   rcases c with c | c <;> exact absurd c (by decide)
  have S':=S.keep kp
  refine Aj (hR es ep t h' s.toks U (λb o _ q e=>x b o q e) S' (λx=>?_) (λz=>?_) hV)
  ·rw[hU x,Hu (by omega)]
  ·have q:=hN z
   rw[e,Hu (by rw[Ae]; exact Ah _)] at q
   exact q
 | succ k ih =>
  intro i s es ep t U hk hi hit hl hw S hz hU hN hV hR
  have len:items.size=ws.length:=by rw[<- hw.1,Ae]
  have lt:i<items.size:=by omega
  have lt':i<ws.length:=by omega
  obtain ⟨b,ev,hx⟩:=hw.2 i (by rw[Ae]; exact lt) lt'
  have ev':items[i]=Ao b:=by simpa using ev
  refine Je Oz ?_
  rw[Gs Fk _]
  show wpAny _ A.in1 (pyNext (.ref it) >>= _) _ _ s
  refine Ab (vW hit hl (x:=items[i]) (by simp [lt]) λh1 hit1 sb1=>?_)
  rw[ev']
  show wpAny _ A.in1 (holding [Ao b] (setAdd a (.ref b)) >>= _) _ _ _
  refine Ab (Ej ?_)
  unfold setAdd
  have kp:Kept s.heap h1:=λb o c q=>by
   refine (sb1.2 b λz=>?_).trans q
   subst z
   obtain ⟨o',ho',c',_⟩:=hit
   rw[ho'] at q
   cases q
   rw[c'] at c
   rcases c with c | c <;> exact absurd c (by decide)
  have S1:=S.keep kp
  have hx1:=Qr hx kp.t
  refine Ej (Ab (wpAny_pyHash_tuple (s:={ s with heap:=h1 }) hu hx1 ?_))
  have kt:∀(h2:Heap) (es2:Array (Int×Value)) (ep2:Nat) (t2:Bg) (V:List (List Int)),Fn a h1 h2->SetT prog w V h2 a es2 ep2 t2->es2.size<=i+1->(∀x,x∈V↔x∈ws.take (i+1))->(ws.Nodup->(es2.toList.map (·.2)).Perm (items.toList.take (i+1)))->(∀v∈es2.toList.map (·.2),v∈items.toList)->∀tk,Mv (model prog w) A (.builtin "set.update.loop" ⟨[.ref a,.ref it],[]⟩) R { s with heap:=h2,toks:=tk }:=λh2 es2 ep2 t2 V sb2 S2 l2 u2 g2 w2 tk=>by
   have kt2:Sm h1 h2:=Yv S1.obj (by show Eb "set" ≠ Eb "tuple"; decide) sb2
   refine ih (i+1) { s with heap:=h2,toks:=tk } es2 ep2 t2 V (by omega) lt ?_ ?_ (hw.keep λb o c e=>kt2 b o c (kp.t b o c e)) S2 l2 u2 g2 w2 λes3 ep3 t3 h3 tk3 V3 k3 S3 u3 g3 w3=>?_
   ·obtain ⟨o,ho,r⟩:=hit1
    exact ⟨o,(sb2.2 it (Nn n1)).trans ho,r⟩
   ·obtain ⟨o,ho,r⟩:=hl
    exact ⟨o,(sb2.2 l (Nn n2)).trans ((sb1.2 l n3).trans ho),r⟩
   ·exact hR es3 ep3 t3 h3 tk3 V3 (λb o q1 q2 e=>k3 b o q1 q2 ((sb2.2 b q1).trans ((sb1.2 b q2).trans e))) S3 u3 g3 w3
  have tk1:=Gv lt'
  refine zN (s:={ s with heap:=h1,toks:=s.toks+(ws[i].length+1) }) S1 (by omega) hu hx1 (λhm=>?_) λes2 ep2 t2 h2 nk sb2 S2 g2=>?_
  ·refine Aj ⟨Qy Fk _,?_⟩
   refine kt h1 es ep t U (Heap.SameBut.refl a h1) S1 (by omega) (λx=>?_) (λz=>?_) hV _
   ·rw[tk1,Ay,Ai,hU x]
    exact ⟨.inl,λq=>q.elim id λq=>by rw[q]; exact (hU _).mp hm⟩
   ·obtain ⟨j,hj,ej⟩:=eI.mp ((hU _).mp hm)
    exact absurd ej (Dl.mp z j i (by omega) lt' (by omega))
  ·refine Aj ⟨Qy Fk _,?_⟩
   refine kt h2 es2 ep2 t2 (ws[i]::U) sb2 S2 (by rw[S2.sz,Ba,<- S.sz]; omega) (λx=>?_) (λz=>?_) (λv hv=>?_) _
   ·rw[tk1,Ay,Ai,An,hU x]
    exact Or.comm
   ·rw[Gv (by rw[Ae]; exact lt),show items.toList[i]=Ao b from ev]
    exact g2.trans ((hN z).append_right _)
   ·rcases Ay.mp (g2.mem_iff.mp hv) with q | q
    ·exact hV v q
    ·rw[Ai.mp q,<- ev]
     exact Hq _
end
section
variable{prog:Be}{w:World}{A:Co}{E:Value->Ag->Prop}{s:Ag}
theorem kK{h:Heap}:SetT prog w [] (h.push (Hl #[] 0 (.fresh 0 0 (!bt w)))) h.objs.size #[] 0 (.fresh 0 0 (!bt w)) :=
 ⟨Br _ rfl,(λe he=>by simp at he),⟨⟨i3,rfl,rfl,Ep,(λj hj=>by simp [SetTable.fresh] at hj),rfl⟩,by show 0 * 5<7 * 3; decide⟩,by show 7 % 2=1; decide,by show 7<8192; decide,by show 0<=1100; decide,λz=>by show (!bt w)=true; rw[z]; rfl,Cz,rfl,λu hu=>by simp at hu,λx hx=>by simp at hx⟩
theorem eQ{l:Addr}{items:Array Value}{ws:List (List Int)}{Q:Value->Ag->Prop}(hh:A.handled=none)(hu:A.units+64<cLine)(hl:s.heap.IsList l items)(hw:Su prog w s.heap items.toList ws)(few:ws.length<=1100)(h:∀es ep t h' tk U,(∀b o,s.heap.get? b=some o->h'.get? b=some o)->SetT prog w U h' s.heap.objs.size es ep t->(∀x,x∈U↔x∈ws)->(ws.Nodup->(es.toList.map (·.2)).Perm items.toList)->(∀v∈es.toList.map (·.2),v∈items.toList)->Q (.ref s.heap.objs.size) { s with heap:=h',toks:=tk }):wpAny (model prog w) A (call (.type "set") [.ref l]) Q E s:=by
 obtain ⟨c,tl,hmro⟩:=PySem.F.called_set.mro
 have hmade:=PySem.F.called_set.made
 have hsub:=PySem.F.called_set.sub
 have h1:=PySem.F.called_set.notType
 have h2:=PySem.F.called_set.canCreate
 have hct:=PySem.F.typeCall_set_1 (.ref l)
 refine wpAny_call (codeAny_of_tree (show wpAny _ _ (callAny (.type "set") _) _ _ _ from ?_))
 refine Aj ⟨Code.quiet_builtin _ (by decide +kernel),Je PySem.F.entry_type_call ?_⟩
 rw[Around.under_plain (weight_type_call_type "set" [.ref l] []) rfl]
 repeat (any_goals (first | assumption | wp_step))
 refine Oe (rW (.ref l) (E:=E) (Q:=λv s1=>v=.ref s.heap.objs.size/\s1={ s with heap:=s.heap.push (Hl #[] 0 (.fresh 0 0 (!bt w))) }) ⟨rfl,rfl⟩) λr s1 hr=>?_
 rcases r with e | (_ | _ | _ | v)
 ·exact hr
 ·exact hr.elim
 ·exact hr.elim
 ·exact hr.elim
 obtain ⟨rfl,rfl⟩:=hr
 have S0:=kK (prog:=prog) (w:=w) (h:=s.heap)
 have T0:Shared.TypeIs { s with heap:=s.heap.push (Hl #[] 0 (.fresh 0 0 (!bt w))) } (.ref s.heap.objs.size) "set" := ⟨_,S0.obj,rfl⟩
 have hli:=PySem.F.called_set.init.lookup
 have hbi:=PySem.F.called_set.init.bind (.ref s.heap.objs.size)
 repeat (any_goals (first | assumption | wp_step))
 refine Oe (codeAny_call_builtin (R:=wants (λr s2=>r=.none/\∃es ep t h' tk U,s2={ s with heap:=h',toks:=tk }/\(∀b o,s.heap.get? b=some o->h'.get? b=some o)/\SetT prog w U h' s.heap.objs.size es ep t/\(∀x,x∈U↔x∈ws)/\(ws.Nodup->(es.toList.map (·.2)).Perm items.toList)/\(∀v∈es.toList.map (·.2),v∈items.toList)) E)
  PySem.F.called_set.init.plain PySem.F.entry_set_init (check_set_init_1 T0 ?_)) λr s2 hr=>?_
 ·obtain ⟨⟨oc,od,odt,osl⟩,ho,hc,n,hd⟩:=id hl
  have hc':oc=.type "list" := hc
  have hd':odt=.seq items n:=hd
  subst hc' hd'
  have ho':=Am (Hl #[] 0 (.fresh 0 0 (!bt w))) ho
  have hl1:(s.heap.push (Hl #[] 0 (.fresh 0 0 (!bt w)))).IsList l items:=⟨_,ho',rfl,n,rfl⟩
  have f1:=PySem.F.sub_list_set
  have f2:=PySem.F.sub_list_frozenset
  have f3:(Eb "list" == Eb "dict")=false:=by decide
  have lt:=Bk ho
  unfold Builtin.«set.__init__» noKeywords Builtin.Frozenset.updateFrom
  generalize hPI:pyIter=PI
  wp_walk
  subst hPI
  refine wpAny_pyIter_list hl1 (Ab (wpAny_runValue ?_))
  have sz:(s.heap.push (Hl #[] 0 (.fresh 0 0 (!bt w)))).objs.size=s.heap.objs.size+1:=Heap.size_push _ _
  have g1:((s.heap.push (Hl #[] 0 (.fresh 0 0 (!bt w)))).push { cls:=.type "list_iterator",data:=.fields #[.ref l,.int 0 0] }).get? (s.heap.push (Hl #[] 0 (.fresh 0 0 (!bt w)))).objs.size=some { cls:=.type "list_iterator",data:=.fields #[.ref l,.int 0 0] }:=Br _ rfl
  have kp1:Sm s.heap ((s.heap.push (Hl #[] 0 (.fresh 0 0 (!bt w)))).push { cls:=.type "list_iterator",data:=.fields #[.ref l,.int 0 0] }):=λb o _ e=>Am _ (Am _ e)
  refine pO (by rw[sz]; exact Cy (Zp _)) (Nat.ne_of_gt lt) (by rw[sz]; exact Cy (Pb lt)) few (by simp [hh]) (by simp; omega) (items.size - 0) 0 _ #[] 0 (.fresh 0 0 (!bt w)) [] rfl (Ds _) ⟨_,g1,rfl,rfl⟩ ⟨_,Am _ ho',rfl,n,rfl⟩
   (hw.keep kp1) (S0.keep λb o _ q=>Am _ q) (Ds _) (λx=>Iff.rfl) (λ_=>Ke _) (λv hv=>nomatch hv) λes ep t h' tk U k' S' m' m2' m3'=>?_
  refine Aj (Aj ⟨rfl,es,ep,t,h',tk,U,rfl,λb o e=>?_,S',m',m2',m3'⟩)
  ·have lb:=Bk e
   exact k' b o (Cy lb) (by rw[sz]; exact Cy (Pb lb)) (Am _ (Am _ e))
 ·rcases r with e | (_ | _ | _ | v)
  ·exact hr
  ·exact hr.elim
  ·exact hr.elim
  ·exact hr.elim
  obtain ⟨rfl,es,ep,t,h',tk,U,rfl,k',S',m',m2',m3'⟩:=hr
  repeat (any_goals (first | assumption | wp_step))
  exact h es ep t h' tk U k' S' m' m2' m3'
end
end NdS
namespace Nd
open PySem PySem.Spec PyProof.Rows L2 NdS
def jG(a:Addr)(n:Nat)(h:Heap):Prop:=∃es ep t,h.get? a=some (Hl es ep t)/\t.fits es.size=true/\es.size=n
abbrev qA(a:Addr)(n:Nat):HO:=.ext (jG a n)
theorem wN{P:Be}{w':World}{H:Hp}{h:Heap}{a:Addr}{n:Nat}(e:jG a n h):Gc P w' H h a (qA a n) :=
 ⟨e,let ⟨_,_,_,S,_⟩:=e; ⟨_,S⟩,λh1 h2 ⟨es,ep,t,S,m⟩ k=>⟨es,ep,t,k _ S,m⟩⟩
theorem pA{P:Be}{w:World}{H:Hp}{h:Heap}{a:Addr}{n:Nat}(ok:Sz P w H h)(e:H a=some (qA a n)):jG a n h :=
 (show Gc P w H h a (qA a n) from ok a _ e).1
theorem Sx{prog:Be}{w:World}:∀{ns:List Int} {vs:List Value},Fg (ns.map V.int) vs->ItemsAre (Ce prog w) ns vs
 | [],_,h=>by cases h; exact .nil
 | n::ns,_,h=>by
  cases h with
  | cons a t =>
   obtain ⟨tk,rfl⟩:=a
   exact .cons (intKind_is _ _ _ _) (Sx t)
theorem dA:∀{rs:List Addr} {vs:List Value},Fg (rs.map V.ref) vs->vs=rs.map Ao
 | [],_,h=>by cases h; rfl
 | r::rs,_,h=>by
  cases h with
  | cons a t =>
   cases a
   rw[dA t]
   rfl
theorem Tb{α:Type}[DecidableEq α]:∀{l1 l2:List α},l1.Nodup->(∀e∈l1,e∈l2)->l1.length<=l2.length
 | [],_,_,_=>Ds _
 | a::l1,l2,nd,h=>by
  have nd':=Ci.mp nd
  have ha:=h a (Aa ..)
  have:=Tb (l2:=l2.erase a) nd'.2 λe he=>(Mb (show e≠a from λz=>nd'.1 (by rw[<- z]; exact he))).mpr (h e (Af _ he))
  rw[Jz ha] at this
  have p:0<l2.length:=Kx ha
  rw[Ba]
  omega
theorem eJ{α:Type}[DecidableEq α]:∀{l:List α},¬ l.Nodup->∃x∈l,x∈l.erase x
 | [],h=>absurd Cz h
 | a::l,h=>by
  by_cases c:a∈l
  ·exact ⟨a,Aa ..,by rw[List.erase_cons_head]; exact c⟩
  ·obtain ⟨x,hx,hx2⟩:=eJ (l:=l) λz=>h (Ci.mpr ⟨c,z⟩)
   have ne:¬ (a == x)=true:=λz=>c (by rw[show a=x by simpa using z]; exact hx)
   exact ⟨x,Af _ hx,by rw[List.erase_cons_tail ne]; exact Af _ hx2⟩
theorem Th{α:Type}[DecidableEq α]{U ws:List α}(n1:U.Nodup)(h:∀x,x∈U↔x∈ws):U.length<=ws.length/\(U.length=ws.length↔ws.Nodup):=by
 have l1:=Tb n1 λe he=>(h e).mp he
 refine ⟨l1,λe=>Gj λz=>?_,λn2=>Nat.le_antisymm l1 (Tb n2 λe he=>(h e).mpr he)⟩
 obtain ⟨x,hx,hx2⟩:=eJ z
 have:=Tb (l2:=ws.erase x) n1 λe he=>by
  by_cases c:e=x
  ·rw[c]; exact hx2
  ·exact (Mb c).mpr ((h e).mp he)
 rw[Jz hx] at this
 have p:0<ws.length:=Kx hx
 omega
def V1(K:PySem.W.Frag):List V->Hp->VK->Prop:=λxs H Q=>∃(a:Addr) (rs:List Addr) (f:Addr->List Int),xs=[.ref a]/\Sn K H a (rs.map V.ref)/\(∀r∈rs,Sg K H r ((f r).map V.int))/\rs.length<=1100 /\
 ∀(p:Addr) (n:Nat),H p=none->n<=rs.length->(n=rs.length↔(rs.map f).Nodup)->Q (.ref p) (upd H p (qA p n))
theorem nZ{X:Cx}(hc:X.calm=true)(hu:X.A.units+64<cLine):Kf X (.type "set") (V1 X.K):=by
 intro pins s σ H xs us Q I r h
 obtain ⟨a,rs,f,rfl,hs,ht,few,q⟩:=h
 obtain ⟨u,rfl,ru⟩:=vals1 r
 cases ru
 obtain ⟨its,rv,pl,_⟩:=I.list hs
 have e:=dA rv
 subst e
 refine eQ (ws:=rs.map f) (I.ok.hd hc) hu pl.isList ⟨by simp,λi h1 h2=>?_⟩ (by rw[Ad]; exact few) λes ep t h' tk U k S m m2 _=>?_
 ·have hi:i<rs.length:=by simpa using h1
  obtain ⟨js,jv,⟨o,e,hcl,n,hd⟩,_⟩:=I.tuple (ht rs[i] (Hq hi))
  exact ⟨rs[i],by simp,o,_,n,e,hcl,hd,by rw[List.getElem_map]; simpa using Sx jv⟩
 ·obtain ⟨l1,l2⟩:=Th S.nd m
  rw[Ad,<- S.sz] at l1 l2
  exact ⟨.ref s.heap.objs.size,_,I.laid k (Ah _) (wN ⟨es,ep,t,S.obj,S.tab.fits,rfl⟩),rfl,q _ _ (I.hok.fresh (Ah _)) l1 l2⟩
def R1:List V->Hp->VK->Prop:=λxs H Q=>∃a n,xs=[V.ref a]/\H a=some (qA a n)/\n<=1100/\Q (.int n) H
theorem pG{X:Cx}:Kf X (.builtin "len") R1:=by
 intro pins s σ H xs us Q I r h
 obtain ⟨a,n,rfl,ha,hn,q⟩:=h
 obtain ⟨u,rfl,ru⟩:=vals1 r
 cases ru
 obtain ⟨es,ep,t,ho,hf,rfl⟩:=pA I.hok ha
 refine call_len_set ho ⟨rfl,rfl,rfl⟩ rfl hf (by omega) ?_
 exact ⟨.int es.size,H,I.tok _,⟨_,rfl⟩,q⟩
end Nd
namespace Nd
open PySem L2
end Nd
namespace DL
open PySem PySem.Spec PyProof.Rows L2 Nd
def Z2(xs:List DV)(δ:DS)(P:DV->DS->Prop):Prop:=match xs with
 | [.dat _ (.list ds)]=>∃ws:List (List Int),ds=ws.map Bd/\ws.length<=1100/\∀n:Nat,n<=ws.length->(ws.Nodup->n=ws.length)->(n=ws.length->ws.Nodup)->P (.dat .ow (.int n)) δ
 | _=>False
def lK(da:DA):DE:=λδ P=>da δ λxs δ1=>Z2 xs δ1 P
section
variable{X:Cx}{p p2 pos pos2:Pos}{e:Expr}{da:DA}
theorem oA(hu:X.A.units+64<cLine)(hc:X.calm=true)(hg:Gl X "len")(hm:X.mg "len" = none)(hg2:Gl X "set")(hm2:X.mg "set" = none)(ha:kT X [e] da)(he:Bs [e] X.env=[(false,eval e X.env)]:=by rfl)(he2:Bs [.Call (.Name "set" p2) [e] [] pos2] X.env=[(false,eval (.Call (.Name "set" p2) [e] [] pos2) X.env)]:=by rfl):Eu X (.Call (.Name "len" p) [.Call (.Name "set" p2) [e] [] pos2] [] pos) (lK da):=by
 refine PE.imp (Yl pG hg hm (by decide +kernel) (Hy (Ny (nZ hc hu) hg2 hm2 (by decide +kernel) ha (by decide) (by decide) he rfl) Om he2) (by decide) (by decide) he2 rfl) λσ H Q h=>?_
 obtain ⟨H0,Y,S,T,δ,P,rfl,hS,hA,hd,k⟩:=h
 refine ⟨H0,Y,S,T,δ,_,rfl,hS,hA,hd,λxs δ' As us S' H' e1 e2 ex eu hA' p=>?_⟩
 unfold Z2 at p
 split at p
 ·obtain ⟨v,F,rfl,hA2⟩:=Hx eu hA' ex
  obtain ⟨ws,rfl,hl,pp⟩:=p
  obtain ⟨a,xs,G,rfl,ha,ra,rfl,hz⟩:=(hA2.told mem_mid).list_inv
  obtain ⟨rs,rfl,rfl,rfl,c1,c2⟩:=Zg ra rfl
  rw[Ad] at hl
  refine ⟨a,rs,vV H',rfl,Sn.of ha,λr hr=>Sg.of (c1 r hr),hl,λq n hq h1 h2=>?_⟩
  refine ⟨q,n,rfl,Du,by omega,?_⟩
  have s1:=Ft hq (qA q n)
  exact k _ δ' _ _ S' _ e1 e2 ((hA2.drop.grow s1 (Ah _)).pushI (.int _)) (pp n (by rw[Ad]; exact h1) (by rw[Ad]; exact h2.mpr) (by rw[Ad]; exact h2.mp))
 ·exact p.elim
end
section
variable{K:PySem.W.Frag}
theorem kC{H:Hp}{D:Addr}{l l2:List V}{F:List Addr}(hD:H D=some (.lst l))(nD:D∉F):Kp F H (upd H D (.lst l2)):=λb o e z=>by
 by_cases c:b=D
 ·subst c
  rw[hD] at e
  cases e
  rcases z with z | z
  ·exact absurd z nD
  ·rcases z with ⟨_,z⟩ | ⟨_,_,z⟩ <;> cases z
 ·rw[Eg c]; exact e
end
section
variable{K:PySem.W.Frag}
theorem rP{S:List Ent}{δ:DS}{i:Nat}{u:Option V}{x y:DV}{F F':List Addr}(e2:S[i]? = some ⟨u,x,F⟩)(hS:Sl S δ):vs (S.set i ⟨u,y,F'⟩)=vs S/\Sl (S.set i ⟨u,y,F'⟩) ⟨δ.sl.set i y,δ.n⟩:=by
 constructor
 ·unfold vs
  rw[Gx]
  apply Gy
  intro j
  rw[Ky]
  split
  ·rename_i hij
   subst hij
   rw[Bt,e2]
   split
   ·rfl
   ·rename_i hj
    rw[Ad] at hj
    exact absurd (Ak.mp e2).1 hj
  ·rfl
 ·unfold Sl at hS ⊢
  rw[Gx,hS]
end
end DL
namespace NdW
open PySem PyProof.Rows NdS
structure SetW(w:World)(h:Heap)(a:Addr)(es:Array (Int×Value))(ep:Nat)(t:Bg):Prop where
 obj:h.get? a=some (Hl es ep t)
 tab:Tab es.size t
 led:bt w=false->t.led=true
 few:es.size<=1100
theorem SetW.keep{w:World}{h h':Heap}{a:Addr}{es:Array (Int×Value)}{ep:Nat}{t:Bg}(S:SetW w h a es ep t)(k:∀o,h.get? a=some o->h'.get? a=some o):SetW w h' a es ep t:=⟨k _ S.obj,S.tab,S.led,S.few⟩
section
variable{prog:Be}{w:World}{A:Co}{E:Value->Ag->Prop}{s:Ag}
theorem SetW.ty{a:Addr}{es:Array (Int×Value)}{ep:Nat}{t:Bg}(S:SetW w s.heap a es ep t):s.TypeIs (.ref a) "set" := ⟨_,S.obj,rfl⟩
theorem Mr{a:Addr}{es:Array (Int×Value)}{ep:Nat}{t:Bg}{Q:(Array (Int×Value)×Nat×Bg)->Ag->Prop}(S:SetW w s.heap a es ep t)(h:Q (es,ep,t) s):wpAny (model prog w) A (setState a) Q E s :=
 bP S.obj rfl S.tab.fits h
theorem zS{a:Addr}{es:Array (Int×Value)}{ep:Nat}{t:Bg}{Q:Array (Int×Value)->Ag->Prop}(S:SetW w s.heap a es ep t)(h:Q (if bt w then pickOrder (w.params.setOrder a ep) es else es) s):wpAny (model prog w) A (setWalk a) Q E s:=by
 unfold setWalk
 refine Ab (Mr S ?_)
 dsimp only
 refine Ab (Uw ?_)
 cases hb:bt w with
 | true =>
  rw[hb] at h
  rw[if_pos rfl] at h ⊢
  exact Ab (eE (Aj h))
 | false =>
  have hl:=S.led hb
  have hp:=S.tab.plain
  rw[hb] at h
  obtain ⟨mask,place,dummies,finger,led,moves,plain⟩:=t
  have hl':led=true:=hl
  have hp':plain=true:=hp
  subst hl' hp'
  exact Ab (m:=(pure ():Sem Unit)) (Aj (Aj h))
end
def gT(w:World)(I a:Addr)(es:Array (Int×Value))(ep:Nat)(t:Bg)(i:Nat)(h:Heap):Prop :=
 (∃f,h.get? I=some (lO f i a es.size ep)/\(bt w=false->Bl t.place f=i))/\SetW w h a es ep t
section
variable{prog:Be}{w:World}{A:Co}{E:Value->Ag->Prop}{s:Ag}
theorem yO{a:Addr}{es:Array (Int×Value)}{ep:Nat}{t:Bg}{Q:Value->Ag->Prop}(S:SetW w s.heap a es ep t)(h:Q (.ref s.heap.objs.size) { s with heap:=s.heap.push (lO 0 0 a es.size ep) }):wpAny (model prog w) A (pyIter (.ref a)) Q E s:=by
 refine wpAny_pyIter_slot S.ty PySem.F.slot_set_iter (Gp PySem.F.slot_set_iter S.ty jB ?_ (PySem.F.args_set_iter_1 _))
 unfold Builtin.«frozenset.__iter__»
 refine Ab (m:=Builtin.Frozenset.slot0 "__iter__" ⟨[.ref a],[]⟩) (Lf (a:=a) rfl ?_)
 unfold Builtin.Frozenset.sizeOf Zn setDrawn setEpoch
 refine Ab (Ab (Ab (Mr S (Aj (Aj ?_)))))
 refine Ab (Ab (Mr S ?_))
 dsimp only
 refine Ab (Uw (Aj ?_))
 have hp:=S.tab.plain
 have tail:wpAny (model prog w) A.in1 (do
   let first <- (pure (Lr 0):Sem Value)
   ret (<- newFields "set_iterator" [first,Lr 0,.ref a,Lr es.size,Lr (<- (do return (<- setState a).2.1))])) (λfin s'=>∃v,fin=.done (.ret v)/\∃T' r,s'.TypeIs v T'/\typeLookup (.type T') "__next__" = pure (some r)/\Q v s') E s:=by
  refine Ab (Aj ?_)
  refine Ab (Ab (Mr S (Aj ?_)))
  refine Ab (Ef (Aj ⟨_,rfl, "set_iterator",_,⟨_,Br _ rfl,rfl⟩,Qu.lookup,h⟩))
 obtain ⟨mask,place,dummies,finger,led,moves,plain⟩:=t
 have hp':plain=true:=hp
 subst hp'
 cases hb:bt w with
 | true=>exact tail
 | false=>exact tail
theorem Xl{a:Addr}{es:Array (Int×Value)}{ep f i:Nat}{t:Bg}{Q:Option (Value×Nat)->Ag->Prop}(S:SetW w s.heap a es ep t)(hf:bt w=false->Bl t.place f=i)(h1:∀(hi:i<es.size) f',(bt w=false->Bl t.place f'=i+1)->Q (some (((NdS.arrOf w a ep es)[i]'(by rw[Nv]; exact hi)).2,f')) s)(h2:es.size<=i->Q none s):wpAny (model prog w) A (setNext a f i ep) Q E s:=by
 unfold setNext
 refine Ab (Mr S ?_)
 dsimp only
 refine Ab (Uw ?_)
 cases hb:bt w with
 | true =>
  rw[if_pos rfl,if_neg (by simp)]
  refine Ab (zS S (Aj ?_))
  show Q (((NdS.arrOf w a ep es)[i]?).map λe=>(e.2,f)) s
  by_cases hi:i<es.size
  ·rw[Cw (by rw[Nv]; exact hi)]
   exact h1 hi f (λz=>by rw[hb] at z; cases z)
  ·rw[Pm (by rw[Nv]; omega)]
   exact h2 (by omega)
 | false =>
  have hl:=S.led hb
  have hp:=S.tab.plain
  have tail:wpAny (model prog w) A (pure (match es[Bl t.place f]?,t.place[Bl t.place f]? with
    | some (_,x),some j=>some (x,j+1)
    | _,_=>none):Sem (Option (Value×Nat))) Q E s:=by
   rw[hf hb]
   by_cases hi:i<es.size
   ·have hi2:i<t.place.size:=by rw[S.tab.size]; exact hi
    rw[Cw hi,Cw hi2]
    refine Aj ?_
    have:=h1 hi (t.place[i]+1) (λ_=>jJ S.tab.rise hi2)
    have e:NdS.arrOf w a ep es=es:=by unfold NdS.arrOf; rw[hb]; rfl
    simp only[e] at this
    exact this
   ·rw[Pm (by omega)]
    exact Aj (h2 (by omega))
  obtain ⟨mask,place,dummies,finger,led,moves,plain⟩:=t
  have hl':led=true:=hl
  have hp':plain=true:=hp
  subst hl' hp'
  exact Ab (m:=(pure ():Sem Unit)) (Aj tail)
theorem oQ{I a:Addr}{es:Array (Int×Value)}{ep:Nat}{t:Bg}{i:Nat}{Q:Option Value->Ag->Prop}(st:gT w I a es ep t i s.heap)(ne:a≠I)(hi:i<es.size)(h:∀h',gT w I a es ep t (i+1) h'->Fn I s.heap h'->Q (some ((NdS.arrOf w a ep es)[i]'(by rw[Nv]; exact hi)).2) { s with heap:=h' }):wpAny (model prog w) A (pyNext (.ref I)) Q E s:=by
 obtain ⟨⟨f,ho,hf⟩,S⟩:=st
 have T:s.TypeIs (.ref I) "set_iterator" := ⟨_,ho,rfl⟩
 unfold pyNext
 refine Ab (wpAny_attempt (Ib (name:=Lc "__next__") T Qu (Gp Qu T Yq ?_ (bF _))))
 unfold Builtin.«set_iterator.__next__»
 refine Ab (m:=slotArgs "__next__" 0 ⟨[.ref I],[]⟩) (Lf (a:=(Ao I,[])) rfl ?_)
 dsimp only
 refine Ab (wpAny_fieldsOf ho rfl ?_)
 show wpAny (model prog w) A.in1 (do
  if (((<- Zn a).size:Nat):Int) != (es.size:Int) then
   rule "set_iterator.__next__.size-changed"
   Rm (.ref I) 3 (Lr (-1))
   raiseError "RuntimeError" "Set changed size during iteration"
  match <- setNext a (f:Int).toNat (i:Int).toNat (ep:Int).toNat with
  | some (x,next) =>
   Rm (.ref I) 0 (Lr next)
   Rm (.ref I) 1 (Lr ((i:Int)+1))
   ret x
  | none=>Rm (.ref I) 2 .none; raiseNew (<- newExc (.type "StopIteration") [])) _ _ _
 unfold Zn
 refine Ab (Ab (Mr S (Aj ?_)))
 rw[if_neg (by simp)]
 simp only[El]
 refine Ab (Xl S hf (λ_ f' hf'=>?_) (λz=>absurd hi (by omega)))
 dsimp only
 refine Ab (wpAny_setField ho rfl (by simp) ?_)
 have g1:(s.heap.update I (Obj.mapFields (·.setIfInBounds 0 (Lr f')))).get? I=some (lO f' i a es.size ep):=Gm _ ho rfl
 refine Ab (wpAny_setField g1 rfl (by simp) (Aj ⟨_,rfl,Aj (h _ ⟨⟨f',?_,hf'⟩,?_⟩ ((Cq ..).trans (Cq ..)))⟩))
 ·exact Gm _ g1 rfl
 ·refine S.keep λo q=>?_
  exact ((Cq _ _ _).2 a ne).trans (((Cq _ _ _).2 a ne).trans q)
theorem sC{I a:Addr}{es:Array (Int×Value)}{ep:Nat}{t:Bg}{Q:Option Value->Ag->Prop}(hh:A.handled=none)(st:gT w I a es ep t es.size s.heap)(h:∀h',Heap.ExtBut I s.heap h'->Q none { s with heap:=h' }):wpAny (model prog w) A (pyNext (.ref I)) Q E s:=by
 obtain ⟨⟨f,ho,hf⟩,S⟩:=st
 have T:s.TypeIs (.ref I) "set_iterator" := ⟨_,ho,rfl⟩
 unfold pyNext
 refine Ab (wpAny_attempt (Ib (name:=Lc "__next__") T Qu (Gp Qu T Yq ?_ (bF _))))
 unfold Builtin.«set_iterator.__next__»
 refine Ab (m:=slotArgs "__next__" 0 ⟨[.ref I],[]⟩) (Lf (a:=(Ao I,[])) rfl ?_)
 dsimp only
 refine Ab (wpAny_fieldsOf ho rfl ?_)
 show wpAny (model prog w) A.in1 (do
  if (((<- Zn a).size:Nat):Int) != (es.size:Int) then
   rule "set_iterator.__next__.size-changed"
   Rm (.ref I) 3 (Lr (-1))
   raiseError "RuntimeError" "Set changed size during iteration"
  match <- setNext a (f:Int).toNat (es.size:Int).toNat (ep:Int).toNat with
  | some (x,next) =>
   Rm (.ref I) 0 (Lr next)
   Rm (.ref I) 1 (Lr ((es.size:Int)+1))
   ret x
  | none=>Rm (.ref I) 2 .none; raiseNew (<- newExc (.type "StopIteration") [])) _ _ _
 unfold Zn
 refine Ab (Ab (Mr S (Aj ?_)))
 rw[if_neg (by simp)]
 simp only[El]
 refine Ab (Xl S hf (λz _ _=>absurd z (Hh _)) (λ_=>?_))
 dsimp only
 refine Ab (wpAny_setField ho rfl (by simp) (Ab ?_))
 simp only[newExc,newTuple]
 refine Ab (Ef ?_ (by size_fits))
 refine Ab (m:=firstArgMember _ _) (Lf (a:=Pl) (by first | rfl | (simp only[firstArgMember]; rfl)) (Ef ?_ (by size_fits)))
 simp only[raiseNew]
 refine Ab (wpAny_handled ?_)
 rw[show A.in1.handled=none from hh]
 refine Ab (Aj (wpAny_throw ?_))
 refine Ab (wpAny_isInstance (T := "StopIteration") (b:=true) ⟨_,Br _ rfl,rfl⟩ isSubtype_stop ?_)
 exact Aj (h _ (((Cq ..).extBut.push _).push _))
end
section
variable{prog:Be}{w:World}{A:Co}{E:Value->Ag->Prop}{s:Ag}
theorem pJ(hh:A.handled=none){I a:Addr}(ne:a≠I)(es:Array (Int×Value))(ep:Nat)(t:Bg):Walks prog w A I [I,a] [I] es.size (λi v=>∃e,(NdS.arrOf w a ep es)[i]? = some e/\v=e.2) (λi h=>gT w I a es ep t i h) where
 sub:=λb hb=>by simp at hb; simp [hb]
 frame:=λi h h' ⟨⟨f,ho,hf⟩,S⟩ hk=>⟨⟨f,hk I (by simp) _ ho,hf⟩,S.keep λo q=>hk a (by simp) o q⟩
 item:=λi s Q E hi st hQ=>oQ st ne hi λh' st' sb=>hQ _ h' s.toks ⟨_,Cw (by rw[Nv]; exact hi),rfl⟩ st' λb o hb e=>(sb.2 b (λz=>hb (by simp [z]))).trans e
 done:=λs Q E st hQ=>sC hh st λh' x=>hQ h' s.toks λb o hb e=>x b o (λz=>hb (by simp [z])) e
 self:=λi s Q E st hQ=>by
  obtain ⟨⟨f,ho,hf⟩,S⟩:=st
  have T:s.TypeIs (.ref I) "set_iterator" := ⟨_,ho,rfl⟩
  refine wpAny_pyIter_slot T aJ (Gp aJ T jN ?_ (pL _))
  exact Aj ⟨_,rfl, "set_iterator",_,T,Qu.lookup,hQ⟩
theorem wY(a:Addr)(es:Array (Int×Value))(ep:Nat)(t:Bg):PySem.W.KdlSrc prog w "set" a a es.size (λi v=>∃e,(NdS.arrOf w a ep es)[i]? = some e/\v=e.2) (λh=>SetW w h a es ep t) where
 type:=λs S=>S.ty
 there:=λh S=>⟨Bk S.obj,Bk S.obj⟩
 keep:=λh h' S k=>S.keep λo q=>k a (.inl rfl) o q
 notList:=by decide
 notTuple:=by decide
 hint:=λA E s Q S h=>rD S.ty h
 iter:=λA s hh S=>by
  have lt:=Bk S.obj
  refine ⟨lO 0 0 a es.size ep,λi h=>gT w s.heap.objs.size a es ep t i h,λE Q h=>yO S h,?_,⟨⟨0,Br _ rfl,λ_=>gY S.tab.rise⟩,S.keep λo q=>Am _ q⟩⟩
  exact pJ hh (Cy lt) es ep t
theorem jO{arr:Array (Int×Value)}{acc:Array Value}(h:ItemsOf (λi v=>∃e,arr[i]? = some e/\v=e.2) acc arr.size):acc.toList=arr.toList.map (·.2):=by
 apply Gy
 intro j
 rw[Bt]
 cases q:acc.toList[j]? with
 | none =>
  have l:acc.size<=j:=by
   have:=List.getElem?_eq_none_iff.mp q
   rw[Ae] at this
   exact this
  rw[Rh (by rw[Ae]; have:=h.1; omega)]
  rfl
 | some v =>
  obtain ⟨e,h1,h2⟩:=h.2 j v (by rw[<- Ed]; exact q)
  rw[Ed,h1,h2]
  rfl
theorem pR{h:Heap}{a:Addr}{vs:List Value}{out:Array Value}{b:Addr}{o:Obj}(ne:b≠a)(e:h.get? b=some o):(Sh h a vs out).get? b=some o:=by
 unfold Sh
 exact ((Cq _ _ _).2 b ne).trans (Am _ (Am _ (((Cq _ _ _).2 b ne).trans e)))
theorem wI{h:Heap}{a:Addr}{vs:List Value}{out:Array Value}{n:Nat}(g:h.get? a=some (Ju "list" vs.toArray n)):∃n,(Sh h a vs out).get? a=some (Ju "list" out n):=by
 unfold Sh
 have g2:=get?_update_seq g (λ_=>#[])
 have g3:=Am (Ju "list" #[] 0) (Am (Ju "tuple" vs.toArray 0) g2)
 exact ⟨_,get?_update_seq g3 (λ_=>out)⟩
def v8:Value->Addr
 | .ref a=>a
 | _=>0
theorem pN{l:List Value}{rs:List Addr}(h:l.Perm (rs.map Ao)):∃rs0:List Addr,l=rs0.map Ao/\rs0.Perm rs:=by
 refine ⟨l.map v8,?_,?_⟩
 ·rw[Ei]
  refine ((Gb λv hv=>?_).trans (List.map_id l)).symm
  obtain ⟨r,_,rfl⟩:=Cc.mp (h.mem_iff.mp hv)
  rfl
 ·have:=h.map v8
  rw[Ei,show v8 ∘ Ao=id from rfl,List.map_id] at this
  exact this
theorem gJ{a:Addr}{es:Array (Int×Value)}{ep:Nat}{t:Bg}{rs:List Addr}{c:Addr->List Int}{Q:Value->Ag->Prop}(hh:A.handled=none)(hu:A.units+64<cLine)(S:SetW w s.heap a es ep t)(hv:(es.toList.map (·.2)).Perm (rs.map Ao))(hw:∀r∈rs,∃ti:List Value,Fm ti (c r)/\IsTup s.heap r ti.toArray)(h:∀(p:Addr) (rs':List Addr) (n:Nat) (h1 h':Heap) (tk:Nat),rs'.Perm rs->rs'.Pairwise (λx y=>HT.lexLt (c y) (c x)=false)->(∀b o,s.heap.get? b=some o->h1.get? b=some o)->h1.objs.size<=p->(∀b o,h1.get? b=some o->h'.get? b=some o)->h'.get? p=some (Ju "list" (rs'.map Ao).toArray n)->Q (.ref p) { s with heap:=h',toks:=tk }):wpAny (model prog w) A (call (.builtin "sorted") [.ref a]) Q E s:=by
 refine Calls.call_function_entry (by exact kind_sorted) plain_sorted entry_sorted (args_sorted1 _) ?_
 unfold Builtin.«sorted»
 refine Ab (m:=checkCount "sorted" 1 1 _) (Aj (Ab (PySem.W.kdu_collect (A:=A.in1) (wY a es ep t) hh S (Yu (by have:=S.few; omega)) λh1 tk acc k1 hacc=>?_)))
 have hacc':ItemsOf (λi v=>∃e,(NdS.arrOf w a ep es)[i]? = some e/\v=e.2) acc (NdS.arrOf w a ep es).size:=by rw[Nv]; exact hacc
 have e1:=jO hacc'
 have e3:acc.toList.Perm (rs.map Ao):=by
  rw[e1]
  exact ((eZ (w:=w) (a:=a) (ep:=ep) (es:=es)).map (λe:Int×Value=>e.2)).trans hv
 obtain ⟨rs0,e2,p0⟩:=pN e3
 rw[e2]
 have l0:rs0.length<=1100:=by
  have:=congrArg Fq e2
  rw[Ae,hacc.1,Ad] at this
  have:=S.few
  omega
 refine Ab (wpAny_newList ?_ (by rw[Ad]; exact Yu (by omega)))
 have g1:(h1.push (Ju "list" (rs0.map Ao).toArray 0)).get? h1.objs.size=some (Ju "list" (rs0.map Ao).toArray 0):=Br _ rfl
 refine Ab (Ej (Gp slot_list_sort ⟨_,g1,rfl⟩ entry_list_sort (Ts.sort_listG (s:={ s with heap:=h1.push (Ju "list" (rs0.map Ao).toArray 0),toks:=tk }) (c:=c) (d0:=[]) (lt_:=HT.lexLt) g1 (λh' hk h2=>Ts.kinded_ints (λr hr=>?_) ?_ h2) (Yu (by omega)) λrs' p1 p2=>⟨_,rfl,?_⟩) (args_list_sort _)))
 ·obtain ⟨ti,t1,o,g,kk⟩:=hw r (p0.mem_iff.mp hr)
  have g':=k1 r o g
  exact ⟨ti,t1,o,hk _ _ (Cy (Bk g')) (Am _ g'),kk⟩
 ·first | (show A.units+1+1<cLine; omega) | (simp; omega) | omega
 ·obtain ⟨n,hn⟩:=wI (out:=(rs'.map Ao).toArray) g1
  refine Aj ⟨_,rfl,h _ rs' n h1 _ tk (p1.trans p0) p2 k1 (Ah _) (λb o e=>pR (Cy (Bk e)) (Am _ e)) hn⟩
end
end NdW
namespace Nd
open PySem PySem.Spec PyProof.Rows L2 NdS NdW
def jK(w:World)(a:Addr)(V:List Value)(h:Heap):Prop:=∃es ep t,SetW w h a es ep t/\(es.toList.map (·.2)).Perm V
abbrev gQ(w:World)(a:Addr)(V:List Value):HO:=.ext (jK w a V)
theorem yB{P:Be}{w w':World}{H:Hp}{h:Heap}{a:Addr}{V:List Value}(e:jK w a V h):Gc P w' H h a (gQ w a V) :=
 ⟨e,let ⟨_,_,_,S,_⟩:=e; ⟨_,S.obj⟩,λh1 h2 ⟨es,ep,t,S,m⟩ k=>⟨es,ep,t,S.keep λo q=>k o q,m⟩⟩
theorem pU{P:Be}{w:World}{H:Hp}{h:Heap}{a:Addr}{V:List Value}(ok:Sz P w H h)(e:H a=some (gQ w a V)):jK w a V h :=
 (show Gc P w H h a (gQ w a V) from ok a _ e).1
theorem fT:∀{vs:List Value},(∀v∈vs,∃r,v=Ao r)->∃rs:List Addr,vs=rs.map Ao
 | [],_=>⟨[],rfl⟩
 | v::vs,h=>by
  obtain ⟨r,e⟩:=h v Aa
  obtain ⟨rs,e2⟩:=fT (vs:=vs) λx hx=>h x (Af _ hx)
  exact ⟨r::rs,by rw[e,e2]; rfl⟩
def T8(w:World)(K:PySem.W.Frag):List V->Hp->VK->Prop:=λxs H Q=>∃(a:Addr) (rs:List Addr) (f:Addr->List Int),xs=[.ref a]/\Sn K H a (rs.map V.ref)/\(∀r∈rs,Sg K H r ((f r).map V.int))/\rs.length<=1100 /\
 ∀(p:Addr) (rs':List Addr),H p=none->(∀r∈rs',r∈rs)->(rs'.map f).Nodup->(∀x,x∈rs'.map f↔x∈rs.map f)->Q (.ref p) (upd H p (gQ w p (rs'.map Ao)))
theorem oX{X:Cx}(hc:X.calm=true)(hu:X.A.units+64<cLine):Kf X (.type "set") (T8 X.w X.K):=by
 intro pins s σ H xs us Q I r h
 obtain ⟨a,rs,f,rfl,hs,ht,few,q⟩:=h
 obtain ⟨u,rfl,ru⟩:=vals1 r
 cases ru
 obtain ⟨its,rv,pl,_⟩:=I.list hs
 have e:=dA rv
 subst e
 refine eQ (ws:=rs.map f) (I.ok.hd hc) hu pl.isList ⟨by simp,λi h1 h2=>?_⟩ (by rw[Ad]; exact few) λes ep t h' tk U k S m m2 m3=>?_
 ·have hi:i<rs.length:=by simpa using h1
  obtain ⟨js,jv,⟨o,e,hcl,n,hd⟩,_⟩:=I.tuple (ht rs[i] (Hq hi))
  exact ⟨rs[i],by simp,o,_,n,e,hcl,hd,by rw[List.getElem_map]; simpa using Sx jv⟩
 ·obtain ⟨rs',er⟩ : ∃rs':List Addr,es.toList.map (·.2)=rs'.map Ao:=fT λv hv=>by
   obtain ⟨x,_,ex⟩:=Cc.mp (m3 v hv)
   exact ⟨x,ex.symm⟩
  have sub:∀r∈rs',r∈rs:=λr hr=>by
   obtain ⟨x,hx,ex⟩:=Cc.mp (m3 (Ao r) (by rw[er]; exact Cc.mpr ⟨r,hr,rfl⟩))
   injection ex with ex
   rw[<- ex]; exact hx
  have key:∀r∈rs,Ex (Ce X.prog X.w) h' (f r) r:=λr hr=>by
   obtain ⟨js,jv,⟨o,e,hcl,n,hd⟩,_⟩:=I.tuple (ht r hr)
   exact ⟨o,_,n,k _ _ e,hcl,hd,by simpa using Sx jv⟩
  have cov:∀u∈U,u∈rs'.map f:=λu hu=>by
   obtain ⟨e,he,b,eb,x⟩:=S.all u hu
   have hb:b∈rs':=by
    have : Ao b∈es.toList.map (·.2):=Cc.mpr ⟨e,he,by rw[eb]⟩
    rw[er] at this
    obtain ⟨y,hy,ey⟩:=Cc.mp this
    injection ey with ey
    rw[<- ey]; exact hy
   exact Cc.mpr ⟨b,hb,(key b (sub b hb)).inj x⟩
  have lenE:(rs'.map f).length=U.length:=by
   have:=congrArg Fq er
   rw[Ad,Ad,Ae,S.sz] at this
   rw[Ad]; exact this.symm
  have back:∀x,x∈rs'.map f->x∈rs.map f:=λx hx=>by
   obtain ⟨r,hr,rfl⟩:=Cc.mp hx
   exact Cc.mpr ⟨r,sub r hr,rfl⟩
  refine ⟨.ref s.heap.objs.size,_,I.laid k (Ah _) (yB (V:=rs'.map Ao) ⟨es,ep,t,⟨S.obj,S.tab,S.led,S.few⟩,by rw[er]⟩),rfl,q _ rs' (I.hok.fresh (Ah _)) sub ?_ λx=>⟨back x,λhx=>cov x ((m x).mpr hx)⟩⟩
  exact (Th S.nd λx=>⟨cov x,λhx=>(m x).mpr (back x hx)⟩).2.mp lenE.symm
def A1(w:World)(K:PySem.W.Frag):List V->Hp->VK->Prop:=λxs H Q=>∃(a:Addr) (rs:List Addr) (c:Addr->List Int),xs=[.ref a]/\H a=some (gQ w a (rs.map Ao))/\(∀r∈rs,Sg K H r ((c r).map V.int))/\rs.length<=1100 /\
 ∀(p:Addr) (rs':List Addr),H p=none->rs'.Perm rs->rs'.Pairwise (λx y=>HT.lexLt (c y) (c x)=false)->Q (.ref p) (upd H p (.lst (rs'.map V.ref)))
theorem dQ{X:Cx}(hc:X.calm=true)(hu:X.A.units+64<cLine):Kf X (.builtin "sorted") (A1 X.w X.K):=by
 intro pins s σ H xs us Q I r h
 obtain ⟨a,rs,c,rfl,ha,ht,few,q⟩:=h
 obtain ⟨u,rfl,ru⟩:=vals1 r
 cases ru
 obtain ⟨es,ep,t,S,m⟩:=pU I.hok ha
 refine gJ (c:=c) (I.ok.hd hc) hu S m (λr hr=>?_) λp rs' n h1 h' tk pm pw k1 hge k2 hg=>?_
 ·obtain ⟨ti,t1,t2,_⟩:=I.tuple (ht r hr)
  exact ⟨ti,intsAre_of t1,t2⟩
 ·have I1:Inv X pins σ H { s with heap:=h1,toks:=tk }:=I.kept k1
  refine ⟨.ref p,upd H p (.lst (rs'.map V.ref)),I1.laid (t':=tk) k2 hge ⟨by rw[Ad,pm.length_eq,Jt]; omega,_,n,Ts.vals_refs rs',hg⟩,rfl,q p rs' (I1.hok.fresh hge) pm pw⟩
end Nd
namespace DL
open PySem PySem.Spec PyProof.Rows L2 Nd
def yM(xs:List DV)(δ:DS)(P:DV->DS->Prop):Prop:=match xs with
 | [.dat _ (.list ds)]=>∃ws:List (List Int),ds=ws.map Bd/\ws.length<=1100/\∀L:List (List Int),L.Nodup->(∀x,x∈L↔x∈ws)->L.Pairwise (λx y=>HT.lexLt y x=false)->P (.dat .ow (.list (L.map Bd))) δ
 | _=>False
def V6(da:DA):DE:=λδ P=>da δ λxs δ1=>yM xs δ1 P
section
variable{X:Cx}{p p2 pos pos2:Pos}{e:Expr}{da:DA}
theorem K7(hu:X.A.units+64<cLine)(hc:X.calm=true)(hg:Gl X "sorted")(hm:X.mg "sorted" = none)(hg2:Gl X "set")(hm2:X.mg "set" = none)(ha:kT X [e] da)(he:Bs [e] X.env=[(false,eval e X.env)]:=by rfl)(he2:Bs [.Call (.Name "set" p2) [e] [] pos2] X.env=[(false,eval (.Call (.Name "set" p2) [e] [] pos2) X.env)]:=by rfl):Eu X (.Call (.Name "sorted" p) [.Call (.Name "set" p2) [e] [] pos2] [] pos) (V6 da):=by
 refine PE.imp (Yl (dQ hc hu) hg hm (by decide +kernel) (Hy (Ny (oX hc hu) hg2 hm2 (by decide +kernel) ha (by decide) (by decide) he rfl) Om he2) (by decide) (by decide) he2 rfl) λσ H Q h=>?_
 obtain ⟨H0,Y,S,T,δ,P,rfl,hS,hA,hd,k⟩:=h
 refine ⟨H0,Y,S,T,δ,_,rfl,hS,hA,hd,λxs δ' As us S' H' e1 e2 ex eu hA' p=>?_⟩
 unfold yM at p
 split at p
 ·obtain ⟨v,F,rfl,hA2⟩:=Hx eu hA' ex
  obtain ⟨ws,rfl,hl,pp⟩:=p
  obtain ⟨a,xs,G,rfl,ha,ra,rfl,hz⟩:=(hA2.told mem_mid).list_inv
  obtain ⟨rs,rfl,rfl,rfl,c1,c2⟩:=Zg ra rfl
  rw[Ad] at hl
  refine ⟨a,rs,vV H',rfl,Sn.of ha,λr hr=>Sg.of (c1 r hr),hl,λq rs2 hq sub nd2 iff2=>?_⟩
  have s1:=Ft hq (gQ X.w q (rs2.map Ao))
  have l2:rs2.length<=rs.length:=by
   have:=(Th nd2 iff2).1
   rwa [Ad,Ad] at this
  refine ⟨q,rs2,vV H',rfl,Du,λr hr=>Sg.of (s1 _ _ (c1 r (sub r hr))),by omega,λr rs' nr pm pw=>?_⟩
  have c3:∀x∈rs',RdF X.K (upd H' q (gQ X.w q (rs2.map Ao))) (.ref x) (Bd (vV H' x)) []:=λx hx=>(c2 x (sub x (pm.mem_iff.mp hx))).kp λb o e _=>s1 b o e
  have c4:RdFs X.K (upd H' q (gQ X.w q (rs2.map Ao))) (rs'.map V.ref) ((rs'.map (vV H')).map Bd) []:=by
   clear pm pw nr
   induction rs' with
   | nil=>exact .nil
   | cons y l ih=>exact RdFs.cons (F:=[]) (G:=[]) (c3 y Aa) (ih λx hx=>c3 x (Af _ hx))
  exact k _ δ' _ _ S' _ e1 e2 ((hA2.drop.grow s1 (Ah _)).newI c4 (Sa _) (by rw[Ad,Ad,pm.length_eq]; exact pK (by omega)) nr .ow) (pp _ ((pm.map _).nodup_iff.mpr nd2) (λx=>((pm.map _).mem_iff).trans (iff2 x)) (Wk.mpr pw))
 ·exact p.elim
end
def N7(t u:DB)(D:DEnds)(b:Bool)(δ:DS):Prop:=match b with
 | true=>t D δ
 | false=>u D δ
def U4(x:DV)(δ:DS)(P:DV->DS->Prop):Prop:=match x with
 | .dat _ d=>imm d=true/\P (.dat .ow d) δ
 | _=>False
def DH(i:Nat)(s:Option DV)(δ:DS)(P:DV->DS->Prop):Prop:=match s with
 | some (.dat .pk _)=>False
 | some (.dat _ d)=>P (.dat .sh d) ⟨δ.sl.set i (.dat .sh d),δ.n⟩
 | _=>False
def tupB(xs:List DV)(δ:DS)(P:DV->DS->Prop):Prop:=match datas xs with
 | some ds=>ds.length<=1000/\P (.dat (pkMd .sh xs) (.tuple ds)) δ
 | none=>False
def lstB(xs:List DV)(δ:DS)(P:DV->DS->Prop):Prop:=match datas xs with
 | some ds=>ds.length<=1000/\P (.dat (pkMd .tp xs) (.list ds)) δ
 | none=>False
def u6(x:DV)(δ:DS)(P:Option Int->DS->Prop):Prop:=match x with
 | .dat _ (.int i)=>P (some i) δ
 | _=>False
def CB(i:Bool)(x:DV)(l h:Option Int)(δ:DS)(P:DV->DS->Prop):Prop:=match x with
 | .dat m (.list ds)=>Yj i m (Nr ds l h) λz=>P z δ
 | .dat m (.tuple ds)=>Yd i m (Nr ds l h) λz=>P z δ
 | _=>False
def DJ(xs:List DV)(δ:DS)(P:DV->DS->Prop):Prop:=match xs with
 | [.dat _ (.list ds)]=>∃ns:List Int,ds=ns.map Ca/\(∀x∈ns,0<=x/\x<60)/\P (.dat .ow (.list ((L0 ns).map Ca))) δ
 | [.dat _ (.tuple ds)]=>∃ns:List Int,ds=ns.map Ca/\(∀x∈ns,0<=x/\x<60)/\P (.dat .ow (.list ((L0 ns).map Ca))) δ
 | _=>False
def bB(x:DV)(δ:DS)(P:Bool->DS->Prop):Prop:=match x with
 | .dat _ (.bool b)=>P b δ
 | _=>False
def x3(du:DT)(b:Bool)(δ:DS)(P:Bool->DS->Prop):Prop:=match b with
 | true=>du δ P
 | false=>P false δ
def Y9(du:DT)(b:Bool)(δ:DS)(P:Bool->DS->Prop):Prop:=match b with
 | true=>P true δ
 | false=>du δ P
def P7(db:DE)(x:DV)(δ:DS)(P:DV->DS->Prop):Prop:=match x with
 | .dat _ (.bool true)=>db δ P
 | .dat _ (.bool false)=>P (.dat .ow (.bool false)) δ
 | _=>False
def Q0(x:DV)(δ:DS)(P:DV->DS->Prop):Prop:=match x with
 | .dat _ (.int i)=>P (.dat .ow (.int (-i))) δ
 | _=>False
def lB(x:DV)(δ:DS)(P:Md->List Ac->DS->Prop):Prop:=match x with
 | .dat m (.list ds)=>P (Kn m) ds δ
 | _=>False
def BV(x:DV)(δ:DS)(P:Md->List Ac->DS->Prop):Prop:=match x with
 | .dat m (.tuple ds)=>P (Kn m) ds δ
 | _=>False
def j6(xs:List DV)(δ:DS)(P:Md->List Ac->DS->Prop):Prop:=match xs with
 | [.dat _ (.int j)]=>-1000000<=j/\j<=1000000/\P .sh ((Bp j.toNat).map λi:Nat=>.int i) δ
 | _=>False
def j7(xs:List DV)(δ:DS)(P:Md->List Ac->DS->Prop):Prop:=match xs with
 | [.dat m (.list ds)]=>P (Kn m) (ds.zipIdx.map λp=>.tuple [.int p.2,p.1]) δ
 | _=>False
def O7(dg:DG)(db:DB)(D:DEnds)(m:Md)(ds:List Ac)(δ1:DS):Prop:=m=.sh/\∃I:Nat->DS->Prop,I 0 δ1 /\
 (∀i d δ',ds[i]? = some d->I i δ'->dg (.dat .sh d) δ' λδ2=>db { D with nx:=I (i+1),ct:=I (i+1),bk:=D.nx } δ2)/\∀δ',I ds.length δ'->D.nx δ'
def uN(js:List Nat)(dc:DT)(de:DE)(P:DV->DS->Prop)(m:Md)(ds:List Ac)(δ1:DS):Prop:=∃I:Nat->List Ac->Nat->Prop,I 0 [] δ1.n /\
 (∀i d acc n,ds[i]? = some d->I i acc n->Sy dc de ⟨.dat m d::frD δ1.sl js,n⟩ (λe n'=>I (i+1) (acc++[e]) n') (λn'=>I (i+1) acc n')) /\
 ∀acc n,I ds.length acc n->P (.dat .ow (.list acc)) ⟨δ1.sl,n⟩
def zA(yes:Ac->Nat->Prop)(y:DV)(δ:DS):Prop:=match y with
 | .dat _ e=>imm e=true/\yes e δ.n
 | _=>False
def lX(de:DE)(yes:Ac->Nat->Prop)(no:Nat->Prop)(b:Bool)(δ:DS):Prop:=match b with
 | true=>de δ λy δ3=>zA yes y δ3
 | false=>no δ.n
def callB(pf:PF)(xs:List DV)(δ:DS)(P:DV->DS->Prop):Prop:=match datas xs with
 | some ds=>pf ds λd=>P (.dat .ow d) δ
 | none=>False
def callBW(i:Nat)(df:DF)(xs:List DV)(δ:DS)(P:DV->DS->Prop):Prop:=match δ.sl[i]? with
 | some .drw=>match datas xs with
  | some ds=>df ds δ.n λd n'=>P (.dat .ow d) ⟨δ.sl,n'⟩
  | none=>False
 | _=>False
def rF(xs:List DV)(δ:DS)(P:DV->DS->Prop):Prop:=match xs with
 | [.dat _ (.int _)]=>P .drw δ
 | _=>False
def appB(i:Nat)(y:DV)(δ:DS)(D:DEnds):Prop:=match δ.sl[i]?,y with
 | some (.dat m (.list ds)),.dat _ e=>own1 m=true/\npk δ.sl=true/\imm e=true/\ds.length<1000000/\D.nx ⟨δ.sl.set i (.dat m (.list (ds++[e]))),δ.n⟩
 | _,_=>False
def R3(i:Nat)(z:DV)(δ:DS)(D:DEnds):Prop:=match z with
 | .dat _ d=>imm d=true/\D.nx ⟨δ.sl.set i (.dat .sh d),δ.n⟩
 | _=>False
def callAB(pf:PF)(xs:List DV)(δ:DS)(P:DV->DS->Prop):Prop:=match datas xs with
 | some ds=>pf ds λd=>P (.dat .sh d) δ
 | none=>False
theorem e_ssW{da:DA}{δ:DS}{P:DV->DS->Prop}:V6 da δ P=(da δ λxs δ1=>yM xs δ1 P):=rfl
theorem e_ssWB{m:Md}{ds:List Ac}{δ:DS}{P:DV->DS->Prop}:yM [.dat m (.list ds)] δ P=(∃ws:List (List Int),ds=ws.map Bd/\ws.length<=1100/\∀L:List (List Int),L.Nodup->(∀x,x∈L↔x∈ws)->L.Pairwise (λx y=>HT.lexLt y x=false)->P (.dat .ow (.list (L.map Bd))) δ):=rfl
theorem e_lenSet{da:DA}{δ:DS}{P:DV->DS->Prop}:lK da δ P=(da δ λxs δ1=>Z2 xs δ1 P):=rfl
theorem e_lsB{m:Md}{ds:List Ac}{δ:DS}{P:DV->DS->Prop}:Z2 [.dat m (.list ds)] δ P=(∃ws:List (List Int),ds=ws.map Bd/\ws.length<=1100/\∀n:Nat,n<=ws.length->(ws.Nodup->n=ws.length)->(n=ws.length->ws.Nodup)->P (.dat .ow (.int n)) δ):=rfl
theorem N4{i:Nat}{dk de:DE}{D:DEnds}{δ:DS}:tX i dk de D δ=(match δ.sl[i]? with | some (.dat _ (.list _))=>dk δ λz δ1=>de δ1 λy δ2=>i5 i z y δ2 D | _=>False):=rfl
theorem e_seq{t u:DB}{D:DEnds}{δ:DS}:X6 t u D δ=(t { D with nx:=λδ'=>u D δ' } δ):=rfl
theorem e_skip{D:DEnds}{δ:DS}:u4 D δ=(D.nx δ):=rfl
theorem e_ret{de:DE}{D:DEnds}{δ:DS}:S8 de D δ=(de δ D.rt):=rfl
theorem e_if{dt:DT}{t u:DB}{D:DEnds}{δ:DS}:BR dt t u D δ=(dt δ (N7 t u D)):=rfl
theorem e_asg{de:DE}{dg:DG}{D:DEnds}{δ:DS}:uK de dg D δ=(de δ λx δ'=>dg x δ' D.nx):=rfl
theorem e_name{i:Nat}{m:Md}{d:Ac}{δ:DS}{Q:DS->Prop}:Oh i (.dat .ow d) δ Q=(Q ⟨δ.sl.set i (.dat .sh d),δ.n⟩):=rfl
theorem e_name2{i:Nat}{m:Md}{d:Ac}{δ:DS}{Q:DS->Prop}:Oh i (.dat .sh d) δ Q=(Q ⟨δ.sl.set i (.dat .sh d),δ.n⟩):=rfl
theorem e_name4{i:Nat}{δ:DS}{Q:DS->Prop}:Oh i .drw δ Q=(Q ⟨δ.sl.set i .drw,δ.n⟩):=rfl
theorem e_own{i:Nat}{d:Ac}{δ:DS}{Q:DS->Prop}:fZ i (.dat .ow d) δ Q=(Q ⟨δ.sl.set i (.dat .ow d),δ.n⟩):=rfl
theorem e_nF{i:Nat}{x:DV}{δ:DS}{Q:DS->Prop}:BB false i x δ Q=(Oh i x δ Q):=rfl
theorem e_gtup{n:Nat}{gs:vU}{m:Md}{ds:List Ac}{δ:DS}{Q:DS->Prop}:sN n gs (.dat m (.tuple ds)) δ Q=(ds.length=n/\gs (ds.map λd=>.dat (Mn m) d) δ Q):=rfl
theorem e_gsn{δ:DS}{Q:DS->Prop}:qX [] δ Q=(Q δ):=rfl
theorem e_gsc{g:DG}{gs:vU}{x:DV}{r:List DV}{δ:DS}{Q:DS->Prop}:mQ g gs (x::r) δ Q=(g x δ λδ'=>gs r δ' Q):=rfl
theorem e_op{rd:D2}{da db:DE}{δ:DS}{P:DV->DS->Prop}:Te rd da db δ P=(da δ λx δ1=>db δ1 λy δ2=>rd x y λz=>P z δ2):=rfl
theorem e_var{i:Nat}{δ:DS}{P:DV->DS->Prop}:w5 i δ P=(match δ.sl[i]? with | some (.dat m d)=>P (.dat (eR m) d) δ | _=>False):=rfl
theorem e_c{d:Ac}{δ:DS}{P:DV->DS->Prop}:dC d δ P=(P (.dat .ow d) δ):=rfl
theorem e_imm{de:DE}{δ:DS}{P:DV->DS->Prop}:P2 de δ P=(de δ λx δ'=>U4 x δ' P):=rfl
theorem e_immB{m:Md}{d:Ac}{δ:DS}{P:DV->DS->Prop}:U4 (.dat m d) δ P=(imm d=true/\P (.dat .ow d) δ):=rfl
theorem e_take{i:Nat}{δ:DS}{P:DV->DS->Prop}:qT i δ P=(match δ.sl[i]? with | some (.dat m d)=>P (.dat m d) ⟨δ.sl.set i .un,δ.n⟩ | _=>False):=rfl
theorem e_I{C:Int->Int->Prop}{g:Int->Int->Ac}{i j:Int}{m m':Md}{P:DV->Prop}:N9 C g (.dat m (.int i)) (.dat m' (.int j)) P=(C i j/\P (.dat .ow (g i j))):=rfl
theorem e_I0{g:Int->Int->Ac}{i j:Int}{m m':Md}{P:DV->Prop}:Xb g (.dat m (.int i)) (.dat m' (.int j)) P=(P (.dat .ow (g i j))):=rfl
theorem e_eqF{d e:Ac}{m m':Md}{P:DV->Prop}:dE false (.dat m d) (.dat m' e) P=(d.depth<=60/\e.depth<=60/\P (.dat .ow (.bool (Do d e)))):=rfl
theorem e_eqT{d e:Ac}{m m':Md}{P:DV->Prop}:dE true (.dat m d) (.dat m' e) P=(d.depth<=60/\e.depth<=60/\P (.dat .ow (.bool (!Do d e)))):=rfl
theorem e_inTl{d:Ac}{es:List Ac}{m m':Md}{P:DV->Prop}:jZ true (.dat m d) (.dat m' (.list es)) P=(Bi es<=60/\d.depth<=60/\P (.dat .ow (.bool (!(es.any λe=>Do e d))))):=rfl
theorem e_inFt_w1{nes:List Int}{d:Ac}{es:List Ac}{m m':Md}{P:DV->Prop}:jZ false (.dat m d) (.dat m' (Bd nes)) P=(Bi (nes.map Ca)<=60/\d.depth<=60/\P (.dat .ow (.bool ((nes.map Ca).any λe=>Do e d)))):=rfl
theorem e_isNF{d:Ac}{m m':Md}{P:DV->Prop}:Vt false (.dat m d) (.dat m' .none) P=(P (.dat .ow (.bool (isNone d)))):=rfl
theorem e_isNT{d:Ac}{m m':Md}{P:DV->Prop}:Vt true (.dat m d) (.dat m' .none) P=(P (.dat .ow (.bool (!isNone d)))):=rfl
theorem e_ixl{ds:List Ac}{i:Int}{m m':Md}{P:DV->Prop}:pS (.dat m (.list ds)) (.dat m' (.int i)) P=(∃d,Rj ds i=some d/\P (.dat (Mn m) d)):=rfl
theorem e_ixt{ds:List Ac}{i:Int}{m m':Md}{P:DV->Prop}:pS (.dat m (.tuple ds)) (.dat m' (.int i)) P=(∃d,Rj ds i=some d/\P (.dat (Mn m) d)):=rfl
theorem e_ixt_w1{nds:List Int}{ds:List Ac}{i:Int}{m m':Md}{P:DV->Prop}:pS (.dat m (Bd nds)) (.dat m' (.int i)) P=(∃d,Rj (nds.map Ca) i=some d/\P (.dat (Mn m) d)):=rfl
theorem e_cat{ds es:List Ac}{m m':Md}{P:DV->Prop}:lH (.dat m (.list ds)) (.dat m' (.list es)) P=(Dy ds=true/\Dy es=true/\ds.length+es.length<=1000000/\P (.dat .ow (.list (ds++es)))):=rfl
theorem e_catT_w1{nds:List Int}{ds es:List Ac}{m m':Md}{P:DV->Prop}:cI (.dat m (Bd nds)) (.dat m' (.tuple es)) P=(Dy (nds.map Ca)=true/\Dy es=true/\(nds.map Ca).length+es.length<=1000000/\P (.dat .ow (.tuple ((nds.map Ca)++es)))):=rfl
theorem e_nlT{m:Md}{ds:List Ac}{P:DV->Prop}:Yj true m ds P=(Dy ds=true/\P (.dat .ow (.list ds))):=rfl
theorem e_ntT{m:Md}{ds:List Ac}{P:DV->Prop}:Yd true m ds P=(Dy ds=true/\P (.dat .ow (.tuple ds))):=rfl
theorem e_ntF{m:Md}{ds:List Ac}{P:DV->Prop}:Yd false m ds P=(P (.dat (Mn m) (.tuple ds))):=rfl
theorem e_pkOfsh  : eR .sh=(Md.sh):=rfl
theorem e_pkOfow  : eR .ow=(Md.pk):=rfl
theorem e_mdInsh  : Mn .sh=(Md.sh):=rfl
theorem e_mdInow  : Mn .ow=(Md.ow):=rfl
theorem e_mdItsh  : Kn .sh=(Md.sh):=rfl
theorem e_mdItow  : Kn .ow=(Md.sh):=rfl
theorem e_nil{δ:DS}{P:List DV->DS->Prop}:F8 δ P=(P [] δ):=rfl
theorem e_cons{de:DE}{da:DA}{δ:DS}{P:List DV->DS->Prop}:i4 de da δ P=(de δ λx δ1=>da δ1 λxs δ2=>P (x::xs) δ2):=rfl
theorem e_tup{da:DA}{δ:DS}{P:DV->DS->Prop}:T9 da δ P=(da δ λxs δ'=>tupB xs δ' P):=rfl
theorem e_lst{da:DA}{δ:DS}{P:DV->DS->Prop}:S9 da δ P=(da δ λxs δ'=>lstB xs δ' P):=rfl
theorem e_noPart{δ:DS}{P:Option Int->DS->Prop}:mF δ P=(P none δ):=rfl
theorem e_part{de:DE}{δ:DS}{P:Option Int->DS->Prop}:j9 de δ P=(de δ λx δ'=>u6 x δ' P):=rfl
theorem e_partB{m:Md}{i:Int}{δ:DS}{P:Option Int->DS->Prop}:u6 (.dat m (.int i)) δ P=(P (some i) δ):=rfl
theorem e_sl{i:Bool}{de:DE}{dl dh:DO}{δ:DS}{P:DV->DS->Prop}:BP i de dl dh δ P=(de δ λx δ1=>dl δ1 λl δ2=>dh δ2 λh δ3=>CB i x l h δ3 P):=rfl
theorem e_slBt{i:Bool}{m:Md}{ds:List Ac}{l h:Option Int}{δ:DS}{P:DV->DS->Prop}:CB i (.dat m (.tuple ds)) l h δ P=(Yd i m (Nr ds l h) λz=>P z δ):=rfl
theorem e_cb{rd:DC}{da:DA}{δ:DS}{P:DV->DS->Prop}:Z1 rd da δ P=(da δ λxs δ1=>rd xs λz=>P z δ1):=rfl
theorem e_lenl{ds:List Ac}{m m':Md}{P:DV->Prop}:eO [.dat m (.list ds)] P=(P (.dat .ow (.int ds.length))):=rfl
theorem e_lent{ds:List Ac}{m m':Md}{P:DV->Prop}:eO [.dat m (.tuple ds)] P=(P (.dat .ow (.int ds.length))):=rfl
theorem e_lent_w1{nds:List Int}{ds:List Ac}{m m':Md}{P:DV->Prop}:eO [.dat m (Bd nds)] P=(P (.dat .ow (.int (nds.map Ca).length))):=rfl
theorem e_listl{i:Bool}{ds:List Ac}{m m':Md}{P:DV->Prop}:kF i [.dat m (.list ds)] P=(Yj i m ds P):=rfl
theorem e_tuplel{i:Bool}{ds:List Ac}{m m':Md}{P:DV->Prop}:cE i [.dat m (.list ds)] P=(Yd i m ds P):=rfl
theorem e_intb{i:Bool}{m m':Md}{P:DV->Prop}:vI [.dat m (.bool i)] P=(P (.dat .ow (.int (if i=true then 1 else 0)))):=rfl
theorem e_min2{i j:Int}{m m':Md}{P:DV->Prop}:jM [.dat m (.int i),.dat m' (.int j)] P=(P (.dat .ow (.int (if j<i then j else i)))):=rfl
theorem e_isi{d:Ac}{n:String}{m m':Md}{P:DV->Prop}:vE [.dat m d,.val (.ty n)] P=((n = "int" \/ n = "bool" \/ n = "str" \/ n = "list" \/ n = "tuple")/\P (.dat .ow (.bool (Up d n)))):=rfl
theorem e_v{v:V}{δ:DS}{P:DV->DS->Prop}:dV v δ P=(P (.val v) δ):=rfl
theorem e_b{de:DE}{δ:DS}{P:Bool->DS->Prop}:dB de δ P=(de δ λx δ'=>bB x δ' P):=rfl
theorem e_bB{m:Md}{b:Bool}{δ:DS}{P:Bool->DS->Prop}:bB (.dat m (.bool b)) δ P=(P b δ):=rfl
theorem e_notT{dt:DT}{δ:DS}{P:Bool->DS->Prop}:r0 dt δ P=(dt δ λb δ'=>P (!b) δ'):=rfl
theorem e_andT{dt du:DT}{δ:DS}{P:Bool->DS->Prop}:e8 dt du δ P=(dt δ λb δ'=>x3 du b δ' P):=rfl
theorem e_orT{dt du:DT}{δ:DS}{P:Bool->DS->Prop}:P9 dt du δ P=(dt δ λb δ'=>Y9 du b δ' P):=rfl
theorem e_orTf{du:DT}{δ:DS}{P:Bool->DS->Prop}:Y9 du false δ P=(du δ P):=rfl
theorem e_and{da db:DE}{δ:DS}{P:DV->DS->Prop}:R8 da db δ P=(da δ λx δ'=>P7 db x δ' P):=rfl
theorem e_andt{db:DE}{m:Md}{δ:DS}{P:DV->DS->Prop}:P7 db (.dat m (.bool true)) δ P=(db δ P):=rfl
theorem e_neg{de:DE}{δ:DS}{P:DV->DS->Prop}:R7 de δ P=(de δ λx δ'=>Q0 x δ' P):=rfl
theorem e_negB{m:Md}{i:Int}{δ:DS}{P:DV->DS->Prop}:Q0 (.dat m (.int i)) δ P=(P (.dat .ow (.int (-i))) δ):=rfl
theorem e_dL{de:DE}{δ:DS}{P:Md->List Ac->DS->Prop}:dL de δ P=(de δ λx δ'=>lB x δ' P):=rfl
theorem e_dTp{de:DE}{δ:DS}{P:Md->List Ac->DS->Prop}:BX de δ P=(de δ λx δ'=>BV x δ' P):=rfl
theorem e_lB{m:Md}{ds:List Ac}{δ:DS}{P:Md->List Ac->DS->Prop}:lB (.dat m (.list ds)) δ P=(P (Kn m) ds δ):=rfl
theorem e_tpB_w1{nds:List Int}{m:Md}{ds:List Ac}{δ:DS}{P:Md->List Ac->DS->Prop}:BV (.dat m (Bd nds)) δ P=(P (Kn m) (nds.map Ca) δ):=rfl
theorem e_range1{da:DA}{δ:DS}{P:Md->List Ac->DS->Prop}:gZ da δ P=(da δ λxs δ'=>j6 xs δ' P):=rfl
theorem e_rng1B{m:Md}{j:Int}{δ:DS}{P:Md->List Ac->DS->Prop}:j6 [.dat m (.int j)] δ P=(-1000000<=j/\j<=1000000/\P .sh ((Bp j.toNat).map λi:Nat=>.int i) δ):=rfl
theorem e_enum{da:DA}{δ:DS}{P:Md->List Ac->DS->Prop}:tR da δ P=(da δ λxs δ'=>j7 xs δ' P):=rfl
theorem e_enumB{m:Md}{ds:List Ac}{δ:DS}{P:Md->List Ac->DS->Prop}:j7 [.dat m (.list ds)] δ P=(P (Kn m) (ds.zipIdx.map λp=>.tuple [.int p.2,p.1]) δ):=rfl
theorem e_for{di:DI}{dg:DG}{db:DB}{D:DEnds}{δ:DS}:O8 di dg db D δ=(di δ (O7 dg db D)):=rfl
theorem e_comp{di:DI}{js:List Nat}{dc:DT}{de:DE}{δ:DS}{P:DV->DS->Prop}:uV di js dc de δ P=(di δ (uN js dc de P)):=rfl
theorem e_noTest{δ:DS}{P:Bool->DS->Prop}:cQ δ P=(P true δ):=rfl
theorem e_step{dc:DT}{de:DE}{δ:DS}{yes:Ac->Nat->Prop}{no:Nat->Prop}:Sy dc de δ yes no=(dc δ λb δ2=>lX de yes no b δ2):=rfl
theorem e_stepT{de:DE}{δ:DS}{yes:Ac->Nat->Prop}{no:Nat->Prop}:lX de yes no true δ=(de δ λy δ3=>zA yes y δ3):=rfl
theorem e_stepF{de:DE}{δ:DS}{yes:Ac->Nat->Prop}{no:Nat->Prop}:lX de yes no false δ=(no δ.n):=rfl
theorem e_yesB{m:Md}{e:Ac}{δ:DS}{yes:Ac->Nat->Prop}:zA yes (.dat m e) δ=(imm e=true/\yes e δ.n):=rfl
theorem e_call{pf:PF}{da:DA}{δ:DS}{P:DV->DS->Prop}:rK pf da δ P=(da δ λxs δ1=>callB pf xs δ1 P):=rfl
theorem e_callW{i:Nat}{df:DF}{da:DA}{δ:DS}{P:DV->DS->Prop}:jT i df da δ P=(match δ.sl[i]? with | some .drw=>da δ λxs δ1=>callBW i df xs δ1 P | _=>False):=rfl
theorem e_draws{da:DA}{δ:DS}{P:DV->DS->Prop}:uJ da δ P=(da δ λxs δ1=>rF xs δ1 P):=rfl
theorem e_drawsB{m:Md}{i:Int}{δ:DS}{P:DV->DS->Prop}:rF [.dat m (.int i)] δ P=(P .drw δ):=rfl
theorem e_append{i:Nat}{de:DE}{D:DEnds}{δ:DS}:bW i de D δ=(match δ.sl[i]? with | some (.dat _ (.list _))=>de δ λy δ1=>appB i y δ1 D | _=>False):=rfl
theorem e_aug{i:Nat}{rd:D2}{de:DE}{D:DEnds}{δ:DS}:xD i rd de D δ=(match δ.sl[i]? with | some (.dat _ (.int a))=>de δ λy δ1=>rd (.dat .ow (.int a)) y λz=>R3 i z δ1 D | _=>False):=rfl
theorem e_augB{i:Nat}{m:Md}{d:Ac}{D:DEnds}{δ:DS}:R3 i (.dat m d) δ D=(imm d=true/\D.nx ⟨δ.sl.set i (.dat .sh d),δ.n⟩):=rfl
theorem e_scrSl{i:Nat}{dl dh:DO}{δ:DS}{P:DV->DS->Prop}:iY i dl dh δ P=(match δ.sl[i]? with | some (.scr ns)=>dl δ λl δ2=>dh δ2 λh δ3=>P (.dat .ow (.list ((Nr ns l h).map Ca))) δ3 | _=>False):=rfl
theorem e_dnew{δ:DS}{P:DV->DS->Prop}:j5 δ P=(P (.dat .ow (.dict (Vm []))) δ):=rfl
theorem e_dput{i:Nat}{dk de:DE}{D:DEnds}{δ:DS}:p7 i dk de D δ=(de δ λy δ1=>isDct δ1.sl[i]? = true/\dk δ1 λz δ2=>dputB i y z δ2 D):=rfl
theorem e_tagD{ks:List (List Int×Ac)}:zU (Vm ks)=(true):=rfl
theorem e_callA{pf:PF}{da:DA}{δ:DS}{P:DV->DS->Prop}:uI pf da δ P=(da δ λxs δ1=>noPk xs=true/\callAB pf xs δ1 P):=rfl
theorem e_tr{de:DE}{δ:DS}{P:DV->DS->Prop}:CD de δ P=(de δ λx δ1=>Y1 x δ1 P):=rfl
theorem e_trB{m:Md}{j:Int}{δ:DS}{P:DV->DS->Prop}:Y1 (.dat m (.int j)) δ P=(0<=j/\j<=1000/\P (.dat .ow (Bd (Ru j.toNat))) δ):=rfl
section
variable{t u:DB}{D:DEnds}{δ δ1:DS}
theorem Zy{α:Type}{dg:DG}{db:DB}{ds:List Ac}{l:List α}{g:α->Ac}(e:ds=l.map g)(I:Nat->DS->Prop)(h0:I 0 δ1)(hs:∀i a δ',l[i]? = some a->I i δ'->dg (.dat .sh (g a)) δ' λδ2=>db { D with nx:=I (i+1),ct:=I (i+1),bk:=D.nx } δ2)(hf:∀δ',I l.length δ'->D.nx δ'):O7 dg db D .sh ds δ1:=by
 subst e
 refine ⟨rfl,I,h0,λi d δ' hd hI=>?_,λδ' h=>hf δ' (by rw[Ad] at h; exact h)⟩
 rw[Bt] at hd
 cases q:l[i]? with
 | none=>rw[q] at hd; cases hd
 | some a=>rw[q] at hd; cases hd; exact hs i a δ' q hI
end
section
variable{js:List Nat}{dc:DT}{de:DE}{P:DV->DS->Prop}{m:Md}{ds:List Ac}{δ1:DS}{α:Type}
theorem Tf{l:List α}{g:α->Ac}(e:ds=l.map g)(p:α->Bool)(f:α->Ac)(h:∀a∈l,∀(yes:Ac->Nat->Prop) (no:Nat->Prop),(p a=true->yes (f a) δ1.n)->(p a=false->no δ1.n)->Sy dc de ⟨.dat m (g a)::frD δ1.sl js,δ1.n⟩ yes no)(q:P (.dat .ow (.list ((l.filter p).map f))) δ1):uN js dc de P m ds δ1:=by
 subst e
 refine ⟨λi acc n=>n=δ1.n/\acc=((l.take i).filter p).map f,⟨rfl,by simp⟩,λi d acc n hd ⟨hn,ha⟩=>?_,λacc n ⟨hn,ha⟩=>?_⟩
 ·subst hn ha
  rw[Bt] at hd
  cases q:l[i]? with
  | none=>rw[q] at hd; cases hd
  | some a =>
   rw[q] at hd
   cases hd
   refine h a (Bc q) _ _ (λhp=>⟨rfl,?_⟩) (λhp=>⟨rfl,?_⟩)
   ·rw[aV q,List.filter_append,Cb]; simp [hp]
   ·rw[aV q,List.filter_append,Cb]; simp [hp]
 ·subst hn ha
  rw[Ad,Ln]
  exact q
theorem i9{l:List α}{g:α->Ac}(e:ds=l.map g)(f:α->Ac)(h:∀a∈l,∀(yes:Ac->Nat->Prop) (no:Nat->Prop),yes (f a) δ1.n->Sy dc de ⟨.dat m (g a)::frD δ1.sl js,δ1.n⟩ yes no)(q:P (.dat .ow (.list (l.map f))) δ1):uN js dc de P m ds δ1:=by
 refine Tf e (λ_=>true) f (λa ha yes no hy _=>h a ha yes no (hy rfl)) ?_
 rw[List.filter_eq_self.mpr λ_ _=>rfl]
 exact q
end
theorem Ti{t u:DB}{D:DEnds}{b:Bool}{δ:DS}(h1:b=true->t D δ)(h2:b=false->u D δ):N7 t u D b δ:=by
 cases b with
 | true=>exact h1 rfl
 | false=>exact h2 rfl
theorem J0{du:DT}{b:Bool}{δ:DS}{P:Bool->DS->Prop}(h1:b=true->du δ P)(h2:b=false->P false δ):x3 du b δ P:=by
 cases b with
 | true=>exact h1 rfl
 | false=>exact h2 rfl
theorem sL{du:DT}{b:Bool}{δ:DS}{P:Bool->DS->Prop}(h1:b=true->P true δ)(h2:b=false->du δ P):Y9 du b δ P:=by
 cases b with
 | true=>exact h1 rfl
 | false=>exact h2 rfl
theorem Tq{de:DE}{yes:Ac->Nat->Prop}{no:Nat->Prop}{b:Bool}{δ:DS}(h1:b=true->de δ λy δ3=>zA yes y δ3)(h2:b=false->no δ.n):lX de yes no b δ:=by
 cases b with
 | true=>exact h1 rfl
 | false=>exact h2 rfl
class Im (d:Ac):Prop where
 h:imm d=true
class ImA (ds:List Ac):Prop where
 h:Dy ds=true
theorem CI{ds:List Ac}[h:ImA ds]:Dy ds=true:=h.h
instance {i:Int}:Im (.int i):=⟨by simp [imm]⟩
instance {i:Bool}:Im (.bool i):=⟨by simp [imm]⟩
instance {i:Str}:Im (.str i):=⟨by simp [imm]⟩
instance:Im .none:=⟨by simp [imm]⟩
instance {ds:List Ac} [h:ImA ds]:Im (.tuple ds):=⟨by rw[imm]; exact h.h⟩
instance {ns:List Int}:Im (Bd ns):=⟨vQ ns⟩
instance:ImA []:=⟨by simp [Dy]⟩
instance {d:Ac} {ds:List Ac} [h:Im d] [t:ImA ds]:ImA (d::ds):=⟨by rw[Dy,h.h,t.h]; rfl⟩
instance {α:Type} {f:α->Ac} {l:List α} [h:∀a,Im (f a)]:ImA (l.map f):=⟨Rr (λa=>(h a).h) l⟩
instance {a b:List Ac} [h:ImA a] [k:ImA b]:ImA (a++b):=⟨by rw[Ye,h.h,k.h]; rfl⟩
class Dp (d:Ac) (k:outParam Nat):Prop where
 h:d.depth<=k
class DpA (ds:List Ac) (k:outParam Nat):Prop where
 h:Bi ds<=k
theorem dp{d:Ac}{k:Nat}[h:Dp d k](hk:k<=60:=by decide):d.depth<=60:=Cg h.h hk
instance {i:Int}:Dp (.int i) 0:=⟨by simp [Dd]⟩
instance {i:Bool}:Dp (.bool i) 0:=⟨by simp [Dd]⟩
instance {i:Str}:Dp (.str i) 0:=⟨by simp [Dd]⟩
instance:Dp .none 0:=⟨by simp [Dd]⟩
instance {ds:List Ac} {k:Nat} [h:DpA ds k]:Dp (.tuple ds) (k+1):=⟨by have:=h.h; simp only[Dd]; omega⟩
instance {ds:List Ac} {k:Nat} [h:DpA ds k]:Dp (.list ds) (k+1):=⟨by have:=h.h; simp only[Dd]; omega⟩
instance {ns:List Int}:Dp (Bd ns) 1:=⟨kR ns⟩
instance:DpA [] 0:=⟨by simp [Bi]⟩
instance {d:Ac} {ds:List Ac} {k j:Nat} [h:Dp d k] [t:DpA ds j]:DpA (d::ds) (k+j):=⟨by have:=h.h; have:=t.h; simp only[Bi]; omega⟩
instance {α:Type} {f:α->Ac} {l:List α} {k:Nat} [h:∀a,Dp (f a) k]:DpA (l.map f) k:=⟨Vj λx hx=>by
 obtain ⟨a,_,rfl⟩:=Cc.mp hx
 exact (h a).h⟩
theorem cU{a b:List Ac}:Bi (a++b)<=Bi a+Bi b:=by
 induction a with
 | nil=>simp [Bi]
 | cons x a ih=>simp only[Jm,Bi]; omega
instance {a b:List Ac} {k j:Nat} [h:DpA a k] [t:DpA b j]:DpA (a++b) (k+j):=⟨by have:=h.h; have:=t.h; have:=cU (a:=a) (b:=b); omega⟩
theorem eqD_bl(i j:Bool):Do (.bool i) (.bool j)=(i == j):=by simp [Do]
theorem eqD_str(i j:Str):Do (.str i) (.str j)=(i == j):=by simp [Do]
theorem tZ(a b:List Ac):Do (.list a) (.list b)=Mp a b:=by simp [Do]
theorem wL(a b:List Ac):Do (.tuple a) (.tuple b)=Mp a b:=by simp [Do]
theorem Yc{α:Type}[DecidableEq α]{f:α->Ac}(h:∀a b,Do (f a) (f b)=decide (a=b)):∀l m:List α,Mp (l.map f) (m.map f)=decide (l=m)
 | [],[]=>by simp [Mp]
 | [],_::_=>by simp [Mp]
 | _::_,[]=>by simp [Mp]
 | a::l,b::m=>by simp [Mp,h,Yc h l m]
theorem eqD_intd(i j:Int):Do (.int i) (.int j)=decide (i=j):=by simp [Do]; rfl
theorem eqD_word(a b:List Int):Do (Bd a) (Bd b)=decide (a=b):=by
 unfold Bd
 rw[wL,Yc eqD_intd]
def dH(ws:List (List Int)):Ac:=.list (ws.map Bd)
instance {ws:List (List Int)}:Dp (dH ws) 2:=⟨(inferInstance:Dp (.list (ws.map Bd)) 2).h⟩
theorem qH(a b:List (List Int)):Do (dH a) (dH b)=decide (a=b):=by
 unfold dH
 rw[tZ,Yc eqD_word]
def Q8(ns:List Int):Ac:=.list (ns.map Ca)
instance {ns:List Int}:Dp (Q8 ns) 1:=⟨(inferInstance:Dp (.list (ns.map Ca)) 1).h⟩
theorem any_int(ns:List Int)(i:Int):((ns.map Ca).any λe=>Do e (.int i))=decide (i∈ns):=by
 rw[Wn]
 induction ns with
 | nil=>rfl
 | cons n ns ih =>
  rw[Ka,ih]
  simp only[Ro,eqD_intd,An]
  by_cases h:n=i
  ·subst h; simp
  ·have : ¬ i=n:=λz=>h z.symm
   simp [h,this]
theorem any_map{α:Type}[DecidableEq α]{f:α->Ac}(h:∀a b,Do (f a) (f b)=decide (a=b))(l:List α)(a:α):((l.map f).any λe=>Do e (f a))=decide (a∈l):=by
 rw[Wn]
 induction l with
 | nil=>rfl
 | cons n ns ih =>
  rw[Ka,ih]
  simp only[Ro,h,An]
  by_cases h:n=a
  ·subst h; simp
  ·have : ¬ a=n:=λz=>h z.symm
   simp [h,this]
theorem any_word(ws:List (List Int))(a:List Int):((ws.map Bd).any λe=>Do e (Bd a))=decide (a∈ws):=(any_map eqD_word ws a).trans (decide_eq_decide.mpr Iff.rfl)
theorem xI{α β:Type}(f:α->β)(l:List α):(l.map f).zipIdx=l.zipIdx.map λp=>(f p.1,p.2):=by
 rw[List.zipIdx_map]
 rfl
theorem mV{α β:Type}(f:α->β)(l:List α)(i:Int):Rj (l.map f) i=(Rj l i).map f:=by
 unfold Rj
 rw[Ad]
 cases pI l.length i with
 | none=>rfl
 | some j=>simp
theorem gS{α:Type}{l:List α}{i:Int}(h0:0<=i)(h1:i<l.length):∃a,l[i.toNat]? = some a/\Rj l i=some a/\a∈l:=by
 have hk:i.toNat<l.length:=by omega
 refine ⟨l[i.toNat],by simp [hk],?_,Hq hk⟩
 have q:Rj l ((i.toNat:Nat):Int)=some l[i.toNat]:=cP (by simp [hk])
 rwa [show ((i.toNat:Nat):Int)=i by omega] at q
theorem im_e{d:Ac}[h:Im d]:(imm d=true)=True:=eq_true h.h
theorem ima_e{ds:List Ac}[h:ImA ds]:(Dy ds=true)=True:=eq_true h.h
theorem dp_e{d:Ac}{k:Nat}[h:Dp d k](hk:k<=60):(d.depth<=60)=True:=eq_true (Cg h.h hk)
theorem dpa_e{ds:List Ac}{k:Nat}[h:DpA ds k](hk:k<=60):(Bi ds<=60)=True:=eq_true (Cg h.h hk)
theorem eqD_lw(a b:List (List Int)):Do (.list (a.map Bd)) (.list (b.map Bd))=decide (a=b):=qH a b
theorem eqD_l0(a:List Ac):Do (.list a) (.list [])=a.isEmpty:=yW a
theorem ow_e{d:Ac}{R:Ac->Prop}:(∃e,DV.dat .ow d=.dat .ow e/\R e)=R d:=by
 apply propext
 constructor
 ·(intro q_; obtain ⟨e,h,r⟩ := q_); cases h; exact r
 ·intro r; exact ⟨d,rfl,r⟩
theorem tt_e{m:Md}{b:Bool}:(∃m',DV.dat m (.bool b)=.dat m' (.bool true))=(b=true):=by
 apply propext
 constructor
 ·rintro ⟨e,h⟩; cases h; rfl
 ·intro r; subst r; exact ⟨m,rfl⟩
theorem cdiv_e{i j:Int}:N0 i j=(0<j/\j<1073741824):=rfl
theorem nA{sl sl':List DV}{n n':Nat}(h:sl=sl')(h':n=n'):(⟨sl,n⟩ : DS)=⟨sl',n'⟩:=by subst h h'; rfl
theorem Za{j i a:Nat}(h:(Bp j)[i]? = some a):a=i/\i<j:=by
 obtain ⟨h1,h2⟩:=Ak.mp h
 rw[Dg] at h1
 rw[List.getElem_range] at h2
 exact ⟨h2.symm,h1⟩
def NP(v:DV):Prop:=∀l,npk (v::l)=npk l
theorem Hz:NP .un:=λ_=>rfl
theorem Ia{d:Ac}:NP (.dat .sh d):=λ_=>rfl
theorem sH{d:Ac}:NP (.dat .ow d):=λ_=>rfl
theorem E5:NP .drw:=λ_=>rfl
theorem u7{t u:DB}{D:DEnds}(X:(Bool->DS->Prop)->Prop)(J:DS->Prop)(h:∀N:DS->Prop,(∀δ',J δ'->N δ')->X (N7 t u { D with nx:=N }))(k:∀δ',J δ'->D.nx δ'):X (N7 t u D):=h D.nx k
theorem X3{α:Type}(x y:α)(b:Bool):Rj [x,y] (if b=true then 1 else 0)=some (if b=true then y else x):=by cases b <;> rfl
theorem fold_w(w:List Int):PyData.tuple (List.map Ca w)=Bd w:=rfl
theorem isi_li(ds:List Ac):Up (.list ds) "list" = true:=by simp [Up,yX]
theorem isi_tt(ds:List Ac):Up (.tuple ds) "tuple" = true:=by simp [Up,yX]
theorem isi_ib(i:Int):Up (.int i) "bool" = false:=by simp [Up,yX]
theorem isi_ii(i:Int):Up (.int i) "int" = true:=by simp [Up,yX]
theorem isi_wt(w:List Int):Up (Bd w) "tuple" = true:=isi_tt _
theorem oV{ws:List (List Int)}{i:Int}(h0:0<=i)(h1:i<ws.length):∃w∈ws,Rj (ws.map Bd) i=some (Bd w):=by
 obtain ⟨w,_,e2,e3⟩:=gS (l:=ws) h0 h1
 exact ⟨w,e3,by rw[mV,e2]; rfl⟩
theorem W3{ns:List Int}(k:Nat):(Nr ns none (some (k:Int))).length<=k:=by
 rw[oF,Da]
 exact Nat.min_le_left _ _
theorem ifB_lt{t u:DB}{D:DEnds}{δ:DS}:N7 t u D true δ=t D δ:=rfl
theorem ifB_lf{t u:DB}{D:DEnds}{δ:DS}:N7 t u D false δ=u D δ:=rfl
theorem str_self(s:Str):(s == s)=true:=by simp
theorem rJ{α:Type}{l:List α}{i:Nat}{a:α}(h:l[i]? = some a):Rj l (i:Int)=some a:=by
 obtain ⟨b,e1,e2,_⟩:=gS (l:=l) (i:=(i:Int)) (by omega) (by have:=(Ak.mp h).1; omega)
 rw[e2,<- e1,<- h]; rfl
theorem iM{α:Type}{l:List α}(h:l≠[]):∃a∈l,Rj l (-1)=some a/\l.getLast? = some a:=by
 have hp:=qM.mpr h
 refine ⟨l[l.length - 1],Hq _,?_,?_⟩
 ·unfold Rj pI
  rw[if_neg (by decide),if_pos (by omega),show ((-1:Int)+l.length).toNat=l.length - 1 by omega]
  simp [hp]
 ·rw[List.getLast?_eq_getElem?]; simp [hp]
theorem atI_0{α:Type}(x:α)(l:List α):Rj (x::l) 0=some x:=rJ (i:=0) rfl
theorem atI_1{α:Type}(x y:α)(l:List α):Rj (x::y::l) 1=some y:=rJ (i:=1) rfl
theorem atI_2{α:Type}(x y z:α)(l:List α):Rj (x::y::z::l) 2=some z:=rJ (i:=2) rfl
theorem some_e{α:Type}{a:α}{R:α->Prop}:(∃d,some a=some d/\R d)=R a:=propext ⟨λ⟨_,e,h⟩=>by cases e; exact h,λh=>⟨a,rfl,h⟩⟩
theorem dec_self{α:Type}(a:α)[h:Decidable (a=a)]:decide (a=a)=true:=by simp
theorem isE_cons{α:Type}(a:α)(l:List α):(a::l).isEmpty=false:=rfl
theorem st_same_places:(Lc "same" == Lc "places")=false:=by decide +kernel
theorem Y3{a:Addr}{ks:List (List Int×Ac)}{w:List Int}{m m':Md}{P:DV->Prop}:yH (.dat m (.dict (E7 a ks))) (.dat m' (Bd w)) P=∃d,Rv ks w=some d/\P (.dat .ow d):=propext ⟨λ⟨a',ks',w',d,e1,e2,h⟩=>by obtain ⟨_,rfl⟩:=xH e1; cases Nu e2; exact ⟨d,h⟩,λ⟨d,h⟩=>⟨a,ks,w,d,rfl,rfl,h⟩⟩
theorem dk_e{ks:List (List Int×Ac)}{w:List Int}{Q:List (List Int×Ac)->List Int->Prop}:(∃ks' w',Vm ks=Vm ks'/\Bd w=Bd w'/\Q ks' w')=Q ks w:=propext ⟨λ⟨ks',w',e1,e2,h⟩=>by cases Qt e1; cases Nu e2; exact h,λh=>⟨ks,w,rfl,rfl,h⟩⟩
theorem dget_e{ks:List (List Int×Ac)}{w:List Int}{m m':Md}{P:DV->Prop}:cS (.dat m (.dict (Vm ks))) (.dat m' (Bd w)) P=∃d,Rv ks w=some d/\P (.dat .ow d):=propext ⟨λ⟨ks',w',d,e1,e2,h⟩=>by cases Qt e1; cases Nu e2; exact ⟨d,h⟩,λ⟨d,h⟩=>⟨ks,w,d,rfl,rfl,h⟩⟩
theorem dinF_e{ks:List (List Int×Ac)}{w:List Int}{m m':Md}{P:DV->Prop}:mY false (.dat m' (Bd w)) (.dat m (.dict (Vm ks))) P=P (.dat .ow (.bool (Rv ks w).isSome)):=propext ⟨λ⟨ks',w',e1,e2,h⟩=>by cases Qt e1; cases Nu e2; exact h,λh=>⟨ks,w,rfl,rfl,h⟩⟩
theorem retA_sh{d:Ac}{R:Ac->Prop}:(∃m d',DV.dat .sh d=.dat m d'/\m≠.pk/\R d')=R d:=propext ⟨λ⟨m,d',e,_,h⟩=>by cases e; exact h,λh=>⟨_,_,rfl,by decide,h⟩⟩
end DL
namespace K56
open PySem L2 Nd DL
def top(i:Nat):Stmt:=PySem.Challenge.pw_needledeck_k56_fewest_places.main.body.getD i (.Pass ⟨0,0,0,0⟩)
abbrev Xe:Stmt:=top 4
abbrev Vb:Stmt:=top 5
abbrev Os:Stmt:=top 6
abbrev Ly:Stmt:=top 8
abbrev Rz:Stmt:=top 9
abbrev Ll:Stmt:=top 10
abbrev dN:Stmt:=top 12
abbrev mO:Stmt:=top 13
abbrev Ol:Stmt:=top 14
abbrev Qi:Stmt:=top 15
abbrev Ng:Stmt:=top 16
abbrev Rw:Stmt:=top 17
abbrev La:Stmt:=top 18
abbrev Kz:Stmt:=top 19
abbrev Kk:Stmt:=top 20
abbrev My:Stmt:=top 21
abbrev Ko:Stmt:=top 22
abbrev bY:Stmt:=top 23
section
variable{P:Be}{w:World}{K:PySem.W.Frag}{mg:Str->Option Value}{base:Heap}
theorem CJ:FnScope ["_law_cell"] ["_law_cell"] (By dN):=⟨rfl,rfl,rfl,by decide +kernel,rfl,by decide +kernel,by decide +kernel⟩
theorem rG{f:Addr}{fd:Cv}(F:Fun K "_law_draws" "_law_draws" dN f fd):FnOk P w K mg base Jb 1 f fd ["_law_cell"] So:=by
 refine F.ok CJ (λvs H Q E h=>?_) (λcdv A outer s H vs Q E hr h=>?_)
 ·obtain ⟨c,rfl,_⟩:=h
  rfl
 obtain ⟨c,rfl,q⟩:=h
 refine ⟨_,Kl (sA (lI i8 (pv 0) (Ir cN Es Es) (Ms _)) (Tz (Zc (jR (Hy (Ir Rt (pv 0) (Ir yA (Ir cN Es Es) Es)) (Hy Es (Hy tN Om)))))) dZ)
  (Tz (Zc (jR (Hy (Ir Rt (pv 0) Es) (Hy Es (Hy tN Om)))))),?_⟩
 refine ⟨_,rfl,10,18,rfl,rfl,⟨by decide,by decide,by decide⟩,_,_,rfl,rfl,_,rfl,Q6 (λ_=>?_) (λ_=>?_)⟩
 ·refine ⟨_,rfl,10,60,rfl,rfl,⟨by decide,by decide,by decide⟩,_,16,rfl,rfl,⟨by decide,by show (Builtin.Int.intBits (10 ^ (60:Int).toNat):Int) * 16<=2 ^ 27; decide +kernel⟩,_,_,rfl,rfl,(by show (0:Int)<(10 ^ (60:Int).toNat) ^ (16:Int).toNat; decide +kernel),(by show 3<=Ax; decide),λp hp=>?_⟩
  exact q p _ _ _ hp Du (Ft hp _)
 ·refine ⟨_,rfl,_,_,rfl,rfl,(by show (0:Int)<1000003; decide),(by show 3<=Ax; decide),λp hp=>?_⟩
  exact q p _ _ _ hp Du (Ft hp _)
theorem CS:FnScope ["_law_draws_here", "_law_k", "_law_number"] ["_law_draws_here"] (By mO):=⟨rfl,rfl,rfl,by decide +kernel,rfl,by decide +kernel,by decide +kernel⟩
theorem yQ{f:Addr}{fd:Cv}(F:Fun K "_law_next" "_law_next" mO f fd):FnOk P w K mg base Jb 1 f fd ["_law_draws_here"] tJ:=by
 refine F.ok CS (λvs H Q E h=>?_) (λcdv A outer s H vs Q E hr h=>?_)
 ·obtain ⟨d,c,k,fl,rfl,_⟩:=h
  rfl
 obtain ⟨d,c,k,fl,rfl,hd,h0,h1,q⟩:=h
 refine ⟨_,Kl (qN (Ir Xy (Vp Qm (pv 0) Es (λ_ _=>rfl)) Es) (uT (pv 0) Es iC))
  (Kl (sA (vH (Vp Qm (pv 0) Es (λ_ _=>rfl)))
   (Kl (Ur (i:=2) CS.nd rfl (Di rfl) (Ir Rt (Vp Qm (pv 0) Es (λ_ _=>rfl)) (Ir cN Es Es)))
    (Kl (qN (Ir dS (Vp Qm (pv 0) Es (λ_ _=>rfl)) (Ir cN Es Es)) (uT (pv 0) Es iC))
    (Tz (Zc (pv 2))))) dZ)
  (Kl (Ur (i:=1) CS.nd rfl (Di rfl) (Vp Qm (pv 0) Es (λ_ _=>rfl)))
  (Kl (Ur (i:=2) CS.nd rfl (Di rfl) (Ir Rt (Ir Ul (Ir Xy (Ir Xy (Vp Qm (pv 0) Es (λ_ _=>rfl)) (Ir Ul (Ir Ul (pv 1) (pv 1)) Es)) (pv 1)) Es) Es))
  (Kl (Ur (i:=2) CS.nd rfl (Di rfl) (Ir Rt (Ir Ul (pv 2) (pv 2)) Es))
  (Tz (Zc (Ir dS (Ir Rt (Ir Ul (pv 2) (Ir Xy (pv 2) Es)) Es) Es))))))),?_⟩
 -- draws[1]=draws[1]+1
 refine ⟨_,rfl,d,_,1,_,rfl,rfl,Sn.of hd,rfl,_,_,rfl,rfl,_,rfl,d,_,1,1,rfl,rfl,hd,rfl,?_⟩
 have e1:(upd H d (.lst ([V.int c,V.int k,V.bl fl].set 1 (V.int (k+1))))) d=some (.lst [.int c,.int (k+1),.bl fl]):=Du
 generalize hH1:upd H d (.lst ([V.int c,V.int k,V.bl fl].set 1 (V.int (k+1))))=H1 at e1
 have s1:Vs d H H1:=by rw[<- hH1]; exact Vs.upd
 refine ⟨_,rfl,d,_,2,_,rfl,rfl,Sn.of e1,rfl,_,rfl,?_⟩
 refine Q6 (λ_=>?_) (λ_=>?_)
 ·refine ⟨_,rfl,d,_,0,_,rfl,rfl,Sn.of e1,rfl,10,6,rfl,rfl,⟨by decide,by decide,by decide⟩,_,_,rfl,rfl,(by show (0:Int)<10 ^ (6:Int).toNat; decide),?_⟩
  refine ⟨_,rfl,d,_,0,_,rfl,rfl,Sn.of e1,rfl,10,6,rfl,rfl,⟨by decide,by decide,by decide⟩,_,_,rfl,rfl,⟨by decide,by decide⟩,_,rfl,d,_,0,0,rfl,rfl,e1,rfl,_,rfl,?_⟩
  exact q _ _ _ Du (s1.trans Vs.upd)
 ·refine ⟨_,rfl,d,_,1,_,rfl,rfl,Sn.of e1,rfl,?_⟩
  have b1:=dF ((c+(k+1) * (k+1) * 7919+(k+1)) * 48271) 2147483629 (by decide)
  refine ⟨_,rfl,d,_,0,_,rfl,rfl,Sn.of e1,rfl,_,rfl,_,rfl,_,_,rfl,rfl,.inl ⟨by omega,by omega⟩,_,_,rfl,rfl,.inr ⟨by decide,by decide⟩,_,_,rfl,rfl,_,rfl,_,_,rfl,rfl,
   _,_,rfl,rfl,.inr ⟨by decide,by decide⟩,_,_,rfl,rfl,(by show (0:Int)<2147483629; decide),?_⟩
  generalize ((c+(k+1) * (k+1) * 7919+(k+1)) * 48271) % 2147483629=x at b1
  have b2:=dF (x * x) 2147483587 (by decide)
  refine ⟨_,rfl,_,rfl,_,_,rfl,rfl,.inl ⟨by omega,by omega⟩,_,_,rfl,rfl,(by show (0:Int)<2147483587; decide),?_⟩
  generalize (x * x) % 2147483587=y at b2
  refine ⟨_,rfl,_,rfl,_,_,rfl,rfl,_,_,rfl,rfl,.inl ⟨by omega,by omega⟩,_,_,rfl,rfl,(by show (0:Int)<2147483579; decide),_,_,rfl,rfl,⟨by decide,by decide⟩,?_⟩
  exact q _ _ _ e1 s1
theorem pB{f:Addr}{fd:Cv}(F:Fun K "_law_draws" "_law_draws" dN f fd):FnOk P w K mg base Jb 1 f fd ["_law_cell"] So:=rG F
theorem rO{f:Addr}{fd:Cv}(F:Fun K "_law_next" "_law_next" mO f fd):FnOk P w K mg base Jb 1 f fd ["_law_draws_here"] (nB K Xq):=xR (yQ F)
end
end K56
namespace DL
open PySem L2 Nd
def sub(a b:List Int):Bool:=a.all λi=>decide (i∈b)
def fK(a b:List Int):List Int:=a.filter λi=>decide (i∉b)
theorem w8{h:Int}{a:List Int}(r:Hg h a):a.Nodup:=r.1.imp λ{x y} h=>Int.ne_of_lt h
theorem pX{a:List Int}(nd:a.Nodup)(h:∀x∈a,0<=x/\x<60):a.length<=60:=Cg (NdS.len_leI nd λe he=>nO (h e he).1 (h e he).2) (by decide)
theorem cB(a:Int){b:Int}(h:0<b):0<=a % b/\a % b<b:=dF a b h
end DL
namespace Nd
open PySem L2 Ts
end Nd
namespace Nd
open PySem L2
def ch:Nat->Nat->Nat
 | _,0=>1
 | 0,_+1=>0
 | n+1,k+1=>ch n k+ch n (k+1)
theorem Mz(n:Nat):ch n 0=1:=by cases n <;> rfl
theorem Lb(n k:Nat):ch (n+1) (k+1)=ch n k+ch n (k+1):=rfl
theorem Hd:∀{n k:Nat},n<k->ch n k=0
 | 0,0,h=>absurd h (Hh _)
 | 0,k+1,_=>rfl
 | n+1,0,h=>absurd h (Dr _)
 | n+1,k+1,h=>by rw[Lb,Hd (by omega:n<k),Hd (by omega:n<k+1)]
theorem Ws:∀n:Nat,ch n n=1
 | 0=>rfl
 | n+1=>by rw[Lb,Ws n,Hd (Zp n)]
theorem sV:∀n:Nat,ch n 1=n
 | 0=>rfl
 | n+1=>by rw[Lb,Mz,sV n]; omega
theorem bX:∀n k:Nat,ch n (k+1) * (k+1)=ch n k * (n - k)
 | 0,0=>rfl
 | 0,k+1=>by rw[Hd (by omega:0<k+1+1),Hd (by omega:0<k+1)]; simp
 | n+1,0=>by rw[sV,Mz]; omega
 | n+1,k+1=>by
  have h1:=bX n k
  have h2:=bX n (k+1)
  rw[Lb,Lb n k]
  by_cases hk:n<=k
  ·by_cases hk2:n=k
   ·subst hk2
    rw[Ws,Hd (by omega:n<n+1),Hd (by omega:n<n+1+1)]
    simp
   ·rw[Hd (by omega:n<k+1),Hd (by omega:n<k+1+1),Hd (by omega:n<k)]
    simp
  ·have e1:n - k=n - (k+1)+1:=by omega
   have e2:n+1 - (k+1)=n - (k+1)+1:=by omega
   rw[e1] at h1
   rw[e2]
   generalize n - (k+1)=m at h1 h2
   generalize ch n k=A at *
   generalize ch n (k+1)=B at *
   generalize ch n (k+1+1)=C at *
   -- h1:B * (k+1)=A * (m+1); h2:C * (k+1+1)=B * m
   have : (B+C) * (k+1+1)=B * (k+1)+B+C * (k+1+1):=by
    rw[Nat.add_mul,Nat.mul_add B (k+1) 1,Nat.mul_one]
   rw[this,h1,h2,Nat.add_mul,Nat.mul_add B m 1,Nat.mul_one]
   omega
theorem kD:∀{n k:Nat},k<=n->ch n k=ch n (n - k)
 | 0,k,h=>by
  have : k=0:=by omega
  subst this; rfl
 | n+1,0,_=>by rw[Mz,Wx,Ws]
 | n+1,k+1,h=>by
  by_cases hk:k=n
  ·subst hk; rw[Nat.sub_self,Ws,Mz]
  ·have e:n+1 - (k+1)=(n - (k+1))+1:=by omega
   rw[Lb,e,Lb,kD (by omega:k<=n),kD (by omega:k+1<=n)]
   have e2:n - k=n - (k+1)+1:=by omega
   rw[e2]
   omega
theorem fV:∀n k:Nat,ch n k<=2 ^ n
 | n,0=>by rw[Mz]; exact Nat.one_le_two_pow
 | 0,k+1=>by rw[Hd (by omega)]; exact Ds _
 | n+1,k+1=>by
  have h1:=fV n k
  have h2:=fV n (k+1)
  rw[Lb,Nat.pow_succ]
  omega
theorem sY:∀{n k:Nat},k<=n->0<ch n k
 | n,0,_=>by rw[Mz]; exact Nat.one_pos
 | 0,k+1,h=>absurd h (Nat.not_succ_le_zero _)
 | n+1,k+1,h=>by rw[Lb]; have:=sY (by omega:k<=n); omega
def cw:Nat->Int->Nat->List (List Int)
 | _,_,0=>[[]]
 | 0,_,_+1=>[]
 | d+1,p,m+1=>(cw d (p+1) m).map (p::·)++cw d (p+1) (m+1)
theorem cw_zero (d:Nat) (p:Int):cw d p 0=[[]]:=by cases d <;> rfl
theorem cw_succ (d:Nat) (p:Int) (m:Nat):cw (d+1) p (m+1)=(cw d (p+1) m).map (p::·)++cw d (p+1) (m+1):=rfl
theorem cw_len:∀ (d:Nat) (p:Int) (m:Nat),(cw d p m).length=ch d m
 | d,p,0=>by rw [cw_zero,Mz]; rfl
 | 0,p,m+1=>rfl
 | d+1,p,m+1=>by rw [cw_succ,Bn,Ad,cw_len d (p+1) m,cw_len d (p+1) (m+1),Lb]
def tW(p:Int)(d:Nat)(w:List Int):Prop:=w.Pairwise (· < ·)/\∀x∈w,p<=x/\x<p+d
theorem cw_mem:∀ {d:Nat} {p:Int} {m:Nat} {w:List Int},w∈cw d p m↔w.length=m∧tW p d w
 | d,p,0,w=>by
  rw [cw_zero,Ai]
  constructor
  ·rintro rfl; exact ⟨rfl,Ep,λ_ h=>(nomatch h)⟩
  ·rintro ⟨h,_⟩; exact Zq h
 | 0,p,m+1,w=>by
  constructor
  ·intro h; cases h
  ·(intro q_; obtain ⟨h,_,h2⟩ := q_)
   match w,h with
   | x::w,_=>have:=h2 x Aa; omega
 | d+1,p,m+1,w=>by
  rw [cw_succ,Ay,List.mem_map]
  constructor
  ·rintro (⟨v,hv,rfl⟩ | h)
   ·obtain ⟨h1,h2,h3⟩:=cw_mem.mp hv
    refine ⟨by rw[Ba,h1],Bh.mpr ⟨λx hx=>?_,h2⟩,λx hx=>?_⟩
    ·have:=h3 x hx; omega
    ·rcases An.mp hx with rfl | hx
     ·omega
     ·have:=h3 x hx; omega
   ·obtain ⟨h1,h2,h3⟩:=cw_mem.mp h
    exact ⟨h1,h2,λx hx=>by have:=h3 x hx; omega⟩
  ·(intro q_; obtain ⟨h1,h2,h3⟩ := q_)
   match w,h1 with
   | x::v,h1 =>
    obtain ⟨a1,a2⟩:=Bh.mp h2
    have hx:=h3 x Aa
    by_cases e:x=p
    ·subst e
     refine .inl ⟨v,cw_mem.mpr ⟨by simpa using h1,a2,fun y hy=>?_⟩,rfl⟩
     have:=a1 y hy
     have:=h3 y (Af _ hy)
     omega
    ·refine .inr (cw_mem.mpr ⟨h1,h2,fun y hy=>?_⟩)
     rcases An.mp hy with rfl | hy
     ·omega
     ·have:=a1 y hy
      have:=h3 y (Af _ hy)
      omega
def kJ(top:Int):Nat->List Int->Nat
 | _,[]=>0
 | m,x::w=>ch (top - 1 - x).toNat m+kJ top (m - 1) w
end Nd
namespace DL
open PySem L2 Nd
def pairD(p:Nat×Nat):Ac:=.tuple [.int p.1,.int p.2]
instance {p:Nat×Nat}:Im (pairD p):=⟨(inferInstance:Im (.tuple [.int p.1,.int p.2])).h⟩
instance {p:Nat×Nat}:Dp (pairD p) 1:=⟨(inferInstance:Dp (.tuple [.int p.1,.int p.2]) 1).h⟩
def u0(p:Nat×Nat×List Int):Ac:=.tuple [.int p.1,.int p.2.1,Bd p.2.2]
instance {p:Nat×Nat×List Int}:Im (u0 p):=⟨(inferInstance:Im (.tuple [.int p.1,.int p.2.1,Bd p.2.2])).h⟩
instance {p:Nat×Nat×List Int}:Dp (u0 p) 2:=⟨(inferInstance:Dp (.tuple [.int p.1,.int p.2.1,Bd p.2.2]) 2).h⟩
def Z8(L:List (List Int))(f:List Int->Int):Ac:=.list ((L.map f).map Ca)
instance {L:List (List Int)} {f:List Int->Int}:Dp (Z8 L f) 1:=⟨(inferInstance:Dp (.list ((L.map f).map Ca)) 1).h⟩
def jm(Q w c:List Int):Bool:=sub w c && c.all λi=>decide (i∈w\/i∉Q)
end DL
namespace DL
open PySem PySem.Spec PyProof.Rows L2 Nd
end DL
namespace DRow
open PySem L2 Nd DL
abbrev Cd:=List Int
def Wf(w u:List Int):Bool:=w.all λi=>decide (i∈u)
def G6(n1 n2:List Int)(ps:List (List Int×Bool)):Option Bool:=ps.foldl (λst p=>if Wf p.1 n1=Wf p.1 n2 then st else some (Wf p.1 n1 == !p.2)) none
theorem xX(n1 n2:List Int)(ps:List (List Int×Bool))(p:List Int×Bool):G6 n1 n2 (ps++[p])=if Wf p.1 n1=Wf p.1 n2 then G6 n1 n2 ps else some (Wf p.1 n1 == !p.2):=by
 unfold G6
 rw[List.foldl_append]
 rfl
def Xk(ps:List (List Int×Bool))(n:List Int):List Int:=ps.reverse.map λp=>if Wf p.1 n=p.2 then 1 else 0
theorem aH(ps:List (List Int×Bool))(p:List Int×Bool)(n:List Int):Xk (ps++[p]) n=(if Wf p.1 n=p.2 then 1 else 0)::Xk ps n:=by
 unfold Xk
 rw[List.reverse_append,Cb]
 rfl
theorem qS{α:Type}{P:List α->Prop}(h0:P [])(h1:∀l x,P l->P (l++[x]))(l:List α):P l:=by
 have : ∀m:List α,P m.reverse:=λm=>by
  induction m with
  | nil=>exact h0
  | cons x m ih=>rw[List.reverse_cons]; exact h1 _ _ ih
 have:=this l.reverse
 rwa [List.reverse_reverse] at this
theorem tU(n1 n2:List Int)(ps:List (List Int×Bool)):(G6 n1 n2 ps=none↔Xk ps n1=Xk ps n2)/\(G6 n1 n2 ps=some true↔HT.lexLt (Xk ps n1) (Xk ps n2)=true):=by
 induction ps using qS with
 | h0=>exact ⟨⟨λ_=>rfl,λ_=>rfl⟩,⟨λh=>(by cases h),λh=>(by cases h)⟩⟩
 | h1 l p ih =>
  rw[xX,aH,aH,HT.lexLt_cons]
  by_cases h:Wf p.1 n1=Wf p.1 n2
  ·rw[if_pos h,h,if_pos rfl]
   refine ⟨ih.1.trans ⟨λe=>by rw[e],λe=>(Fi e).2⟩,ih.2⟩
  ·rw[if_neg h]
   cases h1:Wf p.1 n1 <;> cases h2:Wf p.1 n2 <;> cases h3:p.2 <;> rw[h1,h2] at h <;> first | exact absurd rfl h | simp
theorem Re(x y:List Int)(ps:List (List Int×Bool)):G6 x y ps=some false↔(¬ Xk ps x=Xk ps y/\¬ HT.lexLt (Xk ps x) (Xk ps y)=true):=by
 rw[<- (tU x y ps).1,<- (tU x y ps).2]
 cases G6 x y ps with
 | none=>simp
 | some b=>cases b <;> simp
def two(x y:Cd):Cd->Bool:=λr=>decide (r=x) || decide (r=y)
abbrev Ps:=List Int×Bool
def o7(p:Ps):Ac:=.tuple [Bd p.1,.str (uZ p.2)]
instance {p:Ps}:Im (o7 p):=⟨(inferInstance:Im (.tuple [Bd p.1,.str (uZ p.2)])).h⟩
instance {p:Ps}:Dp (o7 p) 2:=⟨(inferInstance:Dp (.tuple [Bd p.1,.str (uZ p.2)]) _).h⟩
instance {α:Type} {f:α->Ac} {l:List α} {lo hi:Option Int} [h:∀a,Im (f a)]:ImA (Nr (l.map f) lo hi):=⟨by rw[fP]; exact CI⟩
def Xm(D:List (List Int))(n:Nat):List (List Int×Ac):=(D.zipIdx n).map λp=>(p.1,Ca p.2)
theorem iA(w:List Int):∀(D:List (List Int)) (n:Nat),Rv (Xm D n) w=if w∈D then some (.int ((n+D.idxOf w:Nat):Int)) else none
 | [],n=>rfl
 | d::D,n=>by
  have ih:=iA w D (n+1)
  have e:Xm (d::D) n=(d,.int n)::Xm D (n+1):=rfl
  rw[e]
  unfold Rv at ih ⊢
  rw[Ih]
  by_cases h:d=w
  ·subst h
   simp [List.idxOf_cons]
  ·have hd:decide (d=w)=false:=by simp [h]
   rw[show (decide ((d,Ca (n:Int)).1=w))=false from hd]
   show (List.find? (λp=>decide (p.1=w)) (Xm D (n+1))).map (·.2)=_
   rw[ih]
   have hw:¬ w=d:=λz=>h z.symm
   by_cases m:w∈D
   ·rw[if_pos m,if_pos (Af _ m),List.idxOf_cons]
    have hb:(d == w)=false:=by simp [h]
    rw[hb]
    simp
    omega
   ·rw[if_neg m,if_neg (by simp [hw,m])]
theorem uO(D:List (List Int))(n:Nat):(Xm D n).length=D.length:=by unfold Xm; simp
theorem vP{D:List (List Int)}{k:List Int}(h:k∉D):oH (Xm D 0) k (.int D.length)=Xm (D++[k]) 0:=by
 unfold oH
 rw[if_neg]
 ·unfold Xm
  rw[List.zipIdx_append,Cb]
  simp
 ·intro z
  obtain ⟨p,hp,e⟩:=List.any_eq_true.mp z
  unfold Xm at hp
  obtain ⟨q,hq,rfl⟩:=Cc.mp hp
  have e':q.1=k:=by simpa using e
  have:=List.fst_mem_of_mem_zipIdx hq
  rw[e'] at this
  exact h this
end DRow
namespace DL
open PySem PySem.Spec PyProof.Rows L2 Nd DRow
end DL
namespace K56
open PySem L2 Nd DL
local macro_rules | `(tactic| array_get_dec) => do
  let ids:=(("e_ssW e_ssWB e_lenSet e_lsB e_seq e_skip e_ret e_if e_asg e_name e_name2 e_name4 e_own e_nF e_gtup e_gsn e_gsc e_op e_var e_c e_imm e_immB e_take e_I e_I0 e_eqF e_eqT e_inTl e_inFt_w1 e_isNF e_isNT e_ixl e_ixt e_ixt_w1 e_cat e_catT_w1 e_nlT e_ntT e_ntF e_pkOfsh e_pkOfow e_mdInsh e_mdInow e_mdItsh e_mdItow e_nil e_cons e_tup e_lst e_noPart e_part e_partB e_sl e_slBt e_cb e_lenl e_lent e_lent_w1 e_listl e_tuplel e_intb e_min2 e_isi e_v e_b e_bB e_notT e_andT e_orT e_orTf e_and e_andt e_neg e_negB e_dL e_dTp e_lB e_tpB_w1 e_range1 e_rng1B e_enum e_enumB e_for e_comp e_noTest e_step e_stepT e_stepF e_yesB e_call e_callW e_draws e_drawsB e_append e_aug e_augB e_scrSl e_dnew e_dput e_tagD e_callA e_tr e_trB callAB retA retA_sh isDct dputB dk_e dget_e dinF_e callB callBW tupB lstB datas pkMd allOw noPk appB own1 npk retE retW retL args0 frD frD1 alD List.map_cons List.map_nil List.replicate List.getElem?_cons_zero List.getElem?_cons_succ List.set_cons_zero List.set_cons_succ List.cons_append List.nil_append Option.map_some List.length_cons List.length_nil List.append_nil rdAdd rdSub rdMul rdDiv rdMod rdLt rdLe rdGt rdGe if_true Nat.reduceAdd Nat.reduceSub Nat.reduceLeDiff true_and im_e ima_e dp_e dpa_e any_int any_word eqD_intd eqD_word eqD_bl eqD_str eqD_lw eqD_l0 ow_e tt_e cdiv_e Int.reduceLT Int.reduceLE Int.reduceNeg and_self Int.reduceToNat fold_w isi_li isi_tt isi_ib isi_ii isi_wt Bool.not_true Bool.not_false decide_true String.reduceEq or_true true_or List.isEmpty_nil ifB_lt ifB_lf str_self Int.cast_ofNat_Int atI_0 atI_1 atI_2 some_e dec_self isE_cons st_same_places" : String).splitOn " ").toArray.map λ(x:String)=>Lean.mkIdent x.toName
  `(tactic| try simp only [$[↓$ids:ident],*])
theorem E2(n i:Nat)(h:i<n):((ch n i:Nat):Int) * ((n:Int) - (i:Int)) / ((i:Int)+1)=((ch n (i+1):Nat):Int):=by
 have e:=bX n i
 have e':((ch n (i+1):Nat):Int) * ((i:Int)+1)=((ch n i:Nat):Int) * ((n:Int) - (i:Int)):=by
  have:=congrArg (λx:Nat=>(x:Int)) e
  simp only[Int.natCast_mul,Int.natCast_add,Int.natCast_one] at this
  rw[Int.ofNat_sub (by omega)] at this
  exact this
 rw[<- e',Int.mul_ediv_cancel _ (by omega)]
def p9(i:Nat)(δ:DS):Nat:=match δ.sl[i]? with
 | some (.dat _ (.int p))=>p.toNat
 | _=>0
def Zf:PF:=λds R=>∃n k:Int,ds=[.int n,.int k]/\0<=n/\n<=60/\0<=k/\R (.int (ch n.toNat k.toNat))
def gN:PF:=λds R=>∃h m n:Int,ds=[.int h,.int m,.int n]/\0<=h/\h<=60/\0<=m/\0<=n/\n<(ch h.toNat m.toNat:Int)/\∀w:List Int,(cw h.toNat 0 m.toNat)[n.toNat]? = some w->R (Bd w)
def bM:PF:=λds R=>∃h m:Int,ds=[.int h,.int m]/\0<=h/\h<=12/\0<=m/\R (.list ((cw h.toNat 0 m.toNat).map Bd))
section
variable{P:Be}{w:World}{K:PySem.W.Frag}{mg:Str->Option Value}{base:Heap}
theorem pQ:FnScope ["n", "k", "many", "step"] ["n", "k"] (By Xe):=⟨rfl,rfl,rfl,by decide +kernel,rfl,by decide +kernel,by decide +kernel⟩
theorem oK{f   : Addr}{fd  : Cv}(F:Fun K "choose" "choose" Xe f fd)(mz_min:mg "min" = none)(mz_range:mg "range" = none):FnOk P w K mg base Jb 1 f fd ["n", "k"] (Ud K (Zf)):=by
 refine' Kg (k:=0) F pQ (λcdv A outer s H E hr=>?hb) ?h
 case hb =>
  have hu64:=hr.units
  exact Cf (Jj (zZ (Ap (pv 1)) (Ap (pv 0)))
   (Dc (Er Cs)) Hb)
   (Cf (Ez (i:=2) pQ.nd rfl (Di rfl) Cs)
   (Cf (Nl Ee rfl (Jo rfl mz_range (Au (Gd (pW rfl) yU rfl mz_min (by decide +kernel) (Au (Ap (pv 1)) (Au (Pv (Ap (pv 0)) (Ap (pv 1))) Bf))) Bf)) (Ki (i:=3) pQ.nd rfl (Di rfl))
   (Dc (Ez (i:=2) pQ.nd rfl (Di rfl) (Xx (F5 (Ap (pv 2)) (Pv (Ap (pv 0)) (Ap (pv 3)))) (uP (Ap (pv 3)) Cs)))))
   (Dc (Er (Oi (Ap (pv 2)))))))
 case h =>
  (intro ds R q_; obtain ⟨n,k,rfl,n0,n1,k0,hR⟩ := q_)
  refine ⟨rfl,?_⟩
  array_get_dec
  refine Ti (λq=>?_) (λq=>?_)
  ·have q:=of_decide_eq_true q
   rw[Hd (by omega)] at hR
   array_get_dec
   exact hR
  have q:=of_decide_eq_false q
  array_get_dec
  obtain ⟨t,et,tn,ec⟩ : ∃t:Nat,(if n - k<k then n - k else k)=(t:Int)/\t<=n.toNat/\ch n.toNat t=ch n.toNat k.toNat:=by
   by_cases c:n - k<k
   ·refine ⟨(n - k).toNat,by rw[if_pos c]; omega,by omega,?_⟩
    rw[kD (by omega)]
    congr 1
    omega
   ·exact ⟨k.toNat,by rw[if_neg c]; omega,by omega,rfl⟩
  rw[et]
  refine ⟨by omega,by omega,?_⟩
  rw[El]
  refine Zy (l:=Bp t) (g:=λi:Nat=>.int i) rfl (λi δ=>∃v:DV,δ=⟨[.dat .sh (.int n),.dat .sh (.int k),.dat .sh (.int (ch n.toNat i)),v],0⟩/\NP v) ?_ ?_ ?_
  ·exact ⟨_,by rw[Mz]; rfl,Hz⟩
  ·(intro i a _ ha q_; obtain ⟨v,rfl,hv⟩ := q_)
   obtain ⟨rfl,hi⟩:=Za ha
   array_get_dec
   refine ⟨.inr ⟨by omega,by omega⟩,⟨by omega,by omega⟩,?_⟩
   have e:=E2 n.toNat a (by omega)
   rw[show ((n.toNat:Nat):Int)=n by omega] at e
   rw[e]
   exact ⟨_,rfl,Ia⟩
  ·(intro _ q_; obtain ⟨v,rfl,hv⟩ := q_)
   rw[Dg,ec]
   array_get_dec
   exact hR
theorem jI:FnScope ["holes", "many", "number", "word", "left", "place", "having"] ["holes", "many", "number"] (By Vb):=⟨rfl,rfl,rfl,by decide +kernel,rfl,by decide +kernel,by decide +kernel⟩
theorem kH{f f_choose  : Addr}{fd d_choose:Cv}(F:Fun K "word_at" "word_at" Vb f fd)(G_choose:FnOk P w K mg base Jb 1 f_choose d_choose ["n", "k"] (Ud K (Zf)))(b_choose:Binds K d_choose ["n", "k"] [])(k_choose:PySem.W.keepIn K (.ref f_choose)=true)(m_choose:mg "choose" = some (.ref f_choose))(mz_len:mg "len" = none):FnOk P w K mg base Jb 2 f fd ["holes", "many", "number"] (Ud K (gN)):=by
 refine' Kg (k:=1) F jI (λcdv A outer s H E hr=>?hb) ?h
 case hb =>
  have hr1:Room 1 _:=hr.mono (by decide)
  have hu64:=hr.units
  exact Cf (Jj (Zt (Rk (sI (Ap (pv 2)) Cs) (Of (U7 (Ap (pv 2)) (Fy G_choose hr1 rfl m_choose k_choose b_choose Gg (Au (Ap (pv 0)) (Au (Ap (pv 1)) Bf)))))))
   (Dc uH) Hb)
   (Cf (Ez (i:=3) jI.nd rfl (Di rfl) (Pq Bf))
   (Cf (Ez (i:=4) jI.nd rfl (Di rfl) (Ap (pv 2)))
   (Cf (Ez (i:=5) jI.nd rfl (Di rfl) Cs)
   (Cf (fY Ee (sI (Gd Le Pr rfl mz_len (by decide +kernel) (Au (Ap (pv 3)) Bf)) (Ap (pv 1)))
   (Cf (Ez (i:=6) jI.nd rfl (Di rfl) (Fy G_choose hr1 rfl m_choose k_choose b_choose Gg (Au (Pv (Pv (Ap (pv 0)) Cs) (Ap (pv 5))) (Au (Pv (Pv (Ap (pv 1)) (Gd Le Pr rfl mz_len (by decide +kernel) (Au (Ap (pv 3)) Bf))) Cs) Bf))))
    (Cf (Jj (sI (Ap (pv 4)) (Ap (pv 6)))
    (Dc (Ez (i:=3) jI.nd rfl (Di rfl) (mI (Ap (pv 3)) (Pq (Au (Oi (Ap (pv 5))) Bf))))) (Dc (lV (i:=4) jI.nd rfl (Di rfl) (Ap (pv 6)) K5)))
    (Dc (nH (i:=5) jI.nd rfl (Di rfl) Cs)))))
   (Dc (Er (Oi (Ap (pv 3)))))))))
 case h =>
  (intro ds R q_; obtain ⟨h,m,n,rfl,h0,h1,m0,n0,n1,hR⟩ := q_)
  refine ⟨rfl,?_⟩
  have mh:m.toNat<=h.toNat:=Nat.le_of_not_lt λz=>by rw[Hd z] at n1; omega
  array_get_dec
  refine sL (λq=>absurd (of_decide_eq_true q) (by omega)) (λ_=>?_)
  array_get_dec
  refine ⟨h,m,rfl,h0,h1,m0,?_⟩
  array_get_dec
  refine Ti (λq=>absurd (of_decide_eq_true q) (by omega)) (λ_=>?_)
  array_get_dec
  obtain ⟨tg,etg⟩ : ∃tg,(cw h.toNat 0 m.toNat)[n.toNat]? = some tg:=by
   have : n.toNat<(cw h.toNat 0 m.toNat).length:=by rw [cw_len]; omega
   exact ⟨_,Bu this⟩
  have hm:tg.length=m.toNat:=(cw_mem.mp (Bc etg)).1
  refine qW (λδ=>∃(w r:List Int) (lf pl:Nat) (v:DV),δ=⟨[.dat .sh (.int h),.dat .sh (.int m),.dat .sh (.int n),.dat .sh (Bd w),.dat .sh (.int lf),.dat .sh (.int pl),v],0⟩/\NP v/\w++r=tg/\pl<=h.toNat/\(cw (h.toNat - pl) pl r.length)[lf]? = some r) (λδ=>h.toNat - p9 5 δ) ⟨[],tg,n.toNat,0,_,by rw[Int.toNat_of_nonneg n0]; rfl,Hz,rfl,Ds _,by rw[hm]; exact etg⟩ ?_
  (intro _ q_; obtain ⟨w,r,lf,pl,v,rfl,hv,ew,pl0,er⟩ := q_)
  have lw:w.length+r.length=m.toNat:=by rw[<- hm,<- ew,Bn]
  array_get_dec
  refine n5 (λhb=>?_) (λhb=>?_)
  ·have hb:=of_decide_eq_true hb
   rw[Ad] at hb
   obtain ⟨x,r',rfl⟩ : ∃x r',r=x::r':=by
    cases r with
    | nil=>exact absurd lw (by simp; omega)
    | cons x r'=>exact ⟨x,r',rfl⟩
   rw[Ba] at lw er
   obtain ⟨d,hd⟩ : ∃d,h.toNat - pl=d+1:=by
    cases hd:h.toNat - pl with
    | zero=>rw[hd] at er; cases er
    | succ d=>exact ⟨d,rfl⟩
   rw [hd,cw_succ] at er
   array_get_dec
   rw[Ad]
   refine ⟨h - 1 - pl,m - w.length - 1,rfl,by omega,by omega,by omega,?_⟩
   rw[show (h - 1 - (pl:Int)).toNat=d by omega,show (m - (w.length:Int) - 1).toNat=r'.length by omega]
   array_get_dec
   refine Ti (λhl=>?_) (λhl=>?_)
   ·have hl':lf<ch d r'.length:=by have:=of_decide_eq_true hl; omega
    rw [Gq (by rw [Ad,cw_len]; exact hl'),Bt] at er
    cases hv2:(cw d ((pl:Int)+1) r'.length)[lf]? with
    | none=>rw[hv2] at er; cases er
    | some u =>
     rw[hv2] at er
     have er':(pl:Int)::u=x::r':=Ck er
     injection er' with ex eur
     subst ex eur
     array_get_dec
     refine ⟨by rw[Ad]; omega,⟨w++[(pl:Int)],u,lf,pl+1,.dat .sh (.int (ch d u.length)),?_,Ia,by rw[<- ew,Bz]; rfl,by omega,by rw[show h.toNat - (pl+1)=d by omega,show ((pl+1:Nat):Int)=(pl:Int)+1 by omega]; exact hv2⟩,?_⟩
     ·rw[show ((pl+1:Nat):Int)=(pl:Int)+1 by omega]
      unfold Bd
      rw[Cb]
      rfl
     ·show h.toNat - ((pl:Int)+1).toNat<h.toNat - (pl:Int).toNat
      omega
   ·have hl':ch d r'.length<=lf:=by have:=of_decide_eq_false hl; omega
    rw [Fd (by rw [Ad,cw_len]; exact hl'),Ad,cw_len] at er
    array_get_dec
    refine ⟨⟨w,x::r',lf - ch d r'.length,pl+1,.dat .sh (.int (ch d r'.length)),?_,Ia,ew,by omega,by rw[show h.toNat - (pl+1)=d by omega,show ((pl+1:Nat):Int)=(pl:Int)+1 by omega,Ba]; exact er⟩,?_⟩
    ·rw[show ((lf - ch d r'.length:Nat):Int)=(lf:Int) - (ch d r'.length:Int) by omega,show ((pl+1:Nat):Int)=(pl:Int)+1 by omega]
    ·show h.toNat - ((pl:Int)+1).toNat<h.toNat - (pl:Int).toNat
     omega
  ·have hb:=of_decide_eq_false hb
   rw[Ad] at hb
   obtain rfl:r=[]:=Ho.mp (by omega)
   rw[Dz] at ew
   subst ew
   array_get_dec
   exact hR _ etg
theorem gD:FnScope ["holes", "many"] ["holes", "many"] (By Os):=⟨rfl,rfl,rfl,by decide +kernel,rfl,by decide +kernel,by decide +kernel⟩
theorem iR{f f_choose f_word_at  : Addr}{fd d_choose d_word_at:Cv}(F:Fun K "words_of" "words_of" Os f fd)(G_choose:FnOk P w K mg base Jb 1 f_choose d_choose ["n", "k"] (Ud K (Zf)))(b_choose:Binds K d_choose ["n", "k"] [])(k_choose:PySem.W.keepIn K (.ref f_choose)=true)(m_choose:mg "choose" = some (.ref f_choose))(G_word_at:FnOk P w K mg base Jb 2 f_word_at d_word_at ["holes", "many", "number"] (Ud K (gN)))(b_word_at:Binds K d_word_at ["holes", "many", "number"] [])(k_word_at:PySem.W.keepIn K (.ref f_word_at)=true)(m_word_at:mg "word_at" = some (.ref f_word_at))(mz_range:mg "range" = none):FnOk P w K mg base Jb 3 f fd ["holes", "many"] (Ud K (bM)):=by
 refine' Kg (k:=2) F gD (λcdv A outer s H E hr=>?hb) ?h
 case hb =>
  have hr1:Room 1 _:=hr.mono (by decide)
  have hr2:Room 2 _:=hr.mono (by decide)
  have hu64:=hr.units
  have CS1:∀{scope:Scope} (h:scope={ kind:=.function,names:=[(".0",.local),("number",.local),("word_at",.globalImplicit),("holes",.free),("many",.free)],isGenerator:=false,isCoroutine:=false }),
    CompScope (Nz Jb P w K mg base ["holes", "many"] "words_of" (By Os) f cdv A outer s H E).nox scope [("many",s.heap.objs.size+2),("holes",s.heap.objs.size+1)] "number" ["holes", "many"] [0,1]:=by
   rintro scope rfl
   refine ⟨by rfl,.inl (by decide +kernel),by rfl,by decide +kernel,.inl rfl,λy c h=>?_,by rfl,by decide +kernel,rfl,λk y j e1 e2=>?_⟩
   ·have z:=Fh h
    simp only[An,Bv,or_false,Gu] at z
    rcases z with ⟨rfl,rfl⟩ | ⟨rfl,rfl⟩ <;> rfl
   ·match k,e1,e2 with
    | 0,e1,e2=>cases e1; cases e2; exact ⟨rfl,rfl,by first | exact .inl rfl | exact .inr rfl⟩
    | 1,e1,e2=>cases e1; cases e2; exact ⟨rfl,rfl,by first | exact .inl rfl | exact .inr rfl⟩
    | k+2,e1,e2=>cases e1
  exact Dc (Er (Ma (CS1 rfl) rfl (Jo rfl mz_range (Au (Fy G_choose hr1 rfl m_choose k_choose b_choose Gg (Au (Ap (pv 0)) (Au (Ap (pv 1)) Bf))) Bf)) (λ_ _ _=>gP) (λ_ _ _=>Fy G_word_at hr2 rfl m_word_at k_word_at b_word_at Gg (Au (Ap (pv 1)) (Au (Ap (pv 2)) (Au (Ap (pv 0)) Bf))))))
 case h =>
  (intro ds R q_; obtain ⟨h,m,rfl,h0,h1,m0,hR⟩ := q_)
  refine ⟨rfl,?_⟩
  array_get_dec
  refine ⟨h,m,rfl,h0,by omega,m0,?_⟩
  array_get_dec
  have c1:=fV h.toNat m.toNat
  have c2:2 ^ h.toNat<=2 ^ 12:=Mh (by decide) (by omega)
  refine ⟨by omega,by omega,?_⟩
  rw[El]
  have cl:=cw_len h.toNat 0 m.toNat
  refine i9 (l:=Bp (ch h.toNat m.toNat)) (g:=λi:Nat=>.int i) rfl (λi=>Bd ((cw h.toNat 0 m.toNat).getD i [])) (λi hi yes no hy=>?_) ?_
  ·have hi:=Dm.mp hi
   array_get_dec
   refine ⟨h,m,i,rfl,h0,by omega,m0,by omega,by omega,λw hw=>?_⟩
   rw[El] at hw
   rw[eB,hw] at hy
   array_get_dec
   exact hy
  ·have e:(Bp (ch h.toNat m.toNat)).map (λi=>Bd ((cw h.toNat 0 m.toNat).getD i []))=(cw h.toNat 0 m.toNat).map Bd:=by
    rw[<- cl]
    apply Gy
    intro i
    rw[Bt,Bt]
    by_cases hi:i<(cw h.toNat 0 m.toNat).length
    ·rw[List.getElem?_range hi,Bu hi]
     show some (Bd _)=some (Bd _)
     rw[eB,Bu hi]
     rfl
    ·rw[Rh (by rw[Dg]; omega),Rh (by omega)]
     rfl
   rw[e]
   array_get_dec
   exact hR
end
open DRow
def Pk(p c:List Int):List Int:=p.filter λi=>decide (i∈c)
def bE:PF:=λds R=>∃c p:List Int,ds=[Bd c,Bd p]/\p.length<=60/\R (Bd (Pk p c))
def lQ:PF:=λds R=>∃(D:List (List Int)) (p:List Int),ds=[.list (D.map Bd),Bd p]/\D.length<=1000/\p.length<=60/\((D.map (Pk p)).Nodup->R .none) /\
 ∀(i j:Nat) (x y:List Int),i<j->D[i]? = some x->D[j]? = some y->Pk p x=Pk p y->R (Bd [(i:Int),(j:Int)])
section
variable{P:Be}{w:World}{K:PySem.W.Frag}{mg:Str->Option Value}{base:Heap}
theorem Zv:FnScope ["card", "places"] ["card", "places"] (By Ly):=⟨rfl,rfl,rfl,by decide +kernel,rfl,by decide +kernel,by decide +kernel⟩
theorem aE{f   : Addr}{fd  : Cv}(F:Fun K "notches_at" "notches_at" Ly f fd)(mz_tuple:mg "tuple" = none):FnOk P w K mg base Jb 1 f fd ["card", "places"] (Ud K (bE)):=by
 refine' Kg (k:=0) F Zv (λcdv A outer s H E hr=>?hb) ?h
 case hb =>
  have hu64:=hr.units
  have CS1:∀{scope:Scope} (h:scope={ kind:=.function,names:=[(".0",.local),("place",.local),("card",.free)],isGenerator:=false,isCoroutine:=false }),
    CompScope (Nz Jb P w K mg base ["card", "places"] "notches_at" (By Ly) f cdv A outer s H E).nox scope [("card",s.heap.objs.size+1)] "place" ["card"] [0]:=by
   rintro scope rfl
   refine ⟨by rfl,.inl (by decide +kernel),by rfl,by decide +kernel,.inl rfl,λy c h=>?_,by rfl,by decide +kernel,rfl,λk y j e1 e2=>?_⟩
   ·have z:=Fh h
    simp only[An,Bv,or_false,Gu] at z
    obtain ⟨rfl,rfl⟩:=z; rfl
   ·match k,e1,e2 with
    | 0,e1,e2=>cases e1; cases e2; exact ⟨rfl,rfl,by first | exact .inl rfl | exact .inr rfl⟩
    | k+1,e1,e2=>cases e1
  exact Dc (Er (Mc Tc (Sw (i:=true)) rfl mz_tuple (by decide +kernel) (Au (Ma (CS1 rfl) rfl (BN (Ap (pv 1))) (λ_ _ _=>Nc (o4 hu64 (Ap (pv 0)) (Ap (pv 1)))) (λ_ _ _=>Ap (pv 0))) Bf)))
 case h =>
  (intro ds R q_; obtain ⟨c,p,rfl,lp,hR⟩ := q_)
  refine ⟨rfl,?_⟩
  array_get_dec
  refine Tf (l:=p) (g:=Ca) rfl (λi=>decide (i∈c)) Ca (λi _ yes no hy hn=>?_) ?_
  ·array_get_dec
   refine Tq (λh=>?_) (λh=>?_)
   ·array_get_dec
    exact hy h
   ·exact hn h
  array_get_dec
  exact hR
end
theorem qB{ws:List (List Int)}{i:Nat}{p:List Int×Nat}(h:ws.zipIdx[i]? = some p):p.2=i/\ws[i]? = some p.1:=by
 rw[List.getElem?_zipIdx] at h
 cases e:ws[i]? with
 | none=>rw[e] at h; cases h
 | some a =>
  rw[e] at h
  cases h
  exact ⟨by simp,rfl⟩
theorem A7{D:List (List Int)}{f:List Int->List Int}{w:List Int}{n:Nat}(h:w∈(D.take n).map f):∃(i:Nat) (x:List Int),i<n/\D[i]? = some x/\f x=w/\((D.take n).map f).idxOf w=i:=by
 have lt:=List.idxOf_lt_length_of_mem h
 have ge:=List.getElem_idxOf lt
 obtain ⟨i,ei⟩ : ∃i,((D.take n).map f).idxOf w=i:=⟨_,rfl⟩
 rw[Ad,Da] at lt
 have g2:((D.take n).map f)[i]? = some w:=by
  rw[<- ei]
  exact List.getElem?_eq_some_iff.mpr ⟨_,ge⟩
 rw[Bt,Fl (by omega)] at g2
 cases q:D[i]? with
 | none=>rw[q] at g2; cases g2
 | some x =>
  rw[q] at g2
  injection g2 with g2
  exact ⟨i,x,by omega,q,g2,ei⟩
theorem jA{α:Type}{l:List α}{a:α}(h:l.Nodup)(k:a∉l):(l++[a]).Nodup:=Fw.mpr ⟨h,Ci.mpr ⟨(λz=>nomatch z),Cz⟩,λx hx y hy e=>k (by rw[<- Ai.mp hy,<- e]; exact hx)⟩
theorem aI{α β:Type}{f:α->β}{D:List α}{i:Nat}{x:α}(h:D[i]? = some x):(D.take (i+1)).map f=(D.take i).map f++[f x]:=by
 obtain ⟨h1,h2⟩:=Ak.mp h
 rw[Gv h1,Cb,h2]
 rfl
section
variable{P:Be}{w:World}{K:PySem.W.Frag}{mg:Str->Option Value}{base:Heap}
theorem eS:FnScope ["deck", "places", "seen", "j", "card", "notches"] ["deck", "places"] (By Rz):=⟨rfl,rfl,rfl,by decide +kernel,rfl,by decide +kernel,by decide +kernel⟩
theorem eL{f f_notches_at  : Addr}{fd d_notches_at:Cv}(F:Fun K "alike_at" "alike_at" Rz f fd)(G_notches_at:FnOk P w K mg base Jb 1 f_notches_at d_notches_at ["card", "places"] (Ud K (bE)))(b_notches_at:Binds K d_notches_at ["card", "places"] [])(k_notches_at:PySem.W.keepIn K (.ref f_notches_at)=true)(m_notches_at:mg "notches_at" = some (.ref f_notches_at))(mz_enumerate:mg "enumerate" = none):FnOk P w K mg base Jb 2 f fd ["deck", "places"] (Ud K (lQ)):=by
 refine' Kg (k:=1) F eS (λcdv A outer s H E hr=>?hb) ?h
 case hb =>
  have hr1:Room 1 _:=hr.mono (by decide)
  have hu64:=hr.units
  exact Cf (Oo (i:=2) eS.nd rfl (Di rfl) zJ)
   (Cf (Nl Ee rfl (zO rfl mz_enumerate (Au (Ap (pv 0)) Bf)) (K2 (n:=2) rfl (gB (Ki (i:=3) eS.nd rfl (Di rfl)) (gB (Ki (i:=4) eS.nd rfl (Di rfl)) zK)))
   (Cf (Ez (i:=5) eS.nd rfl (Di rfl) (Fy G_notches_at hr1 rfl m_notches_at k_notches_at b_notches_at Gg (Au (Ap (pv 4)) (Au (Ap (pv 1)) Bf))))
    (Cf (Jj (A2 hu64 (Ap (pv 5)) (Ap (pv 2)))
    (Dc (Er (Pq (Au (zC hu64 (Ap (pv 2)) (Ap (pv 5))) (Au (Oi (Ap (pv 3))) Bf))))) Hb)
    (Dc (wX hu64 (pv 2) (Ap (pv 5)) (Ap (pv 3)))))))
   (Dc (Er kP)))
 case h =>
  (intro ds R q_; obtain ⟨D,p,rfl,lD,lp,hN,hA⟩ := q_)
  refine ⟨rfl,?_⟩
  array_get_dec
  have ez:((D.map Bd).zipIdx.map λp=>PyData.tuple [.int (p.2:Int),p.1])=D.zipIdx.map λp=>.tuple [.int (p.2:Int),Bd p.1]:=by rw[xI,Ei]; rfl
  rw[ez]
  refine Zy (l:=D.zipIdx) (g:=λp=>.tuple [.int (p.2:Int),Bd p.1]) rfl (λi δ=>(∃v3 v4 v5:DV,δ=⟨[.dat .sh (.list (D.map Bd)),.dat .sh (Bd p),.dat .ow (.dict (Vm (Xm ((D.take i).map (Pk p)) 0))),v3,v4,v5],0⟩/\NP v3/\NP v4/\NP v5)/\((D.take i).map (Pk p)).Nodup) ?_ ?_ ?_
  ·exact ⟨⟨_,_,_,rfl,Hz,Hz,Hz⟩,Cz⟩
  ·(intro i q _ hq q_; obtain ⟨⟨v3,v4,v5,rfl,hv3,hv4,hv5⟩,nd⟩ := q_)
   obtain ⟨eq',hq1⟩:=qB hq
   array_get_dec
   refine ⟨q.1,p,rfl,lp,?_⟩
   array_get_dec
   have tg:=iA (Pk p q.1) ((D.take i).map (Pk p)) 0
   by_cases c:Pk p q.1∈(D.take i).map (Pk p)
   ·rw[if_pos c] at tg
    obtain ⟨i',x,lt,hx,ex,ei⟩:=A7 c
    rw[ei,Ge] at tg
    refine Ti (λ_=>?_) (λh=>absurd h (by rw[tg]; simp))
    array_get_dec
    refine ⟨_,tg,?_⟩
    array_get_dec
    rw[eq']
    exact hA i' i x q.1 lt hx hq1 ex
   ·rw[if_neg c] at tg
    refine Ti (λh=>absurd h (by rw[tg]; simp)) (λ_=>?_)
    have lt:=(Ak.mp hq1).1
    have lz:((D.take i).map (Pk p)).length=i:=by rw[Ad,Da]; omega
    have pt:=vP c
    rw[lz,<- aI hq1] at pt
    array_get_dec
    refine ⟨by rw[uO,lz]; omega,?_⟩
    rw[eq',pt]
    refine ⟨⟨_,_,_,rfl,Ia,Ia,Ia⟩,?_⟩
    rw[aI hq1]
    exact jA nd c
  ·(intro _ q_; obtain ⟨⟨v3,v4,v5,rfl,hv3,hv4,hv5⟩,nd⟩ := q_)
   array_get_dec
   rw[Kr,Ln] at nd
   exact hN nd
end
theorem Pu:∀{b a:List Int},a.Pairwise (· < ·)->b.Pairwise (· < ·)->(∀x∈a,x∈b)->a.Sublist b
 | b,[],_,_,_=>List.nil_sublist _
 | [],x::a,_,_,h=>nomatch h x Aa
 | y::b,x::a,ha,hb,h=>by
  obtain ⟨a1,a2⟩:=Bh.mp ha
  obtain ⟨b1,b2⟩:=Bh.mp hb
  by_cases e:x=y
  ·subst e
   refine (Pu a2 b2 λz hz=>?_).cons₂ x
   rcases An.mp (h z (Af _ hz)) with q | q
   ·have:=a1 z hz; omega
   ·exact q
  ·have hx:x∈b:=(An.mp (h x Aa)).resolve_left e
   refine (Pu ha b2 λz hz=>?_).cons y
   rcases An.mp (h z hz) with q | q
   ·have yx:=b1 x hx
    rcases An.mp hz with w | w
    ·omega
    ·have:=a1 z w; omega
   ·exact q
theorem cw_rise {m k:Nat} {w:List Int} (h:w∈cw m 0 k):Hg m w:=by
 obtain ⟨_,h1,h2⟩:=cw_mem.mp h
 exact ⟨h1,λx hx=>by have:=h2 x hx; omega⟩
theorem fQ{a b:List Int}(ha:a.Pairwise (· < ·))(hb:b.Pairwise (· < ·))(h:∀x,x∈a↔x∈b):a=b :=
 (Pu ha hb λx hx=>(h x).mp hx).eq_of_length_le (Pu hb ha λx hx=>(h x).mpr hx).length_le
theorem Uy(h:Nat):(Ru h).Pairwise (· < ·):=Wk.mpr (List.pairwise_lt_range.imp λz=>by omega)
theorem cJ{p c:List Int}{x:Int}:x∈Pk p c↔x∈p/\x∈c:=by
 unfold Pk
 rw[List.mem_filter,decide_eq_true_eq]
theorem Xh{p c:List Int}(h:p.Pairwise (· < ·)):(Pk p c).Pairwise (· < ·):=h.filter _
theorem Me{h:Nat}{x:List Int}(hx:Hg h x):Pk (Ru h) x=x:=by
 refine fQ (Xh (Uy h)) hx.1 λz=>?_
 rw[cJ]
 exact ⟨λq=>q.2,λq=>⟨Cc.mpr ⟨z.toNat,Dm.mpr (by have:=hx.2 z q; omega),by have:=hx.2 z q; omega⟩,q⟩⟩
theorem cw_full {h:Nat} {w:List Int} (hw:w∈cw h 0 h):w=Ru h:=by
 have rw':=cw_rise hw
 have lw:=(cw_mem.mp hw).1
 have sb:=Pu rw'.1 (Uy h) λz hz=>Cc.mpr ⟨z.toNat,Dm.mpr (by have:=rw'.2 z hz; omega),by have:=rw'.2 z hz; omega⟩
 exact sb.eq_of_length (by rw[lw]; unfold Ru; simp)
def xO(D:List (List Int))(p q:List Int):Prop:=∃(a b:Nat) (x y:List Int),q=[(a:Int),(b:Int)]/\a<b/\D[a]? = some x/\D[b]? = some y/\Pk p x=Pk p y
def Xo(D:List (List Int))(q:List Int):Prop:=∃a b:Nat,q=[(a:Int),(b:Int)]/\a<b/\b<D.length
theorem xO.ok{D:List (List Int)}{p q:List Int}(h:xO D p q):Xo D q:=by
 obtain ⟨a,b,x,y,e,lt,_,hy,_⟩:=h
 exact ⟨a,b,e,lt,(Ak.mp hy).1⟩
structure Bars(D:List (List Int))(h k:Nat)(P:List (List Int)):Prop where
 none:k=0->P=[]
 ok:∀q∈P,Xo D q
 all:1<=k->∀u∈cw h 0 (k - 1),∃q∈P,xO D u q
 few:P.length<=1100
def iP:PF:=λds R=>∃(h:Nat) (D:List (List Int)),ds=[.int h,.list (D.map Bd)]/\1<=h/\h<=10/\D.length<=1000/\(∀c∈D,Hg h c) /\
 (∀(i j:Nat) (x:List Int),i<j->D[i]? = some x->D[j]? = some x->R (.tuple [.str "same",.int i,.int j])) /\
 ∀(k:Nat) (w:List Int) (P:List (List Int)),D.Nodup->k<=h->w∈cw h 0 k->(D.map (Pk w)).Nodup->Bars D h k P->R (.tuple [.str "places",Bd w,.list (P.map Bd)])
section
variable{P:Be}{w:World}{K:PySem.W.Frag}{mg:Str->Option Value}{base:Heap}
theorem Um:FnScope ["holes", "deck", "same", "many", "pairs", "met", "places", "pair"] ["holes", "deck"] (By Ll):=⟨rfl,rfl,rfl,by decide +kernel,rfl,by decide +kernel,by decide +kernel⟩
theorem Uo{f f_words_of f_alike_at  : Addr}{fd d_words_of d_alike_at:Cv}(F:Fun K "fewest_places" "fewest_places" Ll f fd)(G_words_of:FnOk P w K mg base Jb 3 f_words_of d_words_of ["holes", "many"] (Ud K (bM)))(b_words_of:Binds K d_words_of ["holes", "many"] [])(k_words_of:PySem.W.keepIn K (.ref f_words_of)=true)(m_words_of:mg "words_of" = some (.ref f_words_of))(G_alike_at:FnOk P w K mg base Jb 2 f_alike_at d_alike_at ["deck", "places"] (Ud K (lQ)))(b_alike_at:Binds K d_alike_at ["deck", "places"] [])(k_alike_at:PySem.W.keepIn K (.ref f_alike_at)=true)(m_alike_at:mg "alike_at" = some (.ref f_alike_at))(mz_tuple:mg "tuple" = none)(mz_range:mg "range" = none)(mz_sorted:mg "sorted" = none)(mz_set:mg "set" = none):FnOk P w K mg base Jb 4 f fd ["holes", "deck"] (Ud K (iP)):=by
 refine' Kg (k:=3) F Um (λcdv A outer s H E hr=>?hb) ?h
 case hb =>
  have hr1:Room 1 _:=hr.mono (by decide)
  have hr2:Room 2 _:=hr.mono (by decide)
  have hr3:Room 3 _:=hr.mono (by decide)
  have hu64:=hr.units
  exact Cf (Ez (i:=2) Um.nd rfl (Di rfl) (Fy G_alike_at hr2 rfl m_alike_at k_alike_at b_alike_at Gg (Au (Ap (pv 1)) (Au (bD rfl rfl mz_tuple rfl mz_range (Ap (pv 0))) Bf))))
   (Cf (Jj (yI (Ap (pv 2)) kP)
   (Dc (Er (Pq (Au Yo (Au (Oi (Fb (Ap (pv 2)) Cs)) (Au (Oi (Fb (Ap (pv 2)) Cs)) Bf)))))) Hb)
   (Cf (Ez (i:=3) Um.nd rfl (Di rfl) Cs)
   (Cf (Oo (i:=4) Um.nd rfl (Di rfl) (Km Bf))
   (Dc (fY Ee (Lm Pe)
   (Cf (Oo (i:=5) Um.nd rfl (Di rfl) (Km Bf))
    (Cf (Nl Ee rfl (o8 (Fy G_words_of hr3 rfl m_words_of k_words_of b_words_of Gg (Au (Ap (pv 0)) (Au (Ap (pv 3)) Bf)))) (Ki (i:=6) Um.nd rfl (Di rfl))
    (Cf (Ez (i:=7) Um.nd rfl (Di rfl) (Fy G_alike_at hr2 rfl m_alike_at k_alike_at b_alike_at Gg (Au (Ap (pv 1)) (Au (Ap (pv 6)) Bf))))
     (Cf (Jj (L3 (Ap (pv 7)) kP)
     (Dc (Er (Pq (Au Yo (Au (Oi (Ap (pv 6))) (Au (nC (pv 4)) Bf)))))) Hb)
     (Dc (Us (pv 5) (Ap (pv 7)))))))
    (Cf (Oo (i:=4) Um.nd rfl (Di rfl) (K7 hu64 rfl rfl mz_sorted rfl mz_set (Au (Ap (pv 5)) Bf)))
    (Dc (nH (i:=3) Um.nd rfl (Di rfl) Cs))))))))))
 case h =>
  (intro ds R q_; obtain ⟨h,D,rfl,h0,h1,lD,hD,hS,hP⟩ := q_)
  refine ⟨rfl,?_⟩
  array_get_dec
  refine ⟨by omega,by omega,D,Ru h,rfl,lD,by unfold Ru; simp; omega,λnd=>?_,λi j x y lt hx hy e=>?_⟩
  rotate_left
  ·rw[Me (hD x (Bc hx)),Me (hD y (Bc hy))] at e
   rw[show isNone (Bd [(i:Int),(j:Int)])=false from rfl]
   array_get_dec
   exact hS i j x lt hx (by rw[e]; exact hy)
  have ndD:D.Nodup:=by
   have e:D.map (Pk (Ru h))=D.map id:=Gb λc hc=>Me (hD c hc)
   rw[e,List.map_id] at nd
   exact nd
  dsimp only
  rw[show isNone PyData.none=true from rfl]
  array_get_dec
  refine qW (λδ=>∃(k:Nat) (P:List (List Int)) (v5 v6 v7:DV),δ=⟨[.dat .sh (.int h),.dat .sh (.list (D.map Bd)),.dat .sh .none,.dat .sh (.int k),.dat .ow (.list (P.map Bd)),v5,v6,v7],0⟩/\k<=h/\Bars D h k P/\NP v5/\NP v6/\NP v7) (λδ=>h+1 - p9 3 δ) ⟨0,[],_,_,_,rfl,by omega,⟨λ_=>rfl,(λq z=>nomatch z),(λz=>absurd z (by decide)),by decide⟩,Hz,Hz,Hz⟩ ?_
  (intro _ q_; obtain ⟨k,P,v5,v6,v7,rfl,kh,hB,hv5,hv6,hv7⟩ := q_)
  array_get_dec
  refine n5 (λ_=>?_) (λq=>nomatch q)
  array_get_dec
  refine ⟨h,k,rfl,by omega,by omega,by omega,?_⟩
  rw[El,El]
  array_get_dec
  have lc:(cw h 0 k).length<=1024:=by
   rw [cw_len]
   exact Cg (fV h k) (Mh (n:=2) (by decide) h1)
  refine Zy (l:=cw h 0 k) (g:=Bd) rfl (λi δ=>∃(M:List (List Int)) (v6 v7:DV),δ=⟨[.dat .sh (.int h),.dat .sh (.list (D.map Bd)),.dat .sh .none,.dat .sh (.int k),.dat .ow (.list (P.map Bd)),.dat .ow (.list (M.map Bd)),v6,v7],0⟩/\M.length=i/\(∀(a:Nat) (u:List Int),a<i->(cw h 0 k)[a]? = some u->∃q∈M,xO D u q)/\(∀q∈M,Xo D q)/\(0<i->k<h)/\NP v6/\NP v7) ?_ ?_ ?_
  ·exact ⟨[],_,_,rfl,rfl,(λa u z=>absurd z (Dr _)),(λq z=>nomatch z),(λz=>absurd z (Dr _)),hv6,hv7⟩
  ·(intro i w _ hw q_; obtain ⟨M,v6,v7,rfl,lM,hM,hQ,hk,hv6,hv7⟩ := q_)
   have mw:=Bc hw
   have li:=(Ak.mp hw).1
   array_get_dec
   have lw:w.length≤60:=by rw [(cw_mem.mp mw).1]; omega
   refine ⟨D,w,rfl,lD,lw,λnd2=>?_,λa b x y lt hx hy e=>?_⟩
   ·array_get_dec
    rw[show isNone PyData.none=true from rfl]
    array_get_dec
    exact hP k w P ndD kh mw nd2 hB
   ·array_get_dec
    rw[show isNone (Bd [(a:Int),(b:Int)])=false from rfl]
    array_get_dec
    have al:xO D w [(a:Int),(b:Int)]:=⟨a,b,x,y,rfl,lt,hx,hy,e⟩
    refine ⟨by rw[Ad]; omega,M++[[(a:Int),(b:Int)]],_,_,nA (by rw[Cb]; rfl) rfl,by rw[Bn,lM]; rfl,λa' u ha' hu=>?_,λq hq=>?_,λ_=>?_,Ia,Ia⟩
    ·by_cases z:a'=i
     ·subst z
      rw[hw] at hu
      cases hu
      exact ⟨_,Al _ (Ai.mpr rfl),al⟩
     ·obtain ⟨q,q1,q2⟩:=hM a' u (by omega) hu
      exact ⟨q,Aq _ q1,q2⟩
    ·rcases Ay.mp hq with z | z
     ·exact hQ q z
     ·rw[Ai.mp z]; exact al.ok
    ·refine Gj λz=>?_
     obtain rfl:k=h:=by omega
     rw [cw_full mw,Me (hD x (Bc hx)),Me (hD y (Bc hy))] at e
     obtain ⟨i1,i2⟩:=Ak.mp hx
     obtain ⟨j1,j2⟩:=Ak.mp hy
     exact Dl.mp ndD a b i1 j1 lt (by rw[i2,j2,e])
  ·(intro _ q_; obtain ⟨M,v6,v7,rfl,lM,hM,hQ,hk,hv6,hv7⟩ := q_)
   have lp:=sY (n:=h) (k:=k) kh
   rw [← cw_len h 0 k] at lp
   have kl:=hk (by omega)
   array_get_dec
   refine ⟨M,rfl,by omega,λL nL iL oL=>?_⟩
   array_get_dec
   have lL:=(Th nL iL).1
   refine ⟨⟨k+1,L,_,_,_,rfl,by omega,⟨λz=>by omega,λq hq=>hQ q ((iL q).mp hq),λ_ u hu=>?_,by omega⟩,sH,hv6,hv7⟩,?_⟩
   ·rw[Nat.add_sub_cancel] at hu
    obtain ⟨a,ha⟩:=List.mem_iff_getElem?.mp hu
    obtain ⟨q,q1,q2⟩:=hM a u (Ak.mp ha).1 ha
    exact ⟨q,(iL q).mpr q1,q2⟩
   ·show h+1 - ((k:Int)+1).toNat<h+1 - (k:Int).toNat
    omega
end
def mU:DF:=λds n R=>∃h:Int,ds=[.int h]/\0<h/\h<=60/\n<=90000/\∀ns,Hg h ns->R (Bd ns) (n+1)
def o9:DF:=λds n R=>ds=[]/\n<=90000/\∀h:Int,0<h->h<=10->R (.int h) (n+1)
def x4:PF:=λds R=>∃c p:List Int,ds=[Bd c,Bd p]/\c.length<=60/\R (Bd (Pk c p))
def uD:DF:=λds n R=>∃h:Nat,ds=[.int h]/\1<=h/\h<=10/\n<=50000/\∀(D:List (List Int)) n',n<=n'->n'<=n+30->D.length<=12->(∀c∈D,Hg h c)->R (.list (D.map Bd)) n'
theorem nX{h:Nat}(p:Nat->Bool):Hg h (((Bp h).filter p).map λk:Nat=>(k:Int)) :=
 ⟨Wk.mpr ((List.pairwise_lt_range.filter _).imp λz=>by omega),λx hx=>by
  obtain ⟨k,hk,rfl⟩:=Cc.mp hx
  have:=Dm.mp (Kd.mp hk).1
  omega⟩
section
variable{P:Be}{w:World}{K:PySem.W.Frag}{mg:Str->Option Value}{base:Heap}
theorem Zz:FnScope ["_law_draws_here", "_law_holes", "_law_pick", "_law_told", "_law_place"] ["_law_draws_here", "_law_holes"] (By Ol):=⟨rfl,rfl,rfl,by decide +kernel,rfl,by decide +kernel,by decide +kernel⟩
theorem aC{f f_L_next  : Addr}{fd d_L_next:Cv}(F:Fun K "_law_small" "_law_small" Ol f fd)(G_L_next:FnOk P w K mg base Jb 1 f_L_next d_L_next ["_law_draws_here"] (nB K Xq))(b_L_next:Binds K d_L_next ["_law_draws_here"] [])(k_L_next:PySem.W.keepIn K (.ref f_L_next)=true)(m_L_next:mg "_law_next" = some (.ref f_L_next))(mz_range:mg "range" = none)(mz_tuple:mg "tuple" = none):FnOk P w K mg base Jb 2 f fd ["_law_draws_here", "_law_holes"] (nB K (mU)):=by
 refine' cX (k:=1) F Zz (λcdv A outer s H E hr=>?hb) ?h
 case hb =>
  have hr1:Room 1 _:=hr.mono (by decide)
  have hu64:=hr.units
  exact Cf (Ez (i:=2) Zz.nd rfl (Di rfl) (Mm G_L_next hr1 rfl m_L_next k_L_next b_L_next Gg (pv 0) Bf))
   (Cf (Oo (i:=3) Zz.nd rfl (Di rfl) (Km Bf))
   (Cf (Nl Ee rfl (Jo rfl mz_range (Au (Ap (pv 1)) Bf)) (Ki (i:=4) Zz.nd rfl (Di rfl))
   (Cf (Jj (Vr hu64 (Py (Ap (pv 2)) Cs) Cs)
    (Dc (Us (pv 3) (Ap (pv 4)))) Hb)
    (Dc (Ez (i:=2) Zz.nd rfl (Di rfl) (Xx (Ap (pv 2)) Cs)))))
   (Dc (Er (Mc Tc (Sw (i:=true)) rfl mz_tuple (by decide +kernel) (Au (Ap (pv 3)) Bf))))))
 case h =>
  (intro ds n R q_; obtain ⟨h,rfl,h0,h1,hn,hR⟩ := q_)
  refine ⟨rfl,?_⟩
  array_get_dec
  refine ⟨rfl,by omega,λr1=>?_⟩
  array_get_dec
  refine ⟨by omega,by omega,?_⟩
  refine Zy (l:=Bp h.toNat) (g:=λi:Nat=>.int i) rfl (λi δ=>∃(p:Int) (ns:List Int) (v:DV),δ=⟨[.drw,.dat .sh (.int h),.dat .sh (.int p),.dat .ow (.list (ns.map Ca)),v],n+1⟩/\Hg i ns/\NP v) ?_ ?_ ?_
  ·exact ⟨_,[],_,rfl,Hg.nil _,Hz⟩
  ·(intro i a _ ha q_; obtain ⟨p,ns,v,rfl,hr,hv⟩ := q_)
   obtain ⟨rfl,hi⟩:=Za ha
   have l60:=pX (w8 hr) (λx hx=>by have:=hr.2 x hx; omega)
   array_get_dec
   refine Ti (λhb=>?_) (λhb=>?_)
   ·array_get_dec
    refine ⟨by rw[Ad]; omega,?_⟩
    refine ⟨_,ns++[(a:Int)],_,nA (by rw[Cb]; rfl) rfl,hr.more (by omega),Ia⟩
   ·array_get_dec
    exact ⟨_,ns,_,rfl,hr.up (by omega),Ia⟩
  ·(intro _ q_; obtain ⟨p,ns,v,rfl,hr,hv⟩ := q_)
   rw[Dg] at hr
   array_get_dec
   exact ⟨by omega,hR ns (by rwa [show ((h.toNat:Nat):Int)=h by omega] at hr)⟩
theorem jC:FnScope ["_law_card", "_law_places"] ["_law_card", "_law_places"] (By Qi):=⟨rfl,rfl,rfl,by decide +kernel,rfl,by decide +kernel,by decide +kernel⟩
theorem jS{f   : Addr}{fd  : Cv}(F:Fun K "_law_at" "_law_at" Qi f fd)(mz_tuple:mg "tuple" = none):FnOk P w K mg base Jb 1 f fd ["_law_card", "_law_places"] (Ud K (x4)):=by
 refine' Kg (k:=0) F jC (λcdv A outer s H E hr=>?hb) ?h
 case hb =>
  have hu64:=hr.units
  have CS1:∀{scope:Scope} (h:scope={ kind:=.function,names:=[(".0",.local),("_law_place",.local),("_law_places",.free)],isGenerator:=false,isCoroutine:=false }),
    CompScope (Nz Jb P w K mg base ["_law_card", "_law_places"] "_law_at" (By Qi) f cdv A outer s H E).nox scope [("_law_places",s.heap.objs.size+1)] "_law_place" ["_law_places"] [1]:=by
   rintro scope rfl
   refine ⟨by rfl,.inl (by decide +kernel),by rfl,by decide +kernel,.inl rfl,λy c h=>?_,by rfl,by decide +kernel,rfl,λk y j e1 e2=>?_⟩
   ·have z:=Fh h
    simp only[An,Bv,or_false,Gu] at z
    obtain ⟨rfl,rfl⟩:=z; rfl
   ·match k,e1,e2 with
    | 0,e1,e2=>cases e1; cases e2; exact ⟨rfl,rfl,by first | exact .inl rfl | exact .inr rfl⟩
    | k+1,e1,e2=>cases e1
  exact Dc (Er (Mc Tc (Sw (i:=true)) rfl mz_tuple (by decide +kernel) (Au (Ma (CS1 rfl) rfl (BN (Ap (pv 0))) (λ_ _ _=>Nc (o4 hu64 (Ap (pv 0)) (Ap (pv 1)))) (λ_ _ _=>Ap (pv 0))) Bf)))
 case h =>
  (intro ds R q_; obtain ⟨c,p,rfl,lp,hR⟩ := q_)
  refine ⟨rfl,?_⟩
  array_get_dec
  refine Tf (l:=c) (g:=Ca) rfl (λi=>decide (i∈p)) Ca (λi _ yes no hy hn=>?_) ?_
  ·array_get_dec
   refine Tq (λh=>?_) (λh=>?_)
   ·array_get_dec
    exact hy h
   ·exact hn h
  array_get_dec
  exact hR
theorem cD:FnScope ["_law_draws_here", "_law_holes", "_law_deck_here", "_law_k", "_law_card", "_law_pick", "_law_place"] ["_law_draws_here", "_law_holes"] (By Ng):=⟨rfl,rfl,rfl,by decide +kernel,rfl,by decide +kernel,by decide +kernel⟩
theorem bZ{f f_L_next f_L_small  : Addr}{fd d_L_next d_L_small:Cv}(F:Fun K "_law_deck" "_law_deck" Ng f fd)(G_L_next:FnOk P w K mg base Jb 1 f_L_next d_L_next ["_law_draws_here"] (nB K Xq))(b_L_next:Binds K d_L_next ["_law_draws_here"] [])(k_L_next:PySem.W.keepIn K (.ref f_L_next)=true)(m_L_next:mg "_law_next" = some (.ref f_L_next))(G_L_small:FnOk P w K mg base Jb 2 f_L_small d_L_small ["_law_draws_here", "_law_holes"] (nB K (mU)))(b_L_small:Binds K d_L_small ["_law_draws_here", "_law_holes"] [])(k_L_small:PySem.W.keepIn K (.ref f_L_small)=true)(m_L_small:mg "_law_small" = some (.ref f_L_small))(mz_range:mg "range" = none)(mz_len:mg "len" = none)(mz_tuple:mg "tuple" = none):FnOk P w K mg base Jb 3 f fd ["_law_draws_here", "_law_holes"] (nB K (uD)):=by
 refine' cX (k:=2) F cD (λcdv A outer s H E hr=>?hb) ?h
 case hb =>
  have hr1:Room 1 _:=hr.mono (by decide)
  have hr2:Room 2 _:=hr.mono (by decide)
  have hu64:=hr.units
  have CS1:∀{scope:Scope} (h:scope={ kind:=.function,names:=[(".0",.local),("_law_k",.local),("_law_card",.free),("_law_place",.free)],isGenerator:=false,isCoroutine:=false }),
    CompScope (Nz Jb P w K mg base ["_law_draws_here", "_law_holes", "_law_deck_here", "_law_k", "_law_card", "_law_pick", "_law_place"] "_law_deck" (By Ng) f cdv A outer s H E).nox scope [("_law_place",s.heap.objs.size+2),("_law_card",s.heap.objs.size+1)] "_law_k" ["_law_card", "_law_place"] [4,6]:=by
   rintro scope rfl
   refine ⟨by rfl,.inl (by decide +kernel),by rfl,by decide +kernel,.inl rfl,λy c h=>?_,by rfl,by decide +kernel,rfl,λk y j e1 e2=>?_⟩
   ·have z:=Fh h
    simp only[An,Bv,or_false,Gu] at z
    rcases z with ⟨rfl,rfl⟩ | ⟨rfl,rfl⟩ <;> rfl
   ·match k,e1,e2 with
    | 0,e1,e2=>cases e1; cases e2; exact ⟨rfl,rfl,by first | exact .inl rfl | exact .inr rfl⟩
    | 1,e1,e2=>cases e1; cases e2; exact ⟨rfl,rfl,by first | exact .inl rfl | exact .inr rfl⟩
    | k+2,e1,e2=>cases e1
  exact Cf (Oo (i:=2) cD.nd rfl (Di rfl) (Km Bf))
   (Cf (Nl Ee rfl (Jo rfl mz_range (Au (Py (Mm G_L_next hr1 rfl m_L_next k_L_next b_L_next Gg (pv 0) Bf) Cs) Bf)) (Ki (i:=3) cD.nd rfl (Di rfl))
   (Cf (Ez (i:=4) cD.nd rfl (Or.inr rfl) (Mm G_L_small hr2 rfl m_L_small k_L_small b_L_small Gg (pv 0) (Au (Ap (pv 1)) Bf)))
    (Cf (Ez (i:=5) cD.nd rfl (Di rfl) (Mm G_L_next hr1 rfl m_L_next k_L_next b_L_next Gg (pv 0) Bf))
    (Cf (Jj (Zt (K1 (Tn hu64 (Ap (pv 2)) (Km Bf)) (zX (Vr hu64 (Py (Ap (pv 5)) Cs) Cs))))
    (Cf (Ez (i:=4) cD.nd rfl (Or.inr rfl) (Oi (Fb (Ap (pv 2)) (Py (Xx (Ap (pv 5)) Cs) (Gd Le Pr rfl mz_len (by decide +kernel) (Au (Ap (pv 2)) Bf))))))
     (Cf (Ez (i:=6) cD.nd rfl (Or.inr rfl) (Py (Xx (Ap (pv 5)) Cs) (Ap (pv 1))))
     (Dc (Ez (i:=4) cD.nd rfl (Or.inr rfl) (Mc Tc (Sw (i:=true)) rfl mz_tuple (by decide +kernel) (Au (Ma (CS1 rfl) rfl (Jo rfl mz_range (Au (Ap (pv 1)) Bf)) (λ_ _ _=>Nc (Tn hu64 (P0 hu64 (Ap (pv 0)) (Ap (pv 1))) (bI hu64 (Ap (pv 0)) (Ap (pv 2))))) (λ_ _ _=>Ap (pv 0))) Bf)))))) Hb)
    (Dc (Jj (Zt (Rk (fI hu64 (Ap (pv 4)) (Ap (pv 2))) (Of (Vr hu64 (Py (Ap (pv 5)) Cs) Cs))))
    (Dc (Us (pv 2) (Ap (pv 4)))) Hb))))))
   (Dc (Er (nC (pv 2)))))
 case h =>
  (intro ds n R q_; obtain ⟨h,rfl,h0,h1,hn,hR⟩ := q_)
  refine ⟨rfl,?_⟩
  array_get_dec
  refine ⟨rfl,by omega,λr1=>?_⟩
  array_get_dec
  have bm:=cB r1 (b:=13) (by decide)
  refine ⟨by omega,by omega,?_⟩
  refine Zy (l:=Bp (r1 % 13).toNat) (g:=λi:Nat=>.int i) rfl (λi δ=>∃(D:List (List Int)) (v3 v4 v5 v6:DV) (n':Nat),δ=⟨[.drw,.dat .sh (.int h),.dat .ow (.list (D.map Bd)),v3,v4,v5,v6],n'⟩/\n'=n+1+2 * i/\D.length<=i/\(∀c∈D,Hg h c)/\NP v3/\NP v4/\NP v5/\NP v6) ?_ ?_ ?_
  ·exact ⟨[],_,_,_,_,_,rfl,rfl,Ah _,(λ_ z=>nomatch z),Hz,Hz,Hz,Hz⟩
  ·(intro i a _ ha q_; obtain ⟨D,v3,v4,v5,v6,n1,rfl,k1,ld,hd,hv3,hv4,hv5,hv6⟩ := q_)
   obtain ⟨rfl,hi⟩:=Za ha
   array_get_dec
   refine ⟨h,rfl,by omega,by omega,by omega,λw rw_=>?_⟩
   array_get_dec
   refine ⟨rfl,by omega,λr2=>?_⟩
   array_get_dec
   refine u7 (λP=>x3 _ _ _ P) (λδ=>∃(c:List Int) (v6:DV),δ=⟨[.drw,.dat .sh (.int h),.dat .ow (.list (D.map Bd)),.dat .sh (.int a),.dat .sh (Bd c),.dat .sh (.int r2),v6],n1+1+1⟩/\Hg h c/\NP v6) (λN hN=>?_) ?_
   ·refine J0 (λhb=>?_) (λhb=>?_)
    ·have hne:D≠[]:=λz=>by rw[z] at hb; cases hb
     array_get_dec
     refine Ti (λhb2=>?_) (λhb2=>?_)
     ·have hl:0<D.length:=qM.mpr hne
      have bl:=cB (r2 / 2) (b:=((D.map Bd).length:Int)) (by rw[Ad]; omega)
      have bh:=cB (r2 / 40) (b:=(h:Int)) (by omega)
      rw[Ad] at bl
      obtain ⟨c,hc,e⟩:=oV bl.1 bl.2
      array_get_dec
      rw[Ad,e]
      refine ⟨by omega,Bd c,rfl,?_⟩
      array_get_dec
      refine ⟨by omega,by omega,by omega,?_⟩
      refine Tf (l:=Bp h) (g:=λi:Nat=>.int i) rfl (λk=>decide ((k:Int)∈c) != decide ((k:Int)=r2 / 40 % h)) (λk=>.int k) (λk hk yes no hy hn=>?_) ?_
      ·array_get_dec
       refine Tq (λz=>?_) (λz=>?_)
       ·array_get_dec
        exact hy z
       ·exact hn z
      array_get_dec
      refine hN _ ⟨_,.dat .sh (.int (r2 / 40 % h)),nA ?_ rfl,nX (h:=h) (λk=>decide ((k:Int)∈c) != decide ((k:Int)=r2 / 40 % h)),Ia⟩
      unfold Bd
      rw[Ei]
      rfl
     ·array_get_dec
      exact hN _ ⟨w,_,rfl,rw_,hv6⟩
    ·array_get_dec
     exact hN _ ⟨w,_,rfl,rw_,hv6⟩
   ·clear hv6
    (intro _ q_; obtain ⟨c,v6,rfl,rc,hv6⟩ := q_)
    array_get_dec
    refine u7 (λP=>Y9 _ _ _ P) (λδ=>∃(D':List (List Int)),δ=⟨[.drw,.dat .sh (.int h),.dat .ow (.list (D'.map Bd)),.dat .sh (.int a),.dat .sh (Bd c),.dat .sh (.int r2),v6],n1+1+1⟩/\D'.length<=a+1/\∀c∈D',Hg h c) (λN hN=>?_) ?_
    ·have go:N ⟨[.drw,.dat .sh (.int h),.dat .ow (.list ((D++[c]).map Bd)),.dat .sh (.int a),.dat .sh (Bd c),.dat .sh (.int r2),v6],n1+1+1⟩:=hN _ ⟨D++[c],rfl,by rw[Bn,Lk]; omega,λx hx=>by
      rcases Ay.mp hx with z | z
      ·exact hd x z
      ·rw[Ai.mp z]; exact rc⟩
     rw[Cb] at go
     refine sL (λhb=>?_) (λhb=>?_)
     ·array_get_dec
      refine ⟨by simp [npk,hv6 _],by rw[Ad]; omega,?_⟩
      exact go
     ·array_get_dec
      refine Ti (λhb2=>?_) (λhb2=>?_)
      ·array_get_dec
       refine ⟨by simp [npk,hv6 _],by rw[Ad]; omega,?_⟩
       exact go
      ·array_get_dec
       exact hN _ ⟨D,rfl,by omega,hd⟩
    ·(intro _ q_; obtain ⟨D',rfl,lD',hD'⟩ := q_)
     try array_get_dec
     exact ⟨D',_,_,_,_,_,rfl,by omega,lD',hD',Ia,Ia,Ia,hv6⟩
  ·(intro _ q_; obtain ⟨D,v3,v4,v5,v6,n1,rfl,k1,ld,hd,hv3,hv4,hv5,hv6⟩ := q_)
   rw[Dg] at k1 ld
   array_get_dec
   exact ⟨by omega,hR D _ (by omega) (by omega) (by omega) hd⟩
theorem fW:FnScope ["_law_draws_here", "_law_pick"] ["_law_draws_here"] (By Rw):=⟨rfl,rfl,rfl,by decide +kernel,rfl,by decide +kernel,by decide +kernel⟩
theorem eM{f f_L_next  : Addr}{fd d_L_next:Cv}(F:Fun K "_law_few" "_law_few" Rw f fd)(G_L_next:FnOk P w K mg base Jb 1 f_L_next d_L_next ["_law_draws_here"] (nB K Xq))(b_L_next:Binds K d_L_next ["_law_draws_here"] [])(k_L_next:PySem.W.keepIn K (.ref f_L_next)=true)(m_L_next:mg "_law_next" = some (.ref f_L_next))(mz_int:mg "int" = none):FnOk P w K mg base Jb 2 f fd ["_law_draws_here"] (nB K (o9)):=by
 refine' cX (k:=1) F fW (λcdv A outer s H E hr=>?hb) ?h
 case hb =>
  have hr1:Room 1 _:=hr.mono (by decide)
  have hu64:=hr.units
  exact Cf (Ez (i:=1) fW.nd rfl (Di rfl) (Mm G_L_next hr1 rfl m_L_next k_L_next b_L_next Gg (pv 0) Bf))
   (Dc (Er (Fb (Km (Au (uP Cs (Py (Xx (Ap (pv 1)) Cs) Cs)) (Au Cs Bf))) (Mc oP E1 rfl mz_int (by decide +kernel) (Au (bI hu64 (Py (Ap (pv 1)) Cs) Cs) Bf)))))
 case h =>
  (intro ds n R q_; obtain ⟨rfl,hn,hR⟩ := q_)
  refine ⟨rfl,?_⟩
  array_get_dec
  refine ⟨rfl,by omega,λr1=>?_⟩
  array_get_dec
  have b7:=cB (r1 / 8) (b:=7) (by decide)
  refine ⟨_,X3 _ _ _,by omega,?_⟩
  cases decide (r1 % 8=1)
  ·exact hR _ (by omega) (by omega)
  ·exact hR _ (by omega) (by omega)
end
theorem cw_iff {h k:Nat} {w:List Int}:w∈cw h 0 k↔w.length=k∧Hg h w:=by
 constructor
 ·intro z
  exact ⟨(cw_mem.mp z).1,cw_rise z⟩
 ·rintro ⟨a,b⟩
  exact cw_mem.mpr ⟨a,b.1,fun x hx=>by have:=b.2 x hx; omega⟩
def N6(w:List Int)(k:Nat):Bool:=decide (∀x∈w,x<(k:Int))
def ext(h:Nat)(w:List Int):List (List Int):=((Bp h).filter (N6 w)).map λk:Nat=>w++[(k:Int)]
def iS(h:Nat):Nat->List (List Int)
 | 0=>[[]]
 | t+1=>(iS h t).flatMap (ext h)
theorem Y0{h:Nat}{w v:List Int}:v∈ext h w↔∃k:Nat,k<h/\(∀x∈w,x<(k:Int))/\v=w++[(k:Int)]:=by
 unfold ext N6
 constructor
 ·intro z
  obtain ⟨k,hk,e⟩:=Cc.mp z
  obtain ⟨k1,k2⟩:=Kd.mp hk
  exact ⟨k,Dm.mp k1,of_decide_eq_true k2,e.symm⟩
 ·(intro q_; obtain ⟨k,k1,k2,e⟩ := q_)
  exact Cc.mpr ⟨k,Kd.mpr ⟨Dm.mpr k1,decide_eq_true k2⟩,e.symm⟩
theorem wF{h:Nat}:∀{t:Nat} {w:List Int},w∈iS h t↔w∈cw h 0 t
 | 0,w=>by
  rw [cw_iff]
  show w∈[[]]↔_
  rw[Ai]
  exact ⟨λe=>by rw[e]; exact ⟨rfl,Hg.nil _⟩,λe=>Ho.mp e.1⟩
 | t+1,w=>by
  show w∈(iS h t).flatMap (ext h)↔_
  rw [List.mem_flatMap,cw_iff]
  constructor
  ·(intro q_; obtain ⟨u,hu,hv⟩ := q_)
   obtain ⟨k,k1,k2,rfl⟩:=Y0.mp hv
   obtain ⟨l,r⟩:=cw_iff.mp (wF.mp hu)
   refine ⟨by rw[Bn,l]; rfl,Cn.mpr ⟨r.1,Fv _ _,λa ha b hb=>?_⟩,λx hx=>?_⟩
   ·rw[Ai.mp hb]; exact k2 a ha
   ·rcases Ay.mp hx with z | z
    ·exact r.2 x z
    ·rw[Ai.mp z]; omega
  ·rintro ⟨l,r⟩
   obtain ⟨u,z,rfl⟩ : ∃u z,w=u++[z]:=by
    rcases List.eq_nil_or_concat w with e | ⟨u,z,e⟩
    ·rw[e] at l; cases l
    ·exact ⟨u,z,by rw[e]; simp⟩
   rw[Bn] at l
   obtain ⟨r1,r2,r3⟩:=Cn.mp r.1
   have bz:=r.2 z (Al _ (Ai.mpr rfl))
   refine ⟨u,wF.mpr (cw_iff.mpr ⟨by simpa using l,r1,fun x hx=>r.2 x (Aq _ hx)⟩),Y0.mpr ⟨z.toNat,by omega,fun x hx=>?_,?_⟩⟩
   ·have:=r3 x hx z (Ai.mpr rfl); omega
   ·rw[show ((z.toNat:Nat):Int)=z by omega]
theorem jV{h:Nat}:∀{L:List (List Int)},L.Nodup->(L.flatMap (ext h)).Nodup
 | [],_=>Cz
 | w::L,nd=>by
  obtain ⟨n1,n2⟩:=Ci.mp nd
  rw[Wm]
  refine Fw.mpr ⟨?_,jV n2,λa ha b hb e=>?_⟩
  ·refine List.Pairwise.map (R:=λx y:Nat=>x≠y) _ (λx y z e=>?_) (List.nodup_range.filter _)
   have:=(List.append_inj' e rfl).2
   injection this with this
   exact z (by omega)
  ·obtain ⟨k,_,_,rfl⟩:=Y0.mp ha
   obtain ⟨u,hu,hv⟩:=Hn.mp hb
   obtain ⟨k',_,_,e2⟩:=Y0.mp hv
   rw[e2] at e
   have:=(List.append_inj' e rfl).1
   exact n1 (by rw[this]; exact hu)
theorem vC{h:Nat}:∀t,(iS h t).Nodup
 | 0=>Ci.mpr ⟨(λz=>nomatch z),Cz⟩
 | t+1=>jV (vC t)
theorem wR{h:Nat}(h1:h<=10)(t i:Nat):(((iS h t).take i).flatMap (ext h)).length<=1024:=by
 have nd:(((iS h t).take i).flatMap (ext h)).Nodup:=jV ((Gw _ _).nodup (vC t))
 have:=Tb (l2:=cw h 0 (t+1)) nd λv hv=>by
  rw[<- wF]
  obtain ⟨u,hu,hv⟩:=Hn.mp hv
  exact List.mem_flatMap.mpr ⟨u,Sd hu,hv⟩
 rw [cw_len] at this
 exact Cg this (Cg (fV h _) (Mh (n:=2) (by decide) h1))
theorem wA{w:List Int}(r:w.Pairwise (· < ·)){z:Int}(h:w.getLast? = some z)(k:Nat):decide (z<(k:Int))=N6 w k:=by
 unfold N6
 obtain ⟨u,rfl⟩ : ∃u,w=u++[z]:=List.getLast?_eq_some_iff.mp h
 obtain ⟨r1,r2,r3⟩:=Cn.mp r
 refine decide_eq_decide.mpr ⟨λq x hx=>?_,λq=>q z (Al _ (Ai.mpr rfl))⟩
 rcases Ay.mp hx with y | y
 ·have:=r3 x y z (Ai.mpr rfl); omega
 ·rw[Ai.mp y]; exact q
theorem mL(w:List Int)(k:Int):Bd (w++[k])=.tuple (w.map Ca++[.int k]):=by unfold Bd; rw[Cb]; rfl
def Yy:PF:=λds R=>∃h k:Nat,ds=[.int h,.int k]/\h<=10/\k<=10/\R (.list ((iS h k).map Bd))
def aM:PF:=λds R=>∃(D:List (List Int)) (p:List Int),ds=[.list (D.map Bd),Bd p]/\D.length<=1000/\(∀c∈D,c.length<=60)/\((D.map λc=>Pk c p).Nodup->R (.bool true))/\(¬ (D.map λc=>Pk c p).Nodup->R (.bool false))
def nP:PF:=λds R=>∃(D:List (List Int)) (q:List Int),ds=[.list (D.map Bd),Bd q]/\Xo D q/\R (.bool true)
section
variable{P:Be}{w:World}{K:PySem.W.Frag}{mg:Str->Option Value}{base:Heap}
theorem Xp:FnScope ["_law_holes", "_law_many", "_law_told", "_law_turn", "_law_more", "_law_word"] ["_law_holes", "_law_many"] (By La):=⟨rfl,rfl,rfl,by decide +kernel,rfl,by decide +kernel,by decide +kernel⟩
theorem Yr{f   : Addr}{fd  : Cv}(F:Fun K "_law_chosen" "_law_chosen" La f fd)(mz_range:mg "range" = none):FnOk P w K mg base Jb 1 f fd ["_law_holes", "_law_many"] (U3 K (Yy)):=by
 refine' tE (k:=0) F Xp (λcdv A outer s H E hr=>?hb) ?h
 case hb =>
  have hu64:=hr.units
  have CS1:∀{scope:Scope} (h:scope={ kind:=.function,names:=[(".0",.local),("_law_place",.local),("_law_word",.free)],isGenerator:=false,isCoroutine:=false }),
    CompScope (Nz Jb P w K mg base ["_law_holes", "_law_many", "_law_told", "_law_turn", "_law_more", "_law_word"] "_law_chosen" (By La) f cdv A outer s H E).nox scope [("_law_word",s.heap.objs.size+1)] "_law_place" ["_law_word"] [5]:=by
   rintro scope rfl
   refine ⟨by rfl,.inl (by decide +kernel),by rfl,by decide +kernel,.inl rfl,λy c h=>?_,by rfl,by decide +kernel,rfl,λk y j e1 e2=>?_⟩
   ·have z:=Fh h
    simp only[An,Bv,or_false,Gu] at z
    obtain ⟨rfl,rfl⟩:=z; rfl
   ·match k,e1,e2 with
    | 0,e1,e2=>cases e1; cases e2; exact ⟨rfl,rfl,by first | exact .inl rfl | exact .inr rfl⟩
    | k+1,e1,e2=>cases e1
  exact Cf (Ez (i:=2) Xp.nd rfl (Di rfl) (Km (Au (Pq Bf) Bf)))
   (Cf (Nl Ee rfl (Jo rfl mz_range (Au (Ap (pv 1)) Bf)) (Ki (i:=3) Xp.nd rfl (Di rfl))
   (Cf (Ez (i:=4) Xp.nd rfl (Di rfl) (Km Bf))
    (Cf (Nl Ee rfl (o8 (Ap (pv 2))) (Ki (i:=5) Xp.nd rfl (Or.inr rfl))
    (Dc (Ez (i:=4) Xp.nd rfl (Di rfl) (rS (Ap (pv 4)) (Ma (CS1 rfl) rfl (Jo rfl mz_range (Au (Ap (pv 0)) Bf)) (λ_ _ _=>Nc (Zt (Rk (Vr hu64 (Ap (pv 1)) (Pq Bf)) (Of (zZ (Ap (pv 0)) (Fb (Ap (pv 1)) (A8 Cs))))))) (λ_ _ _=>mI (Ap (pv 1)) (Pq (Au (Oi (Ap (pv 0))) Bf))))))))
    (Dc (Ez (i:=2) Xp.nd rfl (Di rfl) (Ap (pv 4)))))))
   (Dc (Er (Ap (pv 2)))))
 case h =>
  (intro ds R q_; obtain ⟨h,k,rfl,h1,k1,hR⟩ := q_)
  refine ⟨rfl,?_⟩
  array_get_dec
  refine ⟨by omega,by omega,?_⟩
  rw[El]
  refine Zy (l:=Bp k) (g:=λi:Nat=>.int i) rfl (λt δ=>∃(v3 v4 v5:DV),δ=⟨[.dat .sh (.int h),.dat .sh (.int k),.dat .sh (.list ((iS h t).map Bd)),v3,v4,v5],0⟩/\NP v3/\NP v4/\NP v5) ?_ ?_ ?_
  ·exact ⟨_,_,_,rfl,Hz,Hz,Hz⟩
  ·(intro t a _ ha q_; obtain ⟨v3,v4,v5,rfl,hv3,hv4,hv5⟩ := q_)
   array_get_dec
   refine Zy (l:=iS h t) (g:=Bd) rfl (λi δ=>∃(v5:DV),δ=⟨[.dat .sh (.int h),.dat .sh (.int k),.dat .sh (.list ((iS h t).map Bd)),.dat .sh (.int a),.dat .sh (.list ((((iS h t).take i).flatMap (ext h)).map Bd)),v5],0⟩/\NP v5) ?_ ?_ ?_
   ·exact ⟨_,rfl,hv5⟩
   ·(intro i w _ hw q_; obtain ⟨v5,rfl,hv5⟩ := q_)
    have rw_:=(cw_iff.mp (wF.mp (Bc hw))).2
    have l60:=Ov (rw_.up (show (h:Int)<=60 by omega))
    have e1:((iS h t).take (i+1)).flatMap (ext h)=((iS h t).take i).flatMap (ext h)++ext h w:=by
     obtain ⟨i1,i2⟩:=Ak.mp hw
     rw[Gv i1,List.flatMap_append,i2]
     simp
    have le:=wR h1 t (i+1)
    rw[e1,Bn] at le
    array_get_dec
    refine ⟨by omega,by omega,?_⟩
    rw[El]
    refine Tf (l:=Bp h) (g:=λk:Nat=>.int k) rfl (N6 w) (λk=>Bd (w++[(k:Int)])) (λk hk yes no hy hn=>?_) ?_
    ·array_get_dec
     rw[show PyData.tuple []=Bd [] from rfl,eqD_word]
     refine sL (λhb=>?_) (λhb=>?_)
     ·have e:w=[]:=of_decide_eq_true hb
      have hy:=hy (by rw[e]; rfl)
      array_get_dec
      exact ⟨by rw[Ad]; omega,by rw[mL] at hy; exact hy⟩
     ·have ne:w≠[]:=of_decide_eq_false hb
      obtain ⟨z,_,z1,z2⟩:=iM ne
      have e3:=mV Ca w (-1)
      rw[z1] at e3
      array_get_dec
      refine ⟨_,e3,?_⟩
      array_get_dec
      rw[wA rw_.1 z2 k]
      refine Tq (λq=>?_) (λq=>?_)
      ·have hy:=hy q
       array_get_dec
       exact ⟨by rw[Ad]; omega,by rw[mL] at hy; exact hy⟩
      ·exact hn q
    array_get_dec
    have e2:(((Bp h).filter (N6 w)).map λk:Nat=>Bd (w++[(k:Int)]))=(ext h w).map Bd:=by unfold ext; rw[Ei]; rfl
    rw[e2]
    refine ⟨by rw[Ad,Ad]; omega,.dat .sh (Bd w),nA ?_ rfl,Ia⟩
    rw[e1,Cb]
   ·(intro _ q_; obtain ⟨v5,rfl,hv5⟩ := q_)
    rw[Ln]
    array_get_dec
    exact ⟨_,_,_,rfl,Ia,Ia,hv5⟩
  ·(intro _ q_; obtain ⟨v3,v4,v5,rfl,hv3,hv4,hv5⟩ := q_)
   rw[Dg]
   array_get_dec
   exact hR
theorem Yz:FnScope ["_law_deck_here", "_law_places", "_law_met"] ["_law_deck_here", "_law_places"] (By Kz):=⟨rfl,rfl,rfl,by decide +kernel,rfl,by decide +kernel,by decide +kernel⟩
theorem Yw{f f_L_at  : Addr}{fd d_L_at:Cv}(F:Fun K "_law_parted" "_law_parted" Kz f fd)(G_L_at:FnOk P w K mg base Jb 1 f_L_at d_L_at ["_law_card", "_law_places"] (Ud K (x4)))(b_L_at:Binds K d_L_at ["_law_card", "_law_places"] [])(k_L_at:PySem.W.keepIn K (.ref f_L_at)=true)(m_L_at:mg "_law_at" = some (.ref f_L_at))(mz_len:mg "len" = none)(mz_set:mg "set" = none):FnOk P w K mg base Jb 2 f fd ["_law_deck_here", "_law_places"] (Ud K (aM)):=by
 refine' Kg (k:=1) F Yz (λcdv A outer s H E hr=>?hb) ?h
 case hb =>
  have hr1:Room 1 _:=hr.mono (by decide)
  have hu64:=hr.units
  have CS1:∀{scope:Scope} (h:scope={ kind:=.function,names:=[(".0",.local),("_law_card",.local),("_law_at",.globalImplicit),("_law_places",.free)],isGenerator:=false,isCoroutine:=false }),
    CompScope (Nz Jb P w K mg base ["_law_deck_here", "_law_places", "_law_met"] "_law_parted" (By Kz) f cdv A outer s H E).nox scope [("_law_places",s.heap.objs.size+1)] "_law_card" ["_law_places"] [1]:=by
   rintro scope rfl
   refine ⟨by rfl,.inl (by decide +kernel),by rfl,by decide +kernel,.inl rfl,λy c h=>?_,by rfl,by decide +kernel,rfl,λk y j e1 e2=>?_⟩
   ·have z:=Fh h
    simp only[An,Bv,or_false,Gu] at z
    obtain ⟨rfl,rfl⟩:=z; rfl
   ·match k,e1,e2 with
    | 0,e1,e2=>cases e1; cases e2; exact ⟨rfl,rfl,by first | exact .inl rfl | exact .inr rfl⟩
    | k+1,e1,e2=>cases e1
  exact Cf (zE (o:=false) (i0:=2) Yz.nd rfl rfl (CS1 rfl) rfl (o8 (Ap (pv 0))) (λ_ _ _=>gP) (λ_ _ _=>Fy G_L_at hr1 rfl m_L_at k_L_at b_L_at Gg (Au (Ap (pv 0)) (Au (Ap (pv 1)) Bf))))
   (Dc (Er (bI hu64 (oA hu64 rfl rfl mz_len rfl mz_set (Au (Ap (pv 2)) Bf)) (Gd Le Pr rfl mz_len (by decide +kernel) (Au (Ap (pv 2)) Bf)))))
 case h =>
  (intro ds R q_; obtain ⟨D,p,rfl,lD,lc,hT,hF⟩ := q_)
  refine ⟨rfl,?_⟩
  array_get_dec
  refine i9 (l:=D) (g:=Bd) rfl (λc=>Bd (Pk c p)) (λc hc yes no hy=>?_) ?_
  ·array_get_dec
   refine ⟨c,p,rfl,lc c hc,?_⟩
   array_get_dec
   exact hy
  array_get_dec
  refine ⟨D.map λc=>Pk c p,by rw[Ei]; rfl,by rw[Ad]; omega,λn n1 n2 n3=>?_⟩
  rw[Ad] at n1 n2 n3 ⊢
  array_get_dec
  by_cases c:(D.map λc=>Pk c p).Nodup
  ·rw[n2 c,decide_eq_true rfl]
   exact hT c
  ·rw[decide_eq_false λz=>c (n3 (by omega))]
   exact hF c
theorem Wg:FnScope ["_law_deck_here", "_law_pair"] ["_law_deck_here", "_law_pair"] (By Kk):=⟨rfl,rfl,rfl,by decide +kernel,rfl,by decide +kernel,by decide +kernel⟩
theorem We{f   : Addr}{fd  : Cv}(F:Fun K "_law_is_pair" "_law_is_pair" Kk f fd)(mz_len:mg "len" = none)(mz_tuple:mg "tuple" = none)(mz_isinstance:mg "isinstance" = none)(mz_int:mg "int" = none)(mz_bool:mg "bool" = none):FnOk P w K mg base Jb 1 f fd ["_law_deck_here", "_law_pair"] (Ud K (nP)):=by
 refine' Kg (k:=0) F Wg (λcdv A outer s H E hr=>?hb) ?h
 case hb =>
  have hu64:=hr.units
  have CS1:∀{scope:Scope} (h:scope={ kind:=.function,names:=[(".0",.local),("_law_one",.local),("isinstance",.globalImplicit),("bool",.globalImplicit),("int",.globalImplicit)],isGenerator:=false,isCoroutine:=false }),
    CompScope (Nz Jb P w K mg base ["_law_deck_here", "_law_pair"] "_law_is_pair" (By Kk) f cdv A outer s H E).nox scope [] "_law_one" [] []:=by
   rintro scope rfl
   exact Nd.compScope0 (by rfl) (by decide +kernel) (by rfl) (by decide +kernel) (by rfl) (by rfl)
  exact Cf (Jj (Zt (Rk (Oj (Lm (Gd Uu Vd rfl mz_isinstance (by decide +kernel) (Au (Ap (pv 1)) (Au (aX (n := "tuple") rfl mz_tuple (by decide +kernel)) Bf))))) (Of (Tn hu64 (Gd Le Pr rfl mz_len (by decide +kernel) (Au (Ap (pv 1)) Bf)) Cs))))
   (Dc (Er Pe)) Hb)
   (Cf (Jj (Tn hu64 (Ma (CS1 rfl) rfl (BN (Ap (pv 1))) (λ_ _ _=>Nc (Zt (Rk (Lm (Gd Uu Vd rfl mz_isinstance (by decide +kernel) (Au (Ap (pv 0)) (Au (aX (n := "bool") rfl mz_bool (by decide +kernel)) Bf)))) (Of (Oj (Lm (Gd Uu Vd rfl mz_isinstance (by decide +kernel) (Au (Ap (pv 0)) (Au (aX (n := "int") rfl mz_int (by decide +kernel)) Bf))))))))) (λ_ _ _=>Ap (pv 0))) (Km Bf))
   (Dc (Er Pe)) Hb)
   (Dc (Er (dR (P4 Cs (Fb (Ap (pv 1)) Cs)) (dR (p8 (Fb (Ap (pv 1)) Cs) (Fb (Ap (pv 1)) Cs)) (sJ (p8 (Fb (Ap (pv 1)) Cs) (Gd Le Pr rfl mz_len (by decide +kernel) (Au (Ap (pv 0)) Bf)))))))))
 case h =>
  (intro ds R q_; obtain ⟨D,q,rfl,⟨a,b,rfl,lt,lb⟩,hR⟩ := q_)
  refine ⟨rfl,?_⟩
  array_get_dec
  refine Tf (l:=[(a:Int),(b:Int)]) (g:=Ca) rfl (λ_=>false) Ca (λi _ yes no hy hn=>?_) ?_
  ·array_get_dec
   exact hn rfl
  rw[show [(a:Int),(b:Int)].filter (λ_=>false)=[] from rfl]
  array_get_dec
  rw[decide_eq_true (show (0:Int)<=(a:Int) by omega)]
  array_get_dec
  rw[decide_eq_true (show (a:Int)<(b:Int) by omega)]
  array_get_dec
  rw[Ad,decide_eq_true (show (b:Int)<(D.length:Int) by omega)]
  exact hR
end
theorem Oa{p c:List Int}(hp:p.Pairwise (· < ·))(hc:c.Pairwise (· < ·)):Pk c p=Pk p c :=
 fQ (Xh hc) (Xh hp) λx=>by rw[cJ,cJ,And.comm]
theorem To{D:List (List Int)}{a:Nat}{x:List Int}(h:D[a]? = some x):Rj (D.map Bd) (a:Int)=some (Bd x):=by
 refine cP (j:=a) ?_
 rw[Bt,h]
 rfl
def rV:PF:=λds R=>∃(h k:Nat) (D P:List (List Int)),ds=[.int h,.list (D.map Bd),.int k,.list (P.map Bd)]/\h<=10/\k<=10/\(∀c∈D,Hg h c)/\P.length<=1100/\(∀q∈P,Xo D q)/\(∀u∈cw h 0 k,∃q∈P,xO D u q)/\R (.bool true)
def q8(i j:Nat):Ac:=.tuple [.str "same",.int i,.int j]
def e7(w:List Int)(P:List (List Int)):Ac:=.tuple [.str "places",Bd w,.list (P.map Bd)]
def AI(h:Nat)(D:List (List Int))(T:Ac):Prop :=
 (∃(i j:Nat) (x:List Int),i<j/\D[i]? = some x/\D[j]? = some x/\T=q8 i j) \/
 ∃(k:Nat) (w:List Int) (P:List (List Int)),D.Nodup/\k<=h/\w∈cw h 0 k/\(D.map (Pk w)).Nodup/\Bars D h k P/\T=e7 w P
def mX:PF:=λds R=>∃(h:Nat) (D:List (List Int)) (T:Ac),ds=[.int h,.list (D.map Bd),T]/\1<=h/\h<=10/\D.length<=1000/\(∀c∈D,Hg h c)/\AI h D T/\R (.bool true)
section
variable{P:Be}{w:World}{K:PySem.W.Frag}{mg:Str->Option Value}{base:Heap}
theorem cH:FnScope ["_law_holes", "_law_deck_here", "_law_many", "_law_pairs", "_law_places"] ["_law_holes", "_law_deck_here", "_law_many", "_law_pairs"] (By My):=⟨rfl,rfl,rfl,by decide +kernel,rfl,by decide +kernel,by decide +kernel⟩
theorem cR{f f_L_at f_L_chosen  : Addr}{fd d_L_at d_L_chosen:Cv}(F:Fun K "_law_bars" "_law_bars" My f fd)(G_L_at:FnOk P w K mg base Jb 1 f_L_at d_L_at ["_law_card", "_law_places"] (Ud K (x4)))(b_L_at:Binds K d_L_at ["_law_card", "_law_places"] [])(k_L_at:PySem.W.keepIn K (.ref f_L_at)=true)(m_L_at:mg "_law_at" = some (.ref f_L_at))(G_L_chosen:FnOk P w K mg base Jb 1 f_L_chosen d_L_chosen ["_law_holes", "_law_many"] (U3 K (Yy)))(b_L_chosen:Binds K d_L_chosen ["_law_holes", "_law_many"] [])(k_L_chosen:PySem.W.keepIn K (.ref f_L_chosen)=true)(m_L_chosen:mg "_law_chosen" = some (.ref f_L_chosen)):FnOk P w K mg base Jb 2 f fd ["_law_holes", "_law_deck_here", "_law_many", "_law_pairs"] (Ud K (rV)):=by
 refine' Kg (k:=1) F cH (λcdv A outer s H E hr=>?hb) ?h
 case hb =>
  have hr1:Room 1 _:=hr.mono (by decide)
  have hu64:=hr.units
  have CS1:∀{scope:Scope} (h:scope={ kind:=.function,names:=[(".0",.local),("_law_pair",.local),("_law_at",.globalImplicit),("_law_deck_here",.free),("_law_places",.free)],isGenerator:=false,isCoroutine:=false }),
    CompScope (Nz Jb P w K mg base ["_law_holes", "_law_deck_here", "_law_many", "_law_pairs", "_law_places"] "_law_bars" (By My) f cdv A outer s H E).nox scope [("_law_places",s.heap.objs.size+2),("_law_deck_here",s.heap.objs.size+1)] "_law_pair" ["_law_deck_here", "_law_places"] [1,4]:=by
   rintro scope rfl
   refine ⟨by rfl,.inl (by decide +kernel),by rfl,by decide +kernel,.inl rfl,λy c h=>?_,by rfl,by decide +kernel,rfl,λk y j e1 e2=>?_⟩
   ·have z:=Fh h
    simp only[An,Bv,or_false,Gu] at z
    rcases z with ⟨rfl,rfl⟩ | ⟨rfl,rfl⟩ <;> rfl
   ·match k,e1,e2 with
    | 0,e1,e2=>cases e1; cases e2; exact ⟨rfl,rfl,by first | exact .inl rfl | exact .inr rfl⟩
    | 1,e1,e2=>cases e1; cases e2; exact ⟨rfl,rfl,by first | exact .inl rfl | exact .inr rfl⟩
    | k+2,e1,e2=>cases e1
  exact Cf (Nl Ee rfl (o8 (Xf G_L_chosen hr1 rfl m_L_chosen k_L_chosen b_L_chosen Gg (Au (Ap (pv 0)) (Au (Ap (pv 2)) Bf)))) (Ki (i:=4) cH.nd rfl (Or.inr rfl))
   (Dc (Jj (Vr hu64 (Ma (CS1 rfl) rfl (o8 (Ap (pv 3))) (λ_ _ _=>Nc (Vr hu64 (Fy G_L_at hr1 rfl m_L_at k_L_at b_L_at Gg (Au (Fb (Ap (pv 1)) (Fb (Ap (pv 0)) Cs)) (Au (Ap (pv 2)) Bf))) (Fy G_L_at hr1 rfl m_L_at k_L_at b_L_at Gg (Au (Fb (Ap (pv 1)) (Fb (Ap (pv 0)) Cs)) (Au (Ap (pv 2)) Bf))))) (λ_ _ _=>Ap (pv 0))) (Km Bf))
    (Dc (Er Pe)) Hb)))
   (Dc (Er Pe))
 case h =>
  (intro ds R q_; obtain ⟨h,k,D,P,rfl,h1,k1,hD,lP,hP,hA,hR⟩ := q_)
  refine ⟨rfl,?_⟩
  array_get_dec
  refine ⟨h,k,rfl,h1,k1,?_⟩
  array_get_dec
  refine Zy (l:=iS h k) (g:=Bd) rfl (λi δ=>∃(v4:DV),δ=⟨[.dat .sh (.int h),.dat .sh (.list (D.map Bd)),.dat .sh (.int k),.dat .sh (.list (P.map Bd)),v4],0⟩/\NP v4) ?_ ?_ ?_
  ·exact ⟨_,rfl,Hz⟩
  ·(intro i u _ hu q_; obtain ⟨v4,rfl,hv4⟩ := q_)
   have mu:=wF.mp (Bc hu)
   have ru:=cw_rise mu
   array_get_dec
   refine Tf (l:=P) (g:=Bd) rfl (λq=>@decide (xO D u q) (En _)) Bd (λq hq yes no hy hn=>?_) ?_
   ·obtain ⟨a,b,rfl,lt,lb⟩:=hP q hq
    have hx:D[a]? = some D[a]:=Bu (by omega)
    have hyy:D[b]? = some D[b]:=Bu lb
    have rx:=hD D[a] (Hq _)
    have ry:=hD D[b] (Hq _)
    have lx:=Ov (rx.up (show (h:Int)<=60 by omega))
    have ly:=Ov (ry.up (show (h:Int)<=60 by omega))
    array_get_dec
    refine ⟨_,To hx,D[a],u,rfl,lx,?_⟩
    array_get_dec
    refine ⟨_,To hyy,D[b],u,rfl,ly,?_⟩
    array_get_dec
    refine Tq (λz=>?_) (λz=>?_)
    ·array_get_dec
     refine hy (@decide_eq_true _ (En _) ⟨a,b,_,_,rfl,lt,hx,hyy,?_⟩)
     rw[<- Oa ru.1 rx.1,<- Oa ru.1 ry.1]
     exact of_decide_eq_true z
    ·refine hn (@decide_eq_false _ (En _) ?_)
     (intro q_; obtain ⟨a',b',x',y',e,_,hx',hy',en⟩ := q_)
     injection e with e1 e2
     injection e2 with e2 _
     have e1:a=a':=by omega
     have e2:b=b':=by omega
     subst e1 e2
     rw[hx] at hx'
     rw[hyy] at hy'
     cases hx'
     cases hy'
     rw[<- Oa ru.1 rx.1,<- Oa ru.1 ry.1] at en
     exact of_decide_eq_false z en
   obtain ⟨q,hq,al⟩:=hA u mu
   have ne:q∈P.filter (λq=>@decide (xO D u q) (En _)):=Kd.mpr ⟨hq,@decide_eq_true _ (En _) al⟩
   obtain ⟨q0,Eo,er⟩ : ∃q0 Eo,P.filter (λq=>@decide (xO D u q) (En _))=q0::Eo:=by
    cases e:P.filter (λq=>@decide (xO D u q) (En _)) with
    | nil=>rw[e] at ne; cases ne
    | cons q0 Eo=>exact ⟨q0,Eo,rfl⟩
   rw[er]
   array_get_dec
   exact ⟨_,rfl,Ia⟩
  ·(intro _ q_; obtain ⟨v4,rfl,hv4⟩ := q_)
   array_get_dec
   exact hR
theorem aA:FnScope ["_law_holes", "_law_deck_here", "_law_told", "_law_many"] ["_law_holes", "_law_deck_here", "_law_told"] (By Ko):=⟨rfl,rfl,rfl,by decide +kernel,rfl,by decide +kernel,by decide +kernel⟩
theorem Zw{f f_L_chosen f_L_parted f_L_is_pair f_L_bars  : Addr}{fd d_L_chosen d_L_parted d_L_is_pair d_L_bars:Cv}(F:Fun K "_law_right" "_law_right" Ko f fd)(G_L_chosen:FnOk P w K mg base Jb 1 f_L_chosen d_L_chosen ["_law_holes", "_law_many"] (U3 K (Yy)))(b_L_chosen:Binds K d_L_chosen ["_law_holes", "_law_many"] [])(k_L_chosen:PySem.W.keepIn K (.ref f_L_chosen)=true)(m_L_chosen:mg "_law_chosen" = some (.ref f_L_chosen))(G_L_parted:FnOk P w K mg base Jb 2 f_L_parted d_L_parted ["_law_deck_here", "_law_places"] (Ud K (aM)))(b_L_parted:Binds K d_L_parted ["_law_deck_here", "_law_places"] [])(k_L_parted:PySem.W.keepIn K (.ref f_L_parted)=true)(m_L_parted:mg "_law_parted" = some (.ref f_L_parted))(G_L_is_pair:FnOk P w K mg base Jb 1 f_L_is_pair d_L_is_pair ["_law_deck_here", "_law_pair"] (Ud K (nP)))(b_L_is_pair:Binds K d_L_is_pair ["_law_deck_here", "_law_pair"] [])(k_L_is_pair:PySem.W.keepIn K (.ref f_L_is_pair)=true)(m_L_is_pair:mg "_law_is_pair" = some (.ref f_L_is_pair))(G_L_bars:FnOk P w K mg base Jb 2 f_L_bars d_L_bars ["_law_holes", "_law_deck_here", "_law_many", "_law_pairs"] (Ud K (rV)))(b_L_bars:Binds K d_L_bars ["_law_holes", "_law_deck_here", "_law_many", "_law_pairs"] [])(k_L_bars:PySem.W.keepIn K (.ref f_L_bars)=true)(m_L_bars:mg "_law_bars" = some (.ref f_L_bars))(mz_len:mg "len" = none)(mz_tuple:mg "tuple" = none)(mz_isinstance:mg "isinstance" = none)(mz_range:mg "range" = none)(mz_list:mg "list" = none):FnOk P w K mg base Jb 3 f fd ["_law_holes", "_law_deck_here", "_law_told"] (Ud K (mX)):=by
 refine' Kg (k:=2) F aA (λcdv A outer s H E hr=>?hb) ?h
 case hb =>
  have hr1:Room 1 _:=hr.mono (by decide)
  have hr2:Room 2 _:=hr.mono (by decide)
  have hu64:=hr.units
  have CS1:∀{scope:Scope} (h:scope={ kind:=.function,names:=[(".0",.local),("_law_pair",.local),("_law_is_pair",.globalImplicit),("_law_deck_here",.free)],isGenerator:=false,isCoroutine:=false }),
    CompScope (Nz Jb P w K mg base ["_law_holes", "_law_deck_here", "_law_told", "_law_many"] "_law_right" (By Ko) f cdv A outer s H E).nox scope [("_law_deck_here",s.heap.objs.size+1)] "_law_pair" ["_law_deck_here"] [1]:=by
   rintro scope rfl
   refine ⟨by rfl,.inl (by decide +kernel),by rfl,by decide +kernel,.inl rfl,λy c h=>?_,by rfl,by decide +kernel,rfl,λk y j e1 e2=>?_⟩
   ·have z:=Fh h
    simp only[An,Bv,or_false,Gu] at z
    obtain ⟨rfl,rfl⟩:=z; rfl
   ·match k,e1,e2 with
    | 0,e1,e2=>cases e1; cases e2; exact ⟨rfl,rfl,by first | exact .inl rfl | exact .inr rfl⟩
    | k+1,e1,e2=>cases e1
  have CS2:∀{scope:Scope} (h:scope={ kind:=.function,names:=[(".0",.local),("_law_places",.local),("_law_parted",.globalImplicit),("_law_deck_here",.free)],isGenerator:=false,isCoroutine:=false }),
    CompScope (Nz Jb P w K mg base ["_law_holes", "_law_deck_here", "_law_told", "_law_many"] "_law_right" (By Ko) f cdv A outer s H E).nox scope [("_law_deck_here",s.heap.objs.size+1)] "_law_places" ["_law_deck_here"] [1]:=by
   rintro scope rfl
   refine ⟨by rfl,.inl (by decide +kernel),by rfl,by decide +kernel,.inl rfl,λy c h=>?_,by rfl,by decide +kernel,rfl,λk y j e1 e2=>?_⟩
   ·have z:=Fh h
    simp only[An,Bv,or_false,Gu] at z
    obtain ⟨rfl,rfl⟩:=z; rfl
   ·match k,e1,e2 with
    | 0,e1,e2=>cases e1; cases e2; exact ⟨rfl,rfl,by first | exact .inl rfl | exact .inr rfl⟩
    | k+1,e1,e2=>cases e1
  exact Cf (Jj (Zt (Rk (Oj (Lm (Gd Uu Vd rfl mz_isinstance (by decide +kernel) (Au (Ap (pv 2)) (Au (aX (n := "tuple") rfl mz_tuple (by decide +kernel)) Bf))))) (Of (Tn hu64 (Gd Le Pr rfl mz_len (by decide +kernel) (Au (Ap (pv 2)) Bf)) Cs))))
   (Dc (Er Pe)) Hb)
   (Cf (Jj (Oj (Lm (Fy G_L_parted hr2 rfl m_L_parted k_L_parted b_L_parted Gg (Au (Ap (pv 1)) (Au (bD rfl rfl mz_tuple rfl mz_range (Ap (pv 0))) Bf)))))
   (Dc (Er (dR (bI hu64 (Fb (Ap (pv 2)) Cs) Yo) (dR (Fy G_L_is_pair hr1 rfl m_L_is_pair k_L_is_pair b_L_is_pair Gg (Au (Ap (pv 1)) (Au (tT (i:=false) (Ap (pv 2)) (gC Cs) hZ) Bf))) (sJ (bI hu64 (Fb (Ap (pv 1)) (Fb (Ap (pv 2)) Cs)) (Fb (Ap (pv 1)) (Fb (Ap (pv 2)) Cs)))))))) Hb)
   (Cf (Jj (Zt (Rk (Tn hu64 (Fb (Ap (pv 2)) Cs) Yo) (Rk (Oj (Lm (Gd Uu Vd rfl mz_isinstance (by decide +kernel) (Au (Fb (Ap (pv 2)) Cs) (Au (aX (n := "tuple") rfl mz_tuple (by decide +kernel)) Bf))))) (Of (Oj (Lm (Gd Uu Vd rfl mz_isinstance (by decide +kernel) (Au (Fb (Ap (pv 2)) Cs) (Au (aX (n := "list") rfl mz_list (by decide +kernel)) Bf)))))))))
   (Dc (Er Pe)) Hb)
   (Cf (Ez (i:=3) aA.nd rfl (Di rfl) (Gd Le Pr rfl mz_len (by decide +kernel) (Au (Fb (Ap (pv 2)) Cs) Bf)))
   (Cf (Jj (Zt (Rk (fI hu64 (Fb (Ap (pv 2)) Cs) (Xf G_L_chosen hr1 rfl m_L_chosen k_L_chosen b_L_chosen Gg (Au (Ap (pv 0)) (Au (Ap (pv 3)) Bf)))) (Of (Oj (Lm (Fy G_L_parted hr2 rfl m_L_parted k_L_parted b_L_parted Gg (Au (Ap (pv 1)) (Au (Fb (Ap (pv 2)) Cs) Bf))))))))
   (Dc (Er Pe)) Hb)
   (Cf (Jj (Tn hu64 (Ma (CS1 rfl) rfl (o8 (Fb (Ap (pv 2)) Cs)) (λ_ _ _=>Nc (Oj (Lm (Fy G_L_is_pair hr1 rfl m_L_is_pair k_L_is_pair b_L_is_pair Gg (Au (Ap (pv 1)) (Au (Ap (pv 0)) Bf)))))) (λ_ _ _=>Ap (pv 0))) (Km Bf))
   (Dc (Er Pe)) Hb)
   (Cf (Jj (Vr hu64 (Ap (pv 3)) Cs)
   (Dc (Er (bI hu64 (Fb (Ap (pv 2)) Cs) (Km Bf)))) Hb)
   (Cf (Jj (Tn hu64 (Ma (CS2 rfl) rfl (o8 (Xf G_L_chosen hr1 rfl m_L_chosen k_L_chosen b_L_chosen Gg (Au (Ap (pv 0)) (Au (Pv (Ap (pv 3)) Cs) Bf)))) (λ_ _ _=>Nc (Lm (Fy G_L_parted hr2 rfl m_L_parted k_L_parted b_L_parted Gg (Au (Ap (pv 1)) (Au (Ap (pv 0)) Bf))))) (λ_ _ _=>Ap (pv 0))) (Km Bf))
   (Dc (Er Pe)) Hb)
   (Dc (Er (Fy G_L_bars hr2 rfl m_L_bars k_L_bars b_L_bars Gg (Au (Ap (pv 0)) (Au (Ap (pv 1)) (Au (Pv (Ap (pv 3)) Cs) (Au (Fb (Ap (pv 2)) Cs) Bf))))))))))))))
 case h =>
  (intro ds R q_; obtain ⟨h,D,T,rfl,h0,h1,lD,hD,hT,hR⟩ := q_)
  refine ⟨rfl,?_⟩
  have l60:∀c∈D,c.length<=60:=λc hc=>Ov ((hD c hc).up (show (h:Int)<=60 by omega))
  have eU:(D.map λc=>Pk c (Ru h))=D:=by
   have e:(D.map λc=>Pk c (Ru h))=D.map id:=Gb λc hc=>(Oa (Uy h) (hD c hc).1).trans (Me (hD c hc))
   rw[e,List.map_id]
  rcases hT with ⟨i,j,x,lt,hi,hj,rfl⟩ | ⟨k,w,P,ndD,kh,mw,ndw,hB,rfl⟩
  ·unfold q8
   array_get_dec
   refine ⟨by omega,by omega,D,Ru h,rfl,lD,l60,λnd=>?_,λ_=>?_⟩
   ·rw[eU] at nd
    obtain ⟨i1,i2⟩:=Ak.mp hi
    obtain ⟨j1,j2⟩:=Ak.mp hj
    exact absurd (i2.trans j2.symm) (Dl.mp nd i j i1 j1 lt)
   array_get_dec
   refine ⟨D,[(i:Int),(j:Int)],rfl,⟨i,j,rfl,lt,(Ak.mp hj).1⟩,?_⟩
   array_get_dec
   refine ⟨_,To hi,_,To hj,?_⟩
   array_get_dec
   try rw[decide_eq_true rfl]
   exact hR
  ·unfold e7
   have lw:=(cw_mem.mp mw).1
   array_get_dec
   refine ⟨by omega,by omega,D,Ru h,rfl,lD,l60,λ_=>?_,λnd=>absurd ndD (by rw[<- eU]; exact nd)⟩
   array_get_dec
   rw[Ad,lw]
   refine ⟨h,k,rfl,by omega,by omega,?_⟩
   array_get_dec
   rw[decide_eq_true (wF.mpr mw)]
   array_get_dec
   have rw_:=cw_rise mw
   have eW:∀u:List Int,u.Pairwise (· < ·)->(D.map λc=>Pk c u)=D.map (Pk u):=λu ru=>Gb λc hc=>Oa ru (hD c hc).1
   refine ⟨D,w,rfl,lD,l60,λ_=>?_,λnd=>absurd ndw (by rw[<- eW w rw_.1]; exact nd)⟩
   array_get_dec
   refine Tf (l:=P) (g:=Bd) rfl (λ_=>false) Bd (λq hq yes no hy hn=>?_) ?_
   ·array_get_dec
    refine ⟨D,q,rfl,hB.ok q hq,?_⟩
    array_get_dec
    exact hn rfl
   rw[show P.filter (λ_=>false)=[] by simp]
   array_get_dec
   refine Ti (λz=>?_) (λz=>?_)
   ·have k0:k=0:=by have:=of_decide_eq_true z; omega
    rw[hB.none k0]
    array_get_dec
    exact hR
   ·have k0:k≠0:=by have:=of_decide_eq_false z; omega
    array_get_dec
    have ek:(k:Int) - 1=((k - 1:Nat):Int):=by omega
    rw[ek]
    refine ⟨h,k - 1,rfl,by omega,by omega,?_⟩
    array_get_dec
    refine Tf (l:=iS h (k - 1)) (g:=Bd) rfl (λ_=>false) Bd (λu hu yes no hy hn=>?_) ?_
    ·have mu:=wF.mp hu
     obtain ⟨q,hq,a,b,x,y,_,lt,hx,hyy,en⟩:=hB.all (by omega) u mu
     array_get_dec
     refine ⟨D,u,rfl,lD,l60,λnd=>?_,λ_=>?_⟩
     ·rw [eW u (cw_rise mu).1] at nd
      have gx:(D.map (Pk u))[a]? = some (Pk u x):=by rw[Bt,hx]; rfl
      have gy:(D.map (Pk u))[b]? = some (Pk u y):=by rw[Bt,hyy]; rfl
      obtain ⟨i1,i2⟩:=Ak.mp gx
      obtain ⟨j1,j2⟩:=Ak.mp gy
      exact absurd (i2.trans (en.trans j2.symm)) (Dl.mp nd a b i1 j1 lt)
     ·array_get_dec
      exact hn rfl
    rw[show (iS h (k - 1)).filter (λ_=>false)=[] by simp]
    array_get_dec
    rw[ek]
    refine ⟨h,k - 1,D,P,rfl,h1,by omega,hD,hB.few,hB.ok,hB.all (by omega),?_⟩
    array_get_dec
    exact hR
end
end K56
namespace DL
open PySem PySem.Spec PyProof.Rows L2 Nd
def t8(i:Nat):DB:=λD δ=>∃(d0 d1:Ac) (ds:List Ac),δ.sl[i]? = some (.dat .ow (.tuple [d0,d1,.list ds]))/\npk δ.sl=true/\imm d0=true/\imm d1=true/\Dy ds=true/\ds.length<1000000 /\
 D.nx ⟨δ.sl.set i (.dat .ow (.tuple [d0,d1,.list (ds++[.none])])),δ.n⟩
section
variable{X:Cx}{o e:Expr}{apos cpos pos ip sp:Pos}{i j:Nat}
theorem yN(ho:PE X o (dI i))(he:PE X e (tC .non))
  (hbase:Qz (.Subscript o (.Constant (.int (2:Int)) j ip) sp) "append" X.env (eval (.Subscript o (.Constant (.int (2:Int)) j ip) sp) X.env)=eval (.Subscript o (.Constant (.int (2:Int)) j ip) sp) X.env:=by rfl)
  (hfew:((Ic cpos (Bs [e] X.env)).all (λx=>!x.1) && (backToKw cpos (Vw [] X.env)).all (λx=>x.1.isSome)
   && decide (([e]:List Expr).length+([]:List Qe).length+(if ([]:List Qe).isEmpty then 0 else 1)<30))=true:=by rfl)
  (hline:(apos.endLine == cpos.line)=true:=by rfl) (hs:Bs [e] X.env=(false,eval e X.env)::Bs [] X.env:=by rfl) (hplain:(Ic cpos (Bs [] X.env)).any (·.1)=false:=by rfl)
  (hsw:Lg (.Call (.Attribute (.Subscript o (.Constant (.int (2:Int)) j ip) sp) "append" apos) [e] [] cpos) none pos.line X.env=pure false:=by rfl) :
  jE X (.Expr (.Call (.Attribute (.Subscript o (.Constant (.int (2:Int)) j ip) sp) "append" apos) [e] [] cpos) pos) (t8 i):=by
 refine PS.impD (lZ (n6 PySem.F.plainAttrs_list PySem.F.slot_list_append PySem.F.type_list_append Qg (Vp (r:=E6 X.K) w4 ho Es (λ_ _=>rfl)) (Hy he Om hs) hbase hfew hline hs hplain) hsw) λD σ H h=>?_
 obtain ⟨H0,Y,S,T,δ,P,rfl,hS,hT,hA,⟨d0,d1,ds,h1,np,m0,m1,m2,lC,hD⟩,k1,k2,k3,k4⟩:=h
 obtain ⟨ent,e2,e3⟩:=Kj hS h1
 have hmS:ent∈S:=Bc e2
 obtain ⟨u,y,F'⟩:=ent
 have e3':y=.dat .ow (.tuple [d0,d1,.list ds]):=e3
 subst e3'
 obtain ⟨v,hv,rd,nd,_⟩:=hA.ok _ (Aq _ hmS)
 have hv':u=some v:=hv
 subst hv'
 obtain ⟨t,xs,rfl,ht,ra,hz⟩:=rd.tup_inv
 cases ra with
 | @cons x0 _ xs' _ F0 G0 a0 ra1 =>
 cases ra1 with
 | @cons x1 _ xs'' _ F1 G1 a1 ra2 =>
 cases ra2 with
 | @cons x2 _ xs3 _ F2 G2 a2 ra3 =>
 cases ra3
 obtain rfl:=a0.imm m0
 obtain rfl:=a1.imm m1
 obtain ⟨r,ys,Gr,rfl,hr,ry,rfl,_⟩:=a2.list_inv
 obtain rfl:=ry.imm m2
 have ly:=ry.len
 have ntr:t≠r:=λz=>by rw[z,hr] at ht; cases ht
 refine ⟨.ref t,by rw[Pd e2],t,_,2,.ref r,rfl,rfl,Sg.of ht,cP (j:=2) rfl,.inl ⟨rfl,_,Sn.of hr⟩,r,ys,.non,rfl,rfl,hr,Bx (by rw[ly]; exact lC) (pK (n:=1000000) (Ah _)),?_⟩
 have hn:=dJ hS np
 have pm:(S++T).Perm (⟨some (.ref t),.dat .ow (.tuple [d0,d1,.list ds]),[r]⟩::(S.eraseIdx i++T)):=(Ik e2).append_right T
 have npE:∀f∈S.eraseIdx i++T,Mu f.x=false:=λf hf=>by
  rcases Ay.mp hf with hf | hf
  ·exact hn f ((Ri S i).subset hf)
  ·exact hT f hf
 have hAp:=hA.perm pm
 have keep:∀b o,H b=some o->(b∉[r]\/AA o)->upd H r (.lst (ys++[.non])) b=some o:=λb o e z=>by
  have nb:b≠r:=λq=>by
   subst q
   rcases z with z | z
   ·exact z Aa
   ·rw[hr] at e
    cases e
    rcases z with ⟨_,z⟩ | ⟨_,_,z⟩ <;> cases z
  rw[Eg nb]
  exact e
 have hA1:=hAp.spoil npE keep
 have hsep:=(Bh.mp hAp.sep).1
 have nr0:r∉([]:List Addr):=λz=>nomatch z
 have rd':RdF X.K (upd H r (.lst (ys++[.non]))) (.ref t) (.tuple [d0,d1,.list (ds++[.none])]) [r]:=by
  refine .tup (by rw[Eg ntr]; exact ht) hz (RdFs.cons (F:=[]) (a0.kp (kC hr nr0)) (RdFs.cons (F:=[]) (a1.kp (kC hr nr0)) (RdFs.cons (F:=[r]) (G:=[]) ?_ .nil)))
  have r1:RdFs X.K (upd H r (.lst (ys++[.non]))) (ys++[.non]) (ds++[.none]) ([]++[]):=(ry.kp (kC hr nr0)).snoc .non
  exact .lst Du (by rw[Bn]; exact pK (by simp; omega)) r1
 have hA2:=hA1.pushF rd' (Ci.mpr ⟨nr0,Cz⟩) (λa ha f hf=>(hsep f hf).1 (.inl (npE f hf)) a ha) λa ha=>by
  rcases hAp.new _ Aa a ha with z | z
  ·exact z
  ·cases z.2
 obtain ⟨s1,s2⟩:=rP (y:=.dat .ow (.tuple [d0,d1,.list (ds++[.none])])) (F':=[r]) e2 hS
 rw[<- s1]
 exact k1 ⟨_,_⟩ _ _ s2 (hA2.perm ((Vg e2).append_right T).symm) hD
end
end DL
namespace K56
open PySem L2 Nd DL
local macro_rules | `(tactic| array_get_dec) => do
  let ids:=(("e_ssW e_ssWB e_lenSet e_lsB e_seq e_skip e_ret e_if e_asg e_name e_name2 e_name4 e_own e_nF e_gtup e_gsn e_gsc e_op e_var e_c e_imm e_immB e_take e_I e_I0 e_eqF e_eqT e_inTl e_inFt_w1 e_isNF e_isNT e_ixl e_ixt e_ixt_w1 e_cat e_catT_w1 e_nlT e_ntT e_ntF e_pkOfsh e_pkOfow e_mdInsh e_mdInow e_mdItsh e_mdItow e_nil e_cons e_tup e_lst e_noPart e_part e_partB e_sl e_slBt e_cb e_lenl e_lent e_lent_w1 e_listl e_tuplel e_intb e_min2 e_isi e_v e_b e_bB e_notT e_andT e_orT e_orTf e_and e_andt e_neg e_negB e_dL e_dTp e_lB e_tpB_w1 e_range1 e_rng1B e_enum e_enumB e_for e_comp e_noTest e_step e_stepT e_stepF e_yesB e_call e_callW e_draws e_drawsB e_append e_aug e_augB e_scrSl e_dnew e_dput e_tagD e_callA e_tr e_trB callAB retA retA_sh isDct dputB dk_e dget_e dinF_e callB callBW tupB lstB datas pkMd allOw noPk appB own1 npk retE retW retL args0 frD frD1 alD List.map_cons List.map_nil List.replicate List.getElem?_cons_zero List.getElem?_cons_succ List.set_cons_zero List.set_cons_succ List.cons_append List.nil_append Option.map_some List.length_cons List.length_nil List.append_nil rdAdd rdSub rdMul rdDiv rdMod rdLt rdLe rdGt rdGe if_true Nat.reduceAdd Nat.reduceSub Nat.reduceLeDiff true_and im_e ima_e dp_e dpa_e any_int any_word eqD_intd eqD_word eqD_bl eqD_str eqD_lw eqD_l0 ow_e tt_e cdiv_e Int.reduceLT Int.reduceLE Int.reduceNeg and_self Int.reduceToNat fold_w isi_li isi_tt isi_ib isi_ii isi_wt Bool.not_true Bool.not_false decide_true String.reduceEq or_true true_or List.isEmpty_nil ifB_lt ifB_lf str_self Int.cast_ofNat_Int atI_0 atI_1 atI_2 some_e dec_self isE_cons st_same_places" : String).splitOn " ").toArray.map λ(x:String)=>Lean.mkIdent x.toName
  `(tactic| try simp only [$[↓$ids:ident],*])
section
variable{P:Be}{w:World}{K:PySem.W.Frag}{mg:Str->Option Value}{base:Heap}
theorem G8:FnScope ["_law_script", "_law_cell", "_law_draws_here", "_law_holes", "_law_deck_here", "_law_handed", "_law_turn", "_law_told"] ["_law_script"] (By bY):=⟨rfl,rfl,rfl,by decide +kernel,rfl,by decide +kernel,by decide +kernel⟩
theorem M5{f f_fewest_places f_L_draws f_L_deck f_L_few f_L_right  : Addr}{fd d_fewest_places d_L_draws d_L_deck d_L_few d_L_right:Cv}(F:Fun K "law" "law" bY f fd)(G_fewest_places:FnOk P w K mg base Jb 4 f_fewest_places d_fewest_places ["holes", "deck"] (Ud K (iP)))(b_fewest_places:Binds K d_fewest_places ["holes", "deck"] [])(k_fewest_places:PySem.W.keepIn K (.ref f_fewest_places)=true)(m_fewest_places:mg "fewest_places" = some (.ref f_fewest_places))(G_L_draws:FnOk P w K mg base Jb 1 f_L_draws d_L_draws ["_law_cell"] (So))(b_L_draws:Binds K d_L_draws ["_law_cell"] [])(k_L_draws:PySem.W.keepIn K (.ref f_L_draws)=true)(m_L_draws:mg "_law_draws" = some (.ref f_L_draws))(G_L_deck:FnOk P w K mg base Jb 3 f_L_deck d_L_deck ["_law_draws_here", "_law_holes"] (nB K (uD)))(b_L_deck:Binds K d_L_deck ["_law_draws_here", "_law_holes"] [])(k_L_deck:PySem.W.keepIn K (.ref f_L_deck)=true)(m_L_deck:mg "_law_deck" = some (.ref f_L_deck))(G_L_few:FnOk P w K mg base Jb 2 f_L_few d_L_few ["_law_draws_here"] (nB K (o9)))(b_L_few:Binds K d_L_few ["_law_draws_here"] [])(k_L_few:PySem.W.keepIn K (.ref f_L_few)=true)(m_L_few:mg "_law_few" = some (.ref f_L_few))(G_L_right:FnOk P w K mg base Jb 3 f_L_right d_L_right ["_law_holes", "_law_deck_here", "_law_told"] (Ud K (mX)))(b_L_right:Binds K d_L_right ["_law_holes", "_law_deck_here", "_law_told"] [])(k_L_right:PySem.W.keepIn K (.ref f_L_right)=true)(m_L_right:mg "_law_right" = some (.ref f_L_right))(mz_list:mg "list" = none)(mz_range:mg "range" = none):FnOk P w K mg base Jb 5 f fd ["_law_script"] (spLawD K):=by
 refine' K8 (k:=4) F G8 (λcdv A outer s H E hr=>?hb) ?h
 case hb =>
  have hr1:Room 1 _:=hr.mono (by decide)
  have hr2:Room 2 _:=hr.mono (by decide)
  have hr3:Room 3 _:=hr.mono (by decide)
  have hr4:Room 4 _:=hr.mono (by decide)
  have hu64:=hr.units
  exact Cf (Nl Ee rfl (o8 (rS (vR (pv 0) hZ (gC Cs)) (Km (Au Cs Bf)))) (Ki (i:=1) G8.nd rfl (Di rfl))
   (Cf (Ez (i:=2) G8.nd rfl (Di rfl) (sQ G_L_draws hr1 rfl m_L_draws k_L_draws b_L_draws Gg (Au (Ap (pv 1)) Bf)))
    (Cf (Ez (i:=3) G8.nd rfl (Di rfl) (Mm G_L_few hr2 rfl m_L_few k_L_few b_L_few Gg (pv 2) Bf))
    (Cf (Ez (i:=4) G8.nd rfl (Di rfl) (Mm G_L_deck hr3 rfl m_L_deck k_L_deck b_L_deck Gg (pv 2) (Au (Ap (pv 3)) Bf)))
    (Cf (Ez (i:=5) G8.nd rfl (Di rfl) (Mc yC (zI (i:=true)) rfl mz_list (by decide +kernel) (Au (Ap (pv 4)) Bf)))
    (Dc (Nl Ee rfl (Jo rfl mz_range (Au Cs Bf)) (Ki (i:=6) G8.nd rfl (Di rfl))
    (Cf (Oo (i:=7) G8.nd rfl (Di rfl) (Fy G_fewest_places hr4 rfl m_fewest_places k_fewest_places b_fewest_places Gg (Au (Ap (pv 3)) (Au (Ap (pv 5)) Bf))))
     (Cf (Jj (Zt (Rk (Tn hu64 (Ap (pv 5)) (Ap (pv 4))) (Of (Oj (Lm (Fy G_L_right hr3 rfl m_L_right k_L_right b_L_right Gg (Au (Ap (pv 3)) (Au (Ap (pv 4)) (Au (Ap (pv 7)) Bf)))))))))
     (Dc (Er Pe)) Hb)
     (Dc (Jj (Vr hu64 (Fb (Ap (pv 7)) Cs) Yo)
     (Dc (yN (pv 7) qO)) Hb)))))))))))
   (Dc (Er Pe))
 case h =>
  intro ns h63
  array_get_dec
  have lc:(Nr ns none (some 4)).length<=4:=W3 4
  refine ⟨by rw[Ad]; omega,?_⟩
  refine Zy (l:=Nr ns none (some 4)++[0]) (g:=Ca) (by rw[Cb]; rfl) (λi δ=>∃(v1 v2 v3 v4 v5 v6 v7:DV) (n':Nat),δ=⟨[.scr ns,v1,v2,v3,v4,v5,v6,v7],n'⟩/\NP v1/\NP v2/\NP v3/\NP v4/\NP v5/\NP v6/\NP v7/\n'<=100 * i) ?_ ?_ ?_
  ·exact ⟨_,_,_,_,_,_,_,_,rfl,Hz,Hz,Hz,Hz,Hz,Hz,Hz,by omega⟩
  ·(intro i c _ hc q_; obtain ⟨v1,v2,v3,v4,v5,v6,v7,n0,rfl,hv1,hv2,hv3,hv4,hv5,hv6,hv7,hn⟩ := q_)
   have hi:i<5:=by
    have:=(Ak.mp hc).1
    rw[Bn,Lk] at this
    omega
   array_get_dec
   refine ⟨rfl,by omega,λhh hh0 hh1=>?_⟩
   obtain ⟨m,rfl⟩ : ∃m:Nat,hh=(m:Int):=⟨hh.toNat,by omega⟩
   array_get_dec
   refine ⟨m,rfl,by omega,by omega,by omega,λD n1 na nb lD hD=>?_⟩
   array_get_dec
   refine Zy (l:=Bp 3) (g:=λi:Nat=>.int i) rfl (λ_ δ=>∃(v6 v7:DV),δ=⟨[.scr ns,.dat .sh (.int c),.drw,.dat .sh (.int m),.dat .sh (.list (D.map Bd)),.dat .sh (.list (D.map Bd)),v6,v7],n1⟩/\NP v6/\NP v7) ?_ ?_ ?_
   ·exact ⟨_,_,rfl,hv6,hv7⟩
   ·(intro j a _ ha q_; obtain ⟨v6,v7,rfl,hv6,hv7⟩ := q_)
    array_get_dec
    refine ⟨m,D,rfl,by omega,by omega,by omega,hD,λi j x lt hi hj=>?_,λk w P nd kh mw ndw hB=>?_⟩
    ·array_get_dec
     refine ⟨m,D,_,rfl,by omega,by omega,by omega,hD,.inl ⟨i,j,x,lt,hi,hj,rfl⟩,?_⟩
     array_get_dec
     exact ⟨_,_,rfl,Ia,sH⟩
    ·array_get_dec
     refine ⟨m,D,_,rfl,by omega,by omega,by omega,hD,.inr ⟨k,w,P,nd,kh,mw,ndw,hB,rfl⟩,?_⟩
     array_get_dec
     have lP:=hB.few
     unfold t8
     refine ⟨_,_,_,rfl,rfl,rfl,?_,Sa _,by rw[Ad]; omega,_,_,rfl,Ia,sH⟩
     array_get_dec
   ·(intro _ q_; obtain ⟨v6,v7,rfl,hv6,hv7⟩ := q_)
    exact ⟨_,_,_,_,_,_,_,_,rfl,Ia,E5,Ia,Ia,Ia,hv6,hv7,by omega⟩
  ·(intro _ q_; obtain ⟨v1,v2,v3,v4,v5,v6,v7,n0,rfl,_⟩ := q_)
   array_get_dec
end
structure Def(K:PySem.W.Frag)(x:Str)(st:Stmt)(f:Addr)(fd:Cv):Prop where
 nm:PySem.W.nsIn K Ct x=some (some (.ref f))
 fn:Fun K x x st f fd
theorem def_mk{K:PySem.W.Frag}{x:Str}{st:Stmt}{f:Addr}{od an:Option Addr}{sl:Array (Option Value)}{oc kV dc pm cd ct:Value}(a:PySem.W.nsIn K Ct x=some (some (.ref f)))(l:K.lookup f=some ⟨oc,od,.func (PySem.W.fnOf x x (Mx st) (Iz st) (By st) .none kV dc pm an cd ct),sl⟩)(c:PySem.W.codeIn K cd x=true)(k:PySem.W.keepIn K (.ref f)=true):Def K x st f (PySem.W.fnOf x x (Mx st) (Iz st) (By st) .none kV dc pm an cd ct):=⟨a,vD l c k⟩
theorem CN{P:List Value->Prop}(h:P []):∀us:List Value,us.length=0->P us
 | [],_=>h
theorem Y4{P:List Value->Prop}{n:Nat}(h:∀a (us:List Value),us.length=n->P (a::us)):∀us:List Value,us.length=n+1->P us
 | a::us,e=>h a us (Nat.succ.inj e)
theorem Y8{P:List Value->Prop}(h:∀a0,P [a0]):∀us:List Value,us.length=1->P us:=Y4 λa us e=>CN (P:=λus=>P (a::us)) (h a) us e
theorem qK{P:List Value->Prop}(h:∀a0 a1,P [a0,a1]):∀us:List Value,us.length=2->P us:=Y4 λa us e=>Y8 (P:=λus=>P (a::us)) (h a) us e
theorem AJ{P:List Value->Prop}(h:∀a0 a1 a2,P [a0,a1,a2]):∀us:List Value,us.length=3->P us:=Y4 λa us e=>qK (P:=λus=>P (a::us)) (h a) us e
theorem CP{P:List Value->Prop}(h:∀a0 a1 a2 a3,P [a0,a1,a2,a3]):∀us:List Value,us.length=4->P us:=Y4 λa us e=>AJ (P:=λus=>P (a::us)) (h a) us e
theorem all_mk{l:PySem.W.OpenLaw}{q:Be}{w:World}{K:PySem.W.Frag}{h:Heap}{mg:Str->Option Value}{fa f1 f2 f3 f4 f5 f6 f7 f8 f9 f10 f11 f12 f13 f14 f15 f16 f17 f18:Addr}{d1 d2 d3 d4 d5 d6 d7 d8 d9 d10 d11 d12 d13 d14 d15 d16 d17:Cv}(X:K.In h)(G:h.Ns Ct mg)(hfa:mg "law" = some (.ref fa)){od an:Option Addr}{sl:Array (Option Value)}{oc kV dc pm cd ct:Value}(D1:Def K "_law_draws" dN f1 d1)(D2:Def K "_law_next" mO f2 d2)(D3:Def K "choose" Xe f3 d3)(D4:Def K "word_at" Vb f4 d4)(D5:Def K "words_of" Os f5 d5)(D6:Def K "notches_at" Ly f6 d6)(D7:Def K "alike_at" Rz f7 d7)(D8:Def K "fewest_places" Ll f8 d8)(D9:Def K "_law_small" Ol f9 d9)(D10:Def K "_law_at" Qi f10 d10)(D11:Def K "_law_deck" Ng f11 d11)(D12:Def K "_law_few" Rw f12 d12)(D13:Def K "_law_chosen" La f13 d13)(D14:Def K "_law_parted" Kz f14 d14)(D15:Def K "_law_is_pair" Kk f15 d15)(D16:Def K "_law_bars" My f16 d16)(D17:Def K "_law_right" Ko f17 d17)(aL:PySem.W.nsIn K Ct "law" = some (some (.ref f18)))(lL:K.lookup f18=some ⟨oc,od,.func (PySem.W.fnOf "law" "law" (Mx bY) (Iz bY) (By bY) .none kV dc pm an cd ct),sl⟩)(cL:PySem.W.codeIn K cd "law" = true)(kL:PySem.W.keepIn K (.ref f18)=true)(z1:PySem.W.nsIn K Ct "min" = some none)(z2:PySem.W.nsIn K Ct "range" = some none)(z3:PySem.W.nsIn K Ct "len" = some none)(z4:PySem.W.nsIn K Ct "tuple" = some none)(z5:PySem.W.nsIn K Ct "enumerate" = some none)(z6:PySem.W.nsIn K Ct "sorted" = some none)(z7:PySem.W.nsIn K Ct "set" = some none)(z8:PySem.W.nsIn K Ct "int" = some none)(z9:PySem.W.nsIn K Ct "isinstance" = some none)(z10:PySem.W.nsIn K Ct "bool" = some none)(z11:PySem.W.nsIn K Ct "list" = some none)(tz_often:PySem.W.nsIn K Ct "often" = some none)(tz_cut_by:PySem.W.nsIn K Ct "cut_by" = some none):dY q K/\∃fd:Cv,(∀(s:Ag) (v:Value),BindsTo s fd ⟨[v],[]⟩ [("_law_script",v)])/\∀base:Heap,K.In base->base.Ns Ct mg->FnOk l.prog w K mg base Jb 5 fa fd ["_law_script"] (DL.spLawD K):=by
 have e:=hfa.symm.trans (PySem.W.mg_of X G aL)
 cases e
 have FL:=vD (st:=bY) lL cL kL
 have b1:=D1.fn.binds (ps:=["_law_cell"]) λ_ _ _ _ _ _=>Y8 (λ_=>rfl)
 have b2:=D2.fn.binds (ps:=["_law_draws_here"]) λ_ _ _ _ _ _=>Y8 (λ_=>rfl)
 have b3:=D3.fn.binds (ps:=["n", "k"]) λ_ _ _ _ _ _=>qK (λ_ _=>rfl)
 have b4:=D4.fn.binds (ps:=["holes", "many", "number"]) λ_ _ _ _ _ _=>AJ (λ_ _ _=>rfl)
 have b5:=D5.fn.binds (ps:=["holes", "many"]) λ_ _ _ _ _ _=>qK (λ_ _=>rfl)
 have b6:=D6.fn.binds (ps:=["card", "places"]) λ_ _ _ _ _ _=>qK (λ_ _=>rfl)
 have b7:=D7.fn.binds (ps:=["deck", "places"]) λ_ _ _ _ _ _=>qK (λ_ _=>rfl)
 have b8:=D8.fn.binds (ps:=["holes", "deck"]) λ_ _ _ _ _ _=>qK (λ_ _=>rfl)
 have b9:=D9.fn.binds (ps:=["_law_draws_here", "_law_holes"]) λ_ _ _ _ _ _=>qK (λ_ _=>rfl)
 have b10:=D10.fn.binds (ps:=["_law_card", "_law_places"]) λ_ _ _ _ _ _=>qK (λ_ _=>rfl)
 have b11:=D11.fn.binds (ps:=["_law_draws_here", "_law_holes"]) λ_ _ _ _ _ _=>qK (λ_ _=>rfl)
 have b12:=D12.fn.binds (ps:=["_law_draws_here"]) λ_ _ _ _ _ _=>Y8 (λ_=>rfl)
 have b13:=D13.fn.binds (ps:=["_law_holes", "_law_many"]) λ_ _ _ _ _ _=>qK (λ_ _=>rfl)
 have b14:=D14.fn.binds (ps:=["_law_deck_here", "_law_places"]) λ_ _ _ _ _ _=>qK (λ_ _=>rfl)
 have b15:=D15.fn.binds (ps:=["_law_deck_here", "_law_pair"]) λ_ _ _ _ _ _=>qK (λ_ _=>rfl)
 have b16:=D16.fn.binds (ps:=["_law_holes", "_law_deck_here", "_law_many", "_law_pairs"]) λ_ _ _ _ _ _=>CP (λ_ _ _ _=>rfl)
 have b17:=D17.fn.binds (ps:=["_law_holes", "_law_deck_here", "_law_told"]) λ_ _ _ _ _ _=>AJ (λ_ _ _=>rfl)
 have m1:=PySem.W.mg_of X G D1.nm
 have m2:=PySem.W.mg_of X G D2.nm
 have m3:=PySem.W.mg_of X G D3.nm
 have m4:=PySem.W.mg_of X G D4.nm
 have m5:=PySem.W.mg_of X G D5.nm
 have m6:=PySem.W.mg_of X G D6.nm
 have m7:=PySem.W.mg_of X G D7.nm
 have m8:=PySem.W.mg_of X G D8.nm
 have m9:=PySem.W.mg_of X G D9.nm
 have m10:=PySem.W.mg_of X G D10.nm
 have m11:=PySem.W.mg_of X G D11.nm
 have m12:=PySem.W.mg_of X G D12.nm
 have m13:=PySem.W.mg_of X G D13.nm
 have m14:=PySem.W.mg_of X G D14.nm
 have m15:=PySem.W.mg_of X G D15.nm
 have m16:=PySem.W.mg_of X G D16.nm
 have m17:=PySem.W.mg_of X G D17.nm
 have y1:=PySem.W.mg_none_of X G z1
 have y2:=PySem.W.mg_none_of X G z2
 have y3:=PySem.W.mg_none_of X G z3
 have y4:=PySem.W.mg_none_of X G z4
 have y5:=PySem.W.mg_none_of X G z5
 have y6:=PySem.W.mg_none_of X G z6
 have y7:=PySem.W.mg_none_of X G z7
 have y8:=PySem.W.mg_none_of X G z8
 have y9:=PySem.W.mg_none_of X G z9
 have y10:=PySem.W.mg_none_of X G z10
 have y11:=PySem.W.mg_none_of X G z11
 have tn_often:=DL.tab_no tz_often
 have tn_cut_by:=DL.tab_no tz_cut_by
 refine ⟨oE tn_often tn_cut_by,PySem.W.fnOf "law" "law" (Mx bY) (Iz bY) (By bY) .none kV dc pm an cd ct,λs v=>.of_eq rfl,λbase _ _=>?_⟩
 have g1:=pB (P:=l.prog) (w:=w) (mg:=mg) (base:=base) D1.fn
 have g2:=rO (P:=l.prog) (w:=w) (mg:=mg) (base:=base) D2.fn
 have g3:=oK (P:=l.prog) (w:=w) (mg:=mg) (base:=base) D3.fn y1 y2
 have g4:=kH (P:=l.prog) (w:=w) (mg:=mg) (base:=base) D4.fn g3 b3 D3.fn.kp m3 y3
 have g5:=iR (P:=l.prog) (w:=w) (mg:=mg) (base:=base) D5.fn g3 b3 D3.fn.kp m3 g4 b4 D4.fn.kp m4 y2
 have g6:=aE (P:=l.prog) (w:=w) (mg:=mg) (base:=base) D6.fn y4
 have g7:=eL (P:=l.prog) (w:=w) (mg:=mg) (base:=base) D7.fn g6 b6 D6.fn.kp m6 y5
 have g8:=Uo (P:=l.prog) (w:=w) (mg:=mg) (base:=base) D8.fn g5 b5 D5.fn.kp m5 g7 b7 D7.fn.kp m7 y4 y2 y6 y7
 have g9:=aC (P:=l.prog) (w:=w) (mg:=mg) (base:=base) D9.fn g2 b2 D2.fn.kp m2 y2 y4
 have g10:=jS (P:=l.prog) (w:=w) (mg:=mg) (base:=base) D10.fn y4
 have g11:=bZ (P:=l.prog) (w:=w) (mg:=mg) (base:=base) D11.fn g2 b2 D2.fn.kp m2 g9 b9 D9.fn.kp m9 y2 y3 y4
 have g12:=eM (P:=l.prog) (w:=w) (mg:=mg) (base:=base) D12.fn g2 b2 D2.fn.kp m2 y8
 have g13:=Yr (P:=l.prog) (w:=w) (mg:=mg) (base:=base) D13.fn y2
 have g14:=Yw (P:=l.prog) (w:=w) (mg:=mg) (base:=base) D14.fn g10 b10 D10.fn.kp m10 y3 y7
 have g15:=We (P:=l.prog) (w:=w) (mg:=mg) (base:=base) D15.fn y3 y4 y9 y8 y10
 have g16:=cR (P:=l.prog) (w:=w) (mg:=mg) (base:=base) D16.fn g10 b10 D10.fn.kp m10 g13 b13 D13.fn.kp m13
 have g17:=Zw (P:=l.prog) (w:=w) (mg:=mg) (base:=base) D17.fn g13 b13 D13.fn.kp m13 g14 b14 D14.fn.kp m14 g15 b15 D15.fn.kp m15 g16 b16 D16.fn.kp m16 y3 y4 y9 y2 y11
 exact M5 FL g8 b8 D8.fn.kp m8 g1 b1 D1.fn.kp m1 g11 b11 D11.fn.kp m11 g12 b12 D12.fn.kp m12 g17 b17 D17.fn.kp m17 y11 y2
theorem walk{l:PySem.W.OpenLaw}{q:Be}{loose:List Str}{XP:(Str->Option Value)->Heap->Prop}{YP:World->Heap->Prop}{d:DefRec}{K:Params->PySem.W.Frag}(hn:l.most=some 63)(hdf:d.params.defaults=[])(hY:∀(w:World) (h:Heap),YP w h->(K w.params).In h)(F:∀(w:World) (mg:Str->Option Value) (fa:Addr) (h:Heap),(K w.params).In h->h.Ns Ct mg->mg d.name=some (.ref fa)->dY q (K w.params)/\∃fd:Cv,(∀(s:Ag) (u:Value),BindsTo s fd ⟨[u],[]⟩ [("_law_script",u)])/\∀base:Heap,(K w.params).In base->base.Ns Ct mg->FnOk l.prog w (K w.params) mg base Jb 5 fa fd ["_law_script"] (DL.spLawD (K w.params))):PySem.W.WalkO q loose XP YP l.row.toRowW d [] (λf vs=>PySem.call f vs) :=
 L2.walk_ofD (n:=63) (k:=5) (x := "_law_script") (CX:=λ_=>Jb) (sp:=λw=>DL.spLawD (K w.params)) hn (by decide) hdf ⟨rfl,by decide,by decide,rfl⟩ hY F (λ_ _ a ns hl _ hS=>⟨a,ns,rfl,hS,hl,λ_=>rfl⟩) λ_ _ _ _ _ z=>z
end K56
theorem CZ:PySem.Challenge.rw_needledeck_k56_fewest_places.wellSaid=true:=by kernel_rfl
open PySem PySem.W PyProof.Rows
local macro_rules | `(tactic| refine $h:ident (q := $q) (loose := $l) (Xt := $a) (XP := $b) (Yf := $c) (Ya := $d) (YP := $e) (N := $n) ?hl $y*) => `(tactic| refine $h:ident (q := $q) (loose := $l) (Xt := $a) (XP := $b) (Yf := $c) (Ya := $d) (YP := $e) (N := $n) (fun _ => by kernel_rfl) $y*)
set_option maxRecDepth 100000 in
set_option maxHeartbeats 0 in
theorem PySem.Challenge.cw_needledeck_k56_fewest_places_holds : PySem.Challenge.rw_needledeck_k56_fewest_places.Holds := by
 w_on; refine holds_law CZ λsaid=>?_; k_head; (case hw=>w_witness2)
 k_fill
 refine K56.walk (l:=PySem.Challenge.rw_needledeck_k56_fewest_places) rfl rfl (λw h Y=>PySem.W.kIn_of Y) ?F
 case F =>
  intro w mg fa h KX G hmg
  refine' K56.all_mk KX G hmg (K56.def_mk ?a1 ?l1 ?c1 ?k1) (K56.def_mk ?a2 ?l2 ?c2 ?k2) (K56.def_mk ?a3 ?l3 ?c3 ?k3) (K56.def_mk ?a4 ?l4 ?c4 ?k4) (K56.def_mk ?a5 ?l5 ?c5 ?k5) (K56.def_mk ?a6 ?l6 ?c6 ?k6) (K56.def_mk ?a7 ?l7 ?c7 ?k7) (K56.def_mk ?a8 ?l8 ?c8 ?k8) (K56.def_mk ?a9 ?l9 ?c9 ?k9) (K56.def_mk ?a10 ?l10 ?c10 ?k10) (K56.def_mk ?a11 ?l11 ?c11 ?k11) (K56.def_mk ?a12 ?l12 ?c12 ?k12) (K56.def_mk ?a13 ?l13 ?c13 ?k13) (K56.def_mk ?a14 ?l14 ?c14 ?k14) (K56.def_mk ?a15 ?l15 ?c15 ?k15) (K56.def_mk ?a16 ?l16 ?c16 ?k16) (K56.def_mk ?a17 ?l17 ?c17 ?k17) ?aL ?lL ?cL ?kL ?z1 ?z2 ?z3 ?z4 ?z5 ?z6 ?z7 ?z8 ?z9 ?z10 ?z11 ?tz_often ?tz_cut_by
  (case a1=>k_is); (case l1=>k_is); (case c1=>k_is); (case k1=>k_is)
  (case a2=>k_is); (case l2=>k_is); (case c2=>k_is); (case k2=>k_is)
  (case a3=>k_is); (case l3=>k_is); (case c3=>k_is); (case k3=>k_is)
  (case a4=>k_is); (case l4=>k_is); (case c4=>k_is); (case k4=>k_is)
  (case a5=>k_is); (case l5=>k_is); (case c5=>k_is); (case k5=>k_is)
  (case a6=>k_is); (case l6=>k_is); (case c6=>k_is); (case k6=>k_is)
  (case a7=>k_is); (case l7=>k_is); (case c7=>k_is); (case k7=>k_is)
  (case a8=>k_is); (case l8=>k_is); (case c8=>k_is); (case k8=>k_is)
  (case a9=>k_is); (case l9=>k_is); (case c9=>k_is); (case k9=>k_is)
  (case a10=>k_is); (case l10=>k_is); (case c10=>k_is); (case k10=>k_is)
  (case a11=>k_is); (case l11=>k_is); (case c11=>k_is); (case k11=>k_is)
  (case a12=>k_is); (case l12=>k_is); (case c12=>k_is); (case k12=>k_is)
  (case a13=>k_is); (case l13=>k_is); (case c13=>k_is); (case k13=>k_is)
  (case a14=>k_is); (case l14=>k_is); (case c14=>k_is); (case k14=>k_is)
  (case a15=>k_is); (case l15=>k_is); (case c15=>k_is); (case k15=>k_is)
  (case a16=>k_is); (case l16=>k_is); (case c16=>k_is); (case k16=>k_is)
  (case a17=>k_is); (case l17=>k_is); (case c17=>k_is); (case k17=>k_is)
  (case aL=>k_is); (case lL=>k_is); (case cL=>k_is); (case kL=>k_is)
  (case z1=>k_is); (case z2=>k_is); (case z3=>k_is); (case z4=>k_is); (case z5=>k_is); (case z6=>k_is); (case z7=>k_is); (case z8=>k_is); (case z9=>k_is); (case z10=>k_is); (case z11=>k_is)
  (case tz_often=>k_is)
  (case tz_cut_by=>k_is)