import PyProof.Rows.All
import KE.KLam
import Wide.All
import OpenK.AllK
import Wide.FinOn
import Lean
import PyProof.EqAt
import PyProof.EqKinds
import PyProof.TupleCall
import PyProof.FactsAll.set
import PyProof.FactsAll.subtypes
import KE.KTupSum
import KE.KMinBuiltin
import PyProof.Draws
import PyProof.DictWalks
import PyProof.DictCompW
import PyProof.IsiH_tuple
import PyProof.FactsAll.zip
import KE.KDictOf
import PyProof.DictValues
import KE.KSortKey
import PyProof.WalkInts
import PyProof.TupleKey
import PyProof.SetRoads
import PyProof.IsRules
import PySem.Challenge.RW_needledeck_k17_the_most_and_fewest_holes
set_option Elab.async false
set_option linter.all false
set_option maxRecDepth 100000
set_option maxHeartbeats 4000000
set_option genSizeOf false
local macro_rules|`(tactic|omega)=>`(tactic|first|lia|omega +splitDisjunctions)
theorem e0a2{A B:Prop}{G:Prop}(k:A→B→G)(h:A∧B):G:=k h.1 h.2
theorem e0a3{A B C:Prop}{G:Prop}(k:A→B→C→G)(h:A∧B∧C):G:=k h.1 h.2.1 h.2.2
theorem e0a4{A B C D:Prop}{G:Prop}(k:A→B→C→D→G)(h:A∧B∧C∧D):G:=k h.1 h.2.1 h.2.2.1 h.2.2.2
theorem e0a5{A B C D E:Prop}{G:Prop}(k:A→B→C→D→E→G)(h:A∧B∧C∧D∧E):G:=k h.1 h.2.1 h.2.2.1 h.2.2.2.1 h.2.2.2.2
theorem e0a6{A B C D E F:Prop}{G:Prop}(k:A→B→C→D→E→F→G)(h:A∧B∧C∧D∧E∧F):G:=k h.1 h.2.1 h.2.2.1 h.2.2.2.1 h.2.2.2.2.1 h.2.2.2.2.2
theorem e1a1{t0:Type}{A:t0→Prop}{G:Prop}(k:∀x,A x→G)(h:∃x,A x):G:=h.elim λx h=>k x h
theorem e1a2{t0:Type}{A B:t0→Prop}{G:Prop}(k:∀x,A x→B x→G)(h:∃x,A x∧B x):G:=h.elim λx h=>k x h.1 h.2
theorem e1a3{t0:Type}{A B C:t0→Prop}{G:Prop}(k:∀x,A x→B x→C x→G)(h:∃x,A x∧B x∧C x):G:=h.elim λx h=>k x h.1 h.2.1 h.2.2
theorem e1a4{t0:Type}{A B C D:t0→Prop}{G:Prop}(k:∀x,A x→B x→C x→D x→G)(h:∃x,A x∧B x∧C x∧D x):G:=h.elim λx h=>k x h.1 h.2.1 h.2.2.1 h.2.2.2
theorem e2a1{t0 t1:Type}{A:t0→t1→Prop}{G:Prop}(k:∀x y,A x y→G)(h:∃x y,A x y):G:=h.elim λx h=>h.elim λy h=>k x y h
theorem e2a2{t0 t1:Type}{A B:t0→t1→Prop}{G:Prop}(k:∀x y,A x y→B x y→G)(h:∃x y,A x y∧B x y):G:=h.elim λx h=>h.elim λy h=>k x y h.1 h.2
theorem e2a3{t0 t1:Type}{A B C:t0→t1→Prop}{G:Prop}(k:∀x y,A x y→B x y→C x y→G)(h:∃x y,A x y∧B x y∧C x y):G:=h.elim λx h=>h.elim λy h=>k x y h.1 h.2.1 h.2.2
theorem e2a4{t0 t1:Type}{A B C D:t0→t1→Prop}{G:Prop}(k:∀x y,A x y→B x y→C x y→D x y→G)(h:∃x y,A x y∧B x y∧C x y∧D x y):G:=h.elim λx h=>h.elim λy h=>k x y h.1 h.2.1 h.2.2.1 h.2.2.2
theorem e3a1{t0 t1 t2:Type}{A:t0→t1→t2→Prop}{G:Prop}(k:∀x y z,A x y z→G)(h:∃x y z,A x y z):G:=h.elim λx h=>h.elim λy h=>h.elim λz h=>k x y z h
theorem e3a3{t0 t1 t2:Type}{A B C:t0→t1→t2→Prop}{G:Prop}(k:∀x y z,A x y z→B x y z→C x y z→G)(h:∃x y z,A x y z∧B x y z∧C x y z):G:=h.elim λx h=>h.elim λy h=>h.elim λz h=>k x y z h.1 h.2.1 h.2.2
theorem e3a4{t0 t1 t2:Type}{A B C D:t0→t1→t2→Prop}{G:Prop}(k:∀x y z,A x y z→B x y z→C x y z→D x y z→G)(h:∃x y z,A x y z∧B x y z∧C x y z∧D x y z):G:=h.elim λx h=>h.elim λy h=>h.elim λz h=>k x y z h.1 h.2.1 h.2.2.1 h.2.2.2
theorem e3a5{t0 t1 t2:Type}{A B C D E:t0→t1→t2→Prop}{G:Prop}(k:∀x y z,A x y z→B x y z→C x y z→D x y z→E x y z→G)(h:∃x y z,A x y z∧B x y z∧C x y z∧D x y z∧E x y z):G:=h.elim λx h=>h.elim λy h=>h.elim λz h=>k x y z h.1 h.2.1 h.2.2.1 h.2.2.2.1 h.2.2.2.2
theorem e4a1{t0 t1 t2 t3:Type}{A:t0→t1→t2→t3→Prop}{G:Prop}(k:∀x y z w,A x y z w→G)(h:∃x y z w,A x y z w):G:=h.elim λx h=>h.elim λy h=>h.elim λz h=>h.elim λw h=>k x y z w h
theorem e4a2{t0 t1 t2 t3:Type}{A B:t0→t1→t2→t3→Prop}{G:Prop}(k:∀x y z w,A x y z w→B x y z w→G)(h:∃x y z w,A x y z w∧B x y z w):G:=h.elim λx h=>h.elim λy h=>h.elim λz h=>h.elim λw h=>k x y z w h.1 h.2
theorem e5a2{t0 t1 t2 t3 t4:Type}{A B:t0→t1→t2→t3→t4→Prop}{G:Prop}(k:∀x y z w u,A x y z w u→B x y z w u→G)(h:∃x y z w u,A x y z w u∧B x y z w u):G:=h.elim λx h=>h.elim λy h=>h.elim λz h=>h.elim λw h=>h.elim λu h=>k x y z w u h.1 h.2
theorem e4a5{t0 t1 t2 t3:Type}{A B C D E:t0→t1→t2→t3→Prop}{G:Prop}(k:∀x y z w,A x y z w→B x y z w→C x y z w→D x y z w→E x y z w→G)(h:∃x y z w,A x y z w∧B x y z w∧C x y z w∧D x y z w∧E x y z w):G:=h.elim λx h=>h.elim λy h=>h.elim λz h=>h.elim λw h=>k x y z w h.1 h.2.1 h.2.2.1 h.2.2.2.1 h.2.2.2.2
theorem e5a5{t0 t1 t2 t3 t4:Type}{A B C D E:t0→t1→t2→t3→t4→Prop}{G:Prop}(k:∀x y z w u,A x y z w u→B x y z w u→C x y z w u→D x y z w u→E x y z w u→G)(h:∃x y z w u,A x y z w u∧B x y z w u∧C x y z w u∧D x y z w u∧E x y z w u):G:=h.elim λx h=>h.elim λy h=>h.elim λz h=>h.elim λw h=>h.elim λu h=>k x y z w u h.1 h.2.1 h.2.2.1 h.2.2.2.1 h.2.2.2.2
theorem e6a5{t0 t1 t2 t3 t4 t5:Type}{A B C D E:t0→t1→t2→t3→t4→t5→Prop}{G:Prop}(k:∀x y z w u v,A x y z w u v→B x y z w u v→C x y z w u v→D x y z w u v→E x y z w u v→G)(h:∃x y z w u v,A x y z w u v∧B x y z w u v∧C x y z w u v∧D x y z w u v∧E x y z w u v):G:=h.elim λx h=>h.elim λy h=>h.elim λz h=>h.elim λw h=>h.elim λu h=>h.elim λv h=>k x y z w u v h.1 h.2.1 h.2.2.1 h.2.2.2.1 h.2.2.2.2
theorem e4a7{t0 t1 t2 t3:Type}{A B C D E F H:t0→t1→t2→t3→Prop}{G:Prop}(k:∀x y z w,A x y z w→B x y z w→C x y z w→D x y z w→E x y z w→F x y z w→H x y z w→G)(h:∃x y z w,A x y z w∧B x y z w∧C x y z w∧D x y z w∧E x y z w∧F x y z w∧H x y z w):G:=h.elim λx h=>h.elim λy h=>h.elim λz h=>h.elim λw h=>k x y z w h.1 h.2.1 h.2.2.1 h.2.2.2.1 h.2.2.2.2.1 h.2.2.2.2.2.1 h.2.2.2.2.2.2
theorem e5a7{t0 t1 t2 t3 t4:Type}{A B C D E F H:t0→t1→t2→t3→t4→Prop}{G:Prop}(k:∀x y z w u,A x y z w u→B x y z w u→C x y z w u→D x y z w u→E x y z w u→F x y z w u→H x y z w u→G)(h:∃x y z w u,A x y z w u∧B x y z w u∧C x y z w u∧D x y z w u∧E x y z w u∧F x y z w u∧H x y z w u):G:=h.elim λx h=>h.elim λy h=>h.elim λz h=>h.elim λw h=>h.elim λu h=>k x y z w u h.1 h.2.1 h.2.2.1 h.2.2.2.1 h.2.2.2.2.1 h.2.2.2.2.2.1 h.2.2.2.2.2.2
theorem e6a7{t0 t1 t2 t3 t4 t5:Type}{A B C D E F H:t0→t1→t2→t3→t4→t5→Prop}{G:Prop}(k:∀x y z w u v,A x y z w u v→B x y z w u v→C x y z w u v→D x y z w u v→E x y z w u v→F x y z w u v→H x y z w u v→G)(h:∃x y z w u v,A x y z w u v∧B x y z w u v∧C x y z w u v∧D x y z w u v∧E x y z w u v∧F x y z w u v∧H x y z w u v):G:=h.elim λx h=>h.elim λy h=>h.elim λz h=>h.elim λw h=>h.elim λu h=>h.elim λv h=>k x y z w u v h.1 h.2.1 h.2.2.1 h.2.2.2.1 h.2.2.2.2.1 h.2.2.2.2.2.1 h.2.2.2.2.2.2
local macro_rules|`(tactic|obtain $p:rcasesPatMed:=$v:term)=>do
 let c s:=((p.raw.reprint.getD "").splitOn s).length
 if c ","<3||c "|">1||c ":">1 then Lean.Macro.throwUnsupported
 let T (a:Lean.Syntax):Lean.TSyntax `Lean.Parser.Tactic.rcasesPatMed:=⟨a⟩
 let q:=p.raw
 let x:=q[0][0]
 let l:=x[1].getSepArgs
 let mut a:Array (Lean.TSyntax ``Lean.Parser.Tactic.tacticSeq):=#[]
 let mut y:Array Lean.Term:=#[]
 let mut z:Array (Array (Lean.TSyntax `tactic)):=#[]
 for o in l do
  let u:=o[0][0][0]
  let f:=Lean.mkIdent (←Lean.Macro.addMacroScope (.mkSimple s!"f{y.size}"))
  if u[0].getId==`rfl then
   y:=y.push f
   z:=z.push #[←`(tactic|subst $f:term)]
  else if u[0].isIdent then
   y:=y.push ⟨u[0]⟩
   z:=z.push #[]
  else if u[1].isMissing then
   y:=y.push (←`(_))
   z:=z.push #[]
  else
   y:=y.push f
   z:=z.push #[←`(tactic|obtain $(T o[0]):rcasesPatMed:=$f)]
 for j in [0:l.size] do
  if j==1 then continue
  let n:=l.size-j
  let mut i:=y.extract 0 n
  let mut w:=(z.extract 0 n).flatten
  if j>0 then
   i:=i.push (←`(r_))
   w:=w.push (←`(tactic|obtain $(T (q.setArg 0 (q[0].setArg 0 (x.setArg 1 (Lean.mkNullNode (Lean.mkSepArray (l.extract n l.size) (Lean.mkAtom ","))))))):rcasesPatMed:=r_))
  for k in [0:i.size] do
   let m:=Lean.mkIdent (.mkSimple s!"e{k}a{i.size-k}")
   let g←if v.raw.isIdent then `(tactic|(revert $(⟨v⟩):ident;refine $m fun $i*=>?_)) else `(tactic|refine $m (fun $i*=>?_) $v)
   a:=a.push (←`(Lean.Parser.Tactic.tacticSeq| $g:tactic;$[$w];*))
  if j==0&& !v.raw.isIdent then
   a:=a.push (←`(Lean.Parser.Tactic.tacticSeq| have h_ := $v; obtain $p := h_))
   break
 a:=a.push (←`(Lean.Parser.Tactic.tacticSeq| rcases $v:term with $p))
 `(tactic|first $[| $a]*)
open Array renaming length_toList → Ai, getD_eq_getD_getElem? → Cm, toList_append → Dc, getElem?_eq_getElem → Fl, getElem?_toList → Fm, getElem?_eq_some_iff → Hb, toList_push → Hl, toList_extract → Mm, perm_iff_toList_perm → Oa, size_setIfInBounds → Ow, getElem?_eq_none → Qc, toList_reverse → Sk, toList_setIfInBounds → cH
open Bool renaming false_eq_true → Bp, false_ne_true → Bx, and_eq_true → Gx, not_eq_true' → Jo, not_true → Ko, and_false → Tf, not_eq_false' → Wc
open Classical renaming byContradiction → Zy
open False renaming elim → Jt
open ForInStep renaming done → Cn, yield → Fd
open Int renaming toNat_natCast → Di
open LawfulBEq renaming eq_of_beq → Dj
open List renaming mem_cons_self → Aa, length_map → Ac, mem_cons_of_mem → Ad, mem_singleton → Ae, mem_append_right → Ag, mem_cons → Am, mem_append_left → An, getElem?_eq_some_iff → Ap, size_toArray → Aq, length_append → Ax, mem_append → Ay, mem_of_getElem? → Ba, range → Bc, length_cons → Bf, append_assoc → Bg, map_cons → Bh, not_mem_nil → Bk, pairwise_cons → Bm, getElem?_map → Bo, nodup_cons → Bs, lookup_cons → Bv, getElem?_eq_getElem → Bw, length_range → Cb, pairwise_append → Cg, dropLast_concat_getLast → Cq, mem_map → Cs, map_append → Cu, map_map → Da, append_nil → Dg, perm_append_comm → Dq, mem_flatMap → Du, length_take → Dv, getElem?_append_right → Dw, sublist_append_right → Dy, pairwise_iff_getElem → Dz, sublist_cons_self → Ea, nodup_nil → Ee, pairwise_singleton → El, getElem?_append_left → Ep, nodup_append → Et, length_singleton → Eu, take_succ_eq_append_getElem → Fg, mem_range → Fh, take_append_drop → Fo, cons_append → Fu, mem_iff_getElem → Gi, getLast?_eq_some_getLast → Gj, map_congr_left → Gn, take_of_length_le → Gu, getLastD_eq_getLast? → Hj, map_set → Hn, ext_getElem? → Ho, drop_sublist → Hq, getElem?_take_of_lt → Hw, replicate → Ih, length_eq_zero_iff → Ii, length → Ip, length_zipIdx → Iu, take_sublist → Jk, reverse_perm → Jl, flatMap_cons → Jm, range_eq_range' → Jx, dropLast_subset → Jy, take_length → Kf, extract_eq_take_drop → Ki, filterMap_cons → Kk, length_nil → Ks, filter_append → Ku, lookup → Kv, getElem?_set → Li, perm_middle → Ly, getElem_mem → Lz, getElem?_range → Ni, mem_replicate → Og, getD_eq_getElem?_getD → Oh, mem_of_find?_eq_some → Ot, drop_eq_getElem_cons → Ou, range'_succ → Pt, mem_reverse → Pu, length_drop → Px, getLast_mem → Py, eraseIdx_cons_succ → Pz, length_zip → Ry, find?_some → Rz, pairwise_reverse → Sd, getElem?_reverse → Se, getElem?_eq_none → Sf, length_dropLast → Td, drop_zero → Te, length_pos_iff → Uu, flatten_append → Uv, zip_cons_cons → Vz, mem_filterMap → Wa, getElem?_drop → Wb, pairwise_map → Xa, map_nil → Xb, mapM_toArray → Xc, all_map → Xd, eq_nil_of_length_eq_zero → aE, mem_take_iff_getElem → eY, sublist_append_left → iW, length_erase_of_mem → iX, append_cancel_right → iY, range_succ_eq_map → lP, length_pos_of_mem → lQ, getElem?_set_self → lR, drop_of_length_le → lT, filter_eq_self → rW, find?_eq_none → xS
open List.Pairwise renaming nil → Do, sublist → Ib
open List.Perm renaming refl → Gp, append_left → Gv, swap → Ht
open List.Sublist renaming refl → Em
open List.cons renaming inj → Lj
open Nat renaming le_refl → Ah, lt_of_lt_of_le → Bu, ne_of_lt → Ce, le_trans → Cf, zero_le → Cy, not_lt_zero → Ex, lt_irrefl → Gw, mod_eq_of_lt → Ha, zero_add → Hs, lt_succ_of_lt → Jp, le_of_lt → Lo, mod_lt → Mk, pow_le_pow_right → Mr, add_mod → Pl, lt_succ_self → Qb, succ_pos → Rw, pow_succ → Rx, add_right_comm → Wq, sub_zero → Xu, sub_self → Xv, le_add_right → aD, lt_succ_iff → cE
open Ne renaming symm → Po
open Option renaming isSome_iff_exists → Os
open Option.some renaming inj → Bz
open Or renaming inl → Dd
open Prod.mk renaming injEq → Ir
open PyProof.Rows renaming wpS_bind → Au, pendingOf → Az, wpS_pure → Bb, SortSt → Bq, wpS_forRange → Ef, slot_tuple_getitem → Ei, seqObj → Ew, IntsAre → Gc, callWith_type1 → Gh, wpS_mono → Gy, wpS_modify → Ji, failedOf → La, SortKind → Lb, wpS_get → Me, sortedHeap → Nh, get?_update_seq → Oi, AllBare → Ra, reverseSlice' → Ru, envOfC → Th, firstOfTuple' → Zx, subscriptTail_builtinR → xW
open PyProof.Rows.F renaming plain_set_update_loop → Ja, entry_set_update_loop → Pk
open PySem renaming wpAny_bind → Ab, PyData → Af, Shared → Aj, wpAny_pure → Al, sizeLine → Bd, Program → Bj, starEach → Bn, SetTable → By, mainGlobals → Cj, FuncData → Co, Around → Cp, wpAny_mono → Cz, wpAny_newObj_type → Dk, tupleKeyHash → Dl, foldedSetIterable → Dm, intKind → Dr, cellsFrom → Ed, wpAny_holding → Ey, behindInMarks → Gk, wpAny_truthy_bool → Gs, wpAny_standAt → Hg, wpAny_call_entry → Hh, compareOp → Hi, codeAny → Hm, backTo → Hx, letOwnedTupleGo → Hy, sizeLine_eq → Ia, assignEach → Jj, IsTupleKey → Jn, wpAny_passesOwn → Jq, codeAny_builtin → Jr, swapsWith → Jw, assign → Ka, wpAny_of_eq → Km, binaryOp → Kn, wpAny_typeOf → Kq, bootBuiltins → Kr, wpAny_comprehension_free → Kz, wpAny_callSpecial?_slot → Ls, rawInt → Mf, ofAClassStatement → Mg, newFunctionEnv → Mh, codeAny_mono → Mi, codeAny_compStart_list → Mj, attributeBase → Nl, Keyword → Nn, sliceBounds → Nx, NameKind → Nz, wpAny_Call_Name_kw → Pm, pyNext → Pn, standAt → Qv, keywordEach → Qw, holding → Qx, wpAny_forIn_list → Sh, wpAny_askSetting → Si, setField → Sj, builtinsNs → Ti, wpAny_loadPart' → Ur, wpAny_execs_nil → Us, codeAny_of_tree → Ut, exec_Assign_Name_used → Uw, hashByValue → Wn, compEnvC → Wo, IsPart → Wr, callerA → Wz, setSearchFrom → Zv, plainId_quiet → Zw, setEntries → aC, wpAny_setState_of → cC, wpAny_pyIter_list → cD, noFill_tuple_add → eX, wpAny_pyNext_list_item → xV, slot_list_getitem → AQ
open PySem.Around renaming under_plainId → Hk
open PySem.Builtin.List renaming listTooLong → Ng, listLengthHint → Va
open PySem.Builtin.Range renaming rangeSize → Jz
open PySem.Builtin.Slice renaming slicePlaces → Jb, sliceAdjust → Ml, sliceApplied → Uz
open PySem.Builtin.Tuple renaming tupleExact → Fj, tupleItemsOf → Ux, tupleIsExact → Uy
open PySem.Calls renaming Name_function_global → cG, call_function_entry → eU
open PySem.Heap renaming get?_push_of_some → Ak, lt_size → Aw, get?_push_size → Be, SameBut → Iv, get?_update_self → Lv, size_update → Ma, get?_update_other → lU
open PySem.Heap.SameBut renaming update → Cr
open PySem.NameKind renaming cell → Ds, free → Ek
open PySem.Obj renaming mapSeq → Ez, putSet → Wp
open PySem.PassesOwn renaming never → Dn
open PySem.PyData renaming depthAll → Bl, int → Br, depth → Cv, list → Fz
open PySem.SeqAt renaming EqAt → Lu
open PySem.SetTable renaming below → Ca, insertAt → Df, bits → Dh, turns → Fs, Probe → Ft, runEnd → Ik, laid → Io, layClean → Ny, sizeAbove → Tc, advance → Vy, insertAt_perm → eT
open PySem.SetTable.below renaming go → Qz
open PySem.SetTable.layClean renaming free → Js
open PySem.SetTable.probe renaming go → Qy
open PySem.SetTable.sizeAbove renaming go → Kb
open PySem.Str renaming ofString → Xs
open PySem.Value renaming ref → Ar, type → Eh, int → Nm, none → Qa
open Sum renaming inl → Rv
open True renaming intro → Vx
namespace L2
open PySem PySem.Spec PyProof.Rows
abbrev Xh:=Sum Int Str
def w8:Xh->Value->Bool
 | .inl k,v=>Value.isInt k v
 | .inr x,v=>Value.isStrOf x v
def CJ(w:World):Xh->Int
 | .inl k=>hashInt k
 | .inr x=>hashStr w x
theorem Hf:∀{k:Xh} {v:Value},w8 k v=true->(∃i t,k=Rv i/\v=Nm i t)\/(∃x t,k=Sum.inr x/\v=Value.str x t)
 | .inl i,v,h=>by
  obtain ⟨t,e⟩:=Value.isInt_shape (k:=i) (v:=v) h
  exact .inl ⟨i,t,rfl,e⟩
 | .inr x,v,h=>by
  obtain ⟨t,e⟩:=Value.isStrOf_shape (x:=x) (v:=v) h
  exact .inr ⟨x,t,rfl,e⟩
theorem Q3(a b:Int):decide ((Rv a:Xh)=Rv b)=(a == b):=by
 by_cases e:a=b
 ·subst e; simp
 ·have h:¬ (Rv a:Xh)=Rv b:=λq=>e (Sum.inl.inj q)
  rw[decide_eq_false h]
  exact (beq_eq_false_iff_ne.mpr e).symm
theorem E4(a b:Str):decide ((Sum.inr a:Xh)=Sum.inr b)=decide (a=b):=by
 by_cases e:a=b
 ·subst e; simp
 ·have h:¬ (Sum.inr a:Xh)=Sum.inr b:=λq=>e (Sum.inr.inj q)
  rw[decide_eq_false h,decide_eq_false e]
theorem L4(a:Int)(b:Str):decide ((Rv a:Xh)=Sum.inr b)=false:=decide_eq_false (λq=>nomatch q)
theorem E3(a:Str)(b:Int):decide ((Sum.inr a:Xh)=Rv b)=false:=decide_eq_false (λq=>nomatch q)
def dP(prog:Bj)(w:World):PySem.KeyKind prog w Xh where
 is:=w8
 hash:=CJ w
 inj:=λv a b ha hb=>by
  rcases Hf ha with ⟨i,t,rfl,rfl⟩ | ⟨x,t,rfl,rfl⟩
  ·rcases Hf hb with ⟨j,u,rfl,e⟩ | ⟨y,u,rfl,e⟩
   ·injection e with e1 _; rw[e1]
   ·exact nomatch e
  ·rcases Hf hb with ⟨j,u,rfl,e⟩ | ⟨y,u,rfl,e⟩
   ·exact nomatch e
   ·injection e with e1 _; rw[e1]
 byValue:=λk v h=>by
  rcases Hf h with ⟨i,t,rfl,rfl⟩ | ⟨x,t,rfl,rfl⟩ <;> rfl
 pyHash:=λhv h=>by
  rcases Hf hv with ⟨i,t,rfl,rfl⟩ | ⟨x,t,rfl,rfl⟩
  ·exact wpAny_pyHash_int h
  ·exact wpAny_pyHash_str h
 eqBool:=λhu hv h=>by
  rcases Hf hu with ⟨i,t,rfl,rfl⟩ | ⟨x,t,rfl,rfl⟩
  ·rcases Hf hv with ⟨j,u,rfl,rfl⟩ | ⟨y,u,rfl,rfl⟩
   ·rw[Q3] at h; exact wpAny_eqBool_int h
   ·rw[L4] at h; exact SeqAt.EqAt.int_str i t y u _ _ _ _ h
  ·rcases Hf hv with ⟨j,u,rfl,rfl⟩ | ⟨y,u,rfl,rfl⟩
   ·rw[E3] at h; exact SeqAt.EqAt.str_int x t j u _ _ _ _ h
   ·rw[E4] at h; exact wpAny_eqBool_str h
 «strs»:=λk x t v h=>by
  rcases Hf h with ⟨i,u,rfl,e⟩ | ⟨y,u,rfl,e⟩
  ·exact nomatch e
  ·injection e with e1 _
   subst e1
   cases v <;> rfl
inductive V where
 | non | bl (b:Bool) | int (i:Int) | str (x:Str) | byt (b:Array UInt8) | flt (b:UInt64) | ref (a:Addr) | ty (n:String)
 deriving DecidableEq
def RelV:V->Value->Prop
 | .non,u=>u=Qa
 | .bl b,u=>u=Value.bool b
 | .int i,u=>∃t,u=Nm i t
 | .str x,u=>∃t,u=Value.str x t
 | .byt b,u=>∃t,u=Value.bytes b t
 | .flt b,u=>∃t,u=Value.float b t
 | .ref a,u=>u=Ar a
 | .ty n,u=>u=Eh n
abbrev Fk:List V->List Value->Prop:=Paired RelV
theorem Fk.length{xs:List V}{us:List Value}(r:Fk xs us):xs.length=us.length:=Paired.length r
theorem Fk.get:∀{xs:List V} {us:List Value} {i:Nat} {x:V},Fk xs us->xs[i]? = some x->∃u,us[i]? = some u/\RelV x u
 | _,_,_,_,.nil,e=>by simp at e
 | _,_,0,_,.cons r _,e=>by simp at e; subst e; exact ⟨_,rfl,r⟩
 | _,_,i+1,x,.cons _ t,e=>by
  obtain ⟨u,h1,h2⟩:=Fk.get (i:=i) (x:=x) t (by simpa using e)
  exact ⟨u,by simpa using h1,h2⟩
theorem Fk.set{x:V}{u:Value}(r:RelV x u):∀{xs:List V} {us:List Value} (i:Nat),Fk xs us->Fk (xs.set i x) (us.set i u)
 | _,_,_,.nil=>.nil
 | _,_,0,.cons _ t=>.cons r t
 | _,_,i+1,.cons q t=>.cons q (Fk.set r i t)
theorem Fk.append:∀{xs ys:List V} {us ws:List Value},Fk xs us->Fk ys ws->Fk (xs++ys) (us++ws)
 | _,_,_,_,.nil,s=>s
 | _,_,_,_,.cons r t,s=>.cons r (Fk.append t s)
theorem Fk.take:∀{xs:List V} {us:List Value} (n:Nat),Fk xs us->Fk (xs.take n) (us.take n)
 | _,_,0,_=>.nil
 | _,_,_+1,.nil=>.nil
 | _,_,n+1,.cons r t=>.cons r (Fk.take n t)
theorem Fk.drop:∀{xs:List V} {us:List Value} (n:Nat),Fk xs us->Fk (xs.drop n) (us.drop n)
 | _,_,0,r=>r
 | _,_,_+1,.nil=>.nil
 | _,_,n+1,.cons _ t=>Fk.drop n t
def K0:Option V->Option Value->Prop
 | some v,some u=>RelV v u
 | none,none=>True
 | _,_=>False
def KV{κ:Type}:List (κ×V)->List (κ×Value)->Prop:=Paired λ(p:κ×V) (q:κ×Value)=>p.1=q.1/\RelV p.2 q.2
def kV:Xh->V
 | .inl i=>.int i
 | .inr x=>.str x
inductive HO where
 /-- a list -/
 | lst (xs:List V)
 /-- a tuple (never changes) -/
 | tup (xs:List V)
 /-- a dict whose n9 are ints and texts; one whose n9 are tuples of ints and texts (the empty one is both) -/
 | dK (kvs:List (Xh×V)) | dT (kvs:List (List Xh×V))
 /-- a set of ints: its members,its size -/
 | set (S:Int->Bool) (n:Nat)
 /-- an instance of the class at C,its dict at dx,its attributes -/
 | ins (C dx:Addr) (fs:List (Str×V))
 /-- the dict of the instance at x -/
 | own (x:Addr)
 /-- the dict of an exception -/
 | xd (fs:List (Str×V))
 /-- a bound method,f of x -/
 | met (f x:Addr)
 /-- a range object lo,lo+1,.. below hi -/
 | rng (lo hi:Int)
 /-- a thing that is known to the object (the script; a dict while a loop walks it): read,never written while it is so -/
 | frz (o:Obj) (u:HO)
 /-- a code object's table -/
 | tbl (ps:Array Value)
 /-- any other thing,by what is true of its one object (a def of one's own: CQ a S n:=HO.ext λh=>..) -/
 | ext (φ:Heap->Prop)
abbrev Hp:=Addr->Option HO
def upd(H:Hp)(a:Addr)(o:HO):Hp:=λb=>if b=a then some o else H b
theorem Ct{H:Hp}{a:Addr}{o:HO}:upd H a o a=some o:=by unfold upd; rw[if_pos rfl]
theorem Ej{H:Hp}{a b:Addr}{o:HO}(h:b≠a):upd H a o b=H b:=by unfold upd; rw[if_neg h]
theorem Ge{H:Hp}{a b:Addr}{o:HO}(h:H a=some o)(h':H b=none):a≠b:=by
 intro e; subst e; rw[h] at h'; cases h'
section
variable(P:Bj)(w:World)
def Kc(H:Hp)(h:Heap)(a:Addr):HO->Prop
 | .lst xs=>xs.length<=Bd/\∃(its:List Value) (n:Nat),Fk xs its/\h.get? a=some { cls:=.type "list",data:=.seq its.toArray n }
 | .tup xs=>xs.length<=Bd/\∃its:List Value,Fk xs its/\IsTup h a its.toArray
 | .dK kvs=>kvs.length<=Bd/\(a == sysModules)=false/\∃vs,KV kvs vs/\h.DictOf (dP P w) a vs
 | .dT kvs=>kvs.length<=Bd/\(a == sysModules)=false/\∃xs:List (List Xh×Addr×Value),
   Paired (λ(p:List Xh×V) (q:List Xh×Addr×Value)=>p.1=q.1/\H q.2.1=some (.tup (p.1.map kV))/\RelV p.2 q.2.2) kvs xs /\
   ∃o es ep,h.get? a=some o/\o.ExactDict/\o.data=.dict es ep/\es.toList=xs.map (entryOfKey (tupleKind (dP P w)))/\(xs.map (·.1)).Nodup/\ep=es.size
 | .set S n=>h.SetOf (Dr P w) a S n
 | .ins C dx fs=>H dx=some (.own a)/\fs.length<=1000/\dx≠a/\h.get? a=some (PySem.W.instObj C dx) /\
   ∃mA,h.Ns1 dx mA/\(∀f,K0 (fs.lookup f) (mA f))/\PySem.Within mA (fs.map (·.1))
 | .own _=>∃o,h.get? a=some o
 | .xd fs=>∃mA,h.Ns1 a mA/\∀f,K0 (fs.lookup f) (mA f)
 | .rng lo hi=>∃t u v,h.get? a=some { cls:=.type "range",data:=.fields #[.int lo t,.int hi u,.int 1 v] }
 | .frz o u=>h.get? a=some o/\Kc H h a u
 | .tbl ps=>∃qs:Array Value,h.get? a=some { cls:=.none,data:=.fields qs }/\TriplesOk qs.toList/\∀(pos:Pos) (v:Value),codeAmong pos qs.toList=some v->∃(c:Addr) (oc:Obj) (us:Array Value) (q:Str) (t t0:Tok),v=.ref c/\H c=some (.own a)/\h.get? c=some oc/\oc.data=.fields us/\us[1]? = some (.str q t)/\ps[0]? = some (.str q t0)
 | .met f x=>h.get? a=some (PySem.W.methodObj (.ref f) (.ref x))
 | .ext φ=>φ h/\(∃o,h.get? a=some o)/\∀h1 h2:Heap,φ h1->(∀o,h1.get? a=some o->h2.get? a=some o)->φ h2
def Xz(H:Hp)(h:Heap):Prop:=∀a o,H a=some o->Kc P w H h a o
end
section
variable{P:Bj}{w:World}{H H':Hp}{h h':Heap}{a:Addr}{o:HO}
theorem Kc.lt(x:Kc P w H h a o):a<h.objs.size:=by
 cases o with
 | lst xs=>obtain ⟨_,_,_,_,e⟩:=x; exact Aw e
 | tup xs=>obtain ⟨_,_,_,p⟩:=x; exact p.lt
 | dK kvs=>obtain ⟨_,_,_,_,o,_,_,e,_⟩:=x; exact Aw e
 | dT kvs=>obtain ⟨_,_,_,_,o,_,_,e,_⟩:=x; exact Aw e
 | set S n=>obtain ⟨o,_,_,_,e,_⟩:=x; exact Aw e
 | ins C dx fs=>obtain ⟨_,_,_,e,_⟩:=x; exact Aw e
 | own y=>obtain ⟨_,e⟩:=x; exact Aw e
 | xd fs=>obtain ⟨_,⟨_,_,_,e,_⟩,_⟩:=x; exact Aw e
 | rng lo hi=>obtain ⟨_,_,_,e⟩:=x; exact Aw e
 | frz ob u=>obtain ⟨e,_⟩:=x; exact Aw e
 | tbl ps=>obtain ⟨_,e,_⟩:=x; exact Aw e
 | met f y=>exact Aw (show h.get? a=some _ from x)
 | ext φ=>obtain ⟨_,⟨_,e⟩,_⟩:=x; exact Aw e
theorem Paired.mapP{α β:Type}{F G:α->β->Prop}:∀{l₁:List α} {l₂:List β},Paired F l₁ l₂->(∀a b,F a b->G a b)->Paired G l₁ l₂
 | _,_,.nil,_=>.nil
 | _,_,.cons r t,f=>.cons (f _ _ r) (Paired.mapP t f)
theorem Kc.stay(x:Kc P w H h a o)(k:∀b u,(b=a\/H b=some (.own a))->h.get? b=some u->h'.get? b=some u)(ho:∀b,H b=some (.own a)->H' b=some (.own a))(ht:∀b xs,H b=some (.tup xs)->H' b=some (.tup xs)):Kc P w H' h' a o:=by
 induction o with
 | lst xs=>obtain ⟨z,its,n,r,e⟩:=x; exact ⟨z,its,n,r,k _ _ (.inl rfl) e⟩
 | tup xs=>obtain ⟨z,its,r,ob,e,c⟩:=x; exact ⟨z,its,r,ob,k _ _ (.inl rfl) e,c⟩
 | dK kvs=>obtain ⟨z,y,vs,r,ob,es,ep,e,c⟩:=x; exact ⟨z,y,vs,r,ob,es,ep,k _ _ (.inl rfl) e,c⟩
 | dT kvs =>
  obtain ⟨z,y,xs,r,ob,es,ep,e,c⟩:=x
  exact ⟨z,y,xs,Paired.mapP r λp q z=>⟨z.1,ht _ _ z.2.1,z.2.2⟩,ob,es,ep,k _ _ (.inl rfl) e,c⟩
 | set S n=>obtain ⟨ob,es,ep,t,e,c⟩:=x; exact ⟨ob,es,ep,t,k _ _ (.inl rfl) e,c⟩
 | ins C dx fs =>
  obtain ⟨d,z,ne,e,mA,⟨od,es,ep,e2,c⟩,r⟩:=x
  exact ⟨ho _ d,z,ne,k _ _ (.inl rfl) e,mA,⟨od,es,ep,k _ _ (.inr d) e2,c⟩,r⟩
 | own y=>obtain ⟨ob,e⟩:=x; exact ⟨ob,k _ _ (.inl rfl) e⟩
 | xd fs=>obtain ⟨mA,⟨od,es,ep,e,c⟩,r⟩:=x; exact ⟨mA,⟨od,es,ep,k _ _ (.inl rfl) e,c⟩,r⟩
 | rng lo hi=>obtain ⟨t,u,v,e⟩:=x; exact ⟨t,u,v,k _ _ (.inl rfl) e⟩
 | frz ob u ih=>obtain ⟨e,q⟩:=x; exact ⟨k _ _ (.inl rfl) e,ih q⟩
 | tbl ps =>
  obtain ⟨qs,e,t,z⟩:=x
  exact ⟨qs,k _ _ (.inl rfl) e,t,λpos v y=>by
   obtain ⟨c,oc,us,q,t,t0,h1,h2,h3,h4⟩:=z pos v y
   exact ⟨c,oc,us,q,t,t0,h1,ho _ h2,k _ _ (.inr h2) h3,h4⟩⟩
 | met f y =>
  have e:h.get? a=some (PySem.W.methodObj (.ref f) (.ref y)):=x
  show h'.get? a=some (PySem.W.methodObj (.ref f) (.ref y))
  exact k a _ (.inl rfl) e
 | ext φ=>obtain ⟨p,⟨o,e⟩,st⟩:=x; exact ⟨st _ _ p λo q=>k _ _ (.inl rfl) q,⟨o,k _ _ (.inl rfl) e⟩,st⟩
theorem Xz.lt(x:Xz P w H h)(e:H a=some o):a<h.objs.size:=(x a o e).lt
theorem Xz.fresh(x:Xz P w H h)(e:h.objs.size<=a):H a=none:=by
 cases q:H a with
 | none=>rfl
 | some u=>exact absurd (Bu (x.lt q) e) (Gw _)
theorem Xz.kept(x:Xz P w H h)(k:∀b u,h.get? b=some u->h'.get? b=some u):Xz P w H h':=λa o e =>
 (x a o e).stay (λb u _ q=>k b u q) (λ_ q=>q) λ_ _ q=>q
theorem Xz.laid(x:Xz P w H h)(k:∀b u,h.get? b=some u->h'.get? b=some u)(hp:h.objs.size<=a)(new:Kc P w (upd H a o) h' a o):Xz P w (upd H a o) h':=λb u e=>by
 have hn:=x.fresh hp
 by_cases hb:b=a
 ·subst hb; rw[Ct] at e; cases e; exact new
 ·rw[Ej hb] at e
  exact (x b u e).stay (λc v _ q=>k c v q) (λc q=>by rw[Ej (Ge q hn)]; exact q) λc xs q=>by rw[Ej (Ge q hn)]; exact q
end
def Rd(H:Hp)(a:Addr)(u:HO):Prop:=H a=some u\/∃o,H a=some (.frz o u)
theorem Rd.ok{P:Bj}{w:World}{H:Hp}{h:Heap}{a:Addr}{u:HO}(r:Rd H a u)(x:Xz P w H h):Kc P w H h a u:=by
 rcases r with r | ⟨o,r⟩
 ·exact x a u r
 ·obtain ⟨_,q⟩:=x a _ r
  exact q
def BA:Option HO->Prop
 | some (.lst _)=>True
 | some (.dK _)=>True
 | some (.dT _)=>True
 | some (.set _ _)=>True
 | some (.ins _ _ _)=>True
 | some (.ext _)=>True
 | _=>False
section
variable{P:Bj}{w:World}{H:Hp}{h h':Heap}{x e:Addr}{o':HO}
theorem Xz.write(ok:Xz P w H h)(mu:BA (H x))(he:e=x\/H e=some (.own x))(k:∀b u,b≠e->h.get? b=some u->h'.get? b=some u)(heo:∃u,h'.get? e=some u)(new:Kc P w (upd H x o') h' x o'):Xz P w (upd H x o') h':=λb u q=>by
 have nown:∀c y,H c=some (.own y)->c≠x:=λc y r z=>by subst z; rw[r] at mu; exact mu
 have uR:∀c xs,H c=some (.tup xs)->c≠x:=λc xs r z=>by subst z; rw[r] at mu; exact mu
 by_cases hb:b=x
 ·subst hb; rw[Ct] at q; cases q; exact new
 ·rw[Ej hb] at q
  by_cases hbe:b=e
  ·have q':H b=some (.own x):=by
    rcases he with z | z
    ·exact absurd (hbe.trans z) hb
    ·rw[hbe]; exact z
   rw[q] at q'; cases q'
   obtain ⟨v,hv⟩:=heo
   exact ⟨v,by rw[hbe]; exact hv⟩
  ·refine (ok b u q).stay (λc v hc r=>k c v ?_ r) (λc r=>by rw[Ej (nown c b r)]; exact r) λc xs r=>by rw[Ej (uR c xs r)]; exact r
   rcases hc with rfl | hc
   ·exact hbe
   ·rintro rfl
    rcases he with z | z
    ·exact nown c b hc z
    ·rw[hc] at z; cases z; exact hb rfl
end
structure Un(fs ex:List Addr)(H H':Hp)(h h':Heap):Prop where
 keep:∀b o,h.get? b=some o->H b=none->b∉fs->b∉ex->h'.get? b=some o
 slot:∀b o,h.get? b=some o->H b=none->b∈fs->b∉ex->∃sl,h'.get? b=some { o with slots:=sl }
 free:∀b o,h.get? b=some o->H b=none->b∉ex->H' b=none
 there:∀b o,h.get? b=some o->b∉ex->∃o',h'.get? b=some o'
 tups:∀b xs,H b=some (.tup xs)->H' b=some (.tup xs)
 frzs:∀b o u,H b=some (.frz o u)->H' b=some (.frz o u)
 tbls:∀b ps,H b=some (.tbl ps)->∃more,H' b=some (.tbl (ps++more))
section
variable{fs fs' ex ex':List Addr}{H H1 H2:Hp}{h h1 h2 h':Heap}{a x e:Addr}{o:HO}
theorem Un.any(u:Un fs ex H H1 h h1){b:Addr}{ob:Obj}(q:h.get? b=some ob)(n:H b=none)(hx:b∉ex):∃sl,h1.get? b=some { ob with slots:=sl }:=by
 by_cases hb:b∈fs
 ·exact u.slot b ob q n hb hx
 ·exact ⟨ob.slots,u.keep b ob q n hb hx⟩
theorem Un.kept(k:∀b u,h.get? b=some u->h'.get? b=some u):Un fs ex H H h h' :=
 ⟨λb ob q _ _ _=>k b ob q,λb ob q _ _ _=>⟨ob.slots,k b ob q⟩,λ_ _ _ n _=>n,λb ob q _=>⟨ob,k b ob q⟩,λ_ _ q=>q,λ_ _ _ q=>q,λ_ ps q=>⟨#[],by rw[q]; simp⟩⟩
theorem Un.refl:Un fs ex H H h h:=Un.kept λ_ _ q=>q
theorem Un.laid(k:∀b u,h.get? b=some u->h'.get? b=some u)(hp:h.objs.size<=a)(hn:H a=none):Un fs ex H (upd H a o) h h' where
 keep:=λb u q _ _ _=>k b u q
 slot:=λb u q _ _ _=>⟨u.slots,k b u q⟩
 free:=λb u q n _=>by rw[Ej (Ce (Bu (Aw q) hp))]; exact n
 there:=λb u q _=>⟨u,k b u q⟩
 tups:=λb xs q=>by rw[Ej (Ge q hn)]; exact q
 frzs:=λb u xs q=>by rw[Ej (Ge q hn)]; exact q
 tbls:=λb ps q=>⟨#[],by rw[Ej (Ge q hn),q]; simp⟩
theorem Un.write(mu:BA (H x))(he:e=x\/H e=some (.own x))(k:∀b u,b≠e->h.get? b=some u->h'.get? b=some u)(heo:∃u,h'.get? e=some u):Un fs ex H (upd H x o) h h':=by
 have hx:∀b,H b=none->b≠x:=λb n z=>by subst z; rw[n] at mu; exact mu
 have hb:∀b,H b=none->b≠e:=λb n z=>by
  subst z
  rcases he with r | r
  ·exact hx b n r
  ·rw[n] at r; cases r
 have hm:∀b u,H b=some u->¬ BA (some u)->b≠x:=λb u q nm z=>by subst z; rw[q] at mu; exact nm mu
 refine ⟨λb u q n _ _=>k b u (hb b n) q,λb u q n _ _=>⟨u.slots,k b u (hb b n) q⟩,λb u q n _=>by rw[Ej (hx b n)]; exact n,λb u q _=>?_,
  λb xs q=>by rw[Ej (hm b _ q λz=>z)]; exact q,λb u xs q=>by rw[Ej (hm b _ q λz=>z)]; exact q,λb ps q=>⟨#[],by rw[Ej (hm b _ q λz=>z),q]; simp⟩⟩
 by_cases hbe:b=e
 ·subst hbe; exact heo
 ·exact ⟨u,k b u hbe q⟩
end
def AR(h:Heap)(H:Hp):List Addr:=(Bc h.objs.size).filter λa=>(H a).isSome
def aU(h:Heap)(H:Hp):Heap:=PySem.W.hideAll h (AR h H)
theorem pR(h:Heap)(H:Hp):(aU h H).objs.size=h.objs.size:=PySem.W.hideAll_size _ _
theorem wW{h:Heap}{H:Hp}{b:Addr}{o:Obj}(e:h.get? b=some o)(n:H b=none):(aU h H).get? b=some o :=
 PySem.W.hideAll_get _ e λhm=>by
  have q:(H b).isSome=true:=(List.mem_filter.mp hm).2
  rw[n] at q; simp at q
theorem r0{h:Heap}{H:Hp}{b:Addr}{o:Obj}(e:(aU h H).get? b=some o):h.get? b=some o/\H b=none:=by
 have e':h.get? b=some o:=PySem.W.of_hideAll (AR h H) e
 refine ⟨e',?_⟩
 cases q:H b with
 | none=>rfl
 | some x =>
  have hm:b∈AR h H:=List.mem_filter.mpr ⟨Fh.mpr (Aw e'),by simp [q]⟩
  have z:(aU h H).get? b=none:=PySem.W.hideAll_none (AR h H) hm
  rw[z] at e; cases e
def zF(g h:Heap)(L:Addr):List (Addr×Obj):=(Bc h.objs.size).filterMap λa=>if a=L\/(g.get? a).isSome=true then none else (h.get? a).map λo=>(a,o)
def Fb(g h:Heap)(L d:Addr):List (Addr×Obj):=(zF g h L).filter λp=>decide (p.1≠d)
structure Mod(K:PySem.W.Frag)(mg:Str->Option Value)(base:Heap):Prop where
 kin:K.In base
 glob:base.Ns Cj mg
 blt:∃mb,base.Ns Ti mb/\∀x:Str,x ≠ "__name__" -> mb x=Kr x
 nolimit:base.NoLimit
def Uk:List Str:=["often", "cut_by"]
def L1(x:Str):Str:=x ++ ".<locals>." ++ "<lambda>"
def x6(H:Hp)(P:Addr)(q:Str):Prop:=∃(ps:Array Value) (t0:Tok),H P=some (.tbl ps)/\ps[0]? = some (.str q t0)
def wR(K:PySem.W.Frag)(mg:Str->Option Value)(base:Heap)(H:Hp):Prop:=∀x∈Uk,∀c P,PySem.W.tabIn K x=some (c,P)->PySem.W.CodeHd base c P/\base.BuiltinsAt mg P/\x6 H P (L1 x)
theorem wR.un{K:PySem.W.Frag}{mg:Str->Option Value}{base:Heap}{fs ex:List Addr}{H H':Hp}{h h':Heap}(t:wR K mg base H)(u:Un fs ex H H' h h'):wR K mg base H':=λx hx c P e=>by
 obtain ⟨h1,h2,ps,t0,h3,h4⟩:=t x hx c P e
 obtain ⟨more,h5⟩:=u.tbls P ps h3
 refine ⟨h1,h2,ps++more,t0,h5,?_⟩
 have hl:0<ps.size:=by
  rcases Nat.eq_zero_or_pos ps.size with z | z
  ·rw[Qc (by omega)] at h4; cases h4
  ·exact z
 rw[Array.getElem?_append_left hl]
 exact h4
structure Cx where
 prog:Bj
 w:World
 K:PySem.W.Frag
 mg:Str->Option Value
 base:Heap
 A:Cp
 N:List Str
 s₀:Aj
 H₀:Hp
 env:Env
 outer:List Env
 stack:List Env
 ex:List Addr
 fn:Str->Bool
 calm:Bool
 pn:List (Addr×Obj)
 xe:Value->Aj->Prop
def pY(l:List Env):List Addr:=l.filterMap (·.frame)
abbrev Cx.fs(X:Cx):List Addr:=pY X.outer
def Y7(sc:Scope)(x:Str):Prop:=sc.names.lookup x=some .local\/sc.names.lookup x=some .cell\/sc.names.lookup x=some .free
def Loc(sc:Scope)(x:Str):Prop:=sc.names.lookup x=some .local\/sc.names.lookup x=some .cell
def BM(env:Env)(h:Heap)(m:Str->Option Value)(x:Str)(u:Value):Prop :=
 (env.kindOf x=some .local/\m x=some u)\/((env.kindOf x=some .cell\/env.kindOf x=some .free)/\∃c,env.cells.lookup x=some c/\h.IsCell c (some u))
structure Cx.Ok(X:Cx):Prop where
 mod:Mod X.K X.mg X.base
 kind:X.env.scope.kind=.function
 glob:X.env.globals=Cj
 blt:X.env.builtins=Ti
 above:X.s₀.heap.objs.size<=X.env.locals
 inj:∀x y c,X.env.cells.lookup x=some c->X.env.cells.lookup y=some c->x=y
 has:∀x,(X.env.kindOf x=some .cell\/X.env.kindOf x=some .free)->∃c,X.env.cells.lookup x=some c
 cab:∀x c,X.fn x=true->X.env.cells.lookup x=some c->X.s₀.heap.objs.size<=c
 hd:X.calm=true->X.A.handled=none
 frames:X.A.frames=some X.stack
 stk:X.stack=X.outer\/(X.stack=X.env::X.outer/\X.env.frame=some X.env.locals)
 exf:∀b∈X.ex,b≠X.env.locals/\∀x c,X.env.cells.lookup x=some c->c≠b
 bs:∀b o,X.base.get? b=some o->X.s₀.heap.get? b=some o/\X.H₀ b=none
 bsz:X.base.objs.size<=X.s₀.heap.objs.size
 noex:∀b o,X.base.get? b=some o->b∉X.ex
 exfs:∀b∈X.ex,b∉X.fs
 funs:X.s₀.heap.FunFrames X.base X.outer
 frf:∀b∈X.fs,X.H₀ b=none
 tab:wR X.K X.mg X.base X.H₀
structure Inv(X:Cx)(pins:List (Addr×Obj))(σ:List (Option V))(H:Hp)(s:Aj):Prop where
 ok:X.Ok
 os:s.os=X.s₀.os
 bare:Ra s.gens
 base:Un X.fs X.ex X.H₀ H X.s₀.heap s.heap
 loc:∃m,s.heap.Ns X.env.locals m/\∀(i:Nat) (x:Str) (v:V),X.N[i]? = some x->σ[i]? = some (some v)->Y7 X.env.scope x->∃u,RelV v u/\BM X.env s.heap m x u
 cell:∀x c,X.env.cells.lookup x=some c->∃v,s.heap.IsCell c v
 free:H X.env.locals=none
 freeC:∀x c,X.env.cells.lookup x=some c->H c=none
 pin:∀p∈X.pn++pins,s.heap.get? p.1=some p.2/\H p.1=none/\p.1≠X.env.locals/\p.1∉X.fs/\∀v,p.2.data≠.cell v
 hok:Xz X.prog X.w H s.heap
 len:σ.length=X.N.length
section
variable{X:Cx}{pins:List (Addr×Obj)}{σ:List (Option V)}{H H':Hp}{s:Aj}{h':Heap}
theorem Cx.Ok.nofr(ok:X.Ok){b:Addr}{o:Obj}(e:X.base.get? b=some o):b∉X.fs:=λhb=>by
 have:=(ok.funs.mem hb).1
 rw[e] at this; cases this
theorem Inv.bs(I:Inv X pins σ H s):∀b o,X.base.get? b=some o->s.heap.get? b=some o/\H b=none:=λb o e =>
 ⟨I.base.keep b o (I.ok.bs b o e).1 (I.ok.bs b o e).2 (I.ok.nofr e) (I.ok.noex b o e),I.base.free b o (I.ok.bs b o e).1 (I.ok.bs b o e).2 (I.ok.noex b o e)⟩
theorem Inv.bk(I:Inv X pins σ H s):∀b o,X.base.get? b=some o->s.heap.get? b=some o:=λb o e=>(I.bs b o e).1
theorem Inv.mod(I:Inv X pins σ H s):Mod X.K X.mg X.base:=I.ok.mod
theorem Inv.kIn(I:Inv X pins σ H s):X.K.In s.heap:=I.ok.mod.kin.keeps I.bk
theorem Inv.lt(I:Inv X pins σ H s):X.env.locals<s.heap.objs.size:=let ⟨_,hn,_⟩:=I.loc; hn.lt
theorem Inv.sz(I:Inv X pins σ H s):X.s₀.heap.objs.size<=s.heap.objs.size:=Cf I.ok.above (Lo I.lt)
theorem Inv.nofs(I:Inv X pins σ H s){a:Addr}(h:s.heap.objs.size<=a):a∉X.fs:=λhb=>by
 obtain ⟨_,o,ho,_⟩:=I.ok.funs.mem hb
 exact absurd (Bu (Aw ho) (Cf I.sz h)) (Gw _)
theorem Inv.cne(I:Inv X pins σ H s):∀x c,X.env.cells.lookup x=some c->c≠X.env.locals:=λx c e z=>by
 obtain ⟨v,o,ho,hd⟩:=I.cell x c e
 obtain ⟨m,⟨o',es,ep,ho',hd',_⟩,_⟩:=I.loc
 rw[z,ho'] at ho; cases ho; rw[hd'] at hd; cases hd
theorem Inv.funs(I:Inv X pins σ H s):s.heap.FunFrames X.base X.outer:=by
 have all:∀(l:List Env),(∀b∈pY l,b∈X.fs)->X.s₀.heap.FunFrames X.base l->s.heap.FunFrames X.base l:=by
  intro l
  induction l with
  | nil=>intro _ _; trivial
  | cons env r ih =>
   intro hs hl
   obtain ⟨hk,⟨L,o,hf,hn,ho,hd⟩,hr⟩:=hl
   have hL:L∈X.fs:=hs L (by unfold pY; rw[Kk,hf]; exact Aa)
   obtain ⟨sl,e⟩:=I.base.slot L o ho (I.ok.frf L hL) hL λz=>I.ok.exfs L z hL
   exact ⟨hk,⟨L,_,hf,hn,e,hd⟩,ih (λb hb=>hs b (by unfold pY; rw[Kk,hf]; exact Ad _ hb)) hr⟩
 exact all X.outer (λ_ hb=>hb) I.ok.funs
theorem Inv.stack(I:Inv X pins σ H s):s.heap.FunFrames X.base X.stack:=by
 rcases I.ok.stk with e | ⟨e,hf⟩
 ·rw[e]; exact I.funs
 ·rw[e]
  obtain ⟨m,hn,_⟩:=I.loc
  refine .cons (by rw[I.ok.kind]; decide) hf hn ?_ I.funs
  exact Heap.get?_none_of_le (Cf I.ok.bsz I.ok.above)
theorem Inv.stkSub(I:Inv X pins σ H s):∀b∈pY X.stack,b∈X.env.locals::X.fs:=λb hb=>by
 rcases I.ok.stk with e | ⟨e,hf⟩
 ·rw[e] at hb; exact Ad _ hb
 ·rw[e] at hb
  unfold pY at hb
  rw[Kk,hf] at hb
  exact hb
theorem Inv.stkFree(I:Inv X pins σ H s):∀b∈pY X.stack,H b=none:=λb hb=>by
 rcases Am.mp (I.stkSub b hb) with e | hb
 ·rw[e]; exact I.free
 ·obtain ⟨_,o,ho,_⟩:=I.ok.funs.mem hb
  exact I.base.free b o ho (I.ok.frf b hb) λz=>I.ok.exfs b z hb
theorem Inv.step{g':Array GenState}{t':Nat}{d':Drawn}{ch:List Addr}(I:Inv X pins σ H s)(hch:∀b∈ch,(b∈X.ex\/X.s₀.heap.objs.size<=b)/\b≠X.env.locals/\(∀x c,X.env.cells.lookup x=some c->c≠b)/\∀p∈X.pn++pins,p.1≠b)(keep:∀b o,b≠X.env.locals->b∉X.fs->b∉ch->s.heap.get? b=some o->H b=none->h'.get? b=some o)(slot:∀b o,b≠X.env.locals->b∈X.fs->b∉ch->s.heap.get? b=some o->H b=none->∃sl,h'.get? b=some { o with slots:=sl })(free:∀b o,b∉ch->s.heap.get? b=some o->H b=none->H' b=none)(there:∀b o,b∉ch->s.heap.get? b=some o->∃o',h'.get? b=some o')(tups:∀b xs,H b=some (.tup xs)->H' b=some (.tup xs))(frzs:∀b o u,H b=some (.frz o u)->H' b=some (.frz o u))(tbls:∀b ps,H b=some (.tbl ps)->∃more,H' b=some (.tbl (ps++more)))(ns:∀m,s.heap.Ns X.env.locals m->h'.Ns X.env.locals m)(hok:Xz X.prog X.w H' h')(hg:Ra g'):Inv X pins σ H' { s with heap:=h',gens:=g',drawn:=d',toks:=t' }:=by
 have neL:∀b o,X.s₀.heap.get? b=some o->b≠X.env.locals:=λb o e=>Ce (Bu (Aw e) I.ok.above)
 have neC:∀b o,X.s₀.heap.get? b=some o->b∉X.ex->b∉ch:=λb o e hx hb=>by
  rcases (hch b hb).1 with z | z
  ·exact hx z
  ·exact absurd (Bu (Aw e) z) (Gw _)
 have cellK:∀x c,X.env.cells.lookup x=some c->∀v,s.heap.IsCell c v->h'.IsCell c v:=λx c e v ⟨o,ho,hd⟩=>by
  have nch:c∉ch:=λz=>(hch c z).2.2.1 x c e rfl
  by_cases hc:c∈X.fs
  ·obtain ⟨sl,q⟩:=slot c o (I.cne x c e) hc nch ho (I.freeC x c e)
   exact ⟨_,q,hd⟩
  ·exact ⟨o,keep c o (I.cne x c e) hc nch ho (I.freeC x c e),hd⟩
 refine ⟨I.ok,I.os,hg,⟨λb o e n hb hx=>?_,λb o e n hb hx=>?_,λb o e n hx=>?_,λb o e hx=>?_,λb xs e=>tups b xs (I.base.tups b xs e),λb o xs e=>frzs b o xs (I.base.frzs b o xs e),λb ps e=>?_⟩,?_,λx c e=>?_,?_,λx c e=>?_,λp hp=>?_,hok,I.len⟩
 ·exact keep b o (neL b o e) hb (neC b o e hx) (I.base.keep b o e n hb hx) (I.base.free b o e n hx)
 ·obtain ⟨sl,e1⟩:=I.base.slot b o e n hb hx
  obtain ⟨sl',e2⟩:=slot b _ (neL b o e) hb (neC b o e hx) e1 (I.base.free b o e n hx)
  exact ⟨sl',e2⟩
 ·obtain ⟨o',e1⟩:=I.base.there b o e hx
  exact free b o' (neC b o e hx) e1 (I.base.free b o e n hx)
 ·obtain ⟨o',e1⟩:=I.base.there b o e hx
  exact there b o' (neC b o e hx) e1
 ·obtain ⟨m1,e1⟩:=I.base.tbls b ps e
  obtain ⟨m2,e2⟩:=tbls b _ e1
  exact ⟨m1++m2,by rw[e2,Array.append_assoc]⟩
 ·obtain ⟨m,hn,hl⟩:=I.loc
  refine ⟨m,ns m hn,λi x v e1 e2 e3=>?_⟩
  obtain ⟨u,r,l⟩:=hl i x v e1 e2 e3
  refine ⟨u,r,?_⟩
  rcases l with l | ⟨k,c,e,z⟩
  ·exact .inl l
  ·exact .inr ⟨k,c,e,cellK x c e _ z⟩
 ·obtain ⟨v,z⟩:=I.cell x c e
  exact ⟨v,cellK x c e v z⟩
 ·obtain ⟨m,⟨o,_,_,ho,_⟩,_⟩:=I.loc
  exact free _ o (λz=>(hch _ z).2.1 rfl) ho I.free
 ·obtain ⟨v,o,ho,hd⟩:=I.cell x c e
  exact free c o (λz=>(hch c z).2.2.1 x c e rfl) ho (I.freeC x c e)
 ·obtain ⟨e,n,ne,nf,d⟩:=I.pin p hp
  have nch:p.1∉ch:=λz=>(hch p.1 z).2.2.2 p hp rfl
  exact ⟨keep p.1 p.2 ne nf nch e n,free p.1 p.2 nch e n,ne,nf,d⟩
theorem Inv.un{t':Nat}(I:Inv X pins σ H s)(u:Un X.fs [] H H' s.heap h')(hok:Xz X.prog X.w H' h'):Inv X pins σ H' { s with heap:=h',toks:=t' }:=by
 obtain ⟨m,⟨o,es,ep,ho,r⟩,_⟩:=id I.loc
 obtain ⟨sl,hL⟩:=u.any ho I.free (by simp)
 exact I.step (g':=s.gens) (d':=s.drawn) (ch:=[]) (λ_ z=>nomatch z) (λb o _ hb _ e n=>u.keep b o e n hb (by simp)) (λb o _ hb _ e n=>u.slot b o e n hb (by simp)) (λb o _ e n=>u.free b o e n (by simp)) (λb o _ e=>u.there b o e (by simp)) u.tups u.frzs u.tbls (λm' hm=>by
  obtain ⟨o',es',ep',ho',r'⟩:=hm
  rw[ho] at ho'; cases ho'
  exact ⟨_,es',ep',hL,r'⟩) hok I.bare
theorem Inv.call{g':Array GenState}{t':Nat}{d':Drawn}{ch:List Addr}(I:Inv X pins σ H s)(u:Un (pY X.stack) ch H H' s.heap h')(hok:Xz X.prog X.w H' h')(hg:Ra g')(hch:∀b∈ch,(b∈X.ex\/X.s₀.heap.objs.size<=b)/\b≠X.env.locals/\(∀x c,X.env.cells.lookup x=some c->c≠b)/\∀p∈X.pn++pins,p.1≠b):Inv X pins σ H' { s with heap:=h',gens:=g',drawn:=d',toks:=t' }:=by
 obtain ⟨m,⟨o,es,ep,ho,r⟩,_⟩:=id I.loc
 obtain ⟨sl,hL⟩:=u.any ho I.free λz=>(hch _ z).2.1 rfl
 exact I.step (ch:=ch) hch (λb o hL hb hc e n=>u.keep b o e n (λz=>(Am.mp (I.stkSub b z)).elim hL hb) hc) (λb o _ _ hc e n=>u.any e n hc) (λb o hc e n=>u.free b o e n hc) (λb o hc e=>u.there b o e hc) u.tups u.frzs u.tbls (λm' hm=>by
  obtain ⟨o',es',ep',ho',r'⟩:=hm
  rw[ho] at ho'; cases ho'
  exact ⟨_,es',ep',hL,r'⟩) hok hg
theorem Inv.turned{t':Nat}{it:Addr}(I:Inv X pins σ H s)(k:∀b o,b≠it->s.heap.get? b=some o->h'.get? b=some o)(hn:H it=none)(hL:it≠X.env.locals)(h1:it∈X.ex\/X.s₀.heap.objs.size<=it)(h2:∀x c,X.env.cells.lookup x=some c->c≠it)(h3:∀p∈X.pn++pins,p.1≠it):Inv X pins σ H { s with heap:=h',toks:=t' }:=by
 have nit:∀b u,H b=some u->b≠it:=λb u e z=>by rw[z,hn] at e; cases e
 refine I.step (g':=s.gens) (d':=s.drawn) (ch:=[it]) (λb hb=>?_) (λb o _ _ hc e _=>k b o (λz=>hc (by simp [z])) e) (λb o _ _ hc e _=>⟨o.slots,k b o (λz=>hc (by simp [z])) e⟩) (λ_ _ _ _ n=>n)
  (λb o hc e=>⟨o,k b o (λz=>hc (by simp [z])) e⟩) (λ_ _ e=>e) (λ_ _ _ e=>e) (λb ps e=>⟨#[],by rw[e]; simp⟩) (λm hm=>?_) (λb u e=>?_) I.bare
 ·have e:b=it:=by simpa using hb
  subst e
  exact ⟨h1,hL,h2,h3⟩
 ·obtain ⟨o,es,ep,ho,r⟩:=hm
  exact ⟨o,es,ep,k _ o (Po hL) ho,r⟩
 ·refine (I.hok b u e).stay (λc v hc q=>k c v ?_ q) (λ_ q=>q) λ_ _ q=>q
  rcases hc with z | z
  ·rw[z]; exact nit b u e
  ·exact nit c _ z
theorem Inv.tok(I:Inv X pins σ H s)(t:Nat):Inv X pins σ H { s with toks:=t }:=I.un (h':=s.heap) (t':=t) Un.refl I.hok
theorem Inv.kept{t':Nat}(I:Inv X pins σ H s)(k:∀b u,s.heap.get? b=some u->h'.get? b=some u):Inv X pins σ H { s with heap:=h',toks:=t' }:=I.un (Un.kept k) (I.hok.kept k)
theorem Inv.laid{a:Addr}{o:HO}{t':Nat}(I:Inv X pins σ H s)(k:∀b u,s.heap.get? b=some u->h'.get? b=some u)(hp:s.heap.objs.size<=a)(new:Kc X.prog X.w (upd H a o) h' a o):Inv X pins σ (upd H a o) { s with heap:=h',toks:=t' }:=I.un (Un.laid k hp (I.hok.fresh hp)) (I.hok.laid k hp new)
theorem Inv.write{x e:Addr}{o:HO}{t':Nat}(I:Inv X pins σ H s)(mu:BA (H x))(he:e=x\/H e=some (.own x))(k:∀b u,b≠e->s.heap.get? b=some u->h'.get? b=some u)(heo:∃u,h'.get? e=some u)(new:Kc X.prog X.w (upd H x o) h' x o):Inv X pins σ (upd H x o) { s with heap:=h',toks:=t' }:=I.un (Un.write mu he k heo) (I.hok.write mu he k heo new)
theorem Inv.pins_of{pins':List (Addr×Obj)}(I:Inv X pins σ H s)(h:∀p∈pins',s.heap.get? p.1=some p.2/\H p.1=none/\p.1≠X.env.locals/\p.1∉X.fs/\∀v,p.2.data≠.cell v):Inv X pins' σ H s :=
 ⟨I.ok,I.os,I.bare,I.base,I.loc,I.cell,I.free,I.freeC,λp hp=>(Ay.mp hp).elim (λz=>I.pin p (An _ z)) (h p),I.hok,I.len⟩
theorem fN{N:List Str}(hN:N.Nodup){i j:Nat}{x:Str}(a:N[i]? = some x)(b:N[j]? = some x):i=j:=by
 obtain ⟨h1,e1⟩:=Ap.mp a
 obtain ⟨h2,e2⟩:=Ap.mp b
 exact (List.getElem_inj hN).mp (e1.trans e2.symm)
theorem qT{M:Model}{A:Cp}{E:Value->Aj->Prop}{i:Nat}{x:Str}{v:V}{u:Value}{Q:Unit->Aj->Prop}(I:Inv X pins σ H s)(hN:X.N.Nodup)(hi:X.N[i]? = some x)(hx:Loc X.env.scope x)(r:RelV v u)(h:∀s',Inv X pins (σ.set i (some v)) H s'->(∃a,Iv a s.heap s'.heap/\(a=X.env.locals\/X.env.cells.lookup x=some a))->Q () s')(hf:X.fn x=true\/X.env.scope.names.lookup x=some .local:=by first | exact .inl rfl | exact .inr rfl | assumption):wpAny M A (storeName X.env x u) Q E s:=by
 obtain ⟨m,hn,hl⟩:=id I.loc
 have hcls:(X.env.scope.kind == .class || (X.env.scope.kind == .module && X.env.locals != X.env.globals))=false:=by rw[I.ok.kind]; rfl
 have hiσ:i<σ.length:=by rw[I.len]; exact (Ap.mp hi).1
 have cne:=I.cne
 have tracked:∀{a:Addr} {h':Heap},(∃o,s.heap.get? a=some o/\H a=none)->Iv a s.heap h'->Xz X.prog X.w H h':=λ{a h'} ha hs b ob e=>by
  obtain ⟨_,_,hfree⟩:=ha
  refine (I.hok b ob e).stay (λc w' hc q=>(hs.2 c ?_).trans q) (λ_ q=>q) λ_ _ q=>q
  rintro rfl
  rcases hc with rfl | hc
  ·rw[hfree] at e; cases e
  ·rw[hfree] at hc; cases hc
 rcases hx with hk | hk
 ·refine wpAny_storeName_local hk hn (λh' hn' hs=>?_) hcls
  obtain ⟨oL,_,_,hoL,_⟩:=id hn
  refine h _ ⟨I.ok,I.os,I.bare,⟨λb o e n hb hx=>?_,λb o e n hb hx=>?_,I.base.free,λb o e hx=>?_,I.base.tups,I.base.frzs,I.base.tbls⟩,⟨_,hn',λj y v' e1 e2 e3=>?_⟩,λy c e=>?_,I.free,I.freeC,λp hp=>?_,tracked ⟨oL,hoL,I.free⟩ hs,by simpa using I.len⟩ ⟨_,hs,.inl rfl⟩
  ·exact (hs.2 b (Ce (Bu (Aw e) I.ok.above))).trans (I.base.keep b o e n hb hx)
  ·obtain ⟨sl,e1⟩:=I.base.slot b o e n hb hx
   exact ⟨sl,(hs.2 b (Ce (Bu (Aw e) I.ok.above))).trans e1⟩
  ·obtain ⟨o',e1⟩:=I.base.there b o e hx
   exact ⟨o',(hs.2 b (Ce (Bu (Aw e) I.ok.above))).trans e1⟩
  ·by_cases hj:j=i
   ·subst hj
    rw[hi] at e1; cases e1
    rw[lR hiσ] at e2
    cases e2
    exact ⟨u,r,.inl ⟨hk,by simp⟩⟩
   ·rw[List.getElem?_set_ne (Po hj)] at e2
    obtain ⟨u',r',q⟩:=hl j y v' e1 e2 e3
    refine ⟨u',r',?_⟩
    rcases q with ⟨k,e⟩ | ⟨k,c,e,z⟩
    ·refine .inl ⟨k,?_⟩
     have : y≠x:=λe=>hj (fN hN e1 (e▸hi))
     simp [this,e]
    ·exact .inr ⟨k,c,e,z.sameBut hs (cne y c e)⟩
  ·obtain ⟨w',z⟩:=I.cell y c e
   exact ⟨w',z.sameBut hs (cne y c e)⟩
  ·obtain ⟨e,n,ne,nf,d⟩:=I.pin p hp
   exact ⟨(hs.2 p.1 ne).trans e,n,ne,nf,d⟩
 ·have hfn:X.fn x=true:=by
   rcases hf with z | z
   ·exact z
   ·rw[z] at hk; cases hk
  obtain ⟨c,hc⟩:=I.ok.has x (.inl hk)
  obtain ⟨w',z⟩:=I.cell x c hc
  refine wpAny_storeName_cell I.ok.kind hk hc z (λh' hc' hs=>?_)
  obtain ⟨oc,hoc,hocd⟩:=id z
  refine h { s with heap:=h' } ⟨I.ok,I.os,I.bare,⟨λb o e n hb hx=>?_,λb o e n hb hx=>?_,I.base.free,λb o e hx=>?_,I.base.tups,I.base.frzs,I.base.tbls⟩,⟨m,hn.sameBut hs (Po (cne x c hc)),λj y v' e1 e2 e3=>?_⟩,λy c' e=>?_,I.free,I.freeC,λp hp=>?_,tracked ⟨oc,hoc,I.freeC x c hc⟩ hs,by simpa using I.len⟩ ⟨c,hs,.inr hc⟩
  ·exact (hs.2 b (Ce (Bu (Aw e) (I.ok.cab x c hfn hc)))).trans (I.base.keep b o e n hb hx)
  ·obtain ⟨sl,e1⟩:=I.base.slot b o e n hb hx
   exact ⟨sl,(hs.2 b (Ce (Bu (Aw e) (I.ok.cab x c hfn hc)))).trans e1⟩
  ·obtain ⟨o',e1⟩:=I.base.there b o e hx
   exact ⟨o',(hs.2 b (Ce (Bu (Aw e) (I.ok.cab x c hfn hc)))).trans e1⟩
  ·by_cases hj:j=i
   ·subst hj
    rw[hi] at e1; cases e1
    rw[lR hiσ] at e2
    cases e2
    exact ⟨u,r,.inr ⟨.inl hk,c,hc,hc'⟩⟩
   ·rw[List.getElem?_set_ne (Po hj)] at e2
    obtain ⟨u',r',q⟩:=hl j y v' e1 e2 e3
    refine ⟨u',r',?_⟩
    rcases q with q | ⟨k,c',e,z'⟩
    ·exact .inl q
    ·refine .inr ⟨k,c',e,z'.sameBut hs ?_⟩
     rintro rfl
     exact hj (fN hN e1 (I.ok.inj _ _ _ e hc▸hi))
  ·by_cases hcc:c'=c
   ·subst hcc; exact ⟨_,hc'⟩
   ·obtain ⟨w2,z2⟩:=I.cell y c' e
    exact ⟨w2,z2.sameBut hs hcc⟩
  ·obtain ⟨e,n,ne,nf,d⟩:=I.pin p hp
   refine ⟨(hs.2 p.1 ?_).trans e,n,ne,nf,d⟩
   intro q
   rw[q,hoc] at e
   have q':oc=p.2:=Bz e
   exact d w' (by rw[<- q']; exact hocd)
theorem Yj{M:Model}{A:Cp}{E:Value->Aj->Prop}{i:Nat}{x:Str}{v:V}{u:Value}{Q:Unit->Aj->Prop}(I:Inv X pins σ H s)(hN:X.N.Nodup)(hi:X.N[i]? = some x)(hx:Loc X.env.scope x)(r:RelV v u)(h:∀s',Inv X pins (σ.set i (some v)) H s'->Q () s')(hf:X.fn x=true\/X.env.scope.names.lookup x=some .local:=by first | exact .inl rfl | exact .inr rfl | assumption):wpAny M A (storeName X.env x u) Q E s :=
 qT I hN hi hx r (λs' I' _=>h s' I') hf
theorem Inv.call'{s':Aj}{ch:List Addr}(I:Inv X pins σ H s)(ho:s'.os=s.os)(u:Un (pY X.stack) ch H H' s.heap s'.heap)(hok:Xz X.prog X.w H' s'.heap)(hg:Ra s'.gens)(hch:∀b∈ch,(b∈X.ex\/X.s₀.heap.objs.size<=b)/\b≠X.env.locals/\(∀x c,X.env.cells.lookup x=some c->c≠b)/\∀p∈X.pn++pins,p.1≠b):Inv X pins σ H' s':=by
 obtain ⟨h',g',d',t',o'⟩:=s'
 have e:o'=s.os:=ho
 subst e
 exact I.call (g':=g') (t':=t') (d':=d') u hok hg hch
end
abbrev XK:=Value->Option Addr->Hp->Prop
abbrev St:=List (Option V)
abbrev VK:=V->Hp->Prop
abbrev TE:=St->Hp->VK->Prop
abbrev TT:=St->Hp->(Bool->Hp->Prop)->Prop
abbrev TA:=St->Hp->(List V->Hp->Prop)->Prop
structure Ends where
 nx:St->Hp->Prop
 rt:VK
 bk:St->Hp->Prop:=λ_ _=>False
 ct:St->Hp->Prop:=λ_ _=>False
abbrev TS:=Ends->St->Hp->Prop
def EP(X:Cx)(pins:List (Addr×Obj))(σ:St)(Q:VK)(u:Value)(s':Aj):Prop:=∃v H',Inv X pins σ H' s'/\RelV v u/\Q v H'
def TP(X:Cx)(pins:List (Addr×Obj))(σ:St)(Q:Bool->Hp->Prop)(b:Bool)(s':Aj):Prop:=∃H',Inv X pins σ H' s'/\Q b H'
def AP(X:Cx)(pins:List (Addr×Obj))(σ:St)(Q:List V->Hp->Prop)(us:List Value)(s':Aj):Prop:=∃vs H',Inv X pins σ H' s'/\Fk vs us/\Q vs H'
def SP(X:Cx)(pins:List (Addr×Obj))(D:Ends)(f:Flow)(s':Aj):Prop :=
 match f with
 | .next=>∃σ' H',Inv X pins σ' H' s'/\D.nx σ' H'
 | .brk=>∃σ' H',Inv X pins σ' H' s'/\D.bk σ' H'
 | .cont=>∃σ' H',Inv X pins σ' H' s'/\D.ct σ' H'
 | .ret u=>∃v σ' H',Inv X pins σ' H' s'/\RelV v u/\D.rt v H'
def PE(X:Cx)(e:Expr)(t:TE):Prop :=
 ∀(pins:List (Addr×Obj)) (s:Aj) (σ:St) (H:Hp) (Q:VK),Inv X pins σ H s->t σ H Q->wpAny (model X.prog X.w) X.A (eval e X.env) (EP X pins σ Q) X.xe s
def PT(X:Cx)(e:Expr)(t:TT):Prop :=
 ∀(pins:List (Addr×Obj)) (s:Aj) (σ:St) (H:Hp) (Q:Bool->Hp->Prop),Inv X pins σ H s->t σ H Q->wpAny (model X.prog X.w) X.A (isTrue e X.env (eval e X.env)) (TP X pins σ Q) X.xe s
def PW(X:Cx)(e:Expr)(t:TT):Prop :=
 ∀(whole:Sem Value) (pins:List (Addr×Obj)) (s:Aj) (σ:St) (H:Hp) (Q:Bool->Hp->Prop),Inv X pins σ H s->t σ H Q->wpAny (model X.prog X.w) X.A (isTrue e X.env whole) (TP X pins σ Q) X.xe s
theorem PW.pt{X:Cx}{e:Expr}{t:TT}(h:PW X e t):PT X e t:=h _
def PA(X:Cx)(es:List Expr)(t:TA):Prop :=
 ∀(pos:Pos) (pins:List (Addr×Obj)) (s:Aj) (σ:St) (H:Hp) (Q:List V->Hp->Prop),Inv X pins σ H s->t σ H Q->wpAny (model X.prog X.w) X.A (spliced (Hx pos (Bn es X.env))) (AP X pins σ Q) X.xe s
def PS(X:Cx)(st:Stmt)(t:TS):Prop :=
 ∀(pins:List (Addr×Obj)) (s:Aj) (σ:St) (H:Hp) (D:Ends),Inv X pins σ H s->t D σ H->wpAny (model X.prog X.w) X.A (exec st X.env) (SP X pins D) X.xe s
def lD(X:Cx)(st:List Stmt)(t:TS):Prop :=
 ∀(pins:List (Addr×Obj)) (s:Aj) (σ:St) (H:Hp) (D:Ends),Inv X pins σ H s->t D σ H->wpAny (model X.prog X.w) X.A (execs st X.env) (SP X pins D) X.xe s
theorem Fv{α:Type}{t:Sem α}{Q Q':α->Aj->Prop}{M:Model}{A:Cp}{E:Value->Aj->Prop}{s:Aj}(h:wpAny M A t Q E s)(hQ:∀a s,Q a s->Q' a s):wpAny M A t Q' E s:=Cz h hQ λ_ _ x=>x
section
variable{X:Cx}
theorem FE{a b:Expr}{ta tb:TE}(ha:PE X a ta)(hb:PE X b tb){pins:List (Addr×Obj)}{s:Aj}{σ:St}{H:Hp}{R:V->V->Hp->Prop}(I:Inv X pins σ H s)(h:ta σ H λx H1=>tb σ H1 λy H2=>R x y H2){α:Type}{Q:α->Aj->Prop}{f:Value->Value->Sem α}(hf:∀v u s2 x y H2,Inv X pins σ H2 s2->RelV x v->RelV y u->R x y H2->wpAny (model X.prog X.w) X.A (f v u) Q X.xe s2):wpAny (model X.prog X.w) X.A (eval a X.env) (λv s₁=>wpAny (model X.prog X.w) X.A (eval b X.env) (λu s₂=>wpAny (model X.prog X.w) X.A (f v u) Q X.xe s₂) X.xe s₁) X.xe s:=by
 refine Fv (ha pins s σ H _ I h) λv s1 q0_ => ?_
 obtain ⟨x,H1,I1,r1,q1⟩ := q0_
 refine Fv (hb pins s1 σ H1 _ I1 q1) λu s2 q0_ => ?_
 obtain ⟨y,H2,I2,r2,q2⟩ := q0_
 exact hf v u s2 x y H2 I2 r1 r2 q2
def Pp(i:Nat):TE:=λσ H Q=>∃v,σ[i]? = some (some v)/\Q v H
def tC(v:V):TE:=λ_ H Q=>Q v H
theorem Q0{i:Nat}{x:Str}{pos:Pos}(hN:X.N[i]? = some x)(hv:Y7 X.env.scope x)(hd:(x == ("__debug__" : Str))=false:=by decide)(hcd:(x == ("__classdict__" : Str))=false:=by decide):PE X (.Name x pos) (Pp i):=by
 intro pins s σ H Q I h
 obtain ⟨v,e,h⟩:=h
 obtain ⟨m,hn,hl⟩:=I.loc
 obtain ⟨u,r,l⟩:=hl i x v hN e hv
 have fin:EP X pins σ Q u s:=⟨v,H,I,r,h⟩
 rcases l with ⟨hk,hm⟩ | ⟨hk,c,hc,hcell⟩
 ·exact wpAny_Name (wpAny_loadName_local I.ok.kind hk hn hm fin) hd
 ·rcases hk with hk | hk
  ·exact wpAny_Name (wpAny_loadName_cell I.ok.kind hk hc hcell fin) hd
  ·exact wpAny_Name (wpAny_loadName_free I.ok.kind hk hc hcell fin hcd) hd
theorem Es{i j pos}:PE X (.Constant (.int i) j pos) (tC (.int i)):=λ_ _ _ H _ I h=>wpAny_Constant_int ⟨.int i,H,I.tok _,⟨_,rfl⟩,h⟩
theorem AK{b j pos}:PE X (.Constant (.bool b) j pos) (tC (.bl b)):=λ_ _ _ H _ I h=>Constant_bool ⟨.bl b,H,I,rfl,h⟩
theorem wC{j pos}:PE X (.Constant .none j pos) (tC .non):=λ_ _ _ H _ I h=>Constant_none ⟨.non,H,I,rfl,h⟩
theorem L7{x j pos}:PE X (.Constant (.str x) j pos) (tC (.str x)):=λ_ _ _ H _ I h=>Calls.Constant_str ⟨.str x,H,I.tok _,⟨_,rfl⟩,h⟩
def Gl(X:Cx)(x:Str):Prop:=X.env.kindOf x=some .globalImplicit
theorem mH{E:Value->Aj->Prop}{pins:List (Addr×Obj)}{s:Aj}{σ:St}{H:Hp}{x:Str}{u:Value}{pos:Pos}{Q:Value->Aj->Prop}(I:Inv X pins σ H s)(hg:Gl X x)(hm:X.mg x=some u)(h:Q u s)(hd:(x == ("__debug__" : Str))=false:=by decide):wpAny (model X.prog X.w) X.A (eval (.Name x pos) X.env) Q E s :=
 cG I.ok.kind hg (Calls.loadGlobal_global (by rw[I.ok.glob]; exact I.mod.glob.keeps I.bk) hm h) hd
theorem Sm{E:Value->Aj->Prop}{pins:List (Addr×Obj)}{s:Aj}{σ:St}{H:Hp}{x:Str}{u:Value}{pos:Pos}{Q:Value->Aj->Prop}(I:Inv X pins σ H s)(hg:Gl X x)(hm:X.mg x=none)(hv:Kr x=some u)(h:Q u s)(hn:x ≠ "__name__" := by decide)(hd:(x == ("__debug__" : Str))=false:=by decide):wpAny (model X.prog X.w) X.A (eval (.Name x pos) X.env) Q E s:=by
 obtain ⟨mb,h1,h2⟩:=I.mod.blt
 exact cG I.ok.kind hg (Calls.loadGlobal_builtin (by rw[I.ok.glob]; exact I.mod.glob.keeps I.bk) hm (by rw[I.ok.blt]; exact h1.keeps I.bk) ((h2 x hn).trans hv) h) hd
theorem q8{x:Str}{v:V}{u:Value}{pos:Pos}(hg:Gl X x)(hm:X.mg x=none)(hv:Kr x=some u)(r:RelV v u)(hn:x ≠ "__name__" := by decide)(hd:(x == ("__debug__" : Str))=false:=by decide):PE X (.Name x pos) (tC v) :=
 λ_ _ _ H _ I h=>Sm I hg hm hv ⟨v,H,I,r,h⟩ hn hd
variable{a b:Expr}{ta tb:TE}{pos:Pos}
def PC(X:Cx)(op:CmpOp)(a b:Expr)(t:TE):Prop :=
 ∀(pins:List (Addr×Obj)) (s:Aj) (σ:St) (H:Hp) (Q:VK),Inv X pins σ H s->t σ H Q ->
  wpAny (model X.prog X.w) X.A (eval a X.env) (λv s₁=>wpAny (model X.prog X.w) X.A (eval b X.env) (λu s₂=>wpAny (model X.prog X.w) X.A (Hi op v u) (EP X pins σ Q) X.xe s₂) X.xe s₁) X.xe s
theorem sM(b:Expr){op:CmpOp}(h:op≠.In)(h2:op≠.NotIn):Gk op b=false:=by
 have e1:(op == CmpOp.In)=false:=by cases op <;> first | rfl | exact absurd rfl h
 have e2:(op == CmpOp.NotIn)=false:=by cases op <;> first | rfl | exact absurd rfl h2
 cases b <;> simp [Gk,e1,e2]
def tB(t:TE):TT:=λσ H Q=>t σ H λx H1=>∃c,x=.bl c/\Q c H1
theorem BY{op:CmpOp}{t:TE}(h:PC X op a b t)(h1:Gk op b=false:=by first | exact sM _ (by decide) (by decide) | rfl):PT X (.Compare a [op] [b] pos) (tB t):=by
 intro pins s σ H Q I hw
 refine wpAny_isTrue_Compare1 (Fv (h pins s σ H _ I hw) λv s1 h1=>Fv h1 λu s2 h2=>Fv h2 λc s3 ⟨x,H1,I1,r1,q1⟩=>?_) h1
 obtain ⟨d,rfl,q⟩:=q1
 cases r1
 exact Gs ⟨H1,I1,q⟩
theorem sZ{e:Expr}{t:TE}(h:PE X e t)(he:∀whole,isTrue e X.env whole=(do let v <- whole; Qv e.pos; Qx [v] (truthy v)):=by intro _; rfl):PT X e (tB t):=by
 intro pins s σ H Q I hw
 refine isTrue_plain (Fv (h pins s σ H _ I hw) λv s1 ⟨x,H1,I1,r1,q1⟩=>?_) (he _)
 obtain ⟨d,rfl,q⟩:=q1
 cases r1
 exact Gs ⟨H1,I1,q⟩
variable{tA tB':TT}{Fb:List Expr}
def CF(t u:TT):TT:=λσ H Q=>t σ H λc H1=>if c=true then u σ H1 Q else Q false H1
def EX(t u:TT):TT:=λσ H Q=>t σ H λc H1=>if c=true then Q true H1 else u σ H1 Q
def CV(t:TT):TT:=λσ H Q=>t σ H λc H1=>Q (!c) H1
theorem r9(ha:PT X a tA):PW X (.BoolOp .And [a] pos) tA:=by
 intro wh pins s σ H Q I h
 refine isTrue_and (Fv (ha pins s σ H Q I h) λc s1 e=>?_)
 cases c with
 | true=>exact isTrue_and_nil e
 | false=>exact e
theorem L6(ha:PT X a tA):PW X (.BoolOp .Or [a] pos) tA:=by
 intro wh pins s σ H Q I h
 refine isTrue_or (Fv (ha pins s σ H Q I h) λc s1 e=>?_)
 cases c with
 | false=>exact isTrue_or_nil e
 | true=>exact e
theorem O0(ha:PT X a tA)(hb:PW X (.BoolOp .And (b::Fb) pos) tB'):PW X (.BoolOp .And (a::b::Fb) pos) (CF tA tB'):=by
 intro wh pins s σ H Q I h
 refine isTrue_and (Fv (ha pins s σ H _ I h) λc s1 q0_ => ?_)
 obtain ⟨H1,I1,q1⟩ := q0_
 cases c with
 | true=>exact hb wh pins s1 σ H1 Q I1 q1
 | false=>exact ⟨H1,I1,q1⟩
theorem T1(ha:PT X a tA)(hb:PW X (.BoolOp .Or (b::Fb) pos) tB'):PW X (.BoolOp .Or (a::b::Fb) pos) (EX tA tB'):=by
 intro wh pins s σ H Q I h
 refine isTrue_or (Fv (ha pins s σ H _ I h) λc s1 q0_ => ?_)
 obtain ⟨H1,I1,q1⟩ := q0_
 cases c with
 | true=>exact ⟨H1,I1,q1⟩
 | false=>exact hb wh pins s1 σ H1 Q I1 q1
theorem E5(ha:PT X a tA):PT X (.UnaryOp .Not a pos) (CV tA):=by
 intro pins s σ H Q I h
 exact isTrue_not (ha pins s σ H (λc H1=>Q (!c) H1) I h)
def U6(ta tb:TE):TE:=λσ H Q=>ta σ H λx H1=>∃c,x=.bl c/\if c=true then tb σ H1 Q else Q (.bl false) H1
def X9(ta:TE):TE:=λσ H Q=>ta σ H λx H1=>∃c,x=.bl c/\Q (.bl (!c)) H1
theorem C3{op}{t:TE}(h:PE X a t):PE X (.BoolOp op [a] pos) t:=λpins s σ H Q I hw=>BoolOp_one (h pins s σ H Q I hw)
theorem M5(ha:PE X a ta)(hb:PE X (.BoolOp .And (b::Fb) pos) tb):PE X (.BoolOp .And (a::b::Fb) pos) (U6 ta tb):=by
 intro pins s σ H Q I h
 refine BoolOp_and (Fv (ha pins s σ H _ I h) λv s1 q0_ => ?_)
 obtain ⟨x,H1,I1,r1,q1⟩ := q0_
 obtain ⟨c,rfl,q1⟩:=q1
 cases r1
 refine Gs ?_
 cases c with
 | true=>exact hb pins s1 σ H1 Q I1 q1
 | false=>exact ⟨.bl false,H1,I1,rfl,q1⟩
theorem J5(ha:PE X a ta):PE X (.UnaryOp .Not a pos) (X9 ta):=by
 intro pins s σ H Q I h
 refine UnaryOp_ (Fv (ha pins s σ H _ I h) λv s1 q0_ => ?_)
 obtain ⟨x,H1,I1,r1,q1⟩ := q0_
 obtain ⟨c,rfl,q1⟩:=q1
 cases r1
 exact not_of (Gs ⟨.bl (!c),H1,I1,rfl,q1⟩)
def FC(t:TT)(ta tb:TE):TE:=λσ H Q=>t σ H λc H1=>if c=true then ta σ H1 Q else tb σ H1 Q
theorem sW{c:Expr}(hc:PT X c tA)(ha:PE X a ta)(hb:PE X b tb):PE X (.IfExp c a b pos) (FC tA ta tb):=by
 intro pins s σ H Q I h
 refine wpAny_IfExp (Fv (hc pins s σ H _ I h) λd s1 q0_ => ?_)
 obtain ⟨H1,I1,q1⟩ := q0_
 cases d with
 | true=>exact ha pins s1 σ H1 Q I1 q1
 | false=>exact hb pins s1 σ H1 Q I1 q1
end
def Ov(K:PySem.W.Frag)(H:Hp)(a:Addr)(xs:List V):Prop :=
 Rd H a (.lst xs) \/
  ∃(o:Obj) (its:Array Value) (n:Nat),K.lookup a=some o/\o.cls=.type "list" /\ o.dict=none/\o.data=.seq its n/\its.size<=Bd/\Fk xs its.toList
def Tg(K:PySem.W.Frag)(H:Hp)(a:Addr)(xs:List V):Prop :=
 Rd H a (.tup xs) \/
  ∃(o:Obj) (its:Array Value) (n:Nat),K.lookup a=some o/\o.cls=.type "tuple" /\ o.data=.seq its n/\its.size<=Bd/\Fk xs its.toList
def BL:Value->Option V
 | .none=>some .non
 | .bool b=>some (.bl b)
 | .int i _=>some (.int i)
 | .str x _=>some (.str x)
 | .bytes b _=>some (.byt b)
 | .float b _=>some (.flt b)
 | .ref a=>some (.ref a)
 | .type n=>some (.ty n)
 | _=>none
theorem RelV.abs{x:V}{u:Value}(r:RelV x u):BL u=some x:=by
 cases x with
 | non=>cases r; rfl
 | bl _=>cases r; rfl
 | int _=>obtain ⟨t,rfl⟩:=r; rfl
 | str _=>obtain ⟨t,rfl⟩:=r; rfl
 | byt _=>obtain ⟨t,rfl⟩:=r; rfl
 | flt _=>obtain ⟨t,rfl⟩:=r; rfl
 | ref _=>cases r; rfl
 | ty _=>cases r; rfl
theorem RelV.inj{x y:V}{u:Value}(r:RelV x u)(q:RelV y u):x=y:=Bz (r.abs.symm.trans q.abs)
theorem Fk.inj:∀{xs ys:List V} {us:List Value},Fk xs us->Fk ys us->xs=ys
 | _,_,_,.nil,.nil=>rfl
 | _,_,_,.cons r t,.cons r' t'=>by rw[r.inj r',Fk.inj t t']
section
variable{X:Cx}{pins:List (Addr×Obj)}{σ:St}{H:Hp}{s:Aj}{a:Addr}{xs ys:List V}
theorem Ov.of{K:PySem.W.Frag}(h:H a=some (.lst xs)):Ov K H a xs:=.inl (.inl h)
theorem Tg.of{K:PySem.W.Frag}(h:H a=some (.tup xs)):Tg K H a xs:=.inl (.inl h)
theorem Inv.list(I:Inv X pins σ H s)(h:Ov X.K H a xs):∃its:List Value,Fk xs its/\PlainL s.heap a its.toArray/\xs.length<=Bd:=by
 rcases h with h | ⟨o,its,n,hk,hc,hd,hs,hz,r⟩
 ·obtain ⟨z,its,n,r,e⟩:=h.ok I.hok
  exact ⟨its,r,⟨_,n,e,rfl,rfl,rfl⟩,z⟩
 ·refine ⟨its.toList,r,⟨o,n,I.kIn a o hk,hc,hd,by simpa using hs⟩,?_⟩
  have e:=r.length
  simp only[Ai] at e
  omega
theorem Inv.tuple(I:Inv X pins σ H s)(h:Tg X.K H a xs):∃its:List Value,Fk xs its/\IsTup s.heap a its.toArray/\xs.length<=Bd:=by
 rcases h with h | ⟨o,its,n,hk,hc,hs,hz,r⟩
 ·obtain ⟨z,its,r,p⟩:=h.ok I.hok
  exact ⟨its,r,p,z⟩
 ·refine ⟨its.toList,r,⟨o,I.kIn a o hk,hc,n,by simpa using hs⟩,?_⟩
  have e:=r.length
  simp only[Ai] at e
  omega
theorem Inv.list_inj(I:Inv X pins σ H s)(h:Ov X.K H a xs)(h':Ov X.K H a ys):xs=ys:=by
 obtain ⟨its,r,⟨o,n,e,_,_,d⟩,_⟩:=I.list h
 obtain ⟨its',r',⟨o',n',e',_,_,d'⟩,_⟩:=I.list h'
 rw[e] at e'; cases e'
 rw[d] at d'
 injection d' with d1 _
 have : its=its':=by simpa using congrArg Array.toList d1
 subst this
 exact r.inj r'
theorem Inv.tuple_inj(I:Inv X pins σ H s)(h:Tg X.K H a xs)(h':Tg X.K H a ys):xs=ys:=by
 obtain ⟨its,r,⟨o,e,_,n,d⟩,_⟩:=I.tuple h
 obtain ⟨its',r',⟨o',e',_,n',d'⟩,_⟩:=I.tuple h'
 rw[e] at e'; cases e'
 rw[d] at d'
 injection d' with d1 _
 have : its=its':=by simpa using congrArg Array.toList d1
 subst this
 exact r.inj r'
end
abbrev Cx.wish(X:Cx)(E:Value->Aj->Prop):Cx:={ X with xe:=E }
abbrev Cx.nox(X:Cx):Cx:=X.wish λ_ _=>False
theorem Cx.Ok.wish{X:Cx}(ok:X.Ok)(E:Value->Aj->Prop):(X.wish E).Ok :=
 ⟨ok.mod,ok.kind,ok.glob,ok.blt,ok.above,ok.inj,ok.has,ok.cab,ok.hd,ok.frames,ok.stk,ok.exf,ok.bs,ok.bsz,ok.noex,ok.exfs,ok.funs,ok.frf,ok.tab⟩
theorem Cx.Ok.unwish{X:Cx}{E:Value->Aj->Prop}(ok:(X.wish E).Ok):X.Ok :=
 ⟨ok.mod,ok.kind,ok.glob,ok.blt,ok.above,ok.inj,ok.has,ok.cab,ok.hd,ok.frames,ok.stk,ok.exf,ok.bs,ok.bsz,ok.noex,ok.exfs,ok.funs,ok.frf,ok.tab⟩
section
variable{X:Cx}{pins:List (Addr×Obj)}{σ:St}{H:Hp}{s:Aj}{E:Value->Aj->Prop}
theorem Inv.wish(I:Inv X pins σ H s)(E:Value->Aj->Prop):Inv (X.wish E) pins σ H s:=⟨I.ok.wish E,I.os,I.bare,I.base,I.loc,I.cell,I.free,I.freeC,I.pin,I.hok,I.len⟩
theorem Inv.unwish(I:Inv (X.wish E) pins σ H s):Inv X pins σ H s:=⟨I.ok.unwish,I.os,I.bare,I.base,I.loc,I.cell,I.free,I.freeC,I.pin,I.hok,I.len⟩
theorem SP.unwish{D:Ends}{f:Flow}{s':Aj}(h:SP (X.wish E) pins D f s'):SP X pins D f s':=by
 cases f with
 | next=>obtain ⟨σ',H',I,q⟩:=h; exact ⟨σ',H',I.unwish,q⟩
 | brk=>obtain ⟨σ',H',I,q⟩:=h; exact ⟨σ',H',I.unwish,q⟩
 | cont=>obtain ⟨σ',H',I,q⟩:=h; exact ⟨σ',H',I.unwish,q⟩
 | ret u=>obtain ⟨v,σ',H',I,r,q⟩:=h; exact ⟨v,σ',H',I.unwish,r,q⟩
theorem lD.nox{st:List Stmt}{t:TS}(h:lD X.nox st t):lD X st t:=λpins s σ H D I hw =>
 Cz (h pins s σ H D (I.wish _) hw) (λ_ _ q=>q.unwish) λ_ _ z=>Jt z
end
section
variable{X:Cx}{st:Stmt}{Fb:List Stmt}{t u:TS}{e:Expr}{te:TE}{pos:Pos}
def X2:TS:=λD σ H=>D.nx σ H
def CN(t u:TS):TS:=λD σ H=>t { D with nx:=u D } σ H
theorem mI:lD X [] X2:=λ_ _ σ H _ I h=>Us ⟨σ,H,I,h⟩
theorem Jd(h1:PS X st t)(h2:lD X Fb u):lD X (st::Fb) (CN t u):=by
 intro pins s σ H D I h
 refine wpAny_execs_cons (Fv (h1 pins s σ H { D with nx:=u D } I h) λf s1 q=>?_)
 cases f with
 | next =>
  obtain ⟨σ',H',I',q⟩:=q
  exact h2 pins s1 σ' H' D I' q
 | ret v=>exact q
 | brk=>exact q
 | cont=>exact q
theorem Rr(h1:PS X st t):lD X [st] t:=by
 intro pins s σ H D I h
 refine wpAny_execs_cons (Fv (h1 pins s σ H D I h) λf s1 q=>?_)
 cases f with
 | next=>exact Us q
 | ret v=>exact q
 | brk=>exact q
 | cont=>exact q
theorem Inv.quiet{pins:List (Addr×Obj)}{σ:St}{H:Hp}{s:Aj}(I:Inv X pins σ H s):interactive X.env=false:=by simp [interactive,I.ok.kind]
def X0(te:TE):TS:=λD σ H=>te σ H λ_ H1=>D.nx σ H1
theorem Xo(he:PE X e te)(hs:Jw e none pos.line X.env=pure false:=by rfl):PS X (.Expr e pos) (X0 te):=by
 intro pins s σ H D I h
 exact wpAny_Expr_any (Fv (he pins s σ H _ I h) λv s1 ⟨x,H1,I1,r1,q1⟩=>⟨σ,H1,I1,q1⟩) I.quiet hs
def BV(te:TE):TS:=λD σ H=>te σ H D.rt
theorem Zo(he:PE X e te):PS X (.Return (some e) pos) (BV te):=by
 intro pins s σ H D I h
 exact wpAny_Return_some (Fv (he pins s σ H _ I h) λv s1 ⟨x,H1,I1,r1,q1⟩=>⟨x,σ,H1,I1,r1,q1⟩)
def BX(c:TT)(t u:TS):TS:=λD σ H=>c σ H λb H1=>if b=true then t D σ H1 else u D σ H1
theorem x8{c:Expr}{a b:List Stmt}{tc:TT}(hc:PT X c tc)(ha:lD X a t)(hb:lD X b u):PS X (.If c a b pos) (BX tc t u):=by
 intro pins s σ H D I h
 refine wpAny_If (Fv (hc pins s σ H _ I h) λd s1 q0_ => ?_)
 obtain ⟨H1,I1,q1⟩ := q0_
 cases d with
 | true=>exact ha pins s1 σ H1 D I1 q1
 | false=>exact hb pins s1 σ H1 D I1 q1
def P8:TS:=λ_ _ _=>False
theorem vK:PS X st P8:=λ_ _ _ _ _ _ h=>h.elim
end
abbrev TG:=V->St->Hp->(St->Hp->Prop)->Prop
abbrev o7:=List V->St->Hp->(St->Hp->Prop)->Prop
def PG(X:Cx)(target:Expr)(t:TG):Prop :=
 ∀(pins:List (Addr×Obj)) (s:Aj) (σ:St) (H:Hp) (v:V) (u:Value) (Q:St->Hp->Prop),Inv X pins σ H s->RelV v u->t v σ H Q ->
  wpAny (model X.prog X.w) X.A (Ka target X.env u) (λ_ s'=>∃σ' H',Inv X pins σ' H' s'/\Q σ' H') X.xe s
def O6(X:Cx)(ts:List Expr)(t:o7):Prop :=
 ∀(pins:List (Addr×Obj)) (s:Aj) (σ:St) (H:Hp) (vs:List V) (us:List Value) (Q:St->Hp->Prop),Inv X pins σ H s->Fk vs us->t vs σ H Q ->
  wpAny (model X.prog X.w) X.A (assignInOrder ((Jj ts X.env).map (·.2)) us) (λ_ s'=>∃σ' H',Inv X pins σ' H' s'/\Q σ' H') X.xe s
abbrev C4:=V->V->V->Hp->(Hp->Prop)->Prop
def AB(X:Cx)(t:C4):Prop :=
 ∀(pins:List (Addr×Obj)) (s:Aj) (σ:St) (H:Hp) (o i v:V) (ov iv u:Value) (Q:Hp->Prop),Inv X pins σ H s->RelV o ov->RelV i iv->RelV v u->t o i v H Q ->
  wpAny (model X.prog X.w) X.A (setItem ov iv u) (λ_ s'=>∃H',Inv X pins σ H' s'/\Q H') X.xe s
abbrev AU:=V->V->Hp->VK->Prop
def AW(X:Cx)(op:Operator)(t:AU):Prop :=
 ∀(pins:List (Addr×Obj)) (s:Aj) (σ:St) (H:Hp) (x y:V) (v u:Value) (Q:VK),Inv X pins σ H s->RelV x v->RelV y u->t x y H Q ->
  wpAny (model X.prog X.w) X.A (inplaceOp op v u) (EP X pins σ Q) X.xe s
section
variable{X:Cx}{pos:Pos}
def Sg(i:Nat):TG:=λv σ H Q=>Q (σ.set i (some v)) H
theorem Kh{i:Nat}{x:Str}(hN:X.N.Nodup)(hi:X.N[i]? = some x)(hx:Loc X.env.scope x)(hf:X.fn x=true\/X.env.scope.names.lookup x=some .local:=by first | exact .inl rfl | exact .inr rfl | assumption):PG X (.Name x pos) (Sg i):=by
 intro pins s σ H v u Q I r h
 exact wpAny_assign_Name (Yj I hN hi hx r (λs' I'=>⟨_,H,I',h⟩) hf)
def AM:o7:=λvs σ H Q=>vs=[]/\Q σ H
def tI(t:TG)(u:o7):o7:=λvs σ H Q=>∃v r,vs=v::r/\t v σ H λσ' H'=>u r σ' H' Q
theorem mP:O6 X [] AM:=by
 intro pins s σ H vs us Q I r h
 obtain ⟨e,h⟩:=h
 subst e
 cases r
 exact assignInOrder_nil ⟨σ,H,I,h⟩
theorem Zl{e:Expr}{es:List Expr}{t:TG}{u:o7}(h1:PG X e t)(h2:O6 X es u)(hs:(Jj (e::es) X.env).map (·.2)=Ka e X.env::(Jj es X.env).map (·.2):=by rfl):O6 X (e::es) (tI t u):=by
 intro pins s σ H vs us Q I r h
 obtain ⟨v,vr,e1,h⟩:=h
 subst e1
 cases r with
 | cons r rr =>
  rw[hs]
  refine assignInOrder_cons (Fv (h1 pins s σ H _ _ _ I r h) λ_ s1 q0_ => ?_)
  obtain ⟨σ1,H1,I1,q1⟩ := q0_
  exact h2 pins s1 σ1 H1 _ _ Q I1 rr q1
def T3(K:PySem.W.Frag)(n:Nat)(t:o7):TG:=λv σ H Q=>∃a xs,v=.ref a/\Tg K H a xs/\xs.length=n/\t xs σ H Q
theorem xJ{es:List Expr}{k:Nat}{t:o7}{n:Nat}(hc:X.calm=true)(h:O6 X es t)(hn:(Jj es X.env).length=n:=by rfl)(hst:(Jj es X.env).findIdx? (·.1)=none:=by rfl):PG X (.Tuple es k pos) (T3 X.K n t):=by
 intro pins s σ H v u Q I r hw
 obtain ⟨a,xs,e1,hq,hl,hw⟩:=hw
 subst e1
 cases r
 obtain ⟨its,rv,ht,hz⟩:=I.tuple hq
 refine assign_Tuple_tuple (I.ok.hd hc) ht (by simp [hn,<- hl,rv.length]) hst λh' hx=>?_
 have I1:Inv X pins σ H { s with heap:=h' }:=I.kept (t':=s.toks) λb o e=>hx b o (Ce (Aw e)) e
 exact h pins _ σ H xs _ Q I1 (by simpa using rv) hw
def BG(to ti:TE)(t:C4):TG:=λv σ H Q=>to σ H λo H1=>ti σ H1 λi H2=>t o i v H2 λH3=>Q σ H3
theorem uZ{o i:Expr}{to ti:TE}{t:C4}(ho:PE X o to)(hi:PE X i ti)(hs:AB X t)
  (ha:∀v,Ka (.Subscript o i pos) X.env v=(do
   let ov <- Qx [v] (eval o X.env)
   let iv <- Qx [v,ov] (eval i X.env)
   Qv pos
   Qx [v,ov,iv] (setItem ov iv v)
   release [v,ov,iv] []):=by intro _; rfl):PG X (.Subscript o i pos) (BG to ti t):=by
 intro pins s σ H v u Q I r h
 rw[ha]
 refine Ab (Ey (Fv (ho pins s σ H _ I h) λov s1 q0_ => ?_))
 obtain ⟨x,H1,I1,r1,q1⟩ := q0_
 refine Ab (Ey (Fv (hi pins s1 σ H1 _ I1 q1) λiv s2 q0_ => ?_))
 obtain ⟨y,H2,I2,r2,q2⟩ := q0_
 refine Ab (Hg (Ab (Ey (Fv (hs pins s2 σ H2 x y v ov iv u _ I2 r1 r2 r q2) λ_ s3 q0_ => ?_))))
 obtain ⟨H3,I3,q3⟩ := q0_
 exact wpAny_release ⟨σ,H3,I3,q3⟩
def qD(te:TE)(g:TG):TS:=λD σ H=>te σ H λx H1=>g x σ H1 D.nx
theorem jE{tg e:Expr}{te:TE}{g:TG}(he:PE X e te)(hg:PG X tg g)(hs:swapsWithSole [tg] e pos.line X.env=pure false:=by rfl)(hw:swappedStores [tg] e X.env=pure none:=by rfl)(h1:(Jj [tg] X.env).map (·.2)=[Ka tg X.env]:=by rfl):PS X (.Assign [tg] e pos) (qD te g):=by
 intro pins s σ H D I h
 refine wpAny_Assign_stores (Fv (he pins s σ H _ I h) λv s1 ⟨x,H1,I1,r1,q1⟩=>?_) hs hw
 rw[h1]
 exact Fv (hg pins s1 σ H1 x v _ I1 r1 q1) λ_ s2 q=>q
theorem Qi{i:Nat}{x:Str}{e:Expr}{te:TE}{pos':Pos}(hN:X.N.Nodup)(hi:X.N[i]? = some x)(hx:Loc X.env.scope x)(he:PE X e te)(hs:Jw e (some (.Name x pos')) pos.line X.env=pure false:=by rfl)(hf:X.fn x=true\/X.env.scope.names.lookup x=some .local:=by first | exact .inl rfl | exact .inr rfl | assumption):PS X (.Assign [.Name x pos'] e pos) (qD te (Sg i)):=by
 intro pins s σ H D I h
 refine wpAny_Assign_Name (Fv (he pins s σ H _ I h) λv s1 ⟨y,H1,I1,r1,q1⟩=>?_) hs
 exact Yj I1 hN hi hx r1 (λs2 I2=>⟨_,H1,I2,q1⟩) hf
def BR(i:Nat)(te:TE)(ti:AU):TS:=λD σ H=>∃x,σ[i]? = some (some x)/\te σ H λy H1=>ti x y H1 λz H2=>D.nx (σ.set i (some z)) H2
theorem K3{i:Nat}{x:Str}{e:Expr}{te:TE}{op:Operator}{ti:AU}{pos':Pos}(hN:X.N.Nodup)(hi:X.N[i]? = some x)(hx:Loc X.env.scope x)(he:PE X e te)(ho:AW X op ti)(hf:X.fn x=true\/X.env.scope.names.lookup x=some .local:=by first | exact .inl rfl | exact .inr rfl | assumption):PS X (.AugAssign (.Name x pos') op e pos) (BR i te ti):=by
 intro pins s σ H D I h
 obtain ⟨v,e1,h⟩:=h
 obtain ⟨m,hn,hl⟩:=I.loc
 have vis:Y7 X.env.scope x:=by rcases hx with k | k; exact .inl k; exact .inr (.inl k)
 obtain ⟨u,r,l⟩:=hl i x v hi e1 vis
 refine wpAny_AugAssign_Name ?_
 have go:wpAny (model X.prog X.w) X.A (eval e X.env) (λw s₂=>wpAny (model X.prog X.w) X.A (inplaceOp op u w) (λr s₃=>wpAny (model X.prog X.w) X.A (storeName X.env x r) (λ_=>SP X pins D .next) X.xe s₃) X.xe s₂) X.xe s:=by
  refine Fv (he pins s σ H _ I h) λw s1 q0_ => ?_
  obtain ⟨y,H1,I1,r1,q1⟩ := q0_
  refine Fv (ho pins s1 σ H1 v y u w _ I1 r r1 q1) λz s2 q0_ => ?_
  obtain ⟨zv,H2,I2,r2,q2⟩ := q0_
  exact Yj I2 hN hi hx r2 (λs3 I3=>⟨_,H2,I3,q2⟩) hf
 rcases l with ⟨hk,hm⟩ | ⟨hk,c,hc,hcell⟩
 ·exact wpAny_loadName_local I.ok.kind hk hn hm go
 ·rcases hk with hk | hk
  ·exact wpAny_loadName_cell I.ok.kind hk hc hcell go
  ·rcases hx with k | k
   ·have : X.env.scope.names.lookup x=some .free:=hk
    rw[k] at this; cases this
   ·have : X.env.scope.names.lookup x=some .free:=hk
    rw[k] at this; cases this
def CY(f:Int->Int->Int):AU:=λx y H Q=>∃i j,x=.int i/\y=.int j/\Q (.int (f i j)) H
theorem P6:AW X .Add (CY λi j=>i+j):=by
 intro pins s σ H x y v u Q I r1 r2 h
 obtain ⟨i,j,e1,e2,q⟩:=h
 subst e1; subst e2
 obtain ⟨t,rfl⟩:=r1
 obtain ⟨t',rfl⟩:=r2
 exact iadd_int ⟨.int _,H,I.tok _,⟨_,rfl⟩,q⟩
theorem K9:AW X .Sub (CY λi j=>i - j):=by
 intro pins s σ H x y v u Q I r1 r2 h
 obtain ⟨i,j,e1,e2,q⟩:=h
 subst e1; subst e2
 obtain ⟨t,rfl⟩:=r1
 obtain ⟨t',rfl⟩:=r2
 exact isub_int ⟨.int _,H,I.tok _,⟨_,rfl⟩,q⟩
end
section
variable{X:Cx}{pos:Pos}
def P2(c:TT)(tb:TS):TS:=λD σ H=>∃W:Nat->St->Hp->Prop,(∃m,W m σ H)/\∀m σ H,W m σ H ->
 c σ H λb H1=>if b=true then ∃N:St->Hp->Prop,(∀σ' H',N σ' H'->∃m',m'<m/\W m' σ' H')/\tb { D with nx:=N,ct:=N,bk:=D.nx } σ H1 else D.nx σ H1
theorem sU{c:Expr}{body:List Stmt}{tc:TT}{tb:TS}(hp:PassesOwn (model X.prog X.w) X.A X.env X.xe)(hc:PT X c tc)(hb:lD X body tb):PS X (.While c body [] pos) (P2 tc tb):=by
 intro pins s σ H D I h
 obtain ⟨W,⟨m0,w0⟩,turn⟩:=h
 refine wpAny_While (codeAny_whileLoop (λn s'=>∃σ' H',Inv X pins σ' H' s'/\W n σ' H') ?_ m0 ⟨σ,H,I,w0⟩)
 (intro n s1 q_; obtain ⟨σ1,H1,I1,w1⟩ := q_)
 refine Jq hp (Fv (hc pins s1 σ1 H1 _ I1 (turn n σ1 H1 w1)) λb s2 q0_ => ?_)
 obtain ⟨H2,I2,q2⟩ := q0_
 cases b with
 | true =>
  obtain ⟨N,hN,q2⟩:=q2
  rw[if_pos rfl]
  refine Jq hp (Fv (hb pins s2 σ1 H2 _ I2 q2) λf s3 q3=>?_)
  cases f with
  | next =>
   obtain ⟨σ3,H3,I3,n3⟩:=q3
   obtain ⟨m',hm,w3⟩:=hN σ3 H3 n3
   exact ⟨m',hm,σ3,H3,I3,w3⟩
  | cont =>
   obtain ⟨σ3,H3,I3,n3⟩:=q3
   obtain ⟨m',hm,w3⟩:=hN σ3 H3 n3
   exact ⟨m',hm,σ3,H3,I3,w3⟩
  | brk=>exact q3
  | ret v=>exact q3
 | false =>
  rw[if_neg Bx]
  exact Us ⟨σ1,H2,I2,q2⟩
end
structure It where
 go:Nat->Hp->Prop
 yld:Nat->Hp->V->Hp->Prop
 stop:Nat->Hp->Prop
def Lw(X:Cx)(pins:List (Addr×Obj))(H:Hp)(b:Addr):Prop :=
 H b=none/\b≠X.env.locals/\b∉X.fs/\(b∈X.ex\/X.s₀.heap.objs.size<=b)/\(∀x c,X.env.cells.lookup x=some c->c≠b)/\∀p∈X.pn++pins,p.1≠b
theorem Inv.fpOk{X:Cx}{pins:List (Addr×Obj)}{σ:St}{H H':Hp}{s:Aj}{b:Addr}(I:Inv X pins σ H s)(hb:s.heap.objs.size<=b)(hn:H' b=none):Lw X pins H' b:=by
 refine ⟨hn,Nat.ne_of_gt (Bu I.lt hb),I.nofs hb,.inr (Cf I.sz hb),λx c e z=>?_,λp hp z=>?_⟩
 ·obtain ⟨v,q⟩:=I.cell x c e
  exact absurd (Bu q.lt (by rw[z]; exact hb)) (Gw _)
 ·exact absurd (Bu (Aw (I.pin p hp).1) (by rw[z]; exact hb)) (Gw _)
structure Turn(P:Bj)(w:World)(K:PySem.W.Frag)(tg:Expr)(J:It)(fp:List Addr)(it:Addr)(tn:Nat->Heap->Prop):Prop where
 mem:it∈fp
 obj:∀i h,tn i h->∀b∈fp,∃o,h.get? b=some o/\∀v,o.data≠.cell v
 keep:∀i h h',tn i h->(∀b∈fp,∀o,h.get? b=some o->h'.get? b=some o)->tn i h'
 item:∀(X:Cx),X.prog=P->X.w=w->X.K=K->X.calm=true->∀(i:Nat) (pins:List (Addr×Obj)) (s:Aj) (σ:St) (H:Hp) (E:Value->Aj->Prop),Inv X pins σ H s->(∀b∈fp,Lw X pins H b)->tn i s.heap->J.go i H ->
  wpAny (model P w) X.A (Pn (.ref it)) (λr s1=>∃u,r=some u /\
   wpAny (model P w) X.A (Hy tg (.ref it) u) (λ_ s2=>∃x H',Inv X pins σ H' s2/\RelV x u/\J.yld i H x H'/\tn (i+1) s2.heap/\∀b∈fp,H' b=none) E s1) E s
 done:∀(X:Cx),X.prog=P->X.w=w->X.K=K->X.calm=true->∀(i:Nat) (pins:List (Addr×Obj)) (s:Aj) (σ:St) (H:Hp) (E:Value->Aj->Prop),Inv X pins σ H s->(∀b∈fp,Lw X pins H b)->tn i s.heap->J.stop i H ->
  wpAny (model P w) X.A (Pn (.ref it)) (λr s1=>r=none/\Inv X pins σ H s1) E s
 self:∀(A:Cp) (i:Nat) (s:Aj) (Q:Value->Aj->Prop) (E:Value->Aj->Prop),tn i s.heap->Q (.ref it) s->wpAny (model P w) A (pyIter (.ref it)) Q E s
abbrev TI:=St->Hp->(It->Hp->Prop)->Prop
def DJ(X:Cx)(pins:List (Addr×Obj))(σ:St)(tg:Expr)(R:It->Hp->Prop)(itv:Value)(s2:Aj):Prop :=
 ∃(it:Addr) (fp:List Addr) (tn:Nat->Heap->Prop) (J:It) (H':Hp),itv=.ref it/\Inv X pins σ H' s2/\Turn X.prog X.w X.K tg J fp it tn/\tn 0 s2.heap/\(∀b∈fp,Lw X pins H' b)/\R J H'
def PI(X:Cx)(tg iter:Expr)(wi:TI):Prop :=
 ∀(pins:List (Addr×Obj)) (s:Aj) (σ:St) (H:Hp) (R:It->Hp->Prop),Inv X pins σ H s->wi σ H R ->
  wpAny (model X.prog X.w) X.A (eval iter X.env) (λv s1=>wpAny (model X.prog X.w) X.A (pyIter v) (DJ X pins σ tg R) X.xe s1) X.xe s
theorem wY{M:Model}{A:Cp}{E:Value->Aj->Prop}{s:Aj}{tg:Expr}{it:Addr}{u:Value}{o:Obj}{n:String}{vs:Array Value}{Q:Unit->Aj->Prop}(ho:s.heap.get? it=some o)(hc:o.cls=.type n)(hd:o.data=.fields vs)(hn:["enumerate", "zip", "dict_itemiterator", "dict_reverseitemiterator", "odict_iterator", "itertools.zip_longest", "itertools.pairwise"].contains n=false)(hQ:Q () s):wpAny M A (Hy tg (.ref it) u) Q E s:=by
  unfold Hy
  cases tg <;> first
    | exact Al hQ
    | (cases u <;> first
        | exact Al hQ
        | (refine Ab (wpAny_load ho ?_)
           rw[hc,hd]
           show wpAny M A (if (["enumerate", "zip", "dict_itemiterator", "dict_reverseitemiterator", "odict_iterator", "itertools.zip_longest", "itertools.pairwise"].contains n && vs[0]? == some (Mf _))=true then _ else _) Q E s
           rw[if_neg (by intro h; rw[hn,Bool.false_and] at h; cases h)]
           exact Al hQ))
def BB(K:PySem.W.Frag)(a:Addr):It :=
 ⟨λi H=>∃xs x,Ov K H a xs/\xs[i]? = some x,λi H x H'=>H'=H/\∀xs,Ov K H a xs->xs[i]? = some x,λi H=>∃xs,Ov K H a xs/\xs.length<=i⟩
def CO(K:PySem.W.Frag)(a:Addr):It :=
 ⟨λi H=>∃xs x,Tg K H a xs/\xs[i]? = some x,λi H x H'=>H'=H/\∀xs,Tg K H a xs->xs[i]? = some x,λi H=>∃xs,Tg K H a xs/\xs.length<=i⟩
def xU(lo:Int)(n:Nat):It:=⟨λi _=>i<n,λi H x H'=>H'=H/\x=.int (lo+i),λi _=>n<=i⟩
theorem rM{P:Bj}{w:World}{K:PySem.W.Frag}{tg:Expr}(a it:Addr):Turn P w K tg (BB K a) [it] it (λi h=>h.IsListIter it a i) where
 mem:=by simp
 obj:=λi h st b hb=>by
  have e:b=it:=by simpa using hb
  subst e
  obtain ⟨o,e,c,d⟩:=st
  exact ⟨o,e,λv z=>by rw[d] at z; cases z⟩
 keep:=λi h h' st k=>st.at λo e=>k it (by simp) o e
 item:=by
  intro X hP hw hK hc i pins s σ H E I hf st hg
  subst hP hw hK
  obtain ⟨xs,x,hq,hx⟩:=hg
  obtain ⟨its,rv,p,hz⟩:=I.list hq
  obtain ⟨u,hu,ru⟩:=rv.get hx
  obtain ⟨f0,f1,f2,f3,f4,f5⟩:=hf it (by simp)
  refine xV st p.isList (x:=u) (by simpa using hu) λh' st' sb=>?_
  have I1:Inv X pins σ H { s with heap:=h' }:=I.turned (t':=s.toks) (λb o hb e=>(sb.2 b hb).trans e) f0 f1 f3 f4 f5
  obtain ⟨o,e,c,d⟩:=id st'
  exact ⟨u,rfl,wY (s:={ s with heap:=h' }) e c d (by decide) ⟨x,H,I1,ru,⟨rfl,λys hy=>by rw[I.list_inj hy hq]; exact hx⟩,st',λb hb=>(hf b hb).1⟩⟩
 done:=by
  intro X hP hw hK hc i pins s σ H E I hf st hg
  subst hP hw hK
  obtain ⟨xs,hq,hx⟩:=hg
  obtain ⟨its,rv,p,hz⟩:=I.list hq
  obtain ⟨f0,f1,f2,f3,f4,f5⟩:=hf it (by simp)
  have hl:=rv.length
  exact wpAny_pyNext_list_end (I.ok.hd hc) st p.isList (by simp; omega) λh' eb=>⟨rfl,I.turned (t':=s.toks) (λb o hb e=>eb b o hb e) f0 f1 f3 f4 f5⟩
 self:=λ_ _ _ _ _ st h=>wpAny_pyIter_listiter st h
theorem jP{P:Bj}{w:World}{K:PySem.W.Frag}{tg:Expr}(a it:Addr):Turn P w K tg (CO K a) [it] it (λi h=>h.IsTupleIter it a i) where
 mem:=by simp
 obj:=λi h st b hb=>by
  have e:b=it:=by simpa using hb
  subst e
  obtain ⟨o,e,c,d⟩:=st
  exact ⟨o,e,λv z=>by rw[d] at z; cases z⟩
 keep:=λi h h' st k=>st.at λo e=>k it (by simp) o e
 item:=by
  intro X hP hw hK hc i pins s σ H E I hf st hg
  subst hP hw hK
  obtain ⟨xs,x,hq,hx⟩:=hg
  obtain ⟨its,rv,p,hz⟩:=I.tuple hq
  obtain ⟨u,hu,ru⟩:=rv.get hx
  obtain ⟨f0,f1,f2,f3,f4,f5⟩:=hf it (by simp)
  refine wpAny_pyNext_tuple_item st (show s.heap.IsTuple a its.toArray from p) (x:=u) (by simpa using hu) λh' st' sb=>?_
  have I1:Inv X pins σ H { s with heap:=h' }:=I.turned (t':=s.toks) (λb o hb e=>(sb.2 b hb).trans e) f0 f1 f3 f4 f5
  obtain ⟨o,e,c,d⟩:=id st'
  exact ⟨u,rfl,wY (s:={ s with heap:=h' }) e c d (by decide) ⟨x,H,I1,ru,⟨rfl,λys hy=>by rw[I.tuple_inj hy hq]; exact hx⟩,st',λb hb=>(hf b hb).1⟩⟩
 done:=by
  intro X hP hw hK hc i pins s σ H E I hf st hg
  subst hP hw hK
  obtain ⟨xs,hq,hx⟩:=hg
  obtain ⟨its,rv,p,hz⟩:=I.tuple hq
  obtain ⟨f0,f1,f2,f3,f4,f5⟩:=hf it (by simp)
  have hl:=rv.length
  exact wpAny_pyNext_tuple_end (I.ok.hd hc) st (show s.heap.IsTuple a its.toArray from p) (by simp; omega) λh' eb=>⟨rfl,I.turned (t':=s.toks) (λb o hb e=>eb b o hb e) f0 f1 f3 f4 f5⟩
 self:=λ_ _ _ _ _ st h=>wpAny_pyIter_tupleiter st h
theorem kT{P:Bj}{w:World}{K:PySem.W.Frag}{tg:Expr}(it:Addr)(lo:Int)(n:Nat):Turn P w K tg (xU lo n) [it] it (λi h=>IsRangeIter h it (lo+(i:Nat) * 1) ((n:Int) - (i:Nat)) 1) where
 mem:=by simp
 obj:=λi h st b hb=>by
  have e:b=it:=by simpa using hb
  subst e
  exact ⟨_,st,λv z=>by
   have z':Data.fields _=Data.cell v:=z
   cases z'⟩
 keep:=λi h h' st k=>k it (by simp) _ st
 item:=by
  intro X hP hw hK hc i pins s σ H E I hf st hg
  subst hP hw hK
  obtain ⟨f0,f1,f2,f3,f4,f5⟩:=hf it (by simp)
  have W:=Walks.range (prog:=X.prog) (w:=X.w) (I.ok.hd hc) it lo 1 n
  refine W.item i s _ _ hg st λv h' tk hv st' kk=>?_
  obtain ⟨t,rfl⟩:=hv
  have I1:Inv X pins σ H { s with heap:=h',toks:=tk }:=I.turned (λb o hb e=>kk b o (by simpa using hb) e) f0 f1 f3 f4 f5
  refine ⟨_,rfl,wY (s:={ s with heap:=h',toks:=tk }) (n := "range_iterator") st' rfl rfl (by decide) ⟨.int (lo+i),H,I1,⟨t,?_⟩,⟨rfl,rfl⟩,st',λb hb=>(hf b hb).1⟩⟩
  rw[Int.mul_one]
 done:=by
  intro X hP hw hK hc i pins s σ H E I hf st hg
  subst hP hw hK
  obtain ⟨f0,f1,f2,f3,f4,f5⟩:=hf it (by simp)
  exact wpAny_pyNext_range_end (I.ok.hd hc) st (by have : n<=i:=hg; omega) λh' eb=>⟨rfl,I.turned (t':=s.toks) (λb o hb e=>eb b o hb e) f0 f1 f3 f4 f5⟩
 self:=λ_ _ _ _ _ st h=>wpAny_pyIter_rangeiter st h
section
variable{X:Cx}{tg:Expr}
def mX(K:PySem.W.Frag)(tl:TE):TI:=λσ H R=>tl σ H λx H1=>∃a,x=.ref a/\(∃xs,Ov K H1 a xs)/\R (BB K a) H1
def CM(K:PySem.W.Frag)(tl:TE):TI:=λσ H R=>tl σ H λx H1=>∃a,x=.ref a/\(∃xs,Tg K H1 a xs)/\R (CO K a) H1
theorem eQ{l:Expr}{tl:TE}(hl:PE X l tl):PI X tg l (mX X.K tl):=by
 intro pins s σ H R I h
 refine Fv (hl pins s σ H _ I h) λv s1 q0_ => ?_
 obtain ⟨x,H1,I1,r1,q1⟩ := q0_
 obtain ⟨a,e,⟨xs,hq⟩,q⟩:=q1
 subst e
 cases r1
 obtain ⟨its,rv,p,hz⟩:=I1.list hq
 refine cD p.isList ?_
 refine ⟨s1.heap.objs.size,[s1.heap.objs.size],_,_,H1,rfl,I1.kept (t':=s1.toks) λb o e=>Ak _ e,rM a _,⟨_,Be _ rfl,rfl,rfl⟩,λb hb=>?_,q⟩
 have e:b=s1.heap.objs.size:=by simpa using hb
 subst e
 exact I1.fpOk (Ah _) (I1.hok.fresh (Ah _))
theorem E2{l:Expr}{tl:TE}(hl:PE X l tl):PI X tg l (CM X.K tl):=by
 intro pins s σ H R I h
 refine Fv (hl pins s σ H _ I h) λv s1 q0_ => ?_
 obtain ⟨x,H1,I1,r1,q1⟩ := q0_
 obtain ⟨a,e,⟨xs,hq⟩,q⟩:=q1
 subst e
 cases r1
 obtain ⟨its,rv,p,hz⟩:=I1.tuple hq
 refine wpAny_pyIter_tuple (show s1.heap.IsTuple a its.toArray from p) ?_
 refine ⟨s1.heap.objs.size,[s1.heap.objs.size],_,_,H1,rfl,I1.kept (t':=s1.toks) λb o e=>Ak _ e,jP a _,⟨_,Be _ rfl,rfl,rfl⟩,λb hb=>?_,q⟩
 have e:b=s1.heap.objs.size:=by simpa using hb
 subst e
 exact I1.fpOk (Ah _) (I1.hok.fresh (Ah _))
theorem fU{pins:List (Addr×Obj)}{σ:St}{H:Hp}{s:Aj}{R:It->Hp->Prop}{E:Value->Aj->Prop}{lo hi:Int}{t u v:Tok}{tk:Nat}(I:Inv X pins σ H s)(h1:-(2 ^ 62)<=lo)(h2:lo<2 ^ 62)(h3:-(2 ^ 62)<=hi)(h4:hi<2 ^ 62)(q:R (xU lo (hi - lo).toNat) H):wpAny (model X.prog X.w) X.A (pyIter (.ref s.heap.objs.size)) (DJ X pins σ tg R) E { s with heap:=s.heap.push { cls:=.type "range",data:=.fields #[.int lo t,.int hi u,.int 1 v] },toks:=tk }:=by
 refine wpAny_pyIter_range (IsRange.new ..) (small_one h1 h2 h3 h4) ?_
 have I1:Inv X pins σ H { s with heap:=s.heap.push { cls:=.type "range",data:=.fields #[.int lo t,.int hi u,.int 1 v] },toks:=tk }:=I.kept λb o e=>Ak _ e
 refine ⟨(s.heap.push { cls:=.type "range",data:=.fields #[.int lo t,.int hi u,.int 1 v] }).objs.size,[(s.heap.push { cls:=.type "range",data:=.fields #[.int lo t,.int hi u,.int 1 v] }).objs.size],_,_,H,rfl,
  I1.kept (t':=tk) λb o e=>Ak _ e,kT _ lo (hi - lo).toNat,?_,λb hb=>?_,q⟩
 ·have e1:lo+((0:Nat):Int) * 1=lo:=by simp
  have e2:(((hi - lo).toNat:Nat):Int) - ((0:Nat):Int)=Jz lo hi 1:=by rw[rangeSize_one]; split <;> omega
  show IsRangeIter _ _ (lo+((0:Nat):Int) * 1) ((((hi - lo).toNat:Nat):Int) - ((0:Nat):Int)) 1
  rw[e1,e2]
  exact Be _ rfl
 ·have e:b=(s.heap.push { cls:=.type "range",data:=.fields #[.int lo t,.int hi u,.int 1 v] }).objs.size:=by simpa using hb
  subst e
  exact I1.fpOk (Ah _) (I1.hok.fresh (Ah _))
def AE(ta:TA):TI:=λσ H R=>ta σ H λvs H1=>∃j:Int,vs=[.int j] /\ -(2 ^ 62)<=j/\j<2 ^ 62/\R (xU 0 j.toNat) H1
def V2(ta:TA):TI:=λσ H R=>ta σ H λvs H1=>∃i j:Int,vs=[.int i,.int j]/\(-(2 ^ 62)<=i/\i<2 ^ 62 /\ -(2 ^ 62)<=j/\j<2 ^ 62)/\R (xU i (j - i).toNat) H1
theorem Vv{a:Expr}{ta:TA}{p pos:Pos}(hg:Gl X "range")(hm:X.mg "range" = none)(ha:PA X [a] ta)(hs:Bn [a] X.env=[(false,eval a X.env)]:=by rfl):PI X tg (.Call (.Name "range" p) [a] [] pos) (AE ta):=by
 intro pins s σ H R I h
 refine Call_ (Sm I hg hm boot_range (Gh (Fv (ha pos pins s σ H _ I h) λus s1 ⟨vs,H1,I1,r1,q1⟩=>?_) hs rfl))
 obtain ⟨j,e,q1,q2,q⟩:=q1
 subst e
 cases r1 with
 | cons r rr =>
  cases rr
  obtain ⟨t,rfl⟩:=r
  exact call_range_1 (fU I1 (by omega) (by omega) q1 q2 (by simpa using q))
theorem rR{a b:Expr}{ta:TA}{p pos:Pos}(hg:Gl X "range")(hm:X.mg "range" = none)(ha:PA X [a,b] ta)(hs:Bn [a,b] X.env=[(false,eval a X.env),(false,eval b X.env)]:=by rfl)(hs2:Bn [b] X.env=[(false,eval b X.env)]:=by rfl):PI X tg (.Call (.Name "range" p) [a,b] [] pos) (V2 ta):=by
 intro pins s σ H R I h
 refine Call_ (Sm I hg hm boot_range (Gh (Fv (ha pos pins s σ H _ I h) λus s1 ⟨vs,H1,I1,r1,q1⟩=>?_) (by rw[hs,hs2]) (by rw[hs2]; rfl)))
 obtain ⟨i,j,e,⟨q1,q2,q3,q4⟩,q⟩:=q1
 subst e
 cases r1 with
 | cons r rr =>
  cases rr with
  | cons r' rr =>
   cases rr
   obtain ⟨t,rfl⟩:=r
   obtain ⟨t',rfl⟩:=r'
   exact call_range_2 (fU I1 q1 q2 q3 q4 q)
def CU(wi:TI)(g:TG)(tb:TS):TS:=λD σ H=>wi σ H λJ H1=>∃W:Nat->Nat->St->Hp->Prop,(∃m,W 0 m σ H1)/\∀i m σ H,W i m σ H ->
 (J.stop i H/\D.nx σ H)\/(J.go i H/\∃N:St->Hp->Prop,(∀σ' H',N σ' H'->∃m',m'<m/\W (i+1) m' σ' H')/\∀x H',J.yld i H x H'->g x σ H' λσ2 H2=>tb { D with nx:=N,ct:=N,bk:=D.nx } σ2 H2)
def Oe(fp:List Addr)(h:Heap):List (Addr×Obj):=fp.filterMap λb=>(h.get? b).map λo=>(b,o)
theorem Gg{fp:List Addr}{h:Heap}{b:Addr}{o:Obj}(hb:b∈fp)(e:h.get? b=some o):(b,o)∈Oe fp h:=List.mem_filterMap.mpr ⟨b,hb,by rw[e]; rfl⟩
theorem qY{fp:List Addr}{h:Heap}{p:Addr×Obj}(hp:p∈Oe fp h):p.1∈fp/\h.get? p.1=some p.2:=by
 obtain ⟨b,hb,e⟩:=Wa.mp hp
 cases q:h.get? b with
 | none=>rw[q] at e; cases e
 | some o =>
  rw[q] at e
  have e':(b,o)=p:=Bz e
  subst e'
  exact ⟨hb,q⟩
theorem Inv.pinned{pins:List (Addr×Obj)}{σ:St}{H:Hp}{s:Aj}{fp:List Addr}(I:Inv X pins σ H s)(hf:∀b∈fp,Lw X pins H b)(ho:∀b∈fp,∃o,s.heap.get? b=some o/\∀v,o.data≠.cell v):Inv X (pins++Oe fp s.heap) σ H s :=
 I.pins_of λp hp=>(Ay.mp hp).elim (λz=>I.pin p (Ag _ z)) λz=>by
  obtain ⟨hb,e⟩:=qY z
  obtain ⟨f0,f1,f2,_⟩:=hf p.1 hb
  obtain ⟨o,e',d⟩:=ho p.1 hb
  rw[e] at e'; cases e'
  exact ⟨e,f0,f1,f2,d⟩
theorem Inv.unpinned{pins pl:List (Addr×Obj)}{σ:St}{H:Hp}{s:Aj}(I:Inv X (pins++pl) σ H s):Inv X pins σ H s:=I.pins_of λp hp=>I.pin p (Ag _ (An _ hp))
theorem wD{iter:Expr}{body:List Stmt}{wi:TI}{g:TG}{tb:TS}{pos:Pos}(hp:PassesOwn (model X.prog X.w) X.A X.env X.xe)(hc:X.calm=true)(hi:PI X tg iter wi)(hg:PG X tg g)(hb:lD X body tb)(hs:∀x,Dm iter X.env x=pure x:=by intro _; rfl):PS X (.For tg iter body [] pos) (CU wi g tb):=by
 intro pins s σ H D I h
 refine wpAny_For (Fv (hi pins s σ H _ I h) λv s1 h1=>Fv h1 λitv s2 h2=>?_) hs
 obtain ⟨it,fp,tn,J,H2,e,I2,T,st2,f2,W,⟨m0,w0⟩,turn⟩:=h2
 subst e
 -- what stays true of the iterator's objects through the loop
 have stat:∀{H':Hp},(∀b∈fp,H' b=none)->∀b∈fp,Lw X pins H' b:=λhn b hb=>⟨hn b hb,(f2 b hb).2⟩
 refine codeAny_forLoop_any (λn s'=>∃i σ' H',Inv X pins σ' H' s'/\tn i s'.heap/\(∀b∈fp,H' b=none)/\W i n σ' H') ?_ m0 ⟨0,σ,H2,I2,st2,λb hb=>(f2 b hb).1,w0⟩
 (intro n s3 q_; obtain ⟨i,σ3,H3,I3,Pq,fr3,w3⟩ := q_)
 rcases turn i n σ3 H3 w3 with ⟨stop,qn⟩ | ⟨go,N,hN,step⟩
 ·refine Jq hp (Fv (T.done X rfl rfl rfl hc i pins s3 σ3 H3 X.xe I3 (stat fr3) Pq stop) λr s4 q0_ => ?_)
  obtain ⟨hr,I4⟩ := q0_
  subst hr
  exact Us ⟨σ3,H3,I4,qn⟩
 ·refine Jq hp (Fv (T.item X rfl rfl rfl hc i pins s3 σ3 H3 X.xe I3 (stat fr3) Pq go) λr s4 q0_ => ?_)
  obtain ⟨u,hr,h4⟩ := q0_
  subst hr
  refine Jq hp (Fv h4 λ_ s5 q0_ => ?_)
  obtain ⟨x,H5,I5,r5,y5,st5,fr5⟩ := q0_
  have I5':=I5.pinned (stat fr5) (T.obj _ _ st5)
  refine Jq hp (Fv (hg _ s5 σ3 H5 x u _ I5' r5 (step x H5 y5)) λ_ s6 q0_ => ?_)
  obtain ⟨σ6,H6,I6,q6⟩ := q0_
  refine Jq hp (Fv (hb _ s6 σ6 H6 _ I6 q6) λf s7 q7=>?_)
  have again:∀{σ7:St} {H7:Hp},Inv X (pins++Oe fp s5.heap) σ7 H7 s7->N σ7 H7->∃m,m<n/\∃i σ' H',Inv X pins σ' H' s7/\tn i s7.heap/\(∀b∈fp,H' b=none)/\W i m σ' H':=λ{σ7 H7} I7 n7=>by
   obtain ⟨m',hm,w7⟩:=hN σ7 H7 n7
   refine ⟨m',hm,i+1,σ7,H7,I7.unpinned,T.keep _ _ _ st5 λb hb o e=>(I7.pin (b,o) (Ag _ (Ag _ (Gg hb e)))).1,λb hb=>?_,w7⟩
   obtain ⟨o,e,d⟩:=T.obj _ _ st5 b hb
   exact (I7.pin (b,o) (Ag _ (Ag _ (Gg hb e)))).2.1
  cases f with
  | next=>obtain ⟨σ7,H7,I7,n7⟩:=q7; exact again I7 n7
  | cont=>obtain ⟨σ7,H7,I7,n7⟩:=q7; exact again I7 n7
  | brk=>obtain ⟨σ7,H7,I7,q7⟩:=q7; exact ⟨σ7,H7,I7.unpinned,q7⟩
  | ret v=>obtain ⟨x7,σ7,H7,I7,r7,q7⟩:=q7; exact ⟨x7,σ7,H7,I7.unpinned,r7,q7⟩
end
theorem pA{lo:Int}{n:Nat}{g:TG}{tb:TS}{D:Ends}{σ:St}{H:Hp}(Pv:Nat->St->Hp->Prop)(h0:Pv 0 σ H)(hs:∀i σ H,i<n->Pv i σ H->g (.int (lo+i)) σ H λσ2 H2=>tb { D with nx:=Pv (i+1),ct:=Pv (i+1),bk:=D.nx } σ2 H2)(hd:∀σ H,Pv n σ H->D.nx σ H):∃W:Nat->Nat->St->Hp->Prop,(∃m,W 0 m σ H)/\∀i m σ H,W i m σ H->((xU lo n).stop i H/\D.nx σ H)\/((xU lo n).go i H/\∃N:St->Hp->Prop,(∀σ' H',N σ' H'->∃m',m'<m/\W (i+1) m' σ' H')/\∀x H',(xU lo n).yld i H x H'->g x σ H' λσ2 H2=>tb { D with nx:=N,ct:=N,bk:=D.nx } σ2 H2):=by
 refine ⟨λi m σ H=>m=n - i/\i<=n/\Pv i σ H,⟨n,by simp,Cy _,h0⟩,?_⟩
 (intro i m σ H q_; obtain ⟨rfl,hi,p⟩ := q_)
 by_cases hlt:i<n
 ·refine .inr ⟨hlt,Pv (i+1),λσ' H' p'=>⟨n - (i+1),by omega,rfl,hlt,p'⟩,λx H' y=>?_⟩
  obtain ⟨e,y⟩:=y
  subst e y
  exact hs i σ _ hlt p
 ·have e:i=n:=by omega
  subst e
  exact .inl ⟨Ah _,hd σ H p⟩
abbrev R2:=V->V->Hp->VK->Prop
def Vj(X:Cx)(f:Value->Value->Sem Value)(r:R2):Prop :=
 ∀(pins:List (Addr×Obj)) (s:Aj) (σ:St) (H:Hp) (x y:V) (v u:Value) (Q:VK),Inv X pins σ H s->RelV x v->RelV y u->r x y H Q ->
  wpAny (model X.prog X.w) X.A (f v u) (EP X pins σ Q) X.xe s
def BW(X:Cx)(f:Value->Sem Value)(r:V->Hp->VK->Prop):Prop :=
 ∀(pins:List (Addr×Obj)) (s:Aj) (σ:St) (H:Hp) (x:V) (v:Value) (Q:VK),Inv X pins σ H s->RelV x v->r x H Q ->
  wpAny (model X.prog X.w) X.A (f v) (EP X pins σ Q) X.xe s
def Kx(X:Cx)(f:Value)(r:List V->Hp->VK->Prop):Prop :=
 ∀(pins:List (Addr×Obj)) (s:Aj) (σ:St) (H:Hp) (xs:List V) (us:List Value) (Q:VK),Inv X pins σ H s->Fk xs us->r xs H Q ->
  wpAny (model X.prog X.w) X.A (call f us) (EP X pins σ Q) X.xe s
def CP(X:Cx)(r:V->Hp->(Bool->Hp->Prop)->Prop):Prop :=
 ∀(pins:List (Addr×Obj)) (s:Aj) (σ:St) (H:Hp) (x:V) (v:Value) (Q:Bool->Hp->Prop),Inv X pins σ H s->RelV x v->r x H Q ->
  wpAny (model X.prog X.w) X.A (truthy v) (TP X pins σ Q) X.xe s
def X3(r:R2)(ta tb:TE):TE:=λσ H Q=>ta σ H λx H1=>tb σ H1 λy H2=>r x y H2 Q
def FA(r:V->Hp->VK->Prop)(ta:TE):TE:=λσ H Q=>ta σ H λx H1=>r x H1 Q
def rI(C:Int->Int->Prop)(g:Int->Int->V):R2:=λx y H Q=>∃i j,x=.int i/\y=.int j/\C i j/\Q (g i j) H
def w4(g:Int->Int->V):R2:=λx y H Q=>∃i j,x=.int i/\y=.int j/\Q (g i j) H
def rU(g:Int->V):V->Hp->VK->Prop:=λx H Q=>∃i,x=.int i/\Q (g i) H
section
variable{X:Cx}{a b c:Expr}{ta tb tc:TE}{pos:Pos}
theorem N9(ha:PE X a ta)(hb:PE X b tb){pins:List (Addr×Obj)}{s:Aj}{σ:St}{H:Hp}{R:V->V->Hp->Prop}(I:Inv X pins σ H s)(h:ta σ H λx H1=>tb σ H1 λy H2=>R x y H2){Q:Value->Aj->Prop}{f:Value->Value->Sem Value}(hf:∀v u s2 x y H2,Inv X pins σ H2 s2->RelV x v->RelV y u->R x y H2->wpAny (model X.prog X.w) X.A (f v u) Q X.xe s2):wpAny (model X.prog X.w) X.A (eval a X.env) (λv s₁=>wpAny (model X.prog X.w) X.A (eval b X.env) (λu s₂=>wpAny (model X.prog X.w) X.A (f v u) Q X.xe s₂) X.xe s₁) X.xe s:=by
 refine Fv (ha pins s σ H _ I h) λv s1 q0_ => ?_
 obtain ⟨x,H1,I1,r1,q1⟩ := q0_
 refine Fv (hb pins s1 σ H1 _ I1 q1) λu s2 q0_ => ?_
 obtain ⟨y,H2,I2,r2,q2⟩ := q0_
 exact hf v u s2 x y H2 I2 r1 r2 q2
theorem Ij{op:Operator}{r:R2}(ho:Vj X (Kn op) r)(ha:PE X a ta)(hb:PE X b tb):PE X (.BinOp a op b pos) (X3 r ta tb):=by
 intro pins s σ H Q I h
 exact wpAny_BinOp (N9 ha hb I h λv u s2 x y H2 I2 rx ry q=>ho pins s2 σ H2 x y v u Q I2 rx ry q)
theorem Y2{op:UnaryOp}{r:V->Hp->VK->Prop}(ho:BW X (unaryOp op) r)(ha:PE X a ta):PE X (.UnaryOp op a pos) (FA r ta):=by
 intro pins s σ H Q I h
 exact UnaryOp_ (Fv (ha pins s σ H _ I h) λv s1 ⟨x,H1,I1,r1,q1⟩=>ho pins s1 σ H1 x v Q I1 r1 q1)
theorem AD{f:Value->Value->Sem Value}{C:Int->Int->Prop}{g:Int->Int->Int}(rule:∀(i j:Int) (t u:Tok) (s:Aj) (Q:Value->Aj->Prop) (E:Value->Aj->Prop),C i j->Q (.int (g i j) s.toks) { s with toks:=s.toks+1 }->wpAny (model X.prog X.w) X.A (f (.int i t) (.int j u)) Q E s):Vj X f (rI C λi j=>.int (g i j)):=by
 intro pins s σ H x y v u Q I rx ry h
 obtain ⟨i,j,rfl,rfl,hc,q⟩:=h
 obtain ⟨t,rfl⟩:=rx
 obtain ⟨t',rfl⟩:=ry
 exact rule i j t t' s _ _ hc ⟨.int (g i j),H,I.tok _,⟨_,rfl⟩,q⟩
theorem V6{f:Value->Value->Sem Value}{g:Int->Int->Int}(rule:∀(i j:Int) (t u:Tok) (s:Aj) (Q:Value->Aj->Prop) (E:Value->Aj->Prop),Q (.int (g i j) s.toks) { s with toks:=s.toks+1 }->wpAny (model X.prog X.w) X.A (f (.int i t) (.int j u)) Q E s):Vj X f (w4 λi j=>.int (g i j)):=by
 intro pins s σ H x y v u Q I rx ry h
 obtain ⟨i,j,rfl,rfl,q⟩:=h
 obtain ⟨t,rfl⟩:=rx
 obtain ⟨t',rfl⟩:=ry
 exact rule i j t t' s _ _ ⟨.int (g i j),H,I.tok _,⟨_,rfl⟩,q⟩
theorem C7{f:Value->Value->Sem Value}{g:Int->Int->Bool}(rule:∀(i j:Int) (t u:Tok) (s:Aj) (Q:Value->Aj->Prop) (E:Value->Aj->Prop),Q (.bool (g i j)) s->wpAny (model X.prog X.w) X.A (f (.int i t) (.int j u)) Q E s):Vj X f (w4 λi j=>.bl (g i j)):=by
 intro pins s σ H x y v u Q I rx ry h
 obtain ⟨i,j,rfl,rfl,q⟩:=h
 obtain ⟨t,rfl⟩:=rx
 obtain ⟨t',rfl⟩:=ry
 exact rule i j t t' s _ _ ⟨.bl (g i j),H,I,rfl,q⟩
def E7(i j:Int):Prop:=0<j/\j<1073741824
def tR(i j:Int):Prop:=0<=j/\j<=1000000/\i.natAbs<2 ^ 64
def yD(i j:Int):Prop:=(-(2 ^ 64)<i/\i<2 ^ 64)\/(-(2 ^ 64)<j/\j<2 ^ 64)
theorem yD.ok{i j:Int}(h:yD i j):IntMulOk i j:=by
 rcases h with ⟨h1,h2⟩ | ⟨h1,h2⟩
 ·exact .of_left (intBits_le_64 h1 h2)
 ·exact .of_right (intBits_le_64 h1 h2)
theorem Su:Vj X (Kn .Add) (w4 λi j=>.int (i+j)):=V6 λ_ _ _ _ _ _ _ q=>add_int q
theorem uQ:Vj X (Kn .Sub) (w4 λi j=>.int (i - j)):=V6 λ_ _ _ _ _ _ _ q=>sub_int q
theorem Vi:Vj X (Kn .Mult) (rI yD λi j=>.int (i * j)):=AD λ_ _ _ _ _ _ _ hc q=>mul_int q hc.ok
theorem cK:Vj X (Kn .FloorDiv) (rI E7 λi j=>.int (i / j)):=AD λi j _ _ _ _ _ hc q=>by
 have h1:(0:Int)<j:=hc.1
 have h2:j<1073741824:=hc.2
 exact floordiv_int (by omega) (by rw[Int.fdiv_eq_ediv_of_nonneg i (by omega)]; exact q) (.inl (PyProof.noPylong_small (by omega)))
theorem Vd:Vj X (Kn .Mod) (rI (λ_ j=>0<j) λi j=>.int (i % j)):=AD λi j _ _ _ _ _ hc q=>by
 have h1:(0:Int)<j:=hc
 exact mod_int' (by omega) (by rw[Int.fmod_eq_emod_of_nonneg i (by omega)]; exact q)
theorem cY:Vj X (Kn .Pow) (rI tR λi j=>.int (i ^ j.toNat)):=AD λ_ _ _ _ _ _ _ hc q=>pow_int_small hc.1 hc.2.1 hc.2.2 q
theorem Q4:Vj X (Kn .LShift) (rI tR λi j=>.int (i * 2 ^ j.toNat)):=AD λ_ _ _ _ _ _ _ hc q=>lshift_int_small hc.1 hc.2.1 hc.2.2 q
theorem EL{f:Value->Sem Value}{g:Int->Int}(rule:∀(i:Int) (t:Tok) (s:Aj) (Q:Value->Aj->Prop) (E:Value->Aj->Prop),Q (.int (g i) s.toks) { s with toks:=s.toks+1 }->wpAny (model X.prog X.w) X.A (f (.int i t)) Q E s):BW X f (rU λi=>.int (g i)):=by
 intro pins s σ H x v Q I rx h
 obtain ⟨i,rfl,q⟩:=h
 obtain ⟨t,rfl⟩:=rx
 exact rule i t s _ _ ⟨.int (g i),H,I.tok _,⟨_,rfl⟩,q⟩
theorem O4:BW X (unaryOp .USub) (rU λi=>.int (-i)):=EL λ_ _ _ _ _ q=>neg_int q
end
section
variable{X:Cx}{a b c:Expr}{ta tb tc:TE}{pos:Pos}
theorem O3{pins:List (Addr×Obj)}{σ:St}{H:Hp}{s:Aj}{Q:VK}{k k':Bool}(I:Inv X pins σ H s)(q:Q (.bl k) H)(e:k=k'):EP X pins σ Q (.bool k') s:=by
 subst e
 exact ⟨.bl k,H,I,rfl,q⟩
theorem V1:Vj X (Hi .Lt) (w4 λi j=>.bl (decide (i<j))):=C7 λ_ _ _ _ _ _ _ q=>lt_int q
theorem T5:Vj X (Hi .Gt) (w4 λi j=>.bl (decide (j<i))):=C7 λ_ _ _ _ _ _ _ q=>gt_int q
theorem B9:Vj X (Hi .GtE) (w4 λi j=>.bl (decide (j<=i))):=C7 λ_ _ _ _ _ _ _ q=>ge_int q
theorem Qd(b:Expr){op:CmpOp}(h:op≠.In:=by decide)(h2:op≠.NotIn:=by decide):Gk op b=false:=by
 have e1:(op == CmpOp.In)=false:=by cases op <;> first | rfl | exact absurd rfl h
 have e2:(op == CmpOp.NotIn)=false:=by cases op <;> first | rfl | exact absurd rfl h2
 cases b <;> simp [Gk,e1,e2]
theorem oT{op:CmpOp}{r:R2}(ho:Vj X (Hi op) r)(ha:PE X a ta)(hb:PE X b tb)(hm:Gk op b=false):PE X (.Compare a [op] [b] pos) (X3 r ta tb):=by
 intro pins s σ H Q I h
 exact wpAny_Compare1 (N9 ha hb I h λv u s2 x y H2 I2 rx ry q=>ho pins s2 σ H2 x y v u Q I2 rx ry q) hm
def AJ(t:TE):TT:=λσ H Q=>t σ H λx H'=>∃k,x=.bl k/\Q k H'
theorem zZ{op:CmpOp}{r:R2}(ho:Vj X (Hi op) r)(ha:PE X a ta)(hb:PE X b tb)(hm:Gk op b=false):PT X (.Compare a [op] [b] pos) (AJ (X3 r ta tb)):=by
 intro pins s σ H Q I h
 refine wpAny_isTrue_Compare1 (Fv (ha pins s σ H _ I h) λv s1 ⟨x,H1,I1,r1,q1⟩=>Fv (hb pins s1 σ H1 _ I1 q1) λu s2 ⟨y,H2,I2,r2,q2⟩ =>
  Fv (ho pins s2 σ H2 x y v u _ I2 r1 r2 q2) λc s3 ⟨z,H3,I3,r3,k,e,q3⟩=>?_) hm
 subst e
 cases r3
 exact Gs ⟨H3,I3,q3⟩
def yO(K:PySem.W.Frag)(x:V)(H:Hp)(k:Bool):Prop :=
 match x with
 | .non=>k=false
 | .bl b=>k=b
 | .int i=>k=(i != 0)
 | .str y=>y.length<=Bd/\k=((y.length:Int) != 0)
 | .byt y=>y.size<=Bd/\k=((y.size:Int) != 0)
 | .ref p=>(∃xs,Ov K H p xs/\k = !xs.isEmpty)\/(∃xs,Tg K H p xs/\k = !xs.isEmpty)\/∃kvs,H p=some (.dK kvs)/\k = !kvs.isEmpty
 | _=>False
theorem lE{κ:Type}{kvs:List (κ×V)}{vs:List (κ×Value)}(r:KV kvs vs):(!vs.isEmpty) = !kvs.isEmpty:=by
 cases r <;> rfl
theorem Zk{xs:List V}{its:List Value}(r:Fk xs its):(!its.toArray.isEmpty) = !xs.isEmpty:=by
 cases r <;> simp
theorem Ta:(Bd:Nat)<2 ^ 63:=by rw[Ia]; decide
theorem C1:CP X (λx H Q=>∃k,yO X.K x H k/\Q k H):=by
 intro pins s σ H x v Q I rx h
 obtain ⟨k,e,q⟩:=h
 have hl:=Ta
 have hs:Bd=16777216:=Ia
 cases x with
 | non =>
  cases rx
  have e':k=false:=e
  subst e'
  exact truthy_none ⟨H,I,q⟩
 | bl b =>
  cases rx
  have e':k=b:=e
  subst e'
  exact Gs ⟨H,I,q⟩
 | int i =>
  obtain ⟨t,rfl⟩:=rx
  have e':k=(i != 0):=e
  subst e'
  exact PySem.P.truthy_int ⟨H,I,q⟩
 | str y =>
  obtain ⟨t,rfl⟩:=rx
  obtain ⟨hy,e'⟩ : y.length<=Bd/\k=((y.length:Int) != 0):=e
  subst e'
  exact PySem.P.truthy_str (by omega) ⟨H,I.tok _,q⟩
 | byt y =>
  obtain ⟨t,rfl⟩:=rx
  obtain ⟨hy,e'⟩ : y.size<=Bd/\k=((y.size:Int) != 0):=e
  subst e'
  exact PySem.W.truthy_bytes (by omega) ⟨H,I.tok _,q⟩
 | ref p =>
  cases rx
  have e':(∃xs,Ov X.K H p xs/\k = !xs.isEmpty)\/(∃xs,Tg X.K H p xs/\k = !xs.isEmpty)\/∃kvs,H p=some (.dK kvs)/\k = !kvs.isEmpty:=e
  rcases e' with ⟨xs,hx,e'⟩ | ⟨xs,hx,e'⟩ | ⟨kvs,hx,e'⟩
  ·subst e'
   obtain ⟨its,r,pl,hz⟩:=I.list hx
   have hlen:=r.length
   exact wpAny_truthy_list pl.isList (by simp only[Aq]; omega) ⟨H,I.tok _,by rw[Zk r]; exact q⟩
  ·subst e'
   obtain ⟨its,r,pl,hz⟩:=I.tuple hx
   have hlen:=r.length
   exact truthy_tuple pl (by simp only[Aq]; omega) ⟨H,I.tok _,by rw[Zk r]; exact q⟩
  ·subst e'
   obtain ⟨hz,hS,vs,r,m⟩ : kvs.length<=Bd/\(p == sysModules)=false/\∃vs,KV kvs vs/\s.heap.DictOf (dP X.prog X.w) p vs:=I.hok p _ hx
   have hlen:kvs.length=vs.length:=Paired.length r
   exact wpAny_truthy_dict hS m (by omega) ⟨H,I.tok _,by rw[lE r]; exact q⟩
 | _=>exact (show False from e).elim
theorem uT(ha:PE X a ta)(he:∀whole,isTrue a X.env whole=(do let v <- whole; Qv a.pos; Qx [v] (truthy v))) :
  PT X a (λσ H Q=>ta σ H λx H'=>∃k,yO X.K x H' k/\Q k H'):=by
 intro pins s σ H Q I h
 exact isTrue_plain (Fv (ha pins s σ H _ I h) λv s1 ⟨x,H1,I1,r1,q1⟩=>C1 pins s1 σ H1 x v Q I1 r1 q1) (he _)
theorem vals1{x:V}{us:List Value}(r:Fk [x] us):∃u,us=[u]/\RelV x u:=by
 cases r with
 | cons r1 r2=>cases r2; exact ⟨_,rfl,r1⟩
theorem vals2{x y:V}{us:List Value}(r:Fk [x,y] us):∃u w',us=[u,w']/\RelV x u/\RelV y w':=by
 cases r with
 | cons r1 r2 =>
  cases r2 with
  | cons r3 r4=>cases r4; exact ⟨_,_,rfl,r1,r3⟩
theorem qC(hc:X.calm=true):Kx X (.builtin "max") (λxs H Q=>∃i j,xs=[.int i,.int j]/\Q (.int (if j > i then j else i)) H):=by
 intro pins s σ H xs us Q I r h
 obtain ⟨i,j,rfl,q⟩:=h
 obtain ⟨u,w',rfl,⟨t,rfl⟩,⟨t',rfl⟩⟩:=vals2 r
 refine max_two_ints (I.ok.hd hc) λh' tk k=>⟨_,H,I.kept k,?_,q⟩
 by_cases hj:j > i
 ·rw[if_pos hj,if_pos hj]; exact ⟨_,rfl⟩
 ·rw[if_neg hj,if_neg hj]; exact ⟨_,rfl⟩
theorem bC(hc:X.calm=true):Kx X (.builtin "min") (λxs H Q=>∃i j,xs=[.int i,.int j]/\Q (.int (if j<i then j else i)) H):=by
 intro pins s σ H xs us Q I r h
 obtain ⟨i,j,rfl,q⟩:=h
 obtain ⟨u,w',rfl,⟨t,rfl⟩,⟨t',rfl⟩⟩:=vals2 r
 refine min_two_ints (I.ok.hd hc) λh' tk k=>⟨_,H,I.kept k,?_,q⟩
 by_cases hj:j<i
 ·rw[if_pos hj,if_pos hj]; exact ⟨_,rfl⟩
 ·rw[if_neg hj,if_neg hj]; exact ⟨_,rfl⟩
def U3(K:PySem.W.Frag)(x:V)(H:Hp)(n:Nat):Prop :=
 match x with
 | .str y=>y.length<=Bd/\n=y.length
 | .byt y=>y.size<=Bd/\n=y.size
 | .ref p=>(∃xs,Ov K H p xs/\n=xs.length)\/∃xs,Tg K H p xs/\n=xs.length
 | _=>False
theorem Jh:Kx X (.builtin "len") (λxs H Q=>∃x n,xs=[x]/\U3 X.K x H n/\Q (.int n) H):=by
 intro pins s σ H xs us Q I r h
 obtain ⟨x,n,rfl,e,q⟩:=h
 obtain ⟨u,rfl,rx⟩:=vals1 r
 have hl:=Ta
 have hs:Bd=16777216:=Ia
 cases x with
 | str y =>
  obtain ⟨t,rfl⟩:=rx
  obtain ⟨hy,e'⟩ : y.length<=Bd/\n=y.length:=e
  subst e'
  exact len_str (by omega) ⟨.int _,H,I.tok _,⟨_,rfl⟩,q⟩
 | byt y =>
  obtain ⟨t,rfl⟩:=rx
  obtain ⟨hy,e'⟩ : y.size<=Bd/\n=y.size:=e
  subst e'
  exact PySem.W.len_bytes (by omega) ⟨.int _,H,I.tok _,⟨_,rfl⟩,q⟩
 | ref p =>
  cases rx
  have e':(∃xs,Ov X.K H p xs/\n=xs.length)\/∃xs,Tg X.K H p xs/\n=xs.length:=e
  rcases e' with ⟨xs,hx,e'⟩ | ⟨xs,hx,e'⟩
  ·subst e'
   obtain ⟨its,r',pl,hz⟩:=I.list hx
   have hlen:=r'.length
   exact Calls.call_len_list pl.isList (by simp only[Aq]; omega) ⟨.int xs.length,H,I.tok _,⟨_,by simp only[Aq]; rw[hlen]⟩,q⟩
  ·subst e'
   obtain ⟨its,r',pl,hz⟩:=I.tuple hx
   have hlen:=r'.length
   exact len_tuple pl (by simp only[Aq]; omega) ⟨.int xs.length,H,I.tok _,⟨_,by simp only[Aq]; rw[hlen]⟩,q⟩
 | _=>exact (show False from e).elim
end
structure ObjM(h:Heap)(x dx C:Addr)(mA:Str->Option Value):Prop where
 obj:h.get? x=some (PySem.W.instObj C dx)
 ns:h.Ns1 dx mA
 ne:dx≠x
theorem rL{h:Heap}{dx:Addr}{mA:Str->Option Value}(n:h.Ns1 dx mA):∃od,h.get? dx=some od/\∀name,PySem.W.lookIn name od=some (mA name):=by
 obtain ⟨o,es,ep,ho,hd,hk,_,hm⟩:=n
 refine ⟨o,ho,λname=>?_⟩
 have e:=hm name
 unfold nsFind findBy at e
 rw[<- Array.find?_toList] at e
 unfold PySem.W.lookIn
 rw[hd]
 dsimp only
 split
 ·rename_i y q
  rw[q] at e
  exact congrArg some e
 ·rename_i q
  rw[q] at e
  have a:es.toList.any (·.refKey)=false:=by
   rw[List.any_eq_false]
   intro y hy
   obtain ⟨z,t,hkey⟩:=hk y (Array.mem_toList_iff.mp hy)
   simp [DictEntry.refKey,hkey]
  have a':¬ es.toList.any (·.refKey)=true:=by rw[a]; exact Bx
  rw[if_neg a']
  exact congrArg some e
theorem ObjM.look{h:Heap}{x dx C:Addr}{mA:Str->Option Value}(I:ObjM h x dx C mA):∃od,PySem.W.InstAt h x (PySem.W.instObj C dx) C (some od)/\∀name,PySem.W.lookIn name od=some (mA name) :=
 let ⟨od,ho,hl⟩:=rL I.ns
 ⟨od,⟨I.obj,rfl,rfl,ho⟩,hl⟩
section
variable{P:Bj}{w:World}{H H':Hp}{h h':Heap}{a C dx:Addr}{fs fs':List (Str×V)}
theorem o4(hok:Xz P w H h)(e:H a=some (.ins C dx fs)):∃mA,ObjM h a dx C mA/\(∀f,K0 (fs.lookup f) (mA f))/\PySem.Within mA (fs.map (·.1))/\fs.length<=1000/\H dx=some (.own a):=by
 obtain ⟨d,z,ne,ob,mA,n,r,q⟩:=(show Kc P w H h a (.ins C dx fs) from hok a _ e)
 exact ⟨mA,⟨ob,n,ne⟩,r,q,z,d⟩
end
structure Cls(K:PySem.W.Frag)(C:Addr):Prop where
 pg:PySem.W.plainGet K C Str.empty=true
 hd:PySem.W.hasDictIn K C=true
 po:PySem.W.plainOver K C=true
 sa:PySem.W.findIn K (.ref C) "__setattr__" = some (some (.builtin "object.__setattr__"))
theorem Cls.get{K:PySem.W.Frag}{C:Addr}(c:Cls K C)(f:Str):PySem.W.plainGet K C f=true:=c.pg
section
variable{X:Cx}{pins:List (Addr×Obj)}{σ:St}{H:Hp}{s:Aj}{A:Cp}{E:Value->Aj->Prop}{Q:Value->Aj->Prop}{c:Value}{b:Bool}
inductive TyOf (K:PySem.W.Frag) (H:Hp):V->Value->Prop where
 | non:TyOf K H .non (.type "NoneType")
 | bl (x:Bool):TyOf K H (.bl x) (.type "bool")
 | int (i:Int):TyOf K H (.int i) (.type "int")
 | str (x:Str):TyOf K H (.str x) (.type "str")
 | flt (x:UInt64):TyOf K H (.flt x) (.type "float")
 | lst {a:Addr} {xs:List V} (e:H a=some (.lst xs)):TyOf K H (.ref a) (.type "list")
 | frz {a:Addr} {o:Obj} {xs:List V} (e:H a=some (.frz o (.lst xs))):TyOf K H (.ref a) (.type "list")
 | tup {a:Addr} {xs:List V} (e:H a=some (.tup xs)):TyOf K H (.ref a) (.type "tuple")
 | dK {a:Addr} {kvs:List (Xh×V)} (e:H a=some (.dK kvs)):TyOf K H (.ref a) (.type "dict")
 | dT {a:Addr} {kvs:List (List Xh×V)} (e:H a=some (.dT kvs)):TyOf K H (.ref a) (.type "dict")
 | ins {a C dx:Addr} {fs:List (Str×V)} (e:H a=some (.ins C dx fs)) (cl:Cls K C) (ha:PySem.W.findIn K (.ref C) "__class__" = some (some (.builtin "object.__class__")))
   (hn:PySem.W.specialIn K (.builtin "object.__class__") "__get__" = some (some (.builtin "getset_descriptor.__get__"))) (htk:PySem.W.takesIn K (.builtin "object.__class__")=some true)
   (hm:PySem.W.mroIn K C (.type "object")=some true):TyOf K H (.ref a) (.ref C)
theorem qB{x:V}{u t:Value}(I:Inv X pins σ H s)(rx:RelV x u)(ty:TyOf X.K H x t)(e:PySem.W.kitOne X.K t c=some b)(h:∀tk,Q (.bool b) { s with toks:=tk }):wpAny (model X.prog X.w) A (call (.builtin "isinstance") [u,c]) Q E s:=by
 cases ty with
 | non=>cases (show u=Qa from rx); exact PySem.W.kia_one PySem.W.kitx_none I.kIn Vx e (λz=>nomatch z) h
 | bl y=>cases (show u=Value.bool y from rx); exact PySem.W.kia_one PySem.W.kitx_bool I.kIn Vx e (λz=>nomatch z) h
 | int i=>obtain ⟨t,q⟩:=(show ∃t,u=Nm i t from rx); cases q; exact PySem.W.kia_one PySem.W.kitx_int I.kIn Vx e (λz=>nomatch z) h
 | str y=>obtain ⟨t,q⟩:=(show ∃t,u=Value.str y t from rx); cases q; exact PySem.W.kia_one PySem.W.kitx_str I.kIn Vx e (λz=>nomatch z) h
 | flt y=>obtain ⟨t,q⟩:=(show ∃t,u=Value.float y t from rx); cases q; exact PySem.W.kia_one PySem.W.kitx_float I.kIn Vx e (λz=>nomatch z) h
 | @lst a xs ea =>
  cases (show u=Ar a from rx)
  obtain ⟨_,_,n,_,h1⟩:=(show Kc X.prog X.w H s.heap a (.lst xs) from I.hok a _ ea)
  exact PySem.W.kia_one PySem.W.kitx_list I.kIn ⟨_,h1,rfl⟩ e (λz=>nomatch z) h
 | @frz a ob xs ea =>
  cases (show u=Ar a from rx)
  obtain ⟨_,_,_,n,_,h1⟩:=(show Kc X.prog X.w H s.heap a (.frz ob (.lst xs)) from I.hok a _ ea)
  exact PySem.W.kia_one PySem.W.kitx_list I.kIn ⟨_,h1,rfl⟩ e (λz=>nomatch z) h
 | @tup a xs ea =>
  cases (show u=Ar a from rx)
  obtain ⟨_,_,_,p⟩:=(show Kc X.prog X.w H s.heap a (.tup xs) from I.hok a _ ea)
  obtain ⟨o,h1,h2,_⟩:=p
  exact PySem.W.kia_one PySem.W.kitx_tuple I.kIn ⟨o,h1,h2⟩ e (λz=>nomatch z) h
 | @dK a kvs ea =>
  cases (show u=Ar a from rx)
  obtain ⟨_,_,vs,_,p⟩:=(show Kc X.prog X.w H s.heap a (.dK kvs) from I.hok a _ ea)
  obtain ⟨o,es,ep,h1,h2,_⟩:=p
  exact PySem.W.kia_one PySem.W.kitx_dict I.kIn ⟨o,h1,h2.1⟩ e (λz=>nomatch z) h
 | @dT a kvs ea =>
  cases (show u=Ar a from rx)
  obtain ⟨_,_,xs,_,o,es,ep,h1,h2,_⟩:=(show Kc X.prog X.w H s.heap a (.dT kvs) from I.hok a _ ea)
  exact PySem.W.kia_one PySem.W.kitx_dict I.kIn ⟨o,h1,h2.1⟩ e (λz=>nomatch z) h
 | @ins a C dx fs ea cl ha hn htk hm =>
  cases (show u=Ar a from rx)
  obtain ⟨mA,O,_⟩:=o4 I.hok ea
  obtain ⟨od,J,_⟩:=O.look
  exact PySem.W.kia_one (PySem.W.kitx_own (cl.get _) cl.hd ha hn htk hm) I.kIn J e (λz=>nomatch z) h
end
structure Room(k:Nat)(A:Cp):Prop where
 hd:A.handled=none
 dp:A.depth+3 * k+5<recursionLimit
 un:A.units+16 * k+200<cLine
 gd:A.guards=some []
theorem Room.mono{j k:Nat}{A:Cp}(r:Room k A)(h:j<=k):Room j A:=⟨r.hd,by have:=r.dp; omega,by have:=r.un; omega,r.gd⟩
theorem Room.deeper{k:Nat}{A:Cp}(r:Room (k+1) A)(env:Env):Room k (A.deeper env) :=
 ⟨r.hd,by have:=r.dp; show A.depth+1+3 * k+5<_; omega,by have:=r.un; show A.units+3+16 * k+200<_; omega,r.gd⟩
theorem Room.depth{k:Nat}{A:Cp}(r:Room k A):A.depth<recursionLimit:=by have:=r.dp; omega
theorem Room.units{k:Nat}{A:Cp}(r:Room k A):A.units+64<cLine:=by have:=r.un; omega
def zR:TA:=λ_ H Q=>Q [] H
def fA(ta:TE)(tr:TA):TA:=λσ H Q=>ta σ H λx H1=>tr σ H1 λxs H2=>Q (x::xs) H2
section
variable{X:Cx}{e:Expr}{es:List Expr}{te:TE}{t:TA}{pos:Pos}
theorem Iq:PA X [] zR:=λ_ _ _ _ H Q I h=>Calls.spliced_nil ⟨[],H,I,.nil,h⟩
theorem Fi(ha:PE X e te)(hr:PA X es t)(hs:Bn (e::es) X.env=(false,eval e X.env)::Bn es X.env:=by rfl):PA X (e::es) (fA te t):=by
 intro pos pins s σ H Q I h
 rw[hs]
 show wpAny _ _ (spliced ((false,eval e X.env)::Hx pos (Bn es X.env))) _ _ s
 refine Calls.spliced_cons (Fv (ha pins s σ H _ I h) λu s1 q0_ => ?_)
 obtain ⟨x,H1,I1,r1,q1⟩ := q0_
 exact Fv (hr pos pins s1 σ H1 _ I1 q1) λus s2 ⟨xs,H2,I2,r2,q2⟩=>⟨x::xs,H2,I2,.cons r1 r2,q2⟩
def BZ(t:TA):TE:=λσ H Q=>t σ H λxs H1=>xs.length<=Bd/\∀p,H1 p=none->Q (.ref p) (upd H1 p (.tup xs))
def CL(t:TA):TE:=λσ H Q=>t σ H λxs H1=>xs.length<=Bd/\∀p,H1 p=none->Q (.ref p) (upd H1 p (.lst xs))
theorem L3{x1}(h:PA X es t):PE X (.Tuple es x1 pos) (BZ t):=by
 intro pins s σ H Q I hq
 refine wpAny_Tuple_spliced (Fv (h pos pins s σ H _ I hq) λus s1 ⟨xs,H1,I1,r,z,q⟩=>⟨by rw[<- r.length]; exact z,?_⟩)
 have hf:H1 s1.heap.objs.size=none:=I1.hok.fresh (Ah _)
 refine ⟨.ref s1.heap.objs.size,upd H1 s1.heap.objs.size (.tup xs),I1.laid (t':=s1.toks) (λb u e=>Ak _ e) (Ah _) ?_,rfl,q _ hf⟩
 exact ⟨z,us,r,⟨_,Be _ rfl,rfl,_,rfl⟩⟩
theorem Vb(h:PA X es t):PE X (.List es pos) (CL t):=by
 intro pins s σ H Q I hq
 refine wpAny_List_spliced (Fv (h pos pins s σ H _ I hq) λus s1 ⟨xs,H1,I1,r,z,q⟩=>⟨by rw[<- r.length]; exact z,?_⟩)
 have hf:H1 s1.heap.objs.size=none:=I1.hok.fresh (Ah _)
 refine ⟨.ref s1.heap.objs.size,upd H1 s1.heap.objs.size (.lst xs),I1.laid (t':=s1.toks) (λb u e=>Ak _ e) (Ah _) ?_,rfl,q _ hf⟩
 exact ⟨z,us,0,r,Be _ rfl⟩
end
abbrev Sp:=List V->Hp->VK->XK->Prop
abbrev pT:=List Env->Hp->Aj->XK->Value->Aj->Prop
structure Env0(P:Bj)(w:World)(K:PySem.W.Frag)(mg:Str->Option Value)(base:Heap)(A:Cp)(outer:List Env)(s:Aj)(H:Hp):Prop where
 frames:A.frames=some outer
 mod:Mod K mg base
 bs:∀b o,base.get? b=some o->s.heap.get? b=some o/\H b=none
 bsz:base.objs.size<=s.heap.objs.size
 funs:s.heap.FunFrames base outer
 frf:∀b∈pY outer,H b=none
 hok:Xz P w H s.heap
 bare:Ra s.gens
 tab:wR K mg base H
def CE(outer:List Env)(P:Bj)(w:World)(H:Hp)(s:Aj)(Q:VK)(u:Value)(s':Aj):Prop :=
 ∃v H',s'.os=s.os/\Ra s'.gens/\Un (pY outer) [] H H' s.heap s'.heap/\Xz P w H' s'.heap/\RelV v u/\Q v H'
def CR(CX:pT)(outer:List Env)(P:Bj)(w:World)(H:Hp)(s:Aj)(Q:VK)(E:XK)(r:Result)(s':Aj):Prop :=
 match r with
 | .ok (.ret u)=>CE outer P w H s Q u s'
 | .ok _=>False
 | .error e=>CX outer H s E e s'
structure FnOk(P:Bj)(w:World)(K:PySem.W.Frag)(mg:Str->Option Value)(base:Heap)(CX:pT)(k:Nat)(f:Addr)(fd:Co)(ps:List Str)(sp:Sp):Prop where
 len:∀vs H Q E,sp vs H Q E->vs.length=ps.length
 run:∀(A:Cp) (outer:List Env) (s:Aj) (H:Hp) (args:Args) (us:List Value) (vs:List V) (Q:VK) (E:XK),Room k A->Env0 P w K mg base A outer s H->BindsTo s fd args (ps.zip us)->Fk vs us->sp vs H Q E ->
  Hm (model P w) A (.call (.ref f) args) (CR CX outer P w H s Q E) s
theorem FnOk.imp{P:Bj}{w:World}{K:PySem.W.Frag}{mg:Str->Option Value}{base:Heap}{CX:pT}{k:Nat}{f:Addr}{fd:Co}{ps:List Str}{sp sp':Sp}(F:FnOk P w K mg base CX k f fd ps sp)(h:∀vs H Q E,sp' vs H Q E->sp vs H Q E):FnOk P w K mg base CX k f fd ps sp' :=
 ⟨λvs H Q E q=>F.len vs H Q E (h _ _ _ _ q),λA outer s H args us vs Q E hr he hb hv hs=>F.run A outer s H args us vs Q E hr he hb hv (h _ _ _ _ hs)⟩
section
variable{X:Cx}{pins:List (Addr×Obj)}{σ:St}{H:Hp}{s s':Aj}
theorem Inv.env0(I:Inv X pins σ H s):Env0 X.prog X.w X.K X.mg X.base X.A X.stack s H :=
 ⟨I.ok.frames,I.ok.mod,I.bs,Cf I.ok.bsz I.sz,I.stack,I.stkFree,I.hok,I.bare,I.ok.tab.un I.base⟩
theorem Inv.after{Q:VK}{u:Value}(I:Inv X pins σ H s)(h:CE X.stack X.prog X.w H s Q u s'):EP X pins σ Q u s':=by
 obtain ⟨v,H',os,bare,un,hok,r,q⟩:=h
 obtain ⟨hh,g,d,t,os'⟩:=s'
 obtain rfl:os'=s.os:=os
 exact ⟨v,H',I.call (h':=hh) (g':=g) (d':=d) (t':=t) (ch:=[]) un hok bare (λb z=>absurd z (by simp)),r,q⟩
end
def nJ(sp:Sp)(dvs:List V)(E:XK)(t:TA):TE:=λσ H Q=>t σ H λvs H1=>sp (vs++dvs) H1 Q E
def Binds(K:PySem.W.Frag)(fd:Co)(ps:List Str)(ds:List Value):Prop :=
 ∀(s:Aj) (us:List Value),K.In s.heap->(us++ds).length=ps.length->BindsTo s fd ⟨us,[]⟩ (ps.zip (us++ds))
theorem Binds.all{K:PySem.W.Frag}{fd:Co}{ps:List Str}(h:∀us:List Value,us.length=ps.length->bindArgs fd ⟨us,[]⟩=pure (ps.zip us)):Binds K fd ps []:=λs us _ hl=>by
 rw[Dg] at hl ⊢
 exact .of_eq (h us hl)
def Qt(CX:pT)(X:Cx)(E:XK):Prop:=∀(pins:List (Addr×Obj)) (σ:St) (H:Hp) (s:Aj) (e:Value) (s':Aj),Inv X pins σ H s->CX X.stack H s E e s'->X.xe e s'
section
variable{X:Cx}{CX:pT}{k:Nat}{f C:Addr}{fd:Co}{ps:List Str}{sp:Sp}{dvs:List V}{ds:List Value}{E:XK}{x m:Str}{p pos apos:Pos}{e o:Expr}{es:List Expr}{ta:TE}{t:TA}
theorem wB{pins:List (Addr×Obj)}{σ:St}{H:Hp}{s:Aj}{Q:VK}{us:List Value}{vs:List V}(F:FnOk X.prog X.w X.K X.mg X.base CX k f fd ps sp)(hr:Room k X.A)(hb:Binds X.K fd ps ds)(hd:Fk dvs ds)(hx:Qt CX X E)(I:Inv X pins σ H s)(r:Fk vs us)(h:sp (vs++dvs) H Q E):wpAny (model X.prog X.w) X.A (call (.ref f) us) (EP X pins σ Q) X.xe s:=by
 have r2:Fk (vs++dvs) (us++ds):=r.append hd
 have hl:(us++ds).length=ps.length:=by rw[<- r2.length]; exact F.len _ _ _ _ h
 refine wpAny_call (Mi (F.run X.A X.stack s H ⟨us,[]⟩ (us++ds) (vs++dvs) Q E hr I.env0 (hb s us I.kIn hl) r2 h) λr s' hq=>?_)
 cases r with
 | error e=>exact hx pins σ H s e s' I hq
 | ok fl =>
  cases fl with
  | ret u=>exact I.after hq
  | next=>exact Jt hq
  | brk=>exact Jt hq
  | cont=>exact Jt hq
theorem Xj(F:FnOk X.prog X.w X.K X.mg X.base CX k f fd ps sp)(hr:Room k X.A)(hg:Gl X x)(hm:X.mg x=some (.ref f))(hk:PySem.W.keepIn X.K (.ref f)=true)(hb:Binds X.K fd ps ds)(hd:Fk dvs ds)(hx:Qt CX X E)(ha:PA X (e::es) t)(hdb:(x == ("__debug__" : Str))=false:=by decide)(he:Bn (e::es) X.env=(false,eval e X.env)::Bn es X.env:=by rfl)(hpl:(Hx pos (Bn es X.env)).any (·.1)=false:=by rfl):PE X (.Call (.Name x p) (e::es) [] pos) (nJ sp dvs E t):=by
 intro pins s σ H Q I h
 refine Pm (mH I hg hm ?_ hdb)
 refine PySem.W.callWith_K (h₀:=X.base) I.ok.mod.kin hk (Fv (ha pos pins s σ H _ I h) λus s1 ⟨vs,H1,I1,r,q⟩=>⟨I1.kIn,?_⟩) he hpl
 exact wB F hr hb hd hx I1 r q
theorem xO(F:FnOk X.prog X.w X.K X.mg X.base CX k f fd ps sp)(hr:Room k X.A)(hg:Gl X x)(hm:X.mg x=some (.ref f))(hk:PySem.W.keepIn X.K (.ref f)=true)(hb:Binds X.K fd ps ds)(hd:Fk dvs ds)(hx:Qt CX X E)(hdb:(x == ("__debug__" : Str))=false:=by decide):PE X (.Call (.Name x p) [] [] pos) (nJ sp dvs E zR):=by
 intro pins s σ H Q I h
 refine Pm (mH I hg hm ?_ hdb)
 exact PySem.W.callWith_K0 I.kIn hk (wB (us:=[]) F hr hb hd hx I .nil h)
end
structure FnScope(N P:List Str)(sc:Scope):Prop where
 kind:sc.kind=.function
 co:sc.isCoroutine=false
 gen:sc.isGenerator=false
 nd:N.Nodup
 pre:N.take P.length=P
 par:∀x∈P,sc.names.lookup x=some .local\/sc.names.lookup x=some .cell
 nofree:∀y∈sc.names,y.2≠.free
theorem bQ{kindOf:Str->Option Nz}{x:Str}:∀{binds:List (Str×Value)} {m:Str->Option Value},(∀v,(x,v)∉binds)->bindL kindOf binds m x=m x
 | [],_,_=>rfl
 | (n,v)::r,m,h=>by
  unfold bindL
  rw[bQ λw hw=>h w (Ad _ hw)]
  split
  ·have : x≠n:=by rintro rfl; exact h v Aa
   simp [this]
  ·rfl
theorem bN{kindOf:Str->Option Nz}{x:Str}:∀{binds:List (Str×Value)} {m:Str->Option Value},(∀v,(x,v)∉binds)->bindC kindOf binds m x=m x
 | [],_,_=>rfl
 | (n,v)::r,m,h=>by
  unfold bindC
  rw[bN λw hw=>h w (Ad _ hw)]
  split
  ·rfl
  ·have : x≠n:=by rintro rfl; exact h v Aa
   simp [this]
theorem bZ{kindOf:Str->Option Nz}{x:Str}{v:Value}:∀{P:List Str} {vs:List Value} {i:Nat} {m:Str->Option Value},P.Nodup->P[i]? = some x->vs[i]? = some v->kindOf x=some .local->bindL kindOf (P.zip vs) m x=some v
 | [],_,_,_,_,h,_,_=>by simp at h
 | _::_,[],_,_,_,_,h,_=>by simp at h
 | p::P,w::vs,0,m,nd,h1,h2,hk=>by
  simp at h1 h2; subst h1; subst h2
  show bindL kindOf ((p,w)::P.zip vs) m p=_
  unfold bindL
  rw[bQ λv hv=>(Bs.mp nd).1 (List.of_mem_zip hv).1,if_pos hk]
  simp
 | p::P,w::vs,i+1,m,nd,h1,h2,hk=>by
  show bindL kindOf ((p,w)::P.zip vs) m x=_
  unfold bindL
  exact bZ (i:=i) (Bs.mp nd).2 (by simpa using h1) (by simpa using h2) hk
theorem cA{kindOf:Str->Option Nz}{x:Str}{v:Value}:∀{P:List Str} {vs:List Value} {i:Nat} {m:Str->Option Value},P.Nodup->P[i]? = some x->vs[i]? = some v->kindOf x≠some .local->bindC kindOf (P.zip vs) m x=some v
 | [],_,_,_,_,h,_,_=>by simp at h
 | _::_,[],_,_,_,_,h,_=>by simp at h
 | p::P,w::vs,0,m,nd,h1,h2,hk=>by
  simp at h1 h2; subst h1; subst h2
  show bindC kindOf ((p,w)::P.zip vs) m p=_
  unfold bindC
  rw[bN λv hv=>(Bs.mp nd).1 (List.of_mem_zip hv).1,if_neg hk]
  simp
 | p::P,w::vs,i+1,m,nd,h1,h2,hk=>by
  show bindC kindOf ((p,w)::P.zip vs) m x=_
  unfold bindC
  exact cA (i:=i) (Bs.mp nd).2 (by simpa using h1) (by simpa using h2) hk
def start(N:List Str)(vs:List V):St:=vs.map some++Ih (N.length - vs.length) none
def Sa(CX:pT)(P:Bj)(w:World)(K:PySem.W.Frag)(mg:Str->Option Value)(base:Heap)(N:List Str)(qual:Str)(scope:Scope)(f:Addr)(cd:Value)(A:Cp)(outer:List Env)(s:Aj)(H:Hp)(E:XK):Cx where
 prog:=P
 w:=w
 K:=K
 mg:=mg
 base:=base
 A:=A.deeper (Th qual scope s.heap.objs.size f cd)
 N:=N
 s₀:=s
 H₀:=H
 env:=Th qual scope s.heap.objs.size f cd
 outer:=outer
 stack:=Th qual scope s.heap.objs.size f cd::outer
 ex:=[]
 calm:=true
 fn:=λ_=>true
 pn:=[]
 xe:=λe s'=>wpAny (model P w) (A.deeper (Th qual scope s.heap.objs.size f cd)) (leaving (Th qual scope s.heap.objs.size f cd) e) (λ_ s''=>CX outer H s E e s'') (λe' s''=>CX outer H s E e' s'') s'
theorem gA{sc:Scope}{n:Nat}{x:Str}(h:sc.names.lookup x=some .cell):∃c,(Ed n sc.names []).lookup x=some c:=by
 have q:=PySem.W.cellsFrom_some sc.names n [] (.inl h)
 exact Os.mp q
theorem pC{CX:pT}{P:Bj}{w:World}{K:PySem.W.Frag}{mg:Str->Option Value}{base:Heap}{N ps:List Str}{qual:Str}{scope:Scope}{f:Addr}{cd:Value}{A:Cp}{outer:List Env}{s s1:Aj}{H:Hp}{E:XK}{us:List Value}{vs:List V}(S:FnScope N ps scope)(hd:A.handled=none)(e0:Env0 P w K mg base A outer s H)(hl:vs.length=ps.length)(r:Fk vs us)(x:InCallC s s.heap.objs.size (bindL (Th qual scope s.heap.objs.size f cd).kindOf (ps.zip us) λ_=>none) (Ed (s.heap.objs.size+1) scope.names []) (bindC (Th qual scope s.heap.objs.size f cd).kindOf (ps.zip us) λ_=>none) s1):Inv (Sa CX P w K mg base N qual scope f cd A outer s H E) [] (start N vs) H s1:=by
 have hpl:ps.length<=N.length:=by have:=congrArg Ip S.pre; rw[Dv] at this; omega
 obtain ⟨h1,tk,rfl,hk⟩:=x.done
 have noA:∀b:Addr,b∉(Sa CX P w K mg base N qual scope f cd A outer s H E).ex:=λb z=>absurd (show b∈([]:List Addr) from z) (by simp)
 refine ⟨⟨e0.mod,S.kind,rfl,rfl,Ah _,λy z c h1 h2=>?_,λy hy=>?_,λy c _ h=>?_,λ_=>hd,Around.frames_deeper e0.frames,.inr ⟨rfl,rfl⟩,λb z=>absurd z (noA b),e0.bs,e0.bsz,λb _ _=>noA b,λb z=>absurd z (noA b),e0.funs,e0.frf,e0.tab⟩,
  rfl,e0.bare,Un.kept hk,⟨_,x.toInCall.ns,λi y v h1 h2 h3=>?_⟩,λy c h=>⟨_,x.cell y c h⟩,e0.hok.fresh (Ah _),λy c h=>?_,λp hp=>absurd (show p∈([]:List (Addr×Obj)) from hp) (by simp),e0.hok.kept hk,?_⟩
 ·exact name_of_addr x.apart (PySem.mem_of_lookup h1) (PySem.mem_of_lookup h2)
 ·have hy:scope.names.lookup y=some .cell\/scope.names.lookup y=some .free:=hy
  rcases hy with hy | hy
  ·exact gA hy
  ·exact absurd rfl (S.nofree _ (PySem.mem_of_lookup hy))
 ·exact Lo (x.above y c (PySem.mem_of_lookup h))
 ·have hi:i<vs.length:=by
   unfold start at h2
   by_cases hi:i<vs.length
   ·exact hi
   ·rw[Dw (by simpa using hi)] at h2
    rw[List.getElem?_replicate] at h2
    split at h2 <;> cases h2
  have ha:vs[i]? = some v:=by
   unfold start at h2
   rw[Ep (by simpa using hi),Bo] at h2
   cases e:vs[i]? with
   | none=>rw[e] at h2; cases h2
   | some a=>rw[e] at h2; cases h2; rfl
  obtain ⟨u,hu,rv⟩:=r.get ha
  have hp:ps[i]? = some y:=by
   rw[<- S.pre,Hw (by omega)]; exact h1
  have ndP:ps.Nodup:=by rw[<- S.pre]; exact S.nd.sublist (Jk _ _)
  refine ⟨u,rv,?_⟩
  rcases S.par y (Ba hp) with k | k
  ·exact .inl ⟨k,bZ ndP hp hu k⟩
  ·obtain ⟨c,e⟩:=gA (n:=s.heap.objs.size+1) k
   refine .inr ⟨.inl k,c,e,?_⟩
   have q:=x.cell y c e
   rw[cA ndP hp hu (by show scope.names.lookup y≠_; rw[k]; decide)] at q
   exact q
 ·exact e0.hok.fresh (Lo (x.above y c (PySem.mem_of_lookup h)))
 ·unfold start
  show _=N.length
  rw[Ax,Ac,List.length_replicate]
  omega
theorem Z9{CX:pT}{P:Bj}{w:World}{K:PySem.W.Frag}{mg:Str->Option Value}{base:Heap}{k:Nat}{f:Addr}{name qual:Str}{params:Arguments}{body:List Stmt}{scope:Scope}{dV kV doc pm cdv ct oc:Value}{an od:Option Addr}{osl:Array (Option Value)}{N ps:List Str}{sp:Sp}(lk:K.lookup f=some ⟨oc,od,.func (PySem.W.fnOf name qual params body scope dV kV doc pm an cdv ct),osl⟩)(hcd:PySem.W.codeIn K cdv qual=true)(S:FnScope N ps scope)(len:∀vs H Q E,sp vs H Q E->vs.length=ps.length)(hbody:∀(A:Cp) (outer:List Env) (s:Aj) (H:Hp) (vs:List V) (Q:VK) (E:XK),Room k (A.deeper (Th qual scope s.heap.objs.size f cdv))->sp vs H Q E->∃t,lD (Sa CX P w K mg base N qual scope f cdv A outer s H E) body t/\t { nx:=λ_ H'=>Q .non H',rt:=Q } (start N vs) H):FnOk P w K mg base CX (k+1) f (PySem.W.fnOf name qual params body scope dV kV doc pm an cdv ct) ps sp:=by
 refine ⟨len,λA outer s H args us vs Q E hr e0 hb r hsp=>?_⟩
 have hl:=len _ _ _ _ hsp
 have KX:K.In s.heap:=e0.mod.kin.keeps λb o e=>(e0.bs b o e).1
 have lim:s.heap.NoLimit:=e0.mod.nolimit.keeps λb o e=>(e0.bs b o e).1
 have hkind:∀y∈ps.zip us,scope.names.lookup y.1=some .local\/(scope.names.lookup y.1=some .cell/\((Ed (s.heap.objs.size+1) scope.names []).lookup y.1).isSome=true):=λ⟨n,v⟩ hy=>by
  rcases S.par n (List.of_mem_zip hy).1 with q | q
  ·exact .inl q
  ·exact .inr ⟨q,PySem.W.cellsFrom_some _ _ _ (.inl q)⟩
 refine codeAny_call_function hr.depth (KX _ _ lk) rfl S.co S.gen rfl (PySem.W.codeRec_of KX hcd) (hb _ _ _ _ ?_)
 refine wpAny_newFunctionEnv_cells S.kind hkind λenv he s1 x=>?_
 subst he
 refine ⟨lim.keeps x.toInCall.keep,codeAny_func ?_⟩
 obtain ⟨t,ht,hq⟩:=hbody A outer s H vs Q E (hr.deeper _) hsp
 have I:Inv (Sa CX P w K mg base N qual scope f cdv A outer s H E) [] (start N vs) H s1:=pC S hr.hd e0 hl r x
 refine Cz (ht [] s1 (start N vs) H _ I hq) (λfl s' hs=>?_) λe s' hs=>hs
 have fin:∀{σ':St} {H':Hp} {v:V} {u:Value},Inv (Sa CX P w K mg base N qual scope f cdv A outer s H E) [] σ' H' s'->RelV v u->Q v H'->CE outer P w H s Q u s' :=
  λ{σ' H' v u} J rv q=>⟨v,H',J.os,J.bare,J.base,J.hok,rv,q⟩
 cases fl with
 | ret u =>
  obtain ⟨v,σ',H',J,rv,q⟩:=hs
  exact fin J rv q
 | next =>
  obtain ⟨σ',H',J,q⟩:=hs
  exact fin (v:=V.non) (u:=Qa) J rfl q
 | brk =>
  obtain ⟨_,_,_,q⟩:=hs
  exact Jt q
 | cont =>
  obtain ⟨_,_,_,q⟩:=hs
  exact Jt q
section
variable{X:Cx}{x:Str}{p pos:Pos}{e:Expr}{es:List Expr}{t:TA}{id T:String}{r:List V->Hp->VK->Prop}
def CG(r:List V->Hp->VK->Prop)(t:TA):TE:=λσ H Q=>t σ H λvs H1=>r vs H1 Q
theorem Ue(hc:Kx X (.builtin id) r)(hg:Gl X x)(hm:X.mg x=none)(hv:Kr x=some (.builtin id))(ha:PA X (e::es) t)(hn:x ≠ "__name__" := by decide)(hdb:(x == ("__debug__" : Str))=false:=by decide)(he:Bn (e::es) X.env=(false,eval e X.env)::Bn es X.env:=by rfl)(hpl:(Hx pos (Bn es X.env)).any (·.1)=false:=by rfl):PE X (.Call (.Name x p) (e::es) [] pos) (CG r t):=by
 intro pins s σ H Q I h
 refine Pm (Sm I hg hm hv ?_ hn hdb)
 exact PyProof.Rows.callWith_builtin1 (Fv (ha pos pins s σ H _ I h) λus s1 ⟨vs,H1,I1,r1,q1⟩=>hc pins s1 σ H1 vs us Q I1 r1 q1) he hpl
theorem Rj(hc:Kx X (.type T) r)(hg:Gl X x)(hm:X.mg x=none)(hv:Kr x=some (.type T))(ha:PA X (e::es) t)(hn:x ≠ "__name__" := by decide)(hdb:(x == ("__debug__" : Str))=false:=by decide)(he:Bn (e::es) X.env=(false,eval e X.env)::Bn es X.env:=by rfl)(hpl:(Hx pos (Bn es X.env)).any (·.1)=false:=by rfl):PE X (.Call (.Name x p) (e::es) [] pos) (CG r t):=by
 intro pins s σ H Q I h
 refine Pm (Sm I hg hm hv ?_ hn hdb)
 exact Gh (Fv (ha pos pins s σ H _ I h) λus s1 ⟨vs,H1,I1,r1,q1⟩=>hc pins s1 σ H1 vs us Q I1 r1 q1) he hpl
end
end L2
namespace HT
open PySem PyProof.Rows
def lexLt:List Int->List Int->Bool
 | [],[]=>false
 | [],_::_=>true
 | _::_,[]=>false
 | x::xs,y::ys=>if x=y then lexLt xs ys else decide (x<y)
theorem lexLt_cons(x y:Int)(xs ys:List Int):lexLt (x::xs) (y::ys)=if x=y then lexLt xs ys else decide (x<y):=rfl
theorem lexLt_nil_nil:lexLt [] []=false:=rfl
theorem lexLt_nil_cons(y:Int)(ys:List Int):lexLt [] (y::ys)=true:=rfl
theorem lexLt_cons_nil(x:Int)(xs:List Int):lexLt (x::xs) []=false:=rfl
theorem uE(A:Cp)(s:Aj)(a:Int)(t:Tok)(c:Int)(u:Tok):∃e,Lu A s (.int a t) (.int c u) e/\(e=true↔a=c) :=
 ⟨(a == c),SeqAt.EqAt.int_int a t c u,by simp⟩
theorem vD(A:Cp)(s:Aj)(a:Int)(t:Tok)(c:Int)(u:Tok)(prog:Bj)(w:World)(E:Value->Aj->Prop)(Q:Value->Aj->Prop)(h:Q (.bool (decide (a<c))) s):wpAny (model prog w) A (richCompare .Lt (.int a t) (.int c u)) Q E s :=
 (PyProof.Rows.lt_int h:wpAny (model prog w) A (Hi .Lt (.int a t) (.int c u)) Q E s)
section
open PySem.SeqAt
open PySem.AutoSeq1 (wpAny_loadPart')
open PySem.MeetsSeq PySem.MeetsSeq2 PySem.MeetsSeq3
theorem tuple_lt_ints(l b:Addr)(items items2:Array Value)(n n2:Nat)(dd dd2:Option Addr)(sl sl2:Array (Option Value))(ns ms:List Int)(hi:Gc items.toList ns)(hj:Gc items2.toList ms):Meets (Builtin.«tuple.__lt__» ⟨[.ref l,.ref b],[]⟩) (λ_ R s=>s.heap.get? l=some { cls:=.type "tuple",dict:=dd,data:=.seq items n,slots:=sl }/\s.heap.get? b=some { cls:=.type "tuple",dict:=dd2,data:=.seq items2 n2,slots:=sl2 }/\R (.ok (.ret (.bool (lexLt ns ms)))) s) :=
 .of_wp λprog w A R s h=>by
  obtain ⟨hp,g,d,tk,os⟩:=s; obtain ⟨hl,hb,h⟩:=h
  have f2:=AutoSeq1.sub_tuple_tuple
  have z1:items.size=ns.length:=by rw[<- hi.length]; simp
  have z2:items2.size=ms.length:=by rw[<- hj.length]; simp
  wp_walk using Ur hl,Ur hb,Sh _ (λFb b s'=>b.1=none/\s'=⟨hp,g,d,tk,os⟩/\∃(vs ws:List Value) (ns' ms':List Int),Fb=vs.zip ws /\
   Gc vs ns'/\Gc ws ms'/\ns'.length+items2.size=ms'.length+items.size/\R (.ok (.ret (.bool (lexLt ns' ms')))) ⟨hp,g,d,tk,os⟩) _
  case turn =>
   (rintro ⟨y,x⟩ Fb b s' q_; obtain ⟨hb',rfl,vs,ws,ns',ms',hz,hvi,hwi,hlen,hR⟩ := q_)
   cases hvi with
   | nil=>rw[List.zip_nil_left] at hz; cases hz
   | cons a t hvi' =>
    cases hwi with
    | nil=>rw[List.zip_nil_right] at hz; cases hz
    | cons c u hwi' =>
     rw[Vz] at hz
     injection hz with hyx hrest
     injection hyx with hy hx
     subst hy hx
     rw[lexLt_cons] at hR
     simp only[Bf] at hlen
     obtain ⟨e,he,hiff⟩:=uE A.in1 ⟨hp,g,d,tk,os⟩ a t c u
     refine Ab (he prog w _ _ ?_)
     cases e with
     | true =>
      rw[if_pos (hiff.mp rfl)] at hR
      wp_walk
      exact ⟨rfl,rfl,_,_,_,_,hrest,hvi',hwi',by omega,hR⟩
     | false =>
      rw[if_neg (λq=>absurd (hiff.mpr q) Bx)] at hR
      have hri:=vD A.in1 ⟨hp,g,d,tk,os⟩ a t c u prog w
      wp_walk using hri
      exact ⟨_,rfl,by simpa using hR⟩
  case fin =>
   (rintro ⟨b1,b2⟩ s' q_; obtain ⟨hb',rfl,vs,ws,ns',ms',hz,hvi,hwi,hlen,hR⟩ := q_)
   simp only at hb'
   subst hb'
   have hv:lexLt ns' ms'=decide (items.size<items2.size):=by
    cases hvi with
    | nil =>
     cases hwi with
     | nil =>
      simp only[Ks] at hlen
      rw[lexLt_nil_nil]
      exact (decide_eq_false (by omega)).symm
     | cons c u hw =>
      simp only[Ks,Bf] at hlen
      rw[lexLt_nil_cons]
      exact (decide_eq_true (by omega)).symm
    | cons a t hv =>
     cases hwi with
     | nil =>
      simp only[Ks,Bf] at hlen
      rw[lexLt_cons_nil]
      exact (decide_eq_false (by omega)).symm
     | cons c u hw =>
      rw[Vz] at hz
      cases hz
   rw[hv] at hR
   wp_walk
   exact ⟨_,rfl,by simpa [Builtin.Tuple.tupleCompareSizes] using hR⟩
  case h =>
   exact ⟨rfl,rfl,items.toList,items2.toList,ns,ms,rfl,hi,hj,by omega,h⟩
end
section
variable{prog:Bj}{w:World}{A:Cp}{E:Value->Aj->Prop}{s:Aj}
theorem lt_tupInts{l b:Addr}{items items2:Array Value}{ns ms:List Int}{Q:Value->Aj->Prop}(hl:IsTup s.heap l items)(hb:IsTup s.heap b items2)(hi:Gc items.toList ns)(hj:Gc items2.toList ms)(hu:A.units<cLine)(h:Q (.bool (lexLt ns ms)) s):wpAny (model prog w) A (Hi .Lt (.ref l) (.ref b)) Q E s:=by
 obtain ⟨⟨cls,dd,data,sl⟩,ho,hc,n,hd⟩:=id hl
 obtain ⟨⟨cls2,dd2,data2,sl2⟩,ho2,hc2,n2,hd2⟩:=id hb
 simp only at hc hd hc2 hd2
 subst hc hd hc2 hd2
 exact richCompare_meets_room (op:=.Lt) ⟨_,ho,rfl⟩ ⟨_,ho2,rfl⟩ PySem.F.slot_tuple_lt PySem.F.entry_tuple_lt (PySem.F.args_tuple_lt_2 _ _) (tuple_lt_ints l b items items2 n n2 dd dd2 sl sl2 ns ms hi hj)
  ⟨ho,ho2,show Value.bool (lexLt ns ms)≠Value.notImplemented/\Q (.bool (lexLt ns ms)) s from ⟨(λx=>nomatch x),h⟩⟩ hu
theorem cat_tup{t b:Addr}{vs ws:List Value}{Q:Value->Aj->Prop}(ht:IsTup s.heap t vs.toArray)(hb:IsTup s.heap b ws.toArray)(hv:vs≠[])(h1:ws=[]->Q (.ref t) s)(h2:ws≠[]->Q (.ref s.heap.objs.size) { s with heap:=s.heap.push { cls:=.type "tuple",data:=.seq (vs++ws).toArray } })(hsz:vs.length+ws.length<=Bd):wpAny (model prog w) A (Kn .Add (.ref t) (.ref b)) Q E s:=by
 obtain ⟨⟨cls,dd,data,sl⟩,ho,hc,n,hd⟩:=id ht
 obtain ⟨⟨cls2,dd2,data2,sl2⟩,ho2,hc2,n2,hd2⟩:=id hb
 simp only at hc hd hc2 hd2
 subst hc hd hc2 hd2
 have e:vs.toArray++ws.toArray=(vs++ws).toArray:=by simp
 by_cases hw:ws=[]
 ·exact concat_meets ⟨_,ho,rfl⟩ ⟨_,ho2,rfl⟩ eX seq_tuple_add PySem.F.slot_tuple_add PySem.F.entry_tuple_add (PySem.F.args_tuple_add_2 _ _)
   (tuple_addW1 t b vs.toArray ws.toArray n n2 dd dd2 sl sl2 (by simpa using hv) (by simp [hw])) ⟨ho,ho2,h1 hw⟩
 ·refine concat_meets ⟨_,ho,rfl⟩ ⟨_,ho2,rfl⟩ eX seq_tuple_add PySem.F.slot_tuple_add PySem.F.entry_tuple_add (PySem.F.args_tuple_add_2 _ _)
   (tuple_addW2 t b vs.toArray ws.toArray n n2 dd dd2 sl sl2 (by simpa using hv) (by simpa using hw) (by rw[Aq,Aq]; exact hsz)) ⟨ho,ho2,?_⟩
  rw[e]
  exact h2 hw
def sIx(n d:Nat):Option Int->Nat
 | none=>d
 | some v=>if v<0 then (v+(n:Int)).toNat else min v.toNat n
theorem sIx_none(n d:Nat):sIx n d none=d:=rfl
theorem sIx_nat(n d k:Nat):sIx n d (some (k:Int))=min k n:=by
 show (if (k:Int)<0 then ((k:Int)+(n:Int)).toNat else min (k:Int).toNat n)=min k n
 rw[if_neg (by omega),Di]
theorem G9(n d:Nat)(hd:d<=n)(o:Option Int):sIx n d o<=n:=by
 cases o with
 | none=>exact hd
 | some v =>
  show (if v<0 then (v+(n:Int)).toNat else min v.toNat n)<=n
  by_cases hv:v<0
  ·rw[if_pos hv]; omega
  ·rw[if_neg hv]; exact Nat.min_le_right _ _
theorem nR(v:Int)(n d:Nat):(if v<0 then max (v+(n:Int)) 0 else min v (n:Int))=((sIx n d (some v):Nat):Int):=by
 show (if v<0 then max (v+(n:Int)) 0 else min v (n:Int))=(((if v<0 then (v+(n:Int)).toNat else min v.toNat n):Nat):Int)
 by_cases hv:v<0
 ·simp only[if_pos hv]; omega
 ·simp only[if_neg hv]; omega
theorem jV(lo hi:Option Int)(n:Nat):Ml lo hi 1 (n:Int)=(((sIx n 0 lo:Nat):Int),((sIx n n hi:Nat):Int)):=by
 have h1:¬ ((1:Int)<0):=by omega
 unfold Ml
 simp only[h1,if_false]
 refine Prod.ext ?_ ?_
 ·cases lo with
  | none=>rfl
  | some v=>exact nR v n 0
 ·cases hi with
  | none=>rfl
  | some v=>exact nR v n n
theorem lH(i j:Nat):Jb (i:Int) (j:Int) 1=j - i:=by
 unfold Jb
 have h1:(1:Int) > 0:=by omega
 simp only[h1,if_true,Int.ediv_one]
 split <;> omega
theorem Yn{v:Value}{o:Option Int}{Q:Option Int->Aj->Prop}(p:Wr v o)(h:Q o s):wpAny (model prog w) A (Builtin.Slice.slicePartIndex v) Q E s:=by
 cases p with
 | none=>exact slicePart_none h
 | int i t=>exact slicePart_int h
theorem sliceApplied_gen{sl:Addr}{vl vu:Value}{lo hi:Option Int}{n:Nat}{Q:Int×Int×Nat->Aj->Prop}(hs:s.heap.IsSliceOf sl vl vu .none)(pl:Wr vl lo)(pu:Wr vu hi)(h:Q (((sIx n 0 lo:Nat):Int),1,sIx n n hi - sIx n 0 lo) s):wpAny (model prog w) A (Uz (.ref sl) (pure (n:Int))) Q E s:=by
 obtain ⟨os,hos,hcs,hds⟩:=id hs
 unfold Uz Builtin.Slice.sliceFields
 refine Ab (Ab (wpAny_field hos hds (x:=vl) rfl (Ab (wpAny_field hos hds (x:=vu) rfl (Ab (wpAny_field hos hds (x:=.none) rfl (Al ?_)))))))
 refine Ab (slicePart_none ?_)
 show wpAny _ _ (if ((1:Int) == 0)=true then _ else _) _ _ s
 rw[if_neg (by decide)]
 refine Ab (Yn pl (Ab (Yn pu (Ab (Al ?_)))))
 show wpAny _ _ (match Ml lo hi 1 (n:Int) with | (lo,hi)=>pure (lo,(1:Int),Jb lo hi 1)) _ _ s
 rw[jV lo hi n]
 show wpAny _ _ (pure (((sIx n 0 lo:Nat):Int),(1:Int),Jb ((sIx n 0 lo:Nat):Int) ((sIx n n hi:Nat):Int) 1)) _ _ s
 rw[lH]
 exact Al h
theorem wI(xs:Array Value)(i k:Nat):((Bc k).filterMap λ(m:Nat)=>xs[((i:Int)+(m:Int) * 1).toNat]?).toArray=((xs.toList.drop i).take k).toArray:=by
 have e:(λ(m:Nat)=>xs[((i:Int)+(m:Int) * 1).toNat]?)=λm=>xs[i+m]?:=by
  funext m
  have : ((i:Int)+(m:Int) * 1).toNat=i+m:=by omega
  rw[this]
 rw[e]
 have:=pick_run xs i k
 rw[List.filterMap_map] at this
 have e2:((λx=>xs[x]?) ∘ λx=>i+x)=λm=>xs[i+m]?:=rfl
 rw[e2] at this
 rw[this]
theorem getItem_tuple_cut{t sl:Addr}{items:Array Value}{vl vu:Value}{lo hi:Option Int}{Q:Value->Aj->Prop}(ht:IsTup s.heap t items)(hs:s.heap.IsSliceOf sl vl vu .none)(pl:Wr vl lo)(pu:Wr vu hi)(hw:¬ (sIx items.size 0 lo=0/\sIx items.size items.size hi=items.size))(h:Q (.ref s.heap.objs.size) { s with heap:=s.heap.push { cls:=.type "tuple",data:=.seq ((items.toList.drop (sIx items.size 0 lo)).take (sIx items.size items.size hi - sIx items.size 0 lo)).toArray } })(hsz:items.size<=Bd):wpAny (model prog w) A (getItem (.ref t) (.ref sl)) Q E s:=by
 have htake:sizeOk (.seq ((items.toList.drop (sIx items.size 0 lo)).take (sIx items.size items.size hi - sIx items.size 0 lo)).toArray):=by
  show ((items.toList.drop (sIx items.size 0 lo)).take (sIx items.size items.size hi - sIx items.size 0 lo)).toArray.size<=Bd
  rw[Aq,Dv,Px,Ai]
  omega
 have hj:sIx items.size items.size hi<=items.size:=G9 _ _ (Ah _) hi
 obtain ⟨os,hos,hcs,hds⟩:=id hs
 have hTs:s.TypeIs (.ref sl) "slice" := ⟨os,hos,hcs⟩
 unfold getItem
 try with_reducible refine Ey ?_
 first | refine Ab (Al ?_) | skip
 refine Ab (wpAny_sequenceKey ht.typeIs (by decide) ?_)
 refine Ab (Ls (name:=Xs "__getitem__") ht.typeIs Ei
  (Hh Ei ht.typeIs entry_tuple_getitem ?_ (args_tuple_getitem _ _)))
 show wpAny _ _ (Ux (.ref t) >>= _) _ _ s
 refine Ab (tupleItemsOf_ ht ?_)
 refine Ab (Kq hTs ?_)
 rw[if_pos (by decide)]
 refine Ab (sliceApplied_gen hs pl pu ?_)
 have hno:¬ ((((sIx items.size 0 lo:Nat):Int) == 0 && (1:Int) == 1 && (sIx items.size items.size hi - sIx items.size 0 lo) == items.size)=true):=by
  intro q
  rw[Gx,Gx] at q
  have q1:((sIx items.size 0 lo:Nat):Int)=0:=Dj q.1.1
  have q2:sIx items.size items.size hi - sIx items.size 0 lo=items.size:=Dj q.2
  exact hw ⟨by omega,by omega⟩
 show wpAny _ _ (if (((sIx items.size 0 lo:Nat):Int) == 0 && (1:Int) == 1 && (sIx items.size items.size hi - sIx items.size 0 lo) == items.size)=true then _ else _) _ _ s
 rw[if_neg hno,wI]
 first
  | exact Ab (m:=Fj _) (Dk (Al ⟨_,rfl,Al h⟩) htake)
  | exact Ab (m:=Fj _) (Dk (Ab (Al (Al ⟨_,rfl,Al h⟩))) htake)
  | exact Ab (Ab (m:=Fj _) (Dk (Al (Al ⟨_,rfl,Al h⟩)) htake))
  | exact Ab (Ab (m:=Fj _) (Dk (Al ⟨_,rfl,Al h⟩) htake))
end
end HT
namespace L2
open PySem PySem.Spec PyProof.Rows
abbrev TO:=St->Hp->(Option Int->Hp->Prop)->Prop
def PO(X:Cx)(e:Option Expr)(t:TO):Prop :=
 ∀(pins:List (Addr×Obj)) (s:Aj) (σ:St) (H:Hp) (Q:Option Int->Hp->Prop),Inv X pins σ H s->t σ H Q ->
  wpAny (model X.prog X.w) X.A (evalPart e X.env) (λu s'=>∃o H',Inv X pins σ H' s'/\Wr u o/\Q o H') X.xe s
def zA:TO:=λ_ H Q=>Q none H
def Y9(t:TE):TO:=λσ H Q=>t σ H λx H1=>∃i,x=.int i/\Q (some i) H1
theorem intsAre_of{ns:List Int}:∀{us:List Value},Fk (ns.map V.int) us->Gc us ns:=by
 induction ns with
 | nil=>intro us r; rw[Xb] at r; cases r; exact .nil
 | cons n ns ih =>
  intro us r
  rw[Bh] at r
  cases r with
  | cons r1 r2 =>
   obtain ⟨t,e⟩:=r1
   subst e
   exact .cons n t (ih r2)
section
variable{X:Cx}{e:Expr}{te:TE}{lo hi:Option Expr}{tl th:TO}{pos p2:Pos}
theorem yU:PO X none zA:=by
 intro pins s σ H Q I h
 rw[evalPart_none]
 exact Al ⟨none,H,I,.none,h⟩
theorem yM(h:PE X e te):PO X (some e) (Y9 te):=by
 intro pins s σ H Q I hw
 rw[evalPart_some]
 refine Fv (h pins s σ H _ I hw) λu s1 q0_ => ?_
 obtain ⟨x,H1,I1,r1,q1⟩ := q0_
 obtain ⟨i,rfl,q⟩:=q1
 obtain ⟨t,rfl⟩:=r1
 exact ⟨some i,H1,I1,.int i t,q⟩
def J0(X:Cx)(r:V->Option Int->Option Int->Hp->VK->Prop):Prop :=
 ∀(pins:List (Addr×Obj)) (s:Aj) (σ:St) (H:Hp) (x:V) (v vl vu:Value) (lo hi:Option Int) (sl:Addr) (Q:VK),Inv X pins σ H s->RelV x v->s.heap.IsSliceOf sl vl vu .none->Wr vl lo->Wr vu hi->r x lo hi H Q ->
  ∃T id,typeLookup (.type T) "__getitem__" = pure (some (.builtin id))/\s.TypeIs v T/\wpAny (model X.prog X.w) X.A (getItem v (.ref sl)) (EP X pins σ Q) X.xe s
theorem J0.or{r r':V->Option Int->Option Int->Hp->VK->Prop}(h:J0 X r)(h':J0 X r'):J0 X (λx lo hi H Q=>r x lo hi H Q\/r' x lo hi H Q):=by
 intro pins s σ H x v vl vu lo hi sl Q I rx hs pl pu q
 rcases q with q | q
 ·exact h pins s σ H x v vl vu lo hi sl Q I rx hs pl pu q
 ·exact h' pins s σ H x v vl vu lo hi sl Q I rx hs pl pu q
def FB(r:V->Option Int->Option Int->Hp->VK->Prop)(te:TE)(tl th:TO):TE:=λσ H Q=>te σ H λx H1=>tl σ H1 λl H2=>th σ H2 λu H3=>r x l u H3 Q
theorem iC{r:V->Option Int->Option Int->Hp->VK->Prop}(hr:J0 X r)(he:PE X e te)(hl:PO X lo tl)(hu:PO X hi th):PE X (.Subscript e (.Slice lo hi none p2) pos) (FB r te tl th):=by
 intro pins s σ H Q I h
 refine Subscript_ (Fv (he pins s σ H _ I h) λv s1 q0_ => ?_)
 obtain ⟨x,H1,I1,r1,q1⟩ := q0_
 refine wpAny_Slice (Fv (hl pins s1 σ H1 _ I1 q1) λvl s2 ⟨l,H2,I2,pl,q2⟩=>Fv (hu pins s2 σ H2 _ I2 q2) λvu s3 q0_ => ?_)
 obtain ⟨u,H3,I3,pu,q3⟩ := q0_
 rw[evalPart_none]
 refine Al ?_
 have I4:Inv X pins σ H3 { s3 with heap:=s3.heap.push { cls:=.type "slice",data:=.fields #[vl,vu,.none] } }:=I3.kept (t':=s3.toks) λb ob q=>Ak _ q
 obtain ⟨T,id,hT,ht,hg⟩:=hr pins { s3 with heap:=s3.heap.push { cls:=.type "slice",data:=.fields #[vl,vu,.none] } } σ H3 x v vl vu l u s3.heap.objs.size Q I4 r1 (Heap.IsSliceOf.new ..) pl pu q3
 show wpAny (model X.prog X.w) X.A (subscriptTail e (.Slice lo hi none p2) v (.ref s3.heap.objs.size)) (EP X pins σ Q) X.xe { s3 with heap:=s3.heap.push { cls:=.type "slice",data:=.fields #[vl,vu,.none] } }
 exact tail_any (ops:=[.ref s3.heap.objs.size,v]) ht hT hg (by with_unfolding_all rfl)
def Zn(xs:List V)(lo hi:Option Int):List V:=(xs.drop (HT.sIx xs.length 0 lo)).take (HT.sIx xs.length xs.length hi - HT.sIx xs.length 0 lo)
theorem We(xs:List V)(lo hi:Option Int):(Zn xs lo hi).length<=xs.length:=by
 unfold Zn
 rw[Dv,Px]
 omega
def CT(K:PySem.W.Frag):V->Option Int->Option Int->Hp->VK->Prop:=λx lo hi H Q=>∃a xs,x=.ref a/\Tg K H a xs /\
 ¬ (HT.sIx xs.length 0 lo=0/\HT.sIx xs.length xs.length hi=xs.length)/\∀p,H p=none->Q (.ref p) (upd H p (.tup (Zn xs lo hi)))
theorem P5:J0 X (CT X.K):=by
 intro pins s σ H x v vl vu lo hi sl Q I rx hs pl pu h
 obtain ⟨a,xs,rfl,hx,hw,q⟩:=h
 cases rx
 obtain ⟨its,r,ht,hz⟩:=I.tuple hx
 have hlen:its.toArray.size=xs.length:=by rw[Aq]; exact r.length.symm
 refine ⟨"tuple",_,Ei.lookup,ht.typeIs,?_⟩
 refine HT.getItem_tuple_cut ht hs pl pu (by rw[hlen]; exact hw) ?_ (by rw[hlen]; exact hz)
 rw[hlen]
 refine ⟨.ref s.heap.objs.size,_,I.laid (t':=s.toks) (o:=.tup (Zn xs lo hi)) (λb ob q=>Ak _ q) (Ah _) ?_,rfl,q _ (I.hok.fresh (Ah _))⟩
 exact ⟨Cf (We xs lo hi) hz,_,(r.drop (HT.sIx xs.length 0 lo)).take (HT.sIx xs.length xs.length hi - HT.sIx xs.length 0 lo),IsTup.new _ _⟩
def AI(K:PySem.W.Frag):R2:=λx y H Q=>∃a b xs ys,x=.ref a/\y=.ref b/\Tg K H a xs/\Tg K H b ys/\xs≠[]/\xs.length+ys.length<=Bd /\
 (ys=[]->Q (.ref a) H)/\(ys≠[]->∀p,H p=none->Q (.ref p) (upd H p (.tup (xs++ys))))
theorem Fk.nil_iff{xs:List V}{us:List Value}(r:Fk xs us):us=[]↔xs=[]:=by
 cases r with
 | nil=>simp
 | cons _ _=>simp
theorem i4:Vj X (Kn .Add) (AI X.K):=by
 intro pins s σ H x y v u Q I rx ry h
 obtain ⟨a,b,xs,ys,rfl,rfl,ha,hb,hx,hz,q1,q2⟩:=h
 cases rx
 cases ry
 obtain ⟨its,r1,p1,_⟩:=I.tuple ha
 obtain ⟨its2,r2,p2,_⟩:=I.tuple hb
 refine HT.cat_tup p1 p2 (λz=>hx (r1.nil_iff.mp z)) (λz=>⟨.ref a,H,I,rfl,q1 (r2.nil_iff.mp z)⟩) (λz=>?_) (by rw[<- r1.length,<- r2.length]; exact hz)
 refine ⟨.ref s.heap.objs.size,_,I.laid (t':=s.toks) (o:=.tup (xs++ys)) (λb ob q=>Ak _ q) (Ah _) ?_,rfl,q2 (λw=>z (r2.nil_iff.mpr w)) _ (I.hok.fresh (Ah _))⟩
 exact ⟨by rw[Ax]; exact hz,_,r1.append r2,IsTup.new _ _⟩
end
def qE(n:Nat)(i:Int):Option Nat:=if 0<=i then (if i<n then some i.toNat else none) else if -(n:Int)<=i then some (i+n).toNat else none
def Sx{α:Type}(xs:List α)(i:Int):Option α:=(qE xs.length i).bind λj=>xs[j]?
theorem oD{n:Nat}{i:Int}{j:Nat}(h:qE n i=some j):seqIndex? i n=some j/\j<n /\ -(n:Int)<=i/\i<n:=by
 unfold qE at h
 by_cases h0:0<=i
 ·rw[if_pos h0] at h
  by_cases h1:i<n
  ·rw[if_pos h1] at h
   have e:i.toNat=j:=Bz h
   exact ⟨by rw[seqIndex_of h0 h1,e],by omega,by omega,h1⟩
  ·rw[if_neg h1] at h; cases h
 ·rw[if_neg h0] at h
  by_cases h1:-(n:Int)<=i
  ·rw[if_pos h1] at h
   have e:(i+n).toNat=j:=Bz h
   exact ⟨by rw[seqIndex_neg (by omega) h1,e],by omega,h1,by omega⟩
  ·rw[if_neg h1] at h; cases h
theorem dS{α:Type}{xs:List α}{i:Int}{v:α}(h:Sx xs i=some v):∃j,seqIndex? i xs.length=some j/\xs[j]? = some v/\j<xs.length /\ -(xs.length:Int)<=i/\i<xs.length:=by
 unfold Sx at h
 cases e:qE xs.length i with
 | none=>rw[e] at h; cases h
 | some j =>
  rw[e] at h
  obtain ⟨h1,h2,h3,h4⟩:=oD e
  exact ⟨j,h1,h,h2,h3,h4⟩
theorem Nv{α:Type}{xs:List α}{j:Nat}{v:α}(h:xs[j]? = some v):Sx xs (j:Int)=some v:=by
 have hj:j<xs.length:=(Ap.mp h).1
 have e:qE xs.length (j:Int)=some j:=by
  unfold qE
  rw[if_pos (by omega),if_pos (by omega)]; simp
 unfold Sx; rw[e]; exact h
theorem iP{α:Type}(xs:List α)(v:α):Sx (xs++[v]) (-1)=some v:=by
 have hl:(xs++[v]).length=xs.length+1:=by simp
 have e:qE (xs++[v]).length (-1)=some xs.length:=by
  unfold qE
  rw[hl,if_neg (by decide),if_pos (by omega)]
  congr 1
  omega
 unfold Sx
 rw[e]
 show (xs++[v])[xs.length]? = some v
 simp
def dX(b:Expr):Prop:=∀o i,subscripted b false o i=operate [o,i] (getItem o i)
def i3(X:Cx)(r:R2):Prop :=
 ∀(value slice:Expr) (pins:List (Addr×Obj)) (s:Aj) (σ:St) (H:Hp) (x y:V) (v u:Value) (Q:VK),Inv X pins σ H s->RelV x v->RelV y u->r x y H Q ->
  subscripted slice false v u=operate [v,u] (getItem v u)->wpAny (model X.prog X.w) X.A (subscriptTail value slice v u) (EP X pins σ Q) X.xe s
def EW(X:Cx)(id:String)(r:V->List V->Hp->VK->Prop):Prop :=
 ∀(pins:List (Addr×Obj)) (s:Aj) (σ:St) (H:Hp) (x:V) (xs:List V) (v:Value) (us:List Value) (Q:VK),Inv X pins σ H s->RelV x v->Fk xs us->r x xs H Q ->
  wpAny (model X.prog X.w) X.A (call (.builtin id) (v::us)) (EP X pins σ Q) X.xe s
section
variable{X:Cx}{a b:Expr}{ta tb:TE}{pos:Pos}
theorem i3.or{r r':R2}(h:i3 X r)(h':i3 X r'):i3 X (λx y H Q=>r x y H Q\/r' x y H Q):=by
 intro value slice pins s σ H x y v u Q I rx ry q hs
 rcases q with q | q
 ·exact h value slice pins s σ H x y v u Q I rx ry q hs
 ·exact h' value slice pins s σ H x y v u Q I rx ry q hs
theorem Qe{r:R2}(hr:i3 X r)(ha:PE X a ta)(hb:PE X b tb)(hs:dX b):PE X (.Subscript a b pos) (X3 r ta tb):=by
 intro pins s σ H Q I h
 exact Subscript_ (N9 ha hb I h λv u s2 x y H2 I2 rx ry q=>hr a b pins s2 σ H2 x y v u Q I2 rx ry q (hs _ _))
def qR(K:PySem.W.Frag):R2:=λx y H Q=>∃p xs i v,x=.ref p/\y=.int i/\Ov K H p xs/\Sx xs i=some v/\Q v H
def AN(K:PySem.W.Frag):R2:=λx y H Q=>∃p xs i v,x=.ref p/\y=.int i/\Tg K H p xs/\Sx xs i=some v/\Q v H
def T7:R2:=λx y H Q=>∃z i c,x=.str z/\y=.int i/\z.length<=Bd/\Sx z.cps.toList i=some c/\Q (.str ⟨#[c]⟩) H
theorem Ll:i3 X (qR X.K):=by
 intro value slice pins s σ H x y v u Q I rx ry h hs
 obtain ⟨p,xs,i,z,rfl,rfl,hq,he,q⟩:=h
 cases rx
 obtain ⟨t,rfl⟩:=ry
 obtain ⟨its,r,pl,hz⟩:=I.list hq
 obtain ⟨j,h1,h2,h3,h4,h5⟩:=dS he
 obtain ⟨w,ew,rw'⟩:=r.get h2
 have hl:=r.length
 have hn:=Ta
 have fin:EP X pins σ Q w s:=⟨z,H,I,rw',q⟩
 by_cases h0:0<=i
 ·have hj:i.toNat=j:=by
   rw[seqIndex_of h0 h5] at h1
   exact Bz h1
  exact item_listR pl.isList h0 (by omega) (by rw[hj]; simpa using ew) fin hs
 ·have hj:(i+(its.toArray.size:Int)).toNat=j:=by
   rw[seqIndex_neg (by omega) h4] at h1
   rw[Aq,<- hl]
   exact Bz h1
  exact xW (x:=w) pl.isList.typeIs AQ.lookup
   (wpAny_getItem_list_neg (Q:=λr s'=>r=w/\EP X pins σ Q r s') pl.isList (by omega) (by rw[Aq] <;> omega) (by omega) (by rw[hj]; simpa using ew) ⟨rfl,fin⟩) hs
theorem BO:i3 X (AN X.K):=by
 intro value slice pins s σ H x y v u Q I rx ry h hs
 obtain ⟨p,xs,i,z,rfl,rfl,hq,he,q⟩:=h
 cases rx
 obtain ⟨t,rfl⟩:=ry
 obtain ⟨its,r,pl,hz⟩:=I.tuple hq
 obtain ⟨j,h1,h2,h3,h4,h5⟩:=dS he
 obtain ⟨w,ew,rw'⟩:=r.get h2
 have hl:=r.length
 have hn:=Ta
 have fin:EP X pins σ Q w s:=⟨z,H,I,rw',q⟩
 exact xW (x:=w) pl.typeIs slot_tuple_getitem.lookup
  (getItem_tuple (j:=j) (Q:=λr s'=>r=w/\EP X pins σ Q r s') pl (by omega) (by omega) (by rw[Aq,<- hl]; exact h1) (by simpa using ew) ⟨rfl,fin⟩) hs
theorem O5:i3 X T7:=by
 intro value slice pins s σ H x y v u Q I rx ry h hs
 obtain ⟨z,i,c,rfl,rfl,hz,he,q⟩:=h
 obtain ⟨t,rfl⟩:=rx
 obtain ⟨t',rfl⟩:=ry
 obtain ⟨j,h1,h2,h3,h4,h5⟩:=dS he
 have hl:z.cps.toList.length=z.length:=by simp [Str.length]
 rw[hl] at h1 h4 h5
 have hn:=Ta
 exact tail_any (typeIs_str s z t) slot_str_getitem.lookup (getItem_str (c:=c) (by
  have e1:decide (i < -(2 ^ 63:Int))=false:=decide_eq_false (by omega)
  have e2:decide (i ≥ 2 ^ 63)=false:=decide_eq_false (by omega)
  rw[e1,e2,Bool.or_false]) (by rw[h1]; simpa using h2) ⟨.str ⟨#[c]⟩,H,I.tok _,⟨_,rfl⟩,q⟩) hs
def DZ(K:PySem.W.Frag):R2:=λx y H Q=>qR K x y H Q\/AN K x y H Q\/T7 x y H Q
theorem J1:i3 X (DZ X.K):=Ll.or (BO.or O5)
theorem kY(its:List Value)(n j:Nat)(u:Value):Ez (·.setIfInBounds j u) { cls:=.type "list",data:=.seq its.toArray n }={ cls:=.type "list",data:=.seq (its.set j u).toArray n }:=by
 simp [Ez]
theorem Inv.lst{pins:List (Addr×Obj)}{σ:St}{H:Hp}{s:Aj}{p:Addr}{xs:List V}(I:Inv X pins σ H s)(h:H p=some (.lst xs)):∃(its:List Value) (n:Nat),Fk xs its/\s.heap.get? p=some { cls:=.type "list",data:=.seq its.toArray n }/\xs.length<=Bd:=by
 obtain ⟨z,its,n,r,e⟩:=I.hok p _ h
 exact ⟨its,n,r,e,z⟩
theorem Inv.lstUpd{pins:List (Addr×Obj)}{σ:St}{H:Hp}{s:Aj}{p:Addr}{xs ys:List V}{its its':List Value}{n n':Nat}{f:Obj->Obj}(I:Inv X pins σ H s)(h:H p=some (.lst xs))(ho:s.heap.get? p=some { cls:=.type "list",data:=.seq its.toArray n })(hf:f { cls:=.type "list",data:=.seq its.toArray n }={ cls:=.type "list",data:=.seq its'.toArray n' })(r:Fk ys its')(hz:ys.length<=Bd)(t:Nat):Inv X pins σ (upd H p (.lst ys)) { s with heap:=s.heap.update p f,toks:=t }:=by
 have e:(s.heap.update p f).get? p=some { cls:=.type "list",data:=.seq its'.toArray n' }:=by
  rw[Lv f ho (by rw[hf] <;> rfl),hf]
 refine I.write (x:=p) (e:=p) (by rw[h]; trivial) (.inl rfl) (λb u hb q=>(lU _ _ (Po hb)).trans q) ⟨_,e⟩ ?_
 exact ⟨hz,its',n',r,e⟩
def AH:V->V->V->Hp->(Hp->Prop)->Prop:=λo i v H Q=>∃p xs k j,o=.ref p/\i=.int k/\H p=some (.lst xs)/\qE xs.length k=some j/\Q (upd H p (.lst (xs.set j v)))
theorem gL:AB X AH:=by
 intro pins s σ H o i v ov iv u Q I ro ri rv h
 obtain ⟨p,xs,k,j,rfl,rfl,hp,hj,q⟩:=h
 cases ro
 obtain ⟨t,rfl⟩:=ri
 obtain ⟨its,n,r,ho,hz⟩:=I.lst hp
 obtain ⟨h1,h2,h3,h4⟩:=oD hj
 have hl:=r.length
 have hn:=Ta
 have I':Inv X pins σ (upd H p (.lst (xs.set j v))) { s with heap:=s.heap.update p (Ez (·.setIfInBounds j u)) } :=
  I.lstUpd hp ho (kY its n j u) (r.set rv j) (by rw[List.length_set]; exact hz) s.toks
 by_cases h0:0<=k
 ·have hk:k.toNat=j:=by
   rw[seqIndex_of h0 h4] at h1
   exact Bz h1
  exact PySem.W.ki_setAt ho h0 (by omega) (by rw[Aq,<- hl]; exact h4) (by rw[hk]; exact ⟨_,I',q⟩)
 ·have hk:(k+(its.toArray.size:Int)).toNat=j:=by
   rw[seqIndex_neg (by omega) h3] at h1
   rw[Aq,<- hl]
   exact Bz h1
  exact PySem.W.ki_setBack ho (by omega) (by rw[Aq,<- hl]; exact h3) (by omega) (by rw[hk]; exact ⟨_,I',q⟩)
theorem cW(lo hi:Option Int)(n:Nat):(Nx lo hi none n).1=((HT.sIx n 0 lo:Nat):Int)/\(Nx lo hi none n).2.1=((HT.sIx n n hi:Nat):Int)/\(Nx lo hi none n).2.2=1:=by
 refine ⟨?_,?_,rfl⟩
 ·cases lo with
  | none=>simp [Nx,HT.sIx]
  | some i =>
   simp only[Nx,HT.sIx,Option.getD_none,show (1:Int) > 0 by decide,if_true]
   by_cases h:i<0
   ·simp only[h,if_true] <;> omega
   ·simp only[h,if_false] <;> omega
 ·cases hi with
  | none=>simp [Nx,HT.sIx]
  | some i =>
   simp only[Nx,HT.sIx,Option.getD_none,show (1:Int) > 0 by decide,if_true]
   by_cases h:i<0
   ·simp only[h,if_true] <;> omega
   ·simp only[h,if_false] <;> omega
theorem aS(its:List Value)(lo hi:Option Int):slicePick its.toArray lo hi none=((its.drop (HT.sIx its.length 0 lo)).take (HT.sIx its.length its.length hi - HT.sIx its.length 0 lo)).toArray:=by
 obtain ⟨h1,h2,h3⟩:=cW lo hi its.toArray.size
 unfold slicePick
 rw[h1,h2,h3]
 simp only[sliceRange_one,pick_run,Aq] <;> rfl
def F6(K:PySem.W.Frag):V->Option Int->Option Int->Hp->VK->Prop:=λx lo hi H Q=>∃a xs,x=.ref a/\Ov K H a xs/\∀p,H p=none->Q (.ref p) (upd H p (.lst (Zn xs lo hi)))
theorem zK:J0 X (F6 X.K):=by
 intro pins s σ H x v vl vu lo hi sl Q I rx hs pl pu h
 obtain ⟨a,xs,rfl,hx,q⟩:=h
 cases rx
 obtain ⟨its,r,ht,hz⟩:=I.list hx
 have hlen:=r.length
 refine ⟨"list",_,AQ.lookup,ht.isList.typeIs,?_⟩
 refine wpAny_getItem_list_slice ht.isList hs pl pu .none (by simp) ?_ (by rw[Aq] <;> omega)
 rw[aS,<- hlen]
 refine ⟨.ref s.heap.objs.size,_,I.laid (t':=s.toks) (o:=.lst (Zn xs lo hi)) (λb ob q=>Ak _ q) (Ah _) ?_,rfl,q _ (I.hok.fresh (Ah _))⟩
 exact ⟨Cf (We xs lo hi) hz,_,0,(r.drop (HT.sIx xs.length 0 lo)).take (HT.sIx xs.length xs.length hi - HT.sIx xs.length 0 lo),Be _ rfl⟩
theorem cR:Kx X (.builtin "len") (λxs H Q=>∃p ys,xs=[.ref p]/\(Ov X.K H p ys\/Tg X.K H p ys)/\Q (.int ys.length) H):=by
 intro pins s σ H xs us Q I r h
 obtain ⟨p,ys,rfl,hq,q⟩:=h
 obtain ⟨u,rfl,rx⟩:=vals1 r
 cases rx
 have hn:=Ta
 rcases hq with hq | hq
 ·obtain ⟨its,r',pl,hz⟩:=I.list hq
  have hlen:=r'.length
  exact Calls.call_len_list pl.isList (by simp only[Aq] <;> omega) ⟨.int ys.length,H,I.tok _,⟨s.toks+1,by rw[Aq,hlen]⟩,q⟩
 ·obtain ⟨its,r',pl,hz⟩:=I.tuple hq
  have hlen:=r'.length
  exact len_tuple pl (by simp only[Aq] <;> omega) ⟨.int ys.length,H,I.tok _,⟨s.toks+1,by rw[Aq,hlen]⟩,q⟩
def DM(K:PySem.W.Frag)(T:String)(x:V)(H:Hp):Prop:=match x with
 | .str _=>T = "str"
 | .int _=>T = "int"
 | .ref p=>(T = "list" /\ ∃xs,Ov K H p xs)\/(T = "tuple" /\ ∃o,K.lookup p=some o/\o.cls=.type "tuple" /\ o.dict=none) \/
   (T = "dict" /\ ((∃kvs,H p=some (.dK kvs))\/∃kvs,H p=some (.dT kvs)))\/(T = "set" /\ ∃S n,H p=some (.set S n))
 | _=>False
theorem P7{pins:List (Addr×Obj)}{σ:St}{H:Hp}{s:Aj}{T:String}{x:V}{v:Value}(I:Inv X pins σ H s)(r:RelV x v)(ty:DM X.K T x H):s.TypeIs v T/\∀a,v=.ref a->∃ob,s.heap.get? a=some ob/\ob.dict=none:=by
 cases x with
 | str z =>
  obtain ⟨t,rfl⟩:=r
  cases (show T = "str" from ty)
  exact ⟨typeIs_str s z t,λ_ e=>nomatch e⟩
 | int i =>
  obtain ⟨t,rfl⟩:=r
  cases (show T = "int" from ty)
  exact ⟨typeIs_int s i t,λ_ e=>nomatch e⟩
 | ref p =>
  cases r
  rcases ty with ⟨rfl,xs,hq⟩ | ⟨rfl,o,hk,hc,hd⟩ | ⟨rfl,hk⟩ | ⟨rfl,S,n,hk⟩
  ·obtain ⟨its,_,pl,_⟩:=I.list hq
   refine ⟨pl.isList.typeIs,λa e=>?_⟩
   cases e
   obtain ⟨o,n,e,c,hd,_⟩:=pl
   exact ⟨o,e,hd⟩
  ·refine ⟨⟨o,I.kIn p o hk,hc⟩,λa e=>?_⟩
   cases e
   exact ⟨o,I.kIn _ o hk,hd⟩
  ·have z:∃o,s.heap.get? p=some o/\o.ExactDict:=by
    rcases hk with ⟨kvs,hk⟩ | ⟨kvs,hk⟩
    ·obtain ⟨_,_,_,_,o,_,_,e,ex,_⟩:=I.hok p _ hk
     exact ⟨o,e,ex⟩
    ·obtain ⟨_,_,_,_,o,_,_,e,ex,_⟩:=I.hok p _ hk
     exact ⟨o,e,ex⟩
   obtain ⟨o,e,ex⟩:=z
   refine ⟨⟨o,e,ex.1⟩,λa e2=>?_⟩
   cases e2
   exact ⟨o,e,ex.2.1⟩
  ·obtain ⟨o,_,_,_,e,ex,_⟩:=I.hok p _ hk
   refine ⟨⟨o,e,ex.1⟩,λa e2=>?_⟩
   cases e2
   exact ⟨o,e,ex.2.1⟩
 | _=>exact Jt ty
def EV(K:PySem.W.Frag)(T:String)(r:V->List V->Hp->VK->Prop)(to:TE)(t:TA):TE:=λσ H Q=>to σ H λx H1=>DM K T x H1/\t σ H1 λxs H2=>r x xs H2 Q
variable{o e:Expr}{es:List Expr}{to:TE}{t:TA}{name:Str}{apos cpos:Pos}{T id:String}{r:V->List V->Hp->VK->Prop}
theorem nE(pa:PlainAttrs T)(slot:Slot T name id)(hty:typeOf (.builtin id)=pure (.type "method_descriptor"))(hm:EW X id r)(ho:PE X o to)(ha:PA X (e::es) t)
  (hbase:Nl o name X.env (eval o X.env)=eval o X.env:=by rfl)
  (hfew:((Hx cpos (Bn (e::es) X.env)).all (λx=>!x.1) && (backToKw cpos (Qw [] X.env)).all (λx=>x.1.isSome)
   && decide ((e::es).length+([]:List Nn).length+(if ([]:List Nn).isEmpty then 0 else 1)<30))=true:=by rfl)
  (hline:(apos.endLine == cpos.line)=true:=by rfl) (hs:Bn (e::es) X.env=(false,eval e X.env)::Bn es X.env:=by rfl) (hplain:(Hx cpos (Bn es X.env)).any (·.1)=false:=by rfl) :
  PE X (.Call (.Attribute o name apos) (e::es) [] cpos) (EV X.K T r to t):=by
 intro pins s σ H Q I h
 refine wpAny_Call_method_late hbase hfew hline rfl (Fv (ho pins s σ H _ I h) λv s1 q0_ => ?_)
 obtain ⟨x,H1,I1,r1,ty,q1⟩ := q0_
 obtain ⟨h1,h2⟩:=P7 I1 r1 ty
 refine ⟨T,id,pa,slot,hty,h1,h2,?_⟩
 have hA:=ha cpos pins s1 σ H1 _ I1 q1
 rw[hs] at hA ⊢
 refine Calls.callWith_builtin (by show (false || (Hx cpos (Bn es X.env)).any (·.1))=false; rw[hplain] <;> rfl) (Calls.evalArgs_plain ?_)
 exact Fv hA λus s2 ⟨vs,H2,I2,r2,q2⟩=>hm pins s2 σ H2 x vs v us Q I2 r1 r2 q2
end
def DX(X:Cx)(id:String)(r:V->List V->Hp->VK->Prop):Prop :=
 ∀(pins:List (Addr×Obj)) (s:Aj) (σ:St) (H:Hp) (x:V) (xs:List V) (v:Value) (us:List Value) (Q:VK),Inv X pins σ H s->RelV x v->Fk xs us->r x xs H Q ->
  wpAny (model X.prog X.w) X.A (call (.builtin id) (v::us)) (EP X pins σ Q) X.xe s
theorem Fk.one:∀{x:V} {us:List Value},Fk [x] us->∃u,us=[u]/\RelV x u
 | _,_,.cons r .nil=>⟨_,rfl,r⟩
section
variable{X:Cx}{pins:List (Addr×Obj)}{σ:St}{H:Hp}{s:Aj}{l b:Addr}{xs ys zs:List V}
theorem Inv.lset{its its':List Value}{n:Nat}{f:Array Value->Array Value}{t':Nat}(I:Inv X pins σ H s)(hH:H l=some (.lst xs))(e:s.heap.get? l=some { cls:=.type "list",data:=.seq its.toArray n })(hf:f its.toArray=its'.toArray)(hv:Fk ys its')(hz:ys.length<=Bd):Inv X pins σ (upd H l (.lst ys)) { s with heap:=s.heap.update l (Ez f),toks:=t' }:=by
 have q:=PySem.IsL.update e f
 rw[hf] at q
 refine I.write (x:=l) (e:=l) (by rw[hH]; exact trivial) (.inl rfl) (λb' u hb hu=>(lU s.heap (Ez f) (Po hb)).trans hu) ⟨_,q⟩ ?_
 exact ⟨hz,its',_,hv,q⟩
theorem Inv.lnew{its:List Value}{t':Nat}(I:Inv X pins σ H s)(hv:Fk ys its)(hz:ys.length<=Bd):Inv X pins σ (upd H s.heap.objs.size (.lst ys)) { s with heap:=s.heap.push { cls:=.type "list",data:=.seq its.toArray },toks:=t' } :=
 I.laid (λ_ _ q=>Ak _ q) (Ah _) ⟨hz,its,0,hv,Be _ rfl⟩
theorem Inv.fresh(I:Inv X pins σ H s):H s.heap.objs.size=none:=I.hok.fresh (Ah _)
theorem Inv.lstM(I:Inv X pins σ H s)(hH:H l=some (.lst xs)):xs.length<=Bd/\∃(its:List Value) (n:Nat),Fk xs its/\xs.length=its.length/\s.heap.get? l=some { cls:=.type "list",data:=.seq its.toArray n }:=by
 obtain ⟨z,its,n,r,e⟩:=I.hok l _ hH
 exact ⟨z,its,n,r,r.length,e⟩
theorem tK{n:Nat}(h:n<=Bd):Ng n=false:=by
 unfold Ng
 exact decide_eq_false (by omega)
end
section
variable{X:Cx}
def j9:V->List V->Hp->VK->Prop:=λx vs H Q=>∃l xs y,x=.ref l/\vs=[y]/\H l=some (.lst xs)/\xs.length<Bd/\Q .non (upd H l (.lst (xs++[y])))
theorem Lc:DX X "list.append" j9:=by
 intro pins s σ H x vs v us Q I rx rv h
 obtain ⟨l,xs,y,rfl,rfl,hH,hz,q⟩:=h
 cases rx
 obtain ⟨u,rfl,ru⟩:=rv.one
 obtain ⟨z,its,n,r,hl,e⟩:=I.lstM hH
 refine call_meets F.slot_list_append ⟨_,e,rfl⟩ F.entry_list_append (F.args_list_append_2 _ _) (PySem.list_append l its.toArray n u (by rw[Aq]; omega)) ⟨e,?_⟩
 refine ⟨.non,_,I.lset (its':=its++[u]) hH e (by simp) (r.append (.cons ru .nil)) ?_,rfl,q⟩
 rw[Ax,Eu]
 omega
def o6:V->List V->Hp->VK->Prop:=λx vs H Q=>∃l b xs zs,x=.ref l/\vs=[.ref b]/\H l=some (.lst xs)/\H b=some (.lst zs)/\xs.length+zs.length<=Bd/\Q .non (upd H l (.lst (xs++zs)))
theorem pI:DX X "list.extend" o6:=by
 intro pins s σ H x vs v us Q I rx rv h
 obtain ⟨l,b,xs,zs,rfl,rfl,hH,hB,hz,q⟩:=h
 cases rx
 obtain ⟨u,rfl,ru⟩:=rv.one
 cases ru
 obtain ⟨z,its,n,r,hl,e⟩:=I.lstM hH
 obtain ⟨z2,its2,n2,r2,hl2,e2⟩:=I.lstM hB
 have hsz:its.toArray.size+its2.toArray.size<=Bd:=by rw[Aq,Aq]; omega
 have hlong:¬ (!its.toArray.isEmpty && Ng (its.toArray.size+its2.toArray.size))=true:=by
  rw[tK hsz,Tf]
  exact Bx
 refine call_meets F.slot_list_extend ⟨_,e,rfl⟩ F.entry_list_extend (F.args_list_extend_2 _ _)
  (AutoSeq1.list_extend_list_list_0 l its.toArray n b its2.toArray n2 hlong (by rw[Aq]; omega) (by omega)) ⟨e,e2,?_⟩
 refine ⟨.non,_,I.lset (its':=its++its2) hH e (by simp) (r.append r2) ?_,rfl,q⟩
 rw[Ax]
 omega
def R9:R2:=λx y H Q=>∃l b xs zs,x=.ref l/\y=.ref b/\H l=some (.lst xs)/\H b=some (.lst zs)/\xs.length+zs.length<=Bd/\∀p,H p=none->Q (.ref p) (upd H p (.lst (xs++zs)))
theorem jT:Vj X (Kn .Add) R9:=by
 intro pins s σ H x y v u Q I rx ry h
 obtain ⟨l,b,xs,zs,rfl,rfl,hH,hB,hz,q⟩:=h
 cases rx
 cases ry
 obtain ⟨z,its,n,r,hl,e⟩:=I.lstM hH
 obtain ⟨z2,its2,n2,r2,hl2,e2⟩:=I.lstM hB
 refine PySem.P.add_list e e2 ?_ (by rw[Aq,Aq]; omega)
 have ea:its.toArray++its2.toArray=(its++its2).toArray:=by simp
 rw[ea]
 exact ⟨.ref _,_,I.lnew (t':=s.toks) (r.append r2) (by rw[Ax]; omega),rfl,q _ I.fresh⟩
end
end L2
namespace Att
open PySem PySem.W PySem.Calls PyProof.Rows
theorem Wu{P:Params}{h:Heap}:∀(ns:List Int) (vs:List Value),WellAll P h vs (ns.map WData.int)->Gc vs ns:=by
 intro ns
 induction ns with
 | nil =>
  intro vs w
  rw[Xb] at w
  cases w
  exact .nil
 | cons n ns ih =>
  intro vs w
  rw[Bh] at w
  cases w with
  | cons a b =>
   cases a
   exact .cons _ _ (ih _ b)
theorem rF{l:OpenLaw}{n:Nat}(hn:l.most=some n){P:Params}{h:Heap}{args:List WData}{vals:List Value}(hpre:l.row.toRowW.claim.pre args=true)(hwl:WellAll P h vals args):∃a vs ns,vals=[Ar a]/\args=[WData.list (ns.map WData.int)]/\h.get? a=some { cls:=.type "list",data:=.seq vs.toArray }/\Gc vs ns/\ns.length<=n:=by
 have hsh:WShape.hasAll [] args [.list .int]=true:=(pre_splitW hpre).1
 have hc:l.pre.holds [] { args:=args }=true:=(pre_splitW hpre).2
 obtain ⟨d,r,rfl,h1,h2⟩:=hasAllW_cons hsh
 obtain rfl:=hasAllW_nil h2
 obtain ⟨xs,rfl,h3⟩:=hasW_list h1
 obtain ⟨ns,rfl⟩:=items_int h3
 have hlen:ns.length<=n:=by
  unfold OpenLaw.pre at hc
  have h4:(WTm.not (.lt (.lit (.int (n:Int))) (.len (.arg 0)))).holds [] { args:=[.list (ns.map .int)] }=true:=by
   have h4:=(holds_andW hc).1
   rw[hn] at h4
   exact h4
  have h5:=condW_of h4 (w_not (w_lt w_lit (w_len_list (w_arg rfl))))
  rw[Ac] at h5
  refine Nat.le_of_not_lt λq=>?_
  have q':(n:Int)<((ns.length:Nat):Int):=by omega
  first
   | (rw[decide_eq_true q'] at h5; exact absurd h5 (by decide))
   | (simp at h5; omega)
 cases hwl with
 | cons w1 w2 =>
  cases w2
  cases w1 with
  | list ho hall=>exact ⟨_,_,ns,rfl,rfl,ho,Wu ns _ hall,hlen⟩
theorem rT(l:OpenLaw)(args:List WData):l.row.toRowW.claim.post args (.bool true) args=true :=
 postW_of (r:=l.row.toRowW) (X:=(true == true))
  (show WShape.has [] (.bool true) .bool=true by first | rfl | decide | simp [WShape.has,WShape.arms,WShape.armsAll])
  (show (WTm.eq .res (.lit (.bool true))).value [] { args:=args,res:=some (.bool true),after:=args }=some (.bool (true == true)) from w_eq_bool (w_res rfl) w_lit) rfl
theorem attach_call{l:OpenLaw}{n:Nat}{q:Bj}{loose:List Str}{XP:(Str->Option Value)->Heap->Prop}{YP:World->Heap->Prop}{d:DefRec}(hn:l.most=some n)(hdf:d.params.defaults=[])(call:∀(w:World) (s₀ s₁:Aj) (mg mb:Str->Option Value) (fa:Addr) (o:Obj) (pm cd doc:Value) (a:Addr) (vs:List Value) (ns:List Int),Ground q loose [] XP w s₀ mg mb s₁.heap->YP w s₁.heap->s₁.heap.get? fa=some o->o.data=.func (docDef d.name d.params d.body d.scope pm cd doc)->s₁.heap.CodeRec cd d.name->mg d.name=some (.ref fa)->s₁.heap.get? a=some { cls:=.type "list",data:=.seq vs.toArray }->Gc vs ns->ns.length<=n->s₁.gens=#[]->Hm (model l.prog w) Wz (.call (.ref fa) ⟨[.ref a],[]⟩) (λr s'=>r=.ok (.ret (.bool true))/\OldK s₁.heap s'.heap/\s'.os=s₁.os/\Ra s'.gens) s₁):WalkO q loose XP YP l.row.toRowW d [] (λf vs=>PySem.call f vs):=by
 intro w s₀ s₁ mg mb G Y fa o pm cd doc dV kV ho hd hcd hD hmg hg args vals as hpre hlay hrd hwl hlo
 obtain rfl:dV=.none:=Dflts.none hD hdf
 obtain rfl:kV=.none:=Dflts.noKw hD
 obtain ⟨a,vs,ns,rfl,rfl,hobj,hints,hlen⟩:=rF hn hpre hwl
 refine enter_call (Mi (call w s₀ s₁ mg mb fa o pm cd doc a vs ns G Y ho (fd_plain hd) hcd hmg hobj hints hlen hg) λr s' hq=>?_)
 obtain ⟨rfl,h2,h3,h4⟩:=hq
 exact ⟨.inl ⟨.bool true,.bool true,[],rfl,λ_=>rfl,.bool true,rT l _,λ_=>⟨Do,λ_ hm=>(nomatch hm)⟩⟩,h2,h3,h4⟩
end Att
namespace L2
open PySem PySem.Spec PyProof.Rows
theorem bP:∀{vs:List Value} {ns:List Int},Gc vs ns->Fk (ns.map V.int) vs
 | _,_,.nil=>.nil
 | _,_,.cons n t h=>.cons ⟨t,rfl⟩ (bP h)
def Nq(s:Stmt):Arguments:=match s with
 | .FunctionDef _ a _ _ _ _ _ _ _ _=>a
 | _=>{ posonlyargs:=[],args:=[],vararg:=none,kwonlyargs:=[],kw_defaults:=[],kwarg:=none,defaults:=[] }
def Kt(s:Stmt):List Stmt:=match s with
 | .FunctionDef _ _ b _ _ _ _ _ _ _=>b
 | _=>[]
def Cc(s:Stmt):Scope:=match s with
 | .FunctionDef _ _ _ _ _ _ sc _ _ _=>sc
 | _=>{ kind:=.function,names:=[],isGenerator:=false,isCoroutine:=false }
abbrev Jv:pT:=λ_ _ _ _ _ _=>False
abbrev E0:XK:=λ_ _ _=>False
theorem Hd{X:Cx}:Qt Jv X E0:=λ_ _ _ _ _ _ _ h=>h.elim
structure Fun(K:PySem.W.Frag)(x qual:Str)(st:Stmt)(f:Addr)(fd:Co):Prop where
 ex:∃(oc:Value) (od:Option Addr) (kV doc pm:Value) (an:Option Addr) (cdv ct:Value) (osl:Array (Option Value)),
  fd=PySem.W.fnOf x qual (Nq st) (Kt st) (Cc st) .none kV doc pm an cdv ct/\K.lookup f=some ⟨oc,od,.func fd,osl⟩/\PySem.W.codeIn K cdv qual=true
 kp:PySem.W.keepIn K (.ref f)=true
section
variable{P:Bj}{w:World}{K:PySem.W.Frag}{mg:Str->Option Value}{base:Heap}
theorem Fun.ok{x qual:Str}{st:Stmt}{f:Addr}{fd:Co}{N ps:List Str}{k:Nat}{sp:Sp}(F:Fun K x qual st f fd)(S:FnScope N ps (Cc st))(len:∀vs H Q E,sp vs H Q E->vs.length=ps.length)(hbody:∀(cdv:Value) (A:Cp) (outer:List Env) (s:Aj) (H:Hp) (vs:List V) (Q:VK) (E:XK),Room k (A.deeper (Th qual (Cc st) s.heap.objs.size f cdv))->sp vs H Q E->∃t,lD (Sa Jv P w K mg base N qual (Cc st) f cdv A outer s H E).nox (Kt st) t/\t { nx:=λ_ H'=>Q .non H',rt:=Q } (start N vs) H):FnOk P w K mg base Jv (k+1) f fd ps sp:=by
 obtain ⟨oc,od,kV,doc,pm,an,cdv,ct,osl,rfl,lk,hcd⟩:=F.ex
 refine Z9 lk hcd S len λA outer s H vs Q E hr hsp=>?_
 obtain ⟨t,h,q⟩:=hbody cdv A outer s H vs Q E hr hsp
 exact ⟨t,h.nox,q⟩
theorem Fun.binds{x qual:Str}{st:Stmt}{f:Addr}{fd:Co}{ps:List Str}(F:Fun K x qual st f fd)(h:∀(kV doc pm:Value) (an:Option Addr) (cdv ct:Value) (us:List Value),us.length=ps.length->bindArgs (PySem.W.fnOf x qual (Nq st) (Kt st) (Cc st) .none kV doc pm an cdv ct) ⟨us,[]⟩=pure (ps.zip us)):Binds K fd ps []:=by
 obtain ⟨oc,od,kV,doc,pm,an,cdv,ct,osl,rfl,lk,hcd⟩:=F.ex
 exact .all (h kV doc pm an cdv ct)
theorem tZ{x qual:Str}{st:Stmt}{f:Addr}{oc:Value}{od an:Option Addr}{osl:Array (Option Value)}{kV doc pm cdv ct:Value}(l:K.lookup f=some ⟨oc,od,.func (PySem.W.fnOf x qual (Nq st) (Kt st) (Cc st) .none kV doc pm an cdv ct),osl⟩)(c:PySem.W.codeIn K cdv qual=true)(k:PySem.W.keepIn K (.ref f)=true):Fun K x qual st f (PySem.W.fnOf x qual (Nq st) (Kt st) (Cc st) .none kV doc pm an cdv ct):=⟨⟨oc,od,kV,doc,pm,an,cdv,ct,osl,rfl,l,c⟩,k⟩
end
theorem bT{n:Nat}(h:n<=1000):n<Bd:=Nat.lt_of_le_of_lt h (by decide)
section
variable{X:Cx}
theorem pv(i:Nat){x:Str}{pos:Pos}(hN:X.N[i]? = some x:=by rfl)(hv:Y7 X.env.scope x:=by first | exact Dd rfl | exact Or.inr (Dd rfl) | exact Or.inr (Or.inr rfl))(hd:(x == ("__debug__" : Str))=false:=by decide)(hcd:(x == ("__classdict__" : Str))=false:=by decide):PE X (.Name x pos) (Pp i):=Q0 hN hv hd hcd
end
theorem qA{A B:Prop}(h:B):if false=true then A else B:=by
 rw[if_neg Bx]
 exact h
theorem qH{A B:Prop}(h:A):if true=true then A else B:=by
 rw[if_pos rfl]
 exact h
theorem BF{c A B:Prop}[Decidable c](h1:c->A)(h2:¬ c->B):if c then A else B:=by
 by_cases h:c
 ·rw[if_pos h]
  exact h1 h
 ·rw[if_neg h]
  exact h2 h
def Lg(H H':Hp):Prop:=∀b o,H b=some o->H' b=some o
theorem Lg.refl(H:Hp):Lg H H:=λ_ _ h=>h
theorem Lg.trans{H H1 H2:Hp}(a:Lg H H1)(b:Lg H1 H2):Lg H H2:=λc o h=>b c o (a c o h)
theorem Lg.free{H H':Hp}(e:Lg H H'){l:Addr}(h:H' l=Option.none):H l=Option.none:=by
 cases q:H l with
 | none=>rfl
 | some o =>
  rw[e l o q] at h
  cases h
end L2
namespace Nd
open PySem PySem.Spec PyProof.Rows L2
def Ec(X:Cx)(scope:Scope)(cl:List (Str×Addr))(N:List Str)(fp:List Addr)(s:Aj)(H:Hp):Cx where
 prog:=X.prog
 w:=X.w
 K:=X.K
 mg:=X.mg
 base:=X.base
 A:=X.A
 N:=N
 s₀:=s
 H₀:=H
 env:=Wo scope (Ed (s.heap.objs.size+1) scope.names cl) s.heap.objs.size X.env
 outer:=X.stack
 stack:=X.stack
 ex:=fp
 fn:=λy=>decide (scope.names.lookup y=some Ds)
 calm:=X.calm
 pn:=[]
 xe:=λ_ _=>False
section
variable{prog:Bj}{w:World}{A:Cp}{R:Result->Aj->Prop}{s:Aj}
theorem Sy{elt tg iter:Expr}{ifs:List Expr}{scope:Scope}{pos:Pos}{it acc:Value}{env:Env}(J:Nat->Aj->Prop) (turn:∀n s,J n s->wpAny (model prog w) A (Pn it) (λr s1=>match r with
    | none=>R (.ok .next) s1
    | some v=>wpAny (model prog w) A (Hy tg it v) (λ_ s2=>wpAny (model prog w) A (Ka tg env v) (λ_ s3 =>
      wpAny (model prog w) A (forIn ifs true λc r=>if r=true then (do
        let ok <- isTrue c env (eval c env)
        pure (Fd ok)) else pure (Fd r)) (λok s4 =>
       if ok=true then
        wpAny (model prog w) A (eval elt env) (λx s5=>wpAny (model prog w) A (call (.builtin "list.append") [acc,x]) (λ_ s6=>∃m,m<n/\J m s6) (λ_ _=>False) s5) (λ_ _=>False) s4
       else ∃m,m<n/\J m s4) (λ_ _=>False) s3) (λ_ _=>False) s2) (λ_ _=>False) s1) (λ_ _=>False) s)
  (n:Nat) (h:J n s):Hm (model prog w) A (.compLoop (.ListComp elt [⟨tg,iter,ifs,0⟩] scope pos) 0 it acc env) R s:=by
 refine codeAny_loop rfl J (λn s hJ=>?_) n h
 show wpAny _ A (Sem.onRaise (compTurn (.ListComp elt [⟨tg,iter,ifs,0⟩] scope pos) 0 it acc env) (λx=>do noteFrame x env; theTreesLotGoes x)) _ _ s
 refine wpAny_noted ?_
 rw[compTurn_list]
 refine Ab (Hg (Ab (Cz (turn n s hJ) (λr s1 h1=>?_) λ_ _ z=>z.elim)))
 cases r with
 | none=>exact Al h1
 | some v =>
  refine Ab (Cz h1 (λ_ s2 h2=>?_) λ_ _ z=>z.elim)
  refine Ab (Cz h2 (λ_ s3 h3=>?_) λ_ _ z=>z.elim)
  refine Ab (Cz h3 (λok s4 h4=>?_) λ_ _ z=>z.elim)
  cases ok with
  | false=>exact Al ⟨rfl,h4⟩
  | true =>
   refine Ab (Ab (Cz h4 (λx s5 h5=>?_) λ_ _ z=>z.elim))
   exact Ab (Cz h5 (λ_ s6 h6=>Al (Al ⟨rfl,h6⟩)) λ_ _ z=>z.elim)
end
section
variable{X:Cx}{pins:List (Addr×Obj)}{σ:L2.St}{H:Hp}{s:Aj}{scope:Scope}{cl:List (Str×Addr)}{fp:List Addr}{N:List Str}
def oX(scope:Scope)(x:Str):Prop:=scope.names.lookup x=some .local\/scope.names.lookup x=some .cell
structure CompScope(X:Cx)(scope:Scope)(cl:List (Str×Addr))(x:Str)(ys:List Str)(js:List Nat):Prop where
 clos:closureFor scope X.env=pure cl
 oc:(∀y∈scope.names,y.2≠.cell)\/∃z:Str,(∀n,Ed n scope.names []=[(z,n)])/\scope.names.lookup z=some .cell/\∀y∈scope.names,y.2=.cell->y.1=z
 kind:scope.kind=.function
 locs:∀y∈scope.names,y.2=.local->scope.names.lookup y.1=some .local
 own:oX scope x
 sub:∀y c,cl.lookup y=some c->X.env.cells.lookup y=some c
 has_:(scope.names.all λy=>!(y.2 == Ek) || (cl.lookup y.1).isSome)=true
 nd:(x::ys).Nodup
 len:ys.length=js.length
 at_:∀(k:Nat) (y:Str) (j:Nat),ys[k]? = some y->js[k]? = some j->X.N[j]? = some y/\scope.names.lookup y=some .free/\(X.env.kindOf y=some .cell\/X.env.kindOf y=some .free)
theorem CompScope.has{x:Str}{ys:List Str}{js:List Nat}(C:CompScope X scope cl x ys js):∀y∈scope.names,y.2=.free->(cl.lookup y.1).isSome=true:=λy hy e=>by
 have h:=List.all_eq_true.mp C.has_ y hy
 rw[e] at h
 simpa using h
theorem Qs{env:Env}{y:Str}{k:Nz}:∀{names:List (Str×Nz)},
  (names.map λ(n,k)=>if (k == Ek && env.scope.kind == .function && env.kindOf n == some .cell) then (n,Ds) else (n,k)).lookup y=some k ->
  ∃k0,names.lookup y=some k0/\(k=k0\/(k0=.free/\k=.cell))
 | [],h=>by simp at h
 | (n,k0)::r,h=>by
  have ih:=@Qs env y k r
  rw[Bh] at h
  by_cases hc:(k0 == Ek && env.scope.kind == .function && env.kindOf n == some .cell)=true
  ·have h':Kv y ((n,Ds)::(r.map λ(n,k)=>if (k == Ek && env.scope.kind == .function && env.kindOf n == some .cell) then (n,Ds) else (n,k)))=some k:=by
    simpa [hc] using h
   cases hy:y == n with
   | true =>
    rw[Bv,hy] at h'
    have e:k=Ds:=by simpa using h'.symm
    refine ⟨k0,by rw[Bv,hy],.inr ⟨?_,e⟩⟩
    rw[Gx,Gx] at hc
    exact Dj hc.1.1
   | false =>
    rw[Bv,hy] at h'
    obtain ⟨q,e1,e2⟩:=ih h'
    exact ⟨q,by rw[Bv,hy]; exact e1,e2⟩
  ·have h':Kv y ((n,k0)::(r.map λ(n,k)=>if (k == Ek && env.scope.kind == .function && env.kindOf n == some .cell) then (n,Ds) else (n,k)))=some k:=by
    simpa [hc] using h
   cases hy:y == n with
   | true =>
    rw[Bv,hy] at h'
    exact ⟨k0,by rw[Bv,hy],.inl (by simpa using h'.symm)⟩
   | false =>
    rw[Bv,hy] at h'
    obtain ⟨q,e1,e2⟩:=ih h'
    exact ⟨q,by rw[Bv,hy]; exact e1,e2⟩
theorem Ub{env:Env}{y:Str}:∀{names:List (Str×Nz)},names.lookup y=some .free ->
  (names.map λ(n,k)=>if (k == Ek && env.scope.kind == .function && env.kindOf n == some .cell) then (n,Ds) else (n,k)).lookup y=some .cell \/
  (names.map λ(n,k)=>if (k == Ek && env.scope.kind == .function && env.kindOf n == some .cell) then (n,Ds) else (n,k)).lookup y=some .free
 | [],h=>by simp at h
 | (n,k0)::r,h=>by
  have ih:=@Ub env y r
  show Kv y ((if (k0 == Ek && env.scope.kind == .function && env.kindOf n == some .cell)=true then (n,Ds) else (n,k0))::_)=_\/Kv y ((if (k0 == Ek && env.scope.kind == .function && env.kindOf n == some .cell)=true then (n,Ds) else (n,k0))::_)=_
  by_cases hc:(k0 == Ek && env.scope.kind == .function && env.kindOf n == some .cell)=true
  ·rw[if_pos hc]
   cases hy:y == n with
   | true=>exact .inl (by rw[Bv,hy])
   | false =>
    rw[Bv,hy] at h
    simp only[Bv,hy]
    exact ih h
  ·rw[if_neg hc]
   cases hy:y == n with
   | true =>
    rw[Bv,hy] at h
    exact .inr (by rw[Bv,hy]; exact h)
   | false =>
    rw[Bv,hy] at h
    simp only[Bv,hy]
    exact ih h
theorem Gf{α β:Type}[BEq α][LawfulBEq α]{y:α}{k:β}:∀{l:List (α×β)},l.lookup y=some k->(y,k)∈l
 | [],h=>by simp at h
 | (n,v)::r,h=>by
  cases hy:y == n with
  | true =>
   rw[Bv,hy] at h
   have e:=Dj hy
   subst e
   have : v=k:=by simpa using h
   subst this
   exact Aa
  | false =>
   rw[Bv,hy] at h
   exact Ad _ (Gf h)
end
theorem dE{a c:Nat}(h:c<a)(e:c=a+1):False:=by omega
theorem Il:∀(names:List (Str×Nz)) (n:Nat) (acc:List (Str×Addr)),Ed n names acc=Ed n names []++acc
 | [],_,_=>rfl
 | (x,k)::r,n,acc=>by
  unfold Ed
  by_cases h:(k == Ds)=true
  ·rw[if_pos h,if_pos h,Il r _ ((x,n)::acc),Il r _ [(x,n)],Bg]; rfl
  ·rw[if_neg h,if_neg h]; exact Il r n acc
theorem Ms:∀(names:List (Str×Nz)) (n:Nat) (acc:List (Str×Addr)),(∀y∈names,y.2≠.cell)->Ed n names acc=acc
 | [],_,_,_=>rfl
 | (x,k)::r,n,acc,h=>by
  unfold Ed
  rw[if_neg (by have:=h (x,k) Aa; simpa using this)]
  exact Ms r n acc λy hy=>h y (Ad _ hy)
theorem To{env:Env}{y:Str}:∀{names:List (Str×Nz)},names.lookup y=some .cell->(names.map λ(n,k)=>if (k == Ek && env.scope.kind == .function && env.kindOf n == some .cell) then (n,Ds) else (n,k)).lookup y=some .cell
 | [],h=>by simp at h
 | (n,k0)::r,h=>by
  have ih:=@To env y r
  show Kv y ((if (k0 == Ek && env.scope.kind == .function && env.kindOf n == some .cell)=true then (n,Ds) else (n,k0))::_)=_
  by_cases hc:(k0 == Ek && env.scope.kind == .function && env.kindOf n == some .cell)=true
  ·rw[if_pos hc]
   cases hy:y == n with
   | true=>rw[Bv,hy]
   | false=>rw[Bv,hy] at h ⊢; exact ih h
  ·rw[if_neg hc]
   cases hy:y == n with
   | true=>rw[Bv,hy] at h ⊢; exact h
   | false=>rw[Bv,hy] at h ⊢; exact ih h
theorem Rp{env:Env}{scope:Scope}{x:Str}(o:oX scope x):Loc (relabel scope env) x:=o.imp lookup_relabel_local To
section
variable{X:Cx}{scope:Scope}{cl:List (Str×Addr)}{x y:Str}{ys:List Str}{js:List Nat}{n c:Nat}{N:List Str}{fp:List Addr}{s:Aj}{H:Hp}
theorem Vf(o:oX scope x):(Ec X scope cl N fp s H).fn x=true\/(Ec X scope cl N fp s H).env.scope.names.lookup x=some .local:=by
 rcases o with o | o
 ·exact .inr (lookup_relabel_local o)
 ·exact .inl (decide_eq_true o)
theorem CompScope.split(C:CompScope X scope cl x ys js)(h:(Ed n scope.names cl).lookup y=some c):cl.lookup y=some c\/(c=n/\Ed 0 scope.names []=[(y,0)]/\Ed n scope.names []=[(y,n)]/\scope.names.lookup y=some .cell):=by
 rcases C.oc with o | ⟨z,o1,o2,_⟩
 ·rw[Ms _ _ _ o] at h; exact .inl h
 ·rw[Il,o1] at h
  have h2:Kv y ((z,n)::cl)=some c:=h
  rw[Bv] at h2
  cases e:y == z with
  | true =>
   rw[e] at h2
   have ec:c=n:=(Bz h2).symm
   have ey:=Dj e
   subst ey
   exact .inr ⟨ec,o1 0,o1 n,o2⟩
  | false=>rw[e] at h2; exact .inl h2
theorem CompScope.find(C:CompScope X scope cl x ys js)(h:cl.lookup y=some c)(hy:scope.names.lookup y=some .free):(Ed n scope.names cl).lookup y=some c:=by
 rcases C.oc with o | ⟨z,o1,o2,_⟩
 ·rw[Ms _ _ _ o]; exact h
 ·rw[Il,o1]
  show Kv y ((z,n)::cl)=some c
  rw[Bv]
  cases e:y == z with
  | true=>rw[Dj e,o2] at hy; cases hy
  | false=>exact h
theorem CompScope.cellAt(C:CompScope X scope cl x ys js)(hy:(y,Ds)∈scope.names):(Ed n scope.names cl).lookup y=some n:=by
 rcases C.oc with o | ⟨z,o1,o2,o3⟩
 ·exact absurd rfl (o _ hy)
 ·have ez:y=z:=o3 _ hy rfl
  subst ez
  rw[Il,o1]
  show Kv y ((y,n)::cl)=some n
  rw[Bv,beq_self_eq_true]
theorem Rk{M:Model}{A:Cp}{E:Value->Aj->Prop}{Q:Env->Aj->Prop}(C:CompScope X scope cl x ys js)(hQ:∀h4,h4.Ns s.heap.objs.size (λ_=>none)->(∀b u,s.heap.get? b=some u->h4.get? b=some u)->(∀z n,Ed (s.heap.objs.size+1) scope.names []=[(z,n)]->h4.IsCell n none)->Q (newEnv scope s.heap.objs.size X.env.globals (Ed (s.heap.objs.size+1) scope.names cl) X.env.qual none .none (some X.env) Ti) { s with heap:=h4,toks:=s.toks+([]:List (Str×Value)).length }):wpAny M A (Mh scope X.env.globals cl [] X.env.qual none .none (some X.env)) Q E s:=by
 simp only[Mh,Option.isSome_some,if_true]
 refine Ab (wpAny_alloc (Ab (wpAny_layCells _ (λx k cs=>by cases e:k == Ds <;> simp [e]) _ _ _ _ ?_)))
 have hsz:({ s with heap:=s.heap.push { cls:=.type "dict",data:=.dict #[] } }:Aj).heap.objs.size=s.heap.objs.size+1:=Heap.size_push ..
 rw[hsz]
 refine Ab (Al (Al (hQ _ ((Heap.Ns.new s.heap (.type "dict")).keeps (pushCells_keeps _ _)) (λb u e=>pushCells_keeps _ _ b u (Ak _ e)) λz n e=>?_)))
 have ok:=(cellsFrom_ok scope.names (s.heap.push { cls:=.type "dict",data:=.dict #[] }) 0 [] ⟨λ_ _ hm=>(nomatch hm),Do⟩ (Cy _)).empty z n
 rw[show (s.heap.push { cls:=.type "dict",data:=.dict #[] }).objs.size=s.heap.objs.size+1 from hsz,e] at ok
 exact (ok (Ae.mpr rfl)).1
end
section
variable{X:Cx}{pins:List (Addr×Obj)}{σ:L2.St}{H:Hp}{s:Aj}{scope:Scope}{cl:List (Str×Addr)}{fp:List Addr}{N:List Str}
theorem p8{x:Str}{ys:List Str}{js:List Nat}(C:CompScope X scope cl x ys js)(I:Inv X pins σ H s)(hf:∀b∈fp,Lw X pins H b)(ho:∀b∈fp,∃o,s.heap.get? b=some o):(Ec X scope cl N fp s H).Ok where
 mod:=I.ok.mod
 kind:=C.kind
 glob:=I.ok.glob
 blt:=I.ok.blt
 above:=Ah _
 inj:=λy z c h1 h2=>by
  have lt:∀y,cl.lookup y=some c->c<s.heap.objs.size:=λy e=>let ⟨_,q⟩:=I.cell y c (C.sub y c e); q.lt
  rcases C.split h1 with h1 | ⟨e1,a1,_⟩
  ·rcases C.split h2 with h2 | ⟨e2,_⟩
   ·exact I.ok.inj y z c (C.sub y c h1) (C.sub z c h2)
   ·exact (dE (lt y h1) e2).elim
  ·rcases C.split h2 with h2 | ⟨e2,a2,_⟩
   ·exact (dE (lt z h2) e1).elim
   ·rw[a1] at a2
    simpa using a2
 has:=λy hy=>by
  have key:∀k,(k=Ds\/k=Ek)->(Wo scope cl s.heap.objs.size X.env).kindOf y=some k->∃c,(Ed (s.heap.objs.size+1) scope.names cl).lookup y=some c:=by
   intro k hk e
   obtain ⟨k0,e0,e1⟩:=Qs (names:=scope.names) (env:=X.env) (y:=y) (k:=k) e
   have m:=Gf e0
   by_cases hk0:k0=.cell
   ·exact ⟨_,C.cellAt (hk0▸m)⟩
   have hfree:k0=.free:=by
    rcases e1 with e1 | e1
    ·subst e1
     rcases hk with hk | hk
     ·exact absurd hk hk0
     ·exact hk
    ·exact e1.1
   obtain ⟨c,hc⟩:=Os.mp (C.has _ m hfree)
   exact ⟨c,C.find hc (hfree▸e0)⟩
  rcases hy with hy | hy
  ·exact key _ (.inl rfl) hy
  ·exact key _ (.inr rfl) hy
 cab:=λy c h e=>by
  have h:scope.names.lookup y=some .cell:=of_decide_eq_true h
  have:=(C.cellAt (n:=s.heap.objs.size+1) (Gf h)).symm.trans e
  show s.heap.objs.size<=c
  have:=Bz this
  omega
 hd:=I.ok.hd
 frames:=I.ok.frames
 stk:=.inl rfl
 exf:=λb hb=>by
  obtain ⟨o,e⟩:=ho b hb
  refine ⟨Ce (Aw e),λy c hc=>?_⟩
  rcases C.split hc with hc | ⟨hc,_⟩
  ·exact (hf b hb).2.2.2.2.1 y c (C.sub y c hc)
  ·exact λz=>dE (Aw e) (z.symm.trans hc)
 bs:=I.bs
 bsz:=Cf I.ok.bsz I.sz
 noex:=λb o e hb=>by
  rcases (hf b hb).2.2.2.1 with z | z
  ·exact I.ok.noex b o e z
  ·exact absurd (Bu (Aw (I.ok.bs b o e).1) z) (Gw _)
 exfs:=λb hb z=>by
  rcases Am.mp (I.stkSub b z) with e | e
  ·exact (hf b hb).2.1 e
  ·exact (hf b hb).2.2.1 e
 funs:=I.stack
 frf:=I.stkFree
 tab:=I.ok.tab.un I.base
def En(σ:L2.St)(js:List Nat):L2.St:=js.map λj=>(σ[j]?).join
theorem Pe{x:Str}{pre ys:List Str}{js:List Nat}{h1:Heap}{tk:Nat}{m1:Str->Option Value}(C:CompScope X scope cl x ys js)(I:Inv X pins σ H s)(hf:∀b∈fp,Lw X pins H b)(ho:∀b∈fp,∃o,s.heap.get? b=some o)(hns:h1.Ns s.heap.objs.size m1)(keep:∀b u,s.heap.get? b=some u->h1.get? b=some u)(new:∀z n,Ed (s.heap.objs.size+1) scope.names []=[(z,n)]->h1.IsCell n none):Inv (Ec X scope cl (pre++ys) fp s H) [] (pre.map (λ_=>none)++En σ js) H { s with heap:=h1,toks:=tk }:=by
 have cellK:∀y c,cl.lookup y=some c->∃v,s.heap.IsCell c v/\h1.IsCell c v:=λy c e=>by
  obtain ⟨v,o,q,d⟩:=I.cell y c (C.sub y c e)
  exact ⟨v,⟨o,q,d⟩,o,keep c o q,d⟩
 refine ⟨p8 C I hf ho,rfl,I.bare,Un.kept keep,⟨m1,hns,λi y v e1 e2 _=>?_⟩,λy c e=>?_,I.hok.fresh (Ah _),λy c e=>?_,λp hp=>?_,I.hok.kept keep,?_⟩
 ·have e2:(pre.map (λ_=>(none:Option V))++En σ js)[i]? = some (some v):=e2
  have e1:(pre++ys)[i]? = some y:=e1
  by_cases hi:i<pre.length
  ·rw[Ep (by rw[Ac]; exact hi),Bo] at e2
   cases q:pre[i]? with
   | none=>rw[q] at e2; cases e2
   | some z=>rw[q] at e2; cases e2
  ·rw[Dw (by rw[Ac]; omega),Ac] at e2
   rw[Dw (by omega)] at e1
   have e1':=e1
   have e2':=e2
   generalize i - pre.length=k at e1' e2'
   unfold En at e2'
   rw[Bo] at e2'
   cases ej:js[k]? with
   | none=>rw[ej] at e2'; simp at e2'
   | some j =>
    rw[ej] at e2'
    have e3:(σ[j]?).join=some v:=by simpa using e2'
    have e4:σ[j]? = some (some v):=by
     cases q:σ[j]? with
     | none=>rw[q] at e3; simp at e3
     | some z=>rw[q] at e3; simp at e3; rw[e3]
    obtain ⟨a1,a2,a3⟩:=C.at_ k y j e1' ej
    obtain ⟨m0,_,hl⟩:=I.loc
    have vis:Y7 X.env.scope y:=a3.elim (λa3=>.inr (.inl a3)) λa3=>.inr (.inr a3)
    obtain ⟨u,r,l⟩:=hl j y v a1 e4 vis
    refine ⟨u,r,?_⟩
    rcases l with ⟨k1,_⟩ | ⟨_,c,hc,hv⟩
    ·rcases a3 with a3 | a3 <;> rw[k1] at a3 <;> cases a3
    ·obtain ⟨c',hc'⟩:=Os.mp (C.has _ (Gf a2) rfl)
     have ec:c'=c:=by
      have:=C.sub y c' hc'
      rw[hc] at this
      exact (Bz this).symm
     subst ec
     obtain ⟨o,q,d⟩:=hv
     exact .inr ⟨Ub a2,c',C.find hc' a2,o,keep c' o q,d⟩
 ·rcases C.split e with e | ⟨e,_,e',_⟩
  ·obtain ⟨v,_,z⟩:=cellK y c e
   exact ⟨v,z⟩
  ·exact ⟨_,e▸new _ _ e'⟩
 ·rcases C.split e with e | ⟨e,_⟩
  ·exact I.freeC y c (C.sub y c e)
  ·exact I.hok.fresh (by omega)
 ·cases (show p∈([]:List (Addr×Obj)) from hp)
 ·show (pre.map (λ_=>(none:Option V))++En σ js).length=(pre++ys).length
  simp [En,C.len]
end
section
variable{X:Cx}
def vI(J:It)(js:List Nat)(tc:TT)(te:TE)(σ:L2.St)(H1:Hp)(Q:VK):Prop:=∀D,H1 D=none->∃W:Nat->Nat->Hp->Prop,(∃m,W 0 m (upd H1 D (.lst [])))/\∀i m H,W i m H ->
 (J.stop i H/\Q (.ref D) H)\/(J.go i H/\∀x H',J.yld i H x H'->∃(N1:Hp->Prop) (N2:VK),(∀H2,N1 H2->∃m',m'<m/\W (i+1) m' H2) /\
  (∀y H3,N2 y H3->∃acc,H3 D=some (.lst acc)/\acc.length<Bd/\∃m',m'<m/\W (i+1) m' (upd H3 D (.lst (acc++[y])))) /\
  tc (some x::En σ js) H' λc H2=>if c=true then te (some x::En σ js) H2 N2 else N1 H2)
def mG(wi:TI)(js:List Nat)(tc:TT)(te:TE):TE:=λσ H Q=>wi σ H λJ H1=>vI J js tc te σ H1 Q
def eO:TT:=λ_ H Q=>Q true H
def wN(X:Cx)(ifs:List Expr)(t:TT):Prop :=
 ∀(pins:List (Addr×Obj)) (s:Aj) (σ:L2.St) (H:Hp) (Q:Bool->Hp->Prop),Inv X pins σ H s->t σ H Q ->
  wpAny (model X.prog X.w) X.A (forIn ifs true λc r=>if r=true then (do
   let ok <- isTrue c X.env (eval c X.env)
   pure (Fd ok)) else pure (Fd r)) (TP X pins σ Q) X.xe s
theorem iE:wN X [] eO:=λpins s σ H Q I h=>wpAny_tests_nil ⟨H,I,h⟩
theorem zC{c:Expr}{t:TT}(h:PT X c t):wN X [c] t:=λpins s σ H Q I q=>wpAny_tests_one (h pins s σ H Q I q)
theorem lO{X X':Cx}{pins:List (Addr×Obj)}{σ σ':L2.St}{H3 H6:Hp}{s3 s7:Aj}{scope:Scope}{cl:List (Str×Addr)}{N:List Str}{fp:List Addr}(hX':Ec X scope cl N fp s3 H3=X')(I3:Inv X pins σ H3 s3)(f3:∀b∈fp,Lw X pins H3 b)(I7:Inv X' [] σ' H6 s7):∃m7,s7.heap.Ns s3.heap.objs.size m7/\∀h8,Iv s3.heap.objs.size s7.heap h8->Inv X pins σ H6 { s7 with heap:=h8 }:=by
 have eP:X'.prog=X.prog:=by rw[<- hX']; rfl
 have eW:X'.w=X.w:=by rw[<- hX']; rfl
 obtain ⟨m7,hn7,_⟩:=I7.loc
 have hn7':s7.heap.Ns s3.heap.objs.size m7:=by rw[<- hX'] at hn7; exact hn7
 refine ⟨m7,hn7',λh8 hs8=>?_⟩
 have I7f:H6 s3.heap.objs.size=none:=by have:=I7.free; rw[<- hX'] at this; exact this
 have b7:Un (pY X.stack) fp H3 H6 s3.heap s7.heap:=by have:=I7.base; rw[<- hX'] at this; exact this
 have ne8:∀b o,s3.heap.get? b=some o->b≠s3.heap.objs.size:=λb o q=>Ce (Aw q)
 have u8:Un (pY X.stack) fp H3 H6 s3.heap h8:=by
  refine ⟨λb o q n hb hx=>(hs8.2 b (ne8 b o q)).trans (b7.keep b o q n hb hx),λb o q n hb hx=>?_,b7.free,λb o q hx=>?_,b7.tups,b7.frzs,b7.tbls⟩
  ·obtain ⟨sl,z⟩:=b7.slot b o q n hb hx
   exact ⟨sl,(hs8.2 b (ne8 b o q)).trans z⟩
  ·obtain ⟨o',z⟩:=b7.there b o q hx
   exact ⟨o',(hs8.2 b (ne8 b o q)).trans z⟩
 have hok8:Xz X.prog X.w H6 h8:=λb ob e=>by
  have hk7:=I7.hok
  rw[eP,eW] at hk7
  refine (hk7 b ob e).stay (λc w' hcc q=>(hs8.2 c ?_).trans q) (λ_ q=>q) λ_ _ q=>q
  rintro rfl
  rcases hcc with rfl | hcc
  ·rw[I7f] at e; cases e
  ·rw[I7f] at hcc; cases hcc
 have os7:s7.os=s3.os:=by have:=I7.os; rw[<- hX'] at this; exact this
 exact I3.call' (s':={ s7 with heap:=h8 }) (ch:=fp) os7 u8 hok8 I7.bare (λb hb=>⟨(f3 b hb).2.2.2.1,(f3 b hb).2.1,(f3 b hb).2.2.2.2.1,(f3 b hb).2.2.2.2.2⟩)
theorem Ri{X X':Cx}{σ':L2.St}{H3 H6:Hp}{s3 s7:Aj}{scope:Scope}{cl:List (Str×Addr)}{N:List Str}{fp:List Addr}(hX':Ec X scope cl N fp s3 H3=X')(I4:Inv X' [] σ' H6 s7){H':Hp}(hn:∀b∈fp,H' b=none):∀b∈fp,Lw X' [] H' b:=λb hb=>by
 have ok:=I4.ok
 have hex:b∈X'.ex:=by rw[<- hX']; exact hb
 exact ⟨hn b hb,(ok.exf b hex).1,ok.exfs b hex,.inl hex,(ok.exf b hex).2,λp hp=>by rw[<- hX'] at hp; cases (show p∈([]:List (Addr×Obj)) from hp)⟩
theorem Tz{X X':Cx}{H3:Hp}{s3:Aj}{scope:Scope}{cl:List (Str×Addr)}{N:List Str}{fp:List Addr}(hc:X.calm=true)(hX':Ec X scope cl N fp s3 H3=X'):X'.prog=X.prog/\X'.w=X.w/\X'.K=X.K/\X'.A=X.A/\X'.calm=true:=by
 subst hX'
 exact ⟨rfl,rfl,rfl,rfl,hc⟩
theorem Vw{X X':Cx}{pins:List (Addr×Obj)}{σ σ':L2.St}{H3 H6:Hp}{s3 s7:Aj}{scope:Scope}{cl:List (Str×Addr)}{N:List Str}{fp:List Addr}(hX':Ec X scope cl N fp s3 H3=X')(I3:Inv X pins σ H3 s3)(f3:∀b∈fp,Lw X pins H3 b)(I7:Inv X' [] σ' H6 s7):(∃m7,s7.heap.Ns s3.heap.objs.size m7)/\H6 s3.heap.objs.size=none/\Inv X pins σ H6 s7:=by
 subst hX'
 obtain ⟨m7,hn7,_⟩:=I7.loc
 exact ⟨⟨m7,hn7⟩,I7.free,I3.call' (s':=s7) (ch:=fp) I7.os I7.base I7.hok I7.bare (λb hb=>⟨(f3 b hb).2.2.2.1,(f3 b hb).2.1,(f3 b hb).2.2.2.2.1,(f3 b hb).2.2.2.2.2⟩)⟩
theorem Uo{X:Cx}{pins:List (Addr×Obj)}{σ:L2.St}{H2:Hp}{s2:Aj}{tg:Expr}{J:It}{fp:List Addr}{it:Addr}{tn:Nat->Heap->Prop}(I2:Inv X pins σ H2 s2)(T:Turn X.prog X.w X.K tg J fp it tn)(st2:tn 0 s2.heap)(f2:∀b∈fp,Lw X pins H2 b){ob:Obj}{ho:HO}(I3:Inv X pins σ (upd H2 s2.heap.objs.size ho) { s2 with heap:=s2.heap.push ob }):(∀b∈fp,Lw X pins (upd H2 s2.heap.objs.size ho) b)/\tn 0 (s2.heap.push ob)/\∀b∈fp,∃o,(s2.heap.push ob).get? b=some o:=by
 have Pq:tn 0 (s2.heap.push ob):=T.keep 0 _ _ st2 λb hb o q=>Ak _ q
 refine ⟨λb hb=>⟨?_,(f2 b hb).2⟩,Pq,λb hb=>?_⟩
 ·rw[Ej ?_]
  ·exact (f2 b hb).1
  ·intro z
   obtain ⟨o,q,_⟩:=T.obj _ _ st2 b hb
   have:=Aw q
   rw[z] at this
   exact absurd this (Gw _)
 ·obtain ⟨o,q,_⟩:=T.obj _ _ Pq b hb
  exact ⟨o,q⟩
theorem mS{elt iter:Expr}{x:Str}{px pos:Pos}{ifs:List Expr}{scope:Scope}{cl:List (Str×Addr)}{ys:List Str}{js:List Nat}{wi:TI}{tc:TT}{te:TE}(C:CompScope X scope cl x ys js)(hc:X.calm=true)(hi:PI X (.Name x px) iter wi)(ht:∀fp s H,wN (Ec X scope cl (x::ys) fp s H) ifs tc)(he:∀fp s H,PE (Ec X scope cl (x::ys) fp s H) elt te)(hs:∀x,Dm iter X.env x=pure x:=by intro _; rfl):PE X (.ListComp elt [⟨.Name x px,iter,ifs,0⟩] scope pos) (mG wi js tc te):=by
 intro pins s σ H Q I h
 rw[eval_ListComp]
 refine Kz (use:=none) rfl hs C.clos C.kind C.locs (Fv (hi pins s σ H _ I h) λv s1 h1=>Fv h1 λitv s2 h2=>?_)
 obtain ⟨it,fp,tn,J,H2,e,I2,T,st2,f2,q2⟩:=h2
 subst e
 have fD:H2 s2.heap.objs.size=none:=I2.hok.fresh (Ah _)
 obtain ⟨W,⟨m0,w0⟩,turn⟩:=q2 s2.heap.objs.size fD
 refine Dk ?_
 have I3:Inv X pins σ (upd H2 s2.heap.objs.size (.lst [])) { s2 with heap:=s2.heap.push { cls:=.type "list",dict:=none,data:=.seq ([]:List Value).toArray } } :=
  I2.laid (t':=s2.toks) (λb u q=>Ak _ q) (Ah _) ⟨Cy _,[],0,.nil,Be _ rfl⟩
 obtain ⟨f3,st3',o3'⟩:=Uo I2 T st2 f2 I3
 generalize hS3:({ s2 with heap:=s2.heap.push { cls:=.type "list",dict:=none,data:=.seq ([]:List Value).toArray } }:Aj)=s3 at I3
 have Pq:tn 0 s3.heap:=by rw[<- hS3]; exact st3'
 have o3:∀b∈fp,∃o,s3.heap.get? b=some o:=by rw[<- hS3]; exact o3'
 show wpAny _ _ (Mh scope X.env.globals cl [] X.env.qual none .none (some X.env)) _ _ _
 refine Rk C λh4 hns4 keep4 new4=>?_
 have I4:∀tk,Inv (Ec X scope cl (x::ys) fp s3 (upd H2 s2.heap.objs.size (.lst []))) [] (none::En σ js) (upd H2 s2.heap.objs.size (.lst [])) { s3 with heap:=h4,toks:=tk }:=λtk=>Pe (pre:=[x]) C I3 f3 o3 hns4 keep4 new4
 have st4:tn 0 h4:=T.keep 0 _ _ Pq λb hb o q=>keep4 b o q
 generalize hX':Ec X scope cl (x::ys) fp s3 (upd H2 s2.heap.objs.size (.lst []))=X' at I4
 obtain ⟨eP,eW,eK,eA,eC⟩:=Tz hc hX'
 have stat:∀{H':Hp},(∀b∈fp,H' b=none)->∀b∈fp,Lw X' [] H' b:=λ{H'} hn=>Ri hX' (I4 0) hn
 have loop:∀s5:Aj,s5={ s3 with heap:=h4,toks:=s3.toks+([]:List (Str×Value)).length } ->
   Hm (model X.prog X.w) X.A (.compLoop (.ListComp elt [⟨.Name x px,iter,ifs,0⟩] scope pos) 0 (.ref it) (.ref s2.heap.objs.size) (Wo scope (Ed (s3.heap.objs.size+1) scope.names cl) s3.heap.objs.size X.env))
    (compPost (model X.prog X.w) X.A X.xe none (EP X pins σ Q) (.ref s2.heap.objs.size) s3.heap.objs.size) s5:=by
  rintro s5 rfl
  refine Sy (λn s'=>∃i o H',Inv X' [] (o::En σ js) H' s'/\tn i s'.heap/\(∀b∈fp,H' b=none)/\W i n H') ?_ m0
   ⟨0,none,_,I4 _,st4,λb hb=>(f3 b hb).1,w0⟩
  (intro n s6 q_; obtain ⟨i,o,H6,I6,st6,fr6,w6⟩ := q_)
  rcases turn i n H6 w6 with ⟨stop,qn⟩ | ⟨go,step⟩
  ·have hd:=T.done X' eP eW eK eC i [] s6 _ H6 (λ_ _=>False) I6 (stat fr6) st6 stop
   rw[eA] at hd
   refine Fv hd λr s7 q0_ => ?_
   obtain ⟨hr,I7⟩ := q0_
   subst hr
   obtain ⟨m7,hn7,fin7⟩:=lO hX' I3 f3 I7
   exact ⟨m7,hn7,λh8 hs8=>⟨.ref s2.heap.objs.size,H6,fin7 h8 hs8,rfl,qn⟩⟩
  ·have hit:=T.item X' eP eW eK eC i [] s6 _ H6 (λ_ _=>False) I6 (stat fr6) st6 go
   rw[eA] at hit
   refine Fv hit λr s7 q0_ => ?_
   obtain ⟨u,hr,h7⟩ := q0_
   subst hr
   refine Fv h7 λ_ s8 q0_ => ?_
   obtain ⟨y,H8,I8,r8,y8,st8,fr8⟩ := q0_
   have I8':=I8.pinned (stat fr8) (T.obj _ _ st8)
   obtain ⟨N1,N2,hN1,hN2,hst⟩:=step y H8 y8
   have again:∀{H9:Hp} {s9:Aj} {m':Nat},Inv X' ([]++Oe fp s8.heap) (some y::En σ js) H9 s9->m'<n->W (i+1) m' H9->∃m,m<n/\∃i o H',Inv X' [] (o::En σ js) H' s9/\tn i s9.heap/\(∀b∈fp,H' b=none)/\W i m H':=λ{H9 s9 m'} I9 hm w9=>by
    refine ⟨m',hm,i+1,some y,H9,I9.unpinned,T.keep _ _ _ st8 λb hb o e=>(I9.pin (b,o) (Ag _ (Ag _ (Gg hb e)))).1,λb hb=>?_,w9⟩
    obtain ⟨o,e,_⟩:=T.obj _ _ st8 b hb
    exact (I9.pin (b,o) (Ag _ (Ag _ (Gg hb e)))).2.1
   subst hX'
   refine Fv (Kh (i:=0) (x:=x) (pos:=px) C.nd rfl (Rp C.own) (Vf C.own) _ s8 _ H8 y u (λσ' H'=>σ'=some y::En σ js/\H'=H8) I8' r8 ⟨rfl,rfl⟩) λ_ s9 q0_ => ?_
   obtain ⟨σ9,H9,I9,e9,e9'⟩ := q0_
   subst e9 e9'
   refine Fv (ht fp s3 _ _ s9 _ _ _ I9 hst) λok s10 q0_ => ?_
   obtain ⟨H10,I10,q10⟩ := q0_
   cases ok with
   | false =>
    rw[if_neg Bx] at q10 ⊢
    obtain ⟨m',hm,w10⟩:=hN1 _ q10
    exact again I10 hm w10
   | true =>
    rw[if_pos rfl] at q10 ⊢
    refine Fv (he fp s3 _ _ s10 _ _ _ I10 q10) λz s11 q0_ => ?_
    obtain ⟨vz,H11,I11,r11,q11⟩ := q0_
    obtain ⟨acc,ha,hz,m',hm,w11⟩:=hN2 _ _ q11
    refine Fv (Lc _ s11 _ H11 (.ref s2.heap.objs.size) [vz] (.ref s2.heap.objs.size) [z] (λ_ H'=>H'=upd H11 s2.heap.objs.size (.lst (acc++[vz]))) I11 rfl (.cons r11 .nil) ⟨_,acc,vz,rfl,rfl,ha,hz,rfl⟩) λ_ s12 q0_ => ?_
    obtain ⟨_,H12,I12,_,e12⟩ := q0_
    subst e12
    exact again I12 hm w11
 exact Mj (loop _ rfl) (T.self X.A 0 _ _ _ st4 (loop _ rfl))
end
structure Walked(J:It)(G:Hp->Prop)(xs:List V):Prop where
 go:∀i H,i<xs.length->G H->J.go i H
 yld:∀i H x H',i<xs.length->G H->J.yld i H x H'->H'=H/\xs[i]? = some x
 stop:∀H,G H->J.stop xs.length H
theorem Wf{K:PySem.W.Frag}{a:Addr}{xs:List V}:Walked (BB K a) (λH=>Ov K H a xs) xs where
 go:=λi H h q=>⟨xs,xs[i],q,by simp [h]⟩
 yld:=λi H x H' _ q y=>⟨y.1,y.2 xs q⟩
 stop:=λH q=>⟨xs,q,Ah _⟩
theorem dW{lo:Int}{n:Nat}:Walked (xU lo n) (λ_=>True) ((Bc n).map λi:Nat=>V.int (lo+i)) where
 go:=λi H h _=>by
  rw[Ac,Cb] at h
  exact h
 yld:=λi H x H' h _ y=>by
  obtain ⟨e,y⟩:=y
  rw[Ac,Cb] at h
  refine ⟨e,?_⟩
  rw[Bo,Ni h,y]
  rfl
 stop:=λH _=>by
  rw[Ac,Cb]
  exact Ah n
theorem yX{J:It}{G:Hp->Prop}{xs:List V}{js:List Nat}{tc:TT}{te:TE}{σ:L2.St}{H1:Hp}{Q:VK}(wk:Walked J G xs)(hz:xs.length<=Bd)(Pv:Addr->Nat->List V->Hp->Prop)
  (h0:∀D,H1 D=none->Pv D 0 [] (upd H1 D (.lst []))) (hg:∀D i acc H,Pv D i acc H->G H)
  (hs:∀D i x acc H,H1 D=none->xs[i]? = some x->H D=some (.lst acc)->Pv D i acc H->tc (some x::En σ js) H λc H2=>if c=true then te (some x::En σ js) H2 λy H3=>H3 D=some (.lst acc)/\Pv D (i+1) (acc++[y]) (upd H3 D (.lst (acc++[y])))
   else H2 D=some (.lst acc)/\Pv D (i+1) acc H2)
  (hd:∀D acc H,H1 D=none->H D=some (.lst acc)->Pv D xs.length acc H->Q (.ref D) H):vI J js tc te σ H1 Q:=by
 intro D nD
 refine ⟨λi m H=>m=xs.length - i/\i<=xs.length/\∃acc,H D=some (.lst acc)/\acc.length<=i/\Pv D i acc H,⟨xs.length,by simp,Cy _,[],Ct,Ah _,h0 D nD⟩,?_⟩
 (intro i m H q_; obtain ⟨rfl,hi,acc,ha,hl,p⟩ := q_)
 have g:=hg D i acc H p
 by_cases hlt:i<xs.length
 ·refine .inr ⟨wk.go i H hlt g,λx H' y=>?_⟩
  obtain ⟨e,hx⟩:=wk.yld i H x H' hlt g y
  subst e
  refine ⟨λH2=>H2 D=some (.lst acc)/\Pv D (i+1) acc H2,λy H3=>H3 D=some (.lst acc)/\Pv D (i+1) (acc++[y]) (upd H3 D (.lst (acc++[y]))),λH2 q=>?_,λz H3 q=>?_,hs D i x acc _ nD hx ha p⟩
  ·exact ⟨xs.length - (i+1),by omega,rfl,hlt,acc,q.1,by omega,q.2⟩
  ·exact ⟨acc,q.1,by omega,xs.length - (i+1),by omega,rfl,hlt,acc++[z],Ct,by rw[Ax,Eu]; omega,q.2⟩
 ·have e:i=xs.length:=by omega
  subst e
  exact .inl ⟨wk.stop H g,hd D acc H nD ha p⟩
theorem Eo{H:Hp}{p:Addr}(h:H p=none)(o:HO):Lg H (upd H p o):=λb u q=>by rw[Ej (Ge q h)]; exact q
theorem Rf{α:Type}{xs:List α}{i:Nat}{x:α}(h:xs[i]? = some x):xs.take (i+1)=xs.take i++[x]:=by
 rw[List.take_succ,h]; rfl
theorem rD{J:It}{G:Hp->Prop}{xs:List V}{js:List Nat}{tc:TT}{te:TE}{σ:L2.St}{H1:Hp}{Q:VK}(wk:Walked J G xs)(hz:xs.length<=Bd)(p:V->Bool)(f:V->V)(hg:∀H,Lg H1 H->G H)(htc:∀x∈xs,∀H,Lg H1 H->∀Q':Bool->Hp->Prop,(∀H2,Lg H H2->Q' (p x) H2)->tc (some x::En σ js) H Q')(hte:∀x∈xs,p x=true->∀H,Lg H1 H->∀Q':VK,(∀H2,Lg H H2->Q' (f x) H2)->te (some x::En σ js) H Q')(hd:∀D H,H1 D=none->H D=some (.lst ((xs.filter p).map f))->Lg H1 H->Q (.ref D) H):vI J js tc te σ H1 Q:=by
 refine yX wk hz (λ_ i acc H=>acc=((xs.take i).filter p).map f/\Lg H1 H) (λD nD=>⟨by simp,Eo nD _⟩) (λD i acc H h=>hg H h.2) (λD i x acc H nD hx ha ⟨e,sm⟩=>?_) (λD acc H nD ha ⟨e,sm⟩=>?_)
 ·have mx:x∈xs:=Ba hx
  refine htc x mx H sm _ λH2 s2=>?_
  cases hp:p x with
  | false =>
   rw[if_neg Bx]
   refine ⟨s2 _ _ ha,?_,sm.trans s2⟩
   rw[Rf hx,Ku,e]
   simp [hp]
  | true =>
   rw[if_pos rfl]
   refine hte x mx hp H2 (sm.trans s2) _ λH3 s3=>?_
   refine ⟨s3 _ _ (s2 _ _ ha),?_,?_⟩
   ·rw[Rf hx,Ku,e]
    simp [hp]
   ·intro b o q
    have nb:b≠D:=Ge q nD
    rw[Ej nb]
    exact s3 _ _ (s2 _ _ (sm _ _ q))
 ·rw[Kf] at e
  subst e
  exact hd D H nD ha sm
mutual
inductive RdV (K:PySem.W.Frag) (H:Hp):V->Af->Prop
 | non:RdV K H .non .none
 | bl (b:Bool):RdV K H (.bl b) (.bool b)
 | int (i:Int):RdV K H (.int i) (.int i)
 | str (x:Str):RdV K H (.str x) (.str x)
 | lst {a:Addr} {xs:List V} {ds:List Af}:Ov K H a xs->RdVs K H xs ds->RdV K H (.ref a) (.list ds)
 | tup {a:Addr} {xs:List V} {ds:List Af}:Tg K H a xs->RdVs K H xs ds->RdV K H (.ref a) (.tuple ds)
inductive RdVs (K:PySem.W.Frag) (H:Hp):List V->List Af->Prop
 | nil:RdVs K H [] []
 | cons {x:V} {d:Af} {xs:List V} {ds:List Af}:RdV K H x d->RdVs K H xs ds->RdVs K H (x::xs) (d::ds)
end
mutual
def AC(b:Nat):Af->Prop
 | .none=>True
 | .bool _=>True
 | .int i=>i.natAbs<10 ^ b
 | .str x=>(reprText x).length<=b
 | .list xs=>cI b xs
 | .tuple xs=>cI b xs
 | .dict _=>False
def cI(b:Nat):List Af->Prop
 | []=>True
 | x::xs=>AC b x/\cI b xs
end
mutual
def t9:Af->Nat
 | .list xs=>Zc xs+1
 | .tuple xs=>Zc xs+1
 | _=>1
def Zc:List Af->Nat
 | []=>0
 | x::xs=>t9 x+Zc xs
end
theorem jC(ns:List Int):Bl (ns.map Br)=0:=by
 induction ns with
 | nil=>rfl
 | cons n ns ih=>simp only[Bh,Bl,Cv,ih,Nat.max_self]
theorem Wg{m:Nat}:∀{xs:List Af},(∀x∈xs,x.depth<=m)->Bl xs<=m
 | [],_=>by simp [Bl]
 | x::xs,h=>by
  have h1:=h x (Aa ..)
  have h2:=Wg (xs:=xs) λy hy=>h y (Ad _ hy)
  simp only[Bl]
  omega
theorem Fk.at'{xs:List V}{us:List Value}(r:Fk xs us){j:Nat}(h:j<us.length):∃x,xs[j]? = some x/\RelV x us[j]:=by
 have hl:=r.length
 have hj:j<xs.length:=by omega
 obtain ⟨u,hu,ru⟩:=r.get (i:=j) (x:=xs[j]) (by simp [hj])
 rw[Bw h] at hu
 cases hu
 exact ⟨xs[j],by simp [hj],ru⟩
section
variable{X:Cx}{pins:List (Addr×Obj)}{σ:L2.St}{H:Hp}{s:Aj}{A:Cp}
theorem Vk(A:Cp):A.in1.units<=A.units+1:=by
 first | exact Ah _ | (simp [Around.in1]; done) | (unfold Around.in1; simp)
theorem fM:Kx X (.builtin "isinstance") (λxs H Q=>∃x n t b,xs=[x,.ty n]/\TyOf X.K H x t/\PySem.W.kitOne X.K t (.type n)=some b/\Q (.bl b) H):=by
 intro pins s σ H xs us Q I r h
 obtain ⟨x,n,t,b,rfl,ty,e,q⟩:=h
 obtain ⟨u,v,rfl,ru,rv⟩:=vals2 r
 cases rv
 exact qB I ru ty e λtk=>⟨.bl b,H,I.tok _,rfl,q⟩
theorem vZ(hc:X.calm=true):Kx X (.builtin "all") (λxs H Q=>∃(p:Addr) (bs:List Bool),xs=[.ref p]/\Ov X.K H p (bs.map V.bl)/\Q (.bl (bs.all id)) H):=by
 intro pins s σ H xs us Q I r h
 obtain ⟨p,bs,rfl,hp,q⟩:=h
 obtain ⟨u,rfl,ru⟩:=vals1 r
 cases ru
 obtain ⟨its,rv,pl,_⟩:=I.list hp
 have hlen:its.toArray.size=bs.length:=by
  have:=rv.length
  rw[Ac] at this
  rw[Aq]; omega
 refine call_all_walk (cD pl.isList ?_)
 have hd:X.A.in1.handled=none:=I.ok.hd hc
 have ne:p≠s.heap.objs.size:=Ce (let ⟨o,q,_⟩:=pl.isList; Aw q)
 refine ⟨s.heap.objs.size,_,_,_,_,_,λi=>bs.getD i false,rfl,Walks.list hd s.heap.objs.size p ne its.toArray,⟨⟨_,Be _ rfl,rfl,rfl⟩,pl.isList.push _⟩,?_,?_⟩
 ·intro i v s' Q' E' hv hq
  have hv':its[i]? = some v:=by simpa using hv
  have hi:i<its.length:=(Ap.mp hv').1
  obtain ⟨x,e1,q1⟩:=Fk.at' rv hi
  rw[Bw hi] at hv'
  have hv'':its[i]=v:=Bz hv'
  rw[hv''] at q1
  rw[Bo] at e1
  cases eb:bs[i]? with
  | none=>rw[eb] at e1; cases e1
  | some b =>
   rw[eb] at e1
   cases e1
   cases q1
   have : bs.getD i false=b:=by simp [Oh,eb]
   have hq':Q' (bs.getD i false) s':=hq
   rw[this] at hq'
   exact Gs hq'
 ·intro h' tk hk
  have e:((Bc its.toArray.size).all λi=>bs.getD i false)=bs.all id:=by
   rw[hlen]
   have : bs=(Bc bs.length).map (λj=>bs.getD j false):=(range_getD bs false).symm
   conv=>rhs; rw[this]
   rw[Xd]
   rfl
  rw[e]
  refine ⟨.bl _,H,I.kept (h':=h') (t':=tk) (λb o qq=>hk b o ?_ (Ak _ qq)),rfl,q⟩
  intro z
  have e2:b=s.heap.objs.size:=by simpa using z
  have e3:=Aw qq
  rw[e2] at e3
  exact absurd e3 (Gw _)
end
section
variable{prog:Bj}{w:World}{A:Cp}{E:Value->Aj->Prop}{s:Aj}
theorem Sb{t sl:Addr}{items:Array Value}{vl vu:Value}{lo hi:Option Int}{Q:Value->Aj->Prop}(ht:IsTup s.heap t items)(hs:s.heap.IsSliceOf sl vl vu .none)(pl:Wr vl lo)(pu:Wr vu hi)(hw:HT.sIx items.size 0 lo=0/\HT.sIx items.size items.size hi=items.size)(h:Q (.ref t) s):wpAny (model prog w) A (getItem (.ref t) (.ref sl)) Q E s:=by
 obtain ⟨os,hos,hcs,hds⟩:=id hs
 have hTs:s.TypeIs (.ref sl) "slice" := ⟨os,hos,hcs⟩
 unfold getItem
 try with_reducible refine Ey ?_
 first | refine Ab (Al ?_) | skip
 refine Ab (wpAny_sequenceKey ht.typeIs (by decide) ?_)
 refine Ab (Ls (name:=Xs "__getitem__") ht.typeIs Ei
  (Hh Ei ht.typeIs entry_tuple_getitem ?_ (args_tuple_getitem _ _)))
 show wpAny _ _ (Ux (.ref t) >>= _) _ _ s
 refine Ab (tupleItemsOf_ ht ?_)
 refine Ab (Kq hTs ?_)
 rw[if_pos (by decide)]
 refine Ab (HT.sliceApplied_gen hs pl pu ?_)
 rw[hw.1,hw.2]
 have hyes:(((0:Nat):Int) == 0 && (1:Int) == 1 && (items.size - 0) == items.size)=true:=by simp
 show wpAny _ _ (if (((0:Nat):Int) == 0 && (1:Int) == 1 && (items.size - 0) == items.size)=true then _ else _) _ _ s
 rw[if_pos hyes]
 have hex:∀{R:Bool->Aj->Prop},R true s->wpAny (model prog w) A.in1 (Uy (.ref t)) R E s:=λ{R} hR=>by
  unfold Uy
  refine Ab (Kq ht.typeIs (Al ?_))
  rw[beq_self_eq_true]
  exact hR
 refine Ab (hex ?_)
 rw[if_pos rfl]
 exact Ab (wpAny_rule (Al ⟨_,rfl,Al h⟩))
end
mutual
def Dx:Af->Af->Bool
 | .none,.none=>true
 | .bool a,.bool b=>a == b
 | .bool a,.int b=>(if a then 1 else 0) == b
 | .int a,.bool b=>a == (if b then 1 else 0)
 | .int a,.int b=>a == b
 | .str a,.str b=>a == b
 | .list xs,.list ys=>Kw xs ys
 | .tuple xs,.tuple ys=>Kw xs ys
 | _,_=>false
def Kw:List Af->List Af->Bool
 | [],[]=>true
 | x::xs,y::ys=>Dx x y && Kw xs ys
 | _,_=>false
end
theorem Mw:∀ds es:List Af,(((Bc (min ds.length es.length)).all λj=>Dx (ds.getD j .none) (es.getD j .none)) && ds.length == es.length)=Kw ds es
 | [],[]=>by simp [Kw]
 | [],_::_=>by simp [Kw]
 | _::_,[]=>by simp [Kw]
 | d::ds,e::es=>by
  have ih:=Mw ds es
  rw[Kw,<- ih]
  have h1:min (d::ds).length (e::es).length=min ds.length es.length+1:=by simp only[Bf]; omega
  rw[h1,lP,List.all_cons,Xd]
  have h2:((d::ds).length == (e::es).length)=(ds.length == es.length):=by
   rw[Bool.eq_iff_iff]; simp
  rw[h2,Bool.and_assoc]
  rfl
section
variable{X:Cx}{pins:List (Addr×Obj)}{σ:L2.St}{H:Hp}{s:Aj}{K:PySem.W.Frag}
mutual
theorem RdV.eqD_self:∀{v:V} {d:Af},RdV K H v d->Dx d d=true
 | _,_,.non=>by simp [Dx]
 | _,_,.bl b=>by simp [Dx]
 | _,_,.int i=>by simp [Dx]
 | _,_,.str x=>by simp [Dx]
 | _,_,.lst _ h=>by rw[Dx]; exact RdVs.eqDs_self h
 | _,_,.tup _ h=>by rw[Dx]; exact RdVs.eqDs_self h
theorem RdVs.eqDs_self:∀{vs:List V} {ds:List Af},RdVs K H vs ds->Kw ds ds=true
 | _,_,.nil=>by simp [Kw]
 | _,_,.cons h t=>by rw[Kw,RdV.eqD_self h,RdVs.eqDs_self t]; rfl
end
theorem gT(I:Inv X pins σ H s){a:Addr}{xs ys:List V}(h1:Ov X.K H a xs)(h2:Tg X.K H a ys):False:=by
 obtain ⟨us,_,p1,_⟩:=I.list h1
 obtain ⟨vs,_,p2,_⟩:=I.tuple h2
 exact SeqAt.ne_of_list_tuple p1.isList p2 rfl
mutual
theorem RdV.det(I:Inv X pins σ H s):∀{v:V} {d e:Af},RdV X.K H v d->RdV X.K H v e->d=e
 | _,_,_,.non,h=>by cases h; rfl
 | _,_,_,.bl b,h=>by cases h; rfl
 | _,_,_,.int i,h=>by cases h; rfl
 | _,_,_,.str x,h=>by cases h; rfl
 | _,_,_,.lst q r,h=>by
  cases h with
  | lst q' r' =>
   have e:=I.list_inj q q'
   subst e
   rw[RdVs.det I r r']
  | tup q' r'=>exact (gT I q q').elim
 | _,_,_,.tup q r,h=>by
  cases h with
  | lst q' r'=>exact (gT I q' q).elim
  | tup q' r' =>
   have e:=I.tuple_inj q q'
   subst e
   rw[RdVs.det I r r']
theorem RdVs.det(I:Inv X pins σ H s):∀{vs:List V} {ds es:List Af},RdVs X.K H vs ds->RdVs X.K H vs es->ds=es
 | _,_,_,.nil,h=>by cases h; rfl
 | _,_,_,.cons r t,h=>by
  cases h with
  | cons r' t'=>rw[RdV.det I r r',RdVs.det I t t']
end
theorem RdVs.length:∀{vs:List V} {ds:List Af},RdVs K H vs ds->vs.length=ds.length
 | _,_,.nil=>rfl
 | _,_,.cons _ t=>by rw[Bf,Bf,RdVs.length t]
theorem Vl{A:Cp}{n:Nat}(h:A.units+(n+1)<cLine):A.in1.units+n<cLine:=by
 have:=Vk A
 omega
theorem iO{A:Cp}{a b:Addr}{us vs:List Value}{ds es:List Af}(p1:PlainL s.heap a us.toArray)(p2:PlainL s.heap b vs.toArray)(l1:us.length=ds.length)(l2:vs.length=es.length)(hu:A.units<cLine)(he:∀j (h1:j<us.length) (h2:j<vs.length),Lu A.in1 s us[j] vs[j] (Dx (ds.getD j .none) (es.getD j .none))):SeqAt.RcAt A s (.ref a) (.ref b) (Kw ds es):=by
 rw[<- Mw]
 by_cases hl:ds.length=es.length
 ·have hs:us.toArray.size=vs.toArray.size:=by rw[Aq,Aq,l1,l2,hl]
  have h:=SeqAt.RcAt.lists (A:=A) (e:=λj=>Dx (ds.getD j .none) (es.getD j .none)) p1.isList p2.isList hs hu (λj h1 h2=>by simpa using he j (by simpa using h1) (by simpa using h2))
  rw[Aq,l1] at h
  rw[hl,Nat.min_self,beq_self_eq_true,Bool.and_true,<- hl]
  exact h
 ·have hs:(us.toArray.size != vs.toArray.size)=true:=by rw[Aq,Aq,l1,l2]; simpa using hl
  have h:=SeqAt.RcAt.lists_lengths (A:=A) p1.isList p2.isList hs hu
  have e0:(ds.length == es.length)=false:=by simpa using hl
  rw[e0,Tf]
  exact h
theorem cB{A:Cp}{a b:Addr}{us vs:List Value}{ds es:List Af}(p1:IsTup s.heap a us.toArray)(p2:IsTup s.heap b vs.toArray)(l1:us.length=ds.length)(l2:vs.length=es.length)(hu:A.units<cLine)(he:∀j (h1:j<us.length) (h2:j<vs.length),Lu A.in1 s us[j] vs[j] (Dx (ds.getD j .none) (es.getD j .none))):SeqAt.RcAt A s (.ref a) (.ref b) (Kw ds es):=by
 rw[<- Mw]
 have h:=SeqAt.RcAt.tuples (A:=A) (e:=λj=>Dx (ds.getD j .none) (es.getD j .none)) (show s.heap.IsTuple a us.toArray from p1) (show s.heap.IsTuple b vs.toArray from p2) hu (λj h1 h2=>by simpa using he j (by simpa using h1) (by simpa using h2))
 rw[Aq,Aq,l1,l2] at h
 exact h
mutual
theorem sL(I:Inv X pins σ H s):∀{A:Cp} {x y:V} {d e:Af} {u v:Value},RdV X.K H x d->RdV X.K H y e->RelV x u->RelV y v->A.units+d.depth<cLine->Lu A s u v (Dx d e)
 | A,_,_,_,_,_,_,.non,h,ru,rv,hu=>by
  cases ru
  have hu':A.units<cLine:=by omega
  cases h with
  | non=>cases rv; rw[Dx]; exact SeqAt.EqAt.same _
  | bl b=>cases rv; rw[Dx]; exact SeqAt.EqAt.none_bool b; all_goals simp
  | int b=>obtain ⟨t,rfl⟩:=rv; rw[Dx]; exact SeqAt.EqAt.none_int b t; all_goals simp
  | str b=>obtain ⟨t,rfl⟩:=rv; rw[Dx]; exact SeqAt.EqAt.none_str b t; all_goals simp
  | lst q r=>cases rv; obtain ⟨us,_,p,_⟩:=I.list q; rw[Dx]; exact SeqAt.EqAt.none_list p.isList hu'; all_goals simp
  | tup q r=>cases rv; obtain ⟨us,_,p,_⟩:=I.tuple q; rw[Dx]; exact SeqAt.EqAt.none_tuple p hu'; all_goals simp
 | A,_,_,_,_,_,_,.bl a,h,ru,rv,hu=>by
  cases ru
  have hu':A.units<cLine:=by omega
  cases h with
  | non=>cases rv; rw[Dx]; exact SeqAt.EqAt.bool_none a; all_goals simp
  | bl b=>cases rv; rw[Dx]; exact SeqAt.EqAt.bool_bool a b
  | int b=>obtain ⟨t,rfl⟩:=rv; rw[Dx]; exact SeqAt.EqAt.bool_int a b t
  | str b=>obtain ⟨t,rfl⟩:=rv; rw[Dx]; exact SeqAt.EqAt.bool_str a b t; all_goals simp
  | lst q r=>cases rv; obtain ⟨us,_,p,_⟩:=I.list q; rw[Dx]; exact SeqAt.EqAt.bool_list a p.isList hu'; all_goals simp
  | tup q r=>cases rv; obtain ⟨us,_,p,_⟩:=I.tuple q; rw[Dx]; exact SeqAt.EqAt.bool_tuple a p hu'; all_goals simp
 | A,_,_,_,_,_,_,.int a,h,ru,rv,hu=>by
  obtain ⟨t',rfl⟩:=ru
  have hu':A.units<cLine:=by omega
  cases h with
  | non=>cases rv; rw[Dx]; exact SeqAt.EqAt.int_none a t'; all_goals simp
  | bl b=>cases rv; rw[Dx]; exact SeqAt.EqAt.int_bool a t' b
  | int b=>obtain ⟨t,rfl⟩:=rv; rw[Dx]; exact SeqAt.EqAt.int_int a t' b t
  | str b=>obtain ⟨t,rfl⟩:=rv; rw[Dx]; exact SeqAt.EqAt.int_str a t' b t; all_goals simp
  | lst q r=>cases rv; obtain ⟨us,_,p,_⟩:=I.list q; rw[Dx]; exact SeqAt.EqAt.int_list a t' p.isList hu'; all_goals simp
  | tup q r=>cases rv; obtain ⟨us,_,p,_⟩:=I.tuple q; rw[Dx]; exact SeqAt.EqAt.int_tuple a t' p hu'; all_goals simp
 | A,_,_,_,_,_,_,.str a,h,ru,rv,hu=>by
  obtain ⟨t',rfl⟩:=ru
  have hu':A.units<cLine:=by omega
  cases h with
  | non=>cases rv; rw[Dx]; exact SeqAt.EqAt.str_none a t'; all_goals simp
  | bl b=>cases rv; rw[Dx]; exact SeqAt.EqAt.str_bool a t' b; all_goals simp
  | int b=>obtain ⟨t,rfl⟩:=rv; rw[Dx]; exact SeqAt.EqAt.str_int a t' b t; all_goals simp
  | str b=>obtain ⟨t,rfl⟩:=rv; rw[Dx]; exact SeqAt.EqAt.str_str a t' b t
  | lst q r=>cases rv; obtain ⟨us,_,p,_⟩:=I.list q; rw[Dx]; exact SeqAt.EqAt.str_list a t' p.isList hu'; all_goals simp
  | tup q r=>cases rv; obtain ⟨us,_,p,_⟩:=I.tuple q; rw[Dx]; exact SeqAt.EqAt.str_tuple a t' p hu'; all_goals simp
 | A,_,_,_,_,_,_,@RdV.lst _ _ a xs ds q r,h,ru,rv,hu=>by
  cases ru
  have hu':A.units<cLine:=by omega
  obtain ⟨us,r1,p,_⟩:=I.list q
  cases h with
  | non=>cases rv; rw[Dx]; exact SeqAt.EqAt.list_none p.isList hu'; all_goals simp
  | bl b=>cases rv; rw[Dx]; exact SeqAt.EqAt.list_bool b p.isList hu'; all_goals simp
  | int b=>obtain ⟨t,rfl⟩:=rv; rw[Dx]; exact SeqAt.EqAt.list_int b t p.isList hu'; all_goals simp
  | str b=>obtain ⟨t,rfl⟩:=rv; rw[Dx]; exact SeqAt.EqAt.list_str b t p.isList hu'; all_goals simp
  | @lst b ys es q2 rr2 =>
   cases rv
   obtain ⟨vs,r2,p2,_⟩:=I.list q2
   rw[Dx]
   by_cases hab:a=b
   ·subst hab
    have e:=I.list_inj q q2
    subst e
    rw[<- RdVs.det I r rr2,RdVs.eqDs_self r]
    exact SeqAt.EqAt.same _
   ·refine SeqAt.EqAt.of_refs hab (iO p p2 (r1.length.symm.trans r.length) (r2.length.symm.trans rr2.length) hu' λj h1 h2=>?_)
    exact Pf I r rr2 r1 r2 (Vl (by simpa only [Cv] using hu)) j h1 h2
  | tup q2 rr2=>cases rv; obtain ⟨vs,_,p2,_⟩:=I.tuple q2; rw[Dx]; exact SeqAt.EqAt.list_tuple p.isList p2 hu'; all_goals simp
 | A,_,_,_,_,_,_,@RdV.tup _ _ a xs ds q r,h,ru,rv,hu=>by
  cases ru
  have hu':A.units<cLine:=by omega
  obtain ⟨us,r1,p,_⟩:=I.tuple q
  cases h with
  | non=>cases rv; rw[Dx]; exact SeqAt.EqAt.tuple_none p hu'; all_goals simp
  | bl b=>cases rv; rw[Dx]; exact SeqAt.EqAt.tuple_bool b p hu'; all_goals simp
  | int b=>obtain ⟨t,rfl⟩:=rv; rw[Dx]; exact SeqAt.EqAt.tuple_int b t p hu'; all_goals simp
  | str b=>obtain ⟨t,rfl⟩:=rv; rw[Dx]; exact SeqAt.EqAt.tuple_str b t p hu'; all_goals simp
  | lst q2 rr2=>cases rv; obtain ⟨vs,_,p2,_⟩:=I.list q2; rw[Dx]; exact SeqAt.EqAt.tuple_list p p2.isList hu'; all_goals simp
  | @tup b ys es q2 rr2 =>
   cases rv
   obtain ⟨vs,r2,p2,_⟩:=I.tuple q2
   rw[Dx]
   by_cases hab:a=b
   ·subst hab
    have e:=I.tuple_inj q q2
    subst e
    rw[<- RdVs.det I r rr2,RdVs.eqDs_self r]
    exact SeqAt.EqAt.same _
   ·refine SeqAt.EqAt.of_refs hab (cB p p2 (r1.length.symm.trans r.length) (r2.length.symm.trans rr2.length) hu' λj h1 h2=>?_)
    exact Pf I r rr2 r1 r2 (Vl (by simpa only [Cv] using hu)) j h1 h2
theorem Pf(I:Inv X pins σ H s):∀{A:Cp} {xs ys:List V} {ds es:List Af} {us vs:List Value},RdVs X.K H xs ds->RdVs X.K H ys es->Fk xs us->Fk ys vs->A.units+Bl ds<cLine->∀j (h1:j<us.length) (h2:j<vs.length),Lu A s us[j] vs[j] (Dx (ds.getD j .none) (es.getD j .none))
 | _,_,_,_,_,_,_,.nil,_,r1,_,_=>λj h1 h2=>by cases r1; exact absurd h1 (Ex _)
 | A,_,_,_,_,_,_,@RdVs.cons _ _ x d xs ds r t,h,r1,r2,hu=>λj h1 h2=>by
  cases h with
  | nil=>cases r2; exact absurd h2 (Ex _)
  | cons r' t' =>
   cases r1 with
   | cons ra ta =>
    cases r2 with
    | cons rb tb =>
     have hm:A.units+d.depth<cLine/\A.units+Bl ds<cLine:=by
      simp only[Bl] at hu
      omega
     cases j with
     | zero=>simpa using sL I r r' ra rb hm.1
     | succ j=>simpa using Pf I t t' ta tb hm.2 j (by simpa using h1) (by simpa using h2)
end
end
section
variable{X:Cx}{pins:List (Addr×Obj)}{σ:L2.St}{H:Hp}{s:Aj}{K:PySem.W.Frag}
theorem pE{A:Cp}{a b:Addr}{us vs:List Value}{ds es:List Af}(p1:PlainL s.heap a us.toArray)(p2:PlainL s.heap b vs.toArray)(l1:us.length=ds.length)(l2:vs.length=es.length)(hu:A.units<cLine)(he:∀j (h1:j<us.length) (h2:j<vs.length),Lu A.in1 s us[j] vs[j] (Dx (ds.getD j .none) (es.getD j .none))):SeqAt.RcNeAt A s (.ref a) (.ref b) (!Kw ds es):=by
 rw[<- Mw]
 by_cases hl:ds.length=es.length
 ·have hs:us.toArray.size=vs.toArray.size:=by rw[Aq,Aq,l1,l2,hl]
  have h:=SeqAt.RcNeAt.lists (A:=A) (e:=λj=>Dx (ds.getD j .none) (es.getD j .none)) p1.isList p2.isList hs hu (λj h1 h2=>by simpa using he j (by simpa using h1) (by simpa using h2))
  rw[Aq,l1] at h
  rw[hl,Nat.min_self,beq_self_eq_true,Bool.and_true,<- hl]
  exact h
 ·have hs:(us.toArray.size != vs.toArray.size)=true:=by rw[Aq,Aq,l1,l2]; simpa using hl
  have h:=SeqAt.RcNeAt.lists_lengths (A:=A) p1.isList p2.isList hs hu
  have e0:(ds.length == es.length)=false:=by simpa using hl
  rw[e0,Tf]
  exact h
theorem kO{A:Cp}{a b:Addr}{us vs:List Value}{ds es:List Af}(p1:IsTup s.heap a us.toArray)(p2:IsTup s.heap b vs.toArray)(l1:us.length=ds.length)(l2:vs.length=es.length)(hu:A.units<cLine)(he:∀j (h1:j<us.length) (h2:j<vs.length),Lu A.in1 s us[j] vs[j] (Dx (ds.getD j .none) (es.getD j .none))):SeqAt.RcNeAt A s (.ref a) (.ref b) (!Kw ds es):=by
 rw[<- Mw]
 have h:=SeqAt.RcNeAt.tuples (A:=A) (e:=λj=>Dx (ds.getD j .none) (es.getD j .none)) (show s.heap.IsTuple a us.toArray from p1) (show s.heap.IsTuple b vs.toArray from p2) hu (λj h1 h2=>by simpa using he j (by simpa using h1) (by simpa using h2))
 rw[Aq,Aq,l1,l2] at h
 exact h
end
section
variable{X:Cx}
def Z2(K:PySem.W.Frag):R2:=λx y H Q=>∃d e,RdV K H x d/\RdV K H y e/\d.depth<=60/\Q (.bl (Dx d e)) H
def V4(K:PySem.W.Frag):R2:=λx y H Q=>∃d e,RdV K H x d/\RdV K H y e/\d.depth<=60/\Q (.bl (!Dx d e)) H
theorem wJ(hu:X.A.units+64<cLine):Vj X (Hi .Eq) (Z2 X.K):=by
 intro pins s σ H x y v u Q I rx ry h
 obtain ⟨d,e,h1,h2,hd,q⟩:=h
 have hu':X.A.units<cLine:=by omega
 cases h1 with
 | non =>
  cases rx
  cases h2 with
  | non=>cases ry; rw[Dx] at q; exact SeqAt.RcAt.none_none _ _ _ _ ⟨.bl _,H,I,rfl,q⟩
  | bl b=>cases ry; rw[Dx] at q; exact SeqAt.RcAt.none_bool b _ _ _ _ ⟨.bl _,H,I,rfl,q⟩; all_goals simp
  | int b=>obtain ⟨t,rfl⟩:=ry; rw[Dx] at q; exact SeqAt.RcAt.none_int b t _ _ _ _ ⟨.bl _,H,I,rfl,q⟩; all_goals simp
  | str b=>obtain ⟨t,rfl⟩:=ry; rw[Dx] at q; exact SeqAt.RcAt.none_str b t _ _ _ _ ⟨.bl _,H,I,rfl,q⟩; all_goals simp
  | @lst b ys es q2 rr2=>cases ry; obtain ⟨vs,r2,p2,_⟩:=I.list q2; rw[Dx] at q; exact SeqAt.RcAt.none_list p2.isList hu' _ _ _ _ ⟨.bl _,H,I,rfl,q⟩; all_goals simp
  | @tup b ys es q2 rr2=>cases ry; obtain ⟨vs,r2,p2,_⟩:=I.tuple q2; rw[Dx] at q; exact SeqAt.RcAt.none_tuple p2 hu' _ _ _ _ ⟨.bl _,H,I,rfl,q⟩; all_goals simp
 | bl a =>
  cases rx
  cases h2 with
  | non=>cases ry; rw[Dx] at q; exact SeqAt.RcAt.bool_none a _ _ _ _ ⟨.bl _,H,I,rfl,q⟩; all_goals simp
  | bl b=>cases ry; rw[Dx] at q; exact SeqAt.RcAt.bool_bool a b _ _ _ _ ⟨.bl _,H,I,rfl,q⟩
  | int b=>obtain ⟨t,rfl⟩:=ry; rw[Dx] at q; exact SeqAt.RcAt.bool_int a b t _ _ _ _ ⟨.bl _,H,I,rfl,q⟩
  | str b=>obtain ⟨t,rfl⟩:=ry; rw[Dx] at q; exact SeqAt.RcAt.bool_str a b t _ _ _ _ ⟨.bl _,H,I,rfl,q⟩; all_goals simp
  | @lst b ys es q2 rr2=>cases ry; obtain ⟨vs,r2,p2,_⟩:=I.list q2; rw[Dx] at q; exact SeqAt.RcAt.bool_list a p2.isList hu' _ _ _ _ ⟨.bl _,H,I,rfl,q⟩; all_goals simp
  | @tup b ys es q2 rr2=>cases ry; obtain ⟨vs,r2,p2,_⟩:=I.tuple q2; rw[Dx] at q; exact SeqAt.RcAt.bool_tuple a p2 hu' _ _ _ _ ⟨.bl _,H,I,rfl,q⟩; all_goals simp
 | int a =>
  obtain ⟨t',rfl⟩:=rx
  cases h2 with
  | non=>cases ry; rw[Dx] at q; exact SeqAt.RcAt.int_none a t' _ _ _ _ ⟨.bl _,H,I,rfl,q⟩; all_goals simp
  | bl b=>cases ry; rw[Dx] at q; exact SeqAt.RcAt.int_bool a t' b _ _ _ _ ⟨.bl _,H,I,rfl,q⟩
  | int b=>obtain ⟨t,rfl⟩:=ry; rw[Dx] at q; exact SeqAt.RcAt.int_int a t' b t _ _ _ _ ⟨.bl _,H,I,rfl,q⟩
  | str b=>obtain ⟨t,rfl⟩:=ry; rw[Dx] at q; exact SeqAt.RcAt.int_str a t' b t _ _ _ _ ⟨.bl _,H,I,rfl,q⟩; all_goals simp
  | @lst b ys es q2 rr2=>cases ry; obtain ⟨vs,r2,p2,_⟩:=I.list q2; rw[Dx] at q; exact SeqAt.RcAt.int_list a t' p2.isList hu' _ _ _ _ ⟨.bl _,H,I,rfl,q⟩; all_goals simp
  | @tup b ys es q2 rr2=>cases ry; obtain ⟨vs,r2,p2,_⟩:=I.tuple q2; rw[Dx] at q; exact SeqAt.RcAt.int_tuple a t' p2 hu' _ _ _ _ ⟨.bl _,H,I,rfl,q⟩; all_goals simp
 | str a =>
  obtain ⟨t',rfl⟩:=rx
  cases h2 with
  | non=>cases ry; rw[Dx] at q; exact SeqAt.RcAt.str_none a t' _ _ _ _ ⟨.bl _,H,I,rfl,q⟩; all_goals simp
  | bl b=>cases ry; rw[Dx] at q; exact SeqAt.RcAt.str_bool a t' b _ _ _ _ ⟨.bl _,H,I,rfl,q⟩; all_goals simp
  | int b=>obtain ⟨t,rfl⟩:=ry; rw[Dx] at q; exact SeqAt.RcAt.str_int a t' b t _ _ _ _ ⟨.bl _,H,I,rfl,q⟩; all_goals simp
  | str b=>obtain ⟨t,rfl⟩:=ry; rw[Dx] at q; exact SeqAt.RcAt.str_str a t' b t _ _ _ _ ⟨.bl _,H,I,rfl,q⟩
  | @lst b ys es q2 rr2=>cases ry; obtain ⟨vs,r2,p2,_⟩:=I.list q2; rw[Dx] at q; exact SeqAt.RcAt.str_list a t' p2.isList hu' _ _ _ _ ⟨.bl _,H,I,rfl,q⟩; all_goals simp
  | @tup b ys es q2 rr2=>cases ry; obtain ⟨vs,r2,p2,_⟩:=I.tuple q2; rw[Dx] at q; exact SeqAt.RcAt.str_tuple a t' p2 hu' _ _ _ _ ⟨.bl _,H,I,rfl,q⟩; all_goals simp
 | @lst a xs ds qa r =>
  cases rx
  obtain ⟨us,r1,p,_⟩:=I.list qa
  cases h2 with
  | non=>cases ry; rw[Dx] at q; exact SeqAt.RcAt.list_none p.isList hu' _ _ _ _ ⟨.bl _,H,I,rfl,q⟩; all_goals simp
  | bl b=>cases ry; rw[Dx] at q; exact SeqAt.RcAt.list_bool b p.isList hu' _ _ _ _ ⟨.bl _,H,I,rfl,q⟩; all_goals simp
  | int b=>obtain ⟨t,rfl⟩:=ry; rw[Dx] at q; exact SeqAt.RcAt.list_int b t p.isList hu' _ _ _ _ ⟨.bl _,H,I,rfl,q⟩; all_goals simp
  | str b=>obtain ⟨t,rfl⟩:=ry; rw[Dx] at q; exact SeqAt.RcAt.list_str b t p.isList hu' _ _ _ _ ⟨.bl _,H,I,rfl,q⟩; all_goals simp
  | @lst b ys es q2 rr2=>cases ry; obtain ⟨vs,r2,p2,_⟩:=I.list q2; rw[Dx] at q; exact iO p p2 (r1.length.symm.trans r.length) (r2.length.symm.trans rr2.length) hu' (λj h1 h2=>Pf I r rr2 r1 r2 (Vl (by simp only[Cv] at hd; omega)) j h1 h2) _ _ _ _ ⟨.bl _,H,I,rfl,q⟩
  | @tup b ys es q2 rr2=>cases ry; obtain ⟨vs,r2,p2,_⟩:=I.tuple q2; rw[Dx] at q; exact SeqAt.RcAt.list_tuple p.isList p2 hu' _ _ _ _ ⟨.bl _,H,I,rfl,q⟩; all_goals simp
 | @tup a xs ds qa r =>
  cases rx
  obtain ⟨us,r1,p,_⟩:=I.tuple qa
  cases h2 with
  | non=>cases ry; rw[Dx] at q; exact SeqAt.RcAt.tuple_none p hu' _ _ _ _ ⟨.bl _,H,I,rfl,q⟩; all_goals simp
  | bl b=>cases ry; rw[Dx] at q; exact SeqAt.RcAt.tuple_bool b p hu' _ _ _ _ ⟨.bl _,H,I,rfl,q⟩; all_goals simp
  | int b=>obtain ⟨t,rfl⟩:=ry; rw[Dx] at q; exact SeqAt.RcAt.tuple_int b t p hu' _ _ _ _ ⟨.bl _,H,I,rfl,q⟩; all_goals simp
  | str b=>obtain ⟨t,rfl⟩:=ry; rw[Dx] at q; exact SeqAt.RcAt.tuple_str b t p hu' _ _ _ _ ⟨.bl _,H,I,rfl,q⟩; all_goals simp
  | @lst b ys es q2 rr2=>cases ry; obtain ⟨vs,r2,p2,_⟩:=I.list q2; rw[Dx] at q; exact SeqAt.RcAt.tuple_list p p2.isList hu' _ _ _ _ ⟨.bl _,H,I,rfl,q⟩; all_goals simp
  | @tup b ys es q2 rr2=>cases ry; obtain ⟨vs,r2,p2,_⟩:=I.tuple q2; rw[Dx] at q; exact cB p p2 (r1.length.symm.trans r.length) (r2.length.symm.trans rr2.length) hu' (λj h1 h2=>Pf I r rr2 r1 r2 (Vl (by simp only[Cv] at hd; omega)) j h1 h2) _ _ _ _ ⟨.bl _,H,I,rfl,q⟩
theorem E1(hu:X.A.units+64<cLine):Vj X (Hi .NotEq) (V4 X.K):=by
 intro pins s σ H x y v u Q I rx ry h
 obtain ⟨d,e,h1,h2,hd,q⟩:=h
 have hu':X.A.units<cLine:=by omega
 cases h1 with
 | non =>
  cases rx
  cases h2 with
  | non=>cases ry; rw[Dx] at q; exact SeqAt.RcNeAt.none_none _ _ _ _ ⟨.bl _,H,I,rfl,q⟩
  | bl b=>cases ry; rw[Dx] at q; exact SeqAt.RcNeAt.none_bool b _ _ _ _ ⟨.bl _,H,I,rfl,q⟩; all_goals simp
  | int b=>obtain ⟨t,rfl⟩:=ry; rw[Dx] at q; exact SeqAt.RcNeAt.none_int b t _ _ _ _ ⟨.bl _,H,I,rfl,q⟩; all_goals simp
  | str b=>obtain ⟨t,rfl⟩:=ry; rw[Dx] at q; exact SeqAt.RcNeAt.none_str b t _ _ _ _ ⟨.bl _,H,I,rfl,q⟩; all_goals simp
  | @lst b ys es q2 rr2=>cases ry; obtain ⟨vs,r2,p2,_⟩:=I.list q2; rw[Dx] at q; exact SeqAt.RcNeAt.none_list p2.isList hu' _ _ _ _ ⟨.bl _,H,I,rfl,q⟩; all_goals simp
  | @tup b ys es q2 rr2=>cases ry; obtain ⟨vs,r2,p2,_⟩:=I.tuple q2; rw[Dx] at q; exact SeqAt.RcNeAt.none_tuple p2 hu' _ _ _ _ ⟨.bl _,H,I,rfl,q⟩; all_goals simp
 | bl a =>
  cases rx
  cases h2 with
  | non=>cases ry; rw[Dx] at q; exact SeqAt.RcNeAt.bool_none a _ _ _ _ ⟨.bl _,H,I,rfl,q⟩; all_goals simp
  | bl b=>cases ry; rw[Dx] at q; exact SeqAt.RcNeAt.bool_bool a b _ _ _ _ ⟨.bl _,H,I,rfl,q⟩
  | int b=>obtain ⟨t,rfl⟩:=ry; rw[Dx] at q; exact SeqAt.RcNeAt.bool_int a b t _ _ _ _ ⟨.bl _,H,I,rfl,q⟩
  | str b=>obtain ⟨t,rfl⟩:=ry; rw[Dx] at q; exact SeqAt.RcNeAt.bool_str a b t _ _ _ _ ⟨.bl _,H,I,rfl,q⟩; all_goals simp
  | @lst b ys es q2 rr2=>cases ry; obtain ⟨vs,r2,p2,_⟩:=I.list q2; rw[Dx] at q; exact SeqAt.RcNeAt.bool_list a p2.isList hu' _ _ _ _ ⟨.bl _,H,I,rfl,q⟩; all_goals simp
  | @tup b ys es q2 rr2=>cases ry; obtain ⟨vs,r2,p2,_⟩:=I.tuple q2; rw[Dx] at q; exact SeqAt.RcNeAt.bool_tuple a p2 hu' _ _ _ _ ⟨.bl _,H,I,rfl,q⟩; all_goals simp
 | int a =>
  obtain ⟨t',rfl⟩:=rx
  cases h2 with
  | non=>cases ry; rw[Dx] at q; exact SeqAt.RcNeAt.int_none a t' _ _ _ _ ⟨.bl _,H,I,rfl,q⟩; all_goals simp
  | bl b=>cases ry; rw[Dx] at q; exact SeqAt.RcNeAt.int_bool a t' b _ _ _ _ ⟨.bl _,H,I,rfl,q⟩
  | int b=>obtain ⟨t,rfl⟩:=ry; rw[Dx] at q; exact SeqAt.RcNeAt.int_int a t' b t _ _ _ _ ⟨.bl _,H,I,rfl,q⟩
  | str b=>obtain ⟨t,rfl⟩:=ry; rw[Dx] at q; exact SeqAt.RcNeAt.int_str a t' b t _ _ _ _ ⟨.bl _,H,I,rfl,q⟩; all_goals simp
  | @lst b ys es q2 rr2=>cases ry; obtain ⟨vs,r2,p2,_⟩:=I.list q2; rw[Dx] at q; exact SeqAt.RcNeAt.int_list a t' p2.isList hu' _ _ _ _ ⟨.bl _,H,I,rfl,q⟩; all_goals simp
  | @tup b ys es q2 rr2=>cases ry; obtain ⟨vs,r2,p2,_⟩:=I.tuple q2; rw[Dx] at q; exact SeqAt.RcNeAt.int_tuple a t' p2 hu' _ _ _ _ ⟨.bl _,H,I,rfl,q⟩; all_goals simp
 | str a =>
  obtain ⟨t',rfl⟩:=rx
  cases h2 with
  | non=>cases ry; rw[Dx] at q; exact SeqAt.RcNeAt.str_none a t' _ _ _ _ ⟨.bl _,H,I,rfl,q⟩; all_goals simp
  | bl b=>cases ry; rw[Dx] at q; exact SeqAt.RcNeAt.str_bool a t' b _ _ _ _ ⟨.bl _,H,I,rfl,q⟩; all_goals simp
  | int b=>obtain ⟨t,rfl⟩:=ry; rw[Dx] at q; exact SeqAt.RcNeAt.str_int a t' b t _ _ _ _ ⟨.bl _,H,I,rfl,q⟩; all_goals simp
  | str b=>obtain ⟨t,rfl⟩:=ry; rw[Dx] at q; exact SeqAt.RcNeAt.str_str a t' b t _ _ _ _ ⟨.bl _,H,I,rfl,q⟩
  | @lst b ys es q2 rr2=>cases ry; obtain ⟨vs,r2,p2,_⟩:=I.list q2; rw[Dx] at q; exact SeqAt.RcNeAt.str_list a t' p2.isList hu' _ _ _ _ ⟨.bl _,H,I,rfl,q⟩; all_goals simp
  | @tup b ys es q2 rr2=>cases ry; obtain ⟨vs,r2,p2,_⟩:=I.tuple q2; rw[Dx] at q; exact SeqAt.RcNeAt.str_tuple a t' p2 hu' _ _ _ _ ⟨.bl _,H,I,rfl,q⟩; all_goals simp
 | @lst a xs ds qa r =>
  cases rx
  obtain ⟨us,r1,p,_⟩:=I.list qa
  cases h2 with
  | non=>cases ry; rw[Dx] at q; exact SeqAt.RcNeAt.list_none p.isList hu' _ _ _ _ ⟨.bl _,H,I,rfl,q⟩; all_goals simp
  | bl b=>cases ry; rw[Dx] at q; exact SeqAt.RcNeAt.list_bool b p.isList hu' _ _ _ _ ⟨.bl _,H,I,rfl,q⟩; all_goals simp
  | int b=>obtain ⟨t,rfl⟩:=ry; rw[Dx] at q; exact SeqAt.RcNeAt.list_int b t p.isList hu' _ _ _ _ ⟨.bl _,H,I,rfl,q⟩; all_goals simp
  | str b=>obtain ⟨t,rfl⟩:=ry; rw[Dx] at q; exact SeqAt.RcNeAt.list_str b t p.isList hu' _ _ _ _ ⟨.bl _,H,I,rfl,q⟩; all_goals simp
  | @lst b ys es q2 rr2=>cases ry; obtain ⟨vs,r2,p2,_⟩:=I.list q2; rw[Dx] at q; exact pE p p2 (r1.length.symm.trans r.length) (r2.length.symm.trans rr2.length) hu' (λj h1 h2=>Pf I r rr2 r1 r2 (Vl (by simp only[Cv] at hd; omega)) j h1 h2) _ _ _ _ ⟨.bl _,H,I,rfl,q⟩
  | @tup b ys es q2 rr2=>cases ry; obtain ⟨vs,r2,p2,_⟩:=I.tuple q2; rw[Dx] at q; exact SeqAt.RcNeAt.list_tuple p.isList p2 hu' _ _ _ _ ⟨.bl _,H,I,rfl,q⟩; all_goals simp
 | @tup a xs ds qa r =>
  cases rx
  obtain ⟨us,r1,p,_⟩:=I.tuple qa
  cases h2 with
  | non=>cases ry; rw[Dx] at q; exact SeqAt.RcNeAt.tuple_none p hu' _ _ _ _ ⟨.bl _,H,I,rfl,q⟩; all_goals simp
  | bl b=>cases ry; rw[Dx] at q; exact SeqAt.RcNeAt.tuple_bool b p hu' _ _ _ _ ⟨.bl _,H,I,rfl,q⟩; all_goals simp
  | int b=>obtain ⟨t,rfl⟩:=ry; rw[Dx] at q; exact SeqAt.RcNeAt.tuple_int b t p hu' _ _ _ _ ⟨.bl _,H,I,rfl,q⟩; all_goals simp
  | str b=>obtain ⟨t,rfl⟩:=ry; rw[Dx] at q; exact SeqAt.RcNeAt.tuple_str b t p hu' _ _ _ _ ⟨.bl _,H,I,rfl,q⟩; all_goals simp
  | @lst b ys es q2 rr2=>cases ry; obtain ⟨vs,r2,p2,_⟩:=I.list q2; rw[Dx] at q; exact SeqAt.RcNeAt.tuple_list p p2.isList hu' _ _ _ _ ⟨.bl _,H,I,rfl,q⟩; all_goals simp
  | @tup b ys es q2 rr2=>cases ry; obtain ⟨vs,r2,p2,_⟩:=I.tuple q2; rw[Dx] at q; exact kO p p2 (r1.length.symm.trans r.length) (r2.length.symm.trans rr2.length) hu' (λj h1 h2=>Pf I r rr2 r1 r2 (Vl (by simp only[Cv] at hd; omega)) j h1 h2) _ _ _ _ ⟨.bl _,H,I,rfl,q⟩
theorem wU{z z':V}{v:Value}(h:RelV z v)(h':RelV z' v):z=z':=by
 cases z <;> cases z' <;> simp only[L2.RelV] at h h' <;> first | rfl | (subst h; cases h'; rfl) | (subst h; cases h'; done) | (obtain ⟨t,rfl⟩:=h; obtain ⟨t',e⟩:=h'; cases e; rfl) | (obtain ⟨t,rfl⟩:=h; obtain ⟨t',e⟩:=h'; cases e; done) | (obtain ⟨t,rfl⟩:=h; cases h'; done) | (subst h; obtain ⟨t',e⟩:=h'; cases e)
open Classical in
noncomputable def Mb(K:PySem.W.Frag)(H:Hp)(d:Af)(v:Value):Bool:=if h:∃e z,RdV K H z e/\RelV z v then Dx h.choose d else false
theorem iJ{pins:List (Addr×Obj)}{σ:L2.St}{H:Hp}{s:Aj}(I:Inv X pins σ H s){d e:Af}{z:V}{v:Value}(h:RdV X.K H z e)(r:RelV z v):Mb X.K H d v=Dx e d:=by
 unfold Mb
 have hx:∃e z,RdV X.K H z e/\RelV z v:=⟨e,z,h,r⟩
 rw[dif_pos hx]
 obtain ⟨z',h',r'⟩:=hx.choose_spec
 have ez:=wU r' r
 subst ez
 rw[RdV.det I h' h]
theorem On{pins:List (Addr×Obj)}{σ:L2.St}{H:Hp}{s:Aj}(I:Inv X pins σ H s){d:Af}:∀{xs:List V} {ds:List Af} {us:List Value},RdVs X.K H xs ds->Fk xs us->us.any (Mb X.K H d)=ds.any λe=>Dx e d
 | _,_,_,.nil,r=>by cases r; rfl
 | _,_,_,.cons h t,r=>by
  cases r with
  | cons r1 r2=>rw[List.any_cons,List.any_cons,iJ I h r1,On I t r2]
theorem Oq{pins:List (Addr×Obj)}{σ:L2.St}{H:Hp}{s:Aj}(I:Inv X pins σ H s){A:Cp}{x:V}{d:Af}{u:Value}(hx:RdV X.K H x d)(rx:RelV x u):∀{xs:List V} {ds:List Af} {us:List Value},RdVs X.K H xs ds->Fk xs us->A.units+Bl ds<cLine->∀v∈us,Lu A s v u (Mb X.K H d v)
 | _,_,_,.nil,r,_=>λv hv=>by cases r; cases hv
 | _,_,_,@RdVs.cons _ _ y e ys es h t,r,hu=>λv hv=>by
  have hm:A.units+e.depth<cLine/\A.units+Bl es<cLine:=by
   simp only[Bl] at hu
   omega
  cases r with
  | cons r1 r2 =>
   rcases Am.mp hv with rfl | hv
   ·rw[iJ I h r1]; exact sL I h hx r1 rx hm.1
   ·exact Oq I hx rx t r2 hm.2 v hv
def M4(K:PySem.W.Frag)(neg:Bool):R2:=λx y H Q=>∃p xs d ds,y=.ref p/\(Ov K H p xs\/Tg K H p xs)/\RdV K H x d/\RdVs K H xs ds/\Bl ds<=60/\Q (.bl (if neg then !(ds.any λe=>Dx e d) else ds.any λe=>Dx e d)) H
theorem G6(hu:X.A.units+64<cLine):Vj X (Hi .In) (M4 X.K false):=by
 intro pins s σ H x y v u Q I rx ry h
 obtain ⟨p,xs,d,ds,rfl,hq,hx,hs,hd,q⟩:=h
 cases ry
 have hu1:X.A.in1.units+Bl ds<cLine:=by have:=Vk X.A; omega
 rcases hq with hq | hq
 ·obtain ⟨its,r,pl,hz⟩:=I.list hq
  refine SeqAt.in_listAt (Mb X.K H d) pl.isList (λw hw=>Oq I hx rx hs r hu1 w (by simpa using hw)) ⟨.bl _,H,I,rfl,?_⟩
  rw[show its.toArray.any (Mb X.K H d)=its.any (Mb X.K H d) by simp,On I hs r]
  exact q
 ·obtain ⟨its,r,pl,hz⟩:=I.tuple hq
  refine SeqAt.in_tupleAt (Mb X.K H d) pl (λw hw=>Oq I hx rx hs r hu1 w (by simpa using hw)) ⟨.bl _,H,I,rfl,?_⟩
  rw[show its.toArray.any (Mb X.K H d)=its.any (Mb X.K H d) by simp,On I hs r]
  exact q
theorem pU(hu:X.A.units+64<cLine):Vj X (Hi .NotIn) (M4 X.K true):=by
 intro pins s σ H x y v u Q I rx ry h
 obtain ⟨p,xs,d,ds,rfl,hq,hx,hs,hd,q⟩:=h
 cases ry
 have hu1:X.A.in1.units+Bl ds<cLine:=by have:=Vk X.A; omega
 rcases hq with hq | hq
 ·obtain ⟨its,r,pl,hz⟩:=I.list hq
  refine SeqAt.notIn_listAt (Mb X.K H d) pl.isList (λw hw=>Oq I hx rx hs r hu1 w (by simpa using hw)) ⟨.bl _,H,I,rfl,?_⟩
  rw[show its.toArray.any (Mb X.K H d)=its.any (Mb X.K H d) by simp,On I hs r]
  exact q
 ·obtain ⟨its,r,pl,hz⟩:=I.tuple hq
  refine SeqAt.notIn_tupleAt (Mb X.K H d) pl (λw hw=>Oq I hx rx hs r hu1 w (by simpa using hw)) ⟨.bl _,H,I,rfl,?_⟩
  rw[show its.toArray.any (Mb X.K H d)=its.any (Mb X.K H d) by simp,On I hs r]
  exact q
end
def CC(K:PySem.W.Frag)(a:Addr):It :=
 ⟨λi H=>∃xs x,Ov K H a xs/\xs[i]? = some x,λi H x H'=>∃p y,x=.ref p/\H p=none/\H'=upd H p (.tup [.int i,y])/\∀xs,Ov K H a xs->xs[i]? = some y,λi H=>∃xs,Ov K H a xs/\xs.length<=i⟩
section
variable{X:Cx}{pins:List (Addr×Obj)}{σ:L2.St}{H:Hp}{s:Aj}{h':Heap}
theorem Ph{t':Nat}{fp:List Addr}(I:Inv X pins σ H s)(k:∀b o,b∉fp->s.heap.get? b=some o->h'.get? b=some o)(hf:∀b∈fp,Lw X pins H b):Inv X pins σ H { s with heap:=h',toks:=t' }:=by
 have nit:∀b u,H b=some u->b∉fp:=λb u e z=>by rw[(hf b z).1] at e; cases e
 refine I.step (g':=s.gens) (d':=s.drawn) (ch:=fp) (λb hb=>?_) (λb o _ _ hc e _=>k b o hc e) (λb o _ _ hc e _=>⟨o.slots,k b o hc e⟩) (λ_ _ _ _ n=>n)
  (λb o hc e=>⟨o,k b o hc e⟩) (λ_ _ e=>e) (λ_ _ _ e=>e) (λb ps e=>⟨#[],by rw[e]; simp⟩) (λm hm=>?_) (λb u e=>?_) I.bare
 ·obtain ⟨_,f1,_,f3,f4,f5⟩:=hf b hb
  exact ⟨f3,f1,f4,f5⟩
 ·obtain ⟨o,es,ep,ho,r⟩:=hm
  exact ⟨o,es,ep,k _ o (λz=>(hf _ z).2.1 rfl) ho,r⟩
 ·refine (I.hok b u e).stay (λc v hc q=>k c v ?_ q) (λ_ q=>q) λ_ _ q=>q
  rcases hc with z | z
  ·rw[z]; exact nit b u e
  ·exact nit c _ z
end
theorem pV{P:Bj}{w:World}{K:PySem.W.Frag}{elts:List Expr}{k:Nat}{pos:Pos}(a e it:Addr)(ne:e≠it):Turn P w K (.Tuple elts k pos) (CC K a) [e,it] e (λi h=>(∃old,IsEnum h e it ((i:Nat):Int) old)/\h.IsListIter it a i) where
 mem:=Aa
 obj:=λi h st b hb=>by
  obtain ⟨⟨old,he⟩,o,e1,c,d⟩:=st
  rcases Am.mp hb with z | z
  ·subst z
   exact ⟨_,he,λv z=>by cases z⟩
  ·rw[Ae.mp z]
   exact ⟨o,e1,λv z=>by rw[d] at z; cases z⟩
 keep:=λi h h' st kp=>⟨let ⟨old,he⟩:=st.1; ⟨old,kp e Aa _ he⟩,st.2.at λo q=>kp it (Ad _ Aa) o q⟩
 item:=by
  intro X hP hw hK hc i pins s σ H E I hf st hg
  subst hP hw hK
  obtain ⟨xs,x,hq,hx⟩:=hg
  obtain ⟨its,rv,p,hz⟩:=I.list hq
  obtain ⟨u,hu,ru⟩:=rv.get hx
  obtain ⟨⟨old,he⟩,hit⟩:=st
  have el:e<s.heap.objs.size:=Aw he
  have il:it<s.heap.objs.size:=by obtain ⟨_,q,_⟩:=hit; exact Aw q
  refine wpAny_pyNext_enum_item he hit p.isList (x:=u) (by simpa using hu) ne λh1 ho hit1 hT hsz hk=>⟨_,rfl,wpAny_letOwnedTupleGo_enum ho λh2 he2 hs2=>?_⟩
  have hs2':Iv e h1 h2:=hs2
  -- the pair laid,then the iterators turned
  have I1:Inv X pins σ (upd H s.heap.objs.size (.tup [.int i,x])) { s with heap:=s.heap.push { cls:=.type "tuple",data:=.seq #[.int i s.toks,u] } } :=
   I.laid (t':=s.toks) (λb o q=>Ak _ q) (Ah _) ⟨by show 2<=Bd; decide,[.int i s.toks,u],.cons ⟨_,rfl⟩ (.cons ru .nil),_,Be _ rfl,rfl,0,rfl⟩
  have nT:∀b∈[e,it],b≠s.heap.objs.size:=λb hb=>by
   rcases Am.mp hb with z | z
   ·rw[z]; exact Ce el
   ·rw[Ae.mp z]; exact Ce il
  have fr:∀b∈[e,it],(upd H s.heap.objs.size (.tup [.int i,x])) b=none:=λb hb=>by rw[Ej (nT b hb)]; exact (hf b hb).1
  refine ⟨.ref s.heap.objs.size,_,Ph (fp:=[e,it]) (s:={ s with heap:=s.heap.push { cls:=.type "tuple",data:=.seq #[.int i s.toks,u] } }) (h':=h2) (t':=s.toks+1) I1 (λb o hb q=>?_) (λb hb=>⟨fr b hb,(hf b hb).2⟩),rfl,⟨_,x,rfl,I.hok.fresh (Ah _),rfl,λys hy=>by rw[I.list_inj hy hq]; exact hx⟩,⟨⟨u,?_⟩,?_⟩,fr⟩
  ·have nbe:b≠e:=λz=>hb (by rw[z]; exact Aa)
   have nbi:b≠it:=λz=>hb (by rw[z]; exact Ad _ Aa)
   refine (hs2'.2 b nbe).trans ?_
   by_cases hbT:b=s.heap.objs.size
   ·subst hbT
    have q':=(Be s.heap (o:={ cls:=.type "tuple",data:=.seq #[.int i s.toks,u] }) rfl).symm.trans q
    rw[hT]
    exact q'
   ·refine hk b o nbe nbi ?_
    have q0:(s.heap.push { cls:=.type "tuple",data:=.seq #[.int i s.toks,u] }).get? b=some o:=q
    rcases Heap.get?_push_cases q0 with z | z
    ·exact absurd z.1 hbT
    ·exact z
  ·have : ((i+1:Nat):Int)=(i:Int)+1:=by omega
   rw[this]
   exact he2
  ·exact hit1.at λo q=>(hs2'.2 it (Po ne)).trans q
 done:=by
  intro X hP hw hK hc i pins s σ H E I hf st hg
  subst hP hw hK
  obtain ⟨xs,hq,hx⟩:=hg
  obtain ⟨its,rv,p,hz⟩:=I.list hq
  obtain ⟨⟨old,he⟩,hit⟩:=st
  have hl:=rv.length
  exact wpAny_pyNext_enum_end (I.ok.hd hc) he hit p.isList (by simp; omega) λh1 eb=>⟨rfl,Ph (fp:=[e,it]) (t':=s.toks) I (λb o hb q=>eb b o (λz=>hb (by rw[z]; exact Ad _ Aa)) q) hf⟩
 self:=λ_ _ _ _ _ st h=>let ⟨_,he⟩:=st.1; wpAny_pyIter_enum he h
section
variable{X:Cx}
def S9(K:PySem.W.Frag)(ta:TA):TI:=λσ H R=>ta σ H λvs H1=>∃a,vs=[.ref a]/\(∃xs,Ov K H1 a xs)/\R (CC K a) H1
theorem i7{elts:List Expr}{k:Nat}{tp:Pos}{a:Expr}{ta:TA}{p pos:Pos}(hg:Gl X "enumerate")(hm:X.mg "enumerate" = none)(ha:PA X [a] ta)(hs:Bn [a] X.env=[(false,eval a X.env)]:=by rfl):PI X (.Tuple elts k tp) (.Call (.Name "enumerate" p) [a] [] pos) (S9 X.K ta):=by
 intro pins s σ H R I h
 refine Call_ (Sm I hg hm (u:=.type "enumerate") (by decide +kernel) (Gh (Fv (ha pos pins s σ H _ I h) λus s1 ⟨vs,H1,I1,r1,q1⟩=>?_) hs rfl))
 obtain ⟨l,e,⟨xs,hq⟩,q⟩:=q1
 subst e
 obtain ⟨u,rfl,ru⟩:=vals1 r1
 cases ru
 obtain ⟨its,rv,pl,hz⟩:=I1.list hq
 refine call_enumerate_list pl.isList λh2 he hit hsz hk=>wpAny_pyIter_enum he ?_
 have fr:∀b∈[s1.heap.objs.size+1,s1.heap.objs.size],Lw X pins H1 b:=λb hb=>by
  rcases Am.mp hb with z | z
  ·rw[z]; exact I1.fpOk (Nat.le_succ _) (I1.hok.fresh (Nat.le_succ _))
  ·rw[Ae.mp z]; exact I1.fpOk (Ah _) (I1.hok.fresh (Ah _))
 exact ⟨s1.heap.objs.size+1,[s1.heap.objs.size+1,s1.heap.objs.size],_,_,H1,rfl,I1.kept (t':=s1.toks) hk,pV l _ _ (Nat.succ_ne_self _),⟨⟨_,he⟩,hit⟩,fr,q⟩
end
section
variable{X:Cx}
def F7(K:PySem.W.Frag)(J:It)(js:List Nat)(tc:TT)(te:TE)(σ:L2.St)(H1:Hp)(Q:VK):Prop:=∀D,H1 D=none->∃W:Nat->Nat->Hp->Prop,(∃m,W 0 m (upd H1 D (.lst [])))/\∀i m H,W i m H ->
 (J.stop i H/\Q (.ref D) H)\/(J.go i H/\∀x H',J.yld i H x H'->∃(t:Addr) (w1 w2:V),x=.ref t/\Tg K H' t [w1,w2]/\∃(N1:Hp->Prop) (N2:VK),(∀H2,N1 H2->∃m',m'<m/\W (i+1) m' H2) /\
  (∀y H3,N2 y H3->∃acc,H3 D=some (.lst acc)/\acc.length<Bd/\∃m',m'<m/\W (i+1) m' (upd H3 D (.lst (acc++[y])))) /\
  tc (some w1::some w2::En σ js) H' λc H2=>if c=true then te (some w1::some w2::En σ js) H2 N2 else N1 H2)
def vX(K:PySem.W.Frag)(wi:TI)(js:List Nat)(tc:TT)(te:TE):TE:=λσ H Q=>wi σ H λJ H1=>F7 K J js tc te σ H1 Q
end
section
variable{X:Cx}
theorem o8{elt iter:Expr}{x y0:Str}{px py pos spos:Pos}{i0:Nat}{ifs:List Expr}{scope:Scope}{cl:List (Str×Addr)}{ys:List Str}{js:List Nat}{wi:TI}{tc:TT}{te:TE}(hN:X.N.Nodup)(hi0:X.N[i0]? = some y0)(hy0:X.env.scope.names.lookup y0=some .local)(C:CompScope X scope cl x ys js)(hc:X.calm=true)(hi:PI X (.Name x px) iter wi)(ht:∀fp s H,wN (Ec X scope cl (x::ys) fp s H) ifs tc)(he:∀fp s H,PE (Ec X scope cl (x::ys) fp s H) elt te)(hs:∀x,Dm iter X.env x=pure x:=by intro _; rfl)(hsw:Jw (.ListComp elt [⟨.Name x px,iter,ifs,0⟩] scope pos) (some (.Name y0 py)) spos.line X.env=pure true:=by rfl):PS X (.Assign [.Name y0 py] (.ListComp elt [⟨.Name x px,iter,ifs,0⟩] scope pos) spos) (qD (mG wi js tc te) (Sg i0)):=by
 intro pins s σ H De I h
 have h:mG wi js tc te σ H λv H1=>De.nx (σ.set i0 (some v)) H1:=h
 rw[Uw _ _ _ _ hsw]
 refine Ab (Hg (Ab ?_))
 show wpAny _ X.A (do let _ <- comprehension (.ListComp elt [⟨.Name x px,iter,ifs,0⟩] scope pos) scope X.env _ (newList []) false (eval iter X.env) (some (Ka (.Name y0 py) X.env))) _ _ s
 refine Ab (Cz (Kz (use:=some (Ka (.Name y0 py) X.env)) (Q:=λ_ s'=>SP X pins De .next s') rfl hs C.clos C.kind C.locs (Fv (hi pins s σ H _ I h) λv s1 h1=>Fv h1 λitv s2 h2=>?_)) (λ_ s' hq=>Al (Al hq)) λ_ _ e=>e)
 obtain ⟨it,fp,tn,J,H2,e,I2,T,st2,f2,q2⟩:=h2
 subst e
 have fD:H2 s2.heap.objs.size=none:=I2.hok.fresh (Ah _)
 obtain ⟨W,⟨m0,w0⟩,turn⟩:=q2 s2.heap.objs.size fD
 refine Dk ?_
 have I3:Inv X pins σ (upd H2 s2.heap.objs.size (.lst [])) { s2 with heap:=s2.heap.push { cls:=.type "list",dict:=none,data:=.seq ([]:List Value).toArray } } :=
  I2.laid (t':=s2.toks) (λb u q=>Ak _ q) (Ah _) ⟨Cy _,[],0,.nil,Be _ rfl⟩
 obtain ⟨f3,st3',o3'⟩:=Uo I2 T st2 f2 I3
 generalize hS3:({ s2 with heap:=s2.heap.push { cls:=.type "list",dict:=none,data:=.seq ([]:List Value).toArray } }:Aj)=s3 at I3
 have Pq:tn 0 s3.heap:=by rw[<- hS3]; exact st3'
 have o3:∀b∈fp,∃o,s3.heap.get? b=some o:=by rw[<- hS3]; exact o3'
 show wpAny _ _ (Mh scope X.env.globals cl [] X.env.qual none .none (some X.env)) _ _ _
 refine Rk C λh4 hns4 keep4 new4=>?_
 have I4:∀tk,Inv (Ec X scope cl (x::ys) fp s3 (upd H2 s2.heap.objs.size (.lst []))) [] (none::En σ js) (upd H2 s2.heap.objs.size (.lst [])) { s3 with heap:=h4,toks:=tk }:=λtk=>Pe (pre:=[x]) C I3 f3 o3 hns4 keep4 new4
 have st4:tn 0 h4:=T.keep 0 _ _ Pq λb hb o q=>keep4 b o q
 generalize hX':Ec X scope cl (x::ys) fp s3 (upd H2 s2.heap.objs.size (.lst []))=X' at I4
 obtain ⟨eP,eW,eK,eA,eC⟩:=Tz hc hX'
 have stat:∀{H':Hp},(∀b∈fp,H' b=none)->∀b∈fp,Lw X' [] H' b:=λ{H'} hn=>Ri hX' (I4 0) hn
 have loop:∀s5:Aj,s5={ s3 with heap:=h4,toks:=s3.toks+([]:List (Str×Value)).length } ->
   Hm (model X.prog X.w) X.A (.compLoop (.ListComp elt [⟨.Name x px,iter,ifs,0⟩] scope pos) 0 (.ref it) (.ref s2.heap.objs.size) (Wo scope (Ed (s3.heap.objs.size+1) scope.names cl) s3.heap.objs.size X.env))
    (compPost (model X.prog X.w) X.A X.xe (some (Ka (.Name y0 py) X.env)) (λ_ s'=>SP X pins De .next s') (.ref s2.heap.objs.size) s3.heap.objs.size) s5:=by
  rintro s5 rfl
  refine Sy (λn s'=>∃i o H',Inv X' [] (o::En σ js) H' s'/\tn i s'.heap/\(∀b∈fp,H' b=none)/\W i n H') ?_ m0
   ⟨0,none,_,I4 _,st4,λb hb=>(f3 b hb).1,w0⟩
  (intro n s6 q_; obtain ⟨i,o,H6,I6,st6,fr6,w6⟩ := q_)
  rcases turn i n H6 w6 with ⟨stop,qn⟩ | ⟨go,step⟩
  ·have hd:=T.done X' eP eW eK eC i [] s6 _ H6 (λ_ _=>False) I6 (stat fr6) st6 stop
   rw[eA] at hd
   refine Fv hd λr s7 q0_ => ?_
   obtain ⟨hr,I7⟩ := q0_
   subst hr
   obtain ⟨⟨m7,hn7'⟩,I7f,J7⟩:=Vw hX' I3 f3 I7
   have fC:Lw X pins H6 s3.heap.objs.size:=I3.fpOk (Ah _) I7f
   obtain ⟨oC,esC,epC,hoC,rC⟩:=id hn7'
   have J8:Inv X (pins++[(s3.heap.objs.size,oC)]) σ H6 s7:=J7.pins_of λp hp=>by
    rcases Ay.mp hp with z | z
    ·have q:=J7.pin p (Ag _ z)
     exact q
    ·rw[Ae.mp z]
     exact ⟨hoC,I7f,fC.2.1,fC.2.2.1,λv hv=>by rw[rC.1] at hv; cases hv⟩
   refine Fv (Kh (X:=X) (i:=i0) (x:=y0) (pos:=py) hN hi0 (.inl hy0) (.inr hy0) (pins++[(s3.heap.objs.size,oC)]) s7 σ H6 (.ref s2.heap.objs.size) (.ref s2.heap.objs.size) (λσ' H'=>σ'=σ.set i0 (some (.ref s2.heap.objs.size))/\H'=H6) J8 rfl ⟨rfl,rfl⟩) λ_ s9 q0_ => ?_
   obtain ⟨σ9,H9,I9,e9,e9'⟩ := q0_
   subst e9 e9'
   have hoC9:=(I9.pin (s3.heap.objs.size,oC) (Ag _ (Ag _ Aa))).1
   have I9':Inv X pins (σ.set i0 (some (.ref s2.heap.objs.size))) H9 s9:=I9.pins_of λp hp=>I9.pin p (Ag _ (An _ hp))
   refine ⟨m7,hn7'.at λo e=>by rw[hoC] at e; cases e; exact hoC9,λh10 hs10=>?_⟩
   exact ⟨_,H9,Ph (t':=s9.toks) (fp:=[s3.heap.objs.size]) I9' (λb o hb e=>(hs10.2 b (λz=>hb (by rw[z]; exact Aa))).trans e) (λb hb=>by rw[Ae.mp hb]; exact fC),qn⟩
  ·have hit:=T.item X' eP eW eK eC i [] s6 _ H6 (λ_ _=>False) I6 (stat fr6) st6 go
   rw[eA] at hit
   refine Fv hit λr s7 q0_ => ?_
   obtain ⟨u,hr,h7⟩ := q0_
   subst hr
   refine Fv h7 λ_ s8 q0_ => ?_
   obtain ⟨y,H8,I8,r8,y8,st8,fr8⟩ := q0_
   have I8':=I8.pinned (stat fr8) (T.obj _ _ st8)
   obtain ⟨N1,N2,hN1,hN2,hst⟩:=step y H8 y8
   have again:∀{H9:Hp} {s9:Aj} {m':Nat},Inv X' ([]++Oe fp s8.heap) (some y::En σ js) H9 s9->m'<n->W (i+1) m' H9->∃m,m<n/\∃i o H',Inv X' [] (o::En σ js) H' s9/\tn i s9.heap/\(∀b∈fp,H' b=none)/\W i m H':=λ{H9 s9 m'} I9 hm w9=>by
    refine ⟨m',hm,i+1,some y,H9,I9.unpinned,T.keep _ _ _ st8 λb hb o e=>(I9.pin (b,o) (Ag _ (Ag _ (Gg hb e)))).1,λb hb=>?_,w9⟩
    obtain ⟨o,e,_⟩:=T.obj _ _ st8 b hb
    exact (I9.pin (b,o) (Ag _ (Ag _ (Gg hb e)))).2.1
   subst hX'
   refine Fv (Kh (i:=0) (x:=x) (pos:=px) C.nd rfl (Rp C.own) (Vf C.own) _ s8 _ H8 y u (λσ' H'=>σ'=some y::En σ js/\H'=H8) I8' r8 ⟨rfl,rfl⟩) λ_ s9 q0_ => ?_
   obtain ⟨σ9,H9,I9,e9,e9'⟩ := q0_
   subst e9 e9'
   refine Fv (ht fp s3 _ _ s9 _ _ _ I9 hst) λok s10 q0_ => ?_
   obtain ⟨H10,I10,q10⟩ := q0_
   cases ok with
   | false =>
    rw[if_neg Bx] at q10 ⊢
    obtain ⟨m',hm,w10⟩:=hN1 _ q10
    exact again I10 hm w10
   | true =>
    rw[if_pos rfl] at q10 ⊢
    refine Fv (he fp s3 _ _ s10 _ _ _ I10 q10) λz s11 q0_ => ?_
    obtain ⟨vz,H11,I11,r11,q11⟩ := q0_
    obtain ⟨acc,ha,hz,m',hm,w11⟩:=hN2 _ _ q11
    refine Fv (Lc _ s11 _ H11 (.ref s2.heap.objs.size) [vz] (.ref s2.heap.objs.size) [z] (λ_ H'=>H'=upd H11 s2.heap.objs.size (.lst (acc++[vz]))) I11 rfl (.cons r11 .nil) ⟨_,acc,vz,rfl,rfl,ha,hz,rfl⟩) λ_ s12 q0_ => ?_
    obtain ⟨_,H12,I12,_,e12⟩ := q0_
    subst e12
    exact again I12 hm w11
 exact Mj (loop _ rfl) (T.self X.A 0 _ _ _ st4 (loop _ rfl))
end
end Nd
namespace Nd
open PySem L2
def w5(K:PySem.W.Frag):R2:=λx y H Q=>∃a b xs ys,x=.ref a/\y=.ref b/\Tg K H a xs/\Tg K H b ys/\xs.length+ys.length<=Bd/\(xs=[]->Q (.ref b) H)/\(ys=[]->Q (.ref a) H)/\(∀p,H p=none->Q (.ref p) (upd H p (.tup (xs++ys))))
open PyProof.Rows in
theorem yE{X:Cx}:Vj X (Kn .Add) (w5 X.K):=by
 intro pins s σ H x y v u Q I rx ry h
 obtain ⟨a,b,xs,ys,rfl,rfl,ha,hb,hz,q1,q3,q2⟩:=h
 by_cases hx:xs=[]
 ·cases rx
  cases ry
  obtain ⟨its,r1,p1,_⟩:=I.tuple ha
  obtain ⟨its2,r2,p2,_⟩:=I.tuple hb
  have e1:its=[]:=r1.nil_iff.mpr hx
  subst e1
  obtain ⟨⟨c1,d1,dt1,sl1⟩,g1,k1,n1,e1⟩:=id p1
  obtain ⟨⟨c2,d2,dt2,sl2⟩,g2,k2,n2,e2⟩:=id p2
  simp only at k1 e1 k2 e2
  subst k1 e1 k2 e2
  exact concat_meets ⟨_,g1,rfl⟩ ⟨_,g2,rfl⟩ eX seq_tuple_add PySem.F.slot_tuple_add PySem.F.entry_tuple_add (PySem.F.args_tuple_add_2 _ _)
   (tuple_addW0 a b _ _ n1 n2 d1 d2 sl1 sl2 rfl) ⟨g1,g2,⟨.ref b,H,I,rfl,q1 hx⟩⟩
 ·exact i4 pins s σ H (.ref a) (.ref b) v u Q I rx ry ⟨a,b,xs,ys,rfl,rfl,ha,hb,hx,hz,q3,λ_=>q2⟩
end Nd
namespace Nd
open PySem PySem.Spec PyProof.Rows L2
end Nd
namespace Nd
open PySem L2
def EC(K:PySem.W.Frag):List V->Hp->VK->Prop:=λxs H Q=>∃x n t b,xs=[x,.ty n]/\TyOf K H x t/\PySem.W.kitOne K t (.type n)=some b/\Q (.bl b) H
theorem Qh{X:Cx}:Kx X (.builtin "isinstance") (EC X.K):=fM
theorem F4{K:PySem.W.Frag}{T:String}:PySem.W.kitOne K (.type T) (.type T)=some true:=by
 unfold PySem.W.kitOne
 rw[if_pos (by simp)]
theorem sz{n:Nat}(h:n<=1000:=by first | decide | simp | (simp; omega)):n<=Bd:=Lo (bT h)
theorem tN{D:Addr}{H1 H:Hp}{o:HO}(n:H1 D=none)(s:Lg H1 H):Lg H1 (upd H D o):=λb u e=>by
 rw[Ej (Ge e n)]; exact s _ _ e
end Nd
namespace Nd
open PySem PySem.Spec PyProof.Rows L2
theorem F8{K:PySem.W.Frag}{T n:String}{b:Bool}(h1:(Eh T == Eh n)=false)(h2:PySem.W.kitMeta n=true)(h3:(fastBuiltinMro T).map (λx=>x.contains (Eh n))=some b):PySem.W.kitOne K (.type T) (.type n)=some b:=by
 unfold PySem.W.kitOne PySem.W.kitCls
 rw[h1,if_neg (by decide)]
 dsimp only
 rw[if_pos h2]
 exact h3
theorem A1:∀{vs:List Value} {ns:List Int},Gc vs ns->Fk (ns.map V.int) vs
 | _,_,.nil=>.nil
 | _,_,.cons n t h=>.cons ⟨t,rfl⟩ (A1 h)
end Nd
namespace NdS
open PySem
theorem Xx{mask finger moves:Nat}{led plain:Bool}{hs:Array Int}{t:By}{order:Array Nat}(h:Io mask finger moves led plain hs=some (t,order)):t.led=led/\t.mask=mask/\t.plain=plain/\t.dummies=#[]:=by
 unfold Io at h
 cases hl:Ny mask hs with
 | none=>rw[hl] at h; cases h
 | some owner =>
  rw[hl] at h
  cases h
  exact ⟨rfl,rfl,rfl,rfl⟩
def st(m i:Nat):Nat:=(i * 5+1) % m
def it(m:Nat):Nat->Nat->Nat
 | 0,i=>i
 | t+1,i=>it m t (st m i)
theorem Zb(m:Nat):∀(a b i:Nat),it m (a+b) i=it m b (it m a i)
 | 0,b,i=>by rw[Hs]; rfl
 | a+1,b,i=>by rw[Wq]; exact Zb m a b (st m i)
def T6(m:Nat):Nat->Nat->List Nat
 | 0,_=>[]
 | f+1,i=>i::T6 m f (st m i)
theorem Xg{m:Nat}:∀{f i e:Nat},e∈T6 m f i->∃t,t<f/\it m t i=e
 | 0,_,_,h=>by cases h
 | f+1,i,e,h=>by
  rcases Am.mp h with z | z
  ·exact ⟨0,Rw _,z.symm⟩
  ·obtain ⟨t,h1,h2⟩:=Xg z
   exact ⟨t+1,Nat.succ_lt_succ h1,h2⟩
def Jc(m:Nat):Prop:=0<m/\it m m 0=0/\∀e,e<m->e∈T6 m m 0
theorem Oo{m:Nat}(h0:0<m)(h1:(it m m 0 == 0)=true)(h2:((Bc m).all λe=>(T6 m m 0).contains e)=true):Jc m :=
 ⟨h0,by simpa using h1,λe he=>by
  have:=List.all_eq_true.mp h2 e (Fh.mpr he)
  simpa using this⟩
theorem B3:Jc 8:=Oo (by decide) (by decide +kernel) (by decide +kernel)
theorem O1:Jc 16:=Oo (by decide) (by decide +kernel) (by decide +kernel)
theorem M3:Jc 32:=Oo (by decide) (by decide +kernel) (by decide +kernel)
theorem C5:Jc 64:=Oo (by decide) (by decide +kernel) (by decide +kernel)
theorem xZ:Jc 128:=Oo (by decide) (by decide +kernel) (by decide +kernel)
theorem mE:Jc 256:=Oo (by decide) (by decide +kernel) (by decide +kernel)
theorem cover{m:Nat}(g:Jc m){i e:Nat}(hi:i<m)(he:e<m):∃t,t<m/\it m t i=e:=by
 obtain ⟨h0,h1,h2⟩:=g
 obtain ⟨a,ha,ea⟩:=Xg (h2 i hi)
 obtain ⟨b,hb,eb⟩:=Xg (h2 e he)
 by_cases hab:a<=b
 ·refine ⟨b - a,by omega,?_⟩
  rw[<- ea,<- Zb,Nat.add_sub_cancel' hab]
  exact eb
 ·refine ⟨b+m - a,by omega,?_⟩
  rw[<- ea,<- Zb,show a+(b+m - a)=m+b by omega,Zb,h1]
  exact eb
def lp(m:Nat):Nat->Nat->Nat->Nat×Nat
 | 0,i,p=>(i,p)
 | t+1,i,p=>lp m t ((i * 5+1+p / 32) % m) (p / 32)
theorem uN(m:Nat):∀(a b i p:Nat),lp m (a+b) i p=lp m b (lp m a i p).1 (lp m a i p).2
 | 0,b,i,p=>by rw[Hs]; rfl
 | a+1,b,i,p=>by rw[Wq]; exact uN m a b _ _
theorem nM(m:Nat):∀(t i:Nat),lp m t i 0=(it m t i,0)
 | 0,_=>rfl
 | t+1,i=>nM m t (st m i)
theorem fP{m:Nat}:∀(n i p:Nat),p<32 ^ n->(lp m n i p).2=0
 | 0,i,p,h=>by show p=0; simpa using h
 | n+1,i,p,h=>fP n _ _ (by rw[Rx] at h; exact Nat.div_lt_of_lt_mul (by omega))
theorem x4{m:Nat}(h0:0<m):∀(n i p:Nat),i<m->(lp m n i p).1<m
 | 0,i,p,h=>h
 | n+1,i,p,h=>x4 h0 n _ _ (Mk _ h0)
theorem iA{m:Nat}(g:Jc m){i p e:Nat}(hi:i<m)(hp:p<2 ^ 64)(he:e<m):∃t,t<m+14/\(lp m t i p).1=e:=by
 have h13:=fP (m:=m) 13 i p (Bu hp (by decide))
 obtain ⟨t,ht,e1⟩:=cover g (x4 g.1 13 i p hi) he
 refine ⟨13+t,by omega,?_⟩
 rw[uN,h13,nM]
 exact e1
theorem Vc(mask i:Nat):i<=Ik mask i:=by unfold Ik; split <;> omega
theorem bL{mask:Nat}{owner:Array (Option Nat)}:∀(fuel i p t:Nat),t<fuel->(owner.getD (lp (mask+1) t i p).1 (some 0)).isNone=true->∃j,Js mask owner fuel i p=some j/\(owner.getD j (some 0)).isNone=true
 | 0,_,_,_,h,_=>absurd h (Ex _)
 | fuel+1,i,p,t,h,hn=>by
  unfold Js
  split
  ·rename_i k hk
   exact ⟨i+k,rfl,by have:=Rz hk; exact this⟩
  ·rename_i hk
   rw[List.find?_eq_none] at hk
   cases t with
   | zero =>
    have:=hk 0 (Fh.mpr (by have:=Vc mask i; omega))
    exact absurd hn (by simpa [lp] using this)
   | succ t =>
    exact bL fuel _ _ t (by omega) hn
theorem So{L:List (Option Nat)}:∀{j x:Nat},L[j]? = some none->((L.set j (some x)).filterMap id).Perm (x::L.filterMap id):=by
 induction L with
 | nil=>intro j x h; simp at h
 | cons a L ih =>
  intro j x h
  cases j with
  | zero =>
   simp at h
   subst h
   simp
  | succ j =>
   have h':L[j]? = some none:=by simpa using h
   have:=ih (x:=x) h'
   cases a with
   | none=>simpa using this
   | some b=>simpa using (List.Perm.cons b this).trans (Ht x b _)
theorem qL{L:List (Option Nat)}:(L.filterMap id).length<L.length->∃j:Nat,L[j]? = some none:=by
 induction L with
 | nil=>intro h; simp at h
 | cons a L ih =>
  intro h
  cases a with
  | none=>exact ⟨0,rfl⟩
  | some b =>
   have : (L.filterMap id).length<L.length:=by simpa using h
   obtain ⟨j,hj⟩:=ih this
   exact ⟨j+1,by simpa using hj⟩
theorem nL(h:Int):Dh h<2 ^ 64:=by
 unfold Dh
 have h1:=Int.emod_nonneg h (show (2 ^ 64:Int)≠0 by decide)
 have h2:=Int.emod_lt_of_pos h (show (0:Int)<2 ^ 64 by decide)
 omega
def M9(mask:Nat)(acc:Option (Array (Option Nat)×Nat))(h:Int):Option (Array (Option Nat)×Nat):=do
 let (owner,k) <- acc
 let j <- Js mask owner (Fs mask) (Dh h % (mask+1)) (Dh h)
 pure (owner.setIfInBounds j (some k),k+1)
theorem fY{mask:Nat}(g:Jc (mask+1)):∀(hs:List Int) (owner:Array (Option Nat)) (n:Nat),owner.size=mask+1->(owner.toList.filterMap id).Perm (Bc n)->n+hs.length<=mask->∃owner':Array (Option Nat),hs.foldl (M9 mask) (some (owner,n))=some (owner',n+hs.length)/\owner'.size=mask+1/\(owner'.toList.filterMap id).Perm (Bc (n+hs.length))
 | [],owner,n,h1,h2,_=>⟨owner,rfl,h1,h2⟩
 | h::hs,owner,n,h1,h2,h3=>by
  rw[Bf] at h3
  have len:(owner.toList.filterMap id).length=n:=by rw[h2.length_eq,Cb]
  obtain ⟨e,he⟩:=qL (L:=owner.toList) (by rw[len,Ai]; omega)
  have he':e<mask+1:=by
   have:=(Ap.mp he).1
   rw[Ai] at this
   omega
  obtain ⟨t,ht,et⟩:=iA g (i:=Dh h % (mask+1)) (p:=Dh h) (e:=e) (Mk _ g.1) (nL h) he'
  have hn:(owner.getD (lp (mask+1) t (Dh h % (mask+1)) (Dh h)).1 (some 0)).isNone=true:=by
   rw[et,Cm,<- Fm,he]
   rfl
  obtain ⟨j,ej,hj⟩:=bL (mask:=mask) (owner:=owner) (Fs mask) _ _ t (by unfold Fs; omega) hn
  have hj':owner.toList[j]? = some none:=by
   rw[Cm,<- Fm] at hj
   cases q:owner.toList[j]? with
   | none=>rw[q] at hj; simp at hj
   | some v =>
    rw[q] at hj
    cases v with
    | none=>rfl
    | some v=>simp at hj
  have e1:M9 mask (some (owner,n)) h=some (owner.setIfInBounds j (some n),n+1):=by
   show (do
    let j <- Js mask owner (Fs mask) (Dh h % (mask+1)) (Dh h)
    pure (owner.setIfInBounds j (some n),n+1))=_
   rw[ej]
   rfl
  rw[List.foldl_cons,e1]
  have p1:((owner.setIfInBounds j (some n)).toList.filterMap id).Perm (Bc (n+1)):=by
   rw[cH]
   refine (So hj').trans ?_
   rw[List.range_succ]
   exact (List.Perm.cons n h2).trans (Dq (l₁:=[n]) (l₂:=Bc n))
  obtain ⟨o',q1,q2,q3⟩:=fY g hs (owner.setIfInBounds j (some n)) (n+1) (by rw[Ow]; exact h1) p1 (by omega)
  refine ⟨o',?_,q2,?_⟩
  ·rw[q1,Bf]
   congr 2
   omega
  ·rw[Bf,show n+(hs.length+1)=n+1+hs.length by omega]
   exact q3
theorem gC{mask:Nat}(g:Jc (mask+1))(hs:Array Int)(hl:hs.size<=mask):∃owner:Array (Option Nat),Ny mask hs=some owner/\owner.size=mask+1/\(owner.toList.filterMap id).Perm (Bc hs.size):=by
 have h0:((Array.replicate (mask+1) (none:Option Nat)).toList.filterMap id).Perm (Bc 0):=by
  rw[Array.toList_replicate]
  simp
 obtain ⟨o,h1,h2,h3⟩:=fY g hs.toList (Array.replicate (mask+1) none) 0 (by simp) h0 (by simpa using hl)
 rw[Ai,Hs] at h1 h3
 refine ⟨o,?_,h2,h3⟩
 unfold Ny
 rw[<- Array.foldl_toList]
 show (hs.toList.foldl (M9 mask) (some (Array.replicate (mask+1) none,0))).map (·.1)=some o
 rw[h1]
 rfl
theorem jN(owner:Array (Option Nat)):((Bc owner.size).filterMap λj=>(owner.getD j none).map λx=>(j,x)).map (·.2)=owner.toList.filterMap id:=by
 obtain ⟨L⟩:=owner
 simp only[Aq]
 have h:∀(L:List (Option Nat)) (pre:List (Option Nat)),((List.range' pre.length L.length).filterMap λj=>(((pre++L)[j]?).getD none).map λx=>(j,x)).map (·.2)=L.filterMap id:=by
  intro L
  induction L with
  | nil=>intro pre; rfl
  | cons a L ih =>
   intro pre
   rw[Bf,Pt,Kk]
   have e:((pre++a::L)[pre.length]?).getD none=a:=by simp
   have ih':=ih (pre++[a])
   rw[Ax,Eu,Bg,List.singleton_append] at ih'
   cases a with
   | none =>
    simp only[e,Option.map_none,List.filterMap_cons_none,id]
    exact ih'
   | some b =>
    simp only[e,Option.map_some,Bh,List.filterMap_cons_some,id]
    rw[ih']
    simp
 have:=h L []
 rw[Ks,<- Jx,List.nil_append] at this
 rw[<- this]
 congr 1
 congr 1
 funext j
 rw[Cm]
 simp
theorem yQ{mask finger moves:Nat}{led plain:Bool}(g:Jc (mask+1))(hs:Array Int)(hl:hs.size<=mask):∃(t:By) (order:Array Nat),Io mask finger moves led plain hs=some (t,order)/\order.toList.Perm (Bc hs.size)/\t.fits hs.size=true/\t.led=led:=by
 obtain ⟨o,h1,h2,h3⟩:=gC g hs hl
 have e:Io mask finger moves led plain hs=some ({ mask:=mask,place:=(((Bc (mask+1)).filterMap λj=>(o.getD j none).map λx=>(j,x)).map (·.1)).toArray,dummies:=#[],finger:=finger,led:=led,moves:=moves,plain:=plain },
   (((Bc (mask+1)).filterMap λj=>(o.getD j none).map λx=>(j,x)).map (·.2)).toArray):=by
  unfold Io
  rw[h1]
  rfl
 have lo:=jN o
 rw[h2] at lo
 have len:((Bc (mask+1)).filterMap λj=>(o.getD j none).map λx=>(j,x)).length=hs.size:=by
  have:=congrArg Ip lo
  rw[Ac,h3.length_eq,Cb] at this
  exact this
 refine ⟨_,_,e,by rw[List.toList_toArray,lo]; exact h3,?_,rfl⟩
 simp only[SetTable.fits,SetTable.fill,Aq,Ac,len,Gx,beq_self_eq_true,true_and,decide_eq_true_eq]
 show hs.size+0<=mask
 omega
theorem F5{α:Type}(es:Array α){order:Array Nat}(p:order.toList.Perm (Bc es.size)):(order.filterMap (es[·]?)).toList.Perm es.toList/\(order.filterMap (es[·]?)).size=es.size:=by
 have e:(order.filterMap (es[·]?)).toList.Perm es.toList:=by
  rw[Array.toList_filterMap]
  have:=p.filterMap (es[·]?)
  rw[filterMap_getElem?_range] at this
  exact this
 exact ⟨e,by rw[<- Ai,e.length_eq,Ai]⟩
abbrev dU(p:Array Nat):Prop:=p.toList.Pairwise (· < ·)
theorem Rc{p:Array Nat}(r:dU p){i j:Nat}(h:i<j)(hj:j<p.size):p[i]'(by omega)<p[j]:=by
 have:=Dz.mp r i j (by rw[Ai]; omega) (by rw[Ai]; exact hj) h
 simpa using this
structure Below(p:Array Nat)(j b:Nat):Prop where
 le:b<=p.size
 lo:∀i (h:i<p.size),i<b->p[i]<j
 hi:∀i (h:i<p.size),b<=i->j<=p[i]
theorem Yb{p:Array Nat}{j:Nat}(r:dU p):∀(fuel lo hi:Nat),hi<=p.size->lo<=hi->hi - lo<=fuel->(∀i (h:i<p.size),i<lo->p[i]<j)->(∀i (h:i<p.size),hi<=i->j<=p[i])->Below p j (Qz p j fuel lo hi)
 | 0,lo,hi,h1,h2,h3,h4,h5=>by
  unfold Qz
  have e:lo=hi:=by omega
  exact ⟨by omega,λi h hl=>h4 i h hl,λi h hl=>h5 i h (by omega)⟩
 | fuel+1,lo,hi,h1,h2,h3,h4,h5=>by
  unfold Qz
  split
  ·rename_i hl
   have hm:(lo+hi) / 2<p.size:=by omega
   have e:p.getD ((lo+hi) / 2) j=p[(lo+hi) / 2]:=by simp [Array.getD,hm]
   dsimp only
   rw[e]
   split
   ·rename_i hc
    refine Yb r fuel _ hi h1 (by omega) (by omega) (λi h hi'=>?_) h5
    by_cases z:i=(lo+hi) / 2
    ·subst z; exact hc
    ·exact Nat.lt_trans (Rc r (show i<(lo+hi) / 2 by omega) hm) hc
   ·rename_i hc
    refine Yb r fuel lo _ (by omega) (by omega) (by omega) h4 (λi h hi'=>?_)
    by_cases z:i=(lo+hi) / 2
    ·subst z; omega
    ·exact Cf (by omega) (Lo (Rc r (show (lo+hi) / 2<i by omega) h))
  ·exact ⟨by omega,λi h hl=>h4 i h hl,λi h hl=>h5 i h (by omega)⟩
theorem Uh{p:Array Nat}(r:dU p)(j:Nat):Below p j (Ca p j) :=
 Yb r _ _ _ (Ah _) (Cy _) (by omega) (λi h hl=>absurd hl (Ex _)) (λi h hl=>absurd hl (by omega))
theorem Below.eq{p:Array Nat}{j b b':Nat}(x:Below p j b)(y:Below p j b'):b=b':=by
 rcases Nat.lt_trichotomy b b' with z | z | z
 ·have h:b<p.size:=Bu z y.le
  exact absurd (y.lo b h z) (Nat.not_lt.mpr (x.hi b h (Ah _)))
 ·exact z
 ·have h:b'<p.size:=Bu z x.le
  exact absurd (x.lo b' h z) (Nat.not_lt.mpr (y.hi b' h (Ah _)))
theorem fL{p:Array Nat}(r:dU p):Ca p 0=0 :=
 (Uh r 0).eq ⟨Cy _,λi h hl=>absurd hl (Ex _),λi h _=>Cy _⟩
theorem kA{p:Array Nat}(r:dU p){i:Nat}(h:i<p.size):Ca p (p[i]+1)=i+1 :=
 (Uh r _).eq ⟨h,λk hk hl=>by
  by_cases z:k=i
  ·subst z; exact Qb _
  ·exact Jp (Rc r (show k<i by omega) h),λk hk hl=>Rc r (show i<k by omega) hk⟩
structure TabOk(n:Nat)(t:By):Prop where
 good:Jc (t.mask+1)
 dum:t.dummies=#[]
 plain:t.plain=true
 rise:dU t.place
 top:∀j∈t.place.toList,j<=t.mask
 size:t.place.size=n
structure Tab(n:Nat)(t:By):Prop extends TabOk n t where
 room:n * 5<t.mask * 3
theorem Xk{t:By}{n:Nat}(x:Tab n t):n+1<=t.mask:=by have:=x.room; omega
theorem TabOk.fits{t:By}{n:Nat}(x:TabOk n t)(h:n<=t.mask):t.fits n=true:=by
 simp only[SetTable.fits,SetTable.fill,x.dum,x.size,Gx,beq_self_eq_true,true_and,decide_eq_true_eq]
 show n+0<=t.mask
 omega
theorem Tab.fits{t:By}{n:Nat}(x:Tab n t):t.fits n=true:=x.toTabOk.fits (by have:=Xk x; omega)
theorem Sv{t:By}{n j:Nat}(x:TabOk n t):t.slot j=.empty↔j∉t.place.toList:=by
 have nd:SetTable.has t.dummies j=false:=by rw[x.dum]; rfl
 unfold SetTable.slot
 dsimp only
 rw[nd]
 constructor
 ·intro h hm
  obtain ⟨i,hi,e⟩:=Gi.mp hm
  rw[Ai] at hi
  have e':t.place[i]=j:=by simpa using e
  have b:Ca t.place j=i:=(Uh x.rise j).eq ⟨Lo hi,λk hk hl=>by rw[<- e']; exact Rc x.rise hl hi,λk hk hl=>by
   by_cases z:i=k
   ·subst z; exact Nat.le_of_eq e'.symm
   ·rw[<- e']; exact Lo (Rc x.rise (show i<k by omega) hk)⟩
  rw[b,Fl hi,e',if_pos (by simp)] at h
  cases h
 ·intro h
  rw[if_neg (λz=>h ?_)]
  ·rfl
  ·have z':t.place[Ca t.place j]? = some j:=by simpa using z
   have:=Array.mem_of_getElem? z'
   exact Array.mem_def.mp this
theorem Zu{t:By}{n j:Nat}(x:TabOk n t):t.slot j≠.dummy:=by
 have nd:SetTable.has t.dummies j=false:=by rw[x.dum]; rfl
 unfold SetTable.slot
 dsimp only
 rw[nd]
 split
 ·intro h; cases h
 ·intro h; cases h
theorem bS{mask i:Nat}(h:i<=mask):Ik mask i<=mask:=by unfold Ik; split <;> omega
theorem Vt(mask i:Nat):Ik mask i - i<=9:=by unfold Ik; split <;> omega
theorem lZ(mask i p:Nat):SetTable.leap mask i p=((i * 5+1+p / 32) % (mask+1),p / 32):=rfl
theorem sE:∀{l1 l2:List Nat},l1.Nodup->(∀e∈l1,e∈l2)->l1.length<=l2.length
 | [],_,_,_=>Cy _
 | a::l1,l2,nd,h=>by
  have nd':=Bs.mp nd
  have ha:=h a (Aa ..)
  have:=sE (l2:=l2.erase a) nd'.2 λe he=>(List.mem_erase_of_ne (show e≠a from λz=>nd'.1 (by rw[<- z]; exact he))).mpr (h e (Ad _ he))
  rw[iX ha] at this
  have p:0<l2.length:=lQ ha
  rw[Bf]
  omega
theorem j6{m:Nat}{l:List Nat}(nd:l.Pairwise (· < ·))(h:l.length<m):∃e,e<m/\e∉l:=by
 refine Zy λz=>?_
 have all:∀e,e∈Bc m->e∈l:=λe he=>Zy λq=>z ⟨e,Fh.mp he,q⟩
 have:=sE List.nodup_range all
 rw[Cb] at this
 omega
theorem gS{p:Array Nat}(r:dU p){j:Nat}(h:j∉p.toList):dU (Df p (Ca p j) j):=by
  have b:=Uh r j
  show (Df p (Ca p j) j).toList.Pairwise (· < ·)
  rw[SetTable.toList_insertAt]
  have r1:(p.toList.take (Ca p j)).Pairwise (· < ·):=r.sublist (Jk _ _)
  have r2:(p.toList.drop (Ca p j)).Pairwise (· < ·):=r.sublist (Hq _ _)
  have lo:∀e∈p.toList.take (Ca p j),e<j:=λe he=>by
    obtain ⟨i,hi,ei⟩:=eY.mp he
    rw[Ai] at hi
    have:=b.lo i (by omega) (by omega)
    rw[<- ei]
    simpa using this
  have hi:∀e∈p.toList.drop (Ca p j),j<e:=λe he=>by
    have hm:e∈p.toList:=List.mem_of_mem_drop he
    obtain ⟨i,hi,ei⟩:=List.mem_drop_iff_getElem.mp he
    rw[Ai] at hi
    have:=b.hi (i+Ca p j) (by omega) (by omega)
    have e1:j<=e:=by
      rw[<- ei]
      simpa [Nat.add_comm] using this
    exact Nat.lt_of_le_of_ne e1 λz=>h (by rw[z]; exact hm)
  simp only[List.pairwise_append,List.pairwise_cons,Am,List.mem_append]
  first
    | exact ⟨r1,⟨hi,r2⟩,λa ha c hc=>by
        rcases hc with z | z
        · rw[z]; exact lo a ha
        · exact Nat.lt_trans (lo a ha) (hi c z)⟩
    | (refine ⟨⟨r1,⟨by simp,Do⟩,λa ha c hc=>?_⟩,r2,λa ha c hc=>?_⟩
       · have z:c=j:=by simpa using hc
         rw[z]; exact lo a ha
       · rcases ha with z | z | z
         · exact Nat.lt_trans (lo a z) (hi c hc)
         · rw[z]; exact hi c hc
         · cases z)
theorem pN{mask finger moves:Nat}{led plain:Bool}{hs:Array Int}{t:By}{order:Array Nat}(h:Io mask finger moves led plain hs=some (t,order)):dU t.place/\(∀j∈t.place.toList,j<=mask):=by
 unfold Io at h
 cases hl:Ny mask hs with
 | none=>rw[hl] at h; cases h
 | some owner =>
  rw[hl] at h
  cases h
  have sub:∀(l:List Nat),l.Pairwise (· < ·)->(((l.filterMap λj=>(owner.getD j none).map λx=>(j,x)).map (·.1)).Pairwise (· < ·))/\∀j∈((l.filterMap λj=>(owner.getD j none).map λx=>(j,x)).map (·.1)),j∈l:=by
   intro l hl
   have m:∀j∈((l.filterMap λj=>(owner.getD j none).map λx=>(j,x)).map (·.1)),j∈l:=λj hj=>by
    obtain ⟨q,hq,rfl⟩:=Cs.mp hj
    obtain ⟨k,hk,ek⟩:=Wa.mp hq
    cases hg:owner.getD k none with
    | none=>rw[hg] at ek; cases ek
    | some v=>rw[hg] at ek; cases ek; exact hk
   refine ⟨?_,m⟩
   clear m
   induction l with
   | nil=>exact Do
   | cons a l ih =>
    have hl':=Bm.mp hl
    have ih':=ih hl'.2
    rw[Kk]
    cases hg:owner.getD a none with
    | none=>simpa [hg] using ih'
    | some v =>
     simp only[Option.map_some,Bh,List.pairwise_cons]
     refine ⟨λj hj=>?_,ih'⟩
     obtain ⟨q,hq,rfl⟩:=Cs.mp hj
     obtain ⟨k,hk,ek⟩:=Wa.mp hq
     cases hg2:owner.getD k none with
     | none=>rw[hg2] at ek; cases ek
     | some v2=>rw[hg2] at ek; cases ek; exact hl'.1 k hk
  obtain ⟨s1,s2⟩:=sub (Bc (mask+1)) List.pairwise_lt_range
  exact ⟨s1,λj hj=>cE.mp (Fh.mp (s2 j hj))⟩
theorem tY{mask finger moves:Nat}{led:Bool}(g:Jc (mask+1))(hs:Array Int)(hl:hs.size * 5<mask * 3):∃(t:By) (order:Array Nat),Io mask finger moves led true hs=some (t,order)/\order.toList.Perm (Bc hs.size)/\Tab hs.size t/\t.led=led:=by
 obtain ⟨t,order,h1,h2,h3,h4⟩:=yQ (finger:=finger) (moves:=moves) (led:=led) (plain:=true) g hs (by omega)
 obtain ⟨l1,l2,l3,l4⟩:=Xx h1
 obtain ⟨r1,r2⟩:=pN h1
 have sz:t.place.size=hs.size:=by
  have:=h3
  simp only[SetTable.fits,Gx,beq_iff_eq] at this
  exact this.1
 exact ⟨t,order,h1,h2,⟨⟨by rw[l2]; exact g,l4,l3,r1,by rw[l2]; exact r2,sz⟩,by rw[l2]; exact hl⟩,l1⟩
abbrev bt(w:World):Bool:=w.params.followText "set-order"
def V7:Int×Value->Int
 | (_,.int k _)=>k
 | _=>0
def W6(e:Int×Value):Prop:=∃k tk,e=(hashInt k,Nm k tk)
abbrev n9(es:Array (Int×Value)):List Int:=es.toList.map V7
abbrev Ig(es:Array (Int×Value))(ep:Nat)(t:By):Obj:={ cls:=.type "set",dict:=none,data:=.set es ep t }
structure SetS(w:World)(h:Heap)(a:Addr)(es:Array (Int×Value))(ep:Nat)(t:By):Prop where
 obj:h.get? a=some (Ig es ep t)
 ent:∀e∈es.toList,W6 e
 nd:(n9 es).Nodup
 tab:Tab es.size t
 led:bt w=false->t.led=true
 few:es.size<64
def ins(k:Int)(l:List Int):List Int:=if k∈l then l else k::l
theorem nO{es:Array (Int×Value)}{ep:Nat}{t:By}(es':Array (Int×Value))(t':By):Wp es' t' (Ig es ep t)=Ig es' (ep+1) t':=putSet_of es' t' rfl
theorem lV{h:Heap}{a:Addr}{es:Array (Int×Value)}{ep:Nat}{t:By}(ho:h.get? a=some (Ig es ep t))(es':Array (Int×Value))(t':By):(h.update a (Wp es' t')).get? a=some (Ig es' (ep+1) t'):=by
 have:=Lv (Wp es' t') ho (by rw[nO]; rfl)
 rw[nO] at this
 exact this
theorem Kj{α:Type}:∀{l:List α} {i:Nat} (h:i<l.length),(l[i]::l.eraseIdx i).Perm l
 | [],_,h=>absurd h (Ex _)
 | a::l,0,h=>Gp _
 | a::l,i+1,h=>by
  have:=Kj (l:=l) (i:=i) (by simpa using h)
  exact (Ht a _ _).trans (List.Perm.cons a this)
theorem lX{α:Type}(next:Nat->Nat):∀(fuel k:Nat) (left:List α) (out:Array α),left.length=fuel->(pickOrder.go next fuel k left out).toList.Perm (out.toList++left)
 | 0,k,left,out,h=>by
  unfold pickOrder.go
  have : left=[]:=aE h
  subst this
  simp
 | fuel+1,k,left,out,h=>by
  unfold pickOrder.go
  have hi:next k % left.length<left.length:=Mk _ (by omega)
  rw[Bw hi]
  dsimp only
  refine (lX next fuel (k+1) _ _ (by rw[List.length_eraseIdx,if_pos hi]; omega)).trans ?_
  rw[Hl,Bg]
  exact Gv _ (Kj hi)
theorem rK{α:Type}(next:Nat->Nat)(xs:Array α):(pickOrder next xs).toList.Perm xs.toList:=by
 unfold pickOrder
 simpa using lX next xs.size 0 xs.toList #[] (by simp)
section
variable{prog:Bj}{w:World}{A:Cp}{E:Value->Aj->Prop}{s:Aj}
theorem Vg{Q:Bool->Aj->Prop}(h:Q (bt w) s):wpAny (model prog w) A setsByText Q E s:=by
 unfold setsByText
 exact Ab (Si (Al h))
theorem qF{a:Addr}{es:Array (Int×Value)}{ep:Nat}:(if bt w then pickOrder (w.params.setOrder a ep) es else es).toList.Perm es.toList:=by
 cases bt w with
 | true=>exact rK _ _
 | false=>exact Gp _
end
theorem len_leI:∀{l1 l2:List Int},l1.Nodup->(∀e∈l1,e∈l2)->l1.length<=l2.length
 | [],_,_,_=>Cy _
 | a::l1,l2,nd,h=>by
  have nd':=Bs.mp nd
  have ha:=h a (Aa ..)
  have:=len_leI (l2:=l2.erase a) nd'.2 λe he=>(List.mem_erase_of_ne (show e≠a from λz=>nd'.1 (by rw[<- z]; exact he))).mpr (h e (Ad _ he))
  rw[iX ha] at this
  have p:0<l2.length:=lQ ha
  rw[Bf]
  omega
theorem Wl:isSubtype (.type "set") (.type "set")=pure true:=by rw[isSubtype_type]; kernel_rfl
end NdS
namespace NdS
open PySem PyProof.Rows
section
variable{prog:Bj}{w:World}{A:Cp}{E:Value->Aj->Prop}{s:Aj}
theorem sC(v:Value){Q:Value->Aj->Prop}(h:Q (.ref s.heap.objs.size) { s with heap:=s.heap.push (Ig #[] 0 (.fresh 0 0 (!bt w))) }):Hm (model prog w) A (.call (.builtin "set.__new__") ⟨[.type "set",v],[]⟩) (wants Q E) s:=by
 have sub:=Wl
 obtain ⟨hp,g,d,tk,os⟩:=s
 refine Ut (show wpAny _ A.in1 (do checkBuiltinCall "set.__new__" ⟨[.type "set",v],[]⟩; again (.builtin "set.__new__" ⟨[.type "set",v],[]⟩)) _ _ _ from ?_)
 refine Ab (Km (PySem.F.newCall_set_1 v) (Al ⟨Zw PySem.F.plain_set_new _,Jr PySem.F.entry_set_new ?_⟩))
 rw[Hk PySem.F.plain_set_new _]
 unfold Builtin.«set.__new__» Builtin.Frozenset.newClass
 dsimp only
 wp_walk
 refine Si (Al ?_)
 dsimp only
 simp only[newObj]
 exact Ab (wpAny_alloc (Al (Al h)))
end
theorem Rh:Slot "set_iterator" "__next__" "set_iterator.__next__" :=
 .of (owner := "set_iterator") (n := "__next__") (by rw[typeLookup_type,builtinLookup_eq_fast]; kernel_rfl) (by decide +kernel) (by decide +kernel) (by decide +kernel) (by first | exact .inl (by decide +kernel) | exact .inr (by decide +kernel)) (by rw[isSubtype_type]; kernel_rfl)
theorem Zr:entryFor table "set_iterator.__next__" = some Builtin.«set_iterator.__next__»:=entryFor_of_tree (by kernel_rfl)
theorem bR(a:Value):argsOk "set_iterator.__next__" ⟨[a],[]⟩:=by unfold argsOk; kernel_rfl
theorem jO:entryFor table "set.__iter__" = some Builtin.«frozenset.__iter__» :=
 entryFor_alias (id' := "frozenset.__iter__") (by kernel_rfl) (by first | rfl | decide +kernel) (by decide +kernel) (by kernel_rfl)
abbrev nX(f i:Nat)(a:Addr)(n ep:Nat):Obj:={ cls:=.type "set_iterator",data:=.fields #[Mf f,Mf i,.ref a,Mf n,Mf ep] }
def arrOf(w:World)(a:Addr)(ep:Nat)(es:Array (Int×Value)):Array (Int×Value):=if bt w then pickOrder (w.params.setOrder a ep) es else es
theorem fF{w:World}{a:Addr}{ep:Nat}{es:Array (Int×Value)}:(arrOf w a ep es).toList.Perm es.toList:=qF
theorem Om{w:World}{a:Addr}{ep:Nat}{es:Array (Int×Value)}:(arrOf w a ep es).size=es.size:=by
 have:=(fF (w:=w) (a:=a) (ep:=ep) (es:=es)).length_eq
 rw[Ai,Ai] at this
 exact this
theorem bD:Slot "set_iterator" "__iter__" "set_iterator.__iter__" :=
 .of (owner := "set_iterator") (n := "__iter__") (by rw[typeLookup_type,builtinLookup_eq_fast]; kernel_rfl) (by decide +kernel) (by decide +kernel) (by decide +kernel) (by first | exact .inl (by decide +kernel) | exact .inr (by decide +kernel)) (by rw[isSubtype_type]; kernel_rfl)
theorem jJ:entryFor table "set_iterator.__iter__" = some Builtin.«dict_keyiterator.__iter__» :=
 entryFor_alias (id' := "dict_keyiterator.__iter__") (by kernel_rfl) (by first | rfl | decide +kernel) (by decide +kernel) (by kernel_rfl)
theorem qQ(a:Value):argsOk "set_iterator.__iter__" ⟨[a],[]⟩:=by unfold argsOk; kernel_rfl
section
variable{prog:Bj}{w:World}{A:Cp}{E:Value->Aj->Prop}{s:Aj}
theorem wF{r:Addr}{Q:Bool->Aj->Prop}(hT:s.TypeIs (.ref r) "set")(h:Q false s):wpAny (model prog w) A (Va (.ref r)) Q E s:=by
 unfold Va
 refine Ab (wpAny_specialOf hT PySem.F.slot_set_len.lookup ?_)
 generalize hid:("set.__len__" : String)=id0
 wp_delta
 rw[show splitId id0=some ("set", "__len__") from by subst hid; decide +kernel]
 subst hid
 refine Ab (wpAny_isInstance (T := "set") (b:=true) hT Wl ?_)
 refine wpAny_ite_split (λz=>absurd z (by decide)) (λ_=>wpAny_ite_split (λ_=>?_) (λz=>absurd (by decide +kernel) z))
 exact Ab (Kq hT (Al h))
end
end NdS
namespace Nd
open PySem PySem.Spec PyProof.Rows L2 NdS
def W1(w:World)(a:Addr)(ks:List Int)(h:Heap):Prop:=∃es ep t,SetS w h a es ep t/\∀x,x∈n9 es↔x∈ks
abbrev CQ(w:World)(a:Addr)(ks:List Int):HO:=.ext (W1 w a ks)
end Nd
namespace Nd
open PySem L2
def Wk(d:Addr)(H H':Hp):Prop:=∀b o,b≠d->H b=some o->H' b=some o
theorem Wk.trans{d:Addr}{H H1 H2:Hp}(a:Wk d H H1)(b:Wk d H1 H2):Wk d H H2:=λc o n h=>b c o n (a c o n h)
theorem Wk.upd{d:Addr}{H:Hp}{o:HO}:Wk d H (upd H d o):=λb o n h=>by rw[Ej n]; exact h
theorem aA{n:Nat}(h:n<=1000000):n<=Bd:=by rw[Ia]; omega
theorem Xn(a b:Int)(h:0<b):0<=a % b/\a % b<b:=⟨Int.emod_nonneg _ (by omega),Int.emod_lt_of_pos _ h⟩
def Ic(h:Int)(ns:List Int):Prop:=ns.Pairwise (· < ·)/\∀x∈ns,0<=x/\x<h
theorem Ic.nil(h:Int):Ic h []:=⟨Do,λx hx=>by cases hx⟩
theorem Ic.more{h:Int}{ns:List Int}(r:Ic h ns)(h0:0<=h):Ic (h+1) (ns++[h]) :=
 ⟨Cg.mpr ⟨r.1,El _ _,λa ha b hb=>by rw[Ae.mp hb]; exact (r.2 a ha).2⟩,λx hx=>by
  rcases Ay.mp hx with z | z
  ·have:=r.2 x z; omega
  ·have:=Ae.mp z; omega⟩
theorem Ic.up{h h':Int}{ns:List Int}(r:Ic h ns)(l:h<=h'):Ic h' ns:=⟨r.1,λx hx=>by have:=r.2 x hx; omega⟩
def aP(H:Hp)(d:Addr)(c k:Int)(f:Bool):Prop:=H d=some (.lst [.int c,.int k,.bl f])
def mV:Sp:=λvs H Q _=>∃c:Int,vs=[.int c]/\∀(p:Addr) (f:Bool) (H':Hp),H p=none->aP H' p c 0 f->Lg H H'->Q (.ref p) H'
def uS:Sp:=λvs H Q _=>∃(d:Addr) (c k:Int) (f:Bool),vs=[.ref d]/\aP H d c k f/\0<=k/\k<=1000000/\∀(r c':Int) (H':Hp),aP H' d c' (k+1) f->Wk d H H'->Q (.int r) H'
def Bt(ns:List Int):Af:=.tuple (ns.map Br)
theorem kH(ns:List Int):(Bt ns).depth<=1:=by
 have : (Bt ns).depth<=Bl (ns.map Br)+1:=by simp [Bt,Cv]
 rw[jC] at this
 exact this
def EY:List Int:=(Bc 60).map λi:Nat=>(i:Int)
theorem j8{x:Int}(h0:0<=x)(h1:x<60):x∈EY:=Cs.mpr ⟨x.toNat,Fh.mpr (by omega),by omega⟩
theorem yB(TD:List Af):Dx (.list TD) (.list [])=TD.isEmpty:=by cases TD <;> simp [Dx,Kw]
def xP(b:Bool):Str:=if b=true then "back" else "front"
def order{α:Type}(a b:α)(l:List α):Option Bool->List α
 | none=>l
 | some true=>[a,b]
 | some false=>[b,a]
structure TD(K:PySem.W.Frag)(H:Hp)(x:V)(d:Af)(n m:Nat):Prop where
 rd:RdV K H x d
 fits:AC 22 d
 nd:t9 d<=n
 dp:d.depth<=m
abbrev Y4(K:PySem.W.Frag):List V->Hp->VK->Prop:=λxs H Q=>∃p ys,xs=[V.ref p]/\(Ov K H p ys\/Tg K H p ys)/\Q (.int ys.length) H
theorem N3{X:Cx}:Kx X (.builtin "len") (Y4 X.K):=cR
end Nd
namespace DL
open PySem L2 Nd
def KL(K:PySem.W.Frag)(H:Hp)(a:Addr)(xs:List V):Prop :=
 (∃o,H a=some (.frz o (.lst xs)))\/∃(its:Array Value) (n:Nat),K.lookup a=some { cls:=.type "list",data:=.seq its n }/\its.size<=Bd/\Fk xs its.toList
def Zt:Nat->Af
 | 0=>.none
 | n+1=>.tuple [Zt n]
def Q8(ks:List (List Int×Af)):List (Af×Af):=(Zt 100,.none)::ks.map λp=>(Bt p.1,p.2)
def DD(ks:List (Int×Af)):List (Af×Af):=(Zt 100,.bool true)::ks.map λp=>(.int p.1,p.2)
def BJ(a:Addr)(ks:List (List Int×Af)):List (Af×Af):=(Zt 100,.int a)::ks.map λp=>(Bt p.1,p.2)
def uH(w:List Int):List Xh:=w.map Rv
mutual
inductive RdF (K:PySem.W.Frag) (H:Hp):V->Af->List Addr->Prop
 | non:RdF K H .non .none []
 | bl (b:Bool):RdF K H (.bl b) (.bool b) []
 | int (i:Int):RdF K H (.int i) (.int i) []
 | str (x:Str):RdF K H (.str x) (.str x) []
 | lst {a:Addr} {xs:List V} {ds:List Af} {F:List Addr}:H a=some (.lst xs)->ds.length<=Bd->RdFs K H xs ds F->RdF K H (.ref a) (.list ds) (a::F)
 | tup {a:Addr} {xs:List V} {ds:List Af} {F:List Addr}:H a=some (.tup xs)->ds.length<=Bd->RdFs K H xs ds F->RdF K H (.ref a) (.tuple ds) F
 | dic {a:Addr} {kv:List (List Xh×V)} {ks:List (List Int×Af)}:H a=some (.dT kv)->kv.map (·.1)=ks.map (λp=>uH p.1)->RdFs K H (kv.map (·.2)) (ks.map (·.2)) []->RdF K H (.ref a) (.dict (Q8 ks)) [a]
 | dik {a:Addr} {kv:List (Xh×V)} {ks:List (Int×Af)}:H a=some (.dK kv)->kv.map (·.1)=ks.map (λp=>(Rv p.1:Xh))->RdFs K H (kv.map (·.2)) (ks.map (·.2)) []->RdF K H (.ref a) (.dict (DD ks)) [a]
 | dnm {a:Addr} {kv:List (List Xh×V)} {ks:List (List Int×Af)}:H a=some (.dT kv)->kv.map (·.1)=ks.map (λp=>uH p.1)->RdFs K H (kv.map (·.2)) (ks.map (·.2)) []->RdF K H (.ref a) (.dict (BJ a ks)) [a]
inductive RdFs (K:PySem.W.Frag) (H:Hp):List V->List Af->List Addr->Prop
 | nil:RdFs K H [] [] []
 | cons {x:V} {d:Af} {xs:List V} {ds:List Af} {F G:List Addr}:RdF K H x d F->RdFs K H xs ds G->RdFs K H (x::xs) (d::ds) (F++G)
end
def AX(o:HO):Prop:=(∃xs,o=.tup xs)\/∃ob u,o=.frz ob u
def Kp(F:List Addr)(H H':Hp):Prop:=∀b o,H b=some o->(b∈F\/AX o)->H' b=some o
theorem Kp.of{F:List Addr}{H H':Hp}(s:Lg H H'):Kp F H H':=λb o e _=>s b o e
theorem Kp.sub{F G:List Addr}{H H':Hp}(k:Kp F H H')(h:∀a∈G,a∈F):Kp G H H':=λb o e z=>k b o e (z.imp (h b) id)
section
variable{K:PySem.W.Frag}{H H':Hp}
theorem KL.kp{a:Addr}{xs:List V}{F:List Addr}(h:KL K H a xs)(k:Kp F H H'):KL K H' a xs:=by
 rcases h with ⟨o,h⟩ | h
 ·exact .inl ⟨o,k _ _ h (.inr (.inr ⟨_,_,rfl⟩))⟩
 ·exact .inr h
theorem KL.sq{a:Addr}{xs:List V}(h:KL K H a xs):Ov K H a xs:=by
 rcases h with ⟨o,h⟩ | ⟨its,n,h,hz,r⟩
 ·exact .inl (.inr ⟨o,h⟩)
 ·exact .inr ⟨_,its,n,h,rfl,rfl,rfl,hz,r⟩
mutual
theorem RdF.kp:∀{v:V} {d:Af} {F:List Addr},RdF K H v d F->Kp F H H'->RdF K H' v d F
 | _,_,_,.non,_=>.non
 | _,_,_,.bl b,_=>.bl b
 | _,_,_,.int i,_=>.int i
 | _,_,_,.str x,_=>.str x
 | _,_,_,.lst h l hs,k=>.lst (k _ _ h (.inl Aa)) l (RdFs.kp hs (k.sub λ_ z=>Ad _ z))
 | _,_,_,.tup h l hs,k=>.tup (k _ _ h (.inr (.inl ⟨_,rfl⟩))) l (RdFs.kp hs k)
 | _,_,_,.dic h e hs,k=>.dic (k _ _ h (.inl Aa)) e (RdFs.kp hs (k.sub λ_ z=>nomatch z))
 | _,_,_,.dik h e hs,k=>.dik (k _ _ h (.inl Aa)) e (RdFs.kp hs (k.sub λ_ z=>nomatch z))
 | _,_,_,.dnm h e hs,k=>.dnm (k _ _ h (.inl Aa)) e (RdFs.kp hs (k.sub λ_ z=>nomatch z))
theorem RdFs.kp:∀{v:List V} {d:List Af} {F:List Addr},RdFs K H v d F->Kp F H H'->RdFs K H' v d F
 | _,_,_,.nil,_=>.nil
 | _,_,_,.cons h hs,k=>.cons (RdF.kp h (k.sub λ_ z=>An _ z)) (RdFs.kp hs (k.sub λ_ z=>Ag _ z))
end
theorem Nt:∀n,(Zt n).depth=n
 | 0=>by simp [Zt,Cv]
 | n+1=>by
  have:=Nt n
  simp only[Zt,Cv,Bl,this]
  omega
theorem tP{ks:List (Int×Af)}:100<=(PyData.dict (DD ks)).depth:=by
 have:=Nt 100
 simp only[DD,Cv,PyData.depthKv,this]
 omega
theorem xR{a:Addr}{ks:List (List Int×Af)}:100<=(PyData.dict (BJ a ks)).depth:=by
 have:=Nt 100
 simp only[BJ,Cv,PyData.depthKv,this]
 omega
theorem vU{ks:List (List Int×Af)}:100<=(PyData.dict (Q8 ks)).depth:=by
 have:=Nt 100
 simp only[Q8,Cv,PyData.depthKv,this]
 omega
mutual
theorem RdF.rd:∀{v:V} {d:Af} {F:List Addr},RdF K H v d F->d.depth<=90->RdV K H v d
 | _,_,_,.non,_=>.non
 | _,_,_,.bl b,_=>.bl b
 | _,_,_,.int i,_=>.int i
 | _,_,_,.str x,_=>.str x
 | _,_,_,.lst h l hs,z=>.lst (Ov.of h) (RdFs.rd hs (by simp only[Cv] at z; omega))
 | _,_,_,.tup h l hs,z=>.tup (Tg.of h) (RdFs.rd hs (by simp only[Cv] at z; omega))
 | _,_,_,.dic h e hs,z=>absurd (Cf vU z) (by decide)
 | _,_,_,.dik h e hs,z=>absurd (Cf tP z) (by decide)
 | _,_,_,.dnm h e hs,z=>absurd (Cf xR z) (by decide)
theorem RdFs.rd:∀{v:List V} {d:List Af} {F:List Addr},RdFs K H v d F->Bl d<=90->RdVs K H v d
 | _,_,_,.nil,_=>.nil
 | _,_,_,.cons h hs,z=>.cons (RdF.rd h (by simp only[Bl] at z; omega)) (RdFs.rd hs (by simp only[Bl] at z; omega))
end
mutual
theorem RdF.dom:∀{v:V} {d:Af} {F:List Addr},RdF K H v d F->∀a∈F,∃o,H a=some o
 | _,_,_,.non,_,z=>nomatch z
 | _,_,_,.bl b,_,z=>nomatch z
 | _,_,_,.int i,_,z=>nomatch z
 | _,_,_,.str x,_,z=>nomatch z
 | _,_,_,.lst h l hs,b,z=>by
  rcases Am.mp z with rfl | z
  ·exact ⟨_,h⟩
  ·exact RdFs.dom hs b z
 | _,_,_,.tup h l hs,b,z=>RdFs.dom hs b z
 | _,_,_,.dic h e hs,b,z=>⟨_,Ae.mp z▸h⟩
 | _,_,_,.dik h e hs,b,z=>⟨_,Ae.mp z▸h⟩
 | _,_,_,.dnm h e hs,b,z=>⟨_,Ae.mp z▸h⟩
theorem RdFs.dom:∀{v:List V} {d:List Af} {F:List Addr},RdFs K H v d F->∀a∈F,∃o,H a=some o
 | _,_,_,.nil,_,z=>nomatch z
 | _,_,_,.cons h hs,b,z=>by
  rcases Ay.mp z with z | z
  ·exact RdF.dom h b z
  ·exact RdFs.dom hs b z
end
theorem RdFs.len:∀{v:List V} {d:List Af} {F:List Addr},RdFs K H v d F->v.length=d.length
 | _,_,_,.nil=>rfl
 | _,_,_,.cons _ t=>by rw[Bf,Bf,RdFs.len t]
theorem RdFs.get:∀{v:List V} {d:List Af} {F:List Addr} {i:Nat} {e:Af},RdFs K H v d F->d[i]? = some e->∃x G,v[i]? = some x/\RdF K H x e G/\G.Sublist F
 | _,_,_,_,_,.nil,z=>by simp at z
 | _,_,_,0,_,.cons h _,z=>by
  simp at z
  subst z
  exact ⟨_,_,rfl,h,iW _ _⟩
 | _,_,_,i+1,e,.cons _ t,z=>by
  obtain ⟨x,G,h1,h2,h3⟩:=RdFs.get (i:=i) (e:=e) t (by simpa using z)
  exact ⟨x,G,by simpa using h1,h2,h3.trans (Dy _ _)⟩
theorem RdFs.app:∀{v w:List V} {d e:List Af} {F G:List Addr},RdFs K H v d F->RdFs K H w e G->RdFs K H (v++w) (d++e) (F++G)
 | _,_,_,_,_,_,.nil,h=>h
 | _,_,_,_,_,_,.cons a t,h=>by
  rw[Bg]
  exact .cons a (RdFs.app t h)
theorem RdFs.snoc{v:List V}{d:List Af}{F G:List Addr}{x:V}{e:Af}(t:RdFs K H v d F)(h:RdF K H x e G):RdFs K H (v++[x]) (d++[e]) (F++G):=by
 have:=t.app (.cons h .nil)
 rw[Dg] at this
 exact this
end
mutual
def imm:Af->Bool
 | .list _=>false
 | .dict _=>false
 | .tuple xs=>Dt xs
 | _=>true
def Dt:List Af->Bool
 | []=>true
 | x::xs=>imm x && Dt xs
end
theorem jB:∀{xs:List Af},Dt xs=true↔∀x∈xs,imm x=true
 | []=>by simp [Dt]
 | x::xs=>by simp [Dt,jB (xs:=xs)]
theorem Sn{α:Type}{f:α->Af}(h:∀a,imm (f a)=true)(l:List α):Dt (l.map f)=true:=jB.mpr λx hx=>by
 obtain ⟨a,_,rfl⟩:=Cs.mp hx
 exact h a
theorem uC(ns:List Int):imm (Bt ns)=true:=by
 unfold Bt
 rw[imm]
 exact Sn (λ_=>by simp [imm]) ns
section
variable{K:PySem.W.Frag}{H H':Hp}
mutual
theorem RdF.imm:∀{v:V} {d:Af} {F:List Addr},RdF K H v d F->DL.imm d=true->F=[]
 | _,_,_,.non,_=>rfl
 | _,_,_,.bl b,_=>rfl
 | _,_,_,.int i,_=>rfl
 | _,_,_,.str x,_=>rfl
 | _,_,_,.lst h l hs,k=>by simp [DL.imm] at k
 | _,_,_,.tup h l hs,k=>RdFs.imm hs (by simpa [DL.imm] using k)
 | _,_,_,.dic h e hs,k=>by simp [DL.imm] at k
 | _,_,_,.dik h e hs,k=>by simp [DL.imm] at k
 | _,_,_,.dnm h e hs,k=>by simp [DL.imm] at k
theorem RdFs.imm:∀{v:List V} {d:List Af} {F:List Addr},RdFs K H v d F->Dt d=true->F=[]
 | _,_,_,.nil,_=>rfl
 | _,_,_,.cons h hs,k=>by
  rw[Dt,Gx] at k
  rw[RdF.imm h k.1,RdFs.imm hs k.2]
  rfl
end
end
inductive Md where
 | pk | sh | tp | ow
 deriving DecidableEq
inductive DV where
 | un
 | dat (m:Md) (d:Af)
 | drw
 | dT (kvs:List (List Xh×Af))
 | val (v:V)
 | scr (ns:List Int)
 | acc (ds:List Af)
 | grd (Hc:Hp)
 | tpl (xs:List V)
structure DS where
 sl:List DV
 n:Nat
structure Ent where
 v:Option V
 x:DV
 F:List Addr
def Pr:DV->Bool
 | .dat .pk _=>true
 | _=>false
def AG:DV->Bool
 | .drw=>true
 | _=>false
def E9:DV->Bool
 | .drw=>true
 | .acc _=>true
 | .dT _=>true
 | .grd _=>true
 | _=>false
def cells(e:Ent):List Addr:=match e.x with
 | .dat .ow _=>e.F
 | .dat .tp _=>e.F.take 1
 | .drw=>e.F
 | .dT _=>e.F
 | .acc _=>e.F.take 1
 | .grd _=>e.F
 | _=>[]
theorem Hv(e:Ent):∀a∈cells e,a∈e.F:=by
 obtain ⟨v,x,F⟩:=e
 intro a h
 cases x with
 | un=>exact nomatch h
 | val _=>exact nomatch h
 | scr _=>exact nomatch h
 | drw=>exact h
 | dT _=>exact h
 | grd _=>exact h
 | tpl _=>exact nomatch h
 | acc _=>exact (Jk _ _).subset h
 | dat m d =>
  cases m with
  | pk=>exact nomatch h
  | sh=>exact nomatch h
  | tp=>exact (Jk _ _).subset h
  | ow=>exact h
def Ua(e f:Ent):Prop:=((Pr f.x=false\/E9 e.x=true)->∀a∈cells e,a∉f.F)/\((Pr e.x=false\/E9 f.x=true)->∀a∈cells f,a∉e.F)
theorem Ua.symm{e f:Ent}(h:Ua e f):Ua f e:=⟨h.2,h.1⟩
def Ke(K:PySem.W.Frag)(H:Hp)(n:Nat)(e:Ent):Prop:=match e.x with
 | .un=>e.F=[]
 | .dat m d=>∃v,e.v=some v/\RdF K H v d e.F/\(m=.ow->e.F.Nodup)/\(m=.tp->∀a l,e.F=a::l->a∉l)
 | .drw=>∃dr c k f,e.v=some (.ref dr)/\e.F=[dr]/\aP H dr c k f/\0<=k/\k<=(n:Int)
 | .dT kvs=>∃a ks,e.v=some (.ref a)/\e.F=[a]/\H a=some (.dT ks)/\ks.map (·.1)=kvs.map (·.1)/\RdFs K H (ks.map (·.2)) (kvs.map (·.2)) []
 | .val v=>e.v=some v/\e.F=[]
 | .scr ns=>∃a,e.v=some (.ref a)/\e.F=[]/\KL K H a (ns.map V.int)/\ns.length<=63
 | .acc ds=>∃a xs G,e.v=some (.ref a)/\e.F=a::G/\H a=some (.lst xs)/\RdFs K H xs ds G/\ds.length<=Bd/\a∉G
 | .grd Hc=>∀a∈e.F,∃o,Hc a=some o/\H a=some o
 | .tpl xs=>∃t,e.v=some (.ref t)/\H t=some (.tup xs)/\e.F=[]
structure At(K:PySem.W.Frag)(H0:Hp)(X:Addr->Prop)(n:Nat)(E:List Ent)(H:Hp):Prop where
 ok:∀e∈E,Ke K H n e
 sep:E.Pairwise Ua
 new:∀e∈E,∀a∈cells e,H0 a=none\/(X a/\AG e.x=true)
 same:∀b o,¬ X b->H0 b=some o->H b=some o
 dom:∀b o,H0 b=some o->∃o',H b=some o'
 xd:∀b,X b->H0 b≠none/\∃c k f,aP H b c k f/\0<=k/\k<=(n:Int)
section
variable{K:PySem.W.Frag}{H0 H H':Hp}{X:Addr->Prop}{n n':Nat}{E E' S T:List Ent}{e f:Ent}
theorem At.perm(h:At K H0 X n E H)(p:E.Perm E'):At K H0 X n E' H :=
 ⟨λe he=>h.ok e (p.mem_iff.mpr he),(p.pairwise_iff λ{a b}=>Ua.symm).mp h.sep,λe he=>h.new e (p.mem_iff.mpr he),h.same,h.dom,h.xd⟩
theorem At.sub(h:At K H0 X n E H)(p:E'.Sublist E):At K H0 X n E' H :=
 ⟨λe he=>h.ok e (p.subset he),h.sep.sublist p,λe he=>h.new e (p.subset he),h.same,h.dom,h.xd⟩
theorem At.drop(h:At K H0 X n (S++e::T) H):At K H0 X n (S++T) H:=h.sub ((Em S).append (Ea _ _))
theorem uB:(S++e::T).Perm (e::(S++T)):=Ly
theorem At.mid(h:At K H0 X n (S++e::T) H):At K H0 X n (e::(S++T)) H:=h.perm uB
theorem At.tomid(h:At K H0 X n (e::(S++T)) H):At K H0 X n (S++e::T) H:=h.perm uB.symm
theorem Ke.dom(h:Ke K H n e):∀a∈e.F,∃o,H a=some o:=by
 obtain ⟨v,x,F⟩:=e
 intro a ha
 cases x with
 | un=>rw[show F=[] from h] at ha; cases ha
 | val _=>rw[show F=[] from h.2] at ha; cases ha
 | scr _ =>
  obtain ⟨_,_,hF,_⟩:=h
  rw[show F=[] from hF] at ha; cases ha
 | dat m d =>
  obtain ⟨w,_,h,_⟩:=h
  obtain ⟨xs,z⟩:=h.dom a ha
  exact ⟨_,z⟩
 | drw =>
  obtain ⟨dr,c,k,f,_,hF,h,_⟩:=h
  rw[show F=[dr] from hF] at ha
  rw[Ae.mp ha]
  exact ⟨_,h⟩
 | grd Hc =>
  obtain ⟨o,_,z⟩:=h a ha
  exact ⟨o,z⟩
 | tpl xs =>
  obtain ⟨_,_,_,hF⟩:=h
  rw[show F=[] from hF] at ha; cases ha
 | dT kvs =>
  obtain ⟨b,ks,_,hF,h,_⟩:=h
  rw[show F=[b] from hF] at ha
  rw[Ae.mp ha]
  exact ⟨_,h⟩
 | acc ds =>
  obtain ⟨b,ks,G,_,hF,h,hr,_⟩:=h
  rw[show F=b::G from hF] at ha
  rcases Am.mp ha with rfl | ha
  ·exact ⟨_,h⟩
  ·obtain ⟨xs,z⟩:=hr.dom a ha
   exact ⟨_,z⟩
theorem Ke.kp(h:Ke K H n e)(k:Kp e.F H H')(hn:n<=n'):Ke K H' n' e:=by
 obtain ⟨v,x,F⟩:=e
 cases x with
 | un=>exact h
 | val _=>exact h
 | scr _ =>
  obtain ⟨a,h1,h2,h3,h4⟩:=h
  exact ⟨a,h1,h2,h3.kp k,h4⟩
 | dat m d =>
  obtain ⟨w,h1,h2,h3⟩:=h
  exact ⟨w,h1,h2.kp k,h3⟩
 | drw =>
  obtain ⟨dr,c,kk,f,h1,hF,h2,h3,h4⟩:=h
  have hF':F=[dr]:=hF
  subst hF'
  exact ⟨dr,c,kk,f,h1,rfl,k _ _ h2 (.inl Aa),h3,by omega⟩
 | tpl xs =>
  obtain ⟨t,h1,h2,h3⟩:=h
  exact ⟨t,h1,k _ _ h2 (.inr (.inl ⟨_,rfl⟩)),h3⟩
 | grd Hc =>
  intro a ha
  obtain ⟨o,h1,h2⟩:=h a ha
  exact ⟨o,h1,k _ _ h2 (.inl ha)⟩
 | dT kvs =>
  obtain ⟨b,ks,h1,hF,h2,h3,h4⟩:=h
  have hF':F=[b]:=hF
  subst hF'
  exact ⟨b,ks,h1,rfl,k _ _ h2 (.inl Aa),h3,h4.kp (k.sub λ_ z=>nomatch z)⟩
 | acc ds =>
  obtain ⟨b,ks,G,h1,hF,h2,h3,h4⟩:=h
  have hF':F=b::G:=hF
  subst hF'
  exact ⟨b,ks,G,h1,rfl,k _ _ h2 (.inl Aa),h3.kp (k.sub λ_ z=>Ad _ z),h4⟩
theorem At.grow(h:At K H0 X n E H)(s:Lg H H')(hn:n<=n'):At K H0 X n' E H' :=
 ⟨λe he=>(h.ok e he).kp (Kp.of s) hn,h.sep,h.new,λb o nx e=>s _ _ (h.same b o nx e),λb o e=>let ⟨o',q⟩:=h.dom b o e; ⟨o',s _ _ q⟩,λb hb=>let ⟨z,c,k,f,h1,h2,h3⟩:=h.xd b hb; ⟨z,c,k,f,s _ _ h1,h2,by omega⟩⟩
theorem At.free(h:At K H0 X n E H){a:Addr}(ha:H a=none):∀e∈E,a∉e.F:=λe he z=>by
 obtain ⟨o,q⟩:=(h.ok e he).dom a z
 rw[ha] at q; cases q
theorem At.push(h:At K H0 X n E H)(ok:Ke K H n e)(sep:∀f∈E,Ua e f)(new:∀a∈cells e,H0 a=none\/(X a/\AG e.x=true)):At K H0 X n (e::E) H :=
 ⟨λg hg=>by
  rcases Am.mp hg with rfl | hg
  ·exact ok
  ·exact h.ok g hg,Bm.mpr ⟨sep,h.sep⟩,λg hg=>by
  rcases Am.mp hg with rfl | hg
  ·exact new
  ·exact h.new g hg,h.same,h.dom,h.xd⟩
theorem At.new0(h:At K H0 X n E H){p:Addr}(hp:H p=none):H0 p=none:=by
 cases q:H0 p with
 | none=>rfl
 | some o =>
  obtain ⟨o',z⟩:=h.dom p o q
  rw[hp] at z; cases z
theorem yI{v:Option V}{m:Md}{d:Af}:Ua ⟨v,.dat m d,[]⟩ f:=by
 refine ⟨λ_ a ha=>?_,λ_ a _=>Bk⟩
 have:=Hv _ a ha
 cases this
theorem At.pushI(h:At K H0 X n (S++T) H){v:V}{m:Md}{d:Af}(r:RdF K H v d []):At K H0 X n (S++⟨some v,.dat m d,[]⟩::T) H :=
 (h.push (e:=⟨some v,.dat m d,[]⟩) ⟨v,rfl,r,λ_=>Ee,λ_ a l z=>nomatch z⟩ (λf _=>yI) (λa ha=>nomatch Hv _ a ha)).tomid
def wk:Md->Md->Bool
 | _,.pk=>true
 | .pk,_=>false
 | _,.sh=>true
 | .sh,_=>false
 | _,.tp=>true
 | .tp,.ow=>false
 | .ow,.ow=>true
theorem iU{v:Option V}{m m':Md}{d:Af}{F:List Addr}(w:wk m m'=true):∀a∈cells ⟨v,.dat m' d,F⟩,a∈cells ⟨v,.dat m d,F⟩:=by
 intro a ha
 cases m <;> cases m' <;> first | exact absurd w (by decide) | exact ha | exact absurd ha Bk | exact (Jk 1 F).subset ha
theorem qV{α:Type}{F:List α}(h:F.Nodup):∀a l,F=a::l->a∉l:=λa l e=>by
 subst e
 exact (Bs.mp h).1
theorem Ke.wk{v:Option V}{m m':Md}{d:Af}{F:List Addr}(w:wk m m'=true)(h:Ke K H n ⟨v,.dat m d,F⟩):Ke K H n ⟨v,.dat m' d,F⟩:=by
 obtain ⟨u,h1,h2,h3,h4⟩:=h
 refine ⟨u,h1,h2,λe=>?_,λe=>?_⟩
 ·subst e
  cases m <;> first | exact absurd w (by decide) | exact h3 rfl
 ·subst e
  cases m <;> first | exact absurd w (by decide) | exact h4 rfl | exact qV (h3 rfl)
theorem Ua.wk{v:Option V}{m m':Md}{d:Af}{F:List Addr}(w:wk m m'=true)(h:Ua ⟨v,.dat m d,F⟩ f):Ua ⟨v,.dat m' d,F⟩ f:=by
 refine ⟨λhp a ha=>?_,λhp a ha=>?_⟩
 ·rcases hp with hp | hp
  ·exact h.1 (.inl hp) a (iU w a ha)
  ·cases hp
 ·rcases hp with hp | hp
  ·refine h.2 (.inl ?_) a ha
   cases m <;> cases m' <;> first | rfl | exact absurd w (by decide) | exact absurd hp (by show ¬ (true=false); decide)
  ·exact h.2 (.inr hp) a ha
theorem At.wk{v:Option V}{m m':Md}{d:Af}{F:List Addr}(w:wk m m'=true)(h:At K H0 X n (⟨v,.dat m d,F⟩::E) H):At K H0 X n (⟨v,.dat m' d,F⟩::E) H:=by
 have hs:=Bm.mp h.sep
 refine (h.sub (Ea _ _)).push ((h.ok _ Aa).wk w) (λf hf=>(hs.1 f hf).wk w) λa ha=>?_
 rcases h.new _ Aa a (iU w a ha) with z | z
 ·exact .inl z
 ·cases z.2
end
abbrev DE:=DS->(DV->DS->Prop)->Prop
abbrev DT:=DS->(Bool->DS->Prop)->Prop
abbrev DA:=DS->(List DV->DS->Prop)->Prop
structure DEnds where
 nx:DS->Prop
 rt:DV->DS->Prop
 bk:DS->Prop:=λ_=>False
 ct:DS->Prop:=λ_=>False
abbrev DB:=DEnds->DS->Prop
abbrev DG:=DV->DS->(DS->Prop)->Prop
abbrev wG:=List DV->DS->(DS->Prop)->Prop
def vs(S:List Ent):L2.St:=S.map Ent.v
def Sl(S:List Ent)(δ:DS):Prop:=S.map Ent.x=δ.sl
section
variable(K:PySem.W.Frag)
def LE(de:DE):TE:=λσ H Q=>∃(H0:Hp) (X:Addr->Prop) (S T:List Ent) (δ:DS) (P:DV->DS->Prop),vs S=σ/\Sl S δ/\At K H0 X δ.n (S++T) H/\de δ P /\
 ∀x δ' v F S' H',vs S'=σ->Sl S' δ'->At K H0 X δ'.n (S'++⟨some v,x,F⟩::T) H'->P x δ'->Q v H'
def LT(dt:DT):TT:=λσ H Q=>∃(H0:Hp) (X:Addr->Prop) (S T:List Ent) (δ:DS) (P:Bool->DS->Prop),vs S=σ/\Sl S δ/\At K H0 X δ.n (S++T) H/\dt δ P /\
 ∀b δ' S' H',vs S'=σ->Sl S' δ'->At K H0 X δ'.n (S'++T) H'->P b δ'->Q b H'
def LA(da:DA):TA:=λσ H Q=>∃(H0:Hp) (X:Addr->Prop) (S T:List Ent) (δ:DS) (P:List DV->DS->Prop),vs S=σ/\Sl S δ/\At K H0 X δ.n (S++T) H/\da δ P /\
 ∀xs δ' As us S' H',vs S'=σ->Sl S' δ'->As.map Ent.x=xs->As.map Ent.v=us.map some->At K H0 X δ'.n (S'++(As++T)) H'->P xs δ'->Q us H'
def LS(db:DB):TS:=λD σ H=>∃(H0:Hp) (X:Addr->Prop) (S T:List Ent) (δ:DS) (P:DEnds),vs S=σ/\Sl S δ/\(∀e∈T,Pr e.x=false)/\At K H0 X δ.n (S++T) H/\db P δ /\
 (∀δ' S' H',Sl S' δ'->At K H0 X δ'.n (S'++T) H'->P.nx δ'->D.nx (vs S') H') /\
 (∀x δ' v F S' H',Sl S' δ'->At K H0 X δ'.n (S'++⟨some v,x,F⟩::T) H'->P.rt x δ'->D.rt v H') /\
 (∀δ' S' H',Sl S' δ'->At K H0 X δ'.n (S'++T) H'->P.bk δ'->D.bk (vs S') H') /\
 (∀δ' S' H',Sl S' δ'->At K H0 X δ'.n (S'++T) H'->P.ct δ'->D.ct (vs S') H')
def LG(dg:DG):TG:=λv σ H Q=>∃(H0:Hp) (X:Addr->Prop) (S T:List Ent) (δ:DS) (x:DV) (F:List Addr) (P:DS->Prop),vs S=σ/\Sl S δ/\At K H0 X δ.n (S++⟨some v,x,F⟩::T) H/\dg x δ P /\
 ∀δ' S' H',Sl S' δ'->At K H0 X δ'.n (S'++T) H'->P δ'->Q (vs S') H'
def EN(dg:wG):o7:=λus σ H Q=>∃(H0:Hp) (X:Addr->Prop) (S T As:List Ent) (δ:DS) (P:DS->Prop),vs S=σ/\Sl S δ/\As.map Ent.v=us.map some/\At K H0 X δ.n (S++(As++T)) H/\dg (As.map Ent.x) δ P /\
 ∀δ' S' H',Sl S' δ'->At K H0 X δ'.n (S'++T) H'->P δ'->Q (vs S') H'
end
abbrev Fe(X:Cx)(e:Expr)(de:DE):Prop:=PE X e (LE X.K de)
abbrev aR(X:Cx)(e:Expr)(dt:DT):Prop:=PT X e (LT X.K dt)
abbrev Q2(X:Cx)(e:Expr)(dt:DT):Prop:=PW X e (LT X.K dt)
abbrev jY(X:Cx)(es:List Expr)(da:DA):Prop:=PA X es (LA X.K da)
abbrev iF(X:Cx)(st:Stmt)(db:DB):Prop:=PS X st (LS X.K db)
abbrev aO(X:Cx)(st:List Stmt)(db:DB):Prop:=lD X st (LS X.K db)
abbrev Q6(X:Cx)(tg:Expr)(dg:DG):Prop:=PG X tg (LG X.K dg)
abbrev j7(X:Cx)(tg:List Expr)(dg:wG):Prop:=O6 X tg (EN X.K dg)
theorem PE.imp{X:Cx}{e:Expr}{t t':TE}(h:PE X e t)(k:∀σ H Q,t' σ H Q->t σ H Q):PE X e t':=λpins s σ H Q I q=>h pins s σ H Q I (k σ H Q q)
theorem PT.imp{X:Cx}{e:Expr}{t t':TT}(h:PT X e t)(k:∀σ H Q,t' σ H Q->t σ H Q):PT X e t':=λpins s σ H Q I q=>h pins s σ H Q I (k σ H Q q)
theorem PW.imp{X:Cx}{e:Expr}{t t':TT}(h:PW X e t)(k:∀σ H Q,t' σ H Q->t σ H Q):PW X e t':=λwh pins s σ H Q I q=>h wh pins s σ H Q I (k σ H Q q)
theorem PA.imp{X:Cx}{e:List Expr}{t t':TA}(h:PA X e t)(k:∀σ H Q,t' σ H Q->t σ H Q):PA X e t':=λpos pins s σ H Q I q=>h pos pins s σ H Q I (k σ H Q q)
theorem PG.imp{X:Cx}{e:Expr}{t t':TG}(h:PG X e t)(k:∀v σ H Q,t' v σ H Q->t v σ H Q):PG X e t':=λpins s σ H v u Q I r q=>h pins s σ H v u Q I r (k v σ H Q q)
theorem O6.imp{X:Cx}{e:List Expr}{t t':o7}(h:O6 X e t)(k:∀v σ H Q,t' v σ H Q->t v σ H Q):O6 X e t':=λpins s σ H v u Q I r q=>h pins s σ H v u Q I r (k v σ H Q q)
section
variable{K:PySem.W.Frag}{H:Hp}{v:V}{F:List Addr}
theorem RdF.int_inv{i:Int}(h:RdF K H v (.int i) F):v=.int i/\F=[]:=by cases h; exact ⟨rfl,rfl⟩
theorem RdF.bl_inv{i:Bool}(h:RdF K H v (.bool i) F):v=.bl i/\F=[]:=by cases h; exact ⟨rfl,rfl⟩
theorem RdF.str_inv{i:Str}(h:RdF K H v (.str i) F):v=.str i/\F=[]:=by cases h; exact ⟨rfl,rfl⟩
theorem RdF.list_inv{ds:List Af}(h:RdF K H v (.list ds) F):∃a xs G,v=.ref a/\H a=some (.lst xs)/\RdFs K H xs ds G/\F=a::G/\ds.length<=Bd:=by
 cases h with
 | lst h l hs=>exact ⟨_,_,_,rfl,h,hs,rfl,l⟩
theorem RdF.tup_inv{ds:List Af}(h:RdF K H v (.tuple ds) F):∃a xs,v=.ref a/\H a=some (.tup xs)/\RdFs K H xs ds F/\ds.length<=Bd:=by
 cases h with
 | tup h l hs=>exact ⟨_,_,rfl,h,hs,l⟩
end
section
variable{K:PySem.W.Frag}{H0 H H':Hp}{X:Addr->Prop}{n:Nat}{E S T:List Ent}{v:V}{m:Md}{d:Af}{F:List Addr}
theorem At.told(h:At K H0 X n E H)(he:⟨some v,.dat m d,F⟩∈E):RdF K H v d F:=by
 obtain ⟨w,e1,h1,_⟩:=h.ok _ he
 cases e1
 exact h1
theorem mem_mid{e:Ent}:e∈S++e::T:=Ag _ Aa
theorem Fq{e f:Ent}:f∈S++e::f::T:=Ag _ (Ad _ Aa)
theorem At.drop2{e f:Ent}(h:At K H0 X n (S++e::f::T) H):At K H0 X n (S++T) H:=h.drop.drop
theorem At.dropL{As:List Ent}(h:At K H0 X n (S++(As++T)) H):At K H0 X n (S++T) H:=h.sub ((Em S).append (Dy As T))
end
def hZ:Md->Md
 | .ow=>.pk
 | .tp=>.pk
 | m=>m
def P4(i:Nat):DE:=λδ P=>match δ.sl[i]? with
 | some (.dat m d)=>P (.dat (hZ m) d) δ
 | _=>False
def dC(d:Af):DE:=λδ P=>P (.dat .ow d) δ
theorem Kg{S:List Ent}{δ:DS}{i:Nat}{x:DV}(h:Sl S δ)(e:δ.sl[i]? = some x):∃ent,S[i]? = some ent/\ent.x=x:=by
 unfold Sl at h
 rw[<- h,Bo] at e
 cases q:S[i]? with
 | none=>rw[q] at e; cases e
 | some ent=>rw[q] at e; exact ⟨ent,rfl,Bz e⟩
theorem Oj{S:List Ent}{i:Nat}{e:Ent}(h:S[i]? = some e):(vs S)[i]? = some e.v:=by
 unfold vs
 rw[Bo,h]
 rfl
theorem At.look{K:PySem.W.Frag}{H0 H:Hp}{X:Addr->Prop}{n:Nat}{S T:List Ent}{u:Option V}{v:V}{m:Md}{d:Af}{F:List Addr}(h:At K H0 X n (S++T) H)(he:⟨u,.dat m d,F⟩∈S)(hu:u=some v):At K H0 X n (S++⟨some v,.dat (hZ m) d,F⟩::T) H:=by
 subst hu
 obtain ⟨S1,S2,rfl⟩:=List.append_of_mem he
 have hp:((S1++⟨some v,.dat m d,F⟩::S2)++T).Perm (⟨some v,.dat m d,F⟩::(S1++(S2++T))):=by
  rw[Bg,Fu]
  exact Ly
 have h2:=h.perm hp
 have hs:=Bm.mp h2.sep
 refine (h.push (e:=⟨some v,.dat (hZ m) d,F⟩) ?_ (λf hf=>?_) λa ha=>?_).tomid
 ·obtain ⟨w,e1,h1,_⟩:=h2.ok _ Aa
  refine ⟨w,e1,h1,λz=>?_,λz=>?_⟩ <;> cases m <;> cases z
 ·refine ⟨λ_ a ha=>?_,λhq a ha=>?_⟩
  ·cases m <;> exact nomatch ha
  ·rcases Am.mp (hp.mem_iff.mp hf) with rfl | hf
   ·rcases hq with hq | hq
    ·cases m <;> first | cases hq; done | exact nomatch ha
    ·cases hq
   ·refine (hs.1 f hf).2 ?_ a ha
    rcases hq with hq | hq
    ·refine .inl ?_
     cases m <;> first | rfl | exact hq
    ·exact .inr hq
 ·cases m <;> exact nomatch ha
section
variable{X:Cx}{e:Expr}
theorem Av{i:Nat}(h:PE X e (Pp i)):Fe X e (P4 i):=by
 refine PE.imp h λσ H Q h=>?_
 obtain ⟨H0,Y,S,T,δ,P,rfl,hS,hA,hd,k⟩:=h
 unfold P4 at hd
 split at hd
 ·rename_i m d e1
  obtain ⟨ent,e2,e3⟩:=Kg hS e1
  have hm:ent∈S:=Ba e2
  obtain ⟨u,x,F⟩:=ent
  subst e3
  obtain ⟨v,hv,_⟩:=hA.ok _ (An _ hm)
  refine ⟨v,by rw[Oj e2]; exact congrArg some hv,k _ δ v F S H rfl hS (hA.look hm hv) hd⟩
 ·exact hd.elim
theorem cV{v:V}{d:Af}(h:PE X e (tC v))(r:∀H,RdF X.K H v d []):Fe X e (dC d):=by
 refine PE.imp h λσ H Q h=>?_
 obtain ⟨H0,Y,S,T,δ,P,rfl,hS,hA,hd,k⟩:=h
 exact k _ δ v [] S H rfl hS (hA.pushI (r H)) hd
theorem Ci{i j pos}:Fe X (.Constant (.int i) j pos) (dC (.int i)):=cV Es λ_=>.int i
theorem Ky{i j pos}:Fe X (.Constant (.bool i) j pos) (dC (.bool i)):=cV AK λ_=>.bl i
theorem lA{i j pos}:Fe X (.Constant (.str i) j pos) (dC (.str i)):=cV L7 λ_=>.str i
theorem xA{j pos}:Fe X (.Constant .none j pos) (dC .none):=cV wC λ_=>.non
end
def Z5(de:DE):DE:=λδ P=>de δ λx δ'=>match x with
 | .dat _ d=>imm d=true/\P (.dat .ow d) δ'
 | _=>False
theorem Pd{X:Cx}{e:Expr}{de:DE}(h:Fe X e de):Fe X e (Z5 de):=by
 refine PE.imp h λσ H Q h=>?_
 obtain ⟨H0,Y,S,T,δ,P,rfl,hS,hA,hd,k⟩:=h
 refine ⟨H0,Y,S,T,δ,_,rfl,hS,hA,hd,λx δ' v F S' H' e1 e2 hA' p=>?_⟩
 cases x with
 | dat m d =>
  have r:=hA'.told mem_mid
  obtain rfl:=r.imm p.1
  exact k _ δ' v [] S' H' e1 e2 (hA'.drop.pushI r) p.2
 | _=>exact p.elim
def vT(i:Nat):DE:=λδ P=>match δ.sl[i]? with
 | some (.dat m d)=>P (.dat m d) ⟨δ.sl.set i .un,δ.n⟩
 | _=>False
theorem Tp{α:Type}:∀{l:List α} {i:Nat} {x y:α},l[i]? = some x->(y::l).Perm (x::l.set i y)
 | [],i,x,y,h=>by simp at h
 | z::l,0,x,y,h=>by
  simp at h
  subst h
  exact Ht _ _ _
 | z::l,i+1,x,y,h=>by
  have ih:=Tp (l:=l) (i:=i) (x:=x) (y:=y) (by simpa using h)
  rw[List.set_cons_succ]
  exact (Ht z y l).trans ((ih.cons z).trans (Ht x z _))
theorem oR{X:Cx}{e:Expr}{i:Nat}(h:PE X e (Pp i)):Fe X e (vT i):=by
 refine PE.imp h λσ H Q h=>?_
 obtain ⟨H0,Y,S,T,δ,P,rfl,hS,hA,hd,k⟩:=h
 unfold vT at hd
 split at hd
 ·rename_i m d e1
  obtain ⟨ent,e2,e3⟩:=Kg hS e1
  have hm:ent∈S:=Ba e2
  obtain ⟨u,x,F⟩:=ent
  subst e3
  obtain ⟨v,hv,hv2⟩:=hA.ok _ (An _ hm)
  have hv':u=some v:=hv
  subst hv'
  refine ⟨v,by rw[Oj e2],k _ _ v F (S.set i ⟨some v,.un,[]⟩) H ?_ ?_ ?_ hd⟩
  ·unfold vs
   rw[Hn]
   apply Ho
   intro j
   rw[Li]
   split
   ·rename_i hij
    subst hij
    rw[Bo,e2]
    split
    ·rfl
    ·rename_i hj
     rw[Ac] at hj
     exact absurd (Ap.mp e2).1 hj
   ·rfl
  ·unfold Sl at hS ⊢
   rw[Hn,hS]
  ·have hp:=hA.push (e:=⟨some v,.un,[]⟩) (show Ke X.K H δ.n ⟨some v,.un,[]⟩ from rfl) (λf _=>⟨λ_ a ha=>(nomatch ha),λ_ a _=>Bk⟩) (λa ha=>(nomatch ha))
   have p1:(⟨some v,.un,[]⟩::(S++T)).Perm ((S.set i ⟨some v,.un,[]⟩)++⟨some v,.dat m d,F⟩::T):=by
    rw[<- Fu]
    exact ((Tp (y:=(⟨some v,.un,[]⟩ : Ent)) e2).append_right T).trans (by rw[Fu]; exact List.perm_middle.symm)
   exact hp.perm p1
 ·exact hd.elim
abbrev D2:=DV->DV->(DV->Prop)->Prop
def oU(K:PySem.W.Frag)(r:R2)(rd:D2):Prop:=∀(H0:Hp) (X:Addr->Prop) (n:Nat) (S T:List Ent) (x y:DV) (v w:V) (F G:List Addr) (H:Hp) (Q:VK) (P:DV->Prop),
 At K H0 X n (S++⟨some w,y,G⟩::⟨some v,x,F⟩::T) H->rd x y P->(∀z u F' H',At K H0 X n (S++⟨some u,z,F'⟩::T) H'->P z->Q u H')->r v w H Q
def Wx(rd:D2)(da db:DE):DE:=λδ P=>da δ λx δ1=>db δ1 λy δ2=>rd x y λz=>P z δ2
theorem nS{K:PySem.W.Frag}{r:R2}{rd:D2}{da db:DE}(o:oU K r rd):∀σ H Q,LE K (Wx rd da db) σ H Q->X3 r (LE K da) (LE K db) σ H Q:=by
 intro σ H Q h
 obtain ⟨H0,Y,S,T,δ,P,rfl,hS,hA,hd,k⟩:=h
 refine ⟨H0,Y,S,T,δ,_,rfl,hS,hA,hd,λx δ1 v F S1 H1 e1 e2 hA1 p1=>?_⟩
 refine ⟨H0,Y,S1,⟨some v,x,F⟩::T,δ1,_,e1,e2,hA1,p1,λy δ2 w G S2 H2 e3 e4 hA2 p2=>?_⟩
 exact o H0 Y δ2.n S2 T x y v w F G H2 Q _ hA2 p2 λz u F' H' hA3 p3=>k z δ2 u F' S2 H' e3 e4 hA3 p3
section
variable{X:Cx}{a b:Expr}{da db:DE}{pos:Pos}{r:R2}{rd:D2}
theorem Tt{op:Operator}(ho:Vj X (Kn op) r)(o:oU X.K r rd)(ha:Fe X a da)(hb:Fe X b db):Fe X (.BinOp a op b pos) (Wx rd da db):=PE.imp (Ij ho ha hb) (nS o)
theorem uX{op:CmpOp}(ho:Vj X (Hi op) r)(o:oU X.K r rd)(ha:Fe X a da)(hb:Fe X b db)(hm:Gk op b=false):Fe X (.Compare a [op] [b] pos) (Wx rd da db):=PE.imp (oT ho ha hb hm) (nS o)
theorem X6(ho:i3 X r)(o:oU X.K r rd)(ha:Fe X a da)(hb:Fe X b db)(hs:dX b):Fe X (.Subscript a b pos) (Wx rd da db):=PE.imp (Qe ho ha hb hs) (nS o)
end
def A3(C:Int->Int->Prop)(g:Int->Int->Af):D2:=λx y P=>match x,y with
 | .dat _ (.int i),.dat _ (.int j)=>C i j/\P (.dat .ow (g i j))
 | _,_=>False
def aH(g:Int->Int->Af):D2:=λx y P=>match x,y with
 | .dat _ (.int i),.dat _ (.int j)=>P (.dat .ow (g i j))
 | _,_=>False
section
variable{K:PySem.W.Frag}
theorem uW{C:Int->Int->Prop}{g:Int->Int->V}{g':Int->Int->Af}(h:∀i j H,RdF K H (g i j) (g' i j) []):oU K (rI C g) (A3 C g'):=by
 intro H0 X n S T x y v w F G H Q P hA hd k
 unfold A3 at hd
 split at hd
 ·obtain ⟨rfl,_⟩:=(hA.told Fq).int_inv
  obtain ⟨rfl,_⟩:=(hA.told mem_mid).int_inv
  exact ⟨_,_,rfl,rfl,hd.1,k _ _ [] H (hA.drop2.pushI (h _ _ H)) hd.2⟩
 ·exact hd.elim
theorem gD{g:Int->Int->V}{g':Int->Int->Af}(h:∀i j H,RdF K H (g i j) (g' i j) []):oU K (w4 g) (aH g'):=by
 intro H0 X n S T x y v w F G H Q P hA hd k
 unfold aH at hd
 split at hd
 ·obtain ⟨rfl,_⟩:=(hA.told Fq).int_inv
  obtain ⟨rfl,_⟩:=(hA.told mem_mid).int_inv
  exact ⟨_,_,rfl,rfl,k _ _ [] H (hA.drop2.pushI (h _ _ H)) hd⟩
 ·exact hd.elim
end
abbrev rdAdd:D2:=aH λi j=>.int (i+j)
abbrev rdSub:D2:=aH λi j=>.int (i - j)
abbrev rdMul:D2:=A3 yD λi j=>.int (i * j)
abbrev rdDiv:D2:=A3 E7 λi j=>.int (i / j)
abbrev rdMod:D2:=A3 (λ_ j=>0<j) λi j=>.int (i % j)
abbrev rdPow:D2:=A3 tR λi j=>.int (i ^ j.toNat)
abbrev rdShl:D2:=A3 tR λi j=>.int (i * 2 ^ j.toNat)
abbrev rdLt:D2:=aH λi j=>.bool (decide (i<j))
abbrev BS:D2:=aH λi j=>.bool (decide (j<i))
abbrev rdGe:D2:=aH λi j=>.bool (decide (j<=i))
section
variable{X:Cx}{a b:Expr}{da db:DE}{pos:Pos}
theorem Lx(ha:Fe X a da)(hb:Fe X b db):Fe X (.BinOp a .Add b pos) (Wx rdAdd da db):=Tt Su (gD λ_ _ _=>.int _) ha hb
theorem Sr(ha:Fe X a da)(hb:Fe X b db):Fe X (.BinOp a .Sub b pos) (Wx rdSub da db):=Tt uQ (gD λ_ _ _=>.int _) ha hb
theorem jG(ha:Fe X a da)(hb:Fe X b db):Fe X (.BinOp a .Mult b pos) (Wx rdMul da db):=Tt Vi (uW λ_ _ _=>.int _) ha hb
theorem Oc(ha:Fe X a da)(hb:Fe X b db):Fe X (.BinOp a .FloorDiv b pos) (Wx rdDiv da db):=Tt cK (uW λ_ _ _=>.int _) ha hb
theorem Od(ha:Fe X a da)(hb:Fe X b db):Fe X (.BinOp a .Mod b pos) (Wx rdMod da db):=Tt Vd (uW λ_ _ _=>.int _) ha hb
theorem eR(ha:Fe X a da)(hb:Fe X b db):Fe X (.BinOp a .Pow b pos) (Wx rdPow da db):=Tt cY (uW λ_ _ _=>.int _) ha hb
theorem J9(ha:Fe X a da)(hb:Fe X b db):Fe X (.BinOp a .LShift b pos) (Wx rdShl da db):=Tt Q4 (uW λ_ _ _=>.int _) ha hb
end
def cM(ne:Bool):D2:=λx y P=>match x,y with
 | .dat _ d,.dat _ e=>d.depth<=60/\e.depth<=60/\P (.dat .ow (.bool (match ne with | true=>!Dx d e | false=>Dx d e)))
 | _,_=>False
def pJ(ne:Bool):D2:=λx y P=>match x,y with
 | .dat _ d,.dat _ (.list es)=>Bl es<=60/\d.depth<=60/\P (.dat .ow (.bool (match ne with | true=>!(es.any λe=>Dx e d) | false=>es.any λe=>Dx e d)))
 | .dat _ d,.dat _ (.tuple es)=>Bl es<=60/\d.depth<=60/\P (.dat .ow (.bool (match ne with | true=>!(es.any λe=>Dx e d) | false=>es.any λe=>Dx e d)))
 | _,_=>False
section
variable{K:PySem.W.Frag}
theorem B4:oU K (Z2 K) (cM false):=by
 intro H0 X n S T x y v w F G H Q P hA hd k
 unfold cM at hd
 split at hd
 ·exact ⟨_,_,(hA.told Fq).rd (Cf hd.1 (by decide)),(hA.told mem_mid).rd (Cf hd.2.1 (by decide)),hd.1,k _ _ [] H (hA.drop2.pushI (.bl _)) hd.2.2⟩
 ·exact hd.elim
theorem AL:oU K (V4 K) (cM true):=by
 intro H0 X n S T x y v w F G H Q P hA hd k
 unfold cM at hd
 split at hd
 ·exact ⟨_,_,(hA.told Fq).rd (Cf hd.1 (by decide)),(hA.told mem_mid).rd (Cf hd.2.1 (by decide)),hd.1,k _ _ [] H (hA.drop2.pushI (.bl _)) hd.2.2⟩
 ·exact hd.elim
theorem u0{ne:Bool}:oU K (M4 K ne) (pJ ne):=by
 intro H0 X n S T x y v w F G H Q P hA hd k
 unfold pJ at hd
 split at hd
 ·obtain ⟨a,xs,G',rfl,hq,hs,_,_⟩:=(hA.told mem_mid).list_inv
  refine ⟨a,xs,_,_,rfl,.inl (Ov.of hq),(hA.told Fq).rd (Cf hd.2.1 (by decide)),hs.rd (Cf hd.1 (by decide)),hd.1,?_⟩
  cases ne with
  | true=>exact k _ _ [] H (hA.drop2.pushI (.bl _)) hd.2.2
  | false=>exact k _ _ [] H (hA.drop2.pushI (.bl _)) hd.2.2
 ·obtain ⟨a,xs,rfl,hq,hs,_⟩:=(hA.told mem_mid).tup_inv
  refine ⟨a,xs,_,_,rfl,.inr (Tg.of hq),(hA.told Fq).rd (Cf hd.2.1 (by decide)),hs.rd (Cf hd.1 (by decide)),hd.1,?_⟩
  cases ne with
  | true=>exact k _ _ [] H (hA.drop2.pushI (.bl _)) hd.2.2
  | false=>exact k _ _ [] H (hA.drop2.pushI (.bl _)) hd.2.2
 ·exact hd.elim
end
section
variable{X:Cx}{a b:Expr}{da db:DE}{pos:Pos}
theorem tF(hu:X.A.units+64<cLine)(ha:Fe X a da)(hb:Fe X b db):Fe X (.Compare a [.Eq] [b] pos) (Wx (cM false) da db):=uX (wJ hu) B4 ha hb (Qd _)
theorem AO(hu:X.A.units+64<cLine)(ha:Fe X a da)(hb:Fe X b db)(hm:Gk .In b=false:=by with_unfolding_all rfl):Fe X (.Compare a [.In] [b] pos) (Wx (pJ false) da db):=uX (G6 hu) u0 ha hb hm
end
def Nk:Md->Md
 | .ow=>.ow
 | .tp=>.sh
 | m=>m
theorem At.part{K:PySem.W.Frag}{H0 H:Hp}{X:Addr->Prop}{n:Nat}{S T:List Ent}{v w:V}{m:Md}{d e:Af}{F G:List Addr}(h:At K H0 X n (S++⟨some v,.dat m d,F⟩::T) H)(r:RdF K H w e G)(hG:G.Sublist F):At K H0 X n (S++⟨some w,.dat (Nk m) e,G⟩::T) H:=by
 have h2:=h.mid
 have hs:=Bm.mp h2.sep
 obtain ⟨v',e1,h1,hn,ht⟩:=h2.ok _ Aa
 have cs:∀a∈cells ⟨some w,.dat (Nk m) e,G⟩,a∈cells ⟨some v,.dat m d,F⟩:=λa ha=>by
  cases m with
  | ow=>exact hG.subset ha
  | tp=>exact nomatch ha
  | sh=>exact nomatch ha
  | pk=>exact nomatch ha
 refine (h.drop.push (e:=⟨some w,.dat (Nk m) e,G⟩) ⟨w,rfl,r,λz=>?_,λz=>?_⟩ (λf hf=>?_) λa ha=>?_).tomid
 ·cases m with
  | ow=>exact (hn rfl).sublist hG
  | _=>cases z
 ·cases m <;> cases z
 ·refine ⟨λhp a ha=>(hs.1 f hf).1 ?_ a (cs a ha),λhp a ha z=>(hs.1 f hf).2 ?_ a ha (hG.subset z)⟩
  ·rcases hp with hp | hp
   ·exact .inl hp
   ·cases hp
  ·rcases hp with hp | hp
   ·refine .inl ?_
    cases m <;> first | rfl | exact hp
   ·exact .inr hp
 ·rcases h2.new _ Aa a (cs a ha) with z | z
  ·exact .inl z
  ·cases z.2
def vJ:D2:=λx y P=>match x,y with
 | .dat m (.list ds),.dat _ (.int i)=>∃d,Sx ds i=some d/\P (.dat (Nk m) d)
 | .dat m (.tuple ds),.dat _ (.int i)=>∃d,Sx ds i=some d/\P (.dat (Nk m) d)
 | .dat _ (.str z),.dat _ (.int i)=>z.length<=Bd/\∃c,Sx z.cps.toList i=some c/\P (.dat .ow (.str ⟨#[c]⟩))
 | _,_=>False
theorem vW{K:PySem.W.Frag}{H:Hp}{xs:List V}{ds:List Af}{F:List Addr}{i:Int}{d:Af}(r:RdFs K H xs ds F)(h:Sx ds i=some d):∃x G,Sx xs i=some x/\RdF K H x d G/\G.Sublist F:=by
 unfold Sx at h ⊢
 rw[r.len]
 cases e:qE ds.length i with
 | none=>rw[e] at h; cases h
 | some j =>
  rw[e] at h
  exact r.get h
theorem At.swap{K:PySem.W.Frag}{H0 H:Hp}{X:Addr->Prop}{n:Nat}{S T:List Ent}{e f:Ent}(h:At K H0 X n (S++e::f::T) H):At K H0 X n (S++f::e::T) H:=h.perm ((Gp S).append (Ht f e T))
theorem T4{K:PySem.W.Frag}:oU K (DZ K) vJ:=by
 intro H0 X n S T x y v w F G H Q P hA hd k
 unfold vJ at hd
 split at hd
 ·obtain ⟨d,hi,p⟩:=hd
  obtain ⟨rfl,_⟩:=(hA.told mem_mid).int_inv
  have r:=hA.told Fq
  have hA':=hA.drop
  obtain ⟨a,xs,G0,rfl,hq,hs,hG,_⟩:=r.list_inv
  obtain ⟨x,G',h1,h2,h3⟩:=vW hs hi
  subst hG
  exact .inl ⟨_,_,_,_,rfl,rfl,Ov.of hq,h1,k _ _ G' H (hA'.part h2 (h3.trans (Ea _ _))) p⟩
 ·obtain ⟨d,hi,p⟩:=hd
  obtain ⟨rfl,_⟩:=(hA.told mem_mid).int_inv
  have r:=hA.told Fq
  have hA':=hA.drop
  obtain ⟨a,xs,rfl,hq,hs,_⟩:=r.tup_inv
  obtain ⟨x,G',h1,h2,h3⟩:=vW hs hi
  exact .inr (.inl ⟨_,_,_,_,rfl,rfl,Tg.of hq,h1,k _ _ G' H (hA'.part h2 h3) p⟩)
 ·obtain ⟨hz,c,hi,p⟩:=hd
  obtain ⟨rfl,_⟩:=(hA.told mem_mid).int_inv
  obtain ⟨rfl,_⟩:=(hA.told Fq).str_inv
  exact .inr (.inr ⟨_,_,_,rfl,rfl,hz,hi,k _ _ [] H (hA.drop2.pushI (.str _)) p⟩)
 ·exact hd.elim
theorem Vo{X:Cx}{a b:Expr}{da db:DE}{pos:Pos}(ha:Fe X a da)(hb:Fe X b db)(hs:dX b:=by intro _ _; rfl):Fe X (.Subscript a b pos) (Wx vJ da db):=X6 J1 T4 ha hb hs
def mW:Md->Md
 | .ow=>.ow
 | .pk=>.pk
 | _=>.tp
def hW(i:Bool)(m:Md)(ds:List Af)(P:DV->Prop):Prop:=match i with
 | true=>Dt ds=true/\P (.dat .ow (.list ds))
 | false=>P (.dat (mW m) (.list ds))
def uR(i:Bool)(m:Md)(ds:List Af)(P:DV->Prop):Prop:=match i with
 | true=>Dt ds=true/\P (.dat .ow (.tuple ds))
 | false=>P (.dat (Nk m) (.tuple ds))
section
variable{K:PySem.W.Frag}{H0 H:Hp}{X:Addr->Prop}{n:Nat}{S T:List Ent}{v w:V}{m:Md}{d e:Af}{F G:List Addr}{p:Addr}{xs:List V}{ds:List Af}{P:DV->Prop}{i:Bool}
theorem At.newI(h:At K H0 X n (S++T) H)(r:RdFs K H xs ds G)(hi:Dt ds=true)(hz:ds.length<=Bd)(hp:H p=none)(m:Md):At K H0 X n (S++⟨some (.ref p),.dat m (.list ds),[p]⟩::T) (upd H p (.lst xs)):=by
 obtain rfl:=r.imm hi
 have s1:=Eo hp (.lst xs)
 have h1:=h.grow (n':=n) s1 (Ah _)
 refine (h1.push (e:=⟨some (.ref p),.dat m (.list ds),[p]⟩) ⟨_,rfl,.lst Ct hz (r.kp (Kp.of s1)),λ_=>Bs.mpr ⟨Bk,Ee⟩,λ_ a l z=>by cases z; exact Bk⟩ (λf hf=>?_) λa ha=>?_).tomid
 ·have nf:=h.free hp f hf
  refine ⟨λ_ a ha z=>?_,λ_ a ha z=>?_⟩
  ·have:=Hv _ a ha
   rw[Ae.mp this] at z
   exact nf z
  ·rw[Ae.mp z] at ha
   exact nf (Hv _ _ ha)
 ·have:=Hv _ a ha
  rw[Ae.mp this]
  exact .inl (h.new0 hp)
theorem At.newL(h:At K H0 X n (S++⟨some v,.dat m d,F⟩::T) H)(r:RdFs K H xs ds G)(hG:G.Sublist F)(hz:ds.length<=Bd)(hp:H p=none)(q:hW i m ds P):∃z F',At K H0 X n (S++⟨some (.ref p),z,F'⟩::T) (upd H p (.lst xs))/\P z:=by
 cases i with
 | true=>exact ⟨_,_,h.drop.newI r q.1 hz hp .ow,q.2⟩
 | false =>
  have q:P (.dat (mW m) (.list ds)):=q
  refine ⟨_,p::G,?_,q⟩
  have s1:=Eo hp (.lst xs)
  have h2:=h.mid
  have hs:=Bm.mp h2.sep
  obtain ⟨v',e1,_,hn,_⟩:=h2.ok _ Aa
  have h1:=h.drop.grow (n':=n) s1 (Ah _)
  have npF:p∉F:=h2.free hp _ Aa
  have npG:p∉G:=λz=>npF (hG.subset z)
  have cs:∀a∈cells ⟨some (.ref p),.dat (mW m) (.list ds),p::G⟩,a=p\/(a∈cells ⟨some v,.dat m d,F⟩):=λa ha=>by
   cases m with
   | ow =>
    rcases Am.mp ha with z | z
    ·exact .inl z
    ·exact .inr (hG.subset z)
   | tp=>exact .inl (Ae.mp ha)
   | sh=>exact .inl (Ae.mp ha)
   | pk=>exact nomatch ha
  refine (h1.push (e:=⟨some (.ref p),.dat (mW m) (.list ds),p::G⟩) ⟨_,rfl,.lst Ct hz (r.kp (Kp.of s1)),λz=>?_,λz a l e=>?_⟩ (λf hf=>?_) λa ha=>?_).tomid
  ·cases m with
   | ow=>exact Bs.mpr ⟨npG,(hn rfl).sublist hG⟩
   | _=>cases z
  ·cases e
   exact npG
  ·have nf:=h2.free hp f (Ad _ hf)
   refine ⟨λhq a ha z=>?_,λhq a ha z=>?_⟩
   ·rcases cs a ha with rfl | hc
    ·exact nf z
    ·refine (hs.1 f hf).1 ?_ a hc z
     rcases hq with hq | hq
     ·exact .inl hq
     ·cases hq
   ·rcases Am.mp z with rfl | z
    ·exact nf (Hv _ _ ha)
    ·refine (hs.1 f hf).2 ?_ a ha (hG.subset z)
     rcases hq with hq | hq
     ·refine .inl ?_
      cases m <;> first | rfl | exact hq
     ·exact .inr hq
  ·rcases cs a ha with rfl | hc
   ·exact .inl (h2.new0 hp)
   ·rcases h2.new _ Aa a hc with z | z
    ·exact .inl z
    ·cases z.2
theorem At.oldT{t:Addr}(h:At K H0 X n (S++⟨some v,.dat m d,F⟩::T) H)(r:RdFs K H xs ds G)(hG:G.Sublist F)(hz:ds.length<=Bd)(ht:H t=some (.tup xs))(q:uR i m ds P):∃z F',At K H0 X n (S++⟨some (.ref t),z,F'⟩::T) H/\P z:=by
 cases i with
 | true =>
  obtain rfl:=r.imm q.1
  exact ⟨_,[],h.drop.pushI (.tup ht hz r),q.2⟩
 | false=>exact ⟨_,G,h.part (.tup ht hz r) hG,q⟩
end
def F3:DA:=λδ P=>P [] δ
def z0(de:DE)(da:DA):DA:=λδ P=>de δ λx δ1=>da δ1 λxs δ2=>P (x::xs) δ2
section
variable{X:Cx}{e:Expr}{es:List Expr}{de:DE}{da:DA}
theorem Bi:jY X [] F3:=by
 refine PA.imp Iq λσ H Q h=>?_
 obtain ⟨H0,Y,S,T,δ,P,rfl,hS,hA,hd,k⟩:=h
 exact k [] δ [] [] S H rfl hS rfl rfl hA hd
theorem Ao(ha:Fe X e de)(hr:jY X es da)(hs:Bn (e::es) X.env=(false,eval e X.env)::Bn es X.env:=by rfl):jY X (e::es) (z0 de da):=by
 refine PA.imp (Fi ha hr hs) λσ H Q h=>?_
 obtain ⟨H0,Y,S,T,δ,P,rfl,hS,hA,hd,k⟩:=h
 refine ⟨H0,Y,S,T,δ,_,rfl,hS,hA,hd,λx δ1 v F S1 H1 e1 e2 hA1 p1=>?_⟩
 refine ⟨H0,Y,S1,⟨some v,x,F⟩::T,δ1,_,e1,e2,hA1,p1,λxs δ2 As us S2 H2 e3 e4 ex eu hA2 p2=>?_⟩
 refine k (x::xs) δ2 (⟨some v,x,F⟩::As) (v::us) S2 H2 e3 e4 (by rw[Bh,ex]) (by rw[Bh,Bh,eu]) (hA2.perm ((Gp S2).append ?_)) p2
 exact Ly
end
def allOw:List DV->Bool
 | []=>true
 | .dat .ow _::xs=>allOw xs
 | _=>false
def noPk:List DV->Bool
 | []=>true
 | .dat .pk _::_=>false
 | .dat _ _::xs=>noPk xs
 | _=>false
def datas:List DV->Option (List Af)
 | []=>some []
 | .dat _ d::xs=>(datas xs).map (d::·)
 | _=>none
def pkMd(top:Md)(xs:List DV):Md:=if allOw xs=true then .ow else if noPk xs=true then top else .pk
section
variable{K:PySem.W.Frag}{H0 H:Hp}{X:Addr->Prop}{n:Nat}{S T As:List Ent}
theorem Yx:∀{As:List Ent} {us:List V} {ds:List Af},As.map Ent.v=us.map some->datas (As.map Ent.x)=some ds->(∀e∈As,Ke K H n e)->RdFs K H us ds (As.flatMap Ent.F)
 | [],us,ds,e,h,_=>by
  cases us with
  | nil=>cases h; exact .nil
  | cons _ _=>cases e
 | ent::As,us,ds,e,h,ok=>by
  cases us with
  | nil=>cases e
  | cons u us =>
   rw[Bh,Bh] at e
   obtain ⟨e1,e2⟩:=Lj e
   obtain ⟨v,x,F⟩:=ent
   have e1':v=some u:=e1
   subst e1'
   rw[Bh] at h
   cases x with
   | dat m d =>
    rw[show datas (DV.dat m d::As.map Ent.x)=(datas (As.map Ent.x)).map (d::·) from rfl] at h
    cases q:datas (As.map Ent.x) with
    | none=>rw[q] at h; cases h
    | some es =>
     rw[q] at h
     cases h
     obtain ⟨w,ew,rw',_⟩:=ok _ Aa
     cases ew
     rw[Jm]
     exact .cons rw' (Yx e2 q λf hf=>ok f (Ad _ hf))
   | _=>cases h
theorem Ol:∀{As:List Ent},allOw (As.map Ent.x)=true->∀e∈As,∃d,e.x=.dat .ow d
 | [],_,_,h=>nomatch h
 | ⟨v,x,F⟩::As,h,e,he=>by
  rw[Bh] at h
  have hx:(∃d,x=.dat .ow d)/\allOw (As.map Ent.x)=true:=by
   cases x with
   | dat m d=>cases m <;> first | exact ⟨⟨d,rfl⟩,h⟩ | cases h
   | _=>cases h
  rcases Am.mp he with rfl | he
  ·exact hx.1
  ·exact Ol hx.2 e he
theorem gI:∀{As:List Ent},noPk (As.map Ent.x)=true->∀e∈As,Pr e.x=false
 | [],_,_,h=>nomatch h
 | ⟨v,x,F⟩::As,h,e,he=>by
  rw[Bh] at h
  have hx:Pr x=false/\noPk (As.map Ent.x)=true:=by
   cases x with
   | dat m d=>cases m <;> first | exact ⟨rfl,h⟩ | cases h
   | _=>cases h
  rcases Am.mp he with rfl | he
  ·exact hx.1
  ·exact gI hx.2 e he
theorem Yq:∀{As:List Ent},(∀e∈As,∃d,e.x=.dat .ow d)->(∀e∈As,Ke K H n e)->As.Pairwise Ua->(As.flatMap Ent.F).Nodup
 | [],_,_,_=>Ee
 | ent::As,ho,ok,hs=>by
  rw[Jm]
  have hc:=Bm.mp hs
  obtain ⟨v,x,F⟩:=ent
  obtain ⟨d,hd⟩:=ho _ Aa
  have hd':x=.dat .ow d:=hd
  subst hd'
  obtain ⟨w,_,_,hn,_⟩:=ok _ Aa
  refine Et.mpr ⟨hn rfl,Yq (λe he=>ho e (Ad _ he)) (λe he=>ok e (Ad _ he)) hc.2,λa ha b hb z=>?_⟩
  subst z
  obtain ⟨f,hf,hb⟩:=Du.mp hb
  obtain ⟨d',hd'⟩:=ho f (Ad _ hf)
  exact (hc.1 f hf).1 (.inl (by rw[hd']; rfl)) a ha hb
theorem At.pack{v:V}{d:Af}{N:List Addr}{H':Hp}{top:Md}(h:At K H0 X n (S++(As++T)) H)(s:Lg H H')(hN:∀a∈N,H a=none)(ndN:N.Nodup)(htop:(top=.tp/\N.length=1)\/(top=.sh/\N=[]))(r:RdF K H' v d (N++As.flatMap Ent.F)):At K H0 X n (S++⟨some v,.dat (pkMd top (As.map Ent.x)) d,N++As.flatMap Ent.F⟩::T) H':=by
 have hp:(S++(As++T)).Perm (As++(S++T)):=by
  rw[<- Bg,<- Bg]
  exact Dq.append_right T
 have h2:=h.perm hp
 have hs:=Cg.mp h2.sep
 have h1:=(h.dropL).grow (n':=n) s (Ah _)
 have nN:∀a∈N,∀f∈As++(S++T),a∉f.F:=λa ha f hf=>h2.free (hN a ha) f hf
 have nFlat:∀a∈N,a∉As.flatMap Ent.F:=λa ha z=>by
  obtain ⟨f,hf,z⟩:=Du.mp z
  exact nN a ha f (An _ hf) z
 have cs:∀a∈cells ⟨some v,.dat (pkMd top (As.map Ent.x)) d,N++As.flatMap Ent.F⟩,a∈N\/(allOw (As.map Ent.x)=true/\∃f∈As,a∈cells f):=λa ha=>by
  unfold pkMd at ha
  by_cases hw:allOw (As.map Ent.x)=true
  ·rw[if_pos hw] at ha
   rcases Ay.mp ha with z | z
   ·exact .inl z
   ·obtain ⟨f,hf,z⟩:=Du.mp z
    obtain ⟨d',hd'⟩:=Ol hw f hf
    refine .inr ⟨hw,f,hf,?_⟩
    unfold cells
    rw[hd']
    exact z
  ·rw[if_neg hw] at ha
   by_cases hk:noPk (As.map Ent.x)=true
   ·rw[if_pos hk] at ha
    rcases htop with ⟨rfl,h1⟩ | ⟨rfl,rfl⟩
    ·match N,h1,ha with
     | [b],_,ha=>exact .inl ha
    ·exact nomatch ha
   ·rw[if_neg hk] at ha
    exact nomatch ha
 refine (h1.push (e:=⟨some v,.dat (pkMd top (As.map Ent.x)) d,N++As.flatMap Ent.F⟩) ⟨_,rfl,r,λz=>?_,λz a l e=>?_⟩ (λf hf=>?_) λa ha=>?_).tomid
 ·have hw:allOw (As.map Ent.x)=true:=by
   unfold pkMd at z
   by_cases hw:allOw (As.map Ent.x)=true
   ·exact hw
   ·rw[if_neg hw] at z
    split at z
    ·rcases htop with ⟨rfl,_⟩ | ⟨rfl,_⟩ <;> cases z
    ·cases z
  refine Et.mpr ⟨ndN,Yq (Ol hw) (λe he=>h2.ok e (An _ he)) hs.1,λa ha b hb e=>?_⟩
  subst e
  exact nFlat a ha hb
 ·have ht:top=.tp:=by
   unfold pkMd at z
   split at z
   ·cases z
   ·split at z
    ·exact z
    ·cases z
  subst ht
  rcases htop with ⟨_,h1⟩ | ⟨h1,_⟩
  ·match N,h1,e,nFlat with
   | [b],_,e,nFlat =>
    cases e
    exact nFlat a Aa
  ·cases h1
 ·have hf':f∈As++(S++T):=Ag _ hf
  refine ⟨λhq a ha z=>?_,λhq a ha z=>?_⟩
  ·rcases cs a ha with hn | ⟨_,g,hg,hc⟩
   ·exact nN a hn f hf' z
   ·refine (hs.2.2 g hg f hf).1 ?_ a hc z
    rcases hq with hq | hq
    ·exact .inl hq
    ·cases hq
  ·rcases Ay.mp z with z | z
   ·exact nN a z f hf' (Hv _ _ ha)
   ·obtain ⟨g,hg,z⟩:=Du.mp z
    refine (hs.2.2 g hg f hf).2 ?_ a ha z
    rcases hq with hq | hq
    ·refine .inl ?_
     have hq':Pr (.dat (pkMd top (As.map Ent.x)) d)=false:=hq
     unfold pkMd at hq'
     by_cases hw:allOw (As.map Ent.x)=true
     ·obtain ⟨d',hd'⟩:=Ol hw g hg
      rw[hd']
      rfl
     ·rw[if_neg hw] at hq'
      by_cases hk:noPk (As.map Ent.x)=true
      ·exact gI hk g hg
      ·rw[if_neg hk] at hq'
       cases hq'
    ·exact .inr hq
 ·rcases cs a ha with hn | ⟨_,g,hg,hc⟩
  ·exact .inl (h2.new0 (hN a hn))
  ·rcases h2.new g (An _ hg) a hc with z | z
   ·exact .inl z
   ·obtain ⟨d',hd'⟩:=Ol (by assumption) g hg
    rw[hd'] at z
    cases z.2
end
def R1(da:DA):DE:=λδ P=>da δ λxs δ'=>match datas xs with
 | some ds=>ds.length<=1000/\P (.dat (pkMd .sh xs) (.tuple ds)) δ'
 | none=>False
def Z4(da:DA):DE:=λδ P=>da δ λxs δ'=>match datas xs with
 | some ds=>ds.length<=1000/\P (.dat (pkMd .tp xs) (.list ds)) δ'
 | none=>False
section
variable{X:Cx}{es:List Expr}{da:DA}{pos:Pos}
theorem Pc{x1}(h:jY X es da):Fe X (.Tuple es x1 pos) (R1 da):=by
 refine PE.imp (L3 h) λσ H Q h=>?_
 obtain ⟨H0,Y,S,T,δ,P,rfl,hS,hA,hd,k⟩:=h
 refine ⟨H0,Y,S,T,δ,_,rfl,hS,hA,hd,λxs δ' As us S' H' e1 e2 ex eu hA' p=>?_⟩
 cases q:datas xs with
 | none=>rw[q] at p; exact p.elim
 | some ds =>
  rw[q] at p
  subst ex
  have r:=Yx eu q λe he=>hA'.ok e (Ag _ (An _ he))
  have hl:=r.len
  have hz:ds.length<=Bd:=sz p.1
  refine ⟨by omega,λt ht=>?_⟩
  have s1:=Eo ht (.tup us)
  exact k _ δ' _ _ S' _ e1 e2 (hA'.pack (N:=[]) s1 (λ_ z=>nomatch z) Ee (.inr ⟨rfl,rfl⟩) (.tup Ct hz (r.kp (Kp.of s1)))) p.2
theorem Le(h:jY X es da):Fe X (.List es pos) (Z4 da):=by
 refine PE.imp (Vb h) λσ H Q h=>?_
 obtain ⟨H0,Y,S,T,δ,P,rfl,hS,hA,hd,k⟩:=h
 refine ⟨H0,Y,S,T,δ,_,rfl,hS,hA,hd,λxs δ' As us S' H' e1 e2 ex eu hA' p=>?_⟩
 cases q:datas xs with
 | none=>rw[q] at p; exact p.elim
 | some ds =>
  rw[q] at p
  subst ex
  have r:=Yx eu q λe he=>hA'.ok e (Ag _ (An _ he))
  have hl:=r.len
  have hz:ds.length<=Bd:=sz p.1
  refine ⟨by omega,λt ht=>?_⟩
  have s1:=Eo ht (.lst us)
  exact k _ δ' _ _ S' _ e1 e2 (hA'.pack (N:=[t]) s1 (λa z=>by rw[Ae.mp z]; exact ht) (Bs.mpr ⟨Bk,Ee⟩) (.inl ⟨rfl,rfl⟩) (.lst Ct hz (r.kp (Kp.of s1)))) p.2
end
end DL
namespace Nd
open PySem PySem.Spec PyProof.Rows L2
section
variable{X:Cx}
def u3:V->Option Int->Option Int->Hp->VK->Prop:=λx lo hi H Q=>∃a xs,x=.ref a/\H a=some (.tup xs)/\∀p H',H' p=some (.tup (Zn xs lo hi))->Lg H H'->Q (.ref p) H'
theorem yZ:J0 X u3:=by
 intro pins s σ H x v vl vu lo hi sl Q I rx hs pl pu h
 obtain ⟨a,xs,rfl,hx',q⟩:=h
 have hx:Tg X.K H a xs:=Tg.of hx'
 cases rx
 by_cases hw:HT.sIx xs.length 0 lo=0/\HT.sIx xs.length xs.length hi=xs.length
 ·obtain ⟨its,r,ht,hz⟩:=I.tuple hx
  have hlen:its.toArray.size=xs.length:=by rw[Aq]; exact r.length.symm
  refine ⟨"tuple",_,Ei.lookup,ht.typeIs,?_⟩
  refine Sb ht hs pl pu (by rw[hlen]; exact hw) ⟨.ref a,H,I,rfl,q a H ?_ (Lg.refl _)⟩
  unfold Zn
  rw[hw.1,hw.2,Te,Xu,Kf]
  exact hx'
 ·exact P5 pins s σ H (.ref a) (.ref a) vl vu lo hi sl Q I rfl hs pl pu ⟨a,xs,rfl,hx,hw,λp np=>q p _ Ct (Eo np _)⟩
end
end Nd
namespace Ts
open PySem PyProof.Rows
def Ro:Bool->Keyed->Array Keyed->Nat->Nat->Nat->StateT Bq Sem (Option Nat):=sortPriv% PySem.Builtin.gallop
structure Cmp(prog:Bj)(w:World)(A:Cp)(s:Aj)(kd:Lb)(Ok:Keyed->Prop)(blt:Keyed->Keyed->Bool):Prop where
 run:∀(x y:Keyed) (Q:Bool->Aj->Prop) (E:Value->Aj->Prop),Ok x->Ok y->Q (blt x y) s->wpAny (model prog w) A (keyLt' kd x.1 y.1) Q E s
 irr:∀x,blt x x=false
 tr:∀x y z,blt x y=true->blt y z=true->blt x z=true
 neg:∀x y z,blt x z=true->blt x y=true\/blt y z=true
def le(blt:Keyed->Keyed->Bool)(x y:Keyed):Prop:=blt y x=false
section
variable{prog:Bj}{w:World}{A:Cp}{s:Aj}{kd:Lb}{Ok:Keyed->Prop}{blt:Keyed->Keyed->Bool}
theorem Cmp.refl(C:Cmp prog w A s kd Ok blt)(x:Keyed):le blt x x:=C.irr x
theorem Cmp.ofLt(C:Cmp prog w A s kd Ok blt){x y:Keyed}(h:blt x y=true):le blt x y:=by
 unfold le
 cases q:blt y x with
 | false=>rfl
 | true=>have:=C.tr _ _ _ h q; rw[C.irr] at this; cases this
theorem Cmp.trans(C:Cmp prog w A s kd Ok blt){x y z:Keyed}(h1:le blt x y)(h2:le blt y z):le blt x z:=by
 unfold le at *
 cases q:blt z x with
 | false=>rfl
 | true =>
  rcases C.neg _ y _ q with h | h
  ·rw[h2] at h; cases h
  ·rw[h1] at h; cases h
theorem Cmp.ltLe(C:Cmp prog w A s kd Ok blt){x y z:Keyed}(h1:blt x y=true)(h2:le blt y z):blt x z=true:=by
 unfold le at h2
 rcases C.neg _ z _ h1 with h | h
 ·exact h
 ·rw[h2] at h; cases h
theorem Cmp.leLt(C:Cmp prog w A s kd Ok blt){x y z:Keyed}(h1:le blt x y)(h2:blt y z=true):blt x z=true:=by
 unfold le at h1
 rcases C.neg _ x _ h2 with h | h
 ·rw[h1] at h; cases h
 ·exact h
variable{E:Value->Aj->Prop}
structure Kept(st st':Bq):Prop where
 kind:kindOf st'=kindOf st
 arr:arrOf st'=arrOf st
 pend:Az st'=Az st
 fail:La st'=La st
theorem Kept.refl(st:Bq):Kept st st:=⟨rfl,rfl,rfl,rfl⟩
theorem Kept.trans{a b c:Bq}(h:Kept a b)(k:Kept b c):Kept a c:=⟨k.kind.trans h.kind,k.arr.trans h.arr,k.pend.trans h.pend,k.fail.trans h.fail⟩
theorem gY(C:Cmp prog w A s kd Ok blt){st:Bq}{x y:Keyed}{Q:Option Bool->Bq->Prop}(hk:kindOf st=kd)(ox:Ok x)(oy:Ok y)(h:Q (some (blt x y)) st):wpS (model prog w) A E s (lt' x y) Q st:=by
 rw[lt'_eq]
 refine Au (Me ?_)
 rw[hk]
 exact Au (wpS_lift (wpAny_attempt (C.run x y _ _ ox oy ⟨rfl,Bb h⟩)))
theorem Fc{st:Bq}{xs:Array Keyed}{i:Nat}{p:Keyed}{Q:Keyed->Bq->Prop}(h:xs[i]? = some p)(q:Q p st):wpS (model prog w) A E s (elem' xs i) Q st:=by
 rw[elem'_eq,h]
 exact Bb q
def Rt(left:Bool)(key:Keyed)(arr:Array Keyed)(base i:Nat):StateT Bq Sem (Option Bool):=do
 let x <- elem' arr (base+i)
 if left then lt' x key else return (<- lt' key x).map (!·)
def mT(left:Bool)(key:Keyed)(arr:Array Keyed)(base n lo0 hi0:Nat):StateT Bq Sem (Option Nat):=do
 let mut lo:=lo0
 let mut hi:=hi0
 for _ in [0:n] do
  if lo ≥ hi then break
  let mid:=lo+(hi - lo) / 2
  let some up <- Rt left key arr base mid | return none
  if up then lo:=mid+1 else hi:=mid
 return some hi
theorem kG(left:Bool)(key:Keyed)(arr:Array Keyed)(base n hint:Nat):Ro left key arr base n hint=(do
  let some right <- Rt left key arr base hint | return none
  let mut last:=0
  let mut ofs:=1
  if right then
   let top:=n - hint
   for _ in [0:n] do
    if ofs ≥ top then break
    let some up <- Rt left key arr base (hint+ofs) | return none
    if !up then break
    last:=ofs
    ofs:=2 * ofs+1
   mT left key arr base n (hint+last+1) (hint+min ofs top)
  else
   let top:=hint+1
   for _ in [0:n] do
    if ofs ≥ top then break
    let some got <- Rt left key arr base (hint - ofs) | return none
    if got then break
    last:=ofs
    ofs:=2 * ofs+1
   mT left key arr base n (hint+1 - min ofs top) (hint - last)):=rfl
def Gm(blt:Keyed->Keyed->Bool)(left:Bool)(key x:Keyed):Bool:=if left then blt x key else !blt key x
structure Row(Ok:Keyed->Prop)(arr:Array Keyed)(base n:Nat)(el:Nat->Keyed):Prop where
 at_:∀i,i<n->arr[base+i]? = some (el i)
 ok:∀i,i<n->Ok (el i)
theorem Rq(C:Cmp prog w A s kd Ok blt){st:Bq}{left:Bool}{key:Keyed}{arr:Array Keyed}{base n i:Nat}{el:Nat->Keyed}(R:Row Ok arr base n el)(ok:Ok key)(hk:kindOf st=kd)(hi:i<n){Q:Option Bool->Bq->Prop}(h:Q (some (Gm blt left key (el i))) st):wpS (model prog w) A E s (Rt left key arr base i) Q st:=by
 unfold Rt
 refine Au (Fc (R.at_ i hi) ?_)
 cases left with
 | true =>
  rw[if_pos rfl]
  exact gY C hk (R.ok i hi) ok h
 | false =>
  rw[if_neg Bx]
  exact Au (gY C hk ok (R.ok i hi) (Bb h))
theorem nQ(C:Cmp prog w A s kd Ok blt){st:Bq}{left:Bool}{key:Keyed}{arr:Array Keyed}{base n lo hi:Nat}{el:Nat->Keyed}(R:Row Ok arr base n el)(ok:Ok key)(hk:kindOf st=kd)(mono:∀i j,i<=j->j<n->Gm blt left key (el j)=true->Gm blt left key (el i)=true)(h1:lo<=hi)(h2:hi<=n)(t1:∀i,i<lo->Gm blt left key (el i)=true)(t2:∀i,hi<=i->i<n->Gm blt left key (el i)=false){Q:Option Nat->Bq->Prop}(h:∀k,k<=n->(∀i,i<k->Gm blt left key (el i)=true)->(∀i,k<=i->i<n->Gm blt left key (el i)=false)->Q (some k) st):wpS (model prog w) A E s (mT left key arr base n lo hi) Q st:=by
 unfold mT
 refine Au (Gy (Ef (I:=λx c st'=>∃l r,c=(none,l,r)/\st'=st/\l<=r/\r<=n/\r - l+x<=n/\(∀i,i<l->Gm blt left key (el i)=true)/\(∀i,r<=i->i<n->Gm blt left key (el i)=false))
  (Q:=λc st'=>∃r,c=(none,r,r)/\st'=st/\r<=n/\(∀i,i<r->Gm blt left key (el i)=true)/\(∀i,r<=i->i<n->Gm blt left key (el i)=false)) ?_ ?_ ⟨lo,hi,rfl,rfl,h1,h2,by omega,t1,t2⟩) ?_)
 ·(intro x c st' _ hx q_; obtain ⟨l,r,rfl,rfl,a1,a2,a3,b1,b2⟩ := q_)
  dsimp only
  by_cases hlr:l ≥ r
  ·rw[if_pos hlr]
   have e:l=r:=by omega
   subst e
   exact Bb ⟨l,rfl,rfl,a2,b1,b2⟩
  ·rw[if_neg hlr]
   have hm:l+(r - l) / 2<n:=by omega
   refine Au (Rq C R ok hk hm ?_)
   dsimp only
   cases hb:Gm blt left key (el (l+(r - l) / 2)) with
   | true =>
    rw[if_pos rfl]
    exact Bb ⟨l+(r - l) / 2+1,r,rfl,rfl,by omega,a2,by omega,λi hi=>mono i _ (by omega) hm hb,b2⟩
   | false =>
    rw[if_neg Bx]
    refine Bb ⟨l,l+(r - l) / 2,rfl,rfl,by omega,by omega,by omega,b1,λi hi hn=>?_⟩
    cases q:Gm blt left key (el i) with
    | false=>rfl
    | true=>rw[mono _ i hi hn q] at hb; cases hb
 ·(intro c st' q_; obtain ⟨l,r,rfl,rfl,a1,a2,a3,b1,b2⟩ := q_)
  have e:l=r:=by
   have : max 0 n=n:=by omega
   rw[this] at a3
   omega
  subst e
  exact ⟨l,rfl,rfl,a2,b1,b2⟩
 ·(intro c st' q_; obtain ⟨r,rfl,rfl,a2,b1,b2⟩ := q_)
  exact Bb (h r a2 b1 b2)
theorem Mo(C:Cmp prog w A s kd Ok blt){st:Bq}{left:Bool}{key:Keyed}{arr:Array Keyed}{base n hint:Nat}{el:Nat->Keyed}(R:Row Ok arr base n el)(ok:Ok key)(hk:kindOf st=kd)(hh:hint<n)(mono:∀i j,i<=j->j<n->Gm blt left key (el j)=true->Gm blt left key (el i)=true){Q:Option Nat->Bq->Prop}(h:∀k,k<=n->(∀i,i<k->Gm blt left key (el i)=true)->(∀i,k<=i->i<n->Gm blt left key (el i)=false)->Q (some k) st):wpS (model prog w) A E s (Ro left key arr base n hint) Q st:=by
 have anti:∀i j,i<=j->j<n->Gm blt left key (el i)=false->Gm blt left key (el j)=false:=λi j hij hj q=>by
  cases z:Gm blt left key (el j) with
  | false=>rfl
  | true=>rw[mono i j hij hj z] at q; cases q
 rw[kG]
 refine Au (Rq C R ok hk hh ?_)
 dsimp only
 cases hb:Gm blt left key (el hint) with
 | true =>
  rw[if_pos rfl]
  refine Au (Gy (Ef (I:=λx c st'=>∃la o,c=(none,la,o)/\st'=st/\la<o/\x+1<=o/\hint+la<n/\Gm blt left key (el (hint+la))=true)
   (Q:=λc st'=>∃la o,c=(none,la,o)/\st'=st/\la<o/\hint+la<n/\Gm blt left key (el (hint+la))=true/\(o ≥ n - hint\/(hint+o<n/\Gm blt left key (el (hint+o))=false))) ?_ ?_
   ⟨0,1,rfl,rfl,by omega,by omega,by omega,hb⟩) ?_)
  ·(intro x c st' _ hx q_; obtain ⟨la,o,rfl,rfl,a1,a2,a3,b1⟩ := q_)
   dsimp only
   by_cases ho:o ≥ n - hint
   ·rw[if_pos ho]
    exact Bb ⟨la,o,rfl,rfl,a1,a3,b1,.inl ho⟩
   ·rw[if_neg ho]
    have hm:hint+o<n:=by omega
    refine Au (Rq C R ok hk hm ?_)
    dsimp only
    cases hb2:Gm blt left key (el (hint+o)) with
    | true =>
     simp only[Ko,Bp,if_false]
     exact Bb ⟨o,2 * o+1,rfl,rfl,by omega,by omega,hm,hb2⟩
    | false =>
     simp only[Bool.not_false,if_true]
     exact Bb ⟨la,o,rfl,rfl,a1,a3,b1,.inr ⟨hm,hb2⟩⟩
  ·(intro c st' q_; obtain ⟨la,o,rfl,rfl,a1,a2,a3,b1⟩ := q_)
   have : max 0 n=n:=by omega
   rw[this] at a2
   exact ⟨la,o,rfl,rfl,a1,a3,b1,.inl (by omega)⟩
  ·(intro c st' q_; obtain ⟨la,o,rfl,rfl,a1,a3,b1,b2⟩ := q_)
   dsimp only
   refine nQ C R ok hk mono (by omega) (by omega) (λi hi=>mono i _ (by omega) a3 b1) (λi hi hn=>?_) h
   rcases b2 with b2 | ⟨b2,b3⟩
   ·exfalso; omega
   ·exact anti _ i (by omega) hn b3
 | false =>
  rw[if_neg Bx]
  refine Au (Gy (Ef (I:=λx c st'=>∃la o,c=(none,la,o)/\st'=st/\la<o/\x+1<=o/\la<=hint/\Gm blt left key (el (hint - la))=false)
   (Q:=λc st'=>∃la o,c=(none,la,o)/\st'=st/\la<o/\la<=hint/\Gm blt left key (el (hint - la))=false/\(o ≥ hint+1\/(o<=hint/\Gm blt left key (el (hint - o))=true))) ?_ ?_
   ⟨0,1,rfl,rfl,by omega,by omega,by omega,hb⟩) ?_)
  ·(intro x c st' _ hx q_; obtain ⟨la,o,rfl,rfl,a1,a2,a3,b1⟩ := q_)
   dsimp only
   by_cases ho:o ≥ hint+1
   ·rw[if_pos ho]
    exact Bb ⟨la,o,rfl,rfl,a1,a3,b1,.inl ho⟩
   ·rw[if_neg ho]
    have hm:hint - o<n:=by omega
    refine Au (Rq C R ok hk hm ?_)
    dsimp only
    cases hb2:Gm blt left key (el (hint - o)) with
    | true =>
     rw[if_pos rfl]
     exact Bb ⟨la,o,rfl,rfl,a1,a3,b1,.inr ⟨by omega,hb2⟩⟩
    | false =>
     rw[if_neg Bx]
     exact Bb ⟨o,2 * o+1,rfl,rfl,by omega,by omega,by omega,hb2⟩
  ·(intro c st' q_; obtain ⟨la,o,rfl,rfl,a1,a2,a3,b1⟩ := q_)
   have : max 0 n=n:=by omega
   rw[this] at a2
   exact ⟨la,o,rfl,rfl,a1,a3,b1,.inl (by omega)⟩
  ·(intro c st' q_; obtain ⟨la,o,rfl,rfl,a1,a3,b1,b2⟩ := q_)
   dsimp only
   refine nQ C R ok hk mono (by omega) (by omega) (λi hi=>?_) (λi hi hn=>anti _ i hi hn b1) h
   rcases b2 with b2 | ⟨b2,b3⟩
   ·exfalso; omega
   ·exact mono i _ (by omega) (by omega) b3
end
structure MI{α:Type}(R:α->α->Prop)(xs ys out:List α)(i j:Nat):Prop where
 perm:out.Perm (xs.take i++ys.take j)
 srt:out.Pairwise R
 lx:∀o∈out,∀z∈xs.drop i,R o z
 ly:∀o∈out,∀z∈ys.drop j,R o z
section
variable{α:Type}{R:α->α->Prop}{xs ys out:List α}{i j:Nat}
theorem bI{l:List α}{n:Nat}{a:α}(h:l[n]? = some a):l.drop n=a::l.drop (n+1):=by
 obtain ⟨hn,e⟩:=Ap.mp h
 rw[Ou hn,e]
theorem take_snoc{l:List α}{n:Nat}{a:α}(h:l[n]? = some a):l.take (n+1)=l.take n++[a]:=by
 rw[List.take_succ,h]; rfl
theorem MI.pushY(M:MI R xs ys out i j)(sy:ys.Pairwise R){y:α}(hy:ys[j]? = some y)(hx:∀z∈xs.drop i,R y z):MI R xs ys (out++[y]) i (j+1):=by
 have dy:=bI hy
 have sd:(y::ys.drop (j+1)).Pairwise R:=by rw[<- dy]; exact Ib (Hq _ _) sy
 obtain ⟨s1,s2⟩:=Bm.mp sd
 refine ⟨?_,?_,λo ho z hz=>?_,λo ho z hz=>?_⟩
 ·rw[take_snoc hy,<- Bg]
  exact M.perm.append_right _
 ·refine Cg.mpr ⟨M.srt,El _ _,λo ho z hz=>?_⟩
  have e:z=y:=by simpa using hz
  rw[e]
  exact M.ly o ho y (by rw[dy]; exact Aa)
 ·rcases Ay.mp ho with ho | ho
  ·exact M.lx o ho z hz
  ·have e:o=y:=by simpa using ho
   rw[e]; exact hx z hz
 ·rcases Ay.mp ho with ho | ho
  ·exact M.ly o ho z (by rw[dy]; exact Ad _ hz)
  ·have e:o=y:=by simpa using ho
   rw[e]; exact s1 z hz
theorem MI.pushX(M:MI R xs ys out i j)(sx:xs.Pairwise R){x:α}(hx:xs[i]? = some x)(hy:∀z∈ys.drop j,R x z):MI R xs ys (out++[x]) (i+1) j:=by
 have dx:=bI hx
 have sd:(x::xs.drop (i+1)).Pairwise R:=by rw[<- dx]; exact Ib (Hq _ _) sx
 obtain ⟨s1,s2⟩:=Bm.mp sd
 refine ⟨?_,?_,λo ho z hz=>?_,λo ho z hz=>?_⟩
 ·rw[take_snoc hx]
  have p1:(out++[x]).Perm ((xs.take i++ys.take j)++[x]):=M.perm.append_right _
  refine p1.trans ?_
  rw[Bg,Bg]
  exact Gv _ Dq
 ·refine Cg.mpr ⟨M.srt,El _ _,λo ho z hz=>?_⟩
  have e:z=x:=by simpa using hz
  rw[e]
  exact M.lx o ho x (by rw[dx]; exact Aa)
 ·rcases Ay.mp ho with ho | ho
  ·exact M.lx o ho z (by rw[dx]; exact Ad _ hz)
  ·have e:o=x:=by simpa using ho
   rw[e]; exact s1 z hz
 ·rcases Ay.mp ho with ho | ho
  ·exact M.ly o ho z hz
  ·have e:o=x:=by simpa using ho
   rw[e]; exact hy z hz
theorem Qm{l:List α}{n k:Nat}{a:α}(h:l[n+k]? = some a):(l.drop n).take (k+1)=(l.drop n).take k++[a]:=take_snoc (by rw[Wb]; exact h)
theorem MI.blockX(M:MI R xs ys out i j)(sx:xs.Pairwise R):∀k,i+k<=xs.length->(∀m,m<k->∀x,xs[i+m]? = some x->∀z∈ys.drop j,R x z)->MI R xs ys (out++(xs.drop i).take k) (i+k) j
 | 0,_,_=>by simpa using M
 | k+1,hk,h=>by
  have ih:=MI.blockX M sx k (by omega) λm hm=>h m (by omega)
  obtain ⟨x,hx⟩ : ∃x,xs[i+k]? = some x:=⟨xs[i+k],by simp⟩
  rw[Qm hx,<- Bg]
  exact ih.pushX sx hx (h k (by omega) x hx)
theorem MI.blockY(M:MI R xs ys out i j)(sy:ys.Pairwise R):∀k,j+k<=ys.length->(∀m,m<k->∀y,ys[j+m]? = some y->∀z∈xs.drop i,R y z)->MI R xs ys (out++(ys.drop j).take k) i (j+k)
 | 0,_,_=>by simpa using M
 | k+1,hk,h=>by
  have ih:=MI.blockY M sy k (by omega) λm hm=>h m (by omega)
  obtain ⟨y,hy⟩ : ∃y,ys[j+k]? = some y:=⟨ys[j+k],by simp⟩
  rw[Qm hy,<- Bg]
  exact ih.pushY sy hy (h k (by omega) y hy)
theorem MI.endX(M:MI R xs ys out i j)(sx:xs.Pairwise R)(hj:ys.length<=j):(out++xs.drop i++ys.drop j).Perm (xs++ys)/\(out++xs.drop i++ys.drop j).Pairwise R:=by
 rw[List.drop_eq_nil_of_le hj,Dg]
 constructor
 ·have p1:(out++xs.drop i).Perm ((xs.take i++ys.take j)++xs.drop i):=M.perm.append_right _
  refine p1.trans ?_
  rw[Gu hj]
  have p2:(xs.take i++ys++xs.drop i).Perm (xs.take i++(xs.drop i++ys)):=by
   rw[Bg]
   exact Gv _ Dq
  refine p2.trans ?_
  rw[<- Bg,Fo]
 ·exact Cg.mpr ⟨M.srt,Ib (Hq _ _) sx,M.lx⟩
theorem MI.endYX(M:MI R xs ys out i j)(sx:xs.Pairwise R)(sy:ys.Pairwise R)(h:∀y∈ys.drop j,∀x∈xs.drop i,R y x):(out++ys.drop j++xs.drop i).Perm (xs++ys)/\(out++ys.drop j++xs.drop i).Pairwise R:=by
 constructor
 ·have p1:(out++(ys.drop j++xs.drop i)).Perm ((xs.take i++ys.take j)++(ys.drop j++xs.drop i)):=M.perm.append_right _
  rw[Bg]
  refine p1.trans ?_
  rw[Bg,<- Bg (ys.take j),Fo]
  have p2:(xs.take i++(ys++xs.drop i)).Perm (xs.take i++(xs.drop i++ys)):=Gv _ Dq
  refine p2.trans ?_
  rw[<- Bg,Fo]
 ·refine Cg.mpr ⟨Cg.mpr ⟨M.srt,Ib (Hq _ _) sy,M.ly⟩,Ib (Hq _ _) sx,λa ha b hb=>?_⟩
  rcases Ay.mp ha with ha | ha
  ·exact M.lx a ha b hb
  ·exact h a ha b hb
end
def gN:Array Keyed->Array Keyed->StateT Bq Sem (Array Keyed):=sortPriv% PySem.Builtin.mergeLo
def Xm:Nat->StateT Bq Sem Unit:=sortPriv% PySem.Builtin.setMinGallop
abbrev J4(st:Bq)(g:Nat):Bq:=SortSt.mk' (kindOf st) (arrOf st) (Az st) g (La st)
theorem jQ(g:Nat):Xm g=modify λst=>J4 st g:=rfl
theorem Xi(p:Array Keyed)(i:Nat):(p.extract i p.size).toList=p.toList.drop i:=by
 rw[Mm,Ki,Gu]
 rw[Px,Ai]
 exact Ah _
theorem Tx(p:Array Keyed)(i k:Nat):(p.extract i (i+k)).toList=(p.toList.drop i).take k:=by
 rw[Mm,Ki,Nat.add_sub_cancel_left]
abbrev dn(p q out:Array Keyed)(i j:Nat):Array Keyed:=out++p.extract i p.size++q.extract j q.size
abbrev lst(p q out:Array Keyed)(i j:Nat):Array Keyed:=out++q.extract j q.size++p.extract i p.size
theorem i8(p q out:Array Keyed)(i j:Nat):(dn p q out i j).toList=out.toList++p.toList.drop i++q.toList.drop j:=by
 rw[Dc,Dc,Xi,Xi]
theorem wV(p q out:Array Keyed)(i j:Nat):(lst p q out i j).toList=out.toList++q.toList.drop j++p.toList.drop i:=by
 rw[Dc,Dc,Xi,Xi]
abbrev yF:=Option (Array Keyed)×Array Keyed×Nat×Nat×Nat×Nat×Nat
def e7(p q out:Array Keyed)(i j g ac k:Nat):StateT Bq Sem (ForInStep yF):=do
 let x <- elem' p i
 if (i+1+1 == p.size)=true then pure (Cn (some (lst p q (out.push x) (i+1) j),out.push x,i+1,j,g,ac,k))
 else if (decide (ac<7) && decide (k<7))=true then pure (Cn (none,out.push x,i+1,j,g,ac,k))
 else pure (Fd (none,out.push x,i+1,j,g,ac,k))
def j5(p q out:Array Keyed)(i j g ac bc:Nat):StateT Bq Sem (ForInStep yF):=do
 let y <- elem' q j
 if (j+1 == q.size)=true then pure (Cn (some (dn p q (out.push y) i (j+1)),out.push y,i,j+1,g,ac,bc))
 else do
  let x <- elem' p i
  let some k <- Ro true x q (j+1) (q.size - (j+1)) 0 | pure (Cn (some (dn p q (out.push y) i (j+1)),out.push y,i,j+1,g,ac,bc))
  if k > 0 then
   if (j+1+k == q.size)=true then pure (Cn (some (dn p q (out.push y++q.extract (j+1) (j+1+k)) i (j+1+k)),out.push y++q.extract (j+1) (j+1+k),i,j+1+k,g,ac,k))
   else e7 p q (out.push y++q.extract (j+1) (j+1+k)) i (j+1+k) g ac k
  else e7 p q (out.push y) i (j+1) g ac k
def Q1(p q out:Array Keyed)(i j g ac bc:Nat):StateT Bq Sem (ForInStep yF):=do
 Xm g
 let y <- elem' q j
 let some k <- Ro false y p i (p.size - i) 0 | pure (Cn (some (dn p q out i j),out,i,j,g,ac,bc))
 if k > 0 then
  if (i+k+1 == p.size)=true then pure (Cn (some (lst p q (out++p.extract i (i+k)) (i+k) j),out++p.extract i (i+k),i+k,j,g,k,bc))
  else if (i+k == p.size)=true then pure (Cn (some (dn p q (out++p.extract i (i+k)) (i+k) j),out++p.extract i (i+k),i+k,j,g,k,bc))
  else j5 p q (out++p.extract i (i+k)) (i+k) j g k bc
 else j5 p q out i j g k bc
section
variable{prog:Bj}{w:World}{A:Cp}{s:Aj}{kd:Lb}{Ok:Keyed->Prop}{blt:Keyed->Keyed->Bool}{E:Value->Aj->Prop}
theorem Rl{st:Bq}{x:String}{Q:Unit->Bq->Prop}(h:Q () st):wpS (model prog w) A E s (liftM (rule x):StateT Bq Sem Unit) Q st:=wpS_lift (wpAny_rule ⟨rfl,h⟩)
theorem Rg{st:Bq}{g:Nat}{Q:Unit->Bq->Prop}(h:∀st',Kept st st'->Q () st'):wpS (model prog w) A E s (Xm g) Q st:=by
 rw[jQ]
 exact Ji (h _ ⟨rfl,rfl,rfl,rfl⟩)
structure Two(Ok:Keyed->Prop)(blt:Keyed->Keyed->Bool)(p q:Array Keyed)(x0 y0 xl:Keyed):Prop where
 op:∀x∈p.toList,Ok x
 oq:∀x∈q.toList,Ok x
 sp:p.toList.Pairwise (le blt)
 sq:q.toList.Pairwise (le blt)
 hx0:p[0]? = some x0
 hy0:q[0]? = some y0
 hxl:p[p.size - 1]? = some xl
 first:blt y0 x0=true
 last:∀y∈q.toList,blt y xl=true
abbrev lI(blt:Keyed->Keyed->Bool)(p q r:Array Keyed):Prop:=r.toList.Perm (p.toList++q.toList)/\r.toList.Pairwise (le blt)
theorem Eb{p:Array Keyed}{i:Nat}{x:Keyed}(h:p[i]? = some x):p.toList[i]? = some x:=by simpa using h
theorem Ff{p:Array Keyed}{i:Nat}(h:i<p.size):∃x,p[i]? = some x:=⟨p[i],by simp [h]⟩
theorem Jg{p:Array Keyed}{i:Nat}{x:Keyed}(h:p[i]? = some x):x∈p.toList:=Ba (Eb h)
theorem fK{α:Type}{l:List α}{i:Nat}{z:α}(h:z∈l.drop i):∃k,l[i+k]? = some z:=by
 obtain ⟨k,hk,e⟩:=Gi.mp h
 exact ⟨k,by rw[<- Wb,Bw hk,e]⟩
theorem Kl(C:Cmp prog w A s kd Ok blt){l:List Keyed}(sl:l.Pairwise (le blt)){i j:Nat}{x y:Keyed}(hij:i<=j)(hx:l[i]? = some x)(hy:l[j]? = some y):le blt x y:=by
 by_cases e:i=j
 ·subst e
  rw[hx] at hy
  cases hy
  exact C.refl x
 ·obtain ⟨hi,ex⟩:=Ap.mp hx
  obtain ⟨hj,ey⟩:=Ap.mp hy
  have:=Dz.mp sl i j hi hj (by omega)
  rw[ex,ey] at this
  exact this
theorem Nw(C:Cmp prog w A s kd Ok blt){l:List Keyed}(sl:l.Pairwise (le blt)){i:Nat}{x y:Keyed}(hx:l[i]? = some x)(h:le blt y x):∀z∈l.drop i,le blt y z:=λz hz=>by
 obtain ⟨k,hk⟩:=fK hz
 exact C.trans h (Kl C sl (aD i k) hx hk)
abbrev LI(blt:Keyed->Keyed->Bool)(p q out:Array Keyed)(i j:Nat):Prop:=MI (le blt) p.toList q.toList out.toList i j
theorem Mq(out:Array Keyed)(x:Keyed):(out.push x).toList=out.toList++[x]:=by simp
theorem Two.last_end(C:Cmp prog w A s kd Ok blt){p q out:Array Keyed}{x0 y0 xl:Keyed}(T:Two Ok blt p q x0 y0 xl){i j:Nat}(M:LI blt p q out i j)(hi:i+1=p.size):lI blt p q (lst p q out i j):=by
 have h:=M.endYX T.sp T.sq (λy hy x hx=>?_)
 ·rw[<- wV] at h
  exact h
 ·obtain ⟨k,hk⟩:=fK hx
  have : k=0:=by
   have:=(Ap.mp hk).1
   rw[Ai] at this
   omega
  subst this
  have e:x=xl:=by
   have:=Eb T.hxl
   rw[show p.size - 1=i+0 by omega,hk] at this
   exact Bz this
  rw[e]
  exact C.ofLt (T.last y (List.mem_of_mem_drop hy))
theorem Two.done_end{p q out:Array Keyed}{x0 y0 xl:Keyed}(T:Two Ok blt p q x0 y0 xl){i j:Nat}(M:LI blt p q out i j)(hj:q.size<=j):lI blt p q (dn p q out i j):=by
 have h:=M.endX T.sp (by rw[Ai]; exact hj)
 rw[<- i8] at h
 exact h
def Y5(blt:Keyed->Keyed->Bool)(p q:Array Keyed)(st:Bq)(n:Nat)(r:ForInStep yF)(st':Bq):Prop:=Kept st st'/\match r with
 | .done (some r,_)=>lI blt p q r
 | .done (none,out,i,j,_)=>LI blt p q out i j/\i+1<p.size/\j<q.size/\n<i+j
 | .yield (none,out,i,j,_)=>LI blt p q out i j/\i+1<p.size/\j<q.size/\n<i+j
 | .yield (some _,_)=>False
theorem mF(C:Cmp prog w A s kd Ok blt){p q out:Array Keyed}{x0 y0 xl:Keyed}(T:Two Ok blt p q x0 y0 xl){i j g ac k n:Nat}{st0 st:Bq}(kp:Kept st0 st)(M:LI blt p q out i j)(hi:i+1<p.size)(hj:j<q.size)(hn:n<=i+j){x:Keyed}(hx:p[i]? = some x)(hq:∀z∈q.toList.drop j,le blt x z):wpS (model prog w) A E s (e7 p q out i j g ac k) (Y5 blt p q st0 n) st:=by
 unfold e7
 refine Au (Fc hx ?_)
 have M1:LI blt p q (out.push x) (i+1) j:=by
  have:=M.pushX T.sp (Eb hx) hq
  rw[<- Mq] at this
  exact this
 by_cases h1:i+1+1=p.size
 ·rw[if_pos (by rw[h1]; exact beq_self_eq_true _)]
  exact Bb ⟨kp,T.last_end C M1 h1⟩
 ·rw[if_neg (λz=>h1 (Dj z))]
  by_cases h2:(decide (ac<7) && decide (k<7))=true
  ·rw[if_pos h2]
   exact Bb ⟨kp,M1,by omega,hj,by omega⟩
  ·rw[if_neg h2]
   exact Bb ⟨kp,M1,by omega,hj,by omega⟩
theorem oQ(C:Cmp prog w A s kd Ok blt){p q out:Array Keyed}{x0 y0 xl:Keyed}(T:Two Ok blt p q x0 y0 xl){i j g ac bc n:Nat}{st0 st:Bq}(kp:Kept st0 st)(hk:kindOf st=kd)(M:LI blt p q out i j)(hi:i+1<p.size)(hj:j<q.size)(hn:n<=i+j){x y:Keyed}(hx:p[i]? = some x)(hy:q[j]? = some y)(hyx:blt y x=true):wpS (model prog w) A E s (j5 p q out i j g ac bc) (Y5 blt p q st0 n) st:=by
 unfold j5
 refine Au (Fc hy ?_)
 have M1:LI blt p q (out.push y) i (j+1):=by
  have:=M.pushY T.sq (Eb hy) (Nw C T.sp (Eb hx) (C.ofLt hyx))
  rw[<- Mq] at this
  exact this
 by_cases h1:j+1=q.size
 ·rw[if_pos (by rw[h1]; exact beq_self_eq_true _)]
  exact Bb ⟨kp,T.done_end M1 (by omega)⟩
 ·rw[if_neg (λz=>h1 (Dj z))]
  refine Au (Fc hx ?_)
  have R:Row Ok q (j+1) (q.size - (j+1)) (λm=>q.getD (j+1+m) y):=⟨λm hm=>?_,λm hm=>?_⟩
  ·refine Au (Mo C R (T.op x (Jg hx)) hk (by omega) (λa b hab hb q1=>?_) λk hk1 t1 t2=>?_)
   ·obtain ⟨ya,ea⟩:=Ff (p:=q) (i:=j+1+a) (by omega)
    obtain ⟨yb,eb⟩:=Ff (p:=q) (i:=j+1+b) (by omega)
    have ga:q.getD (j+1+a) y=ya:=by simp [Cm,ea]
    have gb:q.getD (j+1+b) y=yb:=by simp [Cm,eb]
    simp only[ga,gb,Gm,if_true] at q1 ⊢
    exact C.leLt (Kl C T.sq (by omega) (Eb ea) (Eb eb)) q1
   ·dsimp only
    have val:∀m yy,q[j+1+m]? = some yy->q.getD (j+1+m) y=yy:=λm yy e=>by simp [Cm,e]
    have M2:LI blt p q (out.push y++q.extract (j+1) (j+1+k)) i (j+1+k):=by
     have:=M1.blockY T.sq k (by rw[Ai]; omega) (λm hm yy ey=>by
      have ey':q[j+1+m]? = some yy:=by simpa using ey
      have:=t1 m hm
      rw[val m yy ey'] at this
      simp only[Gm,if_true] at this
      exact Nw C T.sp (Eb hx) (C.ofLt this))
     rw[<- Tx,<- Dc] at this
     exact this
    by_cases h2:k > 0
    ·rw[if_pos h2]
     by_cases h3:j+1+k=q.size
     ·rw[if_pos (by rw[h3]; exact beq_self_eq_true _)]
      exact Bb ⟨kp,T.done_end M2 (by omega)⟩
     ·rw[if_neg (λz=>h3 (Dj z))]
      obtain ⟨yk,ek⟩:=Ff (p:=q) (i:=j+1+k) (by omega)
      refine mF C T kp M2 hi (by omega) (by omega) hx (Nw C T.sq (Eb ek) ?_)
      have:=t2 k (Ah _) (by omega)
      rw[val k yk ek] at this
      have z:blt yk x=false:=by simpa only [Gm,if_true] using this
      exact z
    ·rw[if_neg h2]
     have hk0:k=0:=by omega
     subst hk0
     obtain ⟨yk,ek⟩:=Ff (p:=q) (i:=j+1) (by omega)
     refine mF C T kp M1 hi (by omega) (by omega) hx (Nw C T.sq (Eb ek) ?_)
     have:=t2 0 (Ah _) (by omega)
     rw[val 0 yk ek] at this
     have z:blt yk x=false:=by simpa only [Gm,if_true] using this
     exact z
  ·obtain ⟨ya,ea⟩:=Ff (p:=q) (i:=j+1+m) (by omega)
   rw[ea]
   simp [Cm,ea]
  ·obtain ⟨ya,ea⟩:=Ff (p:=q) (i:=j+1+m) (by omega)
   have : q.getD (j+1+m) y=ya:=by simp [Cm,ea]
   rw[this]
   exact T.oq ya (Jg ea)
theorem yR(C:Cmp prog w A s kd Ok blt){p q out:Array Keyed}{x0 y0 xl:Keyed}(T:Two Ok blt p q x0 y0 xl){i j g ac bc n:Nat}{st0 st:Bq}(kp:Kept st0 st)(hk:kindOf st=kd)(M:LI blt p q out i j)(hi:i+1<p.size)(hj:j<q.size)(hn:n<=i+j):wpS (model prog w) A E s (Q1 p q out i j g ac bc) (Y5 blt p q st0 n) st:=by
 unfold Q1
 refine Au (Rg λst1 kp1=>?_)
 have kp':=kp.trans kp1
 have hk':kindOf st1=kd:=kp1.kind.trans hk
 obtain ⟨y,hy⟩:=Ff (p:=q) hj
 refine Au (Fc hy ?_)
 have val:∀m xx,p[i+m]? = some xx->p.getD (i+m) y=xx:=λm xx e=>by simp [Cm,e]
 have R:Row Ok p i (p.size - i) (λm=>p.getD (i+m) y):=⟨λm hm=>by
  obtain ⟨xa,ea⟩:=Ff (p:=p) (i:=i+m) (by omega)
  rw[val m xa ea,ea],λm hm=>by
  obtain ⟨xa,ea⟩:=Ff (p:=p) (i:=i+m) (by omega)
  show Ok (p.getD (i+m) y)
  rw[val m xa ea]
  exact T.op xa (Jg ea)⟩
 refine Au (Mo C R (T.oq y (Jg hy)) hk' (by omega) (λa b hab hb q1=>?_) λk hk1 t1 t2=>?_)
 ·obtain ⟨xa,ea⟩:=Ff (p:=p) (i:=i+a) (by omega)
  obtain ⟨xb,eb⟩:=Ff (p:=p) (i:=i+b) (by omega)
  simp only[val a xa ea,val b xb eb,Gm,Bp,if_false,Jo] at q1 ⊢
  exact C.trans (Kl C T.sp (by omega) (Eb ea) (Eb eb)) q1
 ·dsimp only
  -- the last one is beyond y: so k does not reach it
  have hkl:i+k+1<=p.size:=by
   rcases Nat.lt_or_ge (i+k) p.size with z | z
   ·omega
   ·exfalso
    have:=t1 (p.size - 1 - i) (by omega)
    have e:p[i+(p.size - 1 - i)]? = some xl:=by
     rw[show i+(p.size - 1 - i)=p.size - 1 by omega]
     exact T.hxl
    rw[val _ xl e] at this
    simp only[Gm,Bp,if_false,T.last y (Jg hy),Ko] at this
  have M1:LI blt p q (out++p.extract i (i+k)) (i+k) j:=by
   have:=M.blockX T.sp k (by rw[Ai]; omega) (λm hm xx ex=>by
    have ex':p[i+m]? = some xx:=by simpa using ex
    have:=t1 m hm
    rw[val m xx ex'] at this
    simp only[Gm,Bp,if_false,Jo] at this
    exact Nw C T.sq (Eb hy) this)
   rw[<- Tx,<- Dc] at this
   exact this
  obtain ⟨xk,ek⟩:=Ff (p:=p) (i:=i+k) (by omega)
  have hyx:blt y xk=true:=by
   have:=t2 k (Ah _) (by omega)
   rw[val k xk ek] at this
   simpa only [Gm,Bp,if_false,Wc] using this
  by_cases h2:k > 0
  ·rw[if_pos h2]
   by_cases h3:i+k+1=p.size
   ·rw[if_pos (by rw[h3]; exact beq_self_eq_true _)]
    exact Bb ⟨kp',T.last_end C M1 h3⟩
   ·rw[if_neg (λz=>h3 (Dj z)),if_neg (λz=>by have:=Dj z; omega)]
    exact oQ C T kp' hk' M1 (by omega) hj (by omega) ek hy hyx
  ·rw[if_neg h2]
   have hk0:k=0:=by omega
   subst hk0
   exact oQ C T kp' hk' M hi hj hn ek hy hyx
theorem jK(C:Cmp prog w A s kd Ok blt){p q:Array Keyed}{x0 y0 xl:Keyed}(T:Two Ok blt p q x0 y0 xl){st:Bq}(hk:kindOf st=kd){Q:Array Keyed->Bq->Prop}(h:∀r st',Kept st st'->lI blt p q r->Q r st'):wpS (model prog w) A E s (gN p q) Q st:=by
 have p0:0<p.size:=by
  have:=(Hb.mp T.hx0).1
  exact this
 have q0:0<q.size:=by
  have:=(Hb.mp T.hy0).1
  exact this
 have M0:LI blt p q #[y0] 0 1:=by
  have m:LI blt p q #[] 0 0:=⟨by simp,by simp,λo ho=>by simp at ho,λo ho=>by simp at ho⟩
  have:=m.pushY T.sq (Eb T.hy0) (Nw C T.sp (Eb T.hx0) (C.ofLt T.first))
  simpa using this
 unfold gN
 refine Au (Rl ?_)
 refine Au (Fc T.hy0 ?_)
 dsimp only
 by_cases h1:1=q.size
 ·rw[if_pos (by rw[<- h1]; rfl)]
  exact Bb (h _ _ (Kept.refl _) (T.done_end M0 (by omega)))
 rw[if_neg (λz=>h1 (Dj z))]
 by_cases h2:0+1=p.size
 ·rw[if_pos (by rw[<- h2]; rfl)]
  exact Bb (h _ _ (Kept.refl _) (T.last_end C M0 (by omega)))
 rw[if_neg (λz=>h2 (Dj z))]
 refine Au (Me ?_)
 refine Au (Gy (Ef
  (I:=λx c st'=>Kept st st'/\∃out i j g,c=(none,out,i,j,g)/\LI blt p q out i j/\i+1<p.size/\j<q.size/\x+1<=i+j)
  (Q:=λc st'=>Kept st st'/\∃r Fb,c=(some r,Fb)/\lI blt p q r) ?_ ?_ ⟨Kept.refl _,_,0,1,_,rfl,M0,by omega,by omega,by omega⟩) ?_)
 ·(intro x c st1 _ hx q_; obtain ⟨kp1,out,i,j,g,rfl,M,hi,hj,hn⟩ := q_)
  dsimp only
  -- one by one
  refine Au (Gy (Ef
   (I:=λ_ c st'=>st'=st1/\∃out i j ac bc,c=(none,out,i,j,ac,bc)/\LI blt p q out i j/\i+1<p.size/\j<q.size/\x+1<=i+j)
   (Q:=λc st'=>st'=st1/\((∃r Fb,c=(some r,Fb)/\lI blt p q r)\/∃out i j ac bc,c=(none,out,i,j,ac,bc)/\LI blt p q out i j/\i+1<p.size/\j<q.size/\x+1<=i+j)) ?_ ?_ ⟨rfl,out,i,j,0,0,rfl,M,hi,hj,hn⟩) ?_)
  ·(intro z c st2 _ hz q_; obtain ⟨rfl,out,i,j,ac,bc,rfl,M,hi,hj,hn⟩ := q_)
   dsimp only
   obtain ⟨yy,hy⟩:=Ff (p:=q) hj
   obtain ⟨xx,hx⟩:=Ff (p:=p) (i:=i) (by omega)
   refine Au (Fc hy ?_)
   refine Au (Fc hx ?_)
   refine Au (gY C (kp1.kind.trans hk) (T.oq yy (Jg hy)) (T.op xx (Jg hx)) ?_)
   dsimp only
   cases hb:blt yy xx with
   | true =>
    rw[if_pos rfl]
    refine Au (Fc hy ?_)
    have M1:LI blt p q (out.push yy) i (j+1):=by
     have:=M.pushY T.sq (Eb hy) (Nw C T.sp (Eb hx) (C.ofLt hb))
     rw[<- Mq] at this
     exact this
    by_cases e1:j+1=q.size
    ·rw[if_pos (by rw[e1]; exact beq_self_eq_true _)]
     exact Bb ⟨rfl,.inl ⟨_,_,rfl,T.done_end M1 (by omega)⟩⟩
    ·rw[if_neg (λz=>e1 (Dj z))]
     split
     ·exact Bb ⟨rfl,.inr ⟨_,_,_,_,_,rfl,M1,hi,by omega,by omega⟩⟩
     ·exact Bb ⟨rfl,_,_,_,_,_,rfl,M1,hi,by omega,by omega⟩
   | false =>
    rw[if_neg Bx]
    refine Au (Fc hx ?_)
    have M1:LI blt p q (out.push xx) (i+1) j:=by
     have:=M.pushX T.sp (Eb hx) (Nw C T.sq (Eb hy) hb)
     rw[<- Mq] at this
     exact this
    by_cases e1:i+1+1=p.size
    ·rw[if_pos (by rw[e1]; exact beq_self_eq_true _)]
     exact Bb ⟨rfl,.inl ⟨_,_,rfl,T.last_end C M1 (by omega)⟩⟩
    ·rw[if_neg (λz=>e1 (Dj z))]
     split
     ·exact Bb ⟨rfl,.inr ⟨_,_,_,_,_,rfl,M1,by omega,hj,by omega⟩⟩
     ·exact Bb ⟨rfl,_,_,_,_,_,rfl,M1,by omega,hj,by omega⟩
  ·(intro c st2 q_; obtain ⟨rfl,out,i,j,ac,bc,rfl,M⟩ := q_)
   exact ⟨rfl,.inr ⟨out,i,j,ac,bc,rfl,M⟩⟩
  ·rintro c st2 ⟨rfl,hc⟩
   rcases hc with hc | hc
   ·obtain ⟨r,Fb,rfl,hr⟩:=hc
    exact Bb ⟨kp1,r,_,rfl,hr⟩
   ·obtain ⟨out,i,j,ac,bc,rfl,M,hi,hj,hn⟩:=hc
    dsimp only
    refine Au (Rl ?_)
    -- the gallop
    refine Au (Gy (Ef
     (I:=λy c st'=>Kept st st'/\∃out i j g ac bc,c=(none,out,i,j,g,ac,bc)/\LI blt p q out i j/\i+1<p.size/\j<q.size/\(if y=0 then x+1<=i+j else x+2<=i+j))
     (Q:=λc st'=>Kept st st'/\((∃r Fb,c=(some r,Fb)/\lI blt p q r)\/∃out i j g ac bc,c=(none,out,i,j,g,ac,bc)/\LI blt p q out i j/\i+1<p.size/\j<q.size/\x+2<=i+j)) ?_ ?_
     ⟨kp1,out,i,j,_,ac,bc,rfl,M,hi,hj,by rw[if_pos rfl]; exact hn⟩) ?_)
    ·(intro y c Pq _ hy q_; obtain ⟨kp3,out,i,j,g,ac,bc,rfl,M,hi,hj,hn⟩ := q_)
     have hn':x+1<=i+j:=by split at hn <;> omega
     have key:∀g',wpS (model prog w) A E s (Q1 p q out i j g' ac bc) (Y5 blt p q st (x+1)) Pq:=λg'=>yR C T kp3 (kp3.kind.trans hk) M hi hj hn'
     dsimp only
     refine Gy (?_:wpS (model prog w) A E s _ (Y5 blt p q st (x+1)) Pq) λr st4 hr=>?_
     ·by_cases hg:g > 1
      ·rw[if_pos hg]
       exact key _
      ·rw[if_neg hg]
       exact key _
     ·obtain ⟨kp4,hr⟩:=hr
      match r,hr with
      | .done (some r,Fb),hr=>exact ⟨kp4,.inl ⟨r,Fb,rfl,hr⟩⟩
      | .done (none,out,i,j,g,ac,bc),hr=>exact ⟨kp4,.inr ⟨out,i,j,g,ac,bc,rfl,hr.1,hr.2.1,hr.2.2.1,by have:=hr.2.2.2; omega⟩⟩
      | .yield (none,out,i,j,g,ac,bc),hr=>exact ⟨kp4,out,i,j,g,ac,bc,rfl,hr.1,hr.2.1,hr.2.2.1,by rw[if_neg (by omega)]; have:=hr.2.2.2; omega⟩
    ·(intro c Pq q_; obtain ⟨kp3,out,i,j,g,ac,bc,rfl,M,hi,hj,hn⟩ := q_)
     rw[if_neg (by omega)] at hn
     exact ⟨kp3,.inr ⟨out,i,j,g,ac,bc,rfl,M,hi,hj,hn⟩⟩
    ·rintro c Pq ⟨kp3,hc⟩
     rcases hc with hc | hc
     ·obtain ⟨r,Fb,rfl,hr⟩:=hc
      exact Bb ⟨kp3,r,_,rfl,hr⟩
     ·obtain ⟨out,i,j,g,ac,bc,rfl,M,hi,hj,hn⟩:=hc
      dsimp only
      refine Au (Rg λst4 kp4=>?_)
      exact Bb ⟨kp3.trans kp4,out,i,j,_,rfl,M,hi,hj,by omega⟩
 ·(intro c st1 q_; obtain ⟨kp1,out,i,j,g,rfl,M,hi,hj,hn⟩ := q_)
  exfalso
  have : max 0 (p.size+q.size)=p.size+q.size:=by omega
  rw[this] at hn
  omega
 ·(intro c st1 q_; obtain ⟨kp1,r,Fb,rfl,hr⟩ := q_)
  exact Bb (h r st1 kp1 hr)
end
def iD:Array Keyed->Array Keyed->StateT Bq Sem (Array Keyed):=sortPriv% PySem.Builtin.mergeHi
abbrev K4(p q out:Array Keyed)(m n:Nat):Array Keyed:=p.extract 0 m++q.extract 0 n++out.reverse
abbrev AZ(p q out:Array Keyed)(m n:Nat):Array Keyed:=q.extract 0 n++p.extract 0 m++out.reverse
abbrev n5:=Option (Array Keyed)×Nat×Nat×Array Keyed×Nat×Nat×Nat
def q9(p q out:Array Keyed)(m n g ac k:Nat):StateT Bq Sem (ForInStep n5):=do
 let x <- elem' p (m - 1)
 if (m - 1 == 0)=true then pure (Cn (some (K4 p q (out.push x) (m - 1) n),m - 1,n,out.push x,g,ac,k))
 else if (decide (ac<7) && decide (k<7))=true then pure (Cn (none,m - 1,n,out.push x,g,ac,k))
 else pure (Fd (none,m - 1,n,out.push x,g,ac,k))
def yH(p q out:Array Keyed)(m n g ac bc:Nat):StateT Bq Sem (ForInStep n5):=do
 let y <- elem' q (n - 1)
 if (n - 1 == 1)=true then pure (Cn (some (AZ p q (out.push y) m (n - 1)),m,n - 1,out.push y,g,ac,bc))
 else do
  let x <- elem' p (m - 1)
  let some t <- Ro true x q 0 (n - 1) (n - 1 - 1) | pure (Cn (some (K4 p q (out.push y) m (n - 1)),m,n - 1,out.push y,g,ac,bc))
  if n - 1 - t > 0 then
   if (t == 1)=true then pure (Cn (some (AZ p q (out.push y++(q.extract t (n - 1)).reverse) m t),m,t,out.push y++(q.extract t (n - 1)).reverse,g,ac,n - 1 - t))
   else if (t == 0)=true then pure (Cn (some (K4 p q (out.push y++(q.extract t (n - 1)).reverse) m t),m,t,out.push y++(q.extract t (n - 1)).reverse,g,ac,n - 1 - t))
   else q9 p q (out.push y++(q.extract t (n - 1)).reverse) m t g ac (n - 1 - t)
  else q9 p q (out.push y) m (n - 1) g ac (n - 1 - t)
def E8(p q out:Array Keyed)(m n g ac bc:Nat):StateT Bq Sem (ForInStep n5):=do
 Xm g
 let y <- elem' q (n - 1)
 let some t <- Ro false y p 0 m (m - 1) | pure (Cn (some (K4 p q out m n),m,n,out,g,ac,bc))
 if m - t > 0 then
  if (t == 0)=true then pure (Cn (some (K4 p q (out++(p.extract t m).reverse) t n),t,n,out++(p.extract t m).reverse,g,m - t,bc))
  else yH p q (out++(p.extract t m).reverse) t n g (m - t) bc
 else yH p q out m n g (m - t) bc
section
variable{α:Type}{R:α->α->Prop}{xs ys out:List α}{i j:Nat}
theorem MI.swap(M:MI R xs ys out i j):MI R ys xs out j i:=⟨M.perm.trans Dq,M.srt,M.ly,M.lx⟩
theorem MI.endXY(M:MI R xs ys out i j)(sx:xs.Pairwise R)(sy:ys.Pairwise R)(h:∀x∈xs.drop i,∀y∈ys.drop j,R x y):(out++xs.drop i++ys.drop j).Perm (xs++ys)/\(out++xs.drop i++ys.drop j).Pairwise R:=by
 have:=M.swap.endYX sy sx h
 exact ⟨this.1.trans Dq,this.2⟩
end
abbrev ge(blt:Keyed->Keyed->Bool)(x y:Keyed):Prop:=le blt y x
abbrev HI(blt:Keyed->Keyed->Bool)(p q out:Array Keyed)(m n:Nat):Prop:=MI (ge blt) p.toList.reverse q.toList.reverse out.toList (p.size - m) (q.size - n)
theorem Je(p:Array Keyed){m:Nat}(h:m<=p.size):p.toList.reverse.drop (p.size - m)=(p.toList.take m).reverse:=by
 rw[List.drop_reverse,Ai]
 congr 2
 omega
theorem sR{p:Array Keyed}{m:Nat}{x:Keyed}(h0:0<m)(h:m<=p.size)(e:p[m - 1]? = some x):p.toList.reverse[p.size - m]? = some x:=by
 rw[Se (by rw[Ai]; omega),Ai,show p.size - 1 - (p.size - m)=m - 1 by omega]
 exact Eb e
theorem zP(p:Array Keyed)(m:Nat):(p.extract 0 m).toList=p.toList.take m:=by
 rw[Mm,Ki,Te,Xu]
theorem U0(p:Array Keyed){t m:Nat}(h1:t<=m)(h2:m<=p.size):(p.extract t m).reverse.toList=(p.toList.reverse.drop (p.size - m)).take (m - t):=by
 rw[Je p h2,List.take_reverse,Sk,Mm,Ki,Dv,Ai,List.drop_take]
 congr 2
 ·omega
 ·congr 1
  omega
section
variable{prog:Bj}{w:World}{A:Cp}{s:Aj}{kd:Lb}{Ok:Keyed->Prop}{blt:Keyed->Keyed->Bool}{E:Value->Aj->Prop}
theorem Jf{l:List Keyed}(h:l.Pairwise (le blt)):l.reverse.Pairwise (ge blt):=Sd.mpr h
theorem Two.dn_end{p q out:Array Keyed}{x0 y0 xl:Keyed}(T:Two Ok blt p q x0 y0 xl){m n:Nat}(M:HI blt p q out m n)(hm:m<=p.size)(hn:n<=q.size)(h:m=0\/n=0):lI blt p q (K4 p q out m n):=by
 have h1:=M.endYX (Jf T.sp) (Jf T.sq) (λy hy x hx=>by
  rw[Je p hm] at hx
  rw[Je q hn] at hy
  rcases h with h | h
  ·subst h; simp at hx
  ·subst h; simp at hy)
 rw[Je p hm,Je q hn] at h1
 have e:(K4 p q out m n).toList=(out.toList++(q.toList.take n).reverse++(p.toList.take m).reverse).reverse:=by
  rw[Dc,Dc,zP,zP,Sk]
  simp
 refine ⟨?_,?_⟩
 ·rw[e]
  refine (Jl _).trans (h1.1.trans ?_)
  exact List.Perm.append (Jl _) (Jl _)
 ·rw[e]
  exact Sd.mpr h1.2
theorem Two.fs_end(C:Cmp prog w A s kd Ok blt){p q out:Array Keyed}{x0 y0 xl:Keyed}(T:Two Ok blt p q x0 y0 xl){m n:Nat}(M:HI blt p q out m n)(hm:m<=p.size)(hn:n=1)(hq:1<=q.size):lI blt p q (AZ p q out m n):=by
 subst hn
 have h1:=M.endXY (Jf T.sp) (Jf T.sq) (λx hx y hy=>by
  rw[Je p hm] at hx
  rw[Je q hq] at hy
  have ey:y=y0:=by
   have : y∈q.toList.take 1:=Pu.mp hy
   obtain ⟨k,hk,e⟩:=Gi.mp this
   have hk0:k=0:=by
    rw[Dv] at hk
    omega
   subst hk0
   have e2:q.toList[0]? = some y:=by
    rw[<- e,<- Bw hk,Hw (by omega)]
   rw[Eb T.hy0] at e2
   exact (Bz e2).symm
  rw[ey]
  have hx':x∈p.toList:=List.mem_of_mem_take (Pu.mp hx)
  obtain ⟨k,hk,e⟩:=Gi.mp hx'
  have e2:p.toList[k]? = some x:=by rw[<- e,Bw hk]
  exact C.trans (C.ofLt T.first) (Kl C T.sp (Cy k) (Eb T.hx0) e2))
 rw[Je p hm,Je q hq] at h1
 have e:(AZ p q out m 1).toList=(out.toList++(p.toList.take m).reverse++(q.toList.take 1).reverse).reverse:=by
  rw[Dc,Dc,zP,zP,Sk]
  simp
 refine ⟨?_,?_⟩
 ·rw[e]
  refine (Jl _).trans (h1.1.trans ?_)
  exact List.Perm.append (Jl _) (Jl _)
 ·rw[e]
  exact Sd.mpr h1.2
theorem Rb(C:Cmp prog w A s kd Ok blt){p:Array Keyed}(sp:p.toList.Pairwise (le blt)){m:Nat}{x y:Keyed}(h0:0<m)(hm:m<=p.size)(hx:p[m - 1]? = some x)(h:le blt x y):∀z∈p.toList.reverse.drop (p.size - m),ge blt y z:=λz hz=>by
 rw[Je p hm] at hz
 obtain ⟨k,hk,e⟩:=Gi.mp (Pu.mp hz)
 have e2:p.toList[k]? = some z:=by
  rw[Dv] at hk
  rw[<- e,<- Bw (by rw[Dv]; exact hk),Hw (by omega)]
 rw[Dv] at hk
 exact C.trans (Kl C sp (by omega) e2 (Eb hx)) h
theorem HI.pushX(C:Cmp prog w A s kd Ok blt){p q out:Array Keyed}{x0 y0 xl:Keyed}(T:Two Ok blt p q x0 y0 xl){m n:Nat}(M:HI blt p q out m n)(h0:0<m)(hm:m<=p.size){x:Keyed}(hx:p[m - 1]? = some x)(h:∀z∈q.toList.reverse.drop (q.size - n),ge blt x z):HI blt p q (out.push x) (m - 1) n:=by
 have:=MI.pushX M (Jf T.sp) (sR h0 hm hx) h
 rw[<- Mq,show p.size - m+1=p.size - (m - 1) by omega] at this
 exact this
theorem HI.pushY(C:Cmp prog w A s kd Ok blt){p q out:Array Keyed}{x0 y0 xl:Keyed}(T:Two Ok blt p q x0 y0 xl){m n:Nat}(M:HI blt p q out m n)(h0:0<n)(hn:n<=q.size){y:Keyed}(hy:q[n - 1]? = some y)(h:∀z∈p.toList.reverse.drop (p.size - m),ge blt y z):HI blt p q (out.push y) m (n - 1):=by
 have:=MI.pushY M (Jf T.sq) (sR h0 hn hy) h
 rw[<- Mq,show q.size - n+1=q.size - (n - 1) by omega] at this
 exact this
def R5(blt:Keyed->Keyed->Bool)(p q:Array Keyed)(st:Bq)(b:Nat)(r:ForInStep n5)(st':Bq):Prop:=Kept st st'/\match r with
 | .done (some r,_)=>lI blt p q r
 | .done (none,m,n,out,_)=>HI blt p q out m n/\0<m/\m<=p.size/\1<n/\n<=q.size/\m+n<b
 | .yield (none,m,n,out,_)=>HI blt p q out m n/\0<m/\m<=p.size/\1<n/\n<=q.size/\m+n<b
 | .yield (some _,_)=>False
theorem oJ(C:Cmp prog w A s kd Ok blt){p q out:Array Keyed}{x0 y0 xl:Keyed}(T:Two Ok blt p q x0 y0 xl){m n g ac k b:Nat}{st0 st:Bq}(kp:Kept st0 st)(M:HI blt p q out m n)(m0:0<m)(hm:m<=p.size)(n0:1<n)(hn:n<=q.size)(hb:m+n<=b){x:Keyed}(hx:p[m - 1]? = some x)(hq:∀z∈q.toList.reverse.drop (q.size - n),ge blt x z):wpS (model prog w) A E s (q9 p q out m n g ac k) (R5 blt p q st0 b) st:=by
 unfold q9
 refine Au (Fc hx ?_)
 have M1:=HI.pushX C T M m0 hm hx hq
 by_cases h1:m - 1=0
 ·rw[if_pos (by rw[h1]; rfl)]
  exact Bb ⟨kp,T.dn_end M1 (by omega) hn (.inl h1)⟩
 ·rw[if_neg (λz=>h1 (Dj z))]
  by_cases h2:(decide (ac<7) && decide (k<7))=true
  ·rw[if_pos h2]
   exact Bb ⟨kp,M1,by omega,by omega,n0,hn,by omega⟩
  ·rw[if_neg h2]
   exact Bb ⟨kp,M1,by omega,by omega,n0,hn,by omega⟩
theorem nZ(C:Cmp prog w A s kd Ok blt){p q out:Array Keyed}{x0 y0 xl:Keyed}(T:Two Ok blt p q x0 y0 xl){m n g ac bc b:Nat}{st0 st:Bq}(kp:Kept st0 st)(hk:kindOf st=kd)(M:HI blt p q out m n)(m0:0<m)(hm:m<=p.size)(n0:1<n)(hn:n<=q.size)(hb:m+n<=b){x y:Keyed}(hx:p[m - 1]? = some x)(hy:q[n - 1]? = some y)(hxy:le blt x y):wpS (model prog w) A E s (yH p q out m n g ac bc) (R5 blt p q st0 b) st:=by
 unfold yH
 refine Au (Fc hy ?_)
 have M1:=HI.pushY C T M (by omega) hn hy (Rb C T.sp m0 hm hx hxy)
 by_cases h1:n - 1=1
 ·rw[if_pos (by rw[h1]; rfl)]
  exact Bb ⟨kp,T.fs_end C M1 hm h1 (by omega)⟩
 rw[if_neg (λz=>h1 (Dj z))]
 refine Au (Fc hx ?_)
 have val:∀i yy,q[i]? = some yy->q.getD (0+i) y=yy:=λi yy e=>by rw[Hs]; simp [Cm,e]
 have R:Row Ok q 0 (n - 1) (λi=>q.getD (0+i) y):=⟨λi hi=>by
  obtain ⟨ya,ea⟩:=Ff (p:=q) (i:=i) (by omega)
  rw[val i ya ea,Hs,ea],λi hi=>by
  obtain ⟨ya,ea⟩:=Ff (p:=q) (i:=i) (by omega)
  show Ok (q.getD (0+i) y)
  rw[val i ya ea]
  exact T.oq ya (Jg ea)⟩
 refine Au (Mo C R (T.op x (Jg hx)) hk (by omega) (λa c hab hc q1=>?_) λt ht t1 t2=>?_)
 ·obtain ⟨ya,ea⟩:=Ff (p:=q) (i:=a) (by omega)
  obtain ⟨yc,ec⟩:=Ff (p:=q) (i:=c) (by omega)
  simp only[val a ya ea,val c yc ec,Gm,if_true] at q1 ⊢
  exact C.leLt (Kl C T.sq hab (Eb ea) (Eb ec)) q1
 dsimp only
 have M2:HI blt p q (out.push y++(q.extract t (n - 1)).reverse) m t:=by
  have:=MI.blockY M1 (Jf T.sq) (n - 1 - t) (by rw[List.length_reverse,Ai]; omega) (λi hi yy ey=>by
   have e1:q[n - 1 - i - 1]? = some yy:=by
    rw[Se (by rw[Ai]; omega),Ai,show q.size - 1 - (q.size - (n - 1)+i)=n - 1 - i - 1 by omega] at ey
    simpa using ey
   have:=t2 (n - 1 - i - 1) (by omega) (by omega)
   rw[val _ yy e1] at this
   have z:blt yy x=false:=by simpa only [Gm,if_true] using this
   exact Rb C T.sp m0 hm hx z)
  rw[<- U0 q (by omega) (by omega),<- Dc,show q.size - (n - 1)+(n - 1 - t)=q.size - t by omega] at this
  exact this
 -- what is left of q is below x
 have below:∀z∈q.toList.reverse.drop (q.size - t),ge blt x z:=λz hz=>by
  rw[Je q (by omega)] at hz
  obtain ⟨k,hk',e⟩:=Gi.mp (Pu.mp hz)
  rw[Dv] at hk'
  have e2:q.toList[k]? = some z:=by
   rw[<- e,<- Bw (by rw[Dv]; exact hk'),Hw (by omega)]
  have e3:q[k]? = some z:=by simpa using e2
  have:=t1 k (by omega)
  rw[val k z e3] at this
  exact C.ofLt (by simpa only [Gm,if_true] using this)
 by_cases h2:n - 1 - t > 0
 ·rw[if_pos h2]
  by_cases h3:t=1
  ·rw[if_pos (by rw[h3]; rfl)]
   exact Bb ⟨kp,T.fs_end C M2 hm h3 (by omega)⟩
  ·rw[if_neg (λz=>h3 (Dj z))]
   by_cases h4:t=0
   ·rw[if_pos (by rw[h4]; rfl)]
    exact Bb ⟨kp,T.dn_end M2 hm (by omega) (.inr h4)⟩
   ·rw[if_neg (λz=>h4 (Dj z))]
    exact oJ C T kp M2 m0 hm (by omega) (by omega) (by omega) hx below
 ·rw[if_neg h2]
  have et:t=n - 1:=by omega
  rw[et] at below
  exact oJ C T kp M1 m0 hm (by omega) (by omega) (by omega) hx below
theorem r6(C:Cmp prog w A s kd Ok blt){p q out:Array Keyed}{x0 y0 xl:Keyed}(T:Two Ok blt p q x0 y0 xl){m n g ac bc b:Nat}{st0 st:Bq}(kp:Kept st0 st)(hk:kindOf st=kd)(M:HI blt p q out m n)(m0:0<m)(hm:m<=p.size)(n0:1<n)(hn:n<=q.size)(hb:m+n<=b):wpS (model prog w) A E s (E8 p q out m n g ac bc) (R5 blt p q st0 b) st:=by
 unfold E8
 refine Au (Rg λst1 kp1=>?_)
 have kp':=kp.trans kp1
 have hk':kindOf st1=kd:=kp1.kind.trans hk
 obtain ⟨y,hy⟩:=Ff (p:=q) (i:=n - 1) (by omega)
 refine Au (Fc hy ?_)
 have val:∀i xx,p[i]? = some xx->p.getD (0+i) y=xx:=λi xx e=>by rw[Hs]; simp [Cm,e]
 have R:Row Ok p 0 m (λi=>p.getD (0+i) y):=⟨λi hi=>by
  obtain ⟨xa,ea⟩:=Ff (p:=p) (i:=i) (by omega)
  rw[val i xa ea,Hs,ea],λi hi=>by
  obtain ⟨xa,ea⟩:=Ff (p:=p) (i:=i) (by omega)
  show Ok (p.getD (0+i) y)
  rw[val i xa ea]
  exact T.op xa (Jg ea)⟩
 refine Au (Mo C R (T.oq y (Jg hy)) hk' (by omega) (λa c hab hc q1=>?_) λt ht t1 t2=>?_)
 ·obtain ⟨xa,ea⟩:=Ff (p:=p) (i:=a) (by omega)
  obtain ⟨xc,ec⟩:=Ff (p:=p) (i:=c) (by omega)
  simp only[val a xa ea,val c xc ec,Gm,Bp,if_false,Jo] at q1 ⊢
  exact C.trans (Kl C T.sp hab (Eb ea) (Eb ec)) q1
 dsimp only
 have M1:HI blt p q (out++(p.extract t m).reverse) t n:=by
  have:=MI.blockX M (Jf T.sp) (m - t) (by rw[List.length_reverse,Ai]; omega) (λi hi xx ex=>by
   have e1:p[m - i - 1]? = some xx:=by
    rw[Se (by rw[Ai]; omega),Ai,show p.size - 1 - (p.size - m+i)=m - i - 1 by omega] at ex
    simpa using ex
   have:=t2 (m - i - 1) (by omega) (by omega)
   rw[val _ xx e1] at this
   have z:blt y xx=true:=by simpa only [Gm,Bp,if_false,Wc] using this
   exact Rb C T.sq (by omega) hn hy (C.ofLt z))
  rw[<- U0 p (by omega) hm,<- Dc,show p.size - m+(m - t)=p.size - t by omega] at this
  exact this
 have below:∀x,0<t->p[t - 1]? = some x->le blt x y:=λx h0 hx=>by
  have:=t1 (t - 1) (by omega)
  rw[val _ x hx] at this
  have z:blt y x=false:=by simpa only [Gm,Bp,if_false,Jo] using this
  exact z
 by_cases h2:m - t > 0
 ·rw[if_pos h2]
  by_cases h3:t=0
  ·rw[if_pos (by rw[h3]; rfl)]
   exact Bb ⟨kp',T.dn_end M1 (by omega) hn (.inl h3)⟩
  ·rw[if_neg (λz=>h3 (Dj z))]
   obtain ⟨x,hx⟩:=Ff (p:=p) (i:=t - 1) (by omega)
   exact nZ C T kp' hk' M1 (by omega) (by omega) n0 hn (by omega) hx hy (below x (by omega) hx)
 ·rw[if_neg h2]
  have et:t=m:=by omega
  subst et
  obtain ⟨x,hx⟩:=Ff (p:=p) (i:=t - 1) (by omega)
  exact nZ C T kp' hk' M m0 hm n0 hn hb hx hy (below x m0 hx)
theorem jI(C:Cmp prog w A s kd Ok blt){p q:Array Keyed}{x0 y0 xl:Keyed}(T:Two Ok blt p q x0 y0 xl){st:Bq}(hk:kindOf st=kd){Q:Array Keyed->Bq->Prop}(h:∀r st',Kept st st'->lI blt p q r->Q r st'):wpS (model prog w) A E s (iD p q) Q st:=by
 have p0:0<p.size:=(Hb.mp T.hx0).1
 have q0:0<q.size:=(Hb.mp T.hy0).1
 obtain ⟨yl,hyl⟩:=Ff (p:=q) (i:=q.size - 1) (by omega)
 have M0:HI blt p q #[xl] (p.size - 1) q.size:=by
  have m:HI blt p q #[] p.size q.size:=⟨by simp,by simp,λo ho=>by simp at ho,λo ho=>by simp at ho⟩
  have:=HI.pushX C T m p0 (Ah _) T.hxl (Rb C T.sq q0 (Ah _) hyl (C.ofLt (T.last yl (Jg hyl))))
  simpa using this
 unfold iD
 refine Au (Rl ?_)
 refine Au (Fc T.hxl ?_)
 dsimp only
 by_cases h1:p.size - 1=0
 ·rw[if_pos (by rw[h1]; rfl)]
  exact Bb (h _ _ (Kept.refl _) (T.dn_end M0 (by omega) (by omega) (.inl h1)))
 rw[if_neg (λz=>h1 (Dj z))]
 by_cases h2:q.size=1
 ·rw[if_pos (by rw[h2]; rfl)]
  exact Bb (h _ _ (Kept.refl _) (T.fs_end C M0 (by omega) h2 (by omega)))
 rw[if_neg (λz=>h2 (Dj z))]
 refine Au (Me ?_)
 refine Au (Gy (Ef
  (I:=λx c st'=>Kept st st'/\∃m n out g,c=(none,m,n,out,g)/\HI blt p q out m n/\0<m/\m<=p.size/\1<n/\n<=q.size/\m+n+x+1<=p.size+q.size)
  (Q:=λc st'=>Kept st st'/\∃r Fb,c=(some r,Fb)/\lI blt p q r) ?_ ?_ ⟨Kept.refl _,_,_,_,_,rfl,M0,by omega,by omega,by omega,by omega,by omega⟩) ?_)
 ·(intro x c st1 _ hx q_; obtain ⟨kp1,m,n,out,g,rfl,M,m0,hm,n0,hn,hb⟩ := q_)
  dsimp only
  -- one by one
  refine Au (Gy (Ef
   (I:=λ_ c st'=>st'=st1/\∃m n out ac bc,c=(none,m,n,out,ac,bc)/\HI blt p q out m n/\0<m/\m<=p.size/\1<n/\n<=q.size/\m+n+x+1<=p.size+q.size)
   (Q:=λc st'=>st'=st1/\((∃r Fb,c=(some r,Fb)/\lI blt p q r)\/∃m n out ac bc,c=(none,m,n,out,ac,bc)/\HI blt p q out m n/\0<m/\m<=p.size/\1<n/\n<=q.size/\m+n+x+1<=p.size+q.size)) ?_ ?_ ⟨rfl,m,n,out,0,0,rfl,M,m0,hm,n0,hn,hb⟩) ?_)
  ·(intro z c st2 _ hz q_; obtain ⟨rfl,m,n,out,ac,bc,rfl,M,m0,hm,n0,hn,hb⟩ := q_)
   dsimp only
   obtain ⟨yy,hy⟩:=Ff (p:=q) (i:=n - 1) (by omega)
   obtain ⟨xx,hx⟩:=Ff (p:=p) (i:=m - 1) (by omega)
   refine Au (Fc hy ?_)
   refine Au (Fc hx ?_)
   refine Au (gY C (kp1.kind.trans hk) (T.oq yy (Jg hy)) (T.op xx (Jg hx)) ?_)
   dsimp only
   cases hlt:blt yy xx with
   | true =>
    rw[if_pos rfl]
    refine Au (Fc hx ?_)
    have M1:=HI.pushX C T M m0 hm hx (Rb C T.sq (by omega) hn hy (C.ofLt hlt))
    by_cases e1:m - 1=0
    ·rw[if_pos (by rw[e1]; rfl)]
     exact Bb ⟨rfl,.inl ⟨_,_,rfl,T.dn_end M1 (by omega) hn (.inl e1)⟩⟩
    ·rw[if_neg (λz=>e1 (Dj z))]
     split
     ·exact Bb ⟨rfl,.inr ⟨_,_,_,_,_,rfl,M1,by omega,by omega,n0,hn,by omega⟩⟩
     ·exact Bb ⟨rfl,_,_,_,_,_,rfl,M1,by omega,by omega,n0,hn,by omega⟩
   | false =>
    rw[if_neg Bx]
    refine Au (Fc hy ?_)
    have M1:=HI.pushY C T M (by omega) hn hy (Rb C T.sp m0 hm hx hlt)
    by_cases e1:n - 1=1
    ·rw[if_pos (by rw[e1]; rfl)]
     exact Bb ⟨rfl,.inl ⟨_,_,rfl,T.fs_end C M1 hm e1 (by omega)⟩⟩
    ·rw[if_neg (λz=>e1 (Dj z))]
     split
     ·exact Bb ⟨rfl,.inr ⟨_,_,_,_,_,rfl,M1,m0,hm,by omega,by omega,by omega⟩⟩
     ·exact Bb ⟨rfl,_,_,_,_,_,rfl,M1,m0,hm,by omega,by omega,by omega⟩
  ·(intro c st2 q_; obtain ⟨rfl,m,n,out,ac,bc,rfl,M⟩ := q_)
   exact ⟨rfl,.inr ⟨m,n,out,ac,bc,rfl,M⟩⟩
  ·rintro c st2 ⟨rfl,hc⟩
   rcases hc with hc | hc
   ·obtain ⟨r,Fb,rfl,hr⟩:=hc
    exact Bb ⟨kp1,r,_,rfl,hr⟩
   ·obtain ⟨m,n,out,ac,bc,rfl,M,m0,hm,n0,hn,hb⟩:=hc
    dsimp only
    refine Au (Rl ?_)
    -- the gallop
    refine Au (Gy (Ef
     (I:=λy c st'=>Kept st st'/\∃m n out g ac bc,c=(none,m,n,out,g,ac,bc)/\HI blt p q out m n/\0<m/\m<=p.size/\1<n/\n<=q.size/\(if y=0 then m+n+x+1<=p.size+q.size else m+n+x+2<=p.size+q.size))
     (Q:=λc st'=>Kept st st'/\((∃r Fb,c=(some r,Fb)/\lI blt p q r)\/∃m n out g ac bc,c=(none,m,n,out,g,ac,bc)/\HI blt p q out m n/\0<m/\m<=p.size/\1<n/\n<=q.size/\m+n+x+2<=p.size+q.size)) ?_ ?_
     ⟨kp1,m,n,out,_,ac,bc,rfl,M,m0,hm,n0,hn,by rw[if_pos rfl]; exact hb⟩) ?_)
    ·(intro y c Pq _ hy q_; obtain ⟨kp3,m,n,out,g,ac,bc,rfl,M,m0,hm,n0,hn,hb⟩ := q_)
     have hb':m+n+x+1<=p.size+q.size:=by split at hb <;> omega
     have key:∀g',wpS (model prog w) A E s (E8 p q out m n g' ac bc) (R5 blt p q st (m+n)) Pq:=λg'=>r6 C T kp3 (kp3.kind.trans hk) M m0 hm n0 hn (Ah _)
     dsimp only
     refine Gy (?_:wpS (model prog w) A E s _ (R5 blt p q st (m+n)) Pq) λr st4 hr=>?_
     ·by_cases hg:g > 1
      ·rw[if_pos hg]
       exact key _
      ·rw[if_neg hg]
       exact key _
     ·obtain ⟨kp4,hr⟩:=hr
      match r,hr with
      | .done (some r,Fb),hr=>exact ⟨kp4,.inl ⟨r,Fb,rfl,hr⟩⟩
      | .done (none,m',n',out',g',ac',bc'),hr=>exact ⟨kp4,.inr ⟨m',n',out',g',ac',bc',rfl,hr.1,hr.2.1,hr.2.2.1,hr.2.2.2.1,hr.2.2.2.2.1,by have:=hr.2.2.2.2.2; omega⟩⟩
      | .yield (none,m',n',out',g',ac',bc'),hr=>exact ⟨kp4,m',n',out',g',ac',bc',rfl,hr.1,hr.2.1,hr.2.2.1,hr.2.2.2.1,hr.2.2.2.2.1,by rw[if_neg (by omega)]; have:=hr.2.2.2.2.2; omega⟩
    ·(intro c Pq q_; obtain ⟨kp3,m,n,out,g,ac,bc,rfl,M,m0,hm,n0,hn,hb⟩ := q_)
     rw[if_neg (by omega)] at hb
     exact ⟨kp3,.inr ⟨m,n,out,g,ac,bc,rfl,M,m0,hm,n0,hn,hb⟩⟩
    ·rintro c Pq ⟨kp3,hc⟩
     rcases hc with hc | hc
     ·obtain ⟨r,Fb,rfl,hr⟩:=hc
      exact Bb ⟨kp3,r,_,rfl,hr⟩
     ·obtain ⟨m,n,out,g,ac,bc,rfl,M,m0,hm,n0,hn,hb⟩:=hc
      dsimp only
      refine Au (Rg λst4 kp4=>?_)
      exact Bb ⟨kp3.trans kp4,m,n,out,_,rfl,M,m0,hm,n0,hn,by omega⟩
 ·(intro c st1 q_; obtain ⟨kp1,m,n,out,g,rfl,M,m0,hm,n0,hn,hb⟩ := q_)
  exfalso
  have : max 0 (p.size+q.size)=p.size+q.size:=by omega
  rw[this] at hb
  omega
 ·(intro c st1 q_; obtain ⟨kp1,r,Fb,rfl,hr⟩ := q_)
  exact Bb (h r st1 kp1 hr)
end
def bK:Nat->Nat->StateT Bq Sem (Option Nat):=sortPriv% PySem.Builtin.countRun
def Wi:Nat->Nat->Nat->StateT Bq Sem Bool:=sortPriv% PySem.Builtin.binarySort
def X(xs:Array Keyed)(i:Nat):Keyed:=xs[i]?.getD (Qa,Qa)
theorem Ww{xs:Array Keyed}{i:Nat}(h:i<xs.size):xs[i]? = some (X xs i):=by
 unfold X
 rw[getElem?_pos xs i h]
 rfl
theorem Oz{xs ys:Array Keyed}{i j:Nat}(h:xs[i]? = ys[j]?):X xs i=X ys j:=by unfold X; rw[h]
theorem Qr{xs:Array Keyed}{i j:Nat}(hj:j<=xs.size)(k:Nat):X (mirror xs i j ((j - i) / 2)) k=if i<=k/\k<j then X xs (i+j - 1 - k) else X xs k:=by
 have e:=getElem?_mirror_all (i:=i) hj k
 by_cases h:i<=k/\k<j
 ·rw[if_pos h] at e ⊢; exact Oz e
 ·rw[if_neg h] at e ⊢; exact Oz e
theorem xD{xs:Array Keyed}{src d:Nat}(hs:src<xs.size)(hd:d<=src)(k:Nat):X (bubble xs src d) k=if k=src - d then X xs src else if src - d<k/\k<=src then X xs (k - 1) else X xs k:=by
 have e:=getElem?_bubble hs d hd k
 by_cases h1:k=src - d
 ·rw[if_pos h1] at e ⊢; exact Oz e
 ·rw[if_neg h1] at e ⊢
  by_cases h2:src - d<k/\k<=src
  ·rw[if_pos h2] at e ⊢; exact Oz e
  ·rw[if_neg h2] at e ⊢; exact Oz e
def Qq(blt:Keyed->Keyed->Bool)(xs:Array Keyed)(a b:Nat):Prop:=∀i j,a<=i->i<=j->j<b->le blt (X xs i) (X xs j)
def rV(blt:Keyed->Keyed->Bool)(xs:Array Keyed)(a b:Nat):Prop:=∀i j,a<=i->i<=j->j<b->le blt (X xs j) (X xs i)
structure Good(kd:Lb)(a₀:Array Keyed)(pend:Array (Nat×Nat×Nat))(st:Bq):Prop where
 kind:kindOf st=kd
 fail:La st=none
 perm:(arrOf st).Perm a₀
 pd:Az st=pend
def eV(xs ys:Array Keyed)(a b:Nat):Prop:=∀i,(i<a\/b<=i)->X ys i=X xs i
theorem eV.refl(xs:Array Keyed)(a b:Nat):eV xs xs a b:=λ_ _=>rfl
theorem eV.trans{xs ys zs:Array Keyed}{a b:Nat}(h:eV xs ys a b)(k:eV ys zs a b):eV xs zs a b:=λi hi=>(k i hi).trans (h i hi)
section
variable{prog:Bj}{w:World}{A:Cp}{s:Aj}{kd:Lb}{Ok:Keyed->Prop}{blt:Keyed->Keyed->Bool}{E:Value->Aj->Prop}{a₀:Array Keyed}{pend:Array (Nat×Nat×Nat)}
theorem Good.size{st:Bq}(g:Good kd a₀ pend st):(arrOf st).size=a₀.size:=g.perm.size_eq
theorem Good.okX{st:Bq}(g:Good kd a₀ pend st)(h0:∀x∈a₀.toList,Ok x){i:Nat}(hi:i<a₀.size):Ok (X (arrOf st) i):=by
 have e:=Ww (xs:=arrOf st) (i:=i) (by rw[g.size]; exact hi)
 exact h0 _ ((Oa.mp g.perm).mem_iff.mp (Jg e))
theorem Good.set{st:Bq}(g:Good kd a₀ pend st){xs:Array Keyed}(h:xs.Perm (arrOf st)):Good kd a₀ pend (setArr st xs):=⟨g.kind,g.fail,h.trans g.perm,g.pd⟩
theorem Uq(C:Cmp prog w A s kd Ok blt){st:Bq}(g:Good kd a₀ pend st)(h0:∀x∈a₀.toList,Ok x){i j:Nat}(hi:i<a₀.size)(hj:j<a₀.size){Q:Option Bool->Bq->Prop}(h:Q (some (blt (X (arrOf st) i) (X (arrOf st) j))) st):wpS (model prog w) A E s (ltAt' i j) Q st:=by
 rw[ltAt'_eq]
 refine Au (Me ?_)
 refine Au (Fc (Ww (by rw[g.size]; exact hi)) ?_)
 refine Au (Fc (Ww (by rw[g.size]; exact hj)) ?_)
 exact gY C g.kind (g.okX h0 hi) (g.okX h0 hj) h
theorem Pb{st:Bq}{i j:Nat}{Q:Unit->Bq->Prop}(h:Q () (setArr st (mirror (arrOf st) i j ((j - i) / 2)))):wpS (model prog w) A E s (Ru i j) Q st:=by
 rw[reverseSlice'_eq]
 exact Ji h
def X8(lo a b:Nat):StateT Bq Sem (Option (Option Nat)×Nat) :=
 forIn [a:b] ((none,a):Option (Option Nat)×Nat) λ_ c=>do
  let some fV <- ltAt' (lo+c.2) (lo+c.2 - 1) | pure (Cn (some none,c.2))
  if fV=true then pure (Cn (none,c.2)) else pure (Fd (none,c.2+1))
theorem wH(C:Cmp prog w A s kd Ok blt){st:Bq}(g:Good kd a₀ pend st)(h0:∀x∈a₀.toList,Ok x){lo a b:Nat}(hb:lo+b<=a₀.size)(ha:1<=a)(hab:a<=b)(h1:Qq blt (arrOf st) lo (lo+a)){Q:Option (Option Nat)×Nat->Bq->Prop}(h:∀n,a<=n->n<=b->Qq blt (arrOf st) lo (lo+n)->(n=b\/blt (X (arrOf st) (lo+n)) (X (arrOf st) (lo+n - 1))=true)->Q (none,n) st):wpS (model prog w) A E s (X8 lo a b) Q st:=by
 unfold X8
 refine Ef (I:=λx c st'=>st'=st/\c=(none,x)/\Qq blt (arrOf st) lo (lo+x)) ?_ ?_ ⟨rfl,rfl,h1⟩
 ·(intro x c st' hx1 hx2 q_; obtain ⟨rfl,rfl,hs⟩ := q_)
  dsimp only
  refine Au (Uq C g h0 (by omega) (by omega) ?_)
  dsimp only
  cases hl:blt (X (arrOf st') (lo+x)) (X (arrOf st') (lo+x - 1)) with
  | true =>
   rw[if_pos rfl]
   exact Bb (h x hx1 (by omega) hs (.inr hl))
  | false =>
   rw[if_neg Bx]
   refine Bb ⟨rfl,rfl,λi j hi hij hj=>?_⟩
   by_cases hjx:j<lo+x
   ·exact hs i j hi hij hjx
   ·have ej:j=lo+x:=by omega
    subst ej
    by_cases hi':i=lo+x
    ·subst hi'; exact C.refl _
    ·exact C.trans (hs i (lo+x - 1) hi (by omega) (by omega)) hl
 ·(intro c st' q_; obtain ⟨rfl,rfl,hs⟩ := q_)
  rw[show max a b=b by omega] at hs ⊢
  exact h b hab (Ah _) hs (.inl rfl)
theorem lJ{xs:Array Keyed}{lo n:Nat}(hn:lo+n<=xs.size)(h:rV blt xs lo (lo+n)):Qq blt (mirror xs lo (lo+n) ((lo+n - lo) / 2)) lo (lo+n):=λi j hi hij hj=>by
 rw[Qr hn,Qr hn,if_pos (by omega),if_pos (by omega)]
 exact h _ _ (by omega) (by omega) (by omega)
theorem Vh{xs:Array Keyed}{lo n b e:Nat}(hn:lo+n<=xs.size)(he:e<=lo+n)(hb:lo<=b)(h:rV blt xs lo (lo+n))(eqv:∀i j,b<=i->i<e->b<=j->j<e->le blt (X xs i) (X xs j)):rV blt (mirror xs b e ((e - b) / 2)) lo (lo+n):=λi j hi hij hj=>by
 rw[Qr (by omega),Qr (by omega)]
 by_cases h1:b<=j/\j<e
 ·rw[if_pos h1]
  by_cases h2:b<=i/\i<e
  ·rw[if_pos h2]
   exact eqv _ _ (by omega) (by omega) (by omega) (by omega)
  ·rw[if_neg h2]
   exact h _ _ hi (by omega) (by omega)
 ·rw[if_neg h1]
  by_cases h2:b<=i/\i<e
  ·rw[if_pos h2]
   exact h _ _ (by omega) (by omega) (by omega)
  ·rw[if_neg h2]
   exact h i j hi hij hj
theorem Ox{xs:Array Keyed}{a b i j:Nat}(h1:a<=i)(h2:j<=b)(h3:j<=xs.size):eV xs (mirror xs i j ((j - i) / 2)) a b:=λk hk=>by
 rw[Qr h3,if_neg (by omega)]
def wX(lo n b:Nat):StateT Bq Sem (Option Nat):=do
 Ru lo (lo+n)
 let mut m:=n
 for _ in [n:b] do
  let some fV <- ltAt' (lo+m) (lo+m - 1) | return none
  if fV then break
  m:=m+1
 return some m
theorem oB(C:Cmp prog w A s kd Ok blt){st:Bq}(g:Good kd a₀ pend st)(h0:∀x∈a₀.toList,Ok x){lo n b:Nat}(hb:lo+b<=a₀.size)(hn:1<=n)(hnb:n<=b)(h1:rV blt (arrOf st) lo (lo+n)){Q:Option Nat->Bq->Prop}(h:∀m st',Good kd a₀ pend st'->1<=m->m<=b->Qq blt (arrOf st') lo (lo+m)->eV (arrOf st) (arrOf st') lo (lo+b)->Q (some m) st'):wpS (model prog w) A E s (wX lo n b) Q st:=by
 unfold wX
 have hsz:lo+n<=(arrOf st).size:=by rw[g.size]; omega
 refine Au (Pb ?_)
 have g':Good kd a₀ pend (setArr st (mirror (arrOf st) lo (lo+n) ((lo+n - lo) / 2))):=g.set (mirror_perm _ _ _ _)
 refine Au (wH C g' h0 hb hn hnb (lJ hsz h1) λm hm1 hm2 hs _=>?_)
 exact Bb (h m _ g' (by omega) hm2 hs (Ox (Ah _) (by omega) hsz))
abbrev K8:=Option (Option Nat)×Nat×Nat
def W0(lo a b:Nat):StateT Bq Sem K8 :=
 forIn [a:b] ((none,a,0):K8) λ_ c=>do
  let some fV <- ltAt' (lo+c.2.1) (lo+c.2.1 - 1) | pure (Cn (some none,c.2.1,c.2.2))
  if fV=true then
   if c.2.2 > 0 then do
    Ru (lo+c.2.1 - (c.2.2+1)) (lo+c.2.1)
    pure (Fd (none,c.2.1+1,0))
   else pure (Fd (none,c.2.1+1,0))
  else do
   let some more <- ltAt' (lo+c.2.1 - 1) (lo+c.2.1) | pure (Cn (some none,c.2.1,c.2.2))
   if more=true then pure (Cn (none,c.2.1,c.2.2)) else pure (Fd (none,c.2.1+1,c.2.2+1))
def j3(blt:Keyed->Keyed->Bool)(xs:Array Keyed)(lo n e:Nat):Prop:=e+1<=n/\∀i j,lo+n - (e+1)<=i->i<lo+n->lo+n - (e+1)<=j->j<lo+n->le blt (X xs i) (X xs j)
theorem xB(C:Cmp prog w A s kd Ok blt){xs:Array Keyed}{lo n:Nat}(h:1<=n):j3 blt xs lo n 0:=⟨by omega,λi j i1 i2 j1 j2=>by
 have e:i=j:=by omega
 subst e
 exact C.refl _⟩
theorem Tr(C:Cmp prog w A s kd Ok blt){xs:Array Keyed}{lo n:Nat}(hn:1<=n)(h:rV blt xs lo (lo+n))(hl:le blt (X xs (lo+n)) (X xs (lo+n - 1))):rV blt xs lo (lo+(n+1)):=λi j hi hij hj=>by
 by_cases hjx:j<lo+n
 ·exact h i j hi hij hjx
 ·have ej:j=lo+n:=by omega
  subst ej
  by_cases hi':i=lo+n
  ·subst hi'; exact C.refl _
  ·exact C.trans hl (h i (lo+n - 1) hi (by omega) (by omega))
theorem yT(C:Cmp prog w A s kd Ok blt){st:Bq}(g:Good kd a₀ pend st)(h0:∀x∈a₀.toList,Ok x){lo a b:Nat}(hb:lo+b<=a₀.size)(ha:1<=a)(hab:a<=b)(h1:rV blt (arrOf st) lo (lo+a)){Q:K8->Bq->Prop}(h:∀n e st',Good kd a₀ pend st'->a<=n->n<=b->rV blt (arrOf st') lo (lo+n)->j3 blt (arrOf st') lo n e->eV (arrOf st) (arrOf st') lo (lo+b)->Q (none,n,e) st'):wpS (model prog w) A E s (W0 lo a b) Q st:=by
 unfold W0
 refine Ef (I:=λx c st'=>∃e,c=(none,x,e)/\Good kd a₀ pend st'/\rV blt (arrOf st') lo (lo+x)/\j3 blt (arrOf st') lo x e/\eV (arrOf st) (arrOf st') lo (lo+b)) ?_ ?_
  ⟨0,rfl,g,h1,xB C ha,eV.refl _ _ _⟩
 ·(intro x c st' hx1 hx2 q_; obtain ⟨e,rfl,g',hs,lk,ou⟩ := q_)
  have hsz:(arrOf st').size=a₀.size:=g'.size
  dsimp only
  refine Au (Uq C g' h0 (by omega) (by omega) ?_)
  dsimp only
  cases hl:blt (X (arrOf st') (lo+x)) (X (arrOf st') (lo+x - 1)) with
  | true =>
   rw[if_pos rfl]
   have d1:=Tr C (by omega) hs (C.ofLt hl)
   have one:∀ys:Array Keyed,j3 blt ys lo (x+1) 0:=λys=>⟨by omega,λi j i1 i2 j1 j2=>by
    have : i=j:=by omega
    subst this
    exact C.refl _⟩
   by_cases he:e > 0
   ·rw[if_pos he]
    refine Au (Pb ?_)
    refine Bb ⟨0,rfl,g'.set (mirror_perm _ _ _ _),?_,one _,ou.trans (Ox (by have:=lk.1; omega) (by omega) (by omega))⟩
    exact Vh (by omega) (by omega) (by have:=lk.1; omega) d1 λi j i1 i2 j1 j2=>lk.2 i j i1 i2 j1 j2
   ·rw[if_neg he]
    exact Bb ⟨0,rfl,g',d1,one _,ou⟩
  | false =>
   rw[if_neg Bx]
   refine Au (Uq C g' h0 (by omega) (by omega) ?_)
   dsimp only
   cases hm:blt (X (arrOf st') (lo+x - 1)) (X (arrOf st') (lo+x)) with
   | true =>
    rw[if_pos rfl]
    exact Bb (h x e st' g' hx1 (by omega) hs lk ou)
   | false =>
    rw[if_neg Bx]
    refine Bb ⟨e+1,rfl,g',Tr C (by omega) hs hm,⟨by have:=lk.1; omega,λi j i1 i2 j1 j2=>?_⟩,ou⟩
    have l1:le blt (X (arrOf st') (lo+x - 1)) (X (arrOf st') (lo+x)):=hl
    have l2:le blt (X (arrOf st') (lo+x)) (X (arrOf st') (lo+x - 1)):=hm
    by_cases ei:i=lo+x
    ·by_cases ej:j=lo+x
     ·rw[ei,ej]; exact C.refl _
     ·rw[ei]
      exact C.trans l2 (lk.2 (lo+x - 1) j (by omega) (by omega) (by omega) (by omega))
    ·by_cases ej:j=lo+x
     ·rw[ej]
      exact C.trans (lk.2 i (lo+x - 1) (by omega) (by omega) (by omega) (by omega)) l1
     ·exact lk.2 i j (by omega) (by omega) (by omega) (by omega)
 ·(intro c st' q_; obtain ⟨e,rfl,g',hs,lk,ou⟩ := q_)
  rw[show max a b=b by omega] at hs lk ⊢
  exact h b e st' g' hab (Ah _) hs lk ou
def u9(lo n b:Nat):StateT Bq Sem (Option Nat):=do
 liftM (rule "list.sort.descending-run")
 let mut m:=n+1
 let mut e:=0
 for _ in [m:b] do
  let some fV <- ltAt' (lo+m) (lo+m - 1) | return none
  if fV then
   if e > 0 then Ru (lo+m - (e+1)) (lo+m)
   e:=0
  else
   let some more <- ltAt' (lo+m - 1) (lo+m) | return none
   if more then break
   e:=e+1
  m:=m+1
 if e > 0 then Ru (lo+m - (e+1)) (lo+m)
 wX lo m b
theorem oI(C:Cmp prog w A s kd Ok blt){st:Bq}(g:Good kd a₀ pend st)(h0:∀x∈a₀.toList,Ok x){lo n b:Nat}(hb:lo+b<=a₀.size)(hnb:n+1<=b)(h1:rV blt (arrOf st) lo (lo+(n+1))){Q:Option Nat->Bq->Prop}(h:∀m st',Good kd a₀ pend st'->1<=m->m<=b->Qq blt (arrOf st') lo (lo+m)->eV (arrOf st) (arrOf st') lo (lo+b)->Q (some m) st'):wpS (model prog w) A E s (u9 lo n b) Q st:=by
 unfold u9
 refine Au (Rl ?_)
 refine Au (yT C g h0 hb (by omega) hnb h1 λk e st1 g1 k1 k2 d1 lk ou=>?_)
 dsimp only
 have hsz:(arrOf st1).size=a₀.size:=g1.size
 by_cases he:e > 0
 ·rw[if_pos he]
  refine Au (Pb ?_)
  refine oB C (g1.set (mirror_perm _ _ _ _)) h0 hb (by omega) k2 (Vh (by omega) (by omega) (by have:=lk.1; omega) d1 λi j i1 i2 j1 j2=>lk.2 i j i1 i2 j1 j2) λm st2 g2 m1 m2 as ou2=>?_
  exact h m st2 g2 m1 m2 as ((ou.trans (Ox (by have:=lk.1; omega) (by omega) (by omega))).trans ou2)
 ·rw[if_neg he]
  exact oB C g1 h0 hb (by omega) k2 d1 λm st2 g2 m1 m2 as ou2=>h m st2 g2 m1 m2 as (ou.trans ou2)
theorem wL(C:Cmp prog w A s kd Ok blt){st:Bq}(g:Good kd a₀ pend st)(h0:∀x∈a₀.toList,Ok x){lo b:Nat}(hb:lo+b<=a₀.size)(b1:1<=b){Q:Option Nat->Bq->Prop}(h:∀m st',Good kd a₀ pend st'->1<=m->m<=b->Qq blt (arrOf st') lo (lo+m)->eV (arrOf st) (arrOf st') lo (lo+b)->Q (some m) st'):wpS (model prog w) A E s (bK lo b) Q st:=by
 unfold bK
 have hsz:(arrOf st).size=a₀.size:=g.size
 refine Au (wH C g h0 hb (Ah _) b1 (λi j i1 i2 j1=>by
  have : i=j:=by omega
  subst this
  exact C.refl _) λn n1 n2 hs hor=>?_)
 dsimp only
 by_cases e:n=b
 ·rw[if_pos (by rw[e]; exact beq_self_eq_true _)]
  exact Bb (h n st g n1 n2 hs (eV.refl _ _ _))
 rw[if_neg (λz=>e (Dj z))]
 have hlt:blt (X (arrOf st) (lo+n)) (X (arrOf st) (lo+n - 1))=true:=hor.resolve_left e
 by_cases hg:n > 1
 ·rw[if_pos hg]
  refine Au (Uq C g h0 (by omega) (by omega) ?_)
  dsimp only
  cases hr:blt (X (arrOf st) lo) (X (arrOf st) (lo+n - 1)) with
  | true =>
   rw[if_pos rfl]
   exact Bb (h n st g n1 n2 hs (eV.refl _ _ _))
  | false =>
   rw[if_neg Bx]
   refine Au (Pb ?_)
   -- all of it are alike
   have like:∀i j,lo<=i->i<lo+n->lo<=j->j<lo+n->le blt (X (arrOf st) i) (X (arrOf st) j):=λi j i1 i2 j1 j2 =>
    C.trans (hs i (lo+n - 1) i1 (by omega) (by omega)) (C.trans hr (hs lo j (Ah _) j1 j2))
   have d1:rV blt (arrOf st) lo (lo+(n+1)):=Tr C n1 (λi j i1 i2 j1=>like j i (by omega) j1 i1 (by omega)) (C.ofLt hlt)
   exact oI C (g.set (mirror_perm _ _ _ _)) h0 hb (by omega) (Vh (by omega) (by omega) (Ah _) d1 like) λm st2 g2 m1 m2 as ou2=>h m st2 g2 m1 m2 as ((Ox (Ah _) (by omega) (by omega)).trans ou2)
 ·rw[if_neg hg]
  have en:n=1:=by omega
  subst en
  have d1:rV blt (arrOf st) lo (lo+(1+1)):=Tr C (Ah _) (λi j i1 i2 j1=>by
   have : i=j:=by omega
   subst this
   exact C.refl _) (C.ofLt hlt)
  exact oI C g h0 hb (by omega) d1 h
end
def Tu:Nat->StateT Bq Sem Bool:=sortPriv% PySem.Builtin.mergeAt
section
variable{prog:Bj}{w:World}{A:Cp}{s:Aj}{kd:Lb}{Ok:Keyed->Prop}{blt:Keyed->Keyed->Bool}{E:Value->Aj->Prop}{a₀:Array Keyed}{pend:Array (Nat×Nat×Nat)}
theorem gM{st:Bq}{i j:Nat}{Q:Unit->Bq->Prop}(h:Q () (setArr st (bubble (arrOf st) i (i - j)))):wpS (model prog w) A E s (moveDown' i j) Q st:=by
 rw[moveDown'_eq]
 exact Ji h
theorem pG(C:Cmp prog w A s kd Ok blt){st:Bq}(g:Good kd a₀ pend st)(h0:∀x∈a₀.toList,Ok x){lo n ok:Nat}(hb:lo+n<=a₀.size)(h1:Qq blt (arrOf st) lo (lo+ok))(hok:ok<=n){Q:Bool->Bq->Prop}(h:∀st',Good kd a₀ pend st'->Qq blt (arrOf st') lo (lo+n)->eV (arrOf st) (arrOf st') lo (lo+n)->Q true st'):wpS (model prog w) A E s (Wi lo n ok) Q st:=by
 unfold Wi
 refine Au (Gy (Ef
  (I:=λk c st'=>c=(none,())/\Good kd a₀ pend st'/\Qq blt (arrOf st') lo (lo+k)/\eV (arrOf st) (arrOf st') lo (lo+n))
  (Q:=λc st'=>c=(none,())/\Good kd a₀ pend st'/\Qq blt (arrOf st') lo (lo+n)/\eV (arrOf st) (arrOf st') lo (lo+n)) ?_ ?_ ⟨rfl,g,?_,eV.refl _ _ _⟩) ?_)
 ·(intro k c st1 hk1 hk2 q_; obtain ⟨rfl,g1,hs,ou⟩ := q_)
  have hsz:(arrOf st1).size=a₀.size:=g1.size
  dsimp only
  refine Au (Gy (Ef
   (I:=λy c st'=>st'=st1/\∃l r,c=(none,l,r)/\l<=r/\r<=k/\r - l+y<=k/\(∀i,i<l->le blt (X (arrOf st1) (lo+i)) (X (arrOf st1) (lo+k)))/\(∀i,r<=i->i<k->blt (X (arrOf st1) (lo+k)) (X (arrOf st1) (lo+i))=true))
   (Q:=λc st'=>st'=st1/\∃l,c=(none,l,l)/\l<=k/\(∀i,i<l->le blt (X (arrOf st1) (lo+i)) (X (arrOf st1) (lo+k)))/\(∀i,l<=i->i<k->blt (X (arrOf st1) (lo+k)) (X (arrOf st1) (lo+i))=true)) ?_ ?_
   ⟨rfl,0,k,rfl,by omega,by omega,by omega,λi hi=>by omega,λi h1 h2=>by omega⟩) ?_)
  ·(intro y c st2 _ hy q_; obtain ⟨rfl,l,r,rfl,a1,a2,a3,b1,b2⟩ := q_)
   dsimp only
   by_cases hlr:l ≥ r
   ·rw[if_pos hlr]
    have e:l=r:=by omega
    subst e
    exact Bb ⟨rfl,l,rfl,a2,b1,b2⟩
   ·rw[if_neg hlr]
    refine Au (Uq C g1 h0 (by omega) (by omega) ?_)
    dsimp only
    cases hl:blt (X (arrOf st2) (lo+k)) (X (arrOf st2) (lo+(l+r) / 2)) with
    | true =>
     rw[if_pos rfl]
     exact Bb ⟨rfl,l,(l+r) / 2,rfl,by omega,by omega,by omega,b1,λi i1 i2=>C.ltLe hl (hs _ _ (by omega) (by omega) (by omega))⟩
    | false =>
     rw[if_neg Bx]
     exact Bb ⟨rfl,(l+r) / 2+1,r,rfl,by omega,a2,by omega,λi hi=>C.trans (hs _ _ (by omega) (by omega) (by omega)) hl,b2⟩
  ·(intro c st2 q_; obtain ⟨rfl,l,r,rfl,a1,a2,a3,b1,b2⟩ := q_)
   have : max 0 k=k:=by omega
   rw[this] at a3
   have e:l=r:=by omega
   subst e
   exact ⟨rfl,l,rfl,a2,b1,b2⟩
  ·(intro c st2 q_; obtain ⟨rfl,l,rfl,a2,b1,b2⟩ := q_)
   dsimp only
   refine Au (gM ?_)
   have xb:=λi=>xD (xs:=arrOf st2) (src:=lo+k) (d:=lo+k - (lo+l)) (by omega) (by omega) i
   have ed:lo+k - (lo+k - (lo+l))=lo+l:=by omega
   refine Bb ⟨rfl,g1.set (bubble_perm _ _ _),λi j i1 i2 j1=>?_,ou.trans λi hi=>?_⟩
   ·show le blt (X (bubble (arrOf st2) (lo+k) (lo+k - (lo+l))) i) (X (bubble (arrOf st2) (lo+k) (lo+k - (lo+l))) j)
    rw[xb,xb,ed]
    by_cases e1:i=lo+l
    ·rw[if_pos e1]
     by_cases e2:j=lo+l
     ·rw[if_pos e2]; exact C.refl _
     ·rw[if_neg e2]
      by_cases e3:lo+l<j/\j<=lo+k
      ·rw[if_pos e3]
       have:=b2 (j - 1 - lo) (by omega) (by omega)
       rw[show lo+(j - 1 - lo)=j - 1 by omega] at this
       exact C.ofLt this
      ·exfalso; omega
    ·rw[if_neg e1]
     by_cases e2:j=lo+l
     ·rw[if_pos e2,if_neg (by omega)]
      have:=b1 (i - lo) (by omega)
      rw[show lo+(i - lo)=i by omega] at this
      exact this
     ·rw[if_neg e2]
      by_cases e3:lo+l<i/\i<=lo+k
      ·rw[if_pos e3,if_pos (by omega)]
       exact hs _ _ (by omega) (by omega) (by omega)
      ·rw[if_neg e3]
       by_cases e4:lo+l<j/\j<=lo+k
       ·rw[if_pos e4]
        exact hs _ _ (by omega) (by omega) (by omega)
       ·rw[if_neg e4]
        exact hs _ _ (by omega) (by omega) (by omega)
   ·show X (bubble (arrOf st2) (lo+k) (lo+k - (lo+l))) i=X (arrOf st2) i
    rw[xb,ed,if_neg (by omega),if_neg (by omega)]
 ·(intro c st1 q_; obtain ⟨rfl,g1,hs,ou⟩ := q_)
  refine ⟨rfl,g1,λi j i1 i2 j1=>hs i j i1 i2 (by omega),ou⟩
 ·intro i j i1 i2 j1
  by_cases e:i=j
  ·subst e; exact C.refl _
  ·exact h1 i j i1 i2 (by omega)
 ·(intro c st1 q_; obtain ⟨rfl,g1,hs,ou⟩ := q_)
  exact Bb (h st1 g1 hs ou)
end
abbrev Mu(xs:Array Keyed)(b:Nat)(l:List (Keyed×Nat)):Array Keyed:=l.foldl (λa x=>match x with | (p,j)=>a.setIfInBounds (b+j) p) xs
theorem Yg(b:Nat):∀(l:List Keyed) (o:Nat) (xs:Array Keyed),b+o+l.length<=xs.size->(Mu xs b (l.zipIdx o)).size=xs.size/\∀i:Nat,(Mu xs b (l.zipIdx o))[i]? = if b+o<=i/\i<b+o+l.length then l[i - (b+o)]? else xs[i]?
 | [],o,xs,_=>⟨rfl,λi=>by rw[if_neg (by rw[Ks]; omega)]; rfl⟩
 | x::l,o,xs,h=>by
  rw[Bf] at h
  have ih:=Yg b l (o+1) (xs.setIfInBounds (b+o) x) (by rw[Ow]; omega)
  have e:Mu xs b ((x::l).zipIdx o)=Mu (xs.setIfInBounds (b+o) x) b (l.zipIdx (o+1)):=by
   rw[List.zipIdx_cons]
   rfl
  rw[e]
  refine ⟨ih.1.trans (Ow),λi=>?_⟩
  rw[ih.2 i,Bf]
  by_cases h1:b+(o+1)<=i/\i<b+(o+1)+l.length
  ·rw[if_pos h1,if_pos (by omega)]
   rw[show i - (b+o)=(i - (b+(o+1)))+1 by omega,List.getElem?_cons_succ]
  ·rw[if_neg h1]
   by_cases h2:i=b+o
   ·subst h2
    rw[if_pos (by omega),Array.getElem?_setIfInBounds_self_of_lt (by omega),Xv]
    rfl
   ·rw[if_neg (by omega),Array.getElem?_setIfInBounds_ne (by omega)]
theorem lN{xs m:Array Keyed}{b n:Nat}(hb:b+n<=xs.size)(hn:m.size=n)(hp:m.toList.Perm ((xs.toList.drop b).take n)):(Mu xs b m.toList.zipIdx).Perm xs:=by
 have ha:=Yg b m.toList 0 xs (by rw[Ai]; omega)
 have e:(Mu xs b m.toList.zipIdx).toList=xs.toList.take b++(m.toList++xs.toList.drop (b+n)):=by
  apply Ho
  intro i
  have h1:=ha.2 i
  rw[Ai,hn] at h1
  have h2:(Mu xs b m.toList.zipIdx).toList[i]? = (Mu xs b m.toList.zipIdx)[i]?:=by simp
  rw[h2,h1]
  have lt:(xs.toList.take b).length=b:=by rw[Dv,Ai]; omega
  by_cases c1:i<b
  ·rw[if_neg (by omega),Ep (by omega),Hw c1]
   simp
  ·rw[Dw (by omega),lt]
   by_cases c2:i<b+n
   ·rw[if_pos (by omega),Ep (by rw[Ai]; omega)]
    congr 1
   ·rw[if_neg (by omega),Dw (by rw[Ai]; omega),Wb,Ai]
    rw[show b+n+(i - b - m.size)=i by omega]
    simp
 refine Array.perm_iff_toList_perm.mpr ?_
 rw[e]
 have e2:xs.toList=xs.toList.take b++((xs.toList.drop b).take n++xs.toList.drop (b+n)):=by
  conv=>lhs; rw[<- Fo b xs.toList]
  congr 1
  conv=>lhs; rw[<- Fo n (xs.toList.drop b)]
  rw[List.drop_drop]
 conv=>rhs; rw[e2]
 exact Gv _ (List.Perm.append_right _ hp)
theorem Ve{xs:Array Keyed}{a n:Nat}(h:a+n<=xs.size){i:Nat}(hi:i<n):(xs.extract a (a+n))[i]? = some (X xs (a+i)):=by
 rw[Array.getElem?_extract,if_pos (by omega)]
 exact Ww (by omega)
theorem Qp{xs:Array Keyed}{a n:Nat}(h:a+n<=xs.size):(xs.extract a (a+n)).size=n:=by
 rw[Array.size_extract]
 omega
theorem Tj{xs:Array Keyed}{a n:Nat}(h:a+n<=xs.size){x:Keyed}(hx:x∈(xs.extract a (a+n)).toList):∃i,i<n/\x=X xs (a+i):=by
 obtain ⟨i,hi,e⟩:=Gi.mp hx
 rw[Ai,Qp h] at hi
 refine ⟨i,hi,?_⟩
 have h1:=Ve h hi
 have h2:(xs.extract a (a+n)).toList[i]? = some x:=by rw[<- e,<- Bw]
 rw[Fm,h1] at h2
 exact (Bz h2).symm
section
variable{prog:Bj}{w:World}{A:Cp}{s:Aj}{kd:Lb}{Ok:Keyed->Prop}{blt:Keyed->Keyed->Bool}{E:Value->Aj->Prop}{a₀:Array Keyed}{pend:Array (Nat×Nat×Nat)}
theorem Ys(C:Cmp prog w A s kd Ok blt){xs:Array Keyed}{a n c d:Nat}(h:a+n<=xs.size)(hs:Qq blt xs c d)(h1:c<=a)(h2:a+n<=d):(xs.extract a (a+n)).toList.Pairwise (le blt):=by
 rw[Dz]
 intro i j hi hj hij
 rw[Ai,Qp h] at hi hj
 have e1:(xs.extract a (a+n)).toList[i]? = some (X xs (a+i)):=by rw[Fm]; exact Ve h hi
 have e2:(xs.extract a (a+n)).toList[j]? = some (X xs (a+j)):=by rw[Fm]; exact Ve h hj
 obtain ⟨_,f1⟩:=Ap.mp e1
 obtain ⟨_,f2⟩:=Ap.mp e2
 rw[f1,f2]
 exact hs _ _ (by omega) (by omega) (by omega)
theorem gF(C:Cmp prog w A s kd Ok blt){xs:Array Keyed}{a b c:Nat}(hab:a<b)(h1:Qq blt xs a b)(h2:Qq blt xs b c)(h:le blt (X xs (b - 1)) (X xs b)):Qq blt xs a c:=λi j i1 i2 j1=>by
 by_cases e1:j<b
 ·exact h1 i j i1 i2 e1
 ·by_cases e2:b<=i
  ·exact h2 i j e2 i2 j1
  ·exact C.trans (h1 i (b - 1) i1 (by omega) (by omega)) (C.trans h (h2 b j (Ah _) (by omega) j1))
structure Good0(kd:Lb)(a₀:Array Keyed)(st:Bq):Prop where
 kind:kindOf st=kd
 fail:La st=none
 perm:(arrOf st).Perm a₀
theorem Good0.size{st:Bq}(g:Good0 kd a₀ st):(arrOf st).size=a₀.size:=g.perm.size_eq
theorem Good0.okX{st:Bq}(g:Good0 kd a₀ st)(h0:∀x∈a₀.toList,Ok x){i:Nat}(hi:i<a₀.size):Ok (X (arrOf st) i):=by
 have e:=Ww (xs:=arrOf st) (i:=i) (by rw[g.size]; exact hi)
 exact h0 _ ((Oa.mp g.perm).mem_iff.mp (Jg e))
theorem tG{st:Bq}(g:Good0 kd a₀ st)(h0:∀x∈a₀.toList,Ok x){b n:Nat}(h:b+n<=a₀.size):Row Ok (arrOf st) b n (λi=>X (arrOf st) (b+i)) :=
 ⟨λi hi=>Ww (by rw[g.size]; omega),λi hi=>g.okX h0 (by omega)⟩
theorem C2{st st':Bq}{Q:Unit->Bq->Prop}(h:Q () st'):wpS (model prog w) A E s (set st':StateT Bq Sem Unit) Q st:=by
 unfold wpS
 rw[StateT.run_set]
 exact Al ⟨rfl,h⟩
theorem jM(C:Cmp prog w A s kd Ok blt){st:Bq}(g:Good0 kd a₀ st)(h0:∀x∈a₀.toList,Ok x){i sa na pa sb nb pb:Nat}(hi:(Az st)[i]? = some (sa,na,pa))(hj:(Az st)[i+1]? = some (sb,nb,pb))(e1:sb=sa+na)(n1:1<=na)(n2:1<=nb)(hz:sb+nb<=a₀.size)(s1:Qq blt (arrOf st) sa sb)(s2:Qq blt (arrOf st) sb (sb+nb)){Q:Bool->Bq->Prop}(h:∀st',Good0 kd a₀ st'->Az st'=((Az st).setIfInBounds i (sa,na+nb,pa)).eraseIdxIfInBounds (i+1)->Qq blt (arrOf st') sa (sb+nb)->eV (arrOf st) (arrOf st') sa (sb+nb)->Q true st'):wpS (model prog w) A E s (Tu i) Q st:=by
 have hsz:(arrOf st).size=a₀.size:=g.size
 unfold Tu
 refine Au (Me ?_)
 rw[hi,hj]
 dsimp only
 refine Au (C2 ?_)
 refine Au (Fc (Ww (xs:=arrOf st) (i:=sb) (by rw[hsz]; omega)) ?_)
 show wpS (model prog w) A E s _ _ (SortSt.mk' (kindOf st) (arrOf st) (((Az st).setIfInBounds i (sa,na+nb,pa)).eraseIdxIfInBounds (i+1)) (gallopOf st) (La st))
 generalize hst1:SortSt.mk' (kindOf st) (arrOf st) (((Az st).setIfInBounds i (sa,na+nb,pa)).eraseIdxIfInBounds (i+1)) (gallopOf st) (La st)=st1
 have k1:kindOf st1=kd:=by rw[<- hst1]; exact g.kind
 have ar1:arrOf st1=arrOf st:=by rw[<- hst1]
 have pd1:Az st1=((Az st).setIfInBounds i (sa,na+nb,pa)).eraseIdxIfInBounds (i+1):=by rw[<- hst1]
 have fl1:La st1=none:=by rw[<- hst1]; exact g.fail
 have g1:Good0 kd a₀ st1:=⟨k1,fl1,by rw[ar1]; exact g.perm⟩
 have same:Good0 kd a₀ st1->Qq blt (arrOf st) sa (sb+nb)->Q true st1:=λgg as=>h st1 gg pd1 (by rw[ar1]; exact as) (by rw[ar1]; exact eV.refl _ _ _)
 refine Au (Mo C (hint:=0) (n:=na) (tG g h0 (b:=sa) (n:=na) (by omega)) (g.okX h0 (i:=sb) (by omega)) k1 (by omega) (λa c hac hc q1=>?_) λk kn t1 t2=>?_)
 ·simp only[Gm,Bp,if_false,Jo] at q1 ⊢
  exact C.trans (s1 _ _ (by omega) (by omega) (by omega)) q1
 dsimp only
 have f1:∀m,m<k->le blt (X (arrOf st) (sa+m)) (X (arrOf st) sb):=λm hm=>by
  have:=t1 m hm
  have z:blt (X (arrOf st) sb) (X (arrOf st) (sa+m))=false:=by simpa only [Gm,Bp,if_false,Jo] using this
  exact z
 by_cases c1:na - k=0
 ·rw[if_pos (by rw[c1]; rfl)]
  refine Bb (same g1 (gF C (by omega) s1 s2 ?_))
  have:=f1 (na - 1) (by omega)
  rw[show sa+(na - 1)=sb - 1 by omega] at this
  exact this
 rw[if_neg (λz=>c1 (Dj z))]
 have f2:blt (X (arrOf st) sb) (X (arrOf st) (sa+k))=true:=by
  have:=t2 k (Ah _) (by omega)
  simpa only [Gm,Bp,if_false,Wc] using this
 have el:sa+k+(na - k) - 1=sb - 1:=by omega
 rw[el]
 refine Au (Fc (Ww (xs:=arrOf st) (i:=sb - 1) (by rw[hsz]; omega)) ?_)
 refine Au (Mo C (hint:=nb - 1) (n:=nb) (tG g h0 (b:=sb) (n:=nb) (by omega)) (g.okX h0 (i:=sb - 1) (by omega)) k1 (by omega) (λa c hac hc q1=>?_) λl ln u1 u2=>?_)
 ·simp only[Gm,if_true] at q1 ⊢
  exact C.leLt (s2 _ _ (by omega) (by omega) (by omega)) q1
 dsimp only
 have f3:∀m,m<l->blt (X (arrOf st) (sb+m)) (X (arrOf st) (sb - 1))=true:=λm hm=>by
  have:=u1 m hm
  simpa only [Gm,if_true] using this
 have f4:∀m,l<=m->m<nb->le blt (X (arrOf st) (sb - 1)) (X (arrOf st) (sb+m)):=λm h1 h2=>by
  have:=u2 m h1 h2
  have z:blt (X (arrOf st) (sb+m)) (X (arrOf st) (sb - 1))=false:=by simpa only [Gm,if_true] using this
  exact z
 by_cases c2:l=0
 ·rw[if_pos (by rw[c2]; rfl)]
  subst c2
  exact Bb (same g1 (gF C (by omega) s1 s2 (f4 0 (Ah _) (by omega))))
 rw[if_neg (λz=>c2 (Dj z))]
 have ep:(arrOf st).extract (sa+k) sb=(arrOf st).extract (sa+k) (sa+k+(na - k)):=by rw[show sa+k+(na - k)=sb by omega]
 rw[ep]
 have hp:sa+k+(na - k)<=(arrOf st).size:=by omega
 have hq:sb+l<=(arrOf st).size:=by omega
 have T:Two Ok blt ((arrOf st).extract (sa+k) (sa+k+(na - k))) ((arrOf st).extract sb (sb+l)) (X (arrOf st) (sa+k)) (X (arrOf st) sb) (X (arrOf st) (sb - 1)):=by
  refine ⟨λx hx=>?_,λx hx=>?_,Ys C hp s1 (by omega) (by omega),Ys C hq s2 (by omega) (by omega),?_,?_,?_,f2,λy hy=>?_⟩
  ·obtain ⟨m,hm,rfl⟩:=Tj hp hx
   exact g.okX h0 (by omega)
  ·obtain ⟨m,hm,rfl⟩:=Tj hq hx
   exact g.okX h0 (by omega)
  ·exact Ve hp (by omega)
  ·exact Ve hq (by omega)
  ·rw[Qp hp,Ve hp (by omega),show sa+k+(na - k - 1)=sb - 1 by omega]
  ·obtain ⟨m,hm,rfl⟩:=Tj hq hy
   exact f3 m hm
 -- jX the merge
 have fin:∀(r:Array Keyed) (st2:Bq),Kept st1 st2->lI blt ((arrOf st).extract (sa+k) (sa+k+(na - k))) ((arrOf st).extract sb (sb+l)) r ->
   Q (La (setArr st2 (Mu (arrOf st2) (sa+k) r.toList.zipIdx))).isNone (setArr st2 (Mu (arrOf st2) (sa+k) r.toList.zipIdx)):=by
  intro r st2 kp hr
  have ar2:arrOf st2=arrOf st:=kp.arr.trans ar1
  have fl2:La st2=none:=kp.fail.trans fl1
  have rsz:r.size=na - k+l:=by
   have:=hr.1.length_eq
   rw[Ax,Ai,Ai,Ai,Qp hp,Qp hq] at this
   exact this
  have seg:((arrOf st).toList.drop (sa+k)).take (na - k+l)=((arrOf st).extract (sa+k) (sa+k+(na - k))).toList++((arrOf st).extract sb (sb+l)).toList:=by
   rw[Tx,Tx,List.take_add,List.drop_drop,show sa+k+(na - k)=sb by omega]
  have pa':=Yg (sa+k) r.toList 0 (arrOf st) (by rw[Ai]; omega)
  have xat:∀m,X (Mu (arrOf st) (sa+k) r.toList.zipIdx) m=if sa+k<=m/\m<sb+l then X r (m - (sa+k)) else X (arrOf st) m:=λm=>by
   have:=pa'.2 m
   rw[Ai,rsz,Nat.add_zero] at this
   by_cases hm:sa+k<=m/\m<sb+l
   ·rw[if_pos hm]
    rw[if_pos (by omega)] at this
    refine Oz (this.trans ?_)
    simp
   ·rw[if_neg hm]
    rw[if_neg (by omega)] at this
    exact Oz this
  -- each thing of the merged is one of the two runs'
  have from2:∀m,m<na - k+l->(∃c,sa+k<=c/\c<sb/\X r m=X (arrOf st) c)\/(∃c,sb<=c/\c<sb+l/\X r m=X (arrOf st) c):=λm hm=>by
   have hx:=Jg (Ww (xs:=r) (i:=m) (by omega))
   rcases Ay.mp (hr.1.mem_iff.mp hx) with z | z
   ·obtain ⟨c,hc,e⟩:=Tj hp z
    exact .inl ⟨sa+k+c,by omega,by omega,e⟩
   ·obtain ⟨c,hc,e⟩:=Tj hq z
    exact .inr ⟨sb+c,by omega,by omega,e⟩
  have rs:∀m n,m<=n->n<na - k+l->le blt (X r m) (X r n):=λm n hmn hn=>Kl C hr.2 hmn (Eb (Ww (by omega))) (Eb (Ww (by omega)))
  have e3:La (setArr st2 (Mu (arrOf st2) (sa+k) r.toList.zipIdx))=none:=fl2
  rw[e3]
  refine h _ ⟨kp.kind.trans k1,e3,?_⟩ (kp.pend.trans pd1) ?_ ?_
  ·show (Mu (arrOf st2) (sa+k) r.toList.zipIdx).Perm a₀
   rw[ar2]
   refine (lN (by omega) rsz ?_).trans g.perm
   rw[seg]
   exact hr.1
  ·show Qq blt (Mu (arrOf st2) (sa+k) r.toList.zipIdx) sa (sb+nb)
   rw[ar2]
   intro c d c1 cd d1
   rw[xat,xat]
   by_cases zc:sa+k<=c/\c<sb+l
   ·rw[if_pos zc]
    by_cases zd:sa+k<=d/\d<sb+l
    ·rw[if_pos zd]
     exact rs _ _ (by omega) (by omega)
    ·rw[if_neg zd]
     rcases from2 (c - (sa+k)) (by omega) with ⟨b,b1,b2,e⟩ | ⟨b,b1,b2,e⟩
     ·rw[e]
      refine C.trans (s1 b (sb - 1) (by omega) (by omega) (by omega)) ?_
      have:=f4 (d - sb) (by omega) (by omega)
      rw[show sb+(d - sb)=d by omega] at this
      exact this
     ·rw[e]
      exact s2 b d b1 (by omega) (by omega)
   ·rw[if_neg zc]
    by_cases zd:sa+k<=d/\d<sb+l
    ·rw[if_pos zd]
     rcases from2 (d - (sa+k)) (by omega) with ⟨b,b1,b2,e⟩ | ⟨b,b1,b2,e⟩
     ·rw[e]
      exact s1 c b c1 (by omega) b2
     ·rw[e]
      have:=f1 (c - sa) (by omega)
      rw[show sa+(c - sa)=c by omega] at this
      exact C.trans this (s2 sb b (Ah _) b1 (by omega))
    ·rw[if_neg zd]
     by_cases y1:d<sb
     ·exact s1 c d c1 cd y1
     ·by_cases y2:sb<=c
      ·exact s2 c d y2 cd d1
      ·have:=f1 (c - sa) (by omega)
       rw[show sa+(c - sa)=c by omega] at this
       exact C.trans this (s2 sb d (Ah _) (by omega) d1)
  ·show eV (arrOf st) (Mu (arrOf st2) (sa+k) r.toList.zipIdx) sa (sb+nb)
   rw[ar2]
   intro m hm
   rw[xat,if_neg (by omega)]
 by_cases c3:na - k<=l
 ·rw[if_pos c3]
  refine Au (jK C T k1 λr st2 kp hr=>?_)
  exact Au (Ji (Au (Me (Bb (fin r st2 kp hr)))))
 ·rw[if_neg c3]
  refine Au (jI C T k1 λr st2 kp hr=>?_)
  exact Au (Ji (Au (Me (Bb (fin r st2 kp hr)))))
end
def bA:StateT Bq Sem Unit:=sortPriv% PySem.Builtin.sortRuns
def Runs(blt:Keyed->Keyed->Bool)(xs:Array Keyed):List (Nat×Nat×Nat)->Nat->Nat->Prop
 | [],a,b=>a=b
 | (s,n,_)::r,a,b=>s=a/\1<=n/\Qq blt xs a (a+n)/\Runs blt xs r (a+n) b
variable{blt:Keyed->Keyed->Bool}
theorem Runs.len{xs:Array Keyed}:∀{l:List (Nat×Nat×Nat)} {a b:Nat},Runs blt xs l a b->a+l.length<=b
 | [],a,b,h=>by
  have e:a=b:=h
  rw[Ks]
  omega
 | (s,n,p)::r,a,b,h=>by
  have:=Runs.len h.2.2.2
  have:=h.2.1
  rw[Bf]
  omega
theorem Qq.out{xs ys:Array Keyed}{a b c d:Nat}(h:Qq blt xs a b)(o:eV xs ys c d)(e:b<=c\/d<=a):Qq blt ys a b:=λi j i1 i2 j1=>by
 rw[o i (by omega),o j (by omega)]
 exact h i j i1 i2 j1
theorem Runs.out{xs ys:Array Keyed}{c d:Nat}(o:eV xs ys c d):∀{l:List (Nat×Nat×Nat)} {a b:Nat},(b<=c\/d<=a)->Runs blt xs l a b->Runs blt ys l a b
 | [],_,_,_,h=>h
 | (s,n,p)::r,a,b,e,h=>by
  have hl:=Runs.len h.2.2.2
  exact ⟨h.1,h.2.1,h.2.2.1.out o (by omega),Runs.out o (by omega) h.2.2.2⟩
theorem Runs.push{xs:Array Keyed}{m q:Nat}(hm:1<=m):∀{l:List (Nat×Nat×Nat)} {a b:Nat},Runs blt xs l a b->Qq blt xs b (b+m)->Runs blt xs (l++[(b,m,q)]) a (b+m)
 | [],a,b,h,hs=>by
  have e:a=b:=h
  subst e
  exact ⟨rfl,hm,hs,rfl⟩
 | (s,n,p)::r,a,b,h,hs=>⟨h.1,h.2.1,h.2.2.1,Runs.push hm h.2.2.2 hs⟩
theorem Runs.power{xs:Array Keyed}{pw:Nat}:∀{l:List (Nat×Nat×Nat)} {a b:Nat} (k:Nat),Runs blt xs l a b->Runs blt xs (l.modify k λx=>(x.1,x.2.1,pw)) a b
 | [],_,_,k,h=>by simpa using h
 | (s,n,p)::r,a,b,0,h=>by
  rw[List.modify_zero_cons]
  exact h
 | (s,n,p)::r,a,b,k+1,h=>by
  rw[List.modify_succ_cons]
  exact ⟨h.1,h.2.1,h.2.2.1,Runs.power k h.2.2.2⟩
theorem Runs.two{xs:Array Keyed}:∀{l:List (Nat×Nat×Nat)} {a b i sa na pa sb nb pb:Nat},Runs blt xs l a b->l[i]? = some (sa,na,pa)->l[i+1]? = some (sb,nb,pb)->sb=sa+na/\1<=na/\1<=nb/\a<=sa/\sb+nb<=b/\Qq blt xs sa sb/\Qq blt xs sb (sb+nb)
 | [],_,_,_,_,_,_,_,_,_,_,h,_=>by simp at h
 | (s,n,p)::r,a,b,0,sa,na,pa,sb,nb,pb,h,h1,h2=>by
  obtain ⟨e,hn,hs,hr⟩:=h
  have q:s=sa/\n=na/\p=pa:=by simpa using h1
  obtain ⟨q1,q2,q3⟩:=q
  subst q1 q2 q3
  subst e
  cases r with
  | nil=>simp at h2
  | cons y r' =>
   obtain ⟨s',n',p'⟩:=y
   have q':s'=sb/\n'=nb/\p'=pb:=by simpa using h2
   obtain ⟨q1,q2,q3⟩:=q'
   subst q1 q2 q3
   obtain ⟨e',hn',hs',hr'⟩:=hr
   have:=Runs.len hr'
   exact ⟨e',hn,hn',Ah _,by omega,by rw[e']; exact hs,by rw[e']; exact hs'⟩
 | (s,n,p)::r,a,b,i+1,sa,na,pa,sb,nb,pb,h,h1,h2=>by
  have:=Runs.two h.2.2.2 (by simpa using h1) (by simpa using h2)
  exact ⟨this.1,this.2.1,this.2.2.1,by have:=this.2.2.2.1; have:=h.2.1; omega,this.2.2.2.2.1,this.2.2.2.2.2⟩
theorem Runs.merge{xs ys:Array Keyed}:∀{l:List (Nat×Nat×Nat)} {a b i sa na pa sb nb pb:Nat},Runs blt xs l a b->l[i]? = some (sa,na,pa)->l[i+1]? = some (sb,nb,pb)->eV xs ys sa (sb+nb)->Qq blt ys sa (sb+nb)->Runs blt ys ((l.set i (sa,na+nb,pa)).eraseIdx (i+1)) a b
 | [],_,_,_,_,_,_,_,_,_,_,h,_,_,_=>by simp at h
 | (s,n,p)::r,a,b,0,sa,na,pa,sb,nb,pb,h,h1,h2,o,as=>by
  have tw:=Runs.two h h1 h2
  obtain ⟨e,hn,hs,hr⟩:=h
  have q:s=sa/\n=na/\p=pa:=by simpa using h1
  obtain ⟨q1,q2,q3⟩:=q
  subst q1 q2 q3
  subst e
  cases r with
  | nil=>simp at h2
  | cons y r' =>
   obtain ⟨s',n',p'⟩:=y
   have q':s'=sb/\n'=nb/\p'=pb:=by simpa using h2
   obtain ⟨q1,q2,q3⟩:=q'
   subst q1 q2 q3
   obtain ⟨e',hn',hs',hr'⟩:=hr
   rw[List.set_cons_zero,Pz,List.eraseIdx_cons_zero]
   refine ⟨rfl,by omega,?_,?_⟩
   ·rw[show s+(n+n')=s'+n' by omega]
    exact as
   ·rw[show s+(n+n')=s+n+n' by omega]
    exact Runs.out o (.inr (by omega)) hr'
 | (s,n,p)::r,a,b,i+1,sa,na,pa,sb,nb,pb,h,h1,h2,o,as=>by
  have tw:=Runs.two (i:=i) h.2.2.2 (by simpa using h1) (by simpa using h2)
  rw[List.set_cons_succ,Pz]
  exact ⟨h.1,h.2.1,h.2.2.1.out o (.inl tw.2.2.2.1),Runs.merge h.2.2.2 (by simpa using h1) (by simpa using h2) o as⟩
theorem bU(P:Array (Nat×Nat×Nat))(i:Nat)(v:Nat×Nat×Nat):((P.setIfInBounds i v).eraseIdxIfInBounds (i+1)).toList=(P.toList.set i v).eraseIdx (i+1):=by
 rw[Array.toList_eraseIdxIfInBounds,cH]
section
variable{prog:Bj}{w:World}{A:Cp}{s:Aj}{kd:Lb}{Ok:Keyed->Prop}{E:Value->Aj->Prop}{a₀:Array Keyed}
theorem Nu{α:Type}{c:Prop}[Decidable c]{p q:StateT Bq Sem α}{Q:α->Bq->Prop}{st:Bq}(h1:c->wpS (model prog w) A E s p Q st)(h2:¬ c->wpS (model prog w) A E s q Q st):wpS (model prog w) A E s (if c then p else q) Q st:=by
 by_cases h:c
 ·rw[if_pos h]; exact h1 h
 ·rw[if_neg h]; exact h2 h
theorem cO(C:Cmp prog w A s kd Ok blt){st:Bq}(g:Good0 kd a₀ st)(h0:∀x∈a₀.toList,Ok x){lo i:Nat}(hlo:lo<=a₀.size)(rn:Runs blt (arrOf st) (Az st).toList 0 lo)(hi:i+1<(Az st).size){Q:Bool->Bq->Prop}(h:∀st',Good0 kd a₀ st'->Runs blt (arrOf st') (Az st').toList 0 lo->(Az st').size+1=(Az st).size->(∀c d,lo<=c->Qq blt (arrOf st) c d->Qq blt (arrOf st') c d)->Q true st'):wpS (model prog w) A E s (Tu i) Q st:=by
 obtain ⟨⟨sa,na,pa⟩,ha⟩ : ∃x,(Az st)[i]? = some x:=⟨(Az st)[i],by simp⟩
 obtain ⟨⟨sb,nb,pb⟩,hb⟩ : ∃x,(Az st)[i+1]? = some x:=⟨(Az st)[i+1],by simp⟩
 have la:(Az st).toList[i]? = some (sa,na,pa):=by simpa using ha
 have lb:(Az st).toList[i+1]? = some (sb,nb,pb):=by simpa using hb
 obtain ⟨t1,t2,t3,t4,t5,t6,t7⟩:=rn.two la lb
 refine jM C g h0 ha hb t1 t2 t3 (by omega) t6 t7 λst' g' pd as ou=>?_
 refine h st' g' ?_ ?_ λc d hc hs=>hs.out ou (.inr (by omega))
 ·rw[pd,bU]
  exact rn.merge la lb ou as
 ·have : (Az st').toList.length+1=(Az st).toList.length:=by
   rw[pd,bU,List.length_eraseIdx,List.length_set,Ai,if_pos hi]
   omega
  simpa using this
theorem xX{st:Bq}(g:Good0 kd a₀ st):Good kd a₀ (Az st) st:=⟨g.kind,g.fail,g.perm,rfl⟩
theorem iQ{st:Bq}{p:Array (Nat×Nat×Nat)}(g:Good kd a₀ p st):Good0 kd a₀ st:=⟨g.kind,g.fail,g.perm⟩
theorem pQ(C:Cmp prog w A s kd Ok blt){st:Bq}(g:Good0 kd a₀ st)(h0:∀x∈a₀.toList,Ok x)(hp:Az st=#[])(hz:1<=a₀.size){Q:Unit->Bq->Prop}(h:∀st',Good0 kd a₀ st'->Qq blt (arrOf st') 0 a₀.size->Q () st'):wpS (model prog w) A E s bA Q st:=by
 unfold bA
 refine Au (Me ?_)
 have hsz:(arrOf st).size=a₀.size:=g.size
 dsimp only
 rw[hsz]
 generalize (sortPriv% PySem.Builtin.minRun) a₀.size a₀.size 0=mr
 refine Au (Gy (Ef
  (I:=λx c st'=>∃lo,c=(none,lo)/\Good0 kd a₀ st'/\Runs blt (arrOf st') (Az st').toList 0 lo/\lo<=a₀.size/\x<=lo)
  (Q:=λc st'=>c=(none,a₀.size)/\Good0 kd a₀ st'/\Runs blt (arrOf st') (Az st').toList 0 a₀.size) ?_ ?_ ⟨0,rfl,g,by rw[hp]; exact rfl,by omega,by omega⟩) ?_)
 ·(intro x c st1 _ hx q_; obtain ⟨lo,rfl,g1,rn,hlo,hxl⟩ := q_)
  dsimp only
  by_cases hge:lo ≥ a₀.size
  ·rw[if_pos hge]
   have e:lo=a₀.size:=by omega
   subst e
   exact Bb ⟨rfl,g1,rn⟩
  rw[if_neg hge]
  refine Au (wL C (xX g1) h0 (lo:=lo) (b:=a₀.size - lo) (by omega) (by omega) λm st2 g2 m1 m2 as ou=>?_)
  dsimp only
  have rn2:Runs blt (arrOf st2) (Az st2).toList 0 lo:=by
   rw[g2.pd]
   exact rn.out ou (.inl (Ah _))
  have g2':=iQ g2
  clear rn g1
  refine Nu (λhmin=>?_) (λhmin=>?_)
  ·refine Au (Rl ?_)
   refine Au (pG C g2 h0 (lo:=lo) (n:=min (a₀.size - lo) mr) (ok:=m) (by omega) as (by omega) λPq g3 as3 ou3=>?_)
   refine Nu (λz=>absurd z (by decide)) (λ_=>?_)
   have n1:1<=min (a₀.size - lo) mr:=by omega
   have n2:lo+min (a₀.size - lo) mr<=a₀.size:=by omega
   have rn3:Runs blt (arrOf Pq) (Az Pq).toList 0 lo:=by
    rw[g3.pd,<- g2.pd]
    exact rn2.out ou3 (.inl (Ah _))
   have g3':=iQ g3
   generalize min (a₀.size - lo) mr=n at as3 n1 n2
   clear g2 g2' rn2 as ou ou3 g3 m1 m2 hmin
   refine Au (Me ?_)
   cases hb:(Az Pq).back? with
   | none =>
    dsimp only
    refine Au (Ji ?_)
    refine Bb ⟨lo+n,rfl,⟨g3'.kind,g3'.fail,g3'.perm⟩,?_,n2,by omega⟩
    show Runs blt (arrOf Pq) ((Az Pq).push (lo,n,0)).toList 0 (lo+n)
    rw[Hl]
    exact rn3.push n1 as3
   | some y =>
    obtain ⟨s1,l1,p1⟩:=y
    dsimp only
    refine Au (Gy (Ef
     (I:=λ_ c st'=>c=(none,())/\Good0 kd a₀ st'/\Runs blt (arrOf st') (Az st').toList 0 lo/\Qq blt (arrOf st') lo (lo+n))
     (Q:=λc st'=>c=(none,())/\Good0 kd a₀ st'/\Runs blt (arrOf st') (Az st').toList 0 lo/\Qq blt (arrOf st') lo (lo+n)) ?_ (λ_ _ z=>z) ⟨rfl,g3',rn3,as3⟩) ?_)
    ·(intro z c st4 _ _ q_; obtain ⟨rfl,g4,rn4,as4⟩ := q_)
     refine Au (Me ?_)
     by_cases hs1:(Az st4).size > 1
     ·rw[if_pos hs1]
      obtain ⟨⟨a1,b1,older⟩,ho⟩ : ∃x,(Az st4)[(Az st4).size - 2]? = some x:=⟨(Az st4)[(Az st4).size - 2],by simp⟩
      rw[ho]
      dsimp only
      refine Nu (λ_=>Bb ⟨rfl,g4,rn4,as4⟩) (λ_=>?_)
      refine Au (cO C g4 h0 hlo rn4 (i:=(Az st4).size - 2) (show (Az st4).size - 2+1<(Az st4).size by omega) λst5 g5 rn5 _ keep=>?_)
      refine Nu (λz=>absurd z (by decide)) (λ_=>?_)
      exact Bb ⟨rfl,g5,rn5,keep _ _ (Ah _) as4⟩
     ·rw[if_neg hs1]
      exact Bb ⟨rfl,g4,rn4,as4⟩
    ·(intro c st4 q_; obtain ⟨rfl,g4,rn4,as4⟩ := q_)
     dsimp only
     refine Au (Ji ?_)
     refine Au (Ji ?_)
     refine Bb ⟨lo+n,rfl,⟨g4.kind,g4.fail,g4.perm⟩,?_,n2,by omega⟩
     show Runs blt (arrOf st4) (((Az st4).modify ((Az st4).size - 1) _).push (lo,n,0)).toList 0 (lo+n)
     rw[Hl,Array.toList_modify]
     exact (rn4.power _).push n1 as4
  ·have n2:lo+m<=a₀.size:=by omega
   refine Au (Me ?_)
   cases hb:(Az st2).back? with
   | none =>
    dsimp only
    refine Au (Ji ?_)
    refine Bb ⟨lo+m,rfl,⟨g2'.kind,g2'.fail,g2'.perm⟩,?_,n2,by omega⟩
    show Runs blt (arrOf st2) ((Az st2).push (lo,m,0)).toList 0 (lo+m)
    rw[Hl]
    exact rn2.push m1 as
   | some y =>
    obtain ⟨s1,l1,p1⟩:=y
    dsimp only
    refine Au (Gy (Ef
     (I:=λ_ c st'=>c=(none,())/\Good0 kd a₀ st'/\Runs blt (arrOf st') (Az st').toList 0 lo/\Qq blt (arrOf st') lo (lo+m))
     (Q:=λc st'=>c=(none,())/\Good0 kd a₀ st'/\Runs blt (arrOf st') (Az st').toList 0 lo/\Qq blt (arrOf st') lo (lo+m)) ?_ (λ_ _ z=>z) ⟨rfl,g2',rn2,as⟩) ?_)
    ·(intro z c st4 _ _ q_; obtain ⟨rfl,g4,rn4,as4⟩ := q_)
     refine Au (Me ?_)
     by_cases hs1:(Az st4).size > 1
     ·rw[if_pos hs1]
      obtain ⟨⟨a1,b1,older⟩,ho⟩ : ∃x,(Az st4)[(Az st4).size - 2]? = some x:=⟨(Az st4)[(Az st4).size - 2],by simp⟩
      rw[ho]
      dsimp only
      refine Nu (λ_=>Bb ⟨rfl,g4,rn4,as4⟩) (λ_=>?_)
      refine Au (cO C g4 h0 hlo rn4 (i:=(Az st4).size - 2) (show (Az st4).size - 2+1<(Az st4).size by omega) λst5 g5 rn5 _ keep=>?_)
      refine Nu (λz=>absurd z (by decide)) (λ_=>?_)
      exact Bb ⟨rfl,g5,rn5,keep _ _ (Ah _) as4⟩
     ·rw[if_neg hs1]
      exact Bb ⟨rfl,g4,rn4,as4⟩
    ·(intro c st4 q_; obtain ⟨rfl,g4,rn4,as4⟩ := q_)
     dsimp only
     refine Au (Ji ?_)
     refine Au (Ji ?_)
     refine Bb ⟨lo+m,rfl,⟨g4.kind,g4.fail,g4.perm⟩,?_,n2,by omega⟩
     show Runs blt (arrOf st4) (((Az st4).modify ((Az st4).size - 1) _).push (lo,m,0)).toList 0 (lo+m)
     rw[Hl,Array.toList_modify]
     exact (rn4.power _).push m1 as4
 ·(intro c st1 q_; obtain ⟨lo,rfl,g1,rn,hlo,hxl⟩ := q_)
  have : max 0 a₀.size=a₀.size:=by omega
  rw[this] at hxl
  have e:lo=a₀.size:=by omega
  subst e
  exact ⟨rfl,g1,rn⟩
 ·(intro c st1 q_; obtain ⟨rfl,g1,rn⟩ := q_)
  dsimp only
  have len0:=Runs.len rn
  rw[Ai] at len0
  refine Au (Gy (Ef
   (I:=λx c st'=>c=(none,())/\Good0 kd a₀ st'/\Runs blt (arrOf st') (Az st').toList 0 a₀.size/\((Az st').size<=1\/(Az st').size+x<=a₀.size))
   (Q:=λc st'=>c=(none,())/\Good0 kd a₀ st'/\Runs blt (arrOf st') (Az st').toList 0 a₀.size/\(Az st').size<=1) ?_ ?_ ⟨rfl,g1,rn,.inr (by omega)⟩) ?_)
  ·(intro x c st2 _ hx q_; obtain ⟨rfl,g2,rn2,hs⟩ := q_)
   refine Au (Me ?_)
   refine Nu (λh1=>Bb ⟨rfl,g2,rn2,h1⟩) (λh1=>?_)
   have h1':¬ (Az st2).size<=1:=h1
   generalize hB:Option.any _ _=bb
   have key:∀i,i+1<(Az st2).size->wpS (model prog w) A E s (Tu i) (λr Pq=>r=true/\Good0 kd a₀ Pq/\Runs blt (arrOf Pq) (Az Pq).toList 0 a₀.size/\(Az Pq).size+1=(Az st2).size) st2 :=
    λi hi=>cO C g2 h0 (Ah _) rn2 hi λPq g3 rn3 sz _=>⟨rfl,g3,rn3,sz⟩
   refine Au (Gy (key _ ?_) λr Pq ⟨er,g3,rn3,sz⟩=>?_)
   ·cases bb with
    | true=>show (Az st2).size - 2 - 1+1<(Az st2).size; omega
    | false=>show (Az st2).size - 2+1<(Az st2).size; omega
   subst er
   refine Nu (λz=>absurd z (by decide)) (λ_=>?_)
   exact Bb ⟨rfl,g3,rn3,.inr (by omega)⟩
  ·(intro c st2 q_; obtain ⟨rfl,g2,rn2,hs⟩ := q_)
   have : max 0 a₀.size=a₀.size:=by omega
   rw[this] at hs
   exact ⟨rfl,g2,rn2,by omega⟩
  ·(intro c st2 q_; obtain ⟨rfl,g2,rn2,hs⟩ := q_)
   dsimp only
   refine Bb (h st2 g2 ?_)
   generalize hl:(Az st2).toList=l at rn2
   have hll:l.length<=1:=by rw[<- hl,Ai]; exact hs
   match l,rn2,hll with
   | [],rn2,_ =>
    have e:0=a₀.size:=rn2
    omega
   | [(s1,n1,p1)],rn2,_ =>
    obtain ⟨_,_,as,e⟩:=rn2
    have e':0+n1=a₀.size:=e
    rw[e'] at as
    exact as
end
end Ts
namespace Ts
open PySem PyProof.Rows L2
theorem lex_irr:∀l:List Int,HT.lexLt l l=false
 | []=>rfl
 | x::r=>by rw[HT.lexLt_cons,if_pos rfl]; exact lex_irr r
theorem Yt:∀{a b c:List Int},HT.lexLt a b=true->HT.lexLt b c=true->HT.lexLt a c=true
 | [],[],_,h,_=>by rw[HT.lexLt_nil_nil] at h; cases h
 | [],_::_,[],_,h=>by rw[HT.lexLt_cons_nil] at h; cases h
 | [],_::_,_::_,_,_=>HT.lexLt_nil_cons _ _
 | _::_,[],_,h,_=>by rw[HT.lexLt_cons_nil] at h; cases h
 | _::_,_::_,[],_,h=>by rw[HT.lexLt_cons_nil] at h; cases h
 | x::a,y::b,z::c,h1,h2=>by
  rw[HT.lexLt_cons] at h1 h2 ⊢
  by_cases e1:x=y
  ·subst e1
   rw[if_pos rfl] at h1
   by_cases e2:x=z
   ·subst e2
    rw[if_pos rfl] at h2 ⊢
    exact Yt h1 h2
   ·rw[if_neg e2] at h2 ⊢
    exact h2
  ·rw[if_neg e1] at h1
   have l1:x<y:=of_decide_eq_true h1
   by_cases e2:y=z
   ·subst e2
    rw[if_neg e1]
    exact h1
   ·rw[if_neg e2] at h2
    have l2:y<z:=of_decide_eq_true h2
    rw[if_neg (by omega)]
    exact decide_eq_true (by omega)
theorem dH:∀{a b:List Int},HT.lexLt a b=false->HT.lexLt b a=false->a=b
 | [],[],_,_=>rfl
 | [],_::_,h,_=>by rw[HT.lexLt_nil_cons] at h; cases h
 | _::_,[],_,h=>by rw[HT.lexLt_nil_cons] at h; cases h
 | x::a,y::b,h1,h2=>by
  rw[HT.lexLt_cons] at h1 h2
  by_cases e:x=y
  ·subst e
   rw[if_pos rfl] at h1 h2
   rw[dH h1 h2]
  ·rw[if_neg e] at h1
   rw[if_neg (Po e)] at h2
   have l1:=of_decide_eq_false h1
   have l2:=of_decide_eq_false h2
   omega
theorem cN{a b c:List Int}(h:HT.lexLt a c=true):HT.lexLt a b=true\/HT.lexLt b c=true:=by
 cases h1:HT.lexLt a b with
 | true=>exact .inl rfl
 | false =>
  cases h2:HT.lexLt b a with
  | true=>exact .inr (Yt h2 h)
  | false =>
   rw[<- dH h1 h2]
   exact .inr h
def DN(c:Addr->List Int)(x:Keyed):List Int:=match x.1 with
 | .ref a=>c a
 | _=>[]
def ET(c:Addr->List Int)(x y:Keyed):Bool:=HT.lexLt (DN c x) (DN c y)
def yS(c:Addr->List Int)(rs:List Addr)(h:Heap):Prop:=∀r∈rs,∃its:List Value,Gc its (c r)/\IsTup h r its.toArray
section
variable{prog:Bj}{w:World}{A:Cp}{E:Value->Aj->Prop}{s:Aj}{c:Addr->List Int}{rs:List Addr}
theorem pW(hH:yS c rs s.heap)(hu:A.units<cLine){a b:Addr}(ha:a∈rs)(hb:b∈rs){Q:Bool->Aj->Prop}(h:Q (HT.lexLt (c a) (c b)) s):wpAny (model prog w) A (oneLt' true (.ref a) (.ref b)) Q E s:=by
 obtain ⟨i1,t1,⟨c1,d1,dt1,sl1⟩,g1,k1,n1,e1⟩:=hH a ha
 obtain ⟨i2,t2,⟨c2,d2,dt2,sl2⟩,g2,k2,n2,e2⟩:=hH b hb
 simp only at k1 e1 k2 e2
 subst k1 e1 k2 e2
 rw[oneLt'_eq]
 simp only[if_true]
 refine Ab (wpAny_cRoomFor hu (Ab (wpAny_callSpecialIfBound?_slot ⟨_,g1,rfl⟩ PySem.F.slot_tuple_lt ?_)))
 refine call_meets PySem.F.slot_tuple_lt ⟨_,g1,rfl⟩ PySem.F.entry_tuple_lt (PySem.F.args_tuple_lt_2 _ _) (HT.tuple_lt_ints a b _ _ n1 n2 d1 d2 sl1 sl2 (c a) (c b) (by simpa using t1) (by simpa using t2)) ⟨g1,g2,?_⟩
 exact Gs h
theorem h9(hH:yS c rs s.heap)(hu:A.units<cLine):Cmp prog w A s oneType' (λx=>∃r∈rs,x.1=.ref r) (ET c) where
 run:=λx y Q E ⟨r,hr,ex⟩ ⟨r',hr',ey⟩ h=>by
  obtain ⟨x1,x2⟩:=x
  obtain ⟨y1,y2⟩:=y
  simp only at ex ey
  subst ex ey
  rw[keyLt'_oneType]
  exact pW hH hu hr hr' h
 irr:=λx=>lex_irr _
 tr:=λx y z h1 h2=>Yt h1 h2
 neg:=λx y z h=>cN h
theorem Sq:∀{l:List Addr} {Q:List (Option Value)->Aj->Prop},(∀r∈l,∃its:List Value,Gc its (c r)/\IsTup s.heap r its.toArray)->(∀fs:List (Option Value),fs.length=l.length->(∀(i:Nat) (r:Addr),l[i]? = some r->∃f,fs[i]? = some f/\(f.isSome=true↔c r≠[]))->Q fs s)->wpAny (model prog w) A ((l.map Ar).mapM Zx) Q E s
 | [],Q,_,h=>by
  rw[Xb,List.mapM_nil]
  exact Al (h [] rfl λi r e=>by simp at e)
 | r::l,Q,hH,h=>by
  obtain ⟨its,ti,o,g,k,n,e⟩:=hH r Aa
  rw[Bh,List.mapM_cons]
  have one:∀{R:Option Value->Aj->Prop},R its.toArray[0]? s->wpAny (model prog w) A (Zx (.ref r)) R E s:=λ{R} hR=>by
   unfold Zx
   refine Ab (Kq (T := "tuple") ⟨o,g,k⟩ ?_)
   rw[if_neg (by simp)]
   exact Ab (listItems_at g e (Al hR))
  refine Ab (one (Ab (Sq (λr' hr'=>hH r' (Ad _ hr')) λfs hl hf=>Al (h _ (by rw[Bf,Bf,hl]) λi r' er=>?_))))
  cases i with
  | zero =>
   have e':r=r':=by simpa using er
   subst e'
   refine ⟨_,rfl,?_⟩
   have hlen:=ti.length
   cases its with
   | nil =>
    cases hc:c r with
    | nil=>simp
    | cons _ _=>rw[hc] at hlen; simp at hlen
   | cons a b =>
    cases hc:c r with
    | nil=>rw[hc] at hlen; simp at hlen
    | cons _ _=>simp
  | succ i =>
   obtain ⟨f,h1,h2⟩:=hf i r' (by simpa using er)
   exact ⟨f,by simpa using h1,h2⟩
theorem bW:∀{l:List Addr} {Q:List Value->Aj->Prop},(∀r∈l,∃its:List Value,Gc its (c r)/\IsTup s.heap r its.toArray)->Q (l.map λ_=>Eh "tuple") s->wpAny (model prog w) A ((l.map Ar).mapM typeOf) Q E s
 | [],Q,_,h=>by
  rw[Xb,List.mapM_nil]
  exact Al h
 | r::l,Q,hH,h=>by
  obtain ⟨its,ti,o,g,k,n,e⟩:=hH r Aa
  rw[Bh,List.mapM_cons]
  exact Ab (Kq (T := "tuple") ⟨o,g,k⟩ (Ab (bW (λr' hr'=>hH r' (Ad _ hr')) (Al h))))
theorem uV{r:Addr}{l:List Addr}(hH:yS c (r::l) s.heap)(h0:c r=[]){Q:Lb->Aj->Prop}(h:Q oneType' s):wpAny (model prog w) A (keyKind' ((r::l).map Ar).toArray) Q E s:=by
 rw[keyKind'_eq,Xc]
 refine Ab ?_
 show wpAny (model prog w) A (List.toArray <$> ((r::l).map Ar).mapM Zx) _ E s
 rw[map_eq_pure_bind]
 refine Ab (Sq hH λfs hl hf=>Al ?_)
 obtain ⟨f,h1,h2⟩:=hf 0 r rfl
 have fn:f=none:=by
  cases f with
  | none=>rfl
  | some v=>exact absurd h0 (h2.mp rfl)
 subst fn
 have na:¬ (fs.toArray.all λx=>x.isSome)=true:=by
  intro z
  have:=Array.all_eq_true'.mp z none (by
   have:=Ba h1
   simpa using this)
  simp at this
 have n0:¬ (fs.toArray[0]?.bind id).isSome=true:=by
  rw[List.getElem?_toArray,h1]
  simp
 rw[if_neg na,if_neg n0,oneTypeOnly'_eq,Xc]
 refine Ab (Ab ?_)
 show wpAny (model prog w) A (List.toArray <$> ((r::l).map Ar).mapM typeOf) _ E s
 rw[map_eq_pure_bind]
 refine Ab (bW hH (Al ?_))
 have e0:((r::l).map λ_=>Eh "tuple").toArray[0]? = some (Eh "tuple"):=by simp
 have ea:(((r::l).map λ_=>Eh "tuple").toArray.all λx=>x == Eh "tuple")=true:=by
  simp only[List.all_toArray,Xd,List.all_eq_true]
  intro _ _
  rfl
 rw[e0]
 dsimp only
 rw[ea,if_pos rfl]
 exact Al (Al h)
end
theorem bO:∀{rs:List Addr} {us:List Value},Fk (rs.map V.ref) us->us=rs.map Ar
 | [],_,r=>by cases r; rfl
 | a::l,_,r=>by
  rw[Bh] at r
  cases r with
  | cons r1 r2 =>
   cases r1
   rw[bO r2]
   rfl
theorem vals_refs:∀rs:List Addr,Fk (rs.map V.ref) (rs.map Ar)
 | []=>.nil
 | _::l=>.cons rfl (vals_refs l)
section
variable{prog:Bj}{w:World}{A:Cp}{E:Value->Aj->Prop}{s:Aj}{c:Addr->List Int}{rs:List Addr}
theorem Ws{h:Heap}{vs:List Value}{out:Array Value}{b:Addr}{o:Obj}(e:h.get? b=some o):(sortedAll h vs out).get? b=some o:=by
 have lt:=Aw e
 unfold sortedAll Nh
 have z1:((h.push (Ew "list" #[] 0)).update h.objs.size (Ez (·++vs.toArray))).objs.size=h.objs.size+1:=by rw[Ma,size_push']
 have n1:b≠h.objs.size+1:=Ce (Jp lt)
 refine ((Cr _ _ _).2 b n1).trans (Ak _ (Ak _ (((Cr _ _ _).2 b n1).trans (Ak _ ?_))))
 exact ((Cr _ _ _).2 b (Ce lt)).trans (Ak _ e)
theorem aN{h:Heap}{vs:List Value}{out:Array Value}:∃n,(sortedAll h vs out).get? (h.objs.size+1)=some (Ew "list" out n):=by
 unfold sortedAll Nh
 have z1:((h.push (Ew "list" #[] 0)).update h.objs.size (Ez (·++vs.toArray))).objs.size=h.objs.size+1:=by rw[Ma,size_push']
 have g1:(((h.push (Ew "list" #[] 0)).update h.objs.size (Ez (·++vs.toArray))).push (Ew "list" vs.toArray 0)).get? (h.objs.size+1)=some (Ew "list" vs.toArray 0):=by
  rw[<- z1]
  exact Be _ rfl
 have g2:=Oi g1 (λ_=>#[])
 have g3:=Ak (Ew "list" #[] 0) (Ak (Ew "tuple" vs.toArray 0) g2)
 exact ⟨_,Oi g3 (λ_=>out)⟩
end
def S8{κ:Type}(c:Addr->κ)(d0:κ)(x:Keyed):κ:=match x.1 with
 | .ref a=>c a
 | _=>d0
def EB{κ:Type}(c:Addr->κ)(d0:κ)(lt_:κ->κ->Bool)(x y:Keyed):Bool:=lt_ (S8 c d0 x) (S8 c d0 y)
def jS{κ:Type}(prog:Bj)(w:World)(A:Cp)(s:Aj)(rs:List Addr)(c:Addr->κ)(d0:κ)(lt_:κ->κ->Bool):Prop :=
 ∃kd,(∀(R:Lb->Aj->Prop) (E:Value->Aj->Prop),R kd s->wpAny (model prog w) A (keyKind' (rs.map Ar).toArray) R E s)/\Cmp prog w A s kd (λx=>∃r∈rs,x.1=.ref r) (EB c d0 lt_)
section
variable{prog:Bj}{w:World}{A:Cp}{E:Value->Aj->Prop}{s:Aj}{κ:Type}{c:Addr->κ}{d0:κ}{lt_:κ->κ->Bool}{rs:List Addr}
theorem sort_listG{a:Addr}{n:Nat}{P:Fin->Aj->Prop}(hl:s.heap.get? a=some (Ew "list" (rs.map Ar).toArray n))(hC:∀h':Heap,(∀b o,b≠a->s.heap.get? b=some o->h'.get? b=some o)->2<=rs.length->jS prog w A { s with heap:=h' } rs c d0 lt_)(hz:rs.length<=Bd)(h:∀rs':List Addr,rs'.Perm rs->rs'.Pairwise (λx y=>lt_ (c y) (c x)=false)->P (.done (.ret .none)) { s with heap:=Nh s.heap a (rs.map Ar) (rs'.map Ar).toArray }):wpAny (model prog w) A (Builtin.«list.sort» ⟨[.ref a],[]⟩) P E s:=by
 have lt:=Aw hl
 have hsz:(rs.map Ar).toArray.size=rs.length:=by simp
 rw[list_sort_plain]
 refine Ab (listItems_at hl rfl (Ab (listUpdate_at hl rfl ?_ (by rw[hsz]; exact hz))))
 obtain ⟨ep,hl1⟩ : ∃ep,(s.heap.update a (Ez λ_=>#[])).get? a=some (Ew "list" #[] ep):=⟨_,Oi hl (λ_=>#[])⟩
 refine Ab (seqEpoch_at hl1 rfl (Ab (wpAny_newTuple (Ab (wpAny_newList (Ey ?_)) ))))
 have hl2:(((s.heap.update a (Ez λ_=>#[])).push (Ew "tuple" (rs.map Ar).toArray 0)).push (Ew "list" #[] 0)).get? a=some (Ew "list" #[] ep):=by
  rw[Heap.get?_push_ne _ _ _ (by rw[size_push',Ma]; exact Ce (Jp lt)),
   Heap.get?_push_ne _ _ _ (by rw[Ma]; exact Ce lt)]
  exact hl1
 have kept:∀b o,b≠a->s.heap.get? b=some o->(((s.heap.update a (Ez λ_=>#[])).push (Ew "tuple" (rs.map Ar).toArray 0)).push (Ew "list" #[] 0)).get? b=some o:=λb o hb e=>by
  refine Ak _ (Ak _ ?_)
  exact ((Cr s.heap a _).2 b hb).trans e
 show wpAny (model prog w) A _ P E { s with heap:=((s.heap.update a (Ez λ_=>#[])).push (Ew "tuple" (rs.map Ar).toArray 0)).push (Ew "list" #[] 0) }
 dsimp only
 -- what is left jX the runs
 have fin:∀(out:Array Value) (rs':List Addr),out=(rs'.map Ar).toArray->rs'.Perm rs->rs'.Pairwise (λx y=>lt_ (c y) (c x)=false) ->
   P (.done (.ret .none)) { s with heap:=Nh s.heap a (rs.map Ar) out }:=λout rs' e p1 p2=>by rw[e]; exact h rs' p1 p2
 by_cases h2:(rs.map Ar).toArray.size<2
 ·rw[if_pos h2,if_pos h2]
  refine Ab (Al ?_)
  rw[StateT.run_pure]
  refine Ab (Al (Ab (seqEpoch_at hl2 rfl (Ab (listUpdate_at hl2 rfl ?_ (by simp) ?_)))))
  ·simp only[bne_self_eq_false,Bp,if_false]
   refine Al (fin _ rs ?_ (Gp _) ?_)
   ·show Array.map (λx=>x.2) ((rs.map Ar).toArray.zip (rs.map Ar).toArray)=_
    apply Array.ext'
    simp [List.map_snd_zip]
   ·rw[hsz] at h2
    match rs,h2 with
    | [],_=>exact Do
    | [_],_=>exact El _ _
    | _::_::_,h2=>simp only[Bf] at h2; omega
  ·show (Array.map (λx:Keyed=>x.2) ((rs.map Ar).toArray.zip (rs.map Ar).toArray)).size<=Bd+1
   rw[Array.size_map,Array.size_zip,hsz]
   omega
 ·rw[if_neg h2,if_neg h2]
  rw[hsz] at h2
  obtain ⟨kd,hk,C⟩:=hC (((s.heap.update a (Ez λ_=>#[])).push (Ew "tuple" (rs.map Ar).toArray 0)).push (Ew "list" #[] 0)) kept (by omega)
  refine Ab (hk _ _ ?_)
  have a0:(pairsOf (rs.map Ar)).size=rs.length:=by rw[pairsOf_size,Ac]
  refine Ab (Cz (pQ C (a₀:=pairsOf (rs.map Ar)) (st:=SortSt.mk' kd ((rs.map Ar).toArray.zip (rs.map Ar).toArray) #[] 7 none) (E:=E)
   (Q:=λ_ st'=>Good0 kd (pairsOf (rs.map Ar)) st'/\Qq (EB c d0 lt_) (arrOf st') 0 (pairsOf (rs.map Ar)).size)
   ⟨rfl,rfl,Array.Perm.refl _⟩ (λx hx=>?_) rfl (by rw[a0]; omega) λst' g as=>⟨g,as⟩) ?_ λ_ _ z=>z)
  ·rw[pairsOf_toList] at hx
   obtain ⟨_,hm⟩:=mem_zip_self hx
   obtain ⟨r,hr,e⟩:=Cs.mp hm
   exact ⟨r,hr,e.symm⟩
  ·(rintro ⟨⟨⟩,st'⟩ s' q_; obtain ⟨rfl,g,as⟩ := q_)
   dsimp only
   -- the things of the new order
   have pl:(arrOf st').toList.Perm ((rs.map Ar).zip (rs.map Ar)):=by rw[<- pairsOf_toList]; exact Oa.mp g.perm
   have each:∀x∈(arrOf st').toList,∃r∈rs,x=(Ar r,Ar r):=λx hx=>by
    obtain ⟨e,hm⟩:=mem_zip_self (pl.mem_iff.mp hx)
    obtain ⟨r,hr,e2⟩:=Cs.mp hm
    refine ⟨r,hr,?_⟩
    obtain ⟨x1,x2⟩:=x
    simp only at e e2
    rw[<- e,e2]
   have ex:∀l:List Keyed,(∀x∈l,∃r∈rs,x=(Ar r,Ar r))->∃rs':List Addr,l=rs'.map λr=>(Ar r,Ar r):=by
    intro l
    induction l with
    | nil=>intro _; exact ⟨[],rfl⟩
    | cons x l ih =>
     intro hx
     obtain ⟨r,_,e⟩:=hx x Aa
     obtain ⟨rs',e'⟩:=ih λy hy=>hx y (Ad _ hy)
     exact ⟨r::rs',by rw[Bh,e,e']⟩
   obtain ⟨rs',ers⟩:=ex _ each
   have zz:(rs.map Ar).zip (rs.map Ar)=rs.map λr=>(Ar r,Ar r):=by
    rw[List.zip_map',]
   rw[ers,zz] at pl
   have inj:∀x:Keyed,∃a:Addr,True:=λ_=>⟨0,trivial⟩
   have pr:rs'.Perm rs:=by
    have:=pl.map (λx:Keyed=>match x.1 with | .ref a=>a | _=>0)
    rw[Da,Da] at this
    simpa [Function.comp_def] using this
   have so:rs'.Pairwise (λx y=>lt_ (c y) (c x)=false):=by
    rw[Dz]
    intro i j hi hj hij
    have ls:(arrOf st').size=rs'.length:=by
     have:=congrArg Ip ers
     rw[Ai,Ac] at this
     exact this
    have xe:∀k (hk:k<rs'.length),X (arrOf st') k=(Ar rs'[k],Ar rs'[k]):=λk hk=>by
     have e1:=Eb (Ww (xs:=arrOf st') (i:=k) (by omega))
     rw[ers,Bo,Bw hk] at e1
     exact (Bz e1).symm
    have:=as i j (Cy _) (by omega) (by rw[a0,<- pr.length_eq]; exact hj)
    rw[xe i hi,xe j hj] at this
    exact this
   refine Ab (seqEpoch_at hl2 rfl (Ab (listUpdate_at hl2 rfl ?_ (by simp) ?_)))
   ·have fl:La st'=none:=g.fail
    rw[fl]
    simp only[bne_self_eq_false,Bp,if_false]
    refine Al (fin _ rs' ?_ pr so)
    apply Array.ext'
    rw[Array.toList_map,ers,Da]
    rfl
   ·show (Array.map (λx:Keyed=>x.2) (arrOf st')).size<=Bd+1
    rw[Array.size_map,g.size,a0]
    omega
theorem cT{l:Addr}{Q:Value->Aj->Prop}(hl:s.heap.IsList l (rs.map Ar).toArray)(hC:∀(A':Cp) (h':Heap),A'.units<=A.units+2->A'.handled=A.handled->(∀b o,s.heap.get? b=some o->h'.get? b=some o)->2<=rs.length->jS prog w A' { s with heap:=h' } rs c d0 lt_)(hz:rs.length<=Bd)(h:∀rs':List Addr,rs'.Perm rs->rs'.Pairwise (λx y=>lt_ (c y) (c x)=false)->Q (.ref (s.heap.objs.size+1)) { s with heap:=sortedAll s.heap (rs.map Ar) (rs'.map Ar).toArray }):wpAny (model prog w) A (call (.builtin "sorted") [.ref l]) Q E s:=by
 refine eU (by exact kind_sorted) plain_sorted entry_sorted (args_sorted1 _) ?_
 unfold Builtin.«sorted»
 refine Ab (m:=checkCount "sorted" 1 1 _) (Al (Ab (collect_list hl (Ab (wpAny_newList ?_)) (by rw[Ac]; exact hz))))
 have z1:((s.heap.push (Ew "list" #[] 0)).update s.heap.objs.size (Ez (·++(rs.map Ar).toArray))).objs.size=s.heap.objs.size+1:=by rw[Ma,size_push']
 have g1:(((s.heap.push (Ew "list" #[] 0)).update s.heap.objs.size (Ez (·++(rs.map Ar).toArray))).push (Ew "list" (rs.map Ar).toArray 0)).get? (s.heap.objs.size+1)=some (Ew "list" (rs.map Ar).toArray 0):=by
  rw[<- z1]
  exact Be _ rfl
 have kept:∀b o,s.heap.get? b=some o->(((s.heap.push (Ew "list" #[] 0)).update s.heap.objs.size (Ez (·++(rs.map Ar).toArray))).push (Ew "list" (rs.map Ar).toArray 0)).get? b=some o:=λb o e=>by
  refine Ak _ (((Cr _ _ _).2 b (Ce (Aw e))).trans (Ak _ e))
 show wpAny _ _ _ _ _ { s with heap:=((s.heap.push (Ew "list" #[] 0)).update s.heap.objs.size (Ez (·++(rs.map Ar).toArray))).push (Ew "list" (rs.map Ar).toArray 0) }
 rw[z1]
 refine Ab (Ey (Hh slot_list_sort ⟨_,g1,rfl⟩ entry_list_sort (sort_listG g1 (λh' hk h2=>hC _ h' ?_ ?_ (λb o e=>hk b o (Ce (Jp (Aw e))) (kept b o e)) h2) hz λrs' p1 p2=>⟨_,rfl,?_⟩) (args_list_sort _)))
 ·first | exact Ah _ | (show A.units+1<=A.units+2; omega) | (show A.units<=A.units+2; omega)
 ·rfl
 ·exact Al ⟨_,rfl,h rs' p1 p2⟩
end
section
variable{prog:Bj}{w:World}{A:Cp}{E:Value->Aj->Prop}{s:Aj}{c:Addr->List Int}{rs:List Addr}
theorem i9{b:Bool}{x y:Int}{t u:Tok}{Q:Bool->Aj->Prop}(h:Q (decide (x<y)) s):wpAny (model prog w) A (oneLt' b (.int x t) (.int y u)) Q E s:=by
 cases b with
 | true=>exact oneLt_int h
 | false=>exact PySem.W.kat_one _ _ (lt_int h)
theorem iN{b:Bool}{Q:Bool->Aj->Prop}:∀{xs ys:List Value} {ns ms:List Int} (i:Nat),Gc xs ns->Gc ys ms->Q (HT.lexLt ns ms) s->PySem.W.KatLex prog w A b (decide (xs.length<ys.length)) Q (xs.zip ys) i s
 | _,_,_,_,i,.nil,.nil,h=>h
 | _,_,_,_,i,.nil,.cons m u k,h=>h
 | _,_,_,_,i,.cons n t k,.nil,h=>h
 | _,_,_,_,i,.cons (vs:=xs) n t k,.cons (vs:=ys) m u k2,h=>by
  rw[Vz]
  refine PySem.W.kat_cons (wpAny_eqBool_int ?_)
  rw[HT.lexLt_cons] at h
  cases hnm:(n == m) with
  | true =>
   have e:n=m:=by simpa using hnm
   rw[if_pos e] at h
   refine PySem.W.kat_yes ?_
   have : decide ((Nm n t::xs).length<(Nm m u::ys).length)=decide (xs.length<ys.length):=by simp
   rw[this]
   exact iN (i+1) k k2 h
  | false =>
   have e:¬ n=m:=by simpa using hnm
   rw[if_neg e] at h
   exact PySem.W.kat_no (i9 h)
theorem Yv:∀{l:List Addr},(∀r∈l,∃its:List Value,Gc its (c r)/\IsTup s.heap r its.toArray)->(∀r∈l,c r≠[])->∃fs:List Value,PySem.W.KatTups s.heap (l.map Ar) fs/\fs.length=l.length/\∀v∈fs,∃i t,v=.int i t
 | [],_,_=>⟨[],.nil,rfl,λ_ h=>(nomatch h)⟩
 | r::l,hH,hn=>by
  obtain ⟨fs,h1,h2,h3⟩:=Yv (λr' hr'=>hH r' (Ad _ hr')) (λr' hr'=>hn r' (Ad _ hr'))
  obtain ⟨its,ti,o,g,k,n,e⟩:=hH r Aa
  have hne:=hn r Aa
  match its,ti with
  | [],ti=>cases hc:c r with
   | nil=>exact absurd hc hne
   | cons _ _=>rw[hc] at ti; cases ti
  | v::its,ti =>
   have : ∃i t,v=.int i t:=by
    revert ti
    generalize c r=cr
    intro ti
    cases ti with
    | cons m t k=>exact ⟨_,_,rfl⟩
   refine ⟨v::fs,PySem.W.KatTups.cons g k e (by simp) h1,by rw[Bf,Bf,h2],λx hx=>?_⟩
   rcases Am.mp hx with rfl | hx
   ·exact this
   ·exact h3 x hx
theorem kinded_ints(hH:yS c rs s.heap)(hu:A.units<cLine)(h2:2<=rs.length):jS prog w A s rs c [] HT.lexLt:=by
 obtain ⟨r,l,rfl⟩ : ∃r l,rs=r::l:=by
  cases rs with
  | nil=>simp at h2
  | cons r l=>exact ⟨r,l,rfl⟩
 by_cases h0:c r=[]
 ·exact ⟨oneType',λR E h=>uV hH h0 h,h9 hH hu⟩
 by_cases hall:∀r'∈r::l,c r'≠[]
 ·obtain ⟨fs,f1,f2,f3⟩:=Yv hH hall
  refine ⟨tuples' true,λR E h=>?_,?_⟩
  ·refine PySem.W.kat_kind (T:=.type "int") f1 (by rw[f2]; simp) (λv hv=>?_) (by decide) h
   obtain ⟨i,t,rfl⟩:=f3 v hv
   exact .now
  ·refine ⟨λx y Q E ⟨r1,hr1,ex⟩ ⟨r2,hr2,ey⟩ h=>?_,λx=>lex_irr _,λx y z=>Yt,λx y z=>cN⟩
   obtain ⟨x1,x2⟩:=x
   obtain ⟨y1,y2⟩:=y
   simp only at ex ey
   subst ex ey
   obtain ⟨i1,t1,o1,g1,k1,n1,e1⟩:=hH r1 hr1
   obtain ⟨i2,t2,o2,g2,k2,n2,e2⟩:=hH r2 hr2
   refine PySem.W.kat_lt g1 e1 g2 e2 ?_
   have e:(decide (i1.toArray.size<i2.toArray.size))=decide (i1.length<i2.length):=by simp
   rw[e]
   exact iN 0 t1 t2 h
 ·refine ⟨general',λR E h=>?_,?_⟩
  ·rw[kat_kind_eq,Xc,map_eq_pure_bind]
   refine Ab (Ab (Sq hH λfs hl hf=>Al ?_))
   have na:¬ (fs.toArray.all λx=>x.isSome)=true:=by
    intro z
    refine hall λr' hr'=>?_
    obtain ⟨i,hi⟩:=List.getElem?_of_mem hr'
    obtain ⟨f,q1,q2⟩:=hf i r' hi
    refine q2.mp ?_
    exact Array.all_eq_true'.mp z f (by have:=Ba q1; simpa using this)
   obtain ⟨f,q1,q2⟩:=hf 0 r rfl
   have n0:(fs.toArray[0]?.bind id).isSome=true:=by
    rw[List.getElem?_toArray,q1]
    simpa using q2.mpr h0
   rw[if_neg na,if_pos n0]
   exact Al h
  ·refine ⟨λx y Q E ⟨r1,hr1,ex⟩ ⟨r2,hr2,ey⟩ h=>?_,λx=>lex_irr _,λx y z=>Yt,λx y z=>cN⟩
   obtain ⟨x1,x2⟩:=x
   obtain ⟨y1,y2⟩:=y
   simp only at ex ey
   subst ex ey
   obtain ⟨i1,t1,p1⟩:=hH r1 hr1
   obtain ⟨i2,t2,p2⟩:=hH r2 hr2
   show wpAny (model prog w) A (oneLt' false (.ref r1) (.ref r2)) Q E s
   exact PySem.W.kat_one _ _ (HT.lt_tupInts p1 p2 (show Gc i1.toArray.toList (c r1) by simpa using t1) (show Gc i2.toArray.toList (c r2) by simpa using t2) hu h)
end
section
variable{X:Cx}
def rSortI(K:PySem.W.Frag):List V->Hp->VK->Prop:=λxs H Q=>∃(a:Addr) (rs:List Addr) (c:Addr->List Int),xs=[.ref a]/\Ov K H a (rs.map V.ref)/\(∀r∈rs,Tg K H r ((c r).map V.int)) /\
  ∀(p:Addr) (rs':List Addr),H p=none->rs'.Perm rs->rs'.Pairwise (λx y=>HT.lexLt (c y) (c x)=false)->Q (.ref p) (upd H p (.lst (rs'.map V.ref)))
theorem call_sortedI(hu:X.A.units+64<cLine):Kx X (.builtin "sorted") (rSortI X.K):=by
 intro pins s σ H xs us Q I r h
 obtain ⟨a,rs,c,rfl,hl,hc,q⟩:=h
 obtain ⟨u,rfl,ru⟩:=vals1 r
 cases ru
 obtain ⟨its,rv,pl,hz⟩:=I.list hl
 have e:=bO rv
 subst e
 rw[Ac] at hz
 refine cT (c:=c) (d0:=[]) (lt_:=HT.lexLt) pl.isList (λA' h' hA _ hk h2=>kinded_ints (λr hr=>?_) (by omega) h2) hz λrs' p1 p2=>?_
 ·obtain ⟨ti,t1,⟨o,g,k⟩,_⟩:=I.tuple (hc r hr)
  exact ⟨ti,intsAre_of t1,o,hk _ _ g,k⟩
 ·obtain ⟨n,hn⟩:=aN (h:=s.heap) (vs:=rs.map Ar) (out:=(rs'.map Ar).toArray)
  refine ⟨.ref (s.heap.objs.size+1),upd H (s.heap.objs.size+1) (.lst (rs'.map V.ref)),I.laid (t':=s.toks) (λb o e=>Ws e) (Nat.le_succ _) ⟨?_,_,n,vals_refs rs',hn⟩,rfl,q _ rs' (I.hok.fresh (Nat.le_succ _)) p1 p2⟩
  rw[Ac,p1.length_eq]
  exact hz
end
end Ts
namespace DL
open PySem L2 Nd
def Lr{α:Type}(xs:List α)(lo hi:Option Int):List α:=(xs.drop (HT.sIx xs.length 0 lo)).take (HT.sIx xs.length xs.length hi - HT.sIx xs.length 0 lo)
theorem gZ{α β:Type}(f:α->β)(xs:List α)(lo hi:Option Int):Lr (xs.map f) lo hi=(Lr xs lo hi).map f:=by
 unfold Lr
 rw[Ac,List.map_take,List.map_drop]
theorem Zp{α:Type}(xs:List α)(lo hi:Option Int):(Lr xs lo hi).Sublist xs:=(Jk _ _).trans (Hq _ _)
theorem oY{α:Type}(xs:List α)(k:Nat):Lr xs none (some (k:Int))=xs.take k:=by
 unfold Lr
 rw[HT.sIx_none,HT.sIx_nat,Te,Xu]
 by_cases h:k<=xs.length
 ·rw[Nat.min_eq_left h]
 ·rw[Nat.min_eq_right (by omega),Kf,Gu (by omega)]
section
variable{K:PySem.W.Frag}{H:Hp}
theorem RdFs.drop:∀(n:Nat) {xs:List V} {ds:List Af} {F:List Addr},RdFs K H xs ds F->∃G,RdFs K H (xs.drop n) (ds.drop n) G/\G.Sublist F
 | 0,_,_,F,h=>⟨F,h,Em _⟩
 | n+1,_,_,_,.nil=>⟨[],.nil,Em _⟩
 | n+1,_,_,_,.cons _ t=>by
  obtain ⟨G,h1,h2⟩:=RdFs.drop n t
  exact ⟨G,h1,h2.trans (Dy _ _)⟩
theorem RdFs.take:∀(n:Nat) {xs:List V} {ds:List Af} {F:List Addr},RdFs K H xs ds F->∃G,RdFs K H (xs.take n) (ds.take n) G/\G.Sublist F
 | 0,_,_,F,h=>⟨[],.nil,List.nil_sublist _⟩
 | n+1,_,_,_,.nil=>⟨[],.nil,Em _⟩
 | n+1,_,_,_,.cons a t=>by
  obtain ⟨G,h1,h2⟩:=RdFs.take n t
  exact ⟨_,.cons a h1,(Em _).append h2⟩
theorem RdFs.cut{xs:List V}{ds:List Af}{F:List Addr}(h:RdFs K H xs ds F)(lo hi:Option Int):∃G,RdFs K H (Zn xs lo hi) (Lr ds lo hi) G/\G.Sublist F:=by
 unfold Zn Lr
 rw[h.len]
 obtain ⟨G,h1,h2⟩:=h.drop (HT.sIx ds.length 0 lo)
 obtain ⟨G',h3,h4⟩:=h1.take (HT.sIx ds.length ds.length hi - HT.sIx ds.length 0 lo)
 exact ⟨G',h3,h4.trans h2⟩
theorem RdFs.ints:∀ns:List Int,RdFs K H (ns.map V.int) (ns.map Br) []
 | []=>.nil
 | n::ns=>RdFs.cons (F:=[]) (.int n) (RdFs.ints ns)
theorem RdFs.ints_inv:∀{ns:List Int} {xs:List V} {F:List Addr},RdFs K H xs (ns.map Br) F->xs=ns.map V.int/\F=[]
 | [],_,_,h=>by cases h; exact ⟨rfl,rfl⟩
 | n::ns,_,_,h=>by
  rw[Bh] at h
  cases h with
  | cons a t =>
   obtain ⟨rfl,rfl⟩:=a.int_inv
   obtain ⟨rfl,rfl⟩:=RdFs.ints_inv t
   exact ⟨rfl,rfl⟩
theorem RdFs.bools_inv:∀{ns:List Bool} {xs:List V} {F:List Addr},RdFs K H xs (ns.map PyData.bool) F->xs=ns.map V.bl/\F=[]
 | [],_,_,h=>by cases h; exact ⟨rfl,rfl⟩
 | n::ns,_,_,h=>by
  rw[Bh] at h
  cases h with
  | cons a t =>
   obtain ⟨rfl,rfl⟩:=a.bl_inv
   obtain ⟨rfl,rfl⟩:=RdFs.bools_inv t
   exact ⟨rfl,rfl⟩
end
theorem Yr{a b:List Af}:Dt (a++b)=(Dt a && Dt b):=by
 induction a with
 | nil=>simp [Dt]
 | cons x a ih=>simp [Dt,ih,Bool.and_assoc]
theorem Qn(ns:List Int):Dt (ns.map Br)=true:=Sn (λ_=>by simp [imm]) ns
def mJ:D2:=λx y P=>match x,y with
 | .dat _ (.list ds),.dat _ (.list es)=>Dt ds=true/\Dt es=true/\ds.length+es.length<=1000000/\P (.dat .ow (.list (ds++es)))
 | _,_=>False
def dY:D2:=λx y P=>match x,y with
 | .dat _ (.tuple ds),.dat _ (.tuple es)=>Dt ds=true/\Dt es=true/\ds.length+es.length<=1000000/\P (.dat .ow (.tuple (ds++es)))
 | _,_=>False
def DP:D2:=λx y P=>match x,y with
 | .dat _ (.list ds),.dat _ (.int k)=>Dt ds=true /\ -1000000<=k/\k<=1000000/\ds.length * k.toNat<=1000000/\P (.dat .ow (.list (Ih k.toNat ds).flatten))
 | _,_=>False
section
variable{K:PySem.W.Frag}
theorem N5:oU K R9 mJ:=by
 intro H0 X n S T x y v w F G H Q P hA hd k
 unfold mJ at hd
 split at hd
 ·obtain ⟨i1,i2,hz,p⟩:=hd
  obtain ⟨b,ys,G1,rfl,hb,rb,_,_⟩:=(hA.told mem_mid).list_inv
  obtain ⟨a,xs,G2,rfl,ha,ra,_,_⟩:=(hA.told Fq).list_inv
  have l1:=ra.len
  have l2:=rb.len
  refine ⟨a,b,xs,ys,rfl,rfl,ha,hb,aA (by omega),λq hq=>?_⟩
  exact k _ _ _ _ (hA.drop2.newI (ra.app rb) (by rw[Yr,i1,i2]; rfl) (by rw[Ax]; exact aA (by omega)) hq .ow) p
 ·exact hd.elim
theorem zY:oU K (w5 K) dY:=by
 intro H0 X n S T x y v w F G H Q P hA hd k
 unfold dY at hd
 split at hd
 ·obtain ⟨i1,i2,hz,p⟩:=hd
  obtain ⟨b,ys,rfl,hb,rb,zb⟩:=(hA.told mem_mid).tup_inv
  obtain ⟨a,xs,rfl,ha,ra,za⟩:=(hA.told Fq).tup_inv
  have l1:=ra.len
  have l2:=rb.len
  obtain rfl:=ra.imm i1
  obtain rfl:=rb.imm i2
  refine ⟨a,b,xs,ys,rfl,rfl,Tg.of ha,Tg.of hb,aA (by omega),λe=>?_,λe=>?_,λq hq=>?_⟩
  ·subst e
   obtain rfl:=Ii.mp (l1.symm.trans rfl)
   exact k _ _ [] _ (hA.drop2.pushI (.tup hb zb rb)) p
  ·subst e
   obtain rfl:=Ii.mp (l2.symm.trans rfl)
   rw[Dg] at p
   exact k _ _ [] _ (hA.drop2.pushI (.tup ha za ra)) p
  ·have s1:=Eo hq (.tup (xs++ys))
   exact k _ _ [] _ ((hA.drop2.grow s1 (Ah _)).pushI (.tup Ct (by rw[Ax]; exact aA (by omega)) ((ra.app rb).kp (Kp.of s1)))) p
 ·exact hd.elim
end
section
variable{X:Cx}{a b:Expr}{da db:DE}{pos:Pos}
theorem eJ(ha:Fe X a da)(hb:Fe X b db):Fe X (.BinOp a .Add b pos) (Wx mJ da db):=Tt jT N5 ha hb
theorem cQ(ha:Fe X a da)(hb:Fe X b db):Fe X (.BinOp a .Add b pos) (Wx dY da db):=Tt yE zY ha hb
end
abbrev DO:=DS->(Option Int->DS->Prop)->Prop
def LO(K:PySem.W.Frag)(do_:DO):TO:=λσ H Q=>∃(H0:Hp) (X:Addr->Prop) (S T:List Ent) (δ:DS) (P:Option Int->DS->Prop),vs S=σ/\Sl S δ/\At K H0 X δ.n (S++T) H/\do_ δ P /\
 ∀o δ' S' H',vs S'=σ->Sl S' δ'->At K H0 X δ'.n (S'++T) H'->P o δ'->Q o H'
abbrev Q9(X:Cx)(e:Option Expr)(d:DO):Prop:=PO X e (LO X.K d)
theorem PO.imp{X:Cx}{e:Option Expr}{t t':TO}(h:PO X e t)(k:∀σ H Q,t' σ H Q->t σ H Q):PO X e t':=λpins s σ H Q I q=>h pins s σ H Q I (k σ H Q q)
def mL:DO:=λδ P=>P none δ
def A0(de:DE):DO:=λδ P=>de δ λx δ'=>match x with
 | .dat _ (.int i)=>P (some i) δ'
 | _=>False
section
variable{X:Cx}{e:Expr}{de:DE}{lo hi:Option Expr}{dl dh:DO}{pos p2:Pos}
theorem Xy:Q9 X none mL:=by
 refine PO.imp yU λσ H Q h=>?_
 obtain ⟨H0,Y,S,T,δ,P,rfl,hS,hA,hd,k⟩:=h
 exact k _ δ S H rfl hS hA hd
theorem Ym(h:Fe X e de):Q9 X (some e) (A0 de):=by
 refine PO.imp (yM h) λσ H Q h=>?_
 obtain ⟨H0,Y,S,T,δ,P,rfl,hS,hA,hd,k⟩:=h
 refine ⟨H0,Y,S,T,δ,_,rfl,hS,hA,hd,λx δ' v F S' H' e1 e2 hA' p=>?_⟩
 split at p
 ·obtain ⟨rfl,_⟩:=(hA'.told mem_mid).int_inv
  exact ⟨_,rfl,k _ δ' S' H' e1 e2 hA'.drop p⟩
 ·exact p.elim
def DY(i:Bool)(de:DE)(dl dh:DO):DE:=λδ P=>de δ λx δ1=>dl δ1 λl δ2=>dh δ2 λh δ3=>match x with
 | .dat m (.list ds)=>hW i m (Lr ds l h) λz=>P z δ3
 | .dat m (.tuple ds)=>uR i m (Lr ds l h) λz=>P z δ3
 | _=>False
def CW(K:PySem.W.Frag):V->Option Int->Option Int->Hp->VK->Prop:=λx lo hi H Q=>F6 K x lo hi H Q\/u3 x lo hi H Q
theorem fO{i:Bool}(he:Fe X e de)(hl:Q9 X lo dl)(hh:Q9 X hi dh):Fe X (.Subscript e (.Slice lo hi none p2) pos) (DY i de dl dh):=by
 refine PE.imp (iC (r:=CW X.K) (zK.or yZ) he hl hh) λσ H Q h=>?_
 obtain ⟨H0,Y,S,T,δ,P,rfl,hS,hA,hd,k⟩:=h
 refine ⟨H0,Y,S,T,δ,_,rfl,hS,hA,hd,λx δ1 v F S1 H1 e1 e2 hA1 p1=>?_⟩
 refine ⟨H0,Y,S1,⟨some v,x,F⟩::T,δ1,_,e1,e2,hA1,p1,λl δ2 S2 H2 e3 e4 hA2 p2=>?_⟩
 refine ⟨H0,Y,S2,⟨some v,x,F⟩::T,δ2,_,e3,e4,hA2,p2,λh δ3 S3 H3 e5 e6 hA3 p3=>?_⟩
 split at p3
 ·obtain ⟨a,xs,G,rfl,ha,ra,rfl,hz⟩:=(hA3.told mem_mid).list_inv
  refine .inl ⟨a,xs,rfl,Ov.of ha,λp hp=>?_⟩
  obtain ⟨G',h1,h2⟩:=ra.cut l h
  obtain ⟨z,F',hA4,p4⟩:=hA3.newL h1 (h2.trans (Ea _ _)) (Cf (Zp _ _ _).length_le hz) hp p3
  exact k z δ3 _ F' S3 _ e5 e6 hA4 p4
 ·obtain ⟨a,xs,rfl,ha,ra,hz⟩:=(hA3.told mem_mid).tup_inv
  refine .inr ⟨a,xs,rfl,ha,λp H' hp s1=>?_⟩
  obtain ⟨G',h1,h2⟩:=ra.cut l h
  obtain ⟨z,F',hA4,p4⟩:=(hA3.grow s1 (Ah _)).oldT (h1.kp (Kp.of s1)) h2 (Cf (Zp _ _ _).length_le hz) hp p3
  exact k z δ3 _ F' S3 _ e5 e6 hA4 p4
 ·exact p3.elim
end
end DL
namespace NdS
open PySem PyProof.Rows
end NdS
namespace Nd
open PySem PySem.Spec PyProof.Rows L2 NdS
end Nd
namespace DL
open PySem L2 Nd
def V8(x:Int):List Int->List Int
 | []=>[x]
 | y::l=>if x<y then x::y::l else if x=y then y::l else y::V8 x l
def N0(ns:List Int):List Int:=ns.foldr V8 []
abbrev DC:=List DV->(DV->Prop)->Prop
def Wm(K:PySem.W.Frag)(r:List V->Hp->VK->Prop)(rd:DC):Prop:=∀(H0:Hp) (X:Addr->Prop) (n:Nat) (S T As:List Ent) (us:List V) (H:Hp) (Q:VK) (P:DV->Prop),
 As.map Ent.v=us.map some->At K H0 X n (S++(As++T)) H->rd (As.map Ent.x) P->(∀z u F' H',At K H0 X n (S++⟨some u,z,F'⟩::T) H'->P z->Q u H')->r us H Q
def CH(rd:DC)(da:DA):DE:=λδ P=>da δ λxs δ1=>rd xs λz=>P z δ1
section
variable{X:Cx}{x:Str}{p pos:Pos}{e:Expr}{es:List Expr}{da:DA}{id T:String}{r:List V->Hp->VK->Prop}{rd:DC}
theorem R4{K:PySem.W.Frag}(o:Wm K r rd):∀σ H Q,LE K (CH rd da) σ H Q->CG r (LA K da) σ H Q:=by
 intro σ H Q h
 obtain ⟨H0,Y,S,T,δ,P,rfl,hS,hA,hd,k⟩:=h
 refine ⟨H0,Y,S,T,δ,_,rfl,hS,hA,hd,λxs δ' As us S' H' e1 e2 ex eu hA' p=>?_⟩
 subst ex
 exact o H0 Y δ'.n S' T As us H' Q _ eu hA' p λz u F' H'' hA3 p3=>k z δ' u F' S' H'' e1 e2 hA3 p3
theorem Eg(hc:Kx X (.builtin id) r)(o:Wm X.K r rd)(hg:Gl X x)(hm:X.mg x=none)(hv:Kr x=some (.builtin id))(ha:jY X (e::es) da)(hn:x ≠ "__name__" := by decide)(hdb:(x == ("__debug__" : Str))=false:=by decide)(he:Bn (e::es) X.env=(false,eval e X.env)::Bn es X.env:=by rfl)(hpl:(Hx pos (Bn es X.env)).any (·.1)=false:=by rfl):Fe X (.Call (.Name x p) (e::es) [] pos) (CH rd da) :=
 PE.imp (Ue hc hg hm hv ha hn hdb he hpl) (R4 o)
end
theorem K5{α β:Type}{f:α->β}{l:List α}{x:β}(h:l.map f=[x]):∃a,l=[a]/\f a=x:=by
 cases l with
 | nil=>cases h
 | cons a t =>
  obtain ⟨h1,h2⟩:=Lj h
  exact ⟨a,by rw[List.map_eq_nil_iff.mp h2],h1⟩
theorem X7{α β:Type}{f:α->β}{l:List α}{x y:β}(h:l.map f=[x,y]):∃a b,l=[a,b]/\f a=x/\f b=y:=by
 cases l with
 | nil=>cases h
 | cons a t =>
  obtain ⟨h1,h2⟩:=Lj h
  obtain ⟨b,rfl,h3⟩:=K5 h2
  exact ⟨a,b,rfl,h1,h3⟩
theorem Lm{K:PySem.W.Frag}{H0 H:Hp}{X:Addr->Prop}{n:Nat}{S T As:List Ent}{us:List V}{x:DV}(eu:As.map Ent.v=us.map some)(hA:At K H0 X n (S++(As++T)) H)(ex:As.map Ent.x=[x]):∃v F,us=[v]/\At K H0 X n (S++⟨some v,x,F⟩::T) H:=by
 obtain ⟨⟨v,y,F⟩,rfl,h1⟩:=K5 ex
 obtain ⟨u,rfl,h2⟩:=K5 eu.symm
 have h1':y=x:=h1
 have h2':some u=v:=h2
 subst h1' h2'
 exact ⟨u,F,rfl,hA⟩
theorem Ql{K:PySem.W.Frag}{H0 H:Hp}{X:Addr->Prop}{n:Nat}{S T As:List Ent}{us:List V}{x y:DV}(eu:As.map Ent.v=us.map some)(hA:At K H0 X n (S++(As++T)) H)(ex:As.map Ent.x=[x,y]):∃v F w G,us=[v,w]/\At K H0 X n (S++⟨some v,x,F⟩::⟨some w,y,G⟩::T) H:=by
 obtain ⟨⟨v,x',F⟩,⟨w,y',G⟩,rfl,h1,h2⟩:=X7 ex
 obtain ⟨u,u',rfl,h3,h4⟩:=X7 eu.symm
 have h1':x'=x:=h1
 have h2':y'=y:=h2
 have h3':some u=v:=h3
 have h4':some u'=w:=h4
 subst h1' h2' h3' h4'
 exact ⟨u,F,u',G,rfl,hA⟩
def iT:DC:=λxs P=>match xs with
 | [.dat _ (.list ds)]=>P (.dat .ow (.int ds.length))
 | [.dat _ (.tuple ds)]=>P (.dat .ow (.int ds.length))
 | [.dat _ (.str z)]=>z.length<=1000000/\P (.dat .ow (.int z.length))
 | _=>False
def kZ:DC:=λxs P=>match xs with
 | [.dat _ (.int i),.dat _ (.int j)]=>P (.dat .ow (.int (if j > i then j else i)))
 | _=>False
def kJ:DC:=λxs P=>match xs with
 | [.dat _ (.int i),.dat _ (.int j)]=>P (.dat .ow (.int (if j<i then j else i)))
 | _=>False
def CA:DC:=λxs P=>match xs with
 | [.dat _ (.list ds)]=>∃ns:List Int,ds=ns.map Br/\ns≠[]/\∀M∈ns,(∀x∈ns,M<=x)->P (.dat .ow (.int M))
 | _=>False
def vQ:DC:=λxs P=>match xs with
 | [.dat _ (.list ds)]=>∃bs:List Bool,ds=bs.map PyData.bool/\P (.dat .ow (.bool (bs.all id)))
 | _=>False
def zD:Af->String
 | .none => "NoneType"
 | .bool _ => "bool"
 | .int _ => "int"
 | .str _ => "str"
 | .list _ => "list"
 | .tuple _ => "tuple"
 | .dict _ => "dict"
def Vq(d:Af)(n:String):Bool:=zD d == n || (zD d == "bool" && n == "int")
def vY:DC:=λxs P=>match xs with
 | [.dat _ d,.val (.ty n)]=>(n = "int" \/ n = "bool" \/ n = "str" \/ n = "list" \/ n = "tuple")/\P (.dat .ow (.bool (Vq d n)))
 | _=>False
section
variable{K:PySem.W.Frag}
theorem Nb:Wm K (λxs H Q=>∃x n,xs=[x]/\U3 K x H n/\Q (.int n) H) iT:=by
 intro H0 X n S T As us H Q P eu hA hd k
 unfold iT at hd
 split at hd
 ·rename_i ex
  obtain ⟨v,F,rfl,hA⟩:=Lm eu hA ex
  obtain ⟨a,xs,G,rfl,ha,ra,_,_⟩:=(hA.told mem_mid).list_inv
  exact ⟨_,_,rfl,.inl ⟨xs,Ov.of ha,ra.len.symm⟩,k _ _ [] H (hA.drop.pushI (.int _)) hd⟩
 ·rename_i ex
  obtain ⟨v,F,rfl,hA⟩:=Lm eu hA ex
  obtain ⟨a,xs,rfl,ha,ra,_⟩:=(hA.told mem_mid).tup_inv
  exact ⟨_,_,rfl,.inr ⟨xs,Tg.of ha,ra.len.symm⟩,k _ _ [] H (hA.drop.pushI (.int _)) hd⟩
 ·rename_i ex
  obtain ⟨v,F,rfl,hA⟩:=Lm eu hA ex
  obtain ⟨rfl,_⟩:=(hA.told mem_mid).str_inv
  exact ⟨_,_,rfl,⟨aA hd.1,rfl⟩,k _ _ [] H (hA.drop.pushI (.int _)) hd.2⟩
 ·exact hd.elim
theorem j4:Wm K (λxs H Q=>∃i j,xs=[V.int i,V.int j]/\Q (.int (if j > i then j else i)) H) kZ:=by
 intro H0 X n S T As us H Q P eu hA hd k
 unfold kZ at hd
 split at hd
 ·rename_i ex
  obtain ⟨v,F,w,G,rfl,hA⟩:=Ql eu hA ex
  obtain ⟨rfl,_⟩:=(hA.told mem_mid).int_inv
  obtain ⟨rfl,_⟩:=(hA.told Fq).int_inv
  exact ⟨_,_,rfl,k _ _ [] H (hA.drop2.pushI (.int _)) hd⟩
 ·exact hd.elim
theorem oF:Wm K (λxs H Q=>∃i j,xs=[V.int i,V.int j]/\Q (.int (if j<i then j else i)) H) kJ:=by
 intro H0 X n S T As us H Q P eu hA hd k
 unfold kJ at hd
 split at hd
 ·rename_i ex
  obtain ⟨v,F,w,G,rfl,hA⟩:=Ql eu hA ex
  obtain ⟨rfl,_⟩:=(hA.told mem_mid).int_inv
  obtain ⟨rfl,_⟩:=(hA.told Fq).int_inv
  exact ⟨_,_,rfl,k _ _ [] H (hA.drop2.pushI (.int _)) hd⟩
 ·exact hd.elim
theorem G4:Wm K (λxs H Q=>∃(p:Addr) (bs:List Bool),xs=[.ref p]/\Ov K H p (bs.map V.bl)/\Q (.bl (bs.all id)) H) vQ:=by
 intro H0 X n S T As us H Q P eu hA hd k
 unfold vQ at hd
 split at hd
 ·rename_i ex
  obtain ⟨v,F,rfl,hA⟩:=Lm eu hA ex
  obtain ⟨bs,rfl,h1⟩:=hd
  obtain ⟨a,xs,G,rfl,ha,ra,rfl,hz⟩:=(hA.told mem_mid).list_inv
  obtain ⟨rfl,_⟩:=ra.bools_inv
  exact ⟨a,bs,rfl,Ov.of ha,k _ _ [] H (hA.drop.pushI (.bl _)) h1⟩
 ·exact hd.elim
theorem zL{T n:String}{b:Bool}(h1:(Eh T == Eh n)=false)(h2:PySem.W.kitMeta n=true)(h3:(fastBuiltinMro T).map (λx=>x.contains (Eh n))=some b):PySem.W.kitOne K (.type T) (.type n)=some b:=F8 h1 h2 h3
theorem zX{d:Af}{n:String}(hn:n = "int" \/ n = "bool" \/ n = "str" \/ n = "list" \/ n = "tuple"):PySem.W.kitOne K (.type (zD d)) (.type n)=some (Vq d n):=by
 have main:∀T:String,(T = "NoneType" \/ T = "bool" \/ T = "int" \/ T = "str" \/ T = "list" \/ T = "tuple" \/ T = "dict")->PySem.W.kitOne K (.type T) (.type n)=some (T == n || (T == "bool" && n == "int")):=by
  intro T hT
  rcases hT with rfl | rfl | rfl | rfl | rfl | rfl | rfl <;> rcases hn with rfl | rfl | rfl | rfl | rfl <;> first | exact F4 | exact zL (by decide +kernel) (by decide +kernel) (by decide +kernel)
 unfold Vq
 refine main _ ?_
 cases d <;> simp [zD]
theorem Qk:Wm K (EC K) vY:=by
 intro H0 X n S T As us H Q P eu hA hd k
 unfold vY at hd
 split at hd
 ·rename_i ex
  obtain ⟨v,F,w,G,rfl,hA⟩:=Ql eu hA ex
  have hw:w=.ty _:=Bz (hA.ok _ Fq).1
  subst hw
  have r:=hA.told mem_mid
  refine ⟨v,_,.type (zD _),_,rfl,?_,zX hd.1,k _ _ [] H (hA.drop2.pushI (.bl _)) hd.2⟩
  ·cases r with
   | non=>exact .non
   | bl b=>exact .bl b
   | int i=>exact .int i
   | str x=>exact .str x
   | lst h l hs=>exact .lst h
   | tup h l hs=>exact .tup h
   | dic h e hs=>exact .dT h
   | dik h e hs=>exact .dK h
   | dnm h e hs=>exact .dT h
 ·exact hd.elim
end
def dV(v:V):DE:=λδ P=>P (.val v) δ
section
variable{X:Cx}{e:Expr}
theorem K7{v:V}(h:PE X e (tC v)):Fe X e (dV v):=by
 refine PE.imp h λσ H Q h=>?_
 obtain ⟨H0,Y,S,T,δ,P,rfl,hS,hA,hd,k⟩:=h
 exact k _ δ v [] S H rfl hS ((hA.push (e:=⟨some v,.val v,[]⟩) ⟨rfl,rfl⟩ (λf _=>⟨λ_ a ha=>(nomatch ha),λ_ a _=>Bk⟩) (λa ha=>(nomatch ha))).tomid) hd
theorem Wh{x:Str}{n:String}{pos:Pos}(hg:Gl X x)(hm:X.mg x=none)(hv:Kr x=some (.type n))(hn:x ≠ "__name__" := by decide)(hd:(x == ("__debug__" : Str))=false:=by decide):Fe X (.Name x pos) (dV (.ty n)):=K7 (q8 hg hm hv rfl hn hd)
end
end DL
namespace Nd
open PySem PySem.Spec PyProof.Rows L2
def BI(K:PySem.W.Frag)(a b:Addr):It :=
  ⟨λi H=>∃xs ys x y,Ov K H a xs/\Ov K H b ys/\xs[i]? = some x/\ys[i]? = some y,
   λi H x H'=>∃p u v,x=.ref p/\H p=none/\H'=upd H p (.tup [u,v])/\(∀xs,Ov K H a xs->xs[i]? = some u)/\∀ys,Ov K H b ys->ys[i]? = some v,
   λi H=>∃xs ys,Ov K H a xs/\Ov K H b ys/\(xs.length<=i\/ys.length<=i)⟩
theorem sO{P:Bj}{w:World}{K:PySem.W.Frag}{elts:List Expr}{k:Nat}{pos:Pos}(a b z TI TO i1 i2:Addr)(D:ZipApart z TI TO i1 i2 a b):Turn P w K (.Tuple elts k pos) (BI K a b) [z,TI,TO,i1,i2] z (λi h=>IsZip h z TI TO .none/\IsPair h TI (.ref i1) (.ref i2)/\(∃u v,IsPair h TO u v)/\h.IsListIter i1 a i/\h.IsListIter i2 b i) where
 mem:=Aa
 obj:=λi h st c hc=>by
  obtain ⟨hz,hTI,⟨u,v,hTO⟩,⟨o1,e1,c1,d1⟩,⟨o2,e2,c2,d2⟩⟩:=st
  simp only[Am,Bk,or_false] at hc
  rcases hc with rfl | rfl | rfl | rfl | rfl
  ·exact ⟨_,hz,λv z=>by cases z⟩
  ·exact ⟨_,hTI,λv z=>by cases z⟩
  ·exact ⟨_,hTO,λv z=>by cases z⟩
  ·exact ⟨o1,e1,λv z=>by rw[d1] at z; cases z⟩
  ·exact ⟨o2,e2,λv z=>by rw[d2] at z; cases z⟩
 keep:=λi h h' st kp=>by
  obtain ⟨hz,hTI,⟨u,v,hTO⟩,h1,h2⟩:=st
  exact ⟨kp z (by simp) _ hz,kp TI (by simp) _ hTI,⟨u,v,kp TO (by simp) _ hTO⟩,h1.at λo q=>kp i1 (by simp) o q,h2.at λo q=>kp i2 (by simp) o q⟩
 item:=by
  intro X hP hw hK hc i pins s σ H E I hf st hg
  subst hP hw hK
  obtain ⟨xs,ys,x,y,hq1,hq2,hx,hy⟩:=hg
  obtain ⟨its1,rv1,p1,hz1⟩:=I.list hq1
  obtain ⟨its2,rv2,p2,hz2⟩:=I.list hq2
  obtain ⟨u1,hu1,ru1⟩:=rv1.get hx
  obtain ⟨u2,hu2,ru2⟩:=rv2.get hy
  obtain ⟨hz,hTI,⟨o1,o2,hTO⟩,hi1,hi2⟩:=st
  have zl:z<s.heap.objs.size:=Aw hz
  have TIl:TI<s.heap.objs.size:=Aw hTI
  have TOl:TO<s.heap.objs.size:=Aw hTO
  have i1l:i1<s.heap.objs.size:=by obtain ⟨_,q,_⟩:=hi1; exact Aw q
  have i2l:i2<s.heap.objs.size:=by obtain ⟨_,q,_⟩:=hi2; exact Aw q
  refine wpAny_pyNext_zip_item D hz hTI hTO hi1 hi2 p1.isList p2.isList (x:=u1) (y:=u2) (by simpa using hu1) (by simpa using hu2) λh1 a1 a2 a3 a4 a5 a6 hk=>⟨_,rfl,wpAny_letOwnedTupleGo_zip a1 λh2 he2 hs2=>?_⟩
  have hs2':Iv z h1 h2:=hs2
  have I1:Inv X pins σ (upd H s.heap.objs.size (.tup [x,y])) { s with heap:=s.heap.push { cls:=.type "tuple",data:=.seq #[u1,u2] } } :=
   I.laid (t':=s.toks) (λb o q=>Ak _ q) (Ah _) ⟨by show 2<=Bd; decide,[u1,u2],.cons ru1 (.cons ru2 .nil),_,Be _ rfl,rfl,0,rfl⟩
  have nT:∀c∈[z,TI,TO,i1,i2],c≠s.heap.objs.size:=λc hc=>by
   simp only[Am,Bk,or_false] at hc
   rcases hc with rfl | rfl | rfl | rfl | rfl <;> exact Ce (by assumption)
  have fr:∀c∈[z,TI,TO,i1,i2],(upd H s.heap.objs.size (.tup [x,y])) c=none:=λc hc=>by rw[Ej (nT c hc)]; exact (hf c hc).1
  refine ⟨.ref s.heap.objs.size,_,Ph (fp:=[z,TI,TO,i1,i2]) (s:={ s with heap:=s.heap.push { cls:=.type "tuple",data:=.seq #[u1,u2] } }) (h':=h2) (t':=s.toks) I1 (λc o hc q=>?_) (λc hc=>⟨fr c hc,(hf c hc).2⟩),rfl,⟨_,x,y,rfl,I.hok.fresh (Ah _),rfl,(λzs hzs=>by rw[I.list_inj hzs hq1]; exact hx),λzs hzs=>by rw[I.list_inj hzs hq2]; exact hy⟩,⟨he2,?_,⟨u1,u2,?_⟩,?_,?_⟩,fr⟩
  ·simp only[Am,Bk,or_false,not_or] at hc
   refine (hs2'.2 c hc.1).trans ?_
   by_cases hbT:c=s.heap.objs.size
   ·subst hbT
    have q':=(Be s.heap (o:={ cls:=.type "tuple",data:=.seq #[u1,u2] }) rfl).symm.trans q
    rw[show h1.get? s.heap.objs.size=_ from a5]
    exact q'
   ·refine hk c o hc.1 hc.2.2.1 hc.2.2.2.1 hc.2.2.2.2 ?_
    have q0:(s.heap.push { cls:=.type "tuple",data:=.seq #[u1,u2] }).get? c=some o:=q
    rcases Heap.get?_push_cases q0 with zz | zz
    ·exact absurd zz.1 hbT
    ·exact zz
  ·exact (hs2'.2 TI D.TIz).trans (hk TI _ D.TIz D.TITO D.TIi1 D.TIi2 hTI)
  ·exact (hs2'.2 TO D.TOz).trans a2
  ·exact a3.at λo q=>(hs2'.2 i1 D.i1z).trans q
  ·exact a4.at λo q=>(hs2'.2 i2 D.i2z).trans q
 done:=by
  intro X hP hw hK hc i pins s σ H E I hf st hg
  subst hP hw hK
  obtain ⟨xs,ys,hq1,hq2,hx⟩:=hg
  obtain ⟨its1,rv1,p1,hz1⟩:=I.list hq1
  obtain ⟨its2,rv2,p2,hz2⟩:=I.list hq2
  obtain ⟨hz,hTI,⟨o1,o2,hTO⟩,hi1,hi2⟩:=st
  have hl1:=rv1.length
  have hl2:=rv2.length
  refine wpAny_pyNext_zip_end (I.ok.hd hc) D hz hTI hTO hi1 hi2 p1.isList p2.isList ?_ λh1 hk=>⟨rfl,Ph (fp:=[z,TI,TO,i1,i2]) (t':=s.toks) I (λc o hc q=>?_) hf⟩
  ·rcases hx with h | h
   ·exact .inl (by simp; omega)
   ·exact .inr (by simp; omega)
  ·simp only[Am,Bk,or_false,not_or] at hc
   exact hk c o hc.1 hc.2.2.1 hc.2.2.2.1 hc.2.2.2.2 q
 self:=λ_ _ _ _ _ st h=>wpAny_pyIter_zip st.1 h
theorem pB(I l1 l2:Nat)(h1:l1<I)(h2:l2<I):ZipApart (I+4) (I+2) (I+3) I (I+1) l1 l2:=by
 constructor <;> (intro e; have e':(_:Nat)=_:=e; omega)
section
variable{X:Cx}
def BH(K:PySem.W.Frag)(ta:TA):TI:=λσ H R=>ta σ H λvs H1=>∃a b,vs=[.ref a,.ref b]/\(∃xs,Ov K H1 a xs)/\(∃ys,Ov K H1 b ys)/\R (BI K a b) H1
theorem K2{elts:List Expr}{k:Nat}{tp:Pos}{a b:Expr}{ta:TA}{p pos:Pos}(hg:Gl X "zip")(hm:X.mg "zip" = none)(ha:PA X [a,b] ta)(hs:Bn [a,b] X.env=(false,eval a X.env)::Bn [b] X.env:=by rfl)(hp:(Hx pos (Bn [b] X.env)).any (·.1)=false:=by rfl):PI X (.Tuple elts k tp) (.Call (.Name "zip" p) [a,b] [] pos) (BH X.K ta):=by
 intro pins s σ H R I h
 refine Call_ (Sm I hg hm (u:=.type "zip") (by decide +kernel) (Gh (Fv (ha pos pins s σ H _ I h) λus s1 ⟨vs,H1,I1,r1,q1⟩=>?_) hs hp))
 obtain ⟨l1,l2,e,⟨xs,hq1⟩,⟨ys,hq2⟩,q⟩:=q1
 subst e
 obtain ⟨u1,u2,rfl,ru1,ru2⟩:=vals2 r1
 cases ru1
 cases ru2
 obtain ⟨its1,rv1,pl1,hz1⟩:=I1.list hq1
 obtain ⟨its2,rv2,pl2,hz2⟩:=I1.list hq2
 have hlt1:l1<s1.heap.objs.size:=let ⟨o,q,_⟩:=pl1.isList; Aw q
 have hlt2:l2<s1.heap.objs.size:=let ⟨o,q,_⟩:=pl2.isList; Aw q
 refine call_zip_2 pl1.isList pl2.isList λh2 hz hTI hTO hi1 hi2 hsz hk=>wpAny_pyIter_zip hz ?_
 have fr1:∀n,Lw X pins H1 (s1.heap.objs.size+n):=λn=>I1.fpOk (aD _ _) (I1.hok.fresh (aD _ _))
 have fr:∀c∈[s1.heap.objs.size+4,s1.heap.objs.size+2,s1.heap.objs.size+3,s1.heap.objs.size,s1.heap.objs.size+1],Lw X pins H1 c:=λc hc=>by
  simp only[Am,Bk,or_false] at hc
  rcases hc with rfl | rfl | rfl | rfl | rfl
  ·exact fr1 4
  ·exact fr1 2
  ·exact fr1 3
  ·exact fr1 0
  ·exact fr1 1
 exact ⟨s1.heap.objs.size+4,_,_,_,H1,rfl,I1.kept (t':=s1.toks) hk,sO l1 l2 _ _ _ _ _ (pB _ _ _ hlt1 hlt2),⟨hz,hTI,⟨_,_,hTO⟩,hi1,hi2⟩,fr,q⟩
end
end Nd
namespace Nd
open PySem PySem.Spec PyProof.Rows L2
open AutoSeq1 (wpAny_loadPart')
end Nd
namespace DL
open PySem L2 Nd
def dB(de:DE):DT:=λδ P=>de δ λx δ'=>match x with
 | .dat _ (.bool b)=>P b δ'
 | _=>False
def yL:Af->Bool
 | .none=>false
 | .bool b=>b
 | .int i=>i != 0
 | .str s=>(s.length:Int) != 0
 | .list ds=>!ds.isEmpty
 | .tuple ds=>!ds.isEmpty
 | .dict _=>true
def S7:Af->Prop
 | .str s=>s.length<=1000000
 | .dict _=>False
 | _=>True
def K6(de:DE):DT:=λδ P=>de δ λx δ'=>match x with
 | .dat _ d=>S7 d/\P (yL d) δ'
 | _=>False
def B2(dt:DT):DT:=λδ P=>dt δ λb δ'=>P (!b) δ'
def x3(dt du:DT):DT:=λδ P=>dt δ λb δ'=>match b with
 | true=>du δ' P
 | false=>P false δ'
def R7(dt du:DT):DT:=λδ P=>dt δ λb δ'=>match b with
 | true=>P true δ'
 | false=>du δ' P
def W4(de:DE):DE:=λδ P=>de δ λx δ'=>match x with
 | .dat _ (.bool b)=>P (.dat .ow (.bool (!b))) δ'
 | _=>False
def R0(da db:DE):DE:=λδ P=>da δ λx δ'=>match x with
 | .dat _ (.bool true)=>db δ' P
 | .dat _ (.bool false)=>P (.dat .ow (.bool false)) δ'
 | _=>False
def W5(dt:DT)(da db:DE):DE:=λδ P=>dt δ λb δ'=>match b with
 | true=>da δ' P
 | false=>db δ' P
def Y3(de:DE):DE:=λδ P=>de δ λx δ'=>match x with
 | .dat _ (.int i)=>P (.dat .ow (.int (-i))) δ'
 | _=>False
section
variable{K:PySem.W.Frag}{de:DE}
theorem Z1:∀σ H Q,LT K (dB de) σ H Q->LE K de σ H λx H'=>∃k,x=.bl k/\Q k H':=by
 intro σ H Q h
 obtain ⟨H0,Y,S,T,δ,P,rfl,hS,hA,hd,k⟩:=h
 refine ⟨H0,Y,S,T,δ,_,rfl,hS,hA,hd,λx δ1 v F S1 H1 e1 e2 hA1 p1=>?_⟩
 split at p1
 ·obtain ⟨rfl,_⟩:=(hA1.told mem_mid).bl_inv
  exact ⟨_,rfl,k _ δ1 S1 H1 e1 e2 hA1.drop p1⟩
 ·exact p1.elim
theorem G8{H:Hp}{v:V}{d:Af}{F:List Addr}(r:RdF K H v d F)(h:S7 d):yO K v H (yL d):=by
 cases r with
 | non=>rfl
 | bl b=>rfl
 | int i=>rfl
 | str x=>exact ⟨aA h,rfl⟩
 | lst e l hs =>
  refine .inl ⟨_,Ov.of e,?_⟩
  have:=hs.len
  rename_i xs ds G
  cases xs <;> cases ds <;> first | rfl | cases this
 | tup e l hs =>
  refine .inr (.inl ⟨_,Tg.of e,?_⟩)
  have:=hs.len
  rename_i xs ds
  cases xs <;> cases ds <;> first | rfl | cases this
 | dic _ _ _=>exact h.elim
 | dik _ _ _=>exact h.elim
 | dnm _ _ _=>exact h.elim
theorem P1:∀σ H Q,LT K (K6 de) σ H Q->LE K de σ H λx H'=>∃k,yO K x H' k/\Q k H':=by
 intro σ H Q h
 obtain ⟨H0,Y,S,T,δ,P,rfl,hS,hA,hd,k⟩:=h
 refine ⟨H0,Y,S,T,δ,_,rfl,hS,hA,hd,λx δ1 v F S1 H1 e1 e2 hA1 p1=>?_⟩
 split at p1
 ·exact ⟨_,G8 (hA1.told mem_mid) p1.1,k _ δ1 S1 H1 e1 e2 hA1.drop p1.2⟩
 ·exact p1.elim
end
section
variable{X:Cx}{a b c e:Expr}{da db de:DE}{dt du:DT}{pos:Pos}{Fb:List Expr}
theorem Lf(h:Fe X e de)(he:∀whole,isTrue e X.env whole=(do let v <- whole; Qv e.pos; Qx [v] (truthy v)):=by intro _; rfl):aR X e (dB de):=PT.imp (sZ h he) Z1
theorem Sz{op:CmpOp}{r:R2}{rd:D2}(ho:Vj X (Hi op) r)(o:oU X.K r rd)(ha:Fe X a da)(hb:Fe X b db)(hm:Gk op b=false):aR X (.Compare a [op] [b] pos) (dB (Wx rd da db)):=by
 refine PT.imp (zZ ho ha hb hm) λσ H Q h=>?_
 exact nS o _ _ _ (Z1 σ H Q h)
theorem iI(ha:Fe X a da)(hb:Fe X b db):aR X (.Compare a [.Lt] [b] pos) (dB (Wx rdLt da db)):=Sz V1 (gD λ_ _ _=>.bl _) ha hb (Qd _)
theorem Y8(ha:Fe X a da)(hb:Fe X b db):aR X (.Compare a [.Gt] [b] pos) (dB (Wx BS da db)):=Sz T5 (gD λ_ _ _=>.bl _) ha hb (Qd _)
theorem vC(ha:Fe X a da)(hb:Fe X b db):aR X (.Compare a [.GtE] [b] pos) (dB (Wx rdGe da db)):=Sz B9 (gD λ_ _ _=>.bl _) ha hb (Qd _)
theorem AF(hu:X.A.units+64<cLine)(ha:Fe X a da)(hb:Fe X b db):aR X (.Compare a [.Eq] [b] pos) (dB (Wx (cM false) da db)):=Sz (wJ hu) B4 ha hb (Qd _)
theorem Um(hu:X.A.units+64<cLine)(ha:Fe X a da)(hb:Fe X b db):aR X (.Compare a [.NotEq] [b] pos) (dB (Wx (cM true) da db)):=Sz (E1 hu) AL ha hb (Qd _)
theorem sS(hu:X.A.units+64<cLine)(ha:Fe X a da)(hb:Fe X b db)(hm:Gk .NotIn b=false:=by with_unfolding_all rfl):aR X (.Compare a [.NotIn] [b] pos) (dB (Wx (pJ true) da db)):=Sz (pU hu) u0 ha hb hm
theorem xN(ha:Fe X a da)(he:∀whole,isTrue a X.env whole=(do let v <- whole; Qv a.pos; Qx [v] (truthy v)):=by intro _; rfl):aR X a (K6 da):=PT.imp (uT ha he) P1
theorem Mx(h:aR X a dt):aR X (.UnaryOp .Not a pos) (B2 dt):=by
 refine PT.imp (E5 h) λσ H Q h=>?_
 obtain ⟨H0,Y,S,T,δ,P,rfl,hS,hA,hd,k⟩:=h
 exact ⟨H0,Y,S,T,δ,_,rfl,hS,hA,hd,λb δ' S' H' e1 e2 hA' p=>k _ δ' S' H' e1 e2 hA' p⟩
theorem n6(h:aR X a dt):Q2 X (.BoolOp .And [a] pos) dt:=r9 h
theorem Qo(h:aR X a dt):Q2 X (.BoolOp .Or [a] pos) dt:=L6 h
theorem O2(h:aR X a dt)(hb:Q2 X (.BoolOp .And (b::Fb) pos) du):Q2 X (.BoolOp .And (a::b::Fb) pos) (x3 dt du):=by
 refine PW.imp (O0 h hb) λσ H Q h=>?_
 obtain ⟨H0,Y,S,T,δ,P,rfl,hS,hA,hd,k⟩:=h
 refine ⟨H0,Y,S,T,δ,_,rfl,hS,hA,hd,λb δ' S' H' e1 e2 hA' p=>?_⟩
 cases b with
 | true=>exact qH ⟨H0,Y,S',T,δ',P,e1,e2,hA',p,k⟩
 | false=>exact qA (k _ δ' S' H' e1 e2 hA' p)
theorem Qu(h:aR X a dt)(hb:Q2 X (.BoolOp .Or (b::Fb) pos) du):Q2 X (.BoolOp .Or (a::b::Fb) pos) (R7 dt du):=by
 refine PW.imp (T1 h hb) λσ H Q h=>?_
 obtain ⟨H0,Y,S,T,δ,P,rfl,hS,hA,hd,k⟩:=h
 refine ⟨H0,Y,S,T,δ,_,rfl,hS,hA,hd,λb δ' S' H' e1 e2 hA' p=>?_⟩
 cases b with
 | true=>exact qH (k _ δ' S' H' e1 e2 hA' p)
 | false=>exact qA ⟨H0,Y,S',T,δ',P,e1,e2,hA',p,k⟩
theorem cP(h:Q2 X a dt):aR X a dt:=PW.pt h
theorem wK{op}(h:Fe X a da):Fe X (.BoolOp op [a] pos) da:=C3 h
theorem uM(h:Fe X a da)(hb:Fe X (.BoolOp .And (b::Fb) pos) db):Fe X (.BoolOp .And (a::b::Fb) pos) (R0 da db):=by
 refine PE.imp (M5 h hb) λσ H Q h=>?_
 obtain ⟨H0,Y,S,T,δ,P,rfl,hS,hA,hd,k⟩:=h
 refine ⟨H0,Y,S,T,δ,_,rfl,hS,hA,hd,λx δ1 v F S1 H1 e1 e2 hA1 p1=>?_⟩
 split at p1
 ·obtain ⟨rfl,_⟩:=(hA1.told mem_mid).bl_inv
  exact ⟨_,rfl,qH ⟨H0,Y,S1,T,δ1,P,e1,e2,hA1.drop,p1,k⟩⟩
 ·obtain ⟨rfl,_⟩:=(hA1.told mem_mid).bl_inv
  exact ⟨_,rfl,qA (k _ δ1 _ [] S1 H1 e1 e2 (hA1.drop.pushI (.bl _)) p1)⟩
 ·exact p1.elim
theorem F9(h:Fe X a da):Fe X (.UnaryOp .Not a pos) (W4 da):=by
 refine PE.imp (J5 h) λσ H Q h=>?_
 obtain ⟨H0,Y,S,T,δ,P,rfl,hS,hA,hd,k⟩:=h
 refine ⟨H0,Y,S,T,δ,_,rfl,hS,hA,hd,λx δ1 v F S1 H1 e1 e2 hA1 p1=>?_⟩
 split at p1
 ·obtain ⟨rfl,_⟩:=(hA1.told mem_mid).bl_inv
  exact ⟨_,rfl,k _ δ1 _ [] S1 H1 e1 e2 (hA1.drop.pushI (.bl _)) p1⟩
 ·exact p1.elim
theorem xM(h:Fe X a da):Fe X (.UnaryOp .USub a pos) (Y3 da):=by
 refine PE.imp (Y2 O4 h) λσ H Q h=>?_
 obtain ⟨H0,Y,S,T,δ,P,rfl,hS,hA,hd,k⟩:=h
 refine ⟨H0,Y,S,T,δ,_,rfl,hS,hA,hd,λx δ1 v F S1 H1 e1 e2 hA1 p1=>?_⟩
 split at p1
 ·obtain ⟨rfl,_⟩:=(hA1.told mem_mid).int_inv
  exact ⟨_,rfl,k _ δ1 _ [] S1 H1 e1 e2 (hA1.drop.pushI (.int _)) p1⟩
 ·exact p1.elim
theorem C9(hc:aR X c dt)(ha:Fe X a da)(hb:Fe X b db):Fe X (.IfExp c a b pos) (W5 dt da db):=by
 refine PE.imp (sW hc ha hb) λσ H Q h=>?_
 obtain ⟨H0,Y,S,T,δ,P,rfl,hS,hA,hd,k⟩:=h
 refine ⟨H0,Y,S,T,δ,_,rfl,hS,hA,hd,λb δ' S' H' e1 e2 hA' p=>?_⟩
 cases b with
 | true=>exact qH ⟨H0,Y,S',T,δ',P,e1,e2,hA',p,k⟩
 | false=>exact qA ⟨H0,Y,S',T,δ',P,e1,e2,hA',p,k⟩
end
theorem PS.impD{X:Cx}{st:Stmt}{t t':TS}(h:PS X st t)(k:∀D σ H,t' D σ H->t D σ H):PS X st t':=λpins s σ H D I q=>h pins s σ H D I (k D σ H q)
theorem lD.impD{X:Cx}{st:List Stmt}{t t':TS}(h:lD X st t)(k:∀D σ H,t' D σ H->t D σ H):lD X st t':=λpins s σ H D I q=>h pins s σ H D I (k D σ H q)
def A4:DB:=λD δ=>D.nx δ
def N7(t u:DB):DB:=λD δ=>t { D with nx:=λδ'=>u D δ' } δ
def W3(de:DE):DB:=λD δ=>de δ D.rt
def DQ(dt:DT)(t u:DB):DB:=λD δ=>dt δ λb δ'=>match b with
 | true=>t D δ'
 | false=>u D δ'
def kK(de:DE)(dg:DG):DB:=λD δ=>de δ λx δ'=>dg x δ' D.nx
def P0:DB:=λ_ _=>False
section
variable{X:Cx}{st:Stmt}{e tg c:Expr}{t u:DB}{Fb:List Stmt}{de:DE}{dg:DG}{dt:DT}{pos:Pos}
theorem Ju:aO X [] A4:=by
 refine lD.impD mI λD σ H h=>?_
 obtain ⟨H0,Y,S,T,δ,P,rfl,hS,hT,hA,hd,k1,k2,k3,k4⟩:=h
 exact k1 δ S H hS hA hd
theorem Ck(h1:iF X st t)(h2:aO X Fb u):aO X (st::Fb) (N7 t u):=by
 refine lD.impD (Jd h1 h2) λD σ H h=>?_
 obtain ⟨H0,Y,S,T,δ,P,rfl,hS,hT,hA,hd,k1,k2,k3,k4⟩:=h
 exact ⟨H0,Y,S,T,δ,_,rfl,hS,hT,hA,hd,λδ' S' H' e2 hA' p=>⟨H0,Y,S',T,δ',P,rfl,e2,hT,hA',p,k1,k2,k3,k4⟩,k2,k3,k4⟩
theorem Cw(h1:iF X st t):aO X [st] t:=Rr h1
theorem Er(he:Fe X e de):iF X (.Return (some e) pos) (W3 de):=by
 refine PS.impD (Zo he) λD σ H h=>?_
 obtain ⟨H0,Y,S,T,δ,P,rfl,hS,hT,hA,hd,k1,k2,k3,k4⟩:=h
 exact ⟨H0,Y,S,T,δ,_,rfl,hS,hA,hd,λx δ' v F S' H' e1 e2 hA' p=>k2 x δ' v F S' H' e2 hA' p⟩
theorem Lq{a b:List Stmt}(hc:aR X c dt)(ha:aO X a t)(hb:aO X b u):iF X (.If c a b pos) (DQ dt t u):=by
 refine PS.impD (x8 hc ha hb) λD σ H h=>?_
 obtain ⟨H0,Y,S,T,δ,P,rfl,hS,hT,hA,hd,k1,k2,k3,k4⟩:=h
 refine ⟨H0,Y,S,T,δ,_,rfl,hS,hA,hd,λb δ' S' H' e1 e2 hA' p=>?_⟩
 cases b with
 | true=>exact qH ⟨H0,Y,S',T,δ',P,e1,e2,hT,hA',p,k1,k2,k3,k4⟩
 | false=>exact qA ⟨H0,Y,S',T,δ',P,e1,e2,hT,hA',p,k1,k2,k3,k4⟩
theorem Yu{K:PySem.W.Frag}{te:TE}{g:TG}(h1:∀σ H Q,LE K de σ H Q->te σ H Q)(h2:∀v σ H Q,LG K dg v σ H Q->g v σ H Q):∀D σ H,LS K (kK de dg) D σ H->qD te g D σ H:=by
 intro D σ H h
 obtain ⟨H0,Y,S,T,δ,P,rfl,hS,hT,hA,hd,k1,k2,k3,k4⟩:=h
 refine h1 _ _ _ ⟨H0,Y,S,T,δ,_,rfl,hS,hA,hd,λx δ' v F S' H' e1 e2 hA' p=>?_⟩
 exact h2 _ _ _ _ ⟨H0,Y,S',T,δ',x,F,P.nx,e1,e2,hA',p,λδ2 S2 H2 e3 hA2 q=>k1 δ2 S2 H2 e3 hA2 q⟩
theorem O9(he:Fe X e de)(hg:Q6 X tg dg)(hs:swapsWithSole [tg] e pos.line X.env=pure false:=by rfl)(hw:swappedStores [tg] e X.env=pure none:=by rfl)(h1:(Jj [tg] X.env).map (·.2)=[Ka tg X.env]:=by rfl):iF X (.Assign [tg] e pos) (kK de dg):=PS.impD (jE he hg hs hw h1) (Yu (λ_ _ _ h=>h) λ_ _ _ _ h=>h)
theorem vH:iF X st P0:=by
 refine PS.impD vK λD σ H h=>?_
 obtain ⟨H0,Y,S,T,δ,P,rfl,hS,hT,hA,hd,_⟩:=h
 exact hd
end
def Qg(i:Nat):DG:=λx δ P=>match x with
 | .dat .pk _=>False
 | .dat _ d=>P ⟨δ.sl.set i (.dat .sh d),δ.n⟩
 | .val v=>P ⟨δ.sl.set i (.val v),δ.n⟩
 | .drw=>P ⟨δ.sl.set i .drw,δ.n⟩
 | .dT kvs=>P ⟨δ.sl.set i (.dT kvs),δ.n⟩
 | _=>False
def Yy(i:Nat):DG:=λx δ P=>match x with
 | .dat .ow d=>P ⟨δ.sl.set i (.dat .ow d),δ.n⟩
 | .dat .tp d=>P ⟨δ.sl.set i (.dat .tp d),δ.n⟩
 | _=>False
theorem At.store{K:PySem.W.Frag}{H0 H:Hp}{X:Addr->Prop}{n:Nat}{S T:List Ent}{e:Ent}{i:Nat}(h:At K H0 X n (S++e::T) H):At K H0 X n (S.set i e++T) H:=by
 by_cases hi:i<S.length
 ·have hx:S[i]? = some S[i]:=by simp [hi]
  have p:(S++e::T).Perm (S[i]::(S.set i e++T)):=by
   refine Ly.trans ?_
   rw[<- Fu,<- Fu]
   exact (Tp hx).append_right T
  exact (h.perm p).sub (Ea _ _)
 ·rw[List.set_eq_of_length_le (by omega)]
  exact h.drop
theorem jA{S:List Ent}{i:Nat}{v:V}{x:DV}{F:List Addr}:vs (S.set i ⟨some v,x,F⟩)=(vs S).set i (some v):=by
 unfold vs
 rw[Hn]
theorem kS{S:List Ent}{δ:DS}{i n:Nat}{v:V}{x:DV}{F:List Addr}(h:Sl S δ):Sl (S.set i ⟨some v,x,F⟩) ⟨δ.sl.set i x,n⟩:=by
 unfold Sl at h ⊢
 rw[Hn,h]
theorem dN{K:PySem.W.Frag}{i:Nat}:∀v σ H Q,LG K (Qg i) v σ H Q->Sg i v σ H Q:=by
 intro v σ H Q h
 obtain ⟨H0,Y,S,T,δ,x,F,P,rfl,hS,hA,hd,k⟩:=h
 show Q ((vs S).set i (some v)) H
 have fin:∀y,At K H0 Y δ.n (S++⟨some v,y,F⟩::T) H->P ⟨δ.sl.set i y,δ.n⟩->Q ((vs S).set i (some v)) H:=λy hA' p=>by
  rw[<- jA (x:=y) (F:=F)]
  exact k _ _ H (kS hS) hA'.store p
 unfold Qg at hd
 split at hd
 ·exact hd.elim
 ·rename_i m d hm
  refine fin _ ?_ hd
  refine (hA.mid.wk ?_).tomid
  cases m <;> first | rfl | exact (hm rfl).elim
 ·exact fin _ hA hd
 ·exact fin _ hA hd
 ·exact fin _ hA hd
 ·exact hd.elim
theorem jU{K:PySem.W.Frag}{i:Nat}:∀v σ H Q,LG K (Yy i) v σ H Q->Sg i v σ H Q:=by
 intro v σ H Q h
 obtain ⟨H0,Y,S,T,δ,x,F,P,rfl,hS,hA,hd,k⟩:=h
 show Q ((vs S).set i (some v)) H
 have fin:∀y,At K H0 Y δ.n (S++⟨some v,y,F⟩::T) H->P ⟨δ.sl.set i y,δ.n⟩->Q ((vs S).set i (some v)) H:=λy hA' p=>by
  rw[<- jA (x:=y) (F:=F)]
  exact k _ _ H (kS hS) hA'.store p
 unfold Yy at hd
 split at hd
 ·exact fin _ hA hd
 ·exact fin _ hA hd
 ·exact hd.elim
section
variable{X:Cx}{pos:Pos}
theorem Iy{i:Nat}{x:Str}(hN:X.N.Nodup)(hi:X.N[i]? = some x)(hx:Loc X.env.scope x)(hf:X.fn x=true\/X.env.scope.names.lookup x=some .local:=by first | exact .inl rfl | exact .inr rfl | assumption):Q6 X (.Name x pos) (Qg i):=PG.imp (Kh hN hi hx hf) dN
theorem uO{i:Nat}{x:Str}(hN:X.N.Nodup)(hi:X.N[i]? = some x)(hx:Loc X.env.scope x)(hf:X.fn x=true\/X.env.scope.names.lookup x=some .local:=by first | exact .inl rfl | exact .inr rfl | assumption):Q6 X (.Name x pos) (Yy i):=PG.imp (Kh hN hi hx hf) jU
theorem Hu{i:Nat}{x:Str}{e:Expr}{de:DE}{pos':Pos}(hN:X.N.Nodup)(hi:X.N[i]? = some x)(hx:Loc X.env.scope x)(he:Fe X e de)(hs:Jw e (some (.Name x pos')) pos.line X.env=pure false:=by rfl)(hf:X.fn x=true\/X.env.scope.names.lookup x=some .local:=by first | exact .inl rfl | exact .inr rfl | assumption):iF X (.Assign [.Name x pos'] e pos) (kK de (Qg i)):=PS.impD (Qi hN hi hx he hs hf) (Yu (λ_ _ _ h=>h) dN)
theorem Xl{i:Nat}{x:Str}{e:Expr}{de:DE}{pos':Pos}(hN:X.N.Nodup)(hi:X.N[i]? = some x)(hx:Loc X.env.scope x)(he:Fe X e de)(hs:Jw e (some (.Name x pos')) pos.line X.env=pure false:=by rfl)(hf:X.fn x=true\/X.env.scope.names.lookup x=some .local:=by first | exact .inl rfl | exact .inr rfl | assumption):iF X (.Assign [.Name x pos'] e pos) (kK de (Yy i)):=PS.impD (Qi hN hi hx he hs hf) (Yu (λ_ _ _ h=>h) jU)
end
def wQ:wG:=λxs δ P=>match xs with
 | []=>P δ
 | _=>False
def nK(g:DG)(gs:wG):wG:=λxs δ P=>match xs with
 | x::r=>g x δ λδ'=>gs r δ' P
 | []=>False
def wA(n:Nat)(gs:wG):DG:=λx δ P=>match x with
 | .dat m (.tuple ds)=>ds.length=n/\gs (ds.map λd=>.dat (Nk m) d) δ P
 | _=>False
theorem At.unpack{K:PySem.W.Frag}{H0 H:Hp}{X:Addr->Prop}{n:Nat}{m:Md}:∀{us:List V} {ds:List Af} {F:List Addr} {E:List Ent},RdFs K H us ds F->(m=.ow->F.Nodup)->(∀f∈E,Ua ⟨none,.dat (Nk m) .none,F⟩ f)->(∀a∈cells ⟨none,.dat (Nk m) .none,F⟩,H0 a=none)->At K H0 X n E H->∃As:List Ent,As.map Ent.v=us.map some/\As.map Ent.x=ds.map (λd=>.dat (Nk m) d)/\(∀e∈As,∀a∈e.F,a∈F)/\At K H0 X n (As++E) H
 | _,_,_,_,.nil,_,_,_,h=>⟨[],rfl,rfl,λ_ z=>(nomatch z),h⟩
 | _,_,_,E,.cons (x:=x) (d:=d) (F:=F1) (G:=G1) a t,hn,hs,hnew,h=>by
  have cs:∀{G:List Addr} {u:Option V} {d':Af},(∀b∈G,b∈F1++G1)->∀b∈cells ⟨u,.dat (Nk m) d',G⟩,b∈cells ⟨none,.dat (Nk m) .none,F1++G1⟩:=λ{G u d'} hG b hb=>by
   cases m with
   | ow=>exact hG b hb
   | _=>exact nomatch hb
  have sub:∀{G:List Addr} {u:Option V} {d':Af} {f:Ent},(∀b∈G,b∈F1++G1)->Ua ⟨none,.dat (Nk m) .none,F1++G1⟩ f->Ua ⟨u,.dat (Nk m) d',G⟩ f:=λ{G u d' f} hG q=>by
   refine ⟨λhp b hb=>q.1 ?_ b (cs hG b hb),λhp b hb z=>q.2 ?_ b hb (hG b z)⟩
   ·rcases hp with hp | hp
    ·exact .inl hp
    ·cases hp
   ·rcases hp with hp | hp
    ·refine .inl ?_
     cases m <;> exact hp
    ·exact .inr hp
  obtain ⟨As,h1,h2,h3,h4⟩:=At.unpack (m:=m) t (λz=>(Et.mp (hn z)).2.1) (λf hf=>sub (λb hb=>Ag _ hb) (hs f hf)) (λb hb=>hnew b (cs (λb hb=>Ag _ hb) b hb)) h
  refine ⟨⟨some x,.dat (Nk m) d,F1⟩::As,by rw[Bh,Bh,h1],by rw[Bh,Bh,h2],λe he b hb=>?_,?_⟩
  ·rcases Am.mp he with rfl | he
   ·exact An _ hb
   ·exact Ag _ (h3 e he b hb)
  ·refine h4.push ⟨x,rfl,a,λz=>?_,λz=>?_⟩ (λf hf=>?_) λb hb=>.inl (hnew b (cs (λb hb=>An _ hb) b hb))
   ·cases m with
    | ow=>exact (Et.mp (hn rfl)).1
    | _=>cases z
   ·cases m <;> cases z
   ·rcases Ay.mp hf with hf | hf
    ·have hx:f.x∈As.map Ent.x:=Cs.mpr ⟨f,hf,rfl⟩
     rw[h2] at hx
     obtain ⟨d',_,ed⟩:=Cs.mp hx
     refine ⟨λhp b hb z=>?_,λhp b hb z=>?_⟩
     ·cases m with
      | ow=>exact (Et.mp (hn rfl)).2.2 b hb b (h3 f hf b z) rfl
      | _=>exact nomatch hb
     ·cases m with
      | ow=>exact (Et.mp (hn rfl)).2.2 b z b (h3 f hf b (Hv _ _ hb)) rfl
      | _ =>
       unfold cells at hb
       rw[<- ed] at hb
       exact nomatch hb
    ·exact sub (λb hb=>An _ hb) (hs f hf)
section
variable{X:Cx}{pos:Pos}
theorem Xq:j7 X [] wQ:=by
 refine O6.imp mP λus σ H Q h=>?_
 obtain ⟨H0,Y,S,T,As,δ,P,rfl,hS,eu,hA,hd,k⟩:=h
 match As,hA,hd,eu with
 | [],hA,hd,eu =>
  cases us with
  | nil=>exact ⟨rfl,k δ S H hS hA hd⟩
  | cons _ _=>cases eu
 | _::_,hA,hd,eu=>exact hd.elim
theorem Lp{e:Expr}{es:List Expr}{g:DG}{gs:wG}(h1:Q6 X e g)(h2:j7 X es gs)(hs:(Jj (e::es) X.env).map (·.2)=Ka e X.env::(Jj es X.env).map (·.2):=by rfl):j7 X (e::es) (nK g gs):=by
 refine O6.imp (Zl h1 h2 hs) λus σ H Q h=>?_
 obtain ⟨H0,Y,S,T,As,δ,P,rfl,hS,eu,hA,hd,k⟩:=h
 match As,hA,hd,eu with
 | [],hA,hd,eu=>exact hd.elim
 | ⟨v,x,F⟩::As,hA,hd,eu =>
  cases us with
  | nil=>cases eu
  | cons u us =>
   rw[Bh,Bh] at eu
   obtain ⟨e1,e2⟩:=Lj eu
   have e1':v=some u:=e1
   subst e1'
   refine ⟨u,us,rfl,H0,Y,S,As++T,δ,x,F,_,rfl,hS,hA,hd,λδ' S' H' e3 hA' p=>?_⟩
   exact ⟨H0,Y,S',T,As,δ',P,rfl,e3,e2,hA',p,k⟩
theorem cJ{es:List Expr}{kk:Nat}{gs:wG}{n:Nat}(hc:X.calm=true)(h:j7 X es gs)(hn:(Jj es X.env).length=n:=by rfl)(hst:(Jj es X.env).findIdx? (·.1)=none:=by rfl):Q6 X (.Tuple es kk pos) (wA n gs):=by
 refine PG.imp (xJ hc h hn hst) λv σ H Q h=>?_
 obtain ⟨H0,Y,S,T,δ,x,F,P,rfl,hS,hA,hd,k⟩:=h
 unfold wA at hd
 split at hd
 ·rename_i m ds
  obtain ⟨a,xs,rfl,ha,ra,hz⟩:=(hA.told mem_mid).tup_inv
  have hm:=hA.mid
  have hp:=Bm.mp hm.sep
  obtain ⟨w,_,_,hnd,_⟩:=hm.ok _ Aa
  have cs:∀b∈cells ⟨none,.dat (Nk m) .none,F⟩,b∈cells ⟨some (.ref a),.dat m (.tuple ds),F⟩:=λb hb=>by
   cases m with
   | ow=>exact hb
   | _=>exact nomatch hb
  obtain ⟨As,h1,h2,h3,h4⟩:=At.unpack (m:=m) (E:=S++T) ra hnd (λf hf=>by
   refine ⟨λhq b hb=>(hp.1 f hf).1 ?_ b (cs b hb),λhq b hb=>(hp.1 f hf).2 ?_ b hb⟩
   ·rcases hq with hq | hq
    ·exact .inl hq
    ·cases hq
   ·rcases hq with hq | hq
    ·refine .inl ?_
     cases m <;> first | rfl | exact hq
    ·exact .inr hq) (λb hb=>by
   rcases hm.new _ Aa b (cs b hb) with z | z
   ·exact z
   ·cases z.2) hA.drop
  refine ⟨a,xs,rfl,Tg.of ha,by rw[ra.len]; exact hd.1,H0,Y,S,T,As,δ,P,rfl,hS,h1,h4.perm ?_,by rw[h2]; exact hd.2,k⟩
  rw[<- Bg,<- Bg]
  exact Dq.append_right T
 ·exact hd.elim
end
theorem jH{K:PySem.W.Frag}{H0 H:Hp}{X:Addr->Prop}{n:Nat}{E:List Ent}(h:At K H0 X n E H):∀{e f:Ent},e∈E->f∈E->e=f\/Ua e f:=by
 have main:∀{E:List Ent},E.Pairwise Ua->∀{e f:Ent},e∈E->f∈E->e=f\/Ua e f:=by
  intro E
  induction E with
  | nil=>intro _ e f he; cases he
  | cons g E ih =>
   intro hp e f he hf
   have hc:=Bm.mp hp
   rcases Am.mp he with he | he
   ·subst he
    rcases Am.mp hf with hf | hf
    ·exact .inl hf.symm
    ·exact .inr (hc.1 f hf)
   ·rcases Am.mp hf with hf | hf
    ·rw[hf]
     exact .inr (hc.1 e he).symm
    ·exact ih hc.2 he hf
 intro e f he hf
 exact main h.sep he hf
abbrev DI:=DS->(Md->List Af->DS->Prop)->Prop
structure IterOk(K:PySem.W.Frag)(J:It)(hid:List Ent)(m:Md)(ds:List Af):Prop where
 md:m=.sh\/m=.pk
 hd:∀e∈hid,cells e=[]
 np:m=.sh->∀e∈hid,Pr e.x=false
 go:∀H n i,(∀e∈hid,Ke K H n e)->i<ds.length->J.go i H
 yld:∀H n i x H',(∀e∈hid,Ke K H n e)->i<ds.length->J.yld i H x H'->Lg H H'/\∃d F,ds[i]? = some d/\RdF K H' x d F/\∀a∈F,∃e∈hid,a∈e.F
 stop:∀H n,(∀e∈hid,Ke K H n e)->J.stop ds.length H
def LI(K:PySem.W.Frag)(di:DI):TI:=λσ H R=>∃(H0:Hp) (X:Addr->Prop) (S T:List Ent) (δ:DS) (P:Md->List Af->DS->Prop),vs S=σ/\Sl S δ/\At K H0 X δ.n (S++T) H/\di δ P /\
 ∀m ds δ' J hid S' H',vs S'=σ->Sl S' δ'->At K H0 X δ'.n (S'++(hid++T)) H'->IterOk K J hid m ds->ds.length<=Bd->P m ds δ'->R J H'
abbrev e8(X:Cx)(tg iter:Expr)(di:DI):Prop:=PI X tg iter (LI X.K di)
theorem PI.imp{X:Cx}{tg e:Expr}{t t':TI}(h:PI X tg e t)(k:∀σ H Q,t' σ H Q->t σ H Q):PI X tg e t':=λpins s σ H Q I q=>h pins s σ H Q I (k σ H Q q)
def Kd:Md->Md
 | .pk=>.pk
 | _=>.sh
theorem Uc(m:Md):wk m (Kd m)=true:=by cases m <;> rfl
theorem At.item{K:PySem.W.Frag}{H0 H H':Hp}{X:Addr->Prop}{n:Nat}{S T hid:List Ent}{m:Md}{v:V}{d:Af}{F:List Addr}(h:At K H0 X n (S++(hid++T)) H)(s:Lg H H')(r:RdF K H' v d F)(hF:∀a∈F,∃e∈hid,a∈e.F)(md:m=.sh\/m=.pk)(hh:∀e∈hid,cells e=[])(np:m=.sh->∀e∈hid,Pr e.x=false):At K H0 X n (S++⟨some v,.dat m d,F⟩::(hid++T)) H':=by
 have h1:=h.grow (n':=n) s (Ah _)
 have c0:∀a,a∉cells ⟨some v,.dat m d,F⟩:=λa ha=>by
  rcases md with rfl | rfl <;> exact nomatch ha
 refine (h1.push (e:=⟨some v,.dat m d,F⟩) ⟨v,rfl,r,λz=>?_,λz=>?_⟩ (λf hf=>⟨λ_ a ha=>absurd ha (c0 a),λhq a ha z=>?_⟩) λa ha=>absurd ha (c0 a)).tomid
 ·rcases md with rfl | rfl <;> cases z
 ·rcases md with rfl | rfl <;> cases z
 ·obtain ⟨e,he,ze⟩:=hF a z
  have he':e∈S++(hid++T):=Ag _ (An _ he)
  rcases jH h he' hf with rfl | q
  ·rw[hh e he] at ha
   cases ha
  ·refine q.2 ?_ a ha ze
   rcases hq with hq | hq
   ·refine .inl (np ?_ e he)
    rcases md with rfl | rfl
    ·rfl
    ·cases hq
   ·exact .inr hq
def EH(de:DE):DI:=λδ P=>de δ λx δ'=>match x with
 | .dat m (.list ds)=>P (Kd m) ds δ'
 | .dat m (.tuple ds)=>P (Kd m) ds δ'
 | _=>False
def gG(da:DA):DI:=λδ P=>da δ λxs δ'=>match xs with
 | [.dat _ (.int j)]=>-1000000<=j/\j<=1000000/\P .sh ((Bc j.toNat).map λi:Nat=>.int i) δ'
 | _=>False
def gJ(da:DA):DI:=λδ P=>da δ λxs δ'=>match xs with
 | [.dat _ (.int i),.dat _ (.int j)]=>-1000000<=i/\i<=1000000 /\ -1000000<=j/\j<=1000000/\P .sh ((Bc (j - i).toNat).map λk:Nat=>.int (i+k)) δ'
 | _=>False
def tL(da:DA):DI:=λδ P=>da δ λxs δ'=>match xs with
 | [.dat m (.list ds)]=>P (Kd m) (ds.zipIdx.map λp=>.tuple [.int p.2,p.1]) δ'
 | _=>False
def AS(da:DA):DI:=λδ P=>da δ λxs δ'=>match xs with
 | [.dat m (.tuple ds)]=>P (Kd m) (ds.zipIdx.map λp=>.tuple [.int p.2,p.1]) δ'
 | _=>False
def mdZip:Md->Md->Md
 | .pk,_=>.pk
 | _,.pk=>.pk
 | _,_=>.sh
def A7(da:DA):DI:=λδ P=>da δ λxs δ'=>match xs with
 | [.dat m (.list ds),.dat m' (.list es)]=>P (mdZip m m') ((ds.zip es).map λp=>.tuple [p.1,p.2]) δ'
 | _=>False
section
variable{K:PySem.W.Frag}
theorem Ie{H:Hp}{n:Nat}{v:V}{m:Md}{d:Af}{F:List Addr}{hid:List Ent}(h:∀e∈hid,Ke K H n e)(he:⟨some v,.dat m d,F⟩∈hid):RdF K H v d F:=by
 obtain ⟨w,e1,h1,_⟩:=h _ he
 cases e1
 exact h1
theorem Zi{v:Option V}{m:Md}{d:Af}{F:List Addr}:cells ⟨v,.dat (Kd m) d,F⟩=[]:=by cases m <;> rfl
theorem kB{v:Option V}{m:Md}{d:Af}{F:List Addr}:∀e∈[(⟨v,.dat (Kd m) d,F⟩ : Ent)],cells e=[]:=λe he=>by
 rw[Ae.mp he]
 exact Zi
theorem vE{v:Option V}{m:Md}{d:Af}{F:List Addr}:Kd m=.sh->∀e∈[(⟨v,.dat (Kd m) d,F⟩ : Ent)],Pr e.x=false:=λz e he=>by
 rw[Ae.mp he]
 show Pr (.dat (Kd m) d)=false
 rw[z]
 rfl
theorem dA(m:Md):Kd m=.sh\/Kd m=.pk:=by cases m <;> simp [Kd]
theorem qO{a:Addr}{m:Md}{ds:List Af}{F:List Addr}:IterOk K (BB K a) [⟨some (.ref a),.dat (Kd m) (.list ds),F⟩] (Kd m) ds where
 md:=dA m
 hd:=kB
 np:=vE
 go:=λH n i h hi=>by
  obtain ⟨b,xs,G,e,hb,rb,_,_⟩:=(Ie h Aa).list_inv
  cases e
  have hl:=rb.len
  exact ⟨xs,xs[i],Ov.of hb,by simp [show i<xs.length by omega]⟩
 yld:=λH n i x H' h hi y=>by
  obtain ⟨b,xs,G,e,hb,rb,rfl,_⟩:=(Ie h Aa).list_inv
  cases e
  obtain ⟨rfl,y⟩:=y
  have hx:=y xs (Ov.of hb)
  obtain ⟨x',F',h1,h2,h3⟩:=rb.get (i:=i) (e:=ds[i]) (by simp [hi])
  rw[hx] at h1
  cases h1
  exact ⟨Lg.refl _,ds[i],F',by simp [hi],h2,λc hc=>⟨_,Aa,Ad _ (h3.subset hc)⟩⟩
 stop:=λH n h=>by
  obtain ⟨b,xs,G,e,hb,rb,_,_⟩:=(Ie h Aa).list_inv
  cases e
  exact ⟨xs,Ov.of hb,by rw[rb.len]; exact Ah _⟩
theorem xE{a:Addr}{m:Md}{ds:List Af}{F:List Addr}:IterOk K (CO K a) [⟨some (.ref a),.dat (Kd m) (.tuple ds),F⟩] (Kd m) ds where
 md:=dA m
 hd:=kB
 np:=vE
 go:=λH n i h hi=>by
  obtain ⟨b,xs,e,hb,rb,_⟩:=(Ie h Aa).tup_inv
  cases e
  have hl:=rb.len
  exact ⟨xs,xs[i],Tg.of hb,by simp [show i<xs.length by omega]⟩
 yld:=λH n i x H' h hi y=>by
  obtain ⟨b,xs,e,hb,rb,_⟩:=(Ie h Aa).tup_inv
  cases e
  obtain ⟨rfl,y⟩:=y
  have hx:=y xs (Tg.of hb)
  obtain ⟨x',F',h1,h2,h3⟩:=rb.get (i:=i) (e:=ds[i]) (by simp [hi])
  rw[hx] at h1
  cases h1
  exact ⟨Lg.refl _,ds[i],F',by simp [hi],h2,λc hc=>⟨_,Aa,h3.subset hc⟩⟩
 stop:=λH n h=>by
  obtain ⟨b,xs,e,hb,rb,_⟩:=(Ie h Aa).tup_inv
  cases e
  exact ⟨xs,Tg.of hb,by rw[rb.len]; exact Ah _⟩
theorem Zm{lo:Int}{n:Nat}:IterOk K (xU lo n) [] .sh ((Bc n).map λi:Nat=>.int (lo+i)) where
 md:=.inl rfl
 hd:=λ_ z=>nomatch z
 np:=λ_ _ z=>nomatch z
 go:=λH k i h hi=>by
  show i<n
  simpa using hi
 yld:=λH k i x H' h hi y=>by
  obtain ⟨rfl,rfl⟩:=y
  rw[Ac,Cb] at hi
  exact ⟨Lg.refl _,.int (lo+i),[],by simp [hi],.int _,λ_ z=>nomatch z⟩
 stop:=λH k h=>by simp [xU]
theorem oW{a:Addr}{m:Md}{ds:List Af}{F:List Addr}:IterOk K (CC K a) [⟨some (.ref a),.dat (Kd m) (.list ds),F⟩] (Kd m) (ds.zipIdx.map λp=>.tuple [.int p.2,p.1]) where
 md:=dA m
 hd:=kB
 np:=vE
 go:=λH n i h hi=>by
  obtain ⟨b,xs,G,e,hb,rb,_,_⟩:=(Ie h Aa).list_inv
  cases e
  have hl:=rb.len
  rw[Ac,Iu] at hi
  exact ⟨xs,xs[i],Ov.of hb,by simp [show i<xs.length by omega]⟩
 yld:=λH n i x H' h hi y=>by
  obtain ⟨b,xs,G,e,hb,rb,rfl,_⟩:=(Ie h Aa).list_inv
  cases e
  rw[Ac,Iu] at hi
  obtain ⟨t,z,rfl,nt,rfl,y⟩:=y
  have hx:=y xs (Ov.of hb)
  obtain ⟨x',F',h1,h2,h3⟩:=rb.get (i:=i) (e:=ds[i]) (by simp [hi])
  rw[hx] at h1
  cases h1
  have s1:=Eo nt (.tup [.int i,z])
  refine ⟨s1,.tuple [.int i,ds[i]],F',by simp [hi],.tup Ct (by simp [Ia]) ?_,λc hc=>⟨_,Aa,Ad _ (h3.subset hc)⟩⟩
  have:=RdFs.cons (F:=[]) (.int (i:Int)) (RdFs.cons (h2.kp (Kp.of s1)) RdFs.nil)
  rw[Dg] at this
  exact this
 stop:=λH n h=>by
  obtain ⟨b,xs,G,e,hb,rb,_,_⟩:=(Ie h Aa).list_inv
  cases e
  exact ⟨xs,Ov.of hb,by rw[Ac,Iu,rb.len]; exact Ah _⟩
theorem vO{a b:Addr}{m m':Md}{ds es:List Af}{F G:List Addr}:IterOk K (BI K a b) [⟨some (.ref a),.dat (Kd m) (.list ds),F⟩,⟨some (.ref b),.dat (Kd m') (.list es),G⟩] (mdZip m m') ((ds.zip es).map λp=>.tuple [p.1,p.2]) where
 md:=by cases m <;> cases m' <;> simp [mdZip]
 hd:=λe he=>by
  rcases Am.mp he with rfl | he
  ·exact Zi
  ·rw[Ae.mp he]
   exact Zi
 np:=λz e he=>by
  rcases Am.mp he with rfl | he
  ·cases m <;> cases m' <;> first | rfl | cases z
  ·rw[Ae.mp he]
   cases m <;> cases m' <;> first | rfl | cases z
 go:=λH n i h hi=>by
  obtain ⟨b1,xs,G1,e1,hb1,rb1,_,_⟩:=(Ie h Aa).list_inv
  obtain ⟨b2,ys,G2,e2,hb2,rb2,_,_⟩:=(Ie h (Ad _ Aa)).list_inv
  cases e1
  cases e2
  have l1:=rb1.len
  have l2:=rb2.len
  rw[Ac,Ry] at hi
  exact ⟨xs,ys,xs[i],ys[i],Ov.of hb1,Ov.of hb2,by simp [show i<xs.length by omega],by simp [show i<ys.length by omega]⟩
 yld:=λH n i x H' h hi y=>by
  obtain ⟨b1,xs,G1,e1,hb1,rb1,rfl,_⟩:=(Ie h Aa).list_inv
  obtain ⟨b2,ys,G2,e2,hb2,rb2,rfl,_⟩:=(Ie h (Ad _ Aa)).list_inv
  cases e1
  cases e2
  rw[Ac,Ry] at hi
  obtain ⟨t,u,v,rfl,nt,rfl,y1,y2⟩:=y
  have hx1:=y1 xs (Ov.of hb1)
  have hx2:=y2 ys (Ov.of hb2)
  obtain ⟨x1,F1,h11,h12,h13⟩:=rb1.get (i:=i) (e:=ds[i]) (by simp [show i<ds.length by omega])
  obtain ⟨x2,F2,h21,h22,h23⟩:=rb2.get (i:=i) (e:=es[i]) (by simp [show i<es.length by omega])
  rw[hx1] at h11
  cases h11
  rw[hx2] at h21
  cases h21
  have s1:=Eo nt (.tup [u,v])
  refine ⟨s1,.tuple [ds[i],es[i]],F1++F2,?_,.tup Ct (by simp [Ia]) ?_,λc hc=>?_⟩
  ·rw[Bo,show (ds.zip es)[i]? = some (ds[i],es[i]) from List.getElem?_zip_eq_some.mpr ⟨by simp [show i<ds.length by omega],by simp [show i<es.length by omega]⟩]
   rfl
  ·have:=RdFs.cons (h12.kp (Kp.of s1)) (RdFs.cons (h22.kp (Kp.of s1)) RdFs.nil)
   rw[Dg] at this
   exact this
  ·rcases Ay.mp hc with hc | hc
   ·exact ⟨_,Aa,Ad _ (h13.subset hc)⟩
   ·exact ⟨_,Ad _ Aa,Ad _ (h23.subset hc)⟩
 stop:=λH n h=>by
  obtain ⟨b1,xs,G1,e1,hb1,rb1,_,_⟩:=(Ie h Aa).list_inv
  obtain ⟨b2,ys,G2,e2,hb2,rb2,_,_⟩:=(Ie h (Ad _ Aa)).list_inv
  cases e1
  cases e2
  have l1:=rb1.len
  have l2:=rb2.len
  refine ⟨xs,ys,Ov.of hb1,Ov.of hb2,?_⟩
  rw[Ac,Ry]
  omega
end
section
variable{X:Cx}{tg e:Expr}{de:DE}{di:DI}
def dL(de:DE):DI:=λδ P=>de δ λx δ'=>match x with
 | .dat m (.list ds)=>P (Kd m) ds δ'
 | _=>False
def EE(de:DE):DI:=λδ P=>de δ λx δ'=>match x with
 | .dat m (.tuple ds)=>P (Kd m) ds δ'
 | _=>False
theorem Q7(h:Fe X e de):e8 X tg e (dL de):=by
 refine PI.imp (eQ h) λσ H R h=>?_
 obtain ⟨H0,Y,S,T,δ,P,rfl,hS,hA,hd,k⟩:=h
 refine ⟨H0,Y,S,T,δ,_,rfl,hS,hA,hd,λx δ1 v F S1 H1 e1 e2 hA1 p1=>?_⟩
 split at p1
 ·obtain ⟨a,xs,G,rfl,ha,ra,rfl,hz⟩:=(hA1.told mem_mid).list_inv
  exact ⟨a,rfl,⟨xs,Ov.of ha⟩,k _ _ δ1 _ [_] S1 H1 e1 e2 ((hA1.mid.wk (Uc _)).tomid) qO hz p1⟩
 ·exact p1.elim
theorem BU(h:Fe X e de):e8 X tg e (EE de):=by
 refine PI.imp (E2 h) λσ H R h=>?_
 obtain ⟨H0,Y,S,T,δ,P,rfl,hS,hA,hd,k⟩:=h
 refine ⟨H0,Y,S,T,δ,_,rfl,hS,hA,hd,λx δ1 v F S1 H1 e1 e2 hA1 p1=>?_⟩
 split at p1
 ·obtain ⟨a,xs,rfl,ha,ra,hz⟩:=(hA1.told mem_mid).tup_inv
  exact ⟨a,rfl,⟨xs,Tg.of ha⟩,k _ _ δ1 _ [_] S1 H1 e1 e2 ((hA1.mid.wk (Uc _)).tomid) xE hz p1⟩
 ·exact p1.elim
variable{es:List Expr}{da:DA}{a b:Expr}{p pos tp:Pos}{elts:List Expr}{kt:Nat}
theorem Rm(hg:Gl X "range")(hm:X.mg "range" = none)(ha:jY X [a] da)(hs:Bn [a] X.env=[(false,eval a X.env)]:=by rfl):e8 X tg (.Call (.Name "range" p) [a] [] pos) (gG da):=by
 refine PI.imp (Vv hg hm ha hs) λσ H R h=>?_
 obtain ⟨H0,Y,S,T,δ,P,rfl,hS,hA,hd,k⟩:=h
 refine ⟨H0,Y,S,T,δ,_,rfl,hS,hA,hd,λxs δ' As us S' H' e1 e2 ex eu hA' p=>?_⟩
 split at p
 ·obtain ⟨v,F,rfl,hA2⟩:=Lm eu hA' ex
  obtain ⟨rfl,_⟩:=(hA2.told mem_mid).int_inv
  obtain ⟨j0,j1,pp⟩:=p
  refine ⟨_,rfl,by omega,by omega,k _ _ δ' _ [] S' H' e1 e2 hA2.drop Zm (by rw[Ac,Cb]; exact aA (by omega)) ?_⟩
  simpa using pp
 ·exact p.elim
theorem qI(hg:Gl X "range")(hm:X.mg "range" = none)(ha:jY X [a,b] da)(hs:Bn [a,b] X.env=[(false,eval a X.env),(false,eval b X.env)]:=by rfl)(hs2:Bn [b] X.env=[(false,eval b X.env)]:=by rfl):e8 X tg (.Call (.Name "range" p) [a,b] [] pos) (gJ da):=by
 refine PI.imp (rR hg hm ha hs hs2) λσ H R h=>?_
 obtain ⟨H0,Y,S,T,δ,P,rfl,hS,hA,hd,k⟩:=h
 refine ⟨H0,Y,S,T,δ,_,rfl,hS,hA,hd,λxs δ' As us S' H' e1 e2 ex eu hA' p=>?_⟩
 split at p
 ·obtain ⟨v,F,w,G,rfl,hA2⟩:=Ql eu hA' ex
  obtain ⟨rfl,_⟩:=(hA2.told mem_mid).int_inv
  obtain ⟨rfl,_⟩:=(hA2.told Fq).int_inv
  obtain ⟨i0,i1,j0,j1,pp⟩:=p
  exact ⟨_,_,rfl,⟨by omega,by omega,by omega,by omega⟩,k _ _ δ' _ [] S' H' e1 e2 hA2.drop2 Zm (by rw[Ac,Cb,Ia]; omega) pp⟩
 ·exact p.elim
theorem oH(hg:Gl X "enumerate")(hm:X.mg "enumerate" = none)(ha:jY X [a] da)(hs:Bn [a] X.env=[(false,eval a X.env)]:=by rfl):e8 X (.Tuple elts kt tp) (.Call (.Name "enumerate" p) [a] [] pos) (tL da):=by
 refine PI.imp (i7 hg hm ha hs) λσ H R h=>?_
 obtain ⟨H0,Y,S,T,δ,P,rfl,hS,hA,hd,k⟩:=h
 refine ⟨H0,Y,S,T,δ,_,rfl,hS,hA,hd,λxs δ' As us S' H' e1 e2 ex eu hA' p=>?_⟩
 split at p
 ·obtain ⟨v,F,rfl,hA2⟩:=Lm eu hA' ex
  obtain ⟨a,xs,G,rfl,ha,ra,rfl,hz⟩:=(hA2.told mem_mid).list_inv
  exact ⟨a,rfl,⟨xs,Ov.of ha⟩,k _ _ δ' _ [_] S' H' e1 e2 ((hA2.mid.wk (Uc _)).tomid) oW (by rw[Ac,Iu]; exact hz) p⟩
 ·exact p.elim
theorem L8(hg:Gl X "zip")(hm:X.mg "zip" = none)(ha:jY X [a,b] da)(hs:Bn [a,b] X.env=(false,eval a X.env)::Bn [b] X.env:=by rfl)(hp:(Hx pos (Bn [b] X.env)).any (·.1)=false:=by rfl):e8 X (.Tuple elts kt tp) (.Call (.Name "zip" p) [a,b] [] pos) (A7 da):=by
 refine PI.imp (K2 hg hm ha hs hp) λσ H R h=>?_
 obtain ⟨H0,Y,S,T,δ,P,rfl,hS,hA,hd,k⟩:=h
 refine ⟨H0,Y,S,T,δ,_,rfl,hS,hA,hd,λxs δ' As us S' H' e1 e2 ex eu hA' p=>?_⟩
 split at p
 ·obtain ⟨v,F,w,G,rfl,hA2⟩:=Ql eu hA' ex
  obtain ⟨a,xs,G1,rfl,ha,ra,rfl,hz⟩:=(hA2.told mem_mid).list_inv
  obtain ⟨b,ys,G2,rfl,hb,rb,rfl,hz2⟩:=(hA2.told Fq).list_inv
  refine ⟨a,b,rfl,⟨xs,Ov.of ha⟩,⟨ys,Ov.of hb⟩,k _ _ δ' _ [_,_] S' H' e1 e2 (((((hA2.mid.wk (Uc _)).tomid).swap.mid.wk (Uc _)).tomid).swap) vO (by rw[Ac,Ry]; omega) p⟩
 ·exact p.elim
end
def Z3(di:DI)(dg:DG)(db:DB):DB:=λD δ=>di δ λm ds δ1=>m=.sh/\∃I:Nat->DS->Prop,I 0 δ1 /\
 (∀i d δ',ds[i]? = some d->I i δ'->dg (.dat .sh d) δ' λδ2=>db { D with nx:=I (i+1),ct:=I (i+1),bk:=D.nx } δ2)/\∀δ',I ds.length δ'->D.nx δ'
section
variable{X:Cx}{tg iter:Expr}{di:DI}{dg:DG}{db:DB}{body:List Stmt}{pos:Pos}
theorem At.dropH{K:PySem.W.Frag}{H0 H:Hp}{X:Addr->Prop}{n:Nat}{S T hid:List Ent}{e:Ent}(h:At K H0 X n (S++e::(hid++T)) H):At K H0 X n (S++e::T) H:=h.sub ((Em S).append ((Dy hid T).cons₂ e))
theorem Nf(hp:PassesOwn (model X.prog X.w) X.A X.env X.xe)(hc:X.calm=true)(hi:e8 X tg iter di)(hg:Q6 X tg dg)(hb:aO X body db)(hs:∀x,Dm iter X.env x=pure x:=by intro _; rfl):iF X (.For tg iter body [] pos) (Z3 di dg db):=by
 refine PS.impD (wD hp hc hi hg hb hs) λD σ H h=>?_
 obtain ⟨H0,Y,S,T,δ,P,rfl,hS,hT,hA,hd,k1,k2,k3,k4⟩:=h
 refine ⟨H0,Y,S,T,δ,_,rfl,hS,hA,hd,λm ds δ1 J hid S1 H1 e1 e2 hA1 it hz p1=>?_⟩
 obtain ⟨rfl,I,h0,hs,hf⟩:=p1
 rw[<- e1]
 have hT':∀e∈hid++T,Pr e.x=false:=λe he=>by
  rcases Ay.mp he with he | he
  ·exact it.np rfl e he
  ·exact hT e he
 refine ⟨λi q σ H=>q=ds.length - i/\i<=ds.length/\∃S δ,vs S=σ/\Sl S δ/\At X.K H0 Y δ.n (S++(hid++T)) H/\I i δ,⟨ds.length,by simp,Cy _,S1,δ1,rfl,e2,hA1,h0⟩,?_⟩
 (intro i q σ H q_; obtain ⟨rfl,hi,S2,δ2,rfl,e3,hA2,hI⟩ := q_)
 have hid_ok:∀e∈hid,Ke X.K H δ2.n e:=λe he=>hA2.ok e (Ag _ (An _ he))
 by_cases hlt:i<ds.length
 ·refine .inr ⟨it.go H δ2.n i hid_ok hlt,λσ' H'=>∃S δ,vs S=σ'/\Sl S δ/\At X.K H0 Y δ.n (S++(hid++T)) H'/\I (i+1) δ,λσ' H' q=>⟨ds.length - (i+1),by omega,rfl,hlt,q⟩,λx H' y=>?_⟩
  obtain ⟨s1,d,F,h1,h2,h3⟩:=it.yld H δ2.n i x H' hid_ok hlt y
  refine ⟨H0,Y,S2,hid++T,δ2,.dat .sh d,F,_,rfl,e3,hA2.item s1 h2 h3 it.md it.hd it.np,hs i d δ2 h1 hI,λδ3 S3 H3 e4 hA3 p3=>?_⟩
  refine ⟨H0,Y,S3,hid++T,δ3,_,rfl,e4,hT',hA3,p3,λδ4 S4 H4 e5 hA4 p4=>⟨S4,δ4,rfl,e5,hA4,p4⟩,λx δ4 v F S4 H4 e5 hA4 p4=>k2 x δ4 v F S4 H4 e5 hA4.dropH p4,
   λδ4 S4 H4 e5 hA4 p4=>k1 δ4 S4 H4 e5 hA4.dropL p4,λδ4 S4 H4 e5 hA4 p4=>⟨S4,δ4,rfl,e5,hA4,p4⟩⟩
 ·have e:i=ds.length:=by omega
  subst e
  exact .inl ⟨it.stop H δ2.n hid_ok,k1 δ2 S2 H e3 hA2.dropL (hf δ2 hI)⟩
end
def tV(dt:DT)(db:DB):DB:=λD δ=>∃(I:DS->Prop) (μ:DS->Nat),I δ/\∀δ',I δ'->dt δ' λb δ2=>match b with
 | true=>db { D with nx:=λδ3=>I δ3/\μ δ3<μ δ',ct:=λδ3=>I δ3/\μ δ3<μ δ',bk:=D.nx } δ2
 | false=>D.nx δ2
end DL
namespace Nd
open PySem PySem.Spec PyProof.Rows L2
theorem aT(elt t1 i1 t2 i2:Expr)(scope:Scope)(pos:Pos)(it acc:Value)(env:Env) :
  compTurn (.ListComp elt [⟨t1,i1,[],0⟩,⟨t2,i2,[],0⟩] scope pos) 0 it acc env=(do
   Qv i1.pos
   match <- Pn it with
   | none=>pure (.done .next)
   | some v =>
    Hy t1 it v
    Ka t1 env v
    let x <- eval i2 env
    Qv i2.pos
    let x <- Dm i2 env x
    let it2 <- Qx [x] (pyIter x)
    let _ <- runOwn (.compStart (.ListComp elt [⟨t1,i1,[],0⟩,⟨t2,i2,[],0⟩] scope pos) 1 it2 acc env) env
    again (.compLoop (.ListComp elt [⟨t1,i1,[],0⟩,⟨t2,i2,[],0⟩] scope pos) 0 it acc env)):=by rfl
theorem aV(elt t1 i1 t2 i2:Expr)(scope:Scope)(pos:Pos)(it acc:Value)(env:Env) :
  compTurn (.ListComp elt [⟨t1,i1,[],0⟩,⟨t2,i2,[],0⟩] scope pos) 1 it acc env=(do
   Qv i2.pos
   match <- Pn it with
   | none=>pure (.done .next)
   | some v =>
    Hy t2 it v
    Ka t2 env v
    (do let _ <- call (.builtin "list.append") [acc,<- eval elt env])
    again (.compLoop (.ListComp elt [⟨t1,i1,[],0⟩,⟨t2,i2,[],0⟩] scope pos) 1 it acc env)):=by rfl
section
variable{prog:Bj}{w:World}{A:Cp}{R:Result->Aj->Prop}{s:Aj}
theorem aI{elt:Expr}{g:Comprehension}{t2 i2:Expr}{scope:Scope}{pos:Pos}{it acc:Value}{env:Env}(h0:Hm (model prog w) A (.compLoop (.ListComp elt [g,⟨t2,i2,[],0⟩] scope pos) 1 it acc env) R s)(h:wpAny (model prog w) A (pyIter it) (λit' s'=>Hm (model prog w) A (.compLoop (.ListComp elt [g,⟨t2,i2,[],0⟩] scope pos) 1 it' acc env) R s') (λ_ _=>False) s):Hm (model prog w) A (.compStart (.ListComp elt [g,⟨t2,i2,[],0⟩] scope pos) 1 it acc env) R s:=by
 refine Ut ?_
 show wpAny _ _ ((compStart (.ListComp elt [g,⟨t2,i2,[],0⟩] scope pos) 1 it acc env).onRaise (λx=>do noteFrame x env; Qv theWindowsPlace)) _ _ s
 refine wpAny_notedAt ?_
 unfold compStart
 show wpAny _ _ (ask >>= _) _ _ s
 refine Ab (Si (wpAny_ite ?_))
 split
 ·first
   | exact Ab (Al (Al (And.intro rfl h0)))
   | exact Al (And.intro rfl h0)
 ·first
   | exact Ab (wpAny_rule (Ab (Hg (Ab (Cz h (λit' s' h'=>Al (And.intro rfl h')) λ_ _ x=>x.elim)))))
   | (refine Ab (wpAny_rule ?_); show wpAny _ _ (Qv i2.pos >>= _) _ _ s; exact Ab (Hg (Ab (Cz h (λit' s' h'=>Al (And.intro rfl h')) λ_ _ x=>x.elim))))
theorem gW{elt t1 i1 t2 i2:Expr}{scope:Scope}{pos:Pos}{it acc:Value}{env:Env}(hs2:∀x,Dm i2 env x=pure x)(J:Nat->Aj->Prop) (turn:∀n s,J n s->wpAny (model prog w) A (Pn it) (λr s1=>match r with
    | none=>R (.ok .next) s1
    | some v=>wpAny (model prog w) A (Hy t1 it v) (λ_ s2=>wpAny (model prog w) A (Ka t1 env v) (λ_ s3 =>
      wpAny (model prog w) A (eval i2 env) (λx s4=>wpAny (model prog w) A (pyIter x) (λit2 s5 =>
       Hm (model prog w) A (.compStart (.ListComp elt [⟨t1,i1,[],0⟩,⟨t2,i2,[],0⟩] scope pos) 1 it2 acc env) (λr s6=>match r with | .ok _=>∃m,m<n/\J m s6 | .error _=>False) s5) (λ_ _=>False) s4) (λ_ _=>False) s3) (λ_ _=>False) s2) (λ_ _=>False) s1) (λ_ _=>False) s)
  (n:Nat) (h:J n s):Hm (model prog w) A (.compLoop (.ListComp elt [⟨t1,i1,[],0⟩,⟨t2,i2,[],0⟩] scope pos) 0 it acc env) R s:=by
 refine codeAny_loop rfl J (λn s hJ=>?_) n h
 show wpAny _ A (Sem.onRaise (compTurn (.ListComp elt [⟨t1,i1,[],0⟩,⟨t2,i2,[],0⟩] scope pos) 0 it acc env) (λx=>do noteFrame x env; theTreesLotGoes x)) _ _ s
 refine wpAny_noted ?_
 rw[aT]
 refine Ab (Hg (Ab (Cz (turn n s hJ) (λr s1 h1=>?_) λ_ _ z=>z.elim)))
 cases r with
 | none=>exact Al h1
 | some v =>
  refine Ab (Cz h1 (λ_ s2 h2=>?_) λ_ _ z=>z.elim)
  refine Ab (Cz h2 (λ_ s3 h3=>?_) λ_ _ z=>z.elim)
  refine Ab (Cz h3 (λx s4 h4=>?_) λ_ _ z=>z.elim)
  refine Ab (Hg (Ab (Km (hs2 x) (Ab (Ey (Cz h4 (λit2 s5 h5=>?_) λ_ _ z=>z.elim))))))
  refine Ab (wpAny_runOwn ?_)
  refine Mi h5 λr s6 h6=>?_
  cases r with
  | ok f=>exact Al ⟨rfl,h6⟩
  | error e=>exact h6.elim
theorem eZ{elt t1 i1 t2 i2:Expr}{scope:Scope}{pos:Pos}{it acc:Value}{env:Env}(J:Nat->Aj->Prop) (turn:∀n s,J n s->wpAny (model prog w) A (Pn it) (λr s1=>match r with
    | none=>R (.ok .next) s1
    | some v=>wpAny (model prog w) A (Hy t2 it v) (λ_ s2=>wpAny (model prog w) A (Ka t2 env v) (λ_ s3 =>
      wpAny (model prog w) A (eval elt env) (λx s5=>wpAny (model prog w) A (call (.builtin "list.append") [acc,x]) (λ_ s6=>∃m,m<n/\J m s6) (λ_ _=>False) s5) (λ_ _=>False) s3) (λ_ _=>False) s2) (λ_ _=>False) s1) (λ_ _=>False) s)
  (n:Nat) (h:J n s):Hm (model prog w) A (.compLoop (.ListComp elt [⟨t1,i1,[],0⟩,⟨t2,i2,[],0⟩] scope pos) 1 it acc env) R s:=by
 refine codeAny_loop rfl J (λn s hJ=>?_) n h
 show wpAny _ A (Sem.onRaise (compTurn (.ListComp elt [⟨t1,i1,[],0⟩,⟨t2,i2,[],0⟩] scope pos) 1 it acc env) (λx=>do noteFrame x env; theTreesLotGoes x)) _ _ s
 refine wpAny_noted ?_
 rw[aV]
 refine Ab (Hg (Ab (Cz (turn n s hJ) (λr s1 h1=>?_) λ_ _ z=>z.elim)))
 cases r with
 | none=>exact Al h1
 | some v =>
  refine Ab (Cz h1 (λ_ s2 h2=>?_) λ_ _ z=>z.elim)
  refine Ab (Cz h2 (λ_ s3 h3=>?_) λ_ _ z=>z.elim)
  refine Ab (Ab (Cz h3 (λx s5 h5=>?_) λ_ _ z=>z.elim))
  exact Ab (Cz h5 (λ_ s6 h6=>Al (Al ⟨rfl,h6⟩)) λ_ _ z=>z.elim)
end
section
variable{X:Cx}
def tX(J:It)(js:List Nat)(wi2:TI)(te:TE)(σ:L2.St)(H1:Hp)(Q:VK):Prop:=∀D,H1 D=none->∃W:Nat->Nat->Hp->Prop,(∃m,W 0 m (upd H1 D (.lst [])))/\∀i m H,W i m H ->
 (J.stop i H/\Q (.ref D) H)\/(J.go i H/\∀x H',J.yld i H x H'->∀o:Option V,wi2 (some x::o::En σ js) H' λJ2 H2=>∃W2:Nat->Nat->Hp->Prop,(∃m2,W2 0 m2 H2)/\∀i2 m2 H3,W2 i2 m2 H3 ->
  (J2.stop i2 H3/\∃m',m'<m/\W (i+1) m' H3)\/(J2.go i2 H3/\∀y H4,J2.yld i2 H3 y H4->te (some x::some y::En σ js) H4 λz H5=>∃acc,H5 D=some (.lst acc)/\acc.length<Bd/\∃m2',m2'<m2/\W2 (i2+1) m2' (upd H5 D (.lst (acc++[z])))))
def lG(wi:TI)(js:List Nat)(wi2:TI)(te:TE):TE:=λσ H Q=>wi σ H λJ H1=>tX J js wi2 te σ H1 Q
end
section
variable{X:Cx}
theorem AA{elt iter:Expr}{x x2 y0:Str}{px px2 pt py pos spos:Pos}{kt:Nat}{i0:Nat}{ifs:List Expr}{scope:Scope}{cl:List (Str×Addr)}{ys:List Str}{js:List Nat}{wi:TI}{tc:TT}{te:TE}(hN:X.N.Nodup)(hi0:X.N[i0]? = some y0)(hy0:X.env.scope.names.lookup y0=some .local)(C:CompScope X scope cl x ys js)(own2:oX scope x2)(nd2:(x::x2::ys).Nodup)(hc:X.calm=true)(hi:PI X (.Tuple [.Name x px,.Name x2 px2] kt pt) iter wi)(ht:∀fp s H,wN (Ec X scope cl (x::x2::ys) fp s H) ifs tc)(he:∀fp s H,PE (Ec X scope cl (x::x2::ys) fp s H) elt te)(hs:∀x,Dm iter X.env x=pure x:=by intro _; rfl)(hsw:Jw (.ListComp elt [⟨.Tuple [.Name x px,.Name x2 px2] kt pt,iter,ifs,0⟩] scope pos) (some (.Name y0 py)) spos.line X.env=pure true:=by rfl):PS X (.Assign [.Name y0 py] (.ListComp elt [⟨.Tuple [.Name x px,.Name x2 px2] kt pt,iter,ifs,0⟩] scope pos) spos) (qD (vX X.K wi js tc te) (Sg i0)):=by
 intro pins s σ H De I h
 have h:vX X.K wi js tc te σ H λv H1=>De.nx (σ.set i0 (some v)) H1:=h
 rw[Uw _ _ _ _ hsw]
 refine Ab (Hg (Ab ?_))
 show wpAny _ X.A (do let _ <- comprehension (.ListComp elt [⟨.Tuple [.Name x px,.Name x2 px2] kt pt,iter,ifs,0⟩] scope pos) scope X.env _ (newList []) false (eval iter X.env) (some (Ka (.Name y0 py) X.env))) _ _ s
 refine Ab (Cz (Kz (use:=some (Ka (.Name y0 py) X.env)) (Q:=λ_ s'=>SP X pins De .next s') rfl hs C.clos C.kind C.locs (Fv (hi pins s σ H _ I h) λv s1 h1=>Fv h1 λitv s2 h2=>?_)) (λ_ s' hq=>Al (Al hq)) λ_ _ e=>e)
 obtain ⟨it,fp,tn,J,H2,e,I2,T,st2,f2,q2⟩:=h2
 subst e
 have fD:H2 s2.heap.objs.size=none:=I2.hok.fresh (Ah _)
 obtain ⟨W,⟨m0,w0⟩,turn⟩:=q2 s2.heap.objs.size fD
 refine Dk ?_
 have I3:Inv X pins σ (upd H2 s2.heap.objs.size (.lst [])) { s2 with heap:=s2.heap.push { cls:=.type "list",dict:=none,data:=.seq ([]:List Value).toArray } } :=
  I2.laid (t':=s2.toks) (λb u q=>Ak _ q) (Ah _) ⟨Cy _,[],0,.nil,Be _ rfl⟩
 obtain ⟨f3,st3',o3'⟩:=Uo I2 T st2 f2 I3
 generalize hS3:({ s2 with heap:=s2.heap.push { cls:=.type "list",dict:=none,data:=.seq ([]:List Value).toArray } }:Aj)=s3 at I3
 have Pq:tn 0 s3.heap:=by rw[<- hS3]; exact st3'
 have o3:∀b∈fp,∃o,s3.heap.get? b=some o:=by rw[<- hS3]; exact o3'
 show wpAny _ _ (Mh scope X.env.globals cl [] X.env.qual none .none (some X.env)) _ _ _
 refine Rk C λh4 hns4 keep4 new4=>?_
 have I4:∀tk,Inv (Ec X scope cl (x::x2::ys) fp s3 (upd H2 s2.heap.objs.size (.lst []))) [] (none::none::En σ js) (upd H2 s2.heap.objs.size (.lst [])) { s3 with heap:=h4,toks:=tk }:=λtk=>Pe (pre:=[x,x2]) C I3 f3 o3 hns4 keep4 new4
 have st4:tn 0 h4:=T.keep 0 _ _ Pq λb hb o q=>keep4 b o q
 generalize hX':Ec X scope cl (x::x2::ys) fp s3 (upd H2 s2.heap.objs.size (.lst []))=X' at I4
 obtain ⟨eP,eW,eK,eA,eC⟩:=Tz hc hX'
 have stat:∀{H':Hp},(∀b∈fp,H' b=none)->∀b∈fp,Lw X' [] H' b:=λ{H'} hn=>Ri hX' (I4 0) hn
 have loop:∀s5:Aj,s5={ s3 with heap:=h4,toks:=s3.toks+([]:List (Str×Value)).length } ->
   Hm (model X.prog X.w) X.A (.compLoop (.ListComp elt [⟨.Tuple [.Name x px,.Name x2 px2] kt pt,iter,ifs,0⟩] scope pos) 0 (.ref it) (.ref s2.heap.objs.size) (Wo scope (Ed (s3.heap.objs.size+1) scope.names cl) s3.heap.objs.size X.env))
    (compPost (model X.prog X.w) X.A X.xe (some (Ka (.Name y0 py) X.env)) (λ_ s'=>SP X pins De .next s') (.ref s2.heap.objs.size) s3.heap.objs.size) s5:=by
  rintro s5 rfl
  refine Sy (λn s'=>∃i o o2 H',Inv X' [] (o::o2::En σ js) H' s'/\tn i s'.heap/\(∀b∈fp,H' b=none)/\W i n H') ?_ m0
   ⟨0,none,none,_,I4 _,st4,λb hb=>(f3 b hb).1,w0⟩
  (intro n s6 q_; obtain ⟨i,o,o2,H6,I6,st6,fr6,w6⟩ := q_)
  rcases turn i n H6 w6 with ⟨stop,qn⟩ | ⟨go,step⟩
  ·have hd:=T.done X' eP eW eK eC i [] s6 _ H6 (λ_ _=>False) I6 (stat fr6) st6 stop
   rw[eA] at hd
   refine Fv hd λr s7 q0_ => ?_
   obtain ⟨hr,I7⟩ := q0_
   subst hr
   obtain ⟨⟨m7,hn7'⟩,I7f,J7⟩:=Vw hX' I3 f3 I7
   have fC:Lw X pins H6 s3.heap.objs.size:=I3.fpOk (Ah _) I7f
   obtain ⟨oC,esC,epC,hoC,rC⟩:=id hn7'
   have J8:Inv X (pins++[(s3.heap.objs.size,oC)]) σ H6 s7:=J7.pins_of λp hp=>by
    rcases Ay.mp hp with z | z
    ·have q:=J7.pin p (Ag _ z)
     exact q
    ·rw[Ae.mp z]
     exact ⟨hoC,I7f,fC.2.1,fC.2.2.1,λv hv=>by rw[rC.1] at hv; cases hv⟩
   refine Fv (Kh (X:=X) (i:=i0) (x:=y0) (pos:=py) hN hi0 (.inl hy0) (.inr hy0) (pins++[(s3.heap.objs.size,oC)]) s7 σ H6 (.ref s2.heap.objs.size) (.ref s2.heap.objs.size) (λσ' H'=>σ'=σ.set i0 (some (.ref s2.heap.objs.size))/\H'=H6) J8 rfl ⟨rfl,rfl⟩) λ_ s9 q0_ => ?_
   obtain ⟨σ9,H9,I9,e9,e9'⟩ := q0_
   subst e9 e9'
   have hoC9:=(I9.pin (s3.heap.objs.size,oC) (Ag _ (Ag _ Aa))).1
   have I9':Inv X pins (σ.set i0 (some (.ref s2.heap.objs.size))) H9 s9:=I9.pins_of λp hp=>I9.pin p (Ag _ (An _ hp))
   refine ⟨m7,hn7'.at λo e=>by rw[hoC] at e; cases e; exact hoC9,λh10 hs10=>?_⟩
   exact ⟨_,H9,Ph (t':=s9.toks) (fp:=[s3.heap.objs.size]) I9' (λb o hb e=>(hs10.2 b (λz=>hb (by rw[z]; exact Aa))).trans e) (λb hb=>by rw[Ae.mp hb]; exact fC),qn⟩
  ·have hit:=T.item X' eP eW eK eC i [] s6 _ H6 (λ_ _=>False) I6 (stat fr6) st6 go
   rw[eA] at hit
   refine Fv hit λr s7 q0_ => ?_
   obtain ⟨u,hr,h7⟩ := q0_
   subst hr
   refine Fv h7 λ_ s8 q0_ => ?_
   obtain ⟨y,H8,I8,r8,y8,st8,fr8⟩ := q0_
   have I8':=I8.pinned (stat fr8) (T.obj _ _ st8)
   obtain ⟨tp,w1,w2,ey,hsq,N1,N2,hN1,hN2,hst⟩:=step y H8 y8
   have again:∀{H9:Hp} {s9:Aj} {m':Nat},Inv X' ([]++Oe fp s8.heap) (some w1::some w2::En σ js) H9 s9->m'<n->W (i+1) m' H9->∃m,m<n/\∃i o o2 H',Inv X' [] (o::o2::En σ js) H' s9/\tn i s9.heap/\(∀b∈fp,H' b=none)/\W i m H':=λ{H9 s9 m'} I9 hm w9=>by
    refine ⟨m',hm,i+1,some w1,some w2,H9,I9.unpinned,T.keep _ _ _ st8 λb hb o e=>(I9.pin (b,o) (Ag _ (Ag _ (Gg hb e)))).1,λb hb=>?_,w9⟩
    obtain ⟨o,e,_⟩:=T.obj _ _ st8 b hb
    exact (I9.pin (b,o) (Ag _ (Ag _ (Gg hb e)))).2.1
   subst hX'
   have g1:PG (Ec X scope cl (x::x2::ys) fp s3 (upd H2 s2.heap.objs.size (.lst []))) (.Tuple [.Name x px,.Name x2 px2] kt pt) (T3 X.K 2 (tI (Sg 0) (tI (Sg 1) AM))) :=
    xJ (X:=Ec X scope cl (x::x2::ys) fp s3 (upd H2 s2.heap.objs.size (.lst []))) hc (Zl (Kh (i:=0) (x:=x) nd2 rfl (Rp C.own) (Vf C.own)) (Zl (Kh (i:=1) (x:=x2) nd2 rfl (Rp own2) (Vf own2)) mP))
   refine Fv (g1 _ s8 _ H8 y u (λσ' H'=>σ'=some w1::some w2::En σ js/\H'=H8) I8' r8 ⟨tp,[w1,w2],ey,hsq,rfl,_,_,rfl,_,_,rfl,rfl,rfl,rfl⟩) λ_ s9 q0_ => ?_
   obtain ⟨σ9,H9,I9,e9,e9'⟩ := q0_
   subst e9 e9'
   refine Fv (ht fp s3 _ _ s9 _ _ _ I9 hst) λok s10 q0_ => ?_
   obtain ⟨H10,I10,q10⟩ := q0_
   cases ok with
   | false =>
    rw[if_neg Bx] at q10 ⊢
    obtain ⟨m',hm,w10⟩:=hN1 _ q10
    exact again I10 hm w10
   | true =>
    rw[if_pos rfl] at q10 ⊢
    refine Fv (he fp s3 _ _ s10 _ _ _ I10 q10) λz s11 q0_ => ?_
    obtain ⟨vz,H11,I11,r11,q11⟩ := q0_
    obtain ⟨acc,ha,hz,m',hm,w11⟩:=hN2 _ _ q11
    refine Fv (Lc _ s11 _ H11 (.ref s2.heap.objs.size) [vz] (.ref s2.heap.objs.size) [z] (λ_ H'=>H'=upd H11 s2.heap.objs.size (.lst (acc++[vz]))) I11 rfl (.cons r11 .nil) ⟨_,acc,vz,rfl,rfl,ha,hz,rfl⟩) λ_ s12 q0_ => ?_
    obtain ⟨_,H12,I12,_,e12⟩ := q0_
    subst e12
    exact again I12 hm w11
 exact Mj (loop _ rfl) (T.self X.A 0 _ _ _ st4 (loop _ rfl))
theorem wZ{elt iter iter2:Expr}{x x2 y0:Str}{px px2 py pos spos:Pos}{i0:Nat}{scope:Scope}{cl:List (Str×Addr)}{ys:List Str}{js:List Nat}{wi wi2:TI}{te:TE}(hN:X.N.Nodup)(hi0:X.N[i0]? = some y0)(hy0:X.env.scope.names.lookup y0=some .local)(C:CompScope X scope cl x ys js)(own2:oX scope x2)(nd2:(x::x2::ys).Nodup)(hc:X.calm=true)(hi:PI X (.Name x px) iter wi)(hi2:∀fp s H,PI (Ec X scope cl (x::x2::ys) fp s H) (.Name x2 px2) iter2 wi2)(he:∀fp s H,PE (Ec X scope cl (x::x2::ys) fp s H) elt te)(hs:∀x,Dm iter X.env x=pure x:=by intro _; rfl)(hs2:∀fp s H v,Dm iter2 (Ec X scope cl (x::x2::ys) fp s H).env v=pure v:=by intro _ _ _ _; rfl)(hsw:Jw (.ListComp elt [⟨.Name x px,iter,[],0⟩,⟨.Name x2 px2,iter2,[],0⟩] scope pos) (some (.Name y0 py)) spos.line X.env=pure true:=by rfl):PS X (.Assign [.Name y0 py] (.ListComp elt [⟨.Name x px,iter,[],0⟩,⟨.Name x2 px2,iter2,[],0⟩] scope pos) spos) (qD (lG wi js wi2 te) (Sg i0)):=by
 intro pins s σ H De I h
 have h:lG wi js wi2 te σ H λv H1=>De.nx (σ.set i0 (some v)) H1:=h
 rw[Uw _ _ _ _ hsw]
 refine Ab (Hg (Ab ?_))
 show wpAny _ X.A (do let _ <- comprehension (.ListComp elt [⟨.Name x px,iter,[],0⟩,⟨.Name x2 px2,iter2,[],0⟩] scope pos) scope X.env _ (newList []) false (eval iter X.env) (some (Ka (.Name y0 py) X.env))) _ _ s
 refine Ab (Cz (Kz (use:=some (Ka (.Name y0 py) X.env)) (Q:=λ_ s'=>SP X pins De .next s') rfl hs C.clos C.kind C.locs (Fv (hi pins s σ H _ I h) λv s1 h1=>Fv h1 λitv s2 h2=>?_)) (λ_ s' hq=>Al (Al hq)) λ_ _ e=>e)
 obtain ⟨it,fp,tn,J,H2,e,I2,T,st2,f2,q2⟩:=h2
 subst e
 have fD:H2 s2.heap.objs.size=none:=I2.hok.fresh (Ah _)
 obtain ⟨W,⟨m0,w0⟩,turn⟩:=q2 s2.heap.objs.size fD
 refine Dk ?_
 have I3:Inv X pins σ (upd H2 s2.heap.objs.size (.lst [])) { s2 with heap:=s2.heap.push { cls:=.type "list",dict:=none,data:=.seq ([]:List Value).toArray } } :=
  I2.laid (t':=s2.toks) (λb u q=>Ak _ q) (Ah _) ⟨Cy _,[],0,.nil,Be _ rfl⟩
 obtain ⟨f3,st3',o3'⟩:=Uo I2 T st2 f2 I3
 generalize hS3:({ s2 with heap:=s2.heap.push { cls:=.type "list",dict:=none,data:=.seq ([]:List Value).toArray } }:Aj)=s3 at I3
 have Pq:tn 0 s3.heap:=by rw[<- hS3]; exact st3'
 have o3:∀b∈fp,∃o,s3.heap.get? b=some o:=by rw[<- hS3]; exact o3'
 show wpAny _ _ (Mh scope X.env.globals cl [] X.env.qual none .none (some X.env)) _ _ _
 refine Rk C λh4 hns4 keep4 new4=>?_
 have I4:∀tk,Inv (Ec X scope cl (x::x2::ys) fp s3 (upd H2 s2.heap.objs.size (.lst []))) [] (none::none::En σ js) (upd H2 s2.heap.objs.size (.lst [])) { s3 with heap:=h4,toks:=tk }:=λtk=>Pe (pre:=[x,x2]) C I3 f3 o3 hns4 keep4 new4
 have st4:tn 0 h4:=T.keep 0 _ _ Pq λb hb o q=>keep4 b o q
 generalize hX':Ec X scope cl (x::x2::ys) fp s3 (upd H2 s2.heap.objs.size (.lst []))=X' at I4
 obtain ⟨eP,eW,eK,eA,eC⟩:=Tz hc hX'
 have stat:∀{H':Hp},(∀b∈fp,H' b=none)->∀b∈fp,Lw X' [] H' b:=λ{H'} hn=>Ri hX' (I4 0) hn
 have loop:∀s5:Aj,s5={ s3 with heap:=h4,toks:=s3.toks+([]:List (Str×Value)).length } ->
   Hm (model X.prog X.w) X.A (.compLoop (.ListComp elt [⟨.Name x px,iter,[],0⟩,⟨.Name x2 px2,iter2,[],0⟩] scope pos) 0 (.ref it) (.ref s2.heap.objs.size) (Wo scope (Ed (s3.heap.objs.size+1) scope.names cl) s3.heap.objs.size X.env))
    (compPost (model X.prog X.w) X.A X.xe (some (Ka (.Name y0 py) X.env)) (λ_ s'=>SP X pins De .next s') (.ref s2.heap.objs.size) s3.heap.objs.size) s5:=by
  rintro s5 rfl
  refine gW (λv=>hs2 fp s3 (upd H2 s2.heap.objs.size (.lst [])) v) (λn s'=>∃i o o2 H',Inv X' [] (o::o2::En σ js) H' s'/\tn i s'.heap/\(∀b∈fp,H' b=none)/\W i n H') ?_ m0
   ⟨0,none,none,_,I4 _,st4,λb hb=>(f3 b hb).1,w0⟩
  (intro n s6 q_; obtain ⟨i,o,o2,H6,I6,st6,fr6,w6⟩ := q_)
  rcases turn i n H6 w6 with ⟨stop,qn⟩ | ⟨go,step⟩
  ·have hd:=T.done X' eP eW eK eC i [] s6 _ H6 (λ_ _=>False) I6 (stat fr6) st6 stop
   rw[eA] at hd
   refine Fv hd λr s7 q0_ => ?_
   obtain ⟨hr,I7⟩ := q0_
   subst hr
   obtain ⟨⟨m7,hn7'⟩,I7f,J7⟩:=Vw hX' I3 f3 I7
   have fC:Lw X pins H6 s3.heap.objs.size:=I3.fpOk (Ah _) I7f
   obtain ⟨oC,esC,epC,hoC,rC⟩:=id hn7'
   have J8:Inv X (pins++[(s3.heap.objs.size,oC)]) σ H6 s7:=J7.pins_of λp hp=>by
    rcases Ay.mp hp with z | z
    ·have q:=J7.pin p (Ag _ z)
     exact q
    ·rw[Ae.mp z]
     exact ⟨hoC,I7f,fC.2.1,fC.2.2.1,λv hv=>by rw[rC.1] at hv; cases hv⟩
   refine Fv (Kh (X:=X) (i:=i0) (x:=y0) (pos:=py) hN hi0 (.inl hy0) (.inr hy0) (pins++[(s3.heap.objs.size,oC)]) s7 σ H6 (.ref s2.heap.objs.size) (.ref s2.heap.objs.size) (λσ' H'=>σ'=σ.set i0 (some (.ref s2.heap.objs.size))/\H'=H6) J8 rfl ⟨rfl,rfl⟩) λ_ s9 q0_ => ?_
   obtain ⟨σ9,H9,I9,e9,e9'⟩ := q0_
   subst e9 e9'
   have hoC9:=(I9.pin (s3.heap.objs.size,oC) (Ag _ (Ag _ Aa))).1
   have I9':Inv X pins (σ.set i0 (some (.ref s2.heap.objs.size))) H9 s9:=I9.pins_of λp hp=>I9.pin p (Ag _ (An _ hp))
   refine ⟨m7,hn7'.at λo e=>by rw[hoC] at e; cases e; exact hoC9,λh10 hs10=>?_⟩
   exact ⟨_,H9,Ph (t':=s9.toks) (fp:=[s3.heap.objs.size]) I9' (λb o hb e=>(hs10.2 b (λz=>hb (by rw[z]; exact Aa))).trans e) (λb hb=>by rw[Ae.mp hb]; exact fC),qn⟩
  ·have hit:=T.item X' eP eW eK eC i [] s6 _ H6 (λ_ _=>False) I6 (stat fr6) st6 go
   rw[eA] at hit
   refine Fv hit λr s7 q0_ => ?_
   obtain ⟨u,hr,h7⟩ := q0_
   subst hr
   refine Fv h7 λ_ s8 q0_ => ?_
   obtain ⟨y,H8,I8,r8,y8,st8,fr8⟩ := q0_
   have I8':=I8.pinned (stat fr8) (T.obj _ _ st8)
   have stp:=step y H8 y8 o2
   have again:∀{H9:Hp} {s9:Aj} {m':Nat} {o9:Option V},Inv X' ([]++Oe fp s8.heap) (some y::o9::En σ js) H9 s9->m'<n->W (i+1) m' H9->∃m,m<n/\∃i o o2 H',Inv X' [] (o::o2::En σ js) H' s9/\tn i s9.heap/\(∀b∈fp,H' b=none)/\W i m H':=λ{H9 s9 m' o9} I9 hm w9=>by
    refine ⟨m',hm,i+1,some y,o9,H9,I9.unpinned,T.keep _ _ _ st8 λb hb o e=>(I9.pin (b,o) (Ag _ (Ag _ (Gg hb e)))).1,λb hb=>?_,w9⟩
    obtain ⟨o,e,_⟩:=T.obj _ _ st8 b hb
    exact (I9.pin (b,o) (Ag _ (Ag _ (Gg hb e)))).2.1
   subst hX'
   refine Fv (Kh (i:=0) (x:=x) (pos:=px) nd2 rfl (Rp C.own) (Vf C.own) _ s8 _ H8 y u (λσ' H'=>σ'=some y::o2::En σ js/\H'=H8) I8' r8 ⟨rfl,rfl⟩) λ_ s9 q0_ => ?_
   obtain ⟨σ9,H9,I9,e9,e9'⟩ := q0_
   subst e9 e9'
   refine Fv (hi2 fp s3 _ _ s9 _ _ _ I9 stp) λv2 s10 h10=>Fv h10 λitv2 s11 h11=>?_
   obtain ⟨it2,fp2,tn2,J2,H11,e11,I11,T2,st11,f11,W2,⟨m20,w20⟩,turn2⟩:=h11
   subst e11
   have stat2:∀{H':Hp},(∀b∈fp2,H' b=none)->∀b∈fp2,Lw (Ec X scope cl (x::x2::ys) fp s3 (upd H2 s2.heap.objs.size (.lst []))) ([]++Oe fp s8.heap) H' b:=λhn b hb=>⟨hn b hb,(f11 b hb).2⟩
   have loop2:Hm (model X.prog X.w) X.A (.compLoop (.ListComp elt [⟨.Name x px,iter,[],0⟩,⟨.Name x2 px2,iter2,[],0⟩] scope pos) 1 (.ref it2) (.ref s2.heap.objs.size) (Wo scope (Ed (s3.heap.objs.size+1) scope.names cl) s3.heap.objs.size X.env))
     (λr s6=>match r with | .ok _=>∃m,m<n/\∃i o o2 H',Inv (Ec X scope cl (x::x2::ys) fp s3 (upd H2 s2.heap.objs.size (.lst []))) [] (o::o2::En σ js) H' s6/\tn i s6.heap/\(∀b∈fp,H' b=none)/\W i m H' | .error _=>False) s11:=by
    refine eZ (λn2 s'=>∃i2 o2 H',Inv (Ec X scope cl (x::x2::ys) fp s3 (upd H2 s2.heap.objs.size (.lst []))) ([]++Oe fp s8.heap) (some y::o2::En σ js) H' s'/\tn2 i2 s'.heap/\(∀b∈fp2,H' b=none)/\W2 i2 n2 H') ?_ m20
     ⟨0,o2,H11,I11,st11,λb hb=>(f11 b hb).1,w20⟩
    (intro n2 s12 q_; obtain ⟨i2,p2,H12,I12,st12,fr12,w12⟩ := q_)
    rcases turn2 i2 n2 H12 w12 with ⟨stop2,m',hm',w'⟩ | ⟨go2,step2⟩
    ·have hd:=T2.done _ rfl rfl rfl hc i2 _ s12 _ H12 (λ_ _=>False) I12 (stat2 fr12) st12 stop2
     refine Fv hd λr s13 q0_ => ?_
     obtain ⟨hr,I13⟩ := q0_
     subst hr
     exact again I13 hm' w'
    ·have hit2:=T2.item _ rfl rfl rfl hc i2 _ s12 _ H12 (λ_ _=>False) I12 (stat2 fr12) st12 go2
     refine Fv hit2 λr s13 q0_ => ?_
     obtain ⟨u2,hr,h13⟩ := q0_
     subst hr
     refine Fv h13 λ_ s14 q0_ => ?_
     obtain ⟨z,H14,I14,r14,y14,st14,fr14⟩ := q0_
     have I14':=I14.pinned (stat2 fr14) (T2.obj _ _ st14)
     refine Fv (Kh (i:=1) (x:=x2) (pos:=px2) nd2 rfl (Rp own2) (Vf own2) _ s14 _ H14 z u2 (λσ' H'=>σ'=some y::some z::En σ js/\H'=H14) I14' r14 ⟨rfl,rfl⟩) λ_ s15 q0_ => ?_
     obtain ⟨σ15,H15,I15,e15,e15'⟩ := q0_
     subst e15 e15'
     refine Fv (he fp s3 _ _ s15 _ _ _ I15 (step2 z H15 y14)) λzv s16 q0_ => ?_
     obtain ⟨vz,H16,I16,r16,q16⟩ := q0_
     obtain ⟨acc,ha,hz,m2',hm2,w16⟩:=q16
     refine Fv (Lc _ s16 _ H16 (.ref s2.heap.objs.size) [vz] (.ref s2.heap.objs.size) [zv] (λ_ H'=>H'=upd H16 s2.heap.objs.size (.lst (acc++[vz]))) I16 rfl (.cons r16 .nil) ⟨_,acc,vz,rfl,rfl,ha,hz,rfl⟩) λ_ s17 q0_ => ?_
     obtain ⟨_,H17,I17,_,e17⟩ := q0_
     subst e17
     refine ⟨m2',hm2,i2+1,some z,_,I17.unpinned,T2.keep _ _ _ st14 λb hb o e=>(I17.pin (b,o) (Ag _ (Ag _ (Gg hb e)))).1,λb hb=>?_,w16⟩
     obtain ⟨o,e,_⟩:=T2.obj _ _ st14 b hb
     exact (I17.pin (b,o) (Ag _ (Ag _ (Gg hb e)))).2.1
   exact aI loop2 (T2.self X.A 0 _ _ _ st11 loop2)
 exact Mj (loop _ rfl) (T.self X.A 0 _ _ _ st4 (loop _ rfl))
end
end Nd
namespace DL
open PySem L2 Nd
def al(e:Ent):Ent:=match e.x with
 | .dat m d=>⟨e.v,.dat (hZ m) d,e.F⟩
 | .val _=>e
 | .scr _=>e
 | _=>⟨e.v,.un,[]⟩
def alD:DV->DV
 | .dat m d=>.dat (hZ m) d
 | .val v=>.val v
 | .scr ns=>.scr ns
 | _=>.un
def uP(S:List Ent)(j:Nat):Ent:=match S[j]? with
 | some e=>al e
 | none=>⟨none,.un,[]⟩
def p9(S:List Ent)(js:List Nat):List Ent:=js.map (uP S)
def frD1(sl:List DV)(j:Nat):DV:=match sl[j]? with
 | some x=>alD x
 | none=>.un
def frD(sl:List DV)(js:List Nat):List DV:=js.map (frD1 sl)
theorem BK(e:Ent):(al e).v=e.v:=by
 obtain ⟨v,x,F⟩:=e
 cases x <;> rfl
theorem CD(e:Ent):(al e).x=alD e.x:=by
 obtain ⟨v,x,F⟩:=e
 cases x <;> rfl
theorem W9(S:List Ent)(js:List Nat):vs (p9 S js)=En (vs S) js:=by
 unfold vs p9 En
 rw[Da]
 refine Gn λj _=>?_
 rw[Bo]
 simp only[Function.comp,uP]
 cases S[j]? with
 | none=>rfl
 | some e=>exact BK e
theorem Z6{S:List Ent}{δ:DS}(h:Sl S δ)(js:List Nat):(p9 S js).map Ent.x=frD δ.sl js:=by
 unfold Sl at h
 unfold p9 frD
 rw[Da]
 refine Gn λj _=>?_
 simp only[Function.comp,uP,frD1]
 rw[<- h,Bo]
 cases S[j]? with
 | none=>rfl
 | some e=>exact CD e
section
variable{K:PySem.W.Frag}{H0 H H':Hp}{X:Addr->Prop}{n:Nat}{E S T:List Ent}
theorem iV(e:Ent):cells (al e)=[]:=by
 obtain ⟨v,x,F⟩:=e
 cases x with
 | dat m d=>cases m <;> rfl
 | _=>rfl
theorem At.view1(h:At K H0 X n E H){e:Ent}(he:e∈E):At K H0 X n (al e::E) H:=by
 refine h.push ?_ (λf hf=>⟨λ_ a ha=>(by rw[iV] at ha; cases ha),λhq a ha z=>?_⟩) λa ha=>(by rw[iV] at ha; cases ha)
 ·have:=h.ok e he
  obtain ⟨v,x,F⟩:=e
  cases x with
  | dat m d =>
   obtain ⟨w,h1,h2,_⟩:=this
   exact ⟨w,h1,h2,λz=>(by cases m <;> cases z),λz=>(by cases m <;> cases z)⟩
  | val v=>exact this
  | scr ns=>exact this
  | _=>exact (rfl:([]:List Addr)=[])
 ·obtain ⟨v,x,F⟩:=e
  cases x with
  | dat m d =>
   rcases jH h he hf with rfl | q
   ·rcases hq with hq | hq
    ·cases m <;> first | cases hq; done | exact nomatch ha
    ·cases hq
   ·refine q.2 ?_ a ha z
    rcases hq with hq | hq
    ·refine .inl ?_
     cases m <;> first | rfl | exact hq
    ·exact .inr hq
  | val v =>
   rw[show F=[] from (h.ok _ he).2] at z
   cases z
  | scr ns =>
   obtain ⟨_,_,hF,_⟩:=h.ok _ he
   rw[show F=[] from hF] at z
   cases z
  | _=>exact nomatch z
theorem At.blank(h:At K H0 X n E H){v:Option V}:At K H0 X n (⟨v,.un,[]⟩::E) H :=
 h.push (rfl:([]:List Addr)=[]) (λf _=>⟨λ_ a ha=>(nomatch ha),λ_ a _=>Bk⟩) (λa ha=>(nomatch ha))
theorem At.view(h:At K H0 X n E H)(hS:∀e∈S,e∈E):∀js:List Nat,At K H0 X n (p9 S js++E) H
 | []=>h
 | j::js=>by
  have ih:=At.view h hS js
  show At K H0 X n (uP S j::(p9 S js++E)) H
  unfold uP
  cases e:S[j]? with
  | none=>exact ih.blank
  | some x=>exact ih.view1 (Ag _ (hS x (Ba e)))
theorem At.accNew(h:At K H0 X n E H){D:Addr}(hD:H D=Option.none):At K H0 X n (⟨some (.ref D),.acc [],[D]⟩::E) (upd H D (.lst [])):=by
 have s1:=Eo hD (.lst [])
 refine (h.grow (n':=n) s1 (Ah _)).push ⟨D,[],[],rfl,rfl,Ct,.nil,Cy _,Bk⟩ (λf hf=>?_) λa ha=>?_
 ·have nf:=h.free hD f hf
  refine ⟨λ_ a ha z=>?_,λ_ a ha z=>?_⟩
  ·rw[Ae.mp ha] at z
   exact nf z
  ·rw[Ae.mp z] at ha
   exact nf (Hv _ _ ha)
 ·rw[Ae.mp ha]
  exact .inl (h.new0 hD)
theorem At.accPutG{D:Addr}{ds:List Af}{v:V}{m:Md}{e:Af}{F G:List Addr}(h:At K H0 X n (⟨some (.ref D),.acc ds,D::G⟩::⟨some v,.dat m e,F⟩::E) H)(hm:m≠.pk)(hz:ds.length+1<=Bd):∃xs,H D=some (.lst xs)/\xs.length=ds.length/\At K H0 X n (⟨some (.ref D),.acc (ds++[e]),D::(G++F)⟩::E) (upd H D (.lst (xs++[v]))):=by
 obtain ⟨a,xs,G',e1,e0,ha,ra,_,nG⟩:=h.ok _ Aa
 have e1':some (V.ref D)=some (V.ref a):=e1
 cases e1'
 have e0':D::G=D::G':=e0
 cases e0'
 have r:RdF K H v e F:=h.told (Ad _ Aa)
 have hs:=Bm.mp h.sep
 have hs2:=Bm.mp hs.2
 have h1:=(h.sub (Ea _ _)).sub (Ea _ _)
 have npk:Pr (.dat m e)=false:=by cases m <;> first | rfl | exact absurd rfl hm
 have nF:D∉F:=(hs.1 _ Aa).1 (.inr rfl) D Aa
 have kp:∀{F:List Addr},D∉F->Kp F H (upd H D (.lst (xs++[v]))):=λ{F} hF b o q z=>by
  have : b≠D:=by
   rintro rfl
   rw[ha] at q
   cases q
   rcases z with z | z
   ·exact hF z
   ·rcases z with ⟨_,z⟩ | ⟨_,_,z⟩ <;> cases z
  rw[Ej this]
  exact q
 have nD:H0 D=Option.none:=by
  rcases h.new _ Aa D Aa with z | z
  ·exact z
  ·cases z.2
 refine ⟨xs,ha,ra.len,?_⟩
 refine ⟨λf hf=>?_,?_,λf hf=>?_,λb o nx q=>?_,λb o q=>?_,λb hb=>?_⟩
 rotate_right
 ·obtain ⟨z,c,k,f,h1,h2⟩:=h.xd b hb
  refine ⟨z,c,k,f,(Ej ?_).trans h1,h2⟩
  rintro rfl
  exact z nD
 ·rcases Am.mp hf with rfl | hf
  ·exact ⟨D,xs++[v],G++F,rfl,rfl,Ct,(ra.kp (kp nG)).snoc (r.kp (kp nF)),by rw[Ax]; exact hz,λz=>(Ay.mp z).elim nG nF⟩
  ·exact (h1.ok f hf).kp (kp ((hs.1 f (Ad _ hf)).1 (.inr rfl) D Aa)) (Ah _)
 ·refine Bm.mpr ⟨λf hf=>⟨λhq a ha'=>(hs.1 f (Ad _ hf)).1 (.inr rfl) a ha',λhq a ha' z=>?_⟩,hs2.2⟩
  have z1:=(hs.1 f (Ad _ hf)).2 (.inl rfl) a ha'
  rcases Am.mp z with z | z
  ·exact z1 (z▸Aa)
  ·rcases Ay.mp z with z | z
   ·exact z1 (Ad _ z)
   ·exact (hs2.1 f hf).2 (.inl npk) a ha' z
 ·rcases Am.mp hf with rfl | hf
  ·intro a ha'
   rw[Ae.mp ha']
   exact .inl nD
  ·exact h1.new f hf
 ·rw[Ej (Ge q nD)]
  exact h.same b o nx q
 ·rw[Ej (Ge q nD)]
  exact h.dom b o q
theorem At.accPut{D:Addr}{ds:List Af}{v:V}{e:Af}(h:At K H0 X n (⟨some (.ref D),.acc ds,[D]⟩::E) H)(r:RdF K H v e [])(hz:ds.length+1<=Bd):∃xs,H D=some (.lst xs)/\xs.length=ds.length/\At K H0 X n (⟨some (.ref D),.acc (ds++[e]),[D]⟩::E) (upd H D (.lst (xs++[v]))) :=
 At.accPutG (m:=.ow) (At.pushI (S:=[⟨some (.ref D),.acc ds,[D]⟩]) h r) (by decide) hz
def mN:Bool->Md
 | true=>.ow
 | false=>.tp
theorem At.accGetG{D:Addr}{ds:List Af}{b:Bool}{G:List Addr}(h:At K H0 X n (⟨some (.ref D),.acc ds,D::G⟩::E) H)(hb:b=true->G=[]):At K H0 X n (⟨some (.ref D),.dat (mN b) (.list ds),D::G⟩::E) H:=by
 obtain ⟨a,xs,G',e1,e0,ha,ra,hz,nG⟩:=h.ok _ Aa
 have e1':some (V.ref D)=some (V.ref a):=e1
 cases e1'
 have e0':D::G=D::G':=e0
 cases e0'
 have hs:=Bm.mp h.sep
 have cs:∀a∈cells ⟨some (.ref D),.dat (mN b) (.list ds),D::G⟩,a=D:=λa ha'=>by
  cases b with
  | true=>rw[hb rfl] at ha'; exact Ae.mp ha'
  | false=>exact Ae.mp ha'
 refine (h.sub (Ea _ _)).push ⟨_,rfl,.lst ha hz ra,λz=>?_,λ_ a l e=>?_⟩ (λf hf=>⟨λhq a ha'=>?_,λhq a ha'=>(hs.1 f hf).2 (.inl rfl) a ha'⟩) λa ha'=>?_
 ·cases b with
  | true=>rw[hb rfl]; exact Bs.mpr ⟨Bk,Ee⟩
  | false=>cases z
 ·have e:D::G=a::l:=e
  cases e
  exact nG
 ·rw[cs a ha']
  exact (hs.1 f hf).1 (.inr rfl) D Aa
 ·rw[cs a ha']
  rcases h.new _ Aa D Aa with z | z
  ·exact .inl z
  ·cases z.2
end
def eB:DT:=λδ P=>P true δ
def P3(b:Bool)(m:Md)(e:Af):Prop:=match b with
 | true=>imm e=true
 | false=>m≠.pk
def Vu(b:Bool)(dc:DT)(de:DE)(δ:DS)(yes:Af->Nat->Prop)(no:Nat->Prop):Prop:=dc δ λc δ2=>match c with
 | true=>de δ2 λy δ3=>match y with
  | .dat m e=>P3 b m e/\yes e δ3.n
  | _=>False
 | false=>no δ2.n
def sJ(b:Bool)(di:DI)(js:List Nat)(dc:DT)(de:DE):DE:=λδ P=>di δ λm ds δ1=>∃I:Nat->List Af->Nat->Prop,I 0 [] δ1.n /\
 (∀i d acc n,ds[i]? = some d->I i acc n->Vu b dc de ⟨.dat m d::frD δ1.sl js,n⟩ (λe n'=>I (i+1) (acc++[e]) n') (λn'=>I (i+1) acc n')) /\
 ∀acc n,I ds.length acc n->P (.dat (mN b) (.list acc)) ⟨δ1.sl,n⟩
def Ul:DT->DE->DS->(Af->Nat->Prop)->(Nat->Prop)->Prop:=Vu true
def sI:DI->List Nat->DT->DE->DE:=sJ true
section
variable{K:PySem.W.Frag}{H0 H H':Hp}{Y:Addr->Prop}{n:Nat}{E S T:List Ent}
theorem tD{b:Bool}{dc:DT}{de:DE}{δ:DS}{yes:Af->Nat->Prop}{no:Nat->Prop}{D:Addr}{G:List Addr}{acc:List Af}{N1:Hp->Prop}{N2:VK}(hS:Sl S δ)(hb:b=true->G=[])(hA:At K H0 Y δ.n (S++⟨some (.ref D),.acc acc,D::G⟩::T) H)(h:Vu b dc de δ yes no)(hz:acc.length+1<=Bd)(k1:∀n' H',At K H0 Y n' (⟨some (.ref D),.acc acc,D::G⟩::T) H'->no n'->N1 H')(k2:∀e n' v H' G',(b=true->G'=[])->(∃xs,H' D=some (.lst xs)/\xs.length=acc.length/\At K H0 Y n' (⟨some (.ref D),.acc (acc++[e]),D::G'⟩::T) (upd H' D (.lst (xs++[v]))))->yes e n'->N2 v H'):LT K dc (vs S) H λc H2=>if c=true then LE K de (vs S) H2 N2 else N1 H2:=by
 refine ⟨H0,Y,S,⟨some (.ref D),.acc acc,D::G⟩::T,δ,_,rfl,hS,hA,h,λc δ2 S2 H2 e1 e2 hA2 p2=>?_⟩
 cases c with
 | false=>exact qA (k1 _ _ (hA2.sub (Dy _ _)) p2)
 | true =>
  refine qH ⟨H0,Y,S2,⟨some (.ref D),.acc acc,D::G⟩::T,δ2,_,e1,e2,hA2,p2,λy δ3 v F S3 H3 e3 e4 hA3 p3=>?_⟩
  split at p3
  ·rename_i m e
   have r:=hA3.told mem_mid
   cases b with
   | true =>
    obtain rfl:=r.imm p3.1
    obtain rfl:=hb rfl
    exact k2 _ _ _ _ [] (λ_=>rfl) ((hA3.drop.sub (Dy _ _)).accPut r hz) p3.2
   | false =>
    have hA4:At K H0 Y δ3.n (⟨some v,.dat m e,F⟩::⟨some (.ref D),.acc acc,D::G⟩::T) H3:=hA3.sub (Dy _ _)
    exact k2 _ _ _ _ (G++F) (λz=>nomatch z) ((hA4.perm (Ht _ _ _)).accPutG p3.1 hz) p3.2
  ·exact p3.elim
theorem qN{dt:TT}:∀σ H Q,LT K eB σ H Q->eO σ H Q:=by
 intro σ H Q h
 obtain ⟨H0,Y,S,T,δ,P,rfl,hS,hA,hd,k⟩:=h
 exact k true δ S H rfl hS hA hd
theorem wN.imp{X:Cx}{e:List Expr}{t t':TT}(h:wN X e t)(k:∀σ H Q,t' σ H Q->t σ H Q):wN X e t':=λpins s σ H Q I q=>h pins s σ H Q I (k σ H Q q)
theorem mQ{b:Bool}{di:DI}{js:List Nat}{dc:DT}{de:DE}:∀σ H Q,LE K (sJ b di js dc de) σ H Q->mG (LI K di) js (LT K dc) (LE K de) σ H Q:=by
 intro σ H Q h
 obtain ⟨H0,Y,S,T,δ,P,rfl,hS,hA,hd,k⟩:=h
 refine ⟨H0,Y,S,T,δ,_,rfl,hS,hA,hd,λm ds δ1 J hid S1 H1 e1 e2 hA1 it hz p1=>?_⟩
 obtain ⟨I,h0,hs,hf⟩:=p1
 rw[<- e1]
 intro D hD
 refine ⟨λi q H=>q=ds.length - i/\i<=ds.length/\∃acc n G,(b=true->G=[])/\At K H0 Y n (⟨some (.ref D),.acc acc,D::G⟩::(S1++(hid++T))) H/\acc.length<=i/\I i acc n,⟨ds.length,by simp,Cy _,[],δ1.n,[],λ_=>rfl,hA1.accNew hD,Ah _,h0⟩,?_⟩
 (intro i q H q_; obtain ⟨rfl,hi,acc,n,G,hG,hA2,hl,hI⟩ := q_)
 have hid_ok:∀e∈hid,Ke K H n e:=λe he=>hA2.ok e (Ad _ (Ag _ (An _ he)))
 by_cases hlt:i<ds.length
 ·refine .inr ⟨it.go H n i hid_ok hlt,λx H' y=>?_⟩
  obtain ⟨s1,d,F,h1,h2,h3⟩:=it.yld H n i x H' hid_ok hlt y
  have hA3:At K H0 Y n ((⟨some (.ref D),.acc acc,D::G⟩::S1)++⟨some x,.dat m d,F⟩::(hid++T)) H':=At.item (S:=⟨some (.ref D),.acc acc,D::G⟩::S1) hA2 s1 h2 h3 it.md it.hd it.np
  have hA4:=hA3.mid
  have hA5:=At.view (S:=S1) hA4 (λe he=>Ad _ (An _ (Ad _ he))) js
  have hA6:At K H0 Y n ((⟨some x,.dat m d,F⟩::p9 S1 js)++⟨some (.ref D),.acc acc,D::G⟩::(S1++(hid++T))) H':=hA5.mid
  have hS6:Sl (⟨some x,.dat m d,F⟩::p9 S1 js) ⟨.dat m d::frD δ1.sl js,n⟩:=by
   unfold Sl
   rw[Bh,Z6 e2]
  have hv:vs (⟨some x,.dat m d,F⟩::p9 S1 js)=some x::En (vs S1) js:=by
   rw[<- W9]
   rfl
  refine ⟨λH2=>∃m',m'<ds.length - i/\_,λy H3=>∃acc,H3 D=some (.lst acc)/\acc.length<Bd/\∃m',m'<ds.length - i/\_,λH2 q=>q,λy H3 q=>q,?_⟩
  rw[<- hv]
  refine tD hS6 hG hA6 (hs i d acc n h1 hI) (by omega) (λn' H2 hA7 p=>?_) (λe n' v H2 G' hG' hA7 p=>?_)
  ·exact ⟨ds.length - (i+1),by omega,rfl,hlt,acc,n',G,hG,hA7,by omega,p⟩
  ·obtain ⟨xs,g1,g2,g3⟩:=hA7
   exact ⟨xs,g1,by omega,ds.length - (i+1),by omega,rfl,hlt,acc++[e],n',G',hG',g3,by rw[Ax]; simp; omega,p⟩
 ·have e:i=ds.length:=by omega
  subst e
  refine .inl ⟨it.stop H n hid_ok,k _ ⟨δ1.sl,n⟩ _ (D::G) S1 H e1 e2 ?_ (hf acc n hI)⟩
  have hA3:=hA2.accGetG hG
  have hA4:At K H0 Y n (⟨some (.ref D),.dat (mN b) (.list acc),D::G⟩::(S1++T)) H:=hA3.sub (((Em S1).append (Dy hid T)).cons₂ _)
  exact hA4.tomid
end
section
variable{X:Cx}{elt iter c:Expr}{x x2 y0:Str}{px px2 pt py pos spos:Pos}{kt i0:Nat}{ifs:List Expr}{scope:Scope}{cl:List (Str×Addr)}{ys:List Str}{js:List Nat}{di:DI}{dc:DT}{de:DE}
theorem Yd:wN X [] (LT X.K eB):=wN.imp iE (qN (dt:=eO))
theorem cZ(h:aR X c dc):wN X [c] (LT X.K dc):=zC h
theorem Ud(C:CompScope X scope cl x ys js)(hc:X.calm=true)(hi:e8 X (.Name x px) iter di)(ht:∀fp s H,wN (Ec X scope cl (x::ys) fp s H) ifs (LT X.K dc))(he:∀fp s H,Fe (Ec X scope cl (x::ys) fp s H) elt de)(hs:∀x,Dm iter X.env x=pure x:=by intro _; rfl):Fe X (.ListComp elt [⟨.Name x px,iter,ifs,0⟩] scope pos) (sI di js dc de):=PE.imp (mS C hc hi ht he hs) mQ
def AY(o:Bool)(i:Nat):DG:=match o with
 | true=>Yy i
 | false=>Qg i
theorem X5{K:PySem.W.Frag}{o:Bool}{i:Nat}:∀v σ H Q,LG K (AY o i) v σ H Q->Sg i v σ H Q:=by
 cases o with
 | true=>exact jU
 | false=>exact dN
theorem yV{o:Bool}(hN:X.N.Nodup)(hi0:X.N[i0]? = some y0)(hy0:X.env.scope.names.lookup y0=some .local)(C:CompScope X scope cl x ys js)(hc:X.calm=true)(hi:e8 X (.Name x px) iter di)(ht:∀fp s H,wN (Ec X scope cl (x::ys) fp s H) ifs (LT X.K dc))(he:∀fp s H,Fe (Ec X scope cl (x::ys) fp s H) elt de)(hs:∀x,Dm iter X.env x=pure x:=by intro _; rfl)(hsw:Jw (.ListComp elt [⟨.Name x px,iter,ifs,0⟩] scope pos) (some (.Name y0 py)) spos.line X.env=pure true:=by rfl):iF X (.Assign [.Name y0 py] (.ListComp elt [⟨.Name x px,iter,ifs,0⟩] scope pos) spos) (kK (sI di js dc de) (AY o i0)):=PS.impD (o8 hN hi0 hy0 C hc hi ht he hs hsw) (Yu mQ X5)
end
end DL
namespace DL
open PySem PySem.Spec PyProof.Rows L2 Nd
section
variable{K:PySem.W.Frag}{H0 H H':Hp}{X:Addr->Prop}{n n':Nat}{E S T:List Ent}
theorem At.pushF(h:At K H0 X n E H){v:V}{d:Af}{F:List Addr}(r:RdF K H v d F)(nd:F.Nodup)(fr:∀a∈F,∀f∈E,a∉f.F)(f0:∀a∈F,H0 a=none):At K H0 X n (⟨some v,.dat .ow d,F⟩::E) H:=by
 refine h.push ⟨v,rfl,r,λ_=>nd,λz=>nomatch z⟩ (λf hf=>⟨λ_ a ha z=>fr a ha f hf z,λ_ a ha z=>fr a z f hf (Hv _ _ ha)⟩) λa ha=>.inl (f0 a ha)
theorem At.drawn(h:At K H0 X n E H){e:Ent}{dr:Addr}(he:e∈E)(hx:e.x=.drw)(hv:e.v=some (.ref dr))(s:Wk dr H H')(hd:∃c k f,aP H' dr c k f/\0<=k/\k<=(n':Int))(hn:n<=n'):At K H0 X n' E H':=by
 obtain ⟨v,x,F⟩:=e
 have hx':x=.drw:=hx
 subst hx'
 obtain ⟨dr',c0,k0,f0,hv',hF,hd0,_⟩:=h.ok _ he
 have e1:some (V.ref dr)=some (V.ref dr'):=hv.symm.trans hv'
 cases e1
 have hF':F=[dr]:=hF
 subst hF'
 refine ⟨λf hf=>?_,h.sep,h.new,λb o nx q=>?_,λb o q=>?_,λb hb=>?_⟩
 rotate_right
 ·obtain ⟨z,c,k,f,h1,h2,h3⟩:=h.xd b hb
  by_cases hbd:b=dr
  ·subst hbd
   exact ⟨z,hd⟩
  ·exact ⟨z,c,k,f,s _ _ hbd h1,h2,by omega⟩
 ·rcases jH h he hf with rfl | q
  ·obtain ⟨c,k,fl,h1,h2,h3⟩:=hd
   exact ⟨dr,c,k,fl,hv',rfl,h1,h2,h3⟩
  ·have nf:dr∉f.F:=q.1 (.inr rfl) dr Aa
   refine (h.ok f hf).kp (λb o eb z=>?_) hn
   by_cases hb:b=dr
   ·subst hb
    rcases z with z | z
    ·exact absurd z nf
    ·have hd0':H b=some (.lst _):=hd0
     rw[eb] at hd0'
     cases hd0'
     rcases z with ⟨_,z⟩ | ⟨_,_,z⟩ <;> cases z
   ·exact s b o hb eb
 ·have hb:b≠dr:=by
   rintro rfl
   rcases h.new _ he b Aa with z | z
   ·rw[z] at q; cases q
   ·exact nx z.1
  exact s b o hb (h.same b o nx q)
 ·by_cases hb:b=dr
  ·subst hb
   obtain ⟨c,k,fl,h1,_⟩:=hd
   exact ⟨_,h1⟩
  ·obtain ⟨o',z⟩:=h.dom b o q
   exact ⟨o',s b o' hb z⟩
end
abbrev PF:=List Af->(Af->Prop)->Prop
abbrev DF:=List Af->Nat->(Af->Nat->Prop)->Prop
def Nj(K:PySem.W.Frag)(pf:PF):Sp:=λus H Q _=>∃(As:List Ent) (n:Nat) (ds:List Af) (R:Af->Prop),As.map Ent.v=us.map some/\(∀e∈As,Ke K H n e)/\datas (As.map Ent.x)=some ds/\pf ds R /\
 ∀v d F H',R d->RdF K H' v d F->F.Nodup->(∀a∈F,H a=none)->Lg H H'->Q v H'
def V0(K:PySem.W.Frag)(df:DF):Sp:=λus H Q _=>∃(dr:Addr) (ws:List V) (As:List Ent) (n:Nat) (ds:List Af) (R:Af->Nat->Prop),us=.ref dr::ws/\As.map Ent.v=ws.map some/\(∀e∈As,Ke K H n e)/\(∀e∈As,dr∉e.F)/\(∃c k f,aP H dr c k f/\0<=k/\k<=(n:Int))/\datas (As.map Ent.x)=some ds/\df ds n R /\
 ∀v d F n' H',n<=n'->R d n'->RdF K H' v d F->F.Nodup->(∀a∈F,H a=none)->(∃c k f,aP H' dr c k f/\0<=k/\k<=(n':Int))->Wk dr H H'->Q v H'
def uF(pf:PF)(da:DA):DE:=λδ P=>da δ λxs δ1=>match datas xs with
 | some ds=>pf ds λd=>P (.dat .ow d) δ1
 | none=>False
def lK(i:Nat)(df:DF)(da:DA):DE:=λδ P=>match δ.sl[i]? with
 | some .drw=>da δ λxs δ1=>match δ1.sl[i]? with
  | some .drw=>match datas xs with
   | some ds=>df ds δ1.n λd n'=>P (.dat .ow d) ⟨δ1.sl,n'⟩
   | none=>False
  | _=>False
 | _=>False
section
variable{X:Cx}{CX:pT}{k:Nat}{f:Addr}{fd:Co}{ps:List Str}{pf:PF}{df:DF}{E:XK}{x:Str}{p pos:Pos}{e e0:Expr}{es:List Expr}{da:DA}
theorem Fn(F:FnOk X.prog X.w X.K X.mg X.base CX k f fd ps (Nj X.K pf))(hr:Room k X.A)(hg:Gl X x)(hm:X.mg x=some (.ref f))(hk:PySem.W.keepIn X.K (.ref f)=true)(hb:Binds X.K fd ps [])(hx:Qt CX X E)(ha:jY X (e::es) da)(hdb:(x == ("__debug__" : Str))=false:=by decide)(he:Bn (e::es) X.env=(false,eval e X.env)::Bn es X.env:=by rfl)(hpl:(Hx pos (Bn es X.env)).any (·.1)=false:=by rfl):Fe X (.Call (.Name x p) (e::es) [] pos) (uF pf da):=by
 refine PE.imp (Xj F hr hg hm hk hb .nil hx ha hdb he hpl) λσ H Q h=>?_
 obtain ⟨H0,Y,S,T,δ,P,rfl,hS,hA,hd,kk⟩:=h
 refine ⟨H0,Y,S,T,δ,_,rfl,hS,hA,hd,λxs δ' As us S' H' e1 e2 ex eu hA' p=>?_⟩
 subst ex
 cases q:datas (As.map Ent.x) with
 | none=>rw[q] at p; exact p.elim
 | some ds =>
  rw[q] at p
  rw[Dg]
  refine ⟨As,δ'.n,ds,_,eu,λe he=>hA'.ok e (Ag _ (An _ he)),q,p,λv d F H'' r rd nd fr s=>?_⟩
  exact kk _ δ' v F S' H'' e1 e2 (((hA'.dropL.grow s (Ah _)).pushF rd nd (λa ha=>hA'.dropL.free (fr a ha)) (λa ha=>hA'.new0 (fr a ha))).tomid) r
theorem sY(F:FnOk X.prog X.w X.K X.mg X.base CX k f fd ps (Nj X.K pf))(hr:Room k X.A)(hg:Gl X x)(hm:X.mg x=some (.ref f))(hk:PySem.W.keepIn X.K (.ref f)=true)(hb:Binds X.K fd ps [])(hx:Qt CX X E)(hdb:(x == ("__debug__" : Str))=false:=by decide):Fe X (.Call (.Name x p) [] [] pos) (uF pf F3):=by
 refine PE.imp (xO F hr hg hm hk hb .nil hx hdb) λσ H Q h=>?_
 obtain ⟨H0,Y,S,T,δ,P,rfl,hS,hA,hd,kk⟩:=h
 show Nj X.K pf [] H Q E
 refine ⟨[],δ.n,[],_,rfl,λe he=>(nomatch he),rfl,hd,λv d F H'' r rd nd fr s=>?_⟩
 exact kk _ δ v F S H'' rfl hS (((hA.grow s (Ah _)).pushF rd nd (λa ha=>hA.free (fr a ha)) (λa ha=>hA.new0 (fr a ha))).tomid) r
theorem Qj{i:Nat}(F:FnOk X.prog X.w X.K X.mg X.base CX k f fd ps (V0 X.K df))(hr:Room k X.A)(hg:Gl X x)(hm:X.mg x=some (.ref f))(hk:PySem.W.keepIn X.K (.ref f)=true)(hb:Binds X.K fd ps [])(hx:Qt CX X E)(h0:PE X e0 (Pp i))(ha:jY X es da)(hdb:(x == ("__debug__" : Str))=false:=by decide)(he:Bn (e0::es) X.env=(false,eval e0 X.env)::Bn es X.env:=by rfl)(hpl:(Hx pos (Bn es X.env)).any (·.1)=false:=by rfl):Fe X (.Call (.Name x p) (e0::es) [] pos) (lK i df da):=by
 refine PE.imp (Xj F hr hg hm hk hb .nil hx (Fi h0 ha he) hdb he hpl) λσ H Q h=>?_
 obtain ⟨H0,Y,S,T,δ,P,rfl,hS,hA,hd,kk⟩:=h
 unfold lK at hd
 split at hd
 case h_2=>exact hd.elim
 rename_i hsl0
 have main:∀w,(vs S)[i]? = some (some w)->LA X.K da (vs S) H λxs H2=>V0 X.K df ((w::xs)++[]) H2 Q E:=λw hw=>by
  refine ⟨H0,Y,S,T,δ,_,rfl,hS,hA,hd,λxs δ' As us S' H' e1 e2 ex eu hA' p=>?_⟩
  subst ex
  split at p
  ·rename_i hsl
   obtain ⟨ent,s1,s2⟩:=Kg e2 hsl
   have hm':ent∈S':=Ba s1
   have hv:ent.v=some w:=by
    have:=Oj s1
    rw[e1,hw] at this
    exact (Bz this).symm
   obtain ⟨u,z,F⟩:=ent
   have s2':z=.drw:=s2
   subst s2'
   have hE:(⟨u,.drw,F⟩ : Ent)∈S'++(As++T):=An _ hm'
   obtain ⟨dr,c0,k0,f0,hv0,hF0,hd0,hk0,hk1⟩:=hA'.ok _ hE
   have ew:some w=some (V.ref dr):=hv.symm.trans hv0
   cases ew
   have hF':F=[dr]:=hF0
   subst hF'
   cases q:datas (As.map Ent.x) with
   | none=>rw[q] at p; exact p.elim
   | some ds =>
    rw[q] at p
    rw[Dg]
    refine ⟨dr,us,As,δ'.n,ds,_,rfl,eu,λe he=>hA'.ok e (Ag _ (An _ he)),λe he=>?_,⟨c0,k0,f0,hd0,hk0,hk1⟩,q,p,λv d F n' H'' hn r rd nd fr hdr s=>?_⟩
    ·obtain ⟨_,_,hp⟩ := Cg.mp hA'.sep
     exact (hp _ hm' e (An _ he)).1 (.inr rfl) dr Aa
    ·have hA2:=hA'.dropL.drawn (An _ hm') rfl hv s hdr hn
     exact kk _ ⟨δ'.sl,n'⟩ v F S' H'' e1 e2 ((hA2.pushF rd nd (λa ha=>hA'.dropL.free (fr a ha)) (λa ha=>hA'.new0 (fr a ha))).tomid) r
  ·exact p.elim
 obtain ⟨ent,s1,s2⟩:=Kg hS hsl0
 have hm':ent∈S:=Ba s1
 obtain ⟨u,z,F⟩:=ent
 have s2':z=.drw:=s2
 subst s2'
 obtain ⟨dr,c0,k0,f0,hv0,_⟩:=hA.ok _ (An _ hm')
 have hw:(vs S)[i]? = some (some (.ref dr)):=(Oj s1).trans (congrArg some hv0)
 exact ⟨_,hw,main _ hw⟩
def Uj:Sp:=λvs H Q _=>∃c:Int,vs=[.int c]/\∀(p:Addr) (c':Int) (f:Bool) (H':Hp),H p=none->aP H' p c' 0 f->Lg H H'->Q (.ref p) H'
def xK(da:DA):DE:=λδ P=>da δ λxs δ1=>match xs with
 | [.dat _ (.int _)]=>P .drw δ1
 | _=>False
theorem vS(F:FnOk X.prog X.w X.K X.mg X.base CX k f fd ps Uj)(hr:Room k X.A)(hg:Gl X x)(hm:X.mg x=some (.ref f))(hk:PySem.W.keepIn X.K (.ref f)=true)(hb:Binds X.K fd ps [])(hx:Qt CX X E)(ha:jY X (e::es) da)(hdb:(x == ("__debug__" : Str))=false:=by decide)(he:Bn (e::es) X.env=(false,eval e X.env)::Bn es X.env:=by rfl)(hpl:(Hx pos (Bn es X.env)).any (·.1)=false:=by rfl):Fe X (.Call (.Name x p) (e::es) [] pos) (xK da):=by
 refine PE.imp (Xj F hr hg hm hk hb .nil hx ha hdb he hpl) λσ H Q h=>?_
 obtain ⟨H0,Y,S,T,δ,P,rfl,hS,hA,hd,kk⟩:=h
 refine ⟨H0,Y,S,T,δ,_,rfl,hS,hA,hd,λxs δ' As us S' H' e1 e2 ex eu hA' p=>?_⟩
 split at p
 ·obtain ⟨v,F,rfl,hA2⟩:=Lm eu hA' ex
  obtain ⟨rfl,_⟩:=(hA2.told mem_mid).int_inv
  refine ⟨_,rfl,λq c' fl H'' nq hdr s=>?_⟩
  have h3:=hA2.drop.grow (n':=δ'.n) s (Ah _)
  refine kk _ δ' _ [q] S' H'' e1 e2 ((h3.push (e:=⟨some (.ref q),.drw,[q]⟩) ⟨q,_,0,fl,rfl,rfl,hdr,by decide,by omega⟩ (λf hf=>?_) λa ha=>?_).tomid) p
  ·have nf:=hA2.drop.free nq f hf
   refine ⟨λ_ a ha z=>?_,λ_ a ha z=>?_⟩
   ·rw[Ae.mp ha] at z
    exact nf z
   ·rw[Ae.mp z] at ha
    exact nf (Hv _ _ ha)
  ·rw[Ae.mp ha]
   exact .inl (hA2.new0 nq)
 ·exact p.elim
end
def args0(ds:List Af)(k:Nat):List DV:=ds.map (λd=>.dat .sh d)++Ih k .un
def sQ(e:Ent):Ent:=match e.x with
 | .dat _ d=>⟨e.v,.dat .sh d,e.F⟩
 | _=>e
theorem Rn:∀{xs:List DV} {ds:List Af},datas xs=some ds->xs.length=ds.length
 | [],ds,h=>by cases h; rfl
 | x::xs,ds,h=>by
  cases x with
  | dat m d =>
   cases q:datas xs with
   | none=>simp [datas,q] at h
   | some es =>
    simp [datas,q] at h
    subst h
    rw[Bf,Bf,Rn q]
  | _=>cases h
theorem fT:∀{As:List Ent} {ds:List Af},datas (As.map Ent.x)=some ds->(As.map sQ).map Ent.x=ds.map (λd=>.dat .sh d)
 | [],ds,h=>by cases h; rfl
 | ⟨v,x,F⟩::As,ds,h=>by
  rw[Bh] at h
  cases x with
  | dat m d =>
   cases q:datas (As.map Ent.x) with
   | none=>simp [datas,q] at h
   | some es =>
    simp [datas,q] at h
    subst h
    rw[Bh,Bh,Bh,fT q]
    rfl
  | _=>cases h
theorem Vp:∀{As:List Ent} {ds:List Af},datas (As.map Ent.x)=some ds->∀e∈As,∃m d,e.x=.dat m d
 | [],ds,h,e,he=>nomatch he
 | ⟨v,x,F⟩::As,ds,h,e,he=>by
  rw[Bh] at h
  cases x with
  | dat m d =>
   cases q:datas (As.map Ent.x) with
   | none=>simp [datas,q] at h
   | some es =>
    rcases Am.mp he with rfl | he
    ·exact ⟨m,d,rfl⟩
    ·exact Vp q e he
  | _=>cases h
theorem CK(As:List Ent):(As.map sQ).map Ent.v=As.map Ent.v:=by
 rw[Da]
 refine Gn λe _=>?_
 obtain ⟨v,x,F⟩:=e
 cases x <;> rfl
def Oy(k:Nat):List Ent:=Ih k ⟨none,.un,[]⟩
theorem zU{As:List Ent}{ds:List Af}(q:datas (As.map Ent.x)=some ds)(k:Nat):∀e∈As.map sQ++Oy k,cells e=[]/\E9 e.x=false:=λe he=>by
 rcases Ay.mp he with he | he
 ·obtain ⟨f,hf,rfl⟩:=Cs.mp he
  obtain ⟨m,d,hx⟩:=Vp q f hf
  obtain ⟨v,x,F⟩:=f
  have hx':x=.dat m d:=hx
  subst hx'
  exact ⟨rfl,rfl⟩
 ·rw[(Og.mp he).2]
  exact ⟨rfl,rfl⟩
theorem Yw{α:Type}{R:α->α->Prop}:∀{l:List α},(∀a∈l,∀b∈l,R a b)->l.Pairwise R
 | [],_=>Do
 | a::l,h=>Bm.mpr ⟨λb hb=>h a Aa b (Ad _ hb),Yw λx hx y hy=>h x (Ad _ hx) y (Ad _ hy)⟩
theorem Z8{K:PySem.W.Frag}{H:Hp}{n:Nat}{As:List Ent}{ds:List Af}(q:datas (As.map Ent.x)=some ds)(ok:∀e∈As,Ke K H n e)(k:Nat):∀e∈As.map sQ++Oy k,Ke K H n e:=λe he=>by
 rcases Ay.mp he with he | he
 ·obtain ⟨f,hf,rfl⟩:=Cs.mp he
  obtain ⟨m,d,hx⟩:=Vp q f hf
  have o:=ok f hf
  obtain ⟨v,x,F⟩:=f
  have hx':x=.dat m d:=hx
  subst hx'
  obtain ⟨w,h1,h2,_⟩:=o
  exact ⟨w,h1,h2,λz=>(nomatch z),λz=>(nomatch z)⟩
 ·rw[(Og.mp he).2]
  exact (rfl:([]:List Addr)=[])
theorem Xe{α β:Type}(f:α->β)(k:Nat)(a:α):(Ih k a).map f=Ih k (f a):=by
 rw[List.map_replicate]
def retE(R:Af->Prop):DEnds where
 nx:=λ_=>R .none
 rt:=λx _=>∃d,x=.dat .ow d/\R d
section
variable{P:Bj}{w:World}{K:PySem.W.Frag}{mg:Str->Option Value}{base:Heap}
theorem Hr{x qual:Str}{st:Stmt}{f:Addr}{fd:Co}{N ps:List Str}{k:Nat}{pf:PF}{db:DB}(F:Fun K x qual st f fd)(S:FnScope N ps (Cc st))(hb:∀(cdv:Value) (A:Cp) (outer:List Env) (s:Aj) (H:Hp) (E:XK),Room k (A.deeper (Th qual (Cc st) s.heap.objs.size f cdv))->aO (Sa Jv P w K mg base N qual (Cc st) f cdv A outer s H E).nox (Kt st) db)(h:∀ds R,pf ds R->ds.length=ps.length/\db (retE R) ⟨args0 ds (N.length - ps.length),0⟩):FnOk P w K mg base Jv (k+1) f fd ps (Nj K pf):=by
 refine F.ok S (λvs H Q E z=>?_) λcdv A outer s H us Q E hr z=>?_
 ·obtain ⟨As,n,ds,R,eu,ok,q,hp,_⟩:=z
  have l1:=(h ds R hp).1
  have l2:=Rn q
  rw[Ac] at l2
  have l3:=congrArg Ip eu
  rw[Ac,Ac] at l3
  omega
 ·obtain ⟨As,n,ds,R,eu,ok,q,hp,k1⟩:=z
  obtain ⟨l1,hd⟩:=h ds R hp
  have l2:=Rn q
  rw[Ac] at l2
  have l3:=congrArg Ip eu
  rw[Ac,Ac] at l3
  refine ⟨_,hb cdv A outer s H E hr,H,λ_=>False,As.map sQ++Oy (N.length - ps.length),[],⟨args0 ds (N.length - ps.length),0⟩,retE R,?_,?_,λ_ z=>(nomatch z),?_,hd,λδ' S' H' e1 hA p=>?_,λx δ' v F' S' H' e1 hA p=>?_,λ_ _ _ _ _ p=>p.elim,λ_ _ _ _ _ p=>p.elim⟩
  ·unfold vs L2.start Oy
   rw[Cu,CK,eu,Xe,show us.length=ps.length by omega]
  ·unfold Sl args0 Oy
   rw[Cu,fT q,Xe]
  ·rw[Dg]
   have hs:=zU q (N.length - ps.length)
   refine ⟨λe he=>?_,Yw λa ha b hb'=>⟨λhq c hc=>?_,λhq c hc=>?_⟩,λe he a ha=>?_,λb o _ e=>e,λb o e=>⟨o,e⟩,λb hb=>hb.elim⟩
   ·have:=Z8 q ok (N.length - ps.length) e he
    obtain ⟨v,x,F⟩:=e
    cases x with
    | drw=>exact absurd (hs _ he).2 (by show ¬ (true=false); decide)
    | _=>exact this
   ·rw[(hs a ha).1] at hc; cases hc
   ·rw[(hs b hb').1] at hc; cases hc
   ·rw[(hs e he).1] at ha; cases ha
  ·exact k1 .non .none [] H' p .non Ee (λ_ z=>(nomatch z)) λb o e=>hA.same b o (λz=>z) e
  ·obtain ⟨d,rfl,r⟩:=p
   rw[show S'++[(⟨some v,.dat .ow d,F'⟩ : Ent)]=S'++⟨some v,.dat .ow d,F'⟩::[] from rfl] at hA
   obtain ⟨u,e2,rd,nd,_⟩:=hA.ok _ mem_mid
   cases e2
   refine k1 v d F' H' r rd (nd rfl) (λa ha=>?_) λb o e=>hA.same b o (λz=>z) e
   rcases hA.new _ mem_mid a ha with z | z
   ·exact z
   ·exact z.1.elim
end
end DL
namespace L2
open PySem PySem.Spec PyProof.Rows
def xC(H:Hp):Prop:=∀b,H b=none\/(∃o xs,H b=some (.frz o (.lst xs)))\/∃ps,H b=some (.tbl ps)
def fR(tabs:List (Addr×Addr×Str))(H:Hp):Hp:=λb=>match tabs.find? (λr=>r.2.1 == b) with | some t=>some (.tbl #[.str t.2.2 0]) | none=>H b
theorem Sw{tabs:List (Addr×Addr×Str)}{H:Hp}{b:Addr}{t:Addr×Addr×Str}(h:tabs.find? (λr=>r.2.1 == b)=some t):fR tabs H b=some (.tbl #[.str t.2.2 0]):=by unfold fR; rw[h]
theorem Ld{tabs:List (Addr×Addr×Str)}{H:Hp}{b:Addr}(h:tabs.find? (λr=>r.2.1 == b)=none):fR tabs H b=H b:=by unfold fR; rw[h]
def cU(q:Bj)(K:PySem.W.Frag):Prop:=∃tabs:List (Addr×Addr×Str),(∀t∈tabs,∃x d,(recsOf q).find? (λe=>e.name == x)=some d/\PySem.W.tabIn K x=some (t.1,t.2.1))/\(∀t∈tabs,∀t'∈tabs,t.2.1=t'.2.1->t=t') /\
 (∀x∈Uk,∀c P,PySem.W.tabIn K x=some (c,P)->(c,P,L1 x)∈tabs)/\∀t∈tabs,K.lookup t.2.1=none
theorem i6{x:Str}(hx:x∈Uk):x = "often" \/ x = "cut_by" := by
 rcases Am.mp hx with h | hx
 ·exact .inl h
 ·exact .inr (Ae.mp hx)
theorem rP{q:Bj}{K:PySem.W.Frag}(h1:PySem.W.tabIn K "often" = none)(h2:PySem.W.tabIn K "cut_by" = none):cU q K:=by
 refine ⟨[],λ_ z=>(nomatch z),λ_ z=>(nomatch z),λx hx c P e=>?_,λ_ z=>(nomatch z)⟩
 rcases i6 hx with rfl | rfl
 ·rw[h1] at e; cases e
 ·rw[h2] at e; cases e
theorem rN{P:Bj}{w:World}{K:PySem.W.Frag}{mg mb:Str->Option Value}{CX:pT}{k:Nat}{fa a:Addr}{fd:Co}{x:Str}{sp:Sp}{s₁:Aj}{vs:List Value}{ns:List Int}(tabs:List (Addr×Addr×Str))(hT:∀t∈tabs,PySem.W.CodeHd s₁.heap t.1 t.2.1/\s₁.heap.get? t.2.1=some (PySem.W.tabObj #[]))(hu:∀t∈tabs,∀t'∈tabs,t.2.1=t'.2.1->t=t')(hL:∀x∈Uk,∀c P,PySem.W.tabIn K x=some (c,P)->(c,P,L1 x)∈tabs)(hnt:∀t∈tabs,K.lookup t.2.1=none)(hbm:∃bm ob,mg "__builtins__" = some (.ref bm)/\bm≠Ti/\s₁.heap.get? bm=some ob/\ob.cls=.type "module" /\ ob.dict=some Ti/\ob.data=.plain)(KX:K.In s₁.heap)(hns:s₁.heap.Ns Cj mg)(hb:s₁.heap.Ns Ti mb)(hbb:∀x:Str,x ≠ "__name__" -> mb x=Kr x)(hlim:s₁.heap.NoLimit)(hg:s₁.gens=#[])(ha:s₁.heap.get? a=some { cls:=.type "list",data:=.seq vs.toArray })(hi:Gc vs ns)(hl:ns.length<=Bd)(hr:Room k Wz)(F:∀base:Heap,K.In base->base.Ns Cj mg->FnOk P w K mg base CX k fa fd [x] sp)(hbind:∀(s:Aj) (u:Value),BindsTo s fd ⟨[u],[]⟩ [(x,u)])(hsp:∀H:Hp,xC H->DL.KL K H a (ns.map V.int)->sp [.ref a] H (λv _=>v=.bl true) λ_ _ _=>False)(hCX:∀H e s',CX [] H s₁ (λ_ _ _=>False) e s'->False):Hm (model P w) Wz (.call (.ref fa) ⟨[.ref a],[]⟩) (λr s'=>r=.ok (.ret (.bool true))/\OldK s₁.heap s'.heap/\s'.os=s₁.os/\Ra s'.gens) s₁:=by
 have rv:=bP hi
 have lenV:=hi.length
 -- from an abstract heap in which nothing but the script may be tracked
 have core:∀H:Hp,xC H->DL.KL K H a (ns.map V.int)->Xz P w H s₁.heap->(∀b,H b≠none->b=a\/∃t∈tabs,b=t.2.1)->(H a≠none->K.lookup a=none)->(∀t∈tabs,x6 H t.2.1 t.2.2) ->
   Hm (model P w) Wz (.call (.ref fa) ⟨[.ref a],[]⟩) (λr s'=>r=.ok (.ret (.bool true))/\OldK s₁.heap s'.heap/\s'.os=s₁.os/\Ra s'.gens) s₁:=by
  intro H hO hS hok hA hK hTH
  have base_of:∀{b:Addr} {o:Obj},s₁.heap.get? b=some o->H b=none->(aU s₁.heap H).get? b=some o:=λe n=>wW e n
  have noA:∀{b:Addr} {o:Obj} {es:Array DictEntry} {ep:Nat},s₁.heap.get? b=some o->o.data=.dict es ep->H b=none:=λ{b o es ep} e d=>by
   cases q:H b with
   | none=>rfl
   | some u =>
    rcases hA b (by rw[q]; simp) with e' | ⟨t,ht,e'⟩
    ·subst e'
     rw[ha] at e; cases e
     have d':Data.seq vs.toArray _=Data.dict es ep:=d
     cases d'
    ·rw[e',(hT t ht).2] at e; cases e
     cases d
  have nsK:∀{b:Addr} {m:Str->Option Value},s₁.heap.Ns b m->(aU s₁.heap H).Ns b m:=λ{b m} ⟨o,es,ep,e,d,r⟩=>⟨o,es,ep,base_of e (noA e d),d,r⟩
  have hKb:K.In (aU s₁.heap H):=λb o e=>base_of (KX b o e) (by
   cases q:H b with
   | none=>rfl
   | some u =>
    rcases hA b (by rw[q]; simp) with e' | ⟨t,ht,e'⟩
    ·subst e'
     rw[hK (by rw[q]; simp)] at e; cases e
    ·rw[e',hnt t ht] at e; cases e)
  have noC:∀{b:Addr} {o:Obj},s₁.heap.get? b=some o->o.cls≠.none->o.cls≠.type "list" -> H b=none:=λ{b o} e d d2=>by
   cases q:H b with
   | none=>rfl
   | some u =>
    rcases hA b (by rw[q]; simp) with e' | ⟨t,ht,e'⟩
    ·subst e'
     rw[ha] at e; cases e
     exact absurd rfl d2
    ·rw[e',(hT t ht).2] at e; cases e
     exact absurd rfl d
  have hTb:wR K mg (aU s₁.heap H) H:=λx hx c P e=>by
   have ht:=hL x hx c P e
   obtain ⟨bm,ob,b1,b2,b3,b4,b5,b6⟩:=hbm
   obtain ⟨⟨o,us,file,tf,flags,tg,inF,text,tt,e1,r1,r2⟩,hP⟩:=hT _ ht
   refine ⟨⟨o,us,file,tf,flags,tg,inF,text,tt,base_of e1 (noC e1 (by rw[r1]; nofun) (by rw[r1]; simp)),r1,r2⟩,⟨bm,ob,b1,b2,λz=>?_,λz=>?_,base_of b3 (noC b3 (by rw[b4]; nofun) (by rw[b4]; simp)),b4,b5,b6⟩,hTH _ ht⟩
   ·obtain ⟨o',es,ep,e',d,_⟩:=hns
    rw[<- z,b3] at e'; cases e'; rw[b6] at d; cases d
   ·have hP:s₁.heap.get? P=_:=hP
    rw[<- z,b3] at hP; cases hP; cases b4
  have hM:Mod K mg (aU s₁.heap H):=⟨hKb,nsK hns,⟨mb,nsK hb,hbb⟩,let ⟨mc,h1,h2⟩:=hlim; ⟨mc,nsK h1,h2⟩⟩
  have e0:Env0 P w K mg (aU s₁.heap H) Wz [] s₁ H:=⟨rfl,hM,λb o e=>r0 e,Nat.le_of_eq (pR _ _),trivial,λb hb=>absurd (show b∈([]:List Addr) from hb) (by simp),hok,.of_eq hg,hTb⟩
  refine Mi ((F _ hKb (nsK hns)).run Wz [] s₁ H ⟨[.ref a],[]⟩ [.ref a] [.ref a] _ _ hr e0 (hbind s₁ (.ref a)) (.cons rfl .nil) (hsp H hO hS)) λr s' h=>?_
  cases r with
  | error e=>exact (hCX H e s' h).elim
  | ok fl =>
   cases fl with
   | next=>exact Jt h
   | brk=>exact Jt h
   | cont=>exact Jt h
   | ret u =>
    obtain ⟨v,H',os,bare,un,hok',r',q⟩:=h
    have q':v=.bl true:=q
    subst q'
    obtain rfl:u=Value.bool true:=r'
    have old:∀b o,s₁.heap.get? b=some o->s'.heap.get? b=some o\/∃t∈tabs,b=t.2.1:=λb o e=>by
     cases q:H b with
     | none=>exact .inl (un.keep b o e q (by intro z; exact absurd (show b∈([]:List Addr) from z) (by simp)) (by simp))
     | some u =>
      rcases hO b with z | ⟨ob,xs,z⟩ | ⟨ps,z⟩
      ·rw[q] at z; cases z
      ·have z2:=un.frzs b ob _ z
       obtain ⟨e1,_⟩:=hok b _ z
       obtain ⟨e2,_⟩:=hok' b _ z2
       rw[e] at e1; cases e1
       exact .inl e2
      ·rcases hA b (by rw[q]; simp) with e' | h'
       ·obtain ⟨_,e1,_⟩:=hok b _ z
        rw[e',ha] at e1; cases e1
       ·exact .inr h'
    have grown:∀t∈tabs,∃ps,s'.heap.get? t.2.1=some (PySem.W.tabObj ps):=λt ht=>by
     obtain ⟨ps,t0,h3,_⟩:=hTH t ht
     obtain ⟨more,h5⟩:=un.tbls _ _ h3
     obtain ⟨qs,e1,_⟩:=hok' _ _ h5
     exact ⟨qs,e1⟩
    refine ⟨rfl,⟨λb o e=>?_,λb o e=>?_⟩,os,bare⟩
    ·rcases old b o e with z | ⟨t,ht,rfl⟩
     ·exact .inl z
     ·obtain ⟨ps,hP⟩:=grown t ht
      have e2:=(hT t ht).2
      rw[e] at e2
      cases e2
      exact .inr (.inl ⟨((hT t ht).1.tab (hT t ht).2).isCodeTable,rfl,#[],ps,rfl,by rw[Array.empty_append]; exact hP⟩)
    ·rcases old b o e with z | ⟨t,ht,rfl⟩
     ·exact ⟨_,z⟩
     ·obtain ⟨ps,hP⟩:=grown t ht
      exact ⟨_,hP⟩
 have tabH:∀(t:Addr×Addr×Str),t∈tabs->tabs.find? (λr=>r.2.1 == t.2.1)=some t:=λt ht=>by
  cases q:tabs.find? (λr=>r.2.1 == t.2.1) with
  | none=>exact absurd (List.find?_eq_none.mp q t ht) (by simp)
  | some r=>exact congrArg some (hu r (Ot q) t ht (by have:=Rz q; simpa using this))
 have neA:∀t∈tabs,t.2.1≠a:=λt ht z=>by
  have e:=(hT t ht).2
  rw[z,ha] at e; cases e
 have all:∀H:Hp,(∀b,H b=none\/∃o xs,H b=some (.frz o (.lst xs)))->(∀b,H b≠none->b=a)->(H a≠none->K.lookup a=none)->DL.KL K H a (ns.map V.int)->Xz P w H s₁.heap ->
   Hm (model P w) Wz (.call (.ref fa) ⟨[.ref a],[]⟩) (λr s'=>r=.ok (.ret (.bool true))/\OldK s₁.heap s'.heap/\s'.os=s₁.os/\Ra s'.gens) s₁:=by
  intro H h1 h2 h3 h4 h5
  refine core (fR tabs H) (λb=>?_) ?_ (λb u z=>?_) (λb z=>?_) (λz=>?_) λt ht=>?_
  ·cases q:tabs.find? (λr=>r.2.1 == b) with
   | some t=>exact .inr (.inr ⟨_,Sw q⟩)
   | none =>
    rcases h1 b with z | ⟨o,xs,z⟩
    ·exact .inl (by rw[Ld q]; exact z)
    ·exact .inr (.inl ⟨o,xs,by rw[Ld q]; exact z⟩)
  ·have na:tabs.find? (λr=>r.2.1 == a)=none:=xS.mpr λt ht z=>neA t ht (by simpa using z)
   rcases h4 with ⟨o,h⟩ | h
   ·exact .inl ⟨o,by rw[Ld na]; exact h⟩
   ·exact .inr h
  ·cases q:tabs.find? (λr=>r.2.1 == b) with
   | some t =>
    rw[Sw q] at z
    cases z
    have eb:t.2.1=b:=by have:=Rz q; simpa using this
    exact ⟨#[],by rw[<- eb]; exact (hT t (Ot q)).2,by simp [TriplesOk],λpos v y=>by simp [codeAmong] at y⟩
   | none =>
    rw[Ld q] at z
    rcases h1 b with y | ⟨o,xs,y⟩
    ·rw[z] at y; cases y
    ·rw[z] at y
     cases y
     exact h5 b _ z
  ·cases q:tabs.find? (λr=>r.2.1 == b) with
   | some t=>exact .inr ⟨t,Ot q,by have:=Rz q; exact (by simpa using this : t.2.1=b).symm⟩
   | none =>
    rw[Ld q] at z
    exact .inl (h2 b z)
  ·have na:tabs.find? (λr=>r.2.1 == a)=none:=xS.mpr λt ht z=>neA t ht (by simpa using z)
   rw[Ld na] at z
   exact h3 z
  ·exact ⟨#[.str t.2.2 0],0,Sw (tabH t ht),rfl⟩
 cases hk:K.lookup a with
 | some o =>
  -- the script is one of the module's own objects
  have e:=KX a o hk
  rw[ha] at e
  cases e
  exact all (λ_=>none) (λ_=>.inl rfl) (λb z=>absurd rfl z) (λz=>absurd rfl z) (.inr ⟨vs.toArray,_,hk,by rw[Aq,lenV]; exact hl,by simpa using rv⟩) (λb u z=>by have z':(none:Option HO)=some u:=z; cases z')
 | none =>
  refine all (λb=>if b=a then some (.frz { cls:=.type "list",data:=.seq vs.toArray } (.lst (ns.map V.int))) else none) (λb=>?_) (λb z=>?_) (λ_=>hk) (.inl ⟨{ cls:=.type "list",data:=.seq vs.toArray },if_pos rfl⟩) (λb u z=>?_)
  ·by_cases hb:b=a
   ·exact .inr ⟨_,_,if_pos hb⟩
   ·exact .inl (if_neg hb)
  ·by_cases hb:b=a
   ·exact hb
   ·exact absurd (if_neg hb) z
  ·by_cases hb:b=a
   ·have z':=(if_pos hb).symm.trans z
    cases z'
    subst hb
    exact ⟨ha,by rw[Ac]; exact hl,vs,_,rv,ha⟩
   ·have z':=(if_neg hb).symm.trans z
    cases z'
theorem walk_ofD{l:PySem.W.OpenLaw}{n k:Nat}{q:Bj}{loose:List Str}{XP:(Str->Option Value)->Heap->Prop}{YP:World->Heap->Prop}{d:DefRec}{K:Params->PySem.W.Frag}{CX:World->pT}{sp:World->Sp}{x:Str}(hn:l.most=some n)(hn2:n<=Bd)(hdf:d.params.defaults=[])(hr:Room k Wz)(hY:∀(w:World) (h:Heap),YP w h->(K w.params).In h)(F:∀(w:World) (mg:Str->Option Value) (fa:Addr) (h:Heap),(K w.params).In h->h.Ns Cj mg->mg d.name=some (.ref fa)->(cU q (K w.params))/\∃fd:Co,(∀(s:Aj) (u:Value),BindsTo s fd ⟨[u],[]⟩ [(x,u)])/\∀base:Heap,(K w.params).In base->base.Ns Cj mg->FnOk l.prog w (K w.params) mg base (CX w) k fa fd [x] (sp w))(hsp:∀(w:World) (H:Hp) (a:Addr) (ns:List Int),ns.length<=n->xC H->DL.KL (K w.params) H a (ns.map V.int)->sp w [.ref a] H (λv _=>v=.bl true) λ_ _ _=>False)(hCX:∀(w:World) (H:Hp) (s:Aj) (e:Value) (s':Aj),CX w [] H s (λ_ _ _=>False) e s'->False):PySem.W.WalkO q loose XP YP l.row.toRowW d [] (λf vs=>PySem.call f vs):=by
 refine Att.attach_call hn hdf λw s₀ s₁ mg mb fa o pm cd doc a vs ns G Y ho hd hcd hmg hobj hints hlen hg=>?_
 have KX:=hY w _ Y
 obtain ⟨⟨tabs,t1,t2,t3,t4⟩,fd,hb,hF⟩:=F w mg fa _ KX G.T.g hmg
 exact rN tabs (λt ht=>by
  obtain ⟨x,d,h1,h2⟩:=t1 t ht
  exact PySem.W.tab_of G.T KX h1 h2) t2 t3 t4 G.T.bmain KX G.T.g G.T.b G.T.builtins G.T.nolimit hg hobj hints (Cf hlen hn2) hr hF hb (λH hO hS=>hsp w H a ns hlen hO hS) λH e s'=>hCX w H s₁ e s'
end L2
namespace DL
open PySem PySem.Spec PyProof.Rows L2 Nd
def npk:List DV->Bool
 | []=>true
 | .dat .pk _::_=>false
 | _::xs=>npk xs
theorem kR:∀{S:List Ent} {sl:List DV},S.map Ent.x=sl->npk sl=true->∀e∈S,Pr e.x=false
 | [],_,_,_,e,he=>nomatch he
 | ⟨v,x,F⟩::S,_,h,hn,e,he=>by
  subst h
  rw[Bh] at hn
  have : Pr x=false/\npk (S.map Ent.x)=true:=by
   cases x with
   | dat m d=>cases m <;> first | exact ⟨rfl,hn⟩ | cases hn
   | _=>exact ⟨rfl,hn⟩
  rcases Am.mp he with rfl | he
  ·exact this.1
  ·exact kR rfl this.2 e he
def own1:Md->Bool
 | .ow=>true
 | .tp=>true
 | _=>false
section
variable{K:PySem.W.Frag}{H0 H:Hp}{X:Addr->Prop}{n:Nat}{E:List Ent}
theorem At.write{v:Option V}{m:Md}{ds es:List Af}{a:Addr}{F G:List Addr}{ys:List V}(h:At K H0 X n (⟨v,.dat m (.list ds),a::F⟩::E) H)(ho:own1 m=true)(hv:v=some (.ref a))(np:∀e∈E,Pr e.x=false)(r:RdFs K H ys es G)(hG:G.Sublist F)(hz:es.length<=Bd):At K H0 X n (⟨v,.dat m (.list es),a::G⟩::E) (upd H a (.lst ys)):=by
 obtain ⟨w,e1,rd,hn,ht⟩:=h.ok _ Aa
 obtain ⟨b,xs,G0,e2,ha,ra,eF,_⟩:=rd.list_inv
 have eF':a::F=b::G0:=eF
 cases eF'
 have hs:=Bm.mp h.sep
 have naF:a∉F:=by
  cases m with
  | ow=>exact (Bs.mp (hn rfl)).1
  | tp=>exact ht rfl a F rfl
  | sh=>cases ho
  | pk=>cases ho
 have ca:a∈cells ⟨v,.dat m (.list ds),a::F⟩:=by
  cases m <;> first | exact Aa | cases ho
 have kp:∀{F':List Addr},a∉F'->Kp F' H (upd H a (.lst ys)):=λ{F'} hF b o q z=>by
  have : b≠a:=by
   rintro rfl
   rw[ha] at q
   cases q
   rcases z with z | z
   ·exact hF z
   ·rcases z with ⟨_,z⟩ | ⟨_,_,z⟩ <;> cases z
  rw[Ej this]
  exact q
 have n0:H0 a=none:=by
  rcases h.new _ Aa a ca with z | z
  ·exact z
  ·cases z.2
 have cs:∀c∈cells ⟨v,.dat m (.list es),a::G⟩,c∈cells ⟨v,.dat m (.list ds),a::F⟩:=λc hc=>by
  cases m with
  | ow =>
   rcases Am.mp hc with z | z
   ·exact Am.mpr (.inl z)
   ·exact Am.mpr (.inr (hG.subset z))
  | tp=>exact hc
  | sh=>cases ho
  | pk=>cases ho
 have hsub:∀c∈a::G,c∈a::F:=λc hc=>by
  rcases Am.mp hc with z | z
  ·exact Am.mpr (.inl z)
  ·exact Am.mpr (.inr (hG.subset z))
 have naG:a∉G:=λz=>naF (hG.subset z)
 refine ⟨λf hf=>?_,?_,λf hf=>?_,λb o nx q=>?_,λb o q=>?_,λb hb=>?_⟩
 ·rcases Am.mp hf with rfl | hf
  ·refine ⟨.ref a,hv,.lst Ct hz (r.kp (kp naG)),λz=>?_,λz c l e=>?_⟩
   ·exact Bs.mpr ⟨naG,(Bs.mp (hn z)).2.sublist hG⟩
   ·cases e
    exact naG
  ·exact (h.ok f (Ad _ hf)).kp (kp ((hs.1 f hf).1 (.inl (np f hf)) a ca)) (Ah _)
 ·refine Bm.mpr ⟨λf hf=>⟨λhq c hc=>(hs.1 f hf).1 (.inl (np f hf)) c (cs c hc),λhq c hc z=>(hs.1 f hf).2 (.inl ?_) c hc (hsub c z)⟩,hs.2⟩
  cases m <;> first | rfl | cases ho
 ·rcases Am.mp hf with rfl | hf
  ·exact λc hc=>h.new _ Aa c (cs c hc)
  ·exact h.new f (Ad _ hf)
 ·rw[Ej (Ge q n0)]
  exact h.same b o nx q
 ·rw[Ej (Ge q n0)]
  exact h.dom b o q
 ·obtain ⟨z,c,k,f,h1,h2⟩:=h.xd b hb
  refine ⟨z,c,k,f,(Ej ?_).trans h1,h2⟩
  rintro rfl
  exact z n0
end
theorem Kj{α:Type}:∀{l:List α} {i:Nat} {x:α},l[i]? = some x->l.Perm (x::l.eraseIdx i)
 | [],i,x,h=>by simp at h
 | z::l,0,x,h=>by
  simp at h
  subst h
  exact Gp _
 | z::l,i+1,x,h=>by
  have ih:=Kj (l:=l) (i:=i) (x:=x) (by simpa using h)
  rw[Pz]
  exact (ih.cons z).trans (Ht x z _)
theorem bY{α:Type}{l:List α}{i:Nat}{x y:α}(h:l[i]? = some x):(l.set i y).Perm (y::l.eraseIdx i):=by
 have hlt:=(Ap.mp h).1
 have q:=Kj (l:=l.set i y) (i:=i) (x:=y) (by rw[Li]; simp [hlt])
 rw[List.eraseIdx_set_eq] at q
 exact q
theorem Yp{K:PySem.W.Frag}{H0 H:Hp}{X:Addr->Prop}{S T:List Ent}{δ:DS}{i:Nat}{m:Md}{ds es:List Af}(hS:Sl S δ)(hT:∀e∈T,Pr e.x=false)(hA:At K H0 X δ.n (S++T) H)(hi:δ.sl[i]? = some (.dat m (.list ds)))(ho:own1 m=true)(np:npk δ.sl=true):∃a xs G,(vs S)[i]? = some (some (.ref a))/\H a=some (.lst xs)/\RdFs K H xs ds G/\ds.length<=Bd/\∀ys G',RdFs K H ys es G'->G'.Sublist G->es.length<=Bd->∃S',vs S'=vs S/\Sl S' ⟨δ.sl.set i (.dat m (.list es)),δ.n⟩/\At K H0 X δ.n (S'++T) (upd H a (.lst ys)):=by
 obtain ⟨ent,e2,e3⟩:=Kg hS hi
 have hm:ent∈S:=Ba e2
 obtain ⟨u,x,F⟩:=ent
 have e3':x=.dat m (.list ds):=e3
 subst e3'
 obtain ⟨v,hv,rd,_⟩:=hA.ok _ (An _ hm)
 obtain ⟨a,xs,G,rfl,ha,ra,eF,hz⟩:=rd.list_inv
 have eF':F=a::G:=eF
 subst eF'
 refine ⟨a,xs,G,by rw[Oj e2]; exact congrArg some hv,ha,ra,hz,λys G' r hG hz'=>?_⟩
 have hn:=kR hS np
 have pm:(S++T).Perm (⟨u,.dat m (.list ds),a::G⟩::(S.eraseIdx i++T)):=by
  exact (Kj e2).append_right T
 have h1:=(hA.perm pm).write (es:=es) (ys:=ys) ho hv (λe he=>?_) r hG hz'
 ·refine ⟨S.set i ⟨u,.dat m (.list es),a::G'⟩,?_,?_,h1.perm ?_⟩
  ·unfold vs
   rw[Hn]
   apply Ho
   intro j
   rw[Li]
   split
   ·rename_i hij
    subst hij
    rw[Bo,e2]
    split
    ·rfl
    ·rename_i hj
     rw[Ac] at hj
     exact absurd (Ap.mp e2).1 hj
   ·rfl
  ·unfold Sl at hS ⊢
   rw[Hn,hS]
  ·exact ((bY e2).append_right T).symm
 ·rcases Ay.mp he with he | he
  ·exact hn e ((List.eraseIdx_sublist S i).subset he)
  ·exact hT e he
def eN(i:Nat)(de:DE):DB:=λD δ=>match δ.sl[i]? with
 | some (.dat _ (.list _))=>de δ λy δ1=>match δ1.sl[i]?,y with
  | some (.dat m (.list ds)),.dat _ e=>own1 m=true/\npk δ1.sl=true/\imm e=true/\ds.length<1000000/\D.nx ⟨δ1.sl.set i (.dat m (.list (ds++[e]))),δ1.n⟩
  | _,_=>False
 | _=>False
section
variable{X:Cx}{o e:Expr}{de:DE}{apos cpos pos:Pos}{i:Nat}
theorem bJ(ho:PE X o (Pp i))(he:Fe X e de)(hbase:Nl o "append" X.env (eval o X.env)=eval o X.env:=by rfl)
  (hfew:((Hx cpos (Bn [e] X.env)).all (λx=>!x.1) && (backToKw cpos (Qw [] X.env)).all (λx=>x.1.isSome)
   && decide (([e]:List Expr).length+([]:List Nn).length+(if ([]:List Nn).isEmpty then 0 else 1)<30))=true:=by rfl)
  (hline:(apos.endLine == cpos.line)=true:=by rfl) (hs:Bn [e] X.env=(false,eval e X.env)::Bn [] X.env:=by rfl) (hplain:(Hx cpos (Bn [] X.env)).any (·.1)=false:=by rfl)
  (hsw:Jw (.Call (.Attribute o "append" apos) [e] [] cpos) none pos.line X.env=pure false:=by rfl) :
  iF X (.Expr (.Call (.Attribute o "append" apos) [e] [] cpos) pos) (eN i de):=by
 refine PS.impD (Xo (nE PySem.F.plainAttrs_list PySem.F.slot_list_append PySem.F.type_list_append Lc ho (Fi he Iq hs) hbase hfew hline hs hplain) hsw) λD σ H h=>?_
 obtain ⟨H0,Y,S,T,δ,P,rfl,hS,hT,hA,hd,k1,k2,k3,k4⟩:=h
 unfold eN at hd
 split at hd
 case h_2=>exact hd.elim
 rename_i m0 ds0 hsl
 obtain ⟨ent,e2,e3⟩:=Kg hS hsl
 have hm:ent∈S:=Ba e2
 obtain ⟨u,x,F⟩:=ent
 have e3':x=.dat m0 (.list ds0):=e3
 subst e3'
 obtain ⟨v,hv,rd,_⟩:=hA.ok _ (An _ hm)
 obtain ⟨a,xs,G,rfl,ha,ra,eF,hz⟩:=rd.list_inv
 refine ⟨.ref a,by rw[Oj e2]; exact congrArg some hv,.inl ⟨rfl,xs,Ov.of ha⟩,H0,Y,S,T,δ,_,rfl,hS,hA,hd,λy δ1 w F1 S1 H1 e4 e5 hA1 p1=>?_⟩
 split at p1
 ·rename_i m ds m' e' hsl1
  obtain ⟨p1,p2,p3,p4,p5⟩:=p1
  have r:=hA1.told mem_mid
  obtain rfl:=r.imm p3
  obtain ⟨b,xs1,G1,g1,g2,g3,g4,g5⟩:=Yp (es:=ds++[e']) e5 hT hA1.drop hsl1 p1 p2
  rw[e4,Oj e2] at g1
  have : some (V.ref b)=some (V.ref a):=(Bz g1).symm.trans hv
  cases this
  obtain ⟨S2,h1,h2,h3⟩:=g5 (xs1++[w]) (G1++[]) (g3.snoc r) (by rw[Dg]; exact Em _) (by rw[Ax]; exact aA (by simp; omega))
  have hl:=g3.len
  refine ⟨a,xs1,w,rfl,rfl,g2,Bu (by omega) (aA (n:=1000000) (Ah _)),?_⟩
  rw[<- e4,<- h1]
  exact k1 ⟨_,_⟩ S2 _ h2 h3 p5
 ·exact p1.elim
end
def EJ(i:Nat)(dk de:DE):DB:=λD δ=>de δ λy δ1=>match δ1.sl[i]? with
 | some (.dat _ (.list _))=>dk δ1 λz δ2=>match δ2.sl[i]?,y,z with
  | some (.dat m (.list ds)),.dat _ e,.dat _ (.int k)=>own1 m=true/\npk δ2.sl=true/\imm e=true/\Dt ds=true/\∃j,qE ds.length k=some j/\D.nx ⟨δ2.sl.set i (.dat m (.list (ds.set j e))),δ2.n⟩
  | _,_,_=>False
 | _=>False
def yJ(i:Nat)(rd:D2)(de:DE):DB:=λD δ=>match δ.sl[i]? with
 | some (.dat _ (.int a))=>de δ λy δ1=>rd (.dat .ow (.int a)) y λz=>match z with
  | .dat _ d=>imm d=true/\D.nx ⟨δ1.sl.set i (.dat .sh d),δ1.n⟩
  | _=>False
 | _=>False
section
variable{X:Cx}{x:Str}{e:Expr}{de:DE}{pos pos':Pos}{i:Nat}
theorem mU{op:Operator}{g:Int->Int->Int}(hN:X.N.Nodup)(hi:X.N[i]? = some x)(hx:Loc X.env.scope x)(he:Fe X e de)(ho:AW X op (CY g))(hf:X.fn x=true\/X.env.scope.names.lookup x=some .local:=by first | exact .inl rfl | exact .inr rfl | assumption):iF X (.AugAssign (.Name x pos') op e pos) (yJ i (aH λa b=>.int (g a b)) de):=by
 refine PS.impD (K3 hN hi hx he ho hf) λD σ H h=>?_
 obtain ⟨H0,Y,S,T,δ,P,rfl,hS,hT,hA,hd,k1,k2,k3,k4⟩:=h
 unfold yJ at hd
 split at hd
 case h_2=>exact hd.elim
 rename_i m0 a hsl
 obtain ⟨ent,e2,e3⟩:=Kg hS hsl
 have hm:ent∈S:=Ba e2
 obtain ⟨u,x,F⟩:=ent
 have e3':x=.dat m0 (.int a):=e3
 subst e3'
 obtain ⟨v,hv,rd,_⟩:=hA.ok _ (An _ hm)
 obtain ⟨rfl,_⟩:=rd.int_inv
 refine ⟨.int a,by rw[Oj e2]; exact congrArg some hv,H0,Y,S,T,δ,_,rfl,hS,hA,hd,λy δ1 w F1 S1 H1 e4 e5 hA1 p1=>?_⟩
 unfold aH at p1
 split at p1
 ·rename_i a' b' ea
  cases ea
  obtain ⟨rfl,_⟩:=(hA1.told mem_mid).int_inv
  refine ⟨a,_,rfl,rfl,?_⟩
  show D.nx ((vs S).set i (some (V.int (g a _)))) H1
  rw[<- e4,<- jA (x:=.dat .sh (.int (g a _))) (F:=[])]
  exact k1 ⟨_,_⟩ _ H1 (kS e5) ((hA1.drop.pushI (.int _)).store) p1.2
 ·exact p1.elim
theorem mZ(hN:X.N.Nodup)(hi:X.N[i]? = some x)(hx:Loc X.env.scope x)(he:Fe X e de)(hf:X.fn x=true\/X.env.scope.names.lookup x=some .local:=by first | exact .inl rfl | exact .inr rfl | assumption):iF X (.AugAssign (.Name x pos') .Add e pos) (yJ i rdAdd de):=mU hN hi hx he P6 hf
end
def spLawD(K:PySem.W.Frag):Sp:=λus H Q _=>∃(a:Addr) (ns:List Int),us=[.ref a]/\KL K H a (ns.map V.int)/\ns.length<=63/\∀H',Q (.bl true) H'
def retL:DEnds where
 nx:=λ_=>False
 rt:=λx _=>∃m,x=.dat m (.bool true)
section
variable{P:Bj}{w:World}{K:PySem.W.Frag}{mg:Str->Option Value}{base:Heap}
theorem N8{x qual p0:Str}{st:Stmt}{f:Addr}{fd:Co}{N:List Str}{k:Nat}{db:DB}(F:Fun K x qual st f fd)(S:FnScope N [p0] (Cc st))(hb:∀(cdv:Value) (A:Cp) (outer:List Env) (s:Aj) (H:Hp) (E:XK),Room k (A.deeper (Th qual (Cc st) s.heap.objs.size f cdv))->aO (Sa Jv P w K mg base N qual (Cc st) f cdv A outer s H E).nox (Kt st) db)(h:∀ns:List Int,ns.length<=63->db retL ⟨.scr ns::Ih (N.length - 1) .un,0⟩):FnOk P w K mg base Jv (k+1) f fd [p0] (spLawD K):=by
 refine F.ok S (λvs H Q E z=>?_) λcdv A outer s H us Q E hr z=>?_
 ·obtain ⟨a,ns,rfl,_⟩:=z
  rfl
 ·obtain ⟨a,ns,rfl,hK,h63,k1⟩:=z
  refine ⟨_,hb cdv A outer s H E hr,H,λ_=>False,⟨some (.ref a),.scr ns,[]⟩::Oy (N.length - 1),[],⟨.scr ns::Ih (N.length - 1) .un,0⟩,retL,?_,?_,λ_ z=>(nomatch z),?_,h ns h63,λδ' S' H' e1 hA p=>p.elim,λx δ' v F' S' H' e1 hA p=>?_,λ_ _ _ _ _ p=>p.elim,λ_ _ _ _ _ p=>p.elim⟩
  ·unfold vs L2.start Oy
   rw[Bh,Xe]
   rfl
  ·unfold Sl Oy
   rw[Bh,Xe]
  ·rw[Dg]
   have hc:∀e∈(⟨some (.ref a),.scr ns,[]⟩::Oy (N.length - 1):List Ent),cells e=[]:=λe he=>by
    rcases Am.mp he with rfl | he
    ·rfl
    ·rw[(Og.mp he).2]
     rfl
   refine ⟨λe he=>?_,Yw λa ha b hb'=>⟨λhq c z=>?_,λhq c z=>?_⟩,λe he a ha=>?_,λb o _ e=>e,λb o e=>⟨o,e⟩,λb hb=>hb.elim⟩
   ·rcases Am.mp he with rfl | he
    ·exact ⟨a,rfl,rfl,hK,h63⟩
    ·rw[(Og.mp he).2]
     exact (rfl:([]:List Addr)=[])
   ·rw[hc a ha] at z; cases z
   ·rw[hc b hb'] at z; cases z
   ·rw[hc e he] at ha; cases ha
  ·obtain ⟨m,rfl⟩:=p
   rw[show S'++[(⟨some v,.dat m (.bool true),F'⟩ : Ent)]=S'++⟨some v,.dat m (.bool true),F'⟩::[] from rfl] at hA
   obtain ⟨rfl,_⟩:=(hA.told mem_mid).bl_inv
   exact k1 H'
end
def kE(i:Nat)(dl dh:DO):DE:=λδ P=>match δ.sl[i]? with
 | some (.scr ns)=>dl δ λl δ2=>dh δ2 λh δ3=>P (.dat .ow (.list ((Lr ns l h).map Br))) δ3
 | _=>False
section
variable{X:Cx}{e b:Expr}{de:DE}{lo hi:Option Expr}{dl dh:DO}{pos p2:Pos}{i:Nat}
theorem M6{K:PySem.W.Frag}{H0 H:Hp}{Y:Addr->Prop}{S T:List Ent}{δ:DS}{ns:List Int}(hS:Sl S δ)(hA:At K H0 Y δ.n (S++T) H)(hi:δ.sl[i]? = some (.scr ns)):∃a,(vs S)[i]? = some (some (.ref a))/\(⟨some (.ref a),.scr ns,[]⟩ : Ent)∈S/\KL K H a (ns.map V.int)/\ns.length<=63:=by
 obtain ⟨ent,e2,e3⟩:=Kg hS hi
 have hm:ent∈S:=Ba e2
 obtain ⟨u,x,F⟩:=ent
 have e3':x=.scr ns:=e3
 subst e3'
 obtain ⟨a,h1,h2,h3⟩:=hA.ok _ (An _ hm)
 have h1':u=some (.ref a):=h1
 have h2':F=[]:=h2
 subst h1' h2'
 exact ⟨a,by rw[Oj e2],hm,h3⟩
theorem vB(he:PE X e (Pp i))(hl:Q9 X lo dl)(hh:Q9 X hi dh):Fe X (.Subscript e (.Slice lo hi none p2) pos) (kE i dl dh):=by
 refine PE.imp (iC (r:=F6 X.K) zK he hl hh) λσ H Q h=>?_
 obtain ⟨H0,Y,S,T,δ,P,rfl,hS,hA,hd,k⟩:=h
 unfold kE at hd
 split at hd
 case h_2=>exact hd.elim
 rename_i ns hsl
 obtain ⟨a,ha,hm,hK,h63⟩:=M6 hS hA hsl
 have hA0:At X.K H0 Y δ.n (S++⟨some (.ref a),.scr ns,[]⟩::T) H:=(At.view1 hA (An _ hm)).tomid
 refine ⟨.ref a,ha,H0,Y,S,⟨some (.ref a),.scr ns,[]⟩::T,δ,_,rfl,hS,hA0,hd,λl δ2 S2 H2 e3 e4 hA2 p2=>?_⟩
 refine ⟨H0,Y,S2,⟨some (.ref a),.scr ns,[]⟩::T,δ2,_,e3,e4,hA2,p2,λh δ3 S3 H3 e5 e6 hA3 p3=>?_⟩
 obtain ⟨a',h1,_,hK3,_⟩:=hA3.ok _ mem_mid
 cases h1
 refine ⟨a,_,rfl,hK3.sq,λp hp=>?_⟩
 have : Zn (ns.map V.int) l h=(Lr ns l h).map V.int:=by
  rw[<- gZ]; rfl
 rw[this]
 refine k _ δ3 _ _ S3 _ e5 e6 (hA3.drop.newI (RdFs.ints _) (Qn _) ?_ hp .ow) p3
 rw[Ac]
 have l1:=(Zp ns l h).length_le
 exact sz (by omega)
end
section
variable{K:PySem.W.Frag}{H0 H H':Hp}{Y:Addr->Prop}{n n':Nat}{E S T:List Ent}
theorem At.re(h:At K H0 Y n E H)(ok:∀e∈E,Ke K H' n' e)(s:∀b o,¬ Y b->H0 b=some o->H' b=some o)(dm:∀b o,H0 b=some o->∃o',H' b=some o')(xd:∀b,Y b->H0 b≠none/\∃c k f,aP H' b c k f/\0<=k/\k<=(n':Int)):At K H0 Y n' E H':=⟨ok,h.sep,h.new,s,dm,xd⟩
end
theorem gE{X:Cx}{c:Expr}{body:List Stmt}{dt:DT}{db:DB}{pos:Pos}(hp:PassesOwn (model X.prog X.w) X.A X.env X.xe)(hc:aR X c dt)(hb:aO X body db):iF X (.While c body [] pos) (tV dt db):=by
 refine PS.impD (sU hp hc hb) λD σ H h=>?_
 obtain ⟨H0,Y,S,T,δ,P,rfl,hS,hT,hA,hd,k1,k2,k3,k4⟩:=h
 obtain ⟨I,μ,h0,hs⟩:=hd
 refine ⟨λq σ H=>∃S δ,vs S=σ/\Sl S δ/\At X.K H0 Y δ.n (S++T) H/\I δ/\q=μ δ,⟨_,S,δ,rfl,hS,hA,h0,rfl⟩,?_⟩
 (intro q σ H q_; obtain ⟨S1,δ1,rfl,e1,hA1,hI,rfl⟩ := q_)
 refine ⟨H0,Y,S1,T,δ1,_,rfl,e1,hA1,hs δ1 hI,λb δ2 S2 H2 e2 e3 hA2 p2=>?_⟩
 cases b with
 | true =>
  refine ⟨λσ' H'=>∃S δ,vs S=σ'/\Sl S δ/\At X.K H0 Y δ.n (S++T) H'/\I δ/\μ δ<μ δ1,λσ' H' ⟨S,δ,z1,z2,z3,z4,z5⟩=>⟨_,z5,S,δ,z1,z2,z3,z4,rfl⟩,?_⟩
  exact ⟨H0,Y,S2,T,δ2,_,e2,e3,hT,hA2,p2,λδ4 S4 H4 e5 hA4 p4=>⟨S4,δ4,rfl,e5,hA4,p4⟩,k2,λδ4 S4 H4 e5 hA4 p4=>k1 δ4 S4 H4 e5 hA4 p4,λδ4 S4 H4 e5 hA4 p4=>⟨S4,δ4,rfl,e5,hA4,p4⟩⟩
 | false =>
  rw[<- e2]
  exact k1 δ2 S2 H2 e3 hA2 p2
theorem vP{P:Bj}{w:World}{K:PySem.W.Frag}{mg:Str->Option Value}{base:Heap}{k:Nat}{f:Addr}{fd:Co}{ps:List Str}(F:FnOk P w K mg base Jv k f fd ps mV):FnOk P w K mg base Jv k f fd ps Uj:=by
 refine F.imp λus H Q E h=>?_
 obtain ⟨c,rfl,h⟩:=h
 exact ⟨c,rfl,λp f H'=>h p c f H'⟩
def kW:DF:=λds n R=>ds=[]/\n<=100000/\∀r:Int,R (.int r) (n+1)
theorem yC{P:Bj}{w:World}{K:PySem.W.Frag}{mg:Str->Option Value}{base:Heap}{k:Nat}{f:Addr}{fd:Co}{ps:List Str}(F:FnOk P w K mg base Jv k f fd ps uS):FnOk P w K mg base Jv k f fd ps (V0 K kW):=by
 refine F.imp λus H Q E h=>?_
 obtain ⟨dr,ws,As,n,ds,R,rfl,eu,ok,nd,⟨c,kk,fl,hdr,h0,h1⟩,q,hp,k1⟩:=h
 obtain ⟨rfl,hn,hR⟩:=hp
 have hAs:As=[]:=by
  have:=Rn q
  rw[Ac] at this
  exact Ii.mp this
 subst hAs
 have hws:ws=[]:=by
  cases ws with
  | nil=>rfl
  | cons _ _=>cases eu
 subst hws
 refine ⟨dr,c,kk,fl,rfl,hdr,h0,by omega,λr c' H' hd' s=>?_⟩
 exact k1 (.int r) (.int r) [] (n+1) H' (by omega) (hR r) (.int r) Ee (λ_ z=>(nomatch z)) ⟨c',kk+1,fl,hd',by omega,by omega⟩ s
theorem kN{ns:List Int}(r:Ic 60 ns):ns.length<=60:=Cf (NdS.len_leI (r.1.imp λ{x y} h=>Int.ne_of_lt h) λe he=>j8 (r.2 e he).1 (r.2 e he).2) (by decide)
def Y6{α:Type}(xs:List α)(k:Nat)(y:α):List α:=xs.take k++y::xs.drop k
def EU:Md->Md->Md
 | .ow,.ow=>.ow
 | _,_=>.tp
end DL
namespace Nd
open PySem PySem.Spec PyProof.Rows L2
end Nd
namespace DL
open PySem PySem.Spec PyProof.Rows L2 Nd
def DK(n:Nat)(gs:wG):DG:=λx δ P=>match x with
 | .dat m (.list ds)=>ds.length=n/\gs (ds.map λd=>.dat (Nk m) d) δ P
 | _=>False
def U7(ds:List Af)(z:DV)(δ:DS)(D:DEnds):Prop:=match z with
 | .dat _ e=>npk δ.sl=true/\imm e=true/\ds.length<1000000/\D.nx δ
 | _=>False
def EA(de:DE)(y:DV)(δ:DS)(D:DEnds):Prop:=match y with
 | .dat .ow (.list ds)=>de δ λz δ2=>U7 ds z δ2 D
 | _=>False
def sX(i:Nat):DE:=λδ P=>match δ.sl[i]? with
 | some (.dat .ow d)=>P (.dat .ow d) ⟨δ.sl.set i (.dat .pk d),δ.n⟩
 | _=>False
theorem eE{X:Cx}{e:Expr}{i:Nat}(h:PE X e (Pp i)):Fe X e (sX i):=by
 refine PE.imp h λσ H Q h=>?_
 obtain ⟨H0,Y,S,T,δ,P,rfl,hS,hA,hd,k⟩:=h
 unfold sX at hd
 split at hd
 ·rename_i d e1
  obtain ⟨ent,e2,e3⟩:=Kg hS e1
  have hm:ent∈S:=Ba e2
  obtain ⟨u,x,F⟩:=ent
  subst e3
  obtain ⟨v,hv,hv2⟩:=hA.ok _ (An _ hm)
  have hv':u=some v:=hv
  subst hv'
  refine ⟨v,by rw[Oj e2],k _ _ v F (S.set i ⟨some v,.dat .pk d,F⟩) H ?_ ?_ ?_ hd⟩
  ·unfold vs
   rw[Hn]
   apply Ho
   intro j
   rw[Li]
   split
   ·rename_i hij
    subst hij
    rw[Bo,e2]
    split
    ·rfl
    ·rename_i hj
     rw[Ac] at hj
     exact absurd (Ap.mp e2).1 hj
   ·rfl
  ·unfold Sl at hS ⊢
   rw[Hn,hS]
  ·have hp:At X.K H0 Y δ.n (S++⟨some v,.dat .pk d,F⟩::T) H:=hA.look hm rfl
   have p1:(S++⟨some v,.dat .pk d,F⟩::T).Perm ((S.set i ⟨some v,.dat .pk d,F⟩)++⟨some v,.dat .ow d,F⟩::T):=by
    refine Ly.trans ?_
    rw[<- Fu]
    exact ((Tp (y:=(⟨some v,.dat .pk d,F⟩ : Ent)) e2).append_right T).trans (by rw[Fu]; exact List.perm_middle.symm)
   exact hp.perm p1
 ·exact hd.elim
end DL
namespace Nd
open PySem PySem.Spec PyProof.Rows
end Nd
namespace L2
open PySem PySem.Spec PyProof.Rows
structure M1(X:Cx)(o:Expr)(m:Str)(apos:Pos)(e:Expr)(cpos:Pos):Prop where
 base:Nl o m X.env (eval o X.env)=eval o X.env
 few:((Hx cpos (Bn [e] X.env)).all (λx=>!x.1) && (backToKw cpos (Qw [] X.env)).all (λx=>x.1.isSome)
  && decide (([e]:List Expr).length+([]:List Nn).length+(if ([]:List Nn).isEmpty then 0 else 1)<30))=true
 line:(apos.endLine == cpos.line)=true
 trees:Hx cpos (Bn [e] X.env)=[(false,eval e X.env)]
structure M2(X:Cx)(o:Expr)(m:Str)(apos:Pos)(e f:Expr)(cpos:Pos):Prop where
 base:Nl o m X.env (eval o X.env)=eval o X.env
 few:((Hx cpos (Bn [e,f] X.env)).all (λx=>!x.1) && (backToKw cpos (Qw [] X.env)).all (λx=>x.1.isSome)
  && decide (([e,f]:List Expr).length+([]:List Nn).length+(if ([]:List Nn).isEmpty then 0 else 1)<30))=true
 line:(apos.endLine == cpos.line)=true
 trees:Hx cpos (Bn [e,f] X.env)=[(false,eval e X.env),(false,eval f X.env)]
end L2
namespace Nd
open PySem PySem.Spec PyProof.Rows L2
end Nd
namespace DL
open PySem PySem.Spec PyProof.Rows L2 Nd
def BQ(ks:List (List Int×Af))(w:List Int):Option Af:=(ks.find? λp=>decide (p.1=w)).map (·.2)
def BE(ks:List (List Int×Af))(w:List Int)(d:Af):List (List Int×Af) :=
 if (ks.any λp=>decide (p.1=w))=true then ks.map (λp=>if p.1=w then (p.1,d) else p) else ks++[(w,d)]
theorem nY(w:List Int):(uH w).map kV=w.map V.int:=by
 unfold uH
 rw[Da]
 rfl
def CI:D2:=λx y P=>match x,y with
 | .dat _ (.dict X),.dat _ k=>∃ks w d,X=Q8 ks/\k=Bt w/\BQ ks w=some d/\P (.dat .ow d)
 | _,_=>False
section
variable{K:PySem.W.Frag}
theorem word_at{H:Hp}{v:V}{w:List Int}{F:List Addr}(r:RdF K H v (Bt w) F):∃b,v=.ref b/\H b=some (.tup ((uH w).map kV)):=by
 obtain ⟨b,xs,rfl,hb,rb,_⟩:=r.tup_inv
 obtain ⟨rfl,_⟩:=rb.ints_inv
 exact ⟨b,rfl,by rw[nY]; exact hb⟩
end
def EG(i:Nat)(y z:DV)(δ:DS)(D:DEnds):Prop:=match δ.sl[i]?,y,z with
 | some (.dat .ow (.dict X)),.dat _ e,.dat _ k=>npk δ.sl=true/\imm e=true/\∃ks w,X=Q8 ks/\k=Bt w/\ks.length<1000000/\D.nx ⟨δ.sl.set i (.dat .ow (.dict (Q8 (BE ks w e)))),δ.n⟩
 | _,_,_=>False
def EZ(i:Nat)(z:DV)(δ:DS)(D:DEnds):Prop:=match δ.sl[i]?,z with
 | some (.dat m (.list ds)),.dat _ (.int k)=>own1 m=true/\npk δ.sl=true/\Dt ds=true/\0<=k/\k<ds.length/\k<=1000000/\D.nx ⟨δ.sl.set i (.dat m (.list (ds.eraseIdx k.toNat))),δ.n⟩
 | _,_=>False
def isLst:Option DV->Bool
 | some (.dat _ (.list _))=>true
 | _=>false
def B8:V->Int
 | .int i=>i
 | _=>0
def pK(H:Hp)(r:Addr):List Int:=match H r with
 | some (.tup xs)=>xs.map B8
 | _=>[]
theorem J6{H:Hp}{r:Addr}{w:List Int}(h:H r=some (.tup (w.map V.int))):pK H r=w:=by
 unfold pK
 rw[h]
 show (w.map V.int).map B8=w
 rw[Da]
 exact List.map_id' w
section
variable{K:PySem.W.Frag}{H:Hp}
theorem Ug:∀{ws:List (List Int)} {xs:List V} {ds:List Af} {G:List Addr},RdFs K H xs ds G->ds=ws.map Bt->∃rs:List Addr,xs=rs.map V.ref/\ws=rs.map (pK H)/\G=[]/\(∀r∈rs,H r=some (.tup ((pK H r).map V.int)))/\∀r∈rs,RdF K H (.ref r) (Bt (pK H r)) []
 | [],_,_,_,h,e=>by
  subst e
  cases h
  exact ⟨[],rfl,rfl,rfl,(λ_ z=>nomatch z),(λ_ z=>nomatch z)⟩
 | w::ws,_,_,_,h,e=>by
  cases h with
  | nil=>cases e
  | cons a t =>
   obtain ⟨e1,e2⟩:=Lj e
   obtain ⟨rs,rfl,rfl,rfl,h1,h2⟩:=Ug t e2
   subst e1
   obtain ⟨r,rfl,hr⟩:=word_at a
   rw[nY] at hr
   have ew:=J6 hr
   obtain rfl:=a.imm (show imm (Bt w)=true from Qn w)
   refine ⟨r::rs,rfl,by rw[Bh,ew],rfl,λx hx=>?_,λx hx=>?_⟩
   ·rcases Am.mp hx with rfl | hx
    ·rw[ew]; exact hr
    ·exact h1 x hx
   ·rcases Am.mp hx with rfl | hx
    ·rw[ew]; exact a
    ·exact h2 x hx
theorem Zq:∀{rs:List Addr},(∀r∈rs,RdF K H (.ref r) (Bt (pK H r)) [])->RdFs K H (rs.map V.ref) ((rs.map (pK H)).map Bt) []
 | [],_=>.nil
 | r::rs,h=>RdFs.cons (F:=[]) (G:=[]) (h r (Aa ..)) (Zq λx hx=>h x (Ad _ hx))
theorem Na:∀L:List (List Int),Dt (L.map Bt)=true
 | []=>rfl
 | w::L=>by
  show (imm (Bt w) && Dt (L.map Bt))=true
  rw[Na L,show imm (Bt w)=true from Qn w]; rfl
def dI:DC:=λxs P=>match xs with
 | [.dat _ (.list ds)]=>∃ws:List (List Int),ds=ws.map Bt/\∀L:List (List Int),L.Perm ws->L.Pairwise (λx y=>HT.lexLt y x=false)->P (.dat .ow (.list (L.map Bt)))
 | _=>False
theorem sP:Wm K (Ts.rSortI K) dI:=by
 intro H0 X n S T As us H Q P eu hA hd k
 unfold dI at hd
 split at hd
 ·rename_i ex
  obtain ⟨v,F,rfl,hA⟩:=Lm eu hA ex
  obtain ⟨ws,rfl,h1⟩:=hd
  obtain ⟨a,xs,G,rfl,ha,ra,rfl,hz⟩:=(hA.told mem_mid).list_inv
  obtain ⟨rs,rfl,rfl,rfl,c1,c2⟩:=Ug ra rfl
  refine ⟨a,rs,pK H,rfl,Ov.of ha,λr hr=>Tg.of (c1 r hr),λq rs' nq pe pw=>?_⟩
  refine k _ _ _ _ (hA.drop.newI (Zq λr hr=>c2 r (pe.mem_iff.mp hr)) (Na _) (by rw[Ac,Ac,pe.length_eq]; simpa using hz) nq .ow) (h1 _ (pe.map _) (Xa.mpr pw))
 ·exact hd.elim
end
end DL
namespace Nd
open PySem PySem.Spec PyProof.Rows L2
end Nd
namespace DL
open PySem PySem.Spec PyProof.Rows L2 Nd
end DL
namespace Nd
open PySem PySem.Spec PySem.Calls PyProof.Rows PyProof.V L2
def R8(r:Addr)(j:Int)(h:Heap):Prop:=∃t u v,IsRange h r 0 j 1 t u v
abbrev tO(r:Addr)(j:Int):HO:=.ext (R8 r j)
section
variable{prog:Bj}{w:World}{A:Cp}{E:Value->Aj->Prop}{s:Aj}
theorem aM{R:List Value->Aj->Prop}{r:Addr}{a b c:Int}{t u v:Tok}{n:Nat}(hh:A.handled=none)(hr:IsRange s.heap r a b c t u v)(hsmall:Builtin.Range.small a b c=true)(hn:Jz a b c=n)(hlen:n<=2 ^ 24)(h:∀(h':Heap) (tk:Nat) (acc:Array Value),(∀b o,s.heap.get? b=some o->h'.get? b=some o)->ItemsOf (λi v=>∃t,v=.int (a+i * c) t) acc n->R acc.toList { s with heap:=h',toks:=tk }):wpAny (model prog w) A (collect (.ref r)) R E s:=by
 unfold collect
 refine Ab (wpAny_runValue (Jr PyProof.Rows.entry_proto_collect' ?_))
 rw[Hk PySem.F.plain_proto_collect _]
 show wpAny _ A.in1 (newList [] >>= λl=>again (.builtin "list.__iadd__" ⟨[l,.ref r],[]⟩)) _ _ s
 refine Ab (Dk ?_)
 refine Al ⟨Zw PySem.F.plain_list_iadd _,Jr PyProof.Rows.entry_list_iadd' ?_⟩
 rw[Hk PySem.F.plain_list_iadd _]
 have hS₁:(s.heap.push { cls:=.type "list",data:=.seq ([]:List Value).toArray }).get? s.heap.objs.size=some { cls:=.type "list",data:=.seq #[] }:=Be _ rfl
 show wpAny _ A.in1 (Builtin.List.listExtendWith (.ref s.heap.objs.size) (.ref r) (.ref s.heap.objs.size)) _ _ _
 have key:=wpAny_extend_range (prog:=prog) (w:=w) (A:=A) (s:={ s with heap:=s.heap.push { cls:=.type "list",data:=.seq ([]:List Value).toArray } })
  (R:=λ(q:Result) (s':Aj)=>∃(h':Heap) (tk:Nat) (acc':Array Value) (c':Nat),q=.ok (.ret (.ref s.heap.objs.size))/\s'={ s with heap:=h',toks:=tk } /\
   (∀b o,s.heap.get? b=some o->h'.get? b=some o)/\h'.get? s.heap.objs.size=some { cls:=.type "list",dict:=none,data:=.seq acc' c',slots:=#[] }/\ItemsOf (λi v=>∃t,v=.int (a+i * c) t) acc' n)
  hh (Ak _ hr) hsmall hn hlen s.heap.objs.size (.ref s.heap.objs.size) 0 hS₁
  (λh' tk acc' c' hk hS' hacc=>⟨h',tk,acc',c',rfl,rfl,λb o e=>hk b o (Ce (Aw e)) (Ak _ e),hS',hacc⟩)
 refine Cz key (λfin s' x=>?_) λe s' x=>?_
 ·cases fin with
  | done f =>
   obtain ⟨h',tk,acc',c',e,rfl,hk,hS',hacc⟩:=x
   cases e
   show wpAny _ A (load s.heap.objs.size >>= _) _ _ _
   refine Ab (wpAny_load hS' ?_)
   exact Al (h h' tk acc' hk hacc)
  | again c₁ =>
   refine ⟨x.1,Mi x.2 λq s₂ y=>?_⟩
   obtain ⟨h',tk,acc',c',rfl,rfl,hk,hS',hacc⟩:=y
   show wpAny _ A (load s.heap.objs.size >>= _) _ _ _
   refine Ab (wpAny_load hS' ?_)
   exact Al (h h' tk acc' hk hacc)
 ·obtain ⟨_,_,_,_,e',_⟩:=x
  cases e'
theorem Vm{Q₁:Value->Aj->Prop}{r:Addr}{a b c:Int}{t u v:Tok}{n:Nat}(hh:A.handled=none)(hr:IsRange s.heap r a b c t u v)(hsmall:Builtin.Range.small a b c=true)(hn:Jz a b c=n)(hlen:n<=1000)(h:∀(h':Heap) (tk:Nat) (acc:Array Value),(∀b o,s.heap.get? b=some o->h'.get? b=some o)->ItemsOf (λi v=>∃t,v=.int (a+i * c) t) acc n->Q₁ (.ref h'.objs.size) { s with heap:=h'.push { cls:=.type "tuple",data:=.seq acc },toks:=tk }):Hm (model prog w) A (.call (.builtin "tuple.__new__") ⟨[.type "tuple",.ref r],[]⟩) (wants Q₁ E) s:=by
 refine Ut ?_
 show wpAny _ A.in1 (do checkBuiltinCall "tuple.__new__" ⟨[.type "tuple",.ref r],[]⟩; again (.builtin "tuple.__new__" ⟨[.type "tuple",.ref r],[]⟩)) _ _ s
 refine Ab (Km (F.newCall_tuple_1 _) (Al ⟨Zw F.plain_tuple_new _,Jr F.entry_tuple_new ?_⟩))
 rw[Hk F.plain_tuple_new _]
 have hsub:=sub_tuple_self
 have hinit:=init_tuple_lookup
 have hmh:=madeHere_tuple
 have hTI:s.TypeIs (.ref r) "range" := ⟨_,hr,rfl⟩
 have hh1:A.in1.handled=none:=hh
 wp_walk using Kq hTI,aM hh1 hr hsmall hn (by omega)
 intro h' tk acc hm hacc
 show wpAny _ _ (Fj acc.toList.toArray >>= λv=>ret v) _ _ _
 unfold Fj
 refine Ab (Dk ?_ (by show acc.toList.toArray.size<=Bd; simp only[Array.toArray_toList]; rw[hacc.1,Ia]; omega))
 refine Al ?_
 have e:acc.toList.toArray=acc:=by simp
 rw[e]
 exact h h' tk acc hm hacc
end
theorem aK:∀{n:Nat} {acc:Array Value},acc.size=n->(∀(i:Nat) v,acc[i]? = some v->∃t,v=Nm (i:Int) t)->Gc acc.toList ((Bc n).map λk:Nat=>(k:Int)):=by
 intro n acc hs h
 have gen:∀(l:List Value) (m:Nat),(∀(i:Nat) v,l[i]? = some v->∃t,v=Nm ((m+i:Nat):Int) t)->Gc l ((List.range' m l.length).map λk:Nat=>(k:Int)):=by
  intro l
  induction l with
  | nil=>intro m _; exact .nil
  | cons x l ih =>
   intro m hx
   obtain ⟨t,e⟩:=hx 0 x rfl
   have:=ih (m+1) λi v hv=>by
    obtain ⟨t,e⟩:=hx (i+1) v hv
    exact ⟨t,by rw[e]; congr 1; omega⟩
   rw[Bf,Pt,Bh]
   rw[e]
   exact .cons _ t this
 have:=gen acc.toList 0 λi v hv=>by
  obtain ⟨t,e⟩:=h i v (by simpa using hv)
  exact ⟨t,by rw[e]; congr 1; omega⟩
 rw[Jx]
 have e:acc.toList.length=n:=by simpa using hs
 rw[e] at this
 exact this
section
variable{X:Cx}
def Y0:List V->Hp->VK->Prop:=λxs H Q=>∃j:Int,xs=[.int j]/\∀r,H r=none->Q (.ref r) (upd H r (tO r j))
theorem iG:Kx X (.type "range") Y0:=by
 intro pins s σ H xs us Q I r h
 obtain ⟨j,rfl,q⟩:=h
 obtain ⟨u,rfl,t,rfl⟩:=vals1 r
 refine call_range_1 ⟨.ref s.heap.objs.size,_,I.laid (a:=s.heap.objs.size) (o:=tO s.heap.objs.size j) (t':=s.toks+1+1) (λb o e=>Ak _ e) (Ah _) ?_,rfl,q _ (I.hok.fresh (Ah _))⟩
 refine ⟨⟨_,_,_,Be _ rfl⟩,⟨_,Be _ rfl⟩,λh1 h2 ⟨t,u,v,e⟩ k=>⟨t,u,v,k _ e⟩⟩
def U1:List V->Hp->VK->Prop:=λxs H Q=>∃(r:Addr) (j:Int),xs=[.ref r]/\H r=some (tO r j)/\0<=j/\j<=1000/\∀l,H l=none->Q (.ref l) (upd H l (.tup (((Bc j.toNat).map λn:Nat=>(n:Int)).map V.int)))
theorem iB(hc:X.calm=true):Kx X (.type "tuple") U1:=by
 intro pins s σ H xs us Q I r h
 obtain ⟨p,j,rfl,hp,j0,j1,q⟩:=h
 obtain ⟨u,rfl,ru⟩:=vals1 r
 cases ru
 obtain ⟨⟨t,u,v,hr⟩,_,_⟩:=(show Kc X.prog X.w H s.heap p (tO p j) from I.hok p _ hp)
 have hn:Jz 0 j 1=((j.toNat:Nat):Int):=by rw[rangeSize_one]; split <;> omega
 refine callType_codes (Q₁:=λobj s₁=>s₁.TypeIs obj "tuple" /\ EP X pins σ Q obj s₁) F.called_tuple (F.typeCall_tuple_1 _) F.entry_object_init
  (Vm (prog:=X.prog) (w:=X.w) (E:=X.xe) (Q₁:=λobj s₁=>s₁.TypeIs obj "tuple" /\ EP X pins σ Q obj s₁) (A:=X.A.in1) (show X.A.in1.handled=none from I.ok.hd hc) hr (small_one (by omega) (by omega) (by omega) (by omega)) hn (by omega) λh' tk acc hk hacc=>⟨⟨_,Be _ rfl,rfl⟩,?_⟩) λobj s₁ h₁=>?_
 ·have I1:Inv X pins σ H { s with heap:=h',toks:=tk }:=I.kept hk
  have hv:Fk (((Bc j.toNat).map λn:Nat=>(n:Int)).map V.int) acc.toList:=by
   refine A1 (aK ?_ ?_)
   ·exact hacc.1
   ·intro i v hv
    obtain ⟨t,e⟩:=hacc.2 i v hv
    exact ⟨t,by rw[e]; congr 1; omega⟩
  refine ⟨.ref h'.objs.size,_,I1.laid (a:=h'.objs.size) (o:=.tup (((Bc j.toNat).map λn:Nat=>(n:Int)).map V.int)) (t':=tk) (λb o e=>Ak _ e) (Ah _) ⟨?_,acc.toList,hv,?_⟩,rfl,q _ (I1.hok.fresh (Ah _))⟩
  ·rw[Ac,Ac,Cb]; exact sz (by omega)
  ·have e:acc=acc.toList.toArray:=by simp
   rw[e]
   exact IsTup.new _ _
 ·exact ⟨h₁.1,F.args_object_init_2 obj _,object_init_meets F.called_tuple.init.lookup F.called_tuple.made (by decide) X.prog X.w X.A.in1 _ s₁ ⟨h₁.1,rfl,h₁.2⟩⟩
end
end Nd
namespace DL
open PySem PySem.Spec PyProof.Rows L2 Nd
def EM(da:DA):DE:=λδ P=>da δ λxs δ1=>match xs with
 | [.dat _ (.tuple ds)]=>∃ns:List Int,ds=ns.map Br/\(∀x∈ns,0<=x/\x<60)/\P (.dat .ow (.list ((N0 ns).map Br))) δ1
 | _=>False
def qX(j:Nat):List Int:=(Bc j).map λn:Nat=>(n:Int)
def BC(x:DV)(δ:DS)(P:DV->DS->Prop):Prop:=match x with
 | .dat _ (.int j)=>0<=j/\j<=1000/\P (.dat .ow (Bt (qX j.toNat))) δ
 | _=>False
def DW(de:DE):DE:=λδ P=>de δ λx δ1=>BC x δ1 P
section
variable{X:Cx}{p p2 pos pos2:Pos}{e:Expr}{de:DE}
theorem qG(hc:X.calm=true)(hg:Gl X "tuple")(hm:X.mg "tuple" = none)(hg2:Gl X "range")(hm2:X.mg "range" = none)(ha:Fe X e de)(he:Bn [e] X.env=[(false,eval e X.env)]:=by rfl)(he2:Bn [.Call (.Name "range" p2) [e] [] pos2] X.env=[(false,eval (.Call (.Name "range" p2) [e] [] pos2) X.env)]:=by rfl):Fe X (.Call (.Name "tuple" p) [.Call (.Name "range" p2) [e] [] pos2] [] pos) (DW de):=by
 refine PE.imp (Rj (iB hc) hg hm (by decide +kernel) (Fi (Rj iG hg2 hm2 (by decide +kernel) (Fi ha Iq he) (by decide) (by decide) he rfl) Iq he2) (by decide) (by decide) he2 rfl) λσ H Q h=>?_
 obtain ⟨H0,Y,S,T,δ,P,rfl,hS,hA,hd,k⟩:=h
 refine ⟨H0,Y,S,T,δ,_,rfl,hS,hA,hd,λx δ' v F S' H' e1 e2 hA' p=>?_⟩
 unfold BC at p
 split at p
 ·rename_i m j
  obtain ⟨j0,j1,p⟩:=p
  obtain ⟨rfl,_⟩:=(hA'.told mem_mid).int_inv
  refine ⟨j,rfl,λr nr=>⟨r,j,rfl,Ct,j0,j1,λl nl=>?_⟩⟩
  have s1:=Eo nr (tO r j)
  have s2:=Eo nl (.tup ((qX j.toNat).map V.int))
  refine k _ δ' _ _ S' _ e1 e2 (((hA'.drop.grow s1 (Ah _)).grow s2 (Ah _)).pushI (RdF.tup Ct ?_ (RdFs.ints _))) p
  rw[Ac]
  unfold qX
  rw[Ac,Cb]
  exact aA (by omega)
 ·exact p.elim
end
abbrev PX:=List Af->(Af->Prop)->(Addr->Prop)->Prop
end DL
namespace Nd
open PySem PySem.Spec PyProof.Rows L2
end Nd
namespace DL
open PySem PySem.Spec PyProof.Rows L2 Nd
end DL
namespace Nd
open PySem PySem.Spec PyProof.Rows L2
end Nd
namespace Nd
open PySem PySem.Spec
end Nd
namespace Nd
open PySem PySem.Spec PyProof.Rows L2
end Nd
namespace DL
open PySem PySem.Spec PyProof.Rows L2 Nd
end DL
namespace Nd
open PySem PySem.Spec PyProof.Rows L2
end Nd
namespace DL
open PySem PySem.Spec PyProof.Rows L2 Nd
end DL
namespace Nd
open PySem PySem.Spec PyProof.Rows L2
end Nd
namespace DL
open PySem PySem.Spec PyProof.Rows L2 Nd
theorem At.spoil{K:PySem.W.Frag}{H0 H H':Hp}{X:Addr->Prop}{n:Nat}{E:List Ent}{v:Option V}{d:Af}{F:List Addr}(h:At K H0 X n (⟨v,.dat .ow d,F⟩::E) H)(np:∀f∈E,Pr f.x=false)(hs:∀b o,H b=some o->(b∉F\/AX o)->H' b=some o):At K H0 X n E H':=by
 have hp:=Bm.mp h.sep
 have n0:∀a∈F,H0 a=none:=λa ha=>by
  rcases h.new _ Aa a ha with z | z
  ·exact z
  ·cases z.2
 refine At.re (h.sub (Ea _ _)) (λf hf=>(h.ok f (Ad _ hf)).kp (λb o e z=>hs b o e (z.imp (λq r=>(hp.1 f hf).1 (.inl (np f hf)) b r q) id)) (Ah _)) (λb o nx q=>hs b o (h.same b o nx q) (.inl λz=>?_)) (λb o q=>?_) λb hb=>?_
 ·rw[n0 b z] at q; cases q
 ·obtain ⟨o',e⟩:=h.dom b o q
  exact ⟨o',hs b o' e (.inl λz=>by rw[n0 b z] at q; cases q)⟩
 ·obtain ⟨z,c,k,f,h1,h2⟩:=h.xd b hb
  exact ⟨z,c,k,f,hs _ _ h1 (.inl λw=>z (n0 b w)),h2⟩
end DL
namespace Ts
open PySem PyProof.Rows L2
end Ts
namespace DL
open PySem PySem.Spec PyProof.Rows L2 Nd Ts
end DL
namespace DL
open PySem PySem.Spec PyProof.Rows L2 Nd
end DL
namespace Nd
open PySem PySem.Spec PyProof.Rows L2
end Nd
namespace DL
open PySem PySem.Spec PyProof.Rows L2 Nd
end DL
namespace Nd
open PySem PySem.Spec PySem.Calls PyProof.Rows PyProof.V L2 Ts
end Nd
namespace DL
open PySem PySem.Spec PyProof.Rows L2 Nd Ts
theorem tab_no{K:PySem.W.Frag}{x:Str}(nm:PySem.W.nsIn K Cj x=some none):PySem.W.tabIn K x=none:=by
 unfold PySem.W.tabIn
 rw[nm]
end DL
namespace HT
open PySem PyProof.Rows
end HT
namespace Nd
open PySem PySem.Spec PySem.Calls PyProof.Rows PyProof.V L2 Ts
end Nd
namespace DL
open PySem PySem.Spec PyProof.Rows L2 Nd Ts
end DL
namespace DL
open PySem PySem.Spec PyProof.Rows L2 Nd
end DL
namespace DL
open PySem L2 Nd
end DL
namespace Nd
open PySem PySem.Spec PyProof.Rows L2
end Nd
namespace DL
open PySem PySem.Spec PyProof.Rows L2 Nd
theorem G7{K:PySem.W.Frag}{H0 H:Hp}{X:Addr->Prop}{S T:List Ent}{δ:DS}{i:Nat}(hS:Sl S δ)(hA:At K H0 X δ.n (S++T) H)(h:isLst δ.sl[i]? = true):∃a xs,(vs S)[i]? = some (some (.ref a))/\H a=some (.lst xs):=by
 cases q:δ.sl[i]? with
 | none=>rw[q] at h; cases h
 | some x =>
  rw[q] at h
  obtain ⟨ent,e2,e3⟩:=Kg hS q
  obtain ⟨u,y,F⟩:=ent
  have e3':y=x:=e3
  subst e3'
  have hm:(⟨u,y,F⟩ : Ent)∈S:=Ba e2
  match y,h with
  | .dat m (.list ds),_ =>
   obtain ⟨v,hv,rd,_⟩:=hA.ok _ (An _ hm)
   obtain ⟨a,xs,G,rfl,ha,_⟩:=rd.list_inv
   exact ⟨a,xs,by rw[Oj e2]; exact congrArg some hv,ha⟩
def B7(i:Nat)(z y:DV)(δ:DS)(D:DEnds):Prop:=match δ.sl[i]?,z,y with
 | some (.dat m (.list ds)),.dat _ (.int k),.dat my e=>own1 m=true/\npk δ.sl=true/\my≠.pk/\ds.length<1000000/\0<=k/\k<=1000000/\D.nx ⟨δ.sl.set i (.dat (EU m my) (.list (Y6 ds k.toNat e))),δ.n⟩
 | _,_,_=>False
def tH(i:Nat)(dk de:DE):DB:=λD δ=>match δ.sl[i]? with
 | some (.dat _ (.list _))=>dk δ λz δ1=>de δ1 λy δ2=>B7 i z y δ2 D
 | _=>False
def EI(db:DB)(D:DEnds)(I:DS->Prop)(μ:DS->Nat)(δ':DS)(b:Bool)(δ2:DS):Prop:=match b with
 | true=>db { D with nx:=λδ3=>I δ3/\μ δ3<μ δ',ct:=λδ3=>I δ3/\μ δ3<μ δ',bk:=D.nx } δ2
 | false=>D.nx δ2
theorem tQ{dt:DT}{db:DB}{D:DEnds}{δ:DS}(I:DS->Prop)(μ:DS->Nat)(h0:I δ)(h:∀δ',I δ'->dt δ' (EI db D I μ δ')):tV dt db D δ:=⟨I,μ,h0,h⟩
theorem A9{db:DB}{D:DEnds}{I:DS->Prop}{μ:DS->Nat}{δ' δ2:DS}{b:Bool}(h1:b=true->db { D with nx:=λδ3=>I δ3/\μ δ3<μ δ',ct:=λδ3=>I δ3/\μ δ3<μ δ',bk:=D.nx } δ2)(h2:b=false->D.nx δ2):EI db D I μ δ' b δ2:=by
 cases b with
 | true=>exact h1 rfl
 | false=>exact h2 rfl
end DL
namespace NdS
open PySem
theorem cX{m:Nat}:∀{f i t:Nat},t<f->it m t i∈T6 m f i
 | f+1,i,0,_=>Aa ..
 | f+1,i,t+1,h=>Ad _ (cX (Nat.lt_of_succ_lt_succ h))
theorem K1{m:Nat}(i:Nat):st (2 * m) i % m=st m (i % m):=by
 unfold st
 rw[Nat.mod_mod_of_dvd _ ⟨2,by omega⟩,Pl,Nat.mul_mod]
 conv=>rhs; rw[Pl,Nat.mul_mod,Nat.mod_mod]
theorem vR{m:Nat}:∀(t i:Nat),it (2 * m) t i % m=it m t (i % m)
 | 0,i=>rfl
 | t+1,i=>by
  show it (2 * m) t (st (2 * m) i) % m=it m t (st m (i % m))
  rw[vR t,K1]
theorem B0{m i:Nat}(h:0<m):st m i<m:=Mk _ h
theorem u4{m:Nat}(h:0<m):∀{t i:Nat},i<m->it m t i<m
 | 0,_,hi=>hi
 | t+1,i,hi=>u4 h (t:=t) (B0 h)
theorem zW{m i:Nat}:st (2 * m) ((i+m) % (2 * m))=(st (2 * m) i+m) % (2 * m):=by
 unfold st
 have e:(i+m) * 5+1=i * 5+1+m+2 * (2 * m):=by omega
 rw[Pl,Nat.mul_mod,Nat.mod_mod,<- Nat.mul_mod,<- Pl,e,Nat.add_mul_mod_self_right,Pl]
 conv=>rhs; rw[Pl,Nat.mod_mod]
theorem nA{m:Nat}:∀(t i:Nat),i<2 * m->it (2 * m) t ((i+m) % (2 * m))=(it (2 * m) t i+m) % (2 * m)
 | 0,i,_=>rfl
 | t+1,i,h=>by
  show it (2 * m) t (st (2 * m) ((i+m) % (2 * m)))=_
  rw[zW,nA t _ (B0 (by omega))]
  rfl
theorem My{m:Nat}(g:Jc m)(h:it (2 * m) m 0=m):Jc (2 * m):=by
 obtain ⟨h0,h1,h2⟩:=g
 have half:∀t,it (2 * m) (m+t) 0=(it (2 * m) t 0+m) % (2 * m):=λt=>by
  rw[Zb,h]
  have:=nA (m:=m) t 0 (by omega)
  rw[Hs,Ha (show m<2 * m by omega)] at this
  exact this
 refine ⟨by omega,?_,λe he=>?_⟩
 ·have:=half m
  rw[h,show m+m=2 * m by omega,Nat.mod_self] at this
  exact this
 ·obtain ⟨t,ht,et⟩:=Xg (h2 (e % m) (Mk _ h0))
  have k:=vR (m:=m) t 0
  rw[Nat.zero_mod,et] at k
  have lt:it (2 * m) t 0<2 * m:=u4 (by omega) (by omega)
  by_cases c:it (2 * m) t 0=e
  ·rw[<- c]; exact cX (by omega)
  ·have hh:=half t
   have : (it (2 * m) t 0+m) % (2 * m)=e:=by
    generalize it (2 * m) t 0=x at k lt c
    have up:∀{y},m<=y->y<2 * m->y % m=y - m:=λ{y} h1 h2=>by rw[Nat.mod_eq_sub_mod h1,Ha (by omega)]
    by_cases c1:x<m <;> by_cases c2:e<m
    ·rw[Ha c1,Ha c2] at k; omega
    ·rw[Ha c1,up (by omega) he] at k
     rw[Ha (by omega)]; omega
    ·rw[up (by omega) lt,Ha c2] at k
     rw[show x+m=e+2 * m by omega,Nat.add_mod_right,Ha he]
    ·rw[up (by omega) lt,up (by omega) he] at k; omega
   rw[<- this,<- hh]
   exact cX (by omega)
theorem oS:Jc 512:=My mE (by decide +kernel)
theorem fZ:Jc 1024:=My oS (by decide +kernel)
theorem gU:Jc 2048:=My fZ (by decide +kernel)
theorem gQ:Jc 4096:=My gU (by decide +kernel)
theorem vV:Jc 8192:=My gQ (by decide +kernel)
theorem tU:∀{i:Nat},i<=10->Jc (2 ^ (i+3))
 | 0,_=>B3 | 1,_=>O1 | 2,_=>M3 | 3,_=>C5 | 4,_=>xZ | 5,_=>mE
 | 6,_=>oS | 7,_=>fZ | 8,_=>gU | 9,_=>gQ | 10,_=>vV
 | i+11,h=>absurd h (by omega)
theorem fX{n:Nat}(hn:n<8192):∀(j i f:Nat),i+j=10->∃k,i<=k/\k<=10/\Kb n (f+j+1) (2 ^ (i+3))=2 ^ (k+3)/\n<2 ^ (k+3)
 | 0,i,f,h=>by
  have : i=10:=by omega
  subst this
  refine ⟨10,Ah _,Ah _,?_,hn⟩
  unfold Kb
  rw[if_neg (by show ¬ 8192<=n; omega)]
 | j+1,i,f,h=>by
  by_cases c:2 ^ (i+3)<=n
  ·obtain ⟨k,k1,k2,k3,k4⟩:=fX hn j (i+1) f (by omega)
   refine ⟨k,by omega,k2,?_,k4⟩
   rw[<- k3,show f+(j+1)+1=(f+j+1)+1 by omega]
   show (if 2 ^ (i+3)<=n then Kb n (f+j+1) (2 ^ (i+3) * 2) else _)=_
   rw[if_pos c,<- Rx]
  ·refine ⟨i,Ah _,by omega,?_,Nat.lt_of_not_le c⟩
   show (if 2 ^ (i+3)<=n then Kb n (f+(j+1)) (2 ^ (i+3) * 2) else _)=_
   rw[if_neg c]
theorem uL{n:Nat}(hn:n<8192):∃m,Tc n=m+1/\Jc (m+1)/\n<=m/\7<=m/\m<8192/\m % 2=1:=by
 obtain ⟨k,k1,k2,k3,k4⟩:=fX hn 10 0 53 rfl
 have k3':Tc n=2 ^ (k+3):=k3
 have e:2 ^ (k+3)=2 ^ k * 8:=Nat.pow_add 2 k 3
 have p:0<2 ^ k:=Nat.pow_pos (by decide)
 have up:2 ^ (k+3)<=2 ^ 13:=Mr (by decide) (by omega)
 have up':2 ^ (k+3)<=8192:=up
 refine ⟨2 ^ (k+3) - 1,by omega,?_,by omega,by omega,by omega,by omega⟩
 rw[show 2 ^ (k+3) - 1+1=2 ^ (k+3) by omega]
 exact tU k2
theorem qU{t:By}{es:Array (Int×Value)}{wanted:Nat}(hp:t.plain=true)(hw:wanted<8192)(h2:es.size * 2<=wanted):∃(t':By) (order:Array Nat),t.relaid (es.map (·.1)) wanted=some (t',order)/\order.toList.Perm (Bc es.size)/\Tab es.size t'/\t'.mask % 2=1/\Tc wanted<=8192/\t'.led=t.led:=by
 obtain ⟨m,e1,g,hm,m7,m8,mo⟩:=uL hw
 have sz:(es.map (·.1)).size=es.size:=Array.size_map ..
 obtain ⟨t',order,q1,q2,q3,q4⟩:=tY (mask:=m) (finger:=t.finger) (moves:=t.movedTo m) (led:=t.led) g (es.map (·.1)) (by rw[sz]; omega)
 rw[sz] at q2 q3
 refine ⟨t',order,?_,q2,q3,?_,by omega,q4⟩
 ·unfold SetTable.relaid
  rw[e1,Nat.add_sub_cancel,hp]
  exact q1
 ·rw[(Xx q1).2.1]; exact mo
def tT(t:By):Nat->Ft->Ft
 | 0,p=>p
 | k+1,p=>tT t k (t.advance p)
structure WayOk(t:By)(p:Ft):Prop where
 more:p.more<=9
 top:p.j+p.more<=t.mask
 dum:p.dummy=none
theorem WayOk.next{t:By}{p:Ft}(x:WayOk t p):WayOk t (t.advance p):=by
 obtain ⟨h1,h2,h3⟩:=x
 unfold Vy
 split
 ·exact ⟨by dsimp only; omega,by dsimp only; omega,h3⟩
 ·rw[lZ]
  have hi:(p.i * 5+1+p.perturb / 32) % (t.mask+1)<=t.mask:=cE.mp (Mk _ (Rw _))
  have a1:=bS hi
  have a2:=Vc t.mask ((p.i * 5+1+p.perturb / 32) % (t.mask+1))
  exact ⟨Vt _ _,by dsimp only; omega,h3⟩
theorem Vr{t:By}(h:Int):WayOk t (t.probeStart h):=by
 have hi:Dh h % (t.mask+1)<=t.mask:=cE.mp (Mk _ (Rw _))
 have a1:=bS hi
 have a2:=Vc t.mask (Dh h % (t.mask+1))
 exact ⟨Vt _ _,by show Dh h % (t.mask+1)+(Ik t.mask (Dh h % (t.mask+1)) - Dh h % (t.mask+1))<=t.mask; omega,rfl⟩
theorem eG{t:By}:∀(k:Nat) (p:Ft),p.more=k->∃q:Ft,tT t (k+1) p=q/\q.j=((p.i * 5+1+p.perturb / 32) % (t.mask+1))/\q.i=q.j/\q.perturb=p.perturb / 32/\q.more<=9
 | 0,p,h=>by
  refine ⟨_,rfl,?_⟩
  show (t.advance p).j=_/\(t.advance p).i=(t.advance p).j/\(t.advance p).perturb=_/\(t.advance p).more<=9
  unfold Vy
  rw[if_neg (by omega),lZ]
  exact ⟨rfl,rfl,rfl,Vt _ _⟩
 | k+1,p,h=>by
  have e:t.advance p={ p with j:=p.j+1,more:=p.more - 1 }:=by
   unfold Vy
   rw[if_pos (by omega)]
  obtain ⟨q,q1,q2,q3,q4,q5⟩:=eG k (t.advance p) (by rw[e]; show p.more - 1=k; omega)
  rw[e] at q2 q4
  exact ⟨q,q1,q2,q3,q4,q5⟩
theorem nH{t:By}:∀(a b:Nat) (p:Ft),tT t (a+b) p=tT t b (tT t a p)
 | 0,b,p=>by rw[Hs]; rfl
 | a+1,b,p=>by rw[Wq]; exact nH a b _
theorem bV{t:By}:∀(u:Nat) (p:Ft),p.more<=9->∃k,k<=p.more+1+10 * u/\(tT t k p).j=(lp (t.mask+1) (u+1) p.i p.perturb).1
 | 0,p,h=>by
  obtain ⟨q,q1,q2,q3,q4,q5⟩:=eG (t:=t) p.more p rfl
  exact ⟨p.more+1,by omega,by rw[q1]; exact q2⟩
 | u+1,p,h=>by
  obtain ⟨q,q1,q2,q3,q4,q5⟩:=eG (t:=t) p.more p rfl
  obtain ⟨k,k1,k2⟩:=bV u q q5
  refine ⟨p.more+1+k,by omega,?_⟩
  rw[nH,q1,k2,q3,q2,q4]
  rfl
theorem qZ{t:By}{n:Nat}(x:Tab n t)(h:Int):∃k,k<10 * Fs t.mask/\t.slot (tT t k (t.probeStart h)).j=.empty:=by
 have hm:=Xk x
 obtain ⟨e,he,hn⟩:=j6 (m:=t.mask+1) x.rise (by rw[Ai,x.size]; omega)
 obtain ⟨u,hu,eu⟩:=iA x.good (i:=Dh h % (t.mask+1)) (p:=Dh h) (e:=e) (Mk _ (Rw _)) (nL h) he
 have tn:10 * Fs t.mask=10 * t.mask+150:=by unfold Fs; omega
 cases u with
 | zero=>exact ⟨0,by omega,(Sv x.toTabOk).mpr (by rw[show (tT t 0 (t.probeStart h)).j=e from eu]; exact hn)⟩
 | succ u =>
  obtain ⟨k,k1,k2⟩:=bV (t:=t) u (t.probeStart h) (Vr h).more
  have:=(Vr (t:=t) h).more
  exact ⟨k,by omega,(Sv x.toTabOk).mpr (by rw[k2,show (lp (t.mask+1) (u+1) (t.probeStart h).i (t.probeStart h).perturb).1=e from eu]; exact hn)⟩
theorem gV{t:By}{n:Nat}(x:TabOk n t){f:Nat->Int}{h:Int}:∀(fuel k:Nat) (p:Ft),WayOk t p->k<fuel->t.slot (tT t k p).j=.empty->(∃j,Qy t f h fuel p=some (.empty j none)/\t.slot j=.empty/\j<=t.mask)\/(∃j i q k',Qy t f h fuel p=some (.candidate j i q)/\t.slot j=.live i/\f i=h/\k'<k/\WayOk t q/\t.slot (tT t k' q).j=.empty)
 | 0,k,p,_,h,_=>absurd h (Ex _)
 | fuel+1,k,p,w,hk,he=>by
  unfold Qy
  split
  ·rename_i hs
   exact .inl ⟨p.j,by rw[w.dum],hs,by have:=w.top; omega⟩
  ·rename_i hs
   exact absurd hs (Zu x)
  ·rename_i i hs
   cases k with
   | zero=>exact absurd (show t.slot p.j=.empty from he) (by rw[hs]; intro z; cases z)
   | succ k =>
    by_cases c:(f i == h)=true
    ·rw[if_pos c]
     exact .inr ⟨p.j,i,_,k,rfl,hs,by simpa using c,Qb _,w.next,he⟩
    ·rw[if_neg c]
     rcases gV x fuel k _ w.next (by omega) he with q | ⟨j,i',q,k',a,b,c,d,e⟩
     ·exact .inl q
     ·exact .inr ⟨j,i',q,k',a,b,c,by omega,e⟩
theorem qS{t:By}{n j i:Nat}(x:TabOk n t)(h:t.slot j=.live i):i<n:=by
 unfold SetTable.slot at h
 dsimp only at h
 split at h
 ·rename_i c
  injection h with h
  subst h
  have c':t.place[Ca t.place j]? = some j:=by simpa using c
  have:=(Hb.mp c').1
  rw[<- x.size]
  exact this
 ·split at h <;> cases h
end NdS
namespace NdS
open PySem PyProof.Rows
def uK(prog:Bj)(w:World)(U:List (List Int))(h:Heap)(e:Int×Value):Prop:=∃(b:Addr) (ks:List Int),e=(Dl (Dr prog w) ks,.ref b)/\Jn (Dr prog w) h ks b/\ks∈U
structure SetT(prog:Bj)(w:World)(U:List (List Int))(h:Heap)(a:Addr)(es:Array (Int×Value))(ep:Nat)(t:By):Prop where
 obj:h.get? a=some (Ig es ep t)
 ent:∀e∈es.toList,uK prog w U h e
 tab:Tab es.size t
 odd:t.mask % 2=1
 top:t.mask<8192
 few:es.size<=1100
 led:bt w=false->t.led=true
def Kept(h h':Heap):Prop:=∀b o,o.cls=.type "set" \/ o.cls=.type "tuple" -> h.get? b=some o->h'.get? b=some o
def Tv(h h':Heap):Prop:=∀b o,o.cls=.type "tuple" -> h.get? b=some o->h'.get? b=some o
theorem Kept.t{h h':Heap}(k:Kept h h'):Tv h h':=λb o c e=>k b o (.inr c) e
theorem uK.keep{prog:Bj}{w:World}{U V:List (List Int)}{h h':Heap}{e:Int×Value}(x:uK prog w U h e)(k:Tv h h')(s:∀y∈U,y∈V):uK prog w V h' e:=by
 obtain ⟨b,ks,e,⟨o,items,n,ho,hc,hd,hi⟩,hm⟩:=x
 exact ⟨b,ks,e,⟨o,items,n,k b o hc ho,hc,hd,hi⟩,s _ hm⟩
theorem nI{prog:Bj}{w:World}{h h':Heap}{ks:List Int}{b:Addr}(x:Jn (Dr prog w) h ks b)(k:Tv h h'):Jn (Dr prog w) h' ks b:=by
 obtain ⟨o,items,n,ho,hc,hd,hi⟩:=x
 exact ⟨o,items,n,k b o hc ho,hc,hd,hi⟩
theorem SetT.keep{prog:Bj}{w:World}{U:List (List Int)}{h h':Heap}{a:Addr}{es:Array (Int×Value)}{ep:Nat}{t:By}(S:SetT prog w U h a es ep t)(k:Kept h h'):SetT prog w U h' a es ep t :=
 ⟨k _ _ (.inl rfl) S.obj,λe he=>(S.ent e he).keep k.t λ_ z=>z,S.tab,S.odd,S.top,S.few,S.led⟩
theorem Yz{h h':Heap}{a:Addr}{o:Obj}(ho:h.get? a=some o)(hc:o.cls≠.type "tuple")(sb:Iv a h h'):Tv h h':=λb o' c e=>by
 by_cases z:b=a
 ·subst z
  rw[ho] at e
  cases e
  exact absurd c hc
 ·exact (sb.2 b z).trans e
theorem Zh{n:Nat}(h:n<=1200):n<=Bd:=by rw[Ia]; omega
section
variable{prog:Bj}{w:World}{A:Cp}{E:Value->Aj->Prop}{s:Aj}{U:List (List Int)}
theorem Re{a:Addr}{es:Array (Int×Value)}{ep:Nat}{t:By}{Q:(Array (Int×Value)×Nat×By)->Aj->Prop}(S:SetT prog w U s.heap a es ep t)(h:Q (es,ep,t) s):wpAny (model prog w) A (setState a) Q E s :=
 cC S.obj rfl S.tab.fits h
theorem vG{ks:List Int}{a:Addr}{Q:Bool->Aj->Prop}(hk:Jn (Dr prog w) s.heap ks a)(h:Q true s):wpAny (model prog w) A (Wn 8 (.ref a)) Q E s:=by
 have hT:=hk.typeIs
 obtain ⟨o,items,n,ho,_,hd,hi⟩:=hk
 unfold Wn
 refine Ab (wpAny_specialOf hT F.slot_tuple_hash.lookup ?_)
 dsimp only
 refine Ab (wpAny_seqItems ho hd ?_)
 refine Ab ?_
 show wpAny _ _ (forIn items _ _) _ _ s
 rw[<- Array.forIn_toList]
 refine Sh _ (λFb r s'=>r.1=none/\s'=s/\∃l,ItemsAre (Dr prog w) l Fb) _ ?_ ?_ _ _ ⟨rfl,rfl,_,hi⟩
 ·(intro v Fb r s' q_; obtain ⟨hr,rfl,l,hall⟩ := q_)
  cases hall with
  | @cons k v' ks' vs' h1 h2 =>
   obtain ⟨tk,rfl⟩ : ∃tk,v=.int k tk:=by
    cases v <;> simp [Dr,Value.isInt] at h1
    rename_i z tk
    exact ⟨tk,by rw[h1]⟩
   refine Ab (m:=Wn 7 (.int k tk)) (Km (a:=true) (show Wn 7 (.int k tk)=pure true by unfold Wn; rfl) ?_)
   simp only[Ko,Bp,if_false]
   exact Al ⟨rfl,rfl,_,h2⟩
 ·(rintro ⟨r1,r2⟩ s' q_; obtain ⟨hr,rfl,_⟩ := q_)
  simp only at hr
  subst hr
  exact Al h
theorem bF{ks:List Int}{a:Addr}{Q:Bool->Aj->Prop}(hk:Jn (Dr prog w) s.heap ks a)(h:Q false s):wpAny (model prog w) A (Mg 8 (.ref a)) Q E s:=by
 have hT:=hk.typeIs
 obtain ⟨o,items,n,ho,_,hd,hi⟩:=hk
 unfold Mg
 refine Ab (Kq hT ?_)
 dsimp only
 rw[if_pos (by decide)]
 refine Ab (Al ?_)
 simp only[Ko,Bp,if_false]
 refine Ab (wpAny_seqItems ho hd ?_)
 dsimp only
 refine Ab ?_
 show wpAny _ _ (forIn items _ _) _ _ s
 rw[<- Array.forIn_toList]
 refine Sh _ (λFb r s'=>r.1=none/\s'=s/\∃l,ItemsAre (Dr prog w) l Fb) _ ?_ ?_ _ _ ⟨rfl,rfl,_,hi⟩
 ·(intro v Fb r s' q_; obtain ⟨hr,rfl,l,hall⟩ := q_)
  cases hall with
  | @cons k v' ks' vs' h1 h2 =>
   obtain ⟨tk,rfl⟩ : ∃tk,v=.int k tk:=by
    cases v <;> simp [Dr,Value.isInt] at h1
    rename_i z tk
    exact ⟨tk,by rw[h1]⟩
   refine Ab (m:=Mg 7 (.int k tk)) (Km (a:=false) (show Mg 7 (.int k tk)=pure false by unfold Mg; rfl) ?_)
   simp only[Bp,if_false]
   exact Al ⟨rfl,rfl,_,h2⟩
 ·(rintro ⟨r1,r2⟩ s' q_; obtain ⟨hr,rfl,_⟩ := q_)
  simp only at hr
  subst hr
  exact Al h
theorem zS{x:Addr}{kx:List Int}{stored:List Value}{Q:Bool->Aj->Prop}(hx:Jn (Dr prog w) s.heap kx x)(hs:∀y∈stored,∃b ky,y=Ar b/\Jn (Dr prog w) s.heap ky b)(h:Q false s):wpAny (model prog w) A (searchCouldBeSeen (.ref x) stored) Q E s:=by
 unfold searchCouldBeSeen
 refine Ab ?_
 refine Sh _ (λFb r s'=>r.1=none/\s'=s/\∀y∈Fb,∃b ky,y=Ar b/\Jn (Dr prog w) s.heap ky b) _ ?_ ?_ _ _ ⟨rfl,rfl,hs⟩
 ·(intro v Fb r s' q_; obtain ⟨hr,rfl,hall⟩ := q_)
  obtain ⟨b,ky,rfl,hy⟩:=hall _ (Aa ..)
  have hall':=λy hy=>hall y (Ad _ hy)
  dsimp only
  split
  ·exact Al ⟨rfl,rfl,hall'⟩
  ·refine Ab (wpAny_eqIsQuiet_tuple hx ?_)
   simp only[Ko,Bp,if_false]
   refine Ab (wpAny_eqIsQuiet_tuple hy ?_)
   simp only[Ko,Bp,if_false]
   refine Ab (bF hx ?_)
   simp only[Bp,if_false]
   refine Ab (bF hy ?_)
   simp only[Bp,if_false]
   exact Al ⟨rfl,rfl,hall'⟩
 ·(rintro ⟨r1,r2⟩ s' q_; obtain ⟨hr,rfl,_⟩ := q_)
  simp only at hr
  subst hr
  exact Al h
theorem bH{a x:Addr}{kx:List Int}{es:Array (Int×Value)}{ep:Nat}{t:By}{Q:SetFound->Aj->Prop}(S:SetT prog w U s.heap a es ep t)(hu:A.units<cLine)(hx:Jn (Dr prog w) s.heap kx x)(h1:kx∈U->Q (.there none) s)(h2:∀j,t.slot j=.empty->j<=t.mask->Q (.free j false) s):∀(fuel k:Nat) (stand:Option Ft),WayOk t (stand.getD (t.probeStart (Dl (Dr prog w) kx)))->k<fuel->k<10 * Fs t.mask->t.slot (tT t k (stand.getD (t.probeStart (Dl (Dr prog w) kx)))).j=.empty->wpAny (model prog w) A (Zv a (.ref x) (Dl (Dr prog w) kx) true fuel stand) Q E s
 | 0,k,_,_,h,_,_=>absurd h (Ex _)
 | fuel+1,k,stand,wo,hk,hk2,he=>by
  have gw:t.gaveWay=false:=by unfold SetTable.gaveWay; rw[S.odd]; rfl
  unfold Zv
  refine Ab (Re S ?_)
  dsimp only
  rw[gw]
  simp only[Bp,if_false]
  rcases gV S.tab.toTabOk (f:=λi=>(es[i]?.map (·.1)).getD 0) (h:=Dl (Dr prog w) kx) (10 * Fs t.mask) k _ wo hk2 he with ⟨j,e,ej,jm⟩ | ⟨j,i,q,k',e,ej,ei,lt,wo',he'⟩
  ·have e':t.probe (λi=>(es[i]?.map (·.1)).getD 0) (Dl (Dr prog w) kx) (stand.getD (t.probeStart (Dl (Dr prog w) kx)))=some (.empty j none):=e
   rw (transparency:=.all) [e']
   exact Al (h2 j ej jm)
  ·have e':t.probe (λi=>(es[i]?.map (·.1)).getD 0) (Dl (Dr prog w) kx) (stand.getD (t.probeStart (Dl (Dr prog w) kx)))=some (.candidate j i q):=e
   rw (transparency:=.all) [e']
   dsimp only
   have hi:=qS S.tab.toTabOk ej
   have hei:es[i]? = some es[i]:=Fl hi
   obtain ⟨b,ky,eb,hy,hm⟩:=S.ent es[i] (by simp)
   have Fb:wpAny (model prog w) A (do
     let some (_,y):=es[i]? | unsupported "internal:set-entry"
     let equal <- Qx [y] (eqBool y (.ref x))
     let (es',_,t') <- setState a
     if true && equal then return .there none
     let some same:=t'.sameMemory t.moves t.mask | unsupported "set.changed-during-lookup:is-the-new-block-at-the-old-address"
     let still <- match (if same then t'.slot j else .empty) with
      | .live i'=>match es'[i']? with
       | some (_,y')=>do pure (if <- isSame y' y then some i' else none)
       | none=>pure none
      | _=>pure none
     match still with
     | none=>rule "set.search.anew"; Zv a (.ref x) (Dl (Dr prog w) kx) true fuel none
     | some i'=>if equal then return .there (some i') else Zv a (.ref x) (Dl (Dr prog w) kx) true fuel (some q)) Q E s:=by
    rw[hei,eb]
    dsimp only
    refine Ab (Ey (wpAny_eqBool_tuple hu hy hx ?_))
    refine Ab (Re S ?_)
    dsimp only
    by_cases c:ky=kx
    ·rw[decide_eq_true c,if_pos (by decide)]
     exact Al (h1 (by rw[<- c]; exact hm))
    ·rw[decide_eq_false c,if_neg (by decide)]
     have sm:t.sameMemory t.moves t.mask=some true:=by unfold SetTable.sameMemory; rw[if_pos (by simp)]
     rw[sm]
     dsimp only
     rw[if_pos rfl,ej]
     dsimp only
     rw[hei,eb]
     dsimp only
     refine Ab (wpAny_isSame_ref_self (Ab (Al ?_)))
     rw[if_pos rfl]
     dsimp only
     rw[if_neg (by decide)]
     exact bH S hu hx h1 h2 fuel k' (some q) wo' (by omega) (by omega) he'
   by_cases l:t.led=true
   ·rw[l]
    simp only[Ko,Bp,if_false]
    exact Fb
   ·rw[Bool.not_eq_true] at l
    rw[l]
    simp only[Bool.not_false,if_true]
    refine Ab (zS hx (λy hy=>?_) ?_)
    ·obtain ⟨e0,he0,rfl⟩:=Cs.mp hy
     obtain ⟨b',k'',rfl,h3,_⟩:=S.ent e0 (by
      have:=Array.mem_def.mp (Array.mem_filter.mp (Array.mem_def.mpr he0)).1
      exact this)
     exact ⟨b',k'',rfl,h3⟩
    ·simp only[Bp,if_false]
     exact Fb
end
section
variable{prog:Bj}{w:World}{A:Cp}{E:Value->Aj->Prop}{s:Aj}{U:List (List Int)}
theorem BN{t:By}{es:Array (Int×Value)}(x:Tab es.size t)(e:Int×Value){j:Nat}(h2:j∉t.place.toList)(h3:j<=t.mask):∃t1 p,t.put j=(t1,p)/\(Df es p e).toList.Perm (es.toList++[e])/\(Df es p e).size=es.size+1/\TabOk (es.size+1) t1/\t1.mask=t.mask/\t1.plain=true/\t1.led=t.led:=by
 have hm:=Xk x
 have perm:=eT es (Ca t.place j) e
 rw[Hl] at perm
 have size:(Df es (Ca t.place j) e).size=es.size+1:=by
  rw[<- Ai,perm.length_eq,Ax,Ai]
  rfl
 have p2:=eT t.place (Ca t.place j) j
 rw[Hl] at p2
 have size2:(Df t.place (Ca t.place j) j).size=es.size+1:=by
  rw[<- Ai,p2.length_eq,Ax,Ai,x.size]
  rfl
 have nd:SetTable.has t.dummies j=false:=by rw[x.dum]; rfl
 have ok:TabOk (es.size+1) { t with place:=Df t.place (Ca t.place j) j } :=
  ⟨x.good,x.dum,x.plain,gS x.rise h2,λe he=>by
   rcases Ay.mp (p2.mem_iff.mp he) with z | z
   ·exact x.top e z
   ·rw[Ae.mp z]; exact h3,size2⟩
 refine ⟨{ t with place:=Df t.place (Ca t.place j) j },Ca t.place j,?_,perm,size,ok,rfl,x.plain,rfl⟩
 unfold SetTable.put
 simp only[nd,Bp,if_false]
theorem jD{a:Addr}{es:Array (Int×Value)}{ep:Nat}{t:By}{wanted:Nat}{Q:Unit->Aj->Prop}(ho:s.heap.get? a=some (Ig es ep t))(ent:∀e∈es.toList,uK prog w U s.heap e)(ok:TabOk es.size t)(le:es.size<=t.mask)(few:es.size<=1100)(led:bt w=false->t.led=true)(hw:wanted<8192)(h2:es.size * 2<=wanted)(h:∀es' ep' t' h',Iv a s.heap h'->SetT prog w U h' a es' ep' t'->es'.size=es.size->es'.toList.Perm es.toList->Q () { s with heap:=h' }):wpAny (model prog w) A (setRelay a wanted) Q E s:=by
 obtain ⟨t',order,q1,q2,q3,q4,q5,q6⟩:=qU (es:=es) ok.plain hw h2
 obtain ⟨p1,p2⟩:=F5 es q2
 have mk:t'.mask<8192:=by
  unfold SetTable.relaid at q1
  rw[(Xx q1).2.1]
  omega
 unfold setRelay
 refine Ab (cC ho rfl (ok.fits le) ?_)
 dsimp only
 rw[if_neg (by rw[Ia]; omega),q1]
 refine Ab ?_
 show wpAny (model prog w) A (do
  if (order.filterMap (es[·]?)).size != es.size then unsupported "internal:set-table-lost-an-element"
  pure (order.filterMap (es[·]?),t')) _ _ _
 rw[if_neg (by rw[p2]; simp)]
 refine Al ?_
 dsimp only
 refine wpAny_storeSet_of ho rfl ?_ (Zh (by rw[p2]; omega))
 have sb:=Cr s.heap a (Wp (order.filterMap (es[·]?)) t')
 have kt:Tv s.heap _:=Yz ho (by show Eh "set" ≠ Eh "tuple"; decide) sb
 exact h _ _ _ _ sb ⟨lV ho _ _,λe he=>(ent e (p1.mem_iff.mp he)).keep kt λ_ z=>z,by rw[p2]; exact q3,q4,mk,by rw[p2]; exact few,λz=>by rw[q6]; exact led z⟩ p2 p1
theorem n8{a x:Addr}{kx:List Int}{es:Array (Int×Value)}{ep:Nat}{t:By}{Q:Bool->Aj->Prop}(S:SetT prog w U s.heap a es ep t)(hn:es.size<1100)(hu:A.units<cLine)(hx:Jn (Dr prog w) s.heap kx x)(h:∀b es' ep' t' h',Iv a s.heap h'->SetT prog w (kx::U) h' a es' ep' t'->es'.size<=es.size+1->(kx∉U->es'.size=es.size+1/\(es'.toList.map (·.2)).Perm (es.toList.map (·.2)++[Ar x]))->Q b { s with heap:=h' }):wpAny (model prog w) A (setAddHashed a (.ref x) (Dl (Dr prog w) kx)) Q E s:=by
 unfold setAddHashed setAddHashedIn
 refine Ey (Ab (Re S ?_))
 dsimp only
 rw[if_neg (show ¬ (byScan (.ref x) es=true) from λz=>by simp [byScan,Value.scannable] at z)]
 obtain ⟨k,hk,he⟩:=qZ S.tab (Dl (Dr prog w) kx)
 have hk':k<100000:=by
  have:=S.top
  unfold Fs at hk
  omega
 unfold setSearch
 refine Ab (bH S hu hx (λhm=>?_) (λj ej jm=>?_) 100000 k none (Vr _) hk' hk he)
 ·dsimp only
  refine Al ?_
  exact h false es ep t s.heap (Heap.SameBut.refl a s.heap) ⟨S.obj,λe he=>(S.ent e he).keep (λ_ _ _ z=>z) λ_ z=>Ad _ z,S.tab,S.odd,S.top,S.few,S.led⟩ (by omega) (λz=>absurd hm z)
 ·dsimp only
  refine Ab (Re S ?_)
  dsimp only
  obtain ⟨t1,p,e1,p1,z1,ok1,m1,pl1,ld1⟩:=BN S.tab (Dl (Dr prog w) kx,Ar x) ((Sv S.tab.toTabOk).mp ej) jm
  rw[e1]
  dsimp only
  rw[pl1,if_pos rfl]
  refine Ab (vG hx ?_)
  rw[if_pos rfl]
  have z1':(Df es p (Dl (Dr prog w) kx,Ar x)).size<=1200:=by omega
  refine Ab (wpAny_storeSet_of S.obj rfl ?_ (Zh z1'))
  have sb:=Cr s.heap a (Wp (Df es p (Dl (Dr prog w) kx,Ar x)) t1)
  have kt:Tv s.heap _:=Yz S.obj (by show Eh "set" ≠ Eh "tuple"; decide) sb
  have ent1:∀e∈(Df es p (Dl (Dr prog w) kx,Ar x)).toList,uK prog w (kx::U) s.heap e:=λe he=>by
   rcases Ay.mp (p1.mem_iff.mp he) with z | z
   ·exact (S.ent e z).keep (λ_ _ _ z=>z) λ_ z=>Ad _ z
   ·rw[Ae.mp z]; exact ⟨x,kx,rfl,hx,Aa ..⟩
  have o1:=lV S.obj (Df es p (Dl (Dr prog w) kx,Ar x)) t1
  have ent2:=λe he=>(ent1 e he).keep kt λ_ z=>z
  have hm:=Xk S.tab
  have pv:((Df es p (Dl (Dr prog w) kx,Ar x)).toList.map (·.2)).Perm (es.toList.map (·.2)++[Ar x]):=by
   have:=p1.map (·.2)
   rw[Cu] at this
   exact this
  by_cases tf:t1.tooFull=true
  ·rw[tf,if_pos (by decide)]
   have gr:SetTable.grown (es.size+1)=(es.size+1) * 4:=by unfold SetTable.grown; rw[if_neg (by omega)]
   rw[gr]
   refine Ab (jD o1 ent2 (by rw[z1]; exact ok1) (by omega) (by omega) (λz=>by rw[ld1]; exact S.led z) (by omega) (by omega) λes' ep' t' h' sb' S' zz pz=>Al ?_)
   exact h true es' ep' t' h' (sb.trans sb') S' (by omega) λ_=>⟨by omega,(pz.map (·.2)).trans pv⟩
  ·have room:(es.size+1) * 5<t1.mask * 3:=by
    have : ¬ (t1.fill * 5 ≥ t1.mask * 3):=λz=>tf (by unfold SetTable.tooFull; exact decide_eq_true z)
    have e:t1.fill=es.size+1:=by
     unfold SetTable.fill
     rw[ok1.dum,ok1.size]
     rfl
    omega
   rw[Bool.not_eq_true] at tf
   rw[tf]
   simp only[Tf,Bp,if_false]
   refine Al ?_
   exact h true _ _ t1 _ sb ⟨o1,ent2,by rw[z1]; exact ⟨ok1,room⟩,by rw[m1]; exact S.odd,by rw[m1]; exact S.top,by omega,λz=>by rw[ld1]; exact S.led z⟩ (by omega) λ_=>⟨by omega,pv⟩
end
section
variable{prog:Bj}{w:World}{A:Cp}{R:Result->Aj->Prop}
def Tn(prog:Bj)(w:World)(h:Heap)(vs:List Value)(ws:List (List Int)):Prop:=vs.length=ws.length/\∀(i:Nat) (h1:i<vs.length) (h2:i<ws.length),∃b,vs[i]=Ar b/\Jn (Dr prog w) h ws[i] b
theorem Tn.keep{h h':Heap}{vs:List Value}{ws:List (List Int)}(x:Tn prog w h vs ws)(k:Tv h h'):Tn prog w h' vs ws :=
 ⟨x.1,λi h1 h2=>by obtain ⟨b,e,z⟩:=x.2 i h1 h2; exact ⟨b,e,nI z k⟩⟩
theorem pF{a it l:Addr}(n1:a≠it)(n2:a≠l)(n3:l≠it){items:Array Value}{ws:List (List Int)}(few:ws.length<=1100)(hh:A.in1.handled=none)(hu:A.in1.units<cLine):∀(k i:Nat) (s:Aj) (es:Array (Int×Value)) (ep:Nat) (t:By) (U:List (List Int)),items.size - i=k->i<=items.size->s.heap.IsListIter it l i->s.heap.IsList l items->Tn prog w s.heap items.toList ws->SetT prog w U s.heap a es ep t->es.size<=i->(∀x,x∈U->x∈ws.take i)->(ws.Nodup->es.size=i/\(es.toList.map (·.2)).Perm (items.toList.take i))->(∀es' ep' t' h' tk,(∀b o,b≠a->b≠it->s.heap.get? b=some o->h'.get? b=some o)->SetT prog w ws h' a es' ep' t'->es'.size<=ws.length->(ws.Nodup->es'.size=ws.length/\(es'.toList.map (·.2)).Perm items.toList)->R (.ok (.ret .none)) { s with heap:=h',toks:=tk })->Hm (model prog w) A (.builtin "set.update.loop" ⟨[.ref a,.ref it],[]⟩) R s:=by
 intro k
 induction k with
 | zero =>
  intro i s es ep t U hk hi hit hl hw S hz hU hN hR
  have len:items.size=ws.length:=by rw[<- hw.1,Ai]
  have e:i=items.size:=by omega
  refine Jr Pk ?_
  rw[Hk Ja _]
  show wpAny _ A.in1 (Pn (.ref it) >>= _) _ _ s
  refine Ab (wpAny_pyNext_list_end hh hit hl (by rw[e]; simp) λh' x=>?_)
  have kp:Kept s.heap h':=λb o c q=>by
   refine x b o (λz=>?_) q
   subst z
   obtain ⟨o',ho',c',_⟩:=hit
   rw[ho'] at q
   cases q
   rw[c'] at c
   rcases c with c | c <;> exact absurd c (by decide)
  have S':=S.keep kp
  refine Al (hR es ep t h' s.toks (λb o _ q e=>x b o q e) ⟨S'.obj,λe he=>(S'.ent e he).keep (λ_ _ _ z=>z) λy hy=>List.mem_of_mem_take (hU y hy),S'.tab,S'.odd,S'.top,S'.few,S'.led⟩ (by omega) λz=>?_)
  have q:=hN z
  rw[e] at q
  refine ⟨by omega,?_⟩
  rw[Gu (by rw[Ai]; exact Ah _)] at q
  exact q.2
 | succ k ih =>
  intro i s es ep t U hk hi hit hl hw S hz hU hN hR
  have len:items.size=ws.length:=by rw[<- hw.1,Ai]
  have lt:i<items.size:=by omega
  have lt':i<ws.length:=by omega
  obtain ⟨b,ev,hx⟩:=hw.2 i (by rw[Ai]; exact lt) lt'
  have ev':items[i]=Ar b:=by simpa using ev
  refine Jr Pk ?_
  rw[Hk Ja _]
  show wpAny _ A.in1 (Pn (.ref it) >>= _) _ _ s
  refine Ab (xV hit hl (x:=items[i]) (by simp [lt]) λh1 hit1 sb1=>?_)
  rw[ev']
  show wpAny _ A.in1 (Qx [Ar b] (setAdd a (.ref b)) >>= _) _ _ _
  refine Ab (Ey ?_)
  unfold setAdd
  have kp:Kept s.heap h1:=λb o c q=>by
   refine (sb1.2 b λz=>?_).trans q
   subst z
   obtain ⟨o',ho',c',_⟩:=hit
   rw[ho'] at q
   cases q
   rw[c'] at c
   rcases c with c | c <;> exact absurd c (by decide)
  have S1:=S.keep kp
  have hx1:=nI hx kp.t
  refine Ey (Ab (wpAny_pyHash_tuple (s:={ s with heap:=h1 }) hu hx1 ?_))
  refine n8 (s:={ s with heap:=h1,toks:=s.toks+(ws[i].length+1) }) S1 (by omega) hu hx1 λb' es2 ep2 t2 h2 sb2 S2 l2 g2=>?_
  refine Al ⟨Zw Ja _,?_⟩
  have kt2:Tv h1 h2:=Yz S1.obj (by show Eh "set" ≠ Eh "tuple"; decide) sb2
  refine ih (i+1) { s with heap:=h2,toks:=s.toks+(ws[i].length+1) } es2 ep2 t2 (ws[i]::U) (by omega) lt ?_ ?_ (hw.keep λb o c e=>kt2 b o c (kp.t b o c e)) S2 (by omega) (λy hy=>?_) (λz=>?_) λes3 ep3 t3 h3 tk3 k3 S3 l3 g3=>?_
  ·obtain ⟨o,ho,r⟩:=hit1
   exact ⟨o,(sb2.2 it (Po n1)).trans ho,r⟩
  ·obtain ⟨o,ho,r⟩:=hl
   exact ⟨o,(sb2.2 l (Po n2)).trans ((sb1.2 l n3).trans ho),r⟩
  ·rw[Fg lt']
   rcases Am.mp hy with q | q
   ·rw[q]; exact Ag _ (Ae.mpr rfl)
   ·exact An _ (hU y q)
  ·have nU:ws[i]∉U:=λq=>?_
   ·obtain ⟨a1,a2⟩:=g2 nU
    obtain ⟨c1,c2⟩:=hN z
    refine ⟨by omega,?_⟩
    rw[Fg (by rw[Ai]; exact lt),show items.toList[i]=Ar b from ev]
    exact a2.trans (c2.append_right _)
   have q':=hU _ q
   obtain ⟨j,hj,ej⟩:=eY.mp q'
   exact absurd ej (Dz.mp z j i (by omega) lt' (by omega))
  ·exact hR es3 ep3 t3 h3 tk3 (λb o q1 q2 e=>k3 b o q1 q2 ((sb2.2 b q1).trans ((sb1.2 b q2).trans e))) S3 l3 g3
end
section
variable{prog:Bj}{w:World}{A:Cp}{E:Value->Aj->Prop}{s:Aj}
theorem kI{h:Heap}:SetT prog w [] (h.push (Ig #[] 0 (.fresh 0 0 (!bt w)))) h.objs.size #[] 0 (.fresh 0 0 (!bt w)) :=
 ⟨Be _ rfl,(λe he=>by simp at he),⟨⟨B3,rfl,rfl,Do,(λj hj=>by simp [SetTable.fresh] at hj),rfl⟩,by show 0 * 5<7 * 3; decide⟩,by show 7 % 2=1; decide,by show 7<8192; decide,by show 0<=1100; decide,λz=>by show (!bt w)=true; rw[z]; rfl⟩
theorem fJ{l:Addr}{items:Array Value}{ws:List (List Int)}{Q:Value->Aj->Prop}(hh:A.handled=none)(hu:A.units+64<cLine)(hl:s.heap.IsList l items)(hw:Tn prog w s.heap items.toList ws)(few:ws.length<=1100)(h:∀es ep t h' tk,(∀b o,s.heap.get? b=some o->h'.get? b=some o)->SetT prog w ws h' s.heap.objs.size es ep t->es.size<=ws.length->(ws.Nodup->es.size=ws.length/\(es.toList.map (·.2)).Perm items.toList)->Q (.ref s.heap.objs.size) { s with heap:=h',toks:=tk }):wpAny (model prog w) A (call (.type "set") [.ref l]) Q E s:=by
 obtain ⟨c,tl,hmro⟩:=PySem.F.called_set.mro
 have hmade:=PySem.F.called_set.made
 have hsub:=PySem.F.called_set.sub
 have h1:=PySem.F.called_set.notType
 have h2:=PySem.F.called_set.canCreate
 have hct:=PySem.F.typeCall_set_1 (.ref l)
 refine wpAny_call (Ut (show wpAny _ _ (callAny (.type "set") _) _ _ _ from ?_))
 refine Al ⟨Code.quiet_builtin _ (by decide +kernel),Jr PySem.F.entry_type_call ?_⟩
 rw[Around.under_plain (weight_type_call_type "set" [.ref l] []) rfl]
 repeat (any_goals (first | assumption | wp_step))
 refine Mi (sC (.ref l) (E:=E) (Q:=λv s1=>v=.ref s.heap.objs.size/\s1={ s with heap:=s.heap.push (Ig #[] 0 (.fresh 0 0 (!bt w))) }) ⟨rfl,rfl⟩) λr s1 hr=>?_
 rcases r with e | (_ | _ | _ | v)
 ·exact hr
 ·exact hr.elim
 ·exact hr.elim
 ·exact hr.elim
 obtain ⟨rfl,rfl⟩:=hr
 have S0:=kI (prog:=prog) (w:=w) (h:=s.heap)
 have T0:Shared.TypeIs { s with heap:=s.heap.push (Ig #[] 0 (.fresh 0 0 (!bt w))) } (.ref s.heap.objs.size) "set" := ⟨_,S0.obj,rfl⟩
 have hli:=PySem.F.called_set.init.lookup
 have hbi:=PySem.F.called_set.init.bind (.ref s.heap.objs.size)
 repeat (any_goals (first | assumption | wp_step))
 refine Mi (codeAny_call_builtin (R:=wants (λr s2=>r=.none/\∃es ep t h' tk,s2={ s with heap:=h',toks:=tk }/\(∀b o,s.heap.get? b=some o->h'.get? b=some o)/\SetT prog w ws h' s.heap.objs.size es ep t/\es.size<=ws.length/\(ws.Nodup->es.size=ws.length/\(es.toList.map (·.2)).Perm items.toList)) E)
  PySem.F.called_set.init.plain PySem.F.entry_set_init (check_set_init_1 T0 ?_)) λr s2 hr=>?_
 ·obtain ⟨⟨oc,od,odt,osl⟩,ho,hc,n,hd⟩:=id hl
  have hc':oc=.type "list" := hc
  have hd':odt=.seq items n:=hd
  subst hc' hd'
  have ho':=Ak (Ig #[] 0 (.fresh 0 0 (!bt w))) ho
  have hl1:(s.heap.push (Ig #[] 0 (.fresh 0 0 (!bt w)))).IsList l items:=⟨_,ho',rfl,n,rfl⟩
  have f1:=PySem.F.sub_list_set
  have f2:=PySem.F.sub_list_frozenset
  have f3:(Eh "list" == Eh "dict")=false:=by decide
  have lt:=Aw ho
  unfold Builtin.«set.__init__» noKeywords Builtin.Frozenset.updateFrom
  generalize hPI:pyIter=PI
  wp_walk
  subst hPI
  refine cD hl1 (Ab (wpAny_runValue ?_))
  have sz:(s.heap.push (Ig #[] 0 (.fresh 0 0 (!bt w)))).objs.size=s.heap.objs.size+1:=Heap.size_push _ _
  have g1:((s.heap.push (Ig #[] 0 (.fresh 0 0 (!bt w)))).push { cls:=.type "list_iterator",data:=.fields #[.ref l,.int 0 0] }).get? (s.heap.push (Ig #[] 0 (.fresh 0 0 (!bt w)))).objs.size=some { cls:=.type "list_iterator",data:=.fields #[.ref l,.int 0 0] }:=Be _ rfl
  have kp1:Tv s.heap ((s.heap.push (Ig #[] 0 (.fresh 0 0 (!bt w)))).push { cls:=.type "list_iterator",data:=.fields #[.ref l,.int 0 0] }):=λb o _ e=>Ak _ (Ak _ e)
  refine pF (by rw[sz]; exact Ce (Qb _)) (Nat.ne_of_gt lt) (by rw[sz]; exact Ce (Jp lt)) few (by simp [hh]) (by simp; omega) (items.size - 0) 0 _ #[] 0 (.fresh 0 0 (!bt w)) [] rfl (Cy _) ⟨_,g1,rfl,rfl⟩ ⟨_,Ak _ ho',rfl,n,rfl⟩
   (hw.keep kp1) (S0.keep λb o _ q=>Ak _ q) (Cy _) (λx hx=>nomatch hx) (λ_=>⟨rfl,Gp _⟩) λes ep t h' tk k' S' m' m2'=>?_
  refine Al (Al ⟨rfl,es,ep,t,h',tk,rfl,λb o e=>?_,S',m',m2'⟩)
  ·have lb:=Aw e
   exact k' b o (Ce lb) (by rw[sz]; exact Ce (Jp lb)) (Ak _ (Ak _ e))
 ·rcases r with e | (_ | _ | _ | v)
  ·exact hr
  ·exact hr.elim
  ·exact hr.elim
  ·exact hr.elim
  obtain ⟨rfl,es,ep,t,h',tk,rfl,k',S',m',m2'⟩:=hr
  repeat (any_goals (first | assumption | wp_step))
  exact h es ep t h' tk k' S' m' m2'
end
end NdS
namespace Nd
open PySem PySem.Spec PyProof.Rows L2 NdS
def jW(a:Addr)(n:Nat)(h:Heap):Prop:=∃es ep t,h.get? a=some (Ig es ep t)/\t.fits es.size=true/\es.size=n
abbrev rO(a:Addr)(n:Nat):HO:=.ext (jW a n)
theorem zJ{P:Bj}{w':World}{H:Hp}{h:Heap}{a:Addr}{n:Nat}(e:jW a n h):Kc P w' H h a (rO a n) :=
 ⟨e,let ⟨_,_,_,S,_⟩:=e; ⟨_,S⟩,λh1 h2 ⟨es,ep,t,S,m⟩ k=>⟨es,ep,t,k _ S,m⟩⟩
theorem rQ{P:Bj}{w:World}{H:Hp}{h:Heap}{a:Addr}{n:Nat}(ok:Xz P w H h)(e:H a=some (rO a n)):jW a n h :=
 (show Kc P w H h a (rO a n) from ok a _ e).1
theorem Zd{prog:Bj}{w:World}:∀{ns:List Int} {vs:List Value},Fk (ns.map V.int) vs->ItemsAre (Dr prog w) ns vs
 | [],_,h=>by cases h; exact .nil
 | n::ns,_,h=>by
  cases h with
  | cons a t =>
   obtain ⟨tk,rfl⟩:=a
   exact .cons (intKind_is _ _ _ _) (Zd t)
theorem eM:∀{rs:List Addr} {vs:List Value},Fk (rs.map V.ref) vs->vs=rs.map Ar
 | [],_,h=>by cases h; rfl
 | r::rs,_,h=>by
  cases h with
  | cons a t =>
   cases a
   rw[eM t]
   rfl
def U9(K:PySem.W.Frag):List V->Hp->VK->Prop:=λxs H Q=>∃(a:Addr) (rs:List Addr) (f:Addr->List Int),xs=[.ref a]/\Ov K H a (rs.map V.ref)/\(∀r∈rs,Tg K H r ((f r).map V.int))/\rs.length<=1100 /\
 ∀(p:Addr) (n:Nat),H p=none->n<=rs.length->((rs.map f).Nodup->n=rs.length)->Q (.ref p) (upd H p (rO p n))
theorem pP{X:Cx}(hc:X.calm=true)(hu:X.A.units+64<cLine):Kx X (.type "set") (U9 X.K):=by
 intro pins s σ H xs us Q I r h
 obtain ⟨a,rs,f,rfl,hs,ht,few,q⟩:=h
 obtain ⟨u,rfl,ru⟩:=vals1 r
 cases ru
 obtain ⟨its,rv,pl,_⟩:=I.list hs
 have e:=eM rv
 subst e
 refine fJ (ws:=rs.map f) (I.ok.hd hc) hu pl.isList ⟨by simp,λi h1 h2=>?_⟩ (by rw[Ac]; exact few) λes ep t h' tk k S m m2=>?_
 ·have hi:i<rs.length:=by simpa using h1
  obtain ⟨js,jv,⟨o,e,hcl,n,hd⟩,_⟩:=I.tuple (ht rs[i] (Lz hi))
  exact ⟨rs[i],by simp,o,_,n,e,hcl,hd,by rw[List.getElem_map]; simpa using Zd jv⟩
 ·rw[Ac] at m m2
  exact ⟨.ref s.heap.objs.size,_,I.laid k (Ah _) (zJ ⟨es,ep,t,S.obj,S.tab.fits,rfl⟩),rfl,q _ _ (I.hok.fresh (Ah _)) m λz=>(m2 z).1⟩
def T9:List V->Hp->VK->Prop:=λxs H Q=>∃a n,xs=[V.ref a]/\H a=some (rO a n)/\n<=1100/\Q (.int n) H
theorem pM{X:Cx}:Kx X (.builtin "len") T9:=by
 intro pins s σ H xs us Q I r h
 obtain ⟨a,n,rfl,ha,hn,q⟩:=h
 obtain ⟨u,rfl,ru⟩:=vals1 r
 cases ru
 obtain ⟨es,ep,t,ho,hf,rfl⟩:=rQ I.hok ha
 refine call_len_set ho ⟨rfl,rfl,rfl⟩ rfl hf (by omega) ?_
 exact ⟨.int es.size,H,I.tok _,⟨_,rfl⟩,q⟩
end Nd
namespace Nd
open PySem L2
theorem tS{X:Cx}{K:PySem.W.Frag}{tg l:Expr}{tl:TE}(hK:X.K=K)(hl:PE X l tl):PI X tg l (mX K tl):=by
 subst hK
 exact eQ hl
theorem sH{J:It}{G:Hp->Prop}{xs:List V}{js:List Nat}{wi2:TI}{te:TE}{σ:L2.St}{H1:Hp}{Q:VK}(wk:Walked J G xs)(Pv:Addr->Nat->Hp->Prop)(h0:∀D,H1 D=none->Pv D 0 (upd H1 D (.lst [])))(hg:∀D i H,Pv D i H->G H)(hs:∀D i x H o,H1 D=none->xs[i]? = some x->Pv D i H->∀R:It->Hp->Prop,(∀J2 H2 (ys:List V) (G2:Hp->Prop) (Pw:Nat->Hp->Prop),Walked J2 G2 ys->Pw 0 H2->(∀j H,Pw j H->G2 H)->(∀j y H,ys[j]? = some y->Pw j H->∀Q':VK,(∀z H3 acc,H3 D=some (.lst acc)->acc.length<Bd->Pw (j+1) (upd H3 D (.lst (acc++[z])))->Q' z H3)->te (some x::some y::En σ js) H Q')->(∀H,Pw ys.length H->Pv D (i+1) H)->R J2 H2)->wi2 (some x::o::En σ js) H R)(hd:∀D H,H1 D=none->Pv D xs.length H->Q (.ref D) H):tX J js wi2 te σ H1 Q:=by
 intro D nD
 refine ⟨λi m H=>m=xs.length - i/\i<=xs.length/\Pv D i H,⟨xs.length,by simp,Cy _,h0 D nD⟩,?_⟩
 (intro i m H q_; obtain ⟨rfl,hi,p⟩ := q_)
 have g:=hg D i H p
 by_cases hlt:i<xs.length
 ·refine .inr ⟨wk.go i H hlt g,λx H' y o=>?_⟩
  obtain ⟨e,hx⟩:=wk.yld i H x H' hlt g y
  subst e
  refine hs D i x _ o nD hx p _ λJ2 H2 ys G2 Pw wk2 p0 hg2 hs2 hd2=>?_
  refine ⟨λj m H=>m=ys.length - j/\j<=ys.length/\Pw j H,⟨ys.length,by simp,Cy _,p0⟩,?_⟩
  (intro j m2 H3 q_; obtain ⟨rfl,hj,p2⟩ := q_)
  have g2:=hg2 j H3 p2
  by_cases hl2:j<ys.length
  ·refine .inr ⟨wk2.go j H3 hl2 g2,λy H' yy=>?_⟩
   obtain ⟨e,hy⟩:=wk2.yld j H3 y H' hl2 g2 yy
   subst e
   exact hs2 j y _ hy p2 _ λz H3 acc ha hl p3=>⟨acc,ha,hl,ys.length - (j+1),by omega,rfl,hl2,p3⟩
  ·have e:j=ys.length:=by omega
   subst e
   exact .inl ⟨wk2.stop H3 g2,xs.length - (i+1),by omega,rfl,hlt,hd2 H3 p2⟩
 ·have e:i=xs.length:=by omega
  subst e
  exact .inl ⟨wk.stop H g,hd D H nD p⟩
end Nd
namespace DL
open PySem PySem.Spec PyProof.Rows L2 Nd
def AV(xs:List DV)(δ:DS)(P:DV->DS->Prop):Prop:=match xs with
 | [.dat _ (.list ds)]=>∃ws:List (List Int),ds=ws.map Bt/\ws.length<=1100/\∀n:Nat,n<=ws.length->(ws.Nodup->n=ws.length)->P (.dat .ow (.int n)) δ
 | _=>False
def mK(da:DA):DE:=λδ P=>da δ λxs δ1=>AV xs δ1 P
section
variable{X:Cx}{p p2 pos pos2:Pos}{e:Expr}{da:DA}
theorem rS(hu:X.A.units+64<cLine)(hc:X.calm=true)(hg:Gl X "len")(hm:X.mg "len" = none)(hg2:Gl X "set")(hm2:X.mg "set" = none)(ha:jY X [e] da)(he:Bn [e] X.env=[(false,eval e X.env)]:=by rfl)(he2:Bn [.Call (.Name "set" p2) [e] [] pos2] X.env=[(false,eval (.Call (.Name "set" p2) [e] [] pos2) X.env)]:=by rfl):Fe X (.Call (.Name "len" p) [.Call (.Name "set" p2) [e] [] pos2] [] pos) (mK da):=by
 refine PE.imp (Ue pM hg hm (by decide +kernel) (Fi (Rj (pP hc hu) hg2 hm2 (by decide +kernel) ha (by decide) (by decide) he rfl) Iq he2) (by decide) (by decide) he2 rfl) λσ H Q h=>?_
 obtain ⟨H0,Y,S,T,δ,P,rfl,hS,hA,hd,k⟩:=h
 refine ⟨H0,Y,S,T,δ,_,rfl,hS,hA,hd,λxs δ' As us S' H' e1 e2 ex eu hA' p=>?_⟩
 unfold AV at p
 split at p
 ·obtain ⟨v,F,rfl,hA2⟩:=Lm eu hA' ex
  obtain ⟨ws,rfl,hl,pp⟩:=p
  obtain ⟨a,xs,G,rfl,ha,ra,rfl,hz⟩:=(hA2.told mem_mid).list_inv
  obtain ⟨rs,rfl,rfl,rfl,c1,c2⟩:=Ug ra rfl
  rw[Ac] at hl
  refine ⟨a,rs,pK H',rfl,Ov.of ha,λr hr=>Tg.of (c1 r hr),hl,λq n hq h1 h2=>?_⟩
  refine ⟨q,n,rfl,Ct,by omega,?_⟩
  have s1:=Eo hq (rO q n)
  exact k _ δ' _ _ S' _ e1 e2 ((hA2.drop.grow s1 (Ah _)).pushI (.int _)) (pp n (by rw[Ac]; exact h1) (by rw[Ac]; exact h2))
 ·exact p.elim
end
def nP(ne:Bool):D2:=λx y P=>match x,y with
 | .dat _ (.bool b),.dat _ (.bool c)=>P (.dat .ow (.bool (match ne with | true=>!(b == c) | false=>b == c)))
 | _,_=>False
section
variable{X:Cx}{K:PySem.W.Frag}
theorem zI:Vj X (Hi .IsNot) (λx y H Q=>∃b c,x=.bl b/\y=.bl c/\Q (.bl (!(b == c))) H):=by
 intro pins s σ H x y v u Q I rx ry h
 obtain ⟨b,c,rfl,rfl,q⟩:=h
 cases rx
 cases ry
 exact wpAny_isNot_plain rfl (O3 I q (by cases b <;> cases c <;> rfl))
theorem yP:oU K (λx y H Q=>∃b c,x=.bl b/\y=.bl c/\Q (.bl (!(b == c))) H) (nP true):=by
 intro H0 X n S T x y v w F G H Q P hA hd k
 unfold nP at hd
 split at hd
 ·obtain ⟨rfl,_⟩:=(hA.told Fq).bl_inv
  obtain ⟨rfl,_⟩:=(hA.told mem_mid).bl_inv
  exact ⟨_,_,rfl,rfl,k _ _ [] H (hA.drop2.pushI (m:=.ow) (.bl _)) hd⟩
 ·exact hd.elim
variable{a b:Expr}{da db:DE}{pos:Pos}
theorem i5(ha:Fe X a da)(hb:Fe X b db):aR X (.Compare a [.IsNot] [b] pos) (dB (Wx (nP true) da db)):=Sz zI yP ha hb (Qd _)
end
def o5(i:Nat)(y:DV)(δ:DS)(D:DEnds):Prop:=match δ.sl[i]?,y with
 | some (.dat m (.list ds)),.dat _ (.list es)=>own1 m=true/\npk δ.sl=true/\Dt es=true/\ds.length+es.length<1000000/\D.nx ⟨δ.sl.set i (.dat m (.list (ds++es))),δ.n⟩
 | _,_=>False
def oK(i:Nat)(de:DE):DB:=λD δ=>isLst δ.sl[i]? = true/\de δ λy δ1=>o5 i y δ1 D
section
variable{X:Cx}{o e:Expr}{de:DE}{apos cpos pos:Pos}{i:Nat}
theorem qK(ho:PE X o (Pp i))(he:Fe X e de)(hbase:Nl o "extend" X.env (eval o X.env)=eval o X.env:=by rfl)
  (hfew:((Hx cpos (Bn [e] X.env)).all (λx=>!x.1) && (backToKw cpos (Qw [] X.env)).all (λx=>x.1.isSome)
   && decide (([e]:List Expr).length+([]:List Nn).length+(if ([]:List Nn).isEmpty then 0 else 1)<30))=true:=by rfl)
  (hline:(apos.endLine == cpos.line)=true:=by rfl) (hs:Bn [e] X.env=(false,eval e X.env)::Bn [] X.env:=by rfl) (hplain:(Hx cpos (Bn [] X.env)).any (·.1)=false:=by rfl)
  (hsw:Jw (.Call (.Attribute o "extend" apos) [e] [] cpos) none pos.line X.env=pure false:=by rfl) :
  iF X (.Expr (.Call (.Attribute o "extend" apos) [e] [] cpos) pos) (oK i de):=by
 refine PS.impD (Xo (nE PySem.F.plainAttrs_list PySem.F.slot_list_extend PySem.F.type_list_extend pI ho (Fi he Iq hs) hbase hfew hline hs hplain) hsw) λD σ H h=>?_
 obtain ⟨H0,Y,S,T,δ,P,rfl,hS,hT,hA,⟨hd0,hd⟩,k1,k2,k3,k4⟩:=h
 obtain ⟨a,xs,hv,ha⟩:=G7 hS hA hd0
 refine ⟨.ref a,hv,.inl ⟨rfl,xs,Ov.of ha⟩,H0,Y,S,T,δ,_,rfl,hS,hA,hd,λy δ1 w F1 S1 H1 e4 e5 hA1 p1=>?_⟩
 unfold o5 at p1
 split at p1
 ·rename_i m ds m' es hsl1
  obtain ⟨p1,p2,p3,p4,p5⟩:=p1
  obtain ⟨b,zs,Gz,rfl,hb,rb,rfl,_⟩:=(hA1.told mem_mid).list_inv
  obtain rfl:=rb.imm p3
  obtain ⟨a',xs1,G1,g1,g2,g3,g4,g5⟩:=Yp (es:=ds++es) e5 hT hA1.drop hsl1 p1 p2
  have ea:some (V.ref a')=some (V.ref a):=Bz (by rw[<- g1,e4]; exact hv)
  cases ea
  obtain ⟨S2,h1,h2,h3⟩:=g5 (xs1++zs) (G1++[]) (g3.app rb) (by rw[Dg]; exact Em _) (by rw[Ax]; exact aA (by omega))
  have hl:=g3.len
  have hl2:=rb.len
  refine ⟨a,b,xs1,zs,rfl,rfl,g2,hb,aA (by omega),?_⟩
  rw[<- e4,<- h1]
  exact k1 ⟨_,_⟩ S2 _ h2 h3 p5
 ·exact p1.elim
end
def A6(i p:Nat)(pf:PF):DE:=λδ P=>∃(m mz:Md) (ds:List Af) (z:Int) (r:Af->List Af),δ.sl[i]? = some (.dat m (.list ds))/\δ.sl[p]? = some (.dat mz (.int z)) /\
 (∀d∈ds,pf [d,.int z] λe=>e=.list (r d))/\(ds.flatMap r).length<1000000/\P (.dat .ow (.list (ds.flatMap r))) δ
section
variable{K:PySem.W.Frag}
theorem mB{H0 H:Hp}{X:Addr->Prop}{S T:List Ent}{δ:DS}{i:Nat}{m:Md}{d:Af}(hS:Sl S δ)(hA:At K H0 X δ.n (S++T) H)(h:δ.sl[i]? = some (.dat m d)):∃v F,(vs S)[i]? = some (some v)/\RdF K H v d F:=by
 obtain ⟨ent,e2,e3⟩:=Kg hS h
 obtain ⟨u,y,F⟩:=ent
 have e3':y=.dat m d:=e3
 subst e3'
 obtain ⟨v,hv,rd,_⟩:=hA.ok _ (An _ (Ba e2))
 exact ⟨v,F,by rw[Oj e2]; exact congrArg some hv,rd⟩
theorem dQ{H:Hp}{D:Addr}{l l2:List V}{F:List Addr}(hD:H D=some (.lst l))(nD:D∉F):Kp F H (upd H D (.lst l2)):=λb o e z=>by
 by_cases c:b=D
 ·subst c
  rw[hD] at e
  cases e
  rcases z with z | z
  ·exact absurd z nD
  ·rcases z with ⟨_,z⟩ | ⟨_,_,z⟩ <;> cases z
 ·rw[Ej c]; exact e
theorem aX{α β:Type}{r:α->List β}{l:List α}{i:Nat}{d:α}(h:l[i]? = some d):(l.take (i+1)).flatMap r=(l.take i).flatMap r++r d:=by
 obtain ⟨hi,e⟩:=Ap.mp h
 rw[Fg hi,List.flatMap_append,e]
 simp
theorem zH{α β:Type}{r:α->List β}{l:List α}(i:Nat):((l.take i).flatMap r).length<=(l.flatMap r).length:=by
 conv=>rhs; rw[<- Fo i l,List.flatMap_append,Ax]
 omega
theorem yA{i p:Nat}{pf:PF}{E:XK}:∀σ H Q,LE K (A6 i p pf) σ H Q->lG (mX K (Pp i)) [p] (mX K (nJ (Nj K pf) [] E (fA (Pp 0) (fA (Pp 2) zR)))) (Pp 1) σ H Q:=by
 intro σ H Q h
 obtain ⟨H0,Y,S,T,δ,P,rfl,hS,hA,⟨m,mz,ds,z,r,h1,h2,hf,hz,hP⟩,k⟩:=h
 obtain ⟨v,F,hv,rd⟩:=mB hS hA h1
 obtain ⟨w,Fw,hw,rw'⟩:=mB hS hA h2
 obtain ⟨rfl,_⟩:=rw'.int_inv
 obtain ⟨a,xs,Ga,rfl,ha,ra,_,_⟩:=rd.list_inv
 refine ⟨.ref a,hv,a,rfl,⟨xs,Ov.of ha⟩,?_⟩
 refine sH (Wf (K:=K) (a:=a) (xs:=xs)) (λD i' H'=>H D=none/\∃acc G,H' D=some (.lst acc)/\RdFs K H' acc ((ds.take i').flatMap r) G/\(D::G).Nodup/\(∀b∈G,H b=none)/\Lg H H') ?_ ?_ ?_ ?_
 ·intro D nD
  exact ⟨nD,[],[],Ct,.nil,Bs.mpr ⟨Bk,Ee⟩,λ_ z=>(nomatch z),Eo nD _⟩
 ·(intro D i' H' q_; obtain ⟨nD,acc,G,_,_,_,_,sm⟩ := q_)
  exact Ov.of (sm _ _ ha)
 ·(intro D i' x H' o _ hx q_; obtain ⟨nD,acc,G,hD,rG,nG,fG,sm⟩ := q_; intro R hR)
  have hi':i'<ds.length:=by
   have:=(Ap.mp hx).1
   rw[ra.len] at this
   exact this
  have hdi:ds[i']? = some ds[i']:=Bw hi'
  obtain ⟨x',Fx,hx',rx,_⟩:=ra.get hdi
  rw[hx] at hx'
  cases hx'
  refine ⟨x,rfl,.int z,by show (En (vs S) [p])[0]? = _; simp [En,hw],?_⟩
  show Nj K pf [x,.int z] H' _ E
  refine ⟨[⟨some x,.dat .sh ds[i'],Fx⟩,⟨some (.int z),.dat .sh (.int z),[]⟩],0,[ds[i'],.int z],_,rfl,λe he=>?_,rfl,hf _ (Lz hi'),λv d F' H'' hd rd' nd' fr' sm'=>?_⟩
  ·rcases Am.mp he with rfl | he
   ·exact ⟨x,rfl,rx.kp λb o e _=>sm b o e,(λz=>nomatch z),(λz=>nomatch z)⟩
   ·rw[Ae.mp he]
    exact ⟨.int z,rfl,.int z,(λz=>nomatch z),(λz=>nomatch z)⟩
  ·subst hd
   obtain ⟨b,ys,Gb,rfl,hb,rb,rfl,_⟩:=rd'.list_inv
   obtain ⟨nb,ndb⟩:=Bs.mp nd'
   obtain ⟨nDG,ndG⟩:=Bs.mp nG
   have dom:∀c∈D::G,∃o,H' c=some o:=λc hc=>by
    rcases Am.mp hc with rfl | hc
    ·exact ⟨_,hD⟩
    ·exact rG.dom c hc
   have off:∀c∈b::Gb,c∉D::G:=λc hc z=>by
    obtain ⟨o,e⟩:=dom c z
    rw[fr' c hc] at e
    cases e
   have frH:∀c∈b::Gb,H c=none:=λc hc=>sm.free (fr' c hc)
   refine ⟨b,rfl,⟨ys,Ov.of hb⟩,?_⟩
   refine hR _ _ ys (λH3=>Ov K H3 b ys) (λj H3=>∃acc G1 G2,H3 D=some (.lst acc)/\RdFs K H3 acc ((ds.take i').flatMap r++(r ds[i']).take j) G1/\RdFs K H3 (ys.drop j) ((r ds[i']).drop j) G2/\(D::(G1++G2)).Nodup/\(∀c∈G1++G2,H c=none)/\b∉D::(G1++G2)/\H3 b=some (.lst ys)/\Lg H H3) Wf ?_ ?_ ?_ ?_
   ·refine ⟨acc,G,Gb,sm' _ _ hD,?_,rb,?_,?_,?_,hb,sm.trans sm'⟩
    ·rw[List.take_zero,Dg]
     exact rG.kp λc o e _=>sm' c o e
    ·refine Bs.mpr ⟨λz=>?_,Et.mpr ⟨ndG,ndb,λc hc c' hc' e=>off c' (Ad _ hc') (by rw[<- e]; exact Ad _ hc)⟩⟩
     rcases Ay.mp z with z | z
     ·exact nDG z
     ·exact off D (Ad _ z) Aa
    ·intro c hc
     rcases Ay.mp hc with hc | hc
     ·exact fG c hc
     ·exact frH c (Ad _ hc)
    ·intro z
     rcases Am.mp z with z | z
     ·exact off b Aa (by rw[z]; exact Aa)
     ·rcases Ay.mp z with z | z
      ·exact off b Aa (Ad _ z)
      ·exact nb z
   ·(intro j H3 q_; obtain ⟨_,_,_,_,_,_,_,_,_,hb3,_⟩ := q_)
    exact Ov.of hb3
   ·(intro j y H3 hy q_; obtain ⟨acc3,G1,G2,hD3,r1,r2,nd3,f3,nb3,hb3,sm3⟩ := q_; intro Q' hQ')
    refine ⟨y,rfl,?_⟩
    have hj:j<ys.length:=(Ap.mp hy).1
    have hjr:j<(r ds[i']).length:=by rw[<- rb.len]; exact hj
    have ey:ys[j]=y:=(Ap.mp hy).2
    rw[Ou hj,Ou hjr,ey] at r2
    cases r2 with
    | @cons _ _ _ _ Fy G3 ry r2' =>
    obtain ⟨nD3,nd3'⟩:=Bs.mp nd3
    have la:=r1.len
    have le:((ds.take i').flatMap r++(r ds[i']).take j).length+1<=(ds.flatMap r).length:=by
     have q:=zH (r:=r) (l:=ds) (i'+1)
     rw[aX hdi,Ax] at q
     rw[Ax,Dv]
     omega
    refine hQ' y H3 acc3 hD3 (Bu (show acc3.length<1000000 by omega) (aA (n:=1000000) (Ah _))) ⟨acc3++[y],G1++Fy,G3,Ct,?_,?_,by rw[Bg]; exact nd3,by rw[Bg]; exact f3,by rw[Bg]; exact nb3,?_,λc o e=>?_⟩
    ·rw[Fg hjr,<- Bg]
     exact (r1.snoc ry).kp (dQ hD3 λz=>nD3 (by
      rcases Ay.mp z with z | z
      ·exact An _ z
      ·exact Ag _ (An _ z)))
    ·exact r2'.kp (dQ hD3 λz=>nD3 (Ag _ (Ag _ z)))
    ·rw[Ej λz=>nb3 (by rw[z]; exact Aa)]
     exact hb3
    ·rw[Ej λz=>by rw[z,nD] at e; cases e]
     exact sm3 c o e
   ·(intro H3 q_; obtain ⟨acc3,G1,G2,hD3,r1,r2,nd3,f3,nb3,hb3,sm3⟩ := q_)
    refine ⟨nD,acc3,G1,hD3,?_,nd3.sublist ((iW G1 G2).cons₂ D),λc hc=>f3 c (An _ hc),sm3⟩
    rw[aX hdi]
    rw[Gu (Nat.le_of_eq rb.len.symm)] at r1
    exact r1
 ·(intro D H' _ q_; obtain ⟨nD,acc,G,hD,rG,nG,fG,sm⟩ := q_)
  rw[ra.len,Kf] at rG
  refine k _ δ (.ref D) (D::G) S H' rfl hS ?_ hP
  have fr:∀b∈D::G,H b=none:=λb hb=>by
   rcases Am.mp hb with rfl | hb
   ·exact nD
   ·exact fG b hb
  exact ((hA.grow sm (Ah _)).pushF (.lst hD (aA (by omega)) rG) nG (λa ha=>hA.free (fr a ha)) (λa ha=>hA.new0 (fr a ha))).tomid
end
section
variable{X:Cx}{x x2 y0 fn:Str}{px px2 py pos spos fpos cpos:Pos}{iter e1 e2 elt:Expr}{i0 i p k:Nat}{scope:Scope}{cl:List (Str×Addr)}{ys:List Str}{pf:PF}{CX:pT}{f:Addr}{fd:Co}{ps:List Str}{E:XK}
theorem jF{o:Bool}(hN:X.N.Nodup)(hi0:X.N[i0]? = some y0)(hy0:X.env.scope.names.lookup y0=some .local)(C:CompScope X scope cl x ys [p])(own2:oX scope x2)(nd2:(x::x2::ys).Nodup)(hc:X.calm=true)(hi:PE X iter (Pp i))(hi2:∀fp s H,PE (Ec X scope cl (x::x2::ys) fp s H) (.Call (.Name fn fpos) [e1,e2] [] cpos) (nJ (Nj X.K pf) [] E (fA (Pp 0) (fA (Pp 2) zR))))(he:∀fp s H,PE (Ec X scope cl (x::x2::ys) fp s H) elt (Pp 1))(hs:∀x,Dm iter X.env x=pure x:=by intro _; rfl)(hs2:∀fp s H v,Dm (.Call (.Name fn fpos) [e1,e2] [] cpos) (Ec X scope cl (x::x2::ys) fp s H).env v=pure v:=by intro _ _ _ _; rfl)(hsw:Jw (.ListComp elt [⟨.Name x px,iter,[],0⟩,⟨.Name x2 px2,.Call (.Name fn fpos) [e1,e2] [] cpos,[],0⟩] scope pos) (some (.Name y0 py)) spos.line X.env=pure true:=by rfl):iF X (.Assign [.Name y0 py] (.ListComp elt [⟨.Name x px,iter,[],0⟩,⟨.Name x2 px2,.Call (.Name fn fpos) [e1,e2] [] cpos,[],0⟩] scope pos) spos) (kK (A6 i p pf) (AY o i0)) :=
 PS.impD (wZ hN hi0 hy0 C own2 nd2 hc (eQ hi) (λfp s H=>tS rfl (hi2 fp s H)) he hs hs2 hsw) (Yu yA X5)
end
def L5(H:Hp)(r:Addr):List V:=match H r with
 | some (.lst xs)=>xs
 | _=>[]
section
variable{K:PySem.W.Frag}
theorem hV{H:Hp}:∀{C:List (List Af)} {xs:List V} {G:List Addr},RdFs K H xs (C.map Fz) G->(∀c∈C,Dt c=true/\c.length<1000000)->xs=G.map V.ref/\(∀r∈G,H r=some (.lst (L5 H r))/\(L5 H r).length<Bd)/\∀H',(∀r∈G,H' r=some (.lst (L5 H r++[.non])))->(∀b o,H b=some o->AX o->H' b=some o)->RdFs K H' xs (C.map λc=>Fz (c++[.none])) G
 | [],_,_,h,_=>by
  cases h
  exact ⟨rfl,(λ_ z=>nomatch z),λ_ _ _=>.nil⟩
 | c::C,_,_,h,hc=>by
  cases h with
  | @cons x _ xs _ F G a t =>
  obtain ⟨e1,e2,e3⟩:=hV t λd hd=>hc d (Ad _ hd)
  obtain ⟨i1,i2⟩:=hc c Aa
  obtain ⟨r,ys,Gr,rfl,hr,ry,rfl,_⟩:=a.list_inv
  obtain rfl:=ry.imm i1
  have el:L5 H r=ys:=by unfold L5; rw[hr]
  refine ⟨by rw[e1]; rfl,λr' hr'=>?_,λH' h1 h2=>?_⟩
  ·rcases Am.mp hr' with rfl | hr'
   ·rw[el]
    exact ⟨hr,Bu (by rw[ry.len]; exact i2) (aA (n:=1000000) (Ah _))⟩
   ·exact e2 r' hr'
  ·have q:=h1 r Aa
   rw[el] at q
   have r1:RdFs K H' (ys++[.non]) (c++[.none]) ([]++[]):=(ry.kp λb o e z=>h2 b o e (z.resolve_left (λz=>nomatch z))).snoc .non
   exact RdFs.cons (F:=[r]) (.lst q (by rw[Ax]; exact aA (by simp; omega)) r1) (e3 H' (λr' hr'=>h1 r' (Ad _ hr')) h2)
theorem sD{S:List Ent}{δ:DS}{i:Nat}{u:Option V}{x y:DV}{F F':List Addr}(e2:S[i]? = some ⟨u,x,F⟩)(hS:Sl S δ):vs (S.set i ⟨u,y,F'⟩)=vs S/\Sl (S.set i ⟨u,y,F'⟩) ⟨δ.sl.set i y,δ.n⟩:=by
 constructor
 ·unfold vs
  rw[Hn]
  apply Ho
  intro j
  rw[Li]
  split
  ·rename_i hij
   subst hij
   rw[Bo,e2]
   split
   ·rfl
   ·rename_i hj
    rw[Ac] at hj
    exact absurd (Ap.mp e2).1 hj
  ·rfl
 ·unfold Sl at hS ⊢
  rw[Hn,hS]
end
end DL
namespace NdW
open PySem PyProof.Rows NdS
structure SetW(w:World)(h:Heap)(a:Addr)(es:Array (Int×Value))(ep:Nat)(t:By):Prop where
 obj:h.get? a=some (Ig es ep t)
 tab:Tab es.size t
 led:bt w=false->t.led=true
 few:es.size<=1100
theorem SetW.keep{w:World}{h h':Heap}{a:Addr}{es:Array (Int×Value)}{ep:Nat}{t:By}(S:SetW w h a es ep t)(k:∀o,h.get? a=some o->h'.get? a=some o):SetW w h' a es ep t:=⟨k _ S.obj,S.tab,S.led,S.few⟩
section
variable{prog:Bj}{w:World}{A:Cp}{E:Value->Aj->Prop}{s:Aj}
theorem SetW.ty{a:Addr}{es:Array (Int×Value)}{ep:Nat}{t:By}(S:SetW w s.heap a es ep t):s.TypeIs (.ref a) "set" := ⟨_,S.obj,rfl⟩
theorem Nc{a:Addr}{es:Array (Int×Value)}{ep:Nat}{t:By}{Q:(Array (Int×Value)×Nat×By)->Aj->Prop}(S:SetW w s.heap a es ep t)(h:Q (es,ep,t) s):wpAny (model prog w) A (setState a) Q E s :=
 cC S.obj rfl S.tab.fits h
theorem yN{a:Addr}{es:Array (Int×Value)}{ep:Nat}{t:By}{Q:Array (Int×Value)->Aj->Prop}(S:SetW w s.heap a es ep t)(h:Q (if bt w then pickOrder (w.params.setOrder a ep) es else es) s):wpAny (model prog w) A (setWalk a) Q E s:=by
 unfold setWalk
 refine Ab (Nc S ?_)
 dsimp only
 refine Ab (Vg ?_)
 cases hb:bt w with
 | true =>
  rw[hb] at h
  rw[if_pos rfl] at h ⊢
  exact Ab (Si (Al h))
 | false =>
  have hl:=S.led hb
  have hp:=S.tab.plain
  rw[hb] at h
  obtain ⟨mask,place,dummies,finger,led,moves,plain⟩:=t
  have hl':led=true:=hl
  have hp':plain=true:=hp
  subst hl' hp'
  exact Ab (m:=(pure ():Sem Unit)) (Al (Al h))
end
def fS(w:World)(I a:Addr)(es:Array (Int×Value))(ep:Nat)(t:By)(i:Nat)(h:Heap):Prop :=
 (∃f,h.get? I=some (nX f i a es.size ep)/\(bt w=false->Ca t.place f=i))/\SetW w h a es ep t
section
variable{prog:Bj}{w:World}{A:Cp}{E:Value->Aj->Prop}{s:Aj}
theorem xY{a:Addr}{es:Array (Int×Value)}{ep:Nat}{t:By}{Q:Value->Aj->Prop}(S:SetW w s.heap a es ep t)(h:Q (.ref s.heap.objs.size) { s with heap:=s.heap.push (nX 0 0 a es.size ep) }):wpAny (model prog w) A (pyIter (.ref a)) Q E s:=by
 refine wpAny_pyIter_slot S.ty PySem.F.slot_set_iter (Hh PySem.F.slot_set_iter S.ty jO ?_ (PySem.F.args_set_iter_1 _))
 unfold Builtin.«frozenset.__iter__»
 refine Ab (m:=Builtin.Frozenset.slot0 "__iter__" ⟨[.ref a],[]⟩) (Km (a:=a) rfl ?_)
 unfold Builtin.Frozenset.sizeOf aC setDrawn setEpoch
 refine Ab (Ab (Ab (Nc S (Al (Al ?_)))))
 refine Ab (Ab (Nc S ?_))
 dsimp only
 refine Ab (Vg (Al ?_))
 have hp:=S.tab.plain
 have tail:wpAny (model prog w) A.in1 (do
   let first <- (pure (Mf 0):Sem Value)
   ret (<- newFields "set_iterator" [first,Mf 0,.ref a,Mf es.size,Mf (<- (do return (<- setState a).2.1))])) (λfin s'=>∃v,fin=.done (.ret v)/\∃T' r,s'.TypeIs v T'/\typeLookup (.type T') "__next__" = pure (some r)/\Q v s') E s:=by
  refine Ab (Al ?_)
  refine Ab (Ab (Nc S (Al ?_)))
  refine Ab (Dk (Al ⟨_,rfl, "set_iterator",_,⟨_,Be _ rfl,rfl⟩,Rh.lookup,h⟩))
 obtain ⟨mask,place,dummies,finger,led,moves,plain⟩:=t
 have hp':plain=true:=hp
 subst hp'
 cases hb:bt w with
 | true=>exact tail
 | false=>exact tail
theorem Ye{a:Addr}{es:Array (Int×Value)}{ep f i:Nat}{t:By}{Q:Option (Value×Nat)->Aj->Prop}(S:SetW w s.heap a es ep t)(hf:bt w=false->Ca t.place f=i)(h1:∀(hi:i<es.size) f',(bt w=false->Ca t.place f'=i+1)->Q (some (((NdS.arrOf w a ep es)[i]'(by rw[Om]; exact hi)).2,f')) s)(h2:es.size<=i->Q none s):wpAny (model prog w) A (setNext a f i ep) Q E s:=by
 unfold setNext
 refine Ab (Nc S ?_)
 dsimp only
 refine Ab (Vg ?_)
 cases hb:bt w with
 | true =>
  rw[if_pos rfl,if_neg (by simp)]
  refine Ab (yN S (Al ?_))
  show Q (((NdS.arrOf w a ep es)[i]?).map λe=>(e.2,f)) s
  by_cases hi:i<es.size
  ·rw[Fl (by rw[Om]; exact hi)]
   exact h1 hi f (λz=>by rw[hb] at z; cases z)
  ·rw[Qc (by rw[Om]; omega)]
   exact h2 (by omega)
 | false =>
  have hl:=S.led hb
  have hp:=S.tab.plain
  have tail:wpAny (model prog w) A (pure (match es[Ca t.place f]?,t.place[Ca t.place f]? with
    | some (_,x),some j=>some (x,j+1)
    | _,_=>none):Sem (Option (Value×Nat))) Q E s:=by
   rw[hf hb]
   by_cases hi:i<es.size
   ·have hi2:i<t.place.size:=by rw[S.tab.size]; exact hi
    rw[Fl hi,Fl hi2]
    refine Al ?_
    have:=h1 hi (t.place[i]+1) (λ_=>kA S.tab.rise hi2)
    have e:NdS.arrOf w a ep es=es:=by unfold NdS.arrOf; rw[hb]; rfl
    simp only[e] at this
    exact this
   ·rw[Qc (by omega)]
    exact Al (h2 (by omega))
  obtain ⟨mask,place,dummies,finger,led,moves,plain⟩:=t
  have hl':led=true:=hl
  have hp':plain=true:=hp
  subst hl' hp'
  exact Ab (m:=(pure ():Sem Unit)) (Al tail)
theorem qJ{I a:Addr}{es:Array (Int×Value)}{ep:Nat}{t:By}{i:Nat}{Q:Option Value->Aj->Prop}(st:fS w I a es ep t i s.heap)(ne:a≠I)(hi:i<es.size)(h:∀h',fS w I a es ep t (i+1) h'->Iv I s.heap h'->Q (some ((NdS.arrOf w a ep es)[i]'(by rw[Om]; exact hi)).2) { s with heap:=h' }):wpAny (model prog w) A (Pn (.ref I)) Q E s:=by
 obtain ⟨⟨f,ho,hf⟩,S⟩:=st
 have T:s.TypeIs (.ref I) "set_iterator" := ⟨_,ho,rfl⟩
 unfold Pn
 refine Ab (wpAny_attempt (Ls (name:=Xs "__next__") T Rh (Hh Rh T Zr ?_ (bR _))))
 unfold Builtin.«set_iterator.__next__»
 refine Ab (m:=slotArgs "__next__" 0 ⟨[.ref I],[]⟩) (Km (a:=(Ar I,[])) rfl ?_)
 dsimp only
 refine Ab (wpAny_fieldsOf ho rfl ?_)
 show wpAny (model prog w) A.in1 (do
  if (((<- aC a).size:Nat):Int) != (es.size:Int) then
   rule "set_iterator.__next__.size-changed"
   Sj (.ref I) 3 (Mf (-1))
   raiseError "RuntimeError" "Set changed size during iteration"
  match <- setNext a (f:Int).toNat (i:Int).toNat (ep:Int).toNat with
  | some (x,next) =>
   Sj (.ref I) 0 (Mf next)
   Sj (.ref I) 1 (Mf ((i:Int)+1))
   ret x
  | none=>Sj (.ref I) 2 .none; raiseNew (<- newExc (.type "StopIteration") [])) _ _ _
 unfold aC
 refine Ab (Ab (Nc S (Al ?_)))
 rw[if_neg (by simp)]
 simp only[Di]
 refine Ab (Ye S hf (λ_ f' hf'=>?_) (λz=>absurd hi (by omega)))
 dsimp only
 refine Ab (wpAny_setField ho rfl (by simp) ?_)
 have g1:(s.heap.update I (Obj.mapFields (·.setIfInBounds 0 (Mf f')))).get? I=some (nX f' i a es.size ep):=Lv _ ho rfl
 refine Ab (wpAny_setField g1 rfl (by simp) (Al ⟨_,rfl,Al (h _ ⟨⟨f',?_,hf'⟩,?_⟩ ((Cr ..).trans (Cr ..)))⟩))
 ·exact Lv _ g1 rfl
 ·refine S.keep λo q=>?_
  exact ((Cr _ _ _).2 a ne).trans (((Cr _ _ _).2 a ne).trans q)
theorem tW{I a:Addr}{es:Array (Int×Value)}{ep:Nat}{t:By}{Q:Option Value->Aj->Prop}(hh:A.handled=none)(st:fS w I a es ep t es.size s.heap)(h:∀h',Heap.ExtBut I s.heap h'->Q none { s with heap:=h' }):wpAny (model prog w) A (Pn (.ref I)) Q E s:=by
 obtain ⟨⟨f,ho,hf⟩,S⟩:=st
 have T:s.TypeIs (.ref I) "set_iterator" := ⟨_,ho,rfl⟩
 unfold Pn
 refine Ab (wpAny_attempt (Ls (name:=Xs "__next__") T Rh (Hh Rh T Zr ?_ (bR _))))
 unfold Builtin.«set_iterator.__next__»
 refine Ab (m:=slotArgs "__next__" 0 ⟨[.ref I],[]⟩) (Km (a:=(Ar I,[])) rfl ?_)
 dsimp only
 refine Ab (wpAny_fieldsOf ho rfl ?_)
 show wpAny (model prog w) A.in1 (do
  if (((<- aC a).size:Nat):Int) != (es.size:Int) then
   rule "set_iterator.__next__.size-changed"
   Sj (.ref I) 3 (Mf (-1))
   raiseError "RuntimeError" "Set changed size during iteration"
  match <- setNext a (f:Int).toNat (es.size:Int).toNat (ep:Int).toNat with
  | some (x,next) =>
   Sj (.ref I) 0 (Mf next)
   Sj (.ref I) 1 (Mf ((es.size:Int)+1))
   ret x
  | none=>Sj (.ref I) 2 .none; raiseNew (<- newExc (.type "StopIteration") [])) _ _ _
 unfold aC
 refine Ab (Ab (Nc S (Al ?_)))
 rw[if_neg (by simp)]
 simp only[Di]
 refine Ab (Ye S hf (λz _ _=>absurd z (Gw _)) (λ_=>?_))
 dsimp only
 refine Ab (wpAny_setField ho rfl (by simp) (Ab ?_))
 simp only[newExc,newTuple]
 refine Ab (Dk ?_ (by size_fits))
 refine Ab (m:=firstArgMember _ _) (Km (a:=Qa) (by first | rfl | (simp only[firstArgMember]; rfl)) (Dk ?_ (by size_fits)))
 simp only[raiseNew]
 refine Ab (wpAny_handled ?_)
 rw[show A.in1.handled=none from hh]
 refine Ab (Al (wpAny_throw ?_))
 refine Ab (wpAny_isInstance (T := "StopIteration") (b:=true) ⟨_,Be _ rfl,rfl⟩ isSubtype_stop ?_)
 exact Al (h _ (((Cr ..).extBut.push _).push _))
end
section
variable{prog:Bj}{w:World}{A:Cp}{E:Value->Aj->Prop}{s:Aj}
theorem oZ(hh:A.handled=none){I a:Addr}(ne:a≠I)(es:Array (Int×Value))(ep:Nat)(t:By):Walks prog w A I [I,a] [I] es.size (λi v=>∃e,(NdS.arrOf w a ep es)[i]? = some e/\v=e.2) (λi h=>fS w I a es ep t i h) where
 sub:=λb hb=>by simp at hb; simp [hb]
 frame:=λi h h' ⟨⟨f,ho,hf⟩,S⟩ hk=>⟨⟨f,hk I (by simp) _ ho,hf⟩,S.keep λo q=>hk a (by simp) o q⟩
 item:=λi s Q E hi st hQ=>qJ st ne hi λh' st' sb=>hQ _ h' s.toks ⟨_,Fl (by rw[Om]; exact hi),rfl⟩ st' λb o hb e=>(sb.2 b (λz=>hb (by simp [z]))).trans e
 done:=λs Q E st hQ=>tW hh st λh' x=>hQ h' s.toks λb o hb e=>x b o (λz=>hb (by simp [z])) e
 self:=λi s Q E st hQ=>by
  obtain ⟨⟨f,ho,hf⟩,S⟩:=st
  have T:s.TypeIs (.ref I) "set_iterator" := ⟨_,ho,rfl⟩
  refine wpAny_pyIter_slot T bD (Hh bD T jJ ?_ (qQ _))
  exact Al ⟨_,rfl, "set_iterator",_,T,Rh.lookup,hQ⟩
theorem yG(a:Addr)(es:Array (Int×Value))(ep:Nat)(t:By):PySem.W.KdlSrc prog w "set" a a es.size (λi v=>∃e,(NdS.arrOf w a ep es)[i]? = some e/\v=e.2) (λh=>SetW w h a es ep t) where
 type:=λs S=>S.ty
 there:=λh S=>⟨Aw S.obj,Aw S.obj⟩
 keep:=λh h' S k=>S.keep λo q=>k a (.inl rfl) o q
 notList:=by decide
 notTuple:=by decide
 hint:=λA E s Q S h=>wF S.ty h
 iter:=λA s hh S=>by
  have lt:=Aw S.obj
  refine ⟨nX 0 0 a es.size ep,λi h=>fS w s.heap.objs.size a es ep t i h,λE Q h=>xY S h,?_,⟨⟨0,Be _ rfl,λ_=>fL S.tab.rise⟩,S.keep λo q=>Ak _ q⟩⟩
  exact oZ hh (Ce lt) es ep t
theorem kD{arr:Array (Int×Value)}{acc:Array Value}(h:ItemsOf (λi v=>∃e,arr[i]? = some e/\v=e.2) acc arr.size):acc.toList=arr.toList.map (·.2):=by
 apply Ho
 intro j
 rw[Bo]
 cases q:acc.toList[j]? with
 | none =>
  have l:acc.size<=j:=by
   have:=List.getElem?_eq_none_iff.mp q
   rw[Ai] at this
   exact this
  rw[Sf (by rw[Ai]; have:=h.1; omega)]
  rfl
 | some v =>
  obtain ⟨e,h1,h2⟩:=h.2 j v (by rw[<- Fm]; exact q)
  rw[Fm,h1,h2]
  rfl
theorem qP{h:Heap}{a:Addr}{vs:List Value}{out:Array Value}{b:Addr}{o:Obj}(ne:b≠a)(e:h.get? b=some o):(Nh h a vs out).get? b=some o:=by
 unfold Nh
 exact ((Cr _ _ _).2 b ne).trans (Ak _ (Ak _ (((Cr _ _ _).2 b ne).trans e)))
theorem b0{h:Heap}{a:Addr}{vs:List Value}{out:Array Value}{n:Nat}(g:h.get? a=some (Ew "list" vs.toArray n)):∃n,(Nh h a vs out).get? a=some (Ew "list" out n):=by
 unfold Nh
 have g2:=Oi g (λ_=>#[])
 have g3:=Ak (Ew "list" #[] 0) (Ak (Ew "tuple" vs.toArray 0) g2)
 exact ⟨_,Oi g3 (λ_=>out)⟩
def O7:Value->Addr
 | .ref a=>a
 | _=>0
theorem rA{l:List Value}{rs:List Addr}(h:l.Perm (rs.map Ar)):∃rs0:List Addr,l=rs0.map Ar/\rs0.Perm rs:=by
 refine ⟨l.map O7,?_,?_⟩
 ·rw[Da]
  refine ((Gn λv hv=>?_).trans (List.map_id l)).symm
  obtain ⟨r,_,rfl⟩:=Cs.mp (h.mem_iff.mp hv)
  rfl
 ·have:=h.map O7
  rw[Da,show O7 ∘ Ar=id from rfl,List.map_id] at this
  exact this
theorem gO{a:Addr}{es:Array (Int×Value)}{ep:Nat}{t:By}{rs:List Addr}{c:Addr->List Int}{Q:Value->Aj->Prop}(hh:A.handled=none)(hu:A.units+64<cLine)(S:SetW w s.heap a es ep t)(hv:(es.toList.map (·.2)).Perm (rs.map Ar))(hw:∀r∈rs,∃ti:List Value,Gc ti (c r)/\IsTup s.heap r ti.toArray)(h:∀(p:Addr) (rs':List Addr) (n:Nat) (h1 h':Heap) (tk:Nat),rs'.Perm rs->rs'.Pairwise (λx y=>HT.lexLt (c y) (c x)=false)->(∀b o,s.heap.get? b=some o->h1.get? b=some o)->h1.objs.size<=p->(∀b o,h1.get? b=some o->h'.get? b=some o)->h'.get? p=some (Ew "list" (rs'.map Ar).toArray n)->Q (.ref p) { s with heap:=h',toks:=tk }):wpAny (model prog w) A (call (.builtin "sorted") [.ref a]) Q E s:=by
 refine eU (by exact kind_sorted) plain_sorted entry_sorted (args_sorted1 _) ?_
 unfold Builtin.«sorted»
 refine Ab (m:=checkCount "sorted" 1 1 _) (Al (Ab (PySem.W.kdu_collect (A:=A.in1) (yG a es ep t) hh S (Zh (by have:=S.few; omega)) λh1 tk acc k1 hacc=>?_)))
 have hacc':ItemsOf (λi v=>∃e,(NdS.arrOf w a ep es)[i]? = some e/\v=e.2) acc (NdS.arrOf w a ep es).size:=by rw[Om]; exact hacc
 have e1:=kD hacc'
 have e3:acc.toList.Perm (rs.map Ar):=by
  rw[e1]
  exact ((fF (w:=w) (a:=a) (ep:=ep) (es:=es)).map (λe:Int×Value=>e.2)).trans hv
 obtain ⟨rs0,e2,p0⟩:=rA e3
 rw[e2]
 have l0:rs0.length<=1100:=by
  have:=congrArg Ip e2
  rw[Ai,hacc.1,Ac] at this
  have:=S.few
  omega
 refine Ab (wpAny_newList ?_ (by rw[Ac]; exact Zh (by omega)))
 have g1:(h1.push (Ew "list" (rs0.map Ar).toArray 0)).get? h1.objs.size=some (Ew "list" (rs0.map Ar).toArray 0):=Be _ rfl
 refine Ab (Ey (Hh slot_list_sort ⟨_,g1,rfl⟩ entry_list_sort (Ts.sort_listG (s:={ s with heap:=h1.push (Ew "list" (rs0.map Ar).toArray 0),toks:=tk }) (c:=c) (d0:=[]) (lt_:=HT.lexLt) g1 (λh' hk h2=>Ts.kinded_ints (λr hr=>?_) ?_ h2) (Zh (by omega)) λrs' p1 p2=>⟨_,rfl,?_⟩) (args_list_sort _)))
 ·obtain ⟨ti,t1,o,g,kk⟩:=hw r (p0.mem_iff.mp hr)
  have g':=k1 r o g
  exact ⟨ti,t1,o,hk _ _ (Ce (Aw g')) (Ak _ g'),kk⟩
 ·first | (show A.units+1+1<cLine; omega) | (simp; omega) | omega
 ·obtain ⟨n,hn⟩:=b0 (out:=(rs'.map Ar).toArray) g1
  refine Al ⟨_,rfl,h _ rs' n h1 _ tk (p1.trans p0) p2 k1 (Ah _) (λb o e=>qP (Ce (Aw e)) (Ak _ e)) hn⟩
end
end NdW
namespace Nd
open PySem PySem.Spec PyProof.Rows L2 NdS NdW
def kX(w:World)(a:Addr)(V:List Value)(h:Heap):Prop:=∃es ep t,SetW w h a es ep t/\(es.toList.map (·.2)).Perm V
abbrev gX(w:World)(a:Addr)(V:List Value):HO:=.ext (kX w a V)
theorem yK{P:Bj}{w w':World}{H:Hp}{h:Heap}{a:Addr}{V:List Value}(e:kX w a V h):Kc P w' H h a (gX w a V) :=
 ⟨e,let ⟨_,_,_,S,_⟩:=e; ⟨_,S.obj⟩,λh1 h2 ⟨es,ep,t,S,m⟩ k=>⟨es,ep,t,S.keep λo q=>k o q,m⟩⟩
theorem pD{P:Bj}{w:World}{H:Hp}{h:Heap}{a:Addr}{V:List Value}(ok:Xz P w H h)(e:H a=some (gX w a V)):kX w a V h :=
 (show Kc P w H h a (gX w a V) from ok a _ e).1
def W8(w:World)(K:PySem.W.Frag):List V->Hp->VK->Prop:=λxs H Q=>∃(a:Addr) (rs:List Addr) (f:Addr->List Int),xs=[.ref a]/\Ov K H a (rs.map V.ref)/\(∀r∈rs,Tg K H r ((f r).map V.int))/\rs.length<=1100/\(rs.map f).Nodup /\
 ∀p:Addr,H p=none->Q (.ref p) (upd H p (gX w p (rs.map Ar)))
theorem rH{X:Cx}(hc:X.calm=true)(hu:X.A.units+64<cLine):Kx X (.type "set") (W8 X.w X.K):=by
 intro pins s σ H xs us Q I r h
 obtain ⟨a,rs,f,rfl,hs,ht,few,nd,q⟩:=h
 obtain ⟨u,rfl,ru⟩:=vals1 r
 cases ru
 obtain ⟨its,rv,pl,_⟩:=I.list hs
 have e:=eM rv
 subst e
 refine fJ (ws:=rs.map f) (I.ok.hd hc) hu pl.isList ⟨by simp,λi h1 h2=>?_⟩ (by rw[Ac]; exact few) λes ep t h' tk k S m m2=>?_
 ·have hi:i<rs.length:=by simpa using h1
  obtain ⟨js,jv,⟨o,e,hcl,n,hd⟩,_⟩:=I.tuple (ht rs[i] (Lz hi))
  exact ⟨rs[i],by simp,o,_,n,e,hcl,hd,by rw[List.getElem_map]; simpa using Zd jv⟩
 ·exact ⟨.ref s.heap.objs.size,_,I.laid k (Ah _) (yK ⟨es,ep,t,⟨S.obj,S.tab,S.led,S.few⟩,by simpa using (m2 nd).2⟩),rfl,q _ (I.hok.fresh (Ah _))⟩
def G5(w:World)(K:PySem.W.Frag):List V->Hp->VK->Prop:=λxs H Q=>∃(a:Addr) (rs:List Addr) (c:Addr->List Int),xs=[.ref a]/\H a=some (gX w a (rs.map Ar))/\(∀r∈rs,Tg K H r ((c r).map V.int))/\rs.length<=1100 /\
 ∀(p:Addr) (rs':List Addr),H p=none->rs'.Perm rs->rs'.Pairwise (λx y=>HT.lexLt (c y) (c x)=false)->Q (.ref p) (upd H p (.lst (rs'.map V.ref)))
theorem dO{X:Cx}(hc:X.calm=true)(hu:X.A.units+64<cLine):Kx X (.builtin "sorted") (G5 X.w X.K):=by
 intro pins s σ H xs us Q I r h
 obtain ⟨a,rs,c,rfl,ha,ht,few,q⟩:=h
 obtain ⟨u,rfl,ru⟩:=vals1 r
 cases ru
 obtain ⟨es,ep,t,S,m⟩:=pD I.hok ha
 refine gO (c:=c) (I.ok.hd hc) hu S m (λr hr=>?_) λp rs' n h1 h' tk pm pw k1 hge k2 hg=>?_
 ·obtain ⟨ti,t1,t2,_⟩:=I.tuple (ht r hr)
  exact ⟨ti,intsAre_of t1,t2⟩
 ·have I1:Inv X pins σ H { s with heap:=h1,toks:=tk }:=I.kept k1
  refine ⟨.ref p,upd H p (.lst (rs'.map V.ref)),I1.laid (t':=tk) k2 hge ⟨by rw[Ac,pm.length_eq,Ia]; omega,_,n,Ts.vals_refs rs',hg⟩,rfl,q p rs' (I1.hok.fresh hge) pm pw⟩
end Nd
namespace DL
open PySem PySem.Spec PyProof.Rows L2 Nd
def zV(xs:List DV)(δ:DS)(P:DV->DS->Prop):Prop:=match xs with
 | [.dat _ (.list ds)]=>∃ws:List (List Int),ds=ws.map Bt/\ws.length<=1100/\ws.Nodup/\∀L:List (List Int),L.Perm ws->L.Pairwise (λx y=>HT.lexLt y x=false)->P (.dat .ow (.list (L.map Bt))) δ
 | _=>False
def X1(da:DA):DE:=λδ P=>da δ λxs δ1=>zV xs δ1 P
section
variable{X:Cx}{p p2 pos pos2:Pos}{e:Expr}{da:DA}
theorem N6(hu:X.A.units+64<cLine)(hc:X.calm=true)(hg:Gl X "sorted")(hm:X.mg "sorted" = none)(hg2:Gl X "set")(hm2:X.mg "set" = none)(ha:jY X [e] da)(he:Bn [e] X.env=[(false,eval e X.env)]:=by rfl)(he2:Bn [.Call (.Name "set" p2) [e] [] pos2] X.env=[(false,eval (.Call (.Name "set" p2) [e] [] pos2) X.env)]:=by rfl):Fe X (.Call (.Name "sorted" p) [.Call (.Name "set" p2) [e] [] pos2] [] pos) (X1 da):=by
 refine PE.imp (Ue (dO hc hu) hg hm (by decide +kernel) (Fi (Rj (rH hc hu) hg2 hm2 (by decide +kernel) ha (by decide) (by decide) he rfl) Iq he2) (by decide) (by decide) he2 rfl) λσ H Q h=>?_
 obtain ⟨H0,Y,S,T,δ,P,rfl,hS,hA,hd,k⟩:=h
 refine ⟨H0,Y,S,T,δ,_,rfl,hS,hA,hd,λxs δ' As us S' H' e1 e2 ex eu hA' p=>?_⟩
 unfold zV at p
 split at p
 ·obtain ⟨v,F,rfl,hA2⟩:=Lm eu hA' ex
  obtain ⟨ws,rfl,hl,nd,pp⟩:=p
  obtain ⟨a,xs,G,rfl,ha,ra,rfl,hz⟩:=(hA2.told mem_mid).list_inv
  obtain ⟨rs,rfl,rfl,rfl,c1,c2⟩:=Ug ra rfl
  rw[Ac] at hl
  refine ⟨a,rs,pK H',rfl,Ov.of ha,λr hr=>Tg.of (c1 r hr),hl,nd,λq hq=>?_⟩
  have s1:=Eo hq (gX X.w q (rs.map Ar))
  refine ⟨q,rs,pK H',rfl,Ct,λr hr=>Tg.of (s1 _ _ (c1 r hr)),hl,λr rs' nr pm pw=>?_⟩
  have c3:∀x∈rs',RdF X.K (upd H' q (gX X.w q (rs.map Ar))) (.ref x) (Bt (pK H' x)) []:=λx hx=>(c2 x (pm.mem_iff.mp hx)).kp λb o e _=>s1 b o e
  have c4:RdFs X.K (upd H' q (gX X.w q (rs.map Ar))) (rs'.map V.ref) ((rs'.map (pK H')).map Bt) []:=by
   clear pm pw nr
   induction rs' with
   | nil=>exact .nil
   | cons y l ih=>exact RdFs.cons (F:=[]) (G:=[]) (c3 y Aa) (ih λx hx=>c3 x (Ad _ hx))
  exact k _ δ' _ _ S' _ e1 e2 ((hA2.drop.grow s1 (Ah _)).newI c4 (Na _) (by rw[Ac,Ac,pm.length_eq]; exact aA (by omega)) nr .ow) (pp _ (pm.map _) (Xa.mpr pw))
 ·exact p.elim
end
def CB(t u:DB)(D:DEnds)(b:Bool)(δ:DS):Prop:=match b with
 | true=>t D δ
 | false=>u D δ
def V9(x:DV)(δ:DS)(P:DV->DS->Prop):Prop:=match x with
 | .dat _ d=>imm d=true/\P (.dat .ow d) δ
 | _=>False
def ER(i:Nat)(s:Option DV)(δ:DS)(P:DV->DS->Prop):Prop:=match s with
 | some (.dat .pk _)=>False
 | some (.dat _ d)=>P (.dat .sh d) ⟨δ.sl.set i (.dat .sh d),δ.n⟩
 | _=>False
def tupB(xs:List DV)(δ:DS)(P:DV->DS->Prop):Prop:=match datas xs with
 | some ds=>ds.length<=1000/\P (.dat (pkMd .sh xs) (.tuple ds)) δ
 | none=>False
def lstB(xs:List DV)(δ:DS)(P:DV->DS->Prop):Prop:=match datas xs with
 | some ds=>ds.length<=1000/\P (.dat (pkMd .tp xs) (.list ds)) δ
 | none=>False
def C0(x:DV)(δ:DS)(P:Option Int->DS->Prop):Prop:=match x with
 | .dat _ (.int i)=>P (some i) δ
 | _=>False
def DH(i:Bool)(x:DV)(l h:Option Int)(δ:DS)(P:DV->DS->Prop):Prop:=match x with
 | .dat m (.list ds)=>hW i m (Lr ds l h) λz=>P z δ
 | .dat m (.tuple ds)=>uR i m (Lr ds l h) λz=>P z δ
 | _=>False
def FF(xs:List DV)(δ:DS)(P:DV->DS->Prop):Prop:=match xs with
 | [.dat _ (.list ds)]=>∃ns:List Int,ds=ns.map Br/\(∀x∈ns,0<=x/\x<60)/\P (.dat .ow (.list ((N0 ns).map Br))) δ
 | [.dat _ (.tuple ds)]=>∃ns:List Int,ds=ns.map Br/\(∀x∈ns,0<=x/\x<60)/\P (.dat .ow (.list ((N0 ns).map Br))) δ
 | _=>False
def bB(x:DV)(δ:DS)(P:Bool->DS->Prop):Prop:=match x with
 | .dat _ (.bool b)=>P b δ
 | _=>False
def V3(x:DV)(δ:DS)(P:Bool->DS->Prop):Prop:=match x with
 | .dat _ d=>S7 d/\P (yL d) δ
 | _=>False
def Z7(du:DT)(b:Bool)(δ:DS)(P:Bool->DS->Prop):Prop:=match b with
 | true=>du δ P
 | false=>P false δ
def BD(du:DT)(b:Bool)(δ:DS)(P:Bool->DS->Prop):Prop:=match b with
 | true=>P true δ
 | false=>du δ P
def R3(x:DV)(δ:DS)(P:DV->DS->Prop):Prop:=match x with
 | .dat _ (.bool b)=>P (.dat .ow (.bool (!b))) δ
 | _=>False
def P9(db:DE)(x:DV)(δ:DS)(P:DV->DS->Prop):Prop:=match x with
 | .dat _ (.bool true)=>db δ P
 | .dat _ (.bool false)=>P (.dat .ow (.bool false)) δ
 | _=>False
def DR(da db:DE)(b:Bool)(δ:DS)(P:DV->DS->Prop):Prop:=match b with
 | true=>da δ P
 | false=>db δ P
def U8(x:DV)(δ:DS)(P:DV->DS->Prop):Prop:=match x with
 | .dat _ (.int i)=>P (.dat .ow (.int (-i))) δ
 | _=>False
def lB(x:DV)(δ:DS)(P:Md->List Af->DS->Prop):Prop:=match x with
 | .dat m (.list ds)=>P (Kd m) ds δ
 | _=>False
def ED(x:DV)(δ:DS)(P:Md->List Af->DS->Prop):Prop:=match x with
 | .dat m (.tuple ds)=>P (Kd m) ds δ
 | _=>False
def t8(xs:List DV)(δ:DS)(P:Md->List Af->DS->Prop):Prop:=match xs with
 | [.dat _ (.int j)]=>-1000000<=j/\j<=1000000/\P .sh ((Bc j.toNat).map λi:Nat=>.int i) δ
 | _=>False
def u7(xs:List DV)(δ:DS)(P:Md->List Af->DS->Prop):Prop:=match xs with
 | [.dat _ (.int i),.dat _ (.int j)]=>-1000000<=i/\i<=1000000 /\ -1000000<=j/\j<=1000000/\P .sh ((Bc (j - i).toNat).map λk:Nat=>.int (i+k)) δ
 | _=>False
def A8(xs:List DV)(δ:DS)(P:Md->List Af->DS->Prop):Prop:=match xs with
 | [.dat m (.list ds)]=>P (Kd m) (ds.zipIdx.map λp=>.tuple [.int p.2,p.1]) δ
 | _=>False
def S6(xs:List DV)(δ:DS)(P:Md->List Af->DS->Prop):Prop:=match xs with
 | [.dat m (.list ds),.dat m' (.list es)]=>P (mdZip m m') ((ds.zip es).map λp=>.tuple [p.1,p.2]) δ
 | _=>False
def V5(dg:DG)(db:DB)(D:DEnds)(m:Md)(ds:List Af)(δ1:DS):Prop:=m=.sh/\∃I:Nat->DS->Prop,I 0 δ1 /\
 (∀i d δ',ds[i]? = some d->I i δ'->dg (.dat .sh d) δ' λδ2=>db { D with nx:=I (i+1),ct:=I (i+1),bk:=D.nx } δ2)/\∀δ',I ds.length δ'->D.nx δ'
def uG(js:List Nat)(dc:DT)(de:DE)(P:DV->DS->Prop)(m:Md)(ds:List Af)(δ1:DS):Prop:=∃I:Nat->List Af->Nat->Prop,I 0 [] δ1.n /\
 (∀i d acc n,ds[i]? = some d->I i acc n->Ul dc de ⟨.dat m d::frD δ1.sl js,n⟩ (λe n'=>I (i+1) (acc++[e]) n') (λn'=>I (i+1) acc n')) /\
 ∀acc n,I ds.length acc n->P (.dat .ow (.list acc)) ⟨δ1.sl,n⟩
def zE(yes:Af->Nat->Prop)(y:DV)(δ:DS):Prop:=match y with
 | .dat _ e=>imm e=true/\yes e δ.n
 | _=>False
def nV(de:DE)(yes:Af->Nat->Prop)(no:Nat->Prop)(b:Bool)(δ:DS):Prop:=match b with
 | true=>de δ λy δ3=>zE yes y δ3
 | false=>no δ.n
def A2(i:Nat)(x:Option DV)(δ:DS)(P:DV->DS->Prop):Prop:=match x with
 | some (.dat .ow d)=>P (.dat .ow d) ⟨δ.sl.set i (.dat .pk d),δ.n⟩
 | _=>False
def callB(pf:PF)(xs:List DV)(δ:DS)(P:DV->DS->Prop):Prop:=match datas xs with
 | some ds=>pf ds λd=>P (.dat .ow d) δ
 | none=>False
def callBW(i:Nat)(df:DF)(xs:List DV)(δ:DS)(P:DV->DS->Prop):Prop:=match δ.sl[i]? with
 | some .drw=>match datas xs with
  | some ds=>df ds δ.n λd n'=>P (.dat .ow d) ⟨δ.sl,n'⟩
  | none=>False
 | _=>False
def uJ(xs:List DV)(δ:DS)(P:DV->DS->Prop):Prop:=match xs with
 | [.dat _ (.int _)]=>P .drw δ
 | _=>False
def appB(i:Nat)(y:DV)(δ:DS)(D:DEnds):Prop:=match δ.sl[i]?,y with
 | some (.dat m (.list ds)),.dat _ e=>own1 m=true/\npk δ.sl=true/\imm e=true/\ds.length<1000000/\D.nx ⟨δ.sl.set i (.dat m (.list (ds++[e]))),δ.n⟩
 | _,_=>False
def Z0(i:Nat)(z:DV)(δ:DS)(D:DEnds):Prop:=match z with
 | .dat _ d=>imm d=true/\D.nx ⟨δ.sl.set i (.dat .sh d),δ.n⟩
 | _=>False
theorem e_ssW{da:DA}{δ:DS}{P:DV->DS->Prop}:X1 da δ P=(da δ λxs δ1=>zV xs δ1 P):=rfl
theorem e_ssWB{m:Md}{ds:List Af}{δ:DS}{P:DV->DS->Prop}:zV [.dat m (.list ds)] δ P=(∃ws:List (List Int),ds=ws.map Bt/\ws.length<=1100/\ws.Nodup/\∀L:List (List Int),L.Perm ws->L.Pairwise (λx y=>HT.lexLt y x=false)->P (.dat .ow (.list (L.map Bt))) δ):=rfl
theorem e_lenSet{da:DA}{δ:DS}{P:DV->DS->Prop}:mK da δ P=(da δ λxs δ1=>AV xs δ1 P):=rfl
theorem e_lsB{m:Md}{ds:List Af}{δ:DS}{P:DV->DS->Prop}:AV [.dat m (.list ds)] δ P=(∃ws:List (List Int),ds=ws.map Bt/\ws.length<=1100/\∀n:Nat,n<=ws.length->(ws.Nodup->n=ws.length)->P (.dat .ow (.int n)) δ):=rfl
theorem e_isB1{m m2:Md}{b c:Bool}{P:DV->Prop}:nP true (.dat m (.bool b)) (.dat m2 (.bool c)) P=(P (.dat .ow (.bool (!(b == c))))):=rfl
theorem e_extend{i:Nat}{de:DE}{D:DEnds}{δ:DS}:oK i de D δ=(isLst (δ.sl[i]?)=true/\de δ λy δ1=>o5 i y δ1 D):=rfl
theorem e_extB{i:Nat}{y:DV}{D:DEnds}{δ:DS}:o5 i y δ D=(match δ.sl[i]?,y with | some (.dat m (.list ds)),.dat _ (.list es)=>own1 m=true/\npk δ.sl=true/\Dt es=true/\ds.length+es.length<1000000/\D.nx ⟨δ.sl.set i (.dat m (.list (ds++es))),δ.n⟩ | _,_=>False):=rfl
theorem Q5{i:Nat}{dk de:DE}{D:DEnds}{δ:DS}:tH i dk de D δ=(match δ.sl[i]? with | some (.dat _ (.list _))=>dk δ λz δ1=>de δ1 λy δ2=>B7 i z y δ2 D | _=>False):=rfl
theorem e_seq{t u:DB}{D:DEnds}{δ:DS}:N7 t u D δ=(t { D with nx:=λδ'=>u D δ' } δ):=rfl
theorem e_skip{D:DEnds}{δ:DS}:A4 D δ=(D.nx δ):=rfl
theorem e_ret{de:DE}{D:DEnds}{δ:DS}:W3 de D δ=(de δ D.rt):=rfl
theorem e_if{dt:DT}{t u:DB}{D:DEnds}{δ:DS}:DQ dt t u D δ=(dt δ (CB t u D)):=rfl
theorem e_asg{de:DE}{dg:DG}{D:DEnds}{δ:DS}:kK de dg D δ=(de δ λx δ'=>dg x δ' D.nx):=rfl
theorem e_name{i:Nat}{m:Md}{d:Af}{δ:DS}{Q:DS->Prop}:Qg i (.dat .ow d) δ Q=(Q ⟨δ.sl.set i (.dat .sh d),δ.n⟩):=rfl
theorem e_name2{i:Nat}{m:Md}{d:Af}{δ:DS}{Q:DS->Prop}:Qg i (.dat .sh d) δ Q=(Q ⟨δ.sl.set i (.dat .sh d),δ.n⟩):=rfl
theorem e_name4{i:Nat}{δ:DS}{Q:DS->Prop}:Qg i .drw δ Q=(Q ⟨δ.sl.set i .drw,δ.n⟩):=rfl
theorem e_own{i:Nat}{d:Af}{δ:DS}{Q:DS->Prop}:Yy i (.dat .ow d) δ Q=(Q ⟨δ.sl.set i (.dat .ow d),δ.n⟩):=rfl
theorem e_nT{i:Nat}{x:DV}{δ:DS}{Q:DS->Prop}:AY true i x δ Q=(Yy i x δ Q):=rfl
theorem e_gtup{n:Nat}{gs:wG}{m:Md}{ds:List Af}{δ:DS}{Q:DS->Prop}:wA n gs (.dat m (.tuple ds)) δ Q=(ds.length=n/\gs (ds.map λd=>.dat (Nk m) d) δ Q):=rfl
theorem e_gsn{δ:DS}{Q:DS->Prop}:wQ [] δ Q=(Q δ):=rfl
theorem e_gsc{g:DG}{gs:wG}{x:DV}{r:List DV}{δ:DS}{Q:DS->Prop}:nK g gs (x::r) δ Q=(g x δ λδ'=>gs r δ' Q):=rfl
theorem e_op{rd:D2}{da db:DE}{δ:DS}{P:DV->DS->Prop}:Wx rd da db δ P=(da δ λx δ1=>db δ1 λy δ2=>rd x y λz=>P z δ2):=rfl
theorem e_var{i:Nat}{δ:DS}{P:DV->DS->Prop}:P4 i δ P=(match δ.sl[i]? with | some (.dat m d)=>P (.dat (hZ m) d) δ | _=>False):=rfl
theorem e_c{d:Af}{δ:DS}{P:DV->DS->Prop}:dC d δ P=(P (.dat .ow d) δ):=rfl
theorem e_imm{de:DE}{δ:DS}{P:DV->DS->Prop}:Z5 de δ P=(de δ λx δ'=>V9 x δ' P):=rfl
theorem e_immB{m:Md}{d:Af}{δ:DS}{P:DV->DS->Prop}:V9 (.dat m d) δ P=(imm d=true/\P (.dat .ow d) δ):=rfl
theorem e_take{i:Nat}{δ:DS}{P:DV->DS->Prop}:vT i δ P=(match δ.sl[i]? with | some (.dat m d)=>P (.dat m d) ⟨δ.sl.set i .un,δ.n⟩ | _=>False):=rfl
theorem e_I{C:Int->Int->Prop}{g:Int->Int->Af}{i j:Int}{m m':Md}{P:DV->Prop}:A3 C g (.dat m (.int i)) (.dat m' (.int j)) P=(C i j/\P (.dat .ow (g i j))):=rfl
theorem e_I0{g:Int->Int->Af}{i j:Int}{m m':Md}{P:DV->Prop}:aH g (.dat m (.int i)) (.dat m' (.int j)) P=(P (.dat .ow (g i j))):=rfl
theorem e_eqF{d e:Af}{m m':Md}{P:DV->Prop}:cM false (.dat m d) (.dat m' e) P=(d.depth<=60/\e.depth<=60/\P (.dat .ow (.bool (Dx d e)))):=rfl
theorem e_eqT{d e:Af}{m m':Md}{P:DV->Prop}:cM true (.dat m d) (.dat m' e) P=(d.depth<=60/\e.depth<=60/\P (.dat .ow (.bool (!Dx d e)))):=rfl
theorem e_inFt_w1{nes:List Int}{d:Af}{es:List Af}{m m':Md}{P:DV->Prop}:pJ false (.dat m d) (.dat m' (Bt nes)) P=(Bl (nes.map Br)<=60/\d.depth<=60/\P (.dat .ow (.bool ((nes.map Br).any λe=>Dx e d)))):=rfl
theorem e_inTt_w1{nes:List Int}{d:Af}{es:List Af}{m m':Md}{P:DV->Prop}:pJ true (.dat m d) (.dat m' (Bt nes)) P=(Bl (nes.map Br)<=60/\d.depth<=60/\P (.dat .ow (.bool (!((nes.map Br).any λe=>Dx e d))))):=rfl
theorem e_ixl{ds:List Af}{i:Int}{m m':Md}{P:DV->Prop}:vJ (.dat m (.list ds)) (.dat m' (.int i)) P=(∃d,Sx ds i=some d/\P (.dat (Nk m) d)):=rfl
theorem e_ixt{ds:List Af}{i:Int}{m m':Md}{P:DV->Prop}:vJ (.dat m (.tuple ds)) (.dat m' (.int i)) P=(∃d,Sx ds i=some d/\P (.dat (Nk m) d)):=rfl
theorem e_cat{ds es:List Af}{m m':Md}{P:DV->Prop}:mJ (.dat m (.list ds)) (.dat m' (.list es)) P=(Dt ds=true/\Dt es=true/\ds.length+es.length<=1000000/\P (.dat .ow (.list (ds++es)))):=rfl
theorem e_catT_w1{nds:List Int}{ds es:List Af}{m m':Md}{P:DV->Prop}:dY (.dat m (Bt nds)) (.dat m' (.tuple es)) P=(Dt (nds.map Br)=true/\Dt es=true/\(nds.map Br).length+es.length<=1000000/\P (.dat .ow (.tuple ((nds.map Br)++es)))):=rfl
theorem e_nlT{m:Md}{ds:List Af}{P:DV->Prop}:hW true m ds P=(Dt ds=true/\P (.dat .ow (.list ds))):=rfl
theorem e_pkOfsh  : hZ .sh=(Md.sh):=rfl
theorem e_pkOfow  : hZ .ow=(Md.pk):=rfl
theorem e_mdInsh  : Nk .sh=(Md.sh):=rfl
theorem e_mdInow  : Nk .ow=(Md.ow):=rfl
theorem e_mdItpk  : Kd .pk=(Md.pk):=rfl
theorem e_mdItsh  : Kd .sh=(Md.sh):=rfl
theorem e_mdItow  : Kd .ow=(Md.sh):=rfl
theorem e_nil{δ:DS}{P:List DV->DS->Prop}:F3 δ P=(P [] δ):=rfl
theorem e_cons{de:DE}{da:DA}{δ:DS}{P:List DV->DS->Prop}:z0 de da δ P=(de δ λx δ1=>da δ1 λxs δ2=>P (x::xs) δ2):=rfl
theorem e_tup{da:DA}{δ:DS}{P:DV->DS->Prop}:R1 da δ P=(da δ λxs δ'=>tupB xs δ' P):=rfl
theorem e_lst{da:DA}{δ:DS}{P:DV->DS->Prop}:Z4 da δ P=(da δ λxs δ'=>lstB xs δ' P):=rfl
theorem e_noPart{δ:DS}{P:Option Int->DS->Prop}:mL δ P=(P none δ):=rfl
theorem e_part{de:DE}{δ:DS}{P:Option Int->DS->Prop}:A0 de δ P=(de δ λx δ'=>C0 x δ' P):=rfl
theorem e_partB{m:Md}{i:Int}{δ:DS}{P:Option Int->DS->Prop}:C0 (.dat m (.int i)) δ P=(P (some i) δ):=rfl
theorem e_sl{i:Bool}{de:DE}{dl dh:DO}{δ:DS}{P:DV->DS->Prop}:DY i de dl dh δ P=(de δ λx δ1=>dl δ1 λl δ2=>dh δ2 λh δ3=>DH i x l h δ3 P):=rfl
theorem e_slBl{i:Bool}{m:Md}{ds:List Af}{l h:Option Int}{δ:DS}{P:DV->DS->Prop}:DH i (.dat m (.list ds)) l h δ P=(hW i m (Lr ds l h) λz=>P z δ):=rfl
theorem e_cb{rd:DC}{da:DA}{δ:DS}{P:DV->DS->Prop}:CH rd da δ P=(da δ λxs δ1=>rd xs λz=>P z δ1):=rfl
theorem e_lenl{ds:List Af}{m m':Md}{P:DV->Prop}:iT [.dat m (.list ds)] P=(P (.dat .ow (.int ds.length))):=rfl
theorem e_lent{ds:List Af}{m m':Md}{P:DV->Prop}:iT [.dat m (.tuple ds)] P=(P (.dat .ow (.int ds.length))):=rfl
theorem e_lent_w1{nds:List Int}{ds:List Af}{m m':Md}{P:DV->Prop}:iT [.dat m (Bt nds)] P=(P (.dat .ow (.int (nds.map Br).length))):=rfl
theorem e_max2{i j:Int}{m m':Md}{P:DV->Prop}:kZ [.dat m (.int i),.dat m' (.int j)] P=(P (.dat .ow (.int (if j > i then j else i)))):=rfl
theorem e_min2{i j:Int}{m m':Md}{P:DV->Prop}:kJ [.dat m (.int i),.dat m' (.int j)] P=(P (.dat .ow (.int (if j<i then j else i)))):=rfl
theorem e_all{ds:List Af}{m m':Md}{P:DV->Prop}:vQ [.dat m (.list ds)] P=(∃bs:List Bool,ds=bs.map PyData.bool/\P (.dat .ow (.bool (bs.all id)))):=rfl
theorem e_isi{d:Af}{n:String}{m m':Md}{P:DV->Prop}:vY [.dat m d,.val (.ty n)] P=((n = "int" \/ n = "bool" \/ n = "str" \/ n = "list" \/ n = "tuple")/\P (.dat .ow (.bool (Vq d n)))):=rfl
theorem e_v{v:V}{δ:DS}{P:DV->DS->Prop}:dV v δ P=(P (.val v) δ):=rfl
theorem e_b{de:DE}{δ:DS}{P:Bool->DS->Prop}:dB de δ P=(de δ λx δ'=>bB x δ' P):=rfl
theorem e_bB{m:Md}{b:Bool}{δ:DS}{P:Bool->DS->Prop}:bB (.dat m (.bool b)) δ P=(P b δ):=rfl
theorem e_tru{de:DE}{δ:DS}{P:Bool->DS->Prop}:K6 de δ P=(de δ λx δ'=>V3 x δ' P):=rfl
theorem e_truB{m:Md}{d:Af}{δ:DS}{P:Bool->DS->Prop}:V3 (.dat m d) δ P=(S7 d/\P (yL d) δ):=rfl
theorem e_notT{dt:DT}{δ:DS}{P:Bool->DS->Prop}:B2 dt δ P=(dt δ λb δ'=>P (!b) δ'):=rfl
theorem e_andT{dt du:DT}{δ:DS}{P:Bool->DS->Prop}:x3 dt du δ P=(dt δ λb δ'=>Z7 du b δ' P):=rfl
theorem e_orT{dt du:DT}{δ:DS}{P:Bool->DS->Prop}:R7 dt du δ P=(dt δ λb δ'=>BD du b δ' P):=rfl
theorem e_orTf{du:DT}{δ:DS}{P:Bool->DS->Prop}:BD du false δ P=(du δ P):=rfl
theorem e_not{de:DE}{δ:DS}{P:DV->DS->Prop}:W4 de δ P=(de δ λx δ'=>R3 x δ' P):=rfl
theorem e_notB{m:Md}{b:Bool}{δ:DS}{P:DV->DS->Prop}:R3 (.dat m (.bool b)) δ P=(P (.dat .ow (.bool (!b))) δ):=rfl
theorem e_and{da db:DE}{δ:DS}{P:DV->DS->Prop}:R0 da db δ P=(da δ λx δ'=>P9 db x δ' P):=rfl
theorem e_andt{db:DE}{m:Md}{δ:DS}{P:DV->DS->Prop}:P9 db (.dat m (.bool true)) δ P=(db δ P):=rfl
theorem e_ifE{dt:DT}{da db:DE}{δ:DS}{P:DV->DS->Prop}:W5 dt da db δ P=(dt δ λb δ'=>DR da db b δ' P):=rfl
theorem e_neg{de:DE}{δ:DS}{P:DV->DS->Prop}:Y3 de δ P=(de δ λx δ'=>U8 x δ' P):=rfl
theorem e_negB{m:Md}{i:Int}{δ:DS}{P:DV->DS->Prop}:U8 (.dat m (.int i)) δ P=(P (.dat .ow (.int (-i))) δ):=rfl
theorem e_dL{de:DE}{δ:DS}{P:Md->List Af->DS->Prop}:dL de δ P=(de δ λx δ'=>lB x δ' P):=rfl
theorem e_dTp{de:DE}{δ:DS}{P:Md->List Af->DS->Prop}:EE de δ P=(de δ λx δ'=>ED x δ' P):=rfl
theorem e_lB{m:Md}{ds:List Af}{δ:DS}{P:Md->List Af->DS->Prop}:lB (.dat m (.list ds)) δ P=(P (Kd m) ds δ):=rfl
theorem e_tpB_w1{nds:List Int}{m:Md}{ds:List Af}{δ:DS}{P:Md->List Af->DS->Prop}:ED (.dat m (Bt nds)) δ P=(P (Kd m) (nds.map Br) δ):=rfl
theorem e_range1{da:DA}{δ:DS}{P:Md->List Af->DS->Prop}:gG da δ P=(da δ λxs δ'=>t8 xs δ' P):=rfl
theorem e_rng1B{m:Md}{j:Int}{δ:DS}{P:Md->List Af->DS->Prop}:t8 [.dat m (.int j)] δ P=(-1000000<=j/\j<=1000000/\P .sh ((Bc j.toNat).map λi:Nat=>.int i) δ):=rfl
theorem e_range2{da:DA}{δ:DS}{P:Md->List Af->DS->Prop}:gJ da δ P=(da δ λxs δ'=>u7 xs δ' P):=rfl
theorem e_rng2B{m m':Md}{i j:Int}{δ:DS}{P:Md->List Af->DS->Prop}:u7 [.dat m (.int i),.dat m' (.int j)] δ P=(-1000000<=i/\i<=1000000 /\ -1000000<=j/\j<=1000000/\P .sh ((Bc (j - i).toNat).map λk:Nat=>.int (i+k)) δ):=rfl
theorem e_enum{da:DA}{δ:DS}{P:Md->List Af->DS->Prop}:tL da δ P=(da δ λxs δ'=>A8 xs δ' P):=rfl
theorem e_enumB{m:Md}{ds:List Af}{δ:DS}{P:Md->List Af->DS->Prop}:A8 [.dat m (.list ds)] δ P=(P (Kd m) (ds.zipIdx.map λp=>.tuple [.int p.2,p.1]) δ):=rfl
theorem e_zip{da:DA}{δ:DS}{P:Md->List Af->DS->Prop}:A7 da δ P=(da δ λxs δ'=>S6 xs δ' P):=rfl
theorem e_zipB{m m':Md}{ds es:List Af}{δ:DS}{P:Md->List Af->DS->Prop}:S6 [.dat m (.list ds),.dat m' (.list es)] δ P=(P (mdZip m m') ((ds.zip es).map λp=>.tuple [p.1,p.2]) δ):=rfl
theorem e_for{di:DI}{dg:DG}{db:DB}{D:DEnds}{δ:DS}:Z3 di dg db D δ=(di δ (V5 dg db D)):=rfl
theorem e_comp{di:DI}{js:List Nat}{dc:DT}{de:DE}{δ:DS}{P:DV->DS->Prop}:sI di js dc de δ P=(di δ (uG js dc de P)):=rfl
theorem e_give{i:Nat}{δ:DS}{P:DV->DS->Prop}:sX i δ P=(A2 i (δ.sl[i]?) δ P):=rfl
theorem e_giveB{i:Nat}{d:Af}{δ:DS}{P:DV->DS->Prop}:A2 i (some (.dat .ow d)) δ P=(P (.dat .ow d) ⟨δ.sl.set i (.dat .pk d),δ.n⟩):=rfl
theorem e_noTest{δ:DS}{P:Bool->DS->Prop}:eB δ P=(P true δ):=rfl
theorem e_step{dc:DT}{de:DE}{δ:DS}{yes:Af->Nat->Prop}{no:Nat->Prop}:Ul dc de δ yes no=(dc δ λb δ2=>nV de yes no b δ2):=rfl
theorem e_stepT{de:DE}{δ:DS}{yes:Af->Nat->Prop}{no:Nat->Prop}:nV de yes no true δ=(de δ λy δ3=>zE yes y δ3):=rfl
theorem e_stepF{de:DE}{δ:DS}{yes:Af->Nat->Prop}{no:Nat->Prop}:nV de yes no false δ=(no δ.n):=rfl
theorem e_yesB{m:Md}{e:Af}{δ:DS}{yes:Af->Nat->Prop}:zE yes (.dat m e) δ=(imm e=true/\yes e δ.n):=rfl
theorem e_call{pf:PF}{da:DA}{δ:DS}{P:DV->DS->Prop}:uF pf da δ P=(da δ λxs δ1=>callB pf xs δ1 P):=rfl
theorem e_callW{i:Nat}{df:DF}{da:DA}{δ:DS}{P:DV->DS->Prop}:lK i df da δ P=(match δ.sl[i]? with | some .drw=>da δ λxs δ1=>callBW i df xs δ1 P | _=>False):=rfl
theorem e_draws{da:DA}{δ:DS}{P:DV->DS->Prop}:xK da δ P=(da δ λxs δ1=>uJ xs δ1 P):=rfl
theorem e_drawsB{m:Md}{i:Int}{δ:DS}{P:DV->DS->Prop}:uJ [.dat m (.int i)] δ P=(P .drw δ):=rfl
theorem e_append{i:Nat}{de:DE}{D:DEnds}{δ:DS}:eN i de D δ=(match δ.sl[i]? with | some (.dat _ (.list _))=>de δ λy δ1=>appB i y δ1 D | _=>False):=rfl
theorem e_aug{i:Nat}{rd:D2}{de:DE}{D:DEnds}{δ:DS}:yJ i rd de D δ=(match δ.sl[i]? with | some (.dat _ (.int a))=>de δ λy δ1=>rd (.dat .ow (.int a)) y λz=>Z0 i z δ1 D | _=>False):=rfl
theorem e_augB{i:Nat}{m:Md}{d:Af}{D:DEnds}{δ:DS}:Z0 i (.dat m d) δ D=(imm d=true/\D.nx ⟨δ.sl.set i (.dat .sh d),δ.n⟩):=rfl
theorem e_scrSl{i:Nat}{dl dh:DO}{δ:DS}{P:DV->DS->Prop}:kE i dl dh δ P=(match δ.sl[i]? with | some (.scr ns)=>dl δ λl δ2=>dh δ2 λh δ3=>P (.dat .ow (.list ((Lr ns l h).map Br))) δ3 | _=>False):=rfl
theorem e_sortW{m:Md}{ds:List Af}{P:DV->Prop}:dI [.dat m (.list ds)] P=(∃ws:List (List Int),ds=ws.map Bt/\∀L:List (List Int),L.Perm ws->L.Pairwise (λx y=>HT.lexLt y x=false)->P (.dat .ow (.list (L.map Bt)))):=rfl
theorem e_tr{de:DE}{δ:DS}{P:DV->DS->Prop}:DW de δ P=(de δ λx δ1=>BC x δ1 P):=rfl
theorem e_trB{m:Md}{j:Int}{δ:DS}{P:DV->DS->Prop}:BC (.dat m (.int j)) δ P=(0<=j/\j<=1000/\P (.dat .ow (Bt (qX j.toNat))) δ):=rfl
section
variable{t u:DB}{D:DEnds}{δ δ1:DS}
theorem Yk{α:Type}{dg:DG}{db:DB}{ds:List Af}{l:List α}{g:α->Af}(e:ds=l.map g)(I:Nat->DS->Prop)(h0:I 0 δ1)(hs:∀i a δ',l[i]? = some a->I i δ'->dg (.dat .sh (g a)) δ' λδ2=>db { D with nx:=I (i+1),ct:=I (i+1),bk:=D.nx } δ2)(hf:∀δ',I l.length δ'->D.nx δ'):V5 dg db D .sh ds δ1:=by
 subst e
 refine ⟨rfl,I,h0,λi d δ' hd hI=>?_,λδ' h=>hf δ' (by rw[Ac] at h; exact h)⟩
 rw[Bo] at hd
 cases q:l[i]? with
 | none=>rw[q] at hd; cases hd
 | some a=>rw[q] at hd; cases hd; exact hs i a δ' q hI
end
section
variable{js:List Nat}{dc:DT}{de:DE}{P:DV->DS->Prop}{m:Md}{ds:List Af}{δ1:DS}{α:Type}
theorem mM{l:List α}{g:α->Af}(e:ds=l.map g)(p:α->Bool)(f:α->Af)(h:∀a∈l,∀(yes:Af->Nat->Prop) (no:Nat->Prop),(p a=true->yes (f a) δ1.n)->(p a=false->no δ1.n)->Ul dc de ⟨.dat m (g a)::frD δ1.sl js,δ1.n⟩ yes no)(q:P (.dat .ow (.list ((l.filter p).map f))) δ1):uG js dc de P m ds δ1:=by
 subst e
 refine ⟨λi acc n=>n=δ1.n/\acc=((l.take i).filter p).map f,⟨rfl,by simp⟩,λi d acc n hd ⟨hn,ha⟩=>?_,λacc n ⟨hn,ha⟩=>?_⟩
 ·subst hn ha
  rw[Bo] at hd
  cases q:l[i]? with
  | none=>rw[q] at hd; cases hd
  | some a =>
   rw[q] at hd
   cases hd
   refine h a (Ba q) _ _ (λhp=>⟨rfl,?_⟩) (λhp=>⟨rfl,?_⟩)
   ·rw[Rf q,Ku,Cu]; simp [hp]
   ·rw[Rf q,Ku,Cu]; simp [hp]
 ·subst hn ha
  rw[Ac,Kf]
  exact q
theorem vA{l:List α}{g:α->Af}(e:ds=l.map g)(f:α->Af)(h:∀a∈l,∀(yes:Af->Nat->Prop) (no:Nat->Prop),yes (f a) δ1.n->Ul dc de ⟨.dat m (g a)::frD δ1.sl js,δ1.n⟩ yes no)(q:P (.dat .ow (.list (l.map f))) δ1):uG js dc de P m ds δ1:=by
 refine mM e (λ_=>true) f (λa ha yes no hy _=>h a ha yes no (hy rfl)) ?_
 rw[rW.mpr λ_ _=>rfl]
 exact q
end
theorem Wd{t u:DB}{D:DEnds}{b:Bool}{δ:DS}(h1:b=true->t D δ)(h2:b=false->u D δ):CB t u D b δ:=by
 cases b with
 | true=>exact h1 rfl
 | false=>exact h2 rfl
theorem T8{da db:DE}{b:Bool}{δ:DS}{P:DV->DS->Prop}(h1:b=true->da δ P)(h2:b=false->db δ P):DR da db b δ P:=by
 cases b with
 | true=>exact h1 rfl
 | false=>exact h2 rfl
theorem E6{du:DT}{b:Bool}{δ:DS}{P:Bool->DS->Prop}(h1:b=true->du δ P)(h2:b=false->P false δ):Z7 du b δ P:=by
 cases b with
 | true=>exact h1 rfl
 | false=>exact h2 rfl
theorem lY{du:DT}{b:Bool}{δ:DS}{P:Bool->DS->Prop}(h1:b=true->P true δ)(h2:b=false->du δ P):BD du b δ P:=by
 cases b with
 | true=>exact h1 rfl
 | false=>exact h2 rfl
theorem N4{db:DE}{m:Md}{b:Bool}{δ:DS}{P:DV->DS->Prop}(h1:b=true->db δ P)(h2:b=false->P (.dat .ow (.bool false)) δ):P9 db (.dat m (.bool b)) δ P:=by
 cases b with
 | true=>exact h1 rfl
 | false=>exact h2 rfl
theorem oE{de:DE}{yes:Af->Nat->Prop}{no:Nat->Prop}{b:Bool}{δ:DS}(h1:b=true->de δ λy δ3=>zE yes y δ3)(h2:b=false->no δ.n):nV de yes no b δ:=by
 cases b with
 | true=>exact h1 rfl
 | false=>exact h2 rfl
class Im (d:Af):Prop where
 h:imm d=true
class ImA (ds:List Af):Prop where
 h:Dt ds=true
theorem FD{ds:List Af}[h:ImA ds]:Dt ds=true:=h.h
instance {i:Int}:Im (.int i):=⟨by simp [imm]⟩
instance {i:Bool}:Im (.bool i):=⟨by simp [imm]⟩
instance {i:Str}:Im (.str i):=⟨by simp [imm]⟩
instance:Im .none:=⟨by simp [imm]⟩
instance {ds:List Af} [h:ImA ds]:Im (.tuple ds):=⟨by rw[imm]; exact h.h⟩
instance {ns:List Int}:Im (Bt ns):=⟨uC ns⟩
instance:ImA []:=⟨by simp [Dt]⟩
instance {d:Af} {ds:List Af} [h:Im d] [t:ImA ds]:ImA (d::ds):=⟨by rw[Dt,h.h,t.h]; rfl⟩
instance {α:Type} {f:α->Af} {l:List α} [h:∀a,Im (f a)]:ImA (l.map f):=⟨Sn (λa=>(h a).h) l⟩
instance {a b:List Af} [h:ImA a] [k:ImA b]:ImA (a++b):=⟨by rw[Yr,h.h,k.h]; rfl⟩
class Dp (d:Af) (k:outParam Nat):Prop where
 h:d.depth<=k
class DpA (ds:List Af) (k:outParam Nat):Prop where
 h:Bl ds<=k
theorem dp{d:Af}{k:Nat}[h:Dp d k](hk:k<=60:=by decide):d.depth<=60:=Cf h.h hk
instance {i:Int}:Dp (.int i) 0:=⟨by simp [Cv]⟩
instance {i:Bool}:Dp (.bool i) 0:=⟨by simp [Cv]⟩
instance {i:Str}:Dp (.str i) 0:=⟨by simp [Cv]⟩
instance:Dp .none 0:=⟨by simp [Cv]⟩
instance {ds:List Af} {k:Nat} [h:DpA ds k]:Dp (.tuple ds) (k+1):=⟨by have:=h.h; simp only[Cv]; omega⟩
instance {ds:List Af} {k:Nat} [h:DpA ds k]:Dp (.list ds) (k+1):=⟨by have:=h.h; simp only[Cv]; omega⟩
instance {ns:List Int}:Dp (Bt ns) 1:=⟨kH ns⟩
instance:DpA [] 0:=⟨by simp [Bl]⟩
instance {d:Af} {ds:List Af} {k j:Nat} [h:Dp d k] [t:DpA ds j]:DpA (d::ds) (k+j):=⟨by have:=h.h; have:=t.h; simp only[Bl]; omega⟩
instance {α:Type} {f:α->Af} {l:List α} {k:Nat} [h:∀a,Dp (f a) k]:DpA (l.map f) k:=⟨Wg λx hx=>by
 obtain ⟨a,_,rfl⟩:=Cs.mp hx
 exact (h a).h⟩
theorem dM{a b:List Af}:Bl (a++b)<=Bl a+Bl b:=by
 induction a with
 | nil=>simp [Bl]
 | cons x a ih=>simp only[Fu,Bl]; omega
instance {a b:List Af} {k j:Nat} [h:DpA a k] [t:DpA b j]:DpA (a++b) (k+j):=⟨by have:=h.h; have:=t.h; have:=dM (a:=a) (b:=b); omega⟩
theorem yY(i j:Str):Dx (.str i) (.str j)=(i == j):=by simp [Dx]
theorem wM(a b:List Af):Dx (.list a) (.list b)=Kw a b:=by simp [Dx]
theorem oG(a b:List Af):Dx (.tuple a) (.tuple b)=Kw a b:=by simp [Dx]
theorem pO(x y:Af)(a b:List Af):Kw (x::a) (y::b)=(Dx x y && Kw a b):=by simp [Kw]
theorem xH:Kw [] []=true:=by simp [Kw]
theorem Yc{α:Type}[DecidableEq α]{f:α->Af}(h:∀a b,Dx (f a) (f b)=decide (a=b)):∀l m:List α,Kw (l.map f) (m.map f)=decide (l=m)
 | [],[]=>by simp [Kw]
 | [],_::_=>by simp [Kw]
 | _::_,[]=>by simp [Kw]
 | a::l,b::m=>by simp [Kw,h,Yc h l m]
theorem eqD_intd(i j:Int):Dx (.int i) (.int j)=decide (i=j):=by simp [Dx]; rfl
theorem tM(a b:List Int):Dx (Bt a) (Bt b)=decide (a=b):=by
 unfold Bt
 rw[oG,Yc eqD_intd]
def dF(ws:List (List Int)):Af:=.list (ws.map Bt)
instance {ws:List (List Int)}:Dp (dF ws) 2:=⟨(inferInstance:Dp (.list (ws.map Bt)) 2).h⟩
theorem pX(a b:List (List Int)):Dx (dF a) (dF b)=decide (a=b):=by
 unfold dF
 rw[wM,Yc tM]
def W7(ns:List Int):Af:=.list (ns.map Br)
instance {ns:List Int}:Dp (W7 ns) 1:=⟨(inferInstance:Dp (.list (ns.map Br)) 1).h⟩
theorem any_int(ns:List Int)(i:Int):((ns.map Br).any λe=>Dx e (.int i))=decide (i∈ns):=by
 rw[List.any_map]
 induction ns with
 | nil=>rfl
 | cons n ns ih =>
  rw[List.any_cons,ih]
  simp only[Function.comp,eqD_intd,Am]
  by_cases h:n=i
  ·subst h; simp
  ·have : ¬ i=n:=λz=>h z.symm
   simp [h,this]
theorem zip_map{α β:Type}(f:α->β)(l:List α):(l.map f).zipIdx=l.zipIdx.map λp=>(f p.1,p.2):=by
 rw[List.zipIdx_map]
 rfl
theorem zT{α β:Type}(f:α->β)(l:List α)(i:Int):Sx (l.map f) i=(Sx l i).map f:=by
 unfold Sx
 rw[Ac]
 cases qE l.length i with
 | none=>rfl
 | some j=>simp
theorem iS{α:Type}{l:List α}{i:Int}(h0:0<=i)(h1:i<l.length):∃a,l[i.toNat]? = some a/\Sx l i=some a/\a∈l:=by
 have hk:i.toNat<l.length:=by omega
 refine ⟨l[i.toNat],by simp [hk],?_,Lz hk⟩
 have q:Sx l ((i.toNat:Nat):Int)=some l[i.toNat]:=Nv (by simp [hk])
 rwa [show ((i.toNat:Nat):Int)=i by omega] at q
theorem im_e{d:Af}[h:Im d]:(imm d=true)=True:=eq_true h.h
theorem ima_e{ds:List Af}[h:ImA ds]:(Dt ds=true)=True:=eq_true h.h
theorem dp_e{d:Af}{k:Nat}[h:Dp d k](hk:k<=60):(d.depth<=60)=True:=eq_true (Cf h.h hk)
theorem dpa_e{ds:List Af}{k:Nat}[h:DpA ds k](hk:k<=60):(Bl ds<=60)=True:=eq_true (Cf h.h hk)
theorem eqD_lw(a b:List (List Int)):Dx (.list (a.map Bt)) (.list (b.map Bt))=decide (a=b):=pX a b
theorem eqD_l0(a:List Af):Dx (.list a) (.list [])=a.isEmpty:=yB a
theorem ow_e{d:Af}{R:Af->Prop}:(∃e,DV.dat .ow d=.dat .ow e/\R e)=R d:=by
 apply propext
 constructor
 ·(intro q_; obtain ⟨e,h,r⟩ := q_); cases h; exact r
 ·intro r; exact ⟨d,rfl,r⟩
theorem tt_e{m:Md}{b:Bool}:(∃m',DV.dat m (.bool b)=.dat m' (.bool true))=(b=true):=by
 apply propext
 constructor
 ·rintro ⟨e,h⟩; cases h; rfl
 ·intro r; subst r; exact ⟨m,rfl⟩
theorem cdiv_e{i j:Int}:E7 i j=(0<j/\j<1073741824):=rfl
theorem cpow_e{i j:Int}:tR i j=(0<=j/\j<=1000000/\i.natAbs<2 ^ 64):=rfl
theorem cmul_r{i j:Int}(h:-18446744073709551616<j/\j<18446744073709551616):yD i j=True:=eq_true (.inr h)
theorem gB{j i a:Nat}(h:(Bc j)[i]? = some a):a=i/\i<j:=by
 obtain ⟨h1,h2⟩:=Ap.mp h
 rw[Cb] at h1
 rw[List.getElem_range] at h2
 exact ⟨h2.symm,h1⟩
def NP(v:DV):Prop:=∀l,npk (v::l)=npk l
theorem Iz:NP .un:=λ_=>rfl
theorem Hz{d:Af}:NP (.dat .sh d):=λ_=>rfl
theorem I0:NP .drw:=λ_=>rfl
theorem isi_li(ds:List Af):Vq (.list ds) "list" = true:=by simp [Vq,zD]
theorem isi_tt(ds:List Af):Vq (.tuple ds) "tuple" = true:=by simp [Vq,zD]
theorem isi_ib(i:Int):Vq (.int i) "bool" = false:=by simp [Vq,zD]
theorem isi_ii(i:Int):Vq (.int i) "int" = true:=by simp [Vq,zD]
theorem isi_wt(w:List Int):Vq (Bt w) "tuple" = true:=isi_tt _
theorem U2{ns:List Int}(k:Nat):(Lr ns none (some (k:Int))).length<=k:=by
 rw[oY,Dv]
 exact Nat.min_le_left _ _
theorem ifB_lf{t u:DB}{D:DEnds}{δ:DS}:CB t u D false δ=u D δ:=rfl
theorem str_self(s:Str):(s == s)=true:=by simp
theorem U5{α:Type}{l:List α}{i:Nat}{a:α}(h:l[i]? = some a):Sx l (i:Int)=some a:=by
 obtain ⟨b,e1,e2,_⟩:=iS (l:=l) (i:=(i:Int)) (by omega) (by have:=(Ap.mp h).1; omega)
 rw[e2,<- e1,<- h]; rfl
theorem okT_l{ds:List Af}:S7 (.list ds)=True:=rfl
theorem iP{α:Type}{l:List α}(h:l≠[]):∃a∈l,Sx l (-1)=some a/\l.getLast? = some a:=by
 have hp:=Uu.mpr h
 refine ⟨l[l.length - 1],Lz _,?_,?_⟩
 ·unfold Sx qE
  rw[if_neg (by decide),if_pos (by omega),show ((-1:Int)+l.length).toNat=l.length - 1 by omega]
  simp [hp]
 ·rw[List.getLast?_eq_getElem?]; simp [hp]
theorem atI_0{α:Type}(x:α)(l:List α):Sx (x::l) 0=some x:=U5 (i:=0) rfl
theorem some_e{α:Type}{a:α}{R:α->Prop}:(∃d,some a=some d/\R d)=R a:=propext ⟨λ⟨_,e,h⟩=>by cases e; exact h,λh=>⟨a,rfl,h⟩⟩
theorem dec_self{α:Type}(a:α)[h:Decidable (a=a)]:decide (a=a)=true:=by simp
theorem eqD_tup1(s t:Str):Dx (.tuple [.str s]) (.tuple [.str t])=(s == t):=by rw[oG,pO,xH,yY,Bool.and_true]
end DL
namespace K17
open PySem L2 Nd DL
def top(i:Nat):Stmt:=PySem.Challenge.pw_needledeck_k17_the_most_and_fewest_holes.main.body.getD i (.Pass ⟨0,0,0,0⟩)
abbrev Ss:Stmt:=top 4
abbrev Vn:Stmt:=top 5
abbrev Up:Stmt:=top 6
abbrev eI:Stmt:=top 8
abbrev Yo:Stmt:=top 9
abbrev Vs:Stmt:=top 10
abbrev Pi:Stmt:=top 11
abbrev Xf:Stmt:=top 13
abbrev Tw:Stmt:=top 14
abbrev Tb:Stmt:=top 15
abbrev Pg:Stmt:=top 16
abbrev jZ:Stmt:=top 17
abbrev Mt:Stmt:=top 18
abbrev eH:Stmt:=top 20
abbrev oN:Stmt:=top 21
abbrev Lk:Stmt:=top 22
abbrev Np:Stmt:=top 23
abbrev Of:Stmt:=top 24
abbrev Mn:Stmt:=top 25
abbrev aW:Stmt:=top 26
section
variable{P:Bj}{w:World}{K:PySem.W.Frag}{mg:Str->Option Value}{base:Heap}
theorem EO:FnScope ["_law_cell"] ["_law_cell"] (Cc eH):=⟨rfl,rfl,rfl,by decide +kernel,rfl,by decide +kernel,by decide +kernel⟩
theorem uI{f:Addr}{fd:Co}(F:Fun K "_law_draws" "_law_draws" eH f fd):FnOk P w K mg base Jv 1 f fd ["_law_cell"] mV:=by
 refine F.ok EO (λvs H Q E h=>?_) (λcdv A outer s H vs Q E hr h=>?_)
 ·obtain ⟨c,rfl,_⟩:=h
  rfl
 obtain ⟨c,rfl,q⟩:=h
 refine ⟨_,Rr (Zo (Vb (Fi (pv 0) (Fi Es (Fi (oT B9 (pv 0) (Ij cY Es Es) (Qd _)) Iq))))),?_⟩
 refine ⟨_,rfl,_,rfl,10,18,rfl,rfl,⟨by decide,by decide,by decide⟩,_,_,rfl,rfl,(by show 3<=Bd; decide),λp hp=>?_⟩
 exact q p _ _ hp Ct (Eo hp _)
theorem EK:FnScope ["_law_draws_here", "_law_k", "_law_number"] ["_law_draws_here"] (Cc oN):=⟨rfl,rfl,rfl,by decide +kernel,rfl,by decide +kernel,by decide +kernel⟩
theorem zO{f:Addr}{fd:Co}(F:Fun K "_law_next" "_law_next" oN f fd):FnOk P w K mg base Jv 1 f fd ["_law_draws_here"] uS:=by
 refine F.ok EK (λvs H Q E h=>?_) (λcdv A outer s H vs Q E hr h=>?_)
 ·obtain ⟨d,c,k,fl,rfl,_⟩:=h
  rfl
 obtain ⟨d,c,k,fl,rfl,hd,h0,h1,q⟩:=h
 refine ⟨_,Jd (jE (Ij Su (Qe Ll (pv 0) Es (λ_ _=>rfl)) Es) (uZ (pv 0) Es gL))
  (Jd (Qi (i:=1) EK.nd rfl (Dd rfl) (Qe Ll (pv 0) Es (λ_ _=>rfl)))
  (Jd (x8 (sZ (Qe Ll (pv 0) Es (λ_ _=>rfl)))
   (Jd (Qi (i:=2) EK.nd rfl (Dd rfl) (Ij Vd (Qe Ll (pv 0) Es (λ_ _=>rfl)) (Ij cY Es Es)))
    (Jd (jE (Ij cK (Qe Ll (pv 0) Es (λ_ _=>rfl)) (Ij cY Es Es)) (uZ (pv 0) Es gL))
    (Rr (Zo (pv 2))))) mI)
  (Jd (Qi (i:=2) EK.nd rfl (Dd rfl) (Ij Vd (Ij Vi (Ij Su (Ij Su (Ij Vd (Qe Ll (pv 0) Es (λ_ _=>rfl)) Es) (Ij Vi (Ij Vi (pv 1) (pv 1)) Es)) (pv 1)) Es) Es))
  (Jd (Qi (i:=2) EK.nd rfl (Dd rfl) (Ij Vd (Ij Vi (pv 2) (pv 2)) Es))
  (Rr (Zo (Ij cK (Ij Vd (Ij Vi (pv 2) (Ij Su (pv 2) Es)) Es) Es))))))),?_⟩
 -- draws[1]=draws[1]+1
 refine ⟨_,rfl,d,_,1,_,rfl,rfl,Ov.of hd,rfl,_,_,rfl,rfl,_,rfl,d,_,1,1,rfl,rfl,hd,rfl,?_⟩
 have e1:(upd H d (.lst ([V.int c,V.int k,V.bl fl].set 1 (V.int (k+1))))) d=some (.lst [.int c,.int (k+1),.bl fl]):=Ct
 generalize hH1:upd H d (.lst ([V.int c,V.int k,V.bl fl].set 1 (V.int (k+1))))=H1 at e1
 have s1:Wk d H H1:=by rw[<- hH1]; exact Wk.upd
 -- k=draws[1]; if draws[2]
 refine ⟨_,rfl,d,_,1,_,rfl,rfl,Ov.of e1,rfl,_,rfl,d,_,2,_,rfl,rfl,Ov.of e1,rfl,_,rfl,?_⟩
 refine BF (λ_=>?_) (λ_=>?_)
 ·refine ⟨_,rfl,d,_,0,_,rfl,rfl,Ov.of e1,rfl,10,6,rfl,rfl,⟨by decide,by decide,by decide⟩,_,_,rfl,rfl,(by show (0:Int)<10 ^ (6:Int).toNat; decide),?_⟩
  refine ⟨_,rfl,d,_,0,_,rfl,rfl,Ov.of e1,rfl,10,6,rfl,rfl,⟨by decide,by decide,by decide⟩,_,_,rfl,rfl,⟨by decide,by decide⟩,_,rfl,d,_,0,0,rfl,rfl,e1,rfl,_,rfl,?_⟩
  exact q _ _ _ Ct (s1.trans Wk.upd)
 ·have m1:=Xn c 1000003 (by decide)
  have b1:=Xn ((c % 1000003+(k+1) * (k+1) * 7919+(k+1)) * 48271) 2147483629 (by decide)
  refine ⟨_,rfl,d,_,0,_,rfl,rfl,Ov.of e1,rfl,_,_,rfl,rfl,(by show (0:Int)<1000003; decide),_,rfl,_,rfl,_,_,rfl,rfl,.inl ⟨by omega,by omega⟩,_,_,rfl,rfl,.inr ⟨by decide,by decide⟩,_,_,rfl,rfl,_,rfl,_,_,rfl,rfl,
   _,_,rfl,rfl,.inr ⟨by decide,by decide⟩,_,_,rfl,rfl,(by show (0:Int)<2147483629; decide),?_⟩
  generalize ((c % 1000003+(k+1) * (k+1) * 7919+(k+1)) * 48271) % 2147483629=x at b1
  have b2:=Xn (x * x) 2147483587 (by decide)
  refine ⟨_,rfl,_,rfl,_,_,rfl,rfl,.inl ⟨by omega,by omega⟩,_,_,rfl,rfl,(by show (0:Int)<2147483587; decide),?_⟩
  generalize (x * x) % 2147483587=y at b2
  refine ⟨_,rfl,_,rfl,_,_,rfl,rfl,_,_,rfl,rfl,.inl ⟨by omega,by omega⟩,_,_,rfl,rfl,(by show (0:Int)<2147483579; decide),_,_,rfl,rfl,⟨by decide,by decide⟩,?_⟩
  exact q _ _ _ e1 s1
theorem pZ{f:Addr}{fd:Co}(F:Fun K "_law_draws" "_law_draws" eH f fd):FnOk P w K mg base Jv 1 f fd ["_law_cell"] Uj:=vP (uI F)
theorem uD{f:Addr}{fd:Co}(F:Fun K "_law_next" "_law_next" oN f fd):FnOk P w K mg base Jv 1 f fd ["_law_draws_here"] (V0 K kW):=yC (zO F)
end
end K17
namespace DL
open PySem L2 Nd
def sub(a b:List Int):Bool:=a.all λi=>decide (i∈b)
def fV(a b:List Int):List Int:=a.filter λi=>decide (i∉b)
theorem Pj(a:Int){b:Int}(h:0<b):0<=a % b/\a % b<b:=Xn a b h
def C6:PF:=λds R=>∃a b:List Int,ds=[Bt a,Bt b]/\R (.bool (sub a b))
end DL
namespace Nd
open PySem L2 Ts
def Lh:Nat->List (List Int)
 | 0=>[[]]
 | n+1=>Lh n++(Lh n).map (·++[(n:Int)])
theorem Yh:∀n,(Lh n).length=2 ^ n
 | 0=>rfl
 | n+1=>by
  show (Lh n++(Lh n).map (·++[(n:Int)])).length=2 ^ (n+1)
  rw[Ax,Ac,Yh n,Rx]
  omega
def Ord(l:List (List Int)):Prop:=l.Pairwise λx y=>HT.lexLt y x=false
theorem iL:∀{l m:List (List Int)},l.Perm m->Ord l->Ord m->l=m
 | [],m,p,_,_=>(List.Perm.nil_eq p)
 | x::l,[],p,_,_=>by
  have:=p.length_eq
  simp at this
 | x::l,y::m,p,h1,h2=>by
  obtain ⟨a1,a2⟩:=Bm.mp h1
  obtain ⟨b1,b2⟩:=Bm.mp h2
  have e:x=y:=by
   have mx:x∈y::m:=p.mem_iff.mp Aa
   have my:y∈x::l:=p.mem_iff.mpr Aa
   rcases Am.mp mx with e | mx
   ·exact e
   ·rcases Am.mp my with e | my
    ·exact e.symm
    ·exact dH (b1 x mx) (a1 y my) |>.symm▸rfl
  subst e
  rw[iL ((List.perm_cons x).mp p) a2 b2]
end Nd
namespace Nd
open PySem L2
def ch:Nat->Nat->Nat
 | _,0=>1
 | 0,_+1=>0
 | n+1,k+1=>ch n k+ch n (k+1)
theorem Ln(n:Nat):ch n 0=1:=by cases n <;> rfl
theorem Iw(n k:Nat):ch (n+1) (k+1)=ch n k+ch n (k+1):=rfl
theorem He:∀{n k:Nat},n<k->ch n k=0
 | 0,0,h=>absurd h (Gw _)
 | 0,k+1,_=>rfl
 | n+1,0,h=>absurd h (Ex _)
 | n+1,k+1,h=>by rw[Iw,He (by omega:n<k),He (by omega:n<k+1)]
theorem Ui:∀n:Nat,ch n n=1
 | 0=>rfl
 | n+1=>by rw[Iw,Ui n,He (Qb n)]
theorem xG:∀n:Nat,ch n 1=n
 | 0=>rfl
 | n+1=>by rw[Iw,Ln,xG n]; omega
theorem Xr:∀n k:Nat,ch n (k+1) * (k+1)=ch n k * (n - k)
 | 0,0=>rfl
 | 0,k+1=>by rw[He (by omega:0<k+1+1),He (by omega:0<k+1)]; simp
 | n+1,0=>by rw[xG,Ln]; omega
 | n+1,k+1=>by
  have h1:=Xr n k
  have h2:=Xr n (k+1)
  rw[Iw,Iw n k]
  by_cases hk:n<=k
  ·by_cases hk2:n=k
   ·subst hk2
    rw[Ui,He (by omega:n<n+1),He (by omega:n<n+1+1)]
    simp
   ·rw[He (by omega:n<k+1),He (by omega:n<k+1+1),He (by omega:n<k)]
    simp
  ·have e1:n - k=n - (k+1)+1:=by omega
   have e2:n+1 - (k+1)=n - (k+1)+1:=by omega
   rw[e1] at h1
   rw[e2]
   generalize n - (k+1)=m at h1 h2
   generalize ch n k=A at *
   generalize ch n (k+1)=B at *
   generalize ch n (k+1+1)=C at *
   -- h1:B * (k+1)=A * (m+1); h2:C * (k+1+1)=B * m
   have : (B+C) * (k+1+1)=B * (k+1)+B+C * (k+1+1):=by
    rw[Nat.add_mul,Nat.mul_add B (k+1) 1,Nat.mul_one]
   rw[this,h1,h2,Nat.add_mul,Nat.mul_add B m 1,Nat.mul_one]
   omega
theorem kF:∀{n k:Nat},k<=n->ch n k=ch n (n - k)
 | 0,k,h=>by
  have : k=0:=by omega
  subst this; rfl
 | n+1,0,_=>by rw[Ln,Xu,Ui]
 | n+1,k+1,h=>by
  by_cases hk:k=n
  ·subst hk; rw[Xv,Ui,Ln]
  ·have e:n+1 - (k+1)=(n - (k+1))+1:=by omega
   rw[Iw,e,Iw,kF (by omega:k<=n),kF (by omega:k+1<=n)]
   have e2:n - k=n - (k+1)+1:=by omega
   rw[e2]
   omega
theorem mD:∀n k:Nat,ch n k<=2 ^ n
 | n,0=>by rw[Ln]; exact Nat.one_le_two_pow
 | 0,k+1=>by rw[He (by omega)]; exact Cy _
 | n+1,k+1=>by
  have h1:=mD n k
  have h2:=mD n (k+1)
  rw[Iw,Rx]
  omega
theorem dG:∀{n k:Nat},k<=n->0<ch n k
 | n,0,_=>by rw[Ln]; exact Nat.one_pos
 | 0,k+1,h=>absurd h (Nat.not_succ_le_zero _)
 | n+1,k+1,h=>by rw[Iw]; have:=dG (by omega:k<=n); omega
def cw:Nat->Int->Nat->List (List Int)
 | _,_,0=>[[]]
 | 0,_,_+1=>[]
 | d+1,p,m+1=>(cw d (p+1) m).map (p::·)++cw d (p+1) (m+1)
theorem cw_zero (d:Nat) (p:Int):cw d p 0=[[]]:=by cases d <;> rfl
theorem cw_succ (d:Nat) (p:Int) (m:Nat):cw (d+1) p (m+1)=(cw d (p+1) m).map (p::·)++cw d (p+1) (m+1):=rfl
theorem cw_len:∀ (d:Nat) (p:Int) (m:Nat),(cw d p m).length=ch d m
 | d,p,0=>by rw [cw_zero,Ln]; rfl
 | 0,p,m+1=>rfl
 | d+1,p,m+1=>by rw [cw_succ,Ax,Ac,cw_len d (p+1) m,cw_len d (p+1) (m+1),Iw]
def vF(p:Int)(d:Nat)(w:List Int):Prop:=w.Pairwise (· < ·)/\∀x∈w,p<=x/\x<p+d
theorem cw_mem:∀ {d:Nat} {p:Int} {m:Nat} {w:List Int},w∈cw d p m↔w.length=m∧vF p d w
 | d,p,0,w=>by
  rw [cw_zero,List.mem_singleton]
  constructor
  ·rintro rfl; exact ⟨rfl,Do,λ_ h=>(nomatch h)⟩
  ·rintro ⟨h,_⟩; exact aE h
 | 0,p,m+1,w=>by
  constructor
  ·intro h; cases h
  ·(intro q_; obtain ⟨h,_,h2⟩ := q_)
   match w,h with
   | x::w,_=>have:=h2 x Aa; omega
 | d+1,p,m+1,w=>by
  rw [cw_succ,List.mem_append,List.mem_map]
  constructor
  ·rintro (⟨v,hv,rfl⟩ | h)
   ·obtain ⟨h1,h2,h3⟩:=cw_mem.mp hv
    refine ⟨by rw[Bf,h1],Bm.mpr ⟨λx hx=>?_,h2⟩,λx hx=>?_⟩
    ·have:=h3 x hx; omega
    ·rcases Am.mp hx with rfl | hx
     ·omega
     ·have:=h3 x hx; omega
   ·obtain ⟨h1,h2,h3⟩:=cw_mem.mp h
    exact ⟨h1,h2,λx hx=>by have:=h3 x hx; omega⟩
  ·(intro q_; obtain ⟨h1,h2,h3⟩ := q_)
   match w,h1 with
   | x::v,h1 =>
    obtain ⟨a1,a2⟩:=Bm.mp h2
    have hx:=h3 x Aa
    by_cases e:x=p
    ·subst e
     refine .inl ⟨v,cw_mem.mpr ⟨by simpa using h1,a2,fun y hy=>?_⟩,rfl⟩
     have:=a1 y hy
     have:=h3 y (Ad _ hy)
     omega
    ·refine .inr (cw_mem.mpr ⟨h1,h2,fun y hy=>?_⟩)
     rcases Am.mp hy with rfl | hy
     ·omega
     ·have:=a1 y hy
      have:=h3 y (Ad _ hy)
      omega
def jX(top:Int):Nat->List Int->Nat
 | _,[]=>0
 | m,x::w=>ch (top - 1 - x).toNat m+jX top (m - 1) w
theorem cw_lex:∀ (d:Nat) (p:Int) (m:Nat),(cw d p m).Pairwise (fun x y=>HT.lexLt x y=true)
 | d,p,0=>by rw [cw_zero]; exact El _ _
 | 0,p,m+1=>Do
 | d+1,p,m+1=>by
  rw [cw_succ]
  refine Cg.mpr ⟨?_,cw_lex d (p+1) (m+1),fun x hx y hy=>?_⟩
  ·rw[List.pairwise_map]
   exact (cw_lex d (p+1) m).imp fun {a b} h=>by rw [HT.lexLt_cons,if_pos rfl]; exact h
  ·obtain ⟨v,_,rfl⟩:=Cs.mp hx
   obtain ⟨h1,h2,h3⟩:=cw_mem.mp hy
   match y,h1,h3 with
   | z::y,_,h3 =>
    have:=h3 z Aa
    rw[HT.lexLt_cons,if_neg (by omega),decide_eq_true_eq]
    omega
theorem kQ:∀{n:Nat} {w:List Int},w∈Lh n↔Ic n w
 | 0,w=>by
  show w∈[[]]↔_
  rw[List.mem_singleton]
  constructor
  ·rintro rfl; exact Ic.nil _
  ·rintro ⟨_,h⟩
   match w with
   | []=>rfl
   | x::w=>have:=h x Aa; omega
 | n+1,w=>by
  show w∈Lh n++(Lh n).map (·++[(n:Int)])↔_
  rw[List.mem_append,List.mem_map,kQ]
  constructor
  ·rintro (h | ⟨v,hv,rfl⟩)
   ·exact h.up (by omega)
   ·have:=(kQ.mp hv).more (by omega)
    exact this.up (by omega)
  ·intro h
   by_cases hn:(n:Int)∈w
   ·refine .inr ⟨w.dropLast,kQ.mpr ?_,?_⟩
    ·have hne:w≠[]:=λz=>by rw[z] at hn; cases hn
     have hl:w.getLast hne=n:=by
      have h1:=h.2 _ (Py hne)
      by_cases e:w.getLast hne=n
      ·exact e
      ·exfalso
       have hd:=Cq hne
       rw[<- hd] at hn
       rcases Ay.mp hn with z | z
       ·have hp:=h.1
        rw[<- hd] at hp
        have:=(Cg.mp hp).2.2 _ z _ (Ae.mpr rfl)
        omega
       ·exact e (Ae.mp z).symm
     have hd:=Cq hne
     have hp:=h.1
     rw[<- hd,hl] at hp
     obtain ⟨p1,_,p3⟩:=Cg.mp hp
     exact ⟨p1,λx hx=>⟨(h.2 x (Jy w hx)).1,p3 x hx _ (Ae.mpr rfl)⟩⟩
    ·have hne:w≠[]:=λz=>by rw[z] at hn; cases hn
     have hl:w.getLast hne=n:=by
      have h1:=h.2 _ (Py hne)
      by_cases e:w.getLast hne=n
      ·exact e
      ·exfalso
       have hd:=Cq hne
       rw[<- hd] at hn
       rcases Ay.mp hn with z | z
       ·have hp:=h.1
        rw[<- hd] at hp
        have:=(Cg.mp hp).2.2 _ z _ (Ae.mpr rfl)
        omega
       ·exact e (Ae.mp z).symm
     rw[<- hl]
     exact Cq hne
   ·refine .inl ⟨h.1,λx hx=>?_⟩
    have:=h.2 x hx
    have : x≠n:=λz=>hn (by rw[<- z]; exact hx)
    omega
theorem Pa:∀n:Nat,(Lh n).Nodup
 | 0=>Bs.mpr ⟨Bk,Ee⟩
 | n+1=>by
  show (Lh n++(Lh n).map (·++[(n:Int)])).Nodup
  refine Et.mpr ⟨Pa n,?_,λx hx y hy e=>?_⟩
  ·exact List.Pairwise.map _ (λa b h e=>h (iY e)) (Pa n)
  ·subst e
   obtain ⟨v,_,rfl⟩:=Cs.mp hy
   have:=(kQ.mp hx).2 n (Ag _ (Ae.mpr rfl))
   omega
end Nd
namespace DL
open PySem L2 Nd
def pairD(p:Nat×Nat):Af:=.tuple [.int p.1,.int p.2]
instance {p:Nat×Nat}:Im (pairD p):=⟨(inferInstance:Im (.tuple [.int p.1,.int p.2])).h⟩
instance {p:Nat×Nat}:Dp (pairD p) 1:=⟨(inferInstance:Dp (.tuple [.int p.1,.int p.2]) 1).h⟩
def B5(p:Nat×Nat×List Int):Af:=.tuple [.int p.1,.int p.2.1,Bt p.2.2]
instance {p:Nat×Nat×List Int}:Im (B5 p):=⟨(inferInstance:Im (.tuple [.int p.1,.int p.2.1,Bt p.2.2])).h⟩
instance {p:Nat×Nat×List Int}:Dp (B5 p) 2:=⟨(inferInstance:Dp (.tuple [.int p.1,.int p.2.1,Bt p.2.2]) 2).h⟩
def BP(L:List (List Int))(f:List Int->Int):Af:=.list ((L.map f).map Br)
instance {L:List (List Int)} {f:List Int->Int}:Dp (BP L f) 1:=⟨(inferInstance:Dp (.list ((L.map f).map Br)) 1).h⟩
def jm(Q w c:List Int):Bool:=sub w c && c.all λi=>decide (i∈w\/i∉Q)
end DL
namespace DL
open PySem PySem.Spec PyProof.Rows L2 Nd
end DL
namespace DRow
open PySem L2 Nd DL
abbrev Cd:=List Int
def Wv(w u:List Int):Bool:=w.all λi=>decide (i∈u)
def M7(n1 n2:List Int)(ps:List (List Int×Bool)):Option Bool:=ps.foldl (λst p=>if Wv p.1 n1=Wv p.1 n2 then st else some (Wv p.1 n1 == !p.2)) none
theorem yW(n1 n2:List Int)(ps:List (List Int×Bool))(p:List Int×Bool):M7 n1 n2 (ps++[p])=if Wv p.1 n1=Wv p.1 n2 then M7 n1 n2 ps else some (Wv p.1 n1 == !p.2):=by
 unfold M7
 rw[List.foldl_append]
 rfl
def Zj(ps:List (List Int×Bool))(n:List Int):List Int:=ps.reverse.map λp=>if Wv p.1 n=p.2 then 1 else 0
theorem bX(ps:List (List Int×Bool))(p:List Int×Bool)(n:List Int):Zj (ps++[p]) n=(if Wv p.1 n=p.2 then 1 else 0)::Zj ps n:=by
 unfold Zj
 rw[List.reverse_append,Cu]
 rfl
theorem sV{α:Type}{P:List α->Prop}(h0:P [])(h1:∀l x,P l->P (l++[x]))(l:List α):P l:=by
 have : ∀m:List α,P m.reverse:=λm=>by
  induction m with
  | nil=>exact h0
  | cons x m ih=>rw[List.reverse_cons]; exact h1 _ _ ih
 have:=this l.reverse
 rwa [List.reverse_reverse] at this
theorem tJ(n1 n2:List Int)(ps:List (List Int×Bool)):(M7 n1 n2 ps=none↔Zj ps n1=Zj ps n2)/\(M7 n1 n2 ps=some true↔HT.lexLt (Zj ps n1) (Zj ps n2)=true):=by
 induction ps using sV with
 | h0=>exact ⟨⟨λ_=>rfl,λ_=>rfl⟩,⟨λh=>(by cases h),λh=>(by cases h)⟩⟩
 | h1 l p ih =>
  rw[yW,bX,bX,HT.lexLt_cons]
  by_cases h:Wv p.1 n1=Wv p.1 n2
  ·rw[if_pos h,h,if_pos rfl]
   refine ⟨ih.1.trans ⟨λe=>by rw[e],λe=>(Lj e).2⟩,ih.2⟩
  ·rw[if_neg h]
   cases h1:Wv p.1 n1 <;> cases h2:Wv p.1 n2 <;> cases h3:p.2 <;> rw[h1,h2] at h <;> first | exact absurd rfl h | simp
theorem Pq(x y:List Int)(ps:List (List Int×Bool)):M7 x y ps=some false↔(¬ Zj ps x=Zj ps y/\¬ HT.lexLt (Zj ps x) (Zj ps y)=true):=by
 rw[<- (tJ x y ps).1,<- (tJ x y ps).2]
 cases M7 x y ps with
 | none=>simp
 | some b=>cases b <;> simp
def two(x y:Cd):Cd->Bool:=λr=>decide (r=x) || decide (r=y)
abbrev Ps:=List Int×Bool
def x5(p:Ps):Af:=.tuple [Bt p.1,.str (xP p.2)]
instance {p:Ps}:Im (x5 p):=⟨(inferInstance:Im (.tuple [Bt p.1,.str (xP p.2)])).h⟩
instance {p:Ps}:Dp (x5 p) 2:=⟨(inferInstance:Dp (.tuple [Bt p.1,.str (xP p.2)]) _).h⟩
instance {α:Type} {f:α->Af} {l:List α} {lo hi:Option Int} [h:∀a,Im (f a)]:ImA (Lr (l.map f) lo hi):=⟨by rw[gZ]; exact FD⟩
theorem cutG_from{α:Type}(xs:List α)(k:Nat):Lr xs (some (k:Int)) none=xs.drop k:=by
 unfold Lr
 rw[HT.sIx_none,HT.sIx_nat]
 by_cases h:k<=xs.length
 ·rw[Nat.min_eq_left h,Gu (by rw[Px]; exact Ah _)]
 ·rw[Nat.min_eq_right (by omega),lT (by omega),lT (by omega),List.take_nil]
end DRow
namespace DL
open PySem PySem.Spec PyProof.Rows L2 Nd DRow
theorem fB{α β:Type}{f:α->β}:∀{l:List α},l.Nodup->(∀a∈l,∀b∈l,f a=f b->a=b)->(l.map f).Nodup
 | [],_,_=>Ee
 | x::l,nd,h=>by
  have nd':=Bs.mp nd
  rw[Bh,List.nodup_cons]
  refine ⟨λz=>?_,fB nd'.2 λa ha b hb=>h a (Ad _ ha) b (Ad _ hb)⟩
  obtain ⟨y,hy,e⟩:=Cs.mp z
  have:=h y (Ad _ hy) x Aa e
  rw[this] at hy
  exact nd'.1 hy
end DL
namespace K17
open PySem L2 Nd DL
local macro_rules | `(tactic| array_get_dec) => do
  let ids:=(("e_ssW e_ssWB e_lenSet e_lsB e_isB1 e_extend e_extB e_seq e_skip e_ret e_if e_asg e_name e_name2 e_name4 e_own e_nT e_gtup e_gsn e_gsc e_op e_var e_c e_imm e_immB e_take e_I e_I0 e_eqF e_eqT e_inFt_w1 e_inTt_w1 e_ixl e_ixt e_cat e_catT_w1 e_nlT e_pkOfsh e_pkOfow e_mdInsh e_mdInow e_mdItpk e_mdItsh e_mdItow e_nil e_cons e_tup e_lst e_noPart e_part e_partB e_sl e_slBl e_cb e_lenl e_lent e_lent_w1 e_max2 e_min2 e_all e_isi e_v e_b e_bB e_tru e_truB e_notT e_andT e_orT e_orTf e_not e_notB e_and e_andt e_ifE e_neg e_negB e_dL e_dTp e_lB e_tpB_w1 e_range1 e_rng1B e_range2 e_rng2B e_enum e_enumB e_zip e_zipB e_for e_comp e_give e_giveB e_noTest e_step e_stepT e_stepF e_yesB e_call e_callW e_draws e_drawsB e_append e_aug e_augB e_scrSl e_sortW e_tr e_trB isLst callB callBW tupB lstB datas pkMd allOw noPk appB own1 npk retE retL args0 frD frD1 alD List.map_cons List.map_nil List.replicate List.getElem?_cons_zero List.getElem?_cons_succ List.set_cons_zero List.set_cons_succ List.cons_append List.nil_append Option.map_some List.length_cons List.length_nil List.append_nil rdAdd rdSub rdMul rdDiv rdMod rdPow rdShl rdLt rdGe if_true mdZip Nat.reduceAdd Nat.reduceSub Nat.reduceLeDiff true_and im_e ima_e dp_e dpa_e any_int eqD_intd eqD_lw eqD_l0 ow_e tt_e cdiv_e cpow_e cmul_r Int.reduceLT Int.reduceLE Int.reduceNeg and_self Int.reduceToNat Int.reducePow isi_li isi_tt isi_ib isi_ii isi_wt Bool.not_true Bool.not_false decide_true String.reduceEq or_true true_or List.isEmpty_nil ifB_lf str_self Int.cast_ofNat_Int atI_0 some_e dec_self eqD_tup1 okT_l" : String).splitOn " ").toArray.map λ(x:String)=>Lean.mkIdent x.toName
  `(tactic| try simp only [$[↓$ids:ident],*])
theorem C8(n i:Nat)(h:i<n):((ch n i:Nat):Int) * ((n:Int) - (i:Int)) / ((i:Int)+1)=((ch n (i+1):Nat):Int):=by
 have e:=Xr n i
 have e':((ch n (i+1):Nat):Int) * ((i:Int)+1)=((ch n i:Nat):Int) * ((n:Int) - (i:Int)):=by
  have:=congrArg (λx:Nat=>(x:Int)) e
  simp only[Int.natCast_mul,Int.natCast_add,Int.natCast_one] at this
  rw[Int.ofNat_sub (by omega)] at this
  exact this
 rw[<- e',Int.mul_ediv_cancel _ (by omega)]
def u5(i:Nat)(δ:DS):Nat:=match δ.sl[i]? with
 | some (.dat _ (.int p))=>p.toNat
 | _=>0
def Tq:PF:=λds R=>∃n k:Int,ds=[.int n,.int k]/\0<=n/\n<=60/\0<=k/\R (.int (ch n.toNat k.toNat))
def iK:PF:=λds R=>∃h m n:Int,ds=[.int h,.int m,.int n]/\0<=h/\h<=60/\0<=m/\0<=n/\n<(ch h.toNat m.toNat:Int)/\∀w:List Int,(cw h.toNat 0 m.toNat)[n.toNat]? = some w->R (Bt w)
def bM:PF:=λds R=>∃h m:Int,ds=[.int h,.int m]/\0<=h/\h<=12/\0<=m/\R (.list ((cw h.toNat 0 m.toNat).map Bt))
section
variable{P:Bj}{w:World}{K:PySem.W.Frag}{mg:Str->Option Value}{base:Heap}
theorem qW:FnScope ["n", "k", "many", "step"] ["n", "k"] (Cc Yo):=⟨rfl,rfl,rfl,by decide +kernel,rfl,by decide +kernel,by decide +kernel⟩
theorem pH{f   : Addr}{fd  : Co}(F:Fun K "choose" "choose" Yo f fd)(mz_min:mg "min" = none)(mz_range:mg "range" = none):FnOk P w K mg base Jv 1 f fd ["n", "k"] (Nj K (Tq)):=by
 refine' Hr (k:=0) F qW (λcdv A outer s H E hr=>?hb) ?h
 case hb =>
  have hu64:=hr.units
  exact Ck (Lq (Y8 (Av (pv 1)) (Av (pv 0)))
   (Cw (Er Ci)) Ju)
   (Ck (Hu (i:=2) qW.nd rfl (Dd rfl) Ci)
   (Ck (Nf Dn rfl (Rm rfl mz_range (Ao (Eg (bC rfl) oF rfl mz_min (by decide +kernel) (Ao (Av (pv 1)) (Ao (Sr (Av (pv 0)) (Av (pv 1))) Bi))) Bi)) (Iy (i:=3) qW.nd rfl (Dd rfl))
   (Cw (Hu (i:=2) qW.nd rfl (Dd rfl) (Oc (jG (Av (pv 2)) (Sr (Av (pv 0)) (Av (pv 3)))) (Lx (Av (pv 3)) Ci)))))
   (Cw (Er (Pd (Av (pv 2)))))))
 case h =>
  (intro ds R q_; obtain ⟨n,k,rfl,n0,n1,k0,hR⟩ := q_)
  refine ⟨rfl,?_⟩
  array_get_dec
  refine Wd (λq=>?_) (λq=>?_)
  ·have q:=of_decide_eq_true q
   rw[He (by omega)] at hR
   array_get_dec
   exact hR
  have q:=of_decide_eq_false q
  array_get_dec
  obtain ⟨t,et,tn,ec⟩ : ∃t:Nat,(if n - k<k then n - k else k)=(t:Int)/\t<=n.toNat/\ch n.toNat t=ch n.toNat k.toNat:=by
   by_cases c:n - k<k
   ·refine ⟨(n - k).toNat,by rw[if_pos c]; omega,by omega,?_⟩
    rw[kF (by omega)]
    congr 1
    omega
   ·exact ⟨k.toNat,by rw[if_neg c]; omega,by omega,rfl⟩
  rw[et]
  refine ⟨by omega,by omega,?_⟩
  rw[Di]
  refine Yk (l:=Bc t) (g:=λi:Nat=>.int i) rfl (λi δ=>∃v:DV,δ=⟨[.dat .sh (.int n),.dat .sh (.int k),.dat .sh (.int (ch n.toNat i)),v],0⟩/\NP v) ?_ ?_ ?_
  ·exact ⟨_,by rw[Ln]; rfl,Iz⟩
  ·(intro i a _ ha q_; obtain ⟨v,rfl,hv⟩ := q_)
   obtain ⟨rfl,hi⟩:=gB ha
   array_get_dec
   refine ⟨.inr ⟨by omega,by omega⟩,⟨by omega,by omega⟩,?_⟩
   have e:=C8 n.toNat a (by omega)
   rw[show ((n.toNat:Nat):Int)=n by omega] at e
   rw[e]
   exact ⟨_,rfl,Hz⟩
  ·(intro _ q_; obtain ⟨v,rfl,hv⟩ := q_)
   rw[Cb,ec]
   array_get_dec
   exact hR
theorem kP:FnScope ["holes", "many", "number", "word", "left", "place", "having"] ["holes", "many", "number"] (Cc Vs):=⟨rfl,rfl,rfl,by decide +kernel,rfl,by decide +kernel,by decide +kernel⟩
theorem jL{f f_choose  : Addr}{fd d_choose:Co}(F:Fun K "word_at" "word_at" Vs f fd)(G_choose:FnOk P w K mg base Jv 1 f_choose d_choose ["n", "k"] (Nj K (Tq)))(b_choose:Binds K d_choose ["n", "k"] [])(k_choose:PySem.W.keepIn K (.ref f_choose)=true)(m_choose:mg "choose" = some (.ref f_choose))(mz_len:mg "len" = none):FnOk P w K mg base Jv 2 f fd ["holes", "many", "number"] (Nj K (iK)):=by
 refine' Hr (k:=1) F kP (λcdv A outer s H E hr=>?hb) ?h
 case hb =>
  have hr1:Room 1 _:=hr.mono (by decide)
  have hu64:=hr.units
  exact Ck (Lq (cP (Qu (iI (Av (pv 2)) Ci) (Qo (vC (Av (pv 2)) (Fn G_choose hr1 rfl m_choose k_choose b_choose Hd (Ao (Av (pv 0)) (Ao (Av (pv 1)) Bi)))))))
   (Cw vH) Ju)
   (Ck (Hu (i:=3) kP.nd rfl (Dd rfl) (Pc Bi))
   (Ck (Hu (i:=4) kP.nd rfl (Dd rfl) (Av (pv 2)))
   (Ck (Hu (i:=5) kP.nd rfl (Dd rfl) Ci)
   (Ck (gE Dn (iI (Eg Jh Nb rfl mz_len (by decide +kernel) (Ao (Av (pv 3)) Bi)) (Av (pv 1)))
   (Ck (Hu (i:=6) kP.nd rfl (Dd rfl) (Fn G_choose hr1 rfl m_choose k_choose b_choose Hd (Ao (Sr (Sr (Av (pv 0)) Ci) (Av (pv 5))) (Ao (Sr (Sr (Av (pv 1)) (Eg Jh Nb rfl mz_len (by decide +kernel) (Ao (Av (pv 3)) Bi))) Ci) Bi))))
    (Ck (Lq (iI (Av (pv 4)) (Av (pv 6)))
    (Cw (Hu (i:=3) kP.nd rfl (Dd rfl) (cQ (Av (pv 3)) (Pc (Ao (Pd (Av (pv 5))) Bi))))) (Cw (mU (i:=4) kP.nd rfl (Dd rfl) (Av (pv 6)) K9)))
    (Cw (mZ (i:=5) kP.nd rfl (Dd rfl) Ci)))))
   (Cw (Er (Pd (Av (pv 3)))))))))
 case h =>
  (intro ds R q_; obtain ⟨h,m,n,rfl,h0,h1,m0,n0,n1,hR⟩ := q_)
  refine ⟨rfl,?_⟩
  have mh:m.toNat<=h.toNat:=Nat.le_of_not_lt λz=>by rw[He z] at n1; omega
  array_get_dec
  refine lY (λq=>absurd (of_decide_eq_true q) (by omega)) (λ_=>?_)
  array_get_dec
  refine ⟨h,m,rfl,h0,h1,m0,?_⟩
  array_get_dec
  refine Wd (λq=>absurd (of_decide_eq_true q) (by omega)) (λ_=>?_)
  array_get_dec
  obtain ⟨tg,etg⟩ : ∃tg,(cw h.toNat 0 m.toNat)[n.toNat]? = some tg:=by
   have : n.toNat<(cw h.toNat 0 m.toNat).length:=by rw [cw_len]; omega
   exact ⟨_,Bw this⟩
  have hm:tg.length=m.toNat:=(cw_mem.mp (Ba etg)).1
  refine tQ (λδ=>∃(w r:List Int) (lf pl:Nat) (v:DV),δ=⟨[.dat .sh (.int h),.dat .sh (.int m),.dat .sh (.int n),.dat .sh (Bt w),.dat .sh (.int lf),.dat .sh (.int pl),v],0⟩/\NP v/\w++r=tg/\pl<=h.toNat/\(cw (h.toNat - pl) pl r.length)[lf]? = some r) (λδ=>h.toNat - u5 5 δ) ⟨[],tg,n.toNat,0,_,by rw[Int.toNat_of_nonneg n0]; rfl,Iz,rfl,Cy _,by rw[hm]; exact etg⟩ ?_
  (intro _ q_; obtain ⟨w,r,lf,pl,v,rfl,hv,ew,pl0,er⟩ := q_)
  have lw:w.length+r.length=m.toNat:=by rw[<- hm,<- ew,Ax]
  array_get_dec
  refine A9 (λhb=>?_) (λhb=>?_)
  ·have hb:=of_decide_eq_true hb
   rw[Ac] at hb
   obtain ⟨x,r',rfl⟩ : ∃x r',r=x::r':=by
    cases r with
    | nil=>exact absurd lw (by simp; omega)
    | cons x r'=>exact ⟨x,r',rfl⟩
   rw[Bf] at lw er
   obtain ⟨d,hd⟩ : ∃d,h.toNat - pl=d+1:=by
    cases hd:h.toNat - pl with
    | zero=>rw[hd] at er; cases er
    | succ d=>exact ⟨d,rfl⟩
   rw [hd,cw_succ] at er
   array_get_dec
   rw[Ac]
   refine ⟨h - 1 - pl,m - w.length - 1,rfl,by omega,by omega,by omega,?_⟩
   rw[show (h - 1 - (pl:Int)).toNat=d by omega,show (m - (w.length:Int) - 1).toNat=r'.length by omega]
   array_get_dec
   refine Wd (λhl=>?_) (λhl=>?_)
   ·have hl':lf<ch d r'.length:=by have:=of_decide_eq_true hl; omega
    rw [Ep (by rw [Ac,cw_len]; exact hl'),Bo] at er
    cases hv2:(cw d ((pl:Int)+1) r'.length)[lf]? with
    | none=>rw[hv2] at er; cases er
    | some u =>
     rw[hv2] at er
     have er':(pl:Int)::u=x::r':=Bz er
     injection er' with ex eur
     subst ex eur
     array_get_dec
     refine ⟨by rw[Ac]; omega,⟨w++[(pl:Int)],u,lf,pl+1,.dat .sh (.int (ch d u.length)),?_,Hz,by rw[<- ew,Bg]; rfl,by omega,by rw[show h.toNat - (pl+1)=d by omega,show ((pl+1:Nat):Int)=(pl:Int)+1 by omega]; exact hv2⟩,?_⟩
     ·rw[show ((pl+1:Nat):Int)=(pl:Int)+1 by omega]
      unfold Bt
      rw[Cu]
      rfl
     ·show h.toNat - ((pl:Int)+1).toNat<h.toNat - (pl:Int).toNat
      omega
   ·have hl':ch d r'.length<=lf:=by have:=of_decide_eq_false hl; omega
    rw [Dw (by rw [Ac,cw_len]; exact hl'),Ac,cw_len] at er
    array_get_dec
    refine ⟨⟨w,x::r',lf - ch d r'.length,pl+1,.dat .sh (.int (ch d r'.length)),?_,Hz,ew,by omega,by rw[show h.toNat - (pl+1)=d by omega,show ((pl+1:Nat):Int)=(pl:Int)+1 by omega,Bf]; exact er⟩,?_⟩
    ·rw[show ((lf - ch d r'.length:Nat):Int)=(lf:Int) - (ch d r'.length:Int) by omega,show ((pl+1:Nat):Int)=(pl:Int)+1 by omega]
    ·show h.toNat - ((pl:Int)+1).toNat<h.toNat - (pl:Int).toNat
     omega
  ·have hb:=of_decide_eq_false hb
   rw[Ac] at hb
   obtain rfl:r=[]:=Ii.mp (by omega)
   rw[Dg] at ew
   subst ew
   array_get_dec
   exact hR _ etg
theorem iH:FnScope ["holes", "many"] ["holes", "many"] (Cc Pi):=⟨rfl,rfl,rfl,by decide +kernel,rfl,by decide +kernel,by decide +kernel⟩
theorem fW{f f_choose f_word_at  : Addr}{fd d_choose d_word_at:Co}(F:Fun K "words_of" "words_of" Pi f fd)(G_choose:FnOk P w K mg base Jv 1 f_choose d_choose ["n", "k"] (Nj K (Tq)))(b_choose:Binds K d_choose ["n", "k"] [])(k_choose:PySem.W.keepIn K (.ref f_choose)=true)(m_choose:mg "choose" = some (.ref f_choose))(G_word_at:FnOk P w K mg base Jv 2 f_word_at d_word_at ["holes", "many", "number"] (Nj K (iK)))(b_word_at:Binds K d_word_at ["holes", "many", "number"] [])(k_word_at:PySem.W.keepIn K (.ref f_word_at)=true)(m_word_at:mg "word_at" = some (.ref f_word_at))(mz_range:mg "range" = none):FnOk P w K mg base Jv 3 f fd ["holes", "many"] (Nj K (bM)):=by
 refine' Hr (k:=2) F iH (λcdv A outer s H E hr=>?hb) ?h
 case hb =>
  have hr1:Room 1 _:=hr.mono (by decide)
  have hr2:Room 2 _:=hr.mono (by decide)
  have hu64:=hr.units
  have CS1:∀{scope:Scope} (h:scope={ kind:=.function,names:=[(".0",.local),("number",.local),("word_at",.globalImplicit),("holes",.free),("many",.free)],isGenerator:=false,isCoroutine:=false }),
    CompScope (Sa Jv P w K mg base ["holes", "many"] "words_of" (Cc Pi) f cdv A outer s H E).nox scope [("many",s.heap.objs.size+2),("holes",s.heap.objs.size+1)] "number" ["holes", "many"] [0,1]:=by
   rintro scope rfl
   refine ⟨by rfl,.inl (by decide +kernel),by rfl,by decide +kernel,.inl rfl,λy c h=>?_,by rfl,by decide +kernel,rfl,λk y j e1 e2=>?_⟩
   ·have z:=Gf h
    simp only[Am,Bk,or_false,Ir] at z
    rcases z with ⟨rfl,rfl⟩ | ⟨rfl,rfl⟩ <;> rfl
   ·match k,e1,e2 with
    | 0,e1,e2=>cases e1; cases e2; exact ⟨rfl,rfl,by first | exact .inl rfl | exact .inr rfl⟩
    | 1,e1,e2=>cases e1; cases e2; exact ⟨rfl,rfl,by first | exact .inl rfl | exact .inr rfl⟩
    | k+2,e1,e2=>cases e1
  exact Cw (Er (Ud (CS1 rfl) rfl (Rm rfl mz_range (Ao (Fn G_choose hr1 rfl m_choose k_choose b_choose Hd (Ao (Av (pv 0)) (Ao (Av (pv 1)) Bi))) Bi)) (λ_ _ _=>Yd) (λ_ _ _=>Fn G_word_at hr2 rfl m_word_at k_word_at b_word_at Hd (Ao (Av (pv 1)) (Ao (Av (pv 2)) (Ao (Av (pv 0)) Bi))))))
 case h =>
  (intro ds R q_; obtain ⟨h,m,rfl,h0,h1,m0,hR⟩ := q_)
  refine ⟨rfl,?_⟩
  array_get_dec
  refine ⟨h,m,rfl,h0,by omega,m0,?_⟩
  array_get_dec
  have c1:=mD h.toNat m.toNat
  have c2:2 ^ h.toNat<=2 ^ 12:=Mr (by decide) (by omega)
  refine ⟨by omega,by omega,?_⟩
  rw[Di]
  have cl:=cw_len h.toNat 0 m.toNat
  refine vA (l:=Bc (ch h.toNat m.toNat)) (g:=λi:Nat=>.int i) rfl (λi=>Bt ((cw h.toNat 0 m.toNat).getD i [])) (λi hi yes no hy=>?_) ?_
  ·have hi:=Fh.mp hi
   array_get_dec
   refine ⟨h,m,i,rfl,h0,by omega,m0,by omega,by omega,λw hw=>?_⟩
   rw[Di] at hw
   rw[Oh,hw] at hy
   array_get_dec
   exact hy
  ·have e:(Bc (ch h.toNat m.toNat)).map (λi=>Bt ((cw h.toNat 0 m.toNat).getD i []))=(cw h.toNat 0 m.toNat).map Bt:=by
    rw[<- cl]
    apply Ho
    intro i
    rw[Bo,Bo]
    by_cases hi:i<(cw h.toNat 0 m.toNat).length
    ·rw[Ni hi,Bw hi]
     show some (Bt _)=some (Bt _)
     rw[Oh,Bw hi]
     rfl
    ·rw[Sf (by rw[Cb]; omega),Sf (by omega)]
     rfl
   rw[e]
   array_get_dec
   exact hR
theorem oV:FnScope ["one", "other"] ["one", "other"] (Cc Up):=⟨rfl,rfl,rfl,by decide +kernel,rfl,by decide +kernel,by decide +kernel⟩
theorem qM{f   : Addr}{fd  : Co}(F:Fun K "within" "within" Up f fd)(mz_all:mg "all" = none):FnOk P w K mg base Jv 1 f fd ["one", "other"] (Nj K (C6)):=by
 refine' Hr (k:=0) F oV (λcdv A outer s H E hr=>?hb) ?h
 case hb =>
  have hu64:=hr.units
  have CS1:∀{scope:Scope} (h:scope={ kind:=.function,names:=[(".0",.local),("place",.local),("other",.free)],isGenerator:=false,isCoroutine:=false }),
    CompScope (Sa Jv P w K mg base ["one", "other"] "within" (Cc Up) f cdv A outer s H E).nox scope [("other",s.heap.objs.size+1)] "place" ["other"] [1]:=by
   rintro scope rfl
   refine ⟨by rfl,.inl (by decide +kernel),by rfl,by decide +kernel,.inl rfl,λy c h=>?_,by rfl,by decide +kernel,rfl,λk y j e1 e2=>?_⟩
   ·have z:=Gf h
    simp only[Am,Bk,or_false,Ir] at z
    obtain ⟨rfl,rfl⟩:=z; rfl
   ·match k,e1,e2 with
    | 0,e1,e2=>cases e1; cases e2; exact ⟨rfl,rfl,by first | exact .inl rfl | exact .inr rfl⟩
    | k+1,e1,e2=>cases e1
  exact Cw (Er (Eg (vZ rfl) G4 rfl mz_all (by decide +kernel) (Ao (Ud (CS1 rfl) rfl (BU (Av (pv 0))) (λ_ _ _=>Yd) (λ_ _ _=>AO hu64 (Av (pv 0)) (Av (pv 1)))) Bi)))
 case h =>
  (intro ds R q_; obtain ⟨a,b,rfl,hR⟩ := q_)
  refine ⟨rfl,?_⟩
  array_get_dec
  refine vA (l:=a) (g:=Br) rfl (λi=>.bool (decide (i∈b))) (λi _ yes no hy=>?_) ?_
  ·array_get_dec
   exact hy
  ·array_get_dec
   refine ⟨a.map λi=>decide (i∈b),by rw[Da]; rfl,?_⟩
   rw[Xd]
   exact hR
end
theorem bG{ws:List (List Int)}{i:Nat}{p:List Int×Nat}(h:ws.zipIdx[i]? = some p):p.2=i/\ws[i]? = some p.1:=by
 rw[List.getElem?_zipIdx] at h
 cases e:ws[i]? with
 | none=>rw[e] at h; cases h
 | some a =>
  rw[e] at h
  cases h
  exact ⟨by simp,rfl⟩
def rY(ws:List (List Int)):Prop:=∀(i j:Nat) (a b:List Int),ws[i]? = some a->ws[j]? = some b->i≠j->sub a b=false
def nW:PF:=λds R=>∃ws:List (List Int),ds=[.list (ws.map Bt)]/\ws.length<=1000/\(∀(i j:Nat) (a b:List Int),ws[i]? = some a->ws[j]? = some b->i≠j->sub a b=true->R (.tuple [.str "within",.int i,.int j]))/\(rY ws->R (.tuple [.str "plain"]))
section
variable{P:Bj}{w:World}{K:PySem.W.Frag}{mg:Str->Option Value}{base:Heap}
theorem tE:FnScope ["code", "i", "one", "j", "other"] ["code"] (Cc eI):=⟨rfl,rfl,rfl,by decide +kernel,rfl,by decide +kernel,by decide +kernel⟩
theorem sT{f f_within  : Addr}{fd d_within:Co}(F:Fun K "plain" "plain" eI f fd)(G_within:FnOk P w K mg base Jv 1 f_within d_within ["one", "other"] (Nj K (C6)))(b_within:Binds K d_within ["one", "other"] [])(k_within:PySem.W.keepIn K (.ref f_within)=true)(m_within:mg "within" = some (.ref f_within))(mz_enumerate:mg "enumerate" = none):FnOk P w K mg base Jv 2 f fd ["code"] (Nj K (nW)):=by
 refine' Hr (k:=1) F tE (λcdv A outer s H E hr=>?hb) ?h
 case hb =>
  have hr1:Room 1 _:=hr.mono (by decide)
  have hu64:=hr.units
  exact Ck (Nf Dn rfl (oH rfl mz_enumerate (Ao (Av (pv 0)) Bi)) (cJ (n:=2) rfl (Lp (Iy (i:=1) tE.nd rfl (Dd rfl)) (Lp (Iy (i:=2) tE.nd rfl (Dd rfl)) Xq)))
   (Cw (Nf Dn rfl (oH rfl mz_enumerate (Ao (Av (pv 0)) Bi)) (cJ (n:=2) rfl (Lp (Iy (i:=3) tE.nd rfl (Dd rfl)) (Lp (Iy (i:=4) tE.nd rfl (Dd rfl)) Xq)))
    (Cw (Lq (cP (O2 (Um hu64 (Av (pv 1)) (Av (pv 3))) (n6 (Lf (Fn G_within hr1 rfl m_within k_within b_within Hd (Ao (Av (pv 2)) (Ao (Av (pv 4)) Bi)))))))
     (Cw (Er (Pc (Ao lA (Ao (Pd (Av (pv 1))) (Ao (Pd (Av (pv 3))) Bi)))))) Ju)))))
   (Cw (Er (Pc (Ao lA Bi))))
 case h =>
  (intro ds R q_; obtain ⟨ws,rfl,lw,h1,h2⟩ := q_)
  refine ⟨rfl,?_⟩
  array_get_dec
  have ez:((ws.map Bt).zipIdx.map λp=>PyData.tuple [.int (p.2:Int),p.1])=ws.zipIdx.map λp=>.tuple [.int (p.2:Int),Bt p.1]:=by rw[zip_map,Da]; rfl
  rw[ez]
  refine Yk (l:=ws.zipIdx) (g:=λp=>.tuple [.int (p.2:Int),Bt p.1]) rfl (λi δ=>(∃v1 v2 v3 v4:DV,δ=⟨[.dat .sh (.list (ws.map Bt)),v1,v2,v3,v4],0⟩/\NP v1/\NP v2/\NP v3/\NP v4)/\∀(i' j:Nat) (a b:List Int),i'<i->ws[i']? = some a->ws[j]? = some b->i'≠j->sub a b=false) ?_ ?_ ?_
  ·exact ⟨⟨_,_,_,_,rfl,Iz,Iz,Iz,Iz⟩,λi' j a b z=>absurd z (Ex _)⟩
  ·(intro i p _ hp q_; obtain ⟨⟨v1,v2,v3,v4,rfl,hv1,hv2,hv3,hv4⟩,hd⟩ := q_)
   obtain ⟨ep,hp1⟩:=bG hp
   array_get_dec
   rw[ez]
   refine Yk (l:=ws.zipIdx) (g:=λp=>.tuple [.int (p.2:Int),Bt p.1]) rfl (λj δ=>(∃v3 v4:DV,δ=⟨[.dat .sh (.list (ws.map Bt)),.dat .sh (.int (p.2:Int)),.dat .sh (Bt p.1),v3,v4],0⟩/\NP v3/\NP v4)/\∀(j':Nat) (b:List Int),j'<j->ws[j']? = some b->i≠j'->sub p.1 b=false) ?_ ?_ ?_
   ·exact ⟨⟨_,_,rfl,hv3,hv4⟩,λj' b z=>absurd z (Ex _)⟩
   ·(intro j q _ hq q_; obtain ⟨⟨v3,v4,rfl,hv3,hv4⟩,he⟩ := q_)
    obtain ⟨eq',hq1⟩:=bG hq
    have step:∀(hne:i≠j->sub p.1 q.1=false) (j':Nat) (b:List Int),j'<j+1->ws[j']? = some b->i≠j'->sub p.1 b=false:=λhne j' b hj hb hij=>by
     by_cases z:j'=j
     ·subst z
      rw[hq1] at hb
      cases hb
      exact hne hij
     ·exact he j' b (by omega) hb hij
    array_get_dec
    refine E6 (λhb=>?_) (λhb=>?_)
    ·have hij:i≠j:=λz=>by rw[ep,eq',z] at hb; simp at hb
     array_get_dec
     refine ⟨p.1,q.1,rfl,?_⟩
     array_get_dec
     refine Wd (λhs=>?_) (λhs=>?_)
     ·array_get_dec
      rw[ep,eq']
      exact h1 i j p.1 q.1 hp1 hq1 hij hs
     ·array_get_dec
      exact ⟨⟨_,_,rfl,Hz,Hz⟩,step λ_=>hs⟩
    ·have hij:i=j:=by rw[ep,eq'] at hb; simp at hb; omega
     array_get_dec
     exact ⟨⟨_,_,rfl,Hz,Hz⟩,step λz=>absurd hij z⟩
   ·(intro _ q_; obtain ⟨⟨v3,v4,rfl,hv3,hv4⟩,he⟩ := q_)
    refine ⟨⟨_,_,_,_,rfl,Hz,Hz,hv3,hv4⟩,λi' j a b hi ha hb hij=>?_⟩
    by_cases z:i'=i
    ·subst z
     rw[hp1] at ha
     cases ha
     exact he j b (by rw[Iu]; exact (Ap.mp hb).1) hb hij
    ·exact hd i' j a b (by omega) ha hb hij
  ·(intro _ q_; obtain ⟨⟨v1,v2,v3,v4,rfl,hv1,hv2,hv3,hv4⟩,hd⟩ := q_)
   exact h2 λi j a b ha hb hij=>hd i j a b (by rw[Iu]; exact (Ap.mp ha).1) ha hb hij
end
def sF:PF:=λds R=>∃(v:Int) (H:Nat),ds=[.int v]/\1<=H/\H<=60/\v<=(ch H (H / 2):Int)/\∀h:Nat,1<=h->h<=H->v<=(ch h (h / 2):Int)->(∀k:Nat,1<=k->k<h->(ch k (k / 2):Int)<v)->R (.int h)
section
variable{P:Bj}{w:World}{K:PySem.W.Frag}{mg:Str->Option Value}{base:Heap}
theorem Wt:FnScope ["values", "holes"] ["values"] (Cc Mt):=⟨rfl,rfl,rfl,by decide +kernel,rfl,by decide +kernel,by decide +kernel⟩
theorem Wy{f f_choose  : Addr}{fd d_choose:Co}(F:Fun K "fewest_holes" "fewest_holes" Mt f fd)(G_choose:FnOk P w K mg base Jv 1 f_choose d_choose ["n", "k"] (Nj K (Tq)))(b_choose:Binds K d_choose ["n", "k"] [])(k_choose:PySem.W.keepIn K (.ref f_choose)=true)(m_choose:mg "choose" = some (.ref f_choose)):FnOk P w K mg base Jv 2 f fd ["values"] (Nj K (sF)):=by
 refine' Hr (k:=1) F Wt (λcdv A outer s H E hr=>?hb) ?h
 case hb =>
  have hr1:Room 1 _:=hr.mono (by decide)
  have hu64:=hr.units
  exact Ck (Hu (i:=1) Wt.nd rfl (Dd rfl) Ci)
   (Ck (gE Dn (iI (Fn G_choose hr1 rfl m_choose k_choose b_choose Hd (Ao (Av (pv 1)) (Ao (Oc (Av (pv 1)) Ci) Bi))) (Av (pv 0)))
   (Cw (mZ (i:=1) Wt.nd rfl (Dd rfl) Ci)))
   (Cw (Er (Pd (Av (pv 1))))))
 case h =>
  (intro ds R q_; obtain ⟨v,H,rfl,H1,H2,hv,hR⟩ := q_)
  refine ⟨rfl,?_⟩
  array_get_dec
  refine tQ (λδ=>∃h:Nat,δ=⟨[.dat .sh (.int v),.dat .sh (.int h)],0⟩/\1<=h/\h<=H/\∀k:Nat,1<=k->k<h->(ch k (k / 2):Int)<v) (λδ=>H - u5 1 δ) ⟨1,rfl,by omega,by omega,λk k1 k2=>by omega⟩ ?_
  (intro _ q_; obtain ⟨h,rfl,h1,h2,hk⟩ := q_)
  array_get_dec
  refine ⟨h,(h:Int) / 2,rfl,by omega,by omega,by omega,?_⟩
  rw[Di,show ((h:Int) / 2).toNat=h / 2 by omega]
  array_get_dec
  refine A9 (λhb=>?_) (λhb=>?_)
  ·have hb:=of_decide_eq_true hb
   array_get_dec
   have hH:h≠H:=λz=>by rw[z] at hb; omega
   refine ⟨⟨h+1,by rw[show ((h+1:Nat):Int)=(h:Int)+1 by omega],by omega,by omega,λk k1 k2=>?_⟩,?_⟩
   ·by_cases z:k=h
    ·rw[z]; exact hb
    ·exact hk k k1 (by omega)
   ·show H - ((h:Int)+1).toNat<H - (h:Int).toNat
    omega
  ·have hb:=of_decide_eq_false hb
   array_get_dec
   exact hR h h1 h2 (by omega) hk
end
def Gq(c:List (List Int)):Af:=.list (c.map Bt)
def Nr(C:List (List (List Int))):Af:=.list (C.map Gq)
def mY(w u:List Int):Bool:=w.all λi=>decide (i∈u)
theorem CS{w u:List Int}:mY w u=true↔∀i∈w,i∈u:=by
 unfold mY
 rw[List.all_eq_true]
 simp
def Mz(c:List (List Int)):List Int:=c.getLastD []
def aB(c:List (List Int))(p:Int):List (List Int):=c.dropLast.map λw=>w++[p]
def Fp(c:List (List Int))(p:Int):List (List (List Int)):=if aB c p=[] then [c++[Mz c++[p]]] else [c++[Mz c++[p]],aB c p]
def Gd:Nat->List (List (List Int))
 | 0=>[[[]]]
 | n+1=>(Gd n).flatMap λc=>Fp c n
structure Cov(h:Nat)(C:List (List (List Int))):Prop where
 cover:∀w,Ic h w->∃c∈C,w∈c
 chain:∀c∈C,c.Pairwise λx y=>mY x y=true
 words:∀c∈C,∀w∈c,Ic h w
 ne:∀c∈C,c≠[]
 len:∀c∈C,c.length<=h+1
 nd:∀c∈C,c.Nodup
theorem oM{c:List (List Int)}{w:List Int}(h:w∈c):w=Mz c\/w∈c.dropLast:=by
 have ne:c≠[]:=λz=>by rw[z] at h; cases h
 have e:=Cq ne
 rw[<- e] at h
 rcases Ay.mp h with h | h
 ·exact .inr h
 ·refine .inl ?_
  unfold Mz
  rw[Hj,Gj ne]
  exact Ae.mp h
theorem dZ{c:List (List Int)}(ne:c≠[]):Mz c∈c:=by
 unfold Mz
 rw[Hj,Gj ne]
 exact Py ne
theorem vL{c:List (List Int)}(hp:c.Pairwise λx y=>mY x y=true){w:List Int}(h:w∈c):mY w (Mz c)=true:=by
 rcases oM h with rfl | hd
 ·exact CS.mpr λ_ z=>z
 have ne:c≠[]:=λz=>by rw[z] at h; cases h
 have e:=Cq ne
 rw[<- e] at hp
 have:=(Cg.mp hp).2.2 w hd _ (Ae.mpr rfl)
 have e2:Mz c=c.getLast ne:=by
  unfold Mz
  rw[Hj,Gj ne]
  rfl
 rw[e2]
 exact this
theorem dR{x y:List Int}{p:Int}(h:mY x y=true):mY x (y++[p])=true/\mY (x++[p]) (y++[p])=true:=by
 have h:=CS.mp h
 refine ⟨CS.mpr λi hi=>An _ (h i hi),CS.mpr λi hi=>?_⟩
 rcases Ay.mp hi with hi | hi
 ·exact An _ (h i hi)
 ·exact Ag _ hi
theorem Mp{n:Nat}{w:List Int}(h:Ic n w):Ic ((n+1:Nat):Int) w/\Ic ((n+1:Nat):Int) (w++[(n:Int)]):=by
 refine ⟨⟨h.1,λi hi=>by have:=h.2 i hi; omega⟩,Cg.mpr ⟨h.1,El ..,λa ha b hb=>?_⟩,λi hi=>?_⟩
 ·rw[Ae.mp hb]; exact (h.2 a ha).2
 ·rcases Ay.mp hi with hi | hi
  ·have:=h.2 i hi; omega
  ·rw[Ae.mp hi]; omega
theorem uA{n:Nat}{w:List Int}(h:Ic ((n+1:Nat):Int) w):Ic n w\/∃u,Ic n u/\w=u++[(n:Int)]:=by
 by_cases z:(n:Int)∈w
 ·right
  have ne:w≠[]:=λe=>by rw[e] at z; cases z
  have e:=Cq ne
  have hp:=h.1
  rw[<- e] at hp
  obtain ⟨p1,_,p3⟩:=Cg.mp hp
  have el:w.getLast ne=(n:Int):=by
   have m:=Py ne
   have b:=h.2 _ m
   rw[<- e] at z
   rcases Ay.mp z with z | z
   ·have:=p3 _ z _ (Ae.mpr rfl); omega
   ·exact (Ae.mp z).symm
  refine ⟨w.dropLast,⟨p1,λi hi=>?_⟩,by rw[<- el]; exact e.symm⟩
  have:=p3 i hi _ (Ae.mpr rfl)
  rw[el] at this
  exact ⟨(h.2 i (Jy _ hi)).1,this⟩
 ·left
  refine ⟨h.1,λi hi=>?_⟩
  have:=h.2 i hi
  have : i≠(n:Int):=λq=>z (by rw[<- q]; exact hi)
  omega
theorem xQ{n:Nat}{C:List (List (List Int))}(h:Cov n C):Cov (n+1) (C.flatMap λc=>Fp c n):=by
 have two:∀c∈C,∀d,d∈Fp c n↔d=c++[Mz c++[(n:Int)]]\/(d=aB c n/\aB c n≠[]):=λc _ d=>by
  unfold Fp
  by_cases z:aB c n=[]
  ·rw[if_pos z]
   simp [z]
  ·rw[if_neg z]
   simp [z]
 refine ⟨λw hw=>?_,λd hd=>?_,λd hd w hw=>?_,λd hd=>?_,λd hd=>?_,λd hd=>?_⟩
 ·rcases uA hw with hw | ⟨u,hu,rfl⟩
  ·obtain ⟨c,hc,hwc⟩:=h.cover w hw
   exact ⟨_,Du.mpr ⟨c,hc,(two c hc _).mpr (.inl rfl)⟩,An _ hwc⟩
  ·obtain ⟨c,hc,huc⟩:=h.cover u hu
   rcases oM huc with rfl | hd
   ·exact ⟨_,Du.mpr ⟨c,hc,(two c hc _).mpr (.inl rfl)⟩,Ag _ (Ae.mpr rfl)⟩
   ·have hm:u++[(n:Int)]∈aB c n:=List.mem_map_of_mem hd
    exact ⟨_,Du.mpr ⟨c,hc,(two c hc _).mpr (.inr ⟨rfl,λz=>by rw[z] at hm; cases hm⟩)⟩,hm⟩
 ·obtain ⟨c,hc,hd⟩:=Du.mp hd
  rcases (two c hc d).mp hd with rfl | ⟨rfl,_⟩
  ·refine Cg.mpr ⟨h.chain c hc,El ..,λx hx y hy=>?_⟩
   rw[Ae.mp hy]
   exact (dR (vL (h.chain c hc) hx)).1
  ·refine Xa.mpr (((h.chain c hc).sublist (List.dropLast_sublist c)).imp λq=>(dR q).2)
 ·obtain ⟨c,hc,hd⟩:=Du.mp hd
  rcases (two c hc d).mp hd with rfl | ⟨rfl,_⟩
  ·rcases Ay.mp hw with hw | hw
   ·exact (Mp (h.words c hc w hw)).1
   ·rw[Ae.mp hw]
    exact (Mp (h.words c hc _ (dZ (h.ne c hc)))).2
  ·obtain ⟨u,hu,rfl⟩:=Cs.mp hw
   exact (Mp (h.words c hc u (Jy _ hu))).2
 ·obtain ⟨c,hc,hd⟩:=Du.mp hd
  rcases (two c hc d).mp hd with rfl | ⟨rfl,z⟩
  ·simp
  ·exact z
 ·obtain ⟨c,hc,hd⟩:=Du.mp hd
  have:=h.len c hc
  rcases (two c hc d).mp hd with rfl | ⟨rfl,z⟩
  ·rw[Ax,Eu]; omega
  ·unfold aB; rw[Ac,Td]; omega
 ·obtain ⟨c,hc,hd⟩:=Du.mp hd
  rcases (two c hc d).mp hd with rfl | ⟨rfl,z⟩
  ·refine Et.mpr ⟨h.nd c hc,Bs.mpr ⟨Bk,Ee⟩,λx hx y hy e=>?_⟩
   rw[Ae.mp hy] at e
   have:=(h.words c hc x hx).2 (n:Int) (by rw[e]; exact Ag _ (Ae.mpr rfl))
   omega
  ·exact fB ((h.nd c hc).sublist (List.dropLast_sublist c)) λx _ y _ e=>iY e
theorem Mv:∀n,Cov n (Gd n)
 | 0=>by
  refine ⟨λw hw=>⟨[[]],Ae.mpr rfl,?_⟩,λc hc=>?_,λc hc w hw=>?_,λc hc=>?_,λc hc=>?_,λc hc=>?_⟩
  ·cases w with
   | nil=>exact Ae.mpr rfl
   | cons x w=>have:=hw.2 x Aa; omega
  all_goals rw[Ae.mp hc] at *
  ·exact El ..
  ·rw[Ae.mp hw]; exact ⟨Do,λ_ z=>(nomatch z)⟩
  ·simp
  ·simp
  ·simp
 | n+1=>xQ (Mv n)
theorem Zs:∀n,(Gd n).length<=2 ^ n
 | 0=>by simp [Gd]
 | n+1=>by
  have ih:=Zs n
  have : ∀C:List (List (List Int)),(C.flatMap λc=>Fp c n).length<=2 * C.length:=by
   intro C
   induction C with
   | nil=>simp
   | cons c C ihc =>
    rw[Jm,Ax,Bf]
    have : (Fp c n).length<=2:=by
     unfold Fp
     split <;> simp
    omega
  have:=this (Gd n)
  show ((Gd n).flatMap λc=>Fp c n).length<=_
  rw[Rx]
  omega
theorem L9{α:Type}(xs:List α):Lr xs none (some (-1))=xs.dropLast:=by
 unfold Lr HT.sIx
 rw[List.dropLast_eq_take]
 simp only[Te]
 congr 1
 by_cases z:xs.length=0
 ·simp [z]
 ·have : ¬ ((xs.length:Int) + -1<0):=by omega
  simp
  omega
theorem M8{c:List (List Int)}(ne:c≠[]):c.map Bt=c.dropLast.map Bt++[Bt (Mz c)]:=by
 have e:=Cq ne
 have e2:Mz c=c.getLast ne:=by
  unfold Mz
  rw[Hj,Gj ne]
  rfl
 rw[e2]
 conv=>lhs; rw[<- e]
 rw[Cu]
 rfl
def intD:Af->Int
 | .int i=>i
 | _=>0
def R6:Af->List Int
 | .tuple ds=>ds.map intD
 | _=>[]
def zN:Af->List (List Int)
 | .list ds=>ds.map R6
 | _=>[]
theorem oO(c:List (List Int)):zN (Gq c)=c:=by
 show (c.map Bt).map R6=c
 rw[Da]
 refine (Gn λw _=>?_).trans (List.map_id c)
 show (w.map Br).map intD=w
 rw[Da]
 exact List.map_id w
theorem bE(a:Nat):((Gd a).map Gq).flatMap (λd=>(Fp (zN d) a).map Gq)=(Gd (a+1)).map Gq:=by
 rw[List.flatMap_map]
 show _=((Gd a).flatMap λc=>Fp c a).map Gq
 rw[List.map_flatMap]
 simp only[oO]
def oA:PF:=λds R=>∃(c:List (List Int)) (p:Int),ds=[Gq c,.int p]/\c≠[]/\c.length<=100/\(∀w∈c,w.length<=100)/\R (Nr (Fp c p))
def fE:PF:=λds R=>∃h:Int,ds=[.int h]/\1<=h/\h<=10/\R (Nr (Gd h.toNat))
section
variable{P:Bj}{w:World}{K:PySem.W.Frag}{mg:Str->Option Value}{base:Heap}
theorem vM:FnScope ["chain", "place", "longer", "shorter"] ["chain", "place"] (Cc Xf):=⟨rfl,rfl,rfl,by decide +kernel,rfl,by decide +kernel,by decide +kernel⟩
theorem uY{f   : Addr}{fd  : Co}(F:Fun K "grown" "grown" Xf f fd):FnOk P w K mg base Jv 1 f fd ["chain", "place"] (Nj K (oA)):=by
 refine' Hr (k:=0) F vM (λcdv A outer s H E hr=>?hb) ?h
 case hb =>
  have hu64:=hr.units
  have CS1:∀{scope:Scope} (h:scope={ kind:=.function,names:=[(".0",.local),("word",.local),("place",.free)],isGenerator:=false,isCoroutine:=false }),
    CompScope (Sa Jv P w K mg base ["chain", "place", "longer", "shorter"] "grown" (Cc Xf) f cdv A outer s H E).nox scope [("place",s.heap.objs.size+1)] "word" ["place"] [1]:=by
   rintro scope rfl
   refine ⟨by rfl,.inl (by decide +kernel),by rfl,by decide +kernel,.inl rfl,λy c h=>?_,by rfl,by decide +kernel,rfl,λk y j e1 e2=>?_⟩
   ·have z:=Gf h
    simp only[Am,Bk,or_false,Ir] at z
    obtain ⟨rfl,rfl⟩:=z; rfl
   ·match k,e1,e2 with
    | 0,e1,e2=>cases e1; cases e2; exact ⟨rfl,rfl,by first | exact .inl rfl | exact .inr rfl⟩
    | k+1,e1,e2=>cases e1
  exact Ck (Xl (i:=2) vM.nd rfl (Dd rfl) (eJ (Av (pv 0)) (Le (Ao (cQ (Vo (Av (pv 0)) (xM Ci)) (Pc (Ao (Pd (Av (pv 1))) Bi))) Bi))))
   (Ck (yV (o:=true) (i0:=3) vM.nd rfl rfl (CS1 rfl) rfl (Q7 (fO (i:=true) (Av (pv 0)) Xy (Ym (xM Ci)))) (λ_ _ _=>Yd) (λ_ _ _=>cQ (Av (pv 0)) (Pc (Ao (Pd (Av (pv 1))) Bi))))
   (Cw (Er (C9 (xN (Av (pv 3))) (Le (Ao (eE (pv 2)) (Ao (eE (pv 3)) Bi))) (Le (Ao (eE (pv 2)) Bi))))))
 case h =>
  (intro ds R q_; obtain ⟨c,p,rfl,ne,lc,lw,hR⟩ := q_)
  refine ⟨rfl,?_⟩
  unfold Gq
  array_get_dec
  refine ⟨Bt (Mz c),by rw[M8 ne]; exact iP _ _,?_⟩
  array_get_dec
  rw[L9]
  have lt:=lw _ (dZ ne)
  refine ⟨by rw[Ac]; omega,by rw[Ac]; omega,?_⟩
  refine vA (l:=c.dropLast) (g:=Bt) (by rw[List.map_dropLast]) (λw=>Bt (w++[p])) (λw hw yes no hy=>?_) ?_
  ·have:=lw w (Jy _ hw)
   array_get_dec
   refine ⟨by rw[Ac]; omega,?_⟩
   rw[show PyData.tuple (w.map Br++[.int p])=Bt (w++[p]) by unfold Bt; rw[Cu]; rfl]
   exact hy
  array_get_dec
  have eL:Fz (c.map Bt++[.tuple ((Mz c).map Br++[.int p])])=Gq (c++[Mz c++[p]]):=by
   unfold Gq Bt
   rw[Cu,Bh,Cu]
   rfl
  have eS:Fz (c.dropLast.map λw=>Bt (w++[p]))=Gq (aB c p):=by
   unfold Gq aB
   rw[Da]
   rfl
  rw[eL,eS]
  refine T8 (λhb=>?_) (λhb=>?_)
  ·have ne2:aB c p≠[]:=λz=>by rw[z] at hb; cases hb
   have e:Fp c p=[c++[Mz c++[p]],aB c p]:=if_neg ne2
   rw[e] at hR
   array_get_dec
   exact hR
  ·have e2:aB c p=[]:=by
    cases q:aB c p with
    | nil=>rfl
    | cons x l=>rw[q] at hb; cases hb
   have e:Fp c p=[c++[Mz c++[p]]]:=if_pos e2
   rw[e] at hR
   array_get_dec
   exact hR
theorem rE:FnScope ["holes", "told", "place"] ["holes"] (Cc Tw):=⟨rfl,rfl,rfl,by decide +kernel,rfl,by decide +kernel,by decide +kernel⟩
theorem rJ{f f_grown  : Addr}{fd d_grown:Co}(F:Fun K "chains" "chains" Tw f fd)(G_grown:FnOk P w K mg base Jv 1 f_grown d_grown ["chain", "place"] (Nj K (oA)))(b_grown:Binds K d_grown ["chain", "place"] [])(k_grown:PySem.W.keepIn K (.ref f_grown)=true)(m_grown:mg "grown" = some (.ref f_grown))(mz_range:mg "range" = none):FnOk P w K mg base Jv 2 f fd ["holes"] (Nj K (fE)):=by
 refine' Hr (k:=1) F rE (λcdv A outer s H E hr=>?hb) ?h
 case hb =>
  have hr1:Room 1 _:=hr.mono (by decide)
  have hu64:=hr.units
  have CS1:∀{scope:Scope} (h:scope={ kind:=.function,names:=[(".0",.local),("old",.local),("chain",.local),("grown",.globalImplicit),("place",.free)],isGenerator:=false,isCoroutine:=false }),
    CompScope (Sa Jv P w K mg base ["holes", "told", "place"] "chains" (Cc Tw) f cdv A outer s H E).nox scope [("place",s.heap.objs.size+1)] "old" ["place"] [2]:=by
   rintro scope rfl
   refine ⟨by rfl,.inl (by decide +kernel),by rfl,by decide +kernel,.inl rfl,λy c h=>?_,by rfl,by decide +kernel,rfl,λk y j e1 e2=>?_⟩
   ·have z:=Gf h
    simp only[Am,Bk,or_false,Ir] at z
    obtain ⟨rfl,rfl⟩:=z; rfl
   ·match k,e1,e2 with
    | 0,e1,e2=>cases e1; cases e2; exact ⟨rfl,rfl,by first | exact .inl rfl | exact .inr rfl⟩
    | k+1,e1,e2=>cases e1
  exact Ck (Xl (i:=1) rE.nd rfl (Dd rfl) (Le (Ao (Le (Ao (Pc Bi) Bi)) Bi)))
   (Ck (Nf Dn rfl (Rm rfl mz_range (Ao (Av (pv 0)) Bi)) (Iy (i:=2) rE.nd rfl (Or.inr rfl))
   (Cw (jF (o:=true) (i0:=1) (i:=1) (p:=2) rE.nd rfl rfl (CS1 rfl) (.inl rfl) (by decide +kernel) rfl (pv 1) (λ_ _ _=>Xj G_grown hr1 rfl m_grown k_grown b_grown .nil Hd (Fi (pv 0) (Fi (pv 2) Iq))) (λ_ _ _=>pv 1))))
   (Cw (Er (oR (pv 1)))))
 case h =>
  (intro ds R q_; obtain ⟨h,rfl,h0,h1,hR⟩ := q_)
  refine ⟨rfl,?_⟩
  array_get_dec
  refine ⟨by omega,by omega,?_⟩
  refine Yk (l:=Bc h.toNat) (g:=λi:Nat=>.int i) rfl (λi δ=>∃v2:DV,δ=⟨[.dat .sh (.int h),.dat .ow (Nr (Gd i)),v2],0⟩/\NP v2) ?_ ?_ ?_
  ·exact ⟨_,rfl,Iz⟩
  ·(intro i a _ ha q_; obtain ⟨v2,rfl,hv2⟩ := q_)
   obtain ⟨rfl,hi⟩:=gB ha
   have cv:=Mv a
   have cl:=Zs (a+1)
   have p3:2 ^ (a+1)<=2 ^ 10:=Mr (by decide) (by omega)
   array_get_dec
   refine ⟨.ow,.sh,(Gd a).map Gq,a,λd=>(Fp (zN d) a).map Gq,rfl,rfl,λd hd=>?_,?_,?_⟩
   ·obtain ⟨c,hc,rfl⟩:=Cs.mp hd
    have hl:=cv.len c hc
    refine ⟨c,a,rfl,cv.ne c hc,by omega,λw hw=>?_,?_⟩
    ·have:=kN ((cv.words c hc w hw).up (show ((a:Nat):Int)<=60 by omega))
     omega
    ·show Nr (Fp c a)=.list ((Fp (zN (Gq c)) a).map Gq)
     rw[oO]
     rfl
   ·rw[bE,Ac]
    omega
   ·rw[bE]
    array_get_dec
    exact ⟨_,rfl,Hz⟩
  ·(intro _ q_; obtain ⟨v2,rfl,hv2⟩ := q_)
   rw[Cb]
   array_get_dec
   exact hR
end
def sN:PF:=λds R=>∃h:Int,ds=[.int h]/\1<=h/\h<=10/\R (.tuple [.list ((cw h.toNat 0 (h / 2).toNat).map Bt),Nr (Gd h.toNat)])
section
variable{P:Bj}{w:World}{K:PySem.W.Frag}{mg:Str->Option Value}{base:Heap}
theorem zQ:FnScope ["holes"] ["holes"] (Cc jZ):=⟨rfl,rfl,rfl,by decide +kernel,rfl,by decide +kernel,by decide +kernel⟩
theorem zG{f f_words_of f_chains  : Addr}{fd d_words_of d_chains:Co}(F:Fun K "most" "most" jZ f fd)(G_words_of:FnOk P w K mg base Jv 3 f_words_of d_words_of ["holes", "many"] (Nj K (bM)))(b_words_of:Binds K d_words_of ["holes", "many"] [])(k_words_of:PySem.W.keepIn K (.ref f_words_of)=true)(m_words_of:mg "words_of" = some (.ref f_words_of))(G_chains:FnOk P w K mg base Jv 2 f_chains d_chains ["holes"] (Nj K (fE)))(b_chains:Binds K d_chains ["holes"] [])(k_chains:PySem.W.keepIn K (.ref f_chains)=true)(m_chains:mg "chains" = some (.ref f_chains)):FnOk P w K mg base Jv 4 f fd ["holes"] (Nj K (sN)):=by
 refine' Hr (k:=3) F zQ (λcdv A outer s H E hr=>?hb) ?h
 case hb =>
  have hr1:Room 1 _:=hr.mono (by decide)
  have hr2:Room 2 _:=hr.mono (by decide)
  have hr3:Room 3 _:=hr.mono (by decide)
  have hu64:=hr.units
  exact Cw (Er (Pc (Ao (Fn G_words_of hr3 rfl m_words_of k_words_of b_words_of Hd (Ao (Av (pv 0)) (Ao (Oc (Av (pv 0)) Ci) Bi))) (Ao (Fn G_chains hr2 rfl m_chains k_chains b_chains Hd (Ao (Av (pv 0)) Bi)) Bi))))
 case h =>
  (intro ds R q_; obtain ⟨h,rfl,h0,h1,hR⟩ := q_)
  refine ⟨rfl,?_⟩
  array_get_dec
  refine ⟨h,h / 2,rfl,by omega,by omega,by omega,?_⟩
  array_get_dec
  refine ⟨h,rfl,by omega,by omega,?_⟩
  array_get_dec
  exact hR
end
structure Chn(h:Int)(c:List (List Int)):Prop where
 ne:c≠[]
 words:∀w∈c,Ic h w
 adj:∀p∈c.zip c.tail,p.2.length=p.1.length+1/\mY p.1 p.2=true
 len:c.length<=100
theorem S5(c:List (List Int)):(((c.map Bt).zip (Lr (c.map Bt) (some 1) none)).map λp=>PyData.tuple [p.1,p.2])=(c.zip c.tail).map λp=>.tuple [Bt p.1,Bt p.2]:=by
 rw[show Lr (c.map Bt) (some 1) none=(c.map Bt).drop 1 from DRow.cutG_from (c.map Bt) 1,List.drop_one,<- List.map_tail,List.zip_map,Da]
 rfl
theorem iZ{C:List (List (List Int))}{i:Nat}{c:List (List Int)}(h:C[i]? = some c):(C.take (i+1)).flatten=(C.take i).flatten++c:=by
 obtain ⟨hi,e⟩:=Ap.mp h
 rw[Fg hi,Uv,e]
 simp
theorem rZ(C:List (List (List Int)))(i:Nat):(C.take i).flatten.length<=C.flatten.length:=by
 conv=>rhs; rw[<- Fo i C,Uv,Ax]
 omega
def mR:PF:=λds R=>∃i:Int,ds=[.int i]/\R (.bool true)
def gP:PF:=λds R=>∃(h:Int) (w:List Int),ds=[.int h,Bt w]/\Ic h w/\R (.bool true)
def aZ:PF:=λds R=>∃(h:Int) (c:List (List Int)),ds=[.int h,Gq c]/\Chn h c/\R (.bool true)
def mO:PF:=λds R=>∃(h:Int) (C:List (List (List Int))),ds=[.int h,Nr C]/\0<=h/\h<=11/\(∀c∈C,Chn h c)/\C.flatten.length<=1100/\C.flatten.Nodup/\R (.bool (decide (C.flatten.length=2 ^ h.toNat)))
section
variable{P:Bj}{w:World}{K:PySem.W.Frag}{mg:Str->Option Value}{base:Heap}
theorem iM:FnScope ["thing"] ["thing"] (Cc Ss):=⟨rfl,rfl,rfl,by decide +kernel,rfl,by decide +kernel,by decide +kernel⟩
theorem fQ{f   : Addr}{fd  : Co}(F:Fun K "is_whole" "is_whole" Ss f fd)(mz_bool:mg "bool" = none)(mz_isinstance:mg "isinstance" = none)(mz_int:mg "int" = none):FnOk P w K mg base Jv 1 f fd ["thing"] (Nj K (mR)):=by
 refine' Hr (k:=0) F iM (λcdv A outer s H E hr=>?hb) ?h
 case hb =>
  have hu64:=hr.units
  exact Cw (Er (uM (Eg Qh Qk rfl mz_isinstance (by decide +kernel) (Ao (Av (pv 0)) (Ao (Wh (n := "int") rfl mz_int (by decide +kernel)) Bi))) (wK (F9 (Eg Qh Qk rfl mz_isinstance (by decide +kernel) (Ao (Av (pv 0)) (Ao (Wh (n := "bool") rfl mz_bool (by decide +kernel)) Bi)))))))
 case h =>
  (intro ds R q_; obtain ⟨i,rfl,hR⟩ := q_)
  refine ⟨rfl,?_⟩
  array_get_dec
  exact hR
theorem kU:FnScope ["holes", "thing", "least", "place"] ["holes", "thing"] (Cc Vn):=⟨rfl,rfl,rfl,by decide +kernel,rfl,by decide +kernel,by decide +kernel⟩
theorem lM{f f_is_whole  : Addr}{fd d_is_whole:Co}(F:Fun K "is_word" "is_word" Vn f fd)(G_is_whole:FnOk P w K mg base Jv 1 f_is_whole d_is_whole ["thing"] (Nj K (mR)))(b_is_whole:Binds K d_is_whole ["thing"] [])(k_is_whole:PySem.W.keepIn K (.ref f_is_whole)=true)(m_is_whole:mg "is_whole" = some (.ref f_is_whole))(mz_tuple:mg "tuple" = none)(mz_isinstance:mg "isinstance" = none):FnOk P w K mg base Jv 2 f fd ["holes", "thing"] (Nj K (gP)):=by
 refine' Hr (k:=1) F kU (λcdv A outer s H E hr=>?hb) ?h
 case hb =>
  have hr1:Room 1 _:=hr.mono (by decide)
  have hu64:=hr.units
  exact Ck (Lq (Mx (Lf (Eg Qh Qk rfl mz_isinstance (by decide +kernel) (Ao (Av (pv 1)) (Ao (Wh (n := "tuple") rfl mz_tuple (by decide +kernel)) Bi)))))
   (Cw (Er Ky)) Ju)
   (Ck (Hu (i:=2) kU.nd rfl (Dd rfl) Ci)
   (Ck (Nf Dn rfl (BU (Av (pv 1))) (Iy (i:=3) kU.nd rfl (Dd rfl))
   (Ck (Lq (cP (Qu (Mx (Lf (Fn G_is_whole hr1 rfl m_is_whole k_is_whole b_is_whole Hd (Ao (Av (pv 3)) Bi)))) (Qu (iI (Av (pv 3)) (Av (pv 2))) (Qo (vC (Av (pv 3)) (Av (pv 0)))))))
    (Cw (Er Ky)) Ju)
    (Cw (Hu (i:=2) kU.nd rfl (Dd rfl) (Lx (Av (pv 3)) Ci)))))
   (Cw (Er Ky))))
 case h =>
  (intro ds R q_; obtain ⟨h,w,rfl,rw,hR⟩ := q_)
  refine ⟨rfl,?_⟩
  array_get_dec
  refine Yk (l:=w) (g:=Br) rfl (λi δ=>∃(l:Int) (v:DV),δ=⟨[.dat .sh (.int h),.dat .sh (Bt w),.dat .sh (.int l),v],0⟩/\NP v/\∀(j:Nat) (x:Int),i<=j->w[j]? = some x->l<=x) ?_ ?_ ?_
  ·exact ⟨_,_,rfl,Iz,λj x _ hx=>(rw.2 x (Ba hx)).1⟩
  ·(intro i x _ hx q_; obtain ⟨l,v,rfl,hv,hl⟩ := q_)
   have b:=rw.2 x (Ba hx)
   have hlx:=hl i x (Ah _) hx
   array_get_dec
   refine ⟨x,rfl,?_⟩
   array_get_dec
   refine lY (λq=>absurd (of_decide_eq_true q) (by omega)) (λ_=>?_)
   array_get_dec
   refine Wd (λq=>absurd (of_decide_eq_true q) (by omega)) (λ_=>?_)
   array_get_dec
   refine ⟨_,_,rfl,Hz,λj y hj hy=>?_⟩
   obtain ⟨i1,i2⟩:=Ap.mp hx
   obtain ⟨j1,j2⟩:=Ap.mp hy
   have:=Dz.mp rw.1 i j i1 j1 (by omega)
   omega
  ·(intro _ q_; obtain ⟨l,v,rfl,hv,hl⟩ := q_)
   array_get_dec
   exact hR
theorem fI:FnScope ["holes", "thing", "word", "lower", "upper"] ["holes", "thing"] (Cc Tb):=⟨rfl,rfl,rfl,by decide +kernel,rfl,by decide +kernel,by decide +kernel⟩
theorem hX{f f_is_word f_within  : Addr}{fd d_is_word d_within:Co}(F:Fun K "is_chain" "is_chain" Tb f fd)(G_is_word:FnOk P w K mg base Jv 2 f_is_word d_is_word ["holes", "thing"] (Nj K (gP)))(b_is_word:Binds K d_is_word ["holes", "thing"] [])(k_is_word:PySem.W.keepIn K (.ref f_is_word)=true)(m_is_word:mg "is_word" = some (.ref f_is_word))(G_within:FnOk P w K mg base Jv 1 f_within d_within ["one", "other"] (Nj K (C6)))(b_within:Binds K d_within ["one", "other"] [])(k_within:PySem.W.keepIn K (.ref f_within)=true)(m_within:mg "within" = some (.ref f_within))(mz_len:mg "len" = none)(mz_list:mg "list" = none)(mz_isinstance:mg "isinstance" = none)(mz_zip:mg "zip" = none):FnOk P w K mg base Jv 3 f fd ["holes", "thing"] (Nj K (aZ)):=by
 refine' Hr (k:=2) F fI (λcdv A outer s H E hr=>?hb) ?h
 case hb =>
  have hr1:Room 1 _:=hr.mono (by decide)
  have hr2:Room 2 _:=hr.mono (by decide)
  have hu64:=hr.units
  exact Ck (Lq (cP (Qu (Mx (Lf (Eg Qh Qk rfl mz_isinstance (by decide +kernel) (Ao (Av (pv 1)) (Ao (Wh (n := "list") rfl mz_list (by decide +kernel)) Bi))))) (Qo (AF hu64 (Eg Jh Nb rfl mz_len (by decide +kernel) (Ao (Av (pv 1)) Bi)) Ci))))
   (Cw (Er Ky)) Ju)
   (Ck (Nf Dn rfl (Q7 (Av (pv 1))) (Iy (i:=2) fI.nd rfl (Dd rfl))
   (Cw (Lq (Mx (Lf (Fn G_is_word hr2 rfl m_is_word k_is_word b_is_word Hd (Ao (Av (pv 0)) (Ao (Av (pv 2)) Bi)))))
    (Cw (Er Ky)) Ju)))
   (Ck (Nf Dn rfl (L8 rfl mz_zip (Ao (Av (pv 1)) (Ao (fO (i:=true) (Av (pv 1)) (Ym Ci) Xy) Bi))) (cJ (n:=2) rfl (Lp (Iy (i:=3) fI.nd rfl (Dd rfl)) (Lp (Iy (i:=4) fI.nd rfl (Dd rfl)) Xq)))
   (Cw (Lq (cP (Qu (Um hu64 (Eg Jh Nb rfl mz_len (by decide +kernel) (Ao (Av (pv 4)) Bi)) (Lx (Eg Jh Nb rfl mz_len (by decide +kernel) (Ao (Av (pv 3)) Bi)) Ci)) (Qo (Mx (Lf (Fn G_within hr1 rfl m_within k_within b_within Hd (Ao (Av (pv 3)) (Ao (Av (pv 4)) Bi))))))))
    (Cw (Er Ky)) Ju)))
   (Cw (Er Ky))))
 case h =>
  (intro ds R q_; obtain ⟨h,c,rfl,hc,hR⟩ := q_)
  refine ⟨rfl,?_⟩
  unfold Gq
  array_get_dec
  have l0:0<c.length:=Uu.mpr hc.ne
  refine Wd (λq=>absurd (of_decide_eq_true q) (by rw[Ac]; omega)) (λ_=>?_)
  array_get_dec
  refine Yk (l:=c) (g:=Bt) rfl (λi δ=>∃v2 v3 v4:DV,δ=⟨[.dat .sh (.int h),.dat .sh (.list (c.map Bt)),v2,v3,v4],0⟩/\NP v2/\NP v3/\NP v4) ?_ ?_ ?_
  ·exact ⟨_,_,_,rfl,Iz,Iz,Iz⟩
  ·(intro i w _ hw q_; obtain ⟨v2,v3,v4,rfl,hv2,hv3,hv4⟩ := q_)
   array_get_dec
   refine ⟨h,w,rfl,hc.words w (Ba hw),?_⟩
   array_get_dec
   exact ⟨_,_,_,rfl,Hz,hv3,hv4⟩
  ·(intro _ q_; obtain ⟨v2,v3,v4,rfl,hv2,hv3,hv4⟩ := q_)
   array_get_dec
   rw[S5]
   refine Yk (l:=c.zip c.tail) (g:=λp=>.tuple [Bt p.1,Bt p.2]) rfl (λi δ=>∃v2 v3 v4:DV,δ=⟨[.dat .sh (.int h),.dat .sh (.list (c.map Bt)),v2,v3,v4],0⟩/\NP v2/\NP v3/\NP v4) ?_ ?_ ?_
   ·exact ⟨_,_,_,rfl,hv2,hv3,hv4⟩
   ·(intro i p _ hp q_; obtain ⟨v2,v3,v4,rfl,hv2,hv3,hv4⟩ := q_)
    obtain ⟨a1,a2⟩:=hc.adj p (Ba hp)
    array_get_dec
    refine lY (λq=>?_) (λ_=>?_)
    ·rw[Ac,Ac] at q
     exact absurd q (by simp; omega)
    array_get_dec
    refine ⟨p.1,p.2,rfl,?_⟩
    rw[show sub p.1 p.2=true from a2]
    array_get_dec
    exact ⟨_,_,_,rfl,hv2,Hz,Hz⟩
   ·(intro _ q_; obtain ⟨v2,v3,v4,rfl,hv2,hv3,hv4⟩ := q_)
    exact hR
theorem aG:FnScope ["holes", "thing", "words", "chain"] ["holes", "thing"] (Cc Pg):=⟨rfl,rfl,rfl,by decide +kernel,rfl,by decide +kernel,by decide +kernel⟩
theorem aJ{f f_is_chain  : Addr}{fd d_is_chain:Co}(F:Fun K "shows_most" "shows_most" Pg f fd)(G_is_chain:FnOk P w K mg base Jv 3 f_is_chain d_is_chain ["holes", "thing"] (Nj K (aZ)))(b_is_chain:Binds K d_is_chain ["holes", "thing"] [])(k_is_chain:PySem.W.keepIn K (.ref f_is_chain)=true)(m_is_chain:mg "is_chain" = some (.ref f_is_chain))(mz_list:mg "list" = none)(mz_isinstance:mg "isinstance" = none)(mz_len:mg "len" = none)(mz_set:mg "set" = none):FnOk P w K mg base Jv 4 f fd ["holes", "thing"] (Nj K (mO)):=by
 refine' Hr (k:=3) F aG (λcdv A outer s H E hr=>?hb) ?h
 case hb =>
  have hr1:Room 1 _:=hr.mono (by decide)
  have hr2:Room 2 _:=hr.mono (by decide)
  have hr3:Room 3 _:=hr.mono (by decide)
  have hu64:=hr.units
  exact Ck (Lq (Mx (Lf (Eg Qh Qk rfl mz_isinstance (by decide +kernel) (Ao (Av (pv 1)) (Ao (Wh (n := "list") rfl mz_list (by decide +kernel)) Bi)))))
   (Cw (Er Ky)) Ju)
   (Ck (Xl (i:=2) aG.nd rfl (Dd rfl) (Le Bi))
   (Ck (Nf Dn rfl (Q7 (Av (pv 1))) (Iy (i:=3) aG.nd rfl (Dd rfl))
   (Ck (Lq (Mx (Lf (Fn G_is_chain hr3 rfl m_is_chain k_is_chain b_is_chain Hd (Ao (Av (pv 0)) (Ao (Av (pv 3)) Bi)))))
    (Cw (Er Ky)) Ju)
    (Cw (qK (pv 2) (Av (pv 3))))))
   (Cw (Er (uM (tF hu64 (Eg Jh Nb rfl mz_len (by decide +kernel) (Ao (Av (pv 2)) Bi)) (rS hu64 rfl rfl mz_len rfl mz_set (Ao (Av (pv 2)) Bi))) (wK (tF hu64 (Eg Jh Nb rfl mz_len (by decide +kernel) (Ao (Av (pv 2)) Bi)) (J9 Ci (Av (pv 0))))))))))
 case h =>
  (intro ds R q_; obtain ⟨h,C,rfl,h0,h1,hC,lC,nC,hR⟩ := q_)
  refine ⟨rfl,?_⟩
  unfold Nr
  array_get_dec
  refine Yk (l:=C) (g:=Gq) rfl (λi δ=>∃v3:DV,δ=⟨[.dat .sh (.int h),.dat .sh (.list (C.map Gq)),.dat .ow (.list ((C.take i).flatten.map Bt)),v3],0⟩/\NP v3) ?_ ?_ ?_
  ·exact ⟨_,rfl,Iz⟩
  ·(intro i c _ hc q_; obtain ⟨v3,rfl,hv3⟩ := q_)
   array_get_dec
   refine ⟨h,c,rfl,hC c (Ba hc),?_⟩
   unfold Gq
   array_get_dec
   have e:=iZ hc
   have le:=rZ C (i+1)
   rw[e,Ax] at le
   refine ⟨by rw[Ac,Ac]; omega,?_⟩
   rw[e,Cu]
   exact ⟨_,rfl,Hz⟩
  ·(intro _ q_; obtain ⟨v3,rfl,hv3⟩ := q_)
   rw[Kf]
   array_get_dec
   refine ⟨C.flatten,rfl,lC,λn _ h2=>?_⟩
   obtain rfl:=h2 nC
   refine N4 (λq=>?_) (λq=>?_)
   ·array_get_dec
    refine ⟨⟨h0,by omega,by decide⟩,?_⟩
    rw[Ac,Int.one_mul,show ((2:Int) ^ h.toNat)=((2 ^ h.toNat:Nat):Int) by simp,decide_eq_decide.mpr Int.ofNat_inj]
    exact hR
   ·rw[Ac] at q
    exact absurd q (by simp)
end
theorem Za:∀{c:List (List Int)} (z:List Int),c≠[]->(c++[z]).zip (c++[z]).tail=c.zip c.tail++[(Mz c,z)]
 | [],_,h=>absurd rfl h
 | [a],z,_=>rfl
 | a::b::c,z,_=>by
  have ih:=Za (c:=b::c) z (by simp)
  show (a,b)::((b::c++[z]).zip (b::c++[z]).tail)=_
  rw[ih]
  show _=(a,b)::((b::c).zip (b::c).tail++[(Mz (a::b::c),z)])
  congr 2
theorem uU{c:List (List Int)}{p:List Int×List Int}(h:p∈c.dropLast.zip c.dropLast.tail):p∈c.zip c.tail:=by
 by_cases ne:c=[]
 ·rw[ne] at h; cases h
 have e:=Cq ne
 by_cases nd:c.dropLast=[]
 ·rw[nd] at h; cases h
 rw[<- e,Za _ nd]
 exact An _ h
theorem xI{n:Nat}{c d:List (List Int)}(hn:n<50)(h:Chn n c)(hl:c.length<=n+1)(hd:d∈Fp c n):Chn ((n+1:Nat):Int) d:=by
 have l1:d.length<=n+2:=by
  unfold Fp at hd
  split at hd
  ·rw[Ae.mp hd,Ax,Eu]; omega
  ·rcases Am.mp hd with rfl | hd
   ·rw[Ax,Eu]; omega
   ·rw[Ae.mp hd]; unfold aB; rw[Ac,Td]; omega
 have A:d=c++[Mz c++[(n:Int)]]->Chn ((n+1:Nat):Int) d:=λe=>by
  subst e
  refine ⟨by simp,λw hw=>?_,λp hp=>?_,by omega⟩
  ·rcases Ay.mp hw with hw | hw
   ·exact (Mp (h.words w hw)).1
   ·rw[Ae.mp hw]; exact (Mp (h.words _ (dZ h.ne))).2
  ·rw[Za _ h.ne] at hp
   rcases Ay.mp hp with hp | hp
   ·exact h.adj p hp
   ·rw[Ae.mp hp]
    refine ⟨by simp,CS.mpr λi hi=>An _ hi⟩
 have B:d=aB c n->aB c n≠[]->Chn ((n+1:Nat):Int) d:=λe ne=>by
  subst e
  refine ⟨ne,λw hw=>?_,λp hp=>?_,by omega⟩
  ·obtain ⟨u,hu,rfl⟩:=Cs.mp hw
   exact (Mp (h.words u (Jy _ hu))).2
  ·unfold aB at hp
   rw[<- List.map_tail,List.zip_map] at hp
   obtain ⟨q,hq,rfl⟩:=Cs.mp hp
   obtain ⟨a1,a2⟩:=h.adj q (uU hq)
   exact ⟨by show (q.2++[(n:Int)]).length=(q.1++[(n:Int)]).length+1; simp [a1],(dR a2).2⟩
 unfold Fp at hd
 split at hd
 ·exact A (Ae.mp hd)
 ·rename_i ne
  rcases Am.mp hd with e | hd
  ·exact A e
  ·exact B (Ae.mp hd) ne
theorem Ze:∀{n:Nat},n<50->∀c∈Gd n,Chn n c
 | 0,_,c,hc=>by
  rw[Ae.mp hc]
  refine ⟨by simp,λw hw=>?_,(λp hp=>by cases hp),by decide⟩
  rw[Ae.mp hw]
  exact ⟨Do,λ_ z=>nomatch z⟩
 | n+1,hn,d,hd=>by
  obtain ⟨c,hc,hd⟩:=Du.mp hd
  exact xI (by omega) (Ze (by omega) c hc) ((Mv n).len c hc) hd
theorem kC{c:List (List Int)}{n:Int}(ne:c≠[]):(Fp c n).flatten.Perm (c++c.map λw=>w++[n]):=by
 have e:c.map (λw=>w++[n])=aB c n++[Mz c++[n]]:=by
  conv=>lhs; rw[<- Cq ne]
  rw[Cu]
  unfold aB Mz
  rw[Hj,Gj ne]
  rfl
 rw[e]
 unfold Fp
 split
 ·rename_i z
  rw[z]
  simp
 ·simp only[List.flatten_cons,List.flatten_nil,Dg,Bg]
  exact (Dq).append_left c
theorem aY(n:Int):∀(C:List (List (List Int))),(∀c∈C,c≠[])->(C.flatMap λc=>Fp c n).flatten.Perm (C.flatten++C.flatten.map λw=>w++[n])
 | [],_=>Gp _
 | c::C,h=>by
  rw[Jm,Uv,List.flatten_cons,Cu]
  have a:=kC (n:=n) (h c Aa)
  have b:=aY n C λd hd=>h d (Ad _ hd)
  refine (a.append b).trans ?_
  rw[Bg,Bg]
  refine Gv c ?_
  rw[<- Bg,<- Bg]
  exact (Dq).append_right _
theorem Qf:∀n,(Gd n).flatten.Perm (Lh n)
 | 0=>Gp _
 | n+1=>by
  have b:=aY (n:Int) (Gd n) (Mv n).ne
  exact b.trans ((Qf n).append ((Qf n).map _))
def lW:Nat->List Nat
 | 0=>[1]
 | n+1=>(lW n).flatMap λl=>if l=1 then [2] else [l+1,l - 1]
theorem jR{c:List (List Int)}{n:Int}(ne:c≠[]):(Fp c n).map Ip=if c.length=1 then [2] else [c.length+1,c.length - 1]:=by
 have l0:0<c.length:=Uu.mpr ne
 have lu:(aB c n).length=c.length - 1:=by unfold aB; rw[Ac,Td]
 unfold Fp
 by_cases z:aB c n=[]
 ·have : c.length=1:=by rw[z] at lu; simp at lu; omega
  rw[if_pos z,if_pos this]
  simp [this]
 ·have : c.length≠1:=λq=>z (Ii.mp (by omega))
  rw[if_neg z,if_neg this]
  simp [lu]
theorem Wj:∀n,(Gd n).map Ip=lW n
 | 0=>rfl
 | n+1=>by
  show ((Gd n).flatMap λc=>Fp c n).map Ip=(lW n).flatMap _
  rw[<- Wj n,List.map_flatMap,List.flatMap_map]
  have : ∀(C:List (List (List Int))),(∀c∈C,c≠[])->C.flatMap (λc=>(Fp c n).map Ip)=C.flatMap λc=>if c.length=1 then [2] else [c.length+1,c.length - 1]:=by
   intro C
   induction C with
   | nil=>intro _; rfl
   | cons c C ih =>
    intro h
    rw[Jm,Jm,jR (h c Aa),ih λd hd=>h d (Ad _ hd)]
  exact this _ (Mv n).ne
theorem gH{n:Nat}(h:n<=10):(Gd n).length=ch n (n / 2):=by
 have key:∀k:Fin 11,(lW k.1).length=ch k.1 (k.1 / 2):=by decide +kernel
 have:=key ⟨n,by omega⟩
 rw[<- Wj,Ac] at this
 exact this
def B6:PF:=λds R=>∃u v:List Int,ds=[Bt u,Bt v]/\R (.bool (mY u v))
section
variable{P:Bj}{w:World}{K:PySem.W.Frag}{mg:Str->Option Value}{base:Heap}
theorem Yi:FnScope ["_law_one", "_law_other"] ["_law_one", "_law_other"] (Cc Lk):=⟨rfl,rfl,rfl,by decide +kernel,rfl,by decide +kernel,by decide +kernel⟩
theorem Yl{f   : Addr}{fd  : Co}(F:Fun K "_law_within" "_law_within" Lk f fd):FnOk P w K mg base Jv 1 f fd ["_law_one", "_law_other"] (Nj K (B6)):=by
 refine' Hr (k:=0) F Yi (λcdv A outer s H E hr=>?hb) ?h
 case hb =>
  have hu64:=hr.units
  have CS1:∀{scope:Scope} (h:scope={ kind:=.function,names:=[(".0",.local),("_law_place",.local),("_law_other",.free)],isGenerator:=false,isCoroutine:=false }),
    CompScope (Sa Jv P w K mg base ["_law_one", "_law_other"] "_law_within" (Cc Lk) f cdv A outer s H E).nox scope [("_law_other",s.heap.objs.size+1)] "_law_place" ["_law_other"] [1]:=by
   rintro scope rfl
   refine ⟨by rfl,.inl (by decide +kernel),by rfl,by decide +kernel,.inl rfl,λy c h=>?_,by rfl,by decide +kernel,rfl,λk y j e1 e2=>?_⟩
   ·have z:=Gf h
    simp only[Am,Bk,or_false,Ir] at z
    obtain ⟨rfl,rfl⟩:=z; rfl
   ·match k,e1,e2 with
    | 0,e1,e2=>cases e1; cases e2; exact ⟨rfl,rfl,by first | exact .inl rfl | exact .inr rfl⟩
    | k+1,e1,e2=>cases e1
  exact Cw (Er (tF hu64 (Ud (CS1 rfl) rfl (BU (Av (pv 0))) (λ_ _ _=>cZ (sS hu64 (Av (pv 0)) (Av (pv 1)))) (λ_ _ _=>Av (pv 0))) (Le Bi)))
 case h =>
  (intro ds R q_; obtain ⟨u,v,rfl,hR⟩ := q_)
  refine ⟨rfl,?_⟩
  array_get_dec
  refine mM (l:=u) (g:=Br) rfl (λi=>decide (i∉v)) (λi=>.int i) (λi _ yes no hy hn=>?_) ?_
  ·array_get_dec
   refine oE (λh=>?_) (λh=>?_)
   ·array_get_dec
    exact hy (by simpa using h)
   ·exact hn (by simpa using h)
  ·array_get_dec
   have e:(List.map (λi=>Br i) (List.filter (λi=>decide (i∉v)) u)).isEmpty=mY u v:=by
    unfold mY
    rw[Bool.eq_iff_iff]
    simp
   rw[e]
   exact hR
end
def Zz(n:Nat):List Int:=(Bc (n+1)).map λk=>(ch n k:Int)
theorem Xp(n:Nat):(Zz n).length=n+1:=by unfold Zz; rw[Ac,Cb]
theorem kM{n k:Nat}(h:k<=n):(Zz n)[k]? = some (ch n k:Int):=by
 unfold Zz
 rw[Bo,Ni (by omega)]
 rfl
theorem sG(n:Nat):[1]++((Bc n).map λj=>((ch n j:Int)+(ch n (j+1):Int)))++[1]=Zz (n+1):=by
 unfold Zz
 rw[lP,Bh,Da,List.range_succ,Cu,Ln]
 have e:(Bc n).map ((λk=>(ch (n+1) k:Int)) ∘ Nat.succ)=(Bc n).map λj=>((ch n j:Int)+(ch n (j+1):Int)):=by
  refine Gn λj _=>?_
  show ((ch (n+1) (j+1):Nat):Int)=_
  rw[Iw]
  omega
 rw[e]
 show _=(1:Int)::(_++[((ch (n+1) (n+1):Nat):Int)])
 rw[Ui]
 rfl
def L0(n:Nat):V->V
 | .int j=>.int ((ch n j.toNat:Int)+(ch n (j.toNat+1):Int))
 | x=>x
theorem rX(n:Nat):(((Bc n).map λi:Nat=>V.int (0+i)).filter λ_=>true).map (L0 n)=((Bc n).map λj=>((ch n j:Int)+(ch n (j+1):Int))).map V.int:=by
 rw[rW.mpr (λ_ _=>rfl),Da,Da]
 refine Gn λj _=>?_
 show V.int ((ch n (0+(j:Int)).toNat:Int)+(ch n ((0+(j:Int)).toNat+1):Int))=_
 rw[show (0+(j:Int)).toNat=j by omega]
 rfl
def Mc:Af:=.list ((Bc 61).map λk=>.list ((Zz k).map Br))
theorem gK(a:DV)(l:List DV):datas (a::l)≠some []:=λh=>by
 cases a <;> simp [datas] at h
def vN:PF:=λds R=>ds=[]/\R Mc
theorem mC{K:PySem.W.Frag}{H:Hp}:∀{as:List Addr} {k:Nat},(∀(j:Nat) (a:Addr),as[j]? = some a->H a=some (.lst ((Zz (k+j)).map V.int)))->k+as.length<=1000->RdFs K H (as.map V.ref) ((List.range' k as.length).map λk=>Fz ((Zz k).map Br)) as
 | [],_,_,_=>.nil
 | a::as,k,h,hk=>by
  rw[Bf] at hk
  have h0:=h 0 a rfl
  rw[Bf,Pt]
  exact RdFs.cons (F:=[a]) (.lst h0 (by rw[Ac,Xp]; exact aA (by omega)) (RdFs.ints _)) (mC (k:=k+1) (λj b e=>by have:=h (j+1) b e; rw[show k+(j+1)=k+1+j by omega] at this; exact this) (by omega))
section
variable{P:Bj}{w:World}{K:PySem.W.Frag}{mg:Str->Option Value}{base:Heap}
theorem dJ:FnScope ["_law_rows_here", "_law_turn", "_law_row"] [] (Cc Np):=⟨rfl,rfl,rfl,by decide +kernel,rfl,by decide +kernel,by decide +kernel⟩
theorem dD{f:Addr}{fd:Co}(F:Fun K "_law_rows" "_law_rows" Np f fd)(mz_len:mg "len" = none)(mz_range:mg "range" = none):FnOk P w K mg base Jv 1 f fd [] (Nj K vN):=by
 refine F.ok dJ (λvs H Q E h=>?_) (λcdv A outer s H vs Q E hr h=>?_)
 ·obtain ⟨As,n,ds,R,e1,e2,e3,⟨rfl,_⟩,_⟩:=h
  cases As with
  | nil=>cases vs with
   | nil=>rfl
   | cons _ _=>cases e1
  | cons a As=>cases vs with
   | nil=>cases e1
   | cons v vs=>exact absurd e3 (gK _ _)
 obtain ⟨As,n,ds,R,e1,e2,e3,⟨rfl,hR⟩,q⟩:=h
 obtain rfl:vs=[]:=by
  cases As with
  | nil=>cases vs with
   | nil=>rfl
   | cons _ _=>cases e1
  | cons a As=>exact absurd e3 (gK _ _)
 have CS1:∀{scope:Scope} (h:scope={ kind:=.function,names:=[(".0",.local),("_law_j",.local),("_law_row",.free)],isGenerator:=false,isCoroutine:=false }),
   CompScope (Sa Jv P w K mg base ["_law_rows_here", "_law_turn", "_law_row"] "_law_rows" (Cc Np) f cdv A outer s H E).nox scope [("_law_row",s.heap.objs.size+1)] "_law_j" ["_law_row"] [2]:=by
  rintro scope rfl
  refine ⟨by rfl,.inl (by decide +kernel),by rfl,by decide +kernel,.inl rfl,λy c h=>?_,by rfl,by decide +kernel,rfl,λk y j e1 e2=>?_⟩
  ·have z:=Gf h
   simp only[Am,Bk,or_false,Ir] at z
   obtain ⟨rfl,rfl⟩:=z; rfl
  ·match k,e1,e2 with
   | 0,e1,e2=>cases e1; cases e2; exact ⟨rfl,rfl,by first | exact .inl rfl | exact .inr rfl⟩
   | k+1,e1,e2=>cases e1
 refine ⟨_,Jd (Qi (i:=0) dJ.nd rfl (Dd rfl) (Vb (Fi (Vb (Fi Es Iq)) Iq)))
  (Jd (wD Dn rfl (Vv rfl mz_range (Fi Es Iq)) (Kh (i:=1) dJ.nd rfl (Dd rfl))
  (Jd (Qi (i:=2) dJ.nd rfl (Or.inr rfl) (Qe (r:=qR K) Ll (pv 0) (pv 1) (λ_ _=>rfl)))
   (Rr (Xo (nE PySem.F.plainAttrs_list PySem.F.slot_list_append PySem.F.type_list_append Lc (pv 0) (Fi (Ij jT (Ij jT (Vb (Fi Es Iq)) (mS (CS1 rfl) rfl (Vv rfl mz_range (Fi (Ij uQ (Ue (r:=Y4 K) N3 rfl mz_len (by decide +kernel) (Fi (pv 2) Iq)) Es) Iq)) (λ_ _ _=>iE) (λ_ _ _=>Ij Su (Qe (r:=qR K) Ll (pv 1) (pv 0) (λ_ _=>rfl)) (Qe (r:=qR K) Ll (pv 1) (Ij Su (pv 0) Es) (λ_ _=>rfl))))) (Vb (Fi Es Iq))) Iq))))))
  (Rr (Zo (pv 0)))),?_⟩
 refine ⟨sz,λp0 np0=>⟨sz,λp1 np1=>?_⟩⟩
 have s0:=Eo np0 (.lst [V.int 1])
 have s1:=Eo np1 (.lst [V.ref p0])
 have np1H:=s0.free np1
 have ep0:=s1 _ _ (Ct (H:=H) (a:=p0) (o:=.lst [V.int 1]))
 have ep1:=Ct (H:=upd H p0 (.lst [V.int 1])) (a:=p1) (o:=.lst [V.ref p0])
 have ne01:p0≠p1:=λz=>by rw[<- z,Ct] at np1; cases np1
 have sA:=s0.trans s1
 generalize upd (upd H p0 (.lst [V.int 1])) p1 (.lst [V.ref p0])=H1 at ep0 ep1 sA
 refine ⟨60,rfl,by decide,by decide,pA (lo:=0) (n:=60) (λi σ H2=>∃(as:List Addr) (u1 u2:Option V),σ=[some (.ref p1),u1,u2]/\H2 p1=some (.lst (as.map V.ref))/\as.length=i+1/\(p1::as).Nodup/\(∀a∈as,H a=none)/\(∀(k:Nat) (a:Addr),as[k]? = some a->a≠p1/\H2 a=some (.lst ((Zz k).map V.int)))/\Lg H H2)
  ⟨[p0],none,none,rfl,ep1,rfl,Bs.mpr ⟨λz=>ne01 (Ae.mp z).symm,Bs.mpr ⟨Bk,Ee⟩⟩,λa ha=>by rw[Ae.mp ha]; exact np0,λk a e=>?_,sA⟩ ?_ ?_⟩
 ·match k,e with
  | 0,e=>cases e; exact ⟨ne01,ep0⟩
  | k+1,e=>cases e
 ·(intro i σ H2 hi q_; obtain ⟨as,u1,u2,rfl,e1,la,nd,fr,ha,sm⟩ := q_)
  obtain ⟨a,ea⟩ : ∃a,as[i]? = some a:=⟨as[i]'(by omega),Bw (by omega)⟩
  obtain ⟨nea,eha⟩:=ha i a ea
  have at1:Sx (as.map V.ref) (0+(i:Int))=some (.ref a):=by
   rw[Int.zero_add]
   exact Nv (by rw[Bo,ea]; rfl)
  refine ⟨_,rfl,_,rfl,p1,_,_,_,rfl,rfl,Ov.of e1,at1,?_⟩
  have eha2:H2 a=some (.lst ((Zz i).map V.int)):=eha
  refine ⟨_,rfl,.inl ⟨rfl,_,Ov.of e1⟩,sz,λp3 np3=>?_⟩
  have s3:=Eo np3 (.lst [V.int 1])
  have elen:((((Zz i).map V.int).length:Nat):Int) - 1=(i:Int):=by rw[Ac,Xp]; omega
  refine ⟨_,rfl,a,_,rfl,.inl (Ov.of (s3 _ _ eha2)),_,_,rfl,rfl,((i:Int)),congrArg (λz=>[V.int z]) elen,by omega,by omega,?_⟩
  rw[Di]
  refine rD (dW (lo:=0) (n:=i)) (by rw[Ac,Cb]; exact sz (by omega)) (λ_=>true) (L0 i) (λ_ _=>trivial) (λx hx H' s' Q' k=>k H' (Lg.refl _)) ?_ ?_
  ·intro x hx _ H' s' Q' k
   obtain ⟨j,hj,rfl⟩:=Cs.mp hx
   have jl:=Fh.mp hj
   have h1:Sx ((Zz i).map V.int) (0+(j:Int))=some (.int (ch i j:Int)):=by
    rw[Int.zero_add]
    exact Nv (by rw[Bo,kM (by omega)]; rfl)
   have h2:Sx ((Zz i).map V.int) (0+(j:Int)+1)=some (.int (ch i (j+1):Int)):=by
    rw[Int.zero_add,show ((j:Int)+1)=((j+1:Nat):Int) by omega]
    exact Nv (by rw[Bo,kM (by omega)]; rfl)
   refine ⟨_,rfl,_,rfl,a,_,_,_,rfl,rfl,Ov.of (s' _ _ (s3 _ _ eha2)),h1,_,rfl,_,rfl,_,_,rfl,rfl,a,_,_,_,rfl,rfl,Ov.of (s' _ _ (s3 _ _ eha2)),h2,_,_,rfl,rfl,?_⟩
   have:=k H' (Lg.refl _)
   simp only[L0] at this
   rw[show (0+(j:Int)).toNat=j by omega] at this
   exact this
  ·intro D H4 nD eD s4
   rw[rX] at eD
   have ep3:=s4 _ _ (Ct (H:=H2) (a:=p3) (o:=.lst [V.int 1]))
   refine ⟨p3,D,_,_,rfl,rfl,ep3,eD,(by rw[Ac,Ac,Cb]; exact sz (by simp; omega)),λp5 np5=>?_⟩
   have s5:=Eo np5 (.lst ([V.int 1]++((Bc i).map λj=>((ch i j:Int)+(ch i (j+1):Int))).map V.int))
   refine ⟨sz,λp6 np6=>?_⟩
   have s6:=Eo np6 (.lst [V.int 1])
   refine ⟨p5,p6,_,_,rfl,rfl,s6 _ _ Ct,Ct,(by rw[Ax,Ac,Ac,Cb]; exact sz (by simp; omega)),λp7 np7=>?_⟩
   have en:[V.int 1]++((Bc i).map λj=>((ch i j:Int)+(ch i (j+1):Int))).map V.int++[V.int 1]=(Zz (i+1)).map V.int:=by
    rw[<- sG]
    simp
   rw[en]
   have s7:=Eo np7 (.lst ((Zz (i+1)).map V.int))
   have sB:=((s3.trans s4).trans (s5.trans s6)).trans s7
   have e17:=sB _ _ e1
   have ep7:=Ct (H:=upd (upd H4 p5 (.lst ([V.int 1]++((Bc i).map λj=>((ch i j:Int)+(ch i (j+1):Int))).map V.int))) p6 (.lst [V.int 1])) (a:=p7) (o:=.lst ((Zz (i+1)).map V.int))
   have n71:p7≠p1:=λz=>by
    have:=((s3.trans s4).trans (s5.trans s6)) _ _ e1
    rw[<- z,np7] at this
    cases this
   have fp7:∀b o,H2 b=some o->b≠p7:=λb o e z=>by
    have:=((s3.trans s4).trans (s5.trans s6)) _ _ e
    rw[z,np7] at this
    cases this
   have fH7:H p7=none:=by
    cases q7:H p7 with
    | none=>rfl
    | some o=>exact absurd rfl (fp7 _ _ (sm _ _ q7))
   generalize upd (upd (upd H4 p5 (.lst ([V.int 1]++((Bc i).map λj=>((ch i j:Int)+(ch i (j+1):Int))).map V.int))) p6 (.lst [V.int 1])) p7 (.lst ((Zz (i+1)).map V.int))=H7 at sB e17 ep7
   refine ⟨p1,_,_,rfl,rfl,e17,by rw[Ac]; exact bT (by omega),?_⟩
   refine ⟨as++[p7],_,_,rfl,by rw[Ct,Cu]; rfl,by rw[Ax,Eu]; omega,?_,λa hm=>?_,λk b eb=>?_,tN np1H (sm.trans sB)⟩
   ·rw[<- Fu]
    refine Et.mpr ⟨nd,Bs.mpr ⟨Bk,Ee⟩,λx hx y hy e=>?_⟩
    rw[Ae.mp hy] at e
    rcases Am.mp hx with hx | hx
    ·exact n71 (by rw[<- e]; exact hx)
    ·obtain ⟨k,hk⟩:=List.mem_iff_getElem?.mp hx
     exact fp7 _ _ (ha k x hk).2 e
   ·rcases Ay.mp hm with hm | hm
    ·exact fr a hm
    ·rw[Ae.mp hm]; exact fH7
   by_cases hk:k<as.length
   ·rw[Ep hk] at eb
    obtain ⟨x1,x2⟩:=ha k b eb
    exact ⟨x1,by rw[Ej x1]; exact sB _ _ x2⟩
   ·rw[Dw (by omega)] at eb
    have hk2:k=i+1:=by
     have:=(Ap.mp eb).1
     simp at this
     omega
    subst hk2
    rw[la,Xv] at eb
    cases eb
    exact ⟨n71,by rw[Ej n71]; exact ep7⟩
 ·(intro σ H2 q_; obtain ⟨as,u1,u2,rfl,e1,la,nd,fr,ha,sm⟩ := q_)
  have rd:RdF K H2 (.ref p1) Mc (p1::as):=by
   refine .lst e1 (by rw[Ac,Cb]; exact aA (by decide)) ?_
   have:=mC (K:=K) (H:=H2) (as:=as) (k:=0) (λj a e=>by rw[Hs]; exact (ha j a e).2) (by omega)
   rw[la,<- Jx] at this
   exact this
  exact ⟨_,rfl,q _ _ _ _ hR rd nd (λa hm=>by
   rcases Am.mp hm with rfl | hm
   ·exact np1H
   ·exact fr a hm) sm⟩
end
def xF:PF:=λds R=>∃n k:Int,ds=[Mc,.int n,.int k]/\0<=n/\n<=60/\0<=k/\R (.int (ch n.toNat k.toNat))
section
variable{P:Bj}{w:World}{K:PySem.W.Frag}{mg:Str->Option Value}{base:Heap}
theorem Zg:FnScope ["_law_rows_here", "_law_n", "_law_k"] ["_law_rows_here", "_law_n", "_law_k"] (Cc Of):=⟨rfl,rfl,rfl,by decide +kernel,rfl,by decide +kernel,by decide +kernel⟩
theorem Xw{f   : Addr}{fd  : Co}(F:Fun K "_law_choose" "_law_choose" Of f fd)(mz_min:mg "min" = none):FnOk P w K mg base Jv 1 f fd ["_law_rows_here", "_law_n", "_law_k"] (Nj K (xF)):=by
 refine' Hr (k:=0) F Zg (λcdv A outer s H E hr=>?hb) ?h
 case hb =>
  have hu64:=hr.units
  exact Cw (Er (Vo (eJ (Vo (Av (pv 0)) (Av (pv 1))) (Le (Ao Ci Bi))) (Eg (bC rfl) oF rfl mz_min (by decide +kernel) (Ao (Av (pv 2)) (Ao (Lx (Av (pv 1)) Ci) Bi)))))
 case h =>
  (intro ds R q_; obtain ⟨n,k,rfl,n0,n1,k0,hR⟩ := q_)
  refine ⟨rfl,?_⟩
  unfold Mc
  array_get_dec
  have at1:Sx (List.map (λk=>Fz (List.map Br (Zz k))) (Bc 61)) n=some (.list ((Zz n.toNat).map Br)):=by
   obtain ⟨m,rfl⟩ : ∃m:Nat,n=m:=⟨n.toNat,by omega⟩
   refine Nv ?_
   rw[Bo,Ni (by omega)]
   rfl
  refine ⟨_,at1,?_⟩
  array_get_dec
  have at2:Sx ((Zz n.toNat).map Br++[.int 0]) (if n+1<k then n+1 else k)=some (.int (ch n.toNat k.toNat:Int)):=by
   have hl:((Zz n.toNat).map Br).length=n.toNat+1:=by rw[Ac,Xp]
   by_cases hk:k<=n
   ·rw[if_neg (by omega),show k=((k.toNat:Nat):Int) by omega]
    refine Nv ?_
    rw[Ep (by rw[hl]; omega),Bo,Di,kM (by omega)]
    rfl
   ·have e:(if n+1<k then n+1 else k)=((n.toNat+1:Nat):Int):=by split <;> omega
    rw[e,He (by omega)]
    refine Nv ?_
    rw[Dw (by rw[hl]; exact Ah _),hl,Xv]
    rfl
  refine ⟨by rw[Ac,Xp]; omega,_,at2,?_⟩
  array_get_dec
  exact hR
end
end K17
namespace DL
open PySem PySem.Spec PyProof.Rows L2 Nd
def u6(i:Nat):DB:=λD δ=>∃(c:List Af) (C:List (List Af)),δ.sl[i]? = some (.dat .ow (.list ((c::C).map Fz)))/\npk δ.sl=true/\(∀d∈c::C,Dt d=true/\d.length<1000000)/\C.length<900000 /\
 D.nx ⟨δ.sl.set i (.dat .ow (.list (((c++[.none])::C).map Fz))),δ.n⟩
section
variable{X:Cx}{o e:Expr}{apos cpos pos ip sp:Pos}{i j:Nat}
theorem zM(ho:PE X o (Pp i))(he:PE X e (tC .non))
  (hbase:Nl (.Subscript o (.Constant (.int (0:Int)) j ip) sp) "append" X.env (eval (.Subscript o (.Constant (.int (0:Int)) j ip) sp) X.env)=eval (.Subscript o (.Constant (.int (0:Int)) j ip) sp) X.env:=by rfl)
  (hfew:((Hx cpos (Bn [e] X.env)).all (λx=>!x.1) && (backToKw cpos (Qw [] X.env)).all (λx=>x.1.isSome)
   && decide (([e]:List Expr).length+([]:List Nn).length+(if ([]:List Nn).isEmpty then 0 else 1)<30))=true:=by rfl)
  (hline:(apos.endLine == cpos.line)=true:=by rfl) (hs:Bn [e] X.env=(false,eval e X.env)::Bn [] X.env:=by rfl) (hplain:(Hx cpos (Bn [] X.env)).any (·.1)=false:=by rfl)
  (hsw:Jw (.Call (.Attribute (.Subscript o (.Constant (.int (0:Int)) j ip) sp) "append" apos) [e] [] cpos) none pos.line X.env=pure false:=by rfl) :
  iF X (.Expr (.Call (.Attribute (.Subscript o (.Constant (.int (0:Int)) j ip) sp) "append" apos) [e] [] cpos) pos) (u6 i):=by
 refine PS.impD (Xo (nE PySem.F.plainAttrs_list PySem.F.slot_list_append PySem.F.type_list_append Lc (Qe (r:=qR X.K) Ll ho Es (λ_ _=>rfl)) (Fi he Iq hs) hbase hfew hline hs hplain) hsw) λD σ H h=>?_
 obtain ⟨H0,Y,S,T,δ,P,rfl,hS,hT,hA,⟨c,C,h1,np,hC,lC,hD⟩,k1,k2,k3,k4⟩:=h
 obtain ⟨ent,e2,e3⟩:=Kg hS h1
 have hmS:ent∈S:=Ba e2
 obtain ⟨u,y,F'⟩:=ent
 have e3':y=.dat .ow (.list ((c::C).map Fz)):=e3
 subst e3'
 obtain ⟨v,hv,rd,nd,_⟩:=hA.ok _ (An _ hmS)
 have hv':u=some v:=hv
 subst hv'
 obtain ⟨t,xs,G,rfl,ht,ra,eF,hz⟩:=rd.list_inv
 have eF':F'=t::G:=eF
 subst eF'
 have nd':(t::G).Nodup:=nd rfl
 obtain ⟨g1,g2,_⟩:=hV ra hC
 cases ra with
 | @cons x _ xs' _ Fr G' a ra' =>
 obtain ⟨r,ys,Gr,rfl,hr,ry,rfl,_⟩:=a.list_inv
 have i1:=hC c Aa
 obtain rfl:=ry.imm i1.1
 have el:L5 H r=ys:=by unfold L5; rw[hr]
 have ly:=ry.len
 have ntr:t≠r:=λz=>(Bs.mp nd').1 (by rw[z]; exact An _ Aa)
 have nrG:r∉G':=by
  have:=(Bs.mp nd').2
  exact (Bs.mp this).1
 refine ⟨.ref t,by rw[Oj e2],t,_,0,.ref r,rfl,rfl,Ov.of ht,Nv (j:=0) rfl,.inl ⟨rfl,_,Ov.of hr⟩,r,ys,.non,rfl,rfl,hr,Bu (by rw[ly]; exact i1.2) (aA (n:=1000000) (Ah _)),?_⟩
 have hn:=kR hS np
 have pm:(S++T).Perm (⟨some (.ref t),.dat .ow (.list ((c::C).map Fz)),t::([r]++G')⟩::(S.eraseIdx i++T)):=(Kj e2).append_right T
 have npE:∀f∈S.eraseIdx i++T,Pr f.x=false:=λf hf=>by
  rcases Ay.mp hf with hf | hf
  ·exact hn f ((List.eraseIdx_sublist S i).subset hf)
  ·exact hT f hf
 have hAp:=hA.perm pm
 have keep:∀b o,H b=some o->(b∉t::([r]++G')\/AX o)->upd H r (.lst (ys++[.non])) b=some o:=λb o e z=>by
  have nb:b≠r:=λq=>by
   subst q
   rcases z with z | z
   ·exact z (Ad _ (An _ Aa))
   ·rw[hr] at e
    cases e
    rcases z with ⟨_,z⟩ | ⟨_,_,z⟩ <;> cases z
  rw[Ej nb]
  exact e
 have hA1:=hAp.spoil npE keep
 have hsep:=(Bm.mp hAp.sep).1
 have rd':RdF X.K (upd H r (.lst (ys++[.non]))) (.ref t) (.list (((c++[.none])::C).map Fz)) (t::([r]++G')):=by
  refine .lst (by rw[Ej ntr]; exact ht) (by rw[Ac,Bf]; exact aA (by omega)) (RdFs.cons (F:=[r]) ?_ (ra'.kp (dQ hr nrG)))
  have r1:RdFs X.K (upd H r (.lst (ys++[.non]))) (ys++[.non]) (c++[.none]) ([]++[]):=(ry.kp (dQ hr (λz=>nomatch z))).snoc .non
  exact .lst Ct (by rw[Ax]; exact aA (by simp; have:=i1.2; omega)) r1
 have hA2:=hA1.pushF rd' nd' (λa ha f hf=>(hsep f hf).1 (.inl (npE f hf)) a ha) λa ha=>by
  rcases hAp.new _ Aa a ha with z | z
  ·exact z
  ·cases z.2
 obtain ⟨s1,s2⟩:=sD (y:=.dat .ow (.list (((c++[.none])::C).map Fz))) (F':=t::([r]++G')) e2 hS
 rw[<- s1]
 exact k1 ⟨_,_⟩ _ _ s2 (hA2.perm ((bY e2).append_right T).symm) hD
end
end DL
namespace K17
open PySem L2 Nd DL
local macro_rules | `(tactic| array_get_dec) => do
  let ids:=(("e_ssW e_ssWB e_lenSet e_lsB e_isB1 e_extend e_extB e_seq e_skip e_ret e_if e_asg e_name e_name2 e_name4 e_own e_nT e_gtup e_gsn e_gsc e_op e_var e_c e_imm e_immB e_take e_I e_I0 e_eqF e_eqT e_inFt_w1 e_inTt_w1 e_ixl e_ixt e_cat e_catT_w1 e_nlT e_pkOfsh e_pkOfow e_mdInsh e_mdInow e_mdItpk e_mdItsh e_mdItow e_nil e_cons e_tup e_lst e_noPart e_part e_partB e_sl e_slBl e_cb e_lenl e_lent e_lent_w1 e_max2 e_min2 e_all e_isi e_v e_b e_bB e_tru e_truB e_notT e_andT e_orT e_orTf e_not e_notB e_and e_andt e_ifE e_neg e_negB e_dL e_dTp e_lB e_tpB_w1 e_range1 e_rng1B e_range2 e_rng2B e_enum e_enumB e_zip e_zipB e_for e_comp e_give e_giveB e_noTest e_step e_stepT e_stepF e_yesB e_call e_callW e_draws e_drawsB e_append e_aug e_augB e_scrSl e_sortW e_tr e_trB isLst callB callBW tupB lstB datas pkMd allOw noPk appB own1 npk retE retL args0 frD frD1 alD List.map_cons List.map_nil List.replicate List.getElem?_cons_zero List.getElem?_cons_succ List.set_cons_zero List.set_cons_succ List.cons_append List.nil_append Option.map_some List.length_cons List.length_nil List.append_nil rdAdd rdSub rdMul rdDiv rdMod rdPow rdShl rdLt rdGe if_true mdZip Nat.reduceAdd Nat.reduceSub Nat.reduceLeDiff true_and im_e ima_e dp_e dpa_e any_int eqD_intd eqD_lw eqD_l0 ow_e tt_e cdiv_e cpow_e cmul_r Int.reduceLT Int.reduceLE Int.reduceNeg and_self Int.reduceToNat Int.reducePow isi_li isi_tt isi_ib isi_ii isi_wt Bool.not_true Bool.not_false decide_true String.reduceEq or_true true_or List.isEmpty_nil ifB_lf str_self Int.cast_ofNat_Int atI_0 some_e dec_self eqD_tup1 okT_l" : String).splitOn " ").toArray.map λ(x:String)=>Lean.mkIdent x.toName
  `(tactic| try simp only [$[↓$ids:ident],*])
theorem Zf:∀{b a:List Int},a.Pairwise (· < ·)->b.Pairwise (· < ·)->(∀x∈a,x∈b)->a.Sublist b
 | b,[],_,_,_=>List.nil_sublist _
 | [],x::a,_,_,h=>nomatch h x Aa
 | y::b,x::a,ha,hb,h=>by
  obtain ⟨a1,a2⟩:=Bm.mp ha
  obtain ⟨b1,b2⟩:=Bm.mp hb
  by_cases e:x=y
  ·subst e
   refine (Zf a2 b2 λz hz=>?_).cons₂ x
   rcases Am.mp (h z (Ad _ hz)) with q | q
   ·have:=a1 z hz; omega
   ·exact q
  ·have hx:x∈b:=(Am.mp (h x Aa)).resolve_left e
   refine (Zf ha b2 λz hz=>?_).cons y
   rcases Am.mp (h z hz) with q | q
   ·have yx:=b1 x hx
    rcases Am.mp hz with w | w
    ·omega
    ·have:=a1 z w; omega
   ·exact q
theorem cw_nodup (m k:Nat):(cw m 0 k).Nodup:=(cw_lex m 0 k).imp fun {a b} z e=>by
 subst e
 rw[Ts.lex_irr] at z
 cases z
theorem cw_rise {m k:Nat} {w:List Int} (h:w∈cw m 0 k):Ic m w:=by
 obtain ⟨_,h1,h2⟩:=cw_mem.mp h
 exact ⟨h1,λx hx=>by have:=h2 x hx; omega⟩
theorem n4(m k:Nat):rY (cw m 0 k):=λi j a b ha hb hij=>by
 cases q:sub a b with
 | false=>rfl
 | true =>
  have ma:=Ba ha
  have mb:=Ba hb
  have s:∀x∈a,x∈b:=CS.mp (show mY a b=true from q)
  have e:=(Zf (cw_rise ma).1 (cw_rise mb).1 s).eq_of_length (by rw [(cw_mem.mp ma).1,(cw_mem.mp mb).1])
  subst e
  obtain ⟨i1,i2⟩:=Ap.mp ha
  obtain ⟨j1,j2⟩:=Ap.mp hb
  have nd:=cw_nodup m k
  exfalso
  rcases Nat.lt_or_gt_of_ne hij with z | z
  ·exact Dz.mp nd i j i1 j1 z (i2.trans j2.symm)
  ·exact Dz.mp nd j i j1 i1 z (j2.trans i2.symm)
def oP:PF:=λds R=>∃h:Int,ds=[.int h,Mc]/\1<=h/\h<=10/\R (.bool true)
section
variable{P:Bj}{w:World}{K:PySem.W.Frag}{mg:Str->Option Value}{base:Heap}
theorem aF:FnScope ["_law_holes", "_law_rows_here", "_law_told", "_law_code", "_law_some"] ["_law_holes", "_law_rows_here"] (Cc Mn):=⟨rfl,rfl,rfl,by decide +kernel,rfl,by decide +kernel,by decide +kernel⟩
theorem aQ{f f_plain f_shows_most f_most f_L_within f_L_choose  : Addr}{fd d_plain d_shows_most d_most d_L_within d_L_choose:Co}(F:Fun K "_law_right" "_law_right" Mn f fd)(G_plain:FnOk P w K mg base Jv 2 f_plain d_plain ["code"] (Nj K (nW)))(b_plain:Binds K d_plain ["code"] [])(k_plain:PySem.W.keepIn K (.ref f_plain)=true)(m_plain:mg "plain" = some (.ref f_plain))(G_shows_most:FnOk P w K mg base Jv 4 f_shows_most d_shows_most ["holes", "thing"] (Nj K (mO)))(b_shows_most:Binds K d_shows_most ["holes", "thing"] [])(k_shows_most:PySem.W.keepIn K (.ref f_shows_most)=true)(m_shows_most:mg "shows_most" = some (.ref f_shows_most))(G_most:FnOk P w K mg base Jv 4 f_most d_most ["holes"] (Nj K (sN)))(b_most:Binds K d_most ["holes"] [])(k_most:PySem.W.keepIn K (.ref f_most)=true)(m_most:mg "most" = some (.ref f_most))(G_L_within:FnOk P w K mg base Jv 1 f_L_within d_L_within ["_law_one", "_law_other"] (Nj K (B6)))(b_L_within:Binds K d_L_within ["_law_one", "_law_other"] [])(k_L_within:PySem.W.keepIn K (.ref f_L_within)=true)(m_L_within:mg "_law_within" = some (.ref f_L_within))(G_L_choose:FnOk P w K mg base Jv 1 f_L_choose d_L_choose ["_law_rows_here", "_law_n", "_law_k"] (Nj K (xF)))(b_L_choose:Binds K d_L_choose ["_law_rows_here", "_law_n", "_law_k"] [])(k_L_choose:PySem.W.keepIn K (.ref f_L_choose)=true)(m_L_choose:mg "_law_choose" = some (.ref f_L_choose))(mz_list:mg "list" = none)(mz_isinstance:mg "isinstance" = none)(mz_len:mg "len" = none)(mz_tuple:mg "tuple" = none)(mz_sorted:mg "sorted" = none)(mz_set:mg "set" = none)(mz_range:mg "range" = none):FnOk P w K mg base Jv 5 f fd ["_law_holes", "_law_rows_here"] (Nj K (oP)):=by
 refine' Hr (k:=4) F aF (λcdv A outer s H E hr=>?hb) ?h
 case hb =>
  have hr1:Room 1 _:=hr.mono (by decide)
  have hr2:Room 2 _:=hr.mono (by decide)
  have hr3:Room 3 _:=hr.mono (by decide)
  have hr4:Room 4 _:=hr.mono (by decide)
  have hu64:=hr.units
  have CS1:∀{scope:Scope} (h:scope={ kind:=.function,names:=[(".0",.local),("_law_word",.local),("_law_within",.globalImplicit),("tuple",.globalImplicit),("range",.globalImplicit),("_law_holes",.free)],isGenerator:=false,isCoroutine:=false }),
    CompScope (Sa Jv P w K mg base ["_law_holes", "_law_rows_here", "_law_told", "_law_code", "_law_some"] "_law_right" (Cc Mn) f cdv A outer s H E).nox scope [("_law_holes",s.heap.objs.size+1)] "_law_word" ["_law_holes"] [0]:=by
   rintro scope rfl
   refine ⟨by rfl,.inl (by decide +kernel),by rfl,by decide +kernel,.inl rfl,λy c h=>?_,by rfl,by decide +kernel,rfl,λk y j e1 e2=>?_⟩
   ·have z:=Gf h
    simp only[Am,Bk,or_false,Ir] at z
    obtain ⟨rfl,rfl⟩:=z; rfl
   ·match k,e1,e2 with
    | 0,e1,e2=>cases e1; cases e2; exact ⟨rfl,rfl,by first | exact .inl rfl | exact .inr rfl⟩
    | k+1,e1,e2=>cases e1
  exact Ck (Xl (i:=2) aF.nd rfl (Dd rfl) (Fn G_most hr4 rfl m_most k_most b_most Hd (Ao (Av (pv 0)) Bi)))
   (Ck (Lq (cP (Qu (Mx (Lf (Eg Qh Qk rfl mz_isinstance (by decide +kernel) (Ao (Av (pv 2)) (Ao (Wh (n := "tuple") rfl mz_tuple (by decide +kernel)) Bi))))) (Qu (Um hu64 (Eg Jh Nb rfl mz_len (by decide +kernel) (Ao (Av (pv 2)) Bi)) Ci) (Qo (Mx (Lf (Eg Qh Qk rfl mz_isinstance (by decide +kernel) (Ao (Vo (Av (pv 2)) Ci) (Ao (Wh (n := "list") rfl mz_list (by decide +kernel)) Bi)))))))))
   (Cw (Er Ky)) Ju)
   (Ck (O9 (oR (pv 2)) (cJ (n:=2) rfl (Lp (uO (i:=3) aF.nd rfl (Dd rfl)) (Lp (uO (i:=4) aF.nd rfl (Dd rfl)) Xq))))
   (Ck (Lq (cP (Qu (Um hu64 (Eg Jh Nb rfl mz_len (by decide +kernel) (Ao (Av (pv 3)) Bi)) (Fn G_L_choose hr1 rfl m_L_choose k_L_choose b_L_choose Hd (Ao (Av (pv 1)) (Ao (Av (pv 0)) (Ao (Oc (Av (pv 0)) Ci) Bi))))) (Qo (Um hu64 (Eg Jh Nb rfl mz_len (by decide +kernel) (Ao (Av (pv 4)) Bi)) (Eg Jh Nb rfl mz_len (by decide +kernel) (Ao (Av (pv 3)) Bi))))))
   (Cw (Er Ky)) Ju)
   (Ck (Lq (cP (Qu (Um hu64 (Fn G_plain hr2 rfl m_plain k_plain b_plain Hd (Ao (Av (pv 3)) Bi)) (Pc (Ao lA Bi))) (Qu (Um hu64 (N6 hu64 rfl rfl mz_sorted rfl mz_set (Ao (Av (pv 3)) Bi)) (Eg (Ts.call_sortedI hu64) sP rfl mz_sorted (by decide +kernel) (Ao (Av (pv 3)) Bi))) (Qo (i5 (Fn G_shows_most hr4 rfl m_shows_most k_shows_most b_shows_most Hd (Ao (Av (pv 0)) (Ao (Av (pv 4)) Bi))) Ky)))))
   (Cw (Er Ky)) Ju)
   (Ck (Lq (Um hu64 (Ud (CS1 rfl) rfl (Q7 (Av (pv 3))) (λ_ _ _=>cZ (Mx (Lf (Fn G_L_within hr1 rfl m_L_within k_L_within b_L_within Hd (Ao (Av (pv 0)) (Ao (qG rfl rfl mz_tuple rfl mz_range (Av (pv 1))) Bi)))))) (λ_ _ _=>Av (pv 0))) (Le Bi))
   (Cw (Er Ky)) Ju)
   (Ck (bJ (pv 3) xA)
   (Ck (zM (pv 4) wC)
   (Ck (bJ (pv 4) xA)
   (Cw (Er Ky))))))))))
 case h =>
  (intro ds R q_; obtain ⟨h,rfl,h0,h1,hR⟩ := q_)
  refine ⟨rfl,?_⟩
  array_get_dec
  obtain ⟨m,rfl⟩ : ∃m:Nat,h=(m:Int):=⟨h.toNat,by omega⟩
  refine ⟨m,rfl,by omega,by omega,?_⟩
  rw[Di,show ((m:Int) / 2).toNat=m / 2 by omega]
  have nB:=cw_nodup m (m / 2)
  have lB:=cw_len m 0 (m / 2)
  have zB:=n4 m (m / 2)
  have rB:∀ w∈cw m 0 (m / 2),Ic m w:=fun w hw=>cw_rise hw
  generalize cw m 0 (m / 2)=B at nB lB zB rB
  have c1:=mD m (m / 2)
  have p10:2 ^ m<=2 ^ 10:=Mr (by decide) (by omega)
  obtain ⟨S,eS⟩ : ∃S,Gd m=S:=⟨_,rfl⟩
  have lS:S.length=ch m (m / 2):=by rw[<- eS]; exact gH (by omega)
  have pS:S.flatten.Perm (Lh m):=by rw[<- eS]; exact Qf m
  have cS:∀c∈S,Chn m c:=λc hc=>Ze (by omega) c (by rw[eS]; exact hc)
  rw[eS]
  unfold Nr
  array_get_dec
  refine ⟨m,(m:Int) / 2,rfl,by omega,by omega,by omega,?_⟩
  rw[Di,show ((m:Int) / 2).toNat=m / 2 by omega]
  array_get_dec
  refine lY (λq=>?_) (λ_=>?_)
  ·rw[Ac,lB] at q
   simp at q
  array_get_dec
  refine Wd (λq=>?_) (λ_=>?_)
  ·rw[Ac,Ac,lB,lS] at q
   simp at q
  array_get_dec
  have lB':B.length<=1000:=by
   rw[lB]
   have key:∀k:Fin 11,ch k.1 (k.1 / 2)<=252:=by decide +kernel
   exact Cf (key ⟨m,by omega⟩) (by decide)
  refine ⟨B,rfl,lB',λi' j' a' b' ha hb hij hs=>absurd (zB i' j' a' b' ha hb hij) (by rw[hs]; simp),λ_=>?_⟩
  array_get_dec
  refine ⟨B,rfl,by omega,nB,λL pL oL=>?_⟩
  array_get_dec
  refine ⟨B,rfl,λL2 p2 o2=>?_⟩
  obtain rfl:L=L2:=iL (pL.trans p2.symm) oL o2
  array_get_dec
  have lF:S.flatten.length=2 ^ m:=by rw[pS.length_eq,Yh]
  refine ⟨m,S,rfl,by omega,by omega,cS,by omega,pS.nodup_iff.mpr (Pa m),?_⟩
  rw[Di,decide_eq_true lF]
  array_get_dec
  refine Wd (λq=>absurd q (by decide)) (λ_=>?_)
  array_get_dec
  refine mM (l:=B) (g:=Bt) rfl (λ_=>false) Bt (λw hw yes no hy hn=>?_) ?_
  ·have rr:=rB w hw
   array_get_dec
   refine ⟨by omega,by omega,w,qX (m:Int).toNat,rfl,?_⟩
   rw[show mY w (qX (m:Int).toNat)=true from CS.mpr λi hi=>by
    have:=rr.2 i hi
    exact Cs.mpr ⟨i.toNat,Fh.mpr (by omega),by omega⟩]
   array_get_dec
   exact hn rfl
  rw[show B.filter (λ_=>false)=[] by simp]
  array_get_dec
  refine ⟨by rw[Ac]; omega,?_⟩
  obtain ⟨c0,S',rfl⟩ : ∃c0 S',S=c0::S':=by
   cases S with
   | nil=>exact absurd lS (by have:=dG (n:=m) (k:=m / 2) (by omega); simp; omega)
   | cons c0 S'=>exact ⟨c0,S',rfl⟩
  have lS2:S'.length<=1024:=by rw[Bf] at lS; omega
  unfold u6
  refine ⟨c0.map Bt,S'.map λc=>c.map Bt,by show some (DV.dat .ow (.list (Gq c0::S'.map Gq)))=some (.dat .ow (.list (.list (c0.map Bt)::(S'.map λc=>c.map Bt).map Fz))); rw[Da]; rfl,rfl,λd hd=>?_,by rw[Ac]; omega,?_⟩
  ·rcases Am.mp hd with rfl | hd
   ·exact ⟨Na _,by rw[Ac]; have:=(cS c0 Aa).len; omega⟩
   ·obtain ⟨c,hc,rfl⟩:=Cs.mp hd
    exact ⟨Na _,by rw[Ac]; have:=(cS c (Ad _ hc)).len; omega⟩
  array_get_dec
  exact ⟨by rw[Ac,Ac]; omega,hR⟩
end
def cF(n:Nat):Nat->Nat
 | 0=>1
 | k+1=>cF n k * (n - k) / (k+1)
theorem B1(n:Nat):∀k,ch n k=cF n k
 | 0=>Ln n
 | k+1=>by
  show _=cF n k * (n - k) / (k+1)
  rw[<- B1 n k,<- Xr n k,Nat.mul_div_cancel _ (Rw k)]
theorem Y1:ch 60 30=118264581564861424:=by rw[B1]; decide +kernel
theorem wO(n:Nat):ch n (n / 2)<=ch (n+1) ((n+1) / 2):=by
 rcases (show ∃j,n=2 * j\/n=2 * j+1 from ⟨n / 2,by omega⟩) with ⟨j,rfl | rfl⟩
 ·rw[show 2 * j / 2=j by omega,show (2 * j+1) / 2=j by omega]
  cases j with
  | zero=>decide
  | succ i=>rw[Iw]; omega
 ·rw[show (2 * j+1) / 2=j by omega,show (2 * j+1+1) / 2=j+1 by omega,Iw]
  omega
theorem fH{n:Nat}:∀d,ch n (n / 2)<=ch (n+d) ((n+d) / 2)
 | 0=>Ah _
 | d+1=>Cf (fH d) (wO (n+d))
theorem X4{v:Int}(h:v<=118264581564861424):v<=((ch 60 (60 / 2):Nat):Int):=by
 rw[show 60 / 2=30 from rfl,Y1]
 exact h
theorem U4{v:Int}{R:Af->Prop}(h:v<=118264581564861424)(k:∀h:Nat,1<=h->h<=60->v<=(ch h (h / 2):Int)->(∀k:Nat,1<=k->k<h->(ch k (k / 2):Int)<v)->R (.int h)):sF [.int v] R:=by
 obtain ⟨H,e⟩ : ∃H:Nat,H=60:=⟨60,rfl⟩
 refine ⟨v,H,rfl,by omega,by omega,?_,λh' a b=>k h' a (by omega)⟩
 rw[e]
 exact X4 h
theorem J3{n:Nat}(h:n<=58):ch n (n / 2)+1<=118264581564861424:=by
 rw[<- Y1]
 have a:=fH (n:=n) (58 - n)
 rw[show n+(58 - n)=58 by omega] at a
 have b:=wO 58
 have c:=Iw 59 29
 have d:0<ch 59 30:=dG (by omega)
 simp only[show 58 / 2=29 from rfl,show (58+1) / 2=29 from rfl,show 58+1=59 from rfl,show 59+1=60 from rfl,show 29+1=30 from rfl] at a b c
 generalize ch 60 30=A at *
 generalize ch 59 29=B at *
 generalize ch 59 30=C at *
 generalize ch 58 29=D at *
 omega
theorem iR{t u:DB}{D:DEnds}{δ:DS}(J:DS->Prop)(h1:∀N:DS->Prop,(∀δ',J δ'->N δ')->t { D with nx:=N } δ)(h2:∀δ',J δ'->u D δ'):N7 t u D δ:=h1 _ h2
theorem gR{p:Nat->Bool}{n a:Nat}(ha:a<n)(pa:p a=true)(pb:∀b,b<a->p b=false):∃Fb,(Bc n).filter p=a::Fb:=by
 have e:Bc n=Bc a++(a::(List.range' (a+1) (n - a - 1))):=by
  rw[Jx,Jx,<- Pt,show n - a - 1+1=n - a by omega]
  have:=List.range'_append (s:=0) (m:=a) (n:=n - a) (step:=1)
  rw[show 0+1 * a=a by omega,show a+(n - a)=n by omega] at this
  exact this.symm
 rw[e,Ku,List.filter_eq_nil_iff.mpr λb hb=>by rw[pb b (Fh.mp hb)]; simp,List.nil_append,List.filter_cons_of_pos pa]
 exact ⟨_,rfl⟩
section
variable{P:Bj}{w:World}{K:PySem.W.Frag}{mg:Str->Option Value}{base:Heap}
theorem D0:FnScope ["_law_script", "_law_rows_here", "_law_cell", "_law_draws_here", "_law_pick", "_law_holes", "_law_turn", "_law_n", "_law_here", "_law_far", "_law_some", "_law_values", "_law_told", "_law_due"] ["_law_script"] (Cc aW):=⟨rfl,rfl,rfl,by decide +kernel,rfl,by decide +kernel,by decide +kernel⟩
theorem O8{f f_fewest_holes f_L_draws f_L_next f_L_rows f_L_choose f_L_right  : Addr}{fd d_fewest_holes d_L_draws d_L_next d_L_rows d_L_choose d_L_right:Co}(F:Fun K "law" "law" aW f fd)(G_fewest_holes:FnOk P w K mg base Jv 2 f_fewest_holes d_fewest_holes ["values"] (Nj K (sF)))(b_fewest_holes:Binds K d_fewest_holes ["values"] [])(k_fewest_holes:PySem.W.keepIn K (.ref f_fewest_holes)=true)(m_fewest_holes:mg "fewest_holes" = some (.ref f_fewest_holes))(G_L_draws:FnOk P w K mg base Jv 1 f_L_draws d_L_draws ["_law_cell"] (Uj))(b_L_draws:Binds K d_L_draws ["_law_cell"] [])(k_L_draws:PySem.W.keepIn K (.ref f_L_draws)=true)(m_L_draws:mg "_law_draws" = some (.ref f_L_draws))(G_L_next:FnOk P w K mg base Jv 1 f_L_next d_L_next ["_law_draws_here"] (V0 K kW))(b_L_next:Binds K d_L_next ["_law_draws_here"] [])(k_L_next:PySem.W.keepIn K (.ref f_L_next)=true)(m_L_next:mg "_law_next" = some (.ref f_L_next))(G_L_rows:FnOk P w K mg base Jv 1 f_L_rows d_L_rows [] (Nj K vN))(b_L_rows:Binds K d_L_rows [] [])(k_L_rows:PySem.W.keepIn K (.ref f_L_rows)=true)(m_L_rows:mg "_law_rows" = some (.ref f_L_rows))(G_L_choose:FnOk P w K mg base Jv 1 f_L_choose d_L_choose ["_law_rows_here", "_law_n", "_law_k"] (Nj K (xF)))(b_L_choose:Binds K d_L_choose ["_law_rows_here", "_law_n", "_law_k"] [])(k_L_choose:PySem.W.keepIn K (.ref f_L_choose)=true)(m_L_choose:mg "_law_choose" = some (.ref f_L_choose))(G_L_right:FnOk P w K mg base Jv 5 f_L_right d_L_right ["_law_holes", "_law_rows_here"] (Nj K (oP)))(b_L_right:Binds K d_L_right ["_law_holes", "_law_rows_here"] [])(k_L_right:PySem.W.keepIn K (.ref f_L_right)=true)(m_L_right:mg "_law_right" = some (.ref f_L_right))(mz_range:mg "range" = none)(mz_max:mg "max" = none)(mz_bool:mg "bool" = none)(mz_isinstance:mg "isinstance" = none):FnOk P w K mg base Jv 6 f fd ["_law_script"] (spLawD K):=by
 refine' N8 (k:=5) F D0 (λcdv A outer s H E hr=>?hb) ?h
 case hb =>
  have hr1:Room 1 _:=hr.mono (by decide)
  have hr2:Room 2 _:=hr.mono (by decide)
  have hr3:Room 3 _:=hr.mono (by decide)
  have hr4:Room 4 _:=hr.mono (by decide)
  have hr5:Room 5 _:=hr.mono (by decide)
  have hu64:=hr.units
  have CS1:∀{scope:Scope} (h:scope={ kind:=.function,names:=[(".0",.local),("_law_k",.local),("_law_choose",.globalImplicit),("_law_rows_here",.free),("_law_values",.free)],isGenerator:=false,isCoroutine:=false }),
    CompScope (Sa Jv P w K mg base ["_law_script", "_law_rows_here", "_law_cell", "_law_draws_here", "_law_pick", "_law_holes", "_law_turn", "_law_n", "_law_here", "_law_far", "_law_some", "_law_values", "_law_told", "_law_due"] "law" (Cc aW) f cdv A outer s H E).nox scope [("_law_values",s.heap.objs.size+2),("_law_rows_here",s.heap.objs.size+1)] "_law_k" ["_law_rows_here", "_law_values"] [1,11]:=by
   rintro scope rfl
   refine ⟨by rfl,.inl (by decide +kernel),by rfl,by decide +kernel,.inl rfl,λy c h=>?_,by rfl,by decide +kernel,rfl,λk y j e1 e2=>?_⟩
   ·have z:=Gf h
    simp only[Am,Bk,or_false,Ir] at z
    rcases z with ⟨rfl,rfl⟩ | ⟨rfl,rfl⟩ <;> rfl
   ·match k,e1,e2 with
    | 0,e1,e2=>cases e1; cases e2; exact ⟨rfl,rfl,by first | exact .inl rfl | exact .inr rfl⟩
    | 1,e1,e2=>cases e1; cases e2; exact ⟨rfl,rfl,by first | exact .inl rfl | exact .inr rfl⟩
    | k+2,e1,e2=>cases e1
  exact Ck (Hu (i:=1) D0.nd rfl (Or.inr rfl) (sY G_L_rows hr1 rfl m_L_rows k_L_rows b_L_rows Hd))
   (Ck (Nf Dn rfl (Q7 (eJ (vB (pv 0) Xy (Ym Ci)) (Le (Ao Ci Bi)))) (Iy (i:=2) D0.nd rfl (Dd rfl))
   (Ck (Hu (i:=3) D0.nd rfl (Dd rfl) (vS G_L_draws hr1 rfl m_L_draws k_L_draws b_L_draws Hd (Ao (Av (pv 2)) Bi)))
    (Ck (Hu (i:=4) D0.nd rfl (Dd rfl) (Qj G_L_next hr1 rfl m_L_next k_L_next b_L_next Hd (pv 3) Bi))
    (Ck (Hu (i:=5) D0.nd rfl (Dd rfl) (Lx Ci (Vo (Le (Ao (Od (Oc (Av (pv 4)) Ci) Ci) (Ao (Od (Oc (Av (pv 4)) Ci) Ci) (Ao (Od (Oc (Av (pv 4)) Ci) Ci) (Ao (Od (Oc (Av (pv 4)) Ci) Ci) Bi))))) (Od (Av (pv 4)) Ci))))
    (Ck (Nf Dn rfl (Rm rfl mz_range (Ao Ci Bi)) (Iy (i:=6) D0.nd rfl (Dd rfl))
    (Cw (Lq (Mx (Lf (Fn G_L_right hr5 rfl m_L_right k_L_right b_L_right Hd (Ao (Av (pv 5)) (Ao (Av (pv 1)) Bi)))))
     (Cw (Er Ky)) Ju)))
    (Ck (Hu (i:=7) D0.nd rfl (Dd rfl) (Lx Ci (Od (Qj G_L_next hr1 rfl m_L_next k_L_next b_L_next Hd (pv 3) Bi) Ci)))
    (Ck (Hu (i:=8) D0.nd rfl (Dd rfl) (Fn G_L_choose hr1 rfl m_L_choose k_L_choose b_L_choose Hd (Ao (Av (pv 1)) (Ao (Av (pv 7)) (Ao (Oc (Av (pv 7)) Ci) Bi)))))
    (Ck (Hu (i:=9) D0.nd rfl (Dd rfl) (Lx (jG (Od (Qj G_L_next hr1 rfl m_L_next k_L_next b_L_next Hd (pv 3) Bi) (eR Ci Ci)) (eR Ci Ci)) (Od (Qj G_L_next hr1 rfl m_L_next k_L_next b_L_next Hd (pv 3) Bi) (eR Ci Ci))))
    (Ck (Hu (i:=10) D0.nd rfl (Dd rfl) (Le (Ao Ci (Ao Ci (Ao (Lx Ci (Od (Av (pv 4)) Ci)) (Ao (Lx Ci (Av (pv 9))) (Ao (Lx Ci (jG (Av (pv 9)) (Lx Ci (Od (Qj G_L_next hr1 rfl m_L_next k_L_next b_L_next Hd (pv 3) Bi) (eR Ci Ci))))) Bi)))))))
    (Cw (Nf Dn rfl (Q7 (eJ (Av (pv 10)) (Le (Ao (Pd (Av (pv 8))) (Ao (Lx (Av (pv 8)) Ci) (Ao (Eg (qC rfl) j4 rfl mz_max (by decide +kernel) (Ao Ci (Ao (Sr (Av (pv 8)) Ci) Bi))) Bi)))))) (Iy (i:=11) D0.nd rfl (Or.inr rfl))
    (Ck (Hu (i:=12) D0.nd rfl (Dd rfl) (Fn G_fewest_holes hr2 rfl m_fewest_holes k_fewest_holes b_fewest_holes Hd (Ao (Av (pv 11)) Bi)))
     (Ck (Hu (i:=13) D0.nd rfl (Dd rfl) (Vo (Ud (CS1 rfl) rfl (qI rfl mz_range (Ao Ci (Ao Ci Bi))) (λ_ _ _=>cZ (vC (Fn G_L_choose hr1 rfl m_L_choose k_L_choose b_L_choose Hd (Ao (Av (pv 1)) (Ao (Av (pv 0)) (Ao (Oc (Av (pv 0)) Ci) Bi)))) (Av (pv 2)))) (λ_ _ _=>Av (pv 0))) Ci))
     (Cw (Lq (cP (Qu (Um hu64 (Av (pv 12)) (Av (pv 13))) (Qo (Lf (Eg Qh Qk rfl mz_isinstance (by decide +kernel) (Ao (Av (pv 12)) (Ao (Wh (n := "bool") rfl mz_bool (by decide +kernel)) Bi)))))))
     (Cw (Er Ky)) Ju)))))))))))))))
   (Cw (Er Ky)))
 case h =>
  intro ns h63
  array_get_dec
  refine ⟨rfl,?_⟩
  array_get_dec
  have lc:(Lr ns none (some 6)).length<=6:=U2 6
  refine ⟨by rw[Ac]; omega,?_⟩
  refine Yk (l:=Lr ns none (some 6)++[0]) (g:=Br) (by rw[Cu]; rfl) (λi δ=>∃(v2 v3 v4 v5 v6 v7 v8 v9 v10 v11 v12 v13:DV) (n':Nat),δ=⟨[.scr ns,.dat .sh Mc,v2,v3,v4,v5,v6,v7,v8,v9,v10,v11,v12,v13],n'⟩/\NP v2/\NP v3/\NP v4/\NP v5/\NP v6/\NP v7/\NP v8/\NP v9/\NP v10/\NP v11/\NP v12/\NP v13/\n'<=100 * i) ?_ ?_ ?_
  ·exact ⟨_,_,_,_,_,_,_,_,_,_,_,_,_,rfl,Iz,Iz,Iz,Iz,Iz,Iz,Iz,Iz,Iz,Iz,Iz,Iz,by omega⟩
  ·(intro i c _ hc q_; obtain ⟨v2,v3,v4,v5,v6,v7,v8,v9,v10,v11,v12,v13,n0,rfl,hv2,hv3,hv4,hv5,hv6,hv7,hv8,hv9,hv10,hv11,hv12,hv13,hn⟩ := q_)
   have hi:i<7:=by
    have:=(Ap.mp hc).1
    rw[Ax,Eu] at this
    omega
   rw[e_name2 (m:=.sh)]
   dsimp only
   refine iR (λδ'=>δ'=⟨[.scr ns,.dat .sh Mc,.dat .sh (.int c),.drw,v4,v5,v6,v7,v8,v9,v10,v11,v12,v13],n0⟩) (λN hN=>?_) ?_
   ·array_get_dec
    exact hN _ rfl
   rintro _ rfl
   refine iR (λδ'=>∃r1:Int,δ'=⟨[.scr ns,.dat .sh Mc,.dat .sh (.int c),.drw,.dat .sh (.int r1),v5,v6,v7,v8,v9,v10,v11,v12,v13],n0+1⟩) (λN hN=>?_) ?_
   ·array_get_dec
    refine ⟨rfl,by omega,λr1=>?_⟩
    array_get_dec
    exact hN _ ⟨r1,rfl⟩
   rintro _ ⟨r1,rfl⟩
   refine iR (λδ'=>∃m:Nat,δ'=⟨[.scr ns,.dat .sh Mc,.dat .sh (.int c),.drw,.dat .sh (.int r1),.dat .sh (.int m),v6,v7,v8,v9,v10,v11,v12,v13],n0+1⟩/\1<=m/\m<=10) (λN hN=>?_) ?_
   ·array_get_dec
    have b4:=Pj r1 (b:=4) (by decide)
    have b5:=Pj (r1 / 4) (b:=5) (by decide)
    have b7:=Pj (r1 / 4) (b:=7) (by decide)
    have b10:=Pj (r1 / 4) (b:=10) (by decide)
    obtain ⟨x,_,e2,xm⟩:=iS (l:=[r1 / 4 % 5,r1 / 4 % 7,r1 / 4 % 7,r1 / 4 % 10]) b4.1 (by simpa using b4.2)
    have e3:=zT Br [r1 / 4 % 5,r1 / 4 % 7,r1 / 4 % 7,r1 / 4 % 10] (r1 % 4)
    rw[e2] at e3
    have x9:0<=x/\x<=9:=by
     simp only[Am,Bk,or_false] at xm
     omega
    refine ⟨_,e3,?_⟩
    array_get_dec
    obtain ⟨m,em,m1,m10⟩ : ∃m:Nat,1+x=(m:Int)/\1<=m/\m<=10:=⟨(1+x).toNat,by omega,by omega,by omega⟩
    rw[em]
    exact hN _ ⟨m,rfl,m1,m10⟩
   (intro _ q_; obtain ⟨m,rfl,m1,m10⟩ := q_)
   refine iR (λδ'=>∃v6:DV,δ'=⟨[.scr ns,.dat .sh Mc,.dat .sh (.int c),.drw,.dat .sh (.int r1),.dat .sh (.int m),v6,v7,v8,v9,v10,v11,v12,v13],n0+1⟩/\NP v6) (λN hN=>?_) ?_
   ·array_get_dec
    refine Yk (l:=Bc 2) (g:=λi:Nat=>.int i) rfl (λ_ δ=>∃v6:DV,δ=⟨[.scr ns,.dat .sh Mc,.dat .sh (.int c),.drw,.dat .sh (.int r1),.dat .sh (.int m),v6,v7,v8,v9,v10,v11,v12,v13],n0+1⟩/\NP v6) ?_ ?_ ?_
    ·exact ⟨_,rfl,hv6⟩
    ·(intro j a _ ha q_; obtain ⟨v6,rfl,hv6⟩ := q_)
     array_get_dec
     refine ⟨m,rfl,by omega,by omega,?_⟩
     array_get_dec
     exact ⟨_,rfl,Hz⟩
    ·(intro _ q_; obtain ⟨v6,rfl,hv6⟩ := q_)
     exact hN _ ⟨v6,rfl,hv6⟩
   (intro _ q_; obtain ⟨v6,rfl,hv6⟩ := q_)
   refine iR (λδ'=>∃nn:Nat,δ'=⟨[.scr ns,.dat .sh Mc,.dat .sh (.int c),.drw,.dat .sh (.int r1),.dat .sh (.int m),v6,.dat .sh (.int nn),v8,v9,v10,v11,v12,v13],n0+2⟩/\1<=nn/\nn<=58) (λN hN=>?_) ?_
   ·array_get_dec
    refine ⟨rfl,by omega,λr2=>?_⟩
    array_get_dec
    have b58:=Pj r2 (b:=58) (by decide)
    obtain ⟨nn,en,n1,n58⟩ : ∃nn:Nat,1+r2 % 58=(nn:Int)/\1<=nn/\nn<=58:=⟨(1+r2 % 58).toNat,by omega,by omega,by omega⟩
    rw[en]
    exact hN _ ⟨nn,rfl,n1,n58⟩
   (intro _ q_; obtain ⟨nn,rfl,n1,n58⟩ := q_)
   refine iR (λδ'=>∃hr:Nat,δ'=⟨[.scr ns,.dat .sh Mc,.dat .sh (.int c),.drw,.dat .sh (.int r1),.dat .sh (.int m),v6,.dat .sh (.int nn),.dat .sh (.int hr),v9,v10,v11,v12,v13],n0+2⟩/\1<=hr/\hr+1<=118264581564861424) (λN hN=>?_) ?_
   ·array_get_dec
    refine ⟨nn,(nn:Int) / 2,rfl,by omega,by omega,by omega,?_⟩
    rw[Di,show ((nn:Int) / 2).toNat=nn / 2 by omega]
    array_get_dec
    exact hN _ ⟨ch nn (nn / 2),rfl,dG (by omega),J3 n58⟩
   (intro _ q_; obtain ⟨hr,rfl,hr1,hr2⟩ := q_)
   refine iR (λδ'=>∃F:Int,δ'=⟨[.scr ns,.dat .sh Mc,.dat .sh (.int c),.drw,.dat .sh (.int r1),.dat .sh (.int m),v6,.dat .sh (.int nn),.dat .sh (.int hr),.dat .sh (.int F),v10,v11,v12,v13],n0+4⟩/\0<=F/\F<1000000000000) (λN hN=>?_) ?_
   ·array_get_dec
    refine ⟨rfl,by omega,λr3=>⟨by decide,?_⟩⟩
    array_get_dec
    have a3:=Pj r3 (b:=1000000) (by decide)
    refine ⟨by decide,rfl,by omega,λr4=>⟨by decide,?_⟩⟩
    array_get_dec
    have a4:=Pj r4 (b:=1000000) (by decide)
    exact hN _ ⟨_,rfl,by omega,by omega⟩
   (intro _ q_; obtain ⟨F,rfl,F0,F1⟩ := q_)
   refine iR (λδ'=>∃a g:Int,δ'=⟨[.scr ns,.dat .sh Mc,.dat .sh (.int c),.drw,.dat .sh (.int r1),.dat .sh (.int m),v6,.dat .sh (.int nn),.dat .sh (.int hr),.dat .sh (.int F),.dat .sh (.list [.int 1,.int 2,.int a,.int (1+F),.int g]),v11,v12,v13],n0+5⟩/\1<=a/\a<=1000/\1<=g/\g<=100000000000000000) (λN hN=>?_) ?_
   ·array_get_dec
    have a1:=Pj r1 (b:=1000) (by decide)
    refine ⟨rfl,by omega,λr5=>⟨by decide,?_⟩⟩
    array_get_dec
    have a5:=Pj r5 (b:=100000) (by decide)
    refine ⟨.inr ⟨by omega,by omega⟩,?_⟩
    have p0:0<=F * (1+r5 % 100000):=Int.mul_nonneg F0 (by omega)
    have p1:F * (1+r5 % 100000)<=999999999999 * 100000:=Int.mul_le_mul (by omega) (by omega) (by omega) (by omega)
    exact hN _ ⟨_,_,rfl,by omega,by omega,by omega,by omega⟩
   (intro _ q_; obtain ⟨a,g,rfl,a0,a1,g0,g1⟩ := q_)
   array_get_dec
   refine Yk (l:=[1,2,a,1+F,g,(hr:Int),(hr:Int)+1,if (hr:Int) - 1 > 1 then (hr:Int) - 1 else 1]) (g:=Br) rfl (λ_ δ=>∃v11 v12 v13:DV,δ=⟨[.scr ns,.dat .sh Mc,.dat .sh (.int c),.drw,.dat .sh (.int r1),.dat .sh (.int m),v6,.dat .sh (.int nn),.dat .sh (.int hr),.dat .sh (.int F),.dat .sh (.list [.int 1,.int 2,.int a,.int (1+F),.int g]),v11,v12,v13],n0+5⟩/\NP v11/\NP v12/\NP v13) ?_ ?_ ?_
   ·exact ⟨_,_,_,rfl,hv11,hv12,hv13⟩
   ·(intro j v _ hj q_; obtain ⟨v11,v12,v13,rfl,hv11,hv12,hv13⟩ := q_)
    have bv:1<=v/\v<=118264581564861424:=by
     have:=Ba hj
     simp only[Am,Bk,or_false] at this
     rcases this with rfl | rfl | rfl | rfl | rfl | rfl | rfl | rfl
     ·decide
     ·decide
     ·omega
     ·omega
     ·omega
     ·omega
     ·omega
     ·split <;> omega
    generalize [Br 1,.int 2,.int a,.int (1+F),.int g]=LL
    array_get_dec
    refine U4 bv.2 (λh k1 k2 k3 k4=>?_)
    array_get_dec
    refine mM (l:=Bc 60) (g:=λk:Nat=>.int (1+(k:Int))) rfl (λk=>decide (v<=((ch (k+1) ((k+1) / 2):Nat):Int))) (λk=>.int (1+(k:Int))) (λk hk yes no hy hn=>?_) ?_
    ·have hk':=Fh.mp hk
     array_get_dec
     refine ⟨1+(k:Int),(1+(k:Int)) / 2,rfl,by omega,by omega,by omega,?_⟩
     rw[show (1+(k:Int)).toNat=k+1 by omega,show ((1+(k:Int)) / 2).toNat=(k+1) / 2 by omega]
     array_get_dec
     refine oE (λq=>?_) (λq=>?_)
     ·array_get_dec
      exact hy q
     ·array_get_dec
      exact hn q
    obtain ⟨Fb,er⟩:=gR (p:=λk=>decide (v<=((ch (k+1) ((k+1) / 2):Nat):Int))) (n:=60) (a:=h - 1) (by omega) (by
     rw[show h - 1+1=h by omega]
     exact decide_eq_true k3) λb hb=>decide_eq_false (Int.not_le.mpr (k4 (b+1) (by omega) (by omega)))
    rw[er]
    array_get_dec
    rw[show (1+((h - 1:Nat):Int))=(h:Int) by omega]
    array_get_dec
    exact ⟨_,_,_,rfl,Hz,Hz,Hz⟩
   ·(intro _ q_; obtain ⟨v11,v12,v13,rfl,hv11,hv12,hv13⟩ := q_)
    exact ⟨_,_,_,_,_,_,_,_,_,_,_,_,_,rfl,Hz,I0,Hz,Hz,hv6,Hz,Hz,Hz,Hz,hv11,hv12,hv13,by omega⟩
  ·(intro _ q_; obtain ⟨v2,v3,v4,v5,v6,v7,v8,v9,v10,v11,v12,v13,n0,rfl,_⟩ := q_)
   array_get_dec
end
structure Def(K:PySem.W.Frag)(x:Str)(st:Stmt)(f:Addr)(fd:Co):Prop where
 nm:PySem.W.nsIn K Cj x=some (some (.ref f))
 fn:Fun K x x st f fd
theorem def_mk{K:PySem.W.Frag}{x:Str}{st:Stmt}{f:Addr}{od an:Option Addr}{sl:Array (Option Value)}{oc kV dc pm cd ct:Value}(a:PySem.W.nsIn K Cj x=some (some (.ref f)))(l:K.lookup f=some ⟨oc,od,.func (PySem.W.fnOf x x (Nq st) (Kt st) (Cc st) .none kV dc pm an cd ct),sl⟩)(c:PySem.W.codeIn K cd x=true)(k:PySem.W.keepIn K (.ref f)=true):Def K x st f (PySem.W.fnOf x x (Nq st) (Kt st) (Cc st) .none kV dc pm an cd ct):=⟨a,tZ l c k⟩
theorem EF{P:List Value->Prop}(h:P []):∀us:List Value,us.length=0->P us
 | [],_=>h
theorem CZ{P:List Value->Prop}{n:Nat}(h:∀a (us:List Value),us.length=n->P (a::us)):∀us:List Value,us.length=n+1->P us
 | a::us,e=>h a us (Nat.succ.inj e)
theorem A5{P:List Value->Prop}(h:∀a0,P [a0]):∀us:List Value,us.length=1->P us:=CZ λa us e=>EF (P:=λus=>P (a::us)) (h a) us e
theorem xT{P:List Value->Prop}(h:∀a0 a1,P [a0,a1]):∀us:List Value,us.length=2->P us:=CZ λa us e=>A5 (P:=λus=>P (a::us)) (h a) us e
theorem DU{P:List Value->Prop}(h:∀a0 a1 a2,P [a0,a1,a2]):∀us:List Value,us.length=3->P us:=CZ λa us e=>xT (P:=λus=>P (a::us)) (h a) us e
theorem all_mk{l:PySem.W.OpenLaw}{q:Bj}{w:World}{K:PySem.W.Frag}{h:Heap}{mg:Str->Option Value}{fa f1 f2 f3 f4 f5 f6 f7 f8 f9 f10 f11 f12 f13 f14 f15 f16 f17 f18 f19 f20:Addr}{d1 d2 d3 d4 d5 d6 d7 d8 d9 d10 d11 d12 d13 d14 d15 d16 d17 d18 d19:Co}(X:K.In h)(G:h.Ns Cj mg)(hfa:mg "law" = some (.ref fa)){od an:Option Addr}{sl:Array (Option Value)}{oc kV dc pm cd ct:Value}(D1:Def K "_law_draws" eH f1 d1)(D2:Def K "_law_next" oN f2 d2)(D3:Def K "choose" Yo f3 d3)(D4:Def K "word_at" Vs f4 d4)(D5:Def K "words_of" Pi f5 d5)(D6:Def K "within" Up f6 d6)(D7:Def K "plain" eI f7 d7)(D8:Def K "fewest_holes" Mt f8 d8)(D9:Def K "grown" Xf f9 d9)(D10:Def K "chains" Tw f10 d10)(D11:Def K "most" jZ f11 d11)(D12:Def K "is_whole" Ss f12 d12)(D13:Def K "is_word" Vn f13 d13)(D14:Def K "is_chain" Tb f14 d14)(D15:Def K "shows_most" Pg f15 d15)(D16:Def K "_law_within" Lk f16 d16)(D17:Def K "_law_rows" Np f17 d17)(D18:Def K "_law_choose" Of f18 d18)(D19:Def K "_law_right" Mn f19 d19)(aL:PySem.W.nsIn K Cj "law" = some (some (.ref f20)))(lL:K.lookup f20=some ⟨oc,od,.func (PySem.W.fnOf "law" "law" (Nq aW) (Kt aW) (Cc aW) .none kV dc pm an cd ct),sl⟩)(cL:PySem.W.codeIn K cd "law" = true)(kL:PySem.W.keepIn K (.ref f20)=true)(z1:PySem.W.nsIn K Cj "min" = some none)(z2:PySem.W.nsIn K Cj "range" = some none)(z3:PySem.W.nsIn K Cj "len" = some none)(z4:PySem.W.nsIn K Cj "all" = some none)(z5:PySem.W.nsIn K Cj "enumerate" = some none)(z6:PySem.W.nsIn K Cj "bool" = some none)(z7:PySem.W.nsIn K Cj "isinstance" = some none)(z8:PySem.W.nsIn K Cj "int" = some none)(z9:PySem.W.nsIn K Cj "tuple" = some none)(z10:PySem.W.nsIn K Cj "list" = some none)(z11:PySem.W.nsIn K Cj "zip" = some none)(z12:PySem.W.nsIn K Cj "set" = some none)(z13:PySem.W.nsIn K Cj "sorted" = some none)(z14:PySem.W.nsIn K Cj "max" = some none)(tz_often:PySem.W.nsIn K Cj "often" = some none)(tz_cut_by:PySem.W.nsIn K Cj "cut_by" = some none):cU q K/\∃fd:Co,(∀(s:Aj) (v:Value),BindsTo s fd ⟨[v],[]⟩ [("_law_script",v)])/\∀base:Heap,K.In base->base.Ns Cj mg->FnOk l.prog w K mg base Jv 6 fa fd ["_law_script"] (DL.spLawD K):=by
 have e:=hfa.symm.trans (PySem.W.mg_of X G aL)
 cases e
 have FL:=tZ (st:=aW) lL cL kL
 have b1:=D1.fn.binds (ps:=["_law_cell"]) λ_ _ _ _ _ _=>A5 (λ_=>rfl)
 have b2:=D2.fn.binds (ps:=["_law_draws_here"]) λ_ _ _ _ _ _=>A5 (λ_=>rfl)
 have b3:=D3.fn.binds (ps:=["n", "k"]) λ_ _ _ _ _ _=>xT (λ_ _=>rfl)
 have b4:=D4.fn.binds (ps:=["holes", "many", "number"]) λ_ _ _ _ _ _=>DU (λ_ _ _=>rfl)
 have b5:=D5.fn.binds (ps:=["holes", "many"]) λ_ _ _ _ _ _=>xT (λ_ _=>rfl)
 have b6:=D6.fn.binds (ps:=["one", "other"]) λ_ _ _ _ _ _=>xT (λ_ _=>rfl)
 have b7:=D7.fn.binds (ps:=["code"]) λ_ _ _ _ _ _=>A5 (λ_=>rfl)
 have b8:=D8.fn.binds (ps:=["values"]) λ_ _ _ _ _ _=>A5 (λ_=>rfl)
 have b9:=D9.fn.binds (ps:=["chain", "place"]) λ_ _ _ _ _ _=>xT (λ_ _=>rfl)
 have b10:=D10.fn.binds (ps:=["holes"]) λ_ _ _ _ _ _=>A5 (λ_=>rfl)
 have b11:=D11.fn.binds (ps:=["holes"]) λ_ _ _ _ _ _=>A5 (λ_=>rfl)
 have b12:=D12.fn.binds (ps:=["thing"]) λ_ _ _ _ _ _=>A5 (λ_=>rfl)
 have b13:=D13.fn.binds (ps:=["holes", "thing"]) λ_ _ _ _ _ _=>xT (λ_ _=>rfl)
 have b14:=D14.fn.binds (ps:=["holes", "thing"]) λ_ _ _ _ _ _=>xT (λ_ _=>rfl)
 have b15:=D15.fn.binds (ps:=["holes", "thing"]) λ_ _ _ _ _ _=>xT (λ_ _=>rfl)
 have b16:=D16.fn.binds (ps:=["_law_one", "_law_other"]) λ_ _ _ _ _ _=>xT (λ_ _=>rfl)
 have b17:=D17.fn.binds (ps:=[]) λ_ _ _ _ _ _=>EF rfl
 have b18:=D18.fn.binds (ps:=["_law_rows_here", "_law_n", "_law_k"]) λ_ _ _ _ _ _=>DU (λ_ _ _=>rfl)
 have b19:=D19.fn.binds (ps:=["_law_holes", "_law_rows_here"]) λ_ _ _ _ _ _=>xT (λ_ _=>rfl)
 have m1:=PySem.W.mg_of X G D1.nm
 have m2:=PySem.W.mg_of X G D2.nm
 have m3:=PySem.W.mg_of X G D3.nm
 have m4:=PySem.W.mg_of X G D4.nm
 have m5:=PySem.W.mg_of X G D5.nm
 have m6:=PySem.W.mg_of X G D6.nm
 have m7:=PySem.W.mg_of X G D7.nm
 have m8:=PySem.W.mg_of X G D8.nm
 have m9:=PySem.W.mg_of X G D9.nm
 have m10:=PySem.W.mg_of X G D10.nm
 have m11:=PySem.W.mg_of X G D11.nm
 have m12:=PySem.W.mg_of X G D12.nm
 have m13:=PySem.W.mg_of X G D13.nm
 have m14:=PySem.W.mg_of X G D14.nm
 have m15:=PySem.W.mg_of X G D15.nm
 have m16:=PySem.W.mg_of X G D16.nm
 have m17:=PySem.W.mg_of X G D17.nm
 have m18:=PySem.W.mg_of X G D18.nm
 have m19:=PySem.W.mg_of X G D19.nm
 have y1:=PySem.W.mg_none_of X G z1
 have y2:=PySem.W.mg_none_of X G z2
 have y3:=PySem.W.mg_none_of X G z3
 have y4:=PySem.W.mg_none_of X G z4
 have y5:=PySem.W.mg_none_of X G z5
 have y6:=PySem.W.mg_none_of X G z6
 have y7:=PySem.W.mg_none_of X G z7
 have y8:=PySem.W.mg_none_of X G z8
 have y9:=PySem.W.mg_none_of X G z9
 have y10:=PySem.W.mg_none_of X G z10
 have y11:=PySem.W.mg_none_of X G z11
 have y12:=PySem.W.mg_none_of X G z12
 have y13:=PySem.W.mg_none_of X G z13
 have y14:=PySem.W.mg_none_of X G z14
 have tn_often:=DL.tab_no tz_often
 have tn_cut_by:=DL.tab_no tz_cut_by
 refine ⟨rP tn_often tn_cut_by,PySem.W.fnOf "law" "law" (Nq aW) (Kt aW) (Cc aW) .none kV dc pm an cd ct,λs v=>.of_eq rfl,λbase _ _=>?_⟩
 have g1:=pZ (P:=l.prog) (w:=w) (mg:=mg) (base:=base) D1.fn
 have g2:=uD (P:=l.prog) (w:=w) (mg:=mg) (base:=base) D2.fn
 have g3:=pH (P:=l.prog) (w:=w) (mg:=mg) (base:=base) D3.fn y1 y2
 have g4:=jL (P:=l.prog) (w:=w) (mg:=mg) (base:=base) D4.fn g3 b3 D3.fn.kp m3 y3
 have g5:=fW (P:=l.prog) (w:=w) (mg:=mg) (base:=base) D5.fn g3 b3 D3.fn.kp m3 g4 b4 D4.fn.kp m4 y2
 have g6:=qM (P:=l.prog) (w:=w) (mg:=mg) (base:=base) D6.fn y4
 have g7:=sT (P:=l.prog) (w:=w) (mg:=mg) (base:=base) D7.fn g6 b6 D6.fn.kp m6 y5
 have g8:=Wy (P:=l.prog) (w:=w) (mg:=mg) (base:=base) D8.fn g3 b3 D3.fn.kp m3
 have g9:=uY (P:=l.prog) (w:=w) (mg:=mg) (base:=base) D9.fn
 have g10:=rJ (P:=l.prog) (w:=w) (mg:=mg) (base:=base) D10.fn g9 b9 D9.fn.kp m9 y2
 have g11:=zG (P:=l.prog) (w:=w) (mg:=mg) (base:=base) D11.fn g5 b5 D5.fn.kp m5 g10 b10 D10.fn.kp m10
 have g12:=fQ (P:=l.prog) (w:=w) (mg:=mg) (base:=base) D12.fn y6 y7 y8
 have g13:=lM (P:=l.prog) (w:=w) (mg:=mg) (base:=base) D13.fn g12 b12 D12.fn.kp m12 y9 y7
 have g14:=hX (P:=l.prog) (w:=w) (mg:=mg) (base:=base) D14.fn g13 b13 D13.fn.kp m13 g6 b6 D6.fn.kp m6 y3 y10 y7 y11
 have g15:=aJ (P:=l.prog) (w:=w) (mg:=mg) (base:=base) D15.fn g14 b14 D14.fn.kp m14 y10 y7 y3 y12
 have g16:=Yl (P:=l.prog) (w:=w) (mg:=mg) (base:=base) D16.fn
 have g17:=dD (P:=l.prog) (w:=w) (mg:=mg) (base:=base) D17.fn y3 y2
 have g18:=Xw (P:=l.prog) (w:=w) (mg:=mg) (base:=base) D18.fn y1
 have g19:=aQ (P:=l.prog) (w:=w) (mg:=mg) (base:=base) D19.fn g7 b7 D7.fn.kp m7 g15 b15 D15.fn.kp m15 g11 b11 D11.fn.kp m11 g16 b16 D16.fn.kp m16 g18 b18 D18.fn.kp m18 y10 y7 y3 y9 y13 y12 y2
 exact O8 FL g8 b8 D8.fn.kp m8 g1 b1 D1.fn.kp m1 g2 b2 D2.fn.kp m2 g17 b17 D17.fn.kp m17 g18 b18 D18.fn.kp m18 g19 b19 D19.fn.kp m19 y2 y14 y6 y7
theorem walk{l:PySem.W.OpenLaw}{q:Bj}{loose:List Str}{XP:(Str->Option Value)->Heap->Prop}{YP:World->Heap->Prop}{d:DefRec}{K:Params->PySem.W.Frag}(hn:l.most=some 63)(hdf:d.params.defaults=[])(hY:∀(w:World) (h:Heap),YP w h->(K w.params).In h)(F:∀(w:World) (mg:Str->Option Value) (fa:Addr) (h:Heap),(K w.params).In h->h.Ns Cj mg->mg d.name=some (.ref fa)->cU q (K w.params)/\∃fd:Co,(∀(s:Aj) (u:Value),BindsTo s fd ⟨[u],[]⟩ [("_law_script",u)])/\∀base:Heap,(K w.params).In base->base.Ns Cj mg->FnOk l.prog w (K w.params) mg base Jv 6 fa fd ["_law_script"] (DL.spLawD (K w.params))):PySem.W.WalkO q loose XP YP l.row.toRowW d [] (λf vs=>PySem.call f vs) :=
 L2.walk_ofD (n:=63) (k:=6) (x := "_law_script") (CX:=λ_=>Jv) (sp:=λw=>DL.spLawD (K w.params)) hn (by decide) hdf ⟨rfl,by decide,by decide,rfl⟩ hY F (λ_ _ a ns hl _ hS=>⟨a,ns,rfl,hS,hl,λ_=>rfl⟩) λ_ _ _ _ _ z=>z
end K17
theorem ES:PySem.Challenge.rw_needledeck_k17_the_most_and_fewest_holes.wellSaid=true:=by kernel_rfl
open PySem PySem.W PyProof.Rows
local macro_rules | `(tactic| refine $h:ident (q := $q) (loose := $l) (Xt := $a) (XP := $b) (Yf := $c) (Ya := $d) (YP := $e) (N := $n) ?hl $y*) => `(tactic| refine $h:ident (q := $q) (loose := $l) (Xt := $a) (XP := $b) (Yf := $c) (Ya := $d) (YP := $e) (N := $n) (fun _ => by kernel_rfl) $y*)
set_option maxRecDepth 100000 in
set_option maxHeartbeats 0 in
theorem PySem.Challenge.cw_needledeck_k17_the_most_and_fewest_holes_holds : PySem.Challenge.rw_needledeck_k17_the_most_and_fewest_holes.Holds := by
 w_on; refine holds_law ES λsaid=>?_; k_head; (case hw=>w_witness2)
 k_fill
 refine K17.walk (l:=PySem.Challenge.rw_needledeck_k17_the_most_and_fewest_holes) rfl rfl (λw h Y=>PySem.W.kIn_of Y) ?F
 case F =>
  intro w mg fa h KX G hmg
  refine' K17.all_mk KX G hmg (K17.def_mk ?a1 ?l1 ?c1 ?k1) (K17.def_mk ?a2 ?l2 ?c2 ?k2) (K17.def_mk ?a3 ?l3 ?c3 ?k3) (K17.def_mk ?a4 ?l4 ?c4 ?k4) (K17.def_mk ?a5 ?l5 ?c5 ?k5) (K17.def_mk ?a6 ?l6 ?c6 ?k6) (K17.def_mk ?a7 ?l7 ?c7 ?k7) (K17.def_mk ?a8 ?l8 ?c8 ?k8) (K17.def_mk ?a9 ?l9 ?c9 ?k9) (K17.def_mk ?a10 ?l10 ?c10 ?k10) (K17.def_mk ?a11 ?l11 ?c11 ?k11) (K17.def_mk ?a12 ?l12 ?c12 ?k12) (K17.def_mk ?a13 ?l13 ?c13 ?k13) (K17.def_mk ?a14 ?l14 ?c14 ?k14) (K17.def_mk ?a15 ?l15 ?c15 ?k15) (K17.def_mk ?a16 ?l16 ?c16 ?k16) (K17.def_mk ?a17 ?l17 ?c17 ?k17) (K17.def_mk ?a18 ?l18 ?c18 ?k18) (K17.def_mk ?a19 ?l19 ?c19 ?k19) ?aL ?lL ?cL ?kL ?z1 ?z2 ?z3 ?z4 ?z5 ?z6 ?z7 ?z8 ?z9 ?z10 ?z11 ?z12 ?z13 ?z14 ?tz_often ?tz_cut_by
  (case a1=>k_is); (case l1=>k_is); (case c1=>k_is); (case k1=>k_is)
  (case a2=>k_is); (case l2=>k_is); (case c2=>k_is); (case k2=>k_is)
  (case a3=>k_is); (case l3=>k_is); (case c3=>k_is); (case k3=>k_is)
  (case a4=>k_is); (case l4=>k_is); (case c4=>k_is); (case k4=>k_is)
  (case a5=>k_is); (case l5=>k_is); (case c5=>k_is); (case k5=>k_is)
  (case a6=>k_is); (case l6=>k_is); (case c6=>k_is); (case k6=>k_is)
  (case a7=>k_is); (case l7=>k_is); (case c7=>k_is); (case k7=>k_is)
  (case a8=>k_is); (case l8=>k_is); (case c8=>k_is); (case k8=>k_is)
  (case a9=>k_is); (case l9=>k_is); (case c9=>k_is); (case k9=>k_is)
  (case a10=>k_is); (case l10=>k_is); (case c10=>k_is); (case k10=>k_is)
  (case a11=>k_is); (case l11=>k_is); (case c11=>k_is); (case k11=>k_is)
  (case a12=>k_is); (case l12=>k_is); (case c12=>k_is); (case k12=>k_is)
  (case a13=>k_is); (case l13=>k_is); (case c13=>k_is); (case k13=>k_is)
  (case a14=>k_is); (case l14=>k_is); (case c14=>k_is); (case k14=>k_is)
  (case a15=>k_is); (case l15=>k_is); (case c15=>k_is); (case k15=>k_is)
  (case a16=>k_is); (case l16=>k_is); (case c16=>k_is); (case k16=>k_is)
  (case a17=>k_is); (case l17=>k_is); (case c17=>k_is); (case k17=>k_is)
  (case a18=>k_is); (case l18=>k_is); (case c18=>k_is); (case k18=>k_is)
  (case a19=>k_is); (case l19=>k_is); (case c19=>k_is); (case k19=>k_is)
  (case aL=>k_is); (case lL=>k_is); (case cL=>k_is); (case kL=>k_is)
  (case z1=>k_is); (case z2=>k_is); (case z3=>k_is); (case z4=>k_is); (case z5=>k_is); (case z6=>k_is); (case z7=>k_is); (case z8=>k_is); (case z9=>k_is); (case z10=>k_is); (case z11=>k_is); (case z12=>k_is); (case z13=>k_is); (case z14=>k_is)
  (case tz_often=>k_is)
  (case tz_cut_by=>k_is)