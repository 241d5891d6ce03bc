import PyProof.Rows.All
import KE.KLam
import Wide.All
import OpenK.AllK
import Wide.FinOn
import Lean
import PyProof.EqAt
import PyProof.EqKinds
import PyProof.TupleCall
import PyProof.FactsAll.set
import PyProof.FactsAll.subtypes
import KE.KTupSum
import KE.KMinBuiltin
import PyProof.Draws
import PyProof.DictWalks
import PyProof.DictCompW
import PyProof.IsiH_tuple
import PyProof.FactsAll.zip
import KE.KDictOf
import PyProof.DictValues
import KE.KSortKey
import PyProof.WalkInts
import PyProof.TupleKey
import PyProof.SetRoads
import PyProof.IsRules
import PySem.Challenge.RW_needledeck_k57_what_shows_fewest
set_option Elab.async false
set_option linter.all false
set_option maxRecDepth 100000
set_option maxHeartbeats 4000000
set_option genSizeOf false
local macro_rules|`(tactic|omega)=>`(tactic|first|lia|omega +splitDisjunctions)
theorem e0a2{A B:Prop}{G:Prop}(k:A→B→G)(h:A∧B):G:=k h.1 h.2
theorem e0a3{A B C:Prop}{G:Prop}(k:A→B→C→G)(h:A∧B∧C):G:=k h.1 h.2.1 h.2.2
theorem e0a4{A B C D:Prop}{G:Prop}(k:A→B→C→D→G)(h:A∧B∧C∧D):G:=k h.1 h.2.1 h.2.2.1 h.2.2.2
theorem e0a5{A B C D E:Prop}{G:Prop}(k:A→B→C→D→E→G)(h:A∧B∧C∧D∧E):G:=k h.1 h.2.1 h.2.2.1 h.2.2.2.1 h.2.2.2.2
theorem e0a6{A B C D E F:Prop}{G:Prop}(k:A→B→C→D→E→F→G)(h:A∧B∧C∧D∧E∧F):G:=k h.1 h.2.1 h.2.2.1 h.2.2.2.1 h.2.2.2.2.1 h.2.2.2.2.2
theorem e1a1{t0:Type}{A:t0→Prop}{G:Prop}(k:∀x,A x→G)(h:∃x,A x):G:=h.elim λx h=>k x h
theorem e1a2{t0:Type}{A B:t0→Prop}{G:Prop}(k:∀x,A x→B x→G)(h:∃x,A x∧B x):G:=h.elim λx h=>k x h.1 h.2
theorem e1a3{t0:Type}{A B C:t0→Prop}{G:Prop}(k:∀x,A x→B x→C x→G)(h:∃x,A x∧B x∧C x):G:=h.elim λx h=>k x h.1 h.2.1 h.2.2
theorem e1a4{t0:Type}{A B C D:t0→Prop}{G:Prop}(k:∀x,A x→B x→C x→D x→G)(h:∃x,A x∧B x∧C x∧D x):G:=h.elim λx h=>k x h.1 h.2.1 h.2.2.1 h.2.2.2
theorem e2a1{t0 t1:Type}{A:t0→t1→Prop}{G:Prop}(k:∀x y,A x y→G)(h:∃x y,A x y):G:=h.elim λx h=>h.elim λy h=>k x y h
theorem e2a2{t0 t1:Type}{A B:t0→t1→Prop}{G:Prop}(k:∀x y,A x y→B x y→G)(h:∃x y,A x y∧B x y):G:=h.elim λx h=>h.elim λy h=>k x y h.1 h.2
theorem e2a3{t0 t1:Type}{A B C:t0→t1→Prop}{G:Prop}(k:∀x y,A x y→B x y→C x y→G)(h:∃x y,A x y∧B x y∧C x y):G:=h.elim λx h=>h.elim λy h=>k x y h.1 h.2.1 h.2.2
theorem e2a4{t0 t1:Type}{A B C D:t0→t1→Prop}{G:Prop}(k:∀x y,A x y→B x y→C x y→D x y→G)(h:∃x y,A x y∧B x y∧C x y∧D x y):G:=h.elim λx h=>h.elim λy h=>k x y h.1 h.2.1 h.2.2.1 h.2.2.2
theorem e3a1{t0 t1 t2:Type}{A:t0→t1→t2→Prop}{G:Prop}(k:∀x y z,A x y z→G)(h:∃x y z,A x y z):G:=h.elim λx h=>h.elim λy h=>h.elim λz h=>k x y z h
theorem e3a3{t0 t1 t2:Type}{A B C:t0→t1→t2→Prop}{G:Prop}(k:∀x y z,A x y z→B x y z→C x y z→G)(h:∃x y z,A x y z∧B x y z∧C x y z):G:=h.elim λx h=>h.elim λy h=>h.elim λz h=>k x y z h.1 h.2.1 h.2.2
theorem e3a4{t0 t1 t2:Type}{A B C D:t0→t1→t2→Prop}{G:Prop}(k:∀x y z,A x y z→B x y z→C x y z→D x y z→G)(h:∃x y z,A x y z∧B x y z∧C x y z∧D x y z):G:=h.elim λx h=>h.elim λy h=>h.elim λz h=>k x y z h.1 h.2.1 h.2.2.1 h.2.2.2
theorem e3a5{t0 t1 t2:Type}{A B C D E:t0→t1→t2→Prop}{G:Prop}(k:∀x y z,A x y z→B x y z→C x y z→D x y z→E x y z→G)(h:∃x y z,A x y z∧B x y z∧C x y z∧D x y z∧E x y z):G:=h.elim λx h=>h.elim λy h=>h.elim λz h=>k x y z h.1 h.2.1 h.2.2.1 h.2.2.2.1 h.2.2.2.2
theorem e4a1{t0 t1 t2 t3:Type}{A:t0→t1→t2→t3→Prop}{G:Prop}(k:∀x y z w,A x y z w→G)(h:∃x y z w,A x y z w):G:=h.elim λx h=>h.elim λy h=>h.elim λz h=>h.elim λw h=>k x y z w h
theorem e4a2{t0 t1 t2 t3:Type}{A B:t0→t1→t2→t3→Prop}{G:Prop}(k:∀x y z w,A x y z w→B x y z w→G)(h:∃x y z w,A x y z w∧B x y z w):G:=h.elim λx h=>h.elim λy h=>h.elim λz h=>h.elim λw h=>k x y z w h.1 h.2
theorem e5a2{t0 t1 t2 t3 t4:Type}{A B:t0→t1→t2→t3→t4→Prop}{G:Prop}(k:∀x y z w u,A x y z w u→B x y z w u→G)(h:∃x y z w u,A x y z w u∧B x y z w u):G:=h.elim λx h=>h.elim λy h=>h.elim λz h=>h.elim λw h=>h.elim λu h=>k x y z w u h.1 h.2
theorem e4a5{t0 t1 t2 t3:Type}{A B C D E:t0→t1→t2→t3→Prop}{G:Prop}(k:∀x y z w,A x y z w→B x y z w→C x y z w→D x y z w→E x y z w→G)(h:∃x y z w,A x y z w∧B x y z w∧C x y z w∧D x y z w∧E x y z w):G:=h.elim λx h=>h.elim λy h=>h.elim λz h=>h.elim λw h=>k x y z w h.1 h.2.1 h.2.2.1 h.2.2.2.1 h.2.2.2.2
theorem e5a5{t0 t1 t2 t3 t4:Type}{A B C D E:t0→t1→t2→t3→t4→Prop}{G:Prop}(k:∀x y z w u,A x y z w u→B x y z w u→C x y z w u→D x y z w u→E x y z w u→G)(h:∃x y z w u,A x y z w u∧B x y z w u∧C x y z w u∧D x y z w u∧E x y z w u):G:=h.elim λx h=>h.elim λy h=>h.elim λz h=>h.elim λw h=>h.elim λu h=>k x y z w u h.1 h.2.1 h.2.2.1 h.2.2.2.1 h.2.2.2.2
theorem e6a5{t0 t1 t2 t3 t4 t5:Type}{A B C D E:t0→t1→t2→t3→t4→t5→Prop}{G:Prop}(k:∀x y z w u v,A x y z w u v→B x y z w u v→C x y z w u v→D x y z w u v→E x y z w u v→G)(h:∃x y z w u v,A x y z w u v∧B x y z w u v∧C x y z w u v∧D x y z w u v∧E x y z w u v):G:=h.elim λx h=>h.elim λy h=>h.elim λz h=>h.elim λw h=>h.elim λu h=>h.elim λv h=>k x y z w u v h.1 h.2.1 h.2.2.1 h.2.2.2.1 h.2.2.2.2
theorem e4a7{t0 t1 t2 t3:Type}{A B C D E F H:t0→t1→t2→t3→Prop}{G:Prop}(k:∀x y z w,A x y z w→B x y z w→C x y z w→D x y z w→E x y z w→F x y z w→H x y z w→G)(h:∃x y z w,A x y z w∧B x y z w∧C x y z w∧D x y z w∧E x y z w∧F x y z w∧H x y z w):G:=h.elim λx h=>h.elim λy h=>h.elim λz h=>h.elim λw h=>k x y z w h.1 h.2.1 h.2.2.1 h.2.2.2.1 h.2.2.2.2.1 h.2.2.2.2.2.1 h.2.2.2.2.2.2
theorem e5a7{t0 t1 t2 t3 t4:Type}{A B C D E F H:t0→t1→t2→t3→t4→Prop}{G:Prop}(k:∀x y z w u,A x y z w u→B x y z w u→C x y z w u→D x y z w u→E x y z w u→F x y z w u→H x y z w u→G)(h:∃x y z w u,A x y z w u∧B x y z w u∧C x y z w u∧D x y z w u∧E x y z w u∧F x y z w u∧H x y z w u):G:=h.elim λx h=>h.elim λy h=>h.elim λz h=>h.elim λw h=>h.elim λu h=>k x y z w u h.1 h.2.1 h.2.2.1 h.2.2.2.1 h.2.2.2.2.1 h.2.2.2.2.2.1 h.2.2.2.2.2.2
theorem e6a7{t0 t1 t2 t3 t4 t5:Type}{A B C D E F H:t0→t1→t2→t3→t4→t5→Prop}{G:Prop}(k:∀x y z w u v,A x y z w u v→B x y z w u v→C x y z w u v→D x y z w u v→E x y z w u v→F x y z w u v→H x y z w u v→G)(h:∃x y z w u v,A x y z w u v∧B x y z w u v∧C x y z w u v∧D x y z w u v∧E x y z w u v∧F x y z w u v∧H x y z w u v):G:=h.elim λx h=>h.elim λy h=>h.elim λz h=>h.elim λw h=>h.elim λu h=>h.elim λv h=>k x y z w u v h.1 h.2.1 h.2.2.1 h.2.2.2.1 h.2.2.2.2.1 h.2.2.2.2.2.1 h.2.2.2.2.2.2
local macro_rules|`(tactic|obtain $p:rcasesPatMed:=$v:term)=>do
 let c s:=((p.raw.reprint.getD "").splitOn s).length
 if c ","<3||c "|">1||c ":">1 then Lean.Macro.throwUnsupported
 let T (a:Lean.Syntax):Lean.TSyntax `Lean.Parser.Tactic.rcasesPatMed:=⟨a⟩
 let q:=p.raw
 let x:=q[0][0]
 let l:=x[1].getSepArgs
 let mut a:Array (Lean.TSyntax ``Lean.Parser.Tactic.tacticSeq):=#[]
 let mut y:Array Lean.Term:=#[]
 let mut z:Array (Array (Lean.TSyntax `tactic)):=#[]
 for o in l do
  let u:=o[0][0][0]
  let f:=Lean.mkIdent (←Lean.Macro.addMacroScope (.mkSimple s!"f{y.size}"))
  if u[0].getId==`rfl then
   y:=y.push f
   z:=z.push #[←`(tactic|subst $f:term)]
  else if u[0].isIdent then
   y:=y.push ⟨u[0]⟩
   z:=z.push #[]
  else if u[1].isMissing then
   y:=y.push (←`(_))
   z:=z.push #[]
  else
   y:=y.push f
   z:=z.push #[←`(tactic|obtain $(T o[0]):rcasesPatMed:=$f)]
 for j in [0:l.size] do
  if j==1 then continue
  let n:=l.size-j
  let mut i:=y.extract 0 n
  let mut w:=(z.extract 0 n).flatten
  if j>0 then
   i:=i.push (←`(r_))
   w:=w.push (←`(tactic|obtain $(T (q.setArg 0 (q[0].setArg 0 (x.setArg 1 (Lean.mkNullNode (Lean.mkSepArray (l.extract n l.size) (Lean.mkAtom ","))))))):rcasesPatMed:=r_))
  for k in [0:i.size] do
   let m:=Lean.mkIdent (.mkSimple s!"e{k}a{i.size-k}")
   let g←if v.raw.isIdent then `(tactic|(revert $(⟨v⟩):ident;refine $m fun $i*=>?_)) else `(tactic|refine $m (fun $i*=>?_) $v)
   a:=a.push (←`(Lean.Parser.Tactic.tacticSeq| $g:tactic;$[$w];*))
  if j==0&& !v.raw.isIdent then
   a:=a.push (←`(Lean.Parser.Tactic.tacticSeq| have h_ := $v; obtain $p := h_))
   break
 a:=a.push (←`(Lean.Parser.Tactic.tacticSeq| rcases $v:term with $p))
 `(tactic|first $[| $a]*)
open Array renaming length_toList → Ar, getElem?_eq_getElem → Cr, getD_eq_getD_getElem? → Dl, getElem?_toList → Hi, toList_push → Jt, replicate → Oa, getElem?_eq_none → Rb, getElem?_setIfInBounds → cC, size_setIfInBounds → iQ, toList_filterMap → mG
open Bool renaming false_eq_true → Dg, and_eq_true → Eu, false_ne_true → Gc, not_true → Ni, and_false → Pm, eq_false_iff → Yn, not_eq_true → bT
open Classical renaming propDecidable → Aw, byContradiction → Ft
open False renaming elim → Kd
open ForInStep renaming yield → Qs
open Function renaming comp → Tw
open Int renaming toNat_natCast → Df, toNat_of_nonneg → Lc, eq_ofNat_of_zero_le → oW
open LawfulBEq renaming eq_of_beq → Qo
open List renaming mem_cons_self → Ab, length_map → Ad, mem_singleton → Ag, mem_cons_of_mem → Ah, mem_cons → Ai, mem_append_right → Ao, mem_append_left → Ap, size_toArray → Aq, getElem?_eq_some_iff → Av, mem_append → Ay, length_append → Az, pairwise_cons → Ba, map_cons → Bb, length_cons → Be, getElem?_eq_getElem → Bf, mem_of_getElem? → Bg, range → Bh, not_mem_nil → Bk, map_append → Bp, mem_map → Bq, nodup_cons → Bt, getElem?_map → Cc, lookup_cons → Cd, replicate → Cm, pairwise_append → Cn, mem_range → Cu, nodup_nil → Cv, length_range → Cy, sublist_append_right → Dh, sublist_cons_self → Dn, append_assoc → Dq, take_succ_eq_append_getElem → Dy, append_nil → Ec, mem_flatMap → El, length_eq_zero_iff → Eo, mem_filter → Er, length_reverse → Ez, map_map → Fg, length_take → Fl, nodup_append → Fq, take_length → Gb, map_id' → Gd, pairwise_singleton → Gg, replicate_succ → Gk, filterMap_cons → Gm, length → Ha, mem_replicate → Hh, length_singleton → Hj, take_sublist → Hq, reverse_cons → Hr, map_set → Hs, map_congr_left → Ii, getElem_mem → Il, cons_append → Io, take_of_length_le → Jc, mem_filterMap → Jd, length_zipIdx → Je, find?_cons → Jk, any_cons → Jl, perm_append_comm → Js, flatten_cons → Jw, getElem?_append_right → Ki, getD_eq_getElem?_getD → Kj, pairwise_iff_getElem → Ku, length_pos_iff → Ky, length_erase_of_mem → Le, lookup → Lp, length_pos_of_mem → Ly, getElem?_set → Lz, filter_eq_nil_iff → Ma, ext_getElem? → Mb, map_take → Nh, mem_of_mem_take → Nt, mem_erase_of_ne → Nu, length_nil → Os, filter_append → Pl, mem_of_find?_eq_some → Py, getElem?_append_left → Pz, perm_middle → Qw, length_drop → Qx, foldl_cons → Tc, find?_some → Td, eraseIdx_sublist → Th, findIdx?_eq_some_iff_getElem → Xq, map_nil → Yj, flatMap_cons → Yk, any_map → Yl, all_eq_true → bS, eq_nil_of_length_eq_zero → cB, mem_take_iff_getElem → iP, getElem?_take_of_lt → mD, getElem?_set_self → oT, drop_of_length_le → oU, append_eq_nil_iff → oV, mem_iff_getElem? → rG, find?_eq_none → i7
open List.Pairwise renaming nil → Eh
open List.Perm renaming swap → Jm, refl → Nz, cons → Ra
open List.Sublist renaming refl → Ds
open List.cons renaming inj → Fu
open Nat renaming le_refl → An, le_trans → By, lt_of_lt_of_le → Ca, ne_of_lt → Cs, not_lt_zero → Dw, zero_le → Ee, lt_irrefl → Hb, mod_eq_of_lt → Hd, pow_le_pow_right → Hv, mod_lt → Jj, succ_pos → Ks, le_of_lt → Kt, zero_add → Mk, lt_succ_of_lt → Ml, lt_succ_iff → Ot, mul_add → Qp, lt_trichotomy → Qq, add_mod → Qr, lt_succ_self → Qz, lt_trans → Tb, add_right_comm → Xp, mul_comm → Za
open Ne renaming symm → Ny
open Option renaming isSome_iff_exists → Kx
open Option.some renaming inj → Ce
open Or renaming inl → Ci, inr → Vt
open Prod.mk renaming injEq → Fn
open PyProof.Rows renaming slot_tuple_getitem → Ct, IntsAre → Lg, callWith_type1 → Ms, envOfC → Pn, AllBare → Rz, subscriptTail → Sx, slicePart_none → Xk, entry_tuple_getitem → Yz, args_tuple_getitem → bZ, Subscript_ → cA, subscriptTail_builtinR → j4
open PyProof.Rows.F renaming plain_set_update_loop → Dc, entry_set_update_loop → Ga
open PySem renaming PyData → Ac, wpAny_bind → Ae, wpAny_pure → Ak, Shared → Al, sizeLine → Bd, SetTable → Bi, Program → Bs, tupleKeyHash → Bu, starEach → Bz, intKind → Cb, FuncData → Cg, mainGlobals → Co, Around → Dj, wpAny_newObj_type → Dk, wpAny_holding → Dz, cellsFrom → Fb, behindInMarks → Fk, IsTupleKey → Fv, codeAny_builtin → Fz, wpAny_call_entry → Gf, wpAny_callSpecial?_slot → Gw, wpAny_mono → Gy, compareOp → Ho, wpAny_truthy_bool → Ie, sizeLine_eq → Ig, foldedSetIterable → Ih, sliceBounds → Jr, bootBuiltins → Ju, assignEach → Jv, wpAny_passesOwn → Kb, binaryOp → Kc, backTo → Kl, sysModules → Lb, codeAny_mono → Lf, wpAny_of_eq → Mq, swapsWith → Mr, wpAny_typeOf → Na, wpAny_storeSet_of → Nb, rawInt → Nc, ofAClassStatement → Nf, codeAny → Ng, plainId_quiet → Ov, getItem → Ow, NameKind → Ph, wpAny_Call_Name_kw → Qu, wpAny_sequenceKey → Rv, wpAny_field → Rw, hashByValue → Rx, strLen_append → Sy, setSearchFrom → Sz, setField → Tt, pyNext → Uk, builtinsNs → Ul, wpAny_execs_nil → Vo, letOwnedTupleGo → Vp, codeAny_of_tree → Vq, newFunctionEnv → Xl, assign → Xm, IsPart → Xr, tupleKind → Yg, holding → Yh, callerA → Yi, Keyword → Ym, evalPart_none → bQ, attributeBase → bR, tupleKind_room_in1 → bV, setEntries → bW, entryOfKey → bX, call_meets → bY, wpAny_setState_of → fB, wpAny_pyIter_list → fE, slot_list_getitem → fF, setAddHashed → fG, wpAny_forIn_list → iM, wpAny_askSetting → iN, noFill_tuple_add → iO, wpAny_getItem_list_slice → uI, wpAny_comprehension_free → uJ, wpAny_pyNext_tuple_item → i6, wpAny_pyNext_tuple_end → i9, wpAny_pyNext_list_item → j3, codeAny_compStart_list → j5
open PySem.Around renaming under_plainId → Fj
open PySem.Builtin.Frozenset renaming updateFrom → Te
open PySem.Builtin.List renaming listTooLong → Jy, listLengthHint → Vv
open PySem.Builtin.Range renaming rangeSize → Kk
open PySem.Builtin.Slice renaming slicePlaces → Ea, sliceAdjust → Gn, sliceApplied → Iy, sliceFields → Wx
open PySem.Builtin.Tuple renaming tupleExact → Di, tupleItemsOf → Mt, tupleIsExact → Vu
open PySem.Calls renaming Name_function_global → fI
open PySem.Heap renaming get?_push_of_some → Am, get?_push_size → Bl, lt_size → Br, SameBut → Fs, get?_update_self → Hk, get?_update_other → oX
open PySem.Heap.SameBut renaming update → Ck
open PySem.NameKind renaming cell → Eb, free → Ei
open PySem.Obj renaming putSet → Xn, mapSeq → Xo
open PySem.PassesOwn renaming never → Cw
open PySem.PyData renaming int → Ax, depthAll → Bc, depth → Bx, tuple → Fp, showable → Jb, hasDict → Lr, shownAll → Nr, shown → Oq, bool → Tg, showableAll → Vs, hasDictAll → Ww
open PySem.SeqAt renaming EqAt → Pg
open PySem.SetTable renaming below → Bj, insertAt → Bv, bits → Bw, runEnd → Cp, turns → Da, Probe → Do, sizeAbove → Dx, laid → Gj, advance → Ib, insertAt_perm → Ik, layClean → Ji, grown → Oo, toList_insertAt → Pk, slot → Tu, fill → Tv, has → Vr
open PySem.SetTable.below renaming go → Ry
open PySem.SetTable.layClean renaming free → Dr
open PySem.SetTable.probe renaming go → Gx
open PySem.SetTable.sizeAbove renaming go → Km
open PySem.Str renaming ofString → Gz
open PySem.Value renaming ref → Cq, type → Fh, int → Ox, isInt → Px, none → Qy
open Sum renaming inl → Ta
open True renaming intro → Lo
namespace L2
open PySem PySem.Spec PyProof.Rows
abbrev Ld:=Sum Int Str
def eZ:Ld->Value->Bool
 | .inl k,v=>Px k v
 | .inr x,v=>Value.isStrOf x v
def EH(w:World):Ld->Int
 | .inl k=>hashInt k
 | .inr x=>hashStr w x
theorem Hm:∀{k:Ld} {v:Value},eZ k v=true->(∃i t,k=Ta i/\v=Ox i t)\/(∃x t,k=Sum.inr x/\v=Value.str x t)
 | .inl i,v,h=>by
  obtain ⟨t,e⟩:=Value.isInt_shape (k:=i) (v:=v) h
  exact .inl ⟨i,t,rfl,e⟩
 | .inr x,v,h=>by
  obtain ⟨t,e⟩:=Value.isStrOf_shape (x:=x) (v:=v) h
  exact .inr ⟨x,t,rfl,e⟩
theorem rN(i:Int)(t:Tok):eZ (.inl i) (.int i t)=true:=by simp [eZ,Px]
theorem tK(x:Str)(t:Tok):eZ (.inr x) (.str x t)=true:=by simp [eZ,Value.isStrOf]
theorem R9(a b:Int):decide ((Ta a:Ld)=Ta b)=(a == b):=by
 by_cases e:a=b
 ·subst e; simp
 ·have h:¬ (Ta a:Ld)=Ta b:=λq=>e (Sum.inl.inj q)
  rw[decide_eq_false h]
  exact (beq_eq_false_iff_ne.mpr e).symm
theorem O8(a b:Str):decide ((Sum.inr a:Ld)=Sum.inr b)=decide (a=b):=by
 by_cases e:a=b
 ·subst e; simp
 ·have h:¬ (Sum.inr a:Ld)=Sum.inr b:=λq=>e (Sum.inr.inj q)
  rw[decide_eq_false h,decide_eq_false e]
theorem Q4(a:Int)(b:Str):decide ((Ta a:Ld)=Sum.inr b)=false:=decide_eq_false (λq=>nomatch q)
theorem N4(a:Str)(b:Int):decide ((Sum.inr a:Ld)=Ta b)=false:=decide_eq_false (λq=>nomatch q)
def Ij(prog:Bs)(w:World):PySem.KeyKind prog w Ld where
 is:=eZ
 hash:=EH w
 inj:=λv a b ha hb=>by
  rcases Hm ha with ⟨i,t,rfl,rfl⟩ | ⟨x,t,rfl,rfl⟩
  ·rcases Hm hb with ⟨j,u,rfl,e⟩ | ⟨y,u,rfl,e⟩
   ·injection e with e1 _; rw[e1]
   ·exact nomatch e
  ·rcases Hm hb with ⟨j,u,rfl,e⟩ | ⟨y,u,rfl,e⟩
   ·exact nomatch e
   ·injection e with e1 _; rw[e1]
 byValue:=λk v h=>by
  rcases Hm h with ⟨i,t,rfl,rfl⟩ | ⟨x,t,rfl,rfl⟩ <;> rfl
 pyHash:=λhv h=>by
  rcases Hm hv with ⟨i,t,rfl,rfl⟩ | ⟨x,t,rfl,rfl⟩
  ·exact wpAny_pyHash_int h
  ·exact wpAny_pyHash_str h
 eqBool:=λhu hv h=>by
  rcases Hm hu with ⟨i,t,rfl,rfl⟩ | ⟨x,t,rfl,rfl⟩
  ·rcases Hm hv with ⟨j,u,rfl,rfl⟩ | ⟨y,u,rfl,rfl⟩
   ·rw[R9] at h; exact wpAny_eqBool_int h
   ·rw[Q4] at h; exact SeqAt.EqAt.int_str i t y u _ _ _ _ h
  ·rcases Hm hv with ⟨j,u,rfl,rfl⟩ | ⟨y,u,rfl,rfl⟩
   ·rw[N4] at h; exact SeqAt.EqAt.str_int x t j u _ _ _ _ h
   ·rw[O8] at h; exact wpAny_eqBool_str h
 «strs»:=λk x t v h=>by
  rcases Hm h with ⟨i,u,rfl,e⟩ | ⟨y,u,rfl,e⟩
  ·exact nomatch e
  ·injection e with e1 _
   subst e1
   cases v <;> rfl
theorem iX(prog:Bs)(w:World)(i:Int)(t:Tok):(Ij prog w).is (.inl i) (.int i t)=true:=rN i t
theorem kQ(prog:Bs)(w:World)(x:Str)(t:Tok):(Ij prog w).is (.inr x) (.str x t)=true:=tK x t
inductive V where
 | non | bl (b:Bool) | int (i:Int) | str (x:Str) | byt (b:Array UInt8) | flt (b:UInt64) | ref (a:Addr) | ty (n:String)
 deriving DecidableEq
def RelV:V->Value->Prop
 | .non,u=>u=Qy
 | .bl b,u=>u=Value.bool b
 | .int i,u=>∃t,u=Ox i t
 | .str x,u=>∃t,u=Value.str x t
 | .byt b,u=>∃t,u=Value.bytes b t
 | .flt b,u=>∃t,u=Value.float b t
 | .ref a,u=>u=Cq a
 | .ty n,u=>u=Fh n
abbrev Fe:List V->List Value->Prop:=Paired RelV
theorem Fe.length{xs:List V}{us:List Value}(r:Fe xs us):xs.length=us.length:=Paired.length r
theorem Fe.get:∀{xs:List V} {us:List Value} {i:Nat} {x:V},Fe xs us->xs[i]? = some x->∃u,us[i]? = some u/\RelV x u
 | _,_,_,_,.nil,e=>by simp at e
 | _,_,0,_,.cons r _,e=>by simp at e; subst e; exact ⟨_,rfl,r⟩
 | _,_,i+1,x,.cons _ t,e=>by
  obtain ⟨u,h1,h2⟩:=Fe.get (i:=i) (x:=x) t (by simpa using e)
  exact ⟨u,by simpa using h1,h2⟩
theorem Fe.set{x:V}{u:Value}(r:RelV x u):∀{xs:List V} {us:List Value} (i:Nat),Fe xs us->Fe (xs.set i x) (us.set i u)
 | _,_,_,.nil=>.nil
 | _,_,0,.cons _ t=>.cons r t
 | _,_,i+1,.cons q t=>.cons q (Fe.set r i t)
theorem Fe.append:∀{xs ys:List V} {us ws:List Value},Fe xs us->Fe ys ws->Fe (xs++ys) (us++ws)
 | _,_,_,_,.nil,s=>s
 | _,_,_,_,.cons r t,s=>.cons r (Fe.append t s)
theorem Fe.take:∀{xs:List V} {us:List Value} (n:Nat),Fe xs us->Fe (xs.take n) (us.take n)
 | _,_,0,_=>.nil
 | _,_,_+1,.nil=>.nil
 | _,_,n+1,.cons r t=>.cons r (Fe.take n t)
theorem Fe.drop:∀{xs:List V} {us:List Value} (n:Nat),Fe xs us->Fe (xs.drop n) (us.drop n)
 | _,_,0,r=>r
 | _,_,_+1,.nil=>.nil
 | _,_,n+1,.cons _ t=>Fe.drop n t
def oB:Option V->Option Value->Prop
 | some v,some u=>RelV v u
 | none,none=>True
 | _,_=>False
def KV{κ:Type}:List (κ×V)->List (κ×Value)->Prop:=Paired λ(p:κ×V) (q:κ×Value)=>p.1=q.1/\RelV p.2 q.2
def kV:Ld->V
 | .inl i=>.int i
 | .inr x=>.str x
inductive HO where
 /-- a list -/
 | lst (xs:List V)
 /-- a tuple (never changes) -/
 | tup (xs:List V)
 /-- a dict whose Np are ints and texts; one whose Np are tuples of ints and texts (the empty one is both) -/
 | dK (kvs:List (Ld×V)) | dT (kvs:List (List Ld×V))
 /-- a set of ints: its members,its size -/
 | set (S:Int->Bool) (n:Nat)
 /-- an instance of the class at C,its dict at dx,its attributes -/
 | ins (C dx:Addr) (fs:List (Str×V))
 /-- the dict of the instance at x -/
 | own (x:Addr)
 /-- the dict of an exception -/
 | xd (fs:List (Str×V))
 /-- a bound method,f of x -/
 | met (f x:Addr)
 /-- a range object lo,lo+1,.. below hi -/
 | rng (lo hi:Int)
 /-- a thing that is known to the object (the script; a dict while a loop walks it): read,never written while it is so -/
 | frz (o:Obj) (u:HO)
 /-- a code object's table -/
 | tbl (ps:Array Value)
 /-- any other thing,by what is true of its one object (a def of one's own: mH a S n:=HO.ext λh=>..) -/
 | ext (φ:Heap->Prop)
abbrev Hp:=Addr->Option HO
def upd(H:Hp)(a:Addr)(o:HO):Hp:=λb=>if b=a then some o else H b
theorem Dt{H:Hp}{a:Addr}{o:HO}:upd H a o a=some o:=by unfold upd; rw[if_pos rfl]
theorem En{H:Hp}{a b:Addr}{o:HO}(h:b≠a):upd H a o b=H b:=by unfold upd; rw[if_neg h]
theorem X7{H:Hp}{a b:Addr}{o u:HO}(h:H a=some o)(h':H b=some u)(d:o≠u):a≠b:=by
 intro e; subst e; rw[h] at h'; exact d (Ce h')
theorem Fm{H:Hp}{a b:Addr}{o:HO}(h:H a=some o)(h':H b=none):a≠b:=by
 intro e; subst e; rw[h] at h'; cases h'
section
variable(P:Bs)(w:World)
def Gq(H:Hp)(h:Heap)(a:Addr):HO->Prop
 | .lst xs=>xs.length<=Bd/\∃(its:List Value) (n:Nat),Fe xs its/\h.get? a=some { cls:=.type "list",data:=.seq its.toArray n }
 | .tup xs=>xs.length<=Bd/\∃its:List Value,Fe xs its/\IsTup h a its.toArray
 | .dK kvs=>kvs.length<=Bd/\(a == Lb)=false/\∃vs,KV kvs vs/\h.DictOf (Ij P w) a vs
 | .dT kvs=>kvs.length<=Bd/\(a == Lb)=false/\∃xs:List (List Ld×Addr×Value),
   Paired (λ(p:List Ld×V) (q:List Ld×Addr×Value)=>p.1=q.1/\H q.2.1=some (.tup (p.1.map kV))/\RelV p.2 q.2.2) kvs xs /\
   ∃o es ep,h.get? a=some o/\o.ExactDict/\o.data=.dict es ep/\es.toList=xs.map (bX (Yg (Ij P w)))/\(xs.map (·.1)).Nodup/\ep=es.size
 | .set S n=>h.SetOf (Cb P w) a S n
 | .ins C dx fs=>H dx=some (.own a)/\fs.length<=1000/\dx≠a/\h.get? a=some (PySem.W.instObj C dx) /\
   ∃mA,h.Ns1 dx mA/\(∀f,oB (fs.lookup f) (mA f))/\PySem.Within mA (fs.map (·.1))
 | .own _=>∃o,h.get? a=some o
 | .xd fs=>∃mA,h.Ns1 a mA/\∀f,oB (fs.lookup f) (mA f)
 | .rng lo hi=>∃t u v,h.get? a=some { cls:=.type "range",data:=.fields #[.int lo t,.int hi u,.int 1 v] }
 | .frz o u=>h.get? a=some o/\Gq H h a u
 | .tbl ps=>∃qs:Array Value,h.get? a=some { cls:=.none,data:=.fields qs }/\TriplesOk qs.toList/\∀(pos:Pos) (v:Value),codeAmong pos qs.toList=some v->∃(c:Addr) (oc:Obj) (us:Array Value) (q:Str) (t t0:Tok),v=.ref c/\H c=some (.own a)/\h.get? c=some oc/\oc.data=.fields us/\us[1]? = some (.str q t)/\ps[0]? = some (.str q t0)
 | .met f x=>h.get? a=some (PySem.W.methodObj (.ref f) (.ref x))
 | .ext φ=>φ h/\(∃o,h.get? a=some o)/\∀h1 h2:Heap,φ h1->(∀o,h1.get? a=some o->h2.get? a=some o)->φ h2
def Vj(H:Hp)(h:Heap):Prop:=∀a o,H a=some o->Gq P w H h a o
end
section
variable{P:Bs}{w:World}{H H':Hp}{h h':Heap}{a:Addr}{o:HO}
theorem Gq.lt(x:Gq P w H h a o):a<h.objs.size:=by
 cases o with
 | lst xs=>obtain ⟨_,_,_,_,e⟩:=x; exact Br e
 | tup xs=>obtain ⟨_,_,_,p⟩:=x; exact p.lt
 | dK kvs=>obtain ⟨_,_,_,_,o,_,_,e,_⟩:=x; exact Br e
 | dT kvs=>obtain ⟨_,_,_,_,o,_,_,e,_⟩:=x; exact Br e
 | set S n=>obtain ⟨o,_,_,_,e,_⟩:=x; exact Br e
 | ins C dx fs=>obtain ⟨_,_,_,e,_⟩:=x; exact Br e
 | own y=>obtain ⟨_,e⟩:=x; exact Br e
 | xd fs=>obtain ⟨_,⟨_,_,_,e,_⟩,_⟩:=x; exact Br e
 | rng lo hi=>obtain ⟨_,_,_,e⟩:=x; exact Br e
 | frz ob u=>obtain ⟨e,_⟩:=x; exact Br e
 | tbl ps=>obtain ⟨_,e,_⟩:=x; exact Br e
 | met f y=>exact Br (show h.get? a=some _ from x)
 | ext φ=>obtain ⟨_,⟨_,e⟩,_⟩:=x; exact Br e
theorem Paired.mapP{α β:Type}{F G:α->β->Prop}:∀{l₁:List α} {l₂:List β},Paired F l₁ l₂->(∀a b,F a b->G a b)->Paired G l₁ l₂
 | _,_,.nil,_=>.nil
 | _,_,.cons r t,f=>.cons (f _ _ r) (Paired.mapP t f)
theorem Gq.stay(x:Gq P w H h a o)(k:∀b u,(b=a\/H b=some (.own a))->h.get? b=some u->h'.get? b=some u)(ho:∀b,H b=some (.own a)->H' b=some (.own a))(ht:∀b xs,H b=some (.tup xs)->H' b=some (.tup xs)):Gq P w H' h' a o:=by
 induction o with
 | lst xs=>obtain ⟨z,its,n,r,e⟩:=x; exact ⟨z,its,n,r,k _ _ (.inl rfl) e⟩
 | tup xs=>obtain ⟨z,its,r,ob,e,c⟩:=x; exact ⟨z,its,r,ob,k _ _ (.inl rfl) e,c⟩
 | dK kvs=>obtain ⟨z,y,vs,r,ob,es,ep,e,c⟩:=x; exact ⟨z,y,vs,r,ob,es,ep,k _ _ (.inl rfl) e,c⟩
 | dT kvs =>
  obtain ⟨z,y,xs,r,ob,es,ep,e,c⟩:=x
  exact ⟨z,y,xs,Paired.mapP r λp q z=>⟨z.1,ht _ _ z.2.1,z.2.2⟩,ob,es,ep,k _ _ (.inl rfl) e,c⟩
 | set S n=>obtain ⟨ob,es,ep,t,e,c⟩:=x; exact ⟨ob,es,ep,t,k _ _ (.inl rfl) e,c⟩
 | ins C dx fs =>
  obtain ⟨d,z,ne,e,mA,⟨od,es,ep,e2,c⟩,r⟩:=x
  exact ⟨ho _ d,z,ne,k _ _ (.inl rfl) e,mA,⟨od,es,ep,k _ _ (.inr d) e2,c⟩,r⟩
 | own y=>obtain ⟨ob,e⟩:=x; exact ⟨ob,k _ _ (.inl rfl) e⟩
 | xd fs=>obtain ⟨mA,⟨od,es,ep,e,c⟩,r⟩:=x; exact ⟨mA,⟨od,es,ep,k _ _ (.inl rfl) e,c⟩,r⟩
 | rng lo hi=>obtain ⟨t,u,v,e⟩:=x; exact ⟨t,u,v,k _ _ (.inl rfl) e⟩
 | frz ob u ih=>obtain ⟨e,q⟩:=x; exact ⟨k _ _ (.inl rfl) e,ih q⟩
 | tbl ps =>
  obtain ⟨qs,e,t,z⟩:=x
  exact ⟨qs,k _ _ (.inl rfl) e,t,λpos v y=>by
   obtain ⟨c,oc,us,q,t,t0,h1,h2,h3,h4⟩:=z pos v y
   exact ⟨c,oc,us,q,t,t0,h1,ho _ h2,k _ _ (.inr h2) h3,h4⟩⟩
 | met f y =>
  have e:h.get? a=some (PySem.W.methodObj (.ref f) (.ref y)):=x
  show h'.get? a=some (PySem.W.methodObj (.ref f) (.ref y))
  exact k a _ (.inl rfl) e
 | ext φ=>obtain ⟨p,⟨o,e⟩,st⟩:=x; exact ⟨st _ _ p λo q=>k _ _ (.inl rfl) q,⟨o,k _ _ (.inl rfl) e⟩,st⟩
theorem Vj.lt(x:Vj P w H h)(e:H a=some o):a<h.objs.size:=(x a o e).lt
theorem Vj.fresh(x:Vj P w H h)(e:h.objs.size<=a):H a=none:=by
 cases q:H a with
 | none=>rfl
 | some u=>exact absurd (Ca (x.lt q) e) (Hb _)
theorem Vj.kept(x:Vj P w H h)(k:∀b u,h.get? b=some u->h'.get? b=some u):Vj P w H h':=λa o e =>
 (x a o e).stay (λb u _ q=>k b u q) (λ_ q=>q) λ_ _ q=>q
theorem Vj.laid(x:Vj P w H h)(k:∀b u,h.get? b=some u->h'.get? b=some u)(hp:h.objs.size<=a)(new:Gq P w (upd H a o) h' a o):Vj P w (upd H a o) h':=λb u e=>by
 have hn:=x.fresh hp
 by_cases hb:b=a
 ·subst hb; rw[Dt] at e; cases e; exact new
 ·rw[En hb] at e
  exact (x b u e).stay (λc v _ q=>k c v q) (λc q=>by rw[En (Fm q hn)]; exact q) λc xs q=>by rw[En (Fm q hn)]; exact q
end
def Rd(H:Hp)(a:Addr)(u:HO):Prop:=H a=some u\/∃o,H a=some (.frz o u)
theorem Rd.ok{P:Bs}{w:World}{H:Hp}{h:Heap}{a:Addr}{u:HO}(r:Rd H a u)(x:Vj P w H h):Gq P w H h a u:=by
 rcases r with r | ⟨o,r⟩
 ·exact x a u r
 ·obtain ⟨_,q⟩:=x a _ r
  exact q
def Z6:Option HO->Prop
 | some (.lst _)=>True
 | some (.dK _)=>True
 | some (.dT _)=>True
 | some (.set _ _)=>True
 | some (.ins _ _ _)=>True
 | some (.ext _)=>True
 | _=>False
section
variable{P:Bs}{w:World}{H:Hp}{h h':Heap}{x e:Addr}{o':HO}
theorem Vj.write(ok:Vj P w H h)(mu:Z6 (H x))(he:e=x\/H e=some (.own x))(k:∀b u,b≠e->h.get? b=some u->h'.get? b=some u)(heo:∃u,h'.get? e=some u)(new:Gq P w (upd H x o') h' x o'):Vj P w (upd H x o') h':=λb u q=>by
 have nown:∀c y,H c=some (.own y)->c≠x:=λc y r z=>by subst z; rw[r] at mu; exact mu
 have Xy:∀c xs,H c=some (.tup xs)->c≠x:=λc xs r z=>by subst z; rw[r] at mu; exact mu
 by_cases hb:b=x
 ·subst hb; rw[Dt] at q; cases q; exact new
 ·rw[En hb] at q
  by_cases hbe:b=e
  ·have q':H b=some (.own x):=by
    rcases he with z | z
    ·exact absurd (hbe.trans z) hb
    ·rw[hbe]; exact z
   rw[q] at q'; cases q'
   obtain ⟨v,hv⟩:=heo
   exact ⟨v,by rw[hbe]; exact hv⟩
  ·refine (ok b u q).stay (λc v hc r=>k c v ?_ r) (λc r=>by rw[En (nown c b r)]; exact r) λc xs r=>by rw[En (Xy c xs r)]; exact r
   rcases hc with rfl | hc
   ·exact hbe
   ·rintro rfl
    rcases he with z | z
    ·exact nown c b hc z
    ·rw[hc] at z; cases z; exact hb rfl
end
structure Un(fs ex:List Addr)(H H':Hp)(h h':Heap):Prop where
 keep:∀b o,h.get? b=some o->H b=none->b∉fs->b∉ex->h'.get? b=some o
 slot:∀b o,h.get? b=some o->H b=none->b∈fs->b∉ex->∃sl,h'.get? b=some { o with slots:=sl }
 free:∀b o,h.get? b=some o->H b=none->b∉ex->H' b=none
 there:∀b o,h.get? b=some o->b∉ex->∃o',h'.get? b=some o'
 tups:∀b xs,H b=some (.tup xs)->H' b=some (.tup xs)
 frzs:∀b o u,H b=some (.frz o u)->H' b=some (.frz o u)
 tbls:∀b ps,H b=some (.tbl ps)->∃more,H' b=some (.tbl (ps++more))
section
variable{fs fs' ex ex':List Addr}{H H1 H2:Hp}{h h1 h2 h':Heap}{a x e:Addr}{o:HO}
theorem Un.any(u:Un fs ex H H1 h h1){b:Addr}{ob:Obj}(q:h.get? b=some ob)(n:H b=none)(hx:b∉ex):∃sl,h1.get? b=some { ob with slots:=sl }:=by
 by_cases hb:b∈fs
 ·exact u.slot b ob q n hb hx
 ·exact ⟨ob.slots,u.keep b ob q n hb hx⟩
theorem Un.kept(k:∀b u,h.get? b=some u->h'.get? b=some u):Un fs ex H H h h' :=
 ⟨λb ob q _ _ _=>k b ob q,λb ob q _ _ _=>⟨ob.slots,k b ob q⟩,λ_ _ _ n _=>n,λb ob q _=>⟨ob,k b ob q⟩,λ_ _ q=>q,λ_ _ _ q=>q,λ_ ps q=>⟨#[],by rw[q]; simp⟩⟩
theorem Un.refl:Un fs ex H H h h:=Un.kept λ_ _ q=>q
theorem Un.laid(k:∀b u,h.get? b=some u->h'.get? b=some u)(hp:h.objs.size<=a)(hn:H a=none):Un fs ex H (upd H a o) h h' where
 keep:=λb u q _ _ _=>k b u q
 slot:=λb u q _ _ _=>⟨u.slots,k b u q⟩
 free:=λb u q n _=>by rw[En (Cs (Ca (Br q) hp))]; exact n
 there:=λb u q _=>⟨u,k b u q⟩
 tups:=λb xs q=>by rw[En (Fm q hn)]; exact q
 frzs:=λb u xs q=>by rw[En (Fm q hn)]; exact q
 tbls:=λb ps q=>⟨#[],by rw[En (Fm q hn),q]; simp⟩
theorem Un.write(mu:Z6 (H x))(he:e=x\/H e=some (.own x))(k:∀b u,b≠e->h.get? b=some u->h'.get? b=some u)(heo:∃u,h'.get? e=some u):Un fs ex H (upd H x o) h h':=by
 have hx:∀b,H b=none->b≠x:=λb n z=>by subst z; rw[n] at mu; exact mu
 have hb:∀b,H b=none->b≠e:=λb n z=>by
  subst z
  rcases he with r | r
  ·exact hx b n r
  ·rw[n] at r; cases r
 have hm:∀b u,H b=some u->¬ Z6 (some u)->b≠x:=λb u q nm z=>by subst z; rw[q] at mu; exact nm mu
 refine ⟨λb u q n _ _=>k b u (hb b n) q,λb u q n _ _=>⟨u.slots,k b u (hb b n) q⟩,λb u q n _=>by rw[En (hx b n)]; exact n,λb u q _=>?_,
  λb xs q=>by rw[En (hm b _ q λz=>z)]; exact q,λb u xs q=>by rw[En (hm b _ q λz=>z)]; exact q,λb ps q=>⟨#[],by rw[En (hm b _ q λz=>z),q]; simp⟩⟩
 by_cases hbe:b=e
 ·subst hbe; exact heo
 ·exact ⟨u,k b u hbe q⟩
end
def DK(h:Heap)(H:Hp):List Addr:=(Bh h.objs.size).filter λa=>(H a).isSome
def cG(h:Heap)(H:Hp):Heap:=PySem.W.hideAll h (DK h H)
theorem uD(h:Heap)(H:Hp):(cG h H).objs.size=h.objs.size:=PySem.W.hideAll_size _ _
theorem vR{h:Heap}{H:Hp}{b:Addr}{o:Obj}(e:h.get? b=some o)(n:H b=none):(cG h H).get? b=some o :=
 PySem.W.hideAll_get _ e λhm=>by
  have q:(H b).isSome=true:=(Er.mp hm).2
  rw[n] at q; simp at q
theorem C5{h:Heap}{H:Hp}{b:Addr}{o:Obj}(e:(cG h H).get? b=some o):h.get? b=some o/\H b=none:=by
 have e':h.get? b=some o:=PySem.W.of_hideAll (DK h H) e
 refine ⟨e',?_⟩
 cases q:H b with
 | none=>rfl
 | some x =>
  have hm:b∈DK h H:=Er.mpr ⟨Cu.mpr (Br e'),by simp [q]⟩
  have z:(cG h H).get? b=none:=PySem.W.hideAll_none (DK h H) hm
  rw[z] at e; cases e
def o9(g h:Heap)(L:Addr):List (Addr×Obj):=(Bh h.objs.size).filterMap λa=>if a=L\/(g.get? a).isSome=true then none else (h.get? a).map λo=>(a,o)
def Iz(g h:Heap)(L d:Addr):List (Addr×Obj):=(o9 g h L).filter λp=>decide (p.1≠d)
structure Mod(K:PySem.W.Frag)(mg:Str->Option Value)(base:Heap):Prop where
 kin:K.In base
 glob:base.Ns Co mg
 blt:∃mb,base.Ns Ul mb/\∀x:Str,x ≠ "__name__" -> mb x=Ju x
 nolimit:base.NoLimit
def Uu:List Str:=["often", "cut_by"]
def O0(x:Str):Str:=x ++ ".<locals>." ++ "<lambda>"
def J2(H:Hp)(P:Addr)(q:Str):Prop:=∃(ps:Array Value) (t0:Tok),H P=some (.tbl ps)/\ps[0]? = some (.str q t0)
def zA(K:PySem.W.Frag)(mg:Str->Option Value)(base:Heap)(H:Hp):Prop:=∀x∈Uu,∀c P,PySem.W.tabIn K x=some (c,P)->PySem.W.CodeHd base c P/\base.BuiltinsAt mg P/\J2 H P (O0 x)
theorem zA.un{K:PySem.W.Frag}{mg:Str->Option Value}{base:Heap}{fs ex:List Addr}{H H':Hp}{h h':Heap}(t:zA K mg base H)(u:Un fs ex H H' h h'):zA K mg base H':=λx hx c P e=>by
 obtain ⟨h1,h2,ps,t0,h3,h4⟩:=t x hx c P e
 obtain ⟨more,h5⟩:=u.tbls P ps h3
 refine ⟨h1,h2,ps++more,t0,h5,?_⟩
 have hl:0<ps.size:=by
  rcases Nat.eq_zero_or_pos ps.size with z | z
  ·rw[Rb (by omega)] at h4; cases h4
  ·exact z
 rw[Array.getElem?_append_left hl]
 exact h4
structure Cx where
 prog:Bs
 w:World
 K:PySem.W.Frag
 mg:Str->Option Value
 base:Heap
 A:Dj
 N:List Str
 s₀:Al
 H₀:Hp
 env:Env
 outer:List Env
 stack:List Env
 ex:List Addr
 fn:Str->Bool
 calm:Bool
 pn:List (Addr×Obj)
 xe:Value->Al->Prop
def tL(l:List Env):List Addr:=l.filterMap (·.frame)
abbrev Cx.fs(X:Cx):List Addr:=tL X.outer
def X3(sc:Scope)(x:Str):Prop:=sc.names.lookup x=some .local\/sc.names.lookup x=some .cell\/sc.names.lookup x=some .free
def Loc(sc:Scope)(x:Str):Prop:=sc.names.lookup x=some .local\/sc.names.lookup x=some .cell
def ES(env:Env)(h:Heap)(m:Str->Option Value)(x:Str)(u:Value):Prop :=
 (env.kindOf x=some .local/\m x=some u)\/((env.kindOf x=some .cell\/env.kindOf x=some .free)/\∃c,env.cells.lookup x=some c/\h.IsCell c (some u))
structure Cx.Ok(X:Cx):Prop where
 mod:Mod X.K X.mg X.base
 kind:X.env.scope.kind=.function
 glob:X.env.globals=Co
 blt:X.env.builtins=Ul
 above:X.s₀.heap.objs.size<=X.env.locals
 inj:∀x y c,X.env.cells.lookup x=some c->X.env.cells.lookup y=some c->x=y
 has:∀x,(X.env.kindOf x=some .cell\/X.env.kindOf x=some .free)->∃c,X.env.cells.lookup x=some c
 cab:∀x c,X.fn x=true->X.env.cells.lookup x=some c->X.s₀.heap.objs.size<=c
 hd:X.calm=true->X.A.handled=none
 frames:X.A.frames=some X.stack
 stk:X.stack=X.outer\/(X.stack=X.env::X.outer/\X.env.frame=some X.env.locals)
 exf:∀b∈X.ex,b≠X.env.locals/\∀x c,X.env.cells.lookup x=some c->c≠b
 bs:∀b o,X.base.get? b=some o->X.s₀.heap.get? b=some o/\X.H₀ b=none
 bsz:X.base.objs.size<=X.s₀.heap.objs.size
 noex:∀b o,X.base.get? b=some o->b∉X.ex
 exfs:∀b∈X.ex,b∉X.fs
 funs:X.s₀.heap.FunFrames X.base X.outer
 frf:∀b∈X.fs,X.H₀ b=none
 tab:zA X.K X.mg X.base X.H₀
structure Inv(X:Cx)(pins:List (Addr×Obj))(σ:List (Option V))(H:Hp)(s:Al):Prop where
 ok:X.Ok
 os:s.os=X.s₀.os
 bare:Rz s.gens
 base:Un X.fs X.ex X.H₀ H X.s₀.heap s.heap
 loc:∃m,s.heap.Ns X.env.locals m/\∀(i:Nat) (x:Str) (v:V),X.N[i]? = some x->σ[i]? = some (some v)->X3 X.env.scope x->∃u,RelV v u/\ES X.env s.heap m x u
 cell:∀x c,X.env.cells.lookup x=some c->∃v,s.heap.IsCell c v
 free:H X.env.locals=none
 freeC:∀x c,X.env.cells.lookup x=some c->H c=none
 pin:∀p∈X.pn++pins,s.heap.get? p.1=some p.2/\H p.1=none/\p.1≠X.env.locals/\p.1∉X.fs/\∀v,p.2.data≠.cell v
 hok:Vj X.prog X.w H s.heap
 len:σ.length=X.N.length
section
variable{X:Cx}{pins:List (Addr×Obj)}{σ:List (Option V)}{H H':Hp}{s:Al}{h':Heap}
theorem Cx.Ok.nofr(ok:X.Ok){b:Addr}{o:Obj}(e:X.base.get? b=some o):b∉X.fs:=λhb=>by
 have:=(ok.funs.mem hb).1
 rw[e] at this; cases this
theorem Inv.bs(I:Inv X pins σ H s):∀b o,X.base.get? b=some o->s.heap.get? b=some o/\H b=none:=λb o e =>
 ⟨I.base.keep b o (I.ok.bs b o e).1 (I.ok.bs b o e).2 (I.ok.nofr e) (I.ok.noex b o e),I.base.free b o (I.ok.bs b o e).1 (I.ok.bs b o e).2 (I.ok.noex b o e)⟩
theorem Inv.bk(I:Inv X pins σ H s):∀b o,X.base.get? b=some o->s.heap.get? b=some o:=λb o e=>(I.bs b o e).1
theorem Inv.mod(I:Inv X pins σ H s):Mod X.K X.mg X.base:=I.ok.mod
theorem Inv.kIn(I:Inv X pins σ H s):X.K.In s.heap:=I.ok.mod.kin.keeps I.bk
theorem Inv.lt(I:Inv X pins σ H s):X.env.locals<s.heap.objs.size:=let ⟨_,hn,_⟩:=I.loc; hn.lt
theorem Inv.sz(I:Inv X pins σ H s):X.s₀.heap.objs.size<=s.heap.objs.size:=By I.ok.above (Kt I.lt)
theorem Inv.nofs(I:Inv X pins σ H s){a:Addr}(h:s.heap.objs.size<=a):a∉X.fs:=λhb=>by
 obtain ⟨_,o,ho,_⟩:=I.ok.funs.mem hb
 exact absurd (Ca (Br ho) (By I.sz h)) (Hb _)
theorem Inv.cne(I:Inv X pins σ H s):∀x c,X.env.cells.lookup x=some c->c≠X.env.locals:=λx c e z=>by
 obtain ⟨v,o,ho,hd⟩:=I.cell x c e
 obtain ⟨m,⟨o',es,ep,ho',hd',_⟩,_⟩:=I.loc
 rw[z,ho'] at ho; cases ho; rw[hd'] at hd; cases hd
theorem Inv.funs(I:Inv X pins σ H s):s.heap.FunFrames X.base X.outer:=by
 have all:∀(l:List Env),(∀b∈tL l,b∈X.fs)->X.s₀.heap.FunFrames X.base l->s.heap.FunFrames X.base l:=by
  intro l
  induction l with
  | nil=>intro _ _; trivial
  | cons env r ih =>
   intro hs hl
   obtain ⟨hk,⟨L,o,hf,hn,ho,hd⟩,hr⟩:=hl
   have hL:L∈X.fs:=hs L (by unfold tL; rw[Gm,hf]; exact Ab)
   obtain ⟨sl,e⟩:=I.base.slot L o ho (I.ok.frf L hL) hL λz=>I.ok.exfs L z hL
   exact ⟨hk,⟨L,_,hf,hn,e,hd⟩,ih (λb hb=>hs b (by unfold tL; rw[Gm,hf]; exact Ah _ hb)) hr⟩
 exact all X.outer (λ_ hb=>hb) I.ok.funs
theorem Inv.stack(I:Inv X pins σ H s):s.heap.FunFrames X.base X.stack:=by
 rcases I.ok.stk with e | ⟨e,hf⟩
 ·rw[e]; exact I.funs
 ·rw[e]
  obtain ⟨m,hn,_⟩:=I.loc
  refine .cons (by rw[I.ok.kind]; decide) hf hn ?_ I.funs
  exact Heap.get?_none_of_le (By I.ok.bsz I.ok.above)
theorem Inv.stkSub(I:Inv X pins σ H s):∀b∈tL X.stack,b∈X.env.locals::X.fs:=λb hb=>by
 rcases I.ok.stk with e | ⟨e,hf⟩
 ·rw[e] at hb; exact Ah _ hb
 ·rw[e] at hb
  unfold tL at hb
  rw[Gm,hf] at hb
  exact hb
theorem Inv.stkFree(I:Inv X pins σ H s):∀b∈tL X.stack,H b=none:=λb hb=>by
 rcases Ai.mp (I.stkSub b hb) with e | hb
 ·rw[e]; exact I.free
 ·obtain ⟨_,o,ho,_⟩:=I.ok.funs.mem hb
  exact I.base.free b o ho (I.ok.frf b hb) λz=>I.ok.exfs b z hb
theorem Inv.step{g':Array GenState}{t':Nat}{d':Drawn}{ch:List Addr}(I:Inv X pins σ H s)(hch:∀b∈ch,(b∈X.ex\/X.s₀.heap.objs.size<=b)/\b≠X.env.locals/\(∀x c,X.env.cells.lookup x=some c->c≠b)/\∀p∈X.pn++pins,p.1≠b)(keep:∀b o,b≠X.env.locals->b∉X.fs->b∉ch->s.heap.get? b=some o->H b=none->h'.get? b=some o)(slot:∀b o,b≠X.env.locals->b∈X.fs->b∉ch->s.heap.get? b=some o->H b=none->∃sl,h'.get? b=some { o with slots:=sl })(free:∀b o,b∉ch->s.heap.get? b=some o->H b=none->H' b=none)(there:∀b o,b∉ch->s.heap.get? b=some o->∃o',h'.get? b=some o')(tups:∀b xs,H b=some (.tup xs)->H' b=some (.tup xs))(frzs:∀b o u,H b=some (.frz o u)->H' b=some (.frz o u))(tbls:∀b ps,H b=some (.tbl ps)->∃more,H' b=some (.tbl (ps++more)))(ns:∀m,s.heap.Ns X.env.locals m->h'.Ns X.env.locals m)(hok:Vj X.prog X.w H' h')(hg:Rz g'):Inv X pins σ H' { s with heap:=h',gens:=g',drawn:=d',toks:=t' }:=by
 have neL:∀b o,X.s₀.heap.get? b=some o->b≠X.env.locals:=λb o e=>Cs (Ca (Br e) I.ok.above)
 have neC:∀b o,X.s₀.heap.get? b=some o->b∉X.ex->b∉ch:=λb o e hx hb=>by
  rcases (hch b hb).1 with z | z
  ·exact hx z
  ·exact absurd (Ca (Br e) z) (Hb _)
 have cellK:∀x c,X.env.cells.lookup x=some c->∀v,s.heap.IsCell c v->h'.IsCell c v:=λx c e v ⟨o,ho,hd⟩=>by
  have nch:c∉ch:=λz=>(hch c z).2.2.1 x c e rfl
  by_cases hc:c∈X.fs
  ·obtain ⟨sl,q⟩:=slot c o (I.cne x c e) hc nch ho (I.freeC x c e)
   exact ⟨_,q,hd⟩
  ·exact ⟨o,keep c o (I.cne x c e) hc nch ho (I.freeC x c e),hd⟩
 refine ⟨I.ok,I.os,hg,⟨λb o e n hb hx=>?_,λb o e n hb hx=>?_,λb o e n hx=>?_,λb o e hx=>?_,λb xs e=>tups b xs (I.base.tups b xs e),λb o xs e=>frzs b o xs (I.base.frzs b o xs e),λb ps e=>?_⟩,?_,λx c e=>?_,?_,λx c e=>?_,λp hp=>?_,hok,I.len⟩
 ·exact keep b o (neL b o e) hb (neC b o e hx) (I.base.keep b o e n hb hx) (I.base.free b o e n hx)
 ·obtain ⟨sl,e1⟩:=I.base.slot b o e n hb hx
  obtain ⟨sl',e2⟩:=slot b _ (neL b o e) hb (neC b o e hx) e1 (I.base.free b o e n hx)
  exact ⟨sl',e2⟩
 ·obtain ⟨o',e1⟩:=I.base.there b o e hx
  exact free b o' (neC b o e hx) e1 (I.base.free b o e n hx)
 ·obtain ⟨o',e1⟩:=I.base.there b o e hx
  exact there b o' (neC b o e hx) e1
 ·obtain ⟨m1,e1⟩:=I.base.tbls b ps e
  obtain ⟨m2,e2⟩:=tbls b _ e1
  exact ⟨m1++m2,by rw[e2,Array.append_assoc]⟩
 ·obtain ⟨m,hn,hl⟩:=I.loc
  refine ⟨m,ns m hn,λi x v e1 e2 e3=>?_⟩
  obtain ⟨u,r,l⟩:=hl i x v e1 e2 e3
  refine ⟨u,r,?_⟩
  rcases l with l | ⟨k,c,e,z⟩
  ·exact .inl l
  ·exact .inr ⟨k,c,e,cellK x c e _ z⟩
 ·obtain ⟨v,z⟩:=I.cell x c e
  exact ⟨v,cellK x c e v z⟩
 ·obtain ⟨m,⟨o,_,_,ho,_⟩,_⟩:=I.loc
  exact free _ o (λz=>(hch _ z).2.1 rfl) ho I.free
 ·obtain ⟨v,o,ho,hd⟩:=I.cell x c e
  exact free c o (λz=>(hch c z).2.2.1 x c e rfl) ho (I.freeC x c e)
 ·obtain ⟨e,n,ne,nf,d⟩:=I.pin p hp
  have nch:p.1∉ch:=λz=>(hch p.1 z).2.2.2 p hp rfl
  exact ⟨keep p.1 p.2 ne nf nch e n,free p.1 p.2 nch e n,ne,nf,d⟩
theorem Inv.un{t':Nat}(I:Inv X pins σ H s)(u:Un X.fs [] H H' s.heap h')(hok:Vj X.prog X.w H' h'):Inv X pins σ H' { s with heap:=h',toks:=t' }:=by
 obtain ⟨m,⟨o,es,ep,ho,r⟩,_⟩:=id I.loc
 obtain ⟨sl,hL⟩:=u.any ho I.free (by simp)
 exact I.step (g':=s.gens) (d':=s.drawn) (ch:=[]) (λ_ z=>nomatch z) (λb o _ hb _ e n=>u.keep b o e n hb (by simp)) (λb o _ hb _ e n=>u.slot b o e n hb (by simp)) (λb o _ e n=>u.free b o e n (by simp)) (λb o _ e=>u.there b o e (by simp)) u.tups u.frzs u.tbls (λm' hm=>by
  obtain ⟨o',es',ep',ho',r'⟩:=hm
  rw[ho] at ho'; cases ho'
  exact ⟨_,es',ep',hL,r'⟩) hok I.bare
theorem Inv.call{g':Array GenState}{t':Nat}{d':Drawn}{ch:List Addr}(I:Inv X pins σ H s)(u:Un (tL X.stack) ch H H' s.heap h')(hok:Vj X.prog X.w H' h')(hg:Rz g')(hch:∀b∈ch,(b∈X.ex\/X.s₀.heap.objs.size<=b)/\b≠X.env.locals/\(∀x c,X.env.cells.lookup x=some c->c≠b)/\∀p∈X.pn++pins,p.1≠b):Inv X pins σ H' { s with heap:=h',gens:=g',drawn:=d',toks:=t' }:=by
 obtain ⟨m,⟨o,es,ep,ho,r⟩,_⟩:=id I.loc
 obtain ⟨sl,hL⟩:=u.any ho I.free λz=>(hch _ z).2.1 rfl
 exact I.step (ch:=ch) hch (λb o hL hb hc e n=>u.keep b o e n (λz=>(Ai.mp (I.stkSub b z)).elim hL hb) hc) (λb o _ _ hc e n=>u.any e n hc) (λb o hc e n=>u.free b o e n hc) (λb o hc e=>u.there b o e hc) u.tups u.frzs u.tbls (λm' hm=>by
  obtain ⟨o',es',ep',ho',r'⟩:=hm
  rw[ho] at ho'; cases ho'
  exact ⟨_,es',ep',hL,r'⟩) hok hg
theorem Inv.turned{t':Nat}{it:Addr}(I:Inv X pins σ H s)(k:∀b o,b≠it->s.heap.get? b=some o->h'.get? b=some o)(hn:H it=none)(hL:it≠X.env.locals)(h1:it∈X.ex\/X.s₀.heap.objs.size<=it)(h2:∀x c,X.env.cells.lookup x=some c->c≠it)(h3:∀p∈X.pn++pins,p.1≠it):Inv X pins σ H { s with heap:=h',toks:=t' }:=by
 have nit:∀b u,H b=some u->b≠it:=λb u e z=>by rw[z,hn] at e; cases e
 refine I.step (g':=s.gens) (d':=s.drawn) (ch:=[it]) (λb hb=>?_) (λb o _ _ hc e _=>k b o (λz=>hc (by simp [z])) e) (λb o _ _ hc e _=>⟨o.slots,k b o (λz=>hc (by simp [z])) e⟩) (λ_ _ _ _ n=>n)
  (λb o hc e=>⟨o,k b o (λz=>hc (by simp [z])) e⟩) (λ_ _ e=>e) (λ_ _ _ e=>e) (λb ps e=>⟨#[],by rw[e]; simp⟩) (λm hm=>?_) (λb u e=>?_) I.bare
 ·have e:b=it:=by simpa using hb
  subst e
  exact ⟨h1,hL,h2,h3⟩
 ·obtain ⟨o,es,ep,ho,r⟩:=hm
  exact ⟨o,es,ep,k _ o (Ny hL) ho,r⟩
 ·refine (I.hok b u e).stay (λc v hc q=>k c v ?_ q) (λ_ q=>q) λ_ _ q=>q
  rcases hc with z | z
  ·rw[z]; exact nit b u e
  ·exact nit c _ z
theorem Inv.tok(I:Inv X pins σ H s)(t:Nat):Inv X pins σ H { s with toks:=t }:=I.un (h':=s.heap) (t':=t) Un.refl I.hok
theorem Inv.kept{t':Nat}(I:Inv X pins σ H s)(k:∀b u,s.heap.get? b=some u->h'.get? b=some u):Inv X pins σ H { s with heap:=h',toks:=t' }:=I.un (Un.kept k) (I.hok.kept k)
theorem Inv.laid{a:Addr}{o:HO}{t':Nat}(I:Inv X pins σ H s)(k:∀b u,s.heap.get? b=some u->h'.get? b=some u)(hp:s.heap.objs.size<=a)(new:Gq X.prog X.w (upd H a o) h' a o):Inv X pins σ (upd H a o) { s with heap:=h',toks:=t' }:=I.un (Un.laid k hp (I.hok.fresh hp)) (I.hok.laid k hp new)
theorem Inv.write{x e:Addr}{o:HO}{t':Nat}(I:Inv X pins σ H s)(mu:Z6 (H x))(he:e=x\/H e=some (.own x))(k:∀b u,b≠e->s.heap.get? b=some u->h'.get? b=some u)(heo:∃u,h'.get? e=some u)(new:Gq X.prog X.w (upd H x o) h' x o):Inv X pins σ (upd H x o) { s with heap:=h',toks:=t' }:=I.un (Un.write mu he k heo) (I.hok.write mu he k heo new)
theorem Inv.pins_of{pins':List (Addr×Obj)}(I:Inv X pins σ H s)(h:∀p∈pins',s.heap.get? p.1=some p.2/\H p.1=none/\p.1≠X.env.locals/\p.1∉X.fs/\∀v,p.2.data≠.cell v):Inv X pins' σ H s :=
 ⟨I.ok,I.os,I.bare,I.base,I.loc,I.cell,I.free,I.freeC,λp hp=>(Ay.mp hp).elim (λz=>I.pin p (Ap _ z)) (h p),I.hok,I.len⟩
theorem jQ{N:List Str}(hN:N.Nodup){i j:Nat}{x:Str}(a:N[i]? = some x)(b:N[j]? = some x):i=j:=by
 obtain ⟨h1,e1⟩:=Av.mp a
 obtain ⟨h2,e2⟩:=Av.mp b
 exact (List.getElem_inj hN).mp (e1.trans e2.symm)
theorem tN{M:Model}{A:Dj}{E:Value->Al->Prop}{i:Nat}{x:Str}{v:V}{u:Value}{Q:Unit->Al->Prop}(I:Inv X pins σ H s)(hN:X.N.Nodup)(hi:X.N[i]? = some x)(hx:Loc X.env.scope x)(r:RelV v u)(h:∀s',Inv X pins (σ.set i (some v)) H s'->(∃a,Fs a s.heap s'.heap/\(a=X.env.locals\/X.env.cells.lookup x=some a))->Q () s')(hf:X.fn x=true\/X.env.scope.names.lookup x=some .local:=by first | exact .inl rfl | exact .inr rfl | assumption):wpAny M A (storeName X.env x u) Q E s:=by
 obtain ⟨m,hn,hl⟩:=id I.loc
 have hcls:(X.env.scope.kind == .class || (X.env.scope.kind == .module && X.env.locals != X.env.globals))=false:=by rw[I.ok.kind]; rfl
 have hiσ:i<σ.length:=by rw[I.len]; exact (Av.mp hi).1
 have cne:=I.cne
 have tracked:∀{a:Addr} {h':Heap},(∃o,s.heap.get? a=some o/\H a=none)->Fs a s.heap h'->Vj X.prog X.w H h':=λ{a h'} ha hs b ob e=>by
  obtain ⟨_,_,hfree⟩:=ha
  refine (I.hok b ob e).stay (λc w' hc q=>(hs.2 c ?_).trans q) (λ_ q=>q) λ_ _ q=>q
  rintro rfl
  rcases hc with rfl | hc
  ·rw[hfree] at e; cases e
  ·rw[hfree] at hc; cases hc
 rcases hx with hk | hk
 ·refine wpAny_storeName_local hk hn (λh' hn' hs=>?_) hcls
  obtain ⟨oL,_,_,hoL,_⟩:=id hn
  refine h _ ⟨I.ok,I.os,I.bare,⟨λb o e n hb hx=>?_,λb o e n hb hx=>?_,I.base.free,λb o e hx=>?_,I.base.tups,I.base.frzs,I.base.tbls⟩,⟨_,hn',λj y v' e1 e2 e3=>?_⟩,λy c e=>?_,I.free,I.freeC,λp hp=>?_,tracked ⟨oL,hoL,I.free⟩ hs,by simpa using I.len⟩ ⟨_,hs,.inl rfl⟩
  ·exact (hs.2 b (Cs (Ca (Br e) I.ok.above))).trans (I.base.keep b o e n hb hx)
  ·obtain ⟨sl,e1⟩:=I.base.slot b o e n hb hx
   exact ⟨sl,(hs.2 b (Cs (Ca (Br e) I.ok.above))).trans e1⟩
  ·obtain ⟨o',e1⟩:=I.base.there b o e hx
   exact ⟨o',(hs.2 b (Cs (Ca (Br e) I.ok.above))).trans e1⟩
  ·by_cases hj:j=i
   ·subst hj
    rw[hi] at e1; cases e1
    rw[oT hiσ] at e2
    cases e2
    exact ⟨u,r,.inl ⟨hk,by simp⟩⟩
   ·rw[List.getElem?_set_ne (Ny hj)] at e2
    obtain ⟨u',r',q⟩:=hl j y v' e1 e2 e3
    refine ⟨u',r',?_⟩
    rcases q with ⟨k,e⟩ | ⟨k,c,e,z⟩
    ·refine .inl ⟨k,?_⟩
     have : y≠x:=λe=>hj (jQ hN e1 (e▸hi))
     simp [this,e]
    ·exact .inr ⟨k,c,e,z.sameBut hs (cne y c e)⟩
  ·obtain ⟨w',z⟩:=I.cell y c e
   exact ⟨w',z.sameBut hs (cne y c e)⟩
  ·obtain ⟨e,n,ne,nf,d⟩:=I.pin p hp
   exact ⟨(hs.2 p.1 ne).trans e,n,ne,nf,d⟩
 ·have hfn:X.fn x=true:=by
   rcases hf with z | z
   ·exact z
   ·rw[z] at hk; cases hk
  obtain ⟨c,hc⟩:=I.ok.has x (.inl hk)
  obtain ⟨w',z⟩:=I.cell x c hc
  refine wpAny_storeName_cell I.ok.kind hk hc z (λh' hc' hs=>?_)
  obtain ⟨oc,hoc,hocd⟩:=id z
  refine h { s with heap:=h' } ⟨I.ok,I.os,I.bare,⟨λb o e n hb hx=>?_,λb o e n hb hx=>?_,I.base.free,λb o e hx=>?_,I.base.tups,I.base.frzs,I.base.tbls⟩,⟨m,hn.sameBut hs (Ny (cne x c hc)),λj y v' e1 e2 e3=>?_⟩,λy c' e=>?_,I.free,I.freeC,λp hp=>?_,tracked ⟨oc,hoc,I.freeC x c hc⟩ hs,by simpa using I.len⟩ ⟨c,hs,.inr hc⟩
  ·exact (hs.2 b (Cs (Ca (Br e) (I.ok.cab x c hfn hc)))).trans (I.base.keep b o e n hb hx)
  ·obtain ⟨sl,e1⟩:=I.base.slot b o e n hb hx
   exact ⟨sl,(hs.2 b (Cs (Ca (Br e) (I.ok.cab x c hfn hc)))).trans e1⟩
  ·obtain ⟨o',e1⟩:=I.base.there b o e hx
   exact ⟨o',(hs.2 b (Cs (Ca (Br e) (I.ok.cab x c hfn hc)))).trans e1⟩
  ·by_cases hj:j=i
   ·subst hj
    rw[hi] at e1; cases e1
    rw[oT hiσ] at e2
    cases e2
    exact ⟨u,r,.inr ⟨.inl hk,c,hc,hc'⟩⟩
   ·rw[List.getElem?_set_ne (Ny hj)] at e2
    obtain ⟨u',r',q⟩:=hl j y v' e1 e2 e3
    refine ⟨u',r',?_⟩
    rcases q with q | ⟨k,c',e,z'⟩
    ·exact .inl q
    ·refine .inr ⟨k,c',e,z'.sameBut hs ?_⟩
     rintro rfl
     exact hj (jQ hN e1 (I.ok.inj _ _ _ e hc▸hi))
  ·by_cases hcc:c'=c
   ·subst hcc; exact ⟨_,hc'⟩
   ·obtain ⟨w2,z2⟩:=I.cell y c' e
    exact ⟨w2,z2.sameBut hs hcc⟩
  ·obtain ⟨e,n,ne,nf,d⟩:=I.pin p hp
   refine ⟨(hs.2 p.1 ?_).trans e,n,ne,nf,d⟩
   intro q
   rw[q,hoc] at e
   have q':oc=p.2:=Ce e
   exact d w' (by rw[<- q']; exact hocd)
theorem Zw{M:Model}{A:Dj}{E:Value->Al->Prop}{i:Nat}{x:Str}{v:V}{u:Value}{Q:Unit->Al->Prop}(I:Inv X pins σ H s)(hN:X.N.Nodup)(hi:X.N[i]? = some x)(hx:Loc X.env.scope x)(r:RelV v u)(h:∀s',Inv X pins (σ.set i (some v)) H s'->Q () s')(hf:X.fn x=true\/X.env.scope.names.lookup x=some .local:=by first | exact .inl rfl | exact .inr rfl | assumption):wpAny M A (storeName X.env x u) Q E s :=
 tN I hN hi hx r (λs' I' _=>h s' I') hf
theorem Inv.call'{s':Al}{ch:List Addr}(I:Inv X pins σ H s)(ho:s'.os=s.os)(u:Un (tL X.stack) ch H H' s.heap s'.heap)(hok:Vj X.prog X.w H' s'.heap)(hg:Rz s'.gens)(hch:∀b∈ch,(b∈X.ex\/X.s₀.heap.objs.size<=b)/\b≠X.env.locals/\(∀x c,X.env.cells.lookup x=some c->c≠b)/\∀p∈X.pn++pins,p.1≠b):Inv X pins σ H' s':=by
 obtain ⟨h',g',d',t',o'⟩:=s'
 have e:o'=s.os:=ho
 subst e
 exact I.call (g':=g') (t':=t') (d':=d') u hok hg hch
end
abbrev XK:=Value->Option Addr->Hp->Prop
abbrev St:=List (Option V)
abbrev VK:=V->Hp->Prop
abbrev TE:=St->Hp->VK->Prop
abbrev TT:=St->Hp->(Bool->Hp->Prop)->Prop
abbrev TA:=St->Hp->(List V->Hp->Prop)->Prop
structure Ends where
 nx:St->Hp->Prop
 rt:VK
 bk:St->Hp->Prop:=λ_ _=>False
 ct:St->Hp->Prop:=λ_ _=>False
abbrev TS:=Ends->St->Hp->Prop
def EP(X:Cx)(pins:List (Addr×Obj))(σ:St)(Q:VK)(u:Value)(s':Al):Prop:=∃v H',Inv X pins σ H' s'/\RelV v u/\Q v H'
def TP(X:Cx)(pins:List (Addr×Obj))(σ:St)(Q:Bool->Hp->Prop)(b:Bool)(s':Al):Prop:=∃H',Inv X pins σ H' s'/\Q b H'
def AP(X:Cx)(pins:List (Addr×Obj))(σ:St)(Q:List V->Hp->Prop)(us:List Value)(s':Al):Prop:=∃vs H',Inv X pins σ H' s'/\Fe vs us/\Q vs H'
def SP(X:Cx)(pins:List (Addr×Obj))(D:Ends)(f:Flow)(s':Al):Prop :=
 match f with
 | .next=>∃σ' H',Inv X pins σ' H' s'/\D.nx σ' H'
 | .brk=>∃σ' H',Inv X pins σ' H' s'/\D.bk σ' H'
 | .cont=>∃σ' H',Inv X pins σ' H' s'/\D.ct σ' H'
 | .ret u=>∃v σ' H',Inv X pins σ' H' s'/\RelV v u/\D.rt v H'
def PE(X:Cx)(e:Expr)(t:TE):Prop :=
 ∀(pins:List (Addr×Obj)) (s:Al) (σ:St) (H:Hp) (Q:VK),Inv X pins σ H s->t σ H Q->wpAny (model X.prog X.w) X.A (eval e X.env) (EP X pins σ Q) X.xe s
def PT(X:Cx)(e:Expr)(t:TT):Prop :=
 ∀(pins:List (Addr×Obj)) (s:Al) (σ:St) (H:Hp) (Q:Bool->Hp->Prop),Inv X pins σ H s->t σ H Q->wpAny (model X.prog X.w) X.A (isTrue e X.env (eval e X.env)) (TP X pins σ Q) X.xe s
def PW(X:Cx)(e:Expr)(t:TT):Prop :=
 ∀(whole:Sem Value) (pins:List (Addr×Obj)) (s:Al) (σ:St) (H:Hp) (Q:Bool->Hp->Prop),Inv X pins σ H s->t σ H Q->wpAny (model X.prog X.w) X.A (isTrue e X.env whole) (TP X pins σ Q) X.xe s
theorem PW.pt{X:Cx}{e:Expr}{t:TT}(h:PW X e t):PT X e t:=h _
def PA(X:Cx)(es:List Expr)(t:TA):Prop :=
 ∀(pos:Pos) (pins:List (Addr×Obj)) (s:Al) (σ:St) (H:Hp) (Q:List V->Hp->Prop),Inv X pins σ H s->t σ H Q->wpAny (model X.prog X.w) X.A (spliced (Kl pos (Bz es X.env))) (AP X pins σ Q) X.xe s
def PS(X:Cx)(st:Stmt)(t:TS):Prop :=
 ∀(pins:List (Addr×Obj)) (s:Al) (σ:St) (H:Hp) (D:Ends),Inv X pins σ H s->t D σ H->wpAny (model X.prog X.w) X.A (exec st X.env) (SP X pins D) X.xe s
def mV(X:Cx)(st:List Stmt)(t:TS):Prop :=
 ∀(pins:List (Addr×Obj)) (s:Al) (σ:St) (H:Hp) (D:Ends),Inv X pins σ H s->t D σ H->wpAny (model X.prog X.w) X.A (execs st X.env) (SP X pins D) X.xe s
theorem Hn{α:Type}{t:Sem α}{Q Q':α->Al->Prop}{M:Model}{A:Dj}{E:Value->Al->Prop}{s:Al}(h:wpAny M A t Q E s)(hQ:∀a s,Q a s->Q' a s):wpAny M A t Q' E s:=Gy h hQ λ_ _ x=>x
section
variable{X:Cx}
theorem GS{a b:Expr}{ta tb:TE}(ha:PE X a ta)(hb:PE X b tb){pins:List (Addr×Obj)}{s:Al}{σ:St}{H:Hp}{R:V->V->Hp->Prop}(I:Inv X pins σ H s)(h:ta σ H λx H1=>tb σ H1 λy H2=>R x y H2){α:Type}{Q:α->Al->Prop}{f:Value->Value->Sem α}(hf:∀v u s2 x y H2,Inv X pins σ H2 s2->RelV x v->RelV y u->R x y H2->wpAny (model X.prog X.w) X.A (f v u) Q X.xe s2):wpAny (model X.prog X.w) X.A (eval a X.env) (λv s₁=>wpAny (model X.prog X.w) X.A (eval b X.env) (λu s₂=>wpAny (model X.prog X.w) X.A (f v u) Q X.xe s₂) X.xe s₁) X.xe s:=by
 refine Hn (ha pins s σ H _ I h) λv s1 q0_ => ?_
 obtain ⟨x,H1,I1,r1,q1⟩ := q0_
 refine Hn (hb pins s1 σ H1 _ I1 q1) λu s2 q0_ => ?_
 obtain ⟨y,H2,I2,r2,q2⟩ := q0_
 exact hf v u s2 x y H2 I2 r1 r2 q2
def cJ(i:Nat):TE:=λσ H Q=>∃v,σ[i]? = some (some v)/\Q v H
def tC(v:V):TE:=λ_ H Q=>Q v H
theorem Q6{i:Nat}{x:Str}{pos:Pos}(hN:X.N[i]? = some x)(hv:X3 X.env.scope x)(hd:(x == ("__debug__" : Str))=false:=by decide)(hcd:(x == ("__classdict__" : Str))=false:=by decide):PE X (.Name x pos) (cJ i):=by
 intro pins s σ H Q I h
 obtain ⟨v,e,h⟩:=h
 obtain ⟨m,hn,hl⟩:=I.loc
 obtain ⟨u,r,l⟩:=hl i x v hN e hv
 have fin:EP X pins σ Q u s:=⟨v,H,I,r,h⟩
 rcases l with ⟨hk,hm⟩ | ⟨hk,c,hc,hcell⟩
 ·exact wpAny_Name (wpAny_loadName_local I.ok.kind hk hn hm fin) hd
 ·rcases hk with hk | hk
  ·exact wpAny_Name (wpAny_loadName_cell I.ok.kind hk hc hcell fin) hd
  ·exact wpAny_Name (wpAny_loadName_free I.ok.kind hk hc hcell fin hcd) hd
theorem Fi{i j pos}:PE X (.Constant (.int i) j pos) (tC (.int i)):=λ_ _ _ H _ I h=>wpAny_Constant_int ⟨.int i,H,I.tok _,⟨_,rfl⟩,h⟩
theorem e8{b j pos}:PE X (.Constant (.bool b) j pos) (tC (.bl b)):=λ_ _ _ H _ I h=>Constant_bool ⟨.bl b,H,I,rfl,h⟩
theorem T1{j pos}:PE X (.Constant .none j pos) (tC .non):=λ_ _ _ H _ I h=>Constant_none ⟨.non,H,I,rfl,h⟩
theorem N9{x j pos}:PE X (.Constant (.str x) j pos) (tC (.str x)):=λ_ _ _ H _ I h=>Calls.Constant_str ⟨.str x,H,I.tok _,⟨_,rfl⟩,h⟩
def Gl(X:Cx)(x:Str):Prop:=X.env.kindOf x=some .globalImplicit
theorem qA{E:Value->Al->Prop}{pins:List (Addr×Obj)}{s:Al}{σ:St}{H:Hp}{x:Str}{u:Value}{pos:Pos}{Q:Value->Al->Prop}(I:Inv X pins σ H s)(hg:Gl X x)(hm:X.mg x=some u)(h:Q u s)(hd:(x == ("__debug__" : Str))=false:=by decide):wpAny (model X.prog X.w) X.A (eval (.Name x pos) X.env) Q E s :=
 fI I.ok.kind hg (Calls.loadGlobal_global (by rw[I.ok.glob]; exact I.mod.glob.keeps I.bk) hm h) hd
theorem Zl{E:Value->Al->Prop}{pins:List (Addr×Obj)}{s:Al}{σ:St}{H:Hp}{x:Str}{u:Value}{pos:Pos}{Q:Value->Al->Prop}(I:Inv X pins σ H s)(hg:Gl X x)(hm:X.mg x=none)(hv:Ju x=some u)(h:Q u s)(hn:x ≠ "__name__" := by decide)(hd:(x == ("__debug__" : Str))=false:=by decide):wpAny (model X.prog X.w) X.A (eval (.Name x pos) X.env) Q E s:=by
 obtain ⟨mb,h1,h2⟩:=I.mod.blt
 exact fI I.ok.kind hg (Calls.loadGlobal_builtin (by rw[I.ok.glob]; exact I.mod.glob.keeps I.bk) hm (by rw[I.ok.blt]; exact h1.keeps I.bk) ((h2 x hn).trans hv) h) hd
theorem p8{x:Str}{v:V}{u:Value}{pos:Pos}(hg:Gl X x)(hm:X.mg x=none)(hv:Ju x=some u)(r:RelV v u)(hn:x ≠ "__name__" := by decide)(hd:(x == ("__debug__" : Str))=false:=by decide):PE X (.Name x pos) (tC v) :=
 λ_ _ _ H _ I h=>Zl I hg hm hv ⟨v,H,I,r,h⟩ hn hd
variable{a b:Expr}{ta tb:TE}{pos:Pos}
def PC(X:Cx)(op:CmpOp)(a b:Expr)(t:TE):Prop :=
 ∀(pins:List (Addr×Obj)) (s:Al) (σ:St) (H:Hp) (Q:VK),Inv X pins σ H s->t σ H Q ->
  wpAny (model X.prog X.w) X.A (eval a X.env) (λv s₁=>wpAny (model X.prog X.w) X.A (eval b X.env) (λu s₂=>wpAny (model X.prog X.w) X.A (Ho op v u) (EP X pins σ Q) X.xe s₂) X.xe s₁) X.xe s
theorem vI(b:Expr){op:CmpOp}(h:op≠.In)(h2:op≠.NotIn):Fk op b=false:=by
 have e1:(op == CmpOp.In)=false:=by cases op <;> first | rfl | exact absurd rfl h
 have e2:(op == CmpOp.NotIn)=false:=by cases op <;> first | rfl | exact absurd rfl h2
 cases b <;> simp [Fk,e1,e2]
def tB(t:TE):TT:=λσ H Q=>t σ H λx H1=>∃c,x=.bl c/\Q c H1
theorem Q3{op:CmpOp}{t:TE}(h:PC X op a b t)(h1:Fk op b=false:=by first | exact vI _ (by decide) (by decide) | rfl):PT X (.Compare a [op] [b] pos) (tB t):=by
 intro pins s σ H Q I hw
 refine wpAny_isTrue_Compare1 (Hn (h pins s σ H _ I hw) λv s1 h1=>Hn h1 λu s2 h2=>Hn h2 λc s3 ⟨x,H1,I1,r1,q1⟩=>?_) h1
 obtain ⟨d,rfl,q⟩:=q1
 cases r1
 exact Ie ⟨H1,I1,q⟩
theorem yF{e:Expr}{t:TE}(h:PE X e t)(he:∀whole,isTrue e X.env whole=(do let v <- whole; standAt e.pos; Yh [v] (truthy v)):=by intro _; rfl):PT X e (tB t):=by
 intro pins s σ H Q I hw
 refine isTrue_plain (Hn (h pins s σ H _ I hw) λv s1 ⟨x,H1,I1,r1,q1⟩=>?_) (he _)
 obtain ⟨d,rfl,q⟩:=q1
 cases r1
 exact Ie ⟨H1,I1,q⟩
variable{tA tB':TT}{Iz:List Expr}
def FK(t u:TT):TT:=λσ H Q=>t σ H λc H1=>if c=true then u σ H1 Q else Q false H1
def GQ(t u:TT):TT:=λσ H Q=>t σ H λc H1=>if c=true then Q true H1 else u σ H1 Q
def DR(t:TT):TT:=λσ H Q=>t σ H λc H1=>Q (!c) H1
theorem C0(ha:PT X a tA):PW X (.BoolOp .And [a] pos) tA:=by
 intro wh pins s σ H Q I h
 refine isTrue_and (Hn (ha pins s σ H Q I h) λc s1 e=>?_)
 cases c with
 | true=>exact isTrue_and_nil e
 | false=>exact e
theorem Q1(ha:PT X a tA):PW X (.BoolOp .Or [a] pos) tA:=by
 intro wh pins s σ H Q I h
 refine isTrue_or (Hn (ha pins s σ H Q I h) λc s1 e=>?_)
 cases c with
 | false=>exact isTrue_or_nil e
 | true=>exact e
theorem T4(ha:PT X a tA)(hb:PW X (.BoolOp .And (b::Iz) pos) tB'):PW X (.BoolOp .And (a::b::Iz) pos) (FK tA tB'):=by
 intro wh pins s σ H Q I h
 refine isTrue_and (Hn (ha pins s σ H _ I h) λc s1 q0_ => ?_)
 obtain ⟨H1,I1,q1⟩ := q0_
 cases c with
 | true=>exact hb wh pins s1 σ H1 Q I1 q1
 | false=>exact ⟨H1,I1,q1⟩
theorem Z8(ha:PT X a tA)(hb:PW X (.BoolOp .Or (b::Iz) pos) tB'):PW X (.BoolOp .Or (a::b::Iz) pos) (GQ tA tB'):=by
 intro wh pins s σ H Q I h
 refine isTrue_or (Hn (ha pins s σ H _ I h) λc s1 q0_ => ?_)
 obtain ⟨H1,I1,q1⟩ := q0_
 cases c with
 | true=>exact ⟨H1,I1,q1⟩
 | false=>exact hb wh pins s1 σ H1 Q I1 q1
theorem Q8(ha:PT X a tA):PT X (.UnaryOp .Not a pos) (DR tA):=by
 intro pins s σ H Q I h
 exact isTrue_not (ha pins s σ H (λc H1=>Q (!c) H1) I h)
def BF(ta tb:TE):TE:=λσ H Q=>ta σ H λx H1=>∃c,x=.bl c/\if c=true then tb σ H1 Q else Q (.bl false) H1
def AC(ta:TE):TE:=λσ H Q=>ta σ H λx H1=>∃c,x=.bl c/\Q (.bl (!c)) H1
theorem N0{op}{t:TE}(h:PE X a t):PE X (.BoolOp op [a] pos) t:=λpins s σ H Q I hw=>BoolOp_one (h pins s σ H Q I hw)
theorem O7(ha:PE X a ta)(hb:PE X (.BoolOp .And (b::Iz) pos) tb):PE X (.BoolOp .And (a::b::Iz) pos) (BF ta tb):=by
 intro pins s σ H Q I h
 refine BoolOp_and (Hn (ha pins s σ H _ I h) λv s1 q0_ => ?_)
 obtain ⟨x,H1,I1,r1,q1⟩ := q0_
 obtain ⟨c,rfl,q1⟩:=q1
 cases r1
 refine Ie ?_
 cases c with
 | true=>exact hb pins s1 σ H1 Q I1 q1
 | false=>exact ⟨.bl false,H1,I1,rfl,q1⟩
theorem V2(ha:PE X a ta):PE X (.UnaryOp .Not a pos) (AC ta):=by
 intro pins s σ H Q I h
 refine UnaryOp_ (Hn (ha pins s σ H _ I h) λv s1 q0_ => ?_)
 obtain ⟨x,H1,I1,r1,q1⟩ := q0_
 obtain ⟨c,rfl,q1⟩:=q1
 cases r1
 exact not_of (Ie ⟨.bl (!c),H1,I1,rfl,q1⟩)
end
def Tq(K:PySem.W.Frag)(H:Hp)(a:Addr)(xs:List V):Prop :=
 Rd H a (.lst xs) \/
  ∃(o:Obj) (its:Array Value) (n:Nat),K.lookup a=some o/\o.cls=.type "list" /\ o.dict=none/\o.data=.seq its n/\its.size<=Bd/\Fe xs its.toList
def Uj(K:PySem.W.Frag)(H:Hp)(a:Addr)(xs:List V):Prop :=
 Rd H a (.tup xs) \/
  ∃(o:Obj) (its:Array Value) (n:Nat),K.lookup a=some o/\o.cls=.type "tuple" /\ o.data=.seq its n/\its.size<=Bd/\Fe xs its.toList
def EN:Value->Option V
 | .none=>some .non
 | .bool b=>some (.bl b)
 | .int i _=>some (.int i)
 | .str x _=>some (.str x)
 | .bytes b _=>some (.byt b)
 | .float b _=>some (.flt b)
 | .ref a=>some (.ref a)
 | .type n=>some (.ty n)
 | _=>none
theorem RelV.abs{x:V}{u:Value}(r:RelV x u):EN u=some x:=by
 cases x with
 | non=>cases r; rfl
 | bl _=>cases r; rfl
 | int _=>obtain ⟨t,rfl⟩:=r; rfl
 | str _=>obtain ⟨t,rfl⟩:=r; rfl
 | byt _=>obtain ⟨t,rfl⟩:=r; rfl
 | flt _=>obtain ⟨t,rfl⟩:=r; rfl
 | ref _=>cases r; rfl
 | ty _=>cases r; rfl
theorem RelV.inj{x y:V}{u:Value}(r:RelV x u)(q:RelV y u):x=y:=Ce (r.abs.symm.trans q.abs)
theorem Fe.inj:∀{xs ys:List V} {us:List Value},Fe xs us->Fe ys us->xs=ys
 | _,_,_,.nil,.nil=>rfl
 | _,_,_,.cons r t,.cons r' t'=>by rw[r.inj r',Fe.inj t t']
section
variable{X:Cx}{pins:List (Addr×Obj)}{σ:St}{H:Hp}{s:Al}{a:Addr}{xs ys:List V}
theorem Tq.of{K:PySem.W.Frag}(h:H a=some (.lst xs)):Tq K H a xs:=.inl (.inl h)
theorem Uj.of{K:PySem.W.Frag}(h:H a=some (.tup xs)):Uj K H a xs:=.inl (.inl h)
theorem Inv.list(I:Inv X pins σ H s)(h:Tq X.K H a xs):∃its:List Value,Fe xs its/\PlainL s.heap a its.toArray/\xs.length<=Bd:=by
 rcases h with h | ⟨o,its,n,hk,hc,hd,hs,hz,r⟩
 ·obtain ⟨z,its,n,r,e⟩:=h.ok I.hok
  exact ⟨its,r,⟨_,n,e,rfl,rfl,rfl⟩,z⟩
 ·refine ⟨its.toList,r,⟨o,n,I.kIn a o hk,hc,hd,by simpa using hs⟩,?_⟩
  have e:=r.length
  simp only[Ar] at e
  omega
theorem Inv.tuple(I:Inv X pins σ H s)(h:Uj X.K H a xs):∃its:List Value,Fe xs its/\IsTup s.heap a its.toArray/\xs.length<=Bd:=by
 rcases h with h | ⟨o,its,n,hk,hc,hs,hz,r⟩
 ·obtain ⟨z,its,r,p⟩:=h.ok I.hok
  exact ⟨its,r,p,z⟩
 ·refine ⟨its.toList,r,⟨o,I.kIn a o hk,hc,n,by simpa using hs⟩,?_⟩
  have e:=r.length
  simp only[Ar] at e
  omega
theorem Inv.list_inj(I:Inv X pins σ H s)(h:Tq X.K H a xs)(h':Tq X.K H a ys):xs=ys:=by
 obtain ⟨its,r,⟨o,n,e,_,_,d⟩,_⟩:=I.list h
 obtain ⟨its',r',⟨o',n',e',_,_,d'⟩,_⟩:=I.list h'
 rw[e] at e'; cases e'
 rw[d] at d'
 injection d' with d1 _
 have : its=its':=by simpa using congrArg Array.toList d1
 subst this
 exact r.inj r'
theorem Inv.tuple_inj(I:Inv X pins σ H s)(h:Uj X.K H a xs)(h':Uj X.K H a ys):xs=ys:=by
 obtain ⟨its,r,⟨o,e,_,n,d⟩,_⟩:=I.tuple h
 obtain ⟨its',r',⟨o',e',_,n',d'⟩,_⟩:=I.tuple h'
 rw[e] at e'; cases e'
 rw[d] at d'
 injection d' with d1 _
 have : its=its':=by simpa using congrArg Array.toList d1
 subst this
 exact r.inj r'
end
abbrev Cx.wish(X:Cx)(E:Value->Al->Prop):Cx:={ X with xe:=E }
abbrev Cx.nox(X:Cx):Cx:=X.wish λ_ _=>False
theorem Cx.Ok.wish{X:Cx}(ok:X.Ok)(E:Value->Al->Prop):(X.wish E).Ok :=
 ⟨ok.mod,ok.kind,ok.glob,ok.blt,ok.above,ok.inj,ok.has,ok.cab,ok.hd,ok.frames,ok.stk,ok.exf,ok.bs,ok.bsz,ok.noex,ok.exfs,ok.funs,ok.frf,ok.tab⟩
theorem Cx.Ok.unwish{X:Cx}{E:Value->Al->Prop}(ok:(X.wish E).Ok):X.Ok :=
 ⟨ok.mod,ok.kind,ok.glob,ok.blt,ok.above,ok.inj,ok.has,ok.cab,ok.hd,ok.frames,ok.stk,ok.exf,ok.bs,ok.bsz,ok.noex,ok.exfs,ok.funs,ok.frf,ok.tab⟩
section
variable{X:Cx}{pins:List (Addr×Obj)}{σ:St}{H:Hp}{s:Al}{E:Value->Al->Prop}
theorem Inv.wish(I:Inv X pins σ H s)(E:Value->Al->Prop):Inv (X.wish E) pins σ H s:=⟨I.ok.wish E,I.os,I.bare,I.base,I.loc,I.cell,I.free,I.freeC,I.pin,I.hok,I.len⟩
theorem Inv.unwish(I:Inv (X.wish E) pins σ H s):Inv X pins σ H s:=⟨I.ok.unwish,I.os,I.bare,I.base,I.loc,I.cell,I.free,I.freeC,I.pin,I.hok,I.len⟩
theorem SP.unwish{D:Ends}{f:Flow}{s':Al}(h:SP (X.wish E) pins D f s'):SP X pins D f s':=by
 cases f with
 | next=>obtain ⟨σ',H',I,q⟩:=h; exact ⟨σ',H',I.unwish,q⟩
 | brk=>obtain ⟨σ',H',I,q⟩:=h; exact ⟨σ',H',I.unwish,q⟩
 | cont=>obtain ⟨σ',H',I,q⟩:=h; exact ⟨σ',H',I.unwish,q⟩
 | ret u=>obtain ⟨v,σ',H',I,r,q⟩:=h; exact ⟨v,σ',H',I.unwish,r,q⟩
theorem mV.nox{st:List Stmt}{t:TS}(h:mV X.nox st t):mV X st t:=λpins s σ H D I hw =>
 Gy (h pins s σ H D (I.wish _) hw) (λ_ _ q=>q.unwish) λ_ _ z=>Kd z
end
section
variable{X:Cx}{st:Stmt}{Iz:List Stmt}{t u:TS}{e:Expr}{te:TE}{pos:Pos}
def AV:TS:=λD σ H=>D.nx σ H
def FE(t u:TS):TS:=λD σ H=>t { D with nx:=u D } σ H
theorem gA:mV X [] AV:=λ_ _ σ H _ I h=>Vo ⟨σ,H,I,h⟩
theorem Ln(h1:PS X st t)(h2:mV X Iz u):mV X (st::Iz) (FE t u):=by
 intro pins s σ H D I h
 refine wpAny_execs_cons (Hn (h1 pins s σ H { D with nx:=u D } I h) λf s1 q=>?_)
 cases f with
 | next =>
  obtain ⟨σ',H',I',q⟩:=q
  exact h2 pins s1 σ' H' D I' q
 | ret v=>exact q
 | brk=>exact q
 | cont=>exact q
theorem Vb(h1:PS X st t):mV X [st] t:=by
 intro pins s σ H D I h
 refine wpAny_execs_cons (Hn (h1 pins s σ H D I h) λf s1 q=>?_)
 cases f with
 | next=>exact Vo q
 | ret v=>exact q
 | brk=>exact q
 | cont=>exact q
theorem Inv.quiet{pins:List (Addr×Obj)}{σ:St}{H:Hp}{s:Al}(I:Inv X pins σ H s):interactive X.env=false:=by simp [interactive,I.ok.kind]
def Z7(te:TE):TS:=λD σ H=>te σ H λ_ H1=>D.nx σ H1
theorem pM(he:PE X e te)(hs:Mr e none pos.line X.env=pure false:=by rfl):PS X (.Expr e pos) (Z7 te):=by
 intro pins s σ H D I h
 exact wpAny_Expr_any (Hn (he pins s σ H _ I h) λv s1 ⟨x,H1,I1,r1,q1⟩=>⟨σ,H1,I1,q1⟩) I.quiet hs
def DP(te:TE):TS:=λD σ H=>te σ H D.rt
theorem bJ(he:PE X e te):PS X (.Return (some e) pos) (DP te):=by
 intro pins s σ H D I h
 exact wpAny_Return_some (Hn (he pins s σ H _ I h) λv s1 ⟨x,H1,I1,r1,q1⟩=>⟨x,σ,H1,I1,r1,q1⟩)
def EM(c:TT)(t u:TS):TS:=λD σ H=>c σ H λb H1=>if b=true then t D σ H1 else u D σ H1
theorem zQ{c:Expr}{a b:List Stmt}{tc:TT}(hc:PT X c tc)(ha:mV X a t)(hb:mV X b u):PS X (.If c a b pos) (EM tc t u):=by
 intro pins s σ H D I h
 refine wpAny_If (Hn (hc pins s σ H _ I h) λd s1 q0_ => ?_)
 obtain ⟨H1,I1,q1⟩ := q0_
 cases d with
 | true=>exact ha pins s1 σ H1 D I1 q1
 | false=>exact hb pins s1 σ H1 D I1 q1
def T5:TS:=λ_ _ _=>False
theorem vW:PS X st T5:=λ_ _ _ _ _ _ h=>h.elim
end
abbrev TG:=V->St->Hp->(St->Hp->Prop)->Prop
abbrev B7:=List V->St->Hp->(St->Hp->Prop)->Prop
def PG(X:Cx)(target:Expr)(t:TG):Prop :=
 ∀(pins:List (Addr×Obj)) (s:Al) (σ:St) (H:Hp) (v:V) (u:Value) (Q:St->Hp->Prop),Inv X pins σ H s->RelV v u->t v σ H Q ->
  wpAny (model X.prog X.w) X.A (Xm target X.env u) (λ_ s'=>∃σ' H',Inv X pins σ' H' s'/\Q σ' H') X.xe s
def M5(X:Cx)(ts:List Expr)(t:B7):Prop :=
 ∀(pins:List (Addr×Obj)) (s:Al) (σ:St) (H:Hp) (vs:List V) (us:List Value) (Q:St->Hp->Prop),Inv X pins σ H s->Fe vs us->t vs σ H Q ->
  wpAny (model X.prog X.w) X.A (assignInOrder ((Jv ts X.env).map (·.2)) us) (λ_ s'=>∃σ' H',Inv X pins σ' H' s'/\Q σ' H') X.xe s
abbrev V6:=V->V->V->Hp->(Hp->Prop)->Prop
def BD(X:Cx)(t:V6):Prop :=
 ∀(pins:List (Addr×Obj)) (s:Al) (σ:St) (H:Hp) (o i v:V) (ov iv u:Value) (Q:Hp->Prop),Inv X pins σ H s->RelV o ov->RelV i iv->RelV v u->t o i v H Q ->
  wpAny (model X.prog X.w) X.A (setItem ov iv u) (λ_ s'=>∃H',Inv X pins σ H' s'/\Q H') X.xe s
abbrev CT:=V->V->Hp->VK->Prop
def CS(X:Cx)(op:Operator)(t:CT):Prop :=
 ∀(pins:List (Addr×Obj)) (s:Al) (σ:St) (H:Hp) (x y:V) (v u:Value) (Q:VK),Inv X pins σ H s->RelV x v->RelV y u->t x y H Q ->
  wpAny (model X.prog X.w) X.A (inplaceOp op v u) (EP X pins σ Q) X.xe s
section
variable{X:Cx}{pos:Pos}
def eN(i:Nat):TG:=λv σ H Q=>Q (σ.set i (some v)) H
theorem Yx{i:Nat}{x:Str}(hN:X.N.Nodup)(hi:X.N[i]? = some x)(hx:Loc X.env.scope x)(hf:X.fn x=true\/X.env.scope.names.lookup x=some .local:=by first | exact .inl rfl | exact .inr rfl | assumption):PG X (.Name x pos) (eN i):=by
 intro pins s σ H v u Q I r h
 exact wpAny_assign_Name (Zw I hN hi hx r (λs' I'=>⟨_,H,I',h⟩) hf)
def FJ:B7:=λvs σ H Q=>vs=[]/\Q σ H
def Z4(t:TG)(u:B7):B7:=λvs σ H Q=>∃v r,vs=v::r/\t v σ H λσ' H'=>u r σ' H' Q
theorem B9:M5 X [] FJ:=by
 intro pins s σ H vs us Q I r h
 obtain ⟨e,h⟩:=h
 subst e
 cases r
 exact assignInOrder_nil ⟨σ,H,I,h⟩
theorem wF{e:Expr}{es:List Expr}{t:TG}{u:B7}(h1:PG X e t)(h2:M5 X es u)(hs:(Jv (e::es) X.env).map (·.2)=Xm e X.env::(Jv es X.env).map (·.2):=by rfl):M5 X (e::es) (Z4 t u):=by
 intro pins s σ H vs us Q I r h
 obtain ⟨v,vr,e1,h⟩:=h
 subst e1
 cases r with
 | cons r rr =>
  rw[hs]
  refine assignInOrder_cons (Hn (h1 pins s σ H _ _ _ I r h) λ_ s1 q0_ => ?_)
  obtain ⟨σ1,H1,I1,q1⟩ := q0_
  exact h2 pins s1 σ1 H1 _ _ Q I1 rr q1
def EZ(K:PySem.W.Frag)(n:Nat)(t:B7):TG:=λv σ H Q=>∃a xs,v=.ref a/\Uj K H a xs/\xs.length=n/\t xs σ H Q
theorem P4{es:List Expr}{k:Nat}{t:B7}{n:Nat}(hc:X.calm=true)(h:M5 X es t)(hn:(Jv es X.env).length=n:=by rfl)(hst:(Jv es X.env).findIdx? (·.1)=none:=by rfl):PG X (.Tuple es k pos) (EZ X.K n t):=by
 intro pins s σ H v u Q I r hw
 obtain ⟨a,xs,e1,hq,hl,hw⟩:=hw
 subst e1
 cases r
 obtain ⟨its,rv,ht,hz⟩:=I.tuple hq
 refine assign_Tuple_tuple (I.ok.hd hc) ht (by simp [hn,<- hl,rv.length]) hst λh' hx=>?_
 have I1:Inv X pins σ H { s with heap:=h' }:=I.kept (t':=s.toks) λb o e=>hx b o (Cs (Br e)) e
 exact h pins _ σ H xs _ Q I1 (by simpa using rv) hw
def FM(to ti:TE)(t:V6):TG:=λv σ H Q=>to σ H λo H1=>ti σ H1 λi H2=>t o i v H2 λH3=>Q σ H3
theorem vS{o i:Expr}{to ti:TE}{t:V6}(ho:PE X o to)(hi:PE X i ti)(hs:BD X t)
  (ha:∀v,Xm (.Subscript o i pos) X.env v=(do
   let ov <- Yh [v] (eval o X.env)
   let iv <- Yh [v,ov] (eval i X.env)
   standAt pos
   Yh [v,ov,iv] (setItem ov iv v)
   release [v,ov,iv] []):=by intro _; rfl):PG X (.Subscript o i pos) (FM to ti t):=by
 intro pins s σ H v u Q I r h
 rw[ha]
 refine Ae (Dz (Hn (ho pins s σ H _ I h) λov s1 q0_ => ?_))
 obtain ⟨x,H1,I1,r1,q1⟩ := q0_
 refine Ae (Dz (Hn (hi pins s1 σ H1 _ I1 q1) λiv s2 q0_ => ?_))
 obtain ⟨y,H2,I2,r2,q2⟩ := q0_
 refine Ae (wpAny_standAt (Ae (Dz (Hn (hs pins s2 σ H2 x y v ov iv u _ I2 r1 r2 r q2) λ_ s3 q0_ => ?_))))
 obtain ⟨H3,I3,q3⟩ := q0_
 exact wpAny_release ⟨σ,H3,I3,q3⟩
def z0(te:TE)(g:TG):TS:=λD σ H=>te σ H λx H1=>g x σ H1 D.nx
theorem oA{tg e:Expr}{te:TE}{g:TG}(he:PE X e te)(hg:PG X tg g)(hs:swapsWithSole [tg] e pos.line X.env=pure false:=by rfl)(hw:swappedStores [tg] e X.env=pure none:=by rfl)(h1:(Jv [tg] X.env).map (·.2)=[Xm tg X.env]:=by rfl):PS X (.Assign [tg] e pos) (z0 te g):=by
 intro pins s σ H D I h
 refine wpAny_Assign_stores (Hn (he pins s σ H _ I h) λv s1 ⟨x,H1,I1,r1,q1⟩=>?_) hs hw
 rw[h1]
 exact Hn (hg pins s1 σ H1 x v _ I1 r1 q1) λ_ s2 q=>q
theorem Vy{i:Nat}{x:Str}{e:Expr}{te:TE}{pos':Pos}(hN:X.N.Nodup)(hi:X.N[i]? = some x)(hx:Loc X.env.scope x)(he:PE X e te)(hs:Mr e (some (.Name x pos')) pos.line X.env=pure false:=by rfl)(hf:X.fn x=true\/X.env.scope.names.lookup x=some .local:=by first | exact .inl rfl | exact .inr rfl | assumption):PS X (.Assign [.Name x pos'] e pos) (z0 te (eN i)):=by
 intro pins s σ H D I h
 refine wpAny_Assign_Name (Hn (he pins s σ H _ I h) λv s1 ⟨y,H1,I1,r1,q1⟩=>?_) hs
 exact Zw I1 hN hi hx r1 (λs2 I2=>⟨_,H1,I2,q1⟩) hf
def FD(i:Nat)(te:TE)(ti:CT):TS:=λD σ H=>∃x,σ[i]? = some (some x)/\te σ H λy H1=>ti x y H1 λz H2=>D.nx (σ.set i (some z)) H2
theorem U4{i:Nat}{x:Str}{e:Expr}{te:TE}{op:Operator}{ti:CT}{pos':Pos}(hN:X.N.Nodup)(hi:X.N[i]? = some x)(hx:Loc X.env.scope x)(he:PE X e te)(ho:CS X op ti)(hf:X.fn x=true\/X.env.scope.names.lookup x=some .local:=by first | exact .inl rfl | exact .inr rfl | assumption):PS X (.AugAssign (.Name x pos') op e pos) (FD i te ti):=by
 intro pins s σ H D I h
 obtain ⟨v,e1,h⟩:=h
 obtain ⟨m,hn,hl⟩:=I.loc
 have vis:X3 X.env.scope x:=by rcases hx with k | k; exact .inl k; exact .inr (.inl k)
 obtain ⟨u,r,l⟩:=hl i x v hi e1 vis
 refine wpAny_AugAssign_Name ?_
 have go:wpAny (model X.prog X.w) X.A (eval e X.env) (λw s₂=>wpAny (model X.prog X.w) X.A (inplaceOp op u w) (λr s₃=>wpAny (model X.prog X.w) X.A (storeName X.env x r) (λ_=>SP X pins D .next) X.xe s₃) X.xe s₂) X.xe s:=by
  refine Hn (he pins s σ H _ I h) λw s1 q0_ => ?_
  obtain ⟨y,H1,I1,r1,q1⟩ := q0_
  refine Hn (ho pins s1 σ H1 v y u w _ I1 r r1 q1) λz s2 q0_ => ?_
  obtain ⟨zv,H2,I2,r2,q2⟩ := q0_
  exact Zw I2 hN hi hx r2 (λs3 I3=>⟨_,H2,I3,q2⟩) hf
 rcases l with ⟨hk,hm⟩ | ⟨hk,c,hc,hcell⟩
 ·exact wpAny_loadName_local I.ok.kind hk hn hm go
 ·rcases hk with hk | hk
  ·exact wpAny_loadName_cell I.ok.kind hk hc hcell go
  ·rcases hx with k | k
   ·have : X.env.scope.names.lookup x=some .free:=hk
    rw[k] at this; cases this
   ·have : X.env.scope.names.lookup x=some .free:=hk
    rw[k] at this; cases this
def EE(f:Int->Int->Int):CT:=λx y H Q=>∃i j,x=.int i/\y=.int j/\Q (.int (f i j)) H
theorem M3:CS X .Add (EE λi j=>i+j):=by
 intro pins s σ H x y v u Q I r1 r2 h
 obtain ⟨i,j,e1,e2,q⟩:=h
 subst e1; subst e2
 obtain ⟨t,rfl⟩:=r1
 obtain ⟨t',rfl⟩:=r2
 exact iadd_int ⟨.int _,H,I.tok _,⟨_,rfl⟩,q⟩
theorem S5:CS X .Sub (EE λi j=>i - j):=by
 intro pins s σ H x y v u Q I r1 r2 h
 obtain ⟨i,j,e1,e2,q⟩:=h
 subst e1; subst e2
 obtain ⟨t,rfl⟩:=r1
 obtain ⟨t',rfl⟩:=r2
 exact isub_int ⟨.int _,H,I.tok _,⟨_,rfl⟩,q⟩
end
section
variable{X:Cx}{pos:Pos}
def R1(c:TT)(tb:TS):TS:=λD σ H=>∃W:Nat->St->Hp->Prop,(∃m,W m σ H)/\∀m σ H,W m σ H ->
 c σ H λb H1=>if b=true then ∃N:St->Hp->Prop,(∀σ' H',N σ' H'->∃m',m'<m/\W m' σ' H')/\tb { D with nx:=N,ct:=N,bk:=D.nx } σ H1 else D.nx σ H1
theorem xH{c:Expr}{body:List Stmt}{tc:TT}{tb:TS}(hp:PassesOwn (model X.prog X.w) X.A X.env X.xe)(hc:PT X c tc)(hb:mV X body tb):PS X (.While c body [] pos) (R1 tc tb):=by
 intro pins s σ H D I h
 obtain ⟨W,⟨m0,w0⟩,turn⟩:=h
 refine wpAny_While (codeAny_whileLoop (λn s'=>∃σ' H',Inv X pins σ' H' s'/\W n σ' H') ?_ m0 ⟨σ,H,I,w0⟩)
 (intro n s1 q_; obtain ⟨σ1,H1,I1,w1⟩ := q_)
 refine Kb hp (Hn (hc pins s1 σ1 H1 _ I1 (turn n σ1 H1 w1)) λb s2 q0_ => ?_)
 obtain ⟨H2,I2,q2⟩ := q0_
 cases b with
 | true =>
  obtain ⟨N,hN,q2⟩:=q2
  rw[if_pos rfl]
  refine Kb hp (Hn (hb pins s2 σ1 H2 _ I2 q2) λf s3 q3=>?_)
  cases f with
  | next =>
   obtain ⟨σ3,H3,I3,n3⟩:=q3
   obtain ⟨m',hm,w3⟩:=hN σ3 H3 n3
   exact ⟨m',hm,σ3,H3,I3,w3⟩
  | cont =>
   obtain ⟨σ3,H3,I3,n3⟩:=q3
   obtain ⟨m',hm,w3⟩:=hN σ3 H3 n3
   exact ⟨m',hm,σ3,H3,I3,w3⟩
  | brk=>exact q3
  | ret v=>exact q3
 | false =>
  rw[if_neg Gc]
  exact Vo ⟨σ1,H2,I2,q2⟩
end
structure It where
 go:Nat->Hp->Prop
 yld:Nat->Hp->V->Hp->Prop
 stop:Nat->Hp->Prop
def Qv(X:Cx)(pins:List (Addr×Obj))(H:Hp)(b:Addr):Prop :=
 H b=none/\b≠X.env.locals/\b∉X.fs/\(b∈X.ex\/X.s₀.heap.objs.size<=b)/\(∀x c,X.env.cells.lookup x=some c->c≠b)/\∀p∈X.pn++pins,p.1≠b
theorem Inv.fpOk{X:Cx}{pins:List (Addr×Obj)}{σ:St}{H H':Hp}{s:Al}{b:Addr}(I:Inv X pins σ H s)(hb:s.heap.objs.size<=b)(hn:H' b=none):Qv X pins H' b:=by
 refine ⟨hn,Nat.ne_of_gt (Ca I.lt hb),I.nofs hb,.inr (By I.sz hb),λx c e z=>?_,λp hp z=>?_⟩
 ·obtain ⟨v,q⟩:=I.cell x c e
  exact absurd (Ca q.lt (by rw[z]; exact hb)) (Hb _)
 ·exact absurd (Ca (Br (I.pin p hp).1) (by rw[z]; exact hb)) (Hb _)
structure Turn(P:Bs)(w:World)(K:PySem.W.Frag)(tg:Expr)(J:It)(fp:List Addr)(it:Addr)(tn:Nat->Heap->Prop):Prop where
 mem:it∈fp
 obj:∀i h,tn i h->∀b∈fp,∃o,h.get? b=some o/\∀v,o.data≠.cell v
 keep:∀i h h',tn i h->(∀b∈fp,∀o,h.get? b=some o->h'.get? b=some o)->tn i h'
 item:∀(X:Cx),X.prog=P->X.w=w->X.K=K->X.calm=true->∀(i:Nat) (pins:List (Addr×Obj)) (s:Al) (σ:St) (H:Hp) (E:Value->Al->Prop),Inv X pins σ H s->(∀b∈fp,Qv X pins H b)->tn i s.heap->J.go i H ->
  wpAny (model P w) X.A (Uk (.ref it)) (λr s1=>∃u,r=some u /\
   wpAny (model P w) X.A (Vp tg (.ref it) u) (λ_ s2=>∃x H',Inv X pins σ H' s2/\RelV x u/\J.yld i H x H'/\tn (i+1) s2.heap/\∀b∈fp,H' b=none) E s1) E s
 done:∀(X:Cx),X.prog=P->X.w=w->X.K=K->X.calm=true->∀(i:Nat) (pins:List (Addr×Obj)) (s:Al) (σ:St) (H:Hp) (E:Value->Al->Prop),Inv X pins σ H s->(∀b∈fp,Qv X pins H b)->tn i s.heap->J.stop i H ->
  wpAny (model P w) X.A (Uk (.ref it)) (λr s1=>r=none/\Inv X pins σ H s1) E s
 self:∀(A:Dj) (i:Nat) (s:Al) (Q:Value->Al->Prop) (E:Value->Al->Prop),tn i s.heap->Q (.ref it) s->wpAny (model P w) A (pyIter (.ref it)) Q E s
abbrev TI:=St->Hp->(It->Hp->Prop)->Prop
def FX(X:Cx)(pins:List (Addr×Obj))(σ:St)(tg:Expr)(R:It->Hp->Prop)(itv:Value)(s2:Al):Prop :=
 ∃(it:Addr) (fp:List Addr) (tn:Nat->Heap->Prop) (J:It) (H':Hp),itv=.ref it/\Inv X pins σ H' s2/\Turn X.prog X.w X.K tg J fp it tn/\tn 0 s2.heap/\(∀b∈fp,Qv X pins H' b)/\R J H'
def PI(X:Cx)(tg iter:Expr)(wi:TI):Prop :=
 ∀(pins:List (Addr×Obj)) (s:Al) (σ:St) (H:Hp) (R:It->Hp->Prop),Inv X pins σ H s->wi σ H R ->
  wpAny (model X.prog X.w) X.A (eval iter X.env) (λv s1=>wpAny (model X.prog X.w) X.A (pyIter v) (FX X pins σ tg R) X.xe s1) X.xe s
theorem yM{M:Model}{A:Dj}{E:Value->Al->Prop}{s:Al}{tg:Expr}{it:Addr}{u:Value}{o:Obj}{n:String}{vs:Array Value}{Q:Unit->Al->Prop}(ho:s.heap.get? it=some o)(hc:o.cls=.type n)(hd:o.data=.fields vs)(hn:["enumerate", "zip", "dict_itemiterator", "dict_reverseitemiterator", "odict_iterator", "itertools.zip_longest", "itertools.pairwise"].contains n=false)(hQ:Q () s):wpAny M A (Vp tg (.ref it) u) Q E s:=by
  unfold Vp
  cases tg <;> first
    | exact Ak hQ
    | (cases u <;> first
        | exact Ak hQ
        | (refine Ae (wpAny_load ho ?_)
           rw[hc,hd]
           show wpAny M A (if (["enumerate", "zip", "dict_itemiterator", "dict_reverseitemiterator", "odict_iterator", "itertools.zip_longest", "itertools.pairwise"].contains n && vs[0]? == some (Nc _))=true then _ else _) Q E s
           rw[if_neg (by intro h; rw[hn,Bool.false_and] at h; cases h)]
           exact Ak hQ))
def ED(K:PySem.W.Frag)(a:Addr):It :=
 ⟨λi H=>∃xs x,Tq K H a xs/\xs[i]? = some x,λi H x H'=>H'=H/\∀xs,Tq K H a xs->xs[i]? = some x,λi H=>∃xs,Tq K H a xs/\xs.length<=i⟩
def ET(K:PySem.W.Frag)(a:Addr):It :=
 ⟨λi H=>∃xs x,Uj K H a xs/\xs[i]? = some x,λi H x H'=>H'=H/\∀xs,Uj K H a xs->xs[i]? = some x,λi H=>∃xs,Uj K H a xs/\xs.length<=i⟩
def BK(lo:Int)(n:Nat):It:=⟨λi _=>i<n,λi H x H'=>H'=H/\x=.int (lo+i),λi _=>n<=i⟩
theorem tU{P:Bs}{w:World}{K:PySem.W.Frag}{tg:Expr}(a it:Addr):Turn P w K tg (ED K a) [it] it (λi h=>h.IsListIter it a i) where
 mem:=by simp
 obj:=λi h st b hb=>by
  have e:b=it:=by simpa using hb
  subst e
  obtain ⟨o,e,c,d⟩:=st
  exact ⟨o,e,λv z=>by rw[d] at z; cases z⟩
 keep:=λi h h' st k=>st.at λo e=>k it (by simp) o e
 item:=by
  intro X hP hw hK hc i pins s σ H E I hf st hg
  subst hP hw hK
  obtain ⟨xs,x,hq,hx⟩:=hg
  obtain ⟨its,rv,p,hz⟩:=I.list hq
  obtain ⟨u,hu,ru⟩:=rv.get hx
  obtain ⟨f0,f1,f2,f3,f4,f5⟩:=hf it (by simp)
  refine j3 st p.isList (x:=u) (by simpa using hu) λh' st' sb=>?_
  have I1:Inv X pins σ H { s with heap:=h' }:=I.turned (t':=s.toks) (λb o hb e=>(sb.2 b hb).trans e) f0 f1 f3 f4 f5
  obtain ⟨o,e,c,d⟩:=id st'
  exact ⟨u,rfl,yM (s:={ s with heap:=h' }) e c d (by decide) ⟨x,H,I1,ru,⟨rfl,λys hy=>by rw[I.list_inj hy hq]; exact hx⟩,st',λb hb=>(hf b hb).1⟩⟩
 done:=by
  intro X hP hw hK hc i pins s σ H E I hf st hg
  subst hP hw hK
  obtain ⟨xs,hq,hx⟩:=hg
  obtain ⟨its,rv,p,hz⟩:=I.list hq
  obtain ⟨f0,f1,f2,f3,f4,f5⟩:=hf it (by simp)
  have hl:=rv.length
  exact wpAny_pyNext_list_end (I.ok.hd hc) st p.isList (by simp; omega) λh' eb=>⟨rfl,I.turned (t':=s.toks) (λb o hb e=>eb b o hb e) f0 f1 f3 f4 f5⟩
 self:=λ_ _ _ _ _ st h=>wpAny_pyIter_listiter st h
theorem nX{P:Bs}{w:World}{K:PySem.W.Frag}{tg:Expr}(a it:Addr):Turn P w K tg (ET K a) [it] it (λi h=>h.IsTupleIter it a i) where
 mem:=by simp
 obj:=λi h st b hb=>by
  have e:b=it:=by simpa using hb
  subst e
  obtain ⟨o,e,c,d⟩:=st
  exact ⟨o,e,λv z=>by rw[d] at z; cases z⟩
 keep:=λi h h' st k=>st.at λo e=>k it (by simp) o e
 item:=by
  intro X hP hw hK hc i pins s σ H E I hf st hg
  subst hP hw hK
  obtain ⟨xs,x,hq,hx⟩:=hg
  obtain ⟨its,rv,p,hz⟩:=I.tuple hq
  obtain ⟨u,hu,ru⟩:=rv.get hx
  obtain ⟨f0,f1,f2,f3,f4,f5⟩:=hf it (by simp)
  refine i6 st (show s.heap.IsTuple a its.toArray from p) (x:=u) (by simpa using hu) λh' st' sb=>?_
  have I1:Inv X pins σ H { s with heap:=h' }:=I.turned (t':=s.toks) (λb o hb e=>(sb.2 b hb).trans e) f0 f1 f3 f4 f5
  obtain ⟨o,e,c,d⟩:=id st'
  exact ⟨u,rfl,yM (s:={ s with heap:=h' }) e c d (by decide) ⟨x,H,I1,ru,⟨rfl,λys hy=>by rw[I.tuple_inj hy hq]; exact hx⟩,st',λb hb=>(hf b hb).1⟩⟩
 done:=by
  intro X hP hw hK hc i pins s σ H E I hf st hg
  subst hP hw hK
  obtain ⟨xs,hq,hx⟩:=hg
  obtain ⟨its,rv,p,hz⟩:=I.tuple hq
  obtain ⟨f0,f1,f2,f3,f4,f5⟩:=hf it (by simp)
  have hl:=rv.length
  exact i9 (I.ok.hd hc) st (show s.heap.IsTuple a its.toArray from p) (by simp; omega) λh' eb=>⟨rfl,I.turned (t':=s.toks) (λb o hb e=>eb b o hb e) f0 f1 f3 f4 f5⟩
 self:=λ_ _ _ _ _ st h=>wpAny_pyIter_tupleiter st h
theorem oK{P:Bs}{w:World}{K:PySem.W.Frag}{tg:Expr}(it:Addr)(lo:Int)(n:Nat):Turn P w K tg (BK lo n) [it] it (λi h=>IsRangeIter h it (lo+(i:Nat) * 1) ((n:Int) - (i:Nat)) 1) where
 mem:=by simp
 obj:=λi h st b hb=>by
  have e:b=it:=by simpa using hb
  subst e
  exact ⟨_,st,λv z=>by
   have z':Data.fields _=Data.cell v:=z
   cases z'⟩
 keep:=λi h h' st k=>k it (by simp) _ st
 item:=by
  intro X hP hw hK hc i pins s σ H E I hf st hg
  subst hP hw hK
  obtain ⟨f0,f1,f2,f3,f4,f5⟩:=hf it (by simp)
  have W:=Walks.range (prog:=X.prog) (w:=X.w) (I.ok.hd hc) it lo 1 n
  refine W.item i s _ _ hg st λv h' tk hv st' kk=>?_
  obtain ⟨t,rfl⟩:=hv
  have I1:Inv X pins σ H { s with heap:=h',toks:=tk }:=I.turned (λb o hb e=>kk b o (by simpa using hb) e) f0 f1 f3 f4 f5
  refine ⟨_,rfl,yM (s:={ s with heap:=h',toks:=tk }) (n := "range_iterator") st' rfl rfl (by decide) ⟨.int (lo+i),H,I1,⟨t,?_⟩,⟨rfl,rfl⟩,st',λb hb=>(hf b hb).1⟩⟩
  rw[Int.mul_one]
 done:=by
  intro X hP hw hK hc i pins s σ H E I hf st hg
  subst hP hw hK
  obtain ⟨f0,f1,f2,f3,f4,f5⟩:=hf it (by simp)
  exact wpAny_pyNext_range_end (I.ok.hd hc) st (by have : n<=i:=hg; omega) λh' eb=>⟨rfl,I.turned (t':=s.toks) (λb o hb e=>eb b o hb e) f0 f1 f3 f4 f5⟩
 self:=λ_ _ _ _ _ st h=>wpAny_pyIter_rangeiter st h
section
variable{X:Cx}{tg:Expr}
def AW(K:PySem.W.Frag)(tl:TE):TI:=λσ H R=>tl σ H λx H1=>∃a,x=.ref a/\(∃xs,Tq K H1 a xs)/\R (ED K a) H1
def DU(K:PySem.W.Frag)(tl:TE):TI:=λσ H R=>tl σ H λx H1=>∃a,x=.ref a/\(∃xs,Uj K H1 a xs)/\R (ET K a) H1
theorem p7{l:Expr}{tl:TE}(hl:PE X l tl):PI X tg l (AW X.K tl):=by
 intro pins s σ H R I h
 refine Hn (hl pins s σ H _ I h) λv s1 q0_ => ?_
 obtain ⟨x,H1,I1,r1,q1⟩ := q0_
 obtain ⟨a,e,⟨xs,hq⟩,q⟩:=q1
 subst e
 cases r1
 obtain ⟨its,rv,p,hz⟩:=I1.list hq
 refine fE p.isList ?_
 refine ⟨s1.heap.objs.size,[s1.heap.objs.size],_,_,H1,rfl,I1.kept (t':=s1.toks) λb o e=>Am _ e,tU a _,⟨_,Bl _ rfl,rfl,rfl⟩,λb hb=>?_,q⟩
 have e:b=s1.heap.objs.size:=by simpa using hb
 subst e
 exact I1.fpOk (An _) (I1.hok.fresh (An _))
theorem Q0{l:Expr}{tl:TE}(hl:PE X l tl):PI X tg l (DU X.K tl):=by
 intro pins s σ H R I h
 refine Hn (hl pins s σ H _ I h) λv s1 q0_ => ?_
 obtain ⟨x,H1,I1,r1,q1⟩ := q0_
 obtain ⟨a,e,⟨xs,hq⟩,q⟩:=q1
 subst e
 cases r1
 obtain ⟨its,rv,p,hz⟩:=I1.tuple hq
 refine wpAny_pyIter_tuple (show s1.heap.IsTuple a its.toArray from p) ?_
 refine ⟨s1.heap.objs.size,[s1.heap.objs.size],_,_,H1,rfl,I1.kept (t':=s1.toks) λb o e=>Am _ e,nX a _,⟨_,Bl _ rfl,rfl,rfl⟩,λb hb=>?_,q⟩
 have e:b=s1.heap.objs.size:=by simpa using hb
 subst e
 exact I1.fpOk (An _) (I1.hok.fresh (An _))
theorem wW{pins:List (Addr×Obj)}{σ:St}{H:Hp}{s:Al}{R:It->Hp->Prop}{E:Value->Al->Prop}{lo hi:Int}{t u v:Tok}{tk:Nat}(I:Inv X pins σ H s)(h1:-(2 ^ 62)<=lo)(h2:lo<2 ^ 62)(h3:-(2 ^ 62)<=hi)(h4:hi<2 ^ 62)(q:R (BK lo (hi - lo).toNat) H):wpAny (model X.prog X.w) X.A (pyIter (.ref s.heap.objs.size)) (FX X pins σ tg R) E { s with heap:=s.heap.push { cls:=.type "range",data:=.fields #[.int lo t,.int hi u,.int 1 v] },toks:=tk }:=by
 refine wpAny_pyIter_range (IsRange.new ..) (small_one h1 h2 h3 h4) ?_
 have I1:Inv X pins σ H { s with heap:=s.heap.push { cls:=.type "range",data:=.fields #[.int lo t,.int hi u,.int 1 v] },toks:=tk }:=I.kept λb o e=>Am _ e
 refine ⟨(s.heap.push { cls:=.type "range",data:=.fields #[.int lo t,.int hi u,.int 1 v] }).objs.size,[(s.heap.push { cls:=.type "range",data:=.fields #[.int lo t,.int hi u,.int 1 v] }).objs.size],_,_,H,rfl,
  I1.kept (t':=tk) λb o e=>Am _ e,oK _ lo (hi - lo).toNat,?_,λb hb=>?_,q⟩
 ·have e1:lo+((0:Nat):Int) * 1=lo:=by simp
  have e2:(((hi - lo).toNat:Nat):Int) - ((0:Nat):Int)=Kk lo hi 1:=by rw[rangeSize_one]; split <;> omega
  show IsRangeIter _ _ (lo+((0:Nat):Int) * 1) ((((hi - lo).toNat:Nat):Int) - ((0:Nat):Int)) 1
  rw[e1,e2]
  exact Bl _ rfl
 ·have e:b=(s.heap.push { cls:=.type "range",data:=.fields #[.int lo t,.int hi u,.int 1 v] }).objs.size:=by simpa using hb
  subst e
  exact I1.fpOk (An _) (I1.hok.fresh (An _))
def CL(ta:TA):TI:=λσ H R=>ta σ H λvs H1=>∃j:Int,vs=[.int j] /\ -(2 ^ 62)<=j/\j<2 ^ 62/\R (BK 0 j.toNat) H1
theorem tF{a:Expr}{ta:TA}{p pos:Pos}(hg:Gl X "range")(hm:X.mg "range" = none)(ha:PA X [a] ta)(hs:Bz [a] X.env=[(false,eval a X.env)]:=by rfl):PI X tg (.Call (.Name "range" p) [a] [] pos) (CL ta):=by
 intro pins s σ H R I h
 refine Call_ (Zl I hg hm boot_range (Ms (Hn (ha pos pins s σ H _ I h) λus s1 ⟨vs,H1,I1,r1,q1⟩=>?_) hs rfl))
 obtain ⟨j,e,q1,q2,q⟩:=q1
 subst e
 cases r1 with
 | cons r rr =>
  cases rr
  obtain ⟨t,rfl⟩:=r
  exact call_range_1 (wW I1 (by omega) (by omega) q1 q2 (by simpa using q))
def EL(wi:TI)(g:TG)(tb:TS):TS:=λD σ H=>wi σ H λJ H1=>∃W:Nat->Nat->St->Hp->Prop,(∃m,W 0 m σ H1)/\∀i m σ H,W i m σ H ->
 (J.stop i H/\D.nx σ H)\/(J.go i H/\∃N:St->Hp->Prop,(∀σ' H',N σ' H'->∃m',m'<m/\W (i+1) m' σ' H')/\∀x H',J.yld i H x H'->g x σ H' λσ2 H2=>tb { D with nx:=N,ct:=N,bk:=D.nx } σ2 H2)
def Vz(fp:List Addr)(h:Heap):List (Addr×Obj):=fp.filterMap λb=>(h.get? b).map λo=>(b,o)
theorem Lu{fp:List Addr}{h:Heap}{b:Addr}{o:Obj}(hb:b∈fp)(e:h.get? b=some o):(b,o)∈Vz fp h:=Jd.mpr ⟨b,hb,by rw[e]; rfl⟩
theorem rP{fp:List Addr}{h:Heap}{p:Addr×Obj}(hp:p∈Vz fp h):p.1∈fp/\h.get? p.1=some p.2:=by
 obtain ⟨b,hb,e⟩:=Jd.mp hp
 cases q:h.get? b with
 | none=>rw[q] at e; cases e
 | some o =>
  rw[q] at e
  have e':(b,o)=p:=Ce e
  subst e'
  exact ⟨hb,q⟩
theorem Inv.pinned{pins:List (Addr×Obj)}{σ:St}{H:Hp}{s:Al}{fp:List Addr}(I:Inv X pins σ H s)(hf:∀b∈fp,Qv X pins H b)(ho:∀b∈fp,∃o,s.heap.get? b=some o/\∀v,o.data≠.cell v):Inv X (pins++Vz fp s.heap) σ H s :=
 I.pins_of λp hp=>(Ay.mp hp).elim (λz=>I.pin p (Ao _ z)) λz=>by
  obtain ⟨hb,e⟩:=rP z
  obtain ⟨f0,f1,f2,_⟩:=hf p.1 hb
  obtain ⟨o,e',d⟩:=ho p.1 hb
  rw[e] at e'; cases e'
  exact ⟨e,f0,f1,f2,d⟩
theorem Inv.unpinned{pins pl:List (Addr×Obj)}{σ:St}{H:Hp}{s:Al}(I:Inv X (pins++pl) σ H s):Inv X pins σ H s:=I.pins_of λp hp=>I.pin p (Ao _ (Ap _ hp))
theorem U0{iter:Expr}{body:List Stmt}{wi:TI}{g:TG}{tb:TS}{pos:Pos}(hp:PassesOwn (model X.prog X.w) X.A X.env X.xe)(hc:X.calm=true)(hi:PI X tg iter wi)(hg:PG X tg g)(hb:mV X body tb)(hs:∀x,Ih iter X.env x=pure x:=by intro _; rfl):PS X (.For tg iter body [] pos) (EL wi g tb):=by
 intro pins s σ H D I h
 refine wpAny_For (Hn (hi pins s σ H _ I h) λv s1 h1=>Hn h1 λitv s2 h2=>?_) hs
 obtain ⟨it,fp,tn,J,H2,e,I2,T,st2,f2,W,⟨m0,w0⟩,turn⟩:=h2
 subst e
 -- what stays true of the iterator's objects through the loop
 have stat:∀{H':Hp},(∀b∈fp,H' b=none)->∀b∈fp,Qv X pins H' b:=λhn b hb=>⟨hn b hb,(f2 b hb).2⟩
 refine codeAny_forLoop_any (λn s'=>∃i σ' H',Inv X pins σ' H' s'/\tn i s'.heap/\(∀b∈fp,H' b=none)/\W i n σ' H') ?_ m0 ⟨0,σ,H2,I2,st2,λb hb=>(f2 b hb).1,w0⟩
 (intro n s3 q_; obtain ⟨i,σ3,H3,I3,i8,fr3,w3⟩ := q_)
 rcases turn i n σ3 H3 w3 with ⟨stop,qn⟩ | ⟨go,N,hN,step⟩
 ·refine Kb hp (Hn (T.done X rfl rfl rfl hc i pins s3 σ3 H3 X.xe I3 (stat fr3) i8 stop) λr s4 q0_ => ?_)
  obtain ⟨hr,I4⟩ := q0_
  subst hr
  exact Vo ⟨σ3,H3,I4,qn⟩
 ·refine Kb hp (Hn (T.item X rfl rfl rfl hc i pins s3 σ3 H3 X.xe I3 (stat fr3) i8 go) λr s4 q0_ => ?_)
  obtain ⟨u,hr,h4⟩ := q0_
  subst hr
  refine Kb hp (Hn h4 λ_ s5 q0_ => ?_)
  obtain ⟨x,H5,I5,r5,y5,st5,fr5⟩ := q0_
  have I5':=I5.pinned (stat fr5) (T.obj _ _ st5)
  refine Kb hp (Hn (hg _ s5 σ3 H5 x u _ I5' r5 (step x H5 y5)) λ_ s6 q0_ => ?_)
  obtain ⟨σ6,H6,I6,q6⟩ := q0_
  refine Kb hp (Hn (hb _ s6 σ6 H6 _ I6 q6) λf s7 q7=>?_)
  have again:∀{σ7:St} {H7:Hp},Inv X (pins++Vz fp s5.heap) σ7 H7 s7->N σ7 H7->∃m,m<n/\∃i σ' H',Inv X pins σ' H' s7/\tn i s7.heap/\(∀b∈fp,H' b=none)/\W i m σ' H':=λ{σ7 H7} I7 n7=>by
   obtain ⟨m',hm,w7⟩:=hN σ7 H7 n7
   refine ⟨m',hm,i+1,σ7,H7,I7.unpinned,T.keep _ _ _ st5 λb hb o e=>(I7.pin (b,o) (Ao _ (Ao _ (Lu hb e)))).1,λb hb=>?_,w7⟩
   obtain ⟨o,e,d⟩:=T.obj _ _ st5 b hb
   exact (I7.pin (b,o) (Ao _ (Ao _ (Lu hb e)))).2.1
  cases f with
  | next=>obtain ⟨σ7,H7,I7,n7⟩:=q7; exact again I7 n7
  | cont=>obtain ⟨σ7,H7,I7,n7⟩:=q7; exact again I7 n7
  | brk=>obtain ⟨σ7,H7,I7,q7⟩:=q7; exact ⟨σ7,H7,I7.unpinned,q7⟩
  | ret v=>obtain ⟨x7,σ7,H7,I7,r7,q7⟩:=q7; exact ⟨x7,σ7,H7,I7.unpinned,r7,q7⟩
end
abbrev R2:=V->V->Hp->VK->Prop
def Uw(X:Cx)(f:Value->Value->Sem Value)(r:R2):Prop :=
 ∀(pins:List (Addr×Obj)) (s:Al) (σ:St) (H:Hp) (x y:V) (v u:Value) (Q:VK),Inv X pins σ H s->RelV x v->RelV y u->r x y H Q ->
  wpAny (model X.prog X.w) X.A (f v u) (EP X pins σ Q) X.xe s
def EU(X:Cx)(f:Value->Sem Value)(r:V->Hp->VK->Prop):Prop :=
 ∀(pins:List (Addr×Obj)) (s:Al) (σ:St) (H:Hp) (x:V) (v:Value) (Q:VK),Inv X pins σ H s->RelV x v->r x H Q ->
  wpAny (model X.prog X.w) X.A (f v) (EP X pins σ Q) X.xe s
def Jz(X:Cx)(f:Value)(r:List V->Hp->VK->Prop):Prop :=
 ∀(pins:List (Addr×Obj)) (s:Al) (σ:St) (H:Hp) (xs:List V) (us:List Value) (Q:VK),Inv X pins σ H s->Fe xs us->r xs H Q ->
  wpAny (model X.prog X.w) X.A (call f us) (EP X pins σ Q) X.xe s
def EJ(X:Cx)(r:V->Hp->(Bool->Hp->Prop)->Prop):Prop :=
 ∀(pins:List (Addr×Obj)) (s:Al) (σ:St) (H:Hp) (x:V) (v:Value) (Q:Bool->Hp->Prop),Inv X pins σ H s->RelV x v->r x H Q ->
  wpAny (model X.prog X.w) X.A (truthy v) (TP X pins σ Q) X.xe s
def BE(r:R2)(ta tb:TE):TE:=λσ H Q=>ta σ H λx H1=>tb σ H1 λy H2=>r x y H2 Q
def GN(r:V->Hp->VK->Prop)(ta:TE):TE:=λσ H Q=>ta σ H λx H1=>r x H1 Q
def rI(C:Int->Int->Prop)(g:Int->Int->V):R2:=λx y H Q=>∃i j,x=.int i/\y=.int j/\C i j/\Q (g i j) H
def o4(g:Int->Int->V):R2:=λx y H Q=>∃i j,x=.int i/\y=.int j/\Q (g i j) H
def rU(g:Int->V):V->Hp->VK->Prop:=λx H Q=>∃i,x=.int i/\Q (g i) H
section
variable{X:Cx}{a b c:Expr}{ta tb tc:TE}{pos:Pos}
theorem U7(ha:PE X a ta)(hb:PE X b tb){pins:List (Addr×Obj)}{s:Al}{σ:St}{H:Hp}{R:V->V->Hp->Prop}(I:Inv X pins σ H s)(h:ta σ H λx H1=>tb σ H1 λy H2=>R x y H2){Q:Value->Al->Prop}{f:Value->Value->Sem Value}(hf:∀v u s2 x y H2,Inv X pins σ H2 s2->RelV x v->RelV y u->R x y H2->wpAny (model X.prog X.w) X.A (f v u) Q X.xe s2):wpAny (model X.prog X.w) X.A (eval a X.env) (λv s₁=>wpAny (model X.prog X.w) X.A (eval b X.env) (λu s₂=>wpAny (model X.prog X.w) X.A (f v u) Q X.xe s₂) X.xe s₁) X.xe s:=by
 refine Hn (ha pins s σ H _ I h) λv s1 q0_ => ?_
 obtain ⟨x,H1,I1,r1,q1⟩ := q0_
 refine Hn (hb pins s1 σ H1 _ I1 q1) λu s2 q0_ => ?_
 obtain ⟨y,H2,I2,r2,q2⟩ := q0_
 exact hf v u s2 x y H2 I2 r1 r2 q2
theorem Jp{op:Operator}{r:R2}(ho:Uw X (Kc op) r)(ha:PE X a ta)(hb:PE X b tb):PE X (.BinOp a op b pos) (BE r ta tb):=by
 intro pins s σ H Q I h
 exact wpAny_BinOp (U7 ha hb I h λv u s2 x y H2 I2 rx ry q=>ho pins s2 σ H2 x y v u Q I2 rx ry q)
theorem J4{op:UnaryOp}{r:V->Hp->VK->Prop}(ho:EU X (unaryOp op) r)(ha:PE X a ta):PE X (.UnaryOp op a pos) (GN r ta):=by
 intro pins s σ H Q I h
 exact UnaryOp_ (Hn (ha pins s σ H _ I h) λv s1 ⟨x,H1,I1,r1,q1⟩=>ho pins s1 σ H1 x v Q I1 r1 q1)
theorem BM{f:Value->Value->Sem Value}{C:Int->Int->Prop}{g:Int->Int->Int}(rule:∀(i j:Int) (t u:Tok) (s:Al) (Q:Value->Al->Prop) (E:Value->Al->Prop),C i j->Q (.int (g i j) s.toks) { s with toks:=s.toks+1 }->wpAny (model X.prog X.w) X.A (f (.int i t) (.int j u)) Q E s):Uw X f (rI C λi j=>.int (g i j)):=by
 intro pins s σ H x y v u Q I rx ry h
 obtain ⟨i,j,rfl,rfl,hc,q⟩:=h
 obtain ⟨t,rfl⟩:=rx
 obtain ⟨t',rfl⟩:=ry
 exact rule i j t t' s _ _ hc ⟨.int (g i j),H,I.tok _,⟨_,rfl⟩,q⟩
theorem AN{f:Value->Value->Sem Value}{g:Int->Int->Int}(rule:∀(i j:Int) (t u:Tok) (s:Al) (Q:Value->Al->Prop) (E:Value->Al->Prop),Q (.int (g i j) s.toks) { s with toks:=s.toks+1 }->wpAny (model X.prog X.w) X.A (f (.int i t) (.int j u)) Q E s):Uw X f (o4 λi j=>.int (g i j)):=by
 intro pins s σ H x y v u Q I rx ry h
 obtain ⟨i,j,rfl,rfl,q⟩:=h
 obtain ⟨t,rfl⟩:=rx
 obtain ⟨t',rfl⟩:=ry
 exact rule i j t t' s _ _ ⟨.int (g i j),H,I.tok _,⟨_,rfl⟩,q⟩
theorem E8{f:Value->Value->Sem Value}{g:Int->Int->Bool}(rule:∀(i j:Int) (t u:Tok) (s:Al) (Q:Value->Al->Prop) (E:Value->Al->Prop),Q (.bool (g i j)) s->wpAny (model X.prog X.w) X.A (f (.int i t) (.int j u)) Q E s):Uw X f (o4 λi j=>.bl (g i j)):=by
 intro pins s σ H x y v u Q I rx ry h
 obtain ⟨i,j,rfl,rfl,q⟩:=h
 obtain ⟨t,rfl⟩:=rx
 obtain ⟨t',rfl⟩:=ry
 exact rule i j t t' s _ _ ⟨.bl (g i j),H,I,rfl,q⟩
def T7(i j:Int):Prop:=0<j/\j<1073741824
def FN(i j:Int):Prop:=0<=j/\j<=1000000/\i.natAbs<2 ^ 64
def x3(i j:Int):Prop:=(-(2 ^ 64)<i/\i<2 ^ 64)\/(-(2 ^ 64)<j/\j<2 ^ 64)
theorem x3.ok{i j:Int}(h:x3 i j):IntMulOk i j:=by
 rcases h with ⟨h1,h2⟩ | ⟨h1,h2⟩
 ·exact .of_left (intBits_le_64 h1 h2)
 ·exact .of_right (intBits_le_64 h1 h2)
theorem aD:Uw X (Kc .Add) (o4 λi j=>.int (i+j)):=AN λ_ _ _ _ _ _ _ q=>add_int q
theorem U5:Uw X (Kc .Sub) (o4 λi j=>.int (i - j)):=AN λ_ _ _ _ _ _ _ q=>sub_int q
theorem Vx:Uw X (Kc .Mult) (rI x3 λi j=>.int (i * j)):=BM λ_ _ _ _ _ _ _ hc q=>mul_int q hc.ok
theorem fN:Uw X (Kc .FloorDiv) (rI T7 λi j=>.int (i / j)):=BM λi j _ _ _ _ _ hc q=>by
 have h1:(0:Int)<j:=hc.1
 have h2:j<1073741824:=hc.2
 exact floordiv_int (by omega) (by rw[Int.fdiv_eq_ediv_of_nonneg i (by omega)]; exact q) (.inl (PyProof.noPylong_small (by omega)))
theorem Uh:Uw X (Kc .Mod) (rI (λ_ j=>0<j) λi j=>.int (i % j)):=BM λi j _ _ _ _ _ hc q=>by
 have h1:(0:Int)<j:=hc
 exact mod_int' (by omega) (by rw[Int.fmod_eq_emod_of_nonneg i (by omega)]; exact q)
theorem gX:Uw X (Kc .Pow) (rI FN λi j=>.int (i ^ j.toNat)):=BM λ_ _ _ _ _ _ _ hc q=>pow_int_small hc.1 hc.2.1 hc.2.2 q
theorem GI{f:Value->Sem Value}{g:Int->Int}(rule:∀(i:Int) (t:Tok) (s:Al) (Q:Value->Al->Prop) (E:Value->Al->Prop),Q (.int (g i) s.toks) { s with toks:=s.toks+1 }->wpAny (model X.prog X.w) X.A (f (.int i t)) Q E s):EU X f (rU λi=>.int (g i)):=by
 intro pins s σ H x v Q I rx h
 obtain ⟨i,rfl,q⟩:=h
 obtain ⟨t,rfl⟩:=rx
 exact rule i t s _ _ ⟨.int (g i),H,I.tok _,⟨_,rfl⟩,q⟩
theorem vY:EU X (unaryOp .USub) (rU λi=>.int (-i)):=GI λ_ _ _ _ _ q=>neg_int q
end
section
variable{X:Cx}{a b c:Expr}{ta tb tc:TE}{pos:Pos}
theorem P0{pins:List (Addr×Obj)}{σ:St}{H:Hp}{s:Al}{Q:VK}{k k':Bool}(I:Inv X pins σ H s)(q:Q (.bl k) H)(e:k=k'):EP X pins σ Q (.bool k') s:=by
 subst e
 exact ⟨.bl k,H,I,rfl,q⟩
theorem J9:Uw X (Ho .Lt) (o4 λi j=>.bl (decide (i<j))):=E8 λ_ _ _ _ _ _ _ q=>lt_int q
theorem op_le:Uw X (Ho .LtE) (o4 λi j=>.bl (decide (i<=j))):=E8 λ_ _ _ _ _ _ _ q=>le_int q
theorem CD:Uw X (Ho .Gt) (o4 λi j=>.bl (decide (j<i))):=E8 λ_ _ _ _ _ _ _ q=>gt_int q
theorem xM:Uw X (Ho .GtE) (o4 λi j=>.bl (decide (j<=i))):=E8 λ_ _ _ _ _ _ _ q=>ge_int q
theorem C1:Uw X (Ho .IsNot) (λx y H Q=>y=.non/\Q (.bl (!decide (x=.non))) H):=by
 intro pins s σ H x y v u Q I rx ry h
 obtain ⟨rfl,q⟩:=h
 cases ry
 refine isnot_none_gen (P0 I q ?_)
 cases x <;> first
  | (cases rx; rfl)
  | (obtain ⟨t,rfl⟩:=rx; rfl)
theorem Oh(b:Expr){op:CmpOp}(h:op≠.In:=by decide)(h2:op≠.NotIn:=by decide):Fk op b=false:=by
 have e1:(op == CmpOp.In)=false:=by cases op <;> first | rfl | exact absurd rfl h
 have e2:(op == CmpOp.NotIn)=false:=by cases op <;> first | rfl | exact absurd rfl h2
 cases b <;> simp [Fk,e1,e2]
theorem A2{op:CmpOp}{r:R2}(ho:Uw X (Ho op) r)(ha:PE X a ta)(hb:PE X b tb)(hm:Fk op b=false):PE X (.Compare a [op] [b] pos) (BE r ta tb):=by
 intro pins s σ H Q I h
 exact wpAny_Compare1 (U7 ha hb I h λv u s2 x y H2 I2 rx ry q=>ho pins s2 σ H2 x y v u Q I2 rx ry q) hm
def BL(t:TE):TT:=λσ H Q=>t σ H λx H'=>∃k,x=.bl k/\Q k H'
theorem pT{op:CmpOp}{r:R2}(ho:Uw X (Ho op) r)(ha:PE X a ta)(hb:PE X b tb)(hm:Fk op b=false):PT X (.Compare a [op] [b] pos) (BL (BE r ta tb)):=by
 intro pins s σ H Q I h
 refine wpAny_isTrue_Compare1 (Hn (ha pins s σ H _ I h) λv s1 ⟨x,H1,I1,r1,q1⟩=>Hn (hb pins s1 σ H1 _ I1 q1) λu s2 ⟨y,H2,I2,r2,q2⟩ =>
  Hn (ho pins s2 σ H2 x y v u _ I2 r1 r2 q2) λc s3 ⟨z,H3,I3,r3,k,e,q3⟩=>?_) hm
 subst e
 cases r3
 exact Ie ⟨H3,I3,q3⟩
def DQ(K:PySem.W.Frag)(x:V)(H:Hp)(k:Bool):Prop :=
 match x with
 | .non=>k=false
 | .bl b=>k=b
 | .int i=>k=(i != 0)
 | .str y=>y.length<=Bd/\k=((y.length:Int) != 0)
 | .byt y=>y.size<=Bd/\k=((y.size:Int) != 0)
 | .ref p=>(∃xs,Tq K H p xs/\k = !xs.isEmpty)\/(∃xs,Uj K H p xs/\k = !xs.isEmpty)\/∃kvs,H p=some (.dK kvs)/\k = !kvs.isEmpty
 | _=>False
theorem mT{κ:Type}{kvs:List (κ×V)}{vs:List (κ×Value)}(r:KV kvs vs):(!vs.isEmpty) = !kvs.isEmpty:=by
 cases r <;> rfl
theorem Zo{xs:List V}{its:List Value}(r:Fe xs its):(!its.toArray.isEmpty) = !xs.isEmpty:=by
 cases r <;> simp
theorem Uc:(Bd:Nat)<2 ^ 63:=by rw[Ig]; decide
theorem FA:EJ X (λx H Q=>∃k,DQ X.K x H k/\Q k H):=by
 intro pins s σ H x v Q I rx h
 obtain ⟨k,e,q⟩:=h
 have hl:=Uc
 have hs:Bd=16777216:=Ig
 cases x with
 | non =>
  cases rx
  have e':k=false:=e
  subst e'
  exact truthy_none ⟨H,I,q⟩
 | bl b =>
  cases rx
  have e':k=b:=e
  subst e'
  exact Ie ⟨H,I,q⟩
 | int i =>
  obtain ⟨t,rfl⟩:=rx
  have e':k=(i != 0):=e
  subst e'
  exact PySem.P.truthy_int ⟨H,I,q⟩
 | str y =>
  obtain ⟨t,rfl⟩:=rx
  obtain ⟨hy,e'⟩ : y.length<=Bd/\k=((y.length:Int) != 0):=e
  subst e'
  exact PySem.P.truthy_str (by omega) ⟨H,I.tok _,q⟩
 | byt y =>
  obtain ⟨t,rfl⟩:=rx
  obtain ⟨hy,e'⟩ : y.size<=Bd/\k=((y.size:Int) != 0):=e
  subst e'
  exact PySem.W.truthy_bytes (by omega) ⟨H,I.tok _,q⟩
 | ref p =>
  cases rx
  have e':(∃xs,Tq X.K H p xs/\k = !xs.isEmpty)\/(∃xs,Uj X.K H p xs/\k = !xs.isEmpty)\/∃kvs,H p=some (.dK kvs)/\k = !kvs.isEmpty:=e
  rcases e' with ⟨xs,hx,e'⟩ | ⟨xs,hx,e'⟩ | ⟨kvs,hx,e'⟩
  ·subst e'
   obtain ⟨its,r,pl,hz⟩:=I.list hx
   have hlen:=r.length
   exact wpAny_truthy_list pl.isList (by simp only[Aq]; omega) ⟨H,I.tok _,by rw[Zo r]; exact q⟩
  ·subst e'
   obtain ⟨its,r,pl,hz⟩:=I.tuple hx
   have hlen:=r.length
   exact truthy_tuple pl (by simp only[Aq]; omega) ⟨H,I.tok _,by rw[Zo r]; exact q⟩
  ·subst e'
   obtain ⟨hz,hS,vs,r,m⟩ : kvs.length<=Bd/\(p == Lb)=false/\∃vs,KV kvs vs/\s.heap.DictOf (Ij X.prog X.w) p vs:=I.hok p _ hx
   have hlen:kvs.length=vs.length:=Paired.length r
   exact wpAny_truthy_dict hS m (by omega) ⟨H,I.tok _,by rw[mT r]; exact q⟩
 | _=>exact (show False from e).elim
theorem vals1{x:V}{us:List Value}(r:Fe [x] us):∃u,us=[u]/\RelV x u:=by
 cases r with
 | cons r1 r2=>cases r2; exact ⟨_,rfl,r1⟩
theorem vals2{x y:V}{us:List Value}(r:Fe [x,y] us):∃u w',us=[u,w']/\RelV x u/\RelV y w':=by
 cases r with
 | cons r1 r2 =>
  cases r2 with
  | cons r3 r4=>cases r4; exact ⟨_,_,rfl,r1,r3⟩
theorem Sv(hc:X.calm=true):Jz X (.builtin "max") (λxs H Q=>∃i j,xs=[.int i,.int j]/\Q (.int (if j > i then j else i)) H):=by
 intro pins s σ H xs us Q I r h
 obtain ⟨i,j,rfl,q⟩:=h
 obtain ⟨u,w',rfl,⟨t,rfl⟩,⟨t',rfl⟩⟩:=vals2 r
 refine max_two_ints (I.ok.hd hc) λh' tk k=>⟨_,H,I.kept k,?_,q⟩
 by_cases hj:j > i
 ·rw[if_pos hj,if_pos hj]; exact ⟨_,rfl⟩
 ·rw[if_neg hj,if_neg hj]; exact ⟨_,rfl⟩
theorem eR(hc:X.calm=true):Jz X (.builtin "min") (λxs H Q=>∃i j,xs=[.int i,.int j]/\Q (.int (if j<i then j else i)) H):=by
 intro pins s σ H xs us Q I r h
 obtain ⟨i,j,rfl,q⟩:=h
 obtain ⟨u,w',rfl,⟨t,rfl⟩,⟨t',rfl⟩⟩:=vals2 r
 refine min_two_ints (I.ok.hd hc) λh' tk k=>⟨_,H,I.kept k,?_,q⟩
 by_cases hj:j<i
 ·rw[if_pos hj,if_pos hj]; exact ⟨_,rfl⟩
 ·rw[if_neg hj,if_neg hj]; exact ⟨_,rfl⟩
theorem Wd:Jz X (.type "int") (λxs H Q=>(∃i,xs=[.int i]/\Q (.int i) H)\/∃k,xs=[.bl k]/\Q (.int (if k then 1 else 0)) H):=by
 intro pins s σ H xs us Q I r h
 rcases h with ⟨i,rfl,q⟩ | ⟨k,rfl,q⟩
 ·obtain ⟨u,rfl,t,rfl⟩:=vals1 r
  exact call_int_int ⟨.int i,H,I,⟨_,rfl⟩,q⟩
 ·obtain ⟨u,rfl,r1⟩:=vals1 r
  cases r1
  exact call_int_bool ⟨.int (if k then 1 else 0),H,I.tok _,⟨_,rfl⟩,q⟩
def X9(K:PySem.W.Frag)(x:V)(H:Hp)(n:Nat):Prop :=
 match x with
 | .str y=>y.length<=Bd/\n=y.length
 | .byt y=>y.size<=Bd/\n=y.size
 | .ref p=>(∃xs,Tq K H p xs/\n=xs.length)\/∃xs,Uj K H p xs/\n=xs.length
 | _=>False
theorem Es:Jz X (.builtin "len") (λxs H Q=>∃x n,xs=[x]/\X9 X.K x H n/\Q (.int n) H):=by
 intro pins s σ H xs us Q I r h
 obtain ⟨x,n,rfl,e,q⟩:=h
 obtain ⟨u,rfl,rx⟩:=vals1 r
 have hl:=Uc
 have hs:Bd=16777216:=Ig
 cases x with
 | str y =>
  obtain ⟨t,rfl⟩:=rx
  obtain ⟨hy,e'⟩ : y.length<=Bd/\n=y.length:=e
  subst e'
  exact len_str (by omega) ⟨.int _,H,I.tok _,⟨_,rfl⟩,q⟩
 | byt y =>
  obtain ⟨t,rfl⟩:=rx
  obtain ⟨hy,e'⟩ : y.size<=Bd/\n=y.size:=e
  subst e'
  exact PySem.W.len_bytes (by omega) ⟨.int _,H,I.tok _,⟨_,rfl⟩,q⟩
 | ref p =>
  cases rx
  have e':(∃xs,Tq X.K H p xs/\n=xs.length)\/∃xs,Uj X.K H p xs/\n=xs.length:=e
  rcases e' with ⟨xs,hx,e'⟩ | ⟨xs,hx,e'⟩
  ·subst e'
   obtain ⟨its,r',pl,hz⟩:=I.list hx
   have hlen:=r'.length
   exact Calls.call_len_list pl.isList (by simp only[Aq]; omega) ⟨.int xs.length,H,I.tok _,⟨_,by simp only[Aq]; rw[hlen]⟩,q⟩
  ·subst e'
   obtain ⟨its,r',pl,hz⟩:=I.tuple hx
   have hlen:=r'.length
   exact len_tuple pl (by simp only[Aq]; omega) ⟨.int xs.length,H,I.tok _,⟨_,by simp only[Aq]; rw[hlen]⟩,q⟩
 | _=>exact (show False from e).elim
end
structure ObjM(h:Heap)(x dx C:Addr)(mA:Str->Option Value):Prop where
 obj:h.get? x=some (PySem.W.instObj C dx)
 ns:h.Ns1 dx mA
 ne:dx≠x
theorem sO{h:Heap}{dx:Addr}{mA:Str->Option Value}(n:h.Ns1 dx mA):∃od,h.get? dx=some od/\∀name,PySem.W.lookIn name od=some (mA name):=by
 obtain ⟨o,es,ep,ho,hd,hk,_,hm⟩:=n
 refine ⟨o,ho,λname=>?_⟩
 have e:=hm name
 unfold nsFind findBy at e
 rw[<- Array.find?_toList] at e
 unfold PySem.W.lookIn
 rw[hd]
 dsimp only
 split
 ·rename_i y q
  rw[q] at e
  exact congrArg some e
 ·rename_i q
  rw[q] at e
  have a:es.toList.any (·.refKey)=false:=by
   rw[List.any_eq_false]
   intro y hy
   obtain ⟨z,t,hkey⟩:=hk y (Array.mem_toList_iff.mp hy)
   simp [DictEntry.refKey,hkey]
  have a':¬ es.toList.any (·.refKey)=true:=by rw[a]; exact Gc
  rw[if_neg a']
  exact congrArg some e
theorem ObjM.look{h:Heap}{x dx C:Addr}{mA:Str->Option Value}(I:ObjM h x dx C mA):∃od,PySem.W.InstAt h x (PySem.W.instObj C dx) C (some od)/\∀name,PySem.W.lookIn name od=some (mA name) :=
 let ⟨od,ho,hl⟩:=sO I.ns
 ⟨od,⟨I.obj,rfl,rfl,ho⟩,hl⟩
theorem oB.some_of{v:V}{o:Option Value}(r:oB (some v) o):∃u,o=some u/\RelV v u:=by
 cases o with
 | none=>exact (show False from r).elim
 | some u=>exact ⟨u,rfl,r⟩
section
variable{P:Bs}{w:World}{H H':Hp}{h h':Heap}{a C dx:Addr}{fs fs':List (Str×V)}
theorem C6(hok:Vj P w H h)(e:H a=some (.ins C dx fs)):∃mA,ObjM h a dx C mA/\(∀f,oB (fs.lookup f) (mA f))/\PySem.Within mA (fs.map (·.1))/\fs.length<=1000/\H dx=some (.own a):=by
 obtain ⟨d,z,ne,ob,mA,n,r,q⟩:=(show Gq P w H h a (.ins C dx fs) from hok a _ e)
 exact ⟨mA,⟨ob,n,ne⟩,r,q,z,d⟩
end
structure Cls(K:PySem.W.Frag)(C:Addr):Prop where
 pg:PySem.W.plainGet K C Str.empty=true
 hd:PySem.W.hasDictIn K C=true
 po:PySem.W.plainOver K C=true
 sa:PySem.W.findIn K (.ref C) "__setattr__" = some (some (.builtin "object.__setattr__"))
theorem Cls.get{K:PySem.W.Frag}{C:Addr}(c:Cls K C)(f:Str):PySem.W.plainGet K C f=true:=c.pg
section
variable{X:Cx}{pins:List (Addr×Obj)}{σ:St}{H:Hp}{s:Al}{A:Dj}{E:Value->Al->Prop}{Q:Value->Al->Prop}{c:Value}{b:Bool}
inductive TyOf (K:PySem.W.Frag) (H:Hp):V->Value->Prop where
 | non:TyOf K H .non (.type "NoneType")
 | bl (x:Bool):TyOf K H (.bl x) (.type "bool")
 | int (i:Int):TyOf K H (.int i) (.type "int")
 | str (x:Str):TyOf K H (.str x) (.type "str")
 | flt (x:UInt64):TyOf K H (.flt x) (.type "float")
 | lst {a:Addr} {xs:List V} (e:H a=some (.lst xs)):TyOf K H (.ref a) (.type "list")
 | frz {a:Addr} {o:Obj} {xs:List V} (e:H a=some (.frz o (.lst xs))):TyOf K H (.ref a) (.type "list")
 | tup {a:Addr} {xs:List V} (e:H a=some (.tup xs)):TyOf K H (.ref a) (.type "tuple")
 | dK {a:Addr} {kvs:List (Ld×V)} (e:H a=some (.dK kvs)):TyOf K H (.ref a) (.type "dict")
 | dT {a:Addr} {kvs:List (List Ld×V)} (e:H a=some (.dT kvs)):TyOf K H (.ref a) (.type "dict")
 | ins {a C dx:Addr} {fs:List (Str×V)} (e:H a=some (.ins C dx fs)) (cl:Cls K C) (ha:PySem.W.findIn K (.ref C) "__class__" = some (some (.builtin "object.__class__")))
   (hn:PySem.W.specialIn K (.builtin "object.__class__") "__get__" = some (some (.builtin "getset_descriptor.__get__"))) (htk:PySem.W.takesIn K (.builtin "object.__class__")=some true)
   (hm:PySem.W.mroIn K C (.type "object")=some true):TyOf K H (.ref a) (.ref C)
theorem tO{x:V}{u t:Value}(I:Inv X pins σ H s)(rx:RelV x u)(ty:TyOf X.K H x t)(e:PySem.W.kitOne X.K t c=some b)(h:∀tk,Q (.bool b) { s with toks:=tk }):wpAny (model X.prog X.w) A (call (.builtin "isinstance") [u,c]) Q E s:=by
 cases ty with
 | non=>cases (show u=Qy from rx); exact PySem.W.kia_one PySem.W.kitx_none I.kIn Lo e (λz=>nomatch z) h
 | bl y=>cases (show u=Value.bool y from rx); exact PySem.W.kia_one PySem.W.kitx_bool I.kIn Lo e (λz=>nomatch z) h
 | int i=>obtain ⟨t,q⟩:=(show ∃t,u=Ox i t from rx); cases q; exact PySem.W.kia_one PySem.W.kitx_int I.kIn Lo e (λz=>nomatch z) h
 | str y=>obtain ⟨t,q⟩:=(show ∃t,u=Value.str y t from rx); cases q; exact PySem.W.kia_one PySem.W.kitx_str I.kIn Lo e (λz=>nomatch z) h
 | flt y=>obtain ⟨t,q⟩:=(show ∃t,u=Value.float y t from rx); cases q; exact PySem.W.kia_one PySem.W.kitx_float I.kIn Lo e (λz=>nomatch z) h
 | @lst a xs ea =>
  cases (show u=Cq a from rx)
  obtain ⟨_,_,n,_,h1⟩:=(show Gq X.prog X.w H s.heap a (.lst xs) from I.hok a _ ea)
  exact PySem.W.kia_one PySem.W.kitx_list I.kIn ⟨_,h1,rfl⟩ e (λz=>nomatch z) h
 | @frz a ob xs ea =>
  cases (show u=Cq a from rx)
  obtain ⟨_,_,_,n,_,h1⟩:=(show Gq X.prog X.w H s.heap a (.frz ob (.lst xs)) from I.hok a _ ea)
  exact PySem.W.kia_one PySem.W.kitx_list I.kIn ⟨_,h1,rfl⟩ e (λz=>nomatch z) h
 | @tup a xs ea =>
  cases (show u=Cq a from rx)
  obtain ⟨_,_,_,p⟩:=(show Gq X.prog X.w H s.heap a (.tup xs) from I.hok a _ ea)
  obtain ⟨o,h1,h2,_⟩:=p
  exact PySem.W.kia_one PySem.W.kitx_tuple I.kIn ⟨o,h1,h2⟩ e (λz=>nomatch z) h
 | @dK a kvs ea =>
  cases (show u=Cq a from rx)
  obtain ⟨_,_,vs,_,p⟩:=(show Gq X.prog X.w H s.heap a (.dK kvs) from I.hok a _ ea)
  obtain ⟨o,es,ep,h1,h2,_⟩:=p
  exact PySem.W.kia_one PySem.W.kitx_dict I.kIn ⟨o,h1,h2.1⟩ e (λz=>nomatch z) h
 | @dT a kvs ea =>
  cases (show u=Cq a from rx)
  obtain ⟨_,_,xs,_,o,es,ep,h1,h2,_⟩:=(show Gq X.prog X.w H s.heap a (.dT kvs) from I.hok a _ ea)
  exact PySem.W.kia_one PySem.W.kitx_dict I.kIn ⟨o,h1,h2.1⟩ e (λz=>nomatch z) h
 | @ins a C dx fs ea cl ha hn htk hm =>
  cases (show u=Cq a from rx)
  obtain ⟨mA,O,_⟩:=C6 I.hok ea
  obtain ⟨od,J,_⟩:=O.look
  exact PySem.W.kia_one (PySem.W.kitx_own (cl.get _) cl.hd ha hn htk hm) I.kIn J e (λz=>nomatch z) h
end
structure Room(k:Nat)(A:Dj):Prop where
 hd:A.handled=none
 dp:A.depth+3 * k+5<recursionLimit
 un:A.units+16 * k+200<cLine
 gd:A.guards=some []
theorem Room.mono{j k:Nat}{A:Dj}(r:Room k A)(h:j<=k):Room j A:=⟨r.hd,by have:=r.dp; omega,by have:=r.un; omega,r.gd⟩
theorem Room.deeper{k:Nat}{A:Dj}(r:Room (k+1) A)(env:Env):Room k (A.deeper env) :=
 ⟨r.hd,by have:=r.dp; show A.depth+1+3 * k+5<_; omega,by have:=r.un; show A.units+3+16 * k+200<_; omega,r.gd⟩
theorem Room.depth{k:Nat}{A:Dj}(r:Room k A):A.depth<recursionLimit:=by have:=r.dp; omega
theorem Room.units{k:Nat}{A:Dj}(r:Room k A):A.units+64<cLine:=by have:=r.un; omega
def AG:TA:=λ_ H Q=>Q [] H
def AL(ta:TE)(tr:TA):TA:=λσ H Q=>ta σ H λx H1=>tr σ H1 λxs H2=>Q (x::xs) H2
section
variable{X:Cx}{e:Expr}{es:List Expr}{te:TE}{t:TA}{pos:Pos}
theorem Pj:PA X [] AG:=λ_ _ _ _ H Q I h=>Calls.spliced_nil ⟨[],H,I,.nil,h⟩
theorem Hu(ha:PE X e te)(hr:PA X es t)(hs:Bz (e::es) X.env=(false,eval e X.env)::Bz es X.env:=by rfl):PA X (e::es) (AL te t):=by
 intro pos pins s σ H Q I h
 rw[hs]
 show wpAny _ _ (spliced ((false,eval e X.env)::Kl pos (Bz es X.env))) _ _ s
 refine Calls.spliced_cons (Hn (ha pins s σ H _ I h) λu s1 q0_ => ?_)
 obtain ⟨x,H1,I1,r1,q1⟩ := q0_
 exact Hn (hr pos pins s1 σ H1 _ I1 q1) λus s2 ⟨xs,H2,I2,r2,q2⟩=>⟨x::xs,H2,I2,.cons r1 r2,q2⟩
def EK(t:TA):TE:=λσ H Q=>t σ H λxs H1=>xs.length<=Bd/\∀p,H1 p=none->Q (.ref p) (upd H1 p (.tup xs))
def FG(t:TA):TE:=λσ H Q=>t σ H λxs H1=>xs.length<=Bd/\∀p,H1 p=none->Q (.ref p) (upd H1 p (.lst xs))
theorem N5{x1}(h:PA X es t):PE X (.Tuple es x1 pos) (EK t):=by
 intro pins s σ H Q I hq
 refine wpAny_Tuple_spliced (Hn (h pos pins s σ H _ I hq) λus s1 ⟨xs,H1,I1,r,z,q⟩=>⟨by rw[<- r.length]; exact z,?_⟩)
 have hf:H1 s1.heap.objs.size=none:=I1.hok.fresh (An _)
 refine ⟨.ref s1.heap.objs.size,upd H1 s1.heap.objs.size (.tup xs),I1.laid (t':=s1.toks) (λb u e=>Am _ e) (An _) ?_,rfl,q _ hf⟩
 exact ⟨z,us,r,⟨_,Bl _ rfl,rfl,_,rfl⟩⟩
theorem mX(h:PA X es t):PE X (.List es pos) (FG t):=by
 intro pins s σ H Q I hq
 refine wpAny_List_spliced (Hn (h pos pins s σ H _ I hq) λus s1 ⟨xs,H1,I1,r,z,q⟩=>⟨by rw[<- r.length]; exact z,?_⟩)
 have hf:H1 s1.heap.objs.size=none:=I1.hok.fresh (An _)
 refine ⟨.ref s1.heap.objs.size,upd H1 s1.heap.objs.size (.lst xs),I1.laid (t':=s1.toks) (λb u e=>Am _ e) (An _) ?_,rfl,q _ hf⟩
 exact ⟨z,us,0,r,Bl _ rfl⟩
end
abbrev Sp:=List V->Hp->VK->XK->Prop
abbrev qQ:=List Env->Hp->Al->XK->Value->Al->Prop
structure Env0(P:Bs)(w:World)(K:PySem.W.Frag)(mg:Str->Option Value)(base:Heap)(A:Dj)(outer:List Env)(s:Al)(H:Hp):Prop where
 frames:A.frames=some outer
 mod:Mod K mg base
 bs:∀b o,base.get? b=some o->s.heap.get? b=some o/\H b=none
 bsz:base.objs.size<=s.heap.objs.size
 funs:s.heap.FunFrames base outer
 frf:∀b∈tL outer,H b=none
 hok:Vj P w H s.heap
 bare:Rz s.gens
 tab:zA K mg base H
def CE(outer:List Env)(P:Bs)(w:World)(H:Hp)(s:Al)(Q:VK)(u:Value)(s':Al):Prop :=
 ∃v H',s'.os=s.os/\Rz s'.gens/\Un (tL outer) [] H H' s.heap s'.heap/\Vj P w H' s'.heap/\RelV v u/\Q v H'
def CR(CX:qQ)(outer:List Env)(P:Bs)(w:World)(H:Hp)(s:Al)(Q:VK)(E:XK)(r:Result)(s':Al):Prop :=
 match r with
 | .ok (.ret u)=>CE outer P w H s Q u s'
 | .ok _=>False
 | .error e=>CX outer H s E e s'
structure FnOk(P:Bs)(w:World)(K:PySem.W.Frag)(mg:Str->Option Value)(base:Heap)(CX:qQ)(k:Nat)(f:Addr)(fd:Cg)(ps:List Str)(sp:Sp):Prop where
 len:∀vs H Q E,sp vs H Q E->vs.length=ps.length
 run:∀(A:Dj) (outer:List Env) (s:Al) (H:Hp) (args:Args) (us:List Value) (vs:List V) (Q:VK) (E:XK),Room k A->Env0 P w K mg base A outer s H->BindsTo s fd args (ps.zip us)->Fe vs us->sp vs H Q E ->
  Ng (model P w) A (.call (.ref f) args) (CR CX outer P w H s Q E) s
theorem FnOk.imp{P:Bs}{w:World}{K:PySem.W.Frag}{mg:Str->Option Value}{base:Heap}{CX:qQ}{k:Nat}{f:Addr}{fd:Cg}{ps:List Str}{sp sp':Sp}(F:FnOk P w K mg base CX k f fd ps sp)(h:∀vs H Q E,sp' vs H Q E->sp vs H Q E):FnOk P w K mg base CX k f fd ps sp' :=
 ⟨λvs H Q E q=>F.len vs H Q E (h _ _ _ _ q),λA outer s H args us vs Q E hr he hb hv hs=>F.run A outer s H args us vs Q E hr he hb hv (h _ _ _ _ hs)⟩
section
variable{X:Cx}{pins:List (Addr×Obj)}{σ:St}{H:Hp}{s s':Al}
theorem Inv.env0(I:Inv X pins σ H s):Env0 X.prog X.w X.K X.mg X.base X.A X.stack s H :=
 ⟨I.ok.frames,I.ok.mod,I.bs,By I.ok.bsz I.sz,I.stack,I.stkFree,I.hok,I.bare,I.ok.tab.un I.base⟩
theorem Inv.after{Q:VK}{u:Value}(I:Inv X pins σ H s)(h:CE X.stack X.prog X.w H s Q u s'):EP X pins σ Q u s':=by
 obtain ⟨v,H',os,bare,un,hok,r,q⟩:=h
 obtain ⟨hh,g,d,t,os'⟩:=s'
 obtain rfl:os'=s.os:=os
 exact ⟨v,H',I.call (h':=hh) (g':=g) (d':=d) (t':=t) (ch:=[]) un hok bare (λb z=>absurd z (by simp)),r,q⟩
end
def G8(sp:Sp)(dvs:List V)(E:XK)(t:TA):TE:=λσ H Q=>t σ H λvs H1=>sp (vs++dvs) H1 Q E
def Binds(K:PySem.W.Frag)(fd:Cg)(ps:List Str)(ds:List Value):Prop :=
 ∀(s:Al) (us:List Value),K.In s.heap->(us++ds).length=ps.length->BindsTo s fd ⟨us,[]⟩ (ps.zip (us++ds))
theorem Binds.all{K:PySem.W.Frag}{fd:Cg}{ps:List Str}(h:∀us:List Value,us.length=ps.length->bindArgs fd ⟨us,[]⟩=pure (ps.zip us)):Binds K fd ps []:=λs us _ hl=>by
 rw[Ec] at hl ⊢
 exact .of_eq (h us hl)
def Pi(CX:qQ)(X:Cx)(E:XK):Prop:=∀(pins:List (Addr×Obj)) (σ:St) (H:Hp) (s:Al) (e:Value) (s':Al),Inv X pins σ H s->CX X.stack H s E e s'->X.xe e s'
section
variable{X:Cx}{CX:qQ}{k:Nat}{f C:Addr}{fd:Cg}{ps:List Str}{sp:Sp}{dvs:List V}{ds:List Value}{E:XK}{x m:Str}{p pos apos:Pos}{e o:Expr}{es:List Expr}{ta:TE}{t:TA}
theorem uU{pins:List (Addr×Obj)}{σ:St}{H:Hp}{s:Al}{Q:VK}{us:List Value}{vs:List V}(F:FnOk X.prog X.w X.K X.mg X.base CX k f fd ps sp)(hr:Room k X.A)(hb:Binds X.K fd ps ds)(hd:Fe dvs ds)(hx:Pi CX X E)(I:Inv X pins σ H s)(r:Fe vs us)(h:sp (vs++dvs) H Q E):wpAny (model X.prog X.w) X.A (call (.ref f) us) (EP X pins σ Q) X.xe s:=by
 have r2:Fe (vs++dvs) (us++ds):=r.append hd
 have hl:(us++ds).length=ps.length:=by rw[<- r2.length]; exact F.len _ _ _ _ h
 refine wpAny_call (Lf (F.run X.A X.stack s H ⟨us,[]⟩ (us++ds) (vs++dvs) Q E hr I.env0 (hb s us I.kIn hl) r2 h) λr s' hq=>?_)
 cases r with
 | error e=>exact hx pins σ H s e s' I hq
 | ok fl =>
  cases fl with
  | ret u=>exact I.after hq
  | next=>exact Kd hq
  | brk=>exact Kd hq
  | cont=>exact Kd hq
theorem Ux(F:FnOk X.prog X.w X.K X.mg X.base CX k f fd ps sp)(hr:Room k X.A)(hg:Gl X x)(hm:X.mg x=some (.ref f))(hk:PySem.W.keepIn X.K (.ref f)=true)(hb:Binds X.K fd ps ds)(hd:Fe dvs ds)(hx:Pi CX X E)(ha:PA X (e::es) t)(hdb:(x == ("__debug__" : Str))=false:=by decide)(he:Bz (e::es) X.env=(false,eval e X.env)::Bz es X.env:=by rfl)(hpl:(Kl pos (Bz es X.env)).any (·.1)=false:=by rfl):PE X (.Call (.Name x p) (e::es) [] pos) (G8 sp dvs E t):=by
 intro pins s σ H Q I h
 refine Qu (qA I hg hm ?_ hdb)
 refine PySem.W.callWith_K (h₀:=X.base) I.ok.mod.kin hk (Hn (ha pos pins s σ H _ I h) λus s1 ⟨vs,H1,I1,r,q⟩=>⟨I1.kIn,?_⟩) he hpl
 exact uU F hr hb hd hx I1 r q
theorem vE(F:FnOk X.prog X.w X.K X.mg X.base CX k f fd ps sp)(hr:Room k X.A)(hg:Gl X x)(hm:X.mg x=some (.ref f))(hk:PySem.W.keepIn X.K (.ref f)=true)(hb:Binds X.K fd ps ds)(hd:Fe dvs ds)(hx:Pi CX X E)(hdb:(x == ("__debug__" : Str))=false:=by decide):PE X (.Call (.Name x p) [] [] pos) (G8 sp dvs E AG):=by
 intro pins s σ H Q I h
 refine Qu (qA I hg hm ?_ hdb)
 exact PySem.W.callWith_K0 I.kIn hk (uU (us:=[]) F hr hb hd hx I .nil h)
end
structure FnScope(N P:List Str)(sc:Scope):Prop where
 kind:sc.kind=.function
 co:sc.isCoroutine=false
 gen:sc.isGenerator=false
 nd:N.Nodup
 pre:N.take P.length=P
 par:∀x∈P,sc.names.lookup x=some .local\/sc.names.lookup x=some .cell
 nofree:∀y∈sc.names,y.2≠.free
theorem dW{kindOf:Str->Option Ph}{x:Str}:∀{binds:List (Str×Value)} {m:Str->Option Value},(∀v,(x,v)∉binds)->bindL kindOf binds m x=m x
 | [],_,_=>rfl
 | (n,v)::r,m,h=>by
  unfold bindL
  rw[dW λw hw=>h w (Ah _ hw)]
  split
  ·have : x≠n:=by rintro rfl; exact h v Ab
   simp [this]
  ·rfl
theorem dS{kindOf:Str->Option Ph}{x:Str}:∀{binds:List (Str×Value)} {m:Str->Option Value},(∀v,(x,v)∉binds)->bindC kindOf binds m x=m x
 | [],_,_=>rfl
 | (n,v)::r,m,h=>by
  unfold bindC
  rw[dS λw hw=>h w (Ah _ hw)]
  split
  ·rfl
  ·have : x≠n:=by rintro rfl; exact h v Ab
   simp [this]
theorem dY{kindOf:Str->Option Ph}{x:Str}{v:Value}:∀{P:List Str} {vs:List Value} {i:Nat} {m:Str->Option Value},P.Nodup->P[i]? = some x->vs[i]? = some v->kindOf x=some .local->bindL kindOf (P.zip vs) m x=some v
 | [],_,_,_,_,h,_,_=>by simp at h
 | _::_,[],_,_,_,_,h,_=>by simp at h
 | p::P,w::vs,0,m,nd,h1,h2,hk=>by
  simp at h1 h2; subst h1; subst h2
  show bindL kindOf ((p,w)::P.zip vs) m p=_
  unfold bindL
  rw[dW λv hv=>(Bt.mp nd).1 (List.of_mem_zip hv).1,if_pos hk]
  simp
 | p::P,w::vs,i+1,m,nd,h1,h2,hk=>by
  show bindL kindOf ((p,w)::P.zip vs) m x=_
  unfold bindL
  exact dY (i:=i) (Bt.mp nd).2 (by simpa using h1) (by simpa using h2) hk
theorem dZ{kindOf:Str->Option Ph}{x:Str}{v:Value}:∀{P:List Str} {vs:List Value} {i:Nat} {m:Str->Option Value},P.Nodup->P[i]? = some x->vs[i]? = some v->kindOf x≠some .local->bindC kindOf (P.zip vs) m x=some v
 | [],_,_,_,_,h,_,_=>by simp at h
 | _::_,[],_,_,_,_,h,_=>by simp at h
 | p::P,w::vs,0,m,nd,h1,h2,hk=>by
  simp at h1 h2; subst h1; subst h2
  show bindC kindOf ((p,w)::P.zip vs) m p=_
  unfold bindC
  rw[dS λv hv=>(Bt.mp nd).1 (List.of_mem_zip hv).1,if_neg hk]
  simp
 | p::P,w::vs,i+1,m,nd,h1,h2,hk=>by
  show bindC kindOf ((p,w)::P.zip vs) m x=_
  unfold bindC
  exact dZ (i:=i) (Bt.mp nd).2 (by simpa using h1) (by simpa using h2) hk
def start(N:List Str)(vs:List V):St:=vs.map some++Cm (N.length - vs.length) none
def Lq(CX:qQ)(P:Bs)(w:World)(K:PySem.W.Frag)(mg:Str->Option Value)(base:Heap)(N:List Str)(qual:Str)(scope:Scope)(f:Addr)(cd:Value)(A:Dj)(outer:List Env)(s:Al)(H:Hp)(E:XK):Cx where
 prog:=P
 w:=w
 K:=K
 mg:=mg
 base:=base
 A:=A.deeper (Pn qual scope s.heap.objs.size f cd)
 N:=N
 s₀:=s
 H₀:=H
 env:=Pn qual scope s.heap.objs.size f cd
 outer:=outer
 stack:=Pn qual scope s.heap.objs.size f cd::outer
 ex:=[]
 calm:=true
 fn:=λ_=>true
 pn:=[]
 xe:=λe s'=>wpAny (model P w) (A.deeper (Pn qual scope s.heap.objs.size f cd)) (leaving (Pn qual scope s.heap.objs.size f cd) e) (λ_ s''=>CX outer H s E e s'') (λe' s''=>CX outer H s E e' s'') s'
theorem jN{sc:Scope}{n:Nat}{x:Str}(h:sc.names.lookup x=some .cell):∃c,(Fb n sc.names []).lookup x=some c:=by
 have q:=PySem.W.cellsFrom_some sc.names n [] (.inl h)
 exact Kx.mp q
theorem rY{CX:qQ}{P:Bs}{w:World}{K:PySem.W.Frag}{mg:Str->Option Value}{base:Heap}{N ps:List Str}{qual:Str}{scope:Scope}{f:Addr}{cd:Value}{A:Dj}{outer:List Env}{s s1:Al}{H:Hp}{E:XK}{us:List Value}{vs:List V}(S:FnScope N ps scope)(hd:A.handled=none)(e0:Env0 P w K mg base A outer s H)(hl:vs.length=ps.length)(r:Fe vs us)(x:InCallC s s.heap.objs.size (bindL (Pn qual scope s.heap.objs.size f cd).kindOf (ps.zip us) λ_=>none) (Fb (s.heap.objs.size+1) scope.names []) (bindC (Pn qual scope s.heap.objs.size f cd).kindOf (ps.zip us) λ_=>none) s1):Inv (Lq CX P w K mg base N qual scope f cd A outer s H E) [] (start N vs) H s1:=by
 have hpl:ps.length<=N.length:=by have:=congrArg Ha S.pre; rw[Fl] at this; omega
 obtain ⟨h1,tk,rfl,hk⟩:=x.done
 have noA:∀b:Addr,b∉(Lq CX P w K mg base N qual scope f cd A outer s H E).ex:=λb z=>absurd (show b∈([]:List Addr) from z) (by simp)
 refine ⟨⟨e0.mod,S.kind,rfl,rfl,An _,λy z c h1 h2=>?_,λy hy=>?_,λy c _ h=>?_,λ_=>hd,Around.frames_deeper e0.frames,.inr ⟨rfl,rfl⟩,λb z=>absurd z (noA b),e0.bs,e0.bsz,λb _ _=>noA b,λb z=>absurd z (noA b),e0.funs,e0.frf,e0.tab⟩,
  rfl,e0.bare,Un.kept hk,⟨_,x.toInCall.ns,λi y v h1 h2 h3=>?_⟩,λy c h=>⟨_,x.cell y c h⟩,e0.hok.fresh (An _),λy c h=>?_,λp hp=>absurd (show p∈([]:List (Addr×Obj)) from hp) (by simp),e0.hok.kept hk,?_⟩
 ·exact name_of_addr x.apart (PySem.mem_of_lookup h1) (PySem.mem_of_lookup h2)
 ·have hy:scope.names.lookup y=some .cell\/scope.names.lookup y=some .free:=hy
  rcases hy with hy | hy
  ·exact jN hy
  ·exact absurd rfl (S.nofree _ (PySem.mem_of_lookup hy))
 ·exact Kt (x.above y c (PySem.mem_of_lookup h))
 ·have hi:i<vs.length:=by
   unfold start at h2
   by_cases hi:i<vs.length
   ·exact hi
   ·rw[Ki (by simpa using hi)] at h2
    rw[List.getElem?_replicate] at h2
    split at h2 <;> cases h2
  have ha:vs[i]? = some v:=by
   unfold start at h2
   rw[Pz (by simpa using hi),Cc] at h2
   cases e:vs[i]? with
   | none=>rw[e] at h2; cases h2
   | some a=>rw[e] at h2; cases h2; rfl
  obtain ⟨u,hu,rv⟩:=r.get ha
  have hp:ps[i]? = some y:=by
   rw[<- S.pre,mD (by omega)]; exact h1
  have ndP:ps.Nodup:=by rw[<- S.pre]; exact S.nd.sublist (Hq _ _)
  refine ⟨u,rv,?_⟩
  rcases S.par y (Bg hp) with k | k
  ·exact .inl ⟨k,dY ndP hp hu k⟩
  ·obtain ⟨c,e⟩:=jN (n:=s.heap.objs.size+1) k
   refine .inr ⟨.inl k,c,e,?_⟩
   have q:=x.cell y c e
   rw[dZ ndP hp hu (by show scope.names.lookup y≠_; rw[k]; decide)] at q
   exact q
 ·exact e0.hok.fresh (Kt (x.above y c (PySem.mem_of_lookup h)))
 ·unfold start
  show _=N.length
  rw[Az,Ad,List.length_replicate]
  omega
theorem X5{CX:qQ}{P:Bs}{w:World}{K:PySem.W.Frag}{mg:Str->Option Value}{base:Heap}{k:Nat}{f:Addr}{name qual:Str}{params:Arguments}{body:List Stmt}{scope:Scope}{dV kV doc pm cdv ct oc:Value}{an od:Option Addr}{osl:Array (Option Value)}{N ps:List Str}{sp:Sp}(lk:K.lookup f=some ⟨oc,od,.func (PySem.W.fnOf name qual params body scope dV kV doc pm an cdv ct),osl⟩)(hcd:PySem.W.codeIn K cdv qual=true)(S:FnScope N ps scope)(len:∀vs H Q E,sp vs H Q E->vs.length=ps.length)(hbody:∀(A:Dj) (outer:List Env) (s:Al) (H:Hp) (vs:List V) (Q:VK) (E:XK),Room k (A.deeper (Pn qual scope s.heap.objs.size f cdv))->sp vs H Q E->∃t,mV (Lq CX P w K mg base N qual scope f cdv A outer s H E) body t/\t { nx:=λ_ H'=>Q .non H',rt:=Q } (start N vs) H):FnOk P w K mg base CX (k+1) f (PySem.W.fnOf name qual params body scope dV kV doc pm an cdv ct) ps sp:=by
 refine ⟨len,λA outer s H args us vs Q E hr e0 hb r hsp=>?_⟩
 have hl:=len _ _ _ _ hsp
 have KX:K.In s.heap:=e0.mod.kin.keeps λb o e=>(e0.bs b o e).1
 have lim:s.heap.NoLimit:=e0.mod.nolimit.keeps λb o e=>(e0.bs b o e).1
 have hkind:∀y∈ps.zip us,scope.names.lookup y.1=some .local\/(scope.names.lookup y.1=some .cell/\((Fb (s.heap.objs.size+1) scope.names []).lookup y.1).isSome=true):=λ⟨n,v⟩ hy=>by
  rcases S.par n (List.of_mem_zip hy).1 with q | q
  ·exact .inl q
  ·exact .inr ⟨q,PySem.W.cellsFrom_some _ _ _ (.inl q)⟩
 refine codeAny_call_function hr.depth (KX _ _ lk) rfl S.co S.gen rfl (PySem.W.codeRec_of KX hcd) (hb _ _ _ _ ?_)
 refine wpAny_newFunctionEnv_cells S.kind hkind λenv he s1 x=>?_
 subst he
 refine ⟨lim.keeps x.toInCall.keep,codeAny_func ?_⟩
 obtain ⟨t,ht,hq⟩:=hbody A outer s H vs Q E (hr.deeper _) hsp
 have I:Inv (Lq CX P w K mg base N qual scope f cdv A outer s H E) [] (start N vs) H s1:=rY S hr.hd e0 hl r x
 refine Gy (ht [] s1 (start N vs) H _ I hq) (λfl s' hs=>?_) λe s' hs=>hs
 have fin:∀{σ':St} {H':Hp} {v:V} {u:Value},Inv (Lq CX P w K mg base N qual scope f cdv A outer s H E) [] σ' H' s'->RelV v u->Q v H'->CE outer P w H s Q u s' :=
  λ{σ' H' v u} J rv q=>⟨v,H',J.os,J.bare,J.base,J.hok,rv,q⟩
 cases fl with
 | ret u =>
  obtain ⟨v,σ',H',J,rv,q⟩:=hs
  exact fin J rv q
 | next =>
  obtain ⟨σ',H',J,q⟩:=hs
  exact fin (v:=V.non) (u:=Qy) J rfl q
 | brk =>
  obtain ⟨_,_,_,q⟩:=hs
  exact Kd q
 | cont =>
  obtain ⟨_,_,_,q⟩:=hs
  exact Kd q
section
variable{X:Cx}{x:Str}{p pos:Pos}{e:Expr}{es:List Expr}{t:TA}{id T:String}{r:List V->Hp->VK->Prop}
def EF(r:List V->Hp->VK->Prop)(t:TA):TE:=λσ H Q=>t σ H λvs H1=>r vs H1 Q
theorem Ze(hc:Jz X (.builtin id) r)(hg:Gl X x)(hm:X.mg x=none)(hv:Ju x=some (.builtin id))(ha:PA X (e::es) t)(hn:x ≠ "__name__" := by decide)(hdb:(x == ("__debug__" : Str))=false:=by decide)(he:Bz (e::es) X.env=(false,eval e X.env)::Bz es X.env:=by rfl)(hpl:(Kl pos (Bz es X.env)).any (·.1)=false:=by rfl):PE X (.Call (.Name x p) (e::es) [] pos) (EF r t):=by
 intro pins s σ H Q I h
 refine Qu (Zl I hg hm hv ?_ hn hdb)
 exact PyProof.Rows.callWith_builtin1 (Hn (ha pos pins s σ H _ I h) λus s1 ⟨vs,H1,I1,r1,q1⟩=>hc pins s1 σ H1 vs us Q I1 r1 q1) he hpl
theorem Pr(hc:Jz X (.type T) r)(hg:Gl X x)(hm:X.mg x=none)(hv:Ju x=some (.type T))(ha:PA X (e::es) t)(hn:x ≠ "__name__" := by decide)(hdb:(x == ("__debug__" : Str))=false:=by decide)(he:Bz (e::es) X.env=(false,eval e X.env)::Bz es X.env:=by rfl)(hpl:(Kl pos (Bz es X.env)).any (·.1)=false:=by rfl):PE X (.Call (.Name x p) (e::es) [] pos) (EF r t):=by
 intro pins s σ H Q I h
 refine Qu (Zl I hg hm hv ?_ hn hdb)
 exact Ms (Hn (ha pos pins s σ H _ I h) λus s1 ⟨vs,H1,I1,r1,q1⟩=>hc pins s1 σ H1 vs us Q I1 r1 q1) he hpl
end
end L2
namespace HT
open PySem PyProof.Rows
def lexLt:List Int->List Int->Bool
 | [],[]=>false
 | [],_::_=>true
 | _::_,[]=>false
 | x::xs,y::ys=>if x=y then lexLt xs ys else decide (x<y)
theorem lexLt_cons(x y:Int)(xs ys:List Int):lexLt (x::xs) (y::ys)=if x=y then lexLt xs ys else decide (x<y):=rfl
section
variable{prog:Bs}{w:World}{A:Dj}{E:Value->Al->Prop}{s:Al}
theorem cat_tup{t b:Addr}{vs ws:List Value}{Q:Value->Al->Prop}(ht:IsTup s.heap t vs.toArray)(hb:IsTup s.heap b ws.toArray)(hv:vs≠[])(h1:ws=[]->Q (.ref t) s)(h2:ws≠[]->Q (.ref s.heap.objs.size) { s with heap:=s.heap.push { cls:=.type "tuple",data:=.seq (vs++ws).toArray } })(hsz:vs.length+ws.length<=Bd):wpAny (model prog w) A (Kc .Add (.ref t) (.ref b)) Q E s:=by
 obtain ⟨⟨cls,dd,data,sl⟩,ho,hc,n,hd⟩:=id ht
 obtain ⟨⟨cls2,dd2,data2,sl2⟩,ho2,hc2,n2,hd2⟩:=id hb
 simp only at hc hd hc2 hd2
 subst hc hd hc2 hd2
 have e:vs.toArray++ws.toArray=(vs++ws).toArray:=by simp
 by_cases hw:ws=[]
 ·exact concat_meets ⟨_,ho,rfl⟩ ⟨_,ho2,rfl⟩ iO seq_tuple_add PySem.F.slot_tuple_add PySem.F.entry_tuple_add (PySem.F.args_tuple_add_2 _ _)
   (tuple_addW1 t b vs.toArray ws.toArray n n2 dd dd2 sl sl2 (by simpa using hv) (by simp [hw])) ⟨ho,ho2,h1 hw⟩
 ·refine concat_meets ⟨_,ho,rfl⟩ ⟨_,ho2,rfl⟩ iO seq_tuple_add PySem.F.slot_tuple_add PySem.F.entry_tuple_add (PySem.F.args_tuple_add_2 _ _)
   (tuple_addW2 t b vs.toArray ws.toArray n n2 dd dd2 sl sl2 (by simpa using hv) (by simpa using hw) (by rw[Aq,Aq]; exact hsz)) ⟨ho,ho2,?_⟩
  rw[e]
  exact h2 hw
def sIx(n d:Nat):Option Int->Nat
 | none=>d
 | some v=>if v<0 then (v+(n:Int)).toNat else min v.toNat n
theorem sIx_none(n d:Nat):sIx n d none=d:=rfl
theorem sIx_nat(n d k:Nat):sIx n d (some (k:Int))=min k n:=by
 show (if (k:Int)<0 then ((k:Int)+(n:Int)).toNat else min (k:Int).toNat n)=min k n
 rw[if_neg (by omega),Df]
theorem U8(n d:Nat)(hd:d<=n)(o:Option Int):sIx n d o<=n:=by
 cases o with
 | none=>exact hd
 | some v =>
  show (if v<0 then (v+(n:Int)).toNat else min v.toNat n)<=n
  by_cases hv:v<0
  ·rw[if_pos hv]; omega
  ·rw[if_neg hv]; exact Nat.min_le_right _ _
theorem pU(v:Int)(n d:Nat):(if v<0 then max (v+(n:Int)) 0 else min v (n:Int))=((sIx n d (some v):Nat):Int):=by
 show (if v<0 then max (v+(n:Int)) 0 else min v (n:Int))=(((if v<0 then (v+(n:Int)).toNat else min v.toNat n):Nat):Int)
 by_cases hv:v<0
 ·simp only[if_pos hv]; omega
 ·simp only[if_neg hv]; omega
theorem mU(lo hi:Option Int)(n:Nat):Gn lo hi 1 (n:Int)=(((sIx n 0 lo:Nat):Int),((sIx n n hi:Nat):Int)):=by
 have h1:¬ ((1:Int)<0):=by omega
 unfold Gn
 simp only[h1,if_false]
 refine Prod.ext ?_ ?_
 ·cases lo with
  | none=>rfl
  | some v=>exact pU v n 0
 ·cases hi with
  | none=>rfl
  | some v=>exact pU v n n
theorem oF(i j:Nat):Ea (i:Int) (j:Int) 1=j - i:=by
 unfold Ea
 have h1:(1:Int) > 0:=by omega
 simp only[h1,if_true,Int.ediv_one]
 split <;> omega
theorem aQ{v:Value}{o:Option Int}{Q:Option Int->Al->Prop}(p:Xr v o)(h:Q o s):wpAny (model prog w) A (Builtin.Slice.slicePartIndex v) Q E s:=by
 cases p with
 | none=>exact Xk h
 | int i t=>exact slicePart_int h
theorem sliceApplied_gen{sl:Addr}{vl vu:Value}{lo hi:Option Int}{n:Nat}{Q:Int×Int×Nat->Al->Prop}(hs:s.heap.IsSliceOf sl vl vu .none)(pl:Xr vl lo)(pu:Xr vu hi)(h:Q (((sIx n 0 lo:Nat):Int),1,sIx n n hi - sIx n 0 lo) s):wpAny (model prog w) A (Iy (.ref sl) (pure (n:Int))) Q E s:=by
 obtain ⟨os,hos,hcs,hds⟩:=id hs
 unfold Iy Wx
 refine Ae (Ae (Rw hos hds (x:=vl) rfl (Ae (Rw hos hds (x:=vu) rfl (Ae (Rw hos hds (x:=.none) rfl (Ak ?_)))))))
 refine Ae (Xk ?_)
 show wpAny _ _ (if ((1:Int) == 0)=true then _ else _) _ _ s
 rw[if_neg (by decide)]
 refine Ae (aQ pl (Ae (aQ pu (Ae (Ak ?_)))))
 show wpAny _ _ (match Gn lo hi 1 (n:Int) with | (lo,hi)=>pure (lo,(1:Int),Ea lo hi 1)) _ _ s
 rw[mU lo hi n]
 show wpAny _ _ (pure (((sIx n 0 lo:Nat):Int),(1:Int),Ea ((sIx n 0 lo:Nat):Int) ((sIx n n hi:Nat):Int) 1)) _ _ s
 rw[oF]
 exact Ak h
theorem yK(xs:Array Value)(i k:Nat):((Bh k).filterMap λ(m:Nat)=>xs[((i:Int)+(m:Int) * 1).toNat]?).toArray=((xs.toList.drop i).take k).toArray:=by
 have e:(λ(m:Nat)=>xs[((i:Int)+(m:Int) * 1).toNat]?)=λm=>xs[i+m]?:=by
  funext m
  have : ((i:Int)+(m:Int) * 1).toNat=i+m:=by omega
  rw[this]
 rw[e]
 have:=pick_run xs i k
 rw[List.filterMap_map] at this
 have e2:((λx=>xs[x]?) ∘ λx=>i+x)=λm=>xs[i+m]?:=rfl
 rw[e2] at this
 rw[this]
theorem getItem_tuple_cut{t sl:Addr}{items:Array Value}{vl vu:Value}{lo hi:Option Int}{Q:Value->Al->Prop}(ht:IsTup s.heap t items)(hs:s.heap.IsSliceOf sl vl vu .none)(pl:Xr vl lo)(pu:Xr vu hi)(hw:¬ (sIx items.size 0 lo=0/\sIx items.size items.size hi=items.size))(h:Q (.ref s.heap.objs.size) { s with heap:=s.heap.push { cls:=.type "tuple",data:=.seq ((items.toList.drop (sIx items.size 0 lo)).take (sIx items.size items.size hi - sIx items.size 0 lo)).toArray } })(hsz:items.size<=Bd):wpAny (model prog w) A (Ow (.ref t) (.ref sl)) Q E s:=by
 have htake:sizeOk (.seq ((items.toList.drop (sIx items.size 0 lo)).take (sIx items.size items.size hi - sIx items.size 0 lo)).toArray):=by
  show ((items.toList.drop (sIx items.size 0 lo)).take (sIx items.size items.size hi - sIx items.size 0 lo)).toArray.size<=Bd
  rw[Aq,Fl,Qx,Ar]
  omega
 have hj:sIx items.size items.size hi<=items.size:=U8 _ _ (An _) hi
 obtain ⟨os,hos,hcs,hds⟩:=id hs
 have hTs:s.TypeIs (.ref sl) "slice" := ⟨os,hos,hcs⟩
 unfold Ow
 try with_reducible refine Dz ?_
 first | refine Ae (Ak ?_) | skip
 refine Ae (Rv ht.typeIs (by decide) ?_)
 refine Ae (Gw (name:=Gz "__getitem__") ht.typeIs Ct
  (Gf Ct ht.typeIs Yz ?_ (bZ _ _)))
 show wpAny _ _ (Mt (.ref t) >>= _) _ _ s
 refine Ae (tupleItemsOf_ ht ?_)
 refine Ae (Na hTs ?_)
 rw[if_pos (by decide)]
 refine Ae (sliceApplied_gen hs pl pu ?_)
 have hno:¬ ((((sIx items.size 0 lo:Nat):Int) == 0 && (1:Int) == 1 && (sIx items.size items.size hi - sIx items.size 0 lo) == items.size)=true):=by
  intro q
  rw[Eu,Eu] at q
  have q1:((sIx items.size 0 lo:Nat):Int)=0:=Qo q.1.1
  have q2:sIx items.size items.size hi - sIx items.size 0 lo=items.size:=Qo q.2
  exact hw ⟨by omega,by omega⟩
 show wpAny _ _ (if (((sIx items.size 0 lo:Nat):Int) == 0 && (1:Int) == 1 && (sIx items.size items.size hi - sIx items.size 0 lo) == items.size)=true then _ else _) _ _ s
 rw[if_neg hno,yK]
 first
  | exact Ae (m:=Di _) (Dk (Ak ⟨_,rfl,Ak h⟩) htake)
  | exact Ae (m:=Di _) (Dk (Ae (Ak (Ak ⟨_,rfl,Ak h⟩))) htake)
  | exact Ae (Ae (m:=Di _) (Dk (Ak (Ak ⟨_,rfl,Ak h⟩)) htake))
  | exact Ae (Ae (m:=Di _) (Dk (Ak ⟨_,rfl,Ak h⟩) htake))
end
end HT
namespace L2
open PySem PySem.Spec PyProof.Rows
abbrev TO:=St->Hp->(Option Int->Hp->Prop)->Prop
def PO(X:Cx)(e:Option Expr)(t:TO):Prop :=
 ∀(pins:List (Addr×Obj)) (s:Al) (σ:St) (H:Hp) (Q:Option Int->Hp->Prop),Inv X pins σ H s->t σ H Q ->
  wpAny (model X.prog X.w) X.A (evalPart e X.env) (λu s'=>∃o H',Inv X pins σ H' s'/\Xr u o/\Q o H') X.xe s
def t8:TO:=λ_ H Q=>Q none H
def BG(t:TE):TO:=λσ H Q=>t σ H λx H1=>∃i,x=.int i/\Q (some i) H1
theorem intsAre_of{ns:List Int}:∀{us:List Value},Fe (ns.map V.int) us->Lg us ns:=by
 induction ns with
 | nil=>intro us r; rw[Yj] at r; cases r; exact .nil
 | cons n ns ih =>
  intro us r
  rw[Bb] at r
  cases r with
  | cons r1 r2 =>
   obtain ⟨t,e⟩:=r1
   subst e
   exact .cons n t (ih r2)
section
variable{X:Cx}{e:Expr}{te:TE}{lo hi:Option Expr}{tl th:TO}{pos p2:Pos}
theorem C3:PO X none t8:=by
 intro pins s σ H Q I h
 rw[bQ]
 exact Ak ⟨none,H,I,.none,h⟩
theorem D0(h:PE X e te):PO X (some e) (BG te):=by
 intro pins s σ H Q I hw
 rw[evalPart_some]
 refine Hn (h pins s σ H _ I hw) λu s1 q0_ => ?_
 obtain ⟨x,H1,I1,r1,q1⟩ := q0_
 obtain ⟨i,rfl,q⟩:=q1
 obtain ⟨t,rfl⟩:=r1
 exact ⟨some i,H1,I1,.int i t,q⟩
def R3(X:Cx)(r:V->Option Int->Option Int->Hp->VK->Prop):Prop :=
 ∀(pins:List (Addr×Obj)) (s:Al) (σ:St) (H:Hp) (x:V) (v vl vu:Value) (lo hi:Option Int) (sl:Addr) (Q:VK),Inv X pins σ H s->RelV x v->s.heap.IsSliceOf sl vl vu .none->Xr vl lo->Xr vu hi->r x lo hi H Q ->
  ∃T id,typeLookup (.type T) "__getitem__" = pure (some (.builtin id))/\s.TypeIs v T/\wpAny (model X.prog X.w) X.A (Ow v (.ref sl)) (EP X pins σ Q) X.xe s
theorem R3.or{r r':V->Option Int->Option Int->Hp->VK->Prop}(h:R3 X r)(h':R3 X r'):R3 X (λx lo hi H Q=>r x lo hi H Q\/r' x lo hi H Q):=by
 intro pins s σ H x v vl vu lo hi sl Q I rx hs pl pu q
 rcases q with q | q
 ·exact h pins s σ H x v vl vu lo hi sl Q I rx hs pl pu q
 ·exact h' pins s σ H x v vl vu lo hi sl Q I rx hs pl pu q
def GK(r:V->Option Int->Option Int->Hp->VK->Prop)(te:TE)(tl th:TO):TE:=λσ H Q=>te σ H λx H1=>tl σ H1 λl H2=>th σ H2 λu H3=>r x l u H3 Q
theorem iU{r:V->Option Int->Option Int->Hp->VK->Prop}(hr:R3 X r)(he:PE X e te)(hl:PO X lo tl)(hu:PO X hi th):PE X (.Subscript e (.Slice lo hi none p2) pos) (GK r te tl th):=by
 intro pins s σ H Q I h
 refine cA (Hn (he pins s σ H _ I h) λv s1 q0_ => ?_)
 obtain ⟨x,H1,I1,r1,q1⟩ := q0_
 refine wpAny_Slice (Hn (hl pins s1 σ H1 _ I1 q1) λvl s2 ⟨l,H2,I2,pl,q2⟩=>Hn (hu pins s2 σ H2 _ I2 q2) λvu s3 q0_ => ?_)
 obtain ⟨u,H3,I3,pu,q3⟩ := q0_
 rw[bQ]
 refine Ak ?_
 have I4:Inv X pins σ H3 { s3 with heap:=s3.heap.push { cls:=.type "slice",data:=.fields #[vl,vu,.none] } }:=I3.kept (t':=s3.toks) λb ob q=>Am _ q
 obtain ⟨T,id,hT,ht,hg⟩:=hr pins { s3 with heap:=s3.heap.push { cls:=.type "slice",data:=.fields #[vl,vu,.none] } } σ H3 x v vl vu l u s3.heap.objs.size Q I4 r1 (Heap.IsSliceOf.new ..) pl pu q3
 show wpAny (model X.prog X.w) X.A (Sx e (.Slice lo hi none p2) v (.ref s3.heap.objs.size)) (EP X pins σ Q) X.xe { s3 with heap:=s3.heap.push { cls:=.type "slice",data:=.fields #[vl,vu,.none] } }
 exact tail_any (ops:=[.ref s3.heap.objs.size,v]) ht hT hg (by with_unfolding_all rfl)
def aZ(xs:List V)(lo hi:Option Int):List V:=(xs.drop (HT.sIx xs.length 0 lo)).take (HT.sIx xs.length xs.length hi - HT.sIx xs.length 0 lo)
theorem Xe(xs:List V)(lo hi:Option Int):(aZ xs lo hi).length<=xs.length:=by
 unfold aZ
 rw[Fl,Qx]
 omega
def DY(K:PySem.W.Frag):V->Option Int->Option Int->Hp->VK->Prop:=λx lo hi H Q=>∃a xs,x=.ref a/\Uj K H a xs /\
 ¬ (HT.sIx xs.length 0 lo=0/\HT.sIx xs.length xs.length hi=xs.length)/\∀p,H p=none->Q (.ref p) (upd H p (.tup (aZ xs lo hi)))
theorem N3:R3 X (DY X.K):=by
 intro pins s σ H x v vl vu lo hi sl Q I rx hs pl pu h
 obtain ⟨a,xs,rfl,hx,hw,q⟩:=h
 cases rx
 obtain ⟨its,r,ht,hz⟩:=I.tuple hx
 have hlen:its.toArray.size=xs.length:=by rw[Aq]; exact r.length.symm
 refine ⟨"tuple",_,Ct.lookup,ht.typeIs,?_⟩
 refine HT.getItem_tuple_cut ht hs pl pu (by rw[hlen]; exact hw) ?_ (by rw[hlen]; exact hz)
 rw[hlen]
 refine ⟨.ref s.heap.objs.size,_,I.laid (t':=s.toks) (o:=.tup (aZ xs lo hi)) (λb ob q=>Am _ q) (An _) ?_,rfl,q _ (I.hok.fresh (An _))⟩
 exact ⟨By (Xe xs lo hi) hz,_,(r.drop (HT.sIx xs.length 0 lo)).take (HT.sIx xs.length xs.length hi - HT.sIx xs.length 0 lo),IsTup.new _ _⟩
def AX(K:PySem.W.Frag):R2:=λx y H Q=>∃a b xs ys,x=.ref a/\y=.ref b/\Uj K H a xs/\Uj K H b ys/\xs≠[]/\xs.length+ys.length<=Bd /\
 (ys=[]->Q (.ref a) H)/\(ys≠[]->∀p,H p=none->Q (.ref p) (upd H p (.tup (xs++ys))))
theorem Fe.nil_iff{xs:List V}{us:List Value}(r:Fe xs us):us=[]↔xs=[]:=by
 cases r with
 | nil=>simp
 | cons _ _=>simp
theorem j9:Uw X (Kc .Add) (AX X.K):=by
 intro pins s σ H x y v u Q I rx ry h
 obtain ⟨a,b,xs,ys,rfl,rfl,ha,hb,hx,hz,q1,q2⟩:=h
 cases rx
 cases ry
 obtain ⟨its,r1,p1,_⟩:=I.tuple ha
 obtain ⟨its2,r2,p2,_⟩:=I.tuple hb
 refine HT.cat_tup p1 p2 (λz=>hx (r1.nil_iff.mp z)) (λz=>⟨.ref a,H,I,rfl,q1 (r2.nil_iff.mp z)⟩) (λz=>?_) (by rw[<- r1.length,<- r2.length]; exact hz)
 refine ⟨.ref s.heap.objs.size,_,I.laid (t':=s.toks) (o:=.tup (xs++ys)) (λb ob q=>Am _ q) (An _) ?_,rfl,q2 (λw=>z (r2.nil_iff.mpr w)) _ (I.hok.fresh (An _))⟩
 exact ⟨by rw[Az]; exact hz,_,r1.append r2,IsTup.new _ _⟩
end
def rK(n:Nat)(i:Int):Option Nat:=if 0<=i then (if i<n then some i.toNat else none) else if -(n:Int)<=i then some (i+n).toNat else none
def Tj{α:Type}(xs:List α)(i:Int):Option α:=(rK xs.length i).bind λj=>xs[j]?
theorem pN{n:Nat}{i:Int}{j:Nat}(h:rK n i=some j):seqIndex? i n=some j/\j<n /\ -(n:Int)<=i/\i<n:=by
 unfold rK at h
 by_cases h0:0<=i
 ·rw[if_pos h0] at h
  by_cases h1:i<n
  ·rw[if_pos h1] at h
   have e:i.toNat=j:=Ce h
   exact ⟨by rw[seqIndex_of h0 h1,e],by omega,by omega,h1⟩
  ·rw[if_neg h1] at h; cases h
 ·rw[if_neg h0] at h
  by_cases h1:-(n:Int)<=i
  ·rw[if_pos h1] at h
   have e:(i+n).toNat=j:=Ce h
   exact ⟨by rw[seqIndex_neg (by omega) h1,e],by omega,h1,by omega⟩
  ·rw[if_neg h1] at h; cases h
theorem gK{α:Type}{xs:List α}{i:Int}{v:α}(h:Tj xs i=some v):∃j,seqIndex? i xs.length=some j/\xs[j]? = some v/\j<xs.length /\ -(xs.length:Int)<=i/\i<xs.length:=by
 unfold Tj at h
 cases e:rK xs.length i with
 | none=>rw[e] at h; cases h
 | some j =>
  rw[e] at h
  obtain ⟨h1,h2,h3,h4⟩:=pN e
  exact ⟨j,h1,h,h2,h3,h4⟩
theorem qP{α:Type}{xs:List α}{j:Nat}{v:α}(h:xs[j]? = some v):Tj xs (j:Int)=some v:=by
 have hj:j<xs.length:=(Av.mp h).1
 have e:rK xs.length (j:Int)=some j:=by
  unfold rK
  rw[if_pos (by omega),if_pos (by omega)]; simp
 unfold Tj; rw[e]; exact h
theorem iW{α:Type}(xs:List α)(v:α):Tj (xs++[v]) (-1)=some v:=by
 have hl:(xs++[v]).length=xs.length+1:=by simp
 have e:rK (xs++[v]).length (-1)=some xs.length:=by
  unfold rK
  rw[hl,if_neg (by decide),if_pos (by omega)]
  congr 1
  omega
 unfold Tj
 rw[e]
 show (xs++[v])[xs.length]? = some v
 simp
def iI(b:Expr):Prop:=∀o i,subscripted b false o i=operate [o,i] (Ow o i)
def A6(X:Cx)(r:R2):Prop :=
 ∀(value slice:Expr) (pins:List (Addr×Obj)) (s:Al) (σ:St) (H:Hp) (x y:V) (v u:Value) (Q:VK),Inv X pins σ H s->RelV x v->RelV y u->r x y H Q ->
  subscripted slice false v u=operate [v,u] (Ow v u)->wpAny (model X.prog X.w) X.A (Sx value slice v u) (EP X pins σ Q) X.xe s
def FQ(X:Cx)(id:String)(r:V->List V->Hp->VK->Prop):Prop :=
 ∀(pins:List (Addr×Obj)) (s:Al) (σ:St) (H:Hp) (x:V) (xs:List V) (v:Value) (us:List Value) (Q:VK),Inv X pins σ H s->RelV x v->Fe xs us->r x xs H Q ->
  wpAny (model X.prog X.w) X.A (call (.builtin id) (v::us)) (EP X pins σ Q) X.xe s
section
variable{X:Cx}{a b:Expr}{ta tb:TE}{pos:Pos}
theorem A6.or{r r':R2}(h:A6 X r)(h':A6 X r'):A6 X (λx y H Q=>r x y H Q\/r' x y H Q):=by
 intro value slice pins s σ H x y v u Q I rx ry q hs
 rcases q with q | q
 ·exact h value slice pins s σ H x y v u Q I rx ry q hs
 ·exact h' value slice pins s σ H x y v u Q I rx ry q hs
theorem bE{r:R2}(hr:A6 X r)(ha:PE X a ta)(hb:PE X b tb)(hs:iI b):PE X (.Subscript a b pos) (BE r ta tb):=by
 intro pins s σ H Q I h
 exact cA (U7 ha hb I h λv u s2 x y H2 I2 rx ry q=>hr a b pins s2 σ H2 x y v u Q I2 rx ry q (hs _ _))
def BB(K:PySem.W.Frag):R2:=λx y H Q=>∃p xs i v,x=.ref p/\y=.int i/\Tq K H p xs/\Tj xs i=some v/\Q v H
def BH(K:PySem.W.Frag):R2:=λx y H Q=>∃p xs i v,x=.ref p/\y=.int i/\Uj K H p xs/\Tj xs i=some v/\Q v H
def AZ:R2:=λx y H Q=>∃z i c,x=.str z/\y=.int i/\z.length<=Bd/\Tj z.cps.toList i=some c/\Q (.str ⟨#[c]⟩) H
theorem Sb:A6 X (BB X.K):=by
 intro value slice pins s σ H x y v u Q I rx ry h hs
 obtain ⟨p,xs,i,z,rfl,rfl,hq,he,q⟩:=h
 cases rx
 obtain ⟨t,rfl⟩:=ry
 obtain ⟨its,r,pl,hz⟩:=I.list hq
 obtain ⟨j,h1,h2,h3,h4,h5⟩:=gK he
 obtain ⟨w,ew,rw'⟩:=r.get h2
 have hl:=r.length
 have hn:=Uc
 have fin:EP X pins σ Q w s:=⟨z,H,I,rw',q⟩
 by_cases h0:0<=i
 ·have hj:i.toNat=j:=by
   rw[seqIndex_of h0 h5] at h1
   exact Ce h1
  exact item_listR pl.isList h0 (by omega) (by rw[hj]; simpa using ew) fin hs
 ·have hj:(i+(its.toArray.size:Int)).toNat=j:=by
   rw[seqIndex_neg (by omega) h4] at h1
   rw[Aq,<- hl]
   exact Ce h1
  exact j4 (x:=w) pl.isList.typeIs fF.lookup
   (wpAny_getItem_list_neg (Q:=λr s'=>r=w/\EP X pins σ Q r s') pl.isList (by omega) (by rw[Aq] <;> omega) (by omega) (by rw[hj]; simpa using ew) ⟨rfl,fin⟩) hs
theorem EX:A6 X (BH X.K):=by
 intro value slice pins s σ H x y v u Q I rx ry h hs
 obtain ⟨p,xs,i,z,rfl,rfl,hq,he,q⟩:=h
 cases rx
 obtain ⟨t,rfl⟩:=ry
 obtain ⟨its,r,pl,hz⟩:=I.tuple hq
 obtain ⟨j,h1,h2,h3,h4,h5⟩:=gK he
 obtain ⟨w,ew,rw'⟩:=r.get h2
 have hl:=r.length
 have hn:=Uc
 have fin:EP X pins σ Q w s:=⟨z,H,I,rw',q⟩
 exact j4 (x:=w) pl.typeIs slot_tuple_getitem.lookup
  (getItem_tuple (j:=j) (Q:=λr s'=>r=w/\EP X pins σ Q r s') pl (by omega) (by omega) (by rw[Aq,<- hl]; exact h1) (by simpa using ew) ⟨rfl,fin⟩) hs
theorem V8:A6 X AZ:=by
 intro value slice pins s σ H x y v u Q I rx ry h hs
 obtain ⟨z,i,c,rfl,rfl,hz,he,q⟩:=h
 obtain ⟨t,rfl⟩:=rx
 obtain ⟨t',rfl⟩:=ry
 obtain ⟨j,h1,h2,h3,h4,h5⟩:=gK he
 have hl:z.cps.toList.length=z.length:=by simp [Str.length]
 rw[hl] at h1 h4 h5
 have hn:=Uc
 exact tail_any (typeIs_str s z t) slot_str_getitem.lookup (getItem_str (c:=c) (by
  have e1:decide (i < -(2 ^ 63:Int))=false:=decide_eq_false (by omega)
  have e2:decide (i ≥ 2 ^ 63)=false:=decide_eq_false (by omega)
  rw[e1,e2,Bool.or_false]) (by rw[h1]; simpa using h2) ⟨.str ⟨#[c]⟩,H,I.tok _,⟨_,rfl⟩,q⟩) hs
def FY(K:PySem.W.Frag):R2:=λx y H Q=>BB K x y H Q\/BH K x y H Q\/AZ x y H Q
theorem O2:A6 X (FY X.K):=Sb.or (EX.or V8)
theorem oN(its:List Value)(n j:Nat)(u:Value):Xo (·.setIfInBounds j u) { cls:=.type "list",data:=.seq its.toArray n }={ cls:=.type "list",data:=.seq (its.set j u).toArray n }:=by
 simp [Xo]
theorem Inv.lst{pins:List (Addr×Obj)}{σ:St}{H:Hp}{s:Al}{p:Addr}{xs:List V}(I:Inv X pins σ H s)(h:H p=some (.lst xs)):∃(its:List Value) (n:Nat),Fe xs its/\s.heap.get? p=some { cls:=.type "list",data:=.seq its.toArray n }/\xs.length<=Bd:=by
 obtain ⟨z,its,n,r,e⟩:=I.hok p _ h
 exact ⟨its,n,r,e,z⟩
theorem Inv.lstUpd{pins:List (Addr×Obj)}{σ:St}{H:Hp}{s:Al}{p:Addr}{xs ys:List V}{its its':List Value}{n n':Nat}{f:Obj->Obj}(I:Inv X pins σ H s)(h:H p=some (.lst xs))(ho:s.heap.get? p=some { cls:=.type "list",data:=.seq its.toArray n })(hf:f { cls:=.type "list",data:=.seq its.toArray n }={ cls:=.type "list",data:=.seq its'.toArray n' })(r:Fe ys its')(hz:ys.length<=Bd)(t:Nat):Inv X pins σ (upd H p (.lst ys)) { s with heap:=s.heap.update p f,toks:=t }:=by
 have e:(s.heap.update p f).get? p=some { cls:=.type "list",data:=.seq its'.toArray n' }:=by
  rw[Hk f ho (by rw[hf] <;> rfl),hf]
 refine I.write (x:=p) (e:=p) (by rw[h]; trivial) (.inl rfl) (λb u hb q=>(oX _ _ (Ny hb)).trans q) ⟨_,e⟩ ?_
 exact ⟨hz,its',n',r,e⟩
def AD:V->V->V->Hp->(Hp->Prop)->Prop:=λo i v H Q=>∃p xs k j,o=.ref p/\i=.int k/\H p=some (.lst xs)/\rK xs.length k=some j/\Q (upd H p (.lst (xs.set j v)))
theorem kA:BD X AD:=by
 intro pins s σ H o i v ov iv u Q I ro ri rv h
 obtain ⟨p,xs,k,j,rfl,rfl,hp,hj,q⟩:=h
 cases ro
 obtain ⟨t,rfl⟩:=ri
 obtain ⟨its,n,r,ho,hz⟩:=I.lst hp
 obtain ⟨h1,h2,h3,h4⟩:=pN hj
 have hl:=r.length
 have hn:=Uc
 have I':Inv X pins σ (upd H p (.lst (xs.set j v))) { s with heap:=s.heap.update p (Xo (·.setIfInBounds j u)) } :=
  I.lstUpd hp ho (oN its n j u) (r.set rv j) (by rw[List.length_set]; exact hz) s.toks
 by_cases h0:0<=k
 ·have hk:k.toNat=j:=by
   rw[seqIndex_of h0 h4] at h1
   exact Ce h1
  exact PySem.W.ki_setAt ho h0 (by omega) (by rw[Aq,<- hl]; exact h4) (by rw[hk]; exact ⟨_,I',q⟩)
 ·have hk:(k+(its.toArray.size:Int)).toNat=j:=by
   rw[seqIndex_neg (by omega) h3] at h1
   rw[Aq,<- hl]
   exact Ce h1
  exact PySem.W.ki_setBack ho (by omega) (by rw[Aq,<- hl]; exact h3) (by omega) (by rw[hk]; exact ⟨_,I',q⟩)
theorem gV(lo hi:Option Int)(n:Nat):(Jr lo hi none n).1=((HT.sIx n 0 lo:Nat):Int)/\(Jr lo hi none n).2.1=((HT.sIx n n hi:Nat):Int)/\(Jr lo hi none n).2.2=1:=by
 refine ⟨?_,?_,rfl⟩
 ·cases lo with
  | none=>simp [Jr,HT.sIx]
  | some i =>
   simp only[Jr,HT.sIx,Option.getD_none,show (1:Int) > 0 by decide,if_true]
   by_cases h:i<0
   ·simp only[h,if_true] <;> omega
   ·simp only[h,if_false] <;> omega
 ·cases hi with
  | none=>simp [Jr,HT.sIx]
  | some i =>
   simp only[Jr,HT.sIx,Option.getD_none,show (1:Int) > 0 by decide,if_true]
   by_cases h:i<0
   ·simp only[h,if_true] <;> omega
   ·simp only[h,if_false] <;> omega
theorem cO(its:List Value)(lo hi:Option Int):slicePick its.toArray lo hi none=((its.drop (HT.sIx its.length 0 lo)).take (HT.sIx its.length its.length hi - HT.sIx its.length 0 lo)).toArray:=by
 obtain ⟨h1,h2,h3⟩:=gV lo hi its.toArray.size
 unfold slicePick
 rw[h1,h2,h3]
 simp only[sliceRange_one,pick_run,Aq] <;> rfl
def T2(K:PySem.W.Frag):V->Option Int->Option Int->Hp->VK->Prop:=λx lo hi H Q=>∃a xs,x=.ref a/\Tq K H a xs/\∀p,H p=none->Q (.ref p) (upd H p (.lst (aZ xs lo hi)))
theorem r6:R3 X (T2 X.K):=by
 intro pins s σ H x v vl vu lo hi sl Q I rx hs pl pu h
 obtain ⟨a,xs,rfl,hx,q⟩:=h
 cases rx
 obtain ⟨its,r,ht,hz⟩:=I.list hx
 have hlen:=r.length
 refine ⟨"list",_,fF.lookup,ht.isList.typeIs,?_⟩
 refine uI ht.isList hs pl pu .none (by simp) ?_ (by rw[Aq] <;> omega)
 rw[cO,<- hlen]
 refine ⟨.ref s.heap.objs.size,_,I.laid (t':=s.toks) (o:=.lst (aZ xs lo hi)) (λb ob q=>Am _ q) (An _) ?_,rfl,q _ (I.hok.fresh (An _))⟩
 exact ⟨By (Xe xs lo hi) hz,_,0,(r.drop (HT.sIx xs.length 0 lo)).take (HT.sIx xs.length xs.length hi - HT.sIx xs.length 0 lo),Bl _ rfl⟩
theorem gM:Jz X (.type "list") (λxs H Q=>∃p ys,xs=[.ref p]/\(Tq X.K H p ys\/Uj X.K H p ys)/\∀l,H l=none->Q (.ref l) (upd H l (.lst ys))):=by
 intro pins s σ H xs us Q I r h
 obtain ⟨p,ys,rfl,hq,q⟩:=h
 obtain ⟨u,rfl,rx⟩:=vals1 r
 cases rx
 have fin:∀(its:List Value),Fe ys its->ys.length<=Bd->∀(h':Heap) (c':Nat),(∀b o',s.heap.get? b=some o'->h'.get? b=some o') ->
   h'.get? s.heap.objs.size=some { cls:=.type "list",dict:=none,data:=.seq its.toArray c',slots:=#[] }->EP X pins σ Q (.ref s.heap.objs.size) { s with heap:=h' }:=λits r' hz h' c' kp e =>
  ⟨.ref s.heap.objs.size,_,I.laid (t':=s.toks) kp (An _) (show Gq X.prog X.w _ h' _ (.lst ys) from ⟨hz,its,c',r',e⟩),rfl,q _ (I.hok.fresh (An _))⟩
 rcases hq with hq | hq
 ·obtain ⟨its,r',pl,hz⟩:=I.list hq
  have hlen:=r'.length
  obtain ⟨o,ho,hc,n,hd⟩:=pl.isList
  exact call_list_seq p (.inl rfl) ho hc hd (λh' c' kp e=>fin its r' hz h' c' kp e) (by simp only[Aq] <;> omega)
 ·obtain ⟨its,r',pl,hz⟩:=I.tuple hq
  have hlen:=r'.length
  obtain ⟨o,ho,hc,n,hd⟩:=pl
  exact call_list_seq p (.inr rfl) ho hc hd (λh' c' kp e=>fin its r' hz h' c' kp e) (by simp only[Aq] <;> omega)
theorem cX:Jz X (.type "tuple") (λxs H Q=>∃p ys,xs=[.ref p]/\((Tq X.K H p ys/\∀l,H l=none->Q (.ref l) (upd H l (.tup ys)))\/(Uj X.K H p ys/\Q (.ref p) H))):=by
 intro pins s σ H xs us Q I r h
 obtain ⟨p,ys,rfl,h⟩:=h
 obtain ⟨u,rfl,rx⟩:=vals1 r
 cases rx
 rcases h with ⟨hq,q⟩ | ⟨hq,q⟩
 ·obtain ⟨its,r',pl,hz⟩:=I.list hq
  have hlen:=r'.length
  refine call_tuple_list pl.isList (λh' kp=>?_) (by simp only[Aq] <;> omega)
  have I1:Inv X pins σ H { s with heap:=h' }:=I.kept (t':=s.toks) kp
  have I2:Inv X pins σ (upd H h'.objs.size (.tup ys)) { s with heap:=h'.push { cls:=.type "tuple",data:=.seq its.toArray } } :=
   I1.laid (t':=s.toks) (λb o e=>Am _ e) (An _) (show Gq X.prog X.w _ _ _ (.tup ys) from ⟨hz,its,r',IsTup.new _ _⟩)
  exact ⟨.ref h'.objs.size,_,I2,rfl,q _ (I1.hok.fresh (An _))⟩
 ·obtain ⟨its,r',pl,hz⟩:=I.tuple hq
  exact call_tuple_same pl ⟨.ref p,H,I,rfl,q⟩
def GE(K:PySem.W.Frag)(T:String)(x:V)(H:Hp):Prop:=match x with
 | .str _=>T = "str"
 | .int _=>T = "int"
 | .ref p=>(T = "list" /\ ∃xs,Tq K H p xs)\/(T = "tuple" /\ ∃o,K.lookup p=some o/\o.cls=.type "tuple" /\ o.dict=none) \/
   (T = "dict" /\ ((∃kvs,H p=some (.dK kvs))\/∃kvs,H p=some (.dT kvs)))\/(T = "set" /\ ∃S n,H p=some (.set S n))
 | _=>False
theorem T9{pins:List (Addr×Obj)}{σ:St}{H:Hp}{s:Al}{T:String}{x:V}{v:Value}(I:Inv X pins σ H s)(r:RelV x v)(ty:GE X.K T x H):s.TypeIs v T/\∀a,v=.ref a->∃ob,s.heap.get? a=some ob/\ob.dict=none:=by
 cases x with
 | str z =>
  obtain ⟨t,rfl⟩:=r
  cases (show T = "str" from ty)
  exact ⟨typeIs_str s z t,λ_ e=>nomatch e⟩
 | int i =>
  obtain ⟨t,rfl⟩:=r
  cases (show T = "int" from ty)
  exact ⟨typeIs_int s i t,λ_ e=>nomatch e⟩
 | ref p =>
  cases r
  rcases ty with ⟨rfl,xs,hq⟩ | ⟨rfl,o,hk,hc,hd⟩ | ⟨rfl,hk⟩ | ⟨rfl,S,n,hk⟩
  ·obtain ⟨its,_,pl,_⟩:=I.list hq
   refine ⟨pl.isList.typeIs,λa e=>?_⟩
   cases e
   obtain ⟨o,n,e,c,hd,_⟩:=pl
   exact ⟨o,e,hd⟩
  ·refine ⟨⟨o,I.kIn p o hk,hc⟩,λa e=>?_⟩
   cases e
   exact ⟨o,I.kIn _ o hk,hd⟩
  ·have z:∃o,s.heap.get? p=some o/\o.ExactDict:=by
    rcases hk with ⟨kvs,hk⟩ | ⟨kvs,hk⟩
    ·obtain ⟨_,_,_,_,o,_,_,e,ex,_⟩:=I.hok p _ hk
     exact ⟨o,e,ex⟩
    ·obtain ⟨_,_,_,_,o,_,_,e,ex,_⟩:=I.hok p _ hk
     exact ⟨o,e,ex⟩
   obtain ⟨o,e,ex⟩:=z
   refine ⟨⟨o,e,ex.1⟩,λa e2=>?_⟩
   cases e2
   exact ⟨o,e,ex.2.1⟩
  ·obtain ⟨o,_,_,_,e,ex,_⟩:=I.hok p _ hk
   refine ⟨⟨o,e,ex.1⟩,λa e2=>?_⟩
   cases e2
   exact ⟨o,e,ex.2.1⟩
 | _=>exact Kd ty
def GH(K:PySem.W.Frag)(T:String)(r:V->List V->Hp->VK->Prop)(to:TE)(t:TA):TE:=λσ H Q=>to σ H λx H1=>GE K T x H1/\t σ H1 λxs H2=>r x xs H2 Q
variable{o e:Expr}{es:List Expr}{to:TE}{t:TA}{name:Str}{apos cpos:Pos}{T id:String}{r:V->List V->Hp->VK->Prop}
theorem uQ(pa:PlainAttrs T)(slot:Slot T name id)(hty:typeOf (.builtin id)=pure (.type "method_descriptor"))(hm:FQ X id r)(ho:PE X o to)(ha:PA X (e::es) t)
  (hbase:bR o name X.env (eval o X.env)=eval o X.env:=by rfl)
  (hfew:((Kl cpos (Bz (e::es) X.env)).all (λx=>!x.1) && (backToKw cpos (keywordEach [] X.env)).all (λx=>x.1.isSome)
   && decide ((e::es).length+([]:List Ym).length+(if ([]:List Ym).isEmpty then 0 else 1)<30))=true:=by rfl)
  (hline:(apos.endLine == cpos.line)=true:=by rfl) (hs:Bz (e::es) X.env=(false,eval e X.env)::Bz es X.env:=by rfl) (hplain:(Kl cpos (Bz es X.env)).any (·.1)=false:=by rfl) :
  PE X (.Call (.Attribute o name apos) (e::es) [] cpos) (GH X.K T r to t):=by
 intro pins s σ H Q I h
 refine wpAny_Call_method_late hbase hfew hline rfl (Hn (ho pins s σ H _ I h) λv s1 q0_ => ?_)
 obtain ⟨x,H1,I1,r1,ty,q1⟩ := q0_
 obtain ⟨h1,h2⟩:=T9 I1 r1 ty
 refine ⟨T,id,pa,slot,hty,h1,h2,?_⟩
 have hA:=ha cpos pins s1 σ H1 _ I1 q1
 rw[hs] at hA ⊢
 refine Calls.callWith_builtin (by show (false || (Kl cpos (Bz es X.env)).any (·.1))=false; rw[hplain] <;> rfl) (Calls.evalArgs_plain ?_)
 exact Hn hA λus s2 ⟨vs,H2,I2,r2,q2⟩=>hm pins s2 σ H2 x vs v us Q I2 r1 r2 q2
end
def GC(X:Cx)(id:String)(r:V->List V->Hp->VK->Prop):Prop :=
 ∀(pins:List (Addr×Obj)) (s:Al) (σ:St) (H:Hp) (x:V) (xs:List V) (v:Value) (us:List Value) (Q:VK),Inv X pins σ H s->RelV x v->Fe xs us->r x xs H Q ->
  wpAny (model X.prog X.w) X.A (call (.builtin id) (v::us)) (EP X pins σ Q) X.xe s
theorem Fe.one:∀{x:V} {us:List Value},Fe [x] us->∃u,us=[u]/\RelV x u
 | _,_,.cons r .nil=>⟨_,rfl,r⟩
theorem Fe.reverse{xs:List V}{us:List Value}(h:Fe xs us):Fe xs.reverse us.reverse:=by
 induction h with
 | nil=>exact .nil
 | cons r t ih=>rw[Hr,Hr]; exact Fe.append ih (.cons r .nil)
theorem Fe.rep{xs:List V}{us:List Value}(h:Fe xs us):∀k:Nat,Fe (Cm k xs).flatten (Cm k us).flatten
 | 0=>.nil
 | k+1=>by
  rw[Gk,Gk,Jw,Jw]
  exact Fe.append h (Fe.rep h k)
theorem foldl_rep(its:List Value):∀(k:Nat) (acc:List Value),List.foldl (λx1 x2=>x1++x2) acc.toArray (Cm k its.toArray)=(acc++(Cm k its).flatten).toArray
 | 0,acc=>by simp
 | k+1,acc=>by
  have e:acc.toArray++its.toArray=(acc++its).toArray:=by simp
  have e2:(acc++its)++(Cm k its).flatten=acc++(Cm (k+1) its).flatten:=by
   rw[Gk,Jw,Dq]
  rw[<- e2,<- foldl_rep its k (acc++its),<- e,Gk,Tc]
section
variable{X:Cx}{pins:List (Addr×Obj)}{σ:St}{H:Hp}{s:Al}{l b:Addr}{xs ys zs:List V}
theorem Inv.lset{its its':List Value}{n:Nat}{f:Array Value->Array Value}{t':Nat}(I:Inv X pins σ H s)(hH:H l=some (.lst xs))(e:s.heap.get? l=some { cls:=.type "list",data:=.seq its.toArray n })(hf:f its.toArray=its'.toArray)(hv:Fe ys its')(hz:ys.length<=Bd):Inv X pins σ (upd H l (.lst ys)) { s with heap:=s.heap.update l (Xo f),toks:=t' }:=by
 have q:=PySem.IsL.update e f
 rw[hf] at q
 refine I.write (x:=l) (e:=l) (by rw[hH]; exact trivial) (.inl rfl) (λb' u hb hu=>(oX s.heap (Xo f) (Ny hb)).trans hu) ⟨_,q⟩ ?_
 exact ⟨hz,its',_,hv,q⟩
theorem Inv.lnew{its:List Value}{t':Nat}(I:Inv X pins σ H s)(hv:Fe ys its)(hz:ys.length<=Bd):Inv X pins σ (upd H s.heap.objs.size (.lst ys)) { s with heap:=s.heap.push { cls:=.type "list",data:=.seq its.toArray },toks:=t' } :=
 I.laid (λ_ _ q=>Am _ q) (An _) ⟨hz,its,0,hv,Bl _ rfl⟩
theorem Inv.fresh(I:Inv X pins σ H s):H s.heap.objs.size=none:=I.hok.fresh (An _)
theorem Inv.lstM(I:Inv X pins σ H s)(hH:H l=some (.lst xs)):xs.length<=Bd/\∃(its:List Value) (n:Nat),Fe xs its/\xs.length=its.length/\s.heap.get? l=some { cls:=.type "list",data:=.seq its.toArray n }:=by
 obtain ⟨z,its,n,r,e⟩:=I.hok l _ hH
 exact ⟨z,its,n,r,r.length,e⟩
theorem jB{n:Nat}(h:n<=Bd):Jy n=false:=by
 unfold Jy
 exact decide_eq_false (by omega)
end
section
variable{X:Cx}
def t6:V->List V->Hp->VK->Prop:=λx vs H Q=>∃l xs y,x=.ref l/\vs=[y]/\H l=some (.lst xs)/\xs.length<Bd/\Q .non (upd H l (.lst (xs++[y])))
theorem Sg:GC X "list.append" t6:=by
 intro pins s σ H x vs v us Q I rx rv h
 obtain ⟨l,xs,y,rfl,rfl,hH,hz,q⟩:=h
 cases rx
 obtain ⟨u,rfl,ru⟩:=rv.one
 obtain ⟨z,its,n,r,hl,e⟩:=I.lstM hH
 refine bY F.slot_list_append ⟨_,e,rfl⟩ F.entry_list_append (F.args_list_append_2 _ _) (PySem.list_append l its.toArray n u (by rw[Aq]; omega)) ⟨e,?_⟩
 refine ⟨.non,_,I.lset (its':=its++[u]) hH e (by simp) (r.append (.cons ru .nil)) ?_,rfl,q⟩
 rw[Az,Hj]
 omega
def o8:V->List V->Hp->VK->Prop:=λx vs H Q=>∃l b xs zs,x=.ref l/\vs=[.ref b]/\H l=some (.lst xs)/\H b=some (.lst zs)/\xs.length+zs.length<=Bd/\Q .non (upd H l (.lst (xs++zs)))
theorem W6:GC X "list.extend" o8:=by
 intro pins s σ H x vs v us Q I rx rv h
 obtain ⟨l,b,xs,zs,rfl,rfl,hH,hB,hz,q⟩:=h
 cases rx
 obtain ⟨u,rfl,ru⟩:=rv.one
 cases ru
 obtain ⟨z,its,n,r,hl,e⟩:=I.lstM hH
 obtain ⟨z2,its2,n2,r2,hl2,e2⟩:=I.lstM hB
 have hsz:its.toArray.size+its2.toArray.size<=Bd:=by rw[Aq,Aq]; omega
 have hlong:¬ (!its.toArray.isEmpty && Jy (its.toArray.size+its2.toArray.size))=true:=by
  rw[jB hsz,Pm]
  exact Gc
 refine bY F.slot_list_extend ⟨_,e,rfl⟩ F.entry_list_extend (F.args_list_extend_2 _ _)
  (AutoSeq1.list_extend_list_list_0 l its.toArray n b its2.toArray n2 hlong (by rw[Aq]; omega) (by omega)) ⟨e,e2,?_⟩
 refine ⟨.non,_,I.lset (its':=its++its2) hH e (by simp) (r.append r2) ?_,rfl,q⟩
 rw[Az]
 omega
def U9:R2:=λx y H Q=>∃l b xs zs,x=.ref l/\y=.ref b/\H l=some (.lst xs)/\H b=some (.lst zs)/\xs.length+zs.length<=Bd/\∀p,H p=none->Q (.ref p) (upd H p (.lst (xs++zs)))
theorem xK:Uw X (Kc .Add) U9:=by
 intro pins s σ H x y v u Q I rx ry h
 obtain ⟨l,b,xs,zs,rfl,rfl,hH,hB,hz,q⟩:=h
 cases rx
 cases ry
 obtain ⟨z,its,n,r,hl,e⟩:=I.lstM hH
 obtain ⟨z2,its2,n2,r2,hl2,e2⟩:=I.lstM hB
 refine PySem.P.add_list e e2 ?_ (by rw[Aq,Aq]; omega)
 have ea:its.toArray++its2.toArray=(its++its2).toArray:=by simp
 rw[ea]
 exact ⟨.ref _,_,I.lnew (t':=s.toks) (r.append r2) (by rw[Az]; omega),rfl,q _ I.fresh⟩
def AE:R2:=λx y H Q=>∃l k xs,x=.ref l/\y=.int k/\H l=some (.lst xs) /\ -(2 ^ 63)<=k/\k<2 ^ 63/\xs.length * k.toNat<=Bd /\
 ∀p,H p=none->Q (.ref p) (upd H p (.lst (Cm k.toNat xs).flatten))
theorem pI{α:Type}(xs:List α)(k:Nat):(Cm k xs).flatten.length=k * xs.length:=by
 induction k with
 | zero=>simp
 | succ k ih=>rw[Gk,Jw,Az,ih,Nat.succ_mul,Nat.add_comm]
theorem P5:Uw X (Kc .Mult) AE:=by
 intro pins s σ H x y v u Q I rx ry h
 obtain ⟨l,k,xs,rfl,rfl,hH,h1,h2,hz,q⟩:=h
 cases rx
 obtain ⟨t,rfl⟩:=ry
 obtain ⟨z,its,n,r,hl,e⟩:=I.lstM hH
 have hlen:its.toArray.size * k.toNat<=Bd:=by rw[Aq,<- hl]; exact hz
 have hcap:¬ its.toArray.size * k.toNat > (2 ^ 63 - 1) / 8:=by
  have : (Bd:Nat)<=(2 ^ 63 - 1) / 8:=by decide
  omega
 have hfit:¬ (!Builtin.List.listFitsIndex k)=true:=by
  rw[fitsIndex_both h1 h2]
  exact Gc
 have hlong:¬ Jy (its.toArray.size * k.toNat)=true:=by
  rw[jB hlen]
  exact Gc
 have hnew:List.foldl (λx1 x2=>x1++x2) #[] (Cm (if its.toArray.isEmpty=true then 0 else k.toNat) its.toArray)=(Cm k.toNat its).flatten.toArray:=by
  have f0:∀m:Nat,List.foldl (λx1 x2=>x1++x2) #[] (Cm m its.toArray)=(Cm m its).flatten.toArray:=λm=>by
   have:=foldl_rep its m []
   rw[List.nil_append] at this
   exact this
  rw[f0]
  cases its with
  | nil=>simp
  | cons a r'=>rw[if_neg (by simp)]
 refine wpAny_binaryOp_repeat_ref (T := "list") (U := "int") (by decide) ⟨_,e,rfl⟩ (λs'=>typeIs_int s' k t) noFill_list_mul F.fills_int_mul F.slot_int_rmul repeat_list F.slot_int_index.lookup
  (bY F.slot_int_rmul (typeIs_int s k t) F.entry_int_rmul (F.args_int_rmul_2 _ _) (int___rmul___int_list k t l its.toArray n)
   ⟨e,rfl,⟨_,e,rfl⟩,bY F.slot_list_mul ⟨_,e,rfl⟩ F.entry_list_mul (F.args_list_mul_2 _ _) (AutoListH.list___mul___list_int_3 l its.toArray n k t hfit hcap hlong) ⟨e,?_⟩⟩)
 rw[hnew]
 exact ⟨.ref _,_,I.lnew (t':=s.toks) (r.rep k.toNat) (by rw[pI,Za]; exact hz),rfl,q _ I.fresh⟩
end
end L2
namespace Att
open PySem PySem.W PySem.Calls PyProof.Rows
theorem Yc{P:Params}{h:Heap}:∀(ns:List Int) (vs:List Value),WellAll P h vs (ns.map WData.int)->Lg vs ns:=by
 intro ns
 induction ns with
 | nil =>
  intro vs w
  rw[Yj] at w
  cases w
  exact .nil
 | cons n ns ih =>
  intro vs w
  rw[Bb] at w
  cases w with
  | cons a b =>
   cases a
   exact .cons _ _ (ih _ b)
theorem rL{l:OpenLaw}{n:Nat}(hn:l.most=some n){P:Params}{h:Heap}{args:List WData}{vals:List Value}(hpre:l.row.toRowW.claim.pre args=true)(hwl:WellAll P h vals args):∃a vs ns,vals=[Cq a]/\args=[WData.list (ns.map WData.int)]/\h.get? a=some { cls:=.type "list",data:=.seq vs.toArray }/\Lg vs ns/\ns.length<=n:=by
 have hsh:WShape.hasAll [] args [.list .int]=true:=(pre_splitW hpre).1
 have hc:l.pre.holds [] { args:=args }=true:=(pre_splitW hpre).2
 obtain ⟨d,r,rfl,h1,h2⟩:=hasAllW_cons hsh
 obtain rfl:=hasAllW_nil h2
 obtain ⟨xs,rfl,h3⟩:=hasW_list h1
 obtain ⟨ns,rfl⟩:=items_int h3
 have hlen:ns.length<=n:=by
  unfold OpenLaw.pre at hc
  have h4:(WTm.not (.lt (.lit (.int (n:Int))) (.len (.arg 0)))).holds [] { args:=[.list (ns.map .int)] }=true:=by
   have h4:=(holds_andW hc).1
   rw[hn] at h4
   exact h4
  have h5:=condW_of h4 (w_not (w_lt w_lit (w_len_list (w_arg rfl))))
  rw[Ad] at h5
  refine Nat.le_of_not_lt λq=>?_
  have q':(n:Int)<((ns.length:Nat):Int):=by omega
  first
   | (rw[decide_eq_true q'] at h5; exact absurd h5 (by decide))
   | (simp at h5; omega)
 cases hwl with
 | cons w1 w2 =>
  cases w2
  cases w1 with
  | list ho hall=>exact ⟨_,_,ns,rfl,rfl,ho,Yc ns _ hall,hlen⟩
theorem tX(l:OpenLaw)(args:List WData):l.row.toRowW.claim.post args (.bool true) args=true :=
 postW_of (r:=l.row.toRowW) (X:=(true == true))
  (show WShape.has [] (.bool true) .bool=true by first | rfl | decide | simp [WShape.has,WShape.arms,WShape.armsAll])
  (show (WTm.eq .res (.lit (.bool true))).value [] { args:=args,res:=some (.bool true),after:=args }=some (.bool (true == true)) from w_eq_bool (w_res rfl) w_lit) rfl
theorem attach_call{l:OpenLaw}{n:Nat}{q:Bs}{loose:List Str}{XP:(Str->Option Value)->Heap->Prop}{YP:World->Heap->Prop}{d:DefRec}(hn:l.most=some n)(hdf:d.params.defaults=[])(call:∀(w:World) (s₀ s₁:Al) (mg mb:Str->Option Value) (fa:Addr) (o:Obj) (pm cd doc:Value) (a:Addr) (vs:List Value) (ns:List Int),Ground q loose [] XP w s₀ mg mb s₁.heap->YP w s₁.heap->s₁.heap.get? fa=some o->o.data=.func (docDef d.name d.params d.body d.scope pm cd doc)->s₁.heap.CodeRec cd d.name->mg d.name=some (.ref fa)->s₁.heap.get? a=some { cls:=.type "list",data:=.seq vs.toArray }->Lg vs ns->ns.length<=n->s₁.gens=#[]->Ng (model l.prog w) Yi (.call (.ref fa) ⟨[.ref a],[]⟩) (λr s'=>r=.ok (.ret (.bool true))/\OldK s₁.heap s'.heap/\s'.os=s₁.os/\Rz s'.gens) s₁):WalkO q loose XP YP l.row.toRowW d [] (λf vs=>PySem.call f vs):=by
 intro w s₀ s₁ mg mb G Y fa o pm cd doc dV kV ho hd hcd hD hmg hg args vals as hpre hlay hrd hwl hlo
 obtain rfl:dV=.none:=Dflts.none hD hdf
 obtain rfl:kV=.none:=Dflts.noKw hD
 obtain ⟨a,vs,ns,rfl,rfl,hobj,hints,hlen⟩:=rL hn hpre hwl
 refine enter_call (Lf (call w s₀ s₁ mg mb fa o pm cd doc a vs ns G Y ho (fd_plain hd) hcd hmg hobj hints hlen hg) λr s' hq=>?_)
 obtain ⟨rfl,h2,h3,h4⟩:=hq
 exact ⟨.inl ⟨.bool true,.bool true,[],rfl,λ_=>rfl,.bool true,tX l _,λ_=>⟨Eh,λ_ hm=>(nomatch hm)⟩⟩,h2,h3,h4⟩
end Att
namespace L2
open PySem PySem.Spec PyProof.Rows
theorem cZ:∀{vs:List Value} {ns:List Int},Lg vs ns->Fe (ns.map V.int) vs
 | _,_,.nil=>.nil
 | _,_,.cons n t h=>.cons ⟨t,rfl⟩ (cZ h)
def Pe(s:Stmt):Arguments:=match s with
 | .FunctionDef _ a _ _ _ _ _ _ _ _=>a
 | _=>{ posonlyargs:=[],args:=[],vararg:=none,kwonlyargs:=[],kw_defaults:=[],kwarg:=none,defaults:=[] }
def Jg(s:Stmt):List Stmt:=match s with
 | .FunctionDef _ _ b _ _ _ _ _ _ _=>b
 | _=>[]
def Bo(s:Stmt):Scope:=match s with
 | .FunctionDef _ _ _ _ _ _ sc _ _ _=>sc
 | _=>{ kind:=.function,names:=[],isGenerator:=false,isCoroutine:=false }
abbrev Fw:qQ:=λ_ _ _ _ _ _=>False
abbrev E0:XK:=λ_ _ _=>False
theorem Ef{X:Cx}:Pi Fw X E0:=λ_ _ _ _ _ _ _ h=>h.elim
structure Fun(K:PySem.W.Frag)(x qual:Str)(st:Stmt)(f:Addr)(fd:Cg):Prop where
 ex:∃(oc:Value) (od:Option Addr) (kV doc pm:Value) (an:Option Addr) (cdv ct:Value) (osl:Array (Option Value)),
  fd=PySem.W.fnOf x qual (Pe st) (Jg st) (Bo st) .none kV doc pm an cdv ct/\K.lookup f=some ⟨oc,od,.func fd,osl⟩/\PySem.W.codeIn K cdv qual=true
 kp:PySem.W.keepIn K (.ref f)=true
section
variable{P:Bs}{w:World}{K:PySem.W.Frag}{mg:Str->Option Value}{base:Heap}
theorem Fun.ok{x qual:Str}{st:Stmt}{f:Addr}{fd:Cg}{N ps:List Str}{k:Nat}{sp:Sp}(F:Fun K x qual st f fd)(S:FnScope N ps (Bo st))(len:∀vs H Q E,sp vs H Q E->vs.length=ps.length)(hbody:∀(cdv:Value) (A:Dj) (outer:List Env) (s:Al) (H:Hp) (vs:List V) (Q:VK) (E:XK),Room k (A.deeper (Pn qual (Bo st) s.heap.objs.size f cdv))->sp vs H Q E->∃t,mV (Lq Fw P w K mg base N qual (Bo st) f cdv A outer s H E).nox (Jg st) t/\t { nx:=λ_ H'=>Q .non H',rt:=Q } (start N vs) H):FnOk P w K mg base Fw (k+1) f fd ps sp:=by
 obtain ⟨oc,od,kV,doc,pm,an,cdv,ct,osl,rfl,lk,hcd⟩:=F.ex
 refine X5 lk hcd S len λA outer s H vs Q E hr hsp=>?_
 obtain ⟨t,h,q⟩:=hbody cdv A outer s H vs Q E hr hsp
 exact ⟨t,h.nox,q⟩
theorem Fun.binds{x qual:Str}{st:Stmt}{f:Addr}{fd:Cg}{ps:List Str}(F:Fun K x qual st f fd)(h:∀(kV doc pm:Value) (an:Option Addr) (cdv ct:Value) (us:List Value),us.length=ps.length->bindArgs (PySem.W.fnOf x qual (Pe st) (Jg st) (Bo st) .none kV doc pm an cdv ct) ⟨us,[]⟩=pure (ps.zip us)):Binds K fd ps []:=by
 obtain ⟨oc,od,kV,doc,pm,an,cdv,ct,osl,rfl,lk,hcd⟩:=F.ex
 exact .all (h kV doc pm an cdv ct)
theorem yA{x qual:Str}{st:Stmt}{f:Addr}{oc:Value}{od an:Option Addr}{osl:Array (Option Value)}{kV doc pm cdv ct:Value}(l:K.lookup f=some ⟨oc,od,.func (PySem.W.fnOf x qual (Pe st) (Jg st) (Bo st) .none kV doc pm an cdv ct),osl⟩)(c:PySem.W.codeIn K cdv qual=true)(k:PySem.W.keepIn K (.ref f)=true):Fun K x qual st f (PySem.W.fnOf x qual (Pe st) (Jg st) (Bo st) .none kV doc pm an cdv ct):=⟨⟨oc,od,kV,doc,pm,an,cdv,ct,osl,rfl,l,c⟩,k⟩
end
theorem sZ{n:Nat}(h:n<=1000):n<Bd:=Nat.lt_of_le_of_lt h (by decide)
section
variable{X:Cx}
theorem pv(i:Nat){x:Str}{pos:Pos}(hN:X.N[i]? = some x:=by rfl)(hv:X3 X.env.scope x:=by first | exact Ci rfl | exact Vt (Ci rfl) | exact Vt (Vt rfl))(hd:(x == ("__debug__" : Str))=false:=by decide)(hcd:(x == ("__classdict__" : Str))=false:=by decide):PE X (.Name x pos) (cJ i):=Q6 hN hv hd hcd
end
theorem zW{A B:Prop}(h:B):if false=true then A else B:=by
 rw[if_neg Gc]
 exact h
theorem uT{A B:Prop}(h:A):if true=true then A else B:=by
 rw[if_pos rfl]
 exact h
theorem Y2{c A B:Prop}[Decidable c](h1:c->A)(h2:¬ c->B):if c then A else B:=by
 by_cases h:c
 ·rw[if_pos h]
  exact h1 h
 ·rw[if_neg h]
  exact h2 h
def Same(H H':Hp):Prop:=∀b o,H b=some o->H' b=some o
theorem Same.refl(H:Hp):Same H H:=λ_ _ h=>h
end L2
namespace Nd
open PySem PySem.Spec PyProof.Rows L2
def Hg(X:Cx)(scope:Scope)(cl:List (Str×Addr))(N:List Str)(fp:List Addr)(s:Al)(H:Hp):Cx where
 prog:=X.prog
 w:=X.w
 K:=X.K
 mg:=X.mg
 base:=X.base
 A:=X.A
 N:=N
 s₀:=s
 H₀:=H
 env:=compEnvC scope (Fb (s.heap.objs.size+1) scope.names cl) s.heap.objs.size X.env
 outer:=X.stack
 stack:=X.stack
 ex:=fp
 fn:=λy=>decide (scope.names.lookup y=some Eb)
 calm:=X.calm
 pn:=[]
 xe:=λ_ _=>False
section
variable{prog:Bs}{w:World}{A:Dj}{R:Result->Al->Prop}{s:Al}
theorem bG{elt tg iter:Expr}{ifs:List Expr}{scope:Scope}{pos:Pos}{it acc:Value}{env:Env}(J:Nat->Al->Prop) (turn:∀n s,J n s->wpAny (model prog w) A (Uk it) (λr s1=>match r with
    | none=>R (.ok .next) s1
    | some v=>wpAny (model prog w) A (Vp tg it v) (λ_ s2=>wpAny (model prog w) A (Xm tg env v) (λ_ s3 =>
      wpAny (model prog w) A (forIn ifs true λc r=>if r=true then (do
        let ok <- isTrue c env (eval c env)
        pure (Qs ok)) else pure (Qs r)) (λok s4 =>
       if ok=true then
        wpAny (model prog w) A (eval elt env) (λx s5=>wpAny (model prog w) A (call (.builtin "list.append") [acc,x]) (λ_ s6=>∃m,m<n/\J m s6) (λ_ _=>False) s5) (λ_ _=>False) s4
       else ∃m,m<n/\J m s4) (λ_ _=>False) s3) (λ_ _=>False) s2) (λ_ _=>False) s1) (λ_ _=>False) s)
  (n:Nat) (h:J n s):Ng (model prog w) A (.compLoop (.ListComp elt [⟨tg,iter,ifs,0⟩] scope pos) 0 it acc env) R s:=by
 refine codeAny_loop rfl J (λn s hJ=>?_) n h
 show wpAny _ A (Sem.onRaise (compTurn (.ListComp elt [⟨tg,iter,ifs,0⟩] scope pos) 0 it acc env) (λx=>do noteFrame x env; theTreesLotGoes x)) _ _ s
 refine wpAny_noted ?_
 rw[compTurn_list]
 refine Ae (wpAny_standAt (Ae (Gy (turn n s hJ) (λr s1 h1=>?_) λ_ _ z=>z.elim)))
 cases r with
 | none=>exact Ak h1
 | some v =>
  refine Ae (Gy h1 (λ_ s2 h2=>?_) λ_ _ z=>z.elim)
  refine Ae (Gy h2 (λ_ s3 h3=>?_) λ_ _ z=>z.elim)
  refine Ae (Gy h3 (λok s4 h4=>?_) λ_ _ z=>z.elim)
  cases ok with
  | false=>exact Ak ⟨rfl,h4⟩
  | true =>
   refine Ae (Ae (Gy h4 (λx s5 h5=>?_) λ_ _ z=>z.elim))
   exact Ae (Gy h5 (λ_ s6 h6=>Ak (Ak ⟨rfl,h6⟩)) λ_ _ z=>z.elim)
end
section
variable{X:Cx}{pins:List (Addr×Obj)}{σ:L2.St}{H:Hp}{s:Al}{scope:Scope}{cl:List (Str×Addr)}{fp:List Addr}{N:List Str}
def O1(scope:Scope)(x:Str):Prop:=scope.names.lookup x=some .local\/scope.names.lookup x=some .cell
structure CompScope(X:Cx)(scope:Scope)(cl:List (Str×Addr))(x:Str)(ys:List Str)(js:List Nat):Prop where
 clos:closureFor scope X.env=pure cl
 oc:(∀y∈scope.names,y.2≠.cell)\/∃z:Str,(∀n,Fb n scope.names []=[(z,n)])/\scope.names.lookup z=some .cell/\∀y∈scope.names,y.2=.cell->y.1=z
 kind:scope.kind=.function
 locs:∀y∈scope.names,y.2=.local->scope.names.lookup y.1=some .local
 own:O1 scope x
 sub:∀y c,cl.lookup y=some c->X.env.cells.lookup y=some c
 has_:(scope.names.all λy=>!(y.2 == Ei) || (cl.lookup y.1).isSome)=true
 nd:(x::ys).Nodup
 len:ys.length=js.length
 at_:∀(k:Nat) (y:Str) (j:Nat),ys[k]? = some y->js[k]? = some j->X.N[j]? = some y/\scope.names.lookup y=some .free/\(X.env.kindOf y=some .cell\/X.env.kindOf y=some .free)
theorem CompScope.has{x:Str}{ys:List Str}{js:List Nat}(C:CompScope X scope cl x ys js):∀y∈scope.names,y.2=.free->(cl.lookup y.1).isSome=true:=λy hy e=>by
 have h:=bS.mp C.has_ y hy
 rw[e] at h
 simpa using h
theorem Rg{env:Env}{y:Str}{k:Ph}:∀{names:List (Str×Ph)},
  (names.map λ(n,k)=>if (k == Ei && env.scope.kind == .function && env.kindOf n == some .cell) then (n,Eb) else (n,k)).lookup y=some k ->
  ∃k0,names.lookup y=some k0/\(k=k0\/(k0=.free/\k=.cell))
 | [],h=>by simp at h
 | (n,k0)::r,h=>by
  have ih:=@Rg env y k r
  rw[Bb] at h
  by_cases hc:(k0 == Ei && env.scope.kind == .function && env.kindOf n == some .cell)=true
  ·have h':Lp y ((n,Eb)::(r.map λ(n,k)=>if (k == Ei && env.scope.kind == .function && env.kindOf n == some .cell) then (n,Eb) else (n,k)))=some k:=by
    simpa [hc] using h
   cases hy:y == n with
   | true =>
    rw[Cd,hy] at h'
    have e:k=Eb:=by simpa using h'.symm
    refine ⟨k0,by rw[Cd,hy],.inr ⟨?_,e⟩⟩
    rw[Eu,Eu] at hc
    exact Qo hc.1.1
   | false =>
    rw[Cd,hy] at h'
    obtain ⟨q,e1,e2⟩:=ih h'
    exact ⟨q,by rw[Cd,hy]; exact e1,e2⟩
  ·have h':Lp y ((n,k0)::(r.map λ(n,k)=>if (k == Ei && env.scope.kind == .function && env.kindOf n == some .cell) then (n,Eb) else (n,k)))=some k:=by
    simpa [hc] using h
   cases hy:y == n with
   | true =>
    rw[Cd,hy] at h'
    exact ⟨k0,by rw[Cd,hy],.inl (by simpa using h'.symm)⟩
   | false =>
    rw[Cd,hy] at h'
    obtain ⟨q,e1,e2⟩:=ih h'
    exact ⟨q,by rw[Cd,hy]; exact e1,e2⟩
theorem Uz{env:Env}{y:Str}:∀{names:List (Str×Ph)},names.lookup y=some .free ->
  (names.map λ(n,k)=>if (k == Ei && env.scope.kind == .function && env.kindOf n == some .cell) then (n,Eb) else (n,k)).lookup y=some .cell \/
  (names.map λ(n,k)=>if (k == Ei && env.scope.kind == .function && env.kindOf n == some .cell) then (n,Eb) else (n,k)).lookup y=some .free
 | [],h=>by simp at h
 | (n,k0)::r,h=>by
  have ih:=@Uz env y r
  show Lp y ((if (k0 == Ei && env.scope.kind == .function && env.kindOf n == some .cell)=true then (n,Eb) else (n,k0))::_)=_\/Lp y ((if (k0 == Ei && env.scope.kind == .function && env.kindOf n == some .cell)=true then (n,Eb) else (n,k0))::_)=_
  by_cases hc:(k0 == Ei && env.scope.kind == .function && env.kindOf n == some .cell)=true
  ·rw[if_pos hc]
   cases hy:y == n with
   | true=>exact .inl (by rw[Cd,hy])
   | false =>
    rw[Cd,hy] at h
    simp only[Cd,hy]
    exact ih h
  ·rw[if_neg hc]
   cases hy:y == n with
   | true =>
    rw[Cd,hy] at h
    exact .inr (by rw[Cd,hy]; exact h)
   | false =>
    rw[Cd,hy] at h
    simp only[Cd,hy]
    exact ih h
theorem Et{α β:Type}[BEq α][LawfulBEq α]{y:α}{k:β}:∀{l:List (α×β)},l.lookup y=some k->(y,k)∈l
 | [],h=>by simp at h
 | (n,v)::r,h=>by
  cases hy:y == n with
  | true =>
   rw[Cd,hy] at h
   have e:=Qo hy
   subst e
   have : v=k:=by simpa using h
   subst this
   exact Ab
  | false =>
   rw[Cd,hy] at h
   exact Ah _ (Et h)
end
theorem gS{a c:Nat}(h:c<a)(e:c=a+1):False:=by omega
theorem Iw:∀(names:List (Str×Ph)) (n:Nat) (acc:List (Str×Addr)),Fb n names acc=Fb n names []++acc
 | [],_,_=>rfl
 | (x,k)::r,n,acc=>by
  unfold Fb
  by_cases h:(k == Eb)=true
  ·rw[if_pos h,if_pos h,Iw r _ ((x,n)::acc),Iw r _ [(x,n)],Dq]; rfl
  ·rw[if_neg h,if_neg h]; exact Iw r n acc
theorem Oj:∀(names:List (Str×Ph)) (n:Nat) (acc:List (Str×Addr)),(∀y∈names,y.2≠.cell)->Fb n names acc=acc
 | [],_,_,_=>rfl
 | (x,k)::r,n,acc,h=>by
  unfold Fb
  rw[if_neg (by have:=h (x,k) Ab; simpa using this)]
  exact Oj r n acc λy hy=>h y (Ah _ hy)
theorem Va{env:Env}{y:Str}:∀{names:List (Str×Ph)},names.lookup y=some .cell->(names.map λ(n,k)=>if (k == Ei && env.scope.kind == .function && env.kindOf n == some .cell) then (n,Eb) else (n,k)).lookup y=some .cell
 | [],h=>by simp at h
 | (n,k0)::r,h=>by
  have ih:=@Va env y r
  show Lp y ((if (k0 == Ei && env.scope.kind == .function && env.kindOf n == some .cell)=true then (n,Eb) else (n,k0))::_)=_
  by_cases hc:(k0 == Ei && env.scope.kind == .function && env.kindOf n == some .cell)=true
  ·rw[if_pos hc]
   cases hy:y == n with
   | true=>rw[Cd,hy]
   | false=>rw[Cd,hy] at h ⊢; exact ih h
  ·rw[if_neg hc]
   cases hy:y == n with
   | true=>rw[Cd,hy] at h ⊢; exact h
   | false=>rw[Cd,hy] at h ⊢; exact ih h
theorem qK{env:Env}{scope:Scope}{x:Str}(o:O1 scope x):Loc (relabel scope env) x:=o.imp lookup_relabel_local Va
section
variable{X:Cx}{scope:Scope}{cl:List (Str×Addr)}{x y:Str}{ys:List Str}{js:List Nat}{n c:Nat}{N:List Str}{fp:List Addr}{s:Al}{H:Hp}
theorem yT(o:O1 scope x):(Hg X scope cl N fp s H).fn x=true\/(Hg X scope cl N fp s H).env.scope.names.lookup x=some .local:=by
 rcases o with o | o
 ·exact .inr (lookup_relabel_local o)
 ·exact .inl (decide_eq_true o)
theorem CompScope.split(C:CompScope X scope cl x ys js)(h:(Fb n scope.names cl).lookup y=some c):cl.lookup y=some c\/(c=n/\Fb 0 scope.names []=[(y,0)]/\Fb n scope.names []=[(y,n)]/\scope.names.lookup y=some .cell):=by
 rcases C.oc with o | ⟨z,o1,o2,_⟩
 ·rw[Oj _ _ _ o] at h; exact .inl h
 ·rw[Iw,o1] at h
  have h2:Lp y ((z,n)::cl)=some c:=h
  rw[Cd] at h2
  cases e:y == z with
  | true =>
   rw[e] at h2
   have ec:c=n:=(Ce h2).symm
   have ey:=Qo e
   subst ey
   exact .inr ⟨ec,o1 0,o1 n,o2⟩
  | false=>rw[e] at h2; exact .inl h2
theorem CompScope.find(C:CompScope X scope cl x ys js)(h:cl.lookup y=some c)(hy:scope.names.lookup y=some .free):(Fb n scope.names cl).lookup y=some c:=by
 rcases C.oc with o | ⟨z,o1,o2,_⟩
 ·rw[Oj _ _ _ o]; exact h
 ·rw[Iw,o1]
  show Lp y ((z,n)::cl)=some c
  rw[Cd]
  cases e:y == z with
  | true=>rw[Qo e,o2] at hy; cases hy
  | false=>exact h
theorem CompScope.cellAt(C:CompScope X scope cl x ys js)(hy:(y,Eb)∈scope.names):(Fb n scope.names cl).lookup y=some n:=by
 rcases C.oc with o | ⟨z,o1,o2,o3⟩
 ·exact absurd rfl (o _ hy)
 ·have ez:y=z:=o3 _ hy rfl
  subst ez
  rw[Iw,o1]
  show Lp y ((y,n)::cl)=some n
  rw[Cd,beq_self_eq_true]
theorem eY{M:Model}{A:Dj}{E:Value->Al->Prop}{Q:Env->Al->Prop}(C:CompScope X scope cl x ys js)(hQ:∀h4,h4.Ns s.heap.objs.size (λ_=>none)->(∀b u,s.heap.get? b=some u->h4.get? b=some u)->(∀z n,Fb (s.heap.objs.size+1) scope.names []=[(z,n)]->h4.IsCell n none)->Q (newEnv scope s.heap.objs.size X.env.globals (Fb (s.heap.objs.size+1) scope.names cl) X.env.qual none .none (some X.env) Ul) { s with heap:=h4,toks:=s.toks+([]:List (Str×Value)).length }):wpAny M A (Xl scope X.env.globals cl [] X.env.qual none .none (some X.env)) Q E s:=by
 simp only[Xl,Option.isSome_some,if_true]
 refine Ae (wpAny_alloc (Ae (wpAny_layCells _ (λx k cs=>by cases e:k == Eb <;> simp [e]) _ _ _ _ ?_)))
 have hsz:({ s with heap:=s.heap.push { cls:=.type "dict",data:=.dict #[] } }:Al).heap.objs.size=s.heap.objs.size+1:=Heap.size_push ..
 rw[hsz]
 refine Ae (Ak (Ak (hQ _ ((Heap.Ns.new s.heap (.type "dict")).keeps (pushCells_keeps _ _)) (λb u e=>pushCells_keeps _ _ b u (Am _ e)) λz n e=>?_)))
 have ok:=(cellsFrom_ok scope.names (s.heap.push { cls:=.type "dict",data:=.dict #[] }) 0 [] ⟨λ_ _ hm=>(nomatch hm),Eh⟩ (Ee _)).empty z n
 rw[show (s.heap.push { cls:=.type "dict",data:=.dict #[] }).objs.size=s.heap.objs.size+1 from hsz,e] at ok
 exact (ok (Ag.mpr rfl)).1
end
section
variable{X:Cx}{pins:List (Addr×Obj)}{σ:L2.St}{H:Hp}{s:Al}{scope:Scope}{cl:List (Str×Addr)}{fp:List Addr}{N:List Str}
theorem C2{x:Str}{ys:List Str}{js:List Nat}(C:CompScope X scope cl x ys js)(I:Inv X pins σ H s)(hf:∀b∈fp,Qv X pins H b)(ho:∀b∈fp,∃o,s.heap.get? b=some o):(Hg X scope cl N fp s H).Ok where
 mod:=I.ok.mod
 kind:=C.kind
 glob:=I.ok.glob
 blt:=I.ok.blt
 above:=An _
 inj:=λy z c h1 h2=>by
  have lt:∀y,cl.lookup y=some c->c<s.heap.objs.size:=λy e=>let ⟨_,q⟩:=I.cell y c (C.sub y c e); q.lt
  rcases C.split h1 with h1 | ⟨e1,a1,_⟩
  ·rcases C.split h2 with h2 | ⟨e2,_⟩
   ·exact I.ok.inj y z c (C.sub y c h1) (C.sub z c h2)
   ·exact (gS (lt y h1) e2).elim
  ·rcases C.split h2 with h2 | ⟨e2,a2,_⟩
   ·exact (gS (lt z h2) e1).elim
   ·rw[a1] at a2
    simpa using a2
 has:=λy hy=>by
  have key:∀k,(k=Eb\/k=Ei)->(compEnvC scope cl s.heap.objs.size X.env).kindOf y=some k->∃c,(Fb (s.heap.objs.size+1) scope.names cl).lookup y=some c:=by
   intro k hk e
   obtain ⟨k0,e0,e1⟩:=Rg (names:=scope.names) (env:=X.env) (y:=y) (k:=k) e
   have m:=Et e0
   by_cases hk0:k0=.cell
   ·exact ⟨_,C.cellAt (hk0▸m)⟩
   have hfree:k0=.free:=by
    rcases e1 with e1 | e1
    ·subst e1
     rcases hk with hk | hk
     ·exact absurd hk hk0
     ·exact hk
    ·exact e1.1
   obtain ⟨c,hc⟩:=Kx.mp (C.has _ m hfree)
   exact ⟨c,C.find hc (hfree▸e0)⟩
  rcases hy with hy | hy
  ·exact key _ (.inl rfl) hy
  ·exact key _ (.inr rfl) hy
 cab:=λy c h e=>by
  have h:scope.names.lookup y=some .cell:=of_decide_eq_true h
  have:=(C.cellAt (n:=s.heap.objs.size+1) (Et h)).symm.trans e
  show s.heap.objs.size<=c
  have:=Ce this
  omega
 hd:=I.ok.hd
 frames:=I.ok.frames
 stk:=.inl rfl
 exf:=λb hb=>by
  obtain ⟨o,e⟩:=ho b hb
  refine ⟨Cs (Br e),λy c hc=>?_⟩
  rcases C.split hc with hc | ⟨hc,_⟩
  ·exact (hf b hb).2.2.2.2.1 y c (C.sub y c hc)
  ·exact λz=>gS (Br e) (z.symm.trans hc)
 bs:=I.bs
 bsz:=By I.ok.bsz I.sz
 noex:=λb o e hb=>by
  rcases (hf b hb).2.2.2.1 with z | z
  ·exact I.ok.noex b o e z
  ·exact absurd (Ca (Br (I.ok.bs b o e).1) z) (Hb _)
 exfs:=λb hb z=>by
  rcases Ai.mp (I.stkSub b z) with e | e
  ·exact (hf b hb).2.1 e
  ·exact (hf b hb).2.2.1 e
 funs:=I.stack
 frf:=I.stkFree
 tab:=I.ok.tab.un I.base
def La(σ:L2.St)(js:List Nat):L2.St:=js.map λj=>(σ[j]?).join
theorem Zz{x:Str}{pre ys:List Str}{js:List Nat}{h1:Heap}{tk:Nat}{m1:Str->Option Value}(C:CompScope X scope cl x ys js)(I:Inv X pins σ H s)(hf:∀b∈fp,Qv X pins H b)(ho:∀b∈fp,∃o,s.heap.get? b=some o)(hns:h1.Ns s.heap.objs.size m1)(keep:∀b u,s.heap.get? b=some u->h1.get? b=some u)(new:∀z n,Fb (s.heap.objs.size+1) scope.names []=[(z,n)]->h1.IsCell n none):Inv (Hg X scope cl (pre++ys) fp s H) [] (pre.map (λ_=>none)++La σ js) H { s with heap:=h1,toks:=tk }:=by
 have cellK:∀y c,cl.lookup y=some c->∃v,s.heap.IsCell c v/\h1.IsCell c v:=λy c e=>by
  obtain ⟨v,o,q,d⟩:=I.cell y c (C.sub y c e)
  exact ⟨v,⟨o,q,d⟩,o,keep c o q,d⟩
 refine ⟨C2 C I hf ho,rfl,I.bare,Un.kept keep,⟨m1,hns,λi y v e1 e2 _=>?_⟩,λy c e=>?_,I.hok.fresh (An _),λy c e=>?_,λp hp=>?_,I.hok.kept keep,?_⟩
 ·have e2:(pre.map (λ_=>(none:Option V))++La σ js)[i]? = some (some v):=e2
  have e1:(pre++ys)[i]? = some y:=e1
  by_cases hi:i<pre.length
  ·rw[Pz (by rw[Ad]; exact hi),Cc] at e2
   cases q:pre[i]? with
   | none=>rw[q] at e2; cases e2
   | some z=>rw[q] at e2; cases e2
  ·rw[Ki (by rw[Ad]; omega),Ad] at e2
   rw[Ki (by omega)] at e1
   have e1':=e1
   have e2':=e2
   generalize i - pre.length=k at e1' e2'
   unfold La at e2'
   rw[Cc] at e2'
   cases ej:js[k]? with
   | none=>rw[ej] at e2'; simp at e2'
   | some j =>
    rw[ej] at e2'
    have e3:(σ[j]?).join=some v:=by simpa using e2'
    have e4:σ[j]? = some (some v):=by
     cases q:σ[j]? with
     | none=>rw[q] at e3; simp at e3
     | some z=>rw[q] at e3; simp at e3; rw[e3]
    obtain ⟨a1,a2,a3⟩:=C.at_ k y j e1' ej
    obtain ⟨m0,_,hl⟩:=I.loc
    have vis:X3 X.env.scope y:=a3.elim (λa3=>.inr (.inl a3)) λa3=>.inr (.inr a3)
    obtain ⟨u,r,l⟩:=hl j y v a1 e4 vis
    refine ⟨u,r,?_⟩
    rcases l with ⟨k1,_⟩ | ⟨_,c,hc,hv⟩
    ·rcases a3 with a3 | a3 <;> rw[k1] at a3 <;> cases a3
    ·obtain ⟨c',hc'⟩:=Kx.mp (C.has _ (Et a2) rfl)
     have ec:c'=c:=by
      have:=C.sub y c' hc'
      rw[hc] at this
      exact (Ce this).symm
     subst ec
     obtain ⟨o,q,d⟩:=hv
     exact .inr ⟨Uz a2,c',C.find hc' a2,o,keep c' o q,d⟩
 ·rcases C.split e with e | ⟨e,_,e',_⟩
  ·obtain ⟨v,_,z⟩:=cellK y c e
   exact ⟨v,z⟩
  ·exact ⟨_,e▸new _ _ e'⟩
 ·rcases C.split e with e | ⟨e,_⟩
  ·exact I.freeC y c (C.sub y c e)
  ·exact I.hok.fresh (by omega)
 ·cases (show p∈([]:List (Addr×Obj)) from hp)
 ·show (pre.map (λ_=>(none:Option V))++La σ js).length=(pre++ys).length
  simp [La,C.len]
end
section
variable{X:Cx}
def Z0(J:It)(js:List Nat)(tc:TT)(te:TE)(σ:L2.St)(H1:Hp)(Q:VK):Prop:=∀D,H1 D=none->∃W:Nat->Nat->Hp->Prop,(∃m,W 0 m (upd H1 D (.lst [])))/\∀i m H,W i m H ->
 (J.stop i H/\Q (.ref D) H)\/(J.go i H/\∀x H',J.yld i H x H'->∃(N1:Hp->Prop) (N2:VK),(∀H2,N1 H2->∃m',m'<m/\W (i+1) m' H2) /\
  (∀y H3,N2 y H3->∃acc,H3 D=some (.lst acc)/\acc.length<Bd/\∃m',m'<m/\W (i+1) m' (upd H3 D (.lst (acc++[y])))) /\
  tc (some x::La σ js) H' λc H2=>if c=true then te (some x::La σ js) H2 N2 else N1 H2)
def qY(wi:TI)(js:List Nat)(tc:TT)(te:TE):TE:=λσ H Q=>wi σ H λJ H1=>Z0 J js tc te σ H1 Q
def gC:TT:=λ_ H Q=>Q true H
def yZ(X:Cx)(ifs:List Expr)(t:TT):Prop :=
 ∀(pins:List (Addr×Obj)) (s:Al) (σ:L2.St) (H:Hp) (Q:Bool->Hp->Prop),Inv X pins σ H s->t σ H Q ->
  wpAny (model X.prog X.w) X.A (forIn ifs true λc r=>if r=true then (do
   let ok <- isTrue c X.env (eval c X.env)
   pure (Qs ok)) else pure (Qs r)) (TP X pins σ Q) X.xe s
theorem yX:yZ X [] gC:=λpins s σ H Q I h=>wpAny_tests_nil ⟨H,I,h⟩
theorem x8{c:Expr}{t:TT}(h:PT X c t):yZ X [c] t:=λpins s σ H Q I q=>wpAny_tests_one (h pins s σ H Q I q)
theorem mR{X X':Cx}{pins:List (Addr×Obj)}{σ σ':L2.St}{H3 H6:Hp}{s3 s7:Al}{scope:Scope}{cl:List (Str×Addr)}{N:List Str}{fp:List Addr}(hX':Hg X scope cl N fp s3 H3=X')(I3:Inv X pins σ H3 s3)(f3:∀b∈fp,Qv X pins H3 b)(I7:Inv X' [] σ' H6 s7):∃m7,s7.heap.Ns s3.heap.objs.size m7/\∀h8,Fs s3.heap.objs.size s7.heap h8->Inv X pins σ H6 { s7 with heap:=h8 }:=by
 have eP:X'.prog=X.prog:=by rw[<- hX']; rfl
 have eW:X'.w=X.w:=by rw[<- hX']; rfl
 obtain ⟨m7,hn7,_⟩:=I7.loc
 have hn7':s7.heap.Ns s3.heap.objs.size m7:=by rw[<- hX'] at hn7; exact hn7
 refine ⟨m7,hn7',λh8 hs8=>?_⟩
 have I7f:H6 s3.heap.objs.size=none:=by have:=I7.free; rw[<- hX'] at this; exact this
 have b7:Un (tL X.stack) fp H3 H6 s3.heap s7.heap:=by have:=I7.base; rw[<- hX'] at this; exact this
 have ne8:∀b o,s3.heap.get? b=some o->b≠s3.heap.objs.size:=λb o q=>Cs (Br q)
 have u8:Un (tL X.stack) fp H3 H6 s3.heap h8:=by
  refine ⟨λb o q n hb hx=>(hs8.2 b (ne8 b o q)).trans (b7.keep b o q n hb hx),λb o q n hb hx=>?_,b7.free,λb o q hx=>?_,b7.tups,b7.frzs,b7.tbls⟩
  ·obtain ⟨sl,z⟩:=b7.slot b o q n hb hx
   exact ⟨sl,(hs8.2 b (ne8 b o q)).trans z⟩
  ·obtain ⟨o',z⟩:=b7.there b o q hx
   exact ⟨o',(hs8.2 b (ne8 b o q)).trans z⟩
 have hok8:Vj X.prog X.w H6 h8:=λb ob e=>by
  have hk7:=I7.hok
  rw[eP,eW] at hk7
  refine (hk7 b ob e).stay (λc w' hcc q=>(hs8.2 c ?_).trans q) (λ_ q=>q) λ_ _ q=>q
  rintro rfl
  rcases hcc with rfl | hcc
  ·rw[I7f] at e; cases e
  ·rw[I7f] at hcc; cases hcc
 have os7:s7.os=s3.os:=by have:=I7.os; rw[<- hX'] at this; exact this
 exact I3.call' (s':={ s7 with heap:=h8 }) (ch:=fp) os7 u8 hok8 I7.bare (λb hb=>⟨(f3 b hb).2.2.2.1,(f3 b hb).2.1,(f3 b hb).2.2.2.2.1,(f3 b hb).2.2.2.2.2⟩)
theorem dD{X X':Cx}{σ':L2.St}{H3 H6:Hp}{s3 s7:Al}{scope:Scope}{cl:List (Str×Addr)}{N:List Str}{fp:List Addr}(hX':Hg X scope cl N fp s3 H3=X')(I4:Inv X' [] σ' H6 s7){H':Hp}(hn:∀b∈fp,H' b=none):∀b∈fp,Qv X' [] H' b:=λb hb=>by
 have ok:=I4.ok
 have hex:b∈X'.ex:=by rw[<- hX']; exact hb
 exact ⟨hn b hb,(ok.exf b hex).1,ok.exfs b hex,.inl hex,(ok.exf b hex).2,λp hp=>by rw[<- hX'] at hp; cases (show p∈([]:List (Addr×Obj)) from hp)⟩
theorem kX{X X':Cx}{H3:Hp}{s3:Al}{scope:Scope}{cl:List (Str×Addr)}{N:List Str}{fp:List Addr}(hc:X.calm=true)(hX':Hg X scope cl N fp s3 H3=X'):X'.prog=X.prog/\X'.w=X.w/\X'.K=X.K/\X'.A=X.A/\X'.calm=true:=by
 subst hX'
 exact ⟨rfl,rfl,rfl,rfl,hc⟩
theorem sA{X X':Cx}{pins:List (Addr×Obj)}{σ σ':L2.St}{H3 H6:Hp}{s3 s7:Al}{scope:Scope}{cl:List (Str×Addr)}{N:List Str}{fp:List Addr}(hX':Hg X scope cl N fp s3 H3=X')(I3:Inv X pins σ H3 s3)(f3:∀b∈fp,Qv X pins H3 b)(I7:Inv X' [] σ' H6 s7):(∃m7,s7.heap.Ns s3.heap.objs.size m7)/\H6 s3.heap.objs.size=none/\Inv X pins σ H6 s7:=by
 subst hX'
 obtain ⟨m7,hn7,_⟩:=I7.loc
 exact ⟨⟨m7,hn7⟩,I7.free,I3.call' (s':=s7) (ch:=fp) I7.os I7.base I7.hok I7.bare (λb hb=>⟨(f3 b hb).2.2.2.1,(f3 b hb).2.1,(f3 b hb).2.2.2.2.1,(f3 b hb).2.2.2.2.2⟩)⟩
theorem iV{X:Cx}{pins:List (Addr×Obj)}{σ:L2.St}{H2:Hp}{s2:Al}{tg:Expr}{J:It}{fp:List Addr}{it:Addr}{tn:Nat->Heap->Prop}(I2:Inv X pins σ H2 s2)(T:Turn X.prog X.w X.K tg J fp it tn)(st2:tn 0 s2.heap)(f2:∀b∈fp,Qv X pins H2 b){ob:Obj}{ho:HO}(I3:Inv X pins σ (upd H2 s2.heap.objs.size ho) { s2 with heap:=s2.heap.push ob }):(∀b∈fp,Qv X pins (upd H2 s2.heap.objs.size ho) b)/\tn 0 (s2.heap.push ob)/\∀b∈fp,∃o,(s2.heap.push ob).get? b=some o:=by
 have i8:tn 0 (s2.heap.push ob):=T.keep 0 _ _ st2 λb hb o q=>Am _ q
 refine ⟨λb hb=>⟨?_,(f2 b hb).2⟩,i8,λb hb=>?_⟩
 ·rw[En ?_]
  ·exact (f2 b hb).1
  ·intro z
   obtain ⟨o,q,_⟩:=T.obj _ _ st2 b hb
   have:=Br q
   rw[z] at this
   exact absurd this (Hb _)
 ·obtain ⟨o,q,_⟩:=T.obj _ _ i8 b hb
  exact ⟨o,q⟩
theorem pV{elt iter:Expr}{x:Str}{px pos:Pos}{ifs:List Expr}{scope:Scope}{cl:List (Str×Addr)}{ys:List Str}{js:List Nat}{wi:TI}{tc:TT}{te:TE}(C:CompScope X scope cl x ys js)(hc:X.calm=true)(hi:PI X (.Name x px) iter wi)(ht:∀fp s H,yZ (Hg X scope cl (x::ys) fp s H) ifs tc)(he:∀fp s H,PE (Hg X scope cl (x::ys) fp s H) elt te)(hs:∀x,Ih iter X.env x=pure x:=by intro _; rfl):PE X (.ListComp elt [⟨.Name x px,iter,ifs,0⟩] scope pos) (qY wi js tc te):=by
 intro pins s σ H Q I h
 rw[eval_ListComp]
 refine uJ (use:=none) rfl hs C.clos C.kind C.locs (Hn (hi pins s σ H _ I h) λv s1 h1=>Hn h1 λitv s2 h2=>?_)
 obtain ⟨it,fp,tn,J,H2,e,I2,T,st2,f2,q2⟩:=h2
 subst e
 have fD:H2 s2.heap.objs.size=none:=I2.hok.fresh (An _)
 obtain ⟨W,⟨m0,w0⟩,turn⟩:=q2 s2.heap.objs.size fD
 refine Dk ?_
 have I3:Inv X pins σ (upd H2 s2.heap.objs.size (.lst [])) { s2 with heap:=s2.heap.push { cls:=.type "list",dict:=none,data:=.seq ([]:List Value).toArray } } :=
  I2.laid (t':=s2.toks) (λb u q=>Am _ q) (An _) ⟨Ee _,[],0,.nil,Bl _ rfl⟩
 obtain ⟨f3,st3',o3'⟩:=iV I2 T st2 f2 I3
 generalize hS3:({ s2 with heap:=s2.heap.push { cls:=.type "list",dict:=none,data:=.seq ([]:List Value).toArray } }:Al)=s3 at I3
 have i8:tn 0 s3.heap:=by rw[<- hS3]; exact st3'
 have o3:∀b∈fp,∃o,s3.heap.get? b=some o:=by rw[<- hS3]; exact o3'
 show wpAny _ _ (Xl scope X.env.globals cl [] X.env.qual none .none (some X.env)) _ _ _
 refine eY C λh4 hns4 keep4 new4=>?_
 have I4:∀tk,Inv (Hg X scope cl (x::ys) fp s3 (upd H2 s2.heap.objs.size (.lst []))) [] (none::La σ js) (upd H2 s2.heap.objs.size (.lst [])) { s3 with heap:=h4,toks:=tk }:=λtk=>Zz (pre:=[x]) C I3 f3 o3 hns4 keep4 new4
 have st4:tn 0 h4:=T.keep 0 _ _ i8 λb hb o q=>keep4 b o q
 generalize hX':Hg X scope cl (x::ys) fp s3 (upd H2 s2.heap.objs.size (.lst []))=X' at I4
 obtain ⟨eP,eW,eK,eA,eC⟩:=kX hc hX'
 have stat:∀{H':Hp},(∀b∈fp,H' b=none)->∀b∈fp,Qv X' [] H' b:=λ{H'} hn=>dD hX' (I4 0) hn
 have loop:∀s5:Al,s5={ s3 with heap:=h4,toks:=s3.toks+([]:List (Str×Value)).length } ->
   Ng (model X.prog X.w) X.A (.compLoop (.ListComp elt [⟨.Name x px,iter,ifs,0⟩] scope pos) 0 (.ref it) (.ref s2.heap.objs.size) (compEnvC scope (Fb (s3.heap.objs.size+1) scope.names cl) s3.heap.objs.size X.env))
    (compPost (model X.prog X.w) X.A X.xe none (EP X pins σ Q) (.ref s2.heap.objs.size) s3.heap.objs.size) s5:=by
  rintro s5 rfl
  refine bG (λn s'=>∃i o H',Inv X' [] (o::La σ js) H' s'/\tn i s'.heap/\(∀b∈fp,H' b=none)/\W i n H') ?_ m0
   ⟨0,none,_,I4 _,st4,λb hb=>(f3 b hb).1,w0⟩
  (intro n s6 q_; obtain ⟨i,o,H6,I6,st6,fr6,w6⟩ := q_)
  rcases turn i n H6 w6 with ⟨stop,qn⟩ | ⟨go,step⟩
  ·have hd:=T.done X' eP eW eK eC i [] s6 _ H6 (λ_ _=>False) I6 (stat fr6) st6 stop
   rw[eA] at hd
   refine Hn hd λr s7 q0_ => ?_
   obtain ⟨hr,I7⟩ := q0_
   subst hr
   obtain ⟨m7,hn7,fin7⟩:=mR hX' I3 f3 I7
   exact ⟨m7,hn7,λh8 hs8=>⟨.ref s2.heap.objs.size,H6,fin7 h8 hs8,rfl,qn⟩⟩
  ·have hit:=T.item X' eP eW eK eC i [] s6 _ H6 (λ_ _=>False) I6 (stat fr6) st6 go
   rw[eA] at hit
   refine Hn hit λr s7 q0_ => ?_
   obtain ⟨u,hr,h7⟩ := q0_
   subst hr
   refine Hn h7 λ_ s8 q0_ => ?_
   obtain ⟨y,H8,I8,r8,y8,st8,fr8⟩ := q0_
   have I8':=I8.pinned (stat fr8) (T.obj _ _ st8)
   obtain ⟨N1,N2,hN1,hN2,hst⟩:=step y H8 y8
   have again:∀{H9:Hp} {s9:Al} {m':Nat},Inv X' ([]++Vz fp s8.heap) (some y::La σ js) H9 s9->m'<n->W (i+1) m' H9->∃m,m<n/\∃i o H',Inv X' [] (o::La σ js) H' s9/\tn i s9.heap/\(∀b∈fp,H' b=none)/\W i m H':=λ{H9 s9 m'} I9 hm w9=>by
    refine ⟨m',hm,i+1,some y,H9,I9.unpinned,T.keep _ _ _ st8 λb hb o e=>(I9.pin (b,o) (Ao _ (Ao _ (Lu hb e)))).1,λb hb=>?_,w9⟩
    obtain ⟨o,e,_⟩:=T.obj _ _ st8 b hb
    exact (I9.pin (b,o) (Ao _ (Ao _ (Lu hb e)))).2.1
   subst hX'
   refine Hn (Yx (i:=0) (x:=x) (pos:=px) C.nd rfl (qK C.own) (yT C.own) _ s8 _ H8 y u (λσ' H'=>σ'=some y::La σ js/\H'=H8) I8' r8 ⟨rfl,rfl⟩) λ_ s9 q0_ => ?_
   obtain ⟨σ9,H9,I9,e9,e9'⟩ := q0_
   subst e9 e9'
   refine Hn (ht fp s3 _ _ s9 _ _ _ I9 hst) λok s10 q0_ => ?_
   obtain ⟨H10,I10,q10⟩ := q0_
   cases ok with
   | false =>
    rw[if_neg Gc] at q10 ⊢
    obtain ⟨m',hm,w10⟩:=hN1 _ q10
    exact again I10 hm w10
   | true =>
    rw[if_pos rfl] at q10 ⊢
    refine Hn (he fp s3 _ _ s10 _ _ _ I10 q10) λz s11 q0_ => ?_
    obtain ⟨vz,H11,I11,r11,q11⟩ := q0_
    obtain ⟨acc,ha,hz,m',hm,w11⟩:=hN2 _ _ q11
    refine Hn (Sg _ s11 _ H11 (.ref s2.heap.objs.size) [vz] (.ref s2.heap.objs.size) [z] (λ_ H'=>H'=upd H11 s2.heap.objs.size (.lst (acc++[vz]))) I11 rfl (.cons r11 .nil) ⟨_,acc,vz,rfl,rfl,ha,hz,rfl⟩) λ_ s12 q0_ => ?_
    obtain ⟨_,H12,I12,_,e12⟩ := q0_
    subst e12
    exact again I12 hm w11
 exact j5 (loop _ rfl) (T.self X.A 0 _ _ _ st4 (loop _ rfl))
end
theorem Ff{H:Hp}{p:Addr}(h:H p=none)(o:HO):Same H (upd H p o):=λb u q=>by rw[En (Fm q h)]; exact q
theorem Sh{α:Type}{xs:List α}{i:Nat}{x:α}(h:xs[i]? = some x):xs.take (i+1)=xs.take i++[x]:=by
 rw[List.take_succ,h]; rfl
mutual
inductive RdV (K:PySem.W.Frag) (H:Hp):V->Ac->Prop
 | non:RdV K H .non .none
 | bl (b:Bool):RdV K H (.bl b) (.bool b)
 | int (i:Int):RdV K H (.int i) (.int i)
 | str (x:Str):RdV K H (.str x) (.str x)
 | lst {a:Addr} {xs:List V} {ds:List Ac}:Tq K H a xs->RdVs K H xs ds->RdV K H (.ref a) (.list ds)
 | tup {a:Addr} {xs:List V} {ds:List Ac}:Uj K H a xs->RdVs K H xs ds->RdV K H (.ref a) (.tuple ds)
inductive RdVs (K:PySem.W.Frag) (H:Hp):List V->List Ac->Prop
 | nil:RdVs K H [] []
 | cons {x:V} {d:Ac} {xs:List V} {ds:List Ac}:RdV K H x d->RdVs K H xs ds->RdVs K H (x::xs) (d::ds)
end
section
variable{X:Cx}{pins:List (Addr×Obj)}{σ:L2.St}{H H':Hp}{s:Al}{K:PySem.W.Frag}
mutual
theorem RdV.reads(I:Inv X pins σ H s):∀{v:V} {d:Ac} {u:Value},RdV X.K H v d->RelV v u->∃as,Reads s.heap u d as
 | _,_,_,.non,r=>by cases r; exact ⟨_,.none⟩
 | _,_,_,.bl b,r=>by cases r; exact ⟨_,.bool b⟩
 | _,_,_,.int i,r=>by obtain ⟨t,rfl⟩:=r; exact ⟨_,.int i t⟩
 | _,_,_,.str x,r=>by obtain ⟨t,rfl⟩:=r; exact ⟨_,.str x t⟩
 | _,_,_,.lst h hs,r=>by
  cases r
  obtain ⟨its,rv,⟨o,n,e,hc,_,hd⟩,_⟩:=I.list h
  obtain ⟨as,ra⟩:=RdVs.reads I hs rv
  exact ⟨_,.list e hc hd (by simpa using ra)⟩
 | _,_,_,.tup h hs,r=>by
  cases r
  obtain ⟨its,rv,⟨o,e,hc,n,hd⟩,_⟩:=I.tuple h
  obtain ⟨as,ra⟩:=RdVs.reads I hs rv
  exact ⟨_,.tuple e hc hd (by simpa using ra)⟩
theorem RdVs.reads(I:Inv X pins σ H s):∀{vs:List V} {ds:List Ac} {us:List Value},RdVs X.K H vs ds->Fe vs us->∃as,ReadsAll s.heap us ds as
 | _,_,_,.nil,r=>by cases r; exact ⟨_,.nil⟩
 | _,_,_,.cons h hs,r=>by
  cases r with
  | cons r rs =>
   obtain ⟨as,ra⟩:=RdV.reads I h r
   obtain ⟨bs,rb⟩:=RdVs.reads I hs rs
   exact ⟨_,.cons ra rb⟩
end
mutual
theorem RdV.noDict:∀{v:V} {d:Ac},RdV K H v d->d.hasDict=false
 | _,_,.non=>by simp only[Lr]
 | _,_,.bl b=>by simp only[Lr]
 | _,_,.int i=>by simp only[Lr]
 | _,_,.str x=>by simp only[Lr]
 | _,_,.lst h hs=>by simp only[Lr]; exact RdVs.noDict hs
 | _,_,.tup h hs=>by simp only[Lr]; exact RdVs.noDict hs
theorem RdVs.noDict:∀{vs:List V} {ds:List Ac},RdVs K H vs ds->Ww ds=false
 | _,_,.nil=>by simp only[Ww]
 | _,_,.cons h hs=>by simp only[Ww,RdV.noDict h,RdVs.noDict hs,Bool.or_self]
end
end
mutual
def Kf(b:Nat):Ac->Prop
 | .none=>True
 | .bool _=>True
 | .int i=>i.natAbs<10 ^ b
 | .str x=>(reprText x).length<=b
 | .list xs=>Kq b xs
 | .tuple xs=>Kq b xs
 | .dict _=>False
def Kq(b:Nat):List Ac->Prop
 | []=>True
 | x::xs=>Kf b x/\Kq b xs
end
mutual
def Gi:Ac->Nat
 | .list xs=>Gu xs+1
 | .tuple xs=>Gu xs+1
 | _=>1
def Gu:List Ac->Nat
 | []=>0
 | x::xs=>Gi x+Gu xs
end
theorem lC{b:Nat}:∀{xs:List Ac},Kq b xs↔∀x∈xs,Kf b x
 | []=>by simp [Kq]
 | x::xs=>by simp only[Kq,Ai,forall_eq_or_imp,lC (xs:=xs)]
theorem Mm{m:Nat}:∀{xs:List Ac},(∀x∈xs,Gi x<=m)->Gu xs<=m * xs.length
 | [],_=>by simp [Gu]
 | x::xs,h=>by
  have h1:=h x (Ab ..)
  have h2:=Mm (xs:=xs) λy hy=>h y (Ah _ hy)
  simp only[Gu,Be,Qp,Nat.mul_one]
  omega
theorem oR(ns:List Int):Gu (ns.map Ax)=ns.length:=by
 induction ns with
 | nil=>rfl
 | cons n ns ih=>simp only[Bb,Gu,Gi,ih,Be]; omega
theorem nA(ns:List Int):Bc (ns.map Ax)=0:=by
 induction ns with
 | nil=>rfl
 | cons n ns ih=>simp only[Bb,Bc,Bx,ih,Nat.max_self]
theorem Xi{m:Nat}:∀{xs:List Ac},(∀x∈xs,x.depth<=m)->Bc xs<=m
 | [],_=>by simp [Bc]
 | x::xs,h=>by
  have h1:=h x (Ab ..)
  have h2:=Xi (xs:=xs) λy hy=>h y (Ah _ hy)
  simp only[Bc]
  omega
theorem lU(ts:List Str):(listText ts).length<=piled ts+2:=by
 cases ts with
 | nil=>rw[listText_nil]; decide
 | cons t r =>
  have h:=textFrom_length_pos r 1 (("[" : Str)++(if (0:Nat) > 0 then ", " else "" : String)++t) (Ks 0)
  have e:((("[" : Str)++(if (0:Nat) > 0 then ", " else "" : String)++t)).length=1+t.length:=by
   rw[Sy,Sy]; rfl
  have hX:(listText (t::r)).length=(textFrom 0 "[" (t::r)).length+1:=by
   show (textFrom 0 "[" (t::r) ++ "]").length=_
   rw[Sy]; rfl
  have hY:(textFrom 0 "[" (t::r)).length=(textFrom 1 (("[" : Str)++(if (0:Nat) > 0 then ", " else "" : String)++t) r).length:=rfl
  rw[hX,hY,h,e,piled_cons]; omega
theorem fY(ts:List Str):(tupleText ts).length<=piled ts+3:=by
 unfold tupleText
 rw[Sy,Sy]
 have e1:((("(" : String):Str)).length=1:=rfl
 have e3:(((if ts.length == 1 then ",)" else ")" : String):Str)).length<=2:=by split <;> decide
 rw[e1]
 by_cases h:ts=[]
 ·subst h
  have : (Str.join ", " []).length=0:=rfl
  omega
 ·have:=join_length_add ts h
  omega
mutual
theorem lJ{b:Nat}:∀{d:Ac},Kf b d->d.shown.length+4<=(b+12) * Gi d
 | .none,_=>by simp only[Oq,Gi]; show 4+4<=_; omega
 | .bool c,_=>by
  simp only[Oq,Gi]
  cases c
  ·show 5+4<=_; omega
  ·show 4+4<=_; omega
 | .int i,h=>by
  simp only[Oq,Gi]
  have h':i.natAbs<10 ^ b:=by simpa only [Kf] using h
  have h2:i.natAbs<10 ^ (b+1):=Ca h' (Hv (by decide) (by omega))
  have h3:(Gz (toString i)).length<=b+2:=by
   have h4:=int_text_length_le10 (a:=i) (k:=b+1) (by omega) h2
   have h5:(Gz (toString i)).length=(toString i).length:=PySem.ofString_length _
   omega
  have h6:((toString i:String):Str).length=(Gz (toString i)).length:=rfl
  omega
 | .str x,h=>by
  simp only[Oq,Gi]
  have h':(reprText x).length<=b:=by simpa only [Kf] using h
  omega
 | .list xs,h=>by
  simp only[Oq,Gi]
  have h1:=Ro (b:=b) (xs:=xs) (by simpa only [Kf] using h)
  have h2:=lU (Nr xs)
  rw[Qp]
  omega
 | .tuple xs,h=>by
  simp only[Oq,Gi]
  have h1:=Ro (b:=b) (xs:=xs) (by simpa only [Kf] using h)
  have h2:=fY (Nr xs)
  rw[Qp]
  omega
 | .dict kvs,h=>by simp only[Kf] at h
theorem Ro{b:Nat}:∀{xs:List Ac},Kq b xs->piled (Nr xs)<=(b+12) * Gu xs
 | [],_=>by simp only[Nr,Gu,piled_nil]; omega
 | x::xs,h=>by
  simp only[Kq] at h
  have h1:=lJ h.1
  have h2:=Ro h.2
  simp only[Nr,Gu,piled_cons]
  rw[Qp]
  omega
end
theorem tR{b i:Nat}(hb:b<=400)(h:i<10 ^ b):i.log2<1920:=by
 have h1:i<2 ^ 1920:=Ca h (By (Hv (by decide) hb) (by decide +kernel))
 by_cases z:i=0
 ·subst z; decide
 ·exact (Nat.log2_lt z).mpr h1
mutual
theorem Xf{b:Nat}(hb:b<=400):∀{d:Ac},Kf b d->d.showable=true
 | .none,_=>by simp only[Jb]
 | .bool c,_=>by simp only[Jb]
 | .int i,h=>by
  simp only[Jb]
  exact decide_eq_true (tR hb (by simpa only [Kf] using h))
 | .str x,h=>by simp only[Jb]
 | .list xs,h=>by simp only[Jb]; exact showableAll_of hb (by simpa only [Kf] using h)
 | .tuple xs,h=>by simp only[Jb]; exact showableAll_of hb (by simpa only [Kf] using h)
 | .dict kvs,h=>by simp only[Kf] at h
theorem showableAll_of{b:Nat}(hb:b<=400):∀{xs:List Ac},Kq b xs->Vs xs=true
 | [],_=>by simp only[Vs]
 | x::xs,h=>by
  simp only[Kq] at h
  simp only[Vs,Xf hb h.1,showableAll_of hb h.2,Bool.and_self]
end
def oD:Ac->Str
 | .str x=>x
 | d=>d.shown
structure Tells(K:PySem.W.Frag)(H:Hp)(x:V)(d:Ac):Prop where
 rd:RdV K H x d
 fits:∃b,b<=400/\Kf b d/\(b+12) * Gi d<=Bd
 depth:d.depth<=90
def Y8(K:PySem.W.Frag):List V->Hp->VK->Prop:=λxs H Q=>∃x d,xs=[x]/\Tells K H x d/\Q (.str (oD d)) H
theorem dO{X:Cx}(hg:X.A.guards=some [])(hu:X.A.units+100<cLine):Jz X (.type "str") (Y8 X.K):=by
 intro pins s σ H xs us Q I r h
 obtain ⟨x,d,rfl,⟨hr,⟨b,hb,hf,hz⟩,hd⟩,q⟩:=h
 obtain ⟨u,rfl,ru⟩:=vals1 r
 have hs:=Xf hb hf
 have hl:d.shown.length<=Bd:=by have:=lJ hf; omega
 have hnd:=hr.noDict
 obtain ⟨as,rs⟩:=hr.reads I ru
 cases hr with
 | non=>cases ru; exact PySem.P.str_of_none ⟨.str _,H,I.tok _,⟨_,rfl⟩,q⟩
 | bl c=>cases ru; exact PySem.P.str_of_bool ⟨.str _,H,I.tok _,⟨_,rfl⟩,by cases c <;> exact q⟩
 | int i =>
  obtain ⟨t,rfl⟩:=ru
  exact PySem.P.str_of_int (by simpa [Jb] using hs) ⟨.str _,H,I.tok _,⟨_,rfl⟩,q⟩
 | str y =>
  obtain ⟨t,rfl⟩:=ru
  exact PySem.P.str_of_str ⟨.str _,H,I,⟨_,rfl⟩,q⟩
 | lst h1 h2 =>
  cases ru
  exact str_of_reads rs hs (λz=>by rw[hnd] at z; cases z) hg (by omega) (λ_ _ e=>e) (λh' u tk hk=>⟨.str _,H,I.kept hk,⟨_,rfl⟩,q⟩) hl
 | tup h1 h2 =>
  cases ru
  exact str_of_reads rs hs (λz=>by rw[hnd] at z; cases z) hg (by omega) (λ_ _ e=>e) (λh' u tk hk=>⟨.str _,H,I.kept hk,⟨_,rfl⟩,q⟩) hl
theorem Fe.at'{xs:List V}{us:List Value}(r:Fe xs us){j:Nat}(h:j<us.length):∃x,xs[j]? = some x/\RelV x us[j]:=by
 have hl:=r.length
 have hj:j<xs.length:=by omega
 obtain ⟨u,hu,ru⟩:=r.get (i:=j) (x:=xs[j]) (by simp [hj])
 rw[Bf h] at hu
 cases hu
 exact ⟨xs[j],by simp [hj],ru⟩
section
variable{X:Cx}{pins:List (Addr×Obj)}{σ:L2.St}{H:Hp}{s:Al}{A:Dj}
theorem Sk(A:Dj):A.in1.units<=A.units+1:=by
 first | exact An _ | (simp [Around.in1]; done) | (unfold Around.in1; simp)
theorem jJ:Jz X (.builtin "isinstance") (λxs H Q=>∃x n t b,xs=[x,.ty n]/\TyOf X.K H x t/\PySem.W.kitOne X.K t (.type n)=some b/\Q (.bl b) H):=by
 intro pins s σ H xs us Q I r h
 obtain ⟨x,n,t,b,rfl,ty,e,q⟩:=h
 obtain ⟨u,v,rfl,ru,rv⟩:=vals2 r
 cases rv
 exact tO I ru ty e λtk=>⟨.bl b,H,I.tok _,rfl,q⟩
theorem wO(hc:X.calm=true):Jz X (.builtin "all") (λxs H Q=>∃(p:Addr) (bs:List Bool),xs=[.ref p]/\Tq X.K H p (bs.map V.bl)/\Q (.bl (bs.all id)) H):=by
 intro pins s σ H xs us Q I r h
 obtain ⟨p,bs,rfl,hp,q⟩:=h
 obtain ⟨u,rfl,ru⟩:=vals1 r
 cases ru
 obtain ⟨its,rv,pl,_⟩:=I.list hp
 have hlen:its.toArray.size=bs.length:=by
  have:=rv.length
  rw[Ad] at this
  rw[Aq]; omega
 refine call_all_walk (fE pl.isList ?_)
 have hd:X.A.in1.handled=none:=I.ok.hd hc
 have ne:p≠s.heap.objs.size:=Cs (let ⟨o,q,_⟩:=pl.isList; Br q)
 refine ⟨s.heap.objs.size,_,_,_,_,_,λi=>bs.getD i false,rfl,Walks.list hd s.heap.objs.size p ne its.toArray,⟨⟨_,Bl _ rfl,rfl,rfl⟩,pl.isList.push _⟩,?_,?_⟩
 ·intro i v s' Q' E' hv hq
  have hv':its[i]? = some v:=by simpa using hv
  have hi:i<its.length:=(Av.mp hv').1
  obtain ⟨x,e1,q1⟩:=Fe.at' rv hi
  rw[Bf hi] at hv'
  have hv'':its[i]=v:=Ce hv'
  rw[hv''] at q1
  rw[Cc] at e1
  cases eb:bs[i]? with
  | none=>rw[eb] at e1; cases e1
  | some b =>
   rw[eb] at e1
   cases e1
   cases q1
   have : bs.getD i false=b:=by simp [Kj,eb]
   have hq':Q' (bs.getD i false) s':=hq
   rw[this] at hq'
   exact Ie hq'
 ·intro h' tk hk
  have e:((Bh its.toArray.size).all λi=>bs.getD i false)=bs.all id:=by
   rw[hlen]
   have : bs=(Bh bs.length).map (λj=>bs.getD j false):=(range_getD bs false).symm
   conv=>rhs; rw[this]
   rw[List.all_map]
   rfl
  rw[e]
  refine ⟨.bl _,H,I.kept (h':=h') (t':=tk) (λb o qq=>hk b o ?_ (Am _ qq)),rfl,q⟩
  intro z
  have e2:b=s.heap.objs.size:=by simpa using z
  have e3:=Br qq
  rw[e2] at e3
  exact absurd e3 (Hb _)
end
section
variable{prog:Bs}{w:World}{A:Dj}{E:Value->Al->Prop}{s:Al}
theorem Tf{t sl:Addr}{items:Array Value}{vl vu:Value}{lo hi:Option Int}{Q:Value->Al->Prop}(ht:IsTup s.heap t items)(hs:s.heap.IsSliceOf sl vl vu .none)(pl:Xr vl lo)(pu:Xr vu hi)(hw:HT.sIx items.size 0 lo=0/\HT.sIx items.size items.size hi=items.size)(h:Q (.ref t) s):wpAny (model prog w) A (Ow (.ref t) (.ref sl)) Q E s:=by
 obtain ⟨os,hos,hcs,hds⟩:=id hs
 have hTs:s.TypeIs (.ref sl) "slice" := ⟨os,hos,hcs⟩
 unfold Ow
 try with_reducible refine Dz ?_
 first | refine Ae (Ak ?_) | skip
 refine Ae (Rv ht.typeIs (by decide) ?_)
 refine Ae (Gw (name:=Gz "__getitem__") ht.typeIs Ct
  (Gf Ct ht.typeIs Yz ?_ (bZ _ _)))
 show wpAny _ _ (Mt (.ref t) >>= _) _ _ s
 refine Ae (tupleItemsOf_ ht ?_)
 refine Ae (Na hTs ?_)
 rw[if_pos (by decide)]
 refine Ae (HT.sliceApplied_gen hs pl pu ?_)
 rw[hw.1,hw.2]
 have hyes:(((0:Nat):Int) == 0 && (1:Int) == 1 && (items.size - 0) == items.size)=true:=by simp
 show wpAny _ _ (if (((0:Nat):Int) == 0 && (1:Int) == 1 && (items.size - 0) == items.size)=true then _ else _) _ _ s
 rw[if_pos hyes]
 have hex:∀{R:Bool->Al->Prop},R true s->wpAny (model prog w) A.in1 (Vu (.ref t)) R E s:=λ{R} hR=>by
  unfold Vu
  refine Ae (Na ht.typeIs (Ak ?_))
  rw[beq_self_eq_true]
  exact hR
 refine Ae (hex ?_)
 rw[if_pos rfl]
 exact Ae (wpAny_rule (Ak ⟨_,rfl,Ak h⟩))
end
mutual
def Dv:Ac->Ac->Bool
 | .none,.none=>true
 | .bool a,.bool b=>a == b
 | .bool a,.int b=>(if a then 1 else 0) == b
 | .int a,.bool b=>a == (if b then 1 else 0)
 | .int a,.int b=>a == b
 | .str a,.str b=>a == b
 | .list xs,.list ys=>Oc xs ys
 | .tuple xs,.tuple ys=>Oc xs ys
 | _,_=>false
def Oc:List Ac->List Ac->Bool
 | [],[]=>true
 | x::xs,y::ys=>Dv x y && Oc xs ys
 | _,_=>false
end
theorem Ol:∀ds es:List Ac,(((Bh (min ds.length es.length)).all λj=>Dv (ds.getD j .none) (es.getD j .none)) && ds.length == es.length)=Oc ds es
 | [],[]=>by simp [Oc]
 | [],_::_=>by simp [Oc]
 | _::_,[]=>by simp [Oc]
 | d::ds,e::es=>by
  have ih:=Ol ds es
  rw[Oc,<- ih]
  have h1:min (d::ds).length (e::es).length=min ds.length es.length+1:=by simp only[Be]; omega
  rw[h1,List.range_succ_eq_map,List.all_cons,List.all_map]
  have h2:((d::ds).length == (e::es).length)=(ds.length == es.length):=by
   rw[Bool.eq_iff_iff]; simp
  rw[h2,Bool.and_assoc]
  rfl
section
variable{X:Cx}{pins:List (Addr×Obj)}{σ:L2.St}{H:Hp}{s:Al}{K:PySem.W.Frag}
mutual
theorem RdV.eqD_self:∀{v:V} {d:Ac},RdV K H v d->Dv d d=true
 | _,_,.non=>by simp [Dv]
 | _,_,.bl b=>by simp [Dv]
 | _,_,.int i=>by simp [Dv]
 | _,_,.str x=>by simp [Dv]
 | _,_,.lst _ h=>by rw[Dv]; exact RdVs.eqDs_self h
 | _,_,.tup _ h=>by rw[Dv]; exact RdVs.eqDs_self h
theorem RdVs.eqDs_self:∀{vs:List V} {ds:List Ac},RdVs K H vs ds->Oc ds ds=true
 | _,_,.nil=>by simp [Oc]
 | _,_,.cons h t=>by rw[Oc,RdV.eqD_self h,RdVs.eqDs_self t]; rfl
end
theorem kC(I:Inv X pins σ H s){a:Addr}{xs ys:List V}(h1:Tq X.K H a xs)(h2:Uj X.K H a ys):False:=by
 obtain ⟨us,_,p1,_⟩:=I.list h1
 obtain ⟨vs,_,p2,_⟩:=I.tuple h2
 exact SeqAt.ne_of_list_tuple p1.isList p2 rfl
mutual
theorem RdV.det(I:Inv X pins σ H s):∀{v:V} {d e:Ac},RdV X.K H v d->RdV X.K H v e->d=e
 | _,_,_,.non,h=>by cases h; rfl
 | _,_,_,.bl b,h=>by cases h; rfl
 | _,_,_,.int i,h=>by cases h; rfl
 | _,_,_,.str x,h=>by cases h; rfl
 | _,_,_,.lst q r,h=>by
  cases h with
  | lst q' r' =>
   have e:=I.list_inj q q'
   subst e
   rw[RdVs.det I r r']
  | tup q' r'=>exact (kC I q q').elim
 | _,_,_,.tup q r,h=>by
  cases h with
  | lst q' r'=>exact (kC I q' q).elim
  | tup q' r' =>
   have e:=I.tuple_inj q q'
   subst e
   rw[RdVs.det I r r']
theorem RdVs.det(I:Inv X pins σ H s):∀{vs:List V} {ds es:List Ac},RdVs X.K H vs ds->RdVs X.K H vs es->ds=es
 | _,_,_,.nil,h=>by cases h; rfl
 | _,_,_,.cons r t,h=>by
  cases h with
  | cons r' t'=>rw[RdV.det I r r',RdVs.det I t t']
end
theorem RdVs.length:∀{vs:List V} {ds:List Ac},RdVs K H vs ds->vs.length=ds.length
 | _,_,.nil=>rfl
 | _,_,.cons _ t=>by rw[Be,Be,RdVs.length t]
theorem Wo{A:Dj}{n:Nat}(h:A.units+(n+1)<cLine):A.in1.units+n<cLine:=by
 have:=Sk A
 omega
theorem lM{A:Dj}{a b:Addr}{us vs:List Value}{ds es:List Ac}(p1:PlainL s.heap a us.toArray)(p2:PlainL s.heap b vs.toArray)(l1:us.length=ds.length)(l2:vs.length=es.length)(hu:A.units<cLine)(he:∀j (h1:j<us.length) (h2:j<vs.length),Pg A.in1 s us[j] vs[j] (Dv (ds.getD j .none) (es.getD j .none))):SeqAt.RcAt A s (.ref a) (.ref b) (Oc ds es):=by
 rw[<- Ol]
 by_cases hl:ds.length=es.length
 ·have hs:us.toArray.size=vs.toArray.size:=by rw[Aq,Aq,l1,l2,hl]
  have h:=SeqAt.RcAt.lists (A:=A) (e:=λj=>Dv (ds.getD j .none) (es.getD j .none)) p1.isList p2.isList hs hu (λj h1 h2=>by simpa using he j (by simpa using h1) (by simpa using h2))
  rw[Aq,l1] at h
  rw[hl,Nat.min_self,beq_self_eq_true,Bool.and_true,<- hl]
  exact h
 ·have hs:(us.toArray.size != vs.toArray.size)=true:=by rw[Aq,Aq,l1,l2]; simpa using hl
  have h:=SeqAt.RcAt.lists_lengths (A:=A) p1.isList p2.isList hs hu
  have e0:(ds.length == es.length)=false:=by simpa using hl
  rw[e0,Pm]
  exact h
theorem dQ{A:Dj}{a b:Addr}{us vs:List Value}{ds es:List Ac}(p1:IsTup s.heap a us.toArray)(p2:IsTup s.heap b vs.toArray)(l1:us.length=ds.length)(l2:vs.length=es.length)(hu:A.units<cLine)(he:∀j (h1:j<us.length) (h2:j<vs.length),Pg A.in1 s us[j] vs[j] (Dv (ds.getD j .none) (es.getD j .none))):SeqAt.RcAt A s (.ref a) (.ref b) (Oc ds es):=by
 rw[<- Ol]
 have h:=SeqAt.RcAt.tuples (A:=A) (e:=λj=>Dv (ds.getD j .none) (es.getD j .none)) (show s.heap.IsTuple a us.toArray from p1) (show s.heap.IsTuple b vs.toArray from p2) hu (λj h1 h2=>by simpa using he j (by simpa using h1) (by simpa using h2))
 rw[Aq,Aq,l1,l2] at h
 exact h
mutual
theorem yN(I:Inv X pins σ H s):∀{A:Dj} {x y:V} {d e:Ac} {u v:Value},RdV X.K H x d->RdV X.K H y e->RelV x u->RelV y v->A.units+d.depth<cLine->Pg A s u v (Dv d e)
 | A,_,_,_,_,_,_,.non,h,ru,rv,hu=>by
  cases ru
  have hu':A.units<cLine:=by omega
  cases h with
  | non=>cases rv; rw[Dv]; exact SeqAt.EqAt.same _
  | bl b=>cases rv; rw[Dv]; exact SeqAt.EqAt.none_bool b; all_goals simp
  | int b=>obtain ⟨t,rfl⟩:=rv; rw[Dv]; exact SeqAt.EqAt.none_int b t; all_goals simp
  | str b=>obtain ⟨t,rfl⟩:=rv; rw[Dv]; exact SeqAt.EqAt.none_str b t; all_goals simp
  | lst q r=>cases rv; obtain ⟨us,_,p,_⟩:=I.list q; rw[Dv]; exact SeqAt.EqAt.none_list p.isList hu'; all_goals simp
  | tup q r=>cases rv; obtain ⟨us,_,p,_⟩:=I.tuple q; rw[Dv]; exact SeqAt.EqAt.none_tuple p hu'; all_goals simp
 | A,_,_,_,_,_,_,.bl a,h,ru,rv,hu=>by
  cases ru
  have hu':A.units<cLine:=by omega
  cases h with
  | non=>cases rv; rw[Dv]; exact SeqAt.EqAt.bool_none a; all_goals simp
  | bl b=>cases rv; rw[Dv]; exact SeqAt.EqAt.bool_bool a b
  | int b=>obtain ⟨t,rfl⟩:=rv; rw[Dv]; exact SeqAt.EqAt.bool_int a b t
  | str b=>obtain ⟨t,rfl⟩:=rv; rw[Dv]; exact SeqAt.EqAt.bool_str a b t; all_goals simp
  | lst q r=>cases rv; obtain ⟨us,_,p,_⟩:=I.list q; rw[Dv]; exact SeqAt.EqAt.bool_list a p.isList hu'; all_goals simp
  | tup q r=>cases rv; obtain ⟨us,_,p,_⟩:=I.tuple q; rw[Dv]; exact SeqAt.EqAt.bool_tuple a p hu'; all_goals simp
 | A,_,_,_,_,_,_,.int a,h,ru,rv,hu=>by
  obtain ⟨t',rfl⟩:=ru
  have hu':A.units<cLine:=by omega
  cases h with
  | non=>cases rv; rw[Dv]; exact SeqAt.EqAt.int_none a t'; all_goals simp
  | bl b=>cases rv; rw[Dv]; exact SeqAt.EqAt.int_bool a t' b
  | int b=>obtain ⟨t,rfl⟩:=rv; rw[Dv]; exact SeqAt.EqAt.int_int a t' b t
  | str b=>obtain ⟨t,rfl⟩:=rv; rw[Dv]; exact SeqAt.EqAt.int_str a t' b t; all_goals simp
  | lst q r=>cases rv; obtain ⟨us,_,p,_⟩:=I.list q; rw[Dv]; exact SeqAt.EqAt.int_list a t' p.isList hu'; all_goals simp
  | tup q r=>cases rv; obtain ⟨us,_,p,_⟩:=I.tuple q; rw[Dv]; exact SeqAt.EqAt.int_tuple a t' p hu'; all_goals simp
 | A,_,_,_,_,_,_,.str a,h,ru,rv,hu=>by
  obtain ⟨t',rfl⟩:=ru
  have hu':A.units<cLine:=by omega
  cases h with
  | non=>cases rv; rw[Dv]; exact SeqAt.EqAt.str_none a t'; all_goals simp
  | bl b=>cases rv; rw[Dv]; exact SeqAt.EqAt.str_bool a t' b; all_goals simp
  | int b=>obtain ⟨t,rfl⟩:=rv; rw[Dv]; exact SeqAt.EqAt.str_int a t' b t; all_goals simp
  | str b=>obtain ⟨t,rfl⟩:=rv; rw[Dv]; exact SeqAt.EqAt.str_str a t' b t
  | lst q r=>cases rv; obtain ⟨us,_,p,_⟩:=I.list q; rw[Dv]; exact SeqAt.EqAt.str_list a t' p.isList hu'; all_goals simp
  | tup q r=>cases rv; obtain ⟨us,_,p,_⟩:=I.tuple q; rw[Dv]; exact SeqAt.EqAt.str_tuple a t' p hu'; all_goals simp
 | A,_,_,_,_,_,_,@RdV.lst _ _ a xs ds q r,h,ru,rv,hu=>by
  cases ru
  have hu':A.units<cLine:=by omega
  obtain ⟨us,r1,p,_⟩:=I.list q
  cases h with
  | non=>cases rv; rw[Dv]; exact SeqAt.EqAt.list_none p.isList hu'; all_goals simp
  | bl b=>cases rv; rw[Dv]; exact SeqAt.EqAt.list_bool b p.isList hu'; all_goals simp
  | int b=>obtain ⟨t,rfl⟩:=rv; rw[Dv]; exact SeqAt.EqAt.list_int b t p.isList hu'; all_goals simp
  | str b=>obtain ⟨t,rfl⟩:=rv; rw[Dv]; exact SeqAt.EqAt.list_str b t p.isList hu'; all_goals simp
  | @lst b ys es q2 rr2 =>
   cases rv
   obtain ⟨vs,r2,p2,_⟩:=I.list q2
   rw[Dv]
   by_cases hab:a=b
   ·subst hab
    have e:=I.list_inj q q2
    subst e
    rw[<- RdVs.det I r rr2,RdVs.eqDs_self r]
    exact SeqAt.EqAt.same _
   ·refine SeqAt.EqAt.of_refs hab (lM p p2 (r1.length.symm.trans r.length) (r2.length.symm.trans rr2.length) hu' λj h1 h2=>?_)
    exact Qe I r rr2 r1 r2 (Wo (by simpa only [Bx] using hu)) j h1 h2
  | tup q2 rr2=>cases rv; obtain ⟨vs,_,p2,_⟩:=I.tuple q2; rw[Dv]; exact SeqAt.EqAt.list_tuple p.isList p2 hu'; all_goals simp
 | A,_,_,_,_,_,_,@RdV.tup _ _ a xs ds q r,h,ru,rv,hu=>by
  cases ru
  have hu':A.units<cLine:=by omega
  obtain ⟨us,r1,p,_⟩:=I.tuple q
  cases h with
  | non=>cases rv; rw[Dv]; exact SeqAt.EqAt.tuple_none p hu'; all_goals simp
  | bl b=>cases rv; rw[Dv]; exact SeqAt.EqAt.tuple_bool b p hu'; all_goals simp
  | int b=>obtain ⟨t,rfl⟩:=rv; rw[Dv]; exact SeqAt.EqAt.tuple_int b t p hu'; all_goals simp
  | str b=>obtain ⟨t,rfl⟩:=rv; rw[Dv]; exact SeqAt.EqAt.tuple_str b t p hu'; all_goals simp
  | lst q2 rr2=>cases rv; obtain ⟨vs,_,p2,_⟩:=I.list q2; rw[Dv]; exact SeqAt.EqAt.tuple_list p p2.isList hu'; all_goals simp
  | @tup b ys es q2 rr2 =>
   cases rv
   obtain ⟨vs,r2,p2,_⟩:=I.tuple q2
   rw[Dv]
   by_cases hab:a=b
   ·subst hab
    have e:=I.tuple_inj q q2
    subst e
    rw[<- RdVs.det I r rr2,RdVs.eqDs_self r]
    exact SeqAt.EqAt.same _
   ·refine SeqAt.EqAt.of_refs hab (dQ p p2 (r1.length.symm.trans r.length) (r2.length.symm.trans rr2.length) hu' λj h1 h2=>?_)
    exact Qe I r rr2 r1 r2 (Wo (by simpa only [Bx] using hu)) j h1 h2
theorem Qe(I:Inv X pins σ H s):∀{A:Dj} {xs ys:List V} {ds es:List Ac} {us vs:List Value},RdVs X.K H xs ds->RdVs X.K H ys es->Fe xs us->Fe ys vs->A.units+Bc ds<cLine->∀j (h1:j<us.length) (h2:j<vs.length),Pg A s us[j] vs[j] (Dv (ds.getD j .none) (es.getD j .none))
 | _,_,_,_,_,_,_,.nil,_,r1,_,_=>λj h1 h2=>by cases r1; exact absurd h1 (Dw _)
 | A,_,_,_,_,_,_,@RdVs.cons _ _ x d xs ds r t,h,r1,r2,hu=>λj h1 h2=>by
  cases h with
  | nil=>cases r2; exact absurd h2 (Dw _)
  | cons r' t' =>
   cases r1 with
   | cons ra ta =>
    cases r2 with
    | cons rb tb =>
     have hm:A.units+d.depth<cLine/\A.units+Bc ds<cLine:=by
      simp only[Bc] at hu
      omega
     cases j with
     | zero=>simpa using yN I r r' ra rb hm.1
     | succ j=>simpa using Qe I t t' ta tb hm.2 j (by simpa using h1) (by simpa using h2)
end
end
section
variable{X:Cx}{pins:List (Addr×Obj)}{σ:L2.St}{H:Hp}{s:Al}{K:PySem.W.Frag}
theorem sH{A:Dj}{a b:Addr}{us vs:List Value}{ds es:List Ac}(p1:PlainL s.heap a us.toArray)(p2:PlainL s.heap b vs.toArray)(l1:us.length=ds.length)(l2:vs.length=es.length)(hu:A.units<cLine)(he:∀j (h1:j<us.length) (h2:j<vs.length),Pg A.in1 s us[j] vs[j] (Dv (ds.getD j .none) (es.getD j .none))):SeqAt.RcNeAt A s (.ref a) (.ref b) (!Oc ds es):=by
 rw[<- Ol]
 by_cases hl:ds.length=es.length
 ·have hs:us.toArray.size=vs.toArray.size:=by rw[Aq,Aq,l1,l2,hl]
  have h:=SeqAt.RcNeAt.lists (A:=A) (e:=λj=>Dv (ds.getD j .none) (es.getD j .none)) p1.isList p2.isList hs hu (λj h1 h2=>by simpa using he j (by simpa using h1) (by simpa using h2))
  rw[Aq,l1] at h
  rw[hl,Nat.min_self,beq_self_eq_true,Bool.and_true,<- hl]
  exact h
 ·have hs:(us.toArray.size != vs.toArray.size)=true:=by rw[Aq,Aq,l1,l2]; simpa using hl
  have h:=SeqAt.RcNeAt.lists_lengths (A:=A) p1.isList p2.isList hs hu
  have e0:(ds.length == es.length)=false:=by simpa using hl
  rw[e0,Pm]
  exact h
theorem nS{A:Dj}{a b:Addr}{us vs:List Value}{ds es:List Ac}(p1:IsTup s.heap a us.toArray)(p2:IsTup s.heap b vs.toArray)(l1:us.length=ds.length)(l2:vs.length=es.length)(hu:A.units<cLine)(he:∀j (h1:j<us.length) (h2:j<vs.length),Pg A.in1 s us[j] vs[j] (Dv (ds.getD j .none) (es.getD j .none))):SeqAt.RcNeAt A s (.ref a) (.ref b) (!Oc ds es):=by
 rw[<- Ol]
 have h:=SeqAt.RcNeAt.tuples (A:=A) (e:=λj=>Dv (ds.getD j .none) (es.getD j .none)) (show s.heap.IsTuple a us.toArray from p1) (show s.heap.IsTuple b vs.toArray from p2) hu (λj h1 h2=>by simpa using he j (by simpa using h1) (by simpa using h2))
 rw[Aq,Aq,l1,l2] at h
 exact h
end
section
variable{X:Cx}
def X4(K:PySem.W.Frag):R2:=λx y H Q=>∃d e,RdV K H x d/\RdV K H y e/\d.depth<=60/\Q (.bl (Dv d e)) H
def AM(K:PySem.W.Frag):R2:=λx y H Q=>∃d e,RdV K H x d/\RdV K H y e/\d.depth<=60/\Q (.bl (!Dv d e)) H
theorem uL(hu:X.A.units+64<cLine):Uw X (Ho .Eq) (X4 X.K):=by
 intro pins s σ H x y v u Q I rx ry h
 obtain ⟨d,e,h1,h2,hd,q⟩:=h
 have hu':X.A.units<cLine:=by omega
 cases h1 with
 | non =>
  cases rx
  cases h2 with
  | non=>cases ry; rw[Dv] at q; exact SeqAt.RcAt.none_none _ _ _ _ ⟨.bl _,H,I,rfl,q⟩
  | bl b=>cases ry; rw[Dv] at q; exact SeqAt.RcAt.none_bool b _ _ _ _ ⟨.bl _,H,I,rfl,q⟩; all_goals simp
  | int b=>obtain ⟨t,rfl⟩:=ry; rw[Dv] at q; exact SeqAt.RcAt.none_int b t _ _ _ _ ⟨.bl _,H,I,rfl,q⟩; all_goals simp
  | str b=>obtain ⟨t,rfl⟩:=ry; rw[Dv] at q; exact SeqAt.RcAt.none_str b t _ _ _ _ ⟨.bl _,H,I,rfl,q⟩; all_goals simp
  | @lst b ys es q2 rr2=>cases ry; obtain ⟨vs,r2,p2,_⟩:=I.list q2; rw[Dv] at q; exact SeqAt.RcAt.none_list p2.isList hu' _ _ _ _ ⟨.bl _,H,I,rfl,q⟩; all_goals simp
  | @tup b ys es q2 rr2=>cases ry; obtain ⟨vs,r2,p2,_⟩:=I.tuple q2; rw[Dv] at q; exact SeqAt.RcAt.none_tuple p2 hu' _ _ _ _ ⟨.bl _,H,I,rfl,q⟩; all_goals simp
 | bl a =>
  cases rx
  cases h2 with
  | non=>cases ry; rw[Dv] at q; exact SeqAt.RcAt.bool_none a _ _ _ _ ⟨.bl _,H,I,rfl,q⟩; all_goals simp
  | bl b=>cases ry; rw[Dv] at q; exact SeqAt.RcAt.bool_bool a b _ _ _ _ ⟨.bl _,H,I,rfl,q⟩
  | int b=>obtain ⟨t,rfl⟩:=ry; rw[Dv] at q; exact SeqAt.RcAt.bool_int a b t _ _ _ _ ⟨.bl _,H,I,rfl,q⟩
  | str b=>obtain ⟨t,rfl⟩:=ry; rw[Dv] at q; exact SeqAt.RcAt.bool_str a b t _ _ _ _ ⟨.bl _,H,I,rfl,q⟩; all_goals simp
  | @lst b ys es q2 rr2=>cases ry; obtain ⟨vs,r2,p2,_⟩:=I.list q2; rw[Dv] at q; exact SeqAt.RcAt.bool_list a p2.isList hu' _ _ _ _ ⟨.bl _,H,I,rfl,q⟩; all_goals simp
  | @tup b ys es q2 rr2=>cases ry; obtain ⟨vs,r2,p2,_⟩:=I.tuple q2; rw[Dv] at q; exact SeqAt.RcAt.bool_tuple a p2 hu' _ _ _ _ ⟨.bl _,H,I,rfl,q⟩; all_goals simp
 | int a =>
  obtain ⟨t',rfl⟩:=rx
  cases h2 with
  | non=>cases ry; rw[Dv] at q; exact SeqAt.RcAt.int_none a t' _ _ _ _ ⟨.bl _,H,I,rfl,q⟩; all_goals simp
  | bl b=>cases ry; rw[Dv] at q; exact SeqAt.RcAt.int_bool a t' b _ _ _ _ ⟨.bl _,H,I,rfl,q⟩
  | int b=>obtain ⟨t,rfl⟩:=ry; rw[Dv] at q; exact SeqAt.RcAt.int_int a t' b t _ _ _ _ ⟨.bl _,H,I,rfl,q⟩
  | str b=>obtain ⟨t,rfl⟩:=ry; rw[Dv] at q; exact SeqAt.RcAt.int_str a t' b t _ _ _ _ ⟨.bl _,H,I,rfl,q⟩; all_goals simp
  | @lst b ys es q2 rr2=>cases ry; obtain ⟨vs,r2,p2,_⟩:=I.list q2; rw[Dv] at q; exact SeqAt.RcAt.int_list a t' p2.isList hu' _ _ _ _ ⟨.bl _,H,I,rfl,q⟩; all_goals simp
  | @tup b ys es q2 rr2=>cases ry; obtain ⟨vs,r2,p2,_⟩:=I.tuple q2; rw[Dv] at q; exact SeqAt.RcAt.int_tuple a t' p2 hu' _ _ _ _ ⟨.bl _,H,I,rfl,q⟩; all_goals simp
 | str a =>
  obtain ⟨t',rfl⟩:=rx
  cases h2 with
  | non=>cases ry; rw[Dv] at q; exact SeqAt.RcAt.str_none a t' _ _ _ _ ⟨.bl _,H,I,rfl,q⟩; all_goals simp
  | bl b=>cases ry; rw[Dv] at q; exact SeqAt.RcAt.str_bool a t' b _ _ _ _ ⟨.bl _,H,I,rfl,q⟩; all_goals simp
  | int b=>obtain ⟨t,rfl⟩:=ry; rw[Dv] at q; exact SeqAt.RcAt.str_int a t' b t _ _ _ _ ⟨.bl _,H,I,rfl,q⟩; all_goals simp
  | str b=>obtain ⟨t,rfl⟩:=ry; rw[Dv] at q; exact SeqAt.RcAt.str_str a t' b t _ _ _ _ ⟨.bl _,H,I,rfl,q⟩
  | @lst b ys es q2 rr2=>cases ry; obtain ⟨vs,r2,p2,_⟩:=I.list q2; rw[Dv] at q; exact SeqAt.RcAt.str_list a t' p2.isList hu' _ _ _ _ ⟨.bl _,H,I,rfl,q⟩; all_goals simp
  | @tup b ys es q2 rr2=>cases ry; obtain ⟨vs,r2,p2,_⟩:=I.tuple q2; rw[Dv] at q; exact SeqAt.RcAt.str_tuple a t' p2 hu' _ _ _ _ ⟨.bl _,H,I,rfl,q⟩; all_goals simp
 | @lst a xs ds qa r =>
  cases rx
  obtain ⟨us,r1,p,_⟩:=I.list qa
  cases h2 with
  | non=>cases ry; rw[Dv] at q; exact SeqAt.RcAt.list_none p.isList hu' _ _ _ _ ⟨.bl _,H,I,rfl,q⟩; all_goals simp
  | bl b=>cases ry; rw[Dv] at q; exact SeqAt.RcAt.list_bool b p.isList hu' _ _ _ _ ⟨.bl _,H,I,rfl,q⟩; all_goals simp
  | int b=>obtain ⟨t,rfl⟩:=ry; rw[Dv] at q; exact SeqAt.RcAt.list_int b t p.isList hu' _ _ _ _ ⟨.bl _,H,I,rfl,q⟩; all_goals simp
  | str b=>obtain ⟨t,rfl⟩:=ry; rw[Dv] at q; exact SeqAt.RcAt.list_str b t p.isList hu' _ _ _ _ ⟨.bl _,H,I,rfl,q⟩; all_goals simp
  | @lst b ys es q2 rr2=>cases ry; obtain ⟨vs,r2,p2,_⟩:=I.list q2; rw[Dv] at q; exact lM p p2 (r1.length.symm.trans r.length) (r2.length.symm.trans rr2.length) hu' (λj h1 h2=>Qe I r rr2 r1 r2 (Wo (by simp only[Bx] at hd; omega)) j h1 h2) _ _ _ _ ⟨.bl _,H,I,rfl,q⟩
  | @tup b ys es q2 rr2=>cases ry; obtain ⟨vs,r2,p2,_⟩:=I.tuple q2; rw[Dv] at q; exact SeqAt.RcAt.list_tuple p.isList p2 hu' _ _ _ _ ⟨.bl _,H,I,rfl,q⟩; all_goals simp
 | @tup a xs ds qa r =>
  cases rx
  obtain ⟨us,r1,p,_⟩:=I.tuple qa
  cases h2 with
  | non=>cases ry; rw[Dv] at q; exact SeqAt.RcAt.tuple_none p hu' _ _ _ _ ⟨.bl _,H,I,rfl,q⟩; all_goals simp
  | bl b=>cases ry; rw[Dv] at q; exact SeqAt.RcAt.tuple_bool b p hu' _ _ _ _ ⟨.bl _,H,I,rfl,q⟩; all_goals simp
  | int b=>obtain ⟨t,rfl⟩:=ry; rw[Dv] at q; exact SeqAt.RcAt.tuple_int b t p hu' _ _ _ _ ⟨.bl _,H,I,rfl,q⟩; all_goals simp
  | str b=>obtain ⟨t,rfl⟩:=ry; rw[Dv] at q; exact SeqAt.RcAt.tuple_str b t p hu' _ _ _ _ ⟨.bl _,H,I,rfl,q⟩; all_goals simp
  | @lst b ys es q2 rr2=>cases ry; obtain ⟨vs,r2,p2,_⟩:=I.list q2; rw[Dv] at q; exact SeqAt.RcAt.tuple_list p p2.isList hu' _ _ _ _ ⟨.bl _,H,I,rfl,q⟩; all_goals simp
  | @tup b ys es q2 rr2=>cases ry; obtain ⟨vs,r2,p2,_⟩:=I.tuple q2; rw[Dv] at q; exact dQ p p2 (r1.length.symm.trans r.length) (r2.length.symm.trans rr2.length) hu' (λj h1 h2=>Qe I r rr2 r1 r2 (Wo (by simp only[Bx] at hd; omega)) j h1 h2) _ _ _ _ ⟨.bl _,H,I,rfl,q⟩
theorem S6(hu:X.A.units+64<cLine):Uw X (Ho .NotEq) (AM X.K):=by
 intro pins s σ H x y v u Q I rx ry h
 obtain ⟨d,e,h1,h2,hd,q⟩:=h
 have hu':X.A.units<cLine:=by omega
 cases h1 with
 | non =>
  cases rx
  cases h2 with
  | non=>cases ry; rw[Dv] at q; exact SeqAt.RcNeAt.none_none _ _ _ _ ⟨.bl _,H,I,rfl,q⟩
  | bl b=>cases ry; rw[Dv] at q; exact SeqAt.RcNeAt.none_bool b _ _ _ _ ⟨.bl _,H,I,rfl,q⟩; all_goals simp
  | int b=>obtain ⟨t,rfl⟩:=ry; rw[Dv] at q; exact SeqAt.RcNeAt.none_int b t _ _ _ _ ⟨.bl _,H,I,rfl,q⟩; all_goals simp
  | str b=>obtain ⟨t,rfl⟩:=ry; rw[Dv] at q; exact SeqAt.RcNeAt.none_str b t _ _ _ _ ⟨.bl _,H,I,rfl,q⟩; all_goals simp
  | @lst b ys es q2 rr2=>cases ry; obtain ⟨vs,r2,p2,_⟩:=I.list q2; rw[Dv] at q; exact SeqAt.RcNeAt.none_list p2.isList hu' _ _ _ _ ⟨.bl _,H,I,rfl,q⟩; all_goals simp
  | @tup b ys es q2 rr2=>cases ry; obtain ⟨vs,r2,p2,_⟩:=I.tuple q2; rw[Dv] at q; exact SeqAt.RcNeAt.none_tuple p2 hu' _ _ _ _ ⟨.bl _,H,I,rfl,q⟩; all_goals simp
 | bl a =>
  cases rx
  cases h2 with
  | non=>cases ry; rw[Dv] at q; exact SeqAt.RcNeAt.bool_none a _ _ _ _ ⟨.bl _,H,I,rfl,q⟩; all_goals simp
  | bl b=>cases ry; rw[Dv] at q; exact SeqAt.RcNeAt.bool_bool a b _ _ _ _ ⟨.bl _,H,I,rfl,q⟩
  | int b=>obtain ⟨t,rfl⟩:=ry; rw[Dv] at q; exact SeqAt.RcNeAt.bool_int a b t _ _ _ _ ⟨.bl _,H,I,rfl,q⟩
  | str b=>obtain ⟨t,rfl⟩:=ry; rw[Dv] at q; exact SeqAt.RcNeAt.bool_str a b t _ _ _ _ ⟨.bl _,H,I,rfl,q⟩; all_goals simp
  | @lst b ys es q2 rr2=>cases ry; obtain ⟨vs,r2,p2,_⟩:=I.list q2; rw[Dv] at q; exact SeqAt.RcNeAt.bool_list a p2.isList hu' _ _ _ _ ⟨.bl _,H,I,rfl,q⟩; all_goals simp
  | @tup b ys es q2 rr2=>cases ry; obtain ⟨vs,r2,p2,_⟩:=I.tuple q2; rw[Dv] at q; exact SeqAt.RcNeAt.bool_tuple a p2 hu' _ _ _ _ ⟨.bl _,H,I,rfl,q⟩; all_goals simp
 | int a =>
  obtain ⟨t',rfl⟩:=rx
  cases h2 with
  | non=>cases ry; rw[Dv] at q; exact SeqAt.RcNeAt.int_none a t' _ _ _ _ ⟨.bl _,H,I,rfl,q⟩; all_goals simp
  | bl b=>cases ry; rw[Dv] at q; exact SeqAt.RcNeAt.int_bool a t' b _ _ _ _ ⟨.bl _,H,I,rfl,q⟩
  | int b=>obtain ⟨t,rfl⟩:=ry; rw[Dv] at q; exact SeqAt.RcNeAt.int_int a t' b t _ _ _ _ ⟨.bl _,H,I,rfl,q⟩
  | str b=>obtain ⟨t,rfl⟩:=ry; rw[Dv] at q; exact SeqAt.RcNeAt.int_str a t' b t _ _ _ _ ⟨.bl _,H,I,rfl,q⟩; all_goals simp
  | @lst b ys es q2 rr2=>cases ry; obtain ⟨vs,r2,p2,_⟩:=I.list q2; rw[Dv] at q; exact SeqAt.RcNeAt.int_list a t' p2.isList hu' _ _ _ _ ⟨.bl _,H,I,rfl,q⟩; all_goals simp
  | @tup b ys es q2 rr2=>cases ry; obtain ⟨vs,r2,p2,_⟩:=I.tuple q2; rw[Dv] at q; exact SeqAt.RcNeAt.int_tuple a t' p2 hu' _ _ _ _ ⟨.bl _,H,I,rfl,q⟩; all_goals simp
 | str a =>
  obtain ⟨t',rfl⟩:=rx
  cases h2 with
  | non=>cases ry; rw[Dv] at q; exact SeqAt.RcNeAt.str_none a t' _ _ _ _ ⟨.bl _,H,I,rfl,q⟩; all_goals simp
  | bl b=>cases ry; rw[Dv] at q; exact SeqAt.RcNeAt.str_bool a t' b _ _ _ _ ⟨.bl _,H,I,rfl,q⟩; all_goals simp
  | int b=>obtain ⟨t,rfl⟩:=ry; rw[Dv] at q; exact SeqAt.RcNeAt.str_int a t' b t _ _ _ _ ⟨.bl _,H,I,rfl,q⟩; all_goals simp
  | str b=>obtain ⟨t,rfl⟩:=ry; rw[Dv] at q; exact SeqAt.RcNeAt.str_str a t' b t _ _ _ _ ⟨.bl _,H,I,rfl,q⟩
  | @lst b ys es q2 rr2=>cases ry; obtain ⟨vs,r2,p2,_⟩:=I.list q2; rw[Dv] at q; exact SeqAt.RcNeAt.str_list a t' p2.isList hu' _ _ _ _ ⟨.bl _,H,I,rfl,q⟩; all_goals simp
  | @tup b ys es q2 rr2=>cases ry; obtain ⟨vs,r2,p2,_⟩:=I.tuple q2; rw[Dv] at q; exact SeqAt.RcNeAt.str_tuple a t' p2 hu' _ _ _ _ ⟨.bl _,H,I,rfl,q⟩; all_goals simp
 | @lst a xs ds qa r =>
  cases rx
  obtain ⟨us,r1,p,_⟩:=I.list qa
  cases h2 with
  | non=>cases ry; rw[Dv] at q; exact SeqAt.RcNeAt.list_none p.isList hu' _ _ _ _ ⟨.bl _,H,I,rfl,q⟩; all_goals simp
  | bl b=>cases ry; rw[Dv] at q; exact SeqAt.RcNeAt.list_bool b p.isList hu' _ _ _ _ ⟨.bl _,H,I,rfl,q⟩; all_goals simp
  | int b=>obtain ⟨t,rfl⟩:=ry; rw[Dv] at q; exact SeqAt.RcNeAt.list_int b t p.isList hu' _ _ _ _ ⟨.bl _,H,I,rfl,q⟩; all_goals simp
  | str b=>obtain ⟨t,rfl⟩:=ry; rw[Dv] at q; exact SeqAt.RcNeAt.list_str b t p.isList hu' _ _ _ _ ⟨.bl _,H,I,rfl,q⟩; all_goals simp
  | @lst b ys es q2 rr2=>cases ry; obtain ⟨vs,r2,p2,_⟩:=I.list q2; rw[Dv] at q; exact sH p p2 (r1.length.symm.trans r.length) (r2.length.symm.trans rr2.length) hu' (λj h1 h2=>Qe I r rr2 r1 r2 (Wo (by simp only[Bx] at hd; omega)) j h1 h2) _ _ _ _ ⟨.bl _,H,I,rfl,q⟩
  | @tup b ys es q2 rr2=>cases ry; obtain ⟨vs,r2,p2,_⟩:=I.tuple q2; rw[Dv] at q; exact SeqAt.RcNeAt.list_tuple p.isList p2 hu' _ _ _ _ ⟨.bl _,H,I,rfl,q⟩; all_goals simp
 | @tup a xs ds qa r =>
  cases rx
  obtain ⟨us,r1,p,_⟩:=I.tuple qa
  cases h2 with
  | non=>cases ry; rw[Dv] at q; exact SeqAt.RcNeAt.tuple_none p hu' _ _ _ _ ⟨.bl _,H,I,rfl,q⟩; all_goals simp
  | bl b=>cases ry; rw[Dv] at q; exact SeqAt.RcNeAt.tuple_bool b p hu' _ _ _ _ ⟨.bl _,H,I,rfl,q⟩; all_goals simp
  | int b=>obtain ⟨t,rfl⟩:=ry; rw[Dv] at q; exact SeqAt.RcNeAt.tuple_int b t p hu' _ _ _ _ ⟨.bl _,H,I,rfl,q⟩; all_goals simp
  | str b=>obtain ⟨t,rfl⟩:=ry; rw[Dv] at q; exact SeqAt.RcNeAt.tuple_str b t p hu' _ _ _ _ ⟨.bl _,H,I,rfl,q⟩; all_goals simp
  | @lst b ys es q2 rr2=>cases ry; obtain ⟨vs,r2,p2,_⟩:=I.list q2; rw[Dv] at q; exact SeqAt.RcNeAt.tuple_list p p2.isList hu' _ _ _ _ ⟨.bl _,H,I,rfl,q⟩; all_goals simp
  | @tup b ys es q2 rr2=>cases ry; obtain ⟨vs,r2,p2,_⟩:=I.tuple q2; rw[Dv] at q; exact nS p p2 (r1.length.symm.trans r.length) (r2.length.symm.trans rr2.length) hu' (λj h1 h2=>Qe I r rr2 r1 r2 (Wo (by simp only[Bx] at hd; omega)) j h1 h2) _ _ _ _ ⟨.bl _,H,I,rfl,q⟩
theorem zH{z z':V}{v:Value}(h:RelV z v)(h':RelV z' v):z=z':=by
 cases z <;> cases z' <;> simp only[L2.RelV] at h h' <;> first | rfl | (subst h; cases h'; rfl) | (subst h; cases h'; done) | (obtain ⟨t,rfl⟩:=h; obtain ⟨t',e⟩:=h'; cases e; rfl) | (obtain ⟨t,rfl⟩:=h; obtain ⟨t',e⟩:=h'; cases e; done) | (obtain ⟨t,rfl⟩:=h; cases h'; done) | (subst h; obtain ⟨t',e⟩:=h'; cases e)
open Classical in
noncomputable def Ls(K:PySem.W.Frag)(H:Hp)(d:Ac)(v:Value):Bool:=if h:∃e z,RdV K H z e/\RelV z v then Dv h.choose d else false
theorem bD{pins:List (Addr×Obj)}{σ:L2.St}{H:Hp}{s:Al}(I:Inv X pins σ H s){d e:Ac}{z:V}{v:Value}(h:RdV X.K H z e)(r:RelV z v):Ls X.K H d v=Dv e d:=by
 unfold Ls
 have hx:∃e z,RdV X.K H z e/\RelV z v:=⟨e,z,h,r⟩
 rw[dif_pos hx]
 obtain ⟨z',h',r'⟩:=hx.choose_spec
 have ez:=zH r' r
 subst ez
 rw[RdV.det I h' h]
theorem Pv{pins:List (Addr×Obj)}{σ:L2.St}{H:Hp}{s:Al}(I:Inv X pins σ H s){d:Ac}:∀{xs:List V} {ds:List Ac} {us:List Value},RdVs X.K H xs ds->Fe xs us->us.any (Ls X.K H d)=ds.any λe=>Dv e d
 | _,_,_,.nil,r=>by cases r; rfl
 | _,_,_,.cons h t,r=>by
  cases r with
  | cons r1 r2=>rw[Jl,Jl,bD I h r1,Pv I t r2]
theorem Nx{pins:List (Addr×Obj)}{σ:L2.St}{H:Hp}{s:Al}(I:Inv X pins σ H s){A:Dj}{x:V}{d:Ac}{u:Value}(hx:RdV X.K H x d)(rx:RelV x u):∀{xs:List V} {ds:List Ac} {us:List Value},RdVs X.K H xs ds->Fe xs us->A.units+Bc ds<cLine->∀v∈us,Pg A s v u (Ls X.K H d v)
 | _,_,_,.nil,r,_=>λv hv=>by cases r; cases hv
 | _,_,_,@RdVs.cons _ _ y e ys es h t,r,hu=>λv hv=>by
  have hm:A.units+e.depth<cLine/\A.units+Bc es<cLine:=by
   simp only[Bc] at hu
   omega
  cases r with
  | cons r1 r2 =>
   rcases Ai.mp hv with rfl | hv
   ·rw[bD I h r1]; exact yN I h hx r1 rx hm.1
   ·exact Nx I hx rx t r2 hm.2 v hv
def S8(K:PySem.W.Frag)(neg:Bool):R2:=λx y H Q=>∃p xs d ds,y=.ref p/\(Tq K H p xs\/Uj K H p xs)/\RdV K H x d/\RdVs K H xs ds/\Bc ds<=60/\Q (.bl (if neg then !(ds.any λe=>Dv e d) else ds.any λe=>Dv e d)) H
theorem vA(hu:X.A.units+64<cLine):Uw X (Ho .In) (S8 X.K false):=by
 intro pins s σ H x y v u Q I rx ry h
 obtain ⟨p,xs,d,ds,rfl,hq,hx,hs,hd,q⟩:=h
 cases ry
 have hu1:X.A.in1.units+Bc ds<cLine:=by have:=Sk X.A; omega
 rcases hq with hq | hq
 ·obtain ⟨its,r,pl,hz⟩:=I.list hq
  refine SeqAt.in_listAt (Ls X.K H d) pl.isList (λw hw=>Nx I hx rx hs r hu1 w (by simpa using hw)) ⟨.bl _,H,I,rfl,?_⟩
  rw[show its.toArray.any (Ls X.K H d)=its.any (Ls X.K H d) by simp,Pv I hs r]
  exact q
 ·obtain ⟨its,r,pl,hz⟩:=I.tuple hq
  refine SeqAt.in_tupleAt (Ls X.K H d) pl (λw hw=>Nx I hx rx hs r hu1 w (by simpa using hw)) ⟨.bl _,H,I,rfl,?_⟩
  rw[show its.toArray.any (Ls X.K H d)=its.any (Ls X.K H d) by simp,Pv I hs r]
  exact q
theorem tE(hu:X.A.units+64<cLine):Uw X (Ho .NotIn) (S8 X.K true):=by
 intro pins s σ H x y v u Q I rx ry h
 obtain ⟨p,xs,d,ds,rfl,hq,hx,hs,hd,q⟩:=h
 cases ry
 have hu1:X.A.in1.units+Bc ds<cLine:=by have:=Sk X.A; omega
 rcases hq with hq | hq
 ·obtain ⟨its,r,pl,hz⟩:=I.list hq
  refine SeqAt.notIn_listAt (Ls X.K H d) pl.isList (λw hw=>Nx I hx rx hs r hu1 w (by simpa using hw)) ⟨.bl _,H,I,rfl,?_⟩
  rw[show its.toArray.any (Ls X.K H d)=its.any (Ls X.K H d) by simp,Pv I hs r]
  exact q
 ·obtain ⟨its,r,pl,hz⟩:=I.tuple hq
  refine SeqAt.notIn_tupleAt (Ls X.K H d) pl (λw hw=>Nx I hx rx hs r hu1 w (by simpa using hw)) ⟨.bl _,H,I,rfl,?_⟩
  rw[show its.toArray.any (Ls X.K H d)=its.any (Ls X.K H d) by simp,Pv I hs r]
  exact q
end
def FI(K:PySem.W.Frag)(a:Addr):It :=
 ⟨λi H=>∃xs x,Tq K H a xs/\xs[i]? = some x,λi H x H'=>∃p y,x=.ref p/\H p=none/\H'=upd H p (.tup [.int i,y])/\∀xs,Tq K H a xs->xs[i]? = some y,λi H=>∃xs,Tq K H a xs/\xs.length<=i⟩
section
variable{X:Cx}{pins:List (Addr×Obj)}{σ:L2.St}{H:Hp}{s:Al}{h':Heap}
theorem hW{t':Nat}{fp:List Addr}(I:Inv X pins σ H s)(k:∀b o,b∉fp->s.heap.get? b=some o->h'.get? b=some o)(hf:∀b∈fp,Qv X pins H b):Inv X pins σ H { s with heap:=h',toks:=t' }:=by
 have nit:∀b u,H b=some u->b∉fp:=λb u e z=>by rw[(hf b z).1] at e; cases e
 refine I.step (g':=s.gens) (d':=s.drawn) (ch:=fp) (λb hb=>?_) (λb o _ _ hc e _=>k b o hc e) (λb o _ _ hc e _=>⟨o.slots,k b o hc e⟩) (λ_ _ _ _ n=>n)
  (λb o hc e=>⟨o,k b o hc e⟩) (λ_ _ e=>e) (λ_ _ _ e=>e) (λb ps e=>⟨#[],by rw[e]; simp⟩) (λm hm=>?_) (λb u e=>?_) I.bare
 ·obtain ⟨_,f1,_,f3,f4,f5⟩:=hf b hb
  exact ⟨f3,f1,f4,f5⟩
 ·obtain ⟨o,es,ep,ho,r⟩:=hm
  exact ⟨o,es,ep,k _ o (λz=>(hf _ z).2.1 rfl) ho,r⟩
 ·refine (I.hok b u e).stay (λc v hc q=>k c v ?_ q) (λ_ q=>q) λ_ _ q=>q
  rcases hc with z | z
  ·rw[z]; exact nit b u e
  ·exact nit c _ z
end
theorem rS{P:Bs}{w:World}{K:PySem.W.Frag}{elts:List Expr}{k:Nat}{pos:Pos}(a e it:Addr)(ne:e≠it):Turn P w K (.Tuple elts k pos) (FI K a) [e,it] e (λi h=>(∃old,IsEnum h e it ((i:Nat):Int) old)/\h.IsListIter it a i) where
 mem:=Ab
 obj:=λi h st b hb=>by
  obtain ⟨⟨old,he⟩,o,e1,c,d⟩:=st
  rcases Ai.mp hb with z | z
  ·subst z
   exact ⟨_,he,λv z=>by cases z⟩
  ·rw[Ag.mp z]
   exact ⟨o,e1,λv z=>by rw[d] at z; cases z⟩
 keep:=λi h h' st kp=>⟨let ⟨old,he⟩:=st.1; ⟨old,kp e Ab _ he⟩,st.2.at λo q=>kp it (Ah _ Ab) o q⟩
 item:=by
  intro X hP hw hK hc i pins s σ H E I hf st hg
  subst hP hw hK
  obtain ⟨xs,x,hq,hx⟩:=hg
  obtain ⟨its,rv,p,hz⟩:=I.list hq
  obtain ⟨u,hu,ru⟩:=rv.get hx
  obtain ⟨⟨old,he⟩,hit⟩:=st
  have el:e<s.heap.objs.size:=Br he
  have il:it<s.heap.objs.size:=by obtain ⟨_,q,_⟩:=hit; exact Br q
  refine wpAny_pyNext_enum_item he hit p.isList (x:=u) (by simpa using hu) ne λh1 ho hit1 hT hsz hk=>⟨_,rfl,wpAny_letOwnedTupleGo_enum ho λh2 he2 hs2=>?_⟩
  have hs2':Fs e h1 h2:=hs2
  -- the pair laid,then the iterators turned
  have I1:Inv X pins σ (upd H s.heap.objs.size (.tup [.int i,x])) { s with heap:=s.heap.push { cls:=.type "tuple",data:=.seq #[.int i s.toks,u] } } :=
   I.laid (t':=s.toks) (λb o q=>Am _ q) (An _) ⟨by show 2<=Bd; decide,[.int i s.toks,u],.cons ⟨_,rfl⟩ (.cons ru .nil),_,Bl _ rfl,rfl,0,rfl⟩
  have nT:∀b∈[e,it],b≠s.heap.objs.size:=λb hb=>by
   rcases Ai.mp hb with z | z
   ·rw[z]; exact Cs el
   ·rw[Ag.mp z]; exact Cs il
  have fr:∀b∈[e,it],(upd H s.heap.objs.size (.tup [.int i,x])) b=none:=λb hb=>by rw[En (nT b hb)]; exact (hf b hb).1
  refine ⟨.ref s.heap.objs.size,_,hW (fp:=[e,it]) (s:={ s with heap:=s.heap.push { cls:=.type "tuple",data:=.seq #[.int i s.toks,u] } }) (h':=h2) (t':=s.toks+1) I1 (λb o hb q=>?_) (λb hb=>⟨fr b hb,(hf b hb).2⟩),rfl,⟨_,x,rfl,I.hok.fresh (An _),rfl,λys hy=>by rw[I.list_inj hy hq]; exact hx⟩,⟨⟨u,?_⟩,?_⟩,fr⟩
  ·have nbe:b≠e:=λz=>hb (by rw[z]; exact Ab)
   have nbi:b≠it:=λz=>hb (by rw[z]; exact Ah _ Ab)
   refine (hs2'.2 b nbe).trans ?_
   by_cases hbT:b=s.heap.objs.size
   ·subst hbT
    have q':=(Bl s.heap (o:={ cls:=.type "tuple",data:=.seq #[.int i s.toks,u] }) rfl).symm.trans q
    rw[hT]
    exact q'
   ·refine hk b o nbe nbi ?_
    have q0:(s.heap.push { cls:=.type "tuple",data:=.seq #[.int i s.toks,u] }).get? b=some o:=q
    rcases Heap.get?_push_cases q0 with z | z
    ·exact absurd z.1 hbT
    ·exact z
  ·have : ((i+1:Nat):Int)=(i:Int)+1:=by omega
   rw[this]
   exact he2
  ·exact hit1.at λo q=>(hs2'.2 it (Ny ne)).trans q
 done:=by
  intro X hP hw hK hc i pins s σ H E I hf st hg
  subst hP hw hK
  obtain ⟨xs,hq,hx⟩:=hg
  obtain ⟨its,rv,p,hz⟩:=I.list hq
  obtain ⟨⟨old,he⟩,hit⟩:=st
  have hl:=rv.length
  exact wpAny_pyNext_enum_end (I.ok.hd hc) he hit p.isList (by simp; omega) λh1 eb=>⟨rfl,hW (fp:=[e,it]) (t':=s.toks) I (λb o hb q=>eb b o (λz=>hb (by rw[z]; exact Ah _ Ab)) q) hf⟩
 self:=λ_ _ _ _ _ st h=>let ⟨_,he⟩:=st.1; wpAny_pyIter_enum he h
section
variable{X:Cx}
def CF(K:PySem.W.Frag)(ta:TA):TI:=λσ H R=>ta σ H λvs H1=>∃a,vs=[.ref a]/\(∃xs,Tq K H1 a xs)/\R (FI K a) H1
theorem E3{elts:List Expr}{k:Nat}{tp:Pos}{a:Expr}{ta:TA}{p pos:Pos}(hg:Gl X "enumerate")(hm:X.mg "enumerate" = none)(ha:PA X [a] ta)(hs:Bz [a] X.env=[(false,eval a X.env)]:=by rfl):PI X (.Tuple elts k tp) (.Call (.Name "enumerate" p) [a] [] pos) (CF X.K ta):=by
 intro pins s σ H R I h
 refine Call_ (Zl I hg hm (u:=.type "enumerate") (by decide +kernel) (Ms (Hn (ha pos pins s σ H _ I h) λus s1 ⟨vs,H1,I1,r1,q1⟩=>?_) hs rfl))
 obtain ⟨l,e,⟨xs,hq⟩,q⟩:=q1
 subst e
 obtain ⟨u,rfl,ru⟩:=vals1 r1
 cases ru
 obtain ⟨its,rv,pl,hz⟩:=I1.list hq
 refine call_enumerate_list pl.isList λh2 he hit hsz hk=>wpAny_pyIter_enum he ?_
 have fr:∀b∈[s1.heap.objs.size+1,s1.heap.objs.size],Qv X pins H1 b:=λb hb=>by
  rcases Ai.mp hb with z | z
  ·rw[z]; exact I1.fpOk (Nat.le_succ _) (I1.hok.fresh (Nat.le_succ _))
  ·rw[Ag.mp z]; exact I1.fpOk (An _) (I1.hok.fresh (An _))
 exact ⟨s1.heap.objs.size+1,[s1.heap.objs.size+1,s1.heap.objs.size],_,_,H1,rfl,I1.kept (t':=s1.toks) hk,rS l _ _ (Nat.succ_ne_self _),⟨⟨_,he⟩,hit⟩,fr,q⟩
end
section
variable{X:Cx}
theorem A4{elt iter:Expr}{x y0:Str}{px py pos spos:Pos}{i0:Nat}{ifs:List Expr}{scope:Scope}{cl:List (Str×Addr)}{ys:List Str}{js:List Nat}{wi:TI}{tc:TT}{te:TE}(hN:X.N.Nodup)(hi0:X.N[i0]? = some y0)(hy0:X.env.scope.names.lookup y0=some .local)(C:CompScope X scope cl x ys js)(hc:X.calm=true)(hi:PI X (.Name x px) iter wi)(ht:∀fp s H,yZ (Hg X scope cl (x::ys) fp s H) ifs tc)(he:∀fp s H,PE (Hg X scope cl (x::ys) fp s H) elt te)(hs:∀x,Ih iter X.env x=pure x:=by intro _; rfl)(hsw:Mr (.ListComp elt [⟨.Name x px,iter,ifs,0⟩] scope pos) (some (.Name y0 py)) spos.line X.env=pure true:=by rfl):PS X (.Assign [.Name y0 py] (.ListComp elt [⟨.Name x px,iter,ifs,0⟩] scope pos) spos) (z0 (qY wi js tc te) (eN i0)):=by
 intro pins s σ H De I h
 have h:qY wi js tc te σ H λv H1=>De.nx (σ.set i0 (some v)) H1:=h
 rw[exec_Assign_Name_used _ _ _ _ hsw]
 refine Ae (wpAny_standAt (Ae ?_))
 show wpAny _ X.A (do let _ <- comprehension (.ListComp elt [⟨.Name x px,iter,ifs,0⟩] scope pos) scope X.env _ (newList []) false (eval iter X.env) (some (Xm (.Name y0 py) X.env))) _ _ s
 refine Ae (Gy (uJ (use:=some (Xm (.Name y0 py) X.env)) (Q:=λ_ s'=>SP X pins De .next s') rfl hs C.clos C.kind C.locs (Hn (hi pins s σ H _ I h) λv s1 h1=>Hn h1 λitv s2 h2=>?_)) (λ_ s' hq=>Ak (Ak hq)) λ_ _ e=>e)
 obtain ⟨it,fp,tn,J,H2,e,I2,T,st2,f2,q2⟩:=h2
 subst e
 have fD:H2 s2.heap.objs.size=none:=I2.hok.fresh (An _)
 obtain ⟨W,⟨m0,w0⟩,turn⟩:=q2 s2.heap.objs.size fD
 refine Dk ?_
 have I3:Inv X pins σ (upd H2 s2.heap.objs.size (.lst [])) { s2 with heap:=s2.heap.push { cls:=.type "list",dict:=none,data:=.seq ([]:List Value).toArray } } :=
  I2.laid (t':=s2.toks) (λb u q=>Am _ q) (An _) ⟨Ee _,[],0,.nil,Bl _ rfl⟩
 obtain ⟨f3,st3',o3'⟩:=iV I2 T st2 f2 I3
 generalize hS3:({ s2 with heap:=s2.heap.push { cls:=.type "list",dict:=none,data:=.seq ([]:List Value).toArray } }:Al)=s3 at I3
 have i8:tn 0 s3.heap:=by rw[<- hS3]; exact st3'
 have o3:∀b∈fp,∃o,s3.heap.get? b=some o:=by rw[<- hS3]; exact o3'
 show wpAny _ _ (Xl scope X.env.globals cl [] X.env.qual none .none (some X.env)) _ _ _
 refine eY C λh4 hns4 keep4 new4=>?_
 have I4:∀tk,Inv (Hg X scope cl (x::ys) fp s3 (upd H2 s2.heap.objs.size (.lst []))) [] (none::La σ js) (upd H2 s2.heap.objs.size (.lst [])) { s3 with heap:=h4,toks:=tk }:=λtk=>Zz (pre:=[x]) C I3 f3 o3 hns4 keep4 new4
 have st4:tn 0 h4:=T.keep 0 _ _ i8 λb hb o q=>keep4 b o q
 generalize hX':Hg X scope cl (x::ys) fp s3 (upd H2 s2.heap.objs.size (.lst []))=X' at I4
 obtain ⟨eP,eW,eK,eA,eC⟩:=kX hc hX'
 have stat:∀{H':Hp},(∀b∈fp,H' b=none)->∀b∈fp,Qv X' [] H' b:=λ{H'} hn=>dD hX' (I4 0) hn
 have loop:∀s5:Al,s5={ s3 with heap:=h4,toks:=s3.toks+([]:List (Str×Value)).length } ->
   Ng (model X.prog X.w) X.A (.compLoop (.ListComp elt [⟨.Name x px,iter,ifs,0⟩] scope pos) 0 (.ref it) (.ref s2.heap.objs.size) (compEnvC scope (Fb (s3.heap.objs.size+1) scope.names cl) s3.heap.objs.size X.env))
    (compPost (model X.prog X.w) X.A X.xe (some (Xm (.Name y0 py) X.env)) (λ_ s'=>SP X pins De .next s') (.ref s2.heap.objs.size) s3.heap.objs.size) s5:=by
  rintro s5 rfl
  refine bG (λn s'=>∃i o H',Inv X' [] (o::La σ js) H' s'/\tn i s'.heap/\(∀b∈fp,H' b=none)/\W i n H') ?_ m0
   ⟨0,none,_,I4 _,st4,λb hb=>(f3 b hb).1,w0⟩
  (intro n s6 q_; obtain ⟨i,o,H6,I6,st6,fr6,w6⟩ := q_)
  rcases turn i n H6 w6 with ⟨stop,qn⟩ | ⟨go,step⟩
  ·have hd:=T.done X' eP eW eK eC i [] s6 _ H6 (λ_ _=>False) I6 (stat fr6) st6 stop
   rw[eA] at hd
   refine Hn hd λr s7 q0_ => ?_
   obtain ⟨hr,I7⟩ := q0_
   subst hr
   obtain ⟨⟨m7,hn7'⟩,I7f,J7⟩:=sA hX' I3 f3 I7
   have fC:Qv X pins H6 s3.heap.objs.size:=I3.fpOk (An _) I7f
   obtain ⟨oC,esC,epC,hoC,rC⟩:=id hn7'
   have J8:Inv X (pins++[(s3.heap.objs.size,oC)]) σ H6 s7:=J7.pins_of λp hp=>by
    rcases Ay.mp hp with z | z
    ·have q:=J7.pin p (Ao _ z)
     exact q
    ·rw[Ag.mp z]
     exact ⟨hoC,I7f,fC.2.1,fC.2.2.1,λv hv=>by rw[rC.1] at hv; cases hv⟩
   refine Hn (Yx (X:=X) (i:=i0) (x:=y0) (pos:=py) hN hi0 (.inl hy0) (.inr hy0) (pins++[(s3.heap.objs.size,oC)]) s7 σ H6 (.ref s2.heap.objs.size) (.ref s2.heap.objs.size) (λσ' H'=>σ'=σ.set i0 (some (.ref s2.heap.objs.size))/\H'=H6) J8 rfl ⟨rfl,rfl⟩) λ_ s9 q0_ => ?_
   obtain ⟨σ9,H9,I9,e9,e9'⟩ := q0_
   subst e9 e9'
   have hoC9:=(I9.pin (s3.heap.objs.size,oC) (Ao _ (Ao _ Ab))).1
   have I9':Inv X pins (σ.set i0 (some (.ref s2.heap.objs.size))) H9 s9:=I9.pins_of λp hp=>I9.pin p (Ao _ (Ap _ hp))
   refine ⟨m7,hn7'.at λo e=>by rw[hoC] at e; cases e; exact hoC9,λh10 hs10=>?_⟩
   exact ⟨_,H9,hW (t':=s9.toks) (fp:=[s3.heap.objs.size]) I9' (λb o hb e=>(hs10.2 b (λz=>hb (by rw[z]; exact Ab))).trans e) (λb hb=>by rw[Ag.mp hb]; exact fC),qn⟩
  ·have hit:=T.item X' eP eW eK eC i [] s6 _ H6 (λ_ _=>False) I6 (stat fr6) st6 go
   rw[eA] at hit
   refine Hn hit λr s7 q0_ => ?_
   obtain ⟨u,hr,h7⟩ := q0_
   subst hr
   refine Hn h7 λ_ s8 q0_ => ?_
   obtain ⟨y,H8,I8,r8,y8,st8,fr8⟩ := q0_
   have I8':=I8.pinned (stat fr8) (T.obj _ _ st8)
   obtain ⟨N1,N2,hN1,hN2,hst⟩:=step y H8 y8
   have again:∀{H9:Hp} {s9:Al} {m':Nat},Inv X' ([]++Vz fp s8.heap) (some y::La σ js) H9 s9->m'<n->W (i+1) m' H9->∃m,m<n/\∃i o H',Inv X' [] (o::La σ js) H' s9/\tn i s9.heap/\(∀b∈fp,H' b=none)/\W i m H':=λ{H9 s9 m'} I9 hm w9=>by
    refine ⟨m',hm,i+1,some y,H9,I9.unpinned,T.keep _ _ _ st8 λb hb o e=>(I9.pin (b,o) (Ao _ (Ao _ (Lu hb e)))).1,λb hb=>?_,w9⟩
    obtain ⟨o,e,_⟩:=T.obj _ _ st8 b hb
    exact (I9.pin (b,o) (Ao _ (Ao _ (Lu hb e)))).2.1
   subst hX'
   refine Hn (Yx (i:=0) (x:=x) (pos:=px) C.nd rfl (qK C.own) (yT C.own) _ s8 _ H8 y u (λσ' H'=>σ'=some y::La σ js/\H'=H8) I8' r8 ⟨rfl,rfl⟩) λ_ s9 q0_ => ?_
   obtain ⟨σ9,H9,I9,e9,e9'⟩ := q0_
   subst e9 e9'
   refine Hn (ht fp s3 _ _ s9 _ _ _ I9 hst) λok s10 q0_ => ?_
   obtain ⟨H10,I10,q10⟩ := q0_
   cases ok with
   | false =>
    rw[if_neg Gc] at q10 ⊢
    obtain ⟨m',hm,w10⟩:=hN1 _ q10
    exact again I10 hm w10
   | true =>
    rw[if_pos rfl] at q10 ⊢
    refine Hn (he fp s3 _ _ s10 _ _ _ I10 q10) λz s11 q0_ => ?_
    obtain ⟨vz,H11,I11,r11,q11⟩ := q0_
    obtain ⟨acc,ha,hz,m',hm,w11⟩:=hN2 _ _ q11
    refine Hn (Sg _ s11 _ H11 (.ref s2.heap.objs.size) [vz] (.ref s2.heap.objs.size) [z] (λ_ H'=>H'=upd H11 s2.heap.objs.size (.lst (acc++[vz]))) I11 rfl (.cons r11 .nil) ⟨_,acc,vz,rfl,rfl,ha,hz,rfl⟩) λ_ s12 q0_ => ?_
    obtain ⟨_,H12,I12,_,e12⟩ := q0_
    subst e12
    exact again I12 hm w11
 exact j5 (loop _ rfl) (T.self X.A 0 _ _ _ st4 (loop _ rfl))
end
end Nd
namespace Nd
open PySem L2
def zN(K:PySem.W.Frag):R2:=λx y H Q=>∃a b xs ys,x=.ref a/\y=.ref b/\Uj K H a xs/\Uj K H b ys/\xs.length+ys.length<=Bd/\(xs=[]->Q (.ref b) H)/\(ys=[]->Q (.ref a) H)/\(∀p,H p=none->Q (.ref p) (upd H p (.tup (xs++ys))))
open PyProof.Rows in
theorem oZ{X:Cx}:Uw X (Kc .Add) (zN X.K):=by
 intro pins s σ H x y v u Q I rx ry h
 obtain ⟨a,b,xs,ys,rfl,rfl,ha,hb,hz,q1,q3,q2⟩:=h
 by_cases hx:xs=[]
 ·cases rx
  cases ry
  obtain ⟨its,r1,p1,_⟩:=I.tuple ha
  obtain ⟨its2,r2,p2,_⟩:=I.tuple hb
  have e1:its=[]:=r1.nil_iff.mpr hx
  subst e1
  obtain ⟨⟨c1,d1,dt1,sl1⟩,g1,k1,n1,e1⟩:=id p1
  obtain ⟨⟨c2,d2,dt2,sl2⟩,g2,k2,n2,e2⟩:=id p2
  simp only at k1 e1 k2 e2
  subst k1 e1 k2 e2
  exact concat_meets ⟨_,g1,rfl⟩ ⟨_,g2,rfl⟩ iO seq_tuple_add PySem.F.slot_tuple_add PySem.F.entry_tuple_add (PySem.F.args_tuple_add_2 _ _)
   (tuple_addW0 a b _ _ n1 n2 d1 d2 sl1 sl2 rfl) ⟨g1,g2,⟨.ref b,H,I,rfl,q1 hx⟩⟩
 ·exact j9 pins s σ H (.ref a) (.ref b) v u Q I rx ry ⟨a,b,xs,ys,rfl,rfl,ha,hb,hx,hz,q3,λ_=>q2⟩
theorem eJ:∀{l:List Int},l.Nodup->l.Pairwise (·<=·)->l.Pairwise (· < ·)
 | [],_,_=>.nil
 | a::l,n,p=>by
  obtain ⟨h1,q1⟩:=Ba.mp p
  obtain ⟨m1,n1⟩:=Bt.mp n
  refine Ba.mpr ⟨λb hb=>?_,eJ n1 q1⟩
  have:=h1 b hb
  have : a≠b:=λz=>m1 (by rw[z]; exact hb)
  omega
end Nd
namespace Nd
open PySem PySem.Spec PyProof.Rows L2
end Nd
namespace Nd
open PySem L2
def GA(K:PySem.W.Frag):List V->Hp->VK->Prop:=λxs H Q=>∃x n t b,xs=[x,.ty n]/\TyOf K H x t/\PySem.W.kitOne K t (.type n)=some b/\Q (.bl b) H
theorem Ke{X:Cx}:Jz X (.builtin "isinstance") (GA X.K):=jJ
theorem R5{K:PySem.W.Frag}{T:String}:PySem.W.kitOne K (.type T) (.type T)=some true:=by
 unfold PySem.W.kitOne
 rw[if_pos (by simp)]
theorem compScope0{X:Cx}{scope:Scope}{x:Str}(clos:closureFor scope X.env=pure [])(nocell:∀y∈scope.names,y.2≠.cell)(kind:scope.kind=.function)(locs:∀y∈scope.names,y.2=.local->scope.names.lookup y.1=some .local)(own:scope.names.lookup x=some .local)(has_:(scope.names.all λy=>!(y.2 == Ei) || (([]:List (Str×Addr)).lookup y.1).isSome)=true):CompScope X scope [] x [] [] :=
 ⟨clos,.inl nocell,kind,locs,.inl own,λ_ _ h=>by simp at h,has_,Bt.mpr ⟨Bk,Cv⟩,rfl,λk y j e1 _=>by simp at e1⟩
theorem sz{n:Nat}(h:n<=1000:=by first | decide | simp | (simp; omega)):n<=Bd:=Kt (sZ h)
end Nd
namespace Nd
open PySem PySem.Spec PyProof.Rows L2
theorem P9{K:PySem.W.Frag}{T n:String}{b:Bool}(h1:(Fh T == Fh n)=false)(h2:PySem.W.kitMeta n=true)(h3:(fastBuiltinMro T).map (λx=>x.contains (Fh n))=some b):PySem.W.kitOne K (.type T) (.type n)=some b:=by
 unfold PySem.W.kitOne PySem.W.kitCls
 rw[h1,if_neg (by decide)]
 dsimp only
 rw[if_pos h2]
 exact h3
theorem mC(xs:Array Value):((Bh xs.size).filterMap λ(k:Nat)=>xs[((xs.size:Int) - 1+(k:Int) * (-1)).toNat]?).toArray=xs.toList.reverse.toArray:=by
 congr 1
 have h:∀n,n<=xs.size->((Bh n).filterMap λ(k:Nat)=>xs[((xs.size:Int) - 1+(k:Int) * (-1)).toNat]?)=xs.toList.reverse.take n:=by
  intro n
  induction n with
  | zero=>intro _; simp
  | succ n ih =>
   intro hn
   rw[List.range_succ,List.filterMap_append,ih (by omega)]
   have e:((xs.size:Int) - 1+(n:Int) * (-1)).toNat=xs.size - 1 - n:=by omega
   have lt:n<xs.toList.reverse.length:=by rw[Ez,Ar]; omega
   rw[List.take_add_one,Bf lt]
   congr 1
   simp only[Gm,List.filterMap_nil,e]
   rw[Cr (by omega),List.getElem_reverse]
   simp
 have:=h xs.size (An _)
 rw[this]
 rw[Jc (by rw[Ez,Ar]; exact An _)]
section
variable{X:Cx}{e k:Expr}{te:TE}{pos p1 p2:Pos}
theorem kK{prog:Bs}{w:World}{A:Dj}{E:Value->Al->Prop}{s:Al}{sl:Addr}{os:Obj}{t:Tok}{n:Nat}{Q:Int×Int×Nat->Al->Prop}(hos:s.heap.get? sl=some os)(hds:os.data=.fields #[.none,.none,.int (-1) t])(h:Q ((n:Int) - 1,-1,n) s):wpAny (model prog w) A (Iy (.ref sl) (pure (n:Int))) Q E s:=by
 unfold Iy Wx
 refine Ae (Ae (Rw hos hds (x:=.none) rfl (Ae (Rw hos hds (x:=.none) rfl (Ae (Rw hos hds (x:=.int (-1) t) rfl (Ak ?_)))))))
 refine Ae (slicePart_int ?_)
 show wpAny _ _ (if ((-1:Int) == 0)=true then _ else _) _ _ s
 rw[if_neg (by decide)]
 refine Ae (Xk (Ae (Xk (Ae (Ak ?_)))))
 have e1:Gn none none (-1) (n:Int)=((n:Int) - 1,-1):=rfl
 have e2:Ea ((n:Int) - 1) (-1) (-1)=n:=by
  unfold Ea
  rw[if_neg (by decide),show (-(-1):Int)=1 from rfl,Int.ediv_one]
  split <;> omega
 show wpAny _ _ (match Gn none none (-1) (n:Int) with | (lo,hi)=>pure (lo,(-1:Int),Ea lo hi (-1))) _ _ s
 rw[e1]
 show wpAny _ _ (pure ((n:Int) - 1,(-1:Int),Ea ((n:Int) - 1) (-1) (-1))) _ _ s
 rw[e2]
 exact Ak h
theorem iZ{prog:Bs}{w:World}{A:Dj}{E:Value->Al->Prop}{s:Al}{tp sl:Addr}{items:Array Value}{os:Obj}{t:Tok}{Q:Value->Al->Prop}(ht:IsTup s.heap tp items)(hos:s.heap.get? sl=some os)(hcs:os.cls=.type "slice")(hds:os.data=.fields #[.none,.none,.int (-1) t])(h:Q (.ref s.heap.objs.size) { s with heap:=s.heap.push { cls:=.type "tuple",data:=.seq items.toList.reverse.toArray } })(hsz:items.size<=Bd):wpAny (model prog w) A (Ow (.ref tp) (.ref sl)) Q E s:=by
 have hTs:s.TypeIs (.ref sl) "slice" := ⟨os,hos,hcs⟩
 have sz:sizeOk (.seq items.toList.reverse.toArray):=by
  show items.toList.reverse.toArray.size<=Bd
  rw[Aq,Ez,Ar]
  exact hsz
 unfold Ow
 try with_reducible refine Dz ?_
 first | refine Ae (Ak ?_) | skip
 refine Ae (Rv ht.typeIs (by decide) ?_)
 refine Ae (Gw (name:=Gz "__getitem__") ht.typeIs Ct (Gf Ct ht.typeIs Yz ?_ (bZ _ _)))
 show wpAny _ _ (Mt (.ref tp) >>= _) _ _ s
 refine Ae (tupleItemsOf_ ht (Ae (Na hTs ?_)))
 rw[if_pos (by decide)]
 refine Ae (kK hos hds ?_)
 show wpAny _ _ (if (((items.size:Int) - 1) == 0 && (-1:Int) == 1 && items.size == items.size)=true then _ else _) _ _ s
 rw[if_neg (by simp),mC]
 first
  | exact Ae (m:=Di _) (Dk (Ak ⟨_,rfl,Ak h⟩) sz)
  | exact Ae (m:=Di _) (Dk (Ae (Ak (Ak ⟨_,rfl,Ak h⟩))) sz)
  | exact Ae (Ae (m:=Di _) (Dk (Ak (Ak ⟨_,rfl,Ak h⟩)) sz))
  | exact Ae (Ae (m:=Di _) (Dk (Ak ⟨_,rfl,Ak h⟩) sz))
theorem O4(he:PE X e te){tk:TE}(hk:PE X k tk)(htk:∀σ H Q,Q (.int (-1)) H->tk σ H Q):PE X (.Subscript e (.Slice none none (some k) p2) pos) (λσ H Q=>te σ H λx H1=>∃a xs,x=.ref a/\Uj X.K H1 a xs/\∀p,H1 p=none->Q (.ref p) (upd H1 p (.tup xs.reverse))):=by
 intro pins s σ H Q I h
 refine cA (Hn (he pins s σ H _ I h) λv s1 q0_ => ?_)
 obtain ⟨x,H1,I1,r1,a,xs,e1,hx,q⟩ := q0_
 subst e1
 cases r1
 refine wpAny_Slice ?_
 rw[bQ]
 refine Ak (Ak ?_)
 rw[evalPart_some]
 refine Hn (hk pins s1 σ H1 (λy H2=>y=.int (-1)/\H2=H1) I1 (htk _ _ _ ⟨rfl,rfl⟩)) λvk s2 q0_ => ?_
 obtain ⟨y,H2,I2,r2,e2,e3⟩ := q0_
 subst e2
 subst e3
 obtain ⟨t,rfl⟩:=r2
 have I3:Inv X pins σ H2 { s2 with heap:=s2.heap.push { cls:=.type "slice",data:=.fields #[.none,.none,.int (-1) t] } }:=I2.kept (t':=s2.toks) λb ob q=>Am _ q
 obtain ⟨its,r,ht,hz⟩:=I3.tuple hx
 show wpAny (model X.prog X.w) X.A (Sx e (.Slice none none (some k) p2) (.ref a) (.ref s2.heap.objs.size)) (EP X pins σ Q) X.xe { s2 with heap:=s2.heap.push { cls:=.type "slice",data:=.fields #[.none,.none,.int (-1) t] } }
 have hlen:its.toArray.size=xs.length:=by rw[Aq]; exact r.length.symm
 refine tail_any (ops:=[.ref a,.ref s2.heap.objs.size]) (T := "tuple") ht.typeIs Ct.lookup (iZ ht (Bl _ rfl) rfl rfl ?_ (by rw[hlen]; exact hz)) (by with_unfolding_all rfl)
 refine ⟨.ref _,_,I3.laid (o:=.tup xs.reverse) (t':=s2.toks) (λb ob q=>Am _ q) (An _) ⟨by rw[Ez]; exact hz,its.reverse,r.reverse,_,Bl _ rfl,rfl,0,by simp⟩,rfl,q _ (I3.hok.fresh (An _))⟩
end
theorem F5:∀{vs:List Value} {ns:List Int},Lg vs ns->Fe (ns.map V.int) vs
 | _,_,.nil=>.nil
 | _,_,.cons n t h=>.cons ⟨t,rfl⟩ (F5 h)
section
variable{X:Cx}
theorem i5(xs:Array Value):slicePick xs none none (some (-1))=xs.toList.reverse.toArray:=by
 rw[<- mC]
 unfold slicePick
 congr 1
 have e1:sliceRange (Jr none none (some (-1)) xs.size).1 (Jr none none (some (-1)) xs.size).2.1 (Jr none none (some (-1)) xs.size).2.2=(Bh xs.size).map λ(k:Nat)=>((xs.size:Int) - 1+(k:Int) * (-1)).toNat:=by
  show sliceRange ((xs.size:Int) - 1) (-1) (-1)=_
  unfold sliceRange
  have c:(if (-1:Int) > 0 then (if (xs.size:Int) - 1 < -1 then (-1 - ((xs.size:Int) - 1) + -1 - 1) / -1 else 0) else (if (xs.size:Int) - 1 > -1 then ((xs.size:Int) - 1 - -1 - -1 - 1) / (- -1) else 0)).toNat=xs.size:=by
   rw[if_neg (by decide),show (- -1:Int)=1 from rfl,Int.ediv_one]
   split <;> omega
  dsimp only
  rw[c]
  refine Ii λk _=>?_
  congr 1
  omega
 rw[e1,List.filterMap_map]
 rfl
end
end Nd
namespace NdS
open PySem
theorem Uq{mask finger moves:Nat}{led plain:Bool}{hs:Array Int}{t:Bi}{order:Array Nat}(h:Gj mask finger moves led plain hs=some (t,order)):t.led=led/\t.mask=mask/\t.plain=plain/\t.dummies=#[]:=by
 unfold Gj at h
 cases hl:Ji mask hs with
 | none=>rw[hl] at h; cases h
 | some owner =>
  rw[hl] at h
  cases h
  exact ⟨rfl,rfl,rfl,rfl⟩
def st(m i:Nat):Nat:=(i * 5+1) % m
def it(m:Nat):Nat->Nat->Nat
 | 0,i=>i
 | t+1,i=>it m t (st m i)
theorem aN(m:Nat):∀(a b i:Nat),it m (a+b) i=it m b (it m a i)
 | 0,b,i=>by rw[Mk]; rfl
 | a+1,b,i=>by rw[Xp]; exact aN m a b (st m i)
def Y6(m:Nat):Nat->Nat->List Nat
 | 0,_=>[]
 | f+1,i=>i::Y6 m f (st m i)
theorem Yv{m:Nat}:∀{f i e:Nat},e∈Y6 m f i->∃t,t<f/\it m t i=e
 | 0,_,_,h=>by cases h
 | f+1,i,e,h=>by
  rcases Ai.mp h with z | z
  ·exact ⟨0,Ks _,z.symm⟩
  ·obtain ⟨t,h1,h2⟩:=Yv z
   exact ⟨t+1,Nat.succ_lt_succ h1,h2⟩
def Jf(m:Nat):Prop:=0<m/\it m m 0=0/\∀e,e<m->e∈Y6 m m 0
theorem Pw{m:Nat}(h0:0<m)(h1:(it m m 0 == 0)=true)(h2:((Bh m).all λe=>(Y6 m m 0).contains e)=true):Jf m :=
 ⟨h0,by simpa using h1,λe he=>by
  have:=bS.mp h2 e (Cu.mpr he)
  simpa using this⟩
theorem pP:Jf 8:=Pw (by decide) (by decide +kernel) (by decide +kernel)
theorem zS:Jf 16:=Pw (by decide) (by decide +kernel) (by decide +kernel)
theorem xE:Jf 32:=Pw (by decide) (by decide +kernel) (by decide +kernel)
theorem zR:Jf 64:=Pw (by decide) (by decide +kernel) (by decide +kernel)
theorem pK:Jf 128:=Pw (by decide) (by decide +kernel) (by decide +kernel)
theorem iA:Jf 256:=Pw (by decide) (by decide +kernel) (by decide +kernel)
theorem AY{m:Nat}(g:Jf m){i e:Nat}(hi:i<m)(he:e<m):∃t,t<m/\it m t i=e:=by
 obtain ⟨h0,h1,h2⟩:=g
 obtain ⟨a,ha,ea⟩:=Yv (h2 i hi)
 obtain ⟨b,hb,eb⟩:=Yv (h2 e he)
 by_cases hab:a<=b
 ·refine ⟨b - a,by omega,?_⟩
  rw[<- ea,<- aN,Nat.add_sub_cancel' hab]
  exact eb
 ·refine ⟨b+m - a,by omega,?_⟩
  rw[<- ea,<- aN,show a+(b+m - a)=m+b by omega,aN,h1]
  exact eb
def lp(m:Nat):Nat->Nat->Nat->Nat×Nat
 | 0,i,p=>(i,p)
 | t+1,i,p=>lp m t ((i * 5+1+p / 32) % m) (p / 32)
theorem e7(m:Nat):∀(a b i p:Nat),lp m (a+b) i p=lp m b (lp m a i p).1 (lp m a i p).2
 | 0,b,i,p=>by rw[Mk]; rfl
 | a+1,b,i,p=>by rw[Xp]; exact e7 m a b _ _
theorem qJ(m:Nat):∀(t i:Nat),lp m t i 0=(it m t i,0)
 | 0,_=>rfl
 | t+1,i=>qJ m t (st m i)
theorem lE{m:Nat}:∀(n i p:Nat),p<32 ^ n->(lp m n i p).2=0
 | 0,i,p,h=>by show p=0; simpa using h
 | n+1,i,p,h=>lE n _ _ (by rw[Nat.pow_succ] at h; exact Nat.div_lt_of_lt_mul (by omega))
theorem L1{m:Nat}(h0:0<m):∀(n i p:Nat),i<m->(lp m n i p).1<m
 | 0,i,p,h=>h
 | n+1,i,p,h=>L1 h0 n _ _ (Jj _ h0)
theorem aM{m:Nat}(g:Jf m){i p e:Nat}(hi:i<m)(hp:p<2 ^ 64)(he:e<m):∃t,t<m+14/\(lp m t i p).1=e:=by
 have h13:=lE (m:=m) 13 i p (Ca hp (by decide))
 obtain ⟨t,ht,e1⟩:=AY g (L1 g.1 13 i p hi) he
 refine ⟨13+t,by omega,?_⟩
 rw[e7,h13,qJ]
 exact e1
theorem Nv(mask i:Nat):i<=Cp mask i:=by unfold Cp; split <;> omega
theorem dA{mask:Nat}{owner:Array (Option Nat)}:∀(fuel i p t:Nat),t<fuel->(owner.getD (lp (mask+1) t i p).1 (some 0)).isNone=true->∃j,Dr mask owner fuel i p=some j/\(owner.getD j (some 0)).isNone=true
 | 0,_,_,_,h,_=>absurd h (Dw _)
 | fuel+1,i,p,t,h,hn=>by
  unfold Dr
  split
  ·rename_i k hk
   exact ⟨i+k,rfl,by have:=Td hk; exact this⟩
  ·rename_i hk
   rw[List.find?_eq_none] at hk
   cases t with
   | zero =>
    have:=hk 0 (Cu.mpr (by have:=Nv mask i; omega))
    exact absurd hn (by simpa [lp] using this)
   | succ t =>
    exact dA fuel _ _ t (by omega) hn
theorem Ua{L:List (Option Nat)}:∀{j x:Nat},L[j]? = some none->((L.set j (some x)).filterMap id).Perm (x::L.filterMap id):=by
 induction L with
 | nil=>intro j x h; simp at h
 | cons a L ih =>
  intro j x h
  cases j with
  | zero =>
   simp at h
   subst h
   simp
  | succ j =>
   have h':L[j]? = some none:=by simpa using h
   have:=ih (x:=x) h'
   cases a with
   | none=>simpa using this
   | some b=>simpa using (Ra b this).trans (Jm x b _)
theorem uA{L:List (Option Nat)}:(L.filterMap id).length<L.length->∃j:Nat,L[j]? = some none:=by
 induction L with
 | nil=>intro h; simp at h
 | cons a L ih =>
  intro h
  cases a with
  | none=>exact ⟨0,rfl⟩
  | some b =>
   have : (L.filterMap id).length<L.length:=by simpa using h
   obtain ⟨j,hj⟩:=ih this
   exact ⟨j+1,by simpa using hj⟩
theorem iH(h:Int):Bw h<2 ^ 64:=by
 unfold Bw
 have h1:=Int.emod_nonneg h (show (2 ^ 64:Int)≠0 by decide)
 have h2:=Int.emod_lt_of_pos h (show (0:Int)<2 ^ 64 by decide)
 omega
def fX(mask:Nat)(acc:Option (Array (Option Nat)×Nat))(h:Int):Option (Array (Option Nat)×Nat):=do
 let (owner,k) <- acc
 let j <- Dr mask owner (Da mask) (Bw h % (mask+1)) (Bw h)
 pure (owner.setIfInBounds j (some k),k+1)
theorem jS{mask:Nat}(g:Jf (mask+1)):∀(hs:List Int) (owner:Array (Option Nat)) (n:Nat),owner.size=mask+1->(owner.toList.filterMap id).Perm (Bh n)->n+hs.length<=mask->∃owner':Array (Option Nat),hs.foldl (fX mask) (some (owner,n))=some (owner',n+hs.length)/\owner'.size=mask+1/\(owner'.toList.filterMap id).Perm (Bh (n+hs.length))
 | [],owner,n,h1,h2,_=>⟨owner,rfl,h1,h2⟩
 | h::hs,owner,n,h1,h2,h3=>by
  rw[Be] at h3
  have len:(owner.toList.filterMap id).length=n:=by rw[h2.length_eq,Cy]
  obtain ⟨e,he⟩:=uA (L:=owner.toList) (by rw[len,Ar]; omega)
  have he':e<mask+1:=by
   have:=(Av.mp he).1
   rw[Ar] at this
   omega
  obtain ⟨t,ht,et⟩:=aM g (i:=Bw h % (mask+1)) (p:=Bw h) (e:=e) (Jj _ g.1) (iH h) he'
  have hn:(owner.getD (lp (mask+1) t (Bw h % (mask+1)) (Bw h)).1 (some 0)).isNone=true:=by
   rw[et,Dl,<- Hi,he]
   rfl
  obtain ⟨j,ej,hj⟩:=dA (mask:=mask) (owner:=owner) (Da mask) _ _ t (by unfold Da; omega) hn
  have hj':owner.toList[j]? = some none:=by
   rw[Dl,<- Hi] at hj
   cases q:owner.toList[j]? with
   | none=>rw[q] at hj; simp at hj
   | some v =>
    rw[q] at hj
    cases v with
    | none=>rfl
    | some v=>simp at hj
  have e1:fX mask (some (owner,n)) h=some (owner.setIfInBounds j (some n),n+1):=by
   show (do
    let j <- Dr mask owner (Da mask) (Bw h % (mask+1)) (Bw h)
    pure (owner.setIfInBounds j (some n),n+1))=_
   rw[ej]
   rfl
  rw[Tc,e1]
  have p1:((owner.setIfInBounds j (some n)).toList.filterMap id).Perm (Bh (n+1)):=by
   rw[Array.toList_setIfInBounds]
   refine (Ua hj').trans ?_
   rw[List.range_succ]
   exact (Ra n h2).trans (Js (l₁:=[n]) (l₂:=Bh n))
  obtain ⟨o',q1,q2,q3⟩:=jS g hs (owner.setIfInBounds j (some n)) (n+1) (by rw[iQ]; exact h1) p1 (by omega)
  refine ⟨o',?_,q2,?_⟩
  ·rw[q1,Be]
   congr 2
   omega
  ·rw[Be,show n+(hs.length+1)=n+1+hs.length by omega]
   exact q3
theorem kN{mask:Nat}(g:Jf (mask+1))(hs:Array Int)(hl:hs.size<=mask):∃owner:Array (Option Nat),Ji mask hs=some owner/\owner.size=mask+1/\(owner.toList.filterMap id).Perm (Bh hs.size):=by
 have h0:((Oa (mask+1) (none:Option Nat)).toList.filterMap id).Perm (Bh 0):=by
  rw[Array.toList_replicate]
  simp
 obtain ⟨o,h1,h2,h3⟩:=jS g hs.toList (Oa (mask+1) none) 0 (by simp) h0 (by simpa using hl)
 rw[Ar,Mk] at h1 h3
 refine ⟨o,?_,h2,h3⟩
 unfold Ji
 rw[<- Array.foldl_toList]
 show (hs.toList.foldl (fX mask) (some (Oa (mask+1) none,0))).map (·.1)=some o
 rw[h1]
 rfl
theorem nY(owner:Array (Option Nat)):((Bh owner.size).filterMap λj=>(owner.getD j none).map λx=>(j,x)).map (·.2)=owner.toList.filterMap id:=by
 obtain ⟨L⟩:=owner
 simp only[Aq]
 have h:∀(L:List (Option Nat)) (pre:List (Option Nat)),((List.range' pre.length L.length).filterMap λj=>(((pre++L)[j]?).getD none).map λx=>(j,x)).map (·.2)=L.filterMap id:=by
  intro L
  induction L with
  | nil=>intro pre; rfl
  | cons a L ih =>
   intro pre
   rw[Be,List.range'_succ,Gm]
   have e:((pre++a::L)[pre.length]?).getD none=a:=by simp
   have ih':=ih (pre++[a])
   rw[Az,Hj,Dq,List.singleton_append] at ih'
   cases a with
   | none =>
    simp only[e,Option.map_none,List.filterMap_cons_none,id]
    exact ih'
   | some b =>
    simp only[e,Option.map_some,Bb,List.filterMap_cons_some,id]
    rw[ih']
    simp
 have:=h L []
 rw[Os,<- List.range_eq_range',List.nil_append] at this
 rw[<- this]
 congr 1
 congr 1
 funext j
 rw[Dl]
 simp
theorem j8{mask finger moves:Nat}{led plain:Bool}(g:Jf (mask+1))(hs:Array Int)(hl:hs.size<=mask):∃(t:Bi) (order:Array Nat),Gj mask finger moves led plain hs=some (t,order)/\order.toList.Perm (Bh hs.size)/\t.fits hs.size=true/\t.led=led:=by
 obtain ⟨o,h1,h2,h3⟩:=kN g hs hl
 have e:Gj mask finger moves led plain hs=some ({ mask:=mask,place:=(((Bh (mask+1)).filterMap λj=>(o.getD j none).map λx=>(j,x)).map (·.1)).toArray,dummies:=#[],finger:=finger,led:=led,moves:=moves,plain:=plain },
   (((Bh (mask+1)).filterMap λj=>(o.getD j none).map λx=>(j,x)).map (·.2)).toArray):=by
  unfold Gj
  rw[h1]
  rfl
 have lo:=nY o
 rw[h2] at lo
 have len:((Bh (mask+1)).filterMap λj=>(o.getD j none).map λx=>(j,x)).length=hs.size:=by
  have:=congrArg Ha lo
  rw[Ad,h3.length_eq,Cy] at this
  exact this
 refine ⟨_,_,e,by rw[List.toList_toArray,lo]; exact h3,?_,rfl⟩
 simp only[SetTable.fits,Tv,Aq,Ad,len,Eu,beq_self_eq_true,true_and,decide_eq_true_eq]
 show hs.size+0<=mask
 omega
theorem xW{α:Type}(es:Array α){order:Array Nat}(p:order.toList.Perm (Bh es.size)):(order.filterMap (es[·]?)).toList.Perm es.toList/\(order.filterMap (es[·]?)).size=es.size:=by
 have e:(order.filterMap (es[·]?)).toList.Perm es.toList:=by
  rw[mG]
  have:=p.filterMap (es[·]?)
  rw[filterMap_getElem?_range] at this
  exact this
 exact ⟨e,by rw[<- Ar,e.length_eq,Ar]⟩
theorem aE{n:Nat}(h:n<256):∃m,Dx n=m+1/\Jf (m+1)/\n<=m:=by
 have key:∀k:Fin 256,(Dx k.1 == 8 && decide (k.1<8)) || (Dx k.1 == 16 && decide (k.1<16)) || (Dx k.1 == 32 && decide (k.1<32)) || (Dx k.1 == 64 && decide (k.1<64)) || (Dx k.1 == 128 && decide (k.1<128)) || (Dx k.1 == 256 && decide (k.1<256))=true:=by decide +kernel
 have q:=key ⟨n,h⟩
 simp only[Bool.or_eq_true,Eu,beq_iff_eq,decide_eq_true_eq] at q
 rcases q with ((((q | q) | q) | q) | q) | q
 ·exact ⟨7,q.1,pP,by omega⟩
 ·exact ⟨15,q.1,zS,by omega⟩
 ·exact ⟨31,q.1,xE,by omega⟩
 ·exact ⟨63,q.1,zR,by omega⟩
 ·exact ⟨127,q.1,pK,by omega⟩
 ·exact ⟨255,q.1,iA,by omega⟩
abbrev fM(p:Array Nat):Prop:=p.toList.Pairwise (· < ·)
theorem Sq{p:Array Nat}(r:fM p){i j:Nat}(h:i<j)(hj:j<p.size):p[i]'(by omega)<p[j]:=by
 have:=Ku.mp r i j (by rw[Ar]; omega) (by rw[Ar]; exact hj) h
 simpa using this
structure Below(p:Array Nat)(j b:Nat):Prop where
 le:b<=p.size
 lo:∀i (h:i<p.size),i<b->p[i]<j
 hi:∀i (h:i<p.size),b<=i->j<=p[i]
theorem Zs{p:Array Nat}{j:Nat}(r:fM p):∀(fuel lo hi:Nat),hi<=p.size->lo<=hi->hi - lo<=fuel->(∀i (h:i<p.size),i<lo->p[i]<j)->(∀i (h:i<p.size),hi<=i->j<=p[i])->Below p j (Ry p j fuel lo hi)
 | 0,lo,hi,h1,h2,h3,h4,h5=>by
  unfold Ry
  have e:lo=hi:=by omega
  exact ⟨by omega,λi h hl=>h4 i h hl,λi h hl=>h5 i h (by omega)⟩
 | fuel+1,lo,hi,h1,h2,h3,h4,h5=>by
  unfold Ry
  split
  ·rename_i hl
   have hm:(lo+hi) / 2<p.size:=by omega
   have e:p.getD ((lo+hi) / 2) j=p[(lo+hi) / 2]:=by simp [Array.getD,hm]
   dsimp only
   rw[e]
   split
   ·rename_i hc
    refine Zs r fuel _ hi h1 (by omega) (by omega) (λi h hi'=>?_) h5
    by_cases z:i=(lo+hi) / 2
    ·subst z; exact hc
    ·exact Tb (Sq r (show i<(lo+hi) / 2 by omega) hm) hc
   ·rename_i hc
    refine Zs r fuel lo _ (by omega) (by omega) (by omega) h4 (λi h hi'=>?_)
    by_cases z:i=(lo+hi) / 2
    ·subst z; omega
    ·exact By (by omega) (Kt (Sq r (show (lo+hi) / 2<i by omega) h))
  ·exact ⟨by omega,λi h hl=>h4 i h hl,λi h hl=>h5 i h (by omega)⟩
theorem Re{p:Array Nat}(r:fM p)(j:Nat):Below p j (Bj p j) :=
 Zs r _ _ _ (An _) (Ee _) (by omega) (λi h hl=>absurd hl (Dw _)) (λi h hl=>absurd hl (by omega))
theorem Below.eq{p:Array Nat}{j b b':Nat}(x:Below p j b)(y:Below p j b'):b=b':=by
 rcases Qq b b' with z | z | z
 ·have h:b<p.size:=Ca z y.le
  exact absurd (y.lo b h z) (Nat.not_lt.mpr (x.hi b h (An _)))
 ·exact z
 ·have h:b'<p.size:=Ca z x.le
  exact absurd (x.lo b' h z) (Nat.not_lt.mpr (y.hi b' h (An _)))
theorem jO{p:Array Nat}(r:fM p):Bj p 0=0 :=
 (Re r 0).eq ⟨Ee _,λi h hl=>absurd hl (Dw _),λi h _=>Ee _⟩
theorem nV{p:Array Nat}(r:fM p){i:Nat}(h:i<p.size):Bj p (p[i]+1)=i+1 :=
 (Re r _).eq ⟨h,λk hk hl=>by
  by_cases z:k=i
  ·subst z; exact Qz _
  ·exact Ml (Sq r (show k<i by omega) h),λk hk hl=>Sq r (show i<k by omega) hk⟩
structure TabOk(n:Nat)(t:Bi):Prop where
 good:Jf (t.mask+1)
 dum:t.dummies=#[]
 plain:t.plain=true
 rise:fM t.place
 top:∀j∈t.place.toList,j<=t.mask
 size:t.place.size=n
structure Tab(n:Nat)(t:Bi):Prop extends TabOk n t where
 room:n * 5<t.mask * 3
theorem Sf{t:Bi}{n:Nat}(x:Tab n t):n+1<=t.mask:=by have:=x.room; omega
theorem TabOk.fits{t:Bi}{n:Nat}(x:TabOk n t)(h:n<=t.mask):t.fits n=true:=by
 simp only[SetTable.fits,Tv,x.dum,x.size,Eu,beq_self_eq_true,true_and,decide_eq_true_eq]
 show n+0<=t.mask
 omega
theorem Tab.fits{t:Bi}{n:Nat}(x:Tab n t):t.fits n=true:=x.toTabOk.fits (by have:=Sf x; omega)
theorem Jn{t:Bi}{n j:Nat}(x:TabOk n t):t.slot j=.empty↔j∉t.place.toList:=by
 have nd:Vr t.dummies j=false:=by rw[x.dum]; rfl
 unfold Tu
 dsimp only
 rw[nd]
 constructor
 ·intro h hm
  obtain ⟨i,hi,e⟩:=List.mem_iff_getElem.mp hm
  rw[Ar] at hi
  have e':t.place[i]=j:=by simpa using e
  have b:Bj t.place j=i:=(Re x.rise j).eq ⟨Kt hi,λk hk hl=>by rw[<- e']; exact Sq x.rise hl hi,λk hk hl=>by
   by_cases z:i=k
   ·subst z; exact Nat.le_of_eq e'.symm
   ·rw[<- e']; exact Kt (Sq x.rise (show i<k by omega) hk)⟩
  rw[b,Cr hi,e',if_pos (by simp)] at h
  cases h
 ·intro h
  rw[if_neg (λz=>h ?_)]
  ·rfl
  ·have z':t.place[Bj t.place j]? = some j:=by simpa using z
   have:=Array.mem_of_getElem? z'
   exact Array.mem_def.mp this
theorem Rc{t:Bi}{n j:Nat}(x:TabOk n t):t.slot j≠.dummy:=by
 have nd:Vr t.dummies j=false:=by rw[x.dum]; rfl
 unfold Tu
 dsimp only
 rw[nd]
 split
 ·intro h; cases h
 ·intro h; cases h
theorem Su{mask i:Nat}(h:i<=mask):Cp mask i<=mask:=by unfold Cp; split <;> omega
theorem Lx(mask i:Nat):Cp mask i - i<=9:=by unfold Cp; split <;> omega
theorem Yu(mask i p:Nat):SetTable.leap mask i p=((i * 5+1+p / 32) % (mask+1),p / 32):=rfl
theorem aP{t:Bi}{n:Nat}{h:Int}(x:TabOk n t):∀(fuel u:Nat) (p:Do),p.more<=9->p.j+p.more<=t.mask->p.dummy=none->p.more+2+10 * u<=fuel->t.slot (lp (t.mask+1) (u+1) p.i p.perturb).1=.empty->∃j,Gx t (λ_=>h+1) h fuel p=some (.empty j none)/\t.slot j=.empty/\j<=t.mask
 | 0,u,p,_,_,_,h3,_=>absurd h3 (by omega)
 | fuel+1,u,p,h1,h2,hd,h3,h4=>by
  unfold Gx
  split
  ·rename_i hs
   exact ⟨p.j,by rw[hd],hs,by omega⟩
  ·rename_i hs
   exact absurd hs (Rc x)
  ·rw[if_neg (by simp; omega)]
   unfold Ib
   split
   ·rename_i hm
    exact aP x fuel u _ (by dsimp only; omega) (by dsimp only; omega) hd (by dsimp only; omega) h4
   ·rename_i hm
    rw[Yu]
    dsimp only
    have hi:(p.i * 5+1+p.perturb / 32) % (t.mask+1)<=t.mask:=Ot.mp (Jj _ (Ks _))
    cases u with
    | zero =>
     cases fuel with
     | zero=>omega
     | succ fuel =>
      unfold Gx
      dsimp only
      have h4':t.slot ((p.i * 5+1+p.perturb / 32) % (t.mask+1))=.empty:=h4
      rw[h4']
      exact ⟨_,by rw[hd],h4',hi⟩
    | succ u =>
     refine aP x fuel u _ (Lx _ _) ?_ hd ?_ h4
     ·dsimp only
      have:=Su hi
      have:=Nv t.mask ((p.i * 5+1+p.perturb / 32) % (t.mask+1))
      omega
     ·dsimp only
      have:=Lx t.mask ((p.i * 5+1+p.perturb / 32) % (t.mask+1))
      omega
theorem yQ:∀{l1 l2:List Nat},l1.Nodup->(∀e∈l1,e∈l2)->l1.length<=l2.length
 | [],_,_,_=>Ee _
 | a::l1,l2,nd,h=>by
  have nd':=Bt.mp nd
  have ha:=h a (Ab ..)
  have:=yQ (l2:=l2.erase a) nd'.2 λe he=>(Nu (show e≠a from λz=>nd'.1 (by rw[<- z]; exact he))).mpr (h e (Ah _ he))
  rw[Le ha] at this
  have p:0<l2.length:=Ly ha
  rw[Be]
  omega
theorem pD{m:Nat}{l:List Nat}(nd:l.Pairwise (· < ·))(h:l.length<m):∃e,e<m/\e∉l:=by
 refine Ft λz=>?_
 have all:∀e,e∈Bh m->e∈l:=λe he=>Ft λq=>z ⟨e,Cu.mp he,q⟩
 have:=yQ List.nodup_range all
 rw[Cy] at this
 omega
theorem iS{t:Bi}{n:Nat}(x:Tab n t)(h:Int):∃j,t.freeSlot h=some (j,false)/\j∉t.place.toList/\j<=t.mask:=by
 have hm:=Sf x
 obtain ⟨e,he,hn⟩:=pD (m:=t.mask+1) x.rise (by rw[Ar,x.size]; omega)
 obtain ⟨u,hu,eu⟩:=aM x.good (i:=Bw h % (t.mask+1)) (p:=Bw h) (e:=e) (Jj _ (Ks _)) (iH h) he
 have hi:Bw h % (t.mask+1)<=t.mask:=Ot.mp (Jj _ (Ks _))
 have key:∃j,t.probe (λ_=>h+1) h (t.probeStart h)=some (.empty j none)/\t.slot j=.empty/\j<=t.mask:=by
  unfold SetTable.probe
  cases u with
  | zero =>
   have e0:t.slot (Bw h % (t.mask+1))=.empty:=(Jn x.toTabOk).mpr (by rw[show Bw h % (t.mask+1)=e from eu]; exact hn)
   obtain ⟨f,hf⟩ : ∃f,10 * Da t.mask=f+1:=⟨10 * Da t.mask - 1,by unfold Da; omega⟩
   rw[hf]
   unfold Gx
   have e0':t.slot (t.probeStart h).j=.empty:=e0
   rw[e0']
   exact ⟨_,rfl,e0',hi⟩
  | succ u =>
   refine aP x.toTabOk _ u (t.probeStart h) (Lx _ _) ?_ rfl ?_ ?_
   ·have:=Su hi
    have:=Nv t.mask (Bw h % (t.mask+1))
    show Bw h % (t.mask+1)+(Cp t.mask (Bw h % (t.mask+1)) - Bw h % (t.mask+1))<=t.mask
    omega
   ·have:=Lx t.mask (Bw h % (t.mask+1))
    show Cp t.mask (Bw h % (t.mask+1)) - Bw h % (t.mask+1)+2+10 * u<=10 * Da t.mask
    unfold Da
    omega
   ·exact (Jn x.toTabOk).mpr (by rw[show (lp (t.mask+1) (u+1) (t.probeStart h).i (t.probeStart h).perturb).1=e from eu]; exact hn)
 obtain ⟨j,h1,h2,h3⟩:=key
 refine ⟨j,?_,(Jn x.toTabOk).mp h2,h3⟩
 unfold SetTable.freeSlot
 rw[h1]
 rfl
theorem Xc{p:Array Nat}(r:fM p){j:Nat}(h:j∉p.toList):fM (Bv p (Bj p j) j):=by
  have b:=Re r j
  show (Bv p (Bj p j) j).toList.Pairwise (· < ·)
  rw[Pk]
  have r1:(p.toList.take (Bj p j)).Pairwise (· < ·):=r.sublist (Hq _ _)
  have r2:(p.toList.drop (Bj p j)).Pairwise (· < ·):=r.sublist (List.drop_sublist _ _)
  have lo:∀e∈p.toList.take (Bj p j),e<j:=λe he=>by
    obtain ⟨i,hi,ei⟩:=iP.mp he
    rw[Ar] at hi
    have:=b.lo i (by omega) (by omega)
    rw[<- ei]
    simpa using this
  have hi:∀e∈p.toList.drop (Bj p j),j<e:=λe he=>by
    have hm:e∈p.toList:=List.mem_of_mem_drop he
    obtain ⟨i,hi,ei⟩:=List.mem_drop_iff_getElem.mp he
    rw[Ar] at hi
    have:=b.hi (i+Bj p j) (by omega) (by omega)
    have e1:j<=e:=by
      rw[<- ei]
      simpa [Nat.add_comm] using this
    exact Nat.lt_of_le_of_ne e1 λz=>h (by rw[z]; exact hm)
  simp only[List.pairwise_append,List.pairwise_cons,Ai,Ay]
  first
    | exact ⟨r1,⟨hi,r2⟩,λa ha c hc=>by
        rcases hc with z | z
        · rw[z]; exact lo a ha
        · exact Tb (lo a ha) (hi c z)⟩
    | (refine ⟨⟨r1,⟨by simp,Eh⟩,λa ha c hc=>?_⟩,r2,λa ha c hc=>?_⟩
       · have z:c=j:=by simpa using hc
         rw[z]; exact lo a ha
       · rcases ha with z | z | z
         · exact Tb (lo a z) (hi c hc)
         · rw[z]; exact hi c hc
         · cases z)
theorem R6{t:Bi}{es:Array (Int×Value)}(x:Tab es.size t)(h:Int)(v:Value):∃(es1:Array (Int×Value)) (t1:Bi),layNew t es h v=(es1,t1,false,false)/\es1.toList.Perm (es.toList++[(h,v)])/\es1.size=es.size+1/\TabOk es1.size t1/\t1.mask=t.mask/\t1.led=t.led:=by
 obtain ⟨j,h1,h2,h3⟩:=iS x h
 have hm:=Sf x
 have perm:=Ik es (Bj t.place j) (h,v)
 rw[Jt] at perm
 have size:(Bv es (Bj t.place j) (h,v)).size=es.size+1:=by
  rw[<- Ar,perm.length_eq,Az,Ar]
  rfl
 have p2:=Ik t.place (Bj t.place j) j
 rw[Jt] at p2
 have size2:(Bv t.place (Bj t.place j) j).size=es.size+1:=by
  rw[<- Ar,p2.length_eq,Az,Ar,x.size]
  rfl
 have nd:Vr t.dummies j=false:=by rw[x.dum]; rfl
 have ok:TabOk (es.size+1) { t with place:=Bv t.place (Bj t.place j) j } :=
  ⟨x.good,x.dum,x.plain,Xc x.rise h2,λe he=>by
   rcases Ay.mp (p2.mem_iff.mp he) with z | z
   ·exact x.top e z
   ·rw[Ag.mp z]; exact h3,size2⟩
 refine ⟨_,{ t with place:=Bv t.place (Bj t.place j) j },?_,perm,size,by rw[size]; exact ok,rfl,rfl⟩
 have f:({ t with place:=Bv t.place (Bj t.place j) j }:Bi).fits (Bv es (Bj t.place j) (h,v)).size=true:=by
  rw[size]
  exact ok.fits (by omega)
 unfold layNew
 rw[h1]
 simp only[SetTable.put,nd,Dg,if_false,SetTable.orStandIn,f,if_true,Ni]
theorem sF{mask finger moves:Nat}{led plain:Bool}{hs:Array Int}{t:Bi}{order:Array Nat}(h:Gj mask finger moves led plain hs=some (t,order)):fM t.place/\(∀j∈t.place.toList,j<=mask):=by
 unfold Gj at h
 cases hl:Ji mask hs with
 | none=>rw[hl] at h; cases h
 | some owner =>
  rw[hl] at h
  cases h
  have sub:∀(l:List Nat),l.Pairwise (· < ·)->(((l.filterMap λj=>(owner.getD j none).map λx=>(j,x)).map (·.1)).Pairwise (· < ·))/\∀j∈((l.filterMap λj=>(owner.getD j none).map λx=>(j,x)).map (·.1)),j∈l:=by
   intro l hl
   have m:∀j∈((l.filterMap λj=>(owner.getD j none).map λx=>(j,x)).map (·.1)),j∈l:=λj hj=>by
    obtain ⟨q,hq,rfl⟩:=Bq.mp hj
    obtain ⟨k,hk,ek⟩:=Jd.mp hq
    cases hg:owner.getD k none with
    | none=>rw[hg] at ek; cases ek
    | some v=>rw[hg] at ek; cases ek; exact hk
   refine ⟨?_,m⟩
   clear m
   induction l with
   | nil=>exact Eh
   | cons a l ih =>
    have hl':=Ba.mp hl
    have ih':=ih hl'.2
    rw[Gm]
    cases hg:owner.getD a none with
    | none=>simpa [hg] using ih'
    | some v =>
     simp only[Option.map_some,Bb,List.pairwise_cons]
     refine ⟨λj hj=>?_,ih'⟩
     obtain ⟨q,hq,rfl⟩:=Bq.mp hj
     obtain ⟨k,hk,ek⟩:=Jd.mp hq
     cases hg2:owner.getD k none with
     | none=>rw[hg2] at ek; cases ek
     | some v2=>rw[hg2] at ek; cases ek; exact hl'.1 k hk
  obtain ⟨s1,s2⟩:=sub (Bh (mask+1)) List.pairwise_lt_range
  exact ⟨s1,λj hj=>Ot.mp (Cu.mp (s2 j hj))⟩
theorem kJ{mask finger moves:Nat}{led:Bool}(g:Jf (mask+1))(hs:Array Int)(hl:hs.size * 5<mask * 3):∃(t:Bi) (order:Array Nat),Gj mask finger moves led true hs=some (t,order)/\order.toList.Perm (Bh hs.size)/\Tab hs.size t/\t.led=led:=by
 obtain ⟨t,order,h1,h2,h3,h4⟩:=j8 (finger:=finger) (moves:=moves) (led:=led) (plain:=true) g hs (by omega)
 obtain ⟨l1,l2,l3,l4⟩:=Uq h1
 obtain ⟨r1,r2⟩:=sF h1
 have sz:t.place.size=hs.size:=by
  have:=h3
  simp only[SetTable.fits,Eu,beq_iff_eq] at this
  exact this.1
 exact ⟨t,order,h1,h2,⟨⟨by rw[l2]; exact g,l4,l3,r1,by rw[l2]; exact r2,sz⟩,by rw[l2]; exact hl⟩,l1⟩
theorem uP{t:Bi}{es:Array (Int×Value)}{wanted:Nat}(hp:t.plain=true)(hw:wanted<256)(h2:es.size * 2<=wanted):∃(t':Bi) (order:Array Nat),t.relaid (es.map (·.1)) wanted=some (t',order)/\order.toList.Perm (Bh es.size)/\Tab es.size t'/\t'.led=t.led:=by
 obtain ⟨m,e1,g,hm⟩:=aE hw
 have sz:(es.map (·.1)).size=es.size:=Array.size_map ..
 have m7:7<=m:=by
  have : 8<=Dx wanted:=by
   have key:∀k:Fin 256,decide (8<=Dx k.1)=true:=by decide +kernel
   exact of_decide_eq_true (key ⟨wanted,hw⟩)
  omega
 obtain ⟨t',order,q1,q2,q3,q4⟩:=kJ (mask:=m) (finger:=t.finger) (moves:=t.movedTo m) (led:=t.led) g (es.map (·.1)) (by rw[sz]; omega)
 rw[sz] at q2 q3
 refine ⟨t',order,?_,q2,q3,q4⟩
 unfold SetTable.relaid
 rw[e1,Nat.add_sub_cancel,hp]
 exact q1
theorem lG{t:Bi}{es:Array (Int×Value)}(hp:t.plain=true)(hn:es.size<64):∃(es':Array (Int×Value)) (t':Bi),relayAll t es (Oo es.size)=(es',t',false)/\es'.toList.Perm es.toList/\es'.size=es.size/\Tab es'.size t'/\t'.led=t.led:=by
 have gr:Oo es.size=es.size * 4:=by unfold Oo; rw[if_neg (by omega)]
 obtain ⟨t',order,q1,q2,q3,q4⟩:=uP (t:=t) (es:=es) (wanted:=es.size * 4) hp (by omega) (by omega)
 obtain ⟨p1,p2⟩:=xW es q2
 refine ⟨order.filterMap (es[·]?),t',?_,p1,p2,by rw[p2]; exact q3,q4⟩
 unfold relayAll
 rw[gr,q1]
 dsimp only
 have c:coversAll order es.size=true:=by
  unfold coversAll
  exact List.isPerm_iff.mpr q2
 have f:t'.fits (order.filterMap (es[·]?)).size=true:=by rw[p2]; exact q3.fits
 rw[c,f]
 rfl
abbrev bt(w:World):Bool:=w.params.followText "set-order"
def bA:Int×Value->Int
 | (_,.int k _)=>k
 | _=>0
def aT(e:Int×Value):Prop:=∃k tk,e=(hashInt k,Ox k tk)
abbrev Np(es:Array (Int×Value)):List Int:=es.toList.map bA
abbrev Fx(es:Array (Int×Value))(ep:Nat)(t:Bi):Obj:={ cls:=.type "set",dict:=none,data:=.set es ep t }
structure SetS(w:World)(h:Heap)(a:Addr)(es:Array (Int×Value))(ep:Nat)(t:Bi):Prop where
 obj:h.get? a=some (Fx es ep t)
 ent:∀e∈es.toList,aT e
 nd:(Np es).Nodup
 tab:Tab es.size t
 led:bt w=false->t.led=true
 few:es.size<64
theorem SetS.keep{w:World}{h h':Heap}{a:Addr}{es:Array (Int×Value)}{ep:Nat}{t:Bi}(S:SetS w h a es ep t)(k:∀o,h.get? a=some o->h'.get? a=some o):SetS w h' a es ep t :=
 ⟨k _ S.obj,S.ent,S.nd,S.tab,S.led,S.few⟩
def ins(k:Int)(l:List Int):List Int:=if k∈l then l else k::l
theorem F9{prog:Bs}{w:World}{h:Heap}{a:Addr}{es:Array (Int×Value)}{ep:Nat}{t:Bi}(S:SetS w h a es ep t):ElemsOf (Cb prog w) es.toList:=λe he=>by
 obtain ⟨k,tk,rfl⟩:=S.ent e he
 exact ⟨⟨k,intKind_is _ _ _ _,rfl⟩,rfl⟩
theorem vZ{prog:Bs}{w:World}{e:Int×Value}(h:aT e)(k:Int):(Cb prog w).is k e.2=true↔bA e=k:=by
 obtain ⟨k',tk,rfl⟩:=h
 show Px k (.int k' tk)=true↔k'=k
 simp [Px]
 try exact eq_comm
theorem small{n:Nat}(h:n<64):n<=Bd:=by rw[Ig]; omega
theorem pE{es:Array (Int×Value)}{ep:Nat}{t:Bi}(es':Array (Int×Value))(t':Bi):Xn es' t' (Fx es ep t)=Fx es' (ep+1) t':=putSet_of es' t' rfl
theorem Ve{h:Heap}{a:Addr}{es:Array (Int×Value)}{ep:Nat}{t:Bi}(ho:h.get? a=some (Fx es ep t))(es':Array (Int×Value))(t':Bi):(h.update a (Xn es' t')).get? a=some (Fx es' (ep+1) t'):=by
 have:=Hk (Xn es' t') ho (by rw[pE]; rfl)
 rw[pE] at this
 exact this
section
variable{prog:Bs}{w:World}{A:Dj}{E:Value->Al->Prop}{s:Al}
theorem Mp{a:Addr}{es:Array (Int×Value)}{ep:Nat}{t:Bi}{Q:(Array (Int×Value)×Nat×Bi)->Al->Prop}(S:SetS w s.heap a es ep t)(h:Q (es,ep,t) s):wpAny (model prog w) A (setState a) Q E s :=
 fB S.obj rfl S.tab.fits h
theorem dI{es:Array (Int×Value)}{k:Int}(he:∀e∈es.toList,aT e):es.toList.findIdx? (λe=>(Cb prog w).is k e.2)=none↔k∉Np es:=by
 rw[List.findIdx?_eq_none_iff]
 constructor
 ·intro h hm
  obtain ⟨e,hm',rfl⟩:=Bq.mp hm
  have:=h e hm'
  rw[(vZ (he e hm') _).mpr rfl] at this
  cases this
 ·intro h e hm
  cases q:(Cb prog w).is k e.2 with
  | false=>rfl
  | true=>exact absurd (Bq.mpr ⟨e,hm,(vZ (he e hm) k).mp q⟩) h
theorem U1{a:Addr}{es:Array (Int×Value)}{ep:Nat}{t:Bi}{k:Int}{tk:Tok}{Q:Bool->Al->Prop}(S:SetS w s.heap a es ep t)(hn:es.size<63)(h:∀b es' ep' t' h',Fs a s.heap h'->SetS w h' a es' ep' t'->(Np es').Perm (ins k (Np es))->Q b { s with heap:=h' }):wpAny (model prog w) A (fG a (.int k tk) (hashInt k)) Q E s:=by
 unfold fG setAddHashedIn
 refine Dz (Ae (Mp S ?_))
 dsimp only
 rw[byScan_of (knd:=Cb prog w) (x:=.int k tk) rfl (Tb S.few (by decide)) (F9 S),if_pos rfl]
 unfold setAddByScan
 refine Ae (Ae (wpAny_rule (Ae ?_)))
 refine wpAny_setScan_of (knd:=Cb prog w) (k:=k) (intKind_is _ _ _ _) S.obj rfl S.tab.fits (F9 S) ?_
 cases hr:es.toList.findIdx? (λe=>(Cb prog w).is k e.2) with
 | some j =>
  dsimp only
  have hk:k∈Np es:=Ft λz=>by
   rw[(dI (prog:=prog) (w:=w) S.ent).mpr z] at hr
   cases hr
  refine Ak (Ak ?_)
  have:=h false es ep t s.heap (Heap.SameBut.refl a s.heap) S (by unfold ins; rw[if_pos hk])
  exact this
 | none =>
  dsimp only
  have hk:k∉Np es:=(dI (prog:=prog) (w:=w) S.ent).mp hr
  obtain ⟨es1,t1,e1,p1,z1,ok1,m1,l1⟩:=R6 S.tab (hashInt k) (.int k tk)
  rw[e1]
  dsimp only
  have ent1:∀e∈es1.toList,aT e:=λe he=>by
   rcases Ay.mp (p1.mem_iff.mp he) with z | z
   ·exact S.ent e z
   ·rw[Ag.mp z]; exact ⟨k,tk,rfl⟩
  have pk1:(Np es1).Perm (k::Np es):=by
   have:=p1.map bA
   rw[Bp] at this
   exact this.trans Js
  have nd1:(Np es1).Nodup:=pk1.nodup_iff.mpr (Bt.mpr ⟨hk,S.nd⟩)
  have few1:es1.size<64:=by omega
  have led1:bt w=false->t1.led=true:=λz=>by rw[l1]; exact S.led z
  refine Ae (m:=(pure ():Sem Unit)) (Ak ?_)
  rw[ok1.plain,if_pos rfl]
  refine Ae (m:=Rx 8 (.int k tk)) (Ak ?_)
  simp only[if_true]
  by_cases tf:t1.tooFull=true
  ·obtain ⟨es2,t2,e2,p2,z2,tab2,l2⟩:=lG (es:=es1) ok1.plain few1
   have ent2:∀e∈es2.toList,aT e:=λe he=>ent1 e (p2.mem_iff.mp he)
   have pk2:(Np es2).Perm (k::Np es):=(p2.map bA).trans pk1
   refine Ae (Nb S.obj rfl ?_ (small few1))
   rw[tf,if_pos (by decide),e2]
   dsimp only
   refine Ae (m:=(pure ():Sem Unit)) (Ak ?_)
   have o1:=Ve S.obj es1 t1
   refine Ae (Nb o1 rfl (Ak ?_) (small (by omega)))
   dsimp only
   refine Ak (h true es2 (ep+1+1) t2 _ ((Ck s.heap a _).trans (Ck _ a _)) ⟨Ve o1 es2 t2,ent2,pk2.nodup_iff.mpr (Bt.mpr ⟨hk,S.nd⟩),tab2,λz=>by rw[l2,l1]; exact S.led z,by omega⟩ ?_)
   unfold ins
   rw[if_neg hk]
   exact pk2
  ·have room:es1.size * 5<t1.mask * 3:=by
    have : ¬ (t1.fill * 5 ≥ t1.mask * 3):=λz=>tf (by unfold SetTable.tooFull; exact decide_eq_true z)
    have e:t1.fill=es1.size:=by
     unfold Tv
     rw[ok1.dum,ok1.size]
     rfl
    omega
   refine Ae (Nb S.obj rfl ?_ (small few1))
   rw[bT] at tf
   rw[tf]
   simp only[Pm,Dg,if_false]
   refine Ak ?_
   dsimp only
   refine Ak (h true es1 (ep+1) t1 _ (Ck s.heap a _) ⟨Ve S.obj es1 t1,ent1,nd1,⟨ok1,room⟩,led1,few1⟩ ?_)
   unfold ins
   rw[if_neg hk]
   exact pk1
end
theorem Gv{α:Type}:∀{l:List α} {i:Nat} (h:i<l.length),(l[i]::l.eraseIdx i).Perm l
 | [],_,h=>absurd h (Dw _)
 | a::l,0,h=>Nz _
 | a::l,i+1,h=>by
  have:=Gv (l:=l) (i:=i) (by simpa using h)
  exact (Jm a _ _).trans (Ra a this)
theorem qD{α:Type}(next:Nat->Nat):∀(fuel k:Nat) (left:List α) (out:Array α),left.length=fuel->(pickOrder.go next fuel k left out).toList.Perm (out.toList++left)
 | 0,k,left,out,h=>by
  unfold pickOrder.go
  have : left=[]:=cB h
  subst this
  simp
 | fuel+1,k,left,out,h=>by
  unfold pickOrder.go
  have hi:next k % left.length<left.length:=Jj _ (by omega)
  rw[Bf hi]
  dsimp only
  refine (qD next fuel (k+1) _ _ (by rw[List.length_eraseIdx,if_pos hi]; omega)).trans ?_
  rw[Jt,Dq]
  exact List.Perm.append_left _ (Gv hi)
theorem tM{α:Type}(next:Nat->Nat)(xs:Array α):(pickOrder next xs).toList.Perm xs.toList:=by
 unfold pickOrder
 simpa using qD next xs.size 0 xs.toList #[] (by simp)
section
variable{prog:Bs}{w:World}{A:Dj}{E:Value->Al->Prop}{s:Al}
theorem Wv{Q:Bool->Al->Prop}(h:Q (bt w) s):wpAny (model prog w) A setsByText Q E s:=by
 unfold setsByText
 exact Ae (iN (Ak h))
theorem B5{a:Addr}{es:Array (Int×Value)}{ep:Nat}{t:Bi}{Q:Array (Int×Value)->Al->Prop}(S:SetS w s.heap a es ep t)(h:Q (if bt w then pickOrder (w.params.setOrder a ep) es else es) s):wpAny (model prog w) A (setWalk a) Q E s:=by
 unfold setWalk
 refine Ae (Mp S ?_)
 dsimp only
 refine Ae (Wv ?_)
 cases hb:bt w with
 | true =>
  rw[hb] at h
  rw[if_pos rfl] at h ⊢
  exact Ae (iN (Ak h))
 | false =>
  have hl:=S.led hb
  have hp:=S.tab.plain
  rw[hb] at h
  obtain ⟨mask,place,dummies,finger,led,moves,plain⟩:=t
  have hl':led=true:=hl
  have hp':plain=true:=hp
  subst hl' hp'
  exact Ae (m:=(pure ():Sem Unit)) (Ak (Ak h))
theorem uF{a:Addr}{es:Array (Int×Value)}{ep:Nat}:(if bt w then pickOrder (w.params.setOrder a ep) es else es).toList.Perm es.toList:=by
 cases bt w with
 | true=>exact tM _ _
 | false=>exact Nz _
end
def kM(U:List Int)(l:List Int):Prop:=∀x∈l,x∈U
theorem len_leI:∀{l1 l2:List Int},l1.Nodup->(∀e∈l1,e∈l2)->l1.length<=l2.length
 | [],_,_,_=>Ee _
 | a::l1,l2,nd,h=>by
  have nd':=Bt.mp nd
  have ha:=h a (Ab ..)
  have:=len_leI (l2:=l2.erase a) nd'.2 λe he=>(Nu (show e≠a from λz=>nd'.1 (by rw[<- z]; exact he))).mpr (h e (Ah _ he))
  rw[Le ha] at this
  have p:0<l2.length:=Ly ha
  rw[Be]
  omega
theorem kM.size{U:List Int}{es:Array (Int×Value)}(h:kM U (Np es))(nd:(Np es).Nodup):es.size<=U.length:=by
 have:=len_leI nd h
 rw[Ad,Ar] at this
 exact this
theorem B2{x k:Int}{l:List Int}:x∈ins k l↔x=k\/x∈l:=by
 unfold ins
 split
 ·rename_i h
  constructor
  ·exact .inr
  ·rintro (z | z)
   ·rw[z]; exact h
   ·exact z
 ·rw[Ai]
theorem Xj:isSubtype (.type "set") (.type "set")=pure true:=by rw[isSubtype_type]; kernel_rfl
section
variable{prog:Bs}{w:World}{A:Dj}{E:Value->Al->Prop}{s:Al}
theorem SetS.ty{a:Addr}{es:Array (Int×Value)}{ep:Nat}{t:Bi}(S:SetS w s.heap a es ep t):s.TypeIs (.ref a) "set" := ⟨_,S.obj,rfl⟩
theorem sV{h:Heap}:SetS w (h.push (Fx #[] 0 (.fresh 0 0 (!bt w)))) h.objs.size #[] 0 (.fresh 0 0 (!bt w)) :=
 ⟨Bl _ rfl,(λe he=>by simp at he),Eh,⟨⟨pP,rfl,rfl,Eh,(λj hj=>by simp [SetTable.fresh] at hj),rfl⟩,by show 0 * 5<7 * 3; decide⟩,(λz=>by show (!bt w)=true; rw[z]; rfl),by decide⟩
end
end NdS
namespace NdS
open PySem PyProof.Rows
section
variable{prog:Bs}{w:World}{A:Dj}{R:Result->Al->Prop}
theorem vG{U:List Int}(hU:U.length<=62){a it l:Addr}(n1:a≠it)(n2:a≠l)(n3:l≠it){items:Array Value}{ns:List Int}(hI:Lg items.toList ns)(hN:kM U ns)(hh:A.in1.handled=none):∀(k i:Nat) (s:Al) (es:Array (Int×Value)) (ep:Nat) (t:Bi),items.size - i=k->i<=items.size->s.heap.IsTupleIter it l i->s.heap.IsTuple l items->SetS w s.heap a es ep t->kM U (Np es)->(∀es' ep' t' h' tk,(∀b o,b≠a->b≠it->s.heap.get? b=some o->h'.get? b=some o)->SetS w h' a es' ep' t'->(∀x,x∈Np es'↔x∈Np es\/x∈ns.drop i)->R (.ok (.ret .none)) { s with heap:=h',toks:=tk })->Ng (model prog w) A (.builtin "set.update.loop" ⟨[.ref a,.ref it],[]⟩) R s:=by
 have len:ns.length=items.size:=by rw[<- hI.length,Ar]
 intro k
 induction k with
 | zero =>
  intro i s es ep t hk hi hit hl S hu hR
  have e:i=items.size:=by omega
  refine Fz Ga ?_
  rw[Fj Dc _]
  show wpAny _ A.in1 (Uk (.ref it) >>= _) _ _ s
  refine Ae (i9 hh hit hl (by rw[e]; simp) λh' x=>?_)
  refine Ak (hR es ep t h' s.toks (λb o _ q e=>x b o q e) (S.keep λo q=>x a o n1 q) λx=>?_)
  rw[e,<- len,List.drop_length]
  simp
 | succ k ih =>
  intro i s es ep t hk hi hit hl S hu hR
  have lt:i<items.size:=by omega
  have lt':i<ns.length:=by omega
  obtain ⟨tk,ev⟩:=IntsAre.int_at hI i items[i] (by simp [lt])
  have eg:ns.getD i 0=ns[i]:=by simp [List.getD,lt']
  rw[eg] at ev
  refine Fz Ga ?_
  rw[Fj Dc _]
  show wpAny _ A.in1 (Uk (.ref it) >>= _) _ _ s
  refine Ae (i6 hit hl (x:=items[i]) (by simp [lt]) λh1 hit1 sb1=>?_)
  rw[ev]
  show wpAny _ A.in1 (Yh [Ox ns[i] tk] (setAdd a (.int ns[i] tk)) >>= _) _ _ _
  refine Ae (Dz ?_)
  unfold setAdd
  refine Dz (Ae ((Cb prog w).pyHash (k:=ns[i]) (intKind_is _ _ _ _) ?_))
  have S1:SetS w h1 a es ep t:=S.keep λo q=>(sb1.2 a n1).trans q
  have z:=hu.size S1.nd
  refine U1 (s:={ s with heap:=h1,toks:=s.toks+1 }) S1 (by omega) λb es2 ep2 t2 h2 sb2 S2 p2=>?_
  have m2:∀x,x∈Np es2↔x=ns[i]\/x∈Np es:=λx=>by rw[p2.mem_iff,B2]
  refine Ak ⟨Ov Dc _,?_⟩
  refine ih (i+1) { s with heap:=h2,toks:=s.toks+1 } es2 ep2 t2 (by omega) lt ?_ ?_ S2 (λx hx=>?_) λes3 ep3 t3 h3 tk3 k3 S3 m3=>?_
  ·obtain ⟨o,ho,r⟩:=hit1
   exact ⟨o,(sb2.2 it (Ny n1)).trans ho,r⟩
  ·obtain ⟨o,ho,r⟩:=hl
   exact ⟨o,(sb2.2 l (Ny n2)).trans ((sb1.2 l n3).trans ho),r⟩
  ·rcases (m2 x).mp hx with q | q
   ·rw[q]; exact hN _ (Il lt')
   ·exact hu x q
  ·refine hR es3 ep3 t3 h3 tk3 (λb o q1 q2 e=>k3 b o q1 q2 ((sb2.2 b q1).trans ((sb1.2 b q2).trans e))) S3 λx=>?_
   rw[m3,m2,List.drop_eq_getElem_cons lt',Ai]
   constructor
   ·rintro ((q | q) | q)
    ·exact .inr (.inl q)
    ·exact .inl q
    ·exact .inr (.inr q)
   ·rintro (q | q | q)
    ·exact .inl (.inr q)
    ·exact .inl (.inl q)
    ·exact .inr q
end
section
variable{prog:Bs}{w:World}{A:Dj}{E:Value->Al->Prop}{s:Al}
theorem jY(v:Value){Q:Value->Al->Prop}(h:Q (.ref s.heap.objs.size) { s with heap:=s.heap.push (Fx #[] 0 (.fresh 0 0 (!bt w))) }):Ng (model prog w) A (.call (.builtin "set.__new__") ⟨[.type "set",v],[]⟩) (wants Q E) s:=by
 have sub:=Xj
 obtain ⟨hp,g,d,tk,os⟩:=s
 refine Vq (show wpAny _ A.in1 (do checkBuiltinCall "set.__new__" ⟨[.type "set",v],[]⟩; again (.builtin "set.__new__" ⟨[.type "set",v],[]⟩)) _ _ _ from ?_)
 refine Ae (Mq (PySem.F.newCall_set_1 v) (Ak ⟨Ov PySem.F.plain_set_new _,Fz PySem.F.entry_set_new ?_⟩))
 rw[Fj PySem.F.plain_set_new _]
 unfold Builtin.«set.__new__» Builtin.Frozenset.newClass
 dsimp only
 wp_walk
 refine iN (Ak ?_)
 dsimp only
 simp only[newObj]
 exact Ae (wpAny_alloc (Ak (Ak h)))
theorem x9{U:List Int}(hU:U.length<=62){l:Addr}{items:Array Value}{ns:List Int}{Q:Value->Al->Prop}(hh:A.handled=none)(hl:s.heap.IsTuple l items)(hI:Lg items.toList ns)(hN:kM U ns)(h:∀es ep t h' tk,(∀b o,s.heap.get? b=some o->h'.get? b=some o)->SetS w h' s.heap.objs.size es ep t->(∀x,x∈Np es↔x∈ns)->Q (.ref s.heap.objs.size) { s with heap:=h',toks:=tk }):wpAny (model prog w) A (call (.type "set") [.ref l]) Q E s:=by
 obtain ⟨c,tl,hmro⟩:=PySem.F.called_set.mro
 have hmade:=PySem.F.called_set.made
 have hsub:=PySem.F.called_set.sub
 have h1:=PySem.F.called_set.notType
 have h2:=PySem.F.called_set.canCreate
 have hct:=PySem.F.typeCall_set_1 (.ref l)
 refine wpAny_call (Vq (show wpAny _ _ (callAny (.type "set") _) _ _ _ from ?_))
 refine Ak ⟨Code.quiet_builtin _ (by decide +kernel),Fz PySem.F.entry_type_call ?_⟩
 rw[Around.under_plain (weight_type_call_type "set" [.ref l] []) rfl]
 repeat (any_goals (first | assumption | wp_step))
 refine Lf (jY (.ref l) (E:=E) (Q:=λv s1=>v=.ref s.heap.objs.size/\s1={ s with heap:=s.heap.push (Fx #[] 0 (.fresh 0 0 (!bt w))) }) ⟨rfl,rfl⟩) λr s1 hr=>?_
 rcases r with e | (_ | _ | _ | v)
 ·exact hr
 ·exact hr.elim
 ·exact hr.elim
 ·exact hr.elim
 obtain ⟨rfl,rfl⟩:=hr
 have S0:=sV (w:=w) (h:=s.heap)
 have T0:Shared.TypeIs { s with heap:=s.heap.push (Fx #[] 0 (.fresh 0 0 (!bt w))) } (.ref s.heap.objs.size) "set" := ⟨_,S0.obj,rfl⟩
 have hli:=PySem.F.called_set.init.lookup
 have hbi:=PySem.F.called_set.init.bind (.ref s.heap.objs.size)
 repeat (any_goals (first | assumption | wp_step))
 refine Lf (codeAny_call_builtin (R:=wants (λr s2=>r=.none/\∃es ep t h' tk,s2={ s with heap:=h',toks:=tk }/\(∀b o,s.heap.get? b=some o->h'.get? b=some o)/\SetS w h' s.heap.objs.size es ep t/\∀x,x∈Np es↔x∈ns) E)
  PySem.F.called_set.init.plain PySem.F.entry_set_init (check_set_init_1 T0 ?_)) λr s2 hr=>?_
 ·obtain ⟨⟨oc,od,odt,osl⟩,ho,hc,n,hd⟩:=id hl
  have hc':oc=.type "tuple" := hc
  have hd':odt=.seq items n:=hd
  subst hc' hd'
  have ho':=Am (Fx #[] 0 (.fresh 0 0 (!bt w))) ho
  have hl1:(s.heap.push (Fx #[] 0 (.fresh 0 0 (!bt w)))).IsTuple l items:=⟨_,ho',rfl,n,rfl⟩
  have f1:=PySem.F.sub_tuple_set
  have f2:=PySem.F.sub_tuple_frozenset
  have f3:(Fh "tuple" == Fh "dict")=false:=by decide
  have lt:=Br ho
  unfold Builtin.«set.__init__» noKeywords Te
  generalize hPI:pyIter=PI
  wp_walk
  subst hPI
  refine wpAny_pyIter_tuple hl1 (Ae (wpAny_runValue ?_))
  have sz:(s.heap.push (Fx #[] 0 (.fresh 0 0 (!bt w)))).objs.size=s.heap.objs.size+1:=Heap.size_push _ _
  have g1:((s.heap.push (Fx #[] 0 (.fresh 0 0 (!bt w)))).push { cls:=.type "tuple_iterator",data:=.fields #[.ref l,.int 0 0] }).get? (s.heap.push (Fx #[] 0 (.fresh 0 0 (!bt w)))).objs.size=some { cls:=.type "tuple_iterator",data:=.fields #[.ref l,.int 0 0] }:=Bl _ rfl
  refine vG hU (by rw[sz]; exact Cs (Qz _)) (Nat.ne_of_gt lt) (by rw[sz]; exact Cs (Ml lt)) hI hN (by simp [hh]) (items.size - 0) 0 _ #[] 0 (.fresh 0 0 (!bt w)) rfl (Ee _) ⟨_,g1,rfl,rfl⟩ ⟨_,Am _ ho',rfl,n,rfl⟩
   (S0.keep λo q=>Am _ q) (λx hx=>by simp at hx) λes ep t h' tk k' S' m'=>?_
  refine Ak (Ak ⟨rfl,es,ep,t,h',tk,rfl,λb o e=>?_,S',λx=>?_⟩)
  ·have lb:=Br e
   exact k' b o (Cs lb) (by rw[sz]; exact Cs (Ml lb)) (Am _ (Am _ e))
  ·rw[m',List.drop_zero]
   simp
 ·rcases r with e | (_ | _ | _ | v)
  ·exact hr
  ·exact hr.elim
  ·exact hr.elim
  ·exact hr.elim
  obtain ⟨rfl,es,ep,t,h',tk,rfl,k',S',m'⟩:=hr
  repeat (any_goals (first | assumption | wp_step))
  exact h es ep t h' tk k' S' m'
end
theorem Si:Slot "set_iterator" "__next__" "set_iterator.__next__" :=
 .of (owner := "set_iterator") (n := "__next__") (by rw[typeLookup_type,builtinLookup_eq_fast]; kernel_rfl) (by decide +kernel) (by decide +kernel) (by decide +kernel) (by first | exact .inl (by decide +kernel) | exact .inr (by decide +kernel)) (by rw[isSubtype_type]; kernel_rfl)
theorem Zc:entryFor table "set_iterator.__next__" = some Builtin.«set_iterator.__next__»:=entryFor_of_tree (by kernel_rfl)
theorem cY(a:Value):argsOk "set_iterator.__next__" ⟨[a],[]⟩:=by unfold argsOk; kernel_rfl
theorem nQ:entryFor table "set.__iter__" = some Builtin.«frozenset.__iter__» :=
 entryFor_alias (id' := "frozenset.__iter__") (by kernel_rfl) (by first | rfl | decide +kernel) (by decide +kernel) (by kernel_rfl)
abbrev qX(f i:Nat)(a:Addr)(n ep:Nat):Obj:={ cls:=.type "set_iterator",data:=.fields #[Nc f,Nc i,.ref a,Nc n,Nc ep] }
def arrOf(w:World)(a:Addr)(ep:Nat)(es:Array (Int×Value)):Array (Int×Value):=if bt w then pickOrder (w.params.setOrder a ep) es else es
theorem yW{w:World}{a:Addr}{ep:Nat}{es:Array (Int×Value)}:(arrOf w a ep es).toList.Perm es.toList:=uF
theorem Po{w:World}{a:Addr}{ep:Nat}{es:Array (Int×Value)}:(arrOf w a ep es).size=es.size:=by
 have:=(yW (w:=w) (a:=a) (ep:=ep) (es:=es)).length_eq
 rw[Ar,Ar] at this
 exact this
def kT(w:World)(I a:Addr)(es:Array (Int×Value))(ep:Nat)(t:Bi)(i:Nat)(h:Heap):Prop :=
 (∃f,h.get? I=some (qX f i a es.size ep)/\(bt w=false->Bj t.place f=i))/\SetS w h a es ep t
section
variable{prog:Bs}{w:World}{A:Dj}{E:Value->Al->Prop}{s:Al}
theorem n8{a:Addr}{es:Array (Int×Value)}{ep:Nat}{t:Bi}{Q:Value->Al->Prop}(S:SetS w s.heap a es ep t)(h:Q (.ref s.heap.objs.size) { s with heap:=s.heap.push (qX 0 0 a es.size ep) }):wpAny (model prog w) A (pyIter (.ref a)) Q E s:=by
 refine wpAny_pyIter_slot S.ty PySem.F.slot_set_iter (Gf PySem.F.slot_set_iter S.ty nQ ?_ (PySem.F.args_set_iter_1 _))
 unfold Builtin.«frozenset.__iter__»
 refine Ae (m:=Builtin.Frozenset.slot0 "__iter__" ⟨[.ref a],[]⟩) (Mq (a:=a) rfl ?_)
 unfold Builtin.Frozenset.sizeOf bW setDrawn setEpoch
 refine Ae (Ae (Ae (Mp S (Ak (Ak ?_)))))
 refine Ae (Ae (Mp S ?_))
 dsimp only
 refine Ae (Wv (Ak ?_))
 have hp:=S.tab.plain
 have tail:wpAny (model prog w) A.in1 (do
   let first <- (pure (Nc 0):Sem Value)
   ret (<- newFields "set_iterator" [first,Nc 0,.ref a,Nc es.size,Nc (<- (do return (<- setState a).2.1))])) (λfin s'=>∃v,fin=.done (.ret v)/\∃T' r,s'.TypeIs v T'/\typeLookup (.type T') "__next__" = pure (some r)/\Q v s') E s:=by
  refine Ae (Ak ?_)
  refine Ae (Ae (Mp S (Ak ?_)))
  refine Ae (Dk (Ak ⟨_,rfl, "set_iterator",_,⟨_,Bl _ rfl,rfl⟩,Si.lookup,h⟩))
 obtain ⟨mask,place,dummies,finger,led,moves,plain⟩:=t
 have hp':plain=true:=hp
 subst hp'
 cases hb:bt w with
 | true=>exact tail
 | false=>exact tail
theorem Zq{a:Addr}{es:Array (Int×Value)}{ep f i:Nat}{t:Bi}{Q:Option (Value×Nat)->Al->Prop}(S:SetS w s.heap a es ep t)(hf:bt w=false->Bj t.place f=i)(h1:∀(hi:i<es.size) f',(bt w=false->Bj t.place f'=i+1)->Q (some (((arrOf w a ep es)[i]'(by rw[Po]; exact hi)).2,f')) s)(h2:es.size<=i->Q none s):wpAny (model prog w) A (setNext a f i ep) Q E s:=by
 unfold setNext
 refine Ae (Mp S ?_)
 dsimp only
 refine Ae (Wv ?_)
 cases hb:bt w with
 | true =>
  rw[if_pos rfl,if_neg (by simp)]
  refine Ae (B5 S (Ak ?_))
  show Q (((arrOf w a ep es)[i]?).map λe=>(e.2,f)) s
  by_cases hi:i<es.size
  ·rw[Cr (by rw[Po]; exact hi)]
   exact h1 hi f (λz=>by rw[hb] at z; cases z)
  ·rw[Rb (by rw[Po]; omega)]
   exact h2 (by omega)
 | false =>
  have hl:=S.led hb
  have hp:=S.tab.plain
  have tail:wpAny (model prog w) A (pure (match es[Bj t.place f]?,t.place[Bj t.place f]? with
    | some (_,x),some j=>some (x,j+1)
    | _,_=>none):Sem (Option (Value×Nat))) Q E s:=by
   rw[hf hb]
   by_cases hi:i<es.size
   ·have hi2:i<t.place.size:=by rw[S.tab.size]; exact hi
    rw[Cr hi,Cr hi2]
    refine Ak ?_
    have:=h1 hi (t.place[i]+1) (λ_=>nV S.tab.rise hi2)
    have e:arrOf w a ep es=es:=by unfold arrOf; rw[hb]; rfl
    simp only[e] at this
    exact this
   ·rw[Rb (by omega)]
    exact Ak (h2 (by omega))
  obtain ⟨mask,place,dummies,finger,led,moves,plain⟩:=t
  have hl':led=true:=hl
  have hp':plain=true:=hp
  subst hl' hp'
  exact Ae (m:=(pure ():Sem Unit)) (Ak tail)
theorem rT{I a:Addr}{es:Array (Int×Value)}{ep:Nat}{t:Bi}{i:Nat}{Q:Option Value->Al->Prop}(st:kT w I a es ep t i s.heap)(ne:a≠I)(hi:i<es.size)(h:∀h',kT w I a es ep t (i+1) h'->Fs I s.heap h'->Q (some ((arrOf w a ep es)[i]'(by rw[Po]; exact hi)).2) { s with heap:=h' }):wpAny (model prog w) A (Uk (.ref I)) Q E s:=by
 obtain ⟨⟨f,ho,hf⟩,S⟩:=st
 have T:s.TypeIs (.ref I) "set_iterator" := ⟨_,ho,rfl⟩
 unfold Uk
 refine Ae (wpAny_attempt (Gw (name:=Gz "__next__") T Si (Gf Si T Zc ?_ (cY _))))
 unfold Builtin.«set_iterator.__next__»
 refine Ae (m:=slotArgs "__next__" 0 ⟨[.ref I],[]⟩) (Mq (a:=(Cq I,[])) rfl ?_)
 dsimp only
 refine Ae (wpAny_fieldsOf ho rfl ?_)
 show wpAny (model prog w) A.in1 (do
  if (((<- bW a).size:Nat):Int) != (es.size:Int) then
   rule "set_iterator.__next__.size-changed"
   Tt (.ref I) 3 (Nc (-1))
   raiseError "RuntimeError" "Set changed size during iteration"
  match <- setNext a (f:Int).toNat (i:Int).toNat (ep:Int).toNat with
  | some (x,next) =>
   Tt (.ref I) 0 (Nc next)
   Tt (.ref I) 1 (Nc ((i:Int)+1))
   ret x
  | none=>Tt (.ref I) 2 .none; raiseNew (<- newExc (.type "StopIteration") [])) _ _ _
 unfold bW
 refine Ae (Ae (Mp S (Ak ?_)))
 rw[if_neg (by simp)]
 simp only[Df]
 refine Ae (Zq S hf (λ_ f' hf'=>?_) (λz=>absurd hi (by omega)))
 dsimp only
 refine Ae (wpAny_setField ho rfl (by simp) ?_)
 have g1:(s.heap.update I (Obj.mapFields (·.setIfInBounds 0 (Nc f')))).get? I=some (qX f' i a es.size ep):=Hk _ ho rfl
 refine Ae (wpAny_setField g1 rfl (by simp) (Ak ⟨_,rfl,Ak (h _ ⟨⟨f',?_,hf'⟩,?_⟩ ((Ck ..).trans (Ck ..)))⟩))
 ·exact Hk _ g1 rfl
 ·refine S.keep λo q=>?_
  exact ((Ck _ _ _).2 a ne).trans (((Ck _ _ _).2 a ne).trans q)
theorem zG{I a:Addr}{es:Array (Int×Value)}{ep:Nat}{t:Bi}{Q:Option Value->Al->Prop}(hh:A.handled=none)(st:kT w I a es ep t es.size s.heap)(h:∀h',Heap.ExtBut I s.heap h'->Q none { s with heap:=h' }):wpAny (model prog w) A (Uk (.ref I)) Q E s:=by
 obtain ⟨⟨f,ho,hf⟩,S⟩:=st
 have T:s.TypeIs (.ref I) "set_iterator" := ⟨_,ho,rfl⟩
 unfold Uk
 refine Ae (wpAny_attempt (Gw (name:=Gz "__next__") T Si (Gf Si T Zc ?_ (cY _))))
 unfold Builtin.«set_iterator.__next__»
 refine Ae (m:=slotArgs "__next__" 0 ⟨[.ref I],[]⟩) (Mq (a:=(Cq I,[])) rfl ?_)
 dsimp only
 refine Ae (wpAny_fieldsOf ho rfl ?_)
 show wpAny (model prog w) A.in1 (do
  if (((<- bW a).size:Nat):Int) != (es.size:Int) then
   rule "set_iterator.__next__.size-changed"
   Tt (.ref I) 3 (Nc (-1))
   raiseError "RuntimeError" "Set changed size during iteration"
  match <- setNext a (f:Int).toNat (es.size:Int).toNat (ep:Int).toNat with
  | some (x,next) =>
   Tt (.ref I) 0 (Nc next)
   Tt (.ref I) 1 (Nc ((es.size:Int)+1))
   ret x
  | none=>Tt (.ref I) 2 .none; raiseNew (<- newExc (.type "StopIteration") [])) _ _ _
 unfold bW
 refine Ae (Ae (Mp S (Ak ?_)))
 rw[if_neg (by simp)]
 simp only[Df]
 refine Ae (Zq S hf (λz _ _=>absurd z (Hb _)) (λ_=>?_))
 dsimp only
 refine Ae (wpAny_setField ho rfl (by simp) (Ae ?_))
 simp only[newExc,newTuple]
 refine Ae (Dk ?_ (by size_fits))
 refine Ae (m:=firstArgMember _ _) (Mq (a:=Qy) (by first | rfl | (simp only[firstArgMember]; rfl)) (Dk ?_ (by size_fits)))
 simp only[raiseNew]
 refine Ae (wpAny_handled ?_)
 rw[show A.in1.handled=none from hh]
 refine Ae (Ak (wpAny_throw ?_))
 refine Ae (wpAny_isInstance (T := "StopIteration") (b:=true) ⟨_,Bl _ rfl,rfl⟩ isSubtype_stop ?_)
 exact Ak (h _ (((Ck ..).extBut.push _).push _))
end
theorem eI:Slot "set_iterator" "__iter__" "set_iterator.__iter__" :=
 .of (owner := "set_iterator") (n := "__iter__") (by rw[typeLookup_type,builtinLookup_eq_fast]; kernel_rfl) (by decide +kernel) (by decide +kernel) (by decide +kernel) (by first | exact .inl (by decide +kernel) | exact .inr (by decide +kernel)) (by rw[isSubtype_type]; kernel_rfl)
theorem mM:entryFor table "set_iterator.__iter__" = some Builtin.«dict_keyiterator.__iter__» :=
 entryFor_alias (id' := "dict_keyiterator.__iter__") (by kernel_rfl) (by first | rfl | decide +kernel) (by decide +kernel) (by kernel_rfl)
theorem tG(a:Value):argsOk "set_iterator.__iter__" ⟨[a],[]⟩:=by unfold argsOk; kernel_rfl
section
variable{prog:Bs}{w:World}{A:Dj}{E:Value->Al->Prop}{s:Al}
theorem tI(hh:A.handled=none){I a:Addr}(ne:a≠I)(es:Array (Int×Value))(ep:Nat)(t:Bi):Walks prog w A I [I,a] [I] es.size (λi v=>∃e,(arrOf w a ep es)[i]? = some e/\v=e.2) (λi h=>kT w I a es ep t i h) where
 sub:=λb hb=>by simp at hb; simp [hb]
 frame:=λi h h' ⟨⟨f,ho,hf⟩,S⟩ hk=>⟨⟨f,hk I (by simp) _ ho,hf⟩,S.keep λo q=>hk a (by simp) o q⟩
 item:=λi s Q E hi st hQ=>rT st ne hi λh' st' sb=>hQ _ h' s.toks ⟨_,Cr (by rw[Po]; exact hi),rfl⟩ st' λb o hb e=>(sb.2 b (λz=>hb (by simp [z]))).trans e
 done:=λs Q E st hQ=>zG hh st λh' x=>hQ h' s.toks λb o hb e=>x b o (λz=>hb (by simp [z])) e
 self:=λi s Q E st hQ=>by
  obtain ⟨⟨f,ho,hf⟩,S⟩:=st
  have T:s.TypeIs (.ref I) "set_iterator" := ⟨_,ho,rfl⟩
  refine wpAny_pyIter_slot T eI (Gf eI T mM ?_ (tG _))
  exact Ak ⟨_,rfl, "set_iterator",_,T,Si.lookup,hQ⟩
theorem vJ{r:Addr}{Q:Bool->Al->Prop}(hT:s.TypeIs (.ref r) "set")(h:Q false s):wpAny (model prog w) A (Vv (.ref r)) Q E s:=by
 unfold Vv
 refine Ae (wpAny_specialOf hT PySem.F.slot_set_len.lookup ?_)
 generalize hid:("set.__len__" : String)=id0
 wp_delta
 rw[show splitId id0=some ("set", "__len__") from by subst hid; decide +kernel]
 subst hid
 refine Ae (wpAny_isInstance (T := "set") (b:=true) hT Xj ?_)
 refine wpAny_ite_split (λz=>absurd z (by decide)) (λ_=>wpAny_ite_split (λ_=>?_) (λz=>absurd (by decide +kernel) z))
 exact Ae (Na hT (Ak h))
theorem C9(a:Addr)(es:Array (Int×Value))(ep:Nat)(t:Bi):PySem.W.KdlSrc prog w "set" a a es.size (λi v=>∃e,(arrOf w a ep es)[i]? = some e/\v=e.2) (λh=>SetS w h a es ep t) where
 type:=λs S=>S.ty
 there:=λh S=>⟨Br S.obj,Br S.obj⟩
 keep:=λh h' S k=>S.keep λo q=>k a (.inl rfl) o q
 notList:=by decide
 notTuple:=by decide
 hint:=λA E s Q S h=>vJ S.ty h
 iter:=λA s hh S=>by
  have lt:=Br S.obj
  refine ⟨qX 0 0 a es.size ep,λi h=>kT w s.heap.objs.size a es ep t i h,λE Q h=>n8 S h,?_,⟨⟨0,Bl _ rfl,λ_=>jO S.tab.rise⟩,S.keep λo q=>Am _ q⟩⟩
  exact tI hh (Cs lt) es ep t
theorem cQ{arr:Array (Int×Value)}(he:∀e∈arr.toList,aT e){acc:Array Value}(h:ItemsOf (λi v=>∃e,arr[i]? = some e/\v=e.2) acc arr.size):Lg acc.toList (arr.toList.map bA):=by
 have key:∀(l:List (Int×Value)) (vs:List Value),(∀e∈l,aT e)->vs.length=l.length->(∀(j:Nat) v,vs[j]? = some v->∃e,l[j]? = some e/\v=e.2)->Lg vs (l.map bA):=by
  intro l
  induction l with
  | nil =>
   intro vs _ hl _
   cases vs with
   | nil=>exact .nil
   | cons v vs=>cases hl
  | cons e l ih =>
   intro vs he hl hv
   cases vs with
   | nil=>cases hl
   | cons v vs =>
    obtain ⟨k,tk,rfl⟩:=he e (Ab ..)
    obtain ⟨e',h1,h2⟩:=hv 0 v rfl
    cases h1
    subst h2
    exact .cons k tk (ih vs (λe hm=>he e (Ah _ hm)) (by simpa using hl) λj u hj=>hv (j+1) u (by simpa using hj))
 refine key arr.toList acc.toList he (by rw[Ar,Ar]; exact h.1) λj v hj=>?_
 obtain ⟨e,h1,h2⟩:=h.2 j v (by rw[<- Hi]; exact hj)
 exact ⟨e,by rw[Hi]; exact h1,h2⟩
theorem oQ{a:Addr}{es:Array (Int×Value)}{ep:Nat}{t:Bi}{Q:Value->Al->Prop}(hh:A.handled=none)(S:SetS w s.heap a es ep t)(h:∀(p:Addr) (out:Array Value) (ns:List Int) (n:Nat) (h1 h':Heap) (tk:Nat),Lg out.toList ns->ns.Perm (Np es)->ns.Pairwise (·<=·)->(∀b o,s.heap.get? b=some o->h1.get? b=some o)->h1.objs.size<=p->(∀b o,h1.get? b=some o->h'.get? b=some o)->h'.get? p=some (seqObj "list" out n)->Q (.ref p) { s with heap:=h',toks:=tk }):wpAny (model prog w) A (call (.builtin "sorted") [.ref a]) Q E s:=by
 refine Calls.call_function_entry kind_sorted plain_sorted entry_sorted (args_sorted1 _) ?_
 unfold Builtin.«sorted»
 refine Ae (m:=checkCount "sorted" 1 1 _) (Ak (Ae (PySem.W.kdu_collect (A:=A.in1) (C9 a es ep t) hh S (small S.few) λh1 tk acc k1 hacc=>?_)))
 have hacc':ItemsOf (λi v=>∃e,(arrOf w a ep es)[i]? = some e/\v=e.2) acc (arrOf w a ep es).size:=by rw[Po]; exact hacc
 have hI:=cQ (λe he=>S.ent e (yW.mem_iff.mp he)) hacc'
 have len:acc.toList.length<64:=by rw[Ar,hacc.1]; exact S.few
 refine Ae (wpAny_newList ?_ (By (Kt len) (by rw[Ig]; decide)))
 have g1:(h1.push (seqObj "list" acc.toList.toArray 0)).get? h1.objs.size=some (seqObj "list" acc.toList.toArray 0):=Bl _ rfl
 refine Ae (Dz (Gf slot_list_sort ⟨_,g1,rfl⟩ entry_list_sort (list_sort_tree (s:={ s with heap:=h1.push (seqObj "list" acc.toList.toArray 0),toks:=tk }) g1 hI len λout ns' a1 a2 a3=>⟨_,rfl,?_⟩) (args_list_sort _)))
 refine Ak ⟨_,rfl,?_⟩
 have g2:=get?_update_seq g1 (λ_=>#[])
 have g3:=Am (seqObj "list" #[] 0) (Am (seqObj "tuple" acc.toList.toArray 0) g2)
 have g4:=get?_update_seq g3 (λ_=>out)
 refine h h1.objs.size out ns' _ h1 _ tk a1 (a2.trans (yW.map bA)) a3 k1 (An _) (λb o e=>?_) g4
 have nb:b≠h1.objs.size:=Cs (Br e)
 exact ((Ck _ _ _).2 b nb).trans (Am _ (Am _ (((Ck _ _ _).2 b nb).trans (Am _ e))))
end
end NdS
namespace Nd
open PySem PySem.Spec PyProof.Rows L2 NdS
def zO(w:World)(a:Addr)(ks:List Int)(h:Heap):Prop:=∃es ep t,SetS w h a es ep t/\∀x,x∈Np es↔x∈ks
abbrev mH(w:World)(a:Addr)(ks:List Int):HO:=.ext (zO w a ks)
theorem A3{P:Bs}{w w':World}{H:Hp}{h:Heap}{a:Addr}{ks:List Int}(e:zO w a ks h):Gq P w' H h a (mH w a ks) :=
 ⟨e,let ⟨_,_,_,S,_⟩:=e; ⟨_,S.obj⟩,λh1 h2 ⟨es,ep,t,S,m⟩ k=>⟨es,ep,t,S.keep λo q=>k o q,m⟩⟩
theorem zX{P:Bs}{w:World}{H:Hp}{h:Heap}{a:Addr}{ks:List Int}(ok:Vj P w H h)(e:H a=some (mH w a ks)):zO w a ks h :=
 (show Gq P w H h a (mH w a ks) from ok a _ e).1
section
variable{X:Cx}
def DZ(w:World)(K:PySem.W.Frag):List V->Hp->VK->Prop:=λxs H Q=>∃(a:Addr) (ns U:List Int),xs=[.ref a]/\Uj K H a (ns.map V.int)/\U.length<=62/\kM U ns/\∀p,H p=none->Q (.ref p) (upd H p (mH w p ns))
theorem xS(hc:X.calm=true):Jz X (.type "set") (DZ X.w X.K):=by
 intro pins s σ H xs us Q I r h
 obtain ⟨a,ns,U,rfl,hs,hU,hN,q⟩:=h
 obtain ⟨u,rfl,ru⟩:=vals1 r
 cases ru
 obtain ⟨its,rv,⟨o,e,hcl,n,hd⟩,_⟩:=I.tuple hs
 refine x9 hU (I.ok.hd hc) ⟨o,e,hcl,n,hd⟩ (by simpa using intsAre_of rv) hN λes ep t h' tk k S m=>?_
 exact ⟨.ref s.heap.objs.size,_,I.laid k (An _) (A3 ⟨es,ep,t,S,m⟩),rfl,q _ (I.hok.fresh (An _))⟩
theorem Vh:∀{vs:List Value} {ns:List Int},Lg vs ns->Fe (ns.map V.int) vs
 | _,_,.nil=>.nil
 | _,_,.cons n t h=>.cons ⟨t,rfl⟩ (Vh h)
def u5(w:World):List V->Hp->VK->Prop:=λxs H Q=>∃(a:Addr) (ks:List Int),xs=[.ref a]/\H a=some (mH w a ks)/\∀(p:Addr) (ns:List Int),H p=none->ns.Nodup->ns.Pairwise (·<=·)->(∀x,x∈ns↔x∈ks)->Q (.ref p) (upd H p (.lst (ns.map V.int)))
theorem gB(hc:X.calm=true):Jz X (.builtin "sorted") (u5 X.w):=by
 intro pins s σ H xs us Q I r h
 obtain ⟨a,ks,rfl,ha,q⟩:=h
 obtain ⟨u,rfl,ru⟩:=vals1 r
 cases ru
 obtain ⟨es,ep,t,S,m⟩:=zX I.hok ha
 refine oQ (I.ok.hd hc) S λp out ns n h1 h' tk hi hp hs k1 hge k2 hg=>?_
 have I1:Inv X pins σ H { s with heap:=h1,toks:=tk }:=I.kept k1
 have nd:ns.Nodup:=hp.nodup_iff.mpr S.nd
 have hl:ns.length<64:=by
  rw[hp.length_eq,Ad,Ar]
  exact S.few
 refine ⟨.ref p,upd H p (.lst (ns.map V.int)),I1.laid (t':=tk) k2 hge ⟨by rw[Ad,Ig]; omega,out.toList,n,Vh hi,by simpa using hg⟩,rfl,q p ns (I1.hok.fresh hge) nd hs λx=>by rw[hp.mem_iff,m]⟩
end
end Nd
namespace Nd
open PySem L2
def Tp(d:Addr)(H H':Hp):Prop:=∀b o,b≠d->H b=some o->H' b=some o
theorem Tp.trans{d:Addr}{H H1 H2:Hp}(a:Tp d H H1)(b:Tp d H1 H2):Tp d H H2:=λc o n h=>b c o n (a c o n h)
theorem Tp.upd{d:Addr}{H:Hp}{o:HO}:Tp d H (upd H d o):=λb o n h=>by rw[En n]; exact h
theorem fP{n:Nat}(h:n<=1000000):n<=Bd:=by rw[Ig]; omega
theorem gT(a b:Int)(h:0<b):0<=a % b/\a % b<b:=⟨Int.emod_nonneg _ (by omega),Int.emod_lt_of_pos _ h⟩
def Fd(h:Int)(ns:List Int):Prop:=ns.Pairwise (· < ·)/\∀x∈ns,0<=x/\x<h
theorem Fd.nil(h:Int):Fd h []:=⟨Eh,λx hx=>by cases hx⟩
theorem Fd.more{h:Int}{ns:List Int}(r:Fd h ns)(h0:0<=h):Fd (h+1) (ns++[h]) :=
 ⟨Cn.mpr ⟨r.1,Gg _ _,λa ha b hb=>by rw[Ag.mp hb]; exact (r.2 a ha).2⟩,λx hx=>by
  rcases Ay.mp hx with z | z
  ·have:=r.2 x z; omega
  ·have:=Ag.mp z; omega⟩
theorem Fd.up{h h':Int}{ns:List Int}(r:Fd h ns)(l:h<=h'):Fd h' ns:=⟨r.1,λx hx=>by have:=r.2 x hx; omega⟩
def Xs(H:Hp)(d:Addr)(c k:Int)(f:Bool):Prop:=H d=some (.lst [.int c,.int k,.bl f])
def vC:Sp:=λvs H Q _=>∃(d:Addr) (c k:Int) (f:Bool),vs=[.ref d]/\Xs H d c k f/\0<=k/\k<=1000000/\∀(r c':Int) (H':Hp),Xs H' d c' (k+1) f->Tp d H H'->Q (.int r) H'
def Au(ns:List Int):Ac:=.tuple (ns.map Ax)
theorem oG(ns:List Int):(Au ns).depth<=1:=by
 have : (Au ns).depth<=Bc (ns.map Ax)+1:=by simp [Au,Bx]
 rw[nA] at this
 exact this
def FV:List Int:=(Bh 60).map λi:Nat=>(i:Int)
theorem Yy{x:Int}(h0:0<=x)(h1:x<60):x∈FV:=Bq.mpr ⟨x.toNat,Cu.mpr (by omega),by omega⟩
theorem A7(TD:List Ac):Dv (.list TD) (.list [])=TD.isEmpty:=by cases TD <;> simp [Dv,Oc]
theorem dJ:∀{l1 l2:List Int},l1.Pairwise (· < ·)->l2.Pairwise (· < ·)->(∀x,x∈l1↔x∈l2)->l1=l2
 | [],[],_,_,_=>rfl
 | [],b::l,_,_,h=>by have:=(h b).mpr Ab; cases this
 | a::l,[],_,_,h=>by have:=(h a).mp Ab; cases this
 | a::l1,b::l2,p1,p2,h=>by
  obtain ⟨h1,q1⟩:=Ba.mp p1
  obtain ⟨h2,q2⟩:=Ba.mp p2
  have e:a=b:=by
   rcases Ai.mp ((h a).mp Ab) with z | z
   ·exact z
   ·rcases Ai.mp ((h b).mpr Ab) with y | y
    ·exact y.symm
    ·have:=h1 b y; have:=h2 a z; omega
  subst e
  rw[dJ q1 q2 λx=>⟨λhx=>?_,λhx=>?_⟩]
  ·rcases Ai.mp ((h x).mp (Ah _ hx)) with z | z
   ·have:=h1 x hx; omega
   ·exact z
  ·rcases Ai.mp ((h x).mpr (Ah _ hx)) with z | z
   ·have:=h2 x hx; omega
   ·exact z
def uK(b:Bool):Str:=if b=true then "back" else "front"
def order{α:Type}(a b:α)(l:List α):Option Bool->List α
 | none=>l
 | some true=>[a,b]
 | some false=>[b,a]
structure TD(K:PySem.W.Frag)(H:Hp)(x:V)(d:Ac)(n m:Nat):Prop where
 rd:RdV K H x d
 fits:Kf 22 d
 nd:Gi d<=n
 dp:d.depth<=m
abbrev J5(K:PySem.W.Frag):List V->Hp->VK->Prop:=λxs H Q=>∃p ys,xs=[V.ref p]/\(Tq K H p ys\/Uj K H p ys)/\∀l,H l=none->Q (.ref l) (upd H l (.lst ys))
theorem Yo{X:Cx}:Jz X (.type "list") (J5 X.K):=gM
abbrev F6(K:PySem.W.Frag):List V->Hp->VK->Prop:=λxs H Q=>∃p ys,xs=[V.ref p]/\((Tq K H p ys/\∀l,H l=none->Q (.ref l) (upd H l (.tup ys)))\/(Uj K H p ys/\Q (.ref p) H))
theorem Og{X:Cx}:Jz X (.type "tuple") (F6 X.K):=cX
end Nd
namespace DL
open PySem L2 Nd
def KL(K:PySem.W.Frag)(H:Hp)(a:Addr)(xs:List V):Prop :=
 (∃o,H a=some (.frz o (.lst xs)))\/∃(its:Array Value) (n:Nat),K.lookup a=some { cls:=.type "list",data:=.seq its n }/\its.size<=Bd/\Fe xs its.toList
def aF:Nat->Ac
 | 0=>.none
 | n+1=>.tuple [aF n]
def Xa(ks:List (List Int×Ac)):List (Ac×Ac):=(aF 100,.none)::ks.map λp=>(Au p.1,p.2)
def FO(ks:List (Int×Ac)):List (Ac×Ac):=(aF 100,.bool true)::ks.map λp=>(.int p.1,p.2)
def o5:List (Ac×Ac)->Bool
 | (_,.none)::_=>true
 | _=>false
def U2(a:Addr)(ks:List (List Int×Ac)):List (Ac×Ac):=(aF 100,.int a)::ks.map λp=>(Au p.1,p.2)
def Nm(w:List Int):List Ld:=w.map Ta
mutual
inductive RdF (K:PySem.W.Frag) (H:Hp):V->Ac->List Addr->Prop
 | non:RdF K H .non .none []
 | bl (b:Bool):RdF K H (.bl b) (.bool b) []
 | int (i:Int):RdF K H (.int i) (.int i) []
 | str (x:Str):RdF K H (.str x) (.str x) []
 | lst {a:Addr} {xs:List V} {ds:List Ac} {F:List Addr}:H a=some (.lst xs)->ds.length<=Bd->RdFs K H xs ds F->RdF K H (.ref a) (.list ds) (a::F)
 | tup {a:Addr} {xs:List V} {ds:List Ac} {F:List Addr}:H a=some (.tup xs)->ds.length<=Bd->RdFs K H xs ds F->RdF K H (.ref a) (.tuple ds) F
 | dic {a:Addr} {kv:List (List Ld×V)} {ks:List (List Int×Ac)}:H a=some (.dT kv)->kv.map (·.1)=ks.map (λp=>Nm p.1)->RdFs K H (kv.map (·.2)) (ks.map (·.2)) []->RdF K H (.ref a) (.dict (Xa ks)) [a]
 | dik {a:Addr} {kv:List (Ld×V)} {ks:List (Int×Ac)}:H a=some (.dK kv)->kv.map (·.1)=ks.map (λp=>(Ta p.1:Ld))->RdFs K H (kv.map (·.2)) (ks.map (·.2)) []->RdF K H (.ref a) (.dict (FO ks)) [a]
 | dnm {a:Addr} {kv:List (List Ld×V)} {ks:List (List Int×Ac)}:H a=some (.dT kv)->kv.map (·.1)=ks.map (λp=>Nm p.1)->RdFs K H (kv.map (·.2)) (ks.map (·.2)) []->RdF K H (.ref a) (.dict (U2 a ks)) [a]
inductive RdFs (K:PySem.W.Frag) (H:Hp):List V->List Ac->List Addr->Prop
 | nil:RdFs K H [] [] []
 | cons {x:V} {d:Ac} {xs:List V} {ds:List Ac} {F G:List Addr}:RdF K H x d F->RdFs K H xs ds G->RdFs K H (x::xs) (d::ds) (F++G)
end
def GR(o:HO):Prop:=(∃xs,o=.tup xs)\/∃ob u,o=.frz ob u
def Kp(F:List Addr)(H H':Hp):Prop:=∀b o,H b=some o->(b∈F\/GR o)->H' b=some o
theorem Kp.of{F:List Addr}{H H':Hp}(s:Same H H'):Kp F H H':=λb o e _=>s b o e
theorem Kp.sub{F G:List Addr}{H H':Hp}(k:Kp F H H')(h:∀a∈G,a∈F):Kp G H H':=λb o e z=>k b o e (z.imp (h b) id)
section
variable{K:PySem.W.Frag}{H H':Hp}
theorem KL.kp{a:Addr}{xs:List V}{F:List Addr}(h:KL K H a xs)(k:Kp F H H'):KL K H' a xs:=by
 rcases h with ⟨o,h⟩ | h
 ·exact .inl ⟨o,k _ _ h (.inr (.inr ⟨_,_,rfl⟩))⟩
 ·exact .inr h
theorem KL.sq{a:Addr}{xs:List V}(h:KL K H a xs):Tq K H a xs:=by
 rcases h with ⟨o,h⟩ | ⟨its,n,h,hz,r⟩
 ·exact .inl (.inr ⟨o,h⟩)
 ·exact .inr ⟨_,its,n,h,rfl,rfl,rfl,hz,r⟩
mutual
theorem RdF.kp:∀{v:V} {d:Ac} {F:List Addr},RdF K H v d F->Kp F H H'->RdF K H' v d F
 | _,_,_,.non,_=>.non
 | _,_,_,.bl b,_=>.bl b
 | _,_,_,.int i,_=>.int i
 | _,_,_,.str x,_=>.str x
 | _,_,_,.lst h l hs,k=>.lst (k _ _ h (.inl Ab)) l (RdFs.kp hs (k.sub λ_ z=>Ah _ z))
 | _,_,_,.tup h l hs,k=>.tup (k _ _ h (.inr (.inl ⟨_,rfl⟩))) l (RdFs.kp hs k)
 | _,_,_,.dic h e hs,k=>.dic (k _ _ h (.inl Ab)) e (RdFs.kp hs (k.sub λ_ z=>nomatch z))
 | _,_,_,.dik h e hs,k=>.dik (k _ _ h (.inl Ab)) e (RdFs.kp hs (k.sub λ_ z=>nomatch z))
 | _,_,_,.dnm h e hs,k=>.dnm (k _ _ h (.inl Ab)) e (RdFs.kp hs (k.sub λ_ z=>nomatch z))
theorem RdFs.kp:∀{v:List V} {d:List Ac} {F:List Addr},RdFs K H v d F->Kp F H H'->RdFs K H' v d F
 | _,_,_,.nil,_=>.nil
 | _,_,_,.cons h hs,k=>.cons (RdF.kp h (k.sub λ_ z=>Ap _ z)) (RdFs.kp hs (k.sub λ_ z=>Ao _ z))
end
theorem Pd:∀n,(aF n).depth=n
 | 0=>by simp [aF,Bx]
 | n+1=>by
  have:=Pd n
  simp only[aF,Bx,Bc,this]
  omega
theorem wG{ks:List (Int×Ac)}:100<=(PyData.dict (FO ks)).depth:=by
 have:=Pd 100
 simp only[FO,Bx,PyData.depthKv,this]
 omega
theorem yC{a:Addr}{ks:List (List Int×Ac)}:100<=(PyData.dict (U2 a ks)).depth:=by
 have:=Pd 100
 simp only[U2,Bx,PyData.depthKv,this]
 omega
theorem yH{ks:List (List Int×Ac)}:100<=(PyData.dict (Xa ks)).depth:=by
 have:=Pd 100
 simp only[Xa,Bx,PyData.depthKv,this]
 omega
mutual
theorem RdF.rd:∀{v:V} {d:Ac} {F:List Addr},RdF K H v d F->d.depth<=90->RdV K H v d
 | _,_,_,.non,_=>.non
 | _,_,_,.bl b,_=>.bl b
 | _,_,_,.int i,_=>.int i
 | _,_,_,.str x,_=>.str x
 | _,_,_,.lst h l hs,z=>.lst (Tq.of h) (RdFs.rd hs (by simp only[Bx] at z; omega))
 | _,_,_,.tup h l hs,z=>.tup (Uj.of h) (RdFs.rd hs (by simp only[Bx] at z; omega))
 | _,_,_,.dic h e hs,z=>absurd (By yH z) (by decide)
 | _,_,_,.dik h e hs,z=>absurd (By wG z) (by decide)
 | _,_,_,.dnm h e hs,z=>absurd (By yC z) (by decide)
theorem RdFs.rd:∀{v:List V} {d:List Ac} {F:List Addr},RdFs K H v d F->Bc d<=90->RdVs K H v d
 | _,_,_,.nil,_=>.nil
 | _,_,_,.cons h hs,z=>.cons (RdF.rd h (by simp only[Bc] at z; omega)) (RdFs.rd hs (by simp only[Bc] at z; omega))
end
mutual
theorem RdF.dom:∀{v:V} {d:Ac} {F:List Addr},RdF K H v d F->∀a∈F,∃o,H a=some o
 | _,_,_,.non,_,z=>nomatch z
 | _,_,_,.bl b,_,z=>nomatch z
 | _,_,_,.int i,_,z=>nomatch z
 | _,_,_,.str x,_,z=>nomatch z
 | _,_,_,.lst h l hs,b,z=>by
  rcases Ai.mp z with rfl | z
  ·exact ⟨_,h⟩
  ·exact RdFs.dom hs b z
 | _,_,_,.tup h l hs,b,z=>RdFs.dom hs b z
 | _,_,_,.dic h e hs,b,z=>⟨_,Ag.mp z▸h⟩
 | _,_,_,.dik h e hs,b,z=>⟨_,Ag.mp z▸h⟩
 | _,_,_,.dnm h e hs,b,z=>⟨_,Ag.mp z▸h⟩
theorem RdFs.dom:∀{v:List V} {d:List Ac} {F:List Addr},RdFs K H v d F->∀a∈F,∃o,H a=some o
 | _,_,_,.nil,_,z=>nomatch z
 | _,_,_,.cons h hs,b,z=>by
  rcases Ay.mp z with z | z
  ·exact RdF.dom h b z
  ·exact RdFs.dom hs b z
end
theorem RdFs.len:∀{v:List V} {d:List Ac} {F:List Addr},RdFs K H v d F->v.length=d.length
 | _,_,_,.nil=>rfl
 | _,_,_,.cons _ t=>by rw[Be,Be,RdFs.len t]
theorem RdFs.get:∀{v:List V} {d:List Ac} {F:List Addr} {i:Nat} {e:Ac},RdFs K H v d F->d[i]? = some e->∃x G,v[i]? = some x/\RdF K H x e G/\G.Sublist F
 | _,_,_,_,_,.nil,z=>by simp at z
 | _,_,_,0,_,.cons h _,z=>by
  simp at z
  subst z
  exact ⟨_,_,rfl,h,List.sublist_append_left _ _⟩
 | _,_,_,i+1,e,.cons _ t,z=>by
  obtain ⟨x,G,h1,h2,h3⟩:=RdFs.get (i:=i) (e:=e) t (by simpa using z)
  exact ⟨x,G,by simpa using h1,h2,h3.trans (Dh _ _)⟩
theorem RdFs.app:∀{v w:List V} {d e:List Ac} {F G:List Addr},RdFs K H v d F->RdFs K H w e G->RdFs K H (v++w) (d++e) (F++G)
 | _,_,_,_,_,_,.nil,h=>h
 | _,_,_,_,_,_,.cons a t,h=>by
  rw[Dq]
  exact .cons a (RdFs.app t h)
theorem RdFs.snoc{v:List V}{d:List Ac}{F G:List Addr}{x:V}{e:Ac}(t:RdFs K H v d F)(h:RdF K H x e G):RdFs K H (v++[x]) (d++[e]) (F++G):=by
 have:=t.app (.cons h .nil)
 rw[Ec] at this
 exact this
end
mutual
def imm:Ac->Bool
 | .list _=>false
 | .dict _=>false
 | .tuple xs=>Du xs
 | _=>true
def Du:List Ac->Bool
 | []=>true
 | x::xs=>imm x && Du xs
end
theorem mI:∀{xs:List Ac},Du xs=true↔∀x∈xs,imm x=true
 | []=>by simp [Du]
 | x::xs=>by simp [Du,mI (xs:=xs)]
theorem Qa{α:Type}{f:α->Ac}(h:∀a,imm (f a)=true)(l:List α):Du (l.map f)=true:=mI.mpr λx hx=>by
 obtain ⟨a,_,rfl⟩:=Bq.mp hx
 exact h a
theorem xI(ns:List Int):imm (Au ns)=true:=by
 unfold Au
 rw[imm]
 exact Qa (λ_=>by simp [imm]) ns
section
variable{K:PySem.W.Frag}{H H':Hp}
mutual
theorem RdF.imm:∀{v:V} {d:Ac} {F:List Addr},RdF K H v d F->DL.imm d=true->F=[]
 | _,_,_,.non,_=>rfl
 | _,_,_,.bl b,_=>rfl
 | _,_,_,.int i,_=>rfl
 | _,_,_,.str x,_=>rfl
 | _,_,_,.lst h l hs,k=>by simp [DL.imm] at k
 | _,_,_,.tup h l hs,k=>RdFs.imm hs (by simpa [DL.imm] using k)
 | _,_,_,.dic h e hs,k=>by simp [DL.imm] at k
 | _,_,_,.dik h e hs,k=>by simp [DL.imm] at k
 | _,_,_,.dnm h e hs,k=>by simp [DL.imm] at k
theorem RdFs.imm:∀{v:List V} {d:List Ac} {F:List Addr},RdFs K H v d F->Du d=true->F=[]
 | _,_,_,.nil,_=>rfl
 | _,_,_,.cons h hs,k=>by
  rw[Du,Eu] at k
  rw[RdF.imm h k.1,RdFs.imm hs k.2]
  rfl
end
end
inductive Md where
 | pk | sh | tp | ow
 deriving DecidableEq
inductive DV where
 | un
 | dat (m:Md) (d:Ac)
 | drw
 | dT (kvs:List (List Ld×Ac))
 | val (v:V)
 | scr (ns:List Int)
 | acc (ds:List Ac)
 | grd (Hc:Hp)
 | tpl (xs:List V)
structure DS where
 sl:List DV
 n:Nat
structure Ent where
 v:Option V
 x:DV
 F:List Addr
def Mv:DV->Bool
 | .dat .pk _=>true
 | _=>false
def CB:DV->Bool
 | .drw=>true
 | _=>false
def O6:DV->Bool
 | .drw=>true
 | .acc _=>true
 | .dT _=>true
 | .grd _=>true
 | _=>false
def cells(e:Ent):List Addr:=match e.x with
 | .dat .ow _=>e.F
 | .dat .tp _=>e.F.take 1
 | .drw=>e.F
 | .dT _=>e.F
 | .acc _=>e.F.take 1
 | .grd _=>e.F
 | _=>[]
theorem Ex(e:Ent):∀a∈cells e,a∈e.F:=by
 obtain ⟨v,x,F⟩:=e
 intro a h
 cases x with
 | un=>exact nomatch h
 | val _=>exact nomatch h
 | scr _=>exact nomatch h
 | drw=>exact h
 | dT _=>exact h
 | grd _=>exact h
 | tpl _=>exact nomatch h
 | acc _=>exact (Hq _ _).subset h
 | dat m d =>
  cases m with
  | pk=>exact nomatch h
  | sh=>exact nomatch h
  | tp=>exact (Hq _ _).subset h
  | ow=>exact h
def Vi(e f:Ent):Prop:=((Mv f.x=false\/O6 e.x=true)->∀a∈cells e,a∉f.F)/\((Mv e.x=false\/O6 f.x=true)->∀a∈cells f,a∉e.F)
theorem Vi.symm{e f:Ent}(h:Vi e f):Vi f e:=⟨h.2,h.1⟩
def Ka(K:PySem.W.Frag)(H:Hp)(n:Nat)(e:Ent):Prop:=match e.x with
 | .un=>e.F=[]
 | .dat m d=>∃v,e.v=some v/\RdF K H v d e.F/\(m=.ow->e.F.Nodup)/\(m=.tp->∀a l,e.F=a::l->a∉l)
 | .drw=>∃dr c k f,e.v=some (.ref dr)/\e.F=[dr]/\Xs H dr c k f/\0<=k/\k<=(n:Int)
 | .dT kvs=>∃a ks,e.v=some (.ref a)/\e.F=[a]/\H a=some (.dT ks)/\ks.map (·.1)=kvs.map (·.1)/\RdFs K H (ks.map (·.2)) (kvs.map (·.2)) []
 | .val v=>e.v=some v/\e.F=[]
 | .scr ns=>∃a,e.v=some (.ref a)/\e.F=[]/\KL K H a (ns.map V.int)/\ns.length<=63
 | .acc ds=>∃a xs G,e.v=some (.ref a)/\e.F=a::G/\H a=some (.lst xs)/\RdFs K H xs ds G/\ds.length<=Bd/\a∉G
 | .grd Hc=>∀a∈e.F,∃o,Hc a=some o/\H a=some o
 | .tpl xs=>∃t,e.v=some (.ref t)/\H t=some (.tup xs)/\e.F=[]
structure At(K:PySem.W.Frag)(H0:Hp)(X:Addr->Prop)(n:Nat)(E:List Ent)(H:Hp):Prop where
 ok:∀e∈E,Ka K H n e
 sep:E.Pairwise Vi
 new:∀e∈E,∀a∈cells e,H0 a=none\/(X a/\CB e.x=true)
 same:∀b o,¬ X b->H0 b=some o->H b=some o
 dom:∀b o,H0 b=some o->∃o',H b=some o'
 xd:∀b,X b->H0 b≠none/\∃c k f,Xs H b c k f/\0<=k/\k<=(n:Int)
section
variable{K:PySem.W.Frag}{H0 H H':Hp}{X:Addr->Prop}{n n':Nat}{E E' S T:List Ent}{e f:Ent}
theorem At.perm(h:At K H0 X n E H)(p:E.Perm E'):At K H0 X n E' H :=
 ⟨λe he=>h.ok e (p.mem_iff.mpr he),(p.pairwise_iff λ{a b}=>Vi.symm).mp h.sep,λe he=>h.new e (p.mem_iff.mpr he),h.same,h.dom,h.xd⟩
theorem At.sub(h:At K H0 X n E H)(p:E'.Sublist E):At K H0 X n E' H :=
 ⟨λe he=>h.ok e (p.subset he),h.sep.sublist p,λe he=>h.new e (p.subset he),h.same,h.dom,h.xd⟩
theorem At.drop(h:At K H0 X n (S++e::T) H):At K H0 X n (S++T) H:=h.sub ((Ds S).append (Dn _ _))
theorem yL:(S++e::T).Perm (e::(S++T)):=Qw
theorem At.mid(h:At K H0 X n (S++e::T) H):At K H0 X n (e::(S++T)) H:=h.perm yL
theorem At.tomid(h:At K H0 X n (e::(S++T)) H):At K H0 X n (S++e::T) H:=h.perm yL.symm
theorem Ka.dom(h:Ka K H n e):∀a∈e.F,∃o,H a=some o:=by
 obtain ⟨v,x,F⟩:=e
 intro a ha
 cases x with
 | un=>rw[show F=[] from h] at ha; cases ha
 | val _=>rw[show F=[] from h.2] at ha; cases ha
 | scr _ =>
  obtain ⟨_,_,hF,_⟩:=h
  rw[show F=[] from hF] at ha; cases ha
 | dat m d =>
  obtain ⟨w,_,h,_⟩:=h
  obtain ⟨xs,z⟩:=h.dom a ha
  exact ⟨_,z⟩
 | drw =>
  obtain ⟨dr,c,k,f,_,hF,h,_⟩:=h
  rw[show F=[dr] from hF] at ha
  rw[Ag.mp ha]
  exact ⟨_,h⟩
 | grd Hc =>
  obtain ⟨o,_,z⟩:=h a ha
  exact ⟨o,z⟩
 | tpl xs =>
  obtain ⟨_,_,_,hF⟩:=h
  rw[show F=[] from hF] at ha; cases ha
 | dT kvs =>
  obtain ⟨b,ks,_,hF,h,_⟩:=h
  rw[show F=[b] from hF] at ha
  rw[Ag.mp ha]
  exact ⟨_,h⟩
 | acc ds =>
  obtain ⟨b,ks,G,_,hF,h,hr,_⟩:=h
  rw[show F=b::G from hF] at ha
  rcases Ai.mp ha with rfl | ha
  ·exact ⟨_,h⟩
  ·obtain ⟨xs,z⟩:=hr.dom a ha
   exact ⟨_,z⟩
theorem Ka.kp(h:Ka K H n e)(k:Kp e.F H H')(hn:n<=n'):Ka K H' n' e:=by
 obtain ⟨v,x,F⟩:=e
 cases x with
 | un=>exact h
 | val _=>exact h
 | scr _ =>
  obtain ⟨a,h1,h2,h3,h4⟩:=h
  exact ⟨a,h1,h2,h3.kp k,h4⟩
 | dat m d =>
  obtain ⟨w,h1,h2,h3⟩:=h
  exact ⟨w,h1,h2.kp k,h3⟩
 | drw =>
  obtain ⟨dr,c,kk,f,h1,hF,h2,h3,h4⟩:=h
  have hF':F=[dr]:=hF
  subst hF'
  exact ⟨dr,c,kk,f,h1,rfl,k _ _ h2 (.inl Ab),h3,by omega⟩
 | tpl xs =>
  obtain ⟨t,h1,h2,h3⟩:=h
  exact ⟨t,h1,k _ _ h2 (.inr (.inl ⟨_,rfl⟩)),h3⟩
 | grd Hc =>
  intro a ha
  obtain ⟨o,h1,h2⟩:=h a ha
  exact ⟨o,h1,k _ _ h2 (.inl ha)⟩
 | dT kvs =>
  obtain ⟨b,ks,h1,hF,h2,h3,h4⟩:=h
  have hF':F=[b]:=hF
  subst hF'
  exact ⟨b,ks,h1,rfl,k _ _ h2 (.inl Ab),h3,h4.kp (k.sub λ_ z=>nomatch z)⟩
 | acc ds =>
  obtain ⟨b,ks,G,h1,hF,h2,h3,h4⟩:=h
  have hF':F=b::G:=hF
  subst hF'
  exact ⟨b,ks,G,h1,rfl,k _ _ h2 (.inl Ab),h3.kp (k.sub λ_ z=>Ah _ z),h4⟩
theorem At.grow(h:At K H0 X n E H)(s:Same H H')(hn:n<=n'):At K H0 X n' E H' :=
 ⟨λe he=>(h.ok e he).kp (Kp.of s) hn,h.sep,h.new,λb o nx e=>s _ _ (h.same b o nx e),λb o e=>let ⟨o',q⟩:=h.dom b o e; ⟨o',s _ _ q⟩,λb hb=>let ⟨z,c,k,f,h1,h2,h3⟩:=h.xd b hb; ⟨z,c,k,f,s _ _ h1,h2,by omega⟩⟩
theorem At.free(h:At K H0 X n E H){a:Addr}(ha:H a=none):∀e∈E,a∉e.F:=λe he z=>by
 obtain ⟨o,q⟩:=(h.ok e he).dom a z
 rw[ha] at q; cases q
theorem At.push(h:At K H0 X n E H)(ok:Ka K H n e)(sep:∀f∈E,Vi e f)(new:∀a∈cells e,H0 a=none\/(X a/\CB e.x=true)):At K H0 X n (e::E) H :=
 ⟨λg hg=>by
  rcases Ai.mp hg with rfl | hg
  ·exact ok
  ·exact h.ok g hg,Ba.mpr ⟨sep,h.sep⟩,λg hg=>by
  rcases Ai.mp hg with rfl | hg
  ·exact new
  ·exact h.new g hg,h.same,h.dom,h.xd⟩
theorem At.new0(h:At K H0 X n E H){p:Addr}(hp:H p=none):H0 p=none:=by
 cases q:H0 p with
 | none=>rfl
 | some o =>
  obtain ⟨o',z⟩:=h.dom p o q
  rw[hp] at z; cases z
theorem F0{v:Option V}{m:Md}{d:Ac}:Vi ⟨v,.dat m d,[]⟩ f:=by
 refine ⟨λ_ a ha=>?_,λ_ a _=>Bk⟩
 have:=Ex _ a ha
 cases this
theorem At.pushI(h:At K H0 X n (S++T) H){v:V}{m:Md}{d:Ac}(r:RdF K H v d []):At K H0 X n (S++⟨some v,.dat m d,[]⟩::T) H :=
 (h.push (e:=⟨some v,.dat m d,[]⟩) ⟨v,rfl,r,λ_=>Cv,λ_ a l z=>nomatch z⟩ (λf _=>F0) (λa ha=>nomatch Ex _ a ha)).tomid
def wk:Md->Md->Bool
 | _,.pk=>true
 | .pk,_=>false
 | _,.sh=>true
 | .sh,_=>false
 | _,.tp=>true
 | .tp,.ow=>false
 | .ow,.ow=>true
theorem lV{v:Option V}{m m':Md}{d:Ac}{F:List Addr}(w:wk m m'=true):∀a∈cells ⟨v,.dat m' d,F⟩,a∈cells ⟨v,.dat m d,F⟩:=by
 intro a ha
 cases m <;> cases m' <;> first | exact absurd w (by decide) | exact ha | exact absurd ha Bk | exact (Hq 1 F).subset ha
theorem tV{α:Type}{F:List α}(h:F.Nodup):∀a l,F=a::l->a∉l:=λa l e=>by
 subst e
 exact (Bt.mp h).1
theorem Ka.wk{v:Option V}{m m':Md}{d:Ac}{F:List Addr}(w:wk m m'=true)(h:Ka K H n ⟨v,.dat m d,F⟩):Ka K H n ⟨v,.dat m' d,F⟩:=by
 obtain ⟨u,h1,h2,h3,h4⟩:=h
 refine ⟨u,h1,h2,λe=>?_,λe=>?_⟩
 ·subst e
  cases m <;> first | exact absurd w (by decide) | exact h3 rfl
 ·subst e
  cases m <;> first | exact absurd w (by decide) | exact h4 rfl | exact tV (h3 rfl)
theorem Vi.wk{v:Option V}{m m':Md}{d:Ac}{F:List Addr}(w:wk m m'=true)(h:Vi ⟨v,.dat m d,F⟩ f):Vi ⟨v,.dat m' d,F⟩ f:=by
 refine ⟨λhp a ha=>?_,λhp a ha=>?_⟩
 ·rcases hp with hp | hp
  ·exact h.1 (.inl hp) a (lV w a ha)
  ·cases hp
 ·rcases hp with hp | hp
  ·refine h.2 (.inl ?_) a ha
   cases m <;> cases m' <;> first | rfl | exact absurd w (by decide) | exact absurd hp (by show ¬ (true=false); decide)
  ·exact h.2 (.inr hp) a ha
theorem At.wk{v:Option V}{m m':Md}{d:Ac}{F:List Addr}(w:wk m m'=true)(h:At K H0 X n (⟨v,.dat m d,F⟩::E) H):At K H0 X n (⟨v,.dat m' d,F⟩::E) H:=by
 have hs:=Ba.mp h.sep
 refine (h.sub (Dn _ _)).push ((h.ok _ Ab).wk w) (λf hf=>(hs.1 f hf).wk w) λa ha=>?_
 rcases h.new _ Ab a (lV w a ha) with z | z
 ·exact .inl z
 ·cases z.2
end
abbrev DE:=DS->(DV->DS->Prop)->Prop
abbrev DT:=DS->(Bool->DS->Prop)->Prop
abbrev DA:=DS->(List DV->DS->Prop)->Prop
structure DEnds where
 nx:DS->Prop
 rt:DV->DS->Prop
 bk:DS->Prop:=λ_=>False
 ct:DS->Prop:=λ_=>False
abbrev DB:=DEnds->DS->Prop
abbrev DG:=DV->DS->(DS->Prop)->Prop
abbrev uH:=List DV->DS->(DS->Prop)->Prop
def vs(S:List Ent):L2.St:=S.map Ent.v
def Sl(S:List Ent)(δ:DS):Prop:=S.map Ent.x=δ.sl
section
variable(K:PySem.W.Frag)
def LE(de:DE):TE:=λσ H Q=>∃(H0:Hp) (X:Addr->Prop) (S T:List Ent) (δ:DS) (P:DV->DS->Prop),vs S=σ/\Sl S δ/\At K H0 X δ.n (S++T) H/\de δ P /\
 ∀x δ' v F S' H',vs S'=σ->Sl S' δ'->At K H0 X δ'.n (S'++⟨some v,x,F⟩::T) H'->P x δ'->Q v H'
def LT(dt:DT):TT:=λσ H Q=>∃(H0:Hp) (X:Addr->Prop) (S T:List Ent) (δ:DS) (P:Bool->DS->Prop),vs S=σ/\Sl S δ/\At K H0 X δ.n (S++T) H/\dt δ P /\
 ∀b δ' S' H',vs S'=σ->Sl S' δ'->At K H0 X δ'.n (S'++T) H'->P b δ'->Q b H'
def LA(da:DA):TA:=λσ H Q=>∃(H0:Hp) (X:Addr->Prop) (S T:List Ent) (δ:DS) (P:List DV->DS->Prop),vs S=σ/\Sl S δ/\At K H0 X δ.n (S++T) H/\da δ P /\
 ∀xs δ' As us S' H',vs S'=σ->Sl S' δ'->As.map Ent.x=xs->As.map Ent.v=us.map some->At K H0 X δ'.n (S'++(As++T)) H'->P xs δ'->Q us H'
def LS(db:DB):TS:=λD σ H=>∃(H0:Hp) (X:Addr->Prop) (S T:List Ent) (δ:DS) (P:DEnds),vs S=σ/\Sl S δ/\(∀e∈T,Mv e.x=false)/\At K H0 X δ.n (S++T) H/\db P δ /\
 (∀δ' S' H',Sl S' δ'->At K H0 X δ'.n (S'++T) H'->P.nx δ'->D.nx (vs S') H') /\
 (∀x δ' v F S' H',Sl S' δ'->At K H0 X δ'.n (S'++⟨some v,x,F⟩::T) H'->P.rt x δ'->D.rt v H') /\
 (∀δ' S' H',Sl S' δ'->At K H0 X δ'.n (S'++T) H'->P.bk δ'->D.bk (vs S') H') /\
 (∀δ' S' H',Sl S' δ'->At K H0 X δ'.n (S'++T) H'->P.ct δ'->D.ct (vs S') H')
def LG(dg:DG):TG:=λv σ H Q=>∃(H0:Hp) (X:Addr->Prop) (S T:List Ent) (δ:DS) (x:DV) (F:List Addr) (P:DS->Prop),vs S=σ/\Sl S δ/\At K H0 X δ.n (S++⟨some v,x,F⟩::T) H/\dg x δ P /\
 ∀δ' S' H',Sl S' δ'->At K H0 X δ'.n (S'++T) H'->P δ'->Q (vs S') H'
def GP(dg:uH):B7:=λus σ H Q=>∃(H0:Hp) (X:Addr->Prop) (S T As:List Ent) (δ:DS) (P:DS->Prop),vs S=σ/\Sl S δ/\As.map Ent.v=us.map some/\At K H0 X δ.n (S++(As++T)) H/\dg (As.map Ent.x) δ P /\
 ∀δ' S' H',Sl S' δ'->At K H0 X δ'.n (S'++T) H'->P δ'->Q (vs S') H'
end
abbrev Em(X:Cx)(e:Expr)(de:DE):Prop:=PE X e (LE X.K de)
abbrev cU(X:Cx)(e:Expr)(dt:DT):Prop:=PT X e (LT X.K dt)
abbrev N6(X:Cx)(e:Expr)(dt:DT):Prop:=PW X e (LT X.K dt)
abbrev mE(X:Cx)(es:List Expr)(da:DA):Prop:=PA X es (LA X.K da)
abbrev mF(X:Cx)(st:Stmt)(db:DB):Prop:=PS X st (LS X.K db)
abbrev Wg(X:Cx)(st:List Stmt)(db:DB):Prop:=mV X st (LS X.K db)
abbrev Y1(X:Cx)(tg:Expr)(dg:DG):Prop:=PG X tg (LG X.K dg)
abbrev q8(X:Cx)(tg:List Expr)(dg:uH):Prop:=M5 X tg (GP X.K dg)
theorem PE.imp{X:Cx}{e:Expr}{t t':TE}(h:PE X e t)(k:∀σ H Q,t' σ H Q->t σ H Q):PE X e t':=λpins s σ H Q I q=>h pins s σ H Q I (k σ H Q q)
theorem PT.imp{X:Cx}{e:Expr}{t t':TT}(h:PT X e t)(k:∀σ H Q,t' σ H Q->t σ H Q):PT X e t':=λpins s σ H Q I q=>h pins s σ H Q I (k σ H Q q)
theorem PW.imp{X:Cx}{e:Expr}{t t':TT}(h:PW X e t)(k:∀σ H Q,t' σ H Q->t σ H Q):PW X e t':=λwh pins s σ H Q I q=>h wh pins s σ H Q I (k σ H Q q)
theorem PA.imp{X:Cx}{e:List Expr}{t t':TA}(h:PA X e t)(k:∀σ H Q,t' σ H Q->t σ H Q):PA X e t':=λpos pins s σ H Q I q=>h pos pins s σ H Q I (k σ H Q q)
theorem PG.imp{X:Cx}{e:Expr}{t t':TG}(h:PG X e t)(k:∀v σ H Q,t' v σ H Q->t v σ H Q):PG X e t':=λpins s σ H v u Q I r q=>h pins s σ H v u Q I r (k v σ H Q q)
theorem M5.imp{X:Cx}{e:List Expr}{t t':B7}(h:M5 X e t)(k:∀v σ H Q,t' v σ H Q->t v σ H Q):M5 X e t':=λpins s σ H v u Q I r q=>h pins s σ H v u Q I r (k v σ H Q q)
section
variable{K:PySem.W.Frag}{H:Hp}{v:V}{F:List Addr}
theorem RdF.int_inv{i:Int}(h:RdF K H v (.int i) F):v=.int i/\F=[]:=by cases h; exact ⟨rfl,rfl⟩
theorem RdF.bl_inv{i:Bool}(h:RdF K H v (.bool i) F):v=.bl i/\F=[]:=by cases h; exact ⟨rfl,rfl⟩
theorem RdF.str_inv{i:Str}(h:RdF K H v (.str i) F):v=.str i/\F=[]:=by cases h; exact ⟨rfl,rfl⟩
theorem RdF.non_inv(h:RdF K H v .none F):v=.non/\F=[]:=by cases h; exact ⟨rfl,rfl⟩
theorem RdF.list_inv{ds:List Ac}(h:RdF K H v (.list ds) F):∃a xs G,v=.ref a/\H a=some (.lst xs)/\RdFs K H xs ds G/\F=a::G/\ds.length<=Bd:=by
 cases h with
 | lst h l hs=>exact ⟨_,_,_,rfl,h,hs,rfl,l⟩
theorem RdF.tup_inv{ds:List Ac}(h:RdF K H v (.tuple ds) F):∃a xs,v=.ref a/\H a=some (.tup xs)/\RdFs K H xs ds F/\ds.length<=Bd:=by
 cases h with
 | tup h l hs=>exact ⟨_,_,rfl,h,hs,l⟩
end
section
variable{K:PySem.W.Frag}{H0 H H':Hp}{X:Addr->Prop}{n:Nat}{E S T:List Ent}{v:V}{m:Md}{d:Ac}{F:List Addr}
theorem At.told(h:At K H0 X n E H)(he:⟨some v,.dat m d,F⟩∈E):RdF K H v d F:=by
 obtain ⟨w,e1,h1,_⟩:=h.ok _ he
 cases e1
 exact h1
theorem mem_mid{e:Ent}:e∈S++e::T:=Ao _ Ab
theorem Ek{e f:Ent}:f∈S++e::f::T:=Ao _ (Ah _ Ab)
theorem At.drop2{e f:Ent}(h:At K H0 X n (S++e::f::T) H):At K H0 X n (S++T) H:=h.drop.drop
theorem At.dropL{As:List Ent}(h:At K H0 X n (S++(As++T)) H):At K H0 X n (S++T) H:=h.sub ((Ds S).append (Dh As T))
end
def jX:Md->Md
 | .ow=>.pk
 | .tp=>.pk
 | m=>m
def Q5(i:Nat):DE:=λδ P=>match δ.sl[i]? with
 | some (.dat m d)=>P (.dat (jX m) d) δ
 | _=>False
def dC(d:Ac):DE:=λδ P=>P (.dat .ow d) δ
theorem Jh{S:List Ent}{δ:DS}{i:Nat}{x:DV}(h:Sl S δ)(e:δ.sl[i]? = some x):∃ent,S[i]? = some ent/\ent.x=x:=by
 unfold Sl at h
 rw[<- h,Cc] at e
 cases q:S[i]? with
 | none=>rw[q] at e; cases e
 | some ent=>rw[q] at e; exact ⟨ent,rfl,Ce e⟩
theorem My{S:List Ent}{i:Nat}{e:Ent}(h:S[i]? = some e):(vs S)[i]? = some e.v:=by
 unfold vs
 rw[Cc,h]
 rfl
theorem At.look{K:PySem.W.Frag}{H0 H:Hp}{X:Addr->Prop}{n:Nat}{S T:List Ent}{u:Option V}{v:V}{m:Md}{d:Ac}{F:List Addr}(h:At K H0 X n (S++T) H)(he:⟨u,.dat m d,F⟩∈S)(hu:u=some v):At K H0 X n (S++⟨some v,.dat (jX m) d,F⟩::T) H:=by
 subst hu
 obtain ⟨S1,S2,rfl⟩:=List.append_of_mem he
 have hp:((S1++⟨some v,.dat m d,F⟩::S2)++T).Perm (⟨some v,.dat m d,F⟩::(S1++(S2++T))):=by
  rw[Dq,Io]
  exact Qw
 have h2:=h.perm hp
 have hs:=Ba.mp h2.sep
 refine (h.push (e:=⟨some v,.dat (jX m) d,F⟩) ?_ (λf hf=>?_) λa ha=>?_).tomid
 ·obtain ⟨w,e1,h1,_⟩:=h2.ok _ Ab
  refine ⟨w,e1,h1,λz=>?_,λz=>?_⟩ <;> cases m <;> cases z
 ·refine ⟨λ_ a ha=>?_,λhq a ha=>?_⟩
  ·cases m <;> exact nomatch ha
  ·rcases Ai.mp (hp.mem_iff.mp hf) with rfl | hf
   ·rcases hq with hq | hq
    ·cases m <;> first | cases hq; done | exact nomatch ha
    ·cases hq
   ·refine (hs.1 f hf).2 ?_ a ha
    rcases hq with hq | hq
    ·refine .inl ?_
     cases m <;> first | rfl | exact hq
    ·exact .inr hq
 ·cases m <;> exact nomatch ha
section
variable{X:Cx}{e:Expr}
theorem Af{i:Nat}(h:PE X e (cJ i)):Em X e (Q5 i):=by
 refine PE.imp h λσ H Q h=>?_
 obtain ⟨H0,Y,S,T,δ,P,rfl,hS,hA,hd,k⟩:=h
 unfold Q5 at hd
 split at hd
 ·rename_i m d e1
  obtain ⟨ent,e2,e3⟩:=Jh hS e1
  have hm:ent∈S:=Bg e2
  obtain ⟨u,x,F⟩:=ent
  subst e3
  obtain ⟨v,hv,_⟩:=hA.ok _ (Ap _ hm)
  refine ⟨v,by rw[My e2]; exact congrArg some hv,k _ δ v F S H rfl hS (hA.look hm hv) hd⟩
 ·exact hd.elim
theorem gE{v:V}{d:Ac}(h:PE X e (tC v))(r:∀H,RdF X.K H v d []):Em X e (dC d):=by
 refine PE.imp h λσ H Q h=>?_
 obtain ⟨H0,Y,S,T,δ,P,rfl,hS,hA,hd,k⟩:=h
 exact k _ δ v [] S H rfl hS (hA.pushI (r H)) hd
theorem Bm{i j pos}:Em X (.Constant (.int i) j pos) (dC (.int i)):=gE Fi λ_=>.int i
theorem Hw{i j pos}:Em X (.Constant (.bool i) j pos) (dC (.bool i)):=gE e8 λ_=>.bl i
theorem Ja{i j pos}:Em X (.Constant (.str i) j pos) (dC (.str i)):=gE N9 λ_=>.str i
theorem Rn{j pos}:Em X (.Constant .none j pos) (dC .none):=gE T1 λ_=>.non
end
def CC(de:DE):DE:=λδ P=>de δ λx δ'=>match x with
 | .dat _ d=>imm d=true/\P (.dat .ow d) δ'
 | _=>False
theorem Dm{X:Cx}{e:Expr}{de:DE}(h:Em X e de):Em X e (CC de):=by
 refine PE.imp h λσ H Q h=>?_
 obtain ⟨H0,Y,S,T,δ,P,rfl,hS,hA,hd,k⟩:=h
 refine ⟨H0,Y,S,T,δ,_,rfl,hS,hA,hd,λx δ' v F S' H' e1 e2 hA' p=>?_⟩
 cases x with
 | dat m d =>
  have r:=hA'.told mem_mid
  obtain rfl:=r.imm p.1
  exact k _ δ' v [] S' H' e1 e2 (hA'.drop.pushI r) p.2
 | _=>exact p.elim
def uV(i:Nat):DE:=λδ P=>match δ.sl[i]? with
 | some (.dat m d)=>P (.dat m d) ⟨δ.sl.set i .un,δ.n⟩
 | _=>False
theorem Zb{α:Type}:∀{l:List α} {i:Nat} {x y:α},l[i]? = some x->(y::l).Perm (x::l.set i y)
 | [],i,x,y,h=>by simp at h
 | z::l,0,x,y,h=>by
  simp at h
  subst h
  exact Jm _ _ _
 | z::l,i+1,x,y,h=>by
  have ih:=Zb (l:=l) (i:=i) (x:=x) (y:=y) (by simpa using h)
  rw[List.set_cons_succ]
  exact (Jm z y l).trans ((ih.cons z).trans (Jm x z _))
theorem Mg{X:Cx}{e:Expr}{i:Nat}(h:PE X e (cJ i)):Em X e (uV i):=by
 refine PE.imp h λσ H Q h=>?_
 obtain ⟨H0,Y,S,T,δ,P,rfl,hS,hA,hd,k⟩:=h
 unfold uV at hd
 split at hd
 ·rename_i m d e1
  obtain ⟨ent,e2,e3⟩:=Jh hS e1
  have hm:ent∈S:=Bg e2
  obtain ⟨u,x,F⟩:=ent
  subst e3
  obtain ⟨v,hv,hv2⟩:=hA.ok _ (Ap _ hm)
  have hv':u=some v:=hv
  subst hv'
  refine ⟨v,by rw[My e2],k _ _ v F (S.set i ⟨some v,.un,[]⟩) H ?_ ?_ ?_ hd⟩
  ·unfold vs
   rw[Hs]
   apply Mb
   intro j
   rw[Lz]
   split
   ·rename_i hij
    subst hij
    rw[Cc,e2]
    split
    ·rfl
    ·rename_i hj
     rw[Ad] at hj
     exact absurd (Av.mp e2).1 hj
   ·rfl
  ·unfold Sl at hS ⊢
   rw[Hs,hS]
  ·have hp:=hA.push (e:=⟨some v,.un,[]⟩) (show Ka X.K H δ.n ⟨some v,.un,[]⟩ from rfl) (λf _=>⟨λ_ a ha=>(nomatch ha),λ_ a _=>Bk⟩) (λa ha=>(nomatch ha))
   have p1:(⟨some v,.un,[]⟩::(S++T)).Perm ((S.set i ⟨some v,.un,[]⟩)++⟨some v,.dat m d,F⟩::T):=by
    rw[<- Io]
    exact ((Zb (y:=(⟨some v,.un,[]⟩ : Ent)) e2).append_right T).trans (by rw[Io]; exact List.perm_middle.symm)
   exact hp.perm p1
 ·exact hd.elim
abbrev D2:=DV->DV->(DV->Prop)->Prop
def gO(K:PySem.W.Frag)(r:R2)(rd:D2):Prop:=∀(H0:Hp) (X:Addr->Prop) (n:Nat) (S T:List Ent) (x y:DV) (v w:V) (F G:List Addr) (H:Hp) (Q:VK) (P:DV->Prop),
 At K H0 X n (S++⟨some w,y,G⟩::⟨some v,x,F⟩::T) H->rd x y P->(∀z u F' H',At K H0 X n (S++⟨some u,z,F'⟩::T) H'->P z->Q u H')->r v w H Q
def Tr(rd:D2)(da db:DE):DE:=λδ P=>da δ λx δ1=>db δ1 λy δ2=>rd x y λz=>P z δ2
theorem op_le{K:PySem.W.Frag}{r:R2}{rd:D2}{da db:DE}(o:gO K r rd):∀σ H Q,LE K (Tr rd da db) σ H Q->BE r (LE K da) (LE K db) σ H Q:=by
 intro σ H Q h
 obtain ⟨H0,Y,S,T,δ,P,rfl,hS,hA,hd,k⟩:=h
 refine ⟨H0,Y,S,T,δ,_,rfl,hS,hA,hd,λx δ1 v F S1 H1 e1 e2 hA1 p1=>?_⟩
 refine ⟨H0,Y,S1,⟨some v,x,F⟩::T,δ1,_,e1,e2,hA1,p1,λy δ2 w G S2 H2 e3 e4 hA2 p2=>?_⟩
 exact o H0 Y δ2.n S2 T x y v w F G H2 Q _ hA2 p2 λz u F' H' hA3 p3=>k z δ2 u F' S2 H' e3 e4 hA3 p3
section
variable{X:Cx}{a b:Expr}{da db:DE}{pos:Pos}{r:R2}{rd:D2}
theorem To{op:Operator}(ho:Uw X (Kc op) r)(o:gO X.K r rd)(ha:Em X a da)(hb:Em X b db):Em X (.BinOp a op b pos) (Tr rd da db):=PE.imp (Jp ho ha hb) (op_le o)
theorem Zp{op:CmpOp}(ho:Uw X (Ho op) r)(o:gO X.K r rd)(ha:Em X a da)(hb:Em X b db)(hm:Fk op b=false):Em X (.Compare a [op] [b] pos) (Tr rd da db):=PE.imp (A2 ho ha hb hm) (op_le o)
theorem BP(ho:A6 X r)(o:gO X.K r rd)(ha:Em X a da)(hb:Em X b db)(hs:iI b):Em X (.Subscript a b pos) (Tr rd da db):=PE.imp (bE ho ha hb hs) (op_le o)
end
def W3(C:Int->Int->Prop)(g:Int->Int->Ac):D2:=λx y P=>match x,y with
 | .dat _ (.int i),.dat _ (.int j)=>C i j/\P (.dat .ow (g i j))
 | _,_=>False
def Zu(g:Int->Int->Ac):D2:=λx y P=>match x,y with
 | .dat _ (.int i),.dat _ (.int j)=>P (.dat .ow (g i j))
 | _,_=>False
section
variable{K:PySem.W.Frag}
theorem M7{C:Int->Int->Prop}{g:Int->Int->V}{g':Int->Int->Ac}(h:∀i j H,RdF K H (g i j) (g' i j) []):gO K (rI C g) (W3 C g'):=by
 intro H0 X n S T x y v w F G H Q P hA hd k
 unfold W3 at hd
 split at hd
 ·obtain ⟨rfl,_⟩:=(hA.told Ek).int_inv
  obtain ⟨rfl,_⟩:=(hA.told mem_mid).int_inv
  exact ⟨_,_,rfl,rfl,hd.1,k _ _ [] H (hA.drop2.pushI (h _ _ H)) hd.2⟩
 ·exact hd.elim
theorem Wy{g:Int->Int->V}{g':Int->Int->Ac}(h:∀i j H,RdF K H (g i j) (g' i j) []):gO K (o4 g) (Zu g'):=by
 intro H0 X n S T x y v w F G H Q P hA hd k
 unfold Zu at hd
 split at hd
 ·obtain ⟨rfl,_⟩:=(hA.told Ek).int_inv
  obtain ⟨rfl,_⟩:=(hA.told mem_mid).int_inv
  exact ⟨_,_,rfl,rfl,k _ _ [] H (hA.drop2.pushI (h _ _ H)) hd⟩
 ·exact hd.elim
end
abbrev rdAdd:D2:=Zu λi j=>.int (i+j)
abbrev rdSub:D2:=Zu λi j=>.int (i - j)
abbrev rdMul:D2:=W3 x3 λi j=>.int (i * j)
abbrev rdDiv:D2:=W3 T7 λi j=>.int (i / j)
abbrev rdMod:D2:=W3 (λ_ j=>0<j) λi j=>.int (i % j)
abbrev rdLt:D2:=Zu λi j=>.bool (decide (i<j))
abbrev rdLe:D2:=Zu λi j=>.bool (decide (i<=j))
abbrev rdGt:D2:=Zu λi j=>.bool (decide (j<i))
abbrev rdGe:D2:=Zu λi j=>.bool (decide (j<=i))
section
variable{X:Cx}{a b:Expr}{da db:DE}{pos:Pos}
theorem Ri(ha:Em X a da)(hb:Em X b db):Em X (.BinOp a .Add b pos) (Tr rdAdd da db):=To aD (Wy λ_ _ _=>.int _) ha hb
theorem Lw(ha:Em X a da)(hb:Em X b db):Em X (.BinOp a .Sub b pos) (Tr rdSub da db):=To U5 (Wy λ_ _ _=>.int _) ha hb
theorem xC(ha:Em X a da)(hb:Em X b db):Em X (.BinOp a .Mult b pos) (Tr rdMul da db):=To Vx (M7 λ_ _ _=>.int _) ha hb
theorem Wr(ha:Em X a da)(hb:Em X b db):Em X (.BinOp a .FloorDiv b pos) (Tr rdDiv da db):=To fN (M7 λ_ _ _=>.int _) ha hb
theorem Ll(ha:Em X a da)(hb:Em X b db):Em X (.BinOp a .Mod b pos) (Tr rdMod da db):=To Uh (M7 λ_ _ _=>.int _) ha hb
theorem kO(ha:Em X a da)(hb:Em X b db):Em X (.Compare a [.Lt] [b] pos) (Tr rdLt da db):=Zp J9 (Wy λ_ _ _=>.bl _) ha hb (Oh _)
theorem BS(ha:Em X a da)(hb:Em X b db):Em X (.Compare a [.LtE] [b] pos) (Tr rdLe da db):=Zp L2.op_le (Wy λ_ _ _=>.bl _) ha hb (Oh _)
theorem BQ(ha:Em X a da)(hb:Em X b db):Em X (.Compare a [.GtE] [b] pos) (Tr rdGe da db):=Zp xM (Wy λ_ _ _=>.bl _) ha hb (Oh _)
end
def iB(ne:Bool):D2:=λx y P=>match x,y with
 | .dat _ d,.dat _ e=>d.depth<=60/\e.depth<=60/\P (.dat .ow (.bool (match ne with | true=>!Dv d e | false=>Dv d e)))
 | _,_=>False
def jR(ne:Bool):D2:=λx y P=>match x,y with
 | .dat _ d,.dat _ (.list es)=>Bc es<=60/\d.depth<=60/\P (.dat .ow (.bool (match ne with | true=>!(es.any λe=>Dv e d) | false=>es.any λe=>Dv e d)))
 | .dat _ d,.dat _ (.tuple es)=>Bc es<=60/\d.depth<=60/\P (.dat .ow (.bool (match ne with | true=>!(es.any λe=>Dv e d) | false=>es.any λe=>Dv e d)))
 | _,_=>False
section
variable{K:PySem.W.Frag}
theorem L4:gO K (X4 K) (iB false):=by
 intro H0 X n S T x y v w F G H Q P hA hd k
 unfold iB at hd
 split at hd
 ·exact ⟨_,_,(hA.told Ek).rd (By hd.1 (by decide)),(hA.told mem_mid).rd (By hd.2.1 (by decide)),hd.1,k _ _ [] H (hA.drop2.pushI (.bl _)) hd.2.2⟩
 ·exact hd.elim
theorem CM:gO K (AM K) (iB true):=by
 intro H0 X n S T x y v w F G H Q P hA hd k
 unfold iB at hd
 split at hd
 ·exact ⟨_,_,(hA.told Ek).rd (By hd.1 (by decide)),(hA.told mem_mid).rd (By hd.2.1 (by decide)),hd.1,k _ _ [] H (hA.drop2.pushI (.bl _)) hd.2.2⟩
 ·exact hd.elim
theorem zT{ne:Bool}:gO K (S8 K ne) (jR ne):=by
 intro H0 X n S T x y v w F G H Q P hA hd k
 unfold jR at hd
 split at hd
 ·obtain ⟨a,xs,G',rfl,hq,hs,_,_⟩:=(hA.told mem_mid).list_inv
  refine ⟨a,xs,_,_,rfl,.inl (Tq.of hq),(hA.told Ek).rd (By hd.2.1 (by decide)),hs.rd (By hd.1 (by decide)),hd.1,?_⟩
  cases ne with
  | true=>exact k _ _ [] H (hA.drop2.pushI (.bl _)) hd.2.2
  | false=>exact k _ _ [] H (hA.drop2.pushI (.bl _)) hd.2.2
 ·obtain ⟨a,xs,rfl,hq,hs,_⟩:=(hA.told mem_mid).tup_inv
  refine ⟨a,xs,_,_,rfl,.inr (Uj.of hq),(hA.told Ek).rd (By hd.2.1 (by decide)),hs.rd (By hd.1 (by decide)),hd.1,?_⟩
  cases ne with
  | true=>exact k _ _ [] H (hA.drop2.pushI (.bl _)) hd.2.2
  | false=>exact k _ _ [] H (hA.drop2.pushI (.bl _)) hd.2.2
 ·exact hd.elim
def isNone:Ac->Bool
 | .none=>true
 | _=>false
theorem u7{v:V}{H:Hp}{d:Ac}{F:List Addr}(r:RdF K H v d F):decide (v=.non)=isNone d:=by
 cases r <;> simp [isNone]
def qI(ne:Bool):D2:=λx y P=>match x,y with
 | .dat _ d,.dat _ .none=>P (.dat .ow (.bool (match ne with | true=>!isNone d | false=>isNone d)))
 | _,_=>False
theorem F3:gO K (λx y H Q=>y=.non/\Q (.bl (!decide (x=.non))) H) (qI true):=by
 intro H0 X n S T x y v w F G H Q P hA hd k
 unfold qI at hd
 split at hd
 ·rename_i m d m'
  obtain ⟨rfl,_⟩:=(hA.told mem_mid).non_inv
  refine ⟨rfl,k _ _ [] H (hA.drop2.pushI (m:=.ow) (.bl _)) ?_⟩
  rw[u7 (hA.told Ek)]
  exact hd
 ·exact hd.elim
end
section
variable{X:Cx}{a b:Expr}{da db:DE}{pos:Pos}
theorem Tn(hu:X.A.units+64<cLine)(ha:Em X a da)(hb:Em X b db):Em X (.Compare a [.Eq] [b] pos) (Tr (iB false) da db):=Zp (uL hu) L4 ha hb (Oh _)
theorem BZ(hu:X.A.units+64<cLine)(ha:Em X a da)(hb:Em X b db)(hm:Fk .In b=false:=by with_unfolding_all rfl):Em X (.Compare a [.In] [b] pos) (Tr (jR false) da db):=Zp (vA hu) zT ha hb hm
end
def Mu:Md->Md
 | .ow=>.ow
 | .tp=>.sh
 | m=>m
theorem At.part{K:PySem.W.Frag}{H0 H:Hp}{X:Addr->Prop}{n:Nat}{S T:List Ent}{v w:V}{m:Md}{d e:Ac}{F G:List Addr}(h:At K H0 X n (S++⟨some v,.dat m d,F⟩::T) H)(r:RdF K H w e G)(hG:G.Sublist F):At K H0 X n (S++⟨some w,.dat (Mu m) e,G⟩::T) H:=by
 have h2:=h.mid
 have hs:=Ba.mp h2.sep
 obtain ⟨v',e1,h1,hn,ht⟩:=h2.ok _ Ab
 have cs:∀a∈cells ⟨some w,.dat (Mu m) e,G⟩,a∈cells ⟨some v,.dat m d,F⟩:=λa ha=>by
  cases m with
  | ow=>exact hG.subset ha
  | tp=>exact nomatch ha
  | sh=>exact nomatch ha
  | pk=>exact nomatch ha
 refine (h.drop.push (e:=⟨some w,.dat (Mu m) e,G⟩) ⟨w,rfl,r,λz=>?_,λz=>?_⟩ (λf hf=>?_) λa ha=>?_).tomid
 ·cases m with
  | ow=>exact (hn rfl).sublist hG
  | _=>cases z
 ·cases m <;> cases z
 ·refine ⟨λhp a ha=>(hs.1 f hf).1 ?_ a (cs a ha),λhp a ha z=>(hs.1 f hf).2 ?_ a ha (hG.subset z)⟩
  ·rcases hp with hp | hp
   ·exact .inl hp
   ·cases hp
  ·rcases hp with hp | hp
   ·refine .inl ?_
    cases m <;> first | rfl | exact hp
   ·exact .inr hp
 ·rcases h2.new _ Ab a (cs a ha) with z | z
  ·exact .inl z
  ·cases z.2
def sW:D2:=λx y P=>match x,y with
 | .dat m (.list ds),.dat _ (.int i)=>∃d,Tj ds i=some d/\P (.dat (Mu m) d)
 | .dat m (.tuple ds),.dat _ (.int i)=>∃d,Tj ds i=some d/\P (.dat (Mu m) d)
 | .dat _ (.str z),.dat _ (.int i)=>z.length<=Bd/\∃c,Tj z.cps.toList i=some c/\P (.dat .ow (.str ⟨#[c]⟩))
 | _,_=>False
theorem vD{K:PySem.W.Frag}{H:Hp}{xs:List V}{ds:List Ac}{F:List Addr}{i:Int}{d:Ac}(r:RdFs K H xs ds F)(h:Tj ds i=some d):∃x G,Tj xs i=some x/\RdF K H x d G/\G.Sublist F:=by
 unfold Tj at h ⊢
 rw[r.len]
 cases e:rK ds.length i with
 | none=>rw[e] at h; cases h
 | some j =>
  rw[e] at h
  exact r.get h
theorem CK{K:PySem.W.Frag}:gO K (FY K) sW:=by
 intro H0 X n S T x y v w F G H Q P hA hd k
 unfold sW at hd
 split at hd
 ·obtain ⟨d,hi,p⟩:=hd
  obtain ⟨rfl,_⟩:=(hA.told mem_mid).int_inv
  have r:=hA.told Ek
  have hA':=hA.drop
  obtain ⟨a,xs,G0,rfl,hq,hs,hG,_⟩:=r.list_inv
  obtain ⟨x,G',h1,h2,h3⟩:=vD hs hi
  subst hG
  exact .inl ⟨_,_,_,_,rfl,rfl,Tq.of hq,h1,k _ _ G' H (hA'.part h2 (h3.trans (Dn _ _))) p⟩
 ·obtain ⟨d,hi,p⟩:=hd
  obtain ⟨rfl,_⟩:=(hA.told mem_mid).int_inv
  have r:=hA.told Ek
  have hA':=hA.drop
  obtain ⟨a,xs,rfl,hq,hs,_⟩:=r.tup_inv
  obtain ⟨x,G',h1,h2,h3⟩:=vD hs hi
  exact .inr (.inl ⟨_,_,_,_,rfl,rfl,Uj.of hq,h1,k _ _ G' H (hA'.part h2 h3) p⟩)
 ·obtain ⟨hz,c,hi,p⟩:=hd
  obtain ⟨rfl,_⟩:=(hA.told mem_mid).int_inv
  obtain ⟨rfl,_⟩:=(hA.told Ek).str_inv
  exact .inr (.inr ⟨_,_,_,rfl,rfl,hz,hi,k _ _ [] H (hA.drop2.pushI (.str _)) p⟩)
 ·exact hd.elim
theorem Ed{X:Cx}{a b:Expr}{da db:DE}{pos:Pos}(ha:Em X a da)(hb:Em X b db)(hs:iI b:=by intro _ _; rfl):Em X (.Subscript a b pos) (Tr sW da db):=BP O2 CK ha hb hs
def Up:Md->Md
 | .ow=>.ow
 | .pk=>.pk
 | _=>.tp
def Oy(i:Bool)(m:Md)(ds:List Ac)(P:DV->Prop):Prop:=match i with
 | true=>Du ds=true/\P (.dat .ow (.list ds))
 | false=>P (.dat (Up m) (.list ds))
def Xy(i:Bool)(m:Md)(ds:List Ac)(P:DV->Prop):Prop:=match i with
 | true=>Du ds=true/\P (.dat .ow (.tuple ds))
 | false=>P (.dat (Mu m) (.tuple ds))
section
variable{K:PySem.W.Frag}{H0 H:Hp}{X:Addr->Prop}{n:Nat}{S T:List Ent}{v w:V}{m:Md}{d e:Ac}{F G:List Addr}{p:Addr}{xs:List V}{ds:List Ac}{P:DV->Prop}{i:Bool}
theorem At.newI(h:At K H0 X n (S++T) H)(r:RdFs K H xs ds G)(hi:Du ds=true)(hz:ds.length<=Bd)(hp:H p=none)(m:Md):At K H0 X n (S++⟨some (.ref p),.dat m (.list ds),[p]⟩::T) (upd H p (.lst xs)):=by
 obtain rfl:=r.imm hi
 have s1:=Ff hp (.lst xs)
 have h1:=h.grow (n':=n) s1 (An _)
 refine (h1.push (e:=⟨some (.ref p),.dat m (.list ds),[p]⟩) ⟨_,rfl,.lst Dt hz (r.kp (Kp.of s1)),λ_=>Bt.mpr ⟨Bk,Cv⟩,λ_ a l z=>by cases z; exact Bk⟩ (λf hf=>?_) λa ha=>?_).tomid
 ·have nf:=h.free hp f hf
  refine ⟨λ_ a ha z=>?_,λ_ a ha z=>?_⟩
  ·have:=Ex _ a ha
   rw[Ag.mp this] at z
   exact nf z
  ·rw[Ag.mp z] at ha
   exact nf (Ex _ _ ha)
 ·have:=Ex _ a ha
  rw[Ag.mp this]
  exact .inl (h.new0 hp)
theorem At.newL(h:At K H0 X n (S++⟨some v,.dat m d,F⟩::T) H)(r:RdFs K H xs ds G)(hG:G.Sublist F)(hz:ds.length<=Bd)(hp:H p=none)(q:Oy i m ds P):∃z F',At K H0 X n (S++⟨some (.ref p),z,F'⟩::T) (upd H p (.lst xs))/\P z:=by
 cases i with
 | true=>exact ⟨_,_,h.drop.newI r q.1 hz hp .ow,q.2⟩
 | false =>
  have q:P (.dat (Up m) (.list ds)):=q
  refine ⟨_,p::G,?_,q⟩
  have s1:=Ff hp (.lst xs)
  have h2:=h.mid
  have hs:=Ba.mp h2.sep
  obtain ⟨v',e1,_,hn,_⟩:=h2.ok _ Ab
  have h1:=h.drop.grow (n':=n) s1 (An _)
  have npF:p∉F:=h2.free hp _ Ab
  have npG:p∉G:=λz=>npF (hG.subset z)
  have cs:∀a∈cells ⟨some (.ref p),.dat (Up m) (.list ds),p::G⟩,a=p\/(a∈cells ⟨some v,.dat m d,F⟩):=λa ha=>by
   cases m with
   | ow =>
    rcases Ai.mp ha with z | z
    ·exact .inl z
    ·exact .inr (hG.subset z)
   | tp=>exact .inl (Ag.mp ha)
   | sh=>exact .inl (Ag.mp ha)
   | pk=>exact nomatch ha
  refine (h1.push (e:=⟨some (.ref p),.dat (Up m) (.list ds),p::G⟩) ⟨_,rfl,.lst Dt hz (r.kp (Kp.of s1)),λz=>?_,λz a l e=>?_⟩ (λf hf=>?_) λa ha=>?_).tomid
  ·cases m with
   | ow=>exact Bt.mpr ⟨npG,(hn rfl).sublist hG⟩
   | _=>cases z
  ·cases e
   exact npG
  ·have nf:=h2.free hp f (Ah _ hf)
   refine ⟨λhq a ha z=>?_,λhq a ha z=>?_⟩
   ·rcases cs a ha with rfl | hc
    ·exact nf z
    ·refine (hs.1 f hf).1 ?_ a hc z
     rcases hq with hq | hq
     ·exact .inl hq
     ·cases hq
   ·rcases Ai.mp z with rfl | z
    ·exact nf (Ex _ _ ha)
    ·refine (hs.1 f hf).2 ?_ a ha (hG.subset z)
     rcases hq with hq | hq
     ·refine .inl ?_
      cases m <;> first | rfl | exact hq
     ·exact .inr hq
  ·rcases cs a ha with rfl | hc
   ·exact .inl (h2.new0 hp)
   ·rcases h2.new _ Ab a hc with z | z
    ·exact .inl z
    ·cases z.2
theorem At.newT(h:At K H0 X n (S++⟨some v,.dat m d,F⟩::T) H)(r:RdFs K H xs ds G)(hG:G.Sublist F)(hz:ds.length<=Bd)(hp:H p=none)(q:Xy i m ds P):∃z F',At K H0 X n (S++⟨some (.ref p),z,F'⟩::T) (upd H p (.tup xs))/\P z:=by
 have s1:=Ff hp (.tup xs)
 have h1:=h.grow (n':=n) s1 (An _)
 cases i with
 | true =>
  obtain rfl:=r.imm q.1
  exact ⟨_,[],h1.drop.pushI (.tup Dt hz (r.kp (Kp.of s1))),q.2⟩
 | false=>exact ⟨_,G,h1.part (.tup Dt hz (r.kp (Kp.of s1))) hG,q⟩
theorem At.oldT{t:Addr}(h:At K H0 X n (S++⟨some v,.dat m d,F⟩::T) H)(r:RdFs K H xs ds G)(hG:G.Sublist F)(hz:ds.length<=Bd)(ht:H t=some (.tup xs))(q:Xy i m ds P):∃z F',At K H0 X n (S++⟨some (.ref t),z,F'⟩::T) H/\P z:=by
 cases i with
 | true =>
  obtain rfl:=r.imm q.1
  exact ⟨_,[],h.drop.pushI (.tup ht hz r),q.2⟩
 | false=>exact ⟨_,G,h.part (.tup ht hz r) hG,q⟩
end
def S7:DA:=λδ P=>P [] δ
def L5(de:DE)(da:DA):DA:=λδ P=>de δ λx δ1=>da δ1 λxs δ2=>P (x::xs) δ2
section
variable{X:Cx}{e:Expr}{es:List Expr}{de:DE}{da:DA}
theorem Aj:mE X [] S7:=by
 refine PA.imp Pj λσ H Q h=>?_
 obtain ⟨H0,Y,S,T,δ,P,rfl,hS,hA,hd,k⟩:=h
 exact k [] δ [] [] S H rfl hS rfl rfl hA hd
theorem Aa(ha:Em X e de)(hr:mE X es da)(hs:Bz (e::es) X.env=(false,eval e X.env)::Bz es X.env:=by rfl):mE X (e::es) (L5 de da):=by
 refine PA.imp (Hu ha hr hs) λσ H Q h=>?_
 obtain ⟨H0,Y,S,T,δ,P,rfl,hS,hA,hd,k⟩:=h
 refine ⟨H0,Y,S,T,δ,_,rfl,hS,hA,hd,λx δ1 v F S1 H1 e1 e2 hA1 p1=>?_⟩
 refine ⟨H0,Y,S1,⟨some v,x,F⟩::T,δ1,_,e1,e2,hA1,p1,λxs δ2 As us S2 H2 e3 e4 ex eu hA2 p2=>?_⟩
 refine k (x::xs) δ2 (⟨some v,x,F⟩::As) (v::us) S2 H2 e3 e4 (by rw[Bb,ex]) (by rw[Bb,Bb,eu]) (hA2.perm ((Nz S2).append ?_)) p2
 exact Qw
end
def allOw:List DV->Bool
 | []=>true
 | .dat .ow _::xs=>allOw xs
 | _=>false
def noPk:List DV->Bool
 | []=>true
 | .dat .pk _::_=>false
 | .dat _ _::xs=>noPk xs
 | _=>false
def datas:List DV->Option (List Ac)
 | []=>some []
 | .dat _ d::xs=>(datas xs).map (d::·)
 | _=>none
def pkMd(top:Md)(xs:List DV):Md:=if allOw xs=true then .ow else if noPk xs=true then top else .pk
section
variable{K:PySem.W.Frag}{H0 H:Hp}{X:Addr->Prop}{n:Nat}{S T As:List Ent}
theorem bC:∀{As:List Ent} {us:List V} {ds:List Ac},As.map Ent.v=us.map some->datas (As.map Ent.x)=some ds->(∀e∈As,Ka K H n e)->RdFs K H us ds (As.flatMap Ent.F)
 | [],us,ds,e,h,_=>by
  cases us with
  | nil=>cases h; exact .nil
  | cons _ _=>cases e
 | ent::As,us,ds,e,h,ok=>by
  cases us with
  | nil=>cases e
  | cons u us =>
   rw[Bb,Bb] at e
   obtain ⟨e1,e2⟩:=Fu e
   obtain ⟨v,x,F⟩:=ent
   have e1':v=some u:=e1
   subst e1'
   rw[Bb] at h
   cases x with
   | dat m d =>
    rw[show datas (DV.dat m d::As.map Ent.x)=(datas (As.map Ent.x)).map (d::·) from rfl] at h
    cases q:datas (As.map Ent.x) with
    | none=>rw[q] at h; cases h
    | some es =>
     rw[q] at h
     cases h
     obtain ⟨w,ew,rw',_⟩:=ok _ Ab
     cases ew
     rw[Yk]
     exact .cons rw' (bC e2 q λf hf=>ok f (Ah _ hf))
   | _=>cases h
theorem Pt:∀{As:List Ent},allOw (As.map Ent.x)=true->∀e∈As,∃d,e.x=.dat .ow d
 | [],_,_,h=>nomatch h
 | ⟨v,x,F⟩::As,h,e,he=>by
  rw[Bb] at h
  have hx:(∃d,x=.dat .ow d)/\allOw (As.map Ent.x)=true:=by
   cases x with
   | dat m d=>cases m <;> first | exact ⟨⟨d,rfl⟩,h⟩ | cases h
   | _=>cases h
  rcases Ai.mp he with rfl | he
  ·exact hx.1
  ·exact Pt hx.2 e he
theorem lX:∀{As:List Ent},noPk (As.map Ent.x)=true->∀e∈As,Mv e.x=false
 | [],_,_,h=>nomatch h
 | ⟨v,x,F⟩::As,h,e,he=>by
  rw[Bb] at h
  have hx:Mv x=false/\noPk (As.map Ent.x)=true:=by
   cases x with
   | dat m d=>cases m <;> first | exact ⟨rfl,h⟩ | cases h
   | _=>cases h
  rcases Ai.mp he with rfl | he
  ·exact hx.1
  ·exact lX hx.2 e he
theorem Zk:∀{As:List Ent},(∀e∈As,∃d,e.x=.dat .ow d)->(∀e∈As,Ka K H n e)->As.Pairwise Vi->(As.flatMap Ent.F).Nodup
 | [],_,_,_=>Cv
 | ent::As,ho,ok,hs=>by
  rw[Yk]
  have hc:=Ba.mp hs
  obtain ⟨v,x,F⟩:=ent
  obtain ⟨d,hd⟩:=ho _ Ab
  have hd':x=.dat .ow d:=hd
  subst hd'
  obtain ⟨w,_,_,hn,_⟩:=ok _ Ab
  refine Fq.mpr ⟨hn rfl,Zk (λe he=>ho e (Ah _ he)) (λe he=>ok e (Ah _ he)) hc.2,λa ha b hb z=>?_⟩
  subst z
  obtain ⟨f,hf,hb⟩:=El.mp hb
  obtain ⟨d',hd'⟩:=ho f (Ah _ hf)
  exact (hc.1 f hf).1 (.inl (by rw[hd']; rfl)) a ha hb
theorem At.pack{v:V}{d:Ac}{N:List Addr}{H':Hp}{top:Md}(h:At K H0 X n (S++(As++T)) H)(s:Same H H')(hN:∀a∈N,H a=none)(ndN:N.Nodup)(htop:(top=.tp/\N.length=1)\/(top=.sh/\N=[]))(r:RdF K H' v d (N++As.flatMap Ent.F)):At K H0 X n (S++⟨some v,.dat (pkMd top (As.map Ent.x)) d,N++As.flatMap Ent.F⟩::T) H':=by
 have hp:(S++(As++T)).Perm (As++(S++T)):=by
  rw[<- Dq,<- Dq]
  exact Js.append_right T
 have h2:=h.perm hp
 have hs:=Cn.mp h2.sep
 have h1:=(h.dropL).grow (n':=n) s (An _)
 have nN:∀a∈N,∀f∈As++(S++T),a∉f.F:=λa ha f hf=>h2.free (hN a ha) f hf
 have nFlat:∀a∈N,a∉As.flatMap Ent.F:=λa ha z=>by
  obtain ⟨f,hf,z⟩:=El.mp z
  exact nN a ha f (Ap _ hf) z
 have cs:∀a∈cells ⟨some v,.dat (pkMd top (As.map Ent.x)) d,N++As.flatMap Ent.F⟩,a∈N\/(allOw (As.map Ent.x)=true/\∃f∈As,a∈cells f):=λa ha=>by
  unfold pkMd at ha
  by_cases hw:allOw (As.map Ent.x)=true
  ·rw[if_pos hw] at ha
   rcases Ay.mp ha with z | z
   ·exact .inl z
   ·obtain ⟨f,hf,z⟩:=El.mp z
    obtain ⟨d',hd'⟩:=Pt hw f hf
    refine .inr ⟨hw,f,hf,?_⟩
    unfold cells
    rw[hd']
    exact z
  ·rw[if_neg hw] at ha
   by_cases hk:noPk (As.map Ent.x)=true
   ·rw[if_pos hk] at ha
    rcases htop with ⟨rfl,h1⟩ | ⟨rfl,rfl⟩
    ·match N,h1,ha with
     | [b],_,ha=>exact .inl ha
    ·exact nomatch ha
   ·rw[if_neg hk] at ha
    exact nomatch ha
 refine (h1.push (e:=⟨some v,.dat (pkMd top (As.map Ent.x)) d,N++As.flatMap Ent.F⟩) ⟨_,rfl,r,λz=>?_,λz a l e=>?_⟩ (λf hf=>?_) λa ha=>?_).tomid
 ·have hw:allOw (As.map Ent.x)=true:=by
   unfold pkMd at z
   by_cases hw:allOw (As.map Ent.x)=true
   ·exact hw
   ·rw[if_neg hw] at z
    split at z
    ·rcases htop with ⟨rfl,_⟩ | ⟨rfl,_⟩ <;> cases z
    ·cases z
  refine Fq.mpr ⟨ndN,Zk (Pt hw) (λe he=>h2.ok e (Ap _ he)) hs.1,λa ha b hb e=>?_⟩
  subst e
  exact nFlat a ha hb
 ·have ht:top=.tp:=by
   unfold pkMd at z
   split at z
   ·cases z
   ·split at z
    ·exact z
    ·cases z
  subst ht
  rcases htop with ⟨_,h1⟩ | ⟨h1,_⟩
  ·match N,h1,e,nFlat with
   | [b],_,e,nFlat =>
    cases e
    exact nFlat a Ab
  ·cases h1
 ·have hf':f∈As++(S++T):=Ao _ hf
  refine ⟨λhq a ha z=>?_,λhq a ha z=>?_⟩
  ·rcases cs a ha with hn | ⟨_,g,hg,hc⟩
   ·exact nN a hn f hf' z
   ·refine (hs.2.2 g hg f hf).1 ?_ a hc z
    rcases hq with hq | hq
    ·exact .inl hq
    ·cases hq
  ·rcases Ay.mp z with z | z
   ·exact nN a z f hf' (Ex _ _ ha)
   ·obtain ⟨g,hg,z⟩:=El.mp z
    refine (hs.2.2 g hg f hf).2 ?_ a ha z
    rcases hq with hq | hq
    ·refine .inl ?_
     have hq':Mv (.dat (pkMd top (As.map Ent.x)) d)=false:=hq
     unfold pkMd at hq'
     by_cases hw:allOw (As.map Ent.x)=true
     ·obtain ⟨d',hd'⟩:=Pt hw g hg
      rw[hd']
      rfl
     ·rw[if_neg hw] at hq'
      by_cases hk:noPk (As.map Ent.x)=true
      ·exact lX hk g hg
      ·rw[if_neg hk] at hq'
       cases hq'
    ·exact .inr hq
 ·rcases cs a ha with hn | ⟨_,g,hg,hc⟩
  ·exact .inl (h2.new0 (hN a hn))
  ·rcases h2.new g (Ap _ hg) a hc with z | z
   ·exact .inl z
   ·obtain ⟨d',hd'⟩:=Pt (by assumption) g hg
    rw[hd'] at z
    cases z.2
end
def Y3(da:DA):DE:=λδ P=>da δ λxs δ'=>match datas xs with
 | some ds=>ds.length<=1000/\P (.dat (pkMd .sh xs) (.tuple ds)) δ'
 | none=>False
def AH(da:DA):DE:=λδ P=>da δ λxs δ'=>match datas xs with
 | some ds=>ds.length<=1000/\P (.dat (pkMd .tp xs) (.list ds)) δ'
 | none=>False
section
variable{X:Cx}{es:List Expr}{da:DA}{pos:Pos}
theorem Dd{x1}(h:mE X es da):Em X (.Tuple es x1 pos) (Y3 da):=by
 refine PE.imp (N5 h) λσ H Q h=>?_
 obtain ⟨H0,Y,S,T,δ,P,rfl,hS,hA,hd,k⟩:=h
 refine ⟨H0,Y,S,T,δ,_,rfl,hS,hA,hd,λxs δ' As us S' H' e1 e2 ex eu hA' p=>?_⟩
 cases q:datas xs with
 | none=>rw[q] at p; exact p.elim
 | some ds =>
  rw[q] at p
  subst ex
  have r:=bC eu q λe he=>hA'.ok e (Ao _ (Ap _ he))
  have hl:=r.len
  have hz:ds.length<=Bd:=sz p.1
  refine ⟨by omega,λt ht=>?_⟩
  have s1:=Ff ht (.tup us)
  exact k _ δ' _ _ S' _ e1 e2 (hA'.pack (N:=[]) s1 (λ_ z=>nomatch z) Cv (.inr ⟨rfl,rfl⟩) (.tup Dt hz (r.kp (Kp.of s1)))) p.2
theorem Ep(h:mE X es da):Em X (.List es pos) (AH da):=by
 refine PE.imp (mX h) λσ H Q h=>?_
 obtain ⟨H0,Y,S,T,δ,P,rfl,hS,hA,hd,k⟩:=h
 refine ⟨H0,Y,S,T,δ,_,rfl,hS,hA,hd,λxs δ' As us S' H' e1 e2 ex eu hA' p=>?_⟩
 cases q:datas xs with
 | none=>rw[q] at p; exact p.elim
 | some ds =>
  rw[q] at p
  subst ex
  have r:=bC eu q λe he=>hA'.ok e (Ao _ (Ap _ he))
  have hl:=r.len
  have hz:ds.length<=Bd:=sz p.1
  refine ⟨by omega,λt ht=>?_⟩
  have s1:=Ff ht (.lst us)
  exact k _ δ' _ _ S' _ e1 e2 (hA'.pack (N:=[t]) s1 (λa z=>by rw[Ag.mp z]; exact ht) (Bt.mpr ⟨Bk,Cv⟩) (.inl ⟨rfl,rfl⟩) (.lst Dt hz (r.kp (Kp.of s1)))) p.2
end
end DL
namespace Nd
open PySem PySem.Spec PyProof.Rows L2
section
variable{X:Cx}
def L0:V->Option Int->Option Int->Hp->VK->Prop:=λx lo hi H Q=>∃a xs,x=.ref a/\H a=some (.tup xs)/\∀p H',H' p=some (.tup (aZ xs lo hi))->Same H H'->Q (.ref p) H'
theorem B3:R3 X L0:=by
 intro pins s σ H x v vl vu lo hi sl Q I rx hs pl pu h
 obtain ⟨a,xs,rfl,hx',q⟩:=h
 have hx:Uj X.K H a xs:=Uj.of hx'
 cases rx
 by_cases hw:HT.sIx xs.length 0 lo=0/\HT.sIx xs.length xs.length hi=xs.length
 ·obtain ⟨its,r,ht,hz⟩:=I.tuple hx
  have hlen:its.toArray.size=xs.length:=by rw[Aq]; exact r.length.symm
  refine ⟨"tuple",_,Ct.lookup,ht.typeIs,?_⟩
  refine Tf ht hs pl pu (by rw[hlen]; exact hw) ⟨.ref a,H,I,rfl,q a H ?_ (Same.refl _)⟩
  unfold aZ
  rw[hw.1,hw.2,List.drop_zero,Nat.sub_zero,Gb]
  exact hx'
 ·exact N3 pins s σ H (.ref a) (.ref a) vl vu lo hi sl Q I rfl hs pl pu ⟨a,xs,rfl,hx,hw,λp np=>q p _ Dt (Ff np _)⟩
end
end Nd
namespace Ts
open PySem PyProof.Rows
def le(blt:Keyed->Keyed->Bool)(x y:Keyed):Prop:=blt y x=false
abbrev lst(p q out:Array Keyed)(i j:Nat):Array Keyed:=out++q.extract j q.size++p.extract i p.size
abbrev ge(blt:Keyed->Keyed->Bool)(x y:Keyed):Prop:=le blt y x
def X(xs:Array Keyed)(i:Nat):Keyed:=xs[i]?.getD (Qy,Qy)
variable{blt:Keyed->Keyed->Bool}
end Ts
namespace Ts
open PySem PyProof.Rows L2
end Ts
namespace DL
open PySem L2 Nd
def Ic{α:Type}(xs:List α)(lo hi:Option Int):List α:=(xs.drop (HT.sIx xs.length 0 lo)).take (HT.sIx xs.length xs.length hi - HT.sIx xs.length 0 lo)
theorem jT{α β:Type}(f:α->β)(xs:List α)(lo hi:Option Int):Ic (xs.map f) lo hi=(Ic xs lo hi).map f:=by
 unfold Ic
 rw[Ad,Nh,List.map_drop]
theorem Oe{α:Type}(xs:List α)(lo hi:Option Int):(Ic xs lo hi).Sublist xs:=(Hq _ _).trans (List.drop_sublist _ _)
theorem Kz{α:Type}(xs:List α)(k:Nat):Ic xs none (some (k:Int))=xs.take k:=by
 unfold Ic
 rw[HT.sIx_none,HT.sIx_nat,List.drop_zero,Nat.sub_zero]
 by_cases h:k<=xs.length
 ·rw[Nat.min_eq_left h]
 ·rw[Nat.min_eq_right (by omega),Gb,Jc (by omega)]
section
variable{K:PySem.W.Frag}{H:Hp}
theorem RdFs.drop:∀(n:Nat) {xs:List V} {ds:List Ac} {F:List Addr},RdFs K H xs ds F->∃G,RdFs K H (xs.drop n) (ds.drop n) G/\G.Sublist F
 | 0,_,_,F,h=>⟨F,h,Ds _⟩
 | n+1,_,_,_,.nil=>⟨[],.nil,Ds _⟩
 | n+1,_,_,_,.cons _ t=>by
  obtain ⟨G,h1,h2⟩:=RdFs.drop n t
  exact ⟨G,h1,h2.trans (Dh _ _)⟩
theorem RdFs.take:∀(n:Nat) {xs:List V} {ds:List Ac} {F:List Addr},RdFs K H xs ds F->∃G,RdFs K H (xs.take n) (ds.take n) G/\G.Sublist F
 | 0,_,_,F,h=>⟨[],.nil,List.nil_sublist _⟩
 | n+1,_,_,_,.nil=>⟨[],.nil,Ds _⟩
 | n+1,_,_,_,.cons a t=>by
  obtain ⟨G,h1,h2⟩:=RdFs.take n t
  exact ⟨_,.cons a h1,(Ds _).append h2⟩
theorem RdFs.cut{xs:List V}{ds:List Ac}{F:List Addr}(h:RdFs K H xs ds F)(lo hi:Option Int):∃G,RdFs K H (aZ xs lo hi) (Ic ds lo hi) G/\G.Sublist F:=by
 unfold aZ Ic
 rw[h.len]
 obtain ⟨G,h1,h2⟩:=h.drop (HT.sIx ds.length 0 lo)
 obtain ⟨G',h3,h4⟩:=h1.take (HT.sIx ds.length ds.length hi - HT.sIx ds.length 0 lo)
 exact ⟨G',h3,h4.trans h2⟩
theorem RdFs.rev:∀{xs:List V} {ds:List Ac},RdFs K H xs ds []->RdFs K H xs.reverse ds.reverse []:=λ{xs ds} h=>by
 have : ∀{xs:List V} {ds:List Ac} {F:List Addr},RdFs K H xs ds F->F=[]->RdFs K H xs.reverse ds.reverse []:=by
  intro xs ds F h
  induction xs generalizing ds F with
  | nil=>intro _; cases h; exact .nil
  | cons x xs ih =>
   intro e
   cases h with
   | @cons _ d _ ds F G a t =>
    obtain ⟨rfl,rfl⟩:=oV.mp e
    rw[Hr,Hr]
    exact (ih t rfl).snoc a
 exact this h rfl
theorem RdFs.rep{xs:List V}{ds:List Ac}(h:RdFs K H xs ds []):∀k:Nat,RdFs K H (Cm k xs).flatten (Cm k ds).flatten []
 | 0=>.nil
 | k+1=>by
  rw[Gk,Gk,Jw,Jw]
  exact h.app (RdFs.rep h k)
theorem RdFs.ints:∀ns:List Int,RdFs K H (ns.map V.int) (ns.map Ax) []
 | []=>.nil
 | n::ns=>RdFs.cons (F:=[]) (.int n) (RdFs.ints ns)
theorem RdFs.ints_inv:∀{ns:List Int} {xs:List V} {F:List Addr},RdFs K H xs (ns.map Ax) F->xs=ns.map V.int/\F=[]
 | [],_,_,h=>by cases h; exact ⟨rfl,rfl⟩
 | n::ns,_,_,h=>by
  rw[Bb] at h
  cases h with
  | cons a t =>
   obtain ⟨rfl,rfl⟩:=a.int_inv
   obtain ⟨rfl,rfl⟩:=RdFs.ints_inv t
   exact ⟨rfl,rfl⟩
theorem RdFs.bools_inv:∀{ns:List Bool} {xs:List V} {F:List Addr},RdFs K H xs (ns.map Tg) F->xs=ns.map V.bl/\F=[]
 | [],_,_,h=>by cases h; exact ⟨rfl,rfl⟩
 | n::ns,_,_,h=>by
  rw[Bb] at h
  cases h with
  | cons a t =>
   obtain ⟨rfl,rfl⟩:=a.bl_inv
   obtain ⟨rfl,rfl⟩:=RdFs.bools_inv t
   exact ⟨rfl,rfl⟩
end
theorem Zt{a b:List Ac}:Du (a++b)=(Du a && Du b):=by
 induction a with
 | nil=>simp [Du]
 | cons x a ih=>simp [Du,ih,Bool.and_assoc]
theorem Mn(ns:List Int):Du (ns.map Ax)=true:=Qa (λ_=>by simp [imm]) ns
def pC:D2:=λx y P=>match x,y with
 | .dat _ (.list ds),.dat _ (.list es)=>Du ds=true/\Du es=true/\ds.length+es.length<=1000000/\P (.dat .ow (.list (ds++es)))
 | _,_=>False
def Wm:D2:=λx y P=>match x,y with
 | .dat _ (.tuple ds),.dat _ (.tuple es)=>Du ds=true/\Du es=true/\ds.length+es.length<=1000000/\P (.dat .ow (.tuple (ds++es)))
 | _,_=>False
def xX:D2:=λx y P=>match x,y with
 | .dat _ (.list ds),.dat _ (.int k)=>Du ds=true /\ -1000000<=k/\k<=1000000/\ds.length * k.toNat<=1000000/\P (.dat .ow (.list (Cm k.toNat ds).flatten))
 | _,_=>False
section
variable{K:PySem.W.Frag}
theorem M9:gO K U9 pC:=by
 intro H0 X n S T x y v w F G H Q P hA hd k
 unfold pC at hd
 split at hd
 ·obtain ⟨i1,i2,hz,p⟩:=hd
  obtain ⟨b,ys,G1,rfl,hb,rb,_,_⟩:=(hA.told mem_mid).list_inv
  obtain ⟨a,xs,G2,rfl,ha,ra,_,_⟩:=(hA.told Ek).list_inv
  have l1:=ra.len
  have l2:=rb.len
  refine ⟨a,b,xs,ys,rfl,rfl,ha,hb,fP (by omega),λq hq=>?_⟩
  exact k _ _ _ _ (hA.drop2.newI (ra.app rb) (by rw[Zt,i1,i2]; rfl) (by rw[Az]; exact fP (by omega)) hq .ow) p
 ·exact hd.elim
theorem S9:gO K AE xX:=by
 intro H0 X n S T x y v w F G H Q P hA hd k
 unfold xX at hd
 split at hd
 ·obtain ⟨i1,k0,k1,hz,p⟩:=hd
  obtain ⟨rfl,_⟩:=(hA.told mem_mid).int_inv
  obtain ⟨a,xs,G2,rfl,ha,ra,_,_⟩:=(hA.told Ek).list_inv
  have l1:=ra.len
  obtain rfl:=ra.imm i1
  rename_i j
  refine ⟨a,_,xs,rfl,rfl,ha,by omega,by omega,fP (by rw[l1]; exact hz),λq hq=>?_⟩
  refine k _ _ _ _ (hA.drop2.newI (ra.rep _) ?_ (by rw[pI,Za]; exact fP hz) hq .ow) p
  refine mI.mpr λz hz'=>?_
  obtain ⟨l,hl,hz'⟩:=List.mem_flatten.mp hz'
  rw[(Hh.mp hl).2] at hz'
  exact mI.mp i1 z hz'
 ·exact hd.elim
theorem t9:gO K (zN K) Wm:=by
 intro H0 X n S T x y v w F G H Q P hA hd k
 unfold Wm at hd
 split at hd
 ·obtain ⟨i1,i2,hz,p⟩:=hd
  obtain ⟨b,ys,rfl,hb,rb,zb⟩:=(hA.told mem_mid).tup_inv
  obtain ⟨a,xs,rfl,ha,ra,za⟩:=(hA.told Ek).tup_inv
  have l1:=ra.len
  have l2:=rb.len
  obtain rfl:=ra.imm i1
  obtain rfl:=rb.imm i2
  refine ⟨a,b,xs,ys,rfl,rfl,Uj.of ha,Uj.of hb,fP (by omega),λe=>?_,λe=>?_,λq hq=>?_⟩
  ·subst e
   obtain rfl:=Eo.mp (l1.symm.trans rfl)
   exact k _ _ [] _ (hA.drop2.pushI (.tup hb zb rb)) p
  ·subst e
   obtain rfl:=Eo.mp (l2.symm.trans rfl)
   rw[Ec] at p
   exact k _ _ [] _ (hA.drop2.pushI (.tup ha za ra)) p
  ·have s1:=Ff hq (.tup (xs++ys))
   exact k _ _ [] _ ((hA.drop2.grow s1 (An _)).pushI (.tup Dt (by rw[Az]; exact fP (by omega)) ((ra.app rb).kp (Kp.of s1)))) p
 ·exact hd.elim
end
section
variable{X:Cx}{a b:Expr}{da db:DE}{pos:Pos}
theorem fS(ha:Em X a da)(hb:Em X b db):Em X (.BinOp a .Add b pos) (Tr pC da db):=To xK M9 ha hb
theorem Sr(ha:Em X a da)(hb:Em X b db):Em X (.BinOp a .Add b pos) (Tr Wm da db):=To oZ t9 ha hb
theorem V9(ha:Em X a da)(hb:Em X b db):Em X (.BinOp a .Mult b pos) (Tr xX da db):=To P5 S9 ha hb
end
abbrev DO:=DS->(Option Int->DS->Prop)->Prop
def LO(K:PySem.W.Frag)(do_:DO):TO:=λσ H Q=>∃(H0:Hp) (X:Addr->Prop) (S T:List Ent) (δ:DS) (P:Option Int->DS->Prop),vs S=σ/\Sl S δ/\At K H0 X δ.n (S++T) H/\do_ δ P /\
 ∀o δ' S' H',vs S'=σ->Sl S' δ'->At K H0 X δ'.n (S'++T) H'->P o δ'->Q o H'
abbrev W9(X:Cx)(e:Option Expr)(d:DO):Prop:=PO X e (LO X.K d)
theorem PO.imp{X:Cx}{e:Option Expr}{t t':TO}(h:PO X e t)(k:∀σ H Q,t' σ H Q->t σ H Q):PO X e t':=λpins s σ H Q I q=>h pins s σ H Q I (k σ H Q q)
def qL:DO:=λδ P=>P none δ
def G7(de:DE):DO:=λδ P=>de δ λx δ'=>match x with
 | .dat _ (.int i)=>P (some i) δ'
 | _=>False
section
variable{X:Cx}{e:Expr}{de:DE}{lo hi:Option Expr}{dl dh:DO}{pos p2:Pos}
theorem Ip:W9 X none qL:=by
 refine PO.imp C3 λσ H Q h=>?_
 obtain ⟨H0,Y,S,T,δ,P,rfl,hS,hA,hd,k⟩:=h
 exact k _ δ S H rfl hS hA hd
theorem Iq(h:Em X e de):W9 X (some e) (G7 de):=by
 refine PO.imp (D0 h) λσ H Q h=>?_
 obtain ⟨H0,Y,S,T,δ,P,rfl,hS,hA,hd,k⟩:=h
 refine ⟨H0,Y,S,T,δ,_,rfl,hS,hA,hd,λx δ' v F S' H' e1 e2 hA' p=>?_⟩
 split at p
 ·obtain ⟨rfl,_⟩:=(hA'.told mem_mid).int_inv
  exact ⟨_,rfl,k _ δ' S' H' e1 e2 hA'.drop p⟩
 ·exact p.elim
def FU(i:Bool)(de:DE)(dl dh:DO):DE:=λδ P=>de δ λx δ1=>dl δ1 λl δ2=>dh δ2 λh δ3=>match x with
 | .dat m (.list ds)=>Oy i m (Ic ds l h) λz=>P z δ3
 | .dat m (.tuple ds)=>Xy i m (Ic ds l h) λz=>P z δ3
 | _=>False
def FH(K:PySem.W.Frag):V->Option Int->Option Int->Hp->VK->Prop:=λx lo hi H Q=>T2 K x lo hi H Q\/L0 x lo hi H Q
theorem Jo{i:Bool}(he:Em X e de)(hl:W9 X lo dl)(hh:W9 X hi dh):Em X (.Subscript e (.Slice lo hi none p2) pos) (FU i de dl dh):=by
 refine PE.imp (iU (r:=FH X.K) (r6.or B3) he hl hh) λσ H Q h=>?_
 obtain ⟨H0,Y,S,T,δ,P,rfl,hS,hA,hd,k⟩:=h
 refine ⟨H0,Y,S,T,δ,_,rfl,hS,hA,hd,λx δ1 v F S1 H1 e1 e2 hA1 p1=>?_⟩
 refine ⟨H0,Y,S1,⟨some v,x,F⟩::T,δ1,_,e1,e2,hA1,p1,λl δ2 S2 H2 e3 e4 hA2 p2=>?_⟩
 refine ⟨H0,Y,S2,⟨some v,x,F⟩::T,δ2,_,e3,e4,hA2,p2,λh δ3 S3 H3 e5 e6 hA3 p3=>?_⟩
 split at p3
 ·obtain ⟨a,xs,G,rfl,ha,ra,rfl,hz⟩:=(hA3.told mem_mid).list_inv
  refine .inl ⟨a,xs,rfl,Tq.of ha,λp hp=>?_⟩
  obtain ⟨G',h1,h2⟩:=ra.cut l h
  obtain ⟨z,F',hA4,p4⟩:=hA3.newL h1 (h2.trans (Dn _ _)) (By (Oe _ _ _).length_le hz) hp p3
  exact k z δ3 _ F' S3 _ e5 e6 hA4 p4
 ·obtain ⟨a,xs,rfl,ha,ra,hz⟩:=(hA3.told mem_mid).tup_inv
  refine .inr ⟨a,xs,rfl,ha,λp H' hp s1=>?_⟩
  obtain ⟨G',h1,h2⟩:=ra.cut l h
  obtain ⟨z,F',hA4,p4⟩:=(hA3.grow s1 (An _)).oldT (h1.kp (Kp.of s1)) h2 (By (Oe _ _ _).length_le hz) hp p3
  exact k z δ3 _ F' S3 _ e5 e6 hA4 p4
 ·exact p3.elim
def K6(de:DE):DE:=λδ P=>de δ λx δ1=>match x with
 | .dat _ (.tuple ds)=>Du ds=true/\P (.dat .ow (.tuple ds.reverse)) δ1
 | _=>False
theorem u9{k:Expr}{tk:TE}(he:Em X e de)(hk:PE X k tk)(htk:∀σ H Q,Q (.int (-1)) H->tk σ H Q):Em X (.Subscript e (.Slice none none (some k) p2) pos) (K6 de):=by
 refine PE.imp (O4 he hk htk) λσ H Q h=>?_
 obtain ⟨H0,Y,S,T,δ,P,rfl,hS,hA,hd,kk⟩:=h
 refine ⟨H0,Y,S,T,δ,_,rfl,hS,hA,hd,λx δ1 v F S1 H1 e1 e2 hA1 p1=>?_⟩
 split at p1
 ·obtain ⟨a,xs,rfl,ha,ra,hz⟩:=(hA1.told mem_mid).tup_inv
  obtain rfl:=ra.imm p1.1
  refine ⟨a,xs,rfl,Uj.of ha,λp hp=>?_⟩
  have s1:=Ff hp (.tup xs.reverse)
  exact kk _ δ1 _ [] S1 _ e1 e2 ((hA1.drop.grow s1 (An _)).pushI (.tup Dt (by rw[Ez]; exact hz) (ra.rev.kp (Kp.of s1)))) p1.2
 ·exact p1.elim
end
end DL
namespace NdS
open PySem PyProof.Rows
end NdS
namespace Nd
open PySem PySem.Spec PyProof.Rows L2 NdS
end Nd
namespace DL
open PySem L2 Nd
def jF(x:Int):List Int->List Int
 | []=>[x]
 | y::l=>if x<y then x::y::l else if x=y then y::l else y::jF x l
def Yb(ns:List Int):List Int:=ns.foldr jF []
theorem lI{x z:Int}:∀{l:List Int},z∈jF x l↔z=x\/z∈l
 | []=>by simp [jF]
 | y::l=>by
  unfold jF
  split
  ·simp
  ·split
   ·rename_i h1 h2
    subst h2
    simp
   ·simp only[Ai,lI (l:=l)]
    constructor
    ·rintro (h | h | h) <;> simp [h]
    ·rintro (h | h | h) <;> simp [h]
theorem dG{x:Int}:∀{l:List Int},l.Pairwise (· < ·)->(jF x l).Pairwise (· < ·)
 | [],_=>Gg _ _
 | y::l,h=>by
  obtain ⟨h1,h2⟩:=Ba.mp h
  unfold jF
  split
  ·rename_i hx
   refine Ba.mpr ⟨λz hz=>?_,h⟩
   rcases Ai.mp hz with rfl | hz
   ·exact hx
   ·exact Int.lt_trans hx (h1 z hz)
  ·split
   ·exact h
   ·refine Ba.mpr ⟨λz hz=>?_,dG h2⟩
    rcases lI.mp hz with rfl | hz
    ·omega
    ·exact h1 z hz
theorem We:∀ns:List Int,(Yb ns).Pairwise (· < ·)
 | []=>Eh
 | n::ns=>dG (We ns)
theorem wM{x:Int}:∀{ns:List Int},x∈Yb ns↔x∈ns
 | []=>Iff.rfl
 | n::ns=>by
  rw[show Yb (n::ns)=jF n (Yb ns) from rfl,lI,wM (ns:=ns),Ai]
theorem x4{l ns:List Int}(h:l.Pairwise (· < ·))(m:∀x,x∈l↔x∈ns):l=Yb ns:=dJ h (We ns) λx=>(m x).trans wM.symm
abbrev DC:=List DV->(DV->Prop)->Prop
def Qt(K:PySem.W.Frag)(r:List V->Hp->VK->Prop)(rd:DC):Prop:=∀(H0:Hp) (X:Addr->Prop) (n:Nat) (S T As:List Ent) (us:List V) (H:Hp) (Q:VK) (P:DV->Prop),
 As.map Ent.v=us.map some->At K H0 X n (S++(As++T)) H->rd (As.map Ent.x) P->(∀z u F' H',At K H0 X n (S++⟨some u,z,F'⟩::T) H'->P z->Q u H')->r us H Q
def CZ(rd:DC)(da:DA):DE:=λδ P=>da δ λxs δ1=>rd xs λz=>P z δ1
section
variable{X:Cx}{x:Str}{p pos:Pos}{e:Expr}{es:List Expr}{da:DA}{id T:String}{r:List V->Hp->VK->Prop}{rd:DC}
theorem G3{K:PySem.W.Frag}(o:Qt K r rd):∀σ H Q,LE K (CZ rd da) σ H Q->EF r (LA K da) σ H Q:=by
 intro σ H Q h
 obtain ⟨H0,Y,S,T,δ,P,rfl,hS,hA,hd,k⟩:=h
 refine ⟨H0,Y,S,T,δ,_,rfl,hS,hA,hd,λxs δ' As us S' H' e1 e2 ex eu hA' p=>?_⟩
 subst ex
 exact o H0 Y δ'.n S' T As us H' Q _ eu hA' p λz u F' H'' hA3 p3=>k z δ' u F' S' H'' e1 e2 hA3 p3
theorem Cj(hc:Jz X (.builtin id) r)(o:Qt X.K r rd)(hg:Gl X x)(hm:X.mg x=none)(hv:Ju x=some (.builtin id))(ha:mE X (e::es) da)(hn:x ≠ "__name__" := by decide)(hdb:(x == ("__debug__" : Str))=false:=by decide)(he:Bz (e::es) X.env=(false,eval e X.env)::Bz es X.env:=by rfl)(hpl:(Kl pos (Bz es X.env)).any (·.1)=false:=by rfl):Em X (.Call (.Name x p) (e::es) [] pos) (CZ rd da) :=
 PE.imp (Ze hc hg hm hv ha hn hdb he hpl) (G3 o)
theorem Fo(hc:Jz X (.type T) r)(o:Qt X.K r rd)(hg:Gl X x)(hm:X.mg x=none)(hv:Ju x=some (.type T))(ha:mE X (e::es) da)(hn:x ≠ "__name__" := by decide)(hdb:(x == ("__debug__" : Str))=false:=by decide)(he:Bz (e::es) X.env=(false,eval e X.env)::Bz es X.env:=by rfl)(hpl:(Kl pos (Bz es X.env)).any (·.1)=false:=by rfl):Em X (.Call (.Name x p) (e::es) [] pos) (CZ rd da) :=
 PE.imp (Pr hc hg hm hv ha hn hdb he hpl) (G3 o)
end
theorem M8{α β:Type}{f:α->β}{l:List α}{x:β}(h:l.map f=[x]):∃a,l=[a]/\f a=x:=by
 cases l with
 | nil=>cases h
 | cons a t =>
  obtain ⟨h1,h2⟩:=Fu h
  exact ⟨a,by rw[List.map_eq_nil_iff.mp h2],h1⟩
theorem BR{α β:Type}{f:α->β}{l:List α}{x y:β}(h:l.map f=[x,y]):∃a b,l=[a,b]/\f a=x/\f b=y:=by
 cases l with
 | nil=>cases h
 | cons a t =>
  obtain ⟨h1,h2⟩:=Fu h
  obtain ⟨b,rfl,h3⟩:=M8 h2
  exact ⟨a,b,rfl,h1,h3⟩
theorem Ht{K:PySem.W.Frag}{H0 H:Hp}{X:Addr->Prop}{n:Nat}{S T As:List Ent}{us:List V}{x:DV}(eu:As.map Ent.v=us.map some)(hA:At K H0 X n (S++(As++T)) H)(ex:As.map Ent.x=[x]):∃v F,us=[v]/\At K H0 X n (S++⟨some v,x,F⟩::T) H:=by
 obtain ⟨⟨v,y,F⟩,rfl,h1⟩:=M8 ex
 obtain ⟨u,rfl,h2⟩:=M8 eu.symm
 have h1':y=x:=h1
 have h2':some u=v:=h2
 subst h1' h2'
 exact ⟨u,F,rfl,hA⟩
theorem Zv{K:PySem.W.Frag}{H0 H:Hp}{X:Addr->Prop}{n:Nat}{S T As:List Ent}{us:List V}{x y:DV}(eu:As.map Ent.v=us.map some)(hA:At K H0 X n (S++(As++T)) H)(ex:As.map Ent.x=[x,y]):∃v F w G,us=[v,w]/\At K H0 X n (S++⟨some v,x,F⟩::⟨some w,y,G⟩::T) H:=by
 obtain ⟨⟨v,x',F⟩,⟨w,y',G⟩,rfl,h1,h2⟩:=BR ex
 obtain ⟨u,u',rfl,h3,h4⟩:=BR eu.symm
 have h1':x'=x:=h1
 have h2':y'=y:=h2
 have h3':some u=v:=h3
 have h4':some u'=w:=h4
 subst h1' h2' h3' h4'
 exact ⟨u,F,u',G,rfl,hA⟩
def iR:DC:=λxs P=>match xs with
 | [.dat _ (.list ds)]=>P (.dat .ow (.int ds.length))
 | [.dat _ (.tuple ds)]=>P (.dat .ow (.int ds.length))
 | [.dat _ (.str z)]=>z.length<=1000000/\P (.dat .ow (.int z.length))
 | _=>False
def aK(i:Bool):DC:=λxs P=>match xs with
 | [.dat m (.list ds)]=>Oy i m ds P
 | [.dat m (.tuple ds)]=>Oy i m ds P
 | _=>False
def gW(i:Bool):DC:=λxs P=>match xs with
 | [.dat m (.list ds)]=>Xy i m ds P
 | [.dat m (.tuple ds)]=>P (.dat m (.tuple ds))
 | _=>False
def wR:DC:=λxs P=>match xs with
 | [.dat _ (.int i)]=>P (.dat .ow (.int i))
 | [.dat _ (.bool b)]=>P (.dat .ow (.int (if b=true then 1 else 0)))
 | _=>False
def oJ:DC:=λxs P=>match xs with
 | [.dat _ (.int i),.dat _ (.int j)]=>P (.dat .ow (.int (if j > i then j else i)))
 | _=>False
def nL:DC:=λxs P=>match xs with
 | [.dat _ (.int i),.dat _ (.int j)]=>P (.dat .ow (.int (if j<i then j else i)))
 | _=>False
def EC:DC:=λxs P=>match xs with
 | [.dat _ (.list ds)]=>∃ns:List Int,ds=ns.map Ax/\ns≠[]/\∀M∈ns,(∀x∈ns,M<=x)->P (.dat .ow (.int M))
 | _=>False
def wQ:DC:=λxs P=>match xs with
 | [.dat _ (.list ds)]=>∃bs:List Bool,ds=bs.map Tg/\P (.dat .ow (.bool (bs.all id)))
 | _=>False
def pA:Ac->String
 | .none => "NoneType"
 | .bool _ => "bool"
 | .int _ => "int"
 | .str _ => "str"
 | .list _ => "list"
 | .tuple _ => "tuple"
 | .dict _ => "dict"
def Mo(d:Ac)(n:String):Bool:=pA d == n || (pA d == "bool" && n == "int")
def yG:DC:=λxs P=>match xs with
 | [.dat _ d,.val (.ty n)]=>(n = "int" \/ n = "bool" \/ n = "str" \/ n = "list" \/ n = "tuple")/\P (.dat .ow (.bool (Mo d n)))
 | _=>False
def wD:DC:=λxs P=>match xs with
 | [.dat _ d]=>(∃b,b<=400/\Kf b d/\(b+12) * Gi d<=Bd)/\d.depth<=90/\P (.dat .ow (.str (oD d)))
 | _=>False
section
variable{K:PySem.W.Frag}
theorem Hf:Qt K (λxs H Q=>∃x n,xs=[x]/\X9 K x H n/\Q (.int n) H) iR:=by
 intro H0 X n S T As us H Q P eu hA hd k
 unfold iR at hd
 split at hd
 ·rename_i ex
  obtain ⟨v,F,rfl,hA⟩:=Ht eu hA ex
  obtain ⟨a,xs,G,rfl,ha,ra,_,_⟩:=(hA.told mem_mid).list_inv
  exact ⟨_,_,rfl,.inl ⟨xs,Tq.of ha,ra.len.symm⟩,k _ _ [] H (hA.drop.pushI (.int _)) hd⟩
 ·rename_i ex
  obtain ⟨v,F,rfl,hA⟩:=Ht eu hA ex
  obtain ⟨a,xs,rfl,ha,ra,_⟩:=(hA.told mem_mid).tup_inv
  exact ⟨_,_,rfl,.inr ⟨xs,Uj.of ha,ra.len.symm⟩,k _ _ [] H (hA.drop.pushI (.int _)) hd⟩
 ·rename_i ex
  obtain ⟨v,F,rfl,hA⟩:=Ht eu hA ex
  obtain ⟨rfl,_⟩:=(hA.told mem_mid).str_inv
  exact ⟨_,_,rfl,⟨fP hd.1,rfl⟩,k _ _ [] H (hA.drop.pushI (.int _)) hd.2⟩
 ·exact hd.elim
theorem Yw{i:Bool}:Qt K (J5 K) (aK i):=by
 intro H0 X n S T As us H Q P eu hA hd k
 unfold aK at hd
 split at hd
 ·rename_i ex
  obtain ⟨v,F,rfl,hA⟩:=Ht eu hA ex
  obtain ⟨a,xs,G,rfl,ha,ra,rfl,hz⟩:=(hA.told mem_mid).list_inv
  refine ⟨a,xs,rfl,.inl (Tq.of ha),λl hl=>?_⟩
  obtain ⟨z,F',h1,h2⟩:=hA.newL ra (Dn _ _) hz hl hd
  exact k _ _ _ _ h1 h2
 ·rename_i ex
  obtain ⟨v,F,rfl,hA⟩:=Ht eu hA ex
  obtain ⟨a,xs,rfl,ha,ra,hz⟩:=(hA.told mem_mid).tup_inv
  refine ⟨a,xs,rfl,.inr (Uj.of ha),λl hl=>?_⟩
  obtain ⟨z,F',h1,h2⟩:=hA.newL ra (Ds _) hz hl hd
  exact k _ _ _ _ h1 h2
 ·exact hd.elim
theorem Oi{i:Bool}:Qt K (F6 K) (gW i):=by
 intro H0 X n S T As us H Q P eu hA hd k
 unfold gW at hd
 split at hd
 ·rename_i ex
  obtain ⟨v,F,rfl,hA⟩:=Ht eu hA ex
  obtain ⟨a,xs,G,rfl,ha,ra,rfl,hz⟩:=(hA.told mem_mid).list_inv
  refine ⟨a,xs,rfl,.inl ⟨Tq.of ha,λl hl=>?_⟩⟩
  obtain ⟨z,F',h1,h2⟩:=hA.newT ra (Dn _ _) hz hl hd
  exact k _ _ _ _ h1 h2
 ·rename_i ex
  obtain ⟨v,F,rfl,hA⟩:=Ht eu hA ex
  obtain ⟨a,xs,rfl,ha,ra,hz⟩:=(hA.told mem_mid).tup_inv
  exact ⟨a,xs,rfl,.inr ⟨Uj.of ha,k _ _ F H hA hd⟩⟩
 ·exact hd.elim
theorem mK:Qt K (λxs H Q=>(∃i,xs=[V.int i]/\Q (.int i) H)\/∃k,xs=[V.bl k]/\Q (.int (if k then 1 else 0)) H) wR:=by
 intro H0 X n S T As us H Q P eu hA hd k
 unfold wR at hd
 split at hd
 ·rename_i ex
  obtain ⟨v,F,rfl,hA⟩:=Ht eu hA ex
  obtain ⟨rfl,_⟩:=(hA.told mem_mid).int_inv
  exact .inl ⟨_,rfl,k _ _ [] H (hA.drop.pushI (.int _)) hd⟩
 ·rename_i ex
  obtain ⟨v,F,rfl,hA⟩:=Ht eu hA ex
  obtain ⟨rfl,_⟩:=(hA.told mem_mid).bl_inv
  exact .inr ⟨_,rfl,k _ _ [] H (hA.drop.pushI (.int _)) hd⟩
 ·exact hd.elim
theorem Ys:Qt K (λxs H Q=>∃i j,xs=[V.int i,V.int j]/\Q (.int (if j > i then j else i)) H) oJ:=by
 intro H0 X n S T As us H Q P eu hA hd k
 unfold oJ at hd
 split at hd
 ·rename_i ex
  obtain ⟨v,F,w,G,rfl,hA⟩:=Zv eu hA ex
  obtain ⟨rfl,_⟩:=(hA.told mem_mid).int_inv
  obtain ⟨rfl,_⟩:=(hA.told Ek).int_inv
  exact ⟨_,_,rfl,k _ _ [] H (hA.drop2.pushI (.int _)) hd⟩
 ·exact hd.elim
theorem pW:Qt K (λxs H Q=>∃i j,xs=[V.int i,V.int j]/\Q (.int (if j<i then j else i)) H) nL:=by
 intro H0 X n S T As us H Q P eu hA hd k
 unfold nL at hd
 split at hd
 ·rename_i ex
  obtain ⟨v,F,w,G,rfl,hA⟩:=Zv eu hA ex
  obtain ⟨rfl,_⟩:=(hA.told mem_mid).int_inv
  obtain ⟨rfl,_⟩:=(hA.told Ek).int_inv
  exact ⟨_,_,rfl,k _ _ [] H (hA.drop2.pushI (.int _)) hd⟩
 ·exact hd.elim
theorem R0:Qt K (λxs H Q=>∃(p:Addr) (bs:List Bool),xs=[.ref p]/\Tq K H p (bs.map V.bl)/\Q (.bl (bs.all id)) H) wQ:=by
 intro H0 X n S T As us H Q P eu hA hd k
 unfold wQ at hd
 split at hd
 ·rename_i ex
  obtain ⟨v,F,rfl,hA⟩:=Ht eu hA ex
  obtain ⟨bs,rfl,h1⟩:=hd
  obtain ⟨a,xs,G,rfl,ha,ra,rfl,hz⟩:=(hA.told mem_mid).list_inv
  obtain ⟨rfl,_⟩:=ra.bools_inv
  exact ⟨a,bs,rfl,Tq.of ha,k _ _ [] H (hA.drop.pushI (.bl _)) h1⟩
 ·exact hd.elim
theorem A8{T n:String}{b:Bool}(h1:(Fh T == Fh n)=false)(h2:PySem.W.kitMeta n=true)(h3:(fastBuiltinMro T).map (λx=>x.contains (Fh n))=some b):PySem.W.kitOne K (.type T) (.type n)=some b:=P9 h1 h2 h3
theorem B4{d:Ac}{n:String}(hn:n = "int" \/ n = "bool" \/ n = "str" \/ n = "list" \/ n = "tuple"):PySem.W.kitOne K (.type (pA d)) (.type n)=some (Mo d n):=by
 have main:∀T:String,(T = "NoneType" \/ T = "bool" \/ T = "int" \/ T = "str" \/ T = "list" \/ T = "tuple" \/ T = "dict")->PySem.W.kitOne K (.type T) (.type n)=some (T == n || (T == "bool" && n == "int")):=by
  intro T hT
  rcases hT with rfl | rfl | rfl | rfl | rfl | rfl | rfl <;> rcases hn with rfl | rfl | rfl | rfl | rfl <;> first | exact R5 | exact A8 (by decide +kernel) (by decide +kernel) (by decide +kernel)
 unfold Mo
 refine main _ ?_
 cases d <;> simp [pA]
theorem Kh:Qt K (GA K) yG:=by
 intro H0 X n S T As us H Q P eu hA hd k
 unfold yG at hd
 split at hd
 ·rename_i ex
  obtain ⟨v,F,w,G,rfl,hA⟩:=Zv eu hA ex
  have hw:w=.ty _:=Ce (hA.ok _ Ek).1
  subst hw
  have r:=hA.told mem_mid
  refine ⟨v,_,.type (pA _),_,rfl,?_,B4 hd.1,k _ _ [] H (hA.drop2.pushI (.bl _)) hd.2⟩
  ·cases r with
   | non=>exact .non
   | bl b=>exact .bl b
   | int i=>exact .int i
   | str x=>exact .str x
   | lst h l hs=>exact .lst h
   | tup h l hs=>exact .tup h
   | dic h e hs=>exact .dT h
   | dik h e hs=>exact .dK h
   | dnm h e hs=>exact .dT h
 ·exact hd.elim
theorem zL:Qt K (Y8 K) wD:=by
 intro H0 X n S T As us H Q P eu hA hd k
 unfold wD at hd
 split at hd
 ·rename_i ex
  obtain ⟨v,F,rfl,hA⟩:=Ht eu hA ex
  exact ⟨_,_,rfl,⟨(hA.told mem_mid).rd hd.2.1,hd.1,hd.2.1⟩,k _ _ [] H (hA.drop.pushI (.str _)) hd.2.2⟩
 ·exact hd.elim
end
def dV(v:V):DE:=λδ P=>P (.val v) δ
section
variable{X:Cx}{e:Expr}
theorem U3{v:V}(h:PE X e (tC v)):Em X e (dV v):=by
 refine PE.imp h λσ H Q h=>?_
 obtain ⟨H0,Y,S,T,δ,P,rfl,hS,hA,hd,k⟩:=h
 exact k _ δ v [] S H rfl hS ((hA.push (e:=⟨some v,.val v,[]⟩) ⟨rfl,rfl⟩ (λf _=>⟨λ_ a ha=>(nomatch ha),λ_ a _=>Bk⟩) (λa ha=>(nomatch ha))).tomid) hd
theorem Mz{x:Str}{n:String}{pos:Pos}(hg:Gl X x)(hm:X.mg x=none)(hv:Ju x=some (.type n))(hn:x ≠ "__name__" := by decide)(hd:(x == ("__debug__" : Str))=false:=by decide):Em X (.Name x pos) (dV (.ty n)):=U3 (p8 hg hm hv rfl hn hd)
end
theorem jL{ns:List Int}(h:∀x∈ns,0<=x/\x<60):(Yb ns).length<=60 :=
 By (NdS.len_leI ((We ns).imp λ{x y} h=>Int.ne_of_lt h) λe he=>Yy (h e (wM.mp he)).1 (h e (wM.mp he)).2) (by decide)
end DL
namespace Nd
open PySem PySem.Spec PyProof.Rows L2
end Nd
namespace Nd
open PySem PySem.Spec PyProof.Rows L2
open AutoSeq1 (wpAny_loadPart')
end Nd
namespace DL
open PySem L2 Nd
def dB(de:DE):DT:=λδ P=>de δ λx δ'=>match x with
 | .dat _ (.bool b)=>P b δ'
 | _=>False
def J1(dt:DT):DT:=λδ P=>dt δ λb δ'=>P (!b) δ'
def K5(dt du:DT):DT:=λδ P=>dt δ λb δ'=>match b with
 | true=>du δ' P
 | false=>P false δ'
def BO(dt du:DT):DT:=λδ P=>dt δ λb δ'=>match b with
 | true=>P true δ'
 | false=>du δ' P
def BN(de:DE):DE:=λδ P=>de δ λx δ'=>match x with
 | .dat _ (.bool b)=>P (.dat .ow (.bool (!b))) δ'
 | _=>False
def AS(da db:DE):DE:=λδ P=>da δ λx δ'=>match x with
 | .dat _ (.bool true)=>db δ' P
 | .dat _ (.bool false)=>P (.dat .ow (.bool false)) δ'
 | _=>False
def BC(de:DE):DE:=λδ P=>de δ λx δ'=>match x with
 | .dat _ (.int i)=>P (.dat .ow (.int (-i))) δ'
 | _=>False
section
variable{K:PySem.W.Frag}{de:DE}
theorem W0:∀σ H Q,LT K (dB de) σ H Q->LE K de σ H λx H'=>∃k,x=.bl k/\Q k H':=by
 intro σ H Q h
 obtain ⟨H0,Y,S,T,δ,P,rfl,hS,hA,hd,k⟩:=h
 refine ⟨H0,Y,S,T,δ,_,rfl,hS,hA,hd,λx δ1 v F S1 H1 e1 e2 hA1 p1=>?_⟩
 split at p1
 ·obtain ⟨rfl,_⟩:=(hA1.told mem_mid).bl_inv
  exact ⟨_,rfl,k _ δ1 S1 H1 e1 e2 hA1.drop p1⟩
 ·exact p1.elim
end
section
variable{X:Cx}{a b c e:Expr}{da db de:DE}{dt du:DT}{pos:Pos}{Iz:List Expr}
theorem Gs(h:Em X e de)(he:∀whole,isTrue e X.env whole=(do let v <- whole; standAt e.pos; Yh [v] (truthy v)):=by intro _; rfl):cU X e (dB de):=PT.imp (yF h he) W0
theorem Rl{op:CmpOp}{r:R2}{rd:D2}(ho:Uw X (Ho op) r)(o:gO X.K r rd)(ha:Em X a da)(hb:Em X b db)(hm:Fk op b=false):cU X (.Compare a [op] [b] pos) (dB (Tr rd da db)):=by
 refine PT.imp (pT ho ha hb hm) λσ H Q h=>?_
 exact op_le o _ _ _ (W0 σ H Q h)
theorem qG(ha:Em X a da)(hb:Em X b db):cU X (.Compare a [.Lt] [b] pos) (dB (Tr rdLt da db)):=Rl J9 (Wy λ_ _ _=>.bl _) ha hb (Oh _)
theorem K8(ha:Em X a da)(hb:Em X b db):cU X (.Compare a [.Gt] [b] pos) (dB (Tr rdGt da db)):=Rl CD (Wy λ_ _ _=>.bl _) ha hb (Oh _)
theorem K7(ha:Em X a da)(hb:Em X b db):cU X (.Compare a [.GtE] [b] pos) (dB (Tr rdGe da db)):=Rl xM (Wy λ_ _ _=>.bl _) ha hb (Oh _)
theorem Pp(hu:X.A.units+64<cLine)(ha:Em X a da)(hb:Em X b db):cU X (.Compare a [.Eq] [b] pos) (dB (Tr (iB false) da db)):=Rl (uL hu) L4 ha hb (Oh _)
theorem Pa(hu:X.A.units+64<cLine)(ha:Em X a da)(hb:Em X b db):cU X (.Compare a [.NotEq] [b] pos) (dB (Tr (iB true) da db)):=Rl (S6 hu) CM ha hb (Oh _)
theorem qN(hu:X.A.units+64<cLine)(ha:Em X a da)(hb:Em X b db)(hm:Fk .In b=false:=by with_unfolding_all rfl):cU X (.Compare a [.In] [b] pos) (dB (Tr (jR false) da db)):=Rl (vA hu) zT ha hb hm
theorem kE(hu:X.A.units+64<cLine)(ha:Em X a da)(hb:Em X b db)(hm:Fk .NotIn b=false:=by with_unfolding_all rfl):cU X (.Compare a [.NotIn] [b] pos) (dB (Tr (jR true) da db)):=Rl (tE hu) zT ha hb hm
theorem C7(ha:Em X a da)(hb:Em X b db):cU X (.Compare a [.IsNot] [b] pos) (dB (Tr (qI true) da db)):=Rl C1 F3 ha hb (Oh _)
theorem Hy(h:cU X a dt):cU X (.UnaryOp .Not a pos) (J1 dt):=by
 refine PT.imp (Q8 h) λσ H Q h=>?_
 obtain ⟨H0,Y,S,T,δ,P,rfl,hS,hA,hd,k⟩:=h
 exact ⟨H0,Y,S,T,δ,_,rfl,hS,hA,hd,λb δ' S' H' e1 e2 hA' p=>k _ δ' S' H' e1 e2 hA' p⟩
theorem C4(h:cU X a dt):N6 X (.BoolOp .And [a] pos) dt:=C0 h
theorem Kg(h:cU X a dt):N6 X (.BoolOp .Or [a] pos) dt:=Q1 h
theorem M0(h:cU X a dt)(hb:N6 X (.BoolOp .And (b::Iz) pos) du):N6 X (.BoolOp .And (a::b::Iz) pos) (K5 dt du):=by
 refine PW.imp (T4 h hb) λσ H Q h=>?_
 obtain ⟨H0,Y,S,T,δ,P,rfl,hS,hA,hd,k⟩:=h
 refine ⟨H0,Y,S,T,δ,_,rfl,hS,hA,hd,λb δ' S' H' e1 e2 hA' p=>?_⟩
 cases b with
 | true=>exact uT ⟨H0,Y,S',T,δ',P,e1,e2,hA',p,k⟩
 | false=>exact zW (k _ δ' S' H' e1 e2 hA' p)
theorem Kn(h:cU X a dt)(hb:N6 X (.BoolOp .Or (b::Iz) pos) du):N6 X (.BoolOp .Or (a::b::Iz) pos) (BO dt du):=by
 refine PW.imp (Z8 h hb) λσ H Q h=>?_
 obtain ⟨H0,Y,S,T,δ,P,rfl,hS,hA,hd,k⟩:=h
 refine ⟨H0,Y,S,T,δ,_,rfl,hS,hA,hd,λb δ' S' H' e1 e2 hA' p=>?_⟩
 cases b with
 | true=>exact uT (k _ δ' S' H' e1 e2 hA' p)
 | false=>exact zW ⟨H0,Y,S',T,δ',P,e1,e2,hA',p,k⟩
theorem Rm(h:N6 X a dt):cU X a dt:=PW.pt h
theorem aV{op}(h:Em X a da):Em X (.BoolOp op [a] pos) da:=N0 h
theorem Rr(h:Em X a da)(hb:Em X (.BoolOp .And (b::Iz) pos) db):Em X (.BoolOp .And (a::b::Iz) pos) (AS da db):=by
 refine PE.imp (O7 h hb) λσ H Q h=>?_
 obtain ⟨H0,Y,S,T,δ,P,rfl,hS,hA,hd,k⟩:=h
 refine ⟨H0,Y,S,T,δ,_,rfl,hS,hA,hd,λx δ1 v F S1 H1 e1 e2 hA1 p1=>?_⟩
 split at p1
 ·obtain ⟨rfl,_⟩:=(hA1.told mem_mid).bl_inv
  exact ⟨_,rfl,uT ⟨H0,Y,S1,T,δ1,P,e1,e2,hA1.drop,p1,k⟩⟩
 ·obtain ⟨rfl,_⟩:=(hA1.told mem_mid).bl_inv
  exact ⟨_,rfl,zW (k _ δ1 _ [] S1 H1 e1 e2 (hA1.drop.pushI (.bl _)) p1)⟩
 ·exact p1.elim
theorem R7(h:Em X a da):Em X (.UnaryOp .Not a pos) (BN da):=by
 refine PE.imp (V2 h) λσ H Q h=>?_
 obtain ⟨H0,Y,S,T,δ,P,rfl,hS,hA,hd,k⟩:=h
 refine ⟨H0,Y,S,T,δ,_,rfl,hS,hA,hd,λx δ1 v F S1 H1 e1 e2 hA1 p1=>?_⟩
 split at p1
 ·obtain ⟨rfl,_⟩:=(hA1.told mem_mid).bl_inv
  exact ⟨_,rfl,k _ δ1 _ [] S1 H1 e1 e2 (hA1.drop.pushI (.bl _)) p1⟩
 ·exact p1.elim
theorem zP(h:Em X a da):Em X (.UnaryOp .USub a pos) (BC da):=by
 refine PE.imp (J4 vY h) λσ H Q h=>?_
 obtain ⟨H0,Y,S,T,δ,P,rfl,hS,hA,hd,k⟩:=h
 refine ⟨H0,Y,S,T,δ,_,rfl,hS,hA,hd,λx δ1 v F S1 H1 e1 e2 hA1 p1=>?_⟩
 split at p1
 ·obtain ⟨rfl,_⟩:=(hA1.told mem_mid).int_inv
  exact ⟨_,rfl,k _ δ1 _ [] S1 H1 e1 e2 (hA1.drop.pushI (.int _)) p1⟩
 ·exact p1.elim
end
theorem PS.impD{X:Cx}{st:Stmt}{t t':TS}(h:PS X st t)(k:∀D σ H,t' D σ H->t D σ H):PS X st t':=λpins s σ H D I q=>h pins s σ H D I (k D σ H q)
theorem mV.impD{X:Cx}{st:List Stmt}{t t':TS}(h:mV X st t)(k:∀D σ H,t' D σ H->t D σ H):mV X st t':=λpins s σ H D I q=>h pins s σ H D I (k D σ H q)
def K1:DB:=λD δ=>D.nx δ
def Y5(t u:DB):DB:=λD δ=>t { D with nx:=λδ'=>u D δ' } δ
def Y9(de:DE):DB:=λD δ=>de δ D.rt
def FS(dt:DT)(t u:DB):DB:=λD δ=>dt δ λb δ'=>match b with
 | true=>t D δ'
 | false=>u D δ'
def uC(de:DE)(dg:DG):DB:=λD δ=>de δ λx δ'=>dg x δ' D.nx
def T3:DB:=λ_ _=>False
section
variable{X:Cx}{st:Stmt}{e tg c:Expr}{t u:DB}{Iz:List Stmt}{de:DE}{dg:DG}{dt:DT}{pos:Pos}
theorem Fc:Wg X [] K1:=by
 refine mV.impD gA λD σ H h=>?_
 obtain ⟨H0,Y,S,T,δ,P,rfl,hS,hT,hA,hd,k1,k2,k3,k4⟩:=h
 exact k1 δ S H hS hA hd
theorem Bn(h1:mF X st t)(h2:Wg X Iz u):Wg X (st::Iz) (Y5 t u):=by
 refine mV.impD (Ln h1 h2) λD σ H h=>?_
 obtain ⟨H0,Y,S,T,δ,P,rfl,hS,hT,hA,hd,k1,k2,k3,k4⟩:=h
 exact ⟨H0,Y,S,T,δ,_,rfl,hS,hT,hA,hd,λδ' S' H' e2 hA' p=>⟨H0,Y,S',T,δ',P,rfl,e2,hT,hA',p,k1,k2,k3,k4⟩,k2,k3,k4⟩
theorem Cf(h1:mF X st t):Wg X [st] t:=Vb h1
theorem Cz(he:Em X e de):mF X (.Return (some e) pos) (Y9 de):=by
 refine PS.impD (bJ he) λD σ H h=>?_
 obtain ⟨H0,Y,S,T,δ,P,rfl,hS,hT,hA,hd,k1,k2,k3,k4⟩:=h
 exact ⟨H0,Y,S,T,δ,_,rfl,hS,hA,hd,λx δ' v F S' H' e1 e2 hA' p=>k2 x δ' v F S' H' e2 hA' p⟩
theorem Gh{a b:List Stmt}(hc:cU X c dt)(ha:Wg X a t)(hb:Wg X b u):mF X (.If c a b pos) (FS dt t u):=by
 refine PS.impD (zQ hc ha hb) λD σ H h=>?_
 obtain ⟨H0,Y,S,T,δ,P,rfl,hS,hT,hA,hd,k1,k2,k3,k4⟩:=h
 refine ⟨H0,Y,S,T,δ,_,rfl,hS,hA,hd,λb δ' S' H' e1 e2 hA' p=>?_⟩
 cases b with
 | true=>exact uT ⟨H0,Y,S',T,δ',P,e1,e2,hT,hA',p,k1,k2,k3,k4⟩
 | false=>exact zW ⟨H0,Y,S',T,δ',P,e1,e2,hT,hA',p,k1,k2,k3,k4⟩
theorem fJ{K:PySem.W.Frag}{te:TE}{g:TG}(h1:∀σ H Q,LE K de σ H Q->te σ H Q)(h2:∀v σ H Q,LG K dg v σ H Q->g v σ H Q):∀D σ H,LS K (uC de dg) D σ H->z0 te g D σ H:=by
 intro D σ H h
 obtain ⟨H0,Y,S,T,δ,P,rfl,hS,hT,hA,hd,k1,k2,k3,k4⟩:=h
 refine h1 _ _ _ ⟨H0,Y,S,T,δ,_,rfl,hS,hA,hd,λx δ' v F S' H' e1 e2 hA' p=>?_⟩
 exact h2 _ _ _ _ ⟨H0,Y,S',T,δ',x,F,P.nx,e1,e2,hA',p,λδ2 S2 H2 e3 hA2 q=>k1 δ2 S2 H2 e3 hA2 q⟩
theorem zB(he:Em X e de)(hg:Y1 X tg dg)(hs:swapsWithSole [tg] e pos.line X.env=pure false:=by rfl)(hw:swappedStores [tg] e X.env=pure none:=by rfl)(h1:(Jv [tg] X.env).map (·.2)=[Xm tg X.env]:=by rfl):mF X (.Assign [tg] e pos) (uC de dg):=PS.impD (oA he hg hs hw h1) (fJ (λ_ _ _ h=>h) λ_ _ _ _ h=>h)
theorem xB:mF X st T3:=by
 refine PS.impD vW λD σ H h=>?_
 obtain ⟨H0,Y,S,T,δ,P,rfl,hS,hT,hA,hd,_⟩:=h
 exact hd
end
def Qf(i:Nat):DG:=λx δ P=>match x with
 | .dat .pk _=>False
 | .dat _ d=>P ⟨δ.sl.set i (.dat .sh d),δ.n⟩
 | .val v=>P ⟨δ.sl.set i (.val v),δ.n⟩
 | .drw=>P ⟨δ.sl.set i .drw,δ.n⟩
 | .dT kvs=>P ⟨δ.sl.set i (.dT kvs),δ.n⟩
 | _=>False
def eB(i:Nat):DG:=λx δ P=>match x with
 | .dat .ow d=>P ⟨δ.sl.set i (.dat .ow d),δ.n⟩
 | .dat .tp d=>P ⟨δ.sl.set i (.dat .tp d),δ.n⟩
 | _=>False
theorem At.store{K:PySem.W.Frag}{H0 H:Hp}{X:Addr->Prop}{n:Nat}{S T:List Ent}{e:Ent}{i:Nat}(h:At K H0 X n (S++e::T) H):At K H0 X n (S.set i e++T) H:=by
 by_cases hi:i<S.length
 ·have hx:S[i]? = some S[i]:=by simp [hi]
  have p:(S++e::T).Perm (S[i]::(S.set i e++T)):=by
   refine List.perm_middle.trans ?_
   rw[<- Io,<- Io]
   exact (Zb hx).append_right T
  exact (h.perm p).sub (Dn _ _)
 ·rw[List.set_eq_of_length_le (by omega)]
  exact h.drop
theorem oM{S:List Ent}{i:Nat}{v:V}{x:DV}{F:List Addr}:vs (S.set i ⟨some v,x,F⟩)=(vs S).set i (some v):=by
 unfold vs
 rw[Hs]
theorem mY{S:List Ent}{δ:DS}{i n:Nat}{v:V}{x:DV}{F:List Addr}(h:Sl S δ):Sl (S.set i ⟨some v,x,F⟩) ⟨δ.sl.set i x,n⟩:=by
 unfold Sl at h ⊢
 rw[Hs,h]
theorem iD{K:PySem.W.Frag}{i:Nat}:∀v σ H Q,LG K (Qf i) v σ H Q->eN i v σ H Q:=by
 intro v σ H Q h
 obtain ⟨H0,Y,S,T,δ,x,F,P,rfl,hS,hA,hd,k⟩:=h
 show Q ((vs S).set i (some v)) H
 have fin:∀y,At K H0 Y δ.n (S++⟨some v,y,F⟩::T) H->P ⟨δ.sl.set i y,δ.n⟩->Q ((vs S).set i (some v)) H:=λy hA' p=>by
  rw[<- oM (x:=y) (F:=F)]
  exact k _ _ H (mY hS) hA'.store p
 unfold Qf at hd
 split at hd
 ·exact hd.elim
 ·rename_i m d hm
  refine fin _ ?_ hd
  refine (hA.mid.wk ?_).tomid
  cases m <;> first | rfl | exact (hm rfl).elim
 ·exact fin _ hA hd
 ·exact fin _ hA hd
 ·exact fin _ hA hd
 ·exact hd.elim
theorem wH{K:PySem.W.Frag}{i:Nat}:∀v σ H Q,LG K (eB i) v σ H Q->eN i v σ H Q:=by
 intro v σ H Q h
 obtain ⟨H0,Y,S,T,δ,x,F,P,rfl,hS,hA,hd,k⟩:=h
 show Q ((vs S).set i (some v)) H
 have fin:∀y,At K H0 Y δ.n (S++⟨some v,y,F⟩::T) H->P ⟨δ.sl.set i y,δ.n⟩->Q ((vs S).set i (some v)) H:=λy hA' p=>by
  rw[<- oM (x:=y) (F:=F)]
  exact k _ _ H (mY hS) hA'.store p
 unfold eB at hd
 split at hd
 ·exact fin _ hA hd
 ·exact fin _ hA hd
 ·exact hd.elim
section
variable{X:Cx}{pos:Pos}
theorem Ew{i:Nat}{x:Str}(hN:X.N.Nodup)(hi:X.N[i]? = some x)(hx:Loc X.env.scope x)(hf:X.fn x=true\/X.env.scope.names.lookup x=some .local:=by first | exact .inl rfl | exact .inr rfl | assumption):Y1 X (.Name x pos) (Qf i):=PG.imp (Yx hN hi hx hf) iD
theorem Ej{i:Nat}{x:Str}{e:Expr}{de:DE}{pos':Pos}(hN:X.N.Nodup)(hi:X.N[i]? = some x)(hx:Loc X.env.scope x)(he:Em X e de)(hs:Mr e (some (.Name x pos')) pos.line X.env=pure false:=by rfl)(hf:X.fn x=true\/X.env.scope.names.lookup x=some .local:=by first | exact .inl rfl | exact .inr rfl | assumption):mF X (.Assign [.Name x pos'] e pos) (uC de (Qf i)):=PS.impD (Vy hN hi hx he hs hf) (fJ (λ_ _ _ h=>h) iD)
theorem Kr{i:Nat}{x:Str}{e:Expr}{de:DE}{pos':Pos}(hN:X.N.Nodup)(hi:X.N[i]? = some x)(hx:Loc X.env.scope x)(he:Em X e de)(hs:Mr e (some (.Name x pos')) pos.line X.env=pure false:=by rfl)(hf:X.fn x=true\/X.env.scope.names.lookup x=some .local:=by first | exact .inl rfl | exact .inr rfl | assumption):mF X (.Assign [.Name x pos'] e pos) (uC de (eB i)):=PS.impD (Vy hN hi hx he hs hf) (fJ (λ_ _ _ h=>h) wH)
end
def yI:uH:=λxs δ P=>match xs with
 | []=>P δ
 | _=>False
def oY(g:DG)(gs:uH):uH:=λxs δ P=>match xs with
 | x::r=>g x δ λδ'=>gs r δ' P
 | []=>False
def pZ(n:Nat)(gs:uH):DG:=λx δ P=>match x with
 | .dat m (.tuple ds)=>ds.length=n/\gs (ds.map λd=>.dat (Mu m) d) δ P
 | _=>False
theorem At.unpack{K:PySem.W.Frag}{H0 H:Hp}{X:Addr->Prop}{n:Nat}{m:Md}:∀{us:List V} {ds:List Ac} {F:List Addr} {E:List Ent},RdFs K H us ds F->(m=.ow->F.Nodup)->(∀f∈E,Vi ⟨none,.dat (Mu m) .none,F⟩ f)->(∀a∈cells ⟨none,.dat (Mu m) .none,F⟩,H0 a=none)->At K H0 X n E H->∃As:List Ent,As.map Ent.v=us.map some/\As.map Ent.x=ds.map (λd=>.dat (Mu m) d)/\(∀e∈As,∀a∈e.F,a∈F)/\At K H0 X n (As++E) H
 | _,_,_,_,.nil,_,_,_,h=>⟨[],rfl,rfl,λ_ z=>(nomatch z),h⟩
 | _,_,_,E,.cons (x:=x) (d:=d) (F:=F1) (G:=G1) a t,hn,hs,hnew,h=>by
  have cs:∀{G:List Addr} {u:Option V} {d':Ac},(∀b∈G,b∈F1++G1)->∀b∈cells ⟨u,.dat (Mu m) d',G⟩,b∈cells ⟨none,.dat (Mu m) .none,F1++G1⟩:=λ{G u d'} hG b hb=>by
   cases m with
   | ow=>exact hG b hb
   | _=>exact nomatch hb
  have sub:∀{G:List Addr} {u:Option V} {d':Ac} {f:Ent},(∀b∈G,b∈F1++G1)->Vi ⟨none,.dat (Mu m) .none,F1++G1⟩ f->Vi ⟨u,.dat (Mu m) d',G⟩ f:=λ{G u d' f} hG q=>by
   refine ⟨λhp b hb=>q.1 ?_ b (cs hG b hb),λhp b hb z=>q.2 ?_ b hb (hG b z)⟩
   ·rcases hp with hp | hp
    ·exact .inl hp
    ·cases hp
   ·rcases hp with hp | hp
    ·refine .inl ?_
     cases m <;> exact hp
    ·exact .inr hp
  obtain ⟨As,h1,h2,h3,h4⟩:=At.unpack (m:=m) t (λz=>(Fq.mp (hn z)).2.1) (λf hf=>sub (λb hb=>Ao _ hb) (hs f hf)) (λb hb=>hnew b (cs (λb hb=>Ao _ hb) b hb)) h
  refine ⟨⟨some x,.dat (Mu m) d,F1⟩::As,by rw[Bb,Bb,h1],by rw[Bb,Bb,h2],λe he b hb=>?_,?_⟩
  ·rcases Ai.mp he with rfl | he
   ·exact Ap _ hb
   ·exact Ao _ (h3 e he b hb)
  ·refine h4.push ⟨x,rfl,a,λz=>?_,λz=>?_⟩ (λf hf=>?_) λb hb=>.inl (hnew b (cs (λb hb=>Ap _ hb) b hb))
   ·cases m with
    | ow=>exact (Fq.mp (hn rfl)).1
    | _=>cases z
   ·cases m <;> cases z
   ·rcases Ay.mp hf with hf | hf
    ·have hx:f.x∈As.map Ent.x:=Bq.mpr ⟨f,hf,rfl⟩
     rw[h2] at hx
     obtain ⟨d',_,ed⟩:=Bq.mp hx
     refine ⟨λhp b hb z=>?_,λhp b hb z=>?_⟩
     ·cases m with
      | ow=>exact (Fq.mp (hn rfl)).2.2 b hb b (h3 f hf b z) rfl
      | _=>exact nomatch hb
     ·cases m with
      | ow=>exact (Fq.mp (hn rfl)).2.2 b z b (h3 f hf b (Ex _ _ hb)) rfl
      | _ =>
       unfold cells at hb
       rw[<- ed] at hb
       exact nomatch hb
    ·exact sub (λb hb=>Ap _ hb) (hs f hf)
section
variable{X:Cx}{pos:Pos}
theorem Vg:q8 X [] yI:=by
 refine M5.imp B9 λus σ H Q h=>?_
 obtain ⟨H0,Y,S,T,As,δ,P,rfl,hS,eu,hA,hd,k⟩:=h
 match As,hA,hd,eu with
 | [],hA,hd,eu =>
  cases us with
  | nil=>exact ⟨rfl,k δ S H hS hA hd⟩
  | cons _ _=>cases eu
 | _::_,hA,hd,eu=>exact hd.elim
theorem Ir{e:Expr}{es:List Expr}{g:DG}{gs:uH}(h1:Y1 X e g)(h2:q8 X es gs)(hs:(Jv (e::es) X.env).map (·.2)=Xm e X.env::(Jv es X.env).map (·.2):=by rfl):q8 X (e::es) (oY g gs):=by
 refine M5.imp (wF h1 h2 hs) λus σ H Q h=>?_
 obtain ⟨H0,Y,S,T,As,δ,P,rfl,hS,eu,hA,hd,k⟩:=h
 match As,hA,hd,eu with
 | [],hA,hd,eu=>exact hd.elim
 | ⟨v,x,F⟩::As,hA,hd,eu =>
  cases us with
  | nil=>cases eu
  | cons u us =>
   rw[Bb,Bb] at eu
   obtain ⟨e1,e2⟩:=Fu eu
   have e1':v=some u:=e1
   subst e1'
   refine ⟨u,us,rfl,H0,Y,S,As++T,δ,x,F,_,rfl,hS,hA,hd,λδ' S' H' e3 hA' p=>?_⟩
   exact ⟨H0,Y,S',T,As,δ',P,rfl,e3,e2,hA',p,k⟩
theorem Zx{es:List Expr}{kk:Nat}{gs:uH}{n:Nat}(hc:X.calm=true)(h:q8 X es gs)(hn:(Jv es X.env).length=n:=by rfl)(hst:(Jv es X.env).findIdx? (·.1)=none:=by rfl):Y1 X (.Tuple es kk pos) (pZ n gs):=by
 refine PG.imp (P4 hc h hn hst) λv σ H Q h=>?_
 obtain ⟨H0,Y,S,T,δ,x,F,P,rfl,hS,hA,hd,k⟩:=h
 unfold pZ at hd
 split at hd
 ·rename_i m ds
  obtain ⟨a,xs,rfl,ha,ra,hz⟩:=(hA.told mem_mid).tup_inv
  have hm:=hA.mid
  have hp:=Ba.mp hm.sep
  obtain ⟨w,_,_,hnd,_⟩:=hm.ok _ Ab
  have cs:∀b∈cells ⟨none,.dat (Mu m) .none,F⟩,b∈cells ⟨some (.ref a),.dat m (.tuple ds),F⟩:=λb hb=>by
   cases m with
   | ow=>exact hb
   | _=>exact nomatch hb
  obtain ⟨As,h1,h2,h3,h4⟩:=At.unpack (m:=m) (E:=S++T) ra hnd (λf hf=>by
   refine ⟨λhq b hb=>(hp.1 f hf).1 ?_ b (cs b hb),λhq b hb=>(hp.1 f hf).2 ?_ b hb⟩
   ·rcases hq with hq | hq
    ·exact .inl hq
    ·cases hq
   ·rcases hq with hq | hq
    ·refine .inl ?_
     cases m <;> first | rfl | exact hq
    ·exact .inr hq) (λb hb=>by
   rcases hm.new _ Ab b (cs b hb) with z | z
   ·exact z
   ·cases z.2) hA.drop
  refine ⟨a,xs,rfl,Uj.of ha,by rw[ra.len]; exact hd.1,H0,Y,S,T,As,δ,P,rfl,hS,h1,h4.perm ?_,by rw[h2]; exact hd.2,k⟩
  rw[<- Dq,<- Dq]
  exact Js.append_right T
 ·exact hd.elim
end
theorem mQ{K:PySem.W.Frag}{H0 H:Hp}{X:Addr->Prop}{n:Nat}{E:List Ent}(h:At K H0 X n E H):∀{e f:Ent},e∈E->f∈E->e=f\/Vi e f:=by
 have main:∀{E:List Ent},E.Pairwise Vi->∀{e f:Ent},e∈E->f∈E->e=f\/Vi e f:=by
  intro E
  induction E with
  | nil=>intro _ e f he; cases he
  | cons g E ih =>
   intro hp e f he hf
   have hc:=Ba.mp hp
   rcases Ai.mp he with he | he
   ·subst he
    rcases Ai.mp hf with hf | hf
    ·exact .inl hf.symm
    ·exact .inr (hc.1 f hf)
   ·rcases Ai.mp hf with hf | hf
    ·rw[hf]
     exact .inr (hc.1 e he).symm
    ·exact ih hc.2 he hf
 intro e f he hf
 exact main h.sep he hf
abbrev DI:=DS->(Md->List Ac->DS->Prop)->Prop
structure IterOk(K:PySem.W.Frag)(J:It)(hid:List Ent)(m:Md)(ds:List Ac):Prop where
 md:m=.sh\/m=.pk
 hd:∀e∈hid,cells e=[]
 np:m=.sh->∀e∈hid,Mv e.x=false
 go:∀H n i,(∀e∈hid,Ka K H n e)->i<ds.length->J.go i H
 yld:∀H n i x H',(∀e∈hid,Ka K H n e)->i<ds.length->J.yld i H x H'->Same H H'/\∃d F,ds[i]? = some d/\RdF K H' x d F/\∀a∈F,∃e∈hid,a∈e.F
 stop:∀H n,(∀e∈hid,Ka K H n e)->J.stop ds.length H
def LI(K:PySem.W.Frag)(di:DI):TI:=λσ H R=>∃(H0:Hp) (X:Addr->Prop) (S T:List Ent) (δ:DS) (P:Md->List Ac->DS->Prop),vs S=σ/\Sl S δ/\At K H0 X δ.n (S++T) H/\di δ P /\
 ∀m ds δ' J hid S' H',vs S'=σ->Sl S' δ'->At K H0 X δ'.n (S'++(hid++T)) H'->IterOk K J hid m ds->ds.length<=Bd->P m ds δ'->R J H'
abbrev G5(X:Cx)(tg iter:Expr)(di:DI):Prop:=PI X tg iter (LI X.K di)
theorem PI.imp{X:Cx}{tg e:Expr}{t t':TI}(h:PI X tg e t)(k:∀σ H Q,t' σ H Q->t σ H Q):PI X tg e t':=λpins s σ H Q I q=>h pins s σ H Q I (k σ H Q q)
def Kv:Md->Md
 | .pk=>.pk
 | _=>.sh
theorem hZ(m:Md):wk m (Kv m)=true:=by cases m <;> rfl
theorem At.item{K:PySem.W.Frag}{H0 H H':Hp}{X:Addr->Prop}{n:Nat}{S T hid:List Ent}{m:Md}{v:V}{d:Ac}{F:List Addr}(h:At K H0 X n (S++(hid++T)) H)(s:Same H H')(r:RdF K H' v d F)(hF:∀a∈F,∃e∈hid,a∈e.F)(md:m=.sh\/m=.pk)(hh:∀e∈hid,cells e=[])(np:m=.sh->∀e∈hid,Mv e.x=false):At K H0 X n (S++⟨some v,.dat m d,F⟩::(hid++T)) H':=by
 have h1:=h.grow (n':=n) s (An _)
 have c0:∀a,a∉cells ⟨some v,.dat m d,F⟩:=λa ha=>by
  rcases md with rfl | rfl <;> exact nomatch ha
 refine (h1.push (e:=⟨some v,.dat m d,F⟩) ⟨v,rfl,r,λz=>?_,λz=>?_⟩ (λf hf=>⟨λ_ a ha=>absurd ha (c0 a),λhq a ha z=>?_⟩) λa ha=>absurd ha (c0 a)).tomid
 ·rcases md with rfl | rfl <;> cases z
 ·rcases md with rfl | rfl <;> cases z
 ·obtain ⟨e,he,ze⟩:=hF a z
  have he':e∈S++(hid++T):=Ao _ (Ap _ he)
  rcases mQ h he' hf with rfl | q
  ·rw[hh e he] at ha
   cases ha
  ·refine q.2 ?_ a ha ze
   rcases hq with hq | hq
   ·refine .inl (np ?_ e he)
    rcases md with rfl | rfl
    ·rfl
    ·cases hq
   ·exact .inr hq
def GB(de:DE):DI:=λδ P=>de δ λx δ'=>match x with
 | .dat m (.list ds)=>P (Kv m) ds δ'
 | .dat m (.tuple ds)=>P (Kv m) ds δ'
 | _=>False
def mB(da:DA):DI:=λδ P=>da δ λxs δ'=>match xs with
 | [.dat _ (.int j)]=>-1000000<=j/\j<=1000000/\P .sh ((Bh j.toNat).map λi:Nat=>.int i) δ'
 | _=>False
def zU(da:DA):DI:=λδ P=>da δ λxs δ'=>match xs with
 | [.dat m (.list ds)]=>P (Kv m) (ds.zipIdx.map λp=>.tuple [.int p.2,p.1]) δ'
 | _=>False
def DD(da:DA):DI:=λδ P=>da δ λxs δ'=>match xs with
 | [.dat m (.tuple ds)]=>P (Kv m) (ds.zipIdx.map λp=>.tuple [.int p.2,p.1]) δ'
 | _=>False
section
variable{K:PySem.W.Frag}
theorem Nk{H:Hp}{n:Nat}{v:V}{m:Md}{d:Ac}{F:List Addr}{hid:List Ent}(h:∀e∈hid,Ka K H n e)(he:⟨some v,.dat m d,F⟩∈hid):RdF K H v d F:=by
 obtain ⟨w,e1,h1,_⟩:=h _ he
 cases e1
 exact h1
theorem yO{v:Option V}{m:Md}{d:Ac}{F:List Addr}:cells ⟨v,.dat (Kv m) d,F⟩=[]:=by cases m <;> rfl
theorem oO{v:Option V}{m:Md}{d:Ac}{F:List Addr}:∀e∈[(⟨v,.dat (Kv m) d,F⟩ : Ent)],cells e=[]:=λe he=>by
 rw[Ag.mp he]
 exact yO
theorem yB{v:Option V}{m:Md}{d:Ac}{F:List Addr}:Kv m=.sh->∀e∈[(⟨v,.dat (Kv m) d,F⟩ : Ent)],Mv e.x=false:=λz e he=>by
 rw[Ag.mp he]
 show Mv (.dat (Kv m) d)=false
 rw[z]
 rfl
theorem iC(m:Md):Kv m=.sh\/Kv m=.pk:=by cases m <;> simp [Kv]
theorem rV{a:Addr}{m:Md}{ds:List Ac}{F:List Addr}:IterOk K (ED K a) [⟨some (.ref a),.dat (Kv m) (.list ds),F⟩] (Kv m) ds where
 md:=iC m
 hd:=oO
 np:=yB
 go:=λH n i h hi=>by
  obtain ⟨b,xs,G,e,hb,rb,_,_⟩:=(Nk h Ab).list_inv
  cases e
  have hl:=rb.len
  exact ⟨xs,xs[i],Tq.of hb,by simp [show i<xs.length by omega]⟩
 yld:=λH n i x H' h hi y=>by
  obtain ⟨b,xs,G,e,hb,rb,rfl,_⟩:=(Nk h Ab).list_inv
  cases e
  obtain ⟨rfl,y⟩:=y
  have hx:=y xs (Tq.of hb)
  obtain ⟨x',F',h1,h2,h3⟩:=rb.get (i:=i) (e:=ds[i]) (by simp [hi])
  rw[hx] at h1
  cases h1
  exact ⟨Same.refl _,ds[i],F',by simp [hi],h2,λc hc=>⟨_,Ab,Ah _ (h3.subset hc)⟩⟩
 stop:=λH n h=>by
  obtain ⟨b,xs,G,e,hb,rb,_,_⟩:=(Nk h Ab).list_inv
  cases e
  exact ⟨xs,Tq.of hb,by rw[rb.len]; exact An _⟩
theorem wL{a:Addr}{m:Md}{ds:List Ac}{F:List Addr}:IterOk K (ET K a) [⟨some (.ref a),.dat (Kv m) (.tuple ds),F⟩] (Kv m) ds where
 md:=iC m
 hd:=oO
 np:=yB
 go:=λH n i h hi=>by
  obtain ⟨b,xs,e,hb,rb,_⟩:=(Nk h Ab).tup_inv
  cases e
  have hl:=rb.len
  exact ⟨xs,xs[i],Uj.of hb,by simp [show i<xs.length by omega]⟩
 yld:=λH n i x H' h hi y=>by
  obtain ⟨b,xs,e,hb,rb,_⟩:=(Nk h Ab).tup_inv
  cases e
  obtain ⟨rfl,y⟩:=y
  have hx:=y xs (Uj.of hb)
  obtain ⟨x',F',h1,h2,h3⟩:=rb.get (i:=i) (e:=ds[i]) (by simp [hi])
  rw[hx] at h1
  cases h1
  exact ⟨Same.refl _,ds[i],F',by simp [hi],h2,λc hc=>⟨_,Ab,h3.subset hc⟩⟩
 stop:=λH n h=>by
  obtain ⟨b,xs,e,hb,rb,_⟩:=(Nk h Ab).tup_inv
  cases e
  exact ⟨xs,Uj.of hb,by rw[rb.len]; exact An _⟩
theorem mP{lo:Int}{n:Nat}:IterOk K (BK lo n) [] .sh ((Bh n).map λi:Nat=>.int (lo+i)) where
 md:=.inl rfl
 hd:=λ_ z=>nomatch z
 np:=λ_ _ z=>nomatch z
 go:=λH k i h hi=>by
  show i<n
  simpa using hi
 yld:=λH k i x H' h hi y=>by
  obtain ⟨rfl,rfl⟩:=y
  rw[Ad,Cy] at hi
  exact ⟨Same.refl _,.int (lo+i),[],by simp [hi],.int _,λ_ z=>nomatch z⟩
 stop:=λH k h=>by simp [BK]
theorem rX{a:Addr}{m:Md}{ds:List Ac}{F:List Addr}:IterOk K (FI K a) [⟨some (.ref a),.dat (Kv m) (.list ds),F⟩] (Kv m) (ds.zipIdx.map λp=>.tuple [.int p.2,p.1]) where
 md:=iC m
 hd:=oO
 np:=yB
 go:=λH n i h hi=>by
  obtain ⟨b,xs,G,e,hb,rb,_,_⟩:=(Nk h Ab).list_inv
  cases e
  have hl:=rb.len
  rw[Ad,Je] at hi
  exact ⟨xs,xs[i],Tq.of hb,by simp [show i<xs.length by omega]⟩
 yld:=λH n i x H' h hi y=>by
  obtain ⟨b,xs,G,e,hb,rb,rfl,_⟩:=(Nk h Ab).list_inv
  cases e
  rw[Ad,Je] at hi
  obtain ⟨t,z,rfl,nt,rfl,y⟩:=y
  have hx:=y xs (Tq.of hb)
  obtain ⟨x',F',h1,h2,h3⟩:=rb.get (i:=i) (e:=ds[i]) (by simp [hi])
  rw[hx] at h1
  cases h1
  have s1:=Ff nt (.tup [.int i,z])
  refine ⟨s1,.tuple [.int i,ds[i]],F',by simp [hi],.tup Dt (by simp [Ig]) ?_,λc hc=>⟨_,Ab,Ah _ (h3.subset hc)⟩⟩
  have:=RdFs.cons (F:=[]) (.int (i:Int)) (RdFs.cons (h2.kp (Kp.of s1)) RdFs.nil)
  rw[Ec] at this
  exact this
 stop:=λH n h=>by
  obtain ⟨b,xs,G,e,hb,rb,_,_⟩:=(Nk h Ab).list_inv
  cases e
  exact ⟨xs,Tq.of hb,by rw[Ad,Je,rb.len]; exact An _⟩
end
section
variable{X:Cx}{tg e:Expr}{de:DE}{di:DI}
def dL(de:DE):DI:=λδ P=>de δ λx δ'=>match x with
 | .dat m (.list ds)=>P (Kv m) ds δ'
 | _=>False
def GD(de:DE):DI:=λδ P=>de δ λx δ'=>match x with
 | .dat m (.tuple ds)=>P (Kv m) ds δ'
 | _=>False
theorem tT(h:Em X e de):G5 X tg e (dL de):=by
 refine PI.imp (p7 h) λσ H R h=>?_
 obtain ⟨H0,Y,S,T,δ,P,rfl,hS,hA,hd,k⟩:=h
 refine ⟨H0,Y,S,T,δ,_,rfl,hS,hA,hd,λx δ1 v F S1 H1 e1 e2 hA1 p1=>?_⟩
 split at p1
 ·obtain ⟨a,xs,G,rfl,ha,ra,rfl,hz⟩:=(hA1.told mem_mid).list_inv
  exact ⟨a,rfl,⟨xs,Tq.of ha⟩,k _ _ δ1 _ [_] S1 H1 e1 e2 ((hA1.mid.wk (hZ _)).tomid) rV hz p1⟩
 ·exact p1.elim
theorem W5(h:Em X e de):G5 X tg e (GD de):=by
 refine PI.imp (Q0 h) λσ H R h=>?_
 obtain ⟨H0,Y,S,T,δ,P,rfl,hS,hA,hd,k⟩:=h
 refine ⟨H0,Y,S,T,δ,_,rfl,hS,hA,hd,λx δ1 v F S1 H1 e1 e2 hA1 p1=>?_⟩
 split at p1
 ·obtain ⟨a,xs,rfl,ha,ra,hz⟩:=(hA1.told mem_mid).tup_inv
  exact ⟨a,rfl,⟨xs,Uj.of ha⟩,k _ _ δ1 _ [_] S1 H1 e1 e2 ((hA1.mid.wk (hZ _)).tomid) wL hz p1⟩
 ·exact p1.elim
variable{es:List Expr}{da:DA}{a b:Expr}{p pos tp:Pos}{elts:List Expr}{kt:Nat}
theorem Hx(hg:Gl X "range")(hm:X.mg "range" = none)(ha:mE X [a] da)(hs:Bz [a] X.env=[(false,eval a X.env)]:=by rfl):G5 X tg (.Call (.Name "range" p) [a] [] pos) (mB da):=by
 refine PI.imp (tF hg hm ha hs) λσ H R h=>?_
 obtain ⟨H0,Y,S,T,δ,P,rfl,hS,hA,hd,k⟩:=h
 refine ⟨H0,Y,S,T,δ,_,rfl,hS,hA,hd,λxs δ' As us S' H' e1 e2 ex eu hA' p=>?_⟩
 split at p
 ·obtain ⟨v,F,rfl,hA2⟩:=Ht eu hA' ex
  obtain ⟨rfl,_⟩:=(hA2.told mem_mid).int_inv
  obtain ⟨j0,j1,pp⟩:=p
  refine ⟨_,rfl,by omega,by omega,k _ _ δ' _ [] S' H' e1 e2 hA2.drop mP (by rw[Ad,Cy]; exact fP (by omega)) ?_⟩
  simpa using pp
 ·exact p.elim
theorem pO(hg:Gl X "enumerate")(hm:X.mg "enumerate" = none)(ha:mE X [a] da)(hs:Bz [a] X.env=[(false,eval a X.env)]:=by rfl):G5 X (.Tuple elts kt tp) (.Call (.Name "enumerate" p) [a] [] pos) (zU da):=by
 refine PI.imp (E3 hg hm ha hs) λσ H R h=>?_
 obtain ⟨H0,Y,S,T,δ,P,rfl,hS,hA,hd,k⟩:=h
 refine ⟨H0,Y,S,T,δ,_,rfl,hS,hA,hd,λxs δ' As us S' H' e1 e2 ex eu hA' p=>?_⟩
 split at p
 ·obtain ⟨v,F,rfl,hA2⟩:=Ht eu hA' ex
  obtain ⟨a,xs,G,rfl,ha,ra,rfl,hz⟩:=(hA2.told mem_mid).list_inv
  exact ⟨a,rfl,⟨xs,Tq.of ha⟩,k _ _ δ' _ [_] S' H' e1 e2 ((hA2.mid.wk (hZ _)).tomid) rX (by rw[Ad,Je]; exact hz) p⟩
 ·exact p.elim
end
def CN(di:DI)(dg:DG)(db:DB):DB:=λD δ=>di δ λm ds δ1=>m=.sh/\∃I:Nat->DS->Prop,I 0 δ1 /\
 (∀i d δ',ds[i]? = some d->I i δ'->dg (.dat .sh d) δ' λδ2=>db { D with nx:=I (i+1),ct:=I (i+1),bk:=D.nx } δ2)/\∀δ',I ds.length δ'->D.nx δ'
section
variable{X:Cx}{tg iter:Expr}{di:DI}{dg:DG}{db:DB}{body:List Stmt}{pos:Pos}
theorem At.dropH{K:PySem.W.Frag}{H0 H:Hp}{X:Addr->Prop}{n:Nat}{S T hid:List Ent}{e:Ent}(h:At K H0 X n (S++e::(hid++T)) H):At K H0 X n (S++e::T) H:=h.sub ((Ds S).append ((Dh hid T).cons₂ e))
theorem Jq(hp:PassesOwn (model X.prog X.w) X.A X.env X.xe)(hc:X.calm=true)(hi:G5 X tg iter di)(hg:Y1 X tg dg)(hb:Wg X body db)(hs:∀x,Ih iter X.env x=pure x:=by intro _; rfl):mF X (.For tg iter body [] pos) (CN di dg db):=by
 refine PS.impD (U0 hp hc hi hg hb hs) λD σ H h=>?_
 obtain ⟨H0,Y,S,T,δ,P,rfl,hS,hT,hA,hd,k1,k2,k3,k4⟩:=h
 refine ⟨H0,Y,S,T,δ,_,rfl,hS,hA,hd,λm ds δ1 J hid S1 H1 e1 e2 hA1 it hz p1=>?_⟩
 obtain ⟨rfl,I,h0,hs,hf⟩:=p1
 rw[<- e1]
 have hT':∀e∈hid++T,Mv e.x=false:=λe he=>by
  rcases Ay.mp he with he | he
  ·exact it.np rfl e he
  ·exact hT e he
 refine ⟨λi q σ H=>q=ds.length - i/\i<=ds.length/\∃S δ,vs S=σ/\Sl S δ/\At X.K H0 Y δ.n (S++(hid++T)) H/\I i δ,⟨ds.length,by simp,Ee _,S1,δ1,rfl,e2,hA1,h0⟩,?_⟩
 (intro i q σ H q_; obtain ⟨rfl,hi,S2,δ2,rfl,e3,hA2,hI⟩ := q_)
 have hid_ok:∀e∈hid,Ka X.K H δ2.n e:=λe he=>hA2.ok e (Ao _ (Ap _ he))
 by_cases hlt:i<ds.length
 ·refine .inr ⟨it.go H δ2.n i hid_ok hlt,λσ' H'=>∃S δ,vs S=σ'/\Sl S δ/\At X.K H0 Y δ.n (S++(hid++T)) H'/\I (i+1) δ,λσ' H' q=>⟨ds.length - (i+1),by omega,rfl,hlt,q⟩,λx H' y=>?_⟩
  obtain ⟨s1,d,F,h1,h2,h3⟩:=it.yld H δ2.n i x H' hid_ok hlt y
  refine ⟨H0,Y,S2,hid++T,δ2,.dat .sh d,F,_,rfl,e3,hA2.item s1 h2 h3 it.md it.hd it.np,hs i d δ2 h1 hI,λδ3 S3 H3 e4 hA3 p3=>?_⟩
  refine ⟨H0,Y,S3,hid++T,δ3,_,rfl,e4,hT',hA3,p3,λδ4 S4 H4 e5 hA4 p4=>⟨S4,δ4,rfl,e5,hA4,p4⟩,λx δ4 v F S4 H4 e5 hA4 p4=>k2 x δ4 v F S4 H4 e5 hA4.dropH p4,
   λδ4 S4 H4 e5 hA4 p4=>k1 δ4 S4 H4 e5 hA4.dropL p4,λδ4 S4 H4 e5 hA4 p4=>⟨S4,δ4,rfl,e5,hA4,p4⟩⟩
 ·have e:i=ds.length:=by omega
  subst e
  exact .inl ⟨it.stop H δ2.n hid_ok,k1 δ2 S2 H e3 hA2.dropL (hf δ2 hI)⟩
end
def xO(dt:DT)(db:DB):DB:=λD δ=>∃(I:DS->Prop) (μ:DS->Nat),I δ/\∀δ',I δ'->dt δ' λb δ2=>match b with
 | true=>db { D with nx:=λδ3=>I δ3/\μ δ3<μ δ',ct:=λδ3=>I δ3/\μ δ3<μ δ',bk:=D.nx } δ2
 | false=>D.nx δ2
end DL
namespace Nd
open PySem PySem.Spec PyProof.Rows L2
end Nd
namespace DL
open PySem L2 Nd
def al(e:Ent):Ent:=match e.x with
 | .dat m d=>⟨e.v,.dat (jX m) d,e.F⟩
 | .val _=>e
 | .scr _=>e
 | _=>⟨e.v,.un,[]⟩
def alD:DV->DV
 | .dat m d=>.dat (jX m) d
 | .val v=>.val v
 | .scr ns=>.scr ns
 | _=>.un
def yJ(S:List Ent)(j:Nat):Ent:=match S[j]? with
 | some e=>al e
 | none=>⟨none,.un,[]⟩
def B1(S:List Ent)(js:List Nat):List Ent:=js.map (yJ S)
def frD1(sl:List DV)(j:Nat):DV:=match sl[j]? with
 | some x=>alD x
 | none=>.un
def frD(sl:List DV)(js:List Nat):List DV:=js.map (frD1 sl)
theorem EA(e:Ent):(al e).v=e.v:=by
 obtain ⟨v,x,F⟩:=e
 cases x <;> rfl
theorem FB(e:Ent):(al e).x=alD e.x:=by
 obtain ⟨v,x,F⟩:=e
 cases x <;> rfl
theorem Y4(S:List Ent)(js:List Nat):vs (B1 S js)=La (vs S) js:=by
 unfold vs B1 La
 rw[Fg]
 refine Ii λj _=>?_
 rw[Cc]
 simp only[Tw,yJ]
 cases S[j]? with
 | none=>rfl
 | some e=>exact EA e
theorem AB{S:List Ent}{δ:DS}(h:Sl S δ)(js:List Nat):(B1 S js).map Ent.x=frD δ.sl js:=by
 unfold Sl at h
 unfold B1 frD
 rw[Fg]
 refine Ii λj _=>?_
 simp only[Tw,yJ,frD1]
 rw[<- h,Cc]
 cases S[j]? with
 | none=>rfl
 | some e=>exact FB e
section
variable{K:PySem.W.Frag}{H0 H H':Hp}{X:Addr->Prop}{n:Nat}{E S T:List Ent}
theorem iY(e:Ent):cells (al e)=[]:=by
 obtain ⟨v,x,F⟩:=e
 cases x with
 | dat m d=>cases m <;> rfl
 | _=>rfl
theorem At.view1(h:At K H0 X n E H){e:Ent}(he:e∈E):At K H0 X n (al e::E) H:=by
 refine h.push ?_ (λf hf=>⟨λ_ a ha=>(by rw[iY] at ha; cases ha),λhq a ha z=>?_⟩) λa ha=>(by rw[iY] at ha; cases ha)
 ·have:=h.ok e he
  obtain ⟨v,x,F⟩:=e
  cases x with
  | dat m d =>
   obtain ⟨w,h1,h2,_⟩:=this
   exact ⟨w,h1,h2,λz=>(by cases m <;> cases z),λz=>(by cases m <;> cases z)⟩
  | val v=>exact this
  | scr ns=>exact this
  | _=>exact (rfl:([]:List Addr)=[])
 ·obtain ⟨v,x,F⟩:=e
  cases x with
  | dat m d =>
   rcases mQ h he hf with rfl | q
   ·rcases hq with hq | hq
    ·cases m <;> first | cases hq; done | exact nomatch ha
    ·cases hq
   ·refine q.2 ?_ a ha z
    rcases hq with hq | hq
    ·refine .inl ?_
     cases m <;> first | rfl | exact hq
    ·exact .inr hq
  | val v =>
   rw[show F=[] from (h.ok _ he).2] at z
   cases z
  | scr ns =>
   obtain ⟨_,_,hF,_⟩:=h.ok _ he
   rw[show F=[] from hF] at z
   cases z
  | _=>exact nomatch z
theorem At.blank(h:At K H0 X n E H){v:Option V}:At K H0 X n (⟨v,.un,[]⟩::E) H :=
 h.push (rfl:([]:List Addr)=[]) (λf _=>⟨λ_ a ha=>(nomatch ha),λ_ a _=>Bk⟩) (λa ha=>(nomatch ha))
theorem At.view(h:At K H0 X n E H)(hS:∀e∈S,e∈E):∀js:List Nat,At K H0 X n (B1 S js++E) H
 | []=>h
 | j::js=>by
  have ih:=At.view h hS js
  show At K H0 X n (yJ S j::(B1 S js++E)) H
  unfold yJ
  cases e:S[j]? with
  | none=>exact ih.blank
  | some x=>exact ih.view1 (Ao _ (hS x (Bg e)))
theorem At.accNew(h:At K H0 X n E H){D:Addr}(hD:H D=Option.none):At K H0 X n (⟨some (.ref D),.acc [],[D]⟩::E) (upd H D (.lst [])):=by
 have s1:=Ff hD (.lst [])
 refine (h.grow (n':=n) s1 (An _)).push ⟨D,[],[],rfl,rfl,Dt,.nil,Ee _,Bk⟩ (λf hf=>?_) λa ha=>?_
 ·have nf:=h.free hD f hf
  refine ⟨λ_ a ha z=>?_,λ_ a ha z=>?_⟩
  ·rw[Ag.mp ha] at z
   exact nf z
  ·rw[Ag.mp z] at ha
   exact nf (Ex _ _ ha)
 ·rw[Ag.mp ha]
  exact .inl (h.new0 hD)
theorem At.accPutG{D:Addr}{ds:List Ac}{v:V}{m:Md}{e:Ac}{F G:List Addr}(h:At K H0 X n (⟨some (.ref D),.acc ds,D::G⟩::⟨some v,.dat m e,F⟩::E) H)(hm:m≠.pk)(hz:ds.length+1<=Bd):∃xs,H D=some (.lst xs)/\xs.length=ds.length/\At K H0 X n (⟨some (.ref D),.acc (ds++[e]),D::(G++F)⟩::E) (upd H D (.lst (xs++[v]))):=by
 obtain ⟨a,xs,G',e1,e0,ha,ra,_,nG⟩:=h.ok _ Ab
 have e1':some (V.ref D)=some (V.ref a):=e1
 cases e1'
 have e0':D::G=D::G':=e0
 cases e0'
 have r:RdF K H v e F:=h.told (Ah _ Ab)
 have hs:=Ba.mp h.sep
 have hs2:=Ba.mp hs.2
 have h1:=(h.sub (Dn _ _)).sub (Dn _ _)
 have npk:Mv (.dat m e)=false:=by cases m <;> first | rfl | exact absurd rfl hm
 have nF:D∉F:=(hs.1 _ Ab).1 (.inr rfl) D Ab
 have kp:∀{F:List Addr},D∉F->Kp F H (upd H D (.lst (xs++[v]))):=λ{F} hF b o q z=>by
  have : b≠D:=by
   rintro rfl
   rw[ha] at q
   cases q
   rcases z with z | z
   ·exact hF z
   ·rcases z with ⟨_,z⟩ | ⟨_,_,z⟩ <;> cases z
  rw[En this]
  exact q
 have nD:H0 D=Option.none:=by
  rcases h.new _ Ab D Ab with z | z
  ·exact z
  ·cases z.2
 refine ⟨xs,ha,ra.len,?_⟩
 refine ⟨λf hf=>?_,?_,λf hf=>?_,λb o nx q=>?_,λb o q=>?_,λb hb=>?_⟩
 rotate_right
 ·obtain ⟨z,c,k,f,h1,h2⟩:=h.xd b hb
  refine ⟨z,c,k,f,(En ?_).trans h1,h2⟩
  rintro rfl
  exact z nD
 ·rcases Ai.mp hf with rfl | hf
  ·exact ⟨D,xs++[v],G++F,rfl,rfl,Dt,(ra.kp (kp nG)).snoc (r.kp (kp nF)),by rw[Az]; exact hz,λz=>(Ay.mp z).elim nG nF⟩
  ·exact (h1.ok f hf).kp (kp ((hs.1 f (Ah _ hf)).1 (.inr rfl) D Ab)) (An _)
 ·refine Ba.mpr ⟨λf hf=>⟨λhq a ha'=>(hs.1 f (Ah _ hf)).1 (.inr rfl) a ha',λhq a ha' z=>?_⟩,hs2.2⟩
  have z1:=(hs.1 f (Ah _ hf)).2 (.inl rfl) a ha'
  rcases Ai.mp z with z | z
  ·exact z1 (z▸Ab)
  ·rcases Ay.mp z with z | z
   ·exact z1 (Ah _ z)
   ·exact (hs2.1 f hf).2 (.inl npk) a ha' z
 ·rcases Ai.mp hf with rfl | hf
  ·intro a ha'
   rw[Ag.mp ha']
   exact .inl nD
  ·exact h1.new f hf
 ·rw[En (Fm q nD)]
  exact h.same b o nx q
 ·rw[En (Fm q nD)]
  exact h.dom b o q
theorem At.accPut{D:Addr}{ds:List Ac}{v:V}{e:Ac}(h:At K H0 X n (⟨some (.ref D),.acc ds,[D]⟩::E) H)(r:RdF K H v e [])(hz:ds.length+1<=Bd):∃xs,H D=some (.lst xs)/\xs.length=ds.length/\At K H0 X n (⟨some (.ref D),.acc (ds++[e]),[D]⟩::E) (upd H D (.lst (xs++[v]))) :=
 At.accPutG (m:=.ow) (At.pushI (S:=[⟨some (.ref D),.acc ds,[D]⟩]) h r) (by decide) hz
def rE:Bool->Md
 | true=>.ow
 | false=>.tp
theorem At.accGetG{D:Addr}{ds:List Ac}{b:Bool}{G:List Addr}(h:At K H0 X n (⟨some (.ref D),.acc ds,D::G⟩::E) H)(hb:b=true->G=[]):At K H0 X n (⟨some (.ref D),.dat (rE b) (.list ds),D::G⟩::E) H:=by
 obtain ⟨a,xs,G',e1,e0,ha,ra,hz,nG⟩:=h.ok _ Ab
 have e1':some (V.ref D)=some (V.ref a):=e1
 cases e1'
 have e0':D::G=D::G':=e0
 cases e0'
 have hs:=Ba.mp h.sep
 have cs:∀a∈cells ⟨some (.ref D),.dat (rE b) (.list ds),D::G⟩,a=D:=λa ha'=>by
  cases b with
  | true=>rw[hb rfl] at ha'; exact Ag.mp ha'
  | false=>exact Ag.mp ha'
 refine (h.sub (Dn _ _)).push ⟨_,rfl,.lst ha hz ra,λz=>?_,λ_ a l e=>?_⟩ (λf hf=>⟨λhq a ha'=>?_,λhq a ha'=>(hs.1 f hf).2 (.inl rfl) a ha'⟩) λa ha'=>?_
 ·cases b with
  | true=>rw[hb rfl]; exact Bt.mpr ⟨Bk,Cv⟩
  | false=>cases z
 ·have e:D::G=a::l:=e
  cases e
  exact nG
 ·rw[cs a ha']
  exact (hs.1 f hf).1 (.inr rfl) D Ab
 ·rw[cs a ha']
  rcases h.new _ Ab D Ab with z | z
  ·exact .inl z
  ·cases z.2
end
def fK:DT:=λδ P=>P true δ
def Q2(b:Bool)(m:Md)(e:Ac):Prop:=match b with
 | true=>imm e=true
 | false=>m≠.pk
def Nw(b:Bool)(dc:DT)(de:DE)(δ:DS)(yes:Ac->Nat->Prop)(no:Nat->Prop):Prop:=dc δ λc δ2=>match c with
 | true=>de δ2 λy δ3=>match y with
  | .dat m e=>Q2 b m e/\yes e δ3.n
  | _=>False
 | false=>no δ2.n
def mZ(b:Bool)(di:DI)(js:List Nat)(dc:DT)(de:DE):DE:=λδ P=>di δ λm ds δ1=>∃I:Nat->List Ac->Nat->Prop,I 0 [] δ1.n /\
 (∀i d acc n,ds[i]? = some d->I i acc n->Nw b dc de ⟨.dat m d::frD δ1.sl js,n⟩ (λe n'=>I (i+1) (acc++[e]) n') (λn'=>I (i+1) acc n')) /\
 ∀acc n,I ds.length acc n->P (.dat (rE b) (.list acc)) ⟨δ1.sl,n⟩
def Ur:DT->DE->DS->(Ac->Nat->Prop)->(Nat->Prop)->Prop:=Nw true
def vO:DI->List Nat->DT->DE->DE:=mZ true
def vU:DI->List Nat->DT->DE->DE:=mZ false
section
variable{K:PySem.W.Frag}{H0 H H':Hp}{Y:Addr->Prop}{n:Nat}{E S T:List Ent}
theorem vL{b:Bool}{dc:DT}{de:DE}{δ:DS}{yes:Ac->Nat->Prop}{no:Nat->Prop}{D:Addr}{G:List Addr}{acc:List Ac}{N1:Hp->Prop}{N2:VK}(hS:Sl S δ)(hb:b=true->G=[])(hA:At K H0 Y δ.n (S++⟨some (.ref D),.acc acc,D::G⟩::T) H)(h:Nw b dc de δ yes no)(hz:acc.length+1<=Bd)(k1:∀n' H',At K H0 Y n' (⟨some (.ref D),.acc acc,D::G⟩::T) H'->no n'->N1 H')(k2:∀e n' v H' G',(b=true->G'=[])->(∃xs,H' D=some (.lst xs)/\xs.length=acc.length/\At K H0 Y n' (⟨some (.ref D),.acc (acc++[e]),D::G'⟩::T) (upd H' D (.lst (xs++[v]))))->yes e n'->N2 v H'):LT K dc (vs S) H λc H2=>if c=true then LE K de (vs S) H2 N2 else N1 H2:=by
 refine ⟨H0,Y,S,⟨some (.ref D),.acc acc,D::G⟩::T,δ,_,rfl,hS,hA,h,λc δ2 S2 H2 e1 e2 hA2 p2=>?_⟩
 cases c with
 | false=>exact zW (k1 _ _ (hA2.sub (Dh _ _)) p2)
 | true =>
  refine uT ⟨H0,Y,S2,⟨some (.ref D),.acc acc,D::G⟩::T,δ2,_,e1,e2,hA2,p2,λy δ3 v F S3 H3 e3 e4 hA3 p3=>?_⟩
  split at p3
  ·rename_i m e
   have r:=hA3.told mem_mid
   cases b with
   | true =>
    obtain rfl:=r.imm p3.1
    obtain rfl:=hb rfl
    exact k2 _ _ _ _ [] (λ_=>rfl) ((hA3.drop.sub (Dh _ _)).accPut r hz) p3.2
   | false =>
    have hA4:At K H0 Y δ3.n (⟨some v,.dat m e,F⟩::⟨some (.ref D),.acc acc,D::G⟩::T) H3:=hA3.sub (Dh _ _)
    exact k2 _ _ _ _ (G++F) (λz=>nomatch z) ((hA4.perm (Jm _ _ _)).accPutG p3.1 hz) p3.2
  ·exact p3.elim
theorem rO{dt:TT}:∀σ H Q,LT K fK σ H Q->gC σ H Q:=by
 intro σ H Q h
 obtain ⟨H0,Y,S,T,δ,P,rfl,hS,hA,hd,k⟩:=h
 exact k true δ S H rfl hS hA hd
theorem yZ.imp{X:Cx}{e:List Expr}{t t':TT}(h:yZ X e t)(k:∀σ H Q,t' σ H Q->t σ H Q):yZ X e t':=λpins s σ H Q I q=>h pins s σ H Q I (k σ H Q q)
theorem fL{b:Bool}{di:DI}{js:List Nat}{dc:DT}{de:DE}:∀σ H Q,LE K (mZ b di js dc de) σ H Q->qY (LI K di) js (LT K dc) (LE K de) σ H Q:=by
 intro σ H Q h
 obtain ⟨H0,Y,S,T,δ,P,rfl,hS,hA,hd,k⟩:=h
 refine ⟨H0,Y,S,T,δ,_,rfl,hS,hA,hd,λm ds δ1 J hid S1 H1 e1 e2 hA1 it hz p1=>?_⟩
 obtain ⟨I,h0,hs,hf⟩:=p1
 rw[<- e1]
 intro D hD
 refine ⟨λi q H=>q=ds.length - i/\i<=ds.length/\∃acc n G,(b=true->G=[])/\At K H0 Y n (⟨some (.ref D),.acc acc,D::G⟩::(S1++(hid++T))) H/\acc.length<=i/\I i acc n,⟨ds.length,by simp,Ee _,[],δ1.n,[],λ_=>rfl,hA1.accNew hD,An _,h0⟩,?_⟩
 (intro i q H q_; obtain ⟨rfl,hi,acc,n,G,hG,hA2,hl,hI⟩ := q_)
 have hid_ok:∀e∈hid,Ka K H n e:=λe he=>hA2.ok e (Ah _ (Ao _ (Ap _ he)))
 by_cases hlt:i<ds.length
 ·refine .inr ⟨it.go H n i hid_ok hlt,λx H' y=>?_⟩
  obtain ⟨s1,d,F,h1,h2,h3⟩:=it.yld H n i x H' hid_ok hlt y
  have hA3:At K H0 Y n ((⟨some (.ref D),.acc acc,D::G⟩::S1)++⟨some x,.dat m d,F⟩::(hid++T)) H':=At.item (S:=⟨some (.ref D),.acc acc,D::G⟩::S1) hA2 s1 h2 h3 it.md it.hd it.np
  have hA4:=hA3.mid
  have hA5:=At.view (S:=S1) hA4 (λe he=>Ah _ (Ap _ (Ah _ he))) js
  have hA6:At K H0 Y n ((⟨some x,.dat m d,F⟩::B1 S1 js)++⟨some (.ref D),.acc acc,D::G⟩::(S1++(hid++T))) H':=hA5.mid
  have hS6:Sl (⟨some x,.dat m d,F⟩::B1 S1 js) ⟨.dat m d::frD δ1.sl js,n⟩:=by
   unfold Sl
   rw[Bb,AB e2]
  have hv:vs (⟨some x,.dat m d,F⟩::B1 S1 js)=some x::La (vs S1) js:=by
   rw[<- Y4]
   rfl
  refine ⟨λH2=>∃m',m'<ds.length - i/\_,λy H3=>∃acc,H3 D=some (.lst acc)/\acc.length<Bd/\∃m',m'<ds.length - i/\_,λH2 q=>q,λy H3 q=>q,?_⟩
  rw[<- hv]
  refine vL hS6 hG hA6 (hs i d acc n h1 hI) (by omega) (λn' H2 hA7 p=>?_) (λe n' v H2 G' hG' hA7 p=>?_)
  ·exact ⟨ds.length - (i+1),by omega,rfl,hlt,acc,n',G,hG,hA7,by omega,p⟩
  ·obtain ⟨xs,g1,g2,g3⟩:=hA7
   exact ⟨xs,g1,by omega,ds.length - (i+1),by omega,rfl,hlt,acc++[e],n',G',hG',g3,by rw[Az]; simp; omega,p⟩
 ·have e:i=ds.length:=by omega
  subst e
  refine .inl ⟨it.stop H n hid_ok,k _ ⟨δ1.sl,n⟩ _ (D::G) S1 H e1 e2 ?_ (hf acc n hI)⟩
  have hA3:=hA2.accGetG hG
  have hA4:At K H0 Y n (⟨some (.ref D),.dat (rE b) (.list acc),D::G⟩::(S1++T)) H:=hA3.sub (((Ds S1).append (Dh hid T)).cons₂ _)
  exact hA4.tomid
end
section
variable{X:Cx}{elt iter c:Expr}{x x2 y0:Str}{px px2 pt py pos spos:Pos}{kt i0:Nat}{ifs:List Expr}{scope:Scope}{cl:List (Str×Addr)}{ys:List Str}{js:List Nat}{di:DI}{dc:DT}{de:DE}
theorem Vn:yZ X [] (LT X.K fK):=yZ.imp yX (rO (dt:=gC))
theorem Lk(h:cU X c dc):yZ X [c] (LT X.K dc):=x8 h
theorem Mf(C:CompScope X scope cl x ys js)(hc:X.calm=true)(hi:G5 X (.Name x px) iter di)(ht:∀fp s H,yZ (Hg X scope cl (x::ys) fp s H) ifs (LT X.K dc))(he:∀fp s H,Em (Hg X scope cl (x::ys) fp s H) elt de)(hs:∀x,Ih iter X.env x=pure x:=by intro _; rfl):Em X (.ListComp elt [⟨.Name x px,iter,ifs,0⟩] scope pos) (vO di js dc de):=PE.imp (pV C hc hi ht he hs) fL
def EG(o:Bool)(i:Nat):DG:=match o with
 | true=>eB i
 | false=>Qf i
theorem FC{K:PySem.W.Frag}{o:Bool}{i:Nat}:∀v σ H Q,LG K (EG o i) v σ H Q->eN i v σ H Q:=by
 cases o with
 | true=>exact wH
 | false=>exact iD
theorem pF{o:Bool}(hN:X.N.Nodup)(hi0:X.N[i0]? = some y0)(hy0:X.env.scope.names.lookup y0=some .local)(C:CompScope X scope cl x ys js)(hc:X.calm=true)(hi:G5 X (.Name x px) iter di)(ht:∀fp s H,yZ (Hg X scope cl (x::ys) fp s H) ifs (LT X.K dc))(he:∀fp s H,Em (Hg X scope cl (x::ys) fp s H) elt de)(hs:∀x,Ih iter X.env x=pure x:=by intro _; rfl)(hsw:Mr (.ListComp elt [⟨.Name x px,iter,ifs,0⟩] scope pos) (some (.Name y0 py)) spos.line X.env=pure true:=by rfl):mF X (.Assign [.Name y0 py] (.ListComp elt [⟨.Name x px,iter,ifs,0⟩] scope pos) spos) (uC (vO di js dc de) (EG o i0)):=PS.impD (A4 hN hi0 hy0 C hc hi ht he hs hsw) (fJ fL FC)
theorem aU(C:CompScope X scope cl x ys js)(hc:X.calm=true)(hi:G5 X (.Name x px) iter di)(ht:∀fp s H,yZ (Hg X scope cl (x::ys) fp s H) ifs (LT X.K dc))(he:∀fp s H,Em (Hg X scope cl (x::ys) fp s H) elt de)(hs:∀x,Ih iter X.env x=pure x:=by intro _; rfl):Em X (.ListComp elt [⟨.Name x px,iter,ifs,0⟩] scope pos) (vU di js dc de):=PE.imp (pV C hc hi ht he hs) fL
end
end DL
namespace DL
open PySem PySem.Spec PyProof.Rows L2 Nd
section
variable{K:PySem.W.Frag}{H0 H H':Hp}{X:Addr->Prop}{n n':Nat}{E S T:List Ent}
theorem At.pushF(h:At K H0 X n E H){v:V}{d:Ac}{F:List Addr}(r:RdF K H v d F)(nd:F.Nodup)(fr:∀a∈F,∀f∈E,a∉f.F)(f0:∀a∈F,H0 a=none):At K H0 X n (⟨some v,.dat .ow d,F⟩::E) H:=by
 refine h.push ⟨v,rfl,r,λ_=>nd,λz=>nomatch z⟩ (λf hf=>⟨λ_ a ha z=>fr a ha f hf z,λ_ a ha z=>fr a z f hf (Ex _ _ ha)⟩) λa ha=>.inl (f0 a ha)
theorem At.drawn(h:At K H0 X n E H){e:Ent}{dr:Addr}(he:e∈E)(hx:e.x=.drw)(hv:e.v=some (.ref dr))(s:Tp dr H H')(hd:∃c k f,Xs H' dr c k f/\0<=k/\k<=(n':Int))(hn:n<=n'):At K H0 X n' E H':=by
 obtain ⟨v,x,F⟩:=e
 have hx':x=.drw:=hx
 subst hx'
 obtain ⟨dr',c0,k0,f0,hv',hF,hd0,_⟩:=h.ok _ he
 have e1:some (V.ref dr)=some (V.ref dr'):=hv.symm.trans hv'
 cases e1
 have hF':F=[dr]:=hF
 subst hF'
 refine ⟨λf hf=>?_,h.sep,h.new,λb o nx q=>?_,λb o q=>?_,λb hb=>?_⟩
 rotate_right
 ·obtain ⟨z,c,k,f,h1,h2,h3⟩:=h.xd b hb
  by_cases hbd:b=dr
  ·subst hbd
   exact ⟨z,hd⟩
  ·exact ⟨z,c,k,f,s _ _ hbd h1,h2,by omega⟩
 ·rcases mQ h he hf with rfl | q
  ·obtain ⟨c,k,fl,h1,h2,h3⟩:=hd
   exact ⟨dr,c,k,fl,hv',rfl,h1,h2,h3⟩
  ·have nf:dr∉f.F:=q.1 (.inr rfl) dr Ab
   refine (h.ok f hf).kp (λb o eb z=>?_) hn
   by_cases hb:b=dr
   ·subst hb
    rcases z with z | z
    ·exact absurd z nf
    ·have hd0':H b=some (.lst _):=hd0
     rw[eb] at hd0'
     cases hd0'
     rcases z with ⟨_,z⟩ | ⟨_,_,z⟩ <;> cases z
   ·exact s b o hb eb
 ·have hb:b≠dr:=by
   rintro rfl
   rcases h.new _ he b Ab with z | z
   ·rw[z] at q; cases q
   ·exact nx z.1
  exact s b o hb (h.same b o nx q)
 ·by_cases hb:b=dr
  ·subst hb
   obtain ⟨c,k,fl,h1,_⟩:=hd
   exact ⟨_,h1⟩
  ·obtain ⟨o',z⟩:=h.dom b o q
   exact ⟨o',s b o' hb z⟩
end
abbrev PF:=List Ac->(Ac->Prop)->Prop
abbrev DF:=List Ac->Nat->(Ac->Nat->Prop)->Prop
def Ou(K:PySem.W.Frag)(pf:PF):Sp:=λus H Q _=>∃(As:List Ent) (n:Nat) (ds:List Ac) (R:Ac->Prop),As.map Ent.v=us.map some/\(∀e∈As,Ka K H n e)/\datas (As.map Ent.x)=some ds/\pf ds R /\
 ∀v d F H',R d->RdF K H' v d F->F.Nodup->(∀a∈F,H a=none)->Same H H'->Q v H'
def bU(K:PySem.W.Frag)(df:DF):Sp:=λus H Q _=>∃(dr:Addr) (ws:List V) (As:List Ent) (n:Nat) (ds:List Ac) (R:Ac->Nat->Prop),us=.ref dr::ws/\As.map Ent.v=ws.map some/\(∀e∈As,Ka K H n e)/\(∀e∈As,dr∉e.F)/\(∃c k f,Xs H dr c k f/\0<=k/\k<=(n:Int))/\datas (As.map Ent.x)=some ds/\df ds n R /\
 ∀v d F n' H',n<=n'->R d n'->RdF K H' v d F->F.Nodup->(∀a∈F,H a=none)->(∃c k f,Xs H' dr c k f/\0<=k/\k<=(n':Int))->Tp dr H H'->Q v H'
def wI(pf:PF)(da:DA):DE:=λδ P=>da δ λxs δ1=>match datas xs with
 | some ds=>pf ds λd=>P (.dat .ow d) δ1
 | none=>False
def nW(i:Nat)(df:DF)(da:DA):DE:=λδ P=>match δ.sl[i]? with
 | some .drw=>da δ λxs δ1=>match δ1.sl[i]? with
  | some .drw=>match datas xs with
   | some ds=>df ds δ1.n λd n'=>P (.dat .ow d) ⟨δ1.sl,n'⟩
   | none=>False
  | _=>False
 | _=>False
section
variable{X:Cx}{CX:qQ}{k:Nat}{f:Addr}{fd:Cg}{ps:List Str}{pf:PF}{df:DF}{E:XK}{x:Str}{p pos:Pos}{e e0:Expr}{es:List Expr}{da:DA}
theorem Eg(F:FnOk X.prog X.w X.K X.mg X.base CX k f fd ps (Ou X.K pf))(hr:Room k X.A)(hg:Gl X x)(hm:X.mg x=some (.ref f))(hk:PySem.W.keepIn X.K (.ref f)=true)(hb:Binds X.K fd ps [])(hx:Pi CX X E)(ha:mE X (e::es) da)(hdb:(x == ("__debug__" : Str))=false:=by decide)(he:Bz (e::es) X.env=(false,eval e X.env)::Bz es X.env:=by rfl)(hpl:(Kl pos (Bz es X.env)).any (·.1)=false:=by rfl):Em X (.Call (.Name x p) (e::es) [] pos) (wI pf da):=by
 refine PE.imp (Ux F hr hg hm hk hb .nil hx ha hdb he hpl) λσ H Q h=>?_
 obtain ⟨H0,Y,S,T,δ,P,rfl,hS,hA,hd,kk⟩:=h
 refine ⟨H0,Y,S,T,δ,_,rfl,hS,hA,hd,λxs δ' As us S' H' e1 e2 ex eu hA' p=>?_⟩
 subst ex
 cases q:datas (As.map Ent.x) with
 | none=>rw[q] at p; exact p.elim
 | some ds =>
  rw[q] at p
  rw[Ec]
  refine ⟨As,δ'.n,ds,_,eu,λe he=>hA'.ok e (Ao _ (Ap _ he)),q,p,λv d F H'' r rd nd fr s=>?_⟩
  exact kk _ δ' v F S' H'' e1 e2 (((hA'.dropL.grow s (An _)).pushF rd nd (λa ha=>hA'.dropL.free (fr a ha)) (λa ha=>hA'.new0 (fr a ha))).tomid) r
theorem BV(F:FnOk X.prog X.w X.K X.mg X.base CX k f fd ps (Ou X.K pf))(hr:Room k X.A)(hg:Gl X x)(hm:X.mg x=some (.ref f))(hk:PySem.W.keepIn X.K (.ref f)=true)(hb:Binds X.K fd ps [])(hx:Pi CX X E)(hdb:(x == ("__debug__" : Str))=false:=by decide):Em X (.Call (.Name x p) [] [] pos) (wI pf S7):=by
 refine PE.imp (vE F hr hg hm hk hb .nil hx hdb) λσ H Q h=>?_
 obtain ⟨H0,Y,S,T,δ,P,rfl,hS,hA,hd,kk⟩:=h
 show Ou X.K pf [] H Q E
 refine ⟨[],δ.n,[],_,rfl,λe he=>(nomatch he),rfl,hd,λv d F H'' r rd nd fr s=>?_⟩
 exact kk _ δ v F S H'' rfl hS (((hA.grow s (An _)).pushF rd nd (λa ha=>hA.free (fr a ha)) (λa ha=>hA.new0 (fr a ha))).tomid) r
theorem Gp{i:Nat}(F:FnOk X.prog X.w X.K X.mg X.base CX k f fd ps (bU X.K df))(hr:Room k X.A)(hg:Gl X x)(hm:X.mg x=some (.ref f))(hk:PySem.W.keepIn X.K (.ref f)=true)(hb:Binds X.K fd ps [])(hx:Pi CX X E)(h0:PE X e0 (cJ i))(ha:mE X es da)(hdb:(x == ("__debug__" : Str))=false:=by decide)(he:Bz (e0::es) X.env=(false,eval e0 X.env)::Bz es X.env:=by rfl)(hpl:(Kl pos (Bz es X.env)).any (·.1)=false:=by rfl):Em X (.Call (.Name x p) (e0::es) [] pos) (nW i df da):=by
 refine PE.imp (Ux F hr hg hm hk hb .nil hx (Hu h0 ha he) hdb he hpl) λσ H Q h=>?_
 obtain ⟨H0,Y,S,T,δ,P,rfl,hS,hA,hd,kk⟩:=h
 unfold nW at hd
 split at hd
 case h_2=>exact hd.elim
 rename_i hsl0
 have main:∀w,(vs S)[i]? = some (some w)->LA X.K da (vs S) H λxs H2=>bU X.K df ((w::xs)++[]) H2 Q E:=λw hw=>by
  refine ⟨H0,Y,S,T,δ,_,rfl,hS,hA,hd,λxs δ' As us S' H' e1 e2 ex eu hA' p=>?_⟩
  subst ex
  split at p
  ·rename_i hsl
   obtain ⟨ent,s1,s2⟩:=Jh e2 hsl
   have hm':ent∈S':=Bg s1
   have hv:ent.v=some w:=by
    have:=My s1
    rw[e1,hw] at this
    exact (Ce this).symm
   obtain ⟨u,z,F⟩:=ent
   have s2':z=.drw:=s2
   subst s2'
   have hE:(⟨u,.drw,F⟩ : Ent)∈S'++(As++T):=Ap _ hm'
   obtain ⟨dr,c0,k0,f0,hv0,hF0,hd0,hk0,hk1⟩:=hA'.ok _ hE
   have ew:some w=some (V.ref dr):=hv.symm.trans hv0
   cases ew
   have hF':F=[dr]:=hF0
   subst hF'
   cases q:datas (As.map Ent.x) with
   | none=>rw[q] at p; exact p.elim
   | some ds =>
    rw[q] at p
    rw[Ec]
    refine ⟨dr,us,As,δ'.n,ds,_,rfl,eu,λe he=>hA'.ok e (Ao _ (Ap _ he)),λe he=>?_,⟨c0,k0,f0,hd0,hk0,hk1⟩,q,p,λv d F n' H'' hn r rd nd fr hdr s=>?_⟩
    ·obtain ⟨_,_,hp⟩ := Cn.mp hA'.sep
     exact (hp _ hm' e (Ap _ he)).1 (.inr rfl) dr Ab
    ·have hA2:=hA'.dropL.drawn (Ap _ hm') rfl hv s hdr hn
     exact kk _ ⟨δ'.sl,n'⟩ v F S' H'' e1 e2 ((hA2.pushF rd nd (λa ha=>hA'.dropL.free (fr a ha)) (λa ha=>hA'.new0 (fr a ha))).tomid) r
  ·exact p.elim
 obtain ⟨ent,s1,s2⟩:=Jh hS hsl0
 have hm':ent∈S:=Bg s1
 obtain ⟨u,z,F⟩:=ent
 have s2':z=.drw:=s2
 subst s2'
 obtain ⟨dr,c0,k0,f0,hv0,_⟩:=hA.ok _ (Ap _ hm')
 have hw:(vs S)[i]? = some (some (.ref dr)):=(My s1).trans (congrArg some hv0)
 exact ⟨_,hw,main _ hw⟩
def Vc:Sp:=λvs H Q _=>∃c:Int,vs=[.int c]/\∀(p:Addr) (c':Int) (f:Bool) (H':Hp),H p=none->Xs H' p c' 0 f->Same H H'->Q (.ref p) H'
def vV(da:DA):DE:=λδ P=>da δ λxs δ1=>match xs with
 | [.dat _ (.int _)]=>P .drw δ1
 | _=>False
theorem xF(F:FnOk X.prog X.w X.K X.mg X.base CX k f fd ps Vc)(hr:Room k X.A)(hg:Gl X x)(hm:X.mg x=some (.ref f))(hk:PySem.W.keepIn X.K (.ref f)=true)(hb:Binds X.K fd ps [])(hx:Pi CX X E)(ha:mE X (e::es) da)(hdb:(x == ("__debug__" : Str))=false:=by decide)(he:Bz (e::es) X.env=(false,eval e X.env)::Bz es X.env:=by rfl)(hpl:(Kl pos (Bz es X.env)).any (·.1)=false:=by rfl):Em X (.Call (.Name x p) (e::es) [] pos) (vV da):=by
 refine PE.imp (Ux F hr hg hm hk hb .nil hx ha hdb he hpl) λσ H Q h=>?_
 obtain ⟨H0,Y,S,T,δ,P,rfl,hS,hA,hd,kk⟩:=h
 refine ⟨H0,Y,S,T,δ,_,rfl,hS,hA,hd,λxs δ' As us S' H' e1 e2 ex eu hA' p=>?_⟩
 split at p
 ·obtain ⟨v,F,rfl,hA2⟩:=Ht eu hA' ex
  obtain ⟨rfl,_⟩:=(hA2.told mem_mid).int_inv
  refine ⟨_,rfl,λq c' fl H'' nq hdr s=>?_⟩
  have h3:=hA2.drop.grow (n':=δ'.n) s (An _)
  refine kk _ δ' _ [q] S' H'' e1 e2 ((h3.push (e:=⟨some (.ref q),.drw,[q]⟩) ⟨q,_,0,fl,rfl,rfl,hdr,by decide,by omega⟩ (λf hf=>?_) λa ha=>?_).tomid) p
  ·have nf:=hA2.drop.free nq f hf
   refine ⟨λ_ a ha z=>?_,λ_ a ha z=>?_⟩
   ·rw[Ag.mp ha] at z
    exact nf z
   ·rw[Ag.mp z] at ha
    exact nf (Ex _ _ ha)
  ·rw[Ag.mp ha]
   exact .inl (hA2.new0 nq)
 ·exact p.elim
end
def args0(ds:List Ac)(k:Nat):List DV:=ds.map (λd=>.dat .sh d)++Cm k .un
def Ws(e:Ent):Ent:=match e.x with
 | .dat _ d=>⟨e.v,.dat .sh d,e.F⟩
 | _=>e
theorem Iu:∀{xs:List DV} {ds:List Ac},datas xs=some ds->xs.length=ds.length
 | [],ds,h=>by cases h; rfl
 | x::xs,ds,h=>by
  cases x with
  | dat m d =>
   cases q:datas xs with
   | none=>simp [datas,q] at h
   | some es =>
    simp [datas,q] at h
    subst h
    rw[Be,Be,Iu q]
  | _=>cases h
theorem Rq:∀{As:List Ent} {ds:List Ac},datas (As.map Ent.x)=some ds->(As.map Ws).map Ent.x=ds.map (λd=>.dat .sh d)
 | [],ds,h=>by cases h; rfl
 | ⟨v,x,F⟩::As,ds,h=>by
  rw[Bb] at h
  cases x with
  | dat m d =>
   cases q:datas (As.map Ent.x) with
   | none=>simp [datas,q] at h
   | some es =>
    simp [datas,q] at h
    subst h
    rw[Bb,Bb,Bb,Rq q]
    rfl
  | _=>cases h
theorem Wu:∀{As:List Ent} {ds:List Ac},datas (As.map Ent.x)=some ds->∀e∈As,∃m d,e.x=.dat m d
 | [],ds,h,e,he=>nomatch he
 | ⟨v,x,F⟩::As,ds,h,e,he=>by
  rw[Bb] at h
  cases x with
  | dat m d =>
   cases q:datas (As.map Ent.x) with
   | none=>simp [datas,q] at h
   | some es =>
    rcases Ai.mp he with rfl | he
    ·exact ⟨m,d,rfl⟩
    ·exact Wu q e he
  | _=>cases h
theorem n5(As:List Ent):(As.map Ws).map Ent.v=As.map Ent.v:=by
 rw[Fg]
 refine Ii λe _=>?_
 obtain ⟨v,x,F⟩:=e
 cases x <;> rfl
def Gr(k:Nat):List Ent:=Cm k ⟨none,.un,[]⟩
theorem Yt{As:List Ent}{ds:List Ac}(q:datas (As.map Ent.x)=some ds)(k:Nat):∀e∈As.map Ws++Gr k,cells e=[]/\O6 e.x=false:=λe he=>by
 rcases Ay.mp he with he | he
 ·obtain ⟨f,hf,rfl⟩:=Bq.mp he
  obtain ⟨m,d,hx⟩:=Wu q f hf
  obtain ⟨v,x,F⟩:=f
  have hx':x=.dat m d:=hx
  subst hx'
  exact ⟨rfl,rfl⟩
 ·rw[(Hh.mp he).2]
  exact ⟨rfl,rfl⟩
theorem Pq{α:Type}{R:α->α->Prop}:∀{l:List α},(∀a∈l,∀b∈l,R a b)->l.Pairwise R
 | [],_=>Eh
 | a::l,h=>Ba.mpr ⟨λb hb=>h a Ab b (Ah _ hb),Pq λx hx y hy=>h x (Ah _ hx) y (Ah _ hy)⟩
theorem pG{K:PySem.W.Frag}{H:Hp}{n:Nat}{As:List Ent}{ds:List Ac}(q:datas (As.map Ent.x)=some ds)(ok:∀e∈As,Ka K H n e)(k:Nat):∀e∈As.map Ws++Gr k,Ka K H n e:=λe he=>by
 rcases Ay.mp he with he | he
 ·obtain ⟨f,hf,rfl⟩:=Bq.mp he
  obtain ⟨m,d,hx⟩:=Wu q f hf
  have o:=ok f hf
  obtain ⟨v,x,F⟩:=f
  have hx':x=.dat m d:=hx
  subst hx'
  obtain ⟨w,h1,h2,_⟩:=o
  exact ⟨w,h1,h2,λz=>(nomatch z),λz=>(nomatch z)⟩
 ·rw[(Hh.mp he).2]
  exact (rfl:([]:List Addr)=[])
theorem Me{α β:Type}(f:α->β)(k:Nat)(a:α):(Cm k a).map f=Cm k (f a):=by
 rw[List.map_replicate]
def retE(R:Ac->Prop):DEnds where
 nx:=λ_=>R .none
 rt:=λx _=>∃d,x=.dat .ow d/\R d
def retW(n:Nat)(R:Ac->Nat->Prop):DEnds where
 nx:=λδ=>n<=δ.n/\R .none δ.n
 rt:=λx δ=>n<=δ.n/\∃d,x=.dat .ow d/\R d δ.n
section
variable{P:Bs}{w:World}{K:PySem.W.Frag}{mg:Str->Option Value}{base:Heap}
theorem Hl{x qual:Str}{st:Stmt}{f:Addr}{fd:Cg}{N ps:List Str}{k:Nat}{pf:PF}{db:DB}(F:Fun K x qual st f fd)(S:FnScope N ps (Bo st))(hb:∀(cdv:Value) (A:Dj) (outer:List Env) (s:Al) (H:Hp) (E:XK),Room k (A.deeper (Pn qual (Bo st) s.heap.objs.size f cdv))->Wg (Lq Fw P w K mg base N qual (Bo st) f cdv A outer s H E).nox (Jg st) db)(h:∀ds R,pf ds R->ds.length=ps.length/\db (retE R) ⟨args0 ds (N.length - ps.length),0⟩):FnOk P w K mg base Fw (k+1) f fd ps (Ou K pf):=by
 refine F.ok S (λvs H Q E z=>?_) λcdv A outer s H us Q E hr z=>?_
 ·obtain ⟨As,n,ds,R,eu,ok,q,hp,_⟩:=z
  have l1:=(h ds R hp).1
  have l2:=Iu q
  rw[Ad] at l2
  have l3:=congrArg Ha eu
  rw[Ad,Ad] at l3
  omega
 ·obtain ⟨As,n,ds,R,eu,ok,q,hp,k1⟩:=z
  obtain ⟨l1,hd⟩:=h ds R hp
  have l2:=Iu q
  rw[Ad] at l2
  have l3:=congrArg Ha eu
  rw[Ad,Ad] at l3
  refine ⟨_,hb cdv A outer s H E hr,H,λ_=>False,As.map Ws++Gr (N.length - ps.length),[],⟨args0 ds (N.length - ps.length),0⟩,retE R,?_,?_,λ_ z=>(nomatch z),?_,hd,λδ' S' H' e1 hA p=>?_,λx δ' v F' S' H' e1 hA p=>?_,λ_ _ _ _ _ p=>p.elim,λ_ _ _ _ _ p=>p.elim⟩
  ·unfold vs L2.start Gr
   rw[Bp,n5,eu,Me,show us.length=ps.length by omega]
  ·unfold Sl args0 Gr
   rw[Bp,Rq q,Me]
  ·rw[Ec]
   have hs:=Yt q (N.length - ps.length)
   refine ⟨λe he=>?_,Pq λa ha b hb'=>⟨λhq c hc=>?_,λhq c hc=>?_⟩,λe he a ha=>?_,λb o _ e=>e,λb o e=>⟨o,e⟩,λb hb=>hb.elim⟩
   ·have:=pG q ok (N.length - ps.length) e he
    obtain ⟨v,x,F⟩:=e
    cases x with
    | drw=>exact absurd (hs _ he).2 (by show ¬ (true=false); decide)
    | _=>exact this
   ·rw[(hs a ha).1] at hc; cases hc
   ·rw[(hs b hb').1] at hc; cases hc
   ·rw[(hs e he).1] at ha; cases ha
  ·exact k1 .non .none [] H' p .non Cv (λ_ z=>(nomatch z)) λb o e=>hA.same b o (λz=>z) e
  ·obtain ⟨d,rfl,r⟩:=p
   rw[show S'++[(⟨some v,.dat .ow d,F'⟩ : Ent)]=S'++⟨some v,.dat .ow d,F'⟩::[] from rfl] at hA
   obtain ⟨u,e2,rd,nd,_⟩:=hA.ok _ mem_mid
   cases e2
   refine k1 v d F' H' r rd (nd rfl) (λa ha=>?_) λb o e=>hA.same b o (λz=>z) e
   rcases hA.new _ mem_mid a ha with z | z
   ·exact z
   ·exact z.1.elim
theorem Vm{x qual:Str}{st:Stmt}{f:Addr}{fd:Cg}{N ps:List Str}{p0:Str}{k:Nat}{df:DF}{db:DB}(F:Fun K x qual st f fd)(S:FnScope N (p0::ps) (Bo st))(hb:∀(cdv:Value) (A:Dj) (outer:List Env) (s:Al) (H:Hp) (E:XK),Room k (A.deeper (Pn qual (Bo st) s.heap.objs.size f cdv))->Wg (Lq Fw P w K mg base N qual (Bo st) f cdv A outer s H E).nox (Jg st) db)(h:∀ds n R,df ds n R->ds.length=ps.length/\db (retW n R) ⟨.drw::args0 ds (N.length - (p0::ps).length),n⟩):FnOk P w K mg base Fw (k+1) f fd (p0::ps) (bU K df):=by
 refine F.ok S (λvs H Q E z=>?_) λcdv A outer s H us Q E hr z=>?_
 ·obtain ⟨dr,ws,As,n,ds,R,rfl,eu,ok,nd,hdr,q,hp,_⟩:=z
  have l1:=(h ds n R hp).1
  have l2:=Iu q
  rw[Ad] at l2
  have l3:=congrArg Ha eu
  rw[Ad,Ad] at l3
  rw[Be,Be]
  omega
 ·obtain ⟨dr,ws,As,n,ds,R,rfl,eu,ok,ndr,hdr,q,hp,k1⟩:=z
  obtain ⟨l1,hd⟩:=h ds n R hp
  have l2:=Iu q
  rw[Ad] at l2
  have l3:=congrArg Ha eu
  rw[Ad,Ad] at l3
  -- what the end tells of the draws: they stand in an old cell
  have ends:∀{E':List Ent} {n':Nat} {H':Hp},At K H (·=dr) n' E' H'->∀b o,b≠dr->H b=some o->H' b=some o:=λhA b o nb e=>hA.same b o nb e
  refine ⟨_,hb cdv A outer s H E hr,H,(·=dr),⟨some (.ref dr),.drw,[dr]⟩::(As.map Ws++Gr (N.length - (p0::ps).length)),[],⟨.drw::args0 ds (N.length - (p0::ps).length),n⟩,retW n R,?_,?_,λ_ z=>(nomatch z),?_,hd,λδ' S' H' e1 hA p=>?_,λx δ' v F' S' H' e1 hA p=>?_,λ_ _ _ _ _ p=>p.elim,λ_ _ _ _ _ p=>p.elim⟩
  ·unfold vs L2.start Gr
   rw[Bb,Bp,n5,eu,Me,Be,Be,show ws.length=ps.length by omega]
   rfl
  ·unfold Sl args0 Gr
   rw[Bb,Bp,Rq q,Me]
  ·rw[Ec]
   have hs:=Yt q (N.length - (p0::ps).length)
   have hsub:∀e∈As.map Ws++Gr (N.length - (p0::ps).length),dr∉e.F:=λe he=>by
    rcases Ay.mp he with he | he
    ·obtain ⟨f,hf,rfl⟩:=Bq.mp he
     obtain ⟨v,x,F⟩:=f
     have:=ndr _ hf
     cases x <;> exact this
    ·rw[(Hh.mp he).2]
     exact Bk
   refine ⟨λe he=>?_,Ba.mpr ⟨λb hb'=>⟨λhq c hc=>?_,λhq c hc=>?_⟩,Pq λa ha b hb'=>⟨λhq c hc=>?_,λhq c hc=>?_⟩⟩,λe he a ha=>?_,λb o _ e=>e,λb o e=>⟨o,e⟩,λb hb=>?_⟩
   rotate_right
   ·subst hb
    obtain ⟨c,kk,fl,z1,z2⟩:=hdr
    exact ⟨λz=>(by rw[show H b=some _ from z1] at z; cases z),c,kk,fl,z1,z2⟩
   ·rcases Ai.mp he with rfl | he
    ·obtain ⟨c,kk,fl,z1,z2,z3⟩:=hdr
     exact ⟨dr,c,kk,fl,rfl,rfl,z1,z2,z3⟩
    ·exact pG q ok _ e he
   ·rw[Ag.mp hc]
    exact hsub b hb'
   ·rw[(hs b hb').1] at hc; cases hc
   ·rw[(hs a ha).1] at hc; cases hc
   ·rw[(hs b hb').1] at hc; cases hc
   ·rcases Ai.mp he with rfl | he
    ·rw[Ag.mp ha]
     exact .inr ⟨rfl,rfl⟩
    ·rw[(hs e he).1] at ha; cases ha
  ·exact k1 .non .none [] δ'.n H' p.1 p.2 .non Cv (λ_ z=>(nomatch z)) (hA.xd dr rfl).2 (ends hA)
  ·obtain ⟨hn,d,rfl,r⟩:=p
   rw[show S'++[(⟨some v,.dat .ow d,F'⟩ : Ent)]=S'++⟨some v,.dat .ow d,F'⟩::[] from rfl] at hA
   obtain ⟨u,e2,rd,nd,_⟩:=hA.ok _ mem_mid
   cases e2
   refine k1 v d F' δ'.n H' hn r rd (nd rfl) (λa ha=>?_) (hA.xd dr rfl).2 (ends hA)
   rcases hA.new _ mem_mid a ha with z | z
   ·exact z
   ·cases z.2
end
end DL
namespace L2
open PySem PySem.Spec PyProof.Rows
def xJ(H:Hp):Prop:=∀b,H b=none\/(∃o xs,H b=some (.frz o (.lst xs)))\/∃ps,H b=some (.tbl ps)
def lK(tabs:List (Addr×Addr×Str))(H:Hp):Hp:=λb=>match tabs.find? (λr=>r.2.1 == b) with | some t=>some (.tbl #[.str t.2.2 0]) | none=>H b
theorem Ui{tabs:List (Addr×Addr×Str)}{H:Hp}{b:Addr}{t:Addr×Addr×Str}(h:tabs.find? (λr=>r.2.1 == b)=some t):lK tabs H b=some (.tbl #[.str t.2.2 0]):=by unfold lK; rw[h]
theorem Lv{tabs:List (Addr×Addr×Str)}{H:Hp}{b:Addr}(h:tabs.find? (λr=>r.2.1 == b)=none):lK tabs H b=H b:=by unfold lK; rw[h]
def fV(q:Bs)(K:PySem.W.Frag):Prop:=∃tabs:List (Addr×Addr×Str),(∀t∈tabs,∃x d,(recsOf q).find? (λe=>e.name == x)=some d/\PySem.W.tabIn K x=some (t.1,t.2.1))/\(∀t∈tabs,∀t'∈tabs,t.2.1=t'.2.1->t=t') /\
 (∀x∈Uu,∀c P,PySem.W.tabIn K x=some (c,P)->(c,P,O0 x)∈tabs)/\∀t∈tabs,K.lookup t.2.1=none
theorem C8{x:Str}(hx:x∈Uu):x = "often" \/ x = "cut_by" := by
 rcases Ai.mp hx with h | hx
 ·exact .inl h
 ·exact .inr (Ag.mp hx)
theorem sX{q:Bs}{K:PySem.W.Frag}(h1:PySem.W.tabIn K "often" = none)(h2:PySem.W.tabIn K "cut_by" = none):fV q K:=by
 refine ⟨[],λ_ z=>(nomatch z),λ_ z=>(nomatch z),λx hx c P e=>?_,λ_ z=>(nomatch z)⟩
 rcases C8 hx with rfl | rfl
 ·rw[h1] at e; cases e
 ·rw[h2] at e; cases e
theorem tZ{P:Bs}{w:World}{K:PySem.W.Frag}{mg mb:Str->Option Value}{CX:qQ}{k:Nat}{fa a:Addr}{fd:Cg}{x:Str}{sp:Sp}{s₁:Al}{vs:List Value}{ns:List Int}(tabs:List (Addr×Addr×Str))(hT:∀t∈tabs,PySem.W.CodeHd s₁.heap t.1 t.2.1/\s₁.heap.get? t.2.1=some (PySem.W.tabObj #[]))(hu:∀t∈tabs,∀t'∈tabs,t.2.1=t'.2.1->t=t')(hL:∀x∈Uu,∀c P,PySem.W.tabIn K x=some (c,P)->(c,P,O0 x)∈tabs)(hnt:∀t∈tabs,K.lookup t.2.1=none)(hbm:∃bm ob,mg "__builtins__" = some (.ref bm)/\bm≠Ul/\s₁.heap.get? bm=some ob/\ob.cls=.type "module" /\ ob.dict=some Ul/\ob.data=.plain)(KX:K.In s₁.heap)(hns:s₁.heap.Ns Co mg)(hb:s₁.heap.Ns Ul mb)(hbb:∀x:Str,x ≠ "__name__" -> mb x=Ju x)(hlim:s₁.heap.NoLimit)(hg:s₁.gens=#[])(ha:s₁.heap.get? a=some { cls:=.type "list",data:=.seq vs.toArray })(hi:Lg vs ns)(hl:ns.length<=Bd)(hr:Room k Yi)(F:∀base:Heap,K.In base->base.Ns Co mg->FnOk P w K mg base CX k fa fd [x] sp)(hbind:∀(s:Al) (u:Value),BindsTo s fd ⟨[u],[]⟩ [(x,u)])(hsp:∀H:Hp,xJ H->DL.KL K H a (ns.map V.int)->sp [.ref a] H (λv _=>v=.bl true) λ_ _ _=>False)(hCX:∀H e s',CX [] H s₁ (λ_ _ _=>False) e s'->False):Ng (model P w) Yi (.call (.ref fa) ⟨[.ref a],[]⟩) (λr s'=>r=.ok (.ret (.bool true))/\OldK s₁.heap s'.heap/\s'.os=s₁.os/\Rz s'.gens) s₁:=by
 have rv:=cZ hi
 have lenV:=hi.length
 -- from an abstract heap in which nothing but the script may be tracked
 have core:∀H:Hp,xJ H->DL.KL K H a (ns.map V.int)->Vj P w H s₁.heap->(∀b,H b≠none->b=a\/∃t∈tabs,b=t.2.1)->(H a≠none->K.lookup a=none)->(∀t∈tabs,J2 H t.2.1 t.2.2) ->
   Ng (model P w) Yi (.call (.ref fa) ⟨[.ref a],[]⟩) (λr s'=>r=.ok (.ret (.bool true))/\OldK s₁.heap s'.heap/\s'.os=s₁.os/\Rz s'.gens) s₁:=by
  intro H hO hS hok hA hK hTH
  have base_of:∀{b:Addr} {o:Obj},s₁.heap.get? b=some o->H b=none->(cG s₁.heap H).get? b=some o:=λe n=>vR e n
  have noA:∀{b:Addr} {o:Obj} {es:Array DictEntry} {ep:Nat},s₁.heap.get? b=some o->o.data=.dict es ep->H b=none:=λ{b o es ep} e d=>by
   cases q:H b with
   | none=>rfl
   | some u =>
    rcases hA b (by rw[q]; simp) with e' | ⟨t,ht,e'⟩
    ·subst e'
     rw[ha] at e; cases e
     have d':Data.seq vs.toArray _=Data.dict es ep:=d
     cases d'
    ·rw[e',(hT t ht).2] at e; cases e
     cases d
  have nsK:∀{b:Addr} {m:Str->Option Value},s₁.heap.Ns b m->(cG s₁.heap H).Ns b m:=λ{b m} ⟨o,es,ep,e,d,r⟩=>⟨o,es,ep,base_of e (noA e d),d,r⟩
  have hKb:K.In (cG s₁.heap H):=λb o e=>base_of (KX b o e) (by
   cases q:H b with
   | none=>rfl
   | some u =>
    rcases hA b (by rw[q]; simp) with e' | ⟨t,ht,e'⟩
    ·subst e'
     rw[hK (by rw[q]; simp)] at e; cases e
    ·rw[e',hnt t ht] at e; cases e)
  have noC:∀{b:Addr} {o:Obj},s₁.heap.get? b=some o->o.cls≠.none->o.cls≠.type "list" -> H b=none:=λ{b o} e d d2=>by
   cases q:H b with
   | none=>rfl
   | some u =>
    rcases hA b (by rw[q]; simp) with e' | ⟨t,ht,e'⟩
    ·subst e'
     rw[ha] at e; cases e
     exact absurd rfl d2
    ·rw[e',(hT t ht).2] at e; cases e
     exact absurd rfl d
  have hTb:zA K mg (cG s₁.heap H) H:=λx hx c P e=>by
   have ht:=hL x hx c P e
   obtain ⟨bm,ob,b1,b2,b3,b4,b5,b6⟩:=hbm
   obtain ⟨⟨o,us,file,tf,flags,tg,inF,text,tt,e1,r1,r2⟩,hP⟩:=hT _ ht
   refine ⟨⟨o,us,file,tf,flags,tg,inF,text,tt,base_of e1 (noC e1 (by rw[r1]; nofun) (by rw[r1]; simp)),r1,r2⟩,⟨bm,ob,b1,b2,λz=>?_,λz=>?_,base_of b3 (noC b3 (by rw[b4]; nofun) (by rw[b4]; simp)),b4,b5,b6⟩,hTH _ ht⟩
   ·obtain ⟨o',es,ep,e',d,_⟩:=hns
    rw[<- z,b3] at e'; cases e'; rw[b6] at d; cases d
   ·have hP:s₁.heap.get? P=_:=hP
    rw[<- z,b3] at hP; cases hP; cases b4
  have hM:Mod K mg (cG s₁.heap H):=⟨hKb,nsK hns,⟨mb,nsK hb,hbb⟩,let ⟨mc,h1,h2⟩:=hlim; ⟨mc,nsK h1,h2⟩⟩
  have e0:Env0 P w K mg (cG s₁.heap H) Yi [] s₁ H:=⟨rfl,hM,λb o e=>C5 e,Nat.le_of_eq (uD _ _),trivial,λb hb=>absurd (show b∈([]:List Addr) from hb) (by simp),hok,.of_eq hg,hTb⟩
  refine Lf ((F _ hKb (nsK hns)).run Yi [] s₁ H ⟨[.ref a],[]⟩ [.ref a] [.ref a] _ _ hr e0 (hbind s₁ (.ref a)) (.cons rfl .nil) (hsp H hO hS)) λr s' h=>?_
  cases r with
  | error e=>exact (hCX H e s' h).elim
  | ok fl =>
   cases fl with
   | next=>exact Kd h
   | brk=>exact Kd h
   | cont=>exact Kd h
   | ret u =>
    obtain ⟨v,H',os,bare,un,hok',r',q⟩:=h
    have q':v=.bl true:=q
    subst q'
    obtain rfl:u=Value.bool true:=r'
    have old:∀b o,s₁.heap.get? b=some o->s'.heap.get? b=some o\/∃t∈tabs,b=t.2.1:=λb o e=>by
     cases q:H b with
     | none=>exact .inl (un.keep b o e q (by intro z; exact absurd (show b∈([]:List Addr) from z) (by simp)) (by simp))
     | some u =>
      rcases hO b with z | ⟨ob,xs,z⟩ | ⟨ps,z⟩
      ·rw[q] at z; cases z
      ·have z2:=un.frzs b ob _ z
       obtain ⟨e1,_⟩:=hok b _ z
       obtain ⟨e2,_⟩:=hok' b _ z2
       rw[e] at e1; cases e1
       exact .inl e2
      ·rcases hA b (by rw[q]; simp) with e' | h'
       ·obtain ⟨_,e1,_⟩:=hok b _ z
        rw[e',ha] at e1; cases e1
       ·exact .inr h'
    have grown:∀t∈tabs,∃ps,s'.heap.get? t.2.1=some (PySem.W.tabObj ps):=λt ht=>by
     obtain ⟨ps,t0,h3,_⟩:=hTH t ht
     obtain ⟨more,h5⟩:=un.tbls _ _ h3
     obtain ⟨qs,e1,_⟩:=hok' _ _ h5
     exact ⟨qs,e1⟩
    refine ⟨rfl,⟨λb o e=>?_,λb o e=>?_⟩,os,bare⟩
    ·rcases old b o e with z | ⟨t,ht,rfl⟩
     ·exact .inl z
     ·obtain ⟨ps,hP⟩:=grown t ht
      have e2:=(hT t ht).2
      rw[e] at e2
      cases e2
      exact .inr (.inl ⟨((hT t ht).1.tab (hT t ht).2).isCodeTable,rfl,#[],ps,rfl,by rw[Array.empty_append]; exact hP⟩)
    ·rcases old b o e with z | ⟨t,ht,rfl⟩
     ·exact ⟨_,z⟩
     ·obtain ⟨ps,hP⟩:=grown t ht
      exact ⟨_,hP⟩
 have tabH:∀(t:Addr×Addr×Str),t∈tabs->tabs.find? (λr=>r.2.1 == t.2.1)=some t:=λt ht=>by
  cases q:tabs.find? (λr=>r.2.1 == t.2.1) with
  | none=>exact absurd (List.find?_eq_none.mp q t ht) (by simp)
  | some r=>exact congrArg some (hu r (Py q) t ht (by have:=Td q; simpa using this))
 have neA:∀t∈tabs,t.2.1≠a:=λt ht z=>by
  have e:=(hT t ht).2
  rw[z,ha] at e; cases e
 have all:∀H:Hp,(∀b,H b=none\/∃o xs,H b=some (.frz o (.lst xs)))->(∀b,H b≠none->b=a)->(H a≠none->K.lookup a=none)->DL.KL K H a (ns.map V.int)->Vj P w H s₁.heap ->
   Ng (model P w) Yi (.call (.ref fa) ⟨[.ref a],[]⟩) (λr s'=>r=.ok (.ret (.bool true))/\OldK s₁.heap s'.heap/\s'.os=s₁.os/\Rz s'.gens) s₁:=by
  intro H h1 h2 h3 h4 h5
  refine core (lK tabs H) (λb=>?_) ?_ (λb u z=>?_) (λb z=>?_) (λz=>?_) λt ht=>?_
  ·cases q:tabs.find? (λr=>r.2.1 == b) with
   | some t=>exact .inr (.inr ⟨_,Ui q⟩)
   | none =>
    rcases h1 b with z | ⟨o,xs,z⟩
    ·exact .inl (by rw[Lv q]; exact z)
    ·exact .inr (.inl ⟨o,xs,by rw[Lv q]; exact z⟩)
  ·have na:tabs.find? (λr=>r.2.1 == a)=none:=i7.mpr λt ht z=>neA t ht (by simpa using z)
   rcases h4 with ⟨o,h⟩ | h
   ·exact .inl ⟨o,by rw[Lv na]; exact h⟩
   ·exact .inr h
  ·cases q:tabs.find? (λr=>r.2.1 == b) with
   | some t =>
    rw[Ui q] at z
    cases z
    have eb:t.2.1=b:=by have:=Td q; simpa using this
    exact ⟨#[],by rw[<- eb]; exact (hT t (Py q)).2,by simp [TriplesOk],λpos v y=>by simp [codeAmong] at y⟩
   | none =>
    rw[Lv q] at z
    rcases h1 b with y | ⟨o,xs,y⟩
    ·rw[z] at y; cases y
    ·rw[z] at y
     cases y
     exact h5 b _ z
  ·cases q:tabs.find? (λr=>r.2.1 == b) with
   | some t=>exact .inr ⟨t,Py q,by have:=Td q; exact (by simpa using this : t.2.1=b).symm⟩
   | none =>
    rw[Lv q] at z
    exact .inl (h2 b z)
  ·have na:tabs.find? (λr=>r.2.1 == a)=none:=i7.mpr λt ht z=>neA t ht (by simpa using z)
   rw[Lv na] at z
   exact h3 z
  ·exact ⟨#[.str t.2.2 0],0,Ui (tabH t ht),rfl⟩
 cases hk:K.lookup a with
 | some o =>
  -- the script is one of the module's own objects
  have e:=KX a o hk
  rw[ha] at e
  cases e
  exact all (λ_=>none) (λ_=>.inl rfl) (λb z=>absurd rfl z) (λz=>absurd rfl z) (.inr ⟨vs.toArray,_,hk,by rw[Aq,lenV]; exact hl,by simpa using rv⟩) (λb u z=>by have z':(none:Option HO)=some u:=z; cases z')
 | none =>
  refine all (λb=>if b=a then some (.frz { cls:=.type "list",data:=.seq vs.toArray } (.lst (ns.map V.int))) else none) (λb=>?_) (λb z=>?_) (λ_=>hk) (.inl ⟨{ cls:=.type "list",data:=.seq vs.toArray },if_pos rfl⟩) (λb u z=>?_)
  ·by_cases hb:b=a
   ·exact .inr ⟨_,_,if_pos hb⟩
   ·exact .inl (if_neg hb)
  ·by_cases hb:b=a
   ·exact hb
   ·exact absurd (if_neg hb) z
  ·by_cases hb:b=a
   ·have z':=(if_pos hb).symm.trans z
    cases z'
    subst hb
    exact ⟨ha,by rw[Ad]; exact hl,vs,_,rv,ha⟩
   ·have z':=(if_neg hb).symm.trans z
    cases z'
theorem walk_ofD{l:PySem.W.OpenLaw}{n k:Nat}{q:Bs}{loose:List Str}{XP:(Str->Option Value)->Heap->Prop}{YP:World->Heap->Prop}{d:DefRec}{K:Params->PySem.W.Frag}{CX:World->qQ}{sp:World->Sp}{x:Str}(hn:l.most=some n)(hn2:n<=Bd)(hdf:d.params.defaults=[])(hr:Room k Yi)(hY:∀(w:World) (h:Heap),YP w h->(K w.params).In h)(F:∀(w:World) (mg:Str->Option Value) (fa:Addr) (h:Heap),(K w.params).In h->h.Ns Co mg->mg d.name=some (.ref fa)->(fV q (K w.params))/\∃fd:Cg,(∀(s:Al) (u:Value),BindsTo s fd ⟨[u],[]⟩ [(x,u)])/\∀base:Heap,(K w.params).In base->base.Ns Co mg->FnOk l.prog w (K w.params) mg base (CX w) k fa fd [x] (sp w))(hsp:∀(w:World) (H:Hp) (a:Addr) (ns:List Int),ns.length<=n->xJ H->DL.KL (K w.params) H a (ns.map V.int)->sp w [.ref a] H (λv _=>v=.bl true) λ_ _ _=>False)(hCX:∀(w:World) (H:Hp) (s:Al) (e:Value) (s':Al),CX w [] H s (λ_ _ _=>False) e s'->False):PySem.W.WalkO q loose XP YP l.row.toRowW d [] (λf vs=>PySem.call f vs):=by
 refine Att.attach_call hn hdf λw s₀ s₁ mg mb fa o pm cd doc a vs ns G Y ho hd hcd hmg hobj hints hlen hg=>?_
 have KX:=hY w _ Y
 obtain ⟨⟨tabs,t1,t2,t3,t4⟩,fd,hb,hF⟩:=F w mg fa _ KX G.T.g hmg
 exact tZ tabs (λt ht=>by
  obtain ⟨x,d,h1,h2⟩:=t1 t ht
  exact PySem.W.tab_of G.T KX h1 h2) t2 t3 t4 G.T.bmain KX G.T.g G.T.b G.T.builtins G.T.nolimit hg hobj hints (By hlen hn2) hr hF hb (λH hO hS=>hsp w H a ns hlen hO hS) λH e s'=>hCX w H s₁ e s'
end L2
namespace DL
open PySem PySem.Spec PyProof.Rows L2 Nd
def npk:List DV->Bool
 | []=>true
 | .dat .pk _::_=>false
 | _::xs=>npk xs
theorem gG:∀{S:List Ent} {sl:List DV},S.map Ent.x=sl->npk sl=true->∀e∈S,Mv e.x=false
 | [],_,_,_,e,he=>nomatch he
 | ⟨v,x,F⟩::S,_,h,hn,e,he=>by
  subst h
  rw[Bb] at hn
  have : Mv x=false/\npk (S.map Ent.x)=true:=by
   cases x with
   | dat m d=>cases m <;> first | exact ⟨rfl,hn⟩ | cases hn
   | _=>exact ⟨rfl,hn⟩
  rcases Ai.mp he with rfl | he
  ·exact this.1
  ·exact gG rfl this.2 e he
def own1:Md->Bool
 | .ow=>true
 | .tp=>true
 | _=>false
section
variable{K:PySem.W.Frag}{H0 H:Hp}{X:Addr->Prop}{n:Nat}{E:List Ent}
theorem At.write{v:Option V}{m:Md}{ds es:List Ac}{a:Addr}{F G:List Addr}{ys:List V}(h:At K H0 X n (⟨v,.dat m (.list ds),a::F⟩::E) H)(ho:own1 m=true)(hv:v=some (.ref a))(np:∀e∈E,Mv e.x=false)(r:RdFs K H ys es G)(hG:G.Sublist F)(hz:es.length<=Bd):At K H0 X n (⟨v,.dat m (.list es),a::G⟩::E) (upd H a (.lst ys)):=by
 obtain ⟨w,e1,rd,hn,ht⟩:=h.ok _ Ab
 obtain ⟨b,xs,G0,e2,ha,ra,eF,_⟩:=rd.list_inv
 have eF':a::F=b::G0:=eF
 cases eF'
 have hs:=Ba.mp h.sep
 have naF:a∉F:=by
  cases m with
  | ow=>exact (Bt.mp (hn rfl)).1
  | tp=>exact ht rfl a F rfl
  | sh=>cases ho
  | pk=>cases ho
 have ca:a∈cells ⟨v,.dat m (.list ds),a::F⟩:=by
  cases m <;> first | exact Ab | cases ho
 have kp:∀{F':List Addr},a∉F'->Kp F' H (upd H a (.lst ys)):=λ{F'} hF b o q z=>by
  have : b≠a:=by
   rintro rfl
   rw[ha] at q
   cases q
   rcases z with z | z
   ·exact hF z
   ·rcases z with ⟨_,z⟩ | ⟨_,_,z⟩ <;> cases z
  rw[En this]
  exact q
 have n0:H0 a=none:=by
  rcases h.new _ Ab a ca with z | z
  ·exact z
  ·cases z.2
 have cs:∀c∈cells ⟨v,.dat m (.list es),a::G⟩,c∈cells ⟨v,.dat m (.list ds),a::F⟩:=λc hc=>by
  cases m with
  | ow =>
   rcases Ai.mp hc with z | z
   ·exact Ai.mpr (.inl z)
   ·exact Ai.mpr (.inr (hG.subset z))
  | tp=>exact hc
  | sh=>cases ho
  | pk=>cases ho
 have hsub:∀c∈a::G,c∈a::F:=λc hc=>by
  rcases Ai.mp hc with z | z
  ·exact Ai.mpr (.inl z)
  ·exact Ai.mpr (.inr (hG.subset z))
 have naG:a∉G:=λz=>naF (hG.subset z)
 refine ⟨λf hf=>?_,?_,λf hf=>?_,λb o nx q=>?_,λb o q=>?_,λb hb=>?_⟩
 ·rcases Ai.mp hf with rfl | hf
  ·refine ⟨.ref a,hv,.lst Dt hz (r.kp (kp naG)),λz=>?_,λz c l e=>?_⟩
   ·exact Bt.mpr ⟨naG,(Bt.mp (hn z)).2.sublist hG⟩
   ·cases e
    exact naG
  ·exact (h.ok f (Ah _ hf)).kp (kp ((hs.1 f hf).1 (.inl (np f hf)) a ca)) (An _)
 ·refine Ba.mpr ⟨λf hf=>⟨λhq c hc=>(hs.1 f hf).1 (.inl (np f hf)) c (cs c hc),λhq c hc z=>(hs.1 f hf).2 (.inl ?_) c hc (hsub c z)⟩,hs.2⟩
  cases m <;> first | rfl | cases ho
 ·rcases Ai.mp hf with rfl | hf
  ·exact λc hc=>h.new _ Ab c (cs c hc)
  ·exact h.new f (Ah _ hf)
 ·rw[En (Fm q n0)]
  exact h.same b o nx q
 ·rw[En (Fm q n0)]
  exact h.dom b o q
 ·obtain ⟨z,c,k,f,h1,h2⟩:=h.xd b hb
  refine ⟨z,c,k,f,(En ?_).trans h1,h2⟩
  rintro rfl
  exact z n0
end
theorem Gv{α:Type}:∀{l:List α} {i:Nat} {x:α},l[i]? = some x->l.Perm (x::l.eraseIdx i)
 | [],i,x,h=>by simp at h
 | z::l,0,x,h=>by
  simp at h
  subst h
  exact Nz _
 | z::l,i+1,x,h=>by
  have ih:=Gv (l:=l) (i:=i) (x:=x) (by simpa using h)
  rw[List.eraseIdx_cons_succ]
  exact (ih.cons z).trans (Jm x z _)
theorem Wk{α:Type}{l:List α}{i:Nat}{x y:α}(h:l[i]? = some x):(l.set i y).Perm (y::l.eraseIdx i):=by
 have hlt:=(Av.mp h).1
 have q:=Gv (l:=l.set i y) (i:=i) (x:=y) (by rw[Lz]; simp [hlt])
 rw[List.eraseIdx_set_eq] at q
 exact q
theorem oH{K:PySem.W.Frag}{H0 H:Hp}{X:Addr->Prop}{S T:List Ent}{δ:DS}{i:Nat}{m:Md}{ds es:List Ac}(hS:Sl S δ)(hT:∀e∈T,Mv e.x=false)(hA:At K H0 X δ.n (S++T) H)(hi:δ.sl[i]? = some (.dat m (.list ds)))(ho:own1 m=true)(np:npk δ.sl=true):∃a xs G,(vs S)[i]? = some (some (.ref a))/\H a=some (.lst xs)/\RdFs K H xs ds G/\ds.length<=Bd/\∀ys G',RdFs K H ys es G'->G'.Sublist G->es.length<=Bd->∃S',vs S'=vs S/\Sl S' ⟨δ.sl.set i (.dat m (.list es)),δ.n⟩/\At K H0 X δ.n (S'++T) (upd H a (.lst ys)):=by
 obtain ⟨ent,e2,e3⟩:=Jh hS hi
 have hm:ent∈S:=Bg e2
 obtain ⟨u,x,F⟩:=ent
 have e3':x=.dat m (.list ds):=e3
 subst e3'
 obtain ⟨v,hv,rd,_⟩:=hA.ok _ (Ap _ hm)
 obtain ⟨a,xs,G,rfl,ha,ra,eF,hz⟩:=rd.list_inv
 have eF':F=a::G:=eF
 subst eF'
 refine ⟨a,xs,G,by rw[My e2]; exact congrArg some hv,ha,ra,hz,λys G' r hG hz'=>?_⟩
 have hn:=gG hS np
 have pm:(S++T).Perm (⟨u,.dat m (.list ds),a::G⟩::(S.eraseIdx i++T)):=by
  exact (Gv e2).append_right T
 have h1:=(hA.perm pm).write (es:=es) (ys:=ys) ho hv (λe he=>?_) r hG hz'
 ·refine ⟨S.set i ⟨u,.dat m (.list es),a::G'⟩,?_,?_,h1.perm ?_⟩
  ·unfold vs
   rw[Hs]
   apply Mb
   intro j
   rw[Lz]
   split
   ·rename_i hij
    subst hij
    rw[Cc,e2]
    split
    ·rfl
    ·rename_i hj
     rw[Ad] at hj
     exact absurd (Av.mp e2).1 hj
   ·rfl
  ·unfold Sl at hS ⊢
   rw[Hs,hS]
  ·exact ((Wk e2).append_right T).symm
 ·rcases Ay.mp he with he | he
  ·exact hn e ((Th S i).subset he)
  ·exact hT e he
def iJ(i:Nat)(de:DE):DB:=λD δ=>match δ.sl[i]? with
 | some (.dat _ (.list _))=>de δ λy δ1=>match δ1.sl[i]?,y with
  | some (.dat m (.list ds)),.dat _ e=>own1 m=true/\npk δ1.sl=true/\imm e=true/\ds.length<1000000/\D.nx ⟨δ1.sl.set i (.dat m (.list (ds++[e]))),δ1.n⟩
  | _,_=>False
 | _=>False
section
variable{X:Cx}{o e:Expr}{de:DE}{apos cpos pos:Pos}{i:Nat}
theorem dF(ho:PE X o (cJ i))(he:Em X e de)(hbase:bR o "append" X.env (eval o X.env)=eval o X.env:=by rfl)
  (hfew:((Kl cpos (Bz [e] X.env)).all (λx=>!x.1) && (backToKw cpos (keywordEach [] X.env)).all (λx=>x.1.isSome)
   && decide (([e]:List Expr).length+([]:List Ym).length+(if ([]:List Ym).isEmpty then 0 else 1)<30))=true:=by rfl)
  (hline:(apos.endLine == cpos.line)=true:=by rfl) (hs:Bz [e] X.env=(false,eval e X.env)::Bz [] X.env:=by rfl) (hplain:(Kl cpos (Bz [] X.env)).any (·.1)=false:=by rfl)
  (hsw:Mr (.Call (.Attribute o "append" apos) [e] [] cpos) none pos.line X.env=pure false:=by rfl) :
  mF X (.Expr (.Call (.Attribute o "append" apos) [e] [] cpos) pos) (iJ i de):=by
 refine PS.impD (pM (uQ PySem.F.plainAttrs_list PySem.F.slot_list_append PySem.F.type_list_append Sg ho (Hu he Pj hs) hbase hfew hline hs hplain) hsw) λD σ H h=>?_
 obtain ⟨H0,Y,S,T,δ,P,rfl,hS,hT,hA,hd,k1,k2,k3,k4⟩:=h
 unfold iJ at hd
 split at hd
 case h_2=>exact hd.elim
 rename_i m0 ds0 hsl
 obtain ⟨ent,e2,e3⟩:=Jh hS hsl
 have hm:ent∈S:=Bg e2
 obtain ⟨u,x,F⟩:=ent
 have e3':x=.dat m0 (.list ds0):=e3
 subst e3'
 obtain ⟨v,hv,rd,_⟩:=hA.ok _ (Ap _ hm)
 obtain ⟨a,xs,G,rfl,ha,ra,eF,hz⟩:=rd.list_inv
 refine ⟨.ref a,by rw[My e2]; exact congrArg some hv,.inl ⟨rfl,xs,Tq.of ha⟩,H0,Y,S,T,δ,_,rfl,hS,hA,hd,λy δ1 w F1 S1 H1 e4 e5 hA1 p1=>?_⟩
 split at p1
 ·rename_i m ds m' e' hsl1
  obtain ⟨p1,p2,p3,p4,p5⟩:=p1
  have r:=hA1.told mem_mid
  obtain rfl:=r.imm p3
  obtain ⟨b,xs1,G1,g1,g2,g3,g4,g5⟩:=oH (es:=ds++[e']) e5 hT hA1.drop hsl1 p1 p2
  rw[e4,My e2] at g1
  have : some (V.ref b)=some (V.ref a):=(Ce g1).symm.trans hv
  cases this
  obtain ⟨S2,h1,h2,h3⟩:=g5 (xs1++[w]) (G1++[]) (g3.snoc r) (by rw[Ec]; exact Ds _) (by rw[Az]; exact fP (by simp; omega))
  have hl:=g3.len
  refine ⟨a,xs1,w,rfl,rfl,g2,Ca (by omega) (fP (n:=1000000) (An _)),?_⟩
  rw[<- e4,<- h1]
  exact k1 ⟨_,_⟩ S2 _ h2 h3 p5
 ·exact p1.elim
end
def FT(i:Nat)(dk de:DE):DB:=λD δ=>de δ λy δ1=>match δ1.sl[i]? with
 | some (.dat _ (.list _))=>dk δ1 λz δ2=>match δ2.sl[i]?,y,z with
  | some (.dat m (.list ds)),.dat _ e,.dat _ (.int k)=>own1 m=true/\npk δ2.sl=true/\imm e=true/\Du ds=true/\∃j,rK ds.length k=some j/\D.nx ⟨δ2.sl.set i (.dat m (.list (ds.set j e))),δ2.n⟩
  | _,_,_=>False
 | _=>False
def j7(i:Nat)(rd:D2)(de:DE):DB:=λD δ=>match δ.sl[i]? with
 | some (.dat _ (.int a))=>de δ λy δ1=>rd (.dat .ow (.int a)) y λz=>match z with
  | .dat _ d=>imm d=true/\D.nx ⟨δ1.sl.set i (.dat .sh d),δ1.n⟩
  | _=>False
 | _=>False
section
variable{X:Cx}{x:Str}{e:Expr}{de:DE}{pos pos':Pos}{i:Nat}
theorem rB{op:Operator}{g:Int->Int->Int}(hN:X.N.Nodup)(hi:X.N[i]? = some x)(hx:Loc X.env.scope x)(he:Em X e de)(ho:CS X op (EE g))(hf:X.fn x=true\/X.env.scope.names.lookup x=some .local:=by first | exact .inl rfl | exact .inr rfl | assumption):mF X (.AugAssign (.Name x pos') op e pos) (j7 i (Zu λa b=>.int (g a b)) de):=by
 refine PS.impD (U4 hN hi hx he ho hf) λD σ H h=>?_
 obtain ⟨H0,Y,S,T,δ,P,rfl,hS,hT,hA,hd,k1,k2,k3,k4⟩:=h
 unfold j7 at hd
 split at hd
 case h_2=>exact hd.elim
 rename_i m0 a hsl
 obtain ⟨ent,e2,e3⟩:=Jh hS hsl
 have hm:ent∈S:=Bg e2
 obtain ⟨u,x,F⟩:=ent
 have e3':x=.dat m0 (.int a):=e3
 subst e3'
 obtain ⟨v,hv,rd,_⟩:=hA.ok _ (Ap _ hm)
 obtain ⟨rfl,_⟩:=rd.int_inv
 refine ⟨.int a,by rw[My e2]; exact congrArg some hv,H0,Y,S,T,δ,_,rfl,hS,hA,hd,λy δ1 w F1 S1 H1 e4 e5 hA1 p1=>?_⟩
 unfold Zu at p1
 split at p1
 ·rename_i a' b' ea
  cases ea
  obtain ⟨rfl,_⟩:=(hA1.told mem_mid).int_inv
  refine ⟨a,_,rfl,rfl,?_⟩
  show D.nx ((vs S).set i (some (V.int (g a _)))) H1
  rw[<- e4,<- oM (x:=.dat .sh (.int (g a _))) (F:=[])]
  exact k1 ⟨_,_⟩ _ H1 (mY e5) ((hA1.drop.pushI (.int _)).store) p1.2
 ·exact p1.elim
theorem r9(hN:X.N.Nodup)(hi:X.N[i]? = some x)(hx:Loc X.env.scope x)(he:Em X e de)(hf:X.fn x=true\/X.env.scope.names.lookup x=some .local:=by first | exact .inl rfl | exact .inr rfl | assumption):mF X (.AugAssign (.Name x pos') .Add e pos) (j7 i rdAdd de):=rB hN hi hx he M3 hf
end
def spLawD(K:PySem.W.Frag):Sp:=λus H Q _=>∃(a:Addr) (ns:List Int),us=[.ref a]/\KL K H a (ns.map V.int)/\ns.length<=63/\∀H',Q (.bl true) H'
def retL:DEnds where
 nx:=λ_=>False
 rt:=λx _=>∃m,x=.dat m (.bool true)
section
variable{P:Bs}{w:World}{K:PySem.W.Frag}{mg:Str->Option Value}{base:Heap}
theorem P2{x qual p0:Str}{st:Stmt}{f:Addr}{fd:Cg}{N:List Str}{k:Nat}{db:DB}(F:Fun K x qual st f fd)(S:FnScope N [p0] (Bo st))(hb:∀(cdv:Value) (A:Dj) (outer:List Env) (s:Al) (H:Hp) (E:XK),Room k (A.deeper (Pn qual (Bo st) s.heap.objs.size f cdv))->Wg (Lq Fw P w K mg base N qual (Bo st) f cdv A outer s H E).nox (Jg st) db)(h:∀ns:List Int,ns.length<=63->db retL ⟨.scr ns::Cm (N.length - 1) .un,0⟩):FnOk P w K mg base Fw (k+1) f fd [p0] (spLawD K):=by
 refine F.ok S (λvs H Q E z=>?_) λcdv A outer s H us Q E hr z=>?_
 ·obtain ⟨a,ns,rfl,_⟩:=z
  rfl
 ·obtain ⟨a,ns,rfl,hK,h63,k1⟩:=z
  refine ⟨_,hb cdv A outer s H E hr,H,λ_=>False,⟨some (.ref a),.scr ns,[]⟩::Gr (N.length - 1),[],⟨.scr ns::Cm (N.length - 1) .un,0⟩,retL,?_,?_,λ_ z=>(nomatch z),?_,h ns h63,λδ' S' H' e1 hA p=>p.elim,λx δ' v F' S' H' e1 hA p=>?_,λ_ _ _ _ _ p=>p.elim,λ_ _ _ _ _ p=>p.elim⟩
  ·unfold vs L2.start Gr
   rw[Bb,Me]
   rfl
  ·unfold Sl Gr
   rw[Bb,Me]
  ·rw[Ec]
   have hc:∀e∈(⟨some (.ref a),.scr ns,[]⟩::Gr (N.length - 1):List Ent),cells e=[]:=λe he=>by
    rcases Ai.mp he with rfl | he
    ·rfl
    ·rw[(Hh.mp he).2]
     rfl
   refine ⟨λe he=>?_,Pq λa ha b hb'=>⟨λhq c z=>?_,λhq c z=>?_⟩,λe he a ha=>?_,λb o _ e=>e,λb o e=>⟨o,e⟩,λb hb=>hb.elim⟩
   ·rcases Ai.mp he with rfl | he
    ·exact ⟨a,rfl,rfl,hK,h63⟩
    ·rw[(Hh.mp he).2]
     exact (rfl:([]:List Addr)=[])
   ·rw[hc a ha] at z; cases z
   ·rw[hc b hb'] at z; cases z
   ·rw[hc e he] at ha; cases ha
  ·obtain ⟨m,rfl⟩:=p
   rw[show S'++[(⟨some v,.dat m (.bool true),F'⟩ : Ent)]=S'++⟨some v,.dat m (.bool true),F'⟩::[] from rfl] at hA
   obtain ⟨rfl,_⟩:=(hA.told mem_mid).bl_inv
   exact k1 H'
end
def mL(i:Nat)(dl dh:DO):DE:=λδ P=>match δ.sl[i]? with
 | some (.scr ns)=>dl δ λl δ2=>dh δ2 λh δ3=>P (.dat .ow (.list ((Ic ns l h).map Ax))) δ3
 | _=>False
section
variable{X:Cx}{e b:Expr}{de:DE}{lo hi:Option Expr}{dl dh:DO}{pos p2:Pos}{i:Nat}
theorem P1{K:PySem.W.Frag}{H0 H:Hp}{Y:Addr->Prop}{S T:List Ent}{δ:DS}{ns:List Int}(hS:Sl S δ)(hA:At K H0 Y δ.n (S++T) H)(hi:δ.sl[i]? = some (.scr ns)):∃a,(vs S)[i]? = some (some (.ref a))/\(⟨some (.ref a),.scr ns,[]⟩ : Ent)∈S/\KL K H a (ns.map V.int)/\ns.length<=63:=by
 obtain ⟨ent,e2,e3⟩:=Jh hS hi
 have hm:ent∈S:=Bg e2
 obtain ⟨u,x,F⟩:=ent
 have e3':x=.scr ns:=e3
 subst e3'
 obtain ⟨a,h1,h2,h3⟩:=hA.ok _ (Ap _ hm)
 have h1':u=some (.ref a):=h1
 have h2':F=[]:=h2
 subst h1' h2'
 exact ⟨a,by rw[My e2],hm,h3⟩
theorem wU(he:PE X e (cJ i))(hl:W9 X lo dl)(hh:W9 X hi dh):Em X (.Subscript e (.Slice lo hi none p2) pos) (mL i dl dh):=by
 refine PE.imp (iU (r:=T2 X.K) r6 he hl hh) λσ H Q h=>?_
 obtain ⟨H0,Y,S,T,δ,P,rfl,hS,hA,hd,k⟩:=h
 unfold mL at hd
 split at hd
 case h_2=>exact hd.elim
 rename_i ns hsl
 obtain ⟨a,ha,hm,hK,h63⟩:=P1 hS hA hsl
 have hA0:At X.K H0 Y δ.n (S++⟨some (.ref a),.scr ns,[]⟩::T) H:=(At.view1 hA (Ap _ hm)).tomid
 refine ⟨.ref a,ha,H0,Y,S,⟨some (.ref a),.scr ns,[]⟩::T,δ,_,rfl,hS,hA0,hd,λl δ2 S2 H2 e3 e4 hA2 p2=>?_⟩
 refine ⟨H0,Y,S2,⟨some (.ref a),.scr ns,[]⟩::T,δ2,_,e3,e4,hA2,p2,λh δ3 S3 H3 e5 e6 hA3 p3=>?_⟩
 obtain ⟨a',h1,_,hK3,_⟩:=hA3.ok _ mem_mid
 cases h1
 refine ⟨a,_,rfl,hK3.sq,λp hp=>?_⟩
 have : aZ (ns.map V.int) l h=(Ic ns l h).map V.int:=by
  rw[<- jT]; rfl
 rw[this]
 refine k _ δ3 _ _ S3 _ e5 e6 (hA3.drop.newI (RdFs.ints _) (Mn _) ?_ hp .ow) p3
 rw[Ad]
 have l1:=(Oe ns l h).length_le
 exact sz (by omega)
end
theorem zV{X:Cx}{c:Expr}{body:List Stmt}{dt:DT}{db:DB}{pos:Pos}(hp:PassesOwn (model X.prog X.w) X.A X.env X.xe)(hc:cU X c dt)(hb:Wg X body db):mF X (.While c body [] pos) (xO dt db):=by
 refine PS.impD (xH hp hc hb) λD σ H h=>?_
 obtain ⟨H0,Y,S,T,δ,P,rfl,hS,hT,hA,hd,k1,k2,k3,k4⟩:=h
 obtain ⟨I,μ,h0,hs⟩:=hd
 refine ⟨λq σ H=>∃S δ,vs S=σ/\Sl S δ/\At X.K H0 Y δ.n (S++T) H/\I δ/\q=μ δ,⟨_,S,δ,rfl,hS,hA,h0,rfl⟩,?_⟩
 (intro q σ H q_; obtain ⟨S1,δ1,rfl,e1,hA1,hI,rfl⟩ := q_)
 refine ⟨H0,Y,S1,T,δ1,_,rfl,e1,hA1,hs δ1 hI,λb δ2 S2 H2 e2 e3 hA2 p2=>?_⟩
 cases b with
 | true =>
  refine ⟨λσ' H'=>∃S δ,vs S=σ'/\Sl S δ/\At X.K H0 Y δ.n (S++T) H'/\I δ/\μ δ<μ δ1,λσ' H' ⟨S,δ,z1,z2,z3,z4,z5⟩=>⟨_,z5,S,δ,z1,z2,z3,z4,rfl⟩,?_⟩
  exact ⟨H0,Y,S2,T,δ2,_,e2,e3,hT,hA2,p2,λδ4 S4 H4 e5 hA4 p4=>⟨S4,δ4,rfl,e5,hA4,p4⟩,k2,λδ4 S4 H4 e5 hA4 p4=>k1 δ4 S4 H4 e5 hA4 p4,λδ4 S4 H4 e5 hA4 p4=>⟨S4,δ4,rfl,e5,hA4,p4⟩⟩
 | false =>
  rw[<- e2]
  exact k1 δ2 S2 H2 e3 hA2 p2
def BY(i j:Int):Prop:=0<=j/\(Builtin.Int.intBits i:Int) * j<=2 ^ 27
theorem x5{X:Cx}:Uw X (Kc .Pow) (rI BY λi j=>.int (i ^ j.toNat)):=BM λ_ _ _ _ _ _ _ hc q=>pow_int hc.1 hc.2 q
def Rp:DF:=λds n R=>ds=[]/\n<=100000/\∀r:Int,R (.int r) (n+1)
theorem x6{P:Bs}{w:World}{K:PySem.W.Frag}{mg:Str->Option Value}{base:Heap}{k:Nat}{f:Addr}{fd:Cg}{ps:List Str}(F:FnOk P w K mg base Fw k f fd ps vC):FnOk P w K mg base Fw k f fd ps (bU K Rp):=by
 refine F.imp λus H Q E h=>?_
 obtain ⟨dr,ws,As,n,ds,R,rfl,eu,ok,nd,⟨c,kk,fl,hdr,h0,h1⟩,q,hp,k1⟩:=h
 obtain ⟨rfl,hn,hR⟩:=hp
 have hAs:As=[]:=by
  have:=Iu q
  rw[Ad] at this
  exact Eo.mp this
 subst hAs
 have hws:ws=[]:=by
  cases ws with
  | nil=>rfl
  | cons _ _=>cases eu
 subst hws
 refine ⟨dr,c,kk,fl,rfl,hdr,h0,by omega,λr c' H' hd' s=>?_⟩
 exact k1 (.int r) (.int r) [] (n+1) H' (by omega) (hR r) (.int r) Cv (λ_ z=>(nomatch z)) ⟨c',kk+1,fl,hd',by omega,by omega⟩ s
theorem Kw{ns:List Int}(r:Fd 60 ns):ns.length<=60:=By (NdS.len_leI (r.1.imp λ{x y} h=>Int.ne_of_lt h) λe he=>Yy (r.2 e he).1 (r.2 e he).2) (by decide)
def Z3{α:Type}(xs:List α)(k:Nat)(y:α):List α:=xs.take k++y::xs.drop k
def mmd:Md->Md->Md
 | .ow,.ow=>.ow
 | _,_=>.tp
section
variable{K:PySem.W.Frag}{H0 H:Hp}{X:Addr->Prop}{n:Nat}{E:List Ent}
theorem At.merge{v:Option V}{w:V}{m my:Md}{ds es:List Ac}{e:Ac}{a:Addr}{F Fy G:List Addr}{ys:List V}(h:At K H0 X n (⟨v,.dat m (.list ds),a::F⟩::⟨some w,.dat my e,Fy⟩::E) H)(ho:own1 m=true)(hy:my≠.pk)(hv:v=some (.ref a))(np:∀e∈E,Mv e.x=false)(r:RdFs K H ys es G)(hG:∀c∈G,c∈F\/c∈Fy)(hnd:(F++Fy).Nodup->G.Nodup)(hz:es.length<=Bd):At K H0 X n (⟨v,.dat (mmd m my) (.list es),a::G⟩::E) (upd H a (.lst ys)):=by
 obtain ⟨w1,e1,rd,hn,ht⟩:=h.ok _ Ab
 obtain ⟨w2,e2',rdy,hny,hty⟩:=h.ok _ (Ah _ Ab)
 obtain ⟨b,xs,G0,e2,ha,ra,eF,_⟩:=rd.list_inv
 have eF':a::F=b::G0:=eF
 cases eF'
 have hs:=Ba.mp h.sep
 have hs2:=Ba.mp hs.2
 have s12:=hs.1 _ Ab
 have pk2:Mv (DV.dat my e)=false:=by cases my <;> first | rfl | exact absurd rfl hy
 have pk1:Mv (DV.dat m (.list ds))=false:=by cases m <;> first | rfl | cases ho
 have naF:a∉F:=by
  cases m with
  | ow=>exact (Bt.mp (hn rfl)).1
  | tp=>exact ht rfl a F rfl
  | sh=>cases ho
  | pk=>cases ho
 have ca:a∈cells ⟨v,.dat m (.list ds),a::F⟩:=by
  cases m <;> first | exact Ab | cases ho
 have naY:a∉Fy:=s12.1 (.inl pk2) a ca
 have naG:a∉G:=λz=>(hG a z).elim naF naY
 have kp:∀{F':List Addr},a∉F'->Kp F' H (upd H a (.lst ys)):=λ{F'} hF b o q z=>by
  have : b≠a:=by
   rintro rfl
   rw[ha] at q
   cases q
   rcases z with z | z
   ·exact hF z
   ·rcases z with ⟨_,z⟩ | ⟨_,_,z⟩ <;> cases z
  rw[En this]
  exact q
 have n0:H0 a=none:=by
  rcases h.new _ Ab a ca with z | z
  ·exact z
  ·cases z.2
 have cs:∀c∈cells ⟨v,.dat (mmd m my) (.list es),a::G⟩,c∈cells ⟨v,.dat m (.list ds),a::F⟩\/c∈cells ⟨some w,.dat my e,Fy⟩:=λc hc=>by
  by_cases hm:m=.ow/\my=.ow
  ·obtain ⟨rfl,rfl⟩:=hm
   rcases Ai.mp (show c∈a::G from hc) with z | z
   ·rw[z]; exact .inl ca
   ·rcases hG c z with z | z
    ·exact .inl (Ah _ z)
    ·exact .inr z
  ·have hc':c∈[a]:=by
    cases m <;> cases my <;> first | exact hc | exact absurd ⟨rfl,rfl⟩ hm
   rw[Ag.mp hc']; exact .inl ca
 refine ⟨λf hf=>?_,?_,λf hf=>?_,λb o nx q=>?_,λb o q=>?_,λb hb=>?_⟩
 ·rcases Ai.mp hf with rfl | hf
  ·refine ⟨.ref a,hv,.lst Dt hz (r.kp (kp naG)),λz=>?_,λz c l e=>?_⟩
   ·have hm:m=.ow/\my=.ow:=by
     cases m <;> cases my <;> first | exact ⟨rfl,rfl⟩ | cases z
    obtain ⟨rfl,rfl⟩:=hm
    refine Bt.mpr ⟨naG,hnd (Fq.mpr ⟨(Bt.mp (hn rfl)).2,hny rfl,λx hx y hy' e=>?_⟩)⟩
    subst e
    exact s12.1 (.inl pk2) x (Ah _ hx) hy'
   ·cases e
    exact naG
  ·have f1:=Ah (⟨some w,.dat my e,Fy⟩ : Ent) hf
   exact (h.ok f (Ah _ f1)).kp (kp ((hs.1 f f1).1 (.inl (np f hf)) a ca)) (An _)
 ·refine Ba.mpr ⟨λf hf=>?_,hs2.2⟩
  have f1:=Ah (⟨some w,.dat my e,Fy⟩ : Ent) hf
  refine ⟨λhq c hc=>?_,λhq c hc z=>?_⟩
  ·rcases cs c hc with z | z
   ·exact (hs.1 f f1).1 (.inl (np f hf)) c z
   ·exact (hs2.1 f hf).1 (.inl (np f hf)) c z
  ·rcases Ai.mp z with z | z
   ·exact (hs.1 f f1).2 (.inl pk1) c hc (by rw[z]; exact Ab)
   ·rcases hG c z with z | z
    ·exact (hs.1 f f1).2 (.inl pk1) c hc (Ah _ z)
    ·exact (hs2.1 f hf).2 (.inl pk2) c hc z
 ·rcases Ai.mp hf with rfl | hf
  ·intro c hc
   rcases cs c hc with z | z
   ·rcases h.new _ Ab c z with z | z
    ·exact .inl z
    ·cases z.2
   ·rcases h.new _ (Ah _ Ab) c z with z | z
    ·exact .inl z
    ·cases z.2
  ·exact h.new f (Ah _ (Ah _ hf))
 ·rw[En (Fm q n0)]
  exact h.same b o nx q
 ·rw[En (Fm q n0)]
  exact h.dom b o q
 ·obtain ⟨z,c,k,f,h1,h2⟩:=h.xd b hb
  refine ⟨z,c,k,f,(En ?_).trans h1,h2⟩
  rintro rfl
  exact z n0
end
theorem nZ{K:PySem.W.Frag}{H0 H:Hp}{X:Addr->Prop}{S T:List Ent}{δ:DS}{i:Nat}{m my:Md}{ds:List Ac}{e:Ac}{w:V}{Fy:List Addr}(hS:Sl S δ)(hT:∀e∈T,Mv e.x=false)(hA:At K H0 X δ.n (S++⟨some w,.dat my e,Fy⟩::T) H)(hi:δ.sl[i]? = some (.dat m (.list ds)))(ho:own1 m=true)(hy:my≠.pk)(np:npk δ.sl=true)(hl:ds.length<1000000):∃a xs,(vs S)[i]? = some (some (.ref a))/\H a=some (.lst xs)/\xs.length=ds.length/\∃S',vs S'=vs S/\Sl S' ⟨δ.sl.set i (.dat (mmd m my) (.list (ds++[e]))),δ.n⟩/\At K H0 X δ.n (S'++T) (upd H a (.lst (xs++[w]))):=by
 obtain ⟨ent,e2,e3⟩:=Jh hS hi
 have hm:ent∈S:=Bg e2
 obtain ⟨u,x,F⟩:=ent
 have e3':x=.dat m (.list ds):=e3
 subst e3'
 obtain ⟨v,hv,rd,_⟩:=hA.ok _ (Ap _ hm)
 obtain ⟨a,xs,G,rfl,ha,ra,eF,hz⟩:=rd.list_inv
 have eF':F=a::G:=eF
 subst eF'
 have rw_:=hA.told mem_mid
 refine ⟨a,xs,by rw[My e2]; exact congrArg some hv,ha,ra.len,?_⟩
 have hn:=gG hS np
 have pm:(S++⟨some w,.dat my e,Fy⟩::T).Perm (⟨u,.dat m (.list ds),a::G⟩::⟨some w,.dat my e,Fy⟩::(S.eraseIdx i++T)):=by
  refine ((Gv e2).append_right _).trans ?_
  rw[Io]
  exact Ra _ Qw
 have h1:=(hA.perm pm).merge (es:=ds++[e]) (ys:=xs++[w]) (G:=G++Fy) ho hy hv (λf hf=>?_) (ra.snoc rw_) (λc hc=>Ay.mp hc) (λz=>z) (by rw[Az]; exact fP (by simp; omega))
 ·refine ⟨S.set i ⟨u,.dat (mmd m my) (.list (ds++[e])),a::(G++Fy)⟩,?_,?_,h1.perm ?_⟩
  ·unfold vs
   rw[Hs]
   apply Mb
   intro j
   rw[Lz]
   split
   ·rename_i hij
    subst hij
    rw[Cc,e2]
    split
    ·rfl
    ·rename_i hj
     rw[Ad] at hj
     exact absurd (Av.mp e2).1 hj
   ·rfl
  ·unfold Sl at hS ⊢
   rw[Hs,hS]
  ·exact ((Wk e2).append_right T).symm
 ·rcases Ay.mp hf with hf | hf
  ·exact hn f ((Th S i).subset hf)
  ·exact hT f hf
def appOB(i:Nat)(y:DV)(δ:DS)(D:DEnds):Prop:=match δ.sl[i]?,y with
 | some (.dat m (.list ds)),.dat my e=>own1 m=true/\npk δ.sl=true/\my≠.pk/\ds.length<1000000/\D.nx ⟨δ.sl.set i (.dat (mmd m my) (.list (ds++[e]))),δ.n⟩
 | _,_=>False
def aC(i:Nat)(de:DE):DB:=λD δ=>match δ.sl[i]? with
 | some (.dat _ (.list _))=>de δ λy δ1=>appOB i y δ1 D
 | _=>False
section
variable{X:Cx}{o e:Expr}{de:DE}{apos cpos pos:Pos}{i:Nat}
theorem aO(ho:PE X o (cJ i))(he:Em X e de)(hbase:bR o "append" X.env (eval o X.env)=eval o X.env:=by rfl)
  (hfew:((Kl cpos (Bz [e] X.env)).all (λx=>!x.1) && (backToKw cpos (keywordEach [] X.env)).all (λx=>x.1.isSome)
   && decide (([e]:List Expr).length+([]:List Ym).length+(if ([]:List Ym).isEmpty then 0 else 1)<30))=true:=by rfl)
  (hline:(apos.endLine == cpos.line)=true:=by rfl) (hs:Bz [e] X.env=(false,eval e X.env)::Bz [] X.env:=by rfl) (hplain:(Kl cpos (Bz [] X.env)).any (·.1)=false:=by rfl)
  (hsw:Mr (.Call (.Attribute o "append" apos) [e] [] cpos) none pos.line X.env=pure false:=by rfl) :
  mF X (.Expr (.Call (.Attribute o "append" apos) [e] [] cpos) pos) (aC i de):=by
 refine PS.impD (pM (uQ PySem.F.plainAttrs_list PySem.F.slot_list_append PySem.F.type_list_append Sg ho (Hu he Pj hs) hbase hfew hline hs hplain) hsw) λD σ H h=>?_
 obtain ⟨H0,Y,S,T,δ,P,rfl,hS,hT,hA,hd,k1,k2,k3,k4⟩:=h
 unfold aC at hd
 split at hd
 case h_2=>exact hd.elim
 rename_i m0 ds0 hsl
 obtain ⟨ent,e2,e3⟩:=Jh hS hsl
 have hm:ent∈S:=Bg e2
 obtain ⟨u,x,F⟩:=ent
 have e3':x=.dat m0 (.list ds0):=e3
 subst e3'
 obtain ⟨v,hv,rd,_⟩:=hA.ok _ (Ap _ hm)
 obtain ⟨a,xs,G,rfl,ha,ra,eF,hz⟩:=rd.list_inv
 refine ⟨.ref a,by rw[My e2]; exact congrArg some hv,.inl ⟨rfl,xs,Tq.of ha⟩,H0,Y,S,T,δ,_,rfl,hS,hA,hd,λy δ1 w F1 S1 H1 e4 e5 hA1 p1=>?_⟩
 unfold appOB at p1
 split at p1
 ·rename_i m ds my e' hsl1
  obtain ⟨p1,p2,p3,p4,p5⟩:=p1
  obtain ⟨b,xs1,g1,g2,g3,S2,h1,h2,h3⟩:=nZ e5 hT hA1 hsl1 p1 p3 p2 p4
  rw[e4,My e2] at g1
  have : some (V.ref b)=some (V.ref a):=(Ce g1).symm.trans hv
  cases this
  refine ⟨a,xs1,w,rfl,rfl,g2,Ca (by omega) (fP (n:=1000000) (An _)),?_⟩
  rw[<- e4,<- h1]
  exact k1 ⟨_,_⟩ S2 _ h2 h3 p5
 ·exact p1.elim
end
end DL
namespace Nd
open PySem PySem.Spec PyProof.Rows L2
end Nd
namespace DL
open PySem PySem.Spec PyProof.Rows L2 Nd
section
variable{X:Cx}
theorem uW(xs:Array Value):slicePick xs none none (some 1)=xs:=slicePick_all xs
theorem g0{e k:Expr}{te tk:TE}{pos p2:Pos}(he:PE X e te)(hk:PE X k tk):PE X (.Subscript e (.Slice none none (some k) p2) pos) (λσ H Q=>te σ H λx H1=>tk σ H1 λy H2=>∃a xs k,x=.ref a/\y=.int k/\Tq X.K H2 a xs/\(k=1\/k = -1)/\∀p,H2 p=none->Q (.ref p) (upd H2 p (.lst (if k=1 then xs else xs.reverse)))):=by
 intro pins s σ H Q I h
 refine cA (Hn (he pins s σ H _ I h) λv s1 q0_ => ?_)
 obtain ⟨x,H1,I1,r1,hq1⟩ := q0_
 refine wpAny_Slice ?_
 rw[bQ]
 refine Ak (Ak ?_)
 rw[evalPart_some]
 refine Hn (hk pins s1 σ H1 _ I1 hq1) λvk s2 q0_ => ?_
 obtain ⟨y,H2,I2,r2,a,xs,kk,e1,e2,hx,hk1,q⟩ := q0_
 subst e1 e2
 cases r1
 obtain ⟨t,rfl⟩:=r2
 have I3:Inv X pins σ H2 { s2 with heap:=s2.heap.push { cls:=.type "slice",data:=.fields #[.none,.none,.int kk t] } }:=I2.kept (t':=s2.toks) λb ob q=>Am _ q
 obtain ⟨its,r,ht,hz⟩:=I3.list hx
 have hlen:=r.length
 show wpAny (model X.prog X.w) X.A (Sx e (.Slice none none (some k) p2) (.ref a) (.ref s2.heap.objs.size)) (EP X pins σ Q) X.xe { s2 with heap:=s2.heap.push { cls:=.type "slice",data:=.fields #[.none,.none,.int kk t] } }
 refine tail_any (ops:=[.ref a,.ref s2.heap.objs.size]) (T := "list") ht.isList.typeIs fF.lookup (uI ht.isList (Heap.IsSliceOf.new ..) .none .none (.int kk t) (by rcases hk1 with rfl | rfl <;> simp) ?_ (by rw[Aq] <;> omega)) (by with_unfolding_all rfl)
 rcases hk1 with rfl | rfl
 ·rw[uW]
  rw[if_pos rfl] at q
  exact ⟨.ref _,_,I3.laid (o:=.lst xs) (t':=s2.toks) (λb ob q=>Am _ q) (An _) ⟨hz,its,0,r,by
   have z:=Bl (s2.heap.push { cls:=.type "slice",data:=.fields #[.none,.none,.int 1 t] }) (o:={ cls:=.type "list",data:=.seq its.toArray }) rfl
   simpa using z⟩,rfl,q _ (I3.hok.fresh (An _))⟩
 ·rw[i5]
  rw[if_neg (by decide)] at q
  exact ⟨.ref _,_,I3.laid (o:=.lst xs.reverse) (t':=s2.toks) (λb ob q=>Am _ q) (An _) ⟨by rw[Ez]; exact hz,its.reverse,0,r.reverse,by
   have z:=Bl (s2.heap.push { cls:=.type "slice",data:=.fields #[.none,.none,.int (-1) t] }) (o:={ cls:=.type "list",data:=.seq its.toArray.toList.reverse.toArray }) rfl
   simpa using z⟩,rfl,q _ (I3.hok.fresh (An _))⟩
end
section
variable{K:PySem.W.Frag}{H0 H:Hp}{X:Addr->Prop}{n:Nat}{S T:List Ent}{v w:V}{m:Md}{d e:Ac}{F G:List Addr}{p:Addr}{xs:List V}{ds:List Ac}{P:DV->Prop}{i:Bool}
theorem At.newLP(h:At K H0 X n (S++⟨some v,.dat m d,F⟩::T) H)(r:RdFs K H xs ds G)(hG:∀c∈G,c∈F)(hnd:F.Nodup->G.Nodup)(hz:ds.length<=Bd)(hp:H p=none)(q:Oy i m ds P):∃z F',At K H0 X n (S++⟨some (.ref p),z,F'⟩::T) (upd H p (.lst xs))/\P z:=by
 cases i with
 | true=>exact ⟨_,_,h.drop.newI r q.1 hz hp .ow,q.2⟩
 | false =>
  have q:P (.dat (Up m) (.list ds)):=q
  refine ⟨_,p::G,?_,q⟩
  have s1:=Ff hp (.lst xs)
  have h2:=h.mid
  have hs:=Ba.mp h2.sep
  obtain ⟨v',e1,_,hn,_⟩:=h2.ok _ Ab
  have h1:=h.drop.grow (n':=n) s1 (An _)
  have npF:p∉F:=h2.free hp _ Ab
  have npG:p∉G:=λz=>npF (hG _ z)
  have cs:∀a∈cells ⟨some (.ref p),.dat (Up m) (.list ds),p::G⟩,a=p\/(a∈cells ⟨some v,.dat m d,F⟩):=λa ha=>by
   cases m with
   | ow =>
    rcases Ai.mp ha with z | z
    ·exact .inl z
    ·exact .inr (hG _ z)
   | tp=>exact .inl (Ag.mp ha)
   | sh=>exact .inl (Ag.mp ha)
   | pk=>exact nomatch ha
  refine (h1.push (e:=⟨some (.ref p),.dat (Up m) (.list ds),p::G⟩) ⟨_,rfl,.lst Dt hz (r.kp (Kp.of s1)),λz=>?_,λz a l e=>?_⟩ (λf hf=>?_) λa ha=>?_).tomid
  ·cases m with
   | ow=>exact Bt.mpr ⟨npG,hnd (hn rfl)⟩
   | _=>cases z
  ·cases e
   exact npG
  ·have nf:=h2.free hp f (Ah _ hf)
   refine ⟨λhq a ha z=>?_,λhq a ha z=>?_⟩
   ·rcases cs a ha with rfl | hc
    ·exact nf z
    ·refine (hs.1 f hf).1 ?_ a hc z
     rcases hq with hq | hq
     ·exact .inl hq
     ·cases hq
   ·rcases Ai.mp z with rfl | z
    ·exact nf (Ex _ _ ha)
    ·refine (hs.1 f hf).2 ?_ a ha (hG _ z)
     rcases hq with hq | hq
     ·refine .inl ?_
      cases m <;> first | rfl | exact hq
     ·exact .inr hq
  ·rcases cs a ha with rfl | hc
   ·exact .inl (h2.new0 hp)
   ·rcases h2.new _ Ab a hc with z | z
    ·exact .inl z
    ·cases z.2
theorem RdFs.revP:∀{xs:List V} {ds:List Ac} {F:List Addr},RdFs K H xs ds F->∃G,RdFs K H xs.reverse ds.reverse G/\G.Perm F
 | _,_,_,.nil=>⟨[],.nil,.refl _⟩
 | _,_,_,.cons (x:=x) (d:=d) (F:=F1) (G:=F2) a t=>by
  obtain ⟨G,h1,h2⟩:=RdFs.revP t
  rw[Hr,Hr]
  exact ⟨G++F1,h1.snoc a,(h2.append_right F1).trans Js⟩
end
def gI(i:Bool)(x z:DV)(δ:DS)(P:DV->DS->Prop):Prop:=match x,z with
 | .dat m (.list ds),.dat _ (.int k)=>(k=1\/k = -1)/\Oy i m (if k=1 then ds else ds.reverse) λz=>P z δ
 | _,_=>False
def wC(i:Bool)(de dk:DE):DE:=λδ P=>de δ λx δ1=>dk δ1 λz δ2=>gI i x z δ2 P
section
variable{X:Cx}{e k:Expr}{de dk:DE}{pos p2:Pos}
theorem wA{i:Bool}(he:Em X e de)(hk:Em X k dk):Em X (.Subscript e (.Slice none none (some k) p2) pos) (wC i de dk):=by
 refine PE.imp (g0 he hk) λσ H Q h=>?_
 obtain ⟨H0,Y,S,T,δ,P,rfl,hS,hA,hd,kk⟩:=h
 refine ⟨H0,Y,S,T,δ,_,rfl,hS,hA,hd,λx δ1 v F S1 H1 e1 e2 hA1 p1=>?_⟩
 refine ⟨H0,Y,S1,⟨some v,x,F⟩::T,δ1,_,e1,e2,hA1,p1,λz δ2 v2 F2 S2 H2 e3 e4 hA2 p2=>?_⟩
 unfold gI at p2
 split at p2
 ·rename_i m ds mz kz
  obtain ⟨rfl,_⟩:=(hA2.told mem_mid).int_inv
  obtain ⟨a,xs,G,rfl,ha,ra,rfl,hz⟩:=(hA2.told Ek).list_inv
  refine ⟨a,xs,kz,rfl,rfl,Tq.of ha,p2.1,λp hp=>?_⟩
  have hA3:=hA2.drop
  rcases p2.1 with rfl | rfl
  ·rw[if_pos rfl]
   have q:=p2.2
   rw[if_pos rfl] at q
   obtain ⟨z,F',hA4,p4⟩:=hA3.newLP ra (λc hc=>Ah _ hc) (λz=>(Bt.mp z).2) hz hp q
   exact kk z δ2 _ F' S2 _ e3 e4 hA4 p4
  ·rw[if_neg (by decide)]
   have q:=p2.2
   rw[if_neg (by decide)] at q
   obtain ⟨G',h1,h2⟩:=ra.revP
   obtain ⟨z,F',hA4,p4⟩:=hA3.newLP h1 (λc hc=>Ah _ (h2.mem_iff.mp hc)) (λz=>h2.nodup_iff.mpr (Bt.mp z).2) (by rw[Ez]; exact hz) hp q
   exact kk z δ2 _ F' S2 _ e3 e4 hA4 p4
 ·exact p2.elim
end
def FW(n:Nat)(gs:uH):DG:=λx δ P=>match x with
 | .dat m (.list ds)=>ds.length=n/\gs (ds.map λd=>.dat (Mu m) d) δ P
 | _=>False
def Tz:D2:=λx y P=>match x,y with
 | .dat m (.list ds),.dat m' (.list es)=>m≠.pk/\m'≠.pk/\ds.length+es.length<=1000000/\P (.dat .tp (.list (ds++es)))
 | _,_=>False
theorem yV{m:Md}{d:Ac}(h:m≠.pk):Mv (.dat m d)=false:=by cases m <;> first | rfl | exact absurd rfl h
theorem o7{K:PySem.W.Frag}:gO K U9 Tz:=by
 intro H0 X n S T x y v w F G H Q P hA hd k
 unfold Tz at hd
 split at hd
 ·rename_i m ds m' es
  obtain ⟨i1,i2,hz,p⟩:=hd
  obtain ⟨b,ys,G1,rfl,hb,rb,rfl,_⟩:=(hA.told mem_mid).list_inv
  obtain ⟨a,xs,G2,rfl,ha,ra,rfl,_⟩:=(hA.told Ek).list_inv
  have l1:=ra.len
  have l2:=rb.len
  refine ⟨a,b,xs,ys,rfl,rfl,ha,hb,fP (by omega),λq hq=>?_⟩
  have s1:=Ff hq (.lst (xs++ys))
  have sy:=Ba.mp hA.mid.sep
  have sx:=Ba.mp hA.drop.mid.sep
  have nq:∀f∈S++_::_::T,q∉f.F:=hA.free hq
  have n1:q∉G1:=λz=>nq _ mem_mid (Ah _ z)
  have n2:q∉G2:=λz=>nq _ Ek (Ah _ z)
  have fr:=hA.drop2.free hq
  refine k _ _ _ _ (((hA.drop2.grow (n':=n) s1 (An _)).push (e:=⟨some (.ref q),.dat .tp (.list (ds++es)),q::(G2++G1)⟩) ⟨_,rfl,.lst Dt (by rw[Az]; exact fP (by omega)) ((ra.app rb).kp (Kp.of s1)),λz=>(nomatch z),λ_ a l e=>?_⟩ (λf hf=>⟨λ_ c hc z=>?_,λ_ c hc z=>?_⟩) λc hc=>?_).tomid) p
  ·cases e
   exact λz=>(Ay.mp z).elim n2 n1
  ·rw[Ag.mp hc] at z
   exact fr f hf z
  ·rcases Ai.mp z with z | z
   ·rw[z] at hc
    exact fr f hf (Ex _ _ hc)
   ·rcases Ay.mp z with z | z
    ·exact (sx.1 f hf).2 (.inl (yV i1)) c hc (Ah _ z)
    ·exact (sy.1 f ((Ds S).append (Dn _ T) |>.subset hf)).2 (.inl (yV i2)) c hc (Ah _ z)
  ·rw[Ag.mp hc]
   exact .inl (hA.new0 hq)
 ·exact hd.elim
theorem Li{X:Cx}{a b:Expr}{da db:DE}{pos:Pos}(ha:Em X a da)(hb:Em X b db):Em X (.BinOp a .Add b pos) (Tr Tz da db):=To xK o7 ha hb
end DL
namespace Nd
open PySem PySem.Spec PyProof.Rows
section
variable{prog:Bs}{w:World}{κ:Type}[DecidableEq κ](knd:HeapKind prog w κ)
def DictE(h:Heap)(d:Addr)(xs:List (κ×Addr×Value)):Prop :=
 ∃(o:Obj) (es:Array DictEntry) (ep:Nat),h.get? d=some o/\o.ExactDict/\o.data=.dict es ep/\es.toList=xs.map (bX knd)/\(∀x∈xs,knd.is h x.1 x.2.1)/\(xs.map (·.1)).Nodup/\ep=es.size
variable{knd}
theorem DictE.of{h:Heap}{d:Addr}{xs:List (κ×Addr×Value)}(x:DictE knd h d xs):h.DictOfH knd d xs:=let ⟨o,es,ep,a,b,c,e,f,g,_⟩:=x; ⟨o,es,ep,a,b,c,e,f,g⟩
variable{A:Dj}{E:Value->Al->Prop}{s:Al}{d a:Addr}{xs:List (κ×Addr×Value)}{k:κ}{v:Value}
theorem tS{xs:List (κ×Addr×Value)}{k:κ}{a:Addr}{v:Value}(hn:(xs.map (·.1)).Nodup)(hk:k∉xs.map (·.1)):((xs++[(k,a,v)]).map (·.1)).Nodup:=by
 rw[Bp,List.nodup_append]
 refine ⟨hn,by simp,λx hx y hy e=>hk ?_⟩
 rw[Bb,Yj,Ag] at hy
 have hy:y=k:=hy
 rw[<- hy,<- e]
 exact hx
theorem uZ{o:Obj}{es:Array DictEntry}{ep:Nat}{h:Heap}(ho:h.get? d=some o)(hc:o.ExactDict)(hd:o.data=.dict es ep)(he:es.toList=xs.map (bX knd))(his:∀x∈xs,knd.is h x.1 x.2.1)(hn:(xs.map (·.1)).Nodup)(hep:ep=es.size)(hkey:knd.is h k a)(ha:atKey xs k=none)(hk:k∉xs.map (·.1)):DictE knd (h.update d (Obj.mapDictKeys λes=>es.push ⟨knd.hash k,.ref a,v⟩)) d (storedH xs k a v):=by
 rw[storedH_new ha]
 refine ⟨_,_,ep+1,Hk _ ho (Obj.isFreed_of_dict (Obj.data_mapDictKeys hd _)),hc.mapDictKeys _,Obj.data_mapDictKeys hd _,by simp [he,bX],λx hx=>?_,tS hn hk,by rw[hep,Array.size_push]⟩
 rcases Ay.mp hx with z | z
 ·exact knd.keeps (his x z) ho hd (Ck ..)
 ·rw[Ag.mp z]
  exact knd.keeps hkey ho hd (Ck ..)
theorem zJ{Q:Unit->Al->Prop}(hu:knd.room A)(hkey:knd.is s.heap k a)(hm:DictE knd s.heap d xs)(q:∀h',DictE knd h' d (storedH xs k a v)->Fs d s.heap h'->Q () { s with heap:=h',toks:=s.toks+knd.draws k })(hz:xs.length<=Bd):wpAny (model prog w) A (dictSet d (.ref a) v) Q E s:=by
 obtain ⟨o,es,ep,ho,hc,hd,he,his,hn,hep⟩:=hm
 unfold dictSet
 try with_reducible refine Dz ?_
 refine Ae (knd.pyHash hu hkey ?_)
 unfold dictSetHashed
 try with_reducible refine Dz ?_
 refine Ae (wpAny_dictFind_heap (s:={ s with toks:=s.toks+knd.draws k }) hu hkey ho hd he his hn (λno=>?_) λj p hj=>?_)
 ·exact Ae (wpAny_rule (wpAny_updateDictKeys (hz:=by have e:=size_of_entries he; omega) (s:={ s with toks:=s.toks+knd.draws k }) ho hd (q _ (uZ ho hc hd he his hn hep hkey (atKey_none_of_get no) (not_mem_keys_of_get no)) (Ck ..))))
 ·refine Ae (wpAny_rule (Ae (wpAny_updateDict (s:={ s with toks:=s.toks+knd.draws k }) ho hd (wpAny_point (q _ ?_ (Ck ..))))))
  rw[storedH_old (atKey_of_get hn hj)]
  refine ⟨_,_,ep,Hk _ ho (Obj.isFreed_of_dict (Obj.data_mapDict hd _)),hc.mapDict _,Obj.data_mapDict hd _,?_,λx hx=>?_,by rw[keys_map_putAt]; exact hn,by rw[hep]; simp⟩
  ·have e1:=modify_map_putAt (bX knd) (λe:DictEntry=>{ e with val:=v }) k v (λ_ _=>rfl) hn hj
   rw[<- he] at e1
   obtain ⟨l⟩:=es
   simpa using e1
  ·obtain ⟨y,hy,rfl⟩:=Bq.mp hx
   unfold putAt
   split <;> exact knd.keeps (his y hy) ho hd (Ck ..)
theorem setItemE{Q:Unit->Al->Prop}(hu:knd.room A.in1)(hkey:knd.is s.heap k a)(hm:DictE knd s.heap d xs)(q:∀h',DictE knd h' d (storedH xs k a v)->Fs d s.heap h'->Q () { s with heap:=h',toks:=s.toks+knd.draws k })(hz:xs.length<=Bd):wpAny (model prog w) A (setItem (.ref d) (.ref a) v) Q E s:=by
 have tD:=hm.of.typeIs
 unfold setItem
 try with_reducible refine Dz ?_
 refine Ae (Rv tD (by decide) ?_)
 refine Ae (Gw (name:=Gz "__setitem__") tD slot_dict_setitem (Gf slot_dict_setitem tD entry_dict_setitem ?_ (args_dict_setitem _ _ _)))
 show wpAny _ _ (bind (Builtin.Dict.notOrdered "__setitem__" ⟨[.ref d,.ref a,v],[]⟩) _) _ _ s
 refine Ae (wpAny_notOrdered_dict tD ?_)
 show wpAny _ _ (bind (dictSet d (.ref a) v) _) _ _ s
 exact Ae (zJ hu hkey hm (λh' a b=>Ak ⟨.none,rfl,Ak (q h' a b)⟩) hz)
end
end Nd
namespace L2
open PySem PySem.Spec PyProof.Rows
section
variable{κ:Type}[DecidableEq κ]
def Wi(kvs:List (κ×V))(k:κ):Option V:=(kvs.find? λkv=>decide (kv.1=k)).map (·.2)
def Ut(kvs:List (κ×V))(k:κ)(v:V):List (κ×V) :=
 if (kvs.any λkv=>decide (kv.1=k))=true then kvs.map (λkv=>if kv.1=k then (kv.1,v) else kv) else kvs++[(k,v)]
theorem Uy{p:κ×V}{r:List (κ×V)}{k:κ}(e:p.1=k):Wi (p::r) k=some p.2:=by simp [Wi,Jk,e]
theorem Vk{p:κ×V}{r:List (κ×V)}{k:κ}(e:¬ p.1=k):Wi (p::r) k=Wi r k:=by simp [Wi,Jk,e]
theorem kF(k:κ):∀kvs:List (κ×V),(kvs.any λkv=>decide (kv.1=k))=(Wi kvs k).isSome
 | []=>rfl
 | p::r=>by
  rw[Jl]
  by_cases e:p.1=k
  ·simp only[Uy e,decide_eq_true e,Bool.true_or,Option.isSome_some]
  ·rw[Vk e,decide_eq_false e,Bool.false_or]; exact kF k r
theorem Xg(kvs:List (κ×V))(k:κ)(v:V):(Ut kvs k v).length<=kvs.length+1:=by
 unfold Ut
 split
 ·rw[Ad]; omega
 ·rw[Az,Be,Os]; omega
theorem oB.isSome_eq{o:Option V}{u:Option Value}(r:oB o u):o.isSome=u.isSome:=by
 cases o with
 | none=>cases u with
  | none=>rfl
  | some _=>exact (show False from r).elim
 | some _=>cases u with
  | none=>exact (show False from r).elim
  | some _=>rfl
theorem KV.val{kvs:List (κ×V)}{vs:List (κ×Value)}(r:KV kvs vs)(k:κ):oB (Wi kvs k) (valueAt vs k):=by
 unfold KV at r
 induction r with
 | nil=>exact Lo
 | @cons p q ps qs h t ih =>
  obtain ⟨h1,h2⟩:=h
  by_cases e:p.1=k
  ·have e':q.1=k:=h1.symm.trans e
   have b:valueAt (q::qs) k=some q.2:=by simp [valueAt,Jk,e']
   rw[Uy e,b]; exact h2
  ·have e':¬ q.1=k:=λz=>e (h1.trans z)
   have b:valueAt (q::qs) k=valueAt qs k:=by simp [valueAt,Jk,e']
   rw[Vk e,b]; exact ih
theorem KV.any{kvs:List (κ×V)}{vs:List (κ×Value)}(r:KV kvs vs)(k:κ):(kvs.any λkv=>decide (kv.1=k))=vs.any λkv=>decide (kv.1=k):=by
 unfold KV at r
 induction r with
 | nil=>rfl
 | cons h t ih=>rw[Jl,Jl,ih,h.1]
theorem KV.repl{kvs:List (κ×V)}{vs:List (κ×Value)}(r:KV kvs vs)(k:κ){y:V}{u:Value}(ry:RelV y u):KV (kvs.map λkv=>if kv.1=k then (kv.1,y) else kv) (vs.map λkv=>if kv.1=k then (kv.1,u) else kv):=by
 unfold KV at r ⊢
 induction r with
 | nil=>exact .nil
 | @cons p q ps qs h t ih =>
  rw[Bb,Bb]
  refine .cons ?_ ih
  obtain ⟨h1,h2⟩:=h
  by_cases e:p.1=k
  ·rw[if_pos e,if_pos (h1.symm.trans e)]; exact ⟨h1,ry⟩
  ·rw[if_neg e,if_neg (λz=>e (h1.trans z))]; exact ⟨h1,h2⟩
theorem KV.put{kvs:List (κ×V)}{vs:List (κ×Value)}(r:KV kvs vs)(k:κ){y:V}{u:Value}(ry:RelV y u):KV (Ut kvs k y) (stored vs k u):=by
 unfold Ut stored
 rw[r.any k]
 by_cases e:(vs.any λkv=>decide (kv.1=k))=true
 ·rw[if_pos e,if_pos e]; exact r.repl k ry
 ·rw[if_neg e,if_neg e]; exact Paired.snoc r ⟨rfl,ry⟩
theorem KV.length{kvs:List (κ×V)}{vs:List (κ×Value)}(r:KV kvs vs):kvs.length=vs.length:=Paired.length r
end
theorem qR{P:Bs}{w:World}{k:Ld}{u:Value}(r:RelV (kV k) u):(Ij P w).is k u=true:=by
 cases k with
 | inl i=>obtain ⟨t,e⟩:=(show ∃t,u=Ox i t from r); subst e; exact iX P w i t
 | inr x=>obtain ⟨t,e⟩:=(show ∃t,u=Value.str x t from r); subst e; exact kQ P w x t
theorem dH{P:Bs}{w:World}:∀{ks:List Ld} {us:List Value},Fe (ks.map kV) us->ItemsAre (Ij P w) ks us
 | [],_,r=>by rw[Yj] at r; cases r; exact .nil
 | k::ks,_,r=>by
  rw[Bb] at r
  cases r with
  | cons h t=>exact .cons (qR h) (dH t)
abbrev KT(H:Hp):List (List Ld×V)->List (List Ld×Addr×Value)->Prop:=Paired λp q=>p.1=q.1/\H q.2.1=some (.tup (p.1.map kV))/\RelV p.2 q.2.2
theorem KT.val{H:Hp}{kvs:List (List Ld×V)}{xs:List (List Ld×Addr×Value)}(r:KT H kvs xs)(k:List Ld):oB (Wi kvs k) ((atKey xs k).map (·.2)):=by
 induction r with
 | nil=>exact Lo
 | @cons p q ps qs h t ih =>
  obtain ⟨h1,_,h2⟩:=h
  by_cases e:p.1=k
  ·have e':q.1=k:=h1.symm.trans e
   have b:atKey (q::qs) k=some q.2:=by simp [atKey,Jk,e']
   rw[Uy e,b]; exact h2
  ·have e':¬ q.1=k:=λz=>e (h1.trans z)
   have b:atKey (q::qs) k=atKey qs k:=by simp [atKey,Jk,e']
   rw[Vk e,b]; exact ih
theorem KT.repl{H:Hp}{kvs:List (List Ld×V)}{xs:List (List Ld×Addr×Value)}(r:KT H kvs xs)(k:List Ld){y:V}{u:Value}(ry:RelV y u):KT H (kvs.map λkv=>if kv.1=k then (kv.1,y) else kv) (xs.map (putAt k u)):=by
 induction r with
 | nil=>exact .nil
 | @cons p q ps qs h t ih =>
  rw[Bb,Bb]
  refine .cons ?_ ih
  obtain ⟨h1,h2,h3⟩:=h
  unfold putAt
  by_cases e:p.1=k
  ·rw[if_pos e,if_pos (h1.symm.trans e)]; exact ⟨h1,h2,ry⟩
  ·rw[if_neg e,if_neg (λz=>e (h1.trans z))]; exact ⟨h1,h2,h3⟩
theorem KT.put{H:Hp}{kvs:List (List Ld×V)}{xs:List (List Ld×Addr×Value)}(r:KT H kvs xs)(k:List Ld){b:Addr}{y:V}{u:Value}(hb:H b=some (.tup (k.map kV)))(ry:RelV y u):KT H (Ut kvs k y) (storedH xs k b u):=by
 have e:(kvs.any λkv=>decide (kv.1=k))=(atKey xs k).isSome:=by
  rw[kF,(r.val k).isSome_eq,Option.isSome_map]
 unfold Ut storedH
 rw[e]
 by_cases q:(atKey xs k).isSome=true
 ·rw[if_pos q,if_pos q]; exact r.repl k ry
 ·rw[if_neg q,if_neg q]; exact Paired.snoc r ⟨rfl,hb,ry⟩
theorem KT.keeps{H H':Hp}{kvs:List (List Ld×V)}{xs:List (List Ld×Addr×Value)}(r:KT H kvs xs)(ht:∀b ys,H b=some (.tup ys)->H' b=some (.tup ys)):KT H' kvs xs :=
 Paired.mapP r λ_ _ z=>⟨z.1,ht _ _ z.2.1,z.2.2⟩
section
variable{P:Bs}{w:World}{H:Hp}{h:Heap}{a:Addr}
theorem zY{u:HO}(ok:Vj P w H h)(e:Rd H a u):Gq P w H h a u:=e.ok ok
theorem rF{kvs:List (Ld×V)}(ok:Vj P w H h)(e:Rd H a (.dK kvs)):kvs.length<=Bd/\(a == Lb)=false/\∃vs,KV kvs vs/\h.DictOf (Ij P w) a vs :=
 show Gq P w H h a (.dK kvs) from zY ok e
theorem Y0{kvs:List (Ld×V)}(ok:Vj P w H h)(e:H a=some (.dK kvs)):kvs.length<=Bd/\(a == Lb)=false/\∃vs,KV kvs vs/\h.DictOf (Ij P w) a vs:=rF ok (.inl e)
theorem aB{ks:List Ld}(ok:Vj P w H h)(e:H a=some (.tup (ks.map kV))):(Yg (Ij P w)).is h ks a:=by
 obtain ⟨_,its,r,o,h1,h2,n,h3⟩:=(show Gq P w H h a (.tup (ks.map kV)) from ok a _ e)
 exact ⟨o,its.toArray,n,h1,h2,h3,by simpa using dH r⟩
theorem xY{kvs:List (List Ld×V)}(ok:Vj P w H h)(e:Rd H a (.dT kvs)):kvs.length<=Bd/\(a == Lb)=false/\∃xs,KT H kvs xs/\h.DictOfH (Yg (Ij P w)) a xs:=by
 obtain ⟨z,y,xs,r,o,es,ep,h1,h2,h3,h4,h5,h6⟩:=(show Gq P w H h a (.dT kvs) from zY ok e)
 refine ⟨z,y,xs,r,o,es,ep,h1,h2,h3,h4,λx hx=>?_,h5⟩
 have all:∀{l:List (List Ld×V)} {m:List (List Ld×Addr×Value)},KT H l m->∀x∈m,(Yg (Ij P w)).is h x.1 x.2.1:=by
  intro l m q
  induction q with
  | nil=>intro x hx; exact nomatch hx
  | @cons p q ps qs hq t ih =>
   intro x hx
   rcases Ai.mp hx with e | hx
   ·subst e
    exact aB ok (by rw[<- hq.1]; exact hq.2.1)
   ·exact ih x hx
 exact all r x hx
theorem T6{kvs:List (List Ld×V)}(ok:Vj P w H h)(e:Rd H a (.dT kvs)):kvs.length<=Bd/\(a == Lb)=false/\∃xs,KT H kvs xs/\Nd.DictE (Yg (Ij P w)) h a xs:=by
 obtain ⟨z,y,xs,r,o,es,ep,h1,h2,h3,h4,h5,h6⟩:=(show Gq P w H h a (.dT kvs) from zY ok e)
 refine ⟨z,y,xs,r,o,es,ep,h1,h2,h3,h4,λx hx=>?_,h5,h6⟩
 have all:∀{l:List (List Ld×V)} {m:List (List Ld×Addr×Value)},KT H l m->∀x∈m,(Yg (Ij P w)).is h x.1 x.2.1:=by
  intro l m q
  induction q with
  | nil=>intro x hx; exact nomatch hx
  | @cons p q ps qs hq t ih =>
   intro x hx
   rcases Ai.mp hx with e | hx
   ·subst e
    exact aB ok (by rw[<- hq.1]; exact hq.2.1)
   ·exact ih x hx
 exact all r x hx
end
def jZ(H:Hp)(a:Addr)(y:V)(r:Option V):Prop :=
 (∃kvs k,Rd H a (.dK kvs)/\y=kV k/\r=Wi kvs k)\/∃kvs k b,Rd H a (.dT kvs)/\y=.ref b/\H b=some (.tup (k.map kV))/\r=Wi kvs k
def L8(H:Hp)(a:Addr)(y v:V)(H':Hp):Prop :=
 (∃kvs k,H a=some (.dK kvs)/\y=kV k/\kvs.length<Bd/\H'=upd H a (.dK (Ut kvs k v))) \/
 ∃kvs k b,H a=some (.dT kvs)/\y=.ref b/\H b=some (.tup (k.map kV))/\kvs.length<Bd/\H'=upd H a (.dT (Ut kvs k v))
theorem jZ.t{H:Hp}{a b:Addr}{kvs:List (List Ld×V)}{k:List Ld}(e:H a=some (.dT kvs))(eb:H b=some (.tup (k.map kV))):jZ H a (.ref b) (Wi kvs k):=.inr ⟨kvs,k,b,.inl e,rfl,eb,rfl⟩
theorem L8.t{H:Hp}{a b:Addr}{kvs:List (List Ld×V)}{k:List Ld}{v:V}(e:H a=some (.dT kvs))(eb:H b=some (.tup (k.map kV)))(hl:kvs.length<Bd):L8 H a (.ref b) v (upd H a (.dT (Ut kvs k v))):=.inr ⟨kvs,k,b,e,rfl,eb,hl,rfl⟩
section
variable{X:Cx}{pins:List (Addr×Obj)}{σ:St}{H:Hp}{s:Al}{a:Addr}{y v:V}{u r:Value}{o:Option V}{A:Dj}{E:Value->Al->Prop}
theorem Inv.big(I:Inv X pins σ H s):Lb<s.heap.objs.size:=by
 have h:Co<s.heap.objs.size:=(I.mod.glob.keeps I.bk).lt
 exact Tb (by decide) h
theorem rM{Q:Value->Al->Prop}(hu:A.units+1<cLine)(I:Inv X pins σ H s)(g:jZ H a y (some v))(ry:RelV y u)(h:∀w' s',Inv X pins σ H s'->RelV v w'->Q w' s'):wpAny (model X.prog X.w) A (Ow (.ref a) u) Q E s:=by
 rcases g with ⟨kvs,k,e,ey,l⟩ | ⟨kvs,k,b,e,ey,eb,l⟩
 ·subst ey
  obtain ⟨z,hd,vs,rel,dd⟩:=rF I.hok e
  obtain ⟨w',hw,rw'⟩:=oB.some_of (v:=v) (o:=valueAt vs k) (by rw[l]; exact rel.val k)
  exact wpAny_getItem_of (qR ry) dd.mapOf hw (h w' _ (I.tok _) rw')
 ·subst ey
  cases (show u=Cq b from ry)
  obtain ⟨z,hd,xs,rel,dd⟩:=xY I.hok e
  obtain ⟨w',hw,rw'⟩:=oB.some_of (v:=v) (o:=(atKey xs k).map (·.2)) (by rw[l]; exact rel.val k)
  obtain ⟨p,hp,hp2⟩:=Option.map_eq_some_iff.mp hw
  refine wpAny_getItem_heap (bV hu) (aB I.hok eb) dd hp ?_
  rw[hp2]
  exact h w' _ (I.tok _) rw'
theorem DW{Q:Value->Al->Prop}(hu:A.units+1<cLine)(I:Inv X pins σ H s)(g:jZ H a y o)(ry:RelV y u)(h:∀s',Inv X pins σ H s'->Q (.bool o.isSome) s'):wpAny (model X.prog X.w) A (Ho .In u (.ref a)) Q E s:=by
 rcases g with ⟨kvs,k,e,ey,l⟩ | ⟨kvs,k,b,e,ey,eb,l⟩
 ·subst ey
  obtain ⟨z,hd,vs,rel,dd⟩:=rF I.hok e
  refine wpAny_in_of (qR ry) hd dd.mapOf ?_
  rw[<- (rel.val k).isSome_eq,<- l]
  exact h _ (I.tok _)
 ·subst ey
  cases (show u=Cq b from ry)
  obtain ⟨z,hd,xs,rel,dd⟩:=xY I.hok e
  refine wpAny_in_heap (bV hu) (aB I.hok eb) hd dd ?_
  have q:=(rel.val k).isSome_eq
  rw[Option.isSome_map] at q
  rw[<- q,<- l]
  exact h _ (I.tok _)
theorem pR{h':Heap}{t':Nat}{ob:HO}(I:Inv X pins σ H s)(mu:Z6 (H a))(hs:Fs a s.heap h')(he:∃q,h'.get? a=some q)(new:Gq X.prog X.w (upd H a ob) h' a ob):Inv X pins σ (upd H a ob) { s with heap:=h',toks:=t' } :=
 I.write (x:=a) (e:=a) mu (.inl rfl) (λb q hb z=>(hs.2 b hb).trans z) he new
theorem O5{P:Bs}{w:World}{H':Hp}{h':Heap}{kvs:List (Ld×V)}{vs:List (Ld×Value)}(z:kvs.length<=Bd)(hd:(a == Lb)=false)(rel:KV kvs vs)(dd:h'.DictOf (Ij P w) a vs):Gq P w H' h' a (.dK kvs):=⟨z,hd,vs,rel,dd⟩
theorem rQ{H':Hp}{Q:Unit->Al->Prop}(hu:A.units+1<cLine)(I:Inv X pins σ H s)(g:L8 H a y v H')(ry:RelV y u)(rv:RelV v r)(h:∀s',Inv X pins σ H' s'->Q () s'):wpAny (model X.prog X.w) A (setItem (.ref a) u r) Q E s:=by
 rcases g with ⟨kvs,k,e,ey,l,eH⟩ | ⟨kvs,k,b,e,ey,eb,l,eH⟩
 ·subst ey eH
  obtain ⟨z,hd,vs,rel,dd⟩:=Y0 I.hok e
  have hz:vs.length<=Bd:=by rw[<- rel.length]; exact z
  have hl:(Ut kvs k v).length<=Bd:=by have:=Xg kvs k v; omega
  refine wpAny_setItem_pairs (hsz:=hz) (qR ry) dd λh' dd' hs=>h _ ?_
  have he:∃q,h'.get? a=some q:=let ⟨q,_,_,hq,_⟩:=dd'; ⟨q,hq⟩
  exact pR I (by rw[e]; exact Lo) hs he (O5 hl hd (rel.put k rv) dd')
 ·subst ey eH
  cases (show u=Cq b from ry)
  obtain ⟨z,hd,xs,rel,dd⟩:=T6 I.hok (.inl e)
  have hz:xs.length<=Bd:=by rw[<- Paired.length rel]; exact z
  have hl:(Ut kvs k v).length<=Bd:=by have:=Xg kvs k v; omega
  refine Nd.setItemE (hz:=hz) (bV hu) (aB I.hok eb) dd λh' dd' hs=>h _ ?_
  obtain ⟨q,es,ep,hq,h2,h3,h4,_,h5⟩:=dd'
  refine pR I (by rw[e]; exact Lo) hs ⟨q,hq⟩ ⟨hl,hd,_,(rel.put k eb rv).keeps λc ys ec=>?_,q,es,ep,hq,h2,h3,h4,h5⟩
  rw[En (X7 ec e (λz=>nomatch z))]
  exact ec
end
def P8(i:Expr):Prop:=∀ov iv,subscripted i false ov iv=operate [ov,iv] (Ow ov iv)
theorem n6{prog:Bs}{w:World}{A:Dj}{E:Value->Al->Prop}{s:Al}{env:Env}{value slice:Expr}{pos:Pos}{T id:String}{Q:Value->Al->Prop}(hl:typeLookup (.type T) "__getitem__" = pure (some (.builtin id)))(hs:P8 slice)(h:wpAny (model prog w) A (eval value env) (λo s₁=>wpAny (model prog w) A (eval slice env) (λi s₂=>s₂.TypeIs o T/\wpAny (model prog w) A (Ow o i) Q E s₂) E s₁) E s):wpAny (model prog w) A (eval (.Subscript value slice pos) env) Q E s:=by
 refine cA (Gy h (λo s₁ h₁=>Gy h₁ (λi s₂ h₂=>?_) λ_ _ x=>x) λ_ _ x=>x)
 obtain ⟨hT,h₂⟩:=h₂
 unfold Sx
 refine Ae ?_
 rw[getitemInPython_of_ne hT.not_modules]
 refine Ae (wpAny_specialOf hT hl ?_)
 have fin:wpAny (model prog w) A (subscripted slice false o i) (λr s₃=>wpAny (model prog w) A (letTemporaryGo value o r >>= λ_=>pure r) Q E s₃) E s₂:=by
  rw[hs o i]
  exact wpAny_operating (Gy h₂ (λr s₃ h₃=>Ae (wpAny_letTemporaryGo (Ak h₃))) λ_ _ x=>x)
 first
  | exact Ak (Ae fin)
  | exact Ae (Ak (Ae fin))
  | exact Ae fin
theorem jC{X:Cx}{pins:List (Addr×Obj)}{σ:St}{H:Hp}{s:Al}{a:Addr}{y:V}{o:Option V}(I:Inv X pins σ H s)(g:jZ H a y o):s.TypeIs (.ref a) "dict" := by
 rcases g with ⟨kvs,k,e,_,_⟩ | ⟨kvs,k,b,e,_,_,_⟩
 ·obtain ⟨_,_,vs,_,dd⟩:=rF I.hok e
  exact dd.typeIs
 ·obtain ⟨_,_,xs,_,dd⟩:=xY I.hok e
  exact dd.typeIs
def BI(td ty:TE):TE:=λσ H Q=>td σ H λx H1=>ty σ H1 λy H2=>∃a v,x=.ref a/\jZ H2 a y (some v)/\Q v H2
def EO(ty td:TE):TE:=λσ H Q=>ty σ H λy H1=>td σ H1 λx H2=>∃a o,x=.ref a/\jZ H2 a y o/\Q (.bl o.isSome) H2
def BJ(td ty tv:TE):TS:=λD σ H=>tv σ H λv H1=>td σ H1 λx H2=>ty σ H2 λy H3=>∃a H4,x=.ref a/\L8 H3 a y v H4/\D.nx σ H4
section
variable{X:Cx}{o i e value:Expr}{pos pos' tpos:Pos}{td ty tv:TE}
theorem n9(hu:X.A.units+1<cLine)(ho:PE X o td)(hi:PE X i ty)(hs:P8 i):PE X (.Subscript o i pos) (BI td ty):=by
 intro pins s σ H Q I h
 refine n6 PySem.F.slot_dict_getitem.lookup hs (Hn (ho pins s σ H _ I h) λu s1 ⟨x,H1,I1,rx,q1⟩=>Hn (hi pins s1 σ H1 _ I1 q1) λiv s2 q0_ => ?_)
 obtain ⟨y,H2,I2,ry,a,v,ex,g,q2⟩ := q0_
 subst ex
 obtain rfl:u=Cq a:=rx
 exact ⟨jC I2 g,rM hu I2 g ry λw' s3 I3 rw'=>⟨v,H2,I3,rw',q2⟩⟩
theorem M4(hu:X.A.units+1<cLine)(hi:PE X i ty)(ho:PE X o td):PC X .In i o (EO ty td):=by
 intro pins s σ H Q I h
 refine Hn (hi pins s σ H _ I h) λiv s1 ⟨y,H1,I1,ry,q1⟩=>Hn (ho pins s1 σ H1 _ I1 q1) λu s2 q0_ => ?_
 obtain ⟨x,H2,I2,rx,a,ov,ex,g,q2⟩ := q0_
 subst ex
 obtain rfl:u=Cq a:=rx
 exact DW hu I2 g ry λs3 I3=>⟨.bl ov.isSome,H2,I3,rfl,q2⟩
theorem E5(hu:X.A.units+1<cLine)(ho:PE X o td)(hi:PE X i ty)(hv:PE X value tv)(hs:Mr value (some (.Subscript o i pos')) pos.line X.env=pure false):PS X (.Assign [.Subscript o i pos'] value pos) (BJ td ty tv):=by
 intro pins s σ H D I h
 refine wpAny_Assign_Subscript (Hn (hv pins s σ H _ I h) λr s1 ⟨v,H1,I1,rv,q1⟩=>Hn (ho pins s1 σ H1 _ I1 q1) λu s2 ⟨x,H2,I2,rx,q2⟩=>Hn (hi pins s2 σ H2 _ I2 q2) λiv s3 ⟨y,H3,I3,ry,a,H4,ex,g,q3⟩=>?_) hs
 subst ex
 obtain rfl:u=Cq a:=rx
 exact rQ hu I3 g ry rv λs4 I4=>⟨σ,H4,I4,q3⟩
end
theorem vB{P:Bs}{w:World}{H:Hp}(h:Heap)(hb:Lb<h.objs.size):Gq P w H (h.push { cls:=.type "dict",data:=.dict #[] }) h.objs.size (.dT []) :=
 ⟨Ee _,beq_eq_false_iff_ne.mpr (Ny (Cs hb)),[],.nil,_,#[],0,Bl _ rfl,⟨rfl,rfl,rfl⟩,rfl,rfl,Cv,rfl⟩
def R4:TE:=λ_ H Q=>∀p,H p=none->Q (.ref p) (upd H p (.dT []))
section
variable{X:Cx}{pos:Pos}
theorem wJ:PE X (.Dict [] [] pos) R4:=λpins s σ H Q I h =>
 wpAny_Dict_empty ⟨.ref s.heap.objs.size,_,I.laid (a:=s.heap.objs.size) (o:=.dT []) (t':=s.toks) (λ_ _ q=>Am _ q) (An _) (vB s.heap I.big),rfl,h _ (I.hok.fresh (An _))⟩
end
end L2
namespace Nd
open PySem PySem.Spec PyProof.Rows L2
end Nd
namespace DL
open PySem PySem.Spec PyProof.Rows L2 Nd
def Ue(ks:List (List Int×Ac))(w:List Int):Option Ac:=(ks.find? λp=>decide (p.1=w)).map (·.2)
def sS(ks:List (List Int×Ac))(w:List Int)(d:Ac):List (List Int×Ac) :=
 if (ks.any λp=>decide (p.1=w))=true then ks.map (λp=>if p.1=w then (p.1,d) else p) else ks++[(w,d)]
theorem Vd{α β:Type}{f:α->β}(hf:∀a b,f a=f b->a=b):∀{l m:List α},l.map f=m.map f->l=m
 | [],[],_=>rfl
 | [],_::_,h=>by cases h
 | _::_,[],h=>by cases h
 | a::l,b::m,h=>by
  obtain ⟨h1,h2⟩:=Fu h
  rw[hf a b h1,Vd hf h2]
theorem Hz{a b:List Int}(h:Au a=Au b):a=b:=Vd (λx y e=>by cases e; rfl) (PyData.tuple.inj h)
theorem Ss{a b:List (List Int×Ac)}(h:Xa a=Xa b):a=b:=Vd (λx y e=>by
 obtain ⟨e1,e2⟩:=Prod.mk.inj e
 exact Prod.ext (Hz e1) e2) (Fu h).2
theorem Zi{a b:List Int}(h:Nm a=Nm b):a=b:=Vd (λx y e=>by cases e; rfl) h
theorem pY(w:List Int):(Nm w).map kV=w.map V.int:=by
 unfold Nm
 rw[Fg]
 rfl
section
variable{K:PySem.W.Frag}{H H':Hp}
structure DRel(K:PySem.W.Frag)(H:Hp)(kv:List (List Ld×V))(ks:List (List Int×Ac)):Prop where
 key:kv.map (·.1)=ks.map λp=>Nm p.1
 val:RdFs K H (kv.map (·.2)) (ks.map (·.2)) []
theorem RdF.dict_inv{v:V}{X:List (Ac×Ac)}{F:List Addr}(h:RdF K H v (.dict X) F)(hX:o5 X=true:=by first | rfl | assumption):∃a kv ks,v=.ref a/\X=Xa ks/\H a=some (.dT kv)/\DRel K H kv ks/\F=[a]:=by
 cases h with
 | dic h e hs=>exact ⟨_,_,_,rfl,rfl,h,⟨e,hs⟩,rfl⟩
 | dik h e hs=>cases hX
 | dnm h e hs=>cases hX
theorem RdFs.cons_nil{x:V}{d:Ac}{xs:List V}{ds:List Ac}{F:List Addr}(h:RdFs K H (x::xs) (d::ds) F)(hF:F=[]):RdF K H x d []/\RdFs K H xs ds []:=by
 cases h with
 | cons a t =>
  obtain ⟨rfl,rfl⟩:=oV.mp hF
  exact ⟨a,t⟩
theorem yU{kv:List (List Ld×V)}{ks:List (List Int×Ac)}(r:DRel K H kv ks):kv.length=ks.length:=by
 have:=congrArg Ha r.key
 simpa using this
theorem aR(w:List Int):∀{kv:List (List Ld×V)} {ks:List (List Int×Ac)},DRel K H kv ks->(Wi kv (Nm w)=none/\Ue ks w=none)\/∃v d,Wi kv (Nm w)=some v/\Ue ks w=some d/\RdF K H v d []
 | [],[],_=>.inl ⟨rfl,rfl⟩
 | [],_::_,r=>by cases r.key
 | _::_,[],r=>by cases r.key
 | (k,v)::kv,(u,d)::ks,r=>by
  obtain ⟨e1,e2⟩:=Fu r.key
  have e1:k=Nm u:=e1
  obtain ⟨r1,r2⟩:=RdFs.cons_nil r.val rfl
  by_cases h:u=w
  ·subst h e1
   refine .inr ⟨v,d,Uy rfl,by simp [Ue],r1⟩
  ·have hk:¬ k=Nm w:=λz=>h (Zi (e1.symm.trans z))
   rw[Vk hk,show Ue ((u,d)::ks) w=Ue ks w by simp [Ue,h]]
   exact aR w ⟨e2,r2⟩
theorem xT(w:List Int){kv:List (List Ld×V)}{ks:List (List Int×Ac)}(r:DRel K H kv ks):(kv.any λp=>decide (p.1=Nm w))=(ks.any λp=>decide (p.1=w)):=by
 have h1:(kv.any λp=>decide (p.1=Nm w))=((kv.map (·.1)).any λk=>decide (k=Nm w)):=by rw[Yl]; rfl
 rw[h1,r.key,Yl]
 congr 1
 funext p
 exact decide_eq_decide.mpr ⟨λz=>Zi z,λz=>by show Nm p.1=Nm w; rw[z]⟩
theorem eE(w:List Int){v:V}{d:Ac}(rv:RdF K H v d []):∀{kv:List (List Ld×V)} {ks:List (List Int×Ac)},DRel K H kv ks->DRel K H (kv.map λp=>if p.1=Nm w then (p.1,v) else p) (ks.map λp=>if p.1=w then (p.1,d) else p)
 | [],[],r=>r
 | [],_::_,r=>by cases r.key
 | _::_,[],r=>by cases r.key
 | (k,v')::kv,(u,d')::ks,r=>by
  obtain ⟨e1,e2⟩:=Fu r.key
  have e1:k=Nm u:=e1
  obtain ⟨r1,r2⟩:=RdFs.cons_nil r.val rfl
  have ih:=eE w rv (kv:=kv) (ks:=ks) ⟨e2,r2⟩
  rw[Bb,Bb]
  by_cases h:u=w
  ·rw[if_pos (show k=Nm w by rw[e1,h]),if_pos h]
   exact ⟨by rw[Bb,Bb,ih.key]; exact congrArg (·::_) e1,RdFs.cons (F:=[]) (G:=[]) rv ih.val⟩
  ·have hk:¬ k=Nm w:=λz=>h (Zi (e1.symm.trans z))
   rw[if_neg (show ¬ (k,v').1=Nm w from hk),if_neg (show ¬ (u,d').1=w from h)]
   exact ⟨by rw[Bb,Bb,ih.key]; exact congrArg (·::_) e1,RdFs.cons (F:=[]) (G:=[]) r1 ih.val⟩
theorem zM(w:List Int){v:V}{d:Ac}(rv:RdF K H v d []){kv:List (List Ld×V)}{ks:List (List Int×Ac)}(r:DRel K H kv ks):DRel K H (Ut kv (Nm w) v) (sS ks w d):=by
 unfold Ut sS
 rw[xT w r]
 split
 ·exact eE w rv r
 ·refine ⟨by rw[Bp,Bp,r.key]; rfl,?_⟩
  rw[Bp,Bp]
  exact r.val.snoc rv
end
def CG:R2:=λx y H Q=>∃a v,x=.ref a/\jZ H a y (some v)/\Q v H
def BW(ne:Bool):R2:=λy x H Q=>∃a o,x=.ref a/\jZ H a y o/\Q (.bl (match ne with | true=>!o.isSome | false=>o.isSome)) H
def fU:D2:=λx y P=>match x,y with
 | .dat _ (.dict X),.dat _ k=>∃ks w d,X=Xa ks/\k=Au w/\Ue ks w=some d/\P (.dat .ow d)
 | _,_=>False
def qW(ne:Bool):D2:=λy x P=>match y,x with
 | .dat _ k,.dat _ (.dict X)=>∃ks w,X=Xa ks/\k=Au w/\P (.dat .ow (.bool (match ne with | true=>!(Ue ks w).isSome | false=>(Ue ks w).isSome)))
 | _,_=>False
section
variable{K:PySem.W.Frag}
theorem word_at{H:Hp}{v:V}{w:List Int}{F:List Addr}(r:RdF K H v (Au w) F):∃b,v=.ref b/\H b=some (.tup ((Nm w).map kV)):=by
 obtain ⟨b,xs,rfl,hb,rb,_⟩:=r.tup_inv
 obtain ⟨rfl,_⟩:=rb.ints_inv
 exact ⟨b,rfl,by rw[pY]; exact hb⟩
theorem A5:gO K CG fU:=by
 intro H0 X n S T x y v w F G H Q P hA hd k
 unfold fU at hd
 split at hd
 ·obtain ⟨ks,u,d,rfl,rfl,hg,p⟩:=hd
  obtain ⟨b,rfl,hb⟩:=word_at (hA.told mem_mid)
  obtain ⟨a,kv,ks',rfl,ek,ha,rel,_⟩:=(hA.told Ek).dict_inv
  obtain rfl:=Ss ek
  rcases aR u rel with ⟨_,z⟩ | ⟨v',d',h1,h2,h3⟩
  ·rw[z] at hg; cases hg
  ·rw[h2] at hg; cases hg
   exact ⟨a,v',rfl,h1▸jZ.t ha hb,k _ _ [] H (hA.drop2.pushI h3) p⟩
 ·exact hd.elim
theorem V4{ne:Bool}:gO K (BW ne) (qW ne):=by
 intro H0 X n S T x y v w F G H Q P hA hd k
 unfold qW at hd
 split at hd
 ·obtain ⟨ks,u,rfl,rfl,p⟩:=hd
  obtain ⟨b,rfl,hb⟩:=word_at (hA.told Ek)
  obtain ⟨a,kv,ks',rfl,ek,ha,rel,_⟩:=(hA.told mem_mid).dict_inv
  obtain rfl:=Ss ek
  refine ⟨a,_,rfl,jZ.t ha hb,?_⟩
  rcases aR u rel with ⟨h1,h2⟩ | ⟨v',d',h1,h2,h3⟩
  ·rw[h1]
   rw[h2] at p
   cases ne <;> exact k _ _ [] H (hA.drop2.pushI (.bl _)) p
  ·rw[h1]
   rw[h2] at p
   cases ne <;> exact k _ _ [] H (hA.drop2.pushI (.bl _)) p
 ·exact hd.elim
end
section
variable{X:Cx}{a b:Expr}{da db:DE}{pos:Pos}
theorem DX{n:Nat}(hu:n+64<cLine):n+1<cLine:=by omega
theorem t5(hu:X.A.units+64<cLine)(ha:Em X a da)(hb:Em X b db)(hs:P8 b:=by intro _ _; rfl):Em X (.Subscript a b pos) (Tr fU da db):=PE.imp (n9 (DX hu) ha hb hs) (op_le A5)
theorem V1(hu:X.A.units+64<cLine)(ha:Em X a da)(hb:Em X b db)(hm:Fk .In b=false:=by with_unfolding_all rfl):cU X (.Compare a [.In] [b] pos) (dB (Tr (qW false) da db)):=PT.imp (Q3 (M4 (DX hu) ha hb) hm) λσ H Q h=>op_le (r:=BW false) V4 _ _ _ (W0 σ H Q h)
end
def F4:DE:=λδ P=>P (.dat .ow (.dict (Xa []))) δ
theorem At.newD{K:PySem.W.Frag}{H0 H:Hp}{X:Addr->Prop}{n:Nat}{S T:List Ent}{p:Addr}(h:At K H0 X n (S++T) H)(hp:H p=none):At K H0 X n (S++⟨some (.ref p),.dat .ow (.dict (Xa [])),[p]⟩::T) (upd H p (.dT [])):=by
 have s1:=Ff hp (.dT [])
 refine ((h.grow (n':=n) s1 (An _)).push (e:=⟨some (.ref p),.dat .ow (.dict (Xa [])),[p]⟩) ⟨_,rfl,.dic Dt rfl .nil,λ_=>Bt.mpr ⟨Bk,Cv⟩,λz=>nomatch z⟩ (λf hf=>?_) λa ha=>?_).tomid
 ·have nf:=h.free hp f hf
  refine ⟨λ_ a ha z=>?_,λ_ a ha z=>?_⟩
  ·rw[Ag.mp ha] at z
   exact nf z
  ·rw[Ag.mp z] at ha
   exact nf (Ex _ _ ha)
 ·rw[Ag.mp ha]
  exact .inl (h.new0 hp)
theorem q9{X:Cx}{pos:Pos}:Em X (.Dict [] [] pos) F4:=by
 refine PE.imp wJ λσ H Q h=>?_
 obtain ⟨H0,Y,S,T,δ,P,rfl,hS,hA,hd,k⟩:=h
 exact λp hp=>k _ δ _ _ S _ rfl hS (hA.newD hp) hd
theorem At.writeD{K:PySem.W.Frag}{H0 H:Hp}{X:Addr->Prop}{n:Nat}{E:List Ent}{v:Option V}{ks ks':List (List Int×Ac)}{a:Addr}{kv':List (List Ld×V)}(h:At K H0 X n (⟨v,.dat .ow (.dict (Xa ks)),[a]⟩::E) H)(hv:v=some (.ref a))(np:∀e∈E,Mv e.x=false)(r:DRel K H kv' ks'):At K H0 X n (⟨v,.dat .ow (.dict (Xa ks')),[a]⟩::E) (upd H a (.dT kv')):=by
 obtain ⟨w,e1,rd,hn,ht⟩:=h.ok _ Ab
 obtain ⟨b,kv,ks0,e2,ek,ha,_,eF⟩:=rd.dict_inv
 have eF':[a]=[b]:=eF
 cases eF'
 have hs:=Ba.mp h.sep
 have kp:∀{F':List Addr},a∉F'->Kp F' H (upd H a (.dT kv')):=λ{F'} hF b o q z=>by
  have : b≠a:=by
   rintro rfl
   rw[ha] at q
   cases q
   rcases z with z | z
   ·exact hF z
   ·rcases z with ⟨_,z⟩ | ⟨_,_,z⟩ <;> cases z
  rw[En this]
  exact q
 have n0:H0 a=none:=by
  rcases h.new _ Ab a Ab with z | z
  ·exact z
  ·cases z.2
 refine ⟨λf hf=>?_,Ba.mpr ⟨λf hf=>⟨λhq c hc=>(hs.1 f hf).1 (.inl (np f hf)) c hc,λhq c hc=>(hs.1 f hf).2 (.inl rfl) c hc⟩,hs.2⟩,λf hf=>?_,λb o nx q=>?_,λb o q=>?_,λb hb=>?_⟩
 ·rcases Ai.mp hf with rfl | hf
  ·exact ⟨.ref a,hv,.dic Dt r.key (r.val.kp (kp Bk)),λ_=>Bt.mpr ⟨Bk,Cv⟩,λz=>nomatch z⟩
  ·exact (h.ok f (Ah _ hf)).kp (kp ((hs.1 f hf).1 (.inl (np f hf)) a Ab)) (An _)
 ·rcases Ai.mp hf with rfl | hf
  ·exact λc hc=>h.new _ Ab c hc
  ·exact h.new f (Ah _ hf)
 ·rw[En (Fm q n0)]
  exact h.same b o nx q
 ·rw[En (Fm q n0)]
  exact h.dom b o q
 ·obtain ⟨z,c,k,f,h1,h2⟩:=h.xd b hb
  refine ⟨z,c,k,f,(En ?_).trans h1,h2⟩
  rintro rfl
  exact z n0
theorem jW{K:PySem.W.Frag}{H0 H:Hp}{X:Addr->Prop}{S T:List Ent}{δ:DS}{i:Nat}{ks ks':List (List Int×Ac)}(hS:Sl S δ)(hT:∀e∈T,Mv e.x=false)(hA:At K H0 X δ.n (S++T) H)(hi:δ.sl[i]? = some (.dat .ow (.dict (Xa ks))))(np:npk δ.sl=true):∃a kv,(vs S)[i]? = some (some (.ref a))/\H a=some (.dT kv)/\DRel K H kv ks/\∀kv',DRel K H kv' ks'->∃S',vs S'=vs S/\Sl S' ⟨δ.sl.set i (.dat .ow (.dict (Xa ks'))),δ.n⟩/\At K H0 X δ.n (S'++T) (upd H a (.dT kv')):=by
 obtain ⟨ent,e2,e3⟩:=Jh hS hi
 have hm:ent∈S:=Bg e2
 obtain ⟨u,x,F⟩:=ent
 have e3':x=.dat .ow (.dict (Xa ks)):=e3
 subst e3'
 obtain ⟨v,hv,rd,_⟩:=hA.ok _ (Ap _ hm)
 obtain ⟨a,kv,ks0,rfl,ek,ha,rel,eF⟩:=rd.dict_inv
 obtain rfl:=Ss ek
 have eF':F=[a]:=eF
 subst eF'
 refine ⟨a,kv,by rw[My e2]; exact congrArg some hv,ha,rel,λkv' r=>?_⟩
 have hn:=gG hS np
 have h1:=(hA.perm ((Gv e2).append_right T)).writeD (ks':=ks') (kv':=kv') hv (λe he=>?_) r
 ·refine ⟨S.set i ⟨u,.dat .ow (.dict (Xa ks')),[a]⟩,?_,?_,h1.perm ((Wk e2).append_right T).symm⟩
  ·unfold vs
   rw[Hs]
   apply Mb
   intro j
   rw[Lz]
   split
   ·rename_i hij
    subst hij
    rw[Cc,e2]
    split
    ·rfl
    ·rename_i hj
     rw[Ad] at hj
     exact absurd (Av.mp e2).1 hj
   ·rfl
  ·unfold Sl at hS ⊢
   rw[Hs,hS]
 ·rcases Ay.mp he with he | he
  ·exact hn e ((Th S i).subset he)
  ·exact hT e he
def dputB(i:Nat)(y z:DV)(δ:DS)(D:DEnds):Prop:=match δ.sl[i]?,y,z with
 | some (.dat .ow (.dict X)),.dat _ e,.dat _ k=>npk δ.sl=true/\imm e=true/\∃ks w,X=Xa ks/\k=Au w/\ks.length<1000000/\D.nx ⟨δ.sl.set i (.dat .ow (.dict (Xa (sS ks w e)))),δ.n⟩
 | _,_,_=>False
def isDct:Option DV->Bool
 | some (.dat _ (.dict X))=>o5 X
 | _=>false
def L7(i:Nat)(dk de:DE):DB:=λD δ=>de δ λy δ1=>isDct δ1.sl[i]? = true/\dk δ1 λz δ2=>dputB i y z δ2 D
section
variable{X:Cx}{o i e:Expr}{dk de:DE}{apos cpos pos pos':Pos}{n:Nat}
theorem uX{K:PySem.W.Frag}{H0 H:Hp}{Y:Addr->Prop}{S T:List Ent}{δ:DS}(hS:Sl S δ)(hA:At K H0 Y δ.n (S++T) H)(hi:isDct δ.sl[n]? = true):∃a kv,(vs S)[n]? = some (some (.ref a))/\H a=some (.dT kv):=by
 cases q:δ.sl[n]? with
 | none=>rw[q] at hi; cases hi
 | some x =>
  rw[q] at hi
  obtain ⟨ent,e2,e3⟩:=Jh hS q
  obtain ⟨u,y,F⟩:=ent
  have e3':y=x:=e3
  subst e3'
  have hm:(⟨u,y,F⟩ : Ent)∈S:=Bg e2
  match y,hi with
  | .dat m (.dict X),hi =>
   have hX:o5 X=true:=hi
   obtain ⟨v,hv,rd,_⟩:=hA.ok _ (Ap _ hm)
   obtain ⟨a,kv,ks,rfl,_,ha,_⟩:=rd.dict_inv
   exact ⟨a,kv,by rw[My e2]; exact congrArg some hv,ha⟩
theorem o6(hu:X.A.units+64<cLine)(ho:PE X o (cJ n))(hi:Em X i dk)(he:Em X e de)(hs:Mr e (some (.Subscript o i pos')) pos.line X.env=pure false:=by rfl):mF X (.Assign [.Subscript o i pos'] e pos) (L7 n dk de):=by
 refine PS.impD (E5 (DX hu) ho hi he hs) λD σ H h=>?_
 obtain ⟨H0,Y,S,T,δ,P,rfl,hS,hT,hA,hd,k1,k2,k3,k4⟩:=h
 refine ⟨H0,Y,S,T,δ,_,rfl,hS,hA,hd,λy δ1 v F S1 H1 e1 e2 hA1 p1=>?_⟩
 obtain ⟨p1,p2⟩:=p1
 obtain ⟨a,kv,hv,ha⟩:=uX e2 hA1.drop p1
 rw[e1] at hv
 refine ⟨.ref a,hv,H0,Y,S1,⟨some v,y,F⟩::T,δ1,_,e1,e2,hA1,p2,λz δ2 w G S2 H2 e3 e4 hA2 p3=>?_⟩
 unfold dputB at p3
 split at p3
 ·rename_i X0 m1 d m2 k hsl
  obtain ⟨p3,p4,ks,u,rfl,rfl,p5,p6⟩:=p3
  obtain ⟨b,rfl,hb⟩:=word_at (hA2.told mem_mid)
  have r:=hA2.told Ek
  obtain rfl:=r.imm p4
  obtain ⟨a',kv',g1,g2,g3,g4⟩:=jW (ks':=sS ks u d) e4 hT hA2.drop2 hsl p3
  rw[e3,hv] at g1
  cases g1
  obtain ⟨S3,h1,h2,h3⟩:=g4 (Ut kv' (Nm u) v) (zM u r g3)
  refine ⟨a,_,rfl,L8.t g2 hb (by rw[yU g3]; exact Ca p5 (fP (n:=1000000) (An _))),?_⟩
  rw[<- e3,<- h1]
  exact k1 ⟨_,_⟩ S3 _ h2 h3 p6
 ·exact p3.elim
end
def G6:V->Int
 | .int i=>i
 | _=>0
def W4(H:Hp)(r:Addr):List Int:=match H r with
 | some (.tup xs)=>xs.map G6
 | _=>[]
theorem W1{H:Hp}{r:Addr}{w:List Int}(h:H r=some (.tup (w.map V.int))):W4 H r=w:=by
 unfold W4
 rw[h]
 show (w.map V.int).map G6=w
 rw[Fg]
 exact Gd w
section
variable{K:PySem.W.Frag}{H:Hp}
theorem jD:∀{ws:List (List Int)} {xs:List V} {ds:List Ac} {G:List Addr},RdFs K H xs ds G->ds=ws.map Au->∃rs:List Addr,xs=rs.map V.ref/\ws=rs.map (W4 H)/\G=[]/\(∀r∈rs,H r=some (.tup ((W4 H r).map V.int)))/\∀r∈rs,RdF K H (.ref r) (Au (W4 H r)) []
 | [],_,_,_,h,e=>by
  subst e
  cases h
  exact ⟨[],rfl,rfl,rfl,(λ_ z=>nomatch z),(λ_ z=>nomatch z)⟩
 | w::ws,_,_,_,h,e=>by
  cases h with
  | nil=>cases e
  | cons a t =>
   obtain ⟨e1,e2⟩:=Fu e
   obtain ⟨rs,rfl,rfl,rfl,h1,h2⟩:=jD t e2
   subst e1
   obtain ⟨r,rfl,hr⟩:=word_at a
   rw[pY] at hr
   have ew:=W1 hr
   obtain rfl:=a.imm (show imm (Au w)=true from Mn w)
   refine ⟨r::rs,rfl,by rw[Bb,ew],rfl,λx hx=>?_,λx hx=>?_⟩
   ·rcases Ai.mp hx with rfl | hx
    ·rw[ew]; exact hr
    ·exact h1 x hx
   ·rcases Ai.mp hx with rfl | hx
    ·rw[ew]; exact a
    ·exact h2 x hx
theorem Zn:∀L:List (List Int),Du (L.map Au)=true
 | []=>rfl
 | w::L=>by
  show (imm (Au w) && Du (L.map Au))=true
  rw[Zn L,show imm (Au w)=true from Mn w]; rfl
end
end DL
namespace Nd
open PySem PySem.Spec PyProof.Rows L2
end Nd
namespace DL
open PySem PySem.Spec PyProof.Rows L2 Nd
end DL
namespace Nd
open PySem PySem.Spec PySem.Calls PyProof.Rows PyProof.V L2
def AI(r:Addr)(j:Int)(h:Heap):Prop:=∃t u v,IsRange h r 0 j 1 t u v
abbrev vH(r:Addr)(j:Int):HO:=.ext (AI r j)
section
variable{prog:Bs}{w:World}{A:Dj}{E:Value->Al->Prop}{s:Al}
theorem cR{R:List Value->Al->Prop}{r:Addr}{a b c:Int}{t u v:Tok}{n:Nat}(hh:A.handled=none)(hr:IsRange s.heap r a b c t u v)(hsmall:Builtin.Range.small a b c=true)(hn:Kk a b c=n)(hlen:n<=2 ^ 24)(h:∀(h':Heap) (tk:Nat) (acc:Array Value),(∀b o,s.heap.get? b=some o->h'.get? b=some o)->ItemsOf (λi v=>∃t,v=.int (a+i * c) t) acc n->R acc.toList { s with heap:=h',toks:=tk }):wpAny (model prog w) A (collect (.ref r)) R E s:=by
 unfold collect
 refine Ae (wpAny_runValue (Fz PyProof.Rows.entry_proto_collect' ?_))
 rw[Fj PySem.F.plain_proto_collect _]
 show wpAny _ A.in1 (newList [] >>= λl=>again (.builtin "list.__iadd__" ⟨[l,.ref r],[]⟩)) _ _ s
 refine Ae (Dk ?_)
 refine Ak ⟨Ov PySem.F.plain_list_iadd _,Fz PyProof.Rows.entry_list_iadd' ?_⟩
 rw[Fj PySem.F.plain_list_iadd _]
 have hS₁:(s.heap.push { cls:=.type "list",data:=.seq ([]:List Value).toArray }).get? s.heap.objs.size=some { cls:=.type "list",data:=.seq #[] }:=Bl _ rfl
 show wpAny _ A.in1 (Builtin.List.listExtendWith (.ref s.heap.objs.size) (.ref r) (.ref s.heap.objs.size)) _ _ _
 have key:=wpAny_extend_range (prog:=prog) (w:=w) (A:=A) (s:={ s with heap:=s.heap.push { cls:=.type "list",data:=.seq ([]:List Value).toArray } })
  (R:=λ(q:Result) (s':Al)=>∃(h':Heap) (tk:Nat) (acc':Array Value) (c':Nat),q=.ok (.ret (.ref s.heap.objs.size))/\s'={ s with heap:=h',toks:=tk } /\
   (∀b o,s.heap.get? b=some o->h'.get? b=some o)/\h'.get? s.heap.objs.size=some { cls:=.type "list",dict:=none,data:=.seq acc' c',slots:=#[] }/\ItemsOf (λi v=>∃t,v=.int (a+i * c) t) acc' n)
  hh (Am _ hr) hsmall hn hlen s.heap.objs.size (.ref s.heap.objs.size) 0 hS₁
  (λh' tk acc' c' hk hS' hacc=>⟨h',tk,acc',c',rfl,rfl,λb o e=>hk b o (Cs (Br e)) (Am _ e),hS',hacc⟩)
 refine Gy key (λfin s' x=>?_) λe s' x=>?_
 ·cases fin with
  | done f =>
   obtain ⟨h',tk,acc',c',e,rfl,hk,hS',hacc⟩:=x
   cases e
   show wpAny _ A (load s.heap.objs.size >>= _) _ _ _
   refine Ae (wpAny_load hS' ?_)
   exact Ak (h h' tk acc' hk hacc)
  | again c₁ =>
   refine ⟨x.1,Lf x.2 λq s₂ y=>?_⟩
   obtain ⟨h',tk,acc',c',rfl,rfl,hk,hS',hacc⟩:=y
   show wpAny _ A (load s.heap.objs.size >>= _) _ _ _
   refine Ae (wpAny_load hS' ?_)
   exact Ak (h h' tk acc' hk hacc)
 ·obtain ⟨_,_,_,_,e',_⟩:=x
  cases e'
theorem Wt{Q₁:Value->Al->Prop}{r:Addr}{a b c:Int}{t u v:Tok}{n:Nat}(hh:A.handled=none)(hr:IsRange s.heap r a b c t u v)(hsmall:Builtin.Range.small a b c=true)(hn:Kk a b c=n)(hlen:n<=1000)(h:∀(h':Heap) (tk:Nat) (acc:Array Value),(∀b o,s.heap.get? b=some o->h'.get? b=some o)->ItemsOf (λi v=>∃t,v=.int (a+i * c) t) acc n->Q₁ (.ref h'.objs.size) { s with heap:=h'.push { cls:=.type "tuple",data:=.seq acc },toks:=tk }):Ng (model prog w) A (.call (.builtin "tuple.__new__") ⟨[.type "tuple",.ref r],[]⟩) (wants Q₁ E) s:=by
 refine Vq ?_
 show wpAny _ A.in1 (do checkBuiltinCall "tuple.__new__" ⟨[.type "tuple",.ref r],[]⟩; again (.builtin "tuple.__new__" ⟨[.type "tuple",.ref r],[]⟩)) _ _ s
 refine Ae (Mq (F.newCall_tuple_1 _) (Ak ⟨Ov F.plain_tuple_new _,Fz F.entry_tuple_new ?_⟩))
 rw[Fj F.plain_tuple_new _]
 have hsub:=sub_tuple_self
 have hinit:=init_tuple_lookup
 have hmh:=madeHere_tuple
 have hTI:s.TypeIs (.ref r) "range" := ⟨_,hr,rfl⟩
 have hh1:A.in1.handled=none:=hh
 wp_walk using Na hTI,cR hh1 hr hsmall hn (by omega)
 intro h' tk acc hm hacc
 show wpAny _ _ (Di acc.toList.toArray >>= λv=>ret v) _ _ _
 unfold Di
 refine Ae (Dk ?_ (by show acc.toList.toArray.size<=Bd; simp only[Array.toArray_toList]; rw[hacc.1,Ig]; omega))
 refine Ak ?_
 have e:acc.toList.toArray=acc:=by simp
 rw[e]
 exact h h' tk acc hm hacc
end
theorem cW:∀{n:Nat} {acc:Array Value},acc.size=n->(∀(i:Nat) v,acc[i]? = some v->∃t,v=Ox (i:Int) t)->Lg acc.toList ((Bh n).map λk:Nat=>(k:Int)):=by
 intro n acc hs h
 have gen:∀(l:List Value) (m:Nat),(∀(i:Nat) v,l[i]? = some v->∃t,v=Ox ((m+i:Nat):Int) t)->Lg l ((List.range' m l.length).map λk:Nat=>(k:Int)):=by
  intro l
  induction l with
  | nil=>intro m _; exact .nil
  | cons x l ih =>
   intro m hx
   obtain ⟨t,e⟩:=hx 0 x rfl
   have:=ih (m+1) λi v hv=>by
    obtain ⟨t,e⟩:=hx (i+1) v hv
    exact ⟨t,by rw[e]; congr 1; omega⟩
   rw[Be,List.range'_succ,Bb]
   rw[e]
   exact .cons _ t this
 have:=gen acc.toList 0 λi v hv=>by
  obtain ⟨t,e⟩:=h i v (by simpa using hv)
  exact ⟨t,by rw[e]; congr 1; omega⟩
 rw[List.range_eq_range']
 have e:acc.toList.length=n:=by simpa using hs
 rw[e] at this
 exact this
section
variable{X:Cx}
def Y7:List V->Hp->VK->Prop:=λxs H Q=>∃j:Int,xs=[.int j]/\∀r,H r=none->Q (.ref r) (upd H r (vH r j))
theorem lH:Jz X (.type "range") Y7:=by
 intro pins s σ H xs us Q I r h
 obtain ⟨j,rfl,q⟩:=h
 obtain ⟨u,rfl,t,rfl⟩:=vals1 r
 refine call_range_1 ⟨.ref s.heap.objs.size,_,I.laid (a:=s.heap.objs.size) (o:=vH s.heap.objs.size j) (t':=s.toks+1+1) (λb o e=>Am _ e) (An _) ?_,rfl,q _ (I.hok.fresh (An _))⟩
 refine ⟨⟨_,_,_,Bl _ rfl⟩,⟨_,Bl _ rfl⟩,λh1 h2 ⟨t,u,v,e⟩ k=>⟨t,u,v,k _ e⟩⟩
def Z5:List V->Hp->VK->Prop:=λxs H Q=>∃(r:Addr) (j:Int),xs=[.ref r]/\H r=some (vH r j)/\0<=j/\j<=1000/\∀l,H l=none->Q (.ref l) (upd H l (.tup (((Bh j.toNat).map λn:Nat=>(n:Int)).map V.int)))
theorem lZ(hc:X.calm=true):Jz X (.type "tuple") Z5:=by
 intro pins s σ H xs us Q I r h
 obtain ⟨p,j,rfl,hp,j0,j1,q⟩:=h
 obtain ⟨u,rfl,ru⟩:=vals1 r
 cases ru
 obtain ⟨⟨t,u,v,hr⟩,_,_⟩:=(show Gq X.prog X.w H s.heap p (vH p j) from I.hok p _ hp)
 have hn:Kk 0 j 1=((j.toNat:Nat):Int):=by rw[rangeSize_one]; split <;> omega
 refine callType_codes (Q₁:=λobj s₁=>s₁.TypeIs obj "tuple" /\ EP X pins σ Q obj s₁) F.called_tuple (F.typeCall_tuple_1 _) F.entry_object_init
  (Wt (prog:=X.prog) (w:=X.w) (E:=X.xe) (Q₁:=λobj s₁=>s₁.TypeIs obj "tuple" /\ EP X pins σ Q obj s₁) (A:=X.A.in1) (show X.A.in1.handled=none from I.ok.hd hc) hr (small_one (by omega) (by omega) (by omega) (by omega)) hn (by omega) λh' tk acc hk hacc=>⟨⟨_,Bl _ rfl,rfl⟩,?_⟩) λobj s₁ h₁=>?_
 ·have I1:Inv X pins σ H { s with heap:=h',toks:=tk }:=I.kept hk
  have hv:Fe (((Bh j.toNat).map λn:Nat=>(n:Int)).map V.int) acc.toList:=by
   refine F5 (cW ?_ ?_)
   ·exact hacc.1
   ·intro i v hv
    obtain ⟨t,e⟩:=hacc.2 i v hv
    exact ⟨t,by rw[e]; congr 1; omega⟩
  refine ⟨.ref h'.objs.size,_,I1.laid (a:=h'.objs.size) (o:=.tup (((Bh j.toNat).map λn:Nat=>(n:Int)).map V.int)) (t':=tk) (λb o e=>Am _ e) (An _) ⟨?_,acc.toList,hv,?_⟩,rfl,q _ (I1.hok.fresh (An _))⟩
  ·rw[Ad,Ad,Cy]; exact sz (by omega)
  ·have e:acc=acc.toList.toArray:=by simp
   rw[e]
   exact IsTup.new _ _
 ·exact ⟨h₁.1,F.args_object_init_2 obj _,object_init_meets F.called_tuple.init.lookup F.called_tuple.made (by decide) X.prog X.w X.A.in1 _ s₁ ⟨h₁.1,rfl,h₁.2⟩⟩
end
end Nd
namespace DL
open PySem PySem.Spec PyProof.Rows L2 Nd
def W2(K:PySem.W.Frag)(pf:PF):Sp:=λus H Q _=>∃(As:List Ent) (n:Nat) (ds:List Ac) (R:Ac->Prop) (C:List Addr),As.map Ent.v=us.map some/\(∀e∈As,Ka K H n e)/\datas (As.map Ent.x)=some ds/\pf ds R/\(∀a∈C,H a≠none/\∀e∈As,a∉e.F) /\
 ∀v d F H',R d->RdF K H' v d F->(∀a∈F,a∉C)->Same H H'->Q v H'
def retA(R:Ac->Prop):DEnds where
 nx:=λ_=>R .none
 rt:=λx _=>∃m d,x=.dat m d/\m≠.pk/\R d
section
variable{K:PySem.W.Frag}{H0 H H':Hp}{X:Addr->Prop}{n:Nat}{E S T:List Ent}
theorem At.pushS(h:At K H0 X n E H){v:V}{d:Ac}{F:List Addr}(r:RdF K H v d F)(fr:∀f∈E,∀a∈cells f,a∉F):At K H0 X n (⟨some v,.dat .sh d,F⟩::E) H :=
 h.push ⟨v,rfl,r,λz=>(nomatch z),λz=>(nomatch z)⟩ (λf hf=>⟨λ_ a ha=>(nomatch ha),λ_ a ha=>fr f hf a ha⟩) λa ha=>(nomatch ha)
end
section
variable{P:Bs}{w:World}{K:PySem.W.Frag}{mg:Str->Option Value}{base:Heap}
theorem BU{As:List Ent}{k:Nat}:∀e∈As.map Ws++Gr k,∀a∈e.F,∃f∈As,a∈f.F:=λe he a ha=>by
 rcases Ay.mp he with he | he
 ·obtain ⟨f,hf,rfl⟩:=Bq.mp he
  refine ⟨f,hf,?_⟩
  obtain ⟨v,x,F⟩:=f
  cases x <;> exact ha
 ·rw[(Hh.mp he).2] at ha
  exact nomatch ha
theorem wY{x qual:Str}{st:Stmt}{f:Addr}{fd:Cg}{N ps:List Str}{k:Nat}{pf:PF}{db:DB}(F:Fun K x qual st f fd)(S:FnScope N ps (Bo st))(hb:∀(cdv:Value) (A:Dj) (outer:List Env) (s:Al) (H:Hp) (E:XK),Room k (A.deeper (Pn qual (Bo st) s.heap.objs.size f cdv))->Wg (Lq Fw P w K mg base N qual (Bo st) f cdv A outer s H E).nox (Jg st) db)(h:∀ds R,pf ds R->ds.length=ps.length/\db (retA R) ⟨args0 ds (N.length - ps.length),0⟩):FnOk P w K mg base Fw (k+1) f fd ps (W2 K pf):=by
 refine F.ok S (λvs H Q E z=>?_) λcdv A outer s H us Q E hr z=>?_
 ·obtain ⟨As,n,ds,R,C,eu,ok,q,hp,_⟩:=z
  have l1:=(h ds R hp).1
  have l2:=Iu q
  rw[Ad] at l2
  have l3:=congrArg Ha eu
  rw[Ad,Ad] at l3
  omega
 ·obtain ⟨As,n,ds,R,C,eu,ok,q,hp,hG,k1⟩:=z
  obtain ⟨l1,hd⟩:=h ds R hp
  have l2:=Iu q
  rw[Ad] at l2
  have l3:=congrArg Ha eu
  rw[Ad,Ad] at l3
  let H0:Hp:=λa=>open Classical in if a∈C then none else H a
  have h0n:∀{a},a∈C->H0 a=none:=λz=>if_pos z
  have h0s:∀{a},a∉C->H0 a=H a:=λz=>if_neg z
  -- what holds at the end
  have ends:∀{E':List Ent} {n':Nat} {H':Hp},At K H0 (λ_=>False) n' (E'++[⟨none,.grd H,C⟩]) H'->Same H H':=λ{E' n' H'} hA b o e=>by
   by_cases hb:b∈C
   ·obtain ⟨o',g1,g2⟩:=hA.ok _ (Ao _ Ab) b hb
    rw[e] at g1
    cases g1
    exact g2
   ·exact hA.same b o (λz=>z) (by rw[h0s hb]; exact e)
  refine ⟨_,hb cdv A outer s H E hr,H0,λ_=>False,As.map Ws++Gr (N.length - ps.length),[⟨none,.grd H,C⟩],⟨args0 ds (N.length - ps.length),0⟩,retA R,?_,?_,λe z=>?_,?_,hd,λδ' S' H' e1 hA p=>?_,λx δ' v F' S' H' e1 hA p=>?_,λ_ _ _ _ _ p=>p.elim,λ_ _ _ _ _ p=>p.elim⟩
  ·unfold vs L2.start Gr
   rw[Bp,n5,eu,Me,show us.length=ps.length by omega]
  ·unfold Sl args0 Gr
   rw[Bp,Rq q,Me]
  ·rw[Ag.mp z]; rfl
  ·have hs:=Yt q (N.length - ps.length)
   have hF:=BU (As:=As) (k:=N.length - ps.length)
   have gF:∀e∈As.map Ws++Gr (N.length - ps.length),∀a∈C,a∉e.F:=λe he a ha z=>by
    obtain ⟨f,hf,zf⟩:=hF e he a z
    exact (hG _ ha).2 f hf zf
   refine ⟨λe he=>?_,Cn.mpr ⟨Pq λa ha b hb'=>⟨λhq c hc=>?_,λhq c hc=>?_⟩,Gg _ _,λa ha b hb'=>⟨λhq c hc=>?_,λhq c hc=>?_⟩⟩,λe he a ha=>?_,λb o _ e=>?_,λb o e=>?_,λb hb=>hb.elim⟩
   ·rcases Ay.mp he with he | he
    ·have:=pG q ok (N.length - ps.length) e he
     obtain ⟨v,x,F⟩:=e
     cases x with
     | drw=>exact absurd (hs _ he).2 (by show ¬ (true=false); decide)
     | _=>exact this
    ·rw[Ag.mp he]
     intro a ha
     have:=(hG _ ha).1
     cases q:H a with
     | none=>exact absurd q this
     | some o=>exact ⟨o,by first | rfl | exact q,by first | rfl | exact q⟩
   ·rw[(hs a ha).1] at hc; cases hc
   ·rw[(hs b hb').1] at hc; cases hc
   ·rw[(hs a ha).1] at hc; cases hc
   ·rw[Ag.mp hb'] at hc
    exact gF a ha c hc
   ·rcases Ay.mp he with he | he
    ·rw[(hs e he).1] at ha; cases ha
    ·rw[Ag.mp he] at ha
     exact .inl (h0n ha)
   ·by_cases hb:b∈C
    ·rw[h0n hb] at e; cases e
    ·rw[h0s hb] at e; exact e
   ·by_cases hb:b∈C
    ·rw[h0n hb] at e; cases e
    ·rw[h0s hb] at e; exact ⟨o,e⟩
  ·exact k1 .non .none [] H' p .non (λ_ z=>(nomatch z)) (ends hA)
  ·obtain ⟨m,d,rfl,hm,r⟩:=p
   obtain ⟨u,e2,rd,_⟩:=hA.ok _ mem_mid
   cases e2
   have hA2:At K H0 (λ_=>False) δ'.n ((S'++[⟨some v,.dat m d,F'⟩])++[⟨none,.grd H,C⟩]) H':=by rw[Dq]; exact hA
   refine k1 v d F' H' r rd (λa ha=>?_) (ends hA2)
   have sp:=(Cn.mp hA2.sep).2.2 _ (Ao _ Ab) _ Ab
   exact λz=>sp.2 (.inr rfl) a z ha
end
def xP(pf:PF)(da:DA):DE:=λδ P=>da δ λxs δ1=>noPk xs=true/\match datas xs with
 | some ds=>pf ds λd=>P (.dat .sh d) δ1
 | none=>False
theorem aJ:∀{As:List Ent},noPk (As.map Ent.x)=true->∀e∈As,Mv e.x=false
 | [],_,e,he=>nomatch he
 | ⟨v,x,F⟩::As,h,e,he=>by
  rw[Bb] at h
  have hh:Mv x=false/\noPk (As.map Ent.x)=true:=by
   cases x with
   | dat m d=>cases m <;> first | exact ⟨rfl,h⟩ | (simp [noPk] at h)
   | _=>exact ⟨rfl,by simpa [noPk] using h⟩
  rcases Ai.mp he with rfl | he
  ·exact hh.1
  ·exact aJ hh.2 e he
section
variable{X:Cx}{CX:qQ}{k:Nat}{f:Addr}{fd:Cg}{ps:List Str}{pf:PF}{E:XK}{x:Str}{p pos:Pos}{e:Expr}{es:List Expr}{da:DA}
theorem Zf(F:FnOk X.prog X.w X.K X.mg X.base CX k f fd ps (W2 X.K pf))(hr:Room k X.A)(hg:Gl X x)(hm:X.mg x=some (.ref f))(hk:PySem.W.keepIn X.K (.ref f)=true)(hb:Binds X.K fd ps [])(hx:Pi CX X E)(ha:mE X (e::es) da)(hdb:(x == ("__debug__" : Str))=false:=by decide)(he:Bz (e::es) X.env=(false,eval e X.env)::Bz es X.env:=by rfl)(hpl:(Kl pos (Bz es X.env)).any (·.1)=false:=by rfl):Em X (.Call (.Name x p) (e::es) [] pos) (xP pf da):=by
 refine PE.imp (Ux F hr hg hm hk hb .nil hx ha hdb he hpl) λσ H Q h=>?_
 obtain ⟨H0,Y,S,T,δ,P,rfl,hS,hA,hd,kk⟩:=h
 refine ⟨H0,Y,S,T,δ,_,rfl,hS,hA,hd,λxs δ' As us S' H' e1 e2 ex eu hA' p=>?_⟩
 subst ex
 obtain ⟨np,p⟩:=p
 cases q:datas (As.map Ent.x) with
 | none=>rw[q] at p; exact p.elim
 | some ds =>
  rw[q] at p
  rw[Ec]
  have hAs:=aJ np
  have hE:=hA'.dropL
  refine ⟨As,δ'.n,ds,_,(S'++T).flatMap cells,eu,λe he=>hA'.ok e (Ao _ (Ap _ he)),q,p,λa ha=>?_,λv d F H'' r rd fr s=>?_⟩
  ·obtain ⟨g,hg1,hg2⟩:=El.mp ha
   refine ⟨λz=>?_,λe he=>?_⟩
   ·obtain ⟨o,q⟩:=(hE.ok g hg1).dom a (Ex _ _ hg2)
    rw[z] at q; cases q
   ·obtain ⟨_,hp2,hp⟩ := Cn.mp hA'.sep
    rcases Ay.mp hg1 with hg1 | hg1
    ·exact (hp g hg1 e (Ap _ he)).1 (.inl (hAs e he)) a hg2
    ·exact ((Cn.mp hp2).2.2 e he g hg1).2 (.inl (hAs e he)) a hg2
  ·refine kk _ δ' v F S' H'' e1 e2 (((hE.grow s (An _)).pushS rd λf hf a ha z=>fr a z (El.mpr ⟨f,hf,ha⟩)).tomid) r
end
def CA(da:DA):DE:=λδ P=>da δ λxs δ1=>match xs with
 | [.dat _ (.tuple ds)]=>∃ns:List Int,ds=ns.map Ax/\(∀x∈ns,0<=x/\x<60)/\P (.dat .ow (.list ((Yb ns).map Ax))) δ1
 | _=>False
section
variable{X:Cx}{p p2 pos pos2:Pos}{e:Expr}{da:DA}
theorem Q7(hc:X.calm=true)(hg:Gl X "sorted")(hm:X.mg "sorted" = none)(hg2:Gl X "set")(hm2:X.mg "set" = none)(ha:mE X [e] da)(he:Bz [e] X.env=[(false,eval e X.env)]:=by rfl)(he2:Bz [.Call (.Name "set" p2) [e] [] pos2] X.env=[(false,eval (.Call (.Name "set" p2) [e] [] pos2) X.env)]:=by rfl):Em X (.Call (.Name "sorted" p) [.Call (.Name "set" p2) [e] [] pos2] [] pos) (CA da):=by
 refine PE.imp (Ze (gB hc) hg hm (by decide +kernel) (Hu (Pr (xS hc) hg2 hm2 (by decide +kernel) ha (by decide) (by decide) he rfl) Pj he2) (by decide) (by decide) he2 rfl) λσ H Q h=>?_
 obtain ⟨H0,Y,S,T,δ,P,rfl,hS,hA,hd,k⟩:=h
 refine ⟨H0,Y,S,T,δ,_,rfl,hS,hA,hd,λxs δ' As us S' H' e1 e2 ex eu hA' p=>?_⟩
 split at p
 ·obtain ⟨v,F,rfl,hA2⟩:=Ht eu hA' ex
  obtain ⟨ns,rfl,hb,pp⟩:=p
  obtain ⟨a,xs,rfl,ha,ra,hz⟩:=(hA2.told mem_mid).tup_inv
  obtain ⟨rfl,_⟩:=ra.ints_inv
  refine ⟨a,ns,FV,rfl,Uj.of ha,by decide,λx hx=>Yy (hb x hx).1 (hb x hx).2,λq hq=>?_⟩
  refine ⟨q,ns,rfl,Dt,λr us nr nd pw mem=>?_⟩
  rw[x4 (eJ nd pw) mem]
  have s1:=Ff hq (mH X.w q ns)
  exact k _ δ' _ _ S' _ e1 e2 ((hA2.drop.grow s1 (An _)).newI (RdFs.ints _) (Mn _) (by rw[Ad]; exact sz (by have:=jL hb; omega)) nr .ow) pp
 ·exact p.elim
end
def Ub(j:Nat):List Int:=(Bh j).map λn:Nat=>(n:Int)
def DJ(x:DV)(δ:DS)(P:DV->DS->Prop):Prop:=match x with
 | .dat _ (.int j)=>0<=j/\j<=1000/\P (.dat .ow (Au (Ub j.toNat))) δ
 | _=>False
def FP(de:DE):DE:=λδ P=>de δ λx δ1=>DJ x δ1 P
section
variable{X:Cx}{p p2 pos pos2:Pos}{e:Expr}{de:DE}
theorem fA(hc:X.calm=true)(hg:Gl X "tuple")(hm:X.mg "tuple" = none)(hg2:Gl X "range")(hm2:X.mg "range" = none)(ha:Em X e de)(he:Bz [e] X.env=[(false,eval e X.env)]:=by rfl)(he2:Bz [.Call (.Name "range" p2) [e] [] pos2] X.env=[(false,eval (.Call (.Name "range" p2) [e] [] pos2) X.env)]:=by rfl):Em X (.Call (.Name "tuple" p) [.Call (.Name "range" p2) [e] [] pos2] [] pos) (FP de):=by
 refine PE.imp (Pr (lZ hc) hg hm (by decide +kernel) (Hu (Pr lH hg2 hm2 (by decide +kernel) (Hu ha Pj he) (by decide) (by decide) he rfl) Pj he2) (by decide) (by decide) he2 rfl) λσ H Q h=>?_
 obtain ⟨H0,Y,S,T,δ,P,rfl,hS,hA,hd,k⟩:=h
 refine ⟨H0,Y,S,T,δ,_,rfl,hS,hA,hd,λx δ' v F S' H' e1 e2 hA' p=>?_⟩
 unfold DJ at p
 split at p
 ·rename_i m j
  obtain ⟨j0,j1,p⟩:=p
  obtain ⟨rfl,_⟩:=(hA'.told mem_mid).int_inv
  refine ⟨j,rfl,λr nr=>⟨r,j,rfl,Dt,j0,j1,λl nl=>?_⟩⟩
  have s1:=Ff nr (vH r j)
  have s2:=Ff nl (.tup ((Ub j.toNat).map V.int))
  refine k _ δ' _ _ S' _ e1 e2 (((hA'.drop.grow s1 (An _)).grow s2 (An _)).pushI (RdF.tup Dt ?_ (RdFs.ints _))) p
  rw[Ad]
  unfold Ub
  rw[Ad,Cy]
  exact fP (by omega)
 ·exact p.elim
end
def mJ(K:PySem.W.Frag)(df:DF):Sp:=λus H Q _=>∃(dr:Addr) (ws:List V) (As:List Ent) (n:Nat) (ds:List Ac) (R:Ac->Nat->Prop) (C:List Addr),us=.ref dr::ws/\As.map Ent.v=ws.map some/\(∀e∈As,Ka K H n e)/\(∀e∈As,dr∉e.F)/\(∃c k f,Xs H dr c k f/\0<=k/\k<=(n:Int))/\datas (As.map Ent.x)=some ds/\df ds n R /\
 dr∉C/\(∀a∈C,H a≠none/\∀e∈As,a∉e.F) /\
 ∀v d F n' H',n<=n'->R d n'->RdF K H' v d F->(∀a∈F,a∉C)->Tp dr H H'->(∃c k f,Xs H' dr c k f/\0<=k/\k<=(n':Int))->Q v H'
def retWT(n:Nat)(R:Ac->Nat->Prop):DEnds where
 nx:=λδ=>n<=δ.n/\R .none δ.n
 rt:=λx δ=>n<=δ.n/\∃m d,x=.dat m d/\m≠.pk/\R d δ.n
section
variable{P:Bs}{w:World}{K:PySem.W.Frag}{mg:Str->Option Value}{base:Heap}
theorem kZ{x qual:Str}{st:Stmt}{f:Addr}{fd:Cg}{N ps:List Str}{p0:Str}{k:Nat}{df:DF}{db:DB}(F:Fun K x qual st f fd)(S:FnScope N (p0::ps) (Bo st))(hb:∀(cdv:Value) (A:Dj) (outer:List Env) (s:Al) (H:Hp) (E:XK),Room k (A.deeper (Pn qual (Bo st) s.heap.objs.size f cdv))->Wg (Lq Fw P w K mg base N qual (Bo st) f cdv A outer s H E).nox (Jg st) db)(h:∀ds n R,df ds n R->ds.length=ps.length/\db (retWT n R) ⟨.drw::args0 ds (N.length - (p0::ps).length),n⟩):FnOk P w K mg base Fw (k+1) f fd (p0::ps) (mJ K df):=by
 refine F.ok S (λvs H Q E z=>?_) λcdv A outer s H us Q E hr z=>?_
 ·obtain ⟨dr,ws,As,n,ds,R,C,rfl,eu,ok,nd,hdr,q,hp,_⟩:=z
  have l1:=(h ds n R hp).1
  have l2:=Iu q
  rw[Ad] at l2
  have l3:=congrArg Ha eu
  rw[Ad,Ad] at l3
  rw[Be,Be]
  omega
 ·obtain ⟨dr,ws,As,n,ds,R,C,rfl,eu,ok,ndr,hdr,q,hp,hC,hG,k1⟩:=z
  obtain ⟨l1,hd⟩:=h ds n R hp
  have l2:=Iu q
  rw[Ad] at l2
  have l3:=congrArg Ha eu
  rw[Ad,Ad] at l3
  let H0:Hp:=λa=>open Classical in if a∈C then none else H a
  have h0n:∀{a},a∈C->H0 a=none:=λz=>if_pos z
  have h0s:∀{a},a∉C->H0 a=H a:=λz=>if_neg z
  have ends:∀{E':List Ent} {n':Nat} {H':Hp},At K H0 (·=dr) n' (E'++[⟨none,.grd H,C⟩]) H'->Tp dr H H':=λ{E' n' H'} hA b o nb e=>by
   by_cases hb:b∈C
   ·obtain ⟨o',g1,g2⟩:=hA.ok _ (Ao _ Ab) b hb
    rw[e] at g1
    cases g1
    exact g2
   ·exact hA.same b o nb (by rw[h0s hb]; exact e)
  refine ⟨_,hb cdv A outer s H E hr,H0,(·=dr),⟨some (.ref dr),.drw,[dr]⟩::(As.map Ws++Gr (N.length - (p0::ps).length)),[⟨none,.grd H,C⟩],⟨.drw::args0 ds (N.length - (p0::ps).length),n⟩,retWT n R,?_,?_,λe z=>?_,?_,hd,λδ' S' H' e1 hA p=>?_,λx δ' v F' S' H' e1 hA p=>?_,λ_ _ _ _ _ p=>p.elim,λ_ _ _ _ _ p=>p.elim⟩
  ·unfold vs L2.start Gr
   rw[Bb,Bp,n5,eu,Me,Be,Be,show ws.length=ps.length by omega]
   rfl
  ·unfold Sl args0 Gr
   rw[Bb,Bp,Rq q,Me]
  ·rw[Ag.mp z]; rfl
  ·have hs:=Yt q (N.length - (p0::ps).length)
   have hF:=BU (As:=As) (k:=N.length - (p0::ps).length)
   have gF:∀e∈As.map Ws++Gr (N.length - (p0::ps).length),∀a∈C,a∉e.F:=λe he a ha z=>by
    obtain ⟨f,hf,zf⟩:=hF e he a z
    exact (hG a ha).2 f hf zf
   have hsub:∀e∈As.map Ws++Gr (N.length - (p0::ps).length),dr∉e.F:=λe he z=>by
    obtain ⟨f,hf,zf⟩:=hF e he dr z
    exact ndr f hf zf
   have dom0:H0 dr≠none:=by
    rw[h0s hC]
    obtain ⟨c,kk,fl,z1,z2⟩:=hdr
    exact λz=>(by rw[show H dr=some _ from z1] at z; cases z)
   refine ⟨λe he=>?_,Ba.mpr ⟨λb hb'=>?_,Cn.mpr ⟨Pq λa ha b hb'=>⟨λhq c hc=>?_,λhq c hc=>?_⟩,Gg _ _,λa ha b hb'=>⟨λhq c hc=>?_,λhq c hc=>?_⟩⟩⟩,λe he a ha=>?_,λb o _ e=>?_,λb o e=>?_,λb hb=>?_⟩
   ·rcases Ai.mp he with rfl | he
    ·obtain ⟨c,kk,fl,z1,z2,z3⟩:=hdr
     exact ⟨dr,c,kk,fl,rfl,rfl,z1,z2,z3⟩
    ·rcases Ay.mp he with he | he
     ·exact pG q ok _ e he
     ·rw[Ag.mp he]
      intro a ha
      have:=(hG a ha).1
      cases q:H a with
      | none=>exact absurd q this
      | some o=>exact ⟨o,by first | rfl | exact q,by first | rfl | exact q⟩
   ·rcases Ay.mp hb' with hb' | hb'
    ·refine ⟨λhq c hc=>?_,λhq c hc=>?_⟩
     ·rw[Ag.mp hc]; exact hsub b hb'
     ·rw[(hs b hb').1] at hc; cases hc
    ·rw[Ag.mp hb']
     refine ⟨λhq c hc=>?_,λhq c hc z=>?_⟩
     ·rw[Ag.mp hc]; exact hC
     ·rw[Ag.mp z] at hc; exact hC hc
   ·rw[(hs a ha).1] at hc; cases hc
   ·rw[(hs b hb').1] at hc; cases hc
   ·rw[(hs a ha).1] at hc; cases hc
   ·rw[Ag.mp hb'] at hc
    exact gF a ha c hc
   ·rcases Ai.mp he with rfl | he
    ·rw[Ag.mp ha]
     exact .inr ⟨rfl,rfl⟩
    ·rcases Ay.mp he with he | he
     ·rw[(hs e he).1] at ha; cases ha
     ·rw[Ag.mp he] at ha
      exact .inl (h0n ha)
   ·by_cases hb:b∈C
    ·rw[h0n hb] at e; cases e
    ·rw[h0s hb] at e; exact e
   ·by_cases hb:b∈C
    ·rw[h0n hb] at e; cases e
    ·rw[h0s hb] at e; exact ⟨o,e⟩
   ·subst hb
    obtain ⟨c,kk,fl,z1,z2⟩:=hdr
    exact ⟨dom0,c,kk,fl,z1,z2⟩
  ·exact k1 .non .none [] δ'.n H' p.1 p.2 .non (λ_ z=>(nomatch z)) (ends hA) (hA.xd dr rfl).2
  ·obtain ⟨hn,m,d,rfl,hm,r⟩:=p
   obtain ⟨u,e2,rd,_⟩:=hA.ok _ mem_mid
   cases e2
   have hA2:At K H0 (·=dr) δ'.n ((S'++[⟨some v,.dat m d,F'⟩])++[⟨none,.grd H,C⟩]) H':=by rw[Dq]; exact hA
   refine k1 v d F' δ'.n H' hn r rd (λa ha=>?_) (ends hA2) (hA.xd dr rfl).2
   have sp:=(Cn.mp hA2.sep).2.2 _ (Ao _ Ab) _ Ab
   exact λz=>sp.2 (.inr rfl) a z ha
end
abbrev PX:=List Ac->(Ac->Prop)->(Addr->Prop)->Prop
end DL
namespace Nd
open PySem PySem.Spec PyProof.Rows L2
end Nd
namespace DL
open PySem PySem.Spec PyProof.Rows L2 Nd
end DL
namespace Nd
open PySem PySem.Spec PyProof.Rows L2
end Nd
namespace Nd
open PySem PySem.Spec
end Nd
namespace Nd
open PySem PySem.Spec PyProof.Rows L2
end Nd
namespace DL
open PySem PySem.Spec PyProof.Rows L2 Nd
end DL
namespace Nd
open PySem PySem.Spec PyProof.Rows L2
end Nd
namespace DL
open PySem PySem.Spec PyProof.Rows L2 Nd
end DL
namespace Nd
open PySem PySem.Spec PyProof.Rows L2
end Nd
namespace DL
open PySem PySem.Spec PyProof.Rows L2 Nd
end DL
namespace Ts
open PySem PyProof.Rows L2
end Ts
namespace DL
open PySem PySem.Spec PyProof.Rows L2 Nd Ts
end DL
namespace DL
open PySem PySem.Spec PyProof.Rows L2 Nd
end DL
namespace Nd
open PySem PySem.Spec PyProof.Rows L2
end Nd
namespace DL
open PySem PySem.Spec PyProof.Rows L2 Nd
theorem E9{a b:Addr}{x y:List (List Int×Ac)}(h:U2 a x=U2 b y):a=b/\x=y:=by
 obtain ⟨h1,h2⟩:=Fu h
 refine ⟨Int.ofNat.inj (PyData.int.inj (Prod.mk.inj h1).2),?_⟩
 refine Vd (λx y e=>?_) h2
 obtain ⟨e1,e2⟩:=Prod.mk.inj e
 exact Prod.ext (Hz e1) e2
def A9:D2:=λx y P=>match x,y with
 | .dat _ (.dict X),.dat _ k=>∃a ks w d,X=U2 a ks/\k=Au w/\Ue ks w=some d/\P (.dat .ow d)
 | _,_=>False
end DL
namespace Nd
open PySem PySem.Spec PySem.Calls PyProof.Rows PyProof.V L2 Ts
end Nd
namespace DL
open PySem PySem.Spec PyProof.Rows L2 Nd Ts
theorem tab_no{K:PySem.W.Frag}{x:Str}(nm:PySem.W.nsIn K Co x=some none):PySem.W.tabIn K x=none:=by
 unfold PySem.W.tabIn
 rw[nm]
end DL
namespace HT
open PySem PyProof.Rows
end HT
namespace Nd
open PySem PySem.Spec PySem.Calls PyProof.Rows PyProof.V L2 Ts
end Nd
namespace DL
open PySem PySem.Spec PyProof.Rows L2 Nd Ts
end DL
namespace DL
open PySem PySem.Spec PyProof.Rows L2 Nd
def EW(K:PySem.W.Frag):V->List V->Hp->VK->Prop:=λx xs H Q=>∃p ys y d ds j,x=.ref p/\xs=[y]/\Tq K H p ys/\RdV K H y d/\RdVs K H ys ds/\Bc ds<=60/\ds.findIdx? (λe=>Dv e d)=some j/\Q (.int (j:Nat)) H
theorem aX{X:Cx}{pins:List (Addr×Obj)}{σ:L2.St}{H:Hp}{s:Al}(I:Inv X pins σ H s){d:Ac}:∀{xs:List V} {ds:List Ac} {us:List Value},RdVs X.K H xs ds->Fe xs us->∀(j:Nat) (e:Ac) (u:Value),ds[j]? = some e->us[j]? = some u->Ls X.K H d u=Dv e d
 | _,_,_,.nil,r,j,e,u,h1,h2=>by simp at h1
 | _,_,_,.cons h t,r,0,e,u,h1,h2=>by
  cases r with
  | cons r1 r2 =>
   simp at h1 h2
   subst h1 h2
   exact bD I h r1
 | _,_,_,.cons h t,r,j+1,e,u,h1,h2=>by
  cases r with
  | cons r1 r2=>exact aX I t r2 j e u (by simpa using h1) (by simpa using h2)
theorem uS{X:Cx}(hu:X.A.units+64<cLine):FQ X "list.index" (EW X.K):=by
 intro pins s σ H x xs v us Q I rx rs h
 obtain ⟨p,ys,y,d,ds,j,rfl,rfl,hq,hy,hs,hd,hj,q⟩:=h
 cases rx
 obtain ⟨u,rfl,ry⟩:=vals1 rs
 obtain ⟨its,r,pl,hz⟩:=I.list hq
 have hu1:X.A.in1.units+Bc ds<cLine:=by have:=Sk X.A; omega
 obtain ⟨⟨cls,dd,data,sl⟩,ho,hc,n,hd2⟩:=id pl.isList
 simp only at hc hd2
 subst hc hd2
 have l1:=r.length
 have l2:=hs.length
 obtain ⟨hjl,hit,hno⟩:=Xq.mp hj
 have hn:=Uc
 have hjs:j<its.toArray.size:=by rw[Aq]; omega
 refine bY PySem.F.slot_list_index ⟨_,ho,rfl⟩ PySem.F.entry_list_index (PySem.F.args_list_index_2 _ _)
  (PySem.SeqAt.list_indexAt p its.toArray n dd sl u (Ls X.K H d) j hjs (by omega) ?_ ?_) ⟨ho,λw hw=>Nx I hy ry hs r hu1 w (by simpa using hw),⟨.int (j:Nat),H,I.tok _,⟨_,rfl⟩,q⟩⟩
 ·rw[aX I hs r j ds[j] _ (Bf hjl) (by simp [Bf (show j<its.length by omega)])]
  exact hit
 ·intro m hm hlt
  rw[Aq] at hm
  rw[aX I hs r m (ds[m]'(by omega)) _ (Bf _) (by simp [Bf hm])]
  simpa using hno m hlt
def u4(ds:List Ac)(y:DV)(δ:DS)(P:DV->DS->Prop):Prop:=match y with
 | .dat _ d=>Bc ds<=60/\d.depth<=60/\∃j,ds.findIdx? (λe=>Dv e d)=some j/\P (.dat .ow (.int (j:Nat))) δ
 | _=>False
def t7(x:DV)(δ:DS)(db:DE)(P:DV->DS->Prop):Prop:=match x with
 | .dat _ (.list ds)=>db δ λy δ2=>u4 ds y δ2 P
 | _=>False
def AJ(da db:DE):DE:=λδ P=>da δ λx δ1=>t7 x δ1 db P
section
variable{X:Cx}{o e:Expr}{da db:DE}{apos cpos:Pos}
theorem vN(hu:X.A.units+64<cLine)(ho:Em X o da)(he:Em X e db)
  (hbase:bR o "index" X.env (eval o X.env)=eval o X.env:=by rfl) (hline:(apos.endLine == cpos.line)=true:=by rfl)
  (hfew:((Kl cpos (Bz [e] X.env)).all (λx=>!x.1) && (backToKw cpos (keywordEach [] X.env)).all (λx=>x.1.isSome)
   && decide (([e]:List Expr).length+([]:List Ym).length+(if ([]:List Ym).isEmpty then 0 else 1)<30))=true:=by rfl)
  (hs:Bz [e] X.env=[(false,eval e X.env)]:=by rfl):Em X (.Call (.Attribute o "index" apos) [e] [] cpos) (AJ da db):=by
 refine PE.imp (uQ PySem.F.plainAttrs_list PySem.F.slot_list_index PySem.F.type_list_index (uS hu) ho (Hu he Pj hs) hbase hfew hline hs rfl) λσ H Q h=>?_
 obtain ⟨H0,Y,S,T,δ,P,rfl,hS,hA,hd,k⟩:=h
 refine ⟨H0,Y,S,T,δ,_,rfl,hS,hA,hd,λx δ1 v F S1 H1 e1 e2 hA1 p1=>?_⟩
 unfold t7 at p1
 split at p1
 ·rename_i m ds
  obtain ⟨a,xs,G',rfl,hla,ra,_,_⟩:=(hA1.told mem_mid).list_inv
  refine ⟨.inl ⟨rfl,xs,Tq.of hla⟩,?_⟩
  refine ⟨H0,Y,S1,⟨some (.ref a),.dat m (.list ds),F⟩::T,δ1,_,e1,e2,hA1,p1,λy δ2 w G S2 H2 e3 e4 hA2 p2=>?_⟩
  unfold u4 at p2
  split at p2
  ·obtain ⟨d1,d2,j,hj,p3⟩:=p2
   obtain ⟨b,ys,G2,eb,hlb,rb,_,_⟩:=(hA2.told Ek).list_inv
   cases eb
   refine ⟨a,ys,w,_,ds,j,rfl,rfl,Tq.of hlb,(hA2.told mem_mid).rd (By d2 (by decide)),rb.rd (By d1 (by decide)),d1,hj,?_⟩
   exact k _ δ2 _ [] S2 _ e3 e4 (hA2.drop2.pushI (.int _)) p3
  ·exact p2.elim
 ·exact p1.elim
end
end DL
namespace DL
open PySem L2 Nd
end DL
namespace Nd
open PySem PySem.Spec PyProof.Rows L2
end Nd
namespace DL
open PySem PySem.Spec PyProof.Rows L2 Nd
def G4(i:Nat)(z y:DV)(δ:DS)(D:DEnds):Prop:=match δ.sl[i]?,z,y with
 | some (.dat m (.list ds)),.dat _ (.int k),.dat my e=>own1 m=true/\npk δ.sl=true/\my≠.pk/\ds.length<1000000/\0<=k/\k<=1000000/\D.nx ⟨δ.sl.set i (.dat (mmd m my) (.list (Z3 ds k.toNat e))),δ.n⟩
 | _,_,_=>False
def vP(i:Nat)(dk de:DE):DB:=λD δ=>match δ.sl[i]? with
 | some (.dat _ (.list _))=>dk δ λz δ1=>de δ1 λy δ2=>G4 i z y δ2 D
 | _=>False
def P7:List Ac->Bool
 | [.int _,.int _,.bool _]=>true
 | _=>false
mutual
def Mw:Ac->Bool
 | .list ds=>!P7 ds && Rj ds
 | .tuple ds=>Rj ds
 | .dict _=>false
 | _=>true
def Rj:List Ac->Bool
 | []=>true
 | d::ds=>Mw d && Rj ds
end
theorem Sj{α:Type}{g:α->Ac}{l:List α}(h:∀a∈l,Mw (g a)=true):Rj (l.map g)=true:=by
 induction l with
 | nil=>rfl
 | cons a l ih=>rw[Bb,Rj,h a Ab,ih λb hb=>h b (Ah _ hb)]; rfl
theorem RdFs.drs{K:PySem.W.Frag}{H:Hp}{c k:Int}{f:Bool}{ds:List Ac}{F:List Addr}(r:RdFs K H [.int c,.int k,.bl f] ds F):P7 ds=true:=by
 cases r with
 | cons a t =>
 cases a with
 | int =>
 cases t with
 | cons a t =>
 cases a with
 | int =>
 cases t with
 | cons a t =>
 cases a with
 | bl =>
 cases t with
 | nil=>rfl
section
variable{K:PySem.W.Frag}{H:Hp}{dr:Addr}{c k:Int}{f:Bool}
mutual
theorem RdF.nodr:∀{v:V} {d:Ac} {F:List Addr},Xs H dr c k f->RdF K H v d F->Mw d=true->dr∉F
 | _,_,_,_,.non,_=>λz=>(nomatch z)
 | _,_,_,_,.bl b,_=>λz=>(nomatch z)
 | _,_,_,_,.int i,_=>λz=>(nomatch z)
 | _,_,_,_,.str x,_=>λz=>(nomatch z)
 | _,_,_,hd,.lst ha hz r,hn=>by
  rw[Mw,Eu] at hn
  intro z
  rcases Ai.mp z with z | z
  ·rw[<- z,show H dr=_ from hd] at ha
   cases ha
   rw[r.drs] at hn
   cases hn.1
  ·exact RdFs.nodr hd r hn.2 z
 | _,_,_,hd,.tup ha hz r,hn=>RdFs.nodr hd r (by rw[Mw] at hn; exact hn)
 | _,_,_,hd,.dic ..,hn=>by rw[Mw] at hn; cases hn
 | _,_,_,hd,.dik ..,hn=>by rw[Mw] at hn; cases hn
 | _,_,_,hd,.dnm ..,hn=>by rw[Mw] at hn; cases hn
theorem RdFs.nodr:∀{vs:List V} {ds:List Ac} {F:List Addr},Xs H dr c k f->RdFs K H vs ds F->Rj ds=true->dr∉F
 | _,_,_,_,.nil,_=>λz=>(nomatch z)
 | _,_,_,hd,.cons a t,hn=>by
  rw[Rj,Eu] at hn
  intro z
  rcases Ay.mp z with z | z
  ·exact RdF.nodr hd a hn.1 z
  ·exact RdFs.nodr hd t hn.2 z
end
end
def fQ(i:Nat)(df:DF)(xs:List DV)(δ:DS)(P:DV->DS->Prop):Prop:=match δ.sl[i]?,datas xs with
 | some .drw,some ds=>noPk xs=true/\df ds δ.n λd n'=>Mw d=true/\P (.dat .sh d) ⟨δ.sl,n'⟩
 | _,_=>False
def gD(i:Nat)(df:DF)(da:DA):DE:=λδ P=>match δ.sl[i]? with
 | some .drw=>da δ λxs δ1=>fQ i df xs δ1 P
 | _=>False
section
variable{X:Cx}{CX:qQ}{k:Nat}{f:Addr}{fd:Cg}{ps:List Str}{df:DF}{E:XK}{x:Str}{p pos:Pos}{e0:Expr}{es:List Expr}{da:DA}
theorem eX{i:Nat}(F:FnOk X.prog X.w X.K X.mg X.base CX k f fd ps (mJ X.K df))(hr:Room k X.A)(hg:Gl X x)(hm:X.mg x=some (.ref f))(hk:PySem.W.keepIn X.K (.ref f)=true)(hb:Binds X.K fd ps [])(hx:Pi CX X E)(h0:PE X e0 (cJ i))(ha:mE X es da)(hdb:(x == ("__debug__" : Str))=false:=by decide)(he:Bz (e0::es) X.env=(false,eval e0 X.env)::Bz es X.env:=by rfl)(hpl:(Kl pos (Bz es X.env)).any (·.1)=false:=by rfl):Em X (.Call (.Name x p) (e0::es) [] pos) (gD i df da):=by
 refine PE.imp (Ux F hr hg hm hk hb .nil hx (Hu h0 ha he) hdb he hpl) λσ H Q h=>?_
 obtain ⟨H0,Y,S,T,δ,P,rfl,hS,hA,hd,kk⟩:=h
 unfold gD at hd
 split at hd
 case h_2=>exact hd.elim
 rename_i hsl0
 have main:∀w,(vs S)[i]? = some (some w)->LA X.K da (vs S) H λxs H2=>mJ X.K df ((w::xs)++[]) H2 Q E:=λw hw=>by
  refine ⟨H0,Y,S,T,δ,_,rfl,hS,hA,hd,λxs δ' As us S' H' e1 e2 ex eu hA' p=>?_⟩
  subst ex
  unfold fQ at p
  split at p
  ·rename_i ds hsl q
   obtain ⟨np,p⟩:=p
   have hAs:=aJ np
   obtain ⟨ent,s1,s2⟩:=Jh e2 hsl
   have hm':ent∈S':=Bg s1
   have hv:ent.v=some w:=by
    have:=My s1
    rw[e1,hw] at this
    exact (Ce this).symm
   obtain ⟨u,z,F⟩:=ent
   have s2':z=.drw:=s2
   subst s2'
   have hE:(⟨u,.drw,F⟩ : Ent)∈S'++(As++T):=Ap _ hm'
   obtain ⟨dr,c0,k0,f0,hv0,hF0,hd0,hk0,hk1⟩:=hA'.ok _ hE
   have ew:some w=some (V.ref dr):=hv.symm.trans hv0
   cases ew
   have hF':F=[dr]:=hF0
   subst hF'
   have pm:(S'++(As++T)).Perm (⟨u,.drw,[dr]⟩::(S'.eraseIdx i++(As++T))):=((Gv s1).append_right _)
   have hM:=hA'.perm pm
   have hMs:=Ba.mp hM.sep
   have hE0:At X.K H0 Y δ'.n (S'.eraseIdx i++T) H':=hM.sub (((Ds _).append (Dh As T)).cons _)
   rw[Ec]
   refine ⟨dr,us,As,δ'.n,ds,_,(S'.eraseIdx i++T).flatMap cells,rfl,eu,λe he=>hA'.ok e (Ao _ (Ap _ he)),λe he=>?_,⟨c0,k0,f0,hd0,hk0,hk1⟩,q,p,λz=>?_,λa ha=>?_,λv d F n' H'' hn r rd fr s hdr=>?_⟩
   ·exact (hMs.1 e (Ao _ (Ap _ he))).1 (.inr rfl) dr Ab
   ·obtain ⟨g,hg1,hg2⟩:=El.mp z
    refine (hMs.1 g ?_).1 (.inr rfl) dr Ab (Ex _ _ hg2)
    rcases Ay.mp hg1 with h | h
    ·exact Ap _ h
    ·exact Ao _ (Ao _ h)
   ·obtain ⟨g,hg1,hg2⟩:=El.mp ha
    refine ⟨λz=>?_,λe he=>?_⟩
    ·obtain ⟨o,q⟩:=(hE0.ok g hg1).dom a (Ex _ _ hg2)
     rw[z] at q; cases q
    ·obtain ⟨_,hp2,hp⟩ := Cn.mp hMs.2
     rcases Ay.mp hg1 with hg1 | hg1
     ·exact (hp g hg1 e (Ap _ he)).1 (.inl (hAs e he)) a hg2
     ·exact ((Cn.mp hp2).2.2 e he g hg1).2 (.inl (hAs e he)) a hg2
   ·obtain ⟨c1,k1,f1,hD,_⟩:=id hdr
    have nF:=RdF.nodr hD rd r.1
    have hA2:=hM.drawn Ab rfl hv0 s hdr hn
    have hA3:At X.K H0 Y n' (⟨u,.drw,[dr]⟩::(S'.eraseIdx i++T)) H'':=hA2.sub (((Ds _).append (Dh As T)).cons₂ _)
    have hA4:At X.K H0 Y n' (S'++T) H'':=hA3.perm (((Gv s1).append_right T).symm)
    refine kk _ ⟨δ'.sl,n'⟩ v F S' H'' e1 e2 ((hA4.pushS rd λg hg a ha z=>?_).tomid) r.2
    have hg':g∈(⟨u,.drw,[dr]⟩ : Ent)::(S'.eraseIdx i++T):=((Gv s1).append_right T).mem_iff.mp hg
    rcases Ai.mp hg' with rfl | hg'
    ·rw[Ag.mp (Ex _ _ ha)] at z
     exact nF z
    ·exact fr a z (El.mpr ⟨g,hg',ha⟩)
  ·exact p.elim
 obtain ⟨ent,s1,s2⟩:=Jh hS hsl0
 have hm':ent∈S:=Bg s1
 obtain ⟨u,z,F⟩:=ent
 have s2':z=.drw:=s2
 subst s2'
 obtain ⟨dr,c0,k0,f0,hv0,_⟩:=hA.ok _ (Ap _ hm')
 have hw:(vs S)[i]? = some (some (.ref dr)):=(My s1).trans (congrArg some hv0)
 exact ⟨_,hw,main _ hw⟩
end
def FZ(db:DB)(D:DEnds)(I:DS->Prop)(μ:DS->Nat)(δ':DS)(b:Bool)(δ2:DS):Prop:=match b with
 | true=>db { D with nx:=λδ3=>I δ3/\μ δ3<μ δ',ct:=λδ3=>I δ3/\μ δ3<μ δ',bk:=D.nx } δ2
 | false=>D.nx δ2
theorem Q9{dt:DT}{db:DB}{D:DEnds}{δ:DS}(I:DS->Prop)(μ:DS->Nat)(h0:I δ)(h:∀δ',I δ'->dt δ' (FZ db D I μ δ')):xO dt db D δ:=⟨I,μ,h0,h⟩
theorem AF{db:DB}{D:DEnds}{I:DS->Prop}{μ:DS->Nat}{δ' δ2:DS}{b:Bool}(h1:b=true->db { D with nx:=λδ3=>I δ3/\μ δ3<μ δ',ct:=λδ3=>I δ3/\μ δ3<μ δ',bk:=D.nx } δ2)(h2:b=false->D.nx δ2):FZ db D I μ δ' b δ2:=by
 cases b with
 | true=>exact h1 rfl
 | false=>exact h2 rfl
end DL
namespace NdS
open PySem
theorem fW{m:Nat}:∀{f i t:Nat},t<f->it m t i∈Y6 m f i
 | f+1,i,0,_=>Ab ..
 | f+1,i,t+1,h=>Ah _ (fW (Nat.lt_of_succ_lt_succ h))
theorem P3{m:Nat}(i:Nat):st (2 * m) i % m=st m (i % m):=by
 unfold st
 rw[Nat.mod_mod_of_dvd _ ⟨2,by omega⟩,Qr,Nat.mul_mod]
 conv=>rhs; rw[Qr,Nat.mul_mod,Nat.mod_mod]
theorem vM{m:Nat}:∀(t i:Nat),it (2 * m) t i % m=it m t (i % m)
 | 0,i=>rfl
 | t+1,i=>by
  show it (2 * m) t (st (2 * m) i) % m=it m t (st m (i % m))
  rw[vM t,P3]
theorem J3{m i:Nat}(h:0<m):st m i<m:=Jj _ h
theorem G9{m:Nat}(h:0<m):∀{t i:Nat},i<m->it m t i<m
 | 0,_,hi=>hi
 | t+1,i,hi=>G9 h (t:=t) (J3 h)
theorem E6{m i:Nat}:st (2 * m) ((i+m) % (2 * m))=(st (2 * m) i+m) % (2 * m):=by
 unfold st
 have e:(i+m) * 5+1=i * 5+1+m+2 * (2 * m):=by omega
 rw[Qr,Nat.mul_mod,Nat.mod_mod,<- Nat.mul_mod,<- Qr,e,Nat.add_mul_mod_self_right,Qr]
 conv=>rhs; rw[Qr,Nat.mod_mod]
theorem qB{m:Nat}:∀(t i:Nat),i<2 * m->it (2 * m) t ((i+m) % (2 * m))=(it (2 * m) t i+m) % (2 * m)
 | 0,i,_=>rfl
 | t+1,i,h=>by
  show it (2 * m) t (st (2 * m) ((i+m) % (2 * m)))=_
  rw[E6,qB t _ (J3 (by omega))]
  rfl
theorem On{m:Nat}(g:Jf m)(h:it (2 * m) m 0=m):Jf (2 * m):=by
 obtain ⟨h0,h1,h2⟩:=g
 have half:∀t,it (2 * m) (m+t) 0=(it (2 * m) t 0+m) % (2 * m):=λt=>by
  rw[aN,h]
  have:=qB (m:=m) t 0 (by omega)
  rw[Mk,Hd (show m<2 * m by omega)] at this
  exact this
 refine ⟨by omega,?_,λe he=>?_⟩
 ·have:=half m
  rw[h,show m+m=2 * m by omega,Nat.mod_self] at this
  exact this
 ·obtain ⟨t,ht,et⟩:=Yv (h2 (e % m) (Jj _ h0))
  have k:=vM (m:=m) t 0
  rw[Nat.zero_mod,et] at k
  have lt:it (2 * m) t 0<2 * m:=G9 (by omega) (by omega)
  by_cases c:it (2 * m) t 0=e
  ·rw[<- c]; exact fW (by omega)
  ·have hh:=half t
   have : (it (2 * m) t 0+m) % (2 * m)=e:=by
    generalize it (2 * m) t 0=x at k lt c
    have up:∀{y},m<=y->y<2 * m->y % m=y - m:=λ{y} h1 h2=>by rw[Nat.mod_eq_sub_mod h1,Hd (by omega)]
    by_cases c1:x<m <;> by_cases c2:e<m
    ·rw[Hd c1,Hd c2] at k; omega
    ·rw[Hd c1,up (by omega) he] at k
     rw[Hd (by omega)]; omega
    ·rw[up (by omega) lt,Hd c2] at k
     rw[show x+m=e+2 * m by omega,Nat.add_mod_right,Hd he]
    ·rw[up (by omega) lt,up (by omega) he] at k; omega
   rw[<- this,<- hh]
   exact fW (by omega)
theorem pQ:Jf 512:=On iA (by decide +kernel)
theorem jM:Jf 1024:=On pQ (by decide +kernel)
theorem lR:Jf 2048:=On jM (by decide +kernel)
theorem lT:Jf 4096:=On lR (by decide +kernel)
theorem zD:Jf 8192:=On lT (by decide +kernel)
theorem yY:∀{i:Nat},i<=10->Jf (2 ^ (i+3))
 | 0,_=>pP | 1,_=>zS | 2,_=>xE | 3,_=>zR | 4,_=>pK | 5,_=>iA
 | 6,_=>pQ | 7,_=>jM | 8,_=>lR | 9,_=>lT | 10,_=>zD
 | i+11,h=>absurd h (by omega)
theorem lO{n:Nat}(hn:n<8192):∀(j i f:Nat),i+j=10->∃k,i<=k/\k<=10/\Km n (f+j+1) (2 ^ (i+3))=2 ^ (k+3)/\n<2 ^ (k+3)
 | 0,i,f,h=>by
  have : i=10:=by omega
  subst this
  refine ⟨10,An _,An _,?_,hn⟩
  unfold Km
  rw[if_neg (by show ¬ 8192<=n; omega)]
 | j+1,i,f,h=>by
  by_cases c:2 ^ (i+3)<=n
  ·obtain ⟨k,k1,k2,k3,k4⟩:=lO hn j (i+1) f (by omega)
   refine ⟨k,by omega,k2,?_,k4⟩
   rw[<- k3,show f+(j+1)+1=(f+j+1)+1 by omega]
   show (if 2 ^ (i+3)<=n then Km n (f+j+1) (2 ^ (i+3) * 2) else _)=_
   rw[if_pos c,<- Nat.pow_succ]
  ·refine ⟨i,An _,by omega,?_,Nat.lt_of_not_le c⟩
   show (if 2 ^ (i+3)<=n then Km n (f+(j+1)) (2 ^ (i+3) * 2) else _)=_
   rw[if_neg c]
theorem i4{n:Nat}(hn:n<8192):∃m,Dx n=m+1/\Jf (m+1)/\n<=m/\7<=m/\m<8192/\m % 2=1:=by
 obtain ⟨k,k1,k2,k3,k4⟩:=lO hn 10 0 53 rfl
 have k3':Dx n=2 ^ (k+3):=k3
 have e:2 ^ (k+3)=2 ^ k * 8:=Nat.pow_add 2 k 3
 have p:0<2 ^ k:=Nat.pow_pos (by decide)
 have up:2 ^ (k+3)<=2 ^ 13:=Hv (by decide) (by omega)
 have up':2 ^ (k+3)<=8192:=up
 refine ⟨2 ^ (k+3) - 1,by omega,?_,by omega,by omega,by omega,by omega⟩
 rw[show 2 ^ (k+3) - 1+1=2 ^ (k+3) by omega]
 exact yY k2
theorem uE{t:Bi}{es:Array (Int×Value)}{wanted:Nat}(hp:t.plain=true)(hw:wanted<8192)(h2:es.size * 2<=wanted):∃(t':Bi) (order:Array Nat),t.relaid (es.map (·.1)) wanted=some (t',order)/\order.toList.Perm (Bh es.size)/\Tab es.size t'/\t'.mask % 2=1/\Dx wanted<=8192/\t'.led=t.led:=by
 obtain ⟨m,e1,g,hm,m7,m8,mo⟩:=i4 hw
 have sz:(es.map (·.1)).size=es.size:=Array.size_map ..
 obtain ⟨t',order,q1,q2,q3,q4⟩:=kJ (mask:=m) (finger:=t.finger) (moves:=t.movedTo m) (led:=t.led) g (es.map (·.1)) (by rw[sz]; omega)
 rw[sz] at q2 q3
 refine ⟨t',order,?_,q2,q3,?_,by omega,q4⟩
 ·unfold SetTable.relaid
  rw[e1,Nat.add_sub_cancel,hp]
  exact q1
 ·rw[(Uq q1).2.1]; exact mo
def Mx(t:Bi):Nat->Do->Do
 | 0,p=>p
 | k+1,p=>Mx t k (t.advance p)
structure WayOk(t:Bi)(p:Do):Prop where
 more:p.more<=9
 top:p.j+p.more<=t.mask
 dum:p.dummy=none
theorem WayOk.next{t:Bi}{p:Do}(x:WayOk t p):WayOk t (t.advance p):=by
 obtain ⟨h1,h2,h3⟩:=x
 unfold Ib
 split
 ·exact ⟨by dsimp only; omega,by dsimp only; omega,h3⟩
 ·rw[Yu]
  have hi:(p.i * 5+1+p.perturb / 32) % (t.mask+1)<=t.mask:=Ot.mp (Jj _ (Ks _))
  have a1:=Su hi
  have a2:=Nv t.mask ((p.i * 5+1+p.perturb / 32) % (t.mask+1))
  exact ⟨Lx _ _,by dsimp only; omega,h3⟩
theorem Se{t:Bi}(h:Int):WayOk t (t.probeStart h):=by
 have hi:Bw h % (t.mask+1)<=t.mask:=Ot.mp (Jj _ (Ks _))
 have a1:=Su hi
 have a2:=Nv t.mask (Bw h % (t.mask+1))
 exact ⟨Lx _ _,by show Bw h % (t.mask+1)+(Cp t.mask (Bw h % (t.mask+1)) - Bw h % (t.mask+1))<=t.mask; omega,rfl⟩
theorem iG{t:Bi}:∀(k:Nat) (p:Do),p.more=k->∃q:Do,Mx t (k+1) p=q/\q.j=((p.i * 5+1+p.perturb / 32) % (t.mask+1))/\q.i=q.j/\q.perturb=p.perturb / 32/\q.more<=9
 | 0,p,h=>by
  refine ⟨_,rfl,?_⟩
  show (t.advance p).j=_/\(t.advance p).i=(t.advance p).j/\(t.advance p).perturb=_/\(t.advance p).more<=9
  unfold Ib
  rw[if_neg (by omega),Yu]
  exact ⟨rfl,rfl,rfl,Lx _ _⟩
 | k+1,p,h=>by
  have e:t.advance p={ p with j:=p.j+1,more:=p.more - 1 }:=by
   unfold Ib
   rw[if_pos (by omega)]
  obtain ⟨q,q1,q2,q3,q4,q5⟩:=iG k (t.advance p) (by rw[e]; show p.more - 1=k; omega)
  rw[e] at q2 q4
  exact ⟨q,q1,q2,q3,q4,q5⟩
theorem Lm{t:Bi}:∀(a b:Nat) (p:Do),Mx t (a+b) p=Mx t b (Mx t a p)
 | 0,b,p=>by rw[Mk]; rfl
 | a+1,b,p=>by rw[Xp]; exact Lm a b _
theorem dR{t:Bi}:∀(u:Nat) (p:Do),p.more<=9->∃k,k<=p.more+1+10 * u/\(Mx t k p).j=(lp (t.mask+1) (u+1) p.i p.perturb).1
 | 0,p,h=>by
  obtain ⟨q,q1,q2,q3,q4,q5⟩:=iG (t:=t) p.more p rfl
  exact ⟨p.more+1,by omega,by rw[q1]; exact q2⟩
 | u+1,p,h=>by
  obtain ⟨q,q1,q2,q3,q4,q5⟩:=iG (t:=t) p.more p rfl
  obtain ⟨k,k1,k2⟩:=dR u q q5
  refine ⟨p.more+1+k,by omega,?_⟩
  rw[Lm,q1,k2,q3,q2,q4]
  rfl
theorem sJ{t:Bi}{n:Nat}(x:Tab n t)(h:Int):∃k,k<10 * Da t.mask/\t.slot (Mx t k (t.probeStart h)).j=.empty:=by
 have hm:=Sf x
 obtain ⟨e,he,hn⟩:=pD (m:=t.mask+1) x.rise (by rw[Ar,x.size]; omega)
 obtain ⟨u,hu,eu⟩:=aM x.good (i:=Bw h % (t.mask+1)) (p:=Bw h) (e:=e) (Jj _ (Ks _)) (iH h) he
 have tn:10 * Da t.mask=10 * t.mask+150:=by unfold Da; omega
 cases u with
 | zero=>exact ⟨0,by omega,(Jn x.toTabOk).mpr (by rw[show (Mx t 0 (t.probeStart h)).j=e from eu]; exact hn)⟩
 | succ u =>
  obtain ⟨k,k1,k2⟩:=dR (t:=t) u (t.probeStart h) (Se h).more
  have:=(Se (t:=t) h).more
  exact ⟨k,by omega,(Jn x.toTabOk).mpr (by rw[k2,show (lp (t.mask+1) (u+1) (t.probeStart h).i (t.probeStart h).perturb).1=e from eu]; exact hn)⟩
theorem sE{t:Bi}{n j i:Nat}(x:TabOk n t)(h:t.slot j=.live i):i<n:=by
 unfold Tu at h
 dsimp only at h
 split at h
 ·rename_i c
  injection h with h
  subst h
  have c':t.place[Bj t.place j]? = some j:=by simpa using c
  have:=(Array.getElem?_eq_some_iff.mp c').1
  rw[<- x.size]
  exact this
 ·split at h <;> cases h
end NdS
namespace NdS
open PySem PyProof.Rows
theorem xD{t u:Bi}(h:t.mask=u.mask)(p:Do):t.advance p=u.advance p:=by
 unfold Ib
 rw[h]
theorem aY{t u:Bi}(h:t.mask=u.mask):∀(k:Nat) (p:Do),Mx t k p=Mx u k p
 | 0,_=>rfl
 | k+1,p=>by
  show Mx t k (t.advance p)=Mx u k (u.advance p)
  rw[xD h,aY h k]
theorem bL{t u:Bi}(h:t.mask=u.mask)(x:Int):t.probeStart x=u.probeStart x:=by
 unfold SetTable.probeStart
 rw[h]
def Wz(t:Bi)(P:Nat->Prop)(h:Int)(j:Nat):Prop:=∃k,(Mx t k (t.probeStart h)).j=j/\∀k',k'<k->P (Mx t k' (t.probeStart h)).j
theorem Wz.mono{t u:Bi}{P Q:Nat->Prop}{h:Int}{j:Nat}(x:Wz t P h j)(e:t.mask=u.mask)(s:∀i,P i->Q i):Wz u Q h j:=by
 obtain ⟨k,h1,h2⟩:=x
 refine ⟨k,?_,λk' hk=>?_⟩
 ·rw[<- aY e,<- bL e]; exact h1
 ·rw[<- aY e,<- bL e]; exact s _ (h2 k' hk)
def X2(t:Bi)(es:List Int):Prop:=∀x∈es.zip t.place.toList,Wz t (·∈t.place.toList) x.1 x.2
theorem Zm{t:Bi}:∀(k:Nat) (p:Do),k<=p.more->Mx t k p={ p with j:=p.j+k,more:=p.more - k }
 | 0,_,_=>rfl
 | k+1,p,h=>by
  show Mx t k (t.advance p)=_
  have e:t.advance p={ p with j:=p.j+1,more:=p.more - 1 }:=by
   unfold Ib
   rw[if_pos (by omega)]
  rw[e,Zm k _ (by show k<=p.more - 1; omega)]
  simp only[SetTable.Probe.mk.injEq,and_true,true_and]
  omega
def Qh(m i pe:Nat):Do:={ j:=i,more:=Cp m i - i,i:=i,perturb:=pe,dummy:=none }
theorem zK{t:Bi}(i pe:Nat):Mx t (Cp t.mask i - i+1) (Qh t.mask i pe)=Qh t.mask ((i * 5+1+pe / 32) % (t.mask+1)) (pe / 32):=by
 rw[Lm,Zm (Cp t.mask i - i) (Qh t.mask i pe) (An _)]
 show t.advance _=_
 unfold Ib
 rw[if_neg (by show ¬ (Cp t.mask i - i - (Cp t.mask i - i) > 0); omega),Yu]
 rfl
theorem jP{t:Bi}{owner:Array (Option Nat)}:∀(fuel i pe j:Nat),Dr t.mask owner fuel i pe=some j->∃k,(Mx t k (Qh t.mask i pe)).j=j/\∀k',k'<k->(owner.getD (Mx t k' (Qh t.mask i pe)).j (some 0)).isNone=false
 | 0,_,_,_,h=>by unfold Dr at h; cases h
 | fuel+1,i,pe,j,h=>by
  unfold Dr at h
  split at h
  ·rename_i k hk
   injection h with h
   obtain ⟨p1,as,bs,e1,p2⟩:=List.find?_eq_some_iff_append.mp hk
   have el:∀(n:Nat) (as bs:List Nat) (k:Nat),Bh n=as++k::bs->as=Bh k/\k<n:=λn as bs k e=>by
    have l1:as.length<n:=by
     have:=congrArg Ha e
     rw[Cy,Az,Be] at this
     omega
    have g:(Bh n)[as.length]? = some k:=by rw[e]; simp
    rw[List.getElem?_range l1] at g
    injection g with g
    refine ⟨?_,by omega⟩
    have tk:=congrArg (List.take as.length) e
    rw[List.take_left',List.take_range,Nat.min_eq_left (by omega)] at tk
    ·rw[<- tk,g]
    ·rfl
   obtain ⟨ea,kn⟩:=el _ _ _ _ e1
   refine ⟨k,?_,λk' hk'=>?_⟩
   ·rw[Zm k _ (by show k<=Cp t.mask i - i; omega)]
    exact h
   ·rw[Zm k' _ (by show k'<=Cp t.mask i - i; omega)]
    have:=p2 k' (by rw[ea]; exact Cu.mpr hk')
    show (owner.getD (i+k') (some 0)).isNone=false
    rw[Bool.not_eq_true'] at this
    exact this
  ·rename_i hk
   have none:=List.find?_eq_none.mp hk
   obtain ⟨k,k1,k2⟩:=jP fuel _ _ j h
   have sl:Mx t (Cp t.mask i - i+1) (Qh t.mask i pe)=Qh t.mask (SetTable.leap t.mask i pe).1 (SetTable.leap t.mask i pe).2:=zK i pe
   refine ⟨Cp t.mask i - i+1+k,by rw[Lm,sl]; exact k1,λk' hk'=>?_⟩
   by_cases c:k'<=Cp t.mask i - i
   ·rw[Zm k' _ c]
    have a:=Nv t.mask i
    have:=none k' (Cu.mpr (by omega))
    show (owner.getD (i+k') (some 0)).isNone=false
    exact Yn.mpr this
   ·rw[show k'=Cp t.mask i - i+1+(k' - (Cp t.mask i - i+1)) by omega,Lm,sl]
    exact k2 _ (by omega)
theorem zF{t:Bi}:∀(k:Nat) (p:Do),WayOk t p->WayOk t (Mx t k p)
 | 0,_,h=>h
 | k+1,_,h=>zF k _ h.next
theorem U6{t:Bi}(k:Nat)(h:Int):(Mx t k (t.probeStart h)).j<=t.mask:=by
 have:=(zF k _ (Se (t:=t) h)).top
 omega
def aH(owner:Array (Option Nat))(i:Nat):Prop:=(owner.getD i (some 0)).isNone=false
def V0(t:Bi)(H:Nat->Int)(owner:Array (Option Nat)):Prop:=∀j k,owner[j]? = some (some k)->Wz t (aH owner) (H k) j
theorem jA{m:Nat}:∀hs:List Int,hs.foldl (fX m) none=none
 | []=>rfl
 | h::hs=>by rw[Tc]; exact jA hs
theorem eM{owner:Array (Option Nat)}{j n i:Nat}(h:aH owner i):aH (owner.setIfInBounds j (some n)) i:=by
 unfold aH at *
 rw[Dl] at *
 rw[cC]
 split
 ·split <;> rfl
 ·exact h
theorem pJ{t:Bi}{H:Nat->Int}:∀(hs:List Int) (owner:Array (Option Nat)) (n:Nat) (owner':Array (Option Nat)) (n':Nat),hs.foldl (fX t.mask) (some (owner,n))=some (owner',n')->(∀i h,hs[i]? = some h->H (n+i)=h)->V0 t H owner->V0 t H owner'/\owner'.size=owner.size
 | [],owner,n,owner',n',e,_,x=>by
  rw[List.foldl_nil] at e
  injection e with e
  injection e with e1 e2
  rw[<- e1]
  exact ⟨x,rfl⟩
 | h::hs,owner,n,owner',n',e,eH,x=>by
  rw[Tc] at e
  cases ef:Dr t.mask owner (Da t.mask) (Bw h % (t.mask+1)) (Bw h) with
  | none =>
   have e1:fX t.mask (some (owner,n)) h=none:=by
    show (do
     let j <- Dr t.mask owner (Da t.mask) (Bw h % (t.mask+1)) (Bw h)
     pure (owner.setIfInBounds j (some n),n+1))=_
    rw[ef]
    rfl
   rw[e1,jA] at e
   cases e
  | some j =>
   have e1:fX t.mask (some (owner,n)) h=some (owner.setIfInBounds j (some n),n+1):=by
    show (do
     let j <- Dr t.mask owner (Da t.mask) (Bw h % (t.mask+1)) (Bw h)
     pure (owner.setIfInBounds j (some n),n+1))=_
    rw[ef]
    rfl
   rw[e1] at e
   refine (λz=>⟨z.1,z.2.trans (iQ ..)⟩) (pJ hs _ _ owner' n' e (λi h' hi=>?_) λj' k hk=>?_)
   ·rw[show n+1+i=n+(i+1) by omega]
    exact eH (i+1) h' hi
   ·rw[cC] at hk
    split at hk
    ·rename_i c
     split at hk
     ·injection hk with hk
      injection hk with hk
      obtain ⟨k0,k1,k2⟩:=jP (t:=t) _ _ _ _ ef
      have hH:H k=h:=by rw[<- hk]; exact eH 0 h rfl
      rw[hH,<- c]
      exact Wz.mono (P:=aH owner) ⟨k0,k1,k2⟩ rfl λi z=>eM z
     ·cases hk
    ·exact (x j' k hk).mono rfl λi z=>eM z
theorem sG{mask finger moves:Nat}{led plain:Bool}{hs:Array Int}{t:Bi}{order:Array Nat}(h:Gj mask finger moves led plain hs=some (t,order)):X2 t (order.toList.map λk=>hs.getD k 0):=by
 have hm:=(Uq h).2.1
 unfold Gj at h
 cases hl:Ji mask hs with
 | none=>rw[hl] at h; cases h
 | some owner =>
  rw[hl] at h
  have x:V0 t (λk=>hs.getD k 0) owner/\owner.size=mask+1:=by
   unfold Ji at hl
   rw[<- Array.foldl_toList] at hl
   replace hl:(hs.toList.foldl (fX mask) (some (Oa (mask+1) none,0))).map (·.1)=some owner:=hl
   cases hf:hs.toList.foldl (fX mask) (some (Oa (mask+1) none,0)) with
   | none=>rw[hf] at hl; cases hl
   | some r =>
    obtain ⟨o,n⟩:=r
    rw[hf] at hl
    injection hl with hl
    rw[<- hl]
    have hf':=hf
    rw[<- hm] at hf
    have z:=pJ (t:=t) (H:=λk=>hs.getD k 0) _ _ _ _ _ hf (λi h hi=>by
     rw[Mk,Dl,<- Hi,hi]
     rfl) λj k hk=>by
     rw[Array.getElem?_replicate] at hk
     split at hk <;> simp at hk
    exact ⟨z.1,by rw[z.2,Array.size_replicate,hm]⟩
  obtain ⟨x,sz⟩:=x
  cases h
  intro y hy
  have hT:∀i,i<=mask->aH owner i->i∈((Bh (mask+1)).filterMap λj=>(owner.getD j none).map λx=>(j,x)).map (·.1):=λi hi z=>by
   unfold aH at z
   have lt:i<owner.size:=by omega
   rw[Dl,Cr lt] at z
   cases q:owner[i] with
   | none=>rw[q] at z; simp at z
   | some v =>
    refine Bq.mpr ⟨(i,v),Jd.mpr ⟨i,Cu.mpr (by omega),?_⟩,rfl⟩
    rw[Dl,Cr lt,q]
    rfl
  dsimp only at hy ⊢
  rw[Fg,List.zip_map'] at hy
  obtain ⟨⟨j,k⟩,hjk,rfl⟩:=Bq.mp hy
  obtain ⟨j0,hj0,ej⟩:=Jd.mp hjk
  have e2:owner[j]? = some (some k):=by
   rw[Dl] at ej
   cases q:owner[j0]? with
   | none=>rw[q] at ej; cases ej
   | some v =>
    rw[q] at ej
    cases v with
    | none=>cases ej
    | some v=>cases ej; exact q
  have ow:=x j k e2
  obtain ⟨k0,k1,k2⟩:=ow
  refine ⟨k0,k1,λk' hk'=>?_⟩
  exact hT _ (U6 k' _) (k2 k' hk')
theorem X2.put{t:Bi}{hs:List Int}{h:Int}{j p:Nat}(x:X2 t hs)(len:hs.length=t.place.size)(o:Wz t (·∈t.place.toList) h j):X2 { t with place:=Bv t.place p j } (hs.take p++h::hs.drop p):=by
 have pm:=Ik t.place p j
 rw[Jt] at pm
 have up:∀i,i∈t.place.toList->i∈(Bv t.place p j).toList:=λi hi=>pm.mem_iff.mpr (Ap _ hi)
 intro y hy
 have hy':y∈(hs.take p++h::hs.drop p).zip (t.place.toList.take p++j::t.place.toList.drop p):=by
  have e:=Pk t.place p j
  have e':(Bv t.place p j).toList=t.place.toList.take p++j::t.place.toList.drop p:=by first | exact e | (rw[e]; simp)
  rw[<- e']
  exact hy
 rw[List.zip_append (by rw[Fl,Fl,len,Ar]),List.zip_cons_cons] at hy'
 rcases Ay.mp hy' with z | z
 ·have : y∈hs.zip t.place.toList:=by
   rw[List.zip_eq_zipWith,<- List.take_zipWith] at z
   exact Nt z
  exact (x y this).mono rfl up
 ·rcases Ai.mp z with rfl | z
  ·exact o.mono rfl up
  ·have : y∈hs.zip t.place.toList:=by
    rw[List.zip_eq_zipWith,<- List.drop_zipWith] at z
    exact List.mem_of_mem_drop z
   exact (x y this).mono rfl up
theorem jU{α:Type}{es:Array (Int×α)}:∀L:List Nat,(∀k∈L,k<es.size)->(L.filterMap (es[·]?)).map (·.1)=L.map λk=>(es.map (·.1)).getD k 0
 | [],_=>rfl
 | k::L,h=>by
  have hk:=h k Ab
  rw[Gm,Cr hk]
  dsimp only
  rw[Bb,Bb,jU L λi hi=>h i (Ah _ hi),Dl,Array.getElem?_map,Cr hk]
  rfl
theorem lA{t:Bi}{n:Nat}(x:TabOk n t){f:Nat->Int}{h:Int}:∀(fuel k:Nat) (p:Do),WayOk t p->k<fuel->t.slot (Mx t k p).j=.empty->(∃j m,Gx t f h fuel p=some (.empty j none)/\t.slot j=.empty/\j<=t.mask/\(Mx t m p).j=j/\∀m',m'<m->t.slot (Mx t m' p).j≠.empty/\∀i,t.slot (Mx t m' p).j=.live i->f i≠h)\/(∃j i m k',Gx t f h fuel p=some (.candidate j i (Mx t (m+1) p))/\t.slot j=.live i/\f i=h/\k'+m+1=k/\WayOk t (Mx t (m+1) p)/\t.slot (Mx t k' (Mx t (m+1) p)).j=.empty/\(Mx t m p).j=j/\∀m',m'<m->t.slot (Mx t m' p).j≠.empty/\∀i,t.slot (Mx t m' p).j=.live i->f i≠h)
 | 0,k,p,_,h,_=>absurd h (Dw _)
 | fuel+1,k,p,w,hk,he=>by
  unfold Gx
  split
  ·rename_i hs
   exact .inl ⟨p.j,0,by rw[w.dum],hs,by have:=w.top; omega,rfl,λm' z=>absurd z (Dw _)⟩
  ·rename_i hs
   exact absurd hs (Rc x)
  ·rename_i i hs
   cases k with
   | zero=>exact absurd (show t.slot p.j=.empty from he) (by rw[hs]; intro z; cases z)
   | succ k =>
    by_cases c:(f i == h)=true
    ·rw[if_pos c]
     exact .inr ⟨p.j,i,0,k,rfl,hs,by simpa using c,by omega,w.next,he,rfl,λm' z=>absurd z (Dw _)⟩
    ·rw[if_neg c]
     have hd:t.slot p.j≠.empty/\∀i,t.slot p.j=.live i->f i≠h:=⟨by rw[hs]; exact λz=>(by cases z),λi' z=>by
      rw[hs] at z
      injection z with z
      rw[<- z]
      simpa using c⟩
     have ahead:∀{m:Nat},(∀m',m'<m->t.slot (Mx t m' (t.advance p)).j≠.empty/\∀i,t.slot (Mx t m' (t.advance p)).j=.live i->f i≠h)->∀m',m'<m+1->t.slot (Mx t m' p).j≠.empty/\∀i,t.slot (Mx t m' p).j=.live i->f i≠h:=λ{m} q m' hm'=>by
      cases m' with
      | zero=>exact hd
      | succ m'=>exact q m' (by omega)
     rcases lA x fuel k _ w.next (by omega) he with ⟨j,m,a,b,c,d,e⟩ | ⟨j,i',m,k',a,b,c,d,e,f,g,q⟩
     ·exact .inl ⟨j,m+1,a,b,c,d,ahead e⟩
     ·exact .inr ⟨j,i',m+1,k',a,b,c,by omega,e,f,g,ahead q⟩
theorem nJ{t:Bi}{n j i:Nat}(x:TabOk n t)(h:t.place.toList[i]? = some j):t.slot j=.live i:=by
 have b:=Re x.rise j
 have e:Bj t.place j=i:=by
  have hi:=(Av.mp h).1
  have hi':i<t.place.size:=by rw[<- Ar]; exact hi
  have ei:t.place[i]=j:=by
   have:=(Av.mp h).2
   simpa using this
  rcases Qq (Bj t.place j) i with z | z | z
  ·have:=b.hi (Bj t.place j) (by omega) (An _)
   have:=Ku.mp x.rise (Bj t.place j) i (by rw[Ar]; omega) hi z
   simp at this
   omega
  ·exact z
  ·have:=b.lo i hi' z
   omega
 unfold Tu
 dsimp only
 rw[e,<- Hi,h,if_pos (by simp)]
def wK(prog:Bs)(w:World)(U:List (List Int))(h:Heap)(e:Int×Value):Prop:=∃(b:Addr) (ks:List Int),e=(Bu (Cb prog w) ks,.ref b)/\Fv (Cb prog w) h ks b/\ks∈U
structure SetT(prog:Bs)(w:World)(U:List (List Int))(h:Heap)(a:Addr)(es:Array (Int×Value))(ep:Nat)(t:Bi):Prop where
 obj:h.get? a=some (Fx es ep t)
 ent:∀e∈es.toList,wK prog w U h e
 tab:Tab es.size t
 odd:t.mask % 2=1
 top:t.mask<8192
 few:es.size<=1100
 led:bt w=false->t.led=true
 nd:U.Nodup
 sz:es.size=U.length
 all:∀u∈U,∃e∈es.toList,∃b,e=(Bu (Cb prog w) u,Cq b)/\Fv (Cb prog w) h u b
 ways:X2 t (es.toList.map (·.1))
def Kept(h h':Heap):Prop:=∀b o,o.cls=.type "set" \/ o.cls=.type "tuple" -> h.get? b=some o->h'.get? b=some o
def Vl(h h':Heap):Prop:=∀b o,o.cls=.type "tuple" -> h.get? b=some o->h'.get? b=some o
theorem Kept.t{h h':Heap}(k:Kept h h'):Vl h h':=λb o c e=>k b o (.inr c) e
theorem wK.keep{prog:Bs}{w:World}{U V:List (List Int)}{h h':Heap}{e:Int×Value}(x:wK prog w U h e)(k:Vl h h')(s:∀y∈U,y∈V):wK prog w V h' e:=by
 obtain ⟨b,ks,e,⟨o,items,n,ho,hc,hd,hi⟩,hm⟩:=x
 exact ⟨b,ks,e,⟨o,items,n,k b o hc ho,hc,hd,hi⟩,s _ hm⟩
theorem Sd{prog:Bs}{w:World}{h h':Heap}{ks:List Int}{b:Addr}(x:Fv (Cb prog w) h ks b)(k:Vl h h'):Fv (Cb prog w) h' ks b:=by
 obtain ⟨o,items,n,ho,hc,hd,hi⟩:=x
 exact ⟨o,items,n,k b o hc ho,hc,hd,hi⟩
theorem SetT.keep{prog:Bs}{w:World}{U:List (List Int)}{h h':Heap}{a:Addr}{es:Array (Int×Value)}{ep:Nat}{t:Bi}(S:SetT prog w U h a es ep t)(k:Kept h h'):SetT prog w U h' a es ep t :=
 ⟨k _ _ (.inl rfl) S.obj,λe he=>(S.ent e he).keep k.t λ_ z=>z,S.tab,S.odd,S.top,S.few,S.led,S.nd,S.sz,λu hu=>by obtain ⟨e,he,b,eb,x⟩:=S.all u hu; exact ⟨e,he,b,eb,Sd x k.t⟩,S.ways⟩
theorem bP{h h':Heap}{a:Addr}{o:Obj}(ho:h.get? a=some o)(hc:o.cls≠.type "tuple")(sb:Fs a h h'):Vl h h':=λb o' c e=>by
 by_cases z:b=a
 ·subst z
  rw[ho] at e
  cases e
  exact absurd c hc
 ·exact (sb.2 b z).trans e
theorem zI{n:Nat}(h:n<=1200):n<=Bd:=by rw[Ig]; omega
section
variable{prog:Bs}{w:World}{A:Dj}{E:Value->Al->Prop}{s:Al}{U:List (List Int)}
theorem So{a:Addr}{es:Array (Int×Value)}{ep:Nat}{t:Bi}{Q:(Array (Int×Value)×Nat×Bi)->Al->Prop}(S:SetT prog w U s.heap a es ep t)(h:Q (es,ep,t) s):wpAny (model prog w) A (setState a) Q E s :=
 fB S.obj rfl S.tab.fits h
theorem xZ{ks:List Int}{a:Addr}{Q:Bool->Al->Prop}(hk:Fv (Cb prog w) s.heap ks a)(h:Q true s):wpAny (model prog w) A (Rx 8 (.ref a)) Q E s:=by
 have hT:=hk.typeIs
 obtain ⟨o,items,n,ho,_,hd,hi⟩:=hk
 unfold Rx
 refine Ae (wpAny_specialOf hT F.slot_tuple_hash.lookup ?_)
 dsimp only
 refine Ae (wpAny_seqItems ho hd ?_)
 refine Ae ?_
 show wpAny _ _ (forIn items _ _) _ _ s
 rw[<- Array.forIn_toList]
 refine iM _ (λIz r s'=>r.1=none/\s'=s/\∃l,ItemsAre (Cb prog w) l Iz) _ ?_ ?_ _ _ ⟨rfl,rfl,_,hi⟩
 ·(intro v Iz r s' q_; obtain ⟨hr,rfl,l,hall⟩ := q_)
  cases hall with
  | @cons k v' ks' vs' h1 h2 =>
   obtain ⟨tk,rfl⟩ : ∃tk,v=.int k tk:=by
    cases v <;> simp [Cb,Px] at h1
    rename_i z tk
    exact ⟨tk,by rw[h1]⟩
   refine Ae (m:=Rx 7 (.int k tk)) (Mq (a:=true) (show Rx 7 (.int k tk)=pure true by unfold Rx; rfl) ?_)
   simp only[Ni,Dg,if_false]
   exact Ak ⟨rfl,rfl,_,h2⟩
 ·(rintro ⟨r1,r2⟩ s' q_; obtain ⟨hr,rfl,_⟩ := q_)
  simp only at hr
  subst hr
  exact Ak h
theorem dN{ks:List Int}{a:Addr}{Q:Bool->Al->Prop}(hk:Fv (Cb prog w) s.heap ks a)(h:Q false s):wpAny (model prog w) A (Nf 8 (.ref a)) Q E s:=by
 have hT:=hk.typeIs
 obtain ⟨o,items,n,ho,_,hd,hi⟩:=hk
 unfold Nf
 refine Ae (Na hT ?_)
 dsimp only
 rw[if_pos (by decide)]
 refine Ae (Ak ?_)
 simp only[Ni,Dg,if_false]
 refine Ae (wpAny_seqItems ho hd ?_)
 dsimp only
 refine Ae ?_
 show wpAny _ _ (forIn items _ _) _ _ s
 rw[<- Array.forIn_toList]
 refine iM _ (λIz r s'=>r.1=none/\s'=s/\∃l,ItemsAre (Cb prog w) l Iz) _ ?_ ?_ _ _ ⟨rfl,rfl,_,hi⟩
 ·(intro v Iz r s' q_; obtain ⟨hr,rfl,l,hall⟩ := q_)
  cases hall with
  | @cons k v' ks' vs' h1 h2 =>
   obtain ⟨tk,rfl⟩ : ∃tk,v=.int k tk:=by
    cases v <;> simp [Cb,Px] at h1
    rename_i z tk
    exact ⟨tk,by rw[h1]⟩
   refine Ae (m:=Nf 7 (.int k tk)) (Mq (a:=false) (show Nf 7 (.int k tk)=pure false by unfold Nf; rfl) ?_)
   simp only[Dg,if_false]
   exact Ak ⟨rfl,rfl,_,h2⟩
 ·(rintro ⟨r1,r2⟩ s' q_; obtain ⟨hr,rfl,_⟩ := q_)
  simp only at hr
  subst hr
  exact Ak h
theorem B0{x:Addr}{kx:List Int}{stored:List Value}{Q:Bool->Al->Prop}(hx:Fv (Cb prog w) s.heap kx x)(hs:∀y∈stored,∃b ky,y=Cq b/\Fv (Cb prog w) s.heap ky b)(h:Q false s):wpAny (model prog w) A (searchCouldBeSeen (.ref x) stored) Q E s:=by
 unfold searchCouldBeSeen
 refine Ae ?_
 refine iM _ (λIz r s'=>r.1=none/\s'=s/\∀y∈Iz,∃b ky,y=Cq b/\Fv (Cb prog w) s.heap ky b) _ ?_ ?_ _ _ ⟨rfl,rfl,hs⟩
 ·(intro v Iz r s' q_; obtain ⟨hr,rfl,hall⟩ := q_)
  obtain ⟨b,ky,rfl,hy⟩:=hall _ (Ab ..)
  have hall':=λy hy=>hall y (Ah _ hy)
  dsimp only
  split
  ·exact Ak ⟨rfl,rfl,hall'⟩
  ·refine Ae (wpAny_eqIsQuiet_tuple hx ?_)
   simp only[Ni,Dg,if_false]
   refine Ae (wpAny_eqIsQuiet_tuple hy ?_)
   simp only[Ni,Dg,if_false]
   refine Ae (dN hx ?_)
   simp only[Dg,if_false]
   refine Ae (dN hy ?_)
   simp only[Dg,if_false]
   exact Ak ⟨rfl,rfl,hall'⟩
 ·(rintro ⟨r1,r2⟩ s' q_; obtain ⟨hr,rfl,_⟩ := q_)
  simp only at hr
  subst hr
  exact Ak h
def L3(prog:Bs)(w:World)(h:Heap)(es:Array (Int×Value))(t:Bi)(kx:List Int)(p:Do):Prop :=
 ∃kt i b,t.slot (Mx t kt p).j=.live i/\es[i]? = some (Bu (Cb prog w) kx,Cq b)/\Fv (Cb prog w) h kx b/\∀k',k'<kt->t.slot (Mx t k' p).j≠.empty
theorem kG{a:Addr}{kx:List Int}{es:Array (Int×Value)}{ep:Nat}{t:Bi}(S:SetT prog w U s.heap a es ep t)(h:kx∈U):L3 prog w s.heap es t kx (t.probeStart (Bu (Cb prog w) kx)):=by
 obtain ⟨e,he,b,eb,x⟩:=S.all kx h
 obtain ⟨i,hi,ei⟩:=List.getElem_of_mem he
 have hi':i<es.size:=by rw[<- Ar]; exact hi
 have hp:i<t.place.toList.length:=by rw[Ar,S.tab.size]; exact hi'
 have hz:((es.toList.map (·.1)).zip t.place.toList)[i]? = some (Bu (Cb prog w) kx,t.place.toList[i]):=by
  rw[List.getElem?_zip_eq_some]
  refine ⟨?_,Bf hp⟩
  rw[Cc,Bf hi,ei,eb]
  rfl
 obtain ⟨k,k1,k2⟩:=S.ways _ (Bg hz)
 refine ⟨k,i,b,?_,?_,x,λk' hk'=>?_⟩
 ·rw[k1]
  exact nJ S.tab.toTabOk (Bf hp)
 ·rw[Cr hi']
  have : es[i]=e:=by simpa using ei
  rw[this,eb]
 ·exact λz=>(Jn S.tab.toTabOk).mp z (k2 k' hk')
theorem Xb{a x:Addr}{kx:List Int}{es:Array (Int×Value)}{ep:Nat}{t:Bi}{Q:SetFound->Al->Prop}(S:SetT prog w U s.heap a es ep t)(hu:A.units<cLine)(hx:Fv (Cb prog w) s.heap kx x)(h1:kx∈U->Q (.there none) s)(h2:∀j,t.slot j=.empty->j<=t.mask->Wz t (·∈t.place.toList) (Bu (Cb prog w) kx) j->kx∉U->Q (.free j false) s):∀(fuel k:Nat) (stand:Option Do),WayOk t (stand.getD (t.probeStart (Bu (Cb prog w) kx)))->k<fuel->k<10 * Da t.mask->t.slot (Mx t k (stand.getD (t.probeStart (Bu (Cb prog w) kx)))).j=.empty->(∃k0,Mx t k0 (t.probeStart (Bu (Cb prog w) kx))=stand.getD (t.probeStart (Bu (Cb prog w) kx))/\∀k',k'<k0->t.slot (Mx t k' (t.probeStart (Bu (Cb prog w) kx))).j≠.empty)->(kx∈U->L3 prog w s.heap es t kx (stand.getD (t.probeStart (Bu (Cb prog w) kx))))->wpAny (model prog w) A (Sz a (.ref x) (Bu (Cb prog w) kx) true fuel stand) Q E s
 | 0,k,_,_,h,_,_,_,_=>absurd h (Dw _)
 | fuel+1,k,stand,wo,hk,hk2,he,pre,tgt=>by
  have gw:t.gaveWay=false:=by unfold SetTable.gaveWay; rw[S.odd]; rfl
  unfold Sz
  refine Ae (So S ?_)
  dsimp only
  rw[gw]
  simp only[Dg,if_false]
  obtain ⟨k0,ek0,pre⟩:=pre
  have fH:∀{i:Nat} {b:Addr},es[i]? = some (Bu (Cb prog w) kx,Cq b)->(es[i]?.map (·.1)).getD 0=Bu (Cb prog w) kx:=λ{i b} e=>by rw[e]; rfl
  rcases lA S.tab.toTabOk (f:=λi=>(es[i]?.map (·.1)).getD 0) (h:=Bu (Cb prog w) kx) (10 * Da t.mask) k _ wo hk2 he with ⟨j,m,e,ej,jm,em,am⟩ | ⟨j,i,m,k',e,ej,ei,lt,wo',he',em,am⟩
  ·have e':t.probe (λi=>(es[i]?.map (·.1)).getD 0) (Bu (Cb prog w) kx) (stand.getD (t.probeStart (Bu (Cb prog w) kx)))=some (.empty j none):=e
   rw (transparency:=.all) [e']
   refine Ak (h2 j ej jm ⟨k0+m,by rw[Lm,ek0]; exact em,λk' hk'=>?_⟩ λhm=>?_)
   ·refine Ft λz=>?_
    have z':=(Jn S.tab.toTabOk).mpr z
    by_cases c:k'<k0
    ·exact pre k' c z'
    ·rw[show k'=k0+(k' - k0) by omega,Lm,ek0] at z'
     exact (am _ (by omega)).1 z'
   ·obtain ⟨kt,i,b,a1,a2,a3,a4⟩:=tgt hm
    rcases Qq kt m with z | z | z
    ·exact (am kt z).2 i a1 (fH a2)
    ·subst z
     rw[em,ej] at a1
     cases a1
    ·exact a4 m z (by rw[em]; exact ej)
  ·have e':t.probe (λi=>(es[i]?.map (·.1)).getD 0) (Bu (Cb prog w) kx) (stand.getD (t.probeStart (Bu (Cb prog w) kx)))=some (.candidate j i (Mx t (m+1) (stand.getD (t.probeStart (Bu (Cb prog w) kx))))):=e
   rw (transparency:=.all) [e']
   dsimp only
   have hi:=sE S.tab.toTabOk ej
   have hei:es[i]? = some es[i]:=Cr hi
   obtain ⟨b,ky,eb,hy,hm⟩:=S.ent es[i] (by simp)
   have Iz:wpAny (model prog w) A (do
     let some (_,y):=es[i]? | unsupported "internal:set-entry"
     let equal <- Yh [y] (eqBool y (.ref x))
     let (es',_,t') <- setState a
     if true && equal then return .there none
     let some same:=t'.sameMemory t.moves t.mask | unsupported "set.changed-during-lookup:is-the-new-block-at-the-old-address"
     let still <- match (if same then t'.slot j else .empty) with
      | .live i'=>match es'[i']? with
       | some (_,y')=>do pure (if <- isSame y' y then some i' else none)
       | none=>pure none
      | _=>pure none
     match still with
     | none=>rule "set.search.anew"; Sz a (.ref x) (Bu (Cb prog w) kx) true fuel none
     | some i'=>if equal then return .there (some i') else Sz a (.ref x) (Bu (Cb prog w) kx) true fuel (some (Mx t (m+1) (stand.getD (t.probeStart (Bu (Cb prog w) kx)))))) Q E s:=by
    rw[hei,eb]
    dsimp only
    refine Ae (Dz (wpAny_eqBool_tuple hu hy hx ?_))
    refine Ae (So S ?_)
    dsimp only
    by_cases c:ky=kx
    ·rw[decide_eq_true c,if_pos (by decide)]
     exact Ak (h1 (by rw[<- c]; exact hm))
    ·rw[decide_eq_false c,if_neg (by decide)]
     have sm:t.sameMemory t.moves t.mask=some true:=by unfold SetTable.sameMemory; rw[if_pos (by simp)]
     rw[sm]
     dsimp only
     rw[if_pos rfl,ej]
     dsimp only
     rw[hei,eb]
     dsimp only
     refine Ae (wpAny_isSame_ref_self (Ae (Ak ?_)))
     rw[if_pos rfl]
     dsimp only
     rw[if_neg (by decide)]
     refine Xb S hu hx h1 h2 fuel k' (some (Mx t (m+1) (stand.getD (t.probeStart (Bu (Cb prog w) kx))))) wo' (by omega) (by omega) he' ⟨k0+(m+1),by rw[Lm,ek0]; rfl,λk'' hk'' z=>?_⟩ λhmm=>?_
     ·by_cases c:k''<k0
      ·exact pre k'' c z
      ·rw[show k''=k0+(k'' - k0) by omega,Lm,ek0] at z
       by_cases c2:k'' - k0<m
       ·exact (am _ c2).1 z
       ·rw[show k'' - k0=m by omega,em,ej] at z
        cases z
     ·obtain ⟨kt,i0,b0,a1,a2,a3,a4⟩:=tgt hmm
      rcases Qq kt m with z | z | z
      ·exact absurd (fH a2) ((am kt z).2 i0 a1)
      ·subst z
       rw[em,ej] at a1
       injection a1 with a1
       subst a1
       rw[hei,eb] at a2
       injection a2 with a2
       injection a2 with a21 a22
       injection a22 with a22
       subst a22
       exact absurd (hy.inj a3) c
      ·refine ⟨kt - (m+1),i0,b0,?_,a2,a3,λk'' hk''=>?_⟩
       ·show t.slot (Mx t (kt - (m+1)) (Mx t (m+1) _)).j=_
        rw[<- Lm,show m+1+(kt - (m+1))=kt by omega]
        exact a1
       ·show t.slot (Mx t k'' (Mx t (m+1) _)).j≠_
        rw[<- Lm]
        exact a4 _ (by omega)
   by_cases l:t.led=true
   ·rw[l]
    simp only[Ni,Dg,if_false]
    exact Iz
   ·rw[bT] at l
    rw[l]
    simp only[Bool.not_false,if_true]
    refine Ae (B0 hx (λy hy=>?_) ?_)
    ·obtain ⟨e0,he0,rfl⟩:=Bq.mp hy
     obtain ⟨b',k'',rfl,h3,_⟩:=S.ent e0 (by
      have:=Array.mem_def.mp (Array.mem_filter.mp (Array.mem_def.mpr he0)).1
      exact this)
     exact ⟨b',k'',rfl,h3⟩
    ·simp only[Dg,if_false]
     exact Iz
theorem sN{a x:Addr}{kx:List Int}{es:Array (Int×Value)}{ep:Nat}{t:Bi}{Q:SetFound->Al->Prop}(S:SetT prog w U s.heap a es ep t)(hu:A.units<cLine)(hx:Fv (Cb prog w) s.heap kx x)(h1:kx∈U->Q (.there none) s)(h2:∀j,t.slot j=.empty->j<=t.mask->Wz t (·∈t.place.toList) (Bu (Cb prog w) kx) j->kx∉U->Q (.free j false) s)(fuel k:Nat)(hk:k<fuel)(hk2:k<10 * Da t.mask)(he:t.slot (Mx t k (t.probeStart (Bu (Cb prog w) kx))).j=.empty):wpAny (model prog w) A (Sz a (.ref x) (Bu (Cb prog w) kx) true fuel none) Q E s :=
 Xb S hu hx h1 h2 fuel k none (Se _) hk hk2 he ⟨0,rfl,λk' z=>absurd z (Dw _)⟩ λh=>kG S h
end
section
variable{prog:Bs}{w:World}{A:Dj}{E:Value->Al->Prop}{s:Al}{U:List (List Int)}
theorem ER{t:Bi}{es:Array (Int×Value)}(x:Tab es.size t)(e:Int×Value){j:Nat}(h2:j∉t.place.toList)(h3:j<=t.mask)(wy:X2 t (es.toList.map (·.1)))(ow:Wz t (·∈t.place.toList) e.1 j):∃t1 p,t.put j=(t1,p)/\(Bv es p e).toList.Perm (es.toList++[e])/\(Bv es p e).size=es.size+1/\TabOk (es.size+1) t1/\t1.mask=t.mask/\t1.plain=true/\t1.led=t.led/\X2 t1 ((Bv es p e).toList.map (·.1)):=by
 have hm:=Sf x
 have perm:=Ik es (Bj t.place j) e
 rw[Jt] at perm
 have size:(Bv es (Bj t.place j) e).size=es.size+1:=by
  rw[<- Ar,perm.length_eq,Az,Ar]
  rfl
 have p2:=Ik t.place (Bj t.place j) j
 rw[Jt] at p2
 have size2:(Bv t.place (Bj t.place j) j).size=es.size+1:=by
  rw[<- Ar,p2.length_eq,Az,Ar,x.size]
  rfl
 have nd:Vr t.dummies j=false:=by rw[x.dum]; rfl
 have ok:TabOk (es.size+1) { t with place:=Bv t.place (Bj t.place j) j } :=
  ⟨x.good,x.dum,x.plain,Xc x.rise h2,λe he=>by
   rcases Ay.mp (p2.mem_iff.mp he) with z | z
   ·exact x.top e z
   ·rw[Ag.mp z]; exact h3,size2⟩
 refine ⟨{ t with place:=Bv t.place (Bj t.place j) j },Bj t.place j,?_,perm,size,ok,rfl,x.plain,rfl,?_⟩
 ·unfold SetTable.put
  simp only[nd,Dg,if_false]
 ·have e1:(Bv es (Bj t.place j) e).toList=es.toList.take (Bj t.place j)++e::es.toList.drop (Bj t.place j):=by
   have z:=Pk es (Bj t.place j) e
   first | exact z | (rw[z]; simp)
  rw[e1,Bp,Bb,Nh,List.map_drop]
  exact wy.put (by rw[Ad,Ar,x.size]) ow
theorem mS{a:Addr}{es:Array (Int×Value)}{ep:Nat}{t:Bi}{wanted:Nat}{Q:Unit->Al->Prop}(ho:s.heap.get? a=some (Fx es ep t))(ent:∀e∈es.toList,wK prog w U s.heap e)(ok:TabOk es.size t)(le:es.size<=t.mask)(few:es.size<=1100)(led:bt w=false->t.led=true)(und:U.Nodup)(usz:es.size=U.length)(uall:∀u∈U,∃e∈es.toList,∃b,e=(Bu (Cb prog w) u,Cq b)/\Fv (Cb prog w) s.heap u b)(hw:wanted<8192)(h2:es.size * 2<=wanted)(h:∀es' ep' t' h',Fs a s.heap h'->SetT prog w U h' a es' ep' t'->es'.size=es.size->es'.toList.Perm es.toList->Q () { s with heap:=h' }):wpAny (model prog w) A (setRelay a wanted) Q E s:=by
 obtain ⟨t',order,q1,q2,q3,q4,q5,q6⟩:=uE (es:=es) ok.plain hw h2
 obtain ⟨p1,p2⟩:=xW es q2
 have mk:t'.mask<8192:=by
  unfold SetTable.relaid at q1
  rw[(Uq q1).2.1]
  omega
 unfold setRelay
 refine Ae (fB ho rfl (ok.fits le) ?_)
 dsimp only
 rw[if_neg (by rw[Ig]; omega),q1]
 refine Ae ?_
 show wpAny (model prog w) A (do
  if (order.filterMap (es[·]?)).size != es.size then unsupported "internal:set-table-lost-an-element"
  pure (order.filterMap (es[·]?),t')) _ _ _
 rw[if_neg (by rw[p2]; simp)]
 refine Ak ?_
 dsimp only
 refine Nb ho rfl ?_ (zI (by rw[p2]; omega))
 have sb:=Ck s.heap a (Xn (order.filterMap (es[·]?)) t')
 have kt:Vl s.heap _:=bP ho (by show Fh "set" ≠ Fh "tuple"; decide) sb
 exact h _ _ _ _ sb ⟨Ve ho _ _,λe he=>(ent e (p1.mem_iff.mp he)).keep kt λ_ z=>z,by rw[p2]; exact q3,q4,mk,by rw[p2]; exact few,λz=>by rw[q6]; exact led z,und,by rw[p2]; exact usz,λu hu=>by obtain ⟨e,he,b,eb,x⟩:=uall u hu; exact ⟨e,p1.mem_iff.mpr he,b,eb,Sd x kt⟩,by rw[mG,jU _ λk hk=>Cu.mp (q2.mem_iff.mp hk)]; exact sG q1⟩ p2 p1
theorem E7{a x:Addr}{kx:List Int}{es:Array (Int×Value)}{ep:Nat}{t:Bi}{Q:Bool->Al->Prop}(S:SetT prog w U s.heap a es ep t)(hn:es.size<1100)(hu:A.units<cLine)(hx:Fv (Cb prog w) s.heap kx x)(h0:kx∈U->Q false s)(h:∀es' ep' t' h',kx∉U->Fs a s.heap h'->SetT prog w (kx::U) h' a es' ep' t'->(es'.toList.map (·.2)).Perm (es.toList.map (·.2)++[Cq x])->Q true { s with heap:=h' }):wpAny (model prog w) A (fG a (.ref x) (Bu (Cb prog w) kx)) Q E s:=by
 unfold fG setAddHashedIn
 refine Dz (Ae (So S ?_))
 dsimp only
 rw[if_neg (show ¬ (byScan (.ref x) es=true) from λz=>by simp [byScan,Value.scannable] at z)]
 obtain ⟨k,hk,he⟩:=sJ S.tab (Bu (Cb prog w) kx)
 have hk':k<100000:=by
  have:=S.top
  unfold Da at hk
  omega
 unfold setSearch
 refine Ae (sN S hu hx (λhm=>?_) (λj ej jm ow nk=>?_) 100000 k hk' hk he)
 ·dsimp only
  refine Ak ?_
  exact h0 hm
 ·dsimp only
  refine Ae (So S ?_)
  dsimp only
  obtain ⟨t1,p,e1,p1,z1,ok1,m1,pl1,ld1,wy1⟩:=ER S.tab (Bu (Cb prog w) kx,Cq x) ((Jn S.tab.toTabOk).mp ej) jm S.ways ow
  rw[e1]
  dsimp only
  rw[pl1,if_pos rfl]
  refine Ae (xZ hx ?_)
  rw[if_pos rfl]
  have z1':(Bv es p (Bu (Cb prog w) kx,Cq x)).size<=1200:=by omega
  refine Ae (Nb S.obj rfl ?_ (zI z1'))
  have sb:=Ck s.heap a (Xn (Bv es p (Bu (Cb prog w) kx,Cq x)) t1)
  have kt:Vl s.heap _:=bP S.obj (by show Fh "set" ≠ Fh "tuple"; decide) sb
  have ent1:∀e∈(Bv es p (Bu (Cb prog w) kx,Cq x)).toList,wK prog w (kx::U) s.heap e:=λe he=>by
   rcases Ay.mp (p1.mem_iff.mp he) with z | z
   ·exact (S.ent e z).keep (λ_ _ _ z=>z) λ_ z=>Ah _ z
   ·rw[Ag.mp z]; exact ⟨x,kx,rfl,hx,Ab ..⟩
  have o1:=Ve S.obj (Bv es p (Bu (Cb prog w) kx,Cq x)) t1
  have ent2:=λe he=>(ent1 e he).keep kt λ_ z=>z
  have hm:=Sf S.tab
  have und:(kx::U).Nodup:=Bt.mpr ⟨nk,S.nd⟩
  have usz:(Bv es p (Bu (Cb prog w) kx,Cq x)).size=(kx::U).length:=by rw[z1,S.sz,Be]
  have uall:∀u∈kx::U,∃e∈(Bv es p (Bu (Cb prog w) kx,Cq x)).toList,∃b,e=(Bu (Cb prog w) u,Cq b)/\Fv (Cb prog w) _ u b:=λu hu=>by
   rcases Ai.mp hu with rfl | hu
   ·exact ⟨_,p1.mem_iff.mpr (Ao _ (Ag.mpr rfl)),x,rfl,Sd hx kt⟩
   ·obtain ⟨e,he,b,eb,q⟩:=S.all u hu
    exact ⟨e,p1.mem_iff.mpr (Ap _ he),b,eb,Sd q kt⟩
  have pv:((Bv es p (Bu (Cb prog w) kx,Cq x)).toList.map (·.2)).Perm (es.toList.map (·.2)++[Cq x]):=by
   have:=p1.map (·.2)
   rw[Bp] at this
   exact this
  by_cases tf:t1.tooFull=true
  ·rw[tf,if_pos (by decide)]
   have gr:Oo (es.size+1)=(es.size+1) * 4:=by unfold Oo; rw[if_neg (by omega)]
   rw[gr]
   refine Ae (mS o1 ent2 (by rw[z1]; exact ok1) (by omega) (by omega) (λz=>by rw[ld1]; exact S.led z) und usz uall (by omega) (by omega) λes' ep' t' h' sb' S' zz pz=>Ak ?_)
   exact h es' ep' t' h' nk (sb.trans sb') S' ((pz.map (·.2)).trans pv)
  ·have room:(es.size+1) * 5<t1.mask * 3:=by
    have : ¬ (t1.fill * 5 ≥ t1.mask * 3):=λz=>tf (by unfold SetTable.tooFull; exact decide_eq_true z)
    have e:t1.fill=es.size+1:=by
     unfold Tv
     rw[ok1.dum,ok1.size]
     rfl
    omega
   rw[bT] at tf
   rw[tf]
   simp only[Pm,Dg,if_false]
   refine Ak ?_
   exact h _ _ t1 _ nk sb ⟨o1,ent2,by rw[z1]; exact ⟨ok1,room⟩,by rw[m1]; exact S.odd,by rw[m1]; exact S.top,by omega,λz=>by rw[ld1]; exact S.led z,und,usz,uall,wy1⟩ pv
end
section
variable{prog:Bs}{w:World}{A:Dj}{R:Result->Al->Prop}
def Vf(prog:Bs)(w:World)(h:Heap)(vs:List Value)(ws:List (List Int)):Prop:=vs.length=ws.length/\∀(i:Nat) (h1:i<vs.length) (h2:i<ws.length),∃b,vs[i]=Cq b/\Fv (Cb prog w) h ws[i] b
theorem Vf.keep{h h':Heap}{vs:List Value}{ws:List (List Int)}(x:Vf prog w h vs ws)(k:Vl h h'):Vf prog w h' vs ws :=
 ⟨x.1,λi h1 h2=>by obtain ⟨b,e,z⟩:=x.2 i h1 h2; exact ⟨b,e,Sd z k⟩⟩
theorem tW{a it l:Addr}(n1:a≠it)(n2:a≠l)(n3:l≠it){items:Array Value}{ws:List (List Int)}(few:ws.length<=1100)(hh:A.in1.handled=none)(hu:A.in1.units<cLine):∀(k i:Nat) (s:Al) (es:Array (Int×Value)) (ep:Nat) (t:Bi) (U:List (List Int)),items.size - i=k->i<=items.size->s.heap.IsListIter it l i->s.heap.IsList l items->Vf prog w s.heap items.toList ws->SetT prog w U s.heap a es ep t->es.size<=i->(∀x,x∈U↔x∈ws.take i)->(ws.Nodup->(es.toList.map (·.2)).Perm (items.toList.take i))->(∀v∈es.toList.map (·.2),v∈items.toList)->(∀es' ep' t' h' tk V,(∀b o,b≠a->b≠it->s.heap.get? b=some o->h'.get? b=some o)->SetT prog w V h' a es' ep' t'->(∀x,x∈V↔x∈ws)->(ws.Nodup->(es'.toList.map (·.2)).Perm items.toList)->(∀v∈es'.toList.map (·.2),v∈items.toList)->R (.ok (.ret .none)) { s with heap:=h',toks:=tk })->Ng (model prog w) A (.builtin "set.update.loop" ⟨[.ref a,.ref it],[]⟩) R s:=by
 intro k
 induction k with
 | zero =>
  intro i s es ep t U hk hi hit hl hw S hz hU hN hV hR
  have len:items.size=ws.length:=by rw[<- hw.1,Ar]
  have e:i=items.size:=by omega
  refine Fz Ga ?_
  rw[Fj Dc _]
  show wpAny _ A.in1 (Uk (.ref it) >>= _) _ _ s
  refine Ae (wpAny_pyNext_list_end hh hit hl (by rw[e]; simp) λh' x=>?_)
  have kp:Kept s.heap h':=λb o c q=>by
   refine x b o (λz=>?_) q
   subst z
   obtain ⟨o',ho',c',_⟩:=hit
   rw[ho'] at q
   cases q
   rw[c'] at c
   rcases c with c | c <;> exact absurd c (by decide)
  have S':=S.keep kp
  refine Ak (hR es ep t h' s.toks U (λb o _ q e=>x b o q e) S' (λx=>?_) (λz=>?_) hV)
  ·rw[hU x,Jc (by omega)]
  ·have q:=hN z
   rw[e,Jc (by rw[Ar]; exact An _)] at q
   exact q
 | succ k ih =>
  intro i s es ep t U hk hi hit hl hw S hz hU hN hV hR
  have len:items.size=ws.length:=by rw[<- hw.1,Ar]
  have lt:i<items.size:=by omega
  have lt':i<ws.length:=by omega
  obtain ⟨b,ev,hx⟩:=hw.2 i (by rw[Ar]; exact lt) lt'
  have ev':items[i]=Cq b:=by simpa using ev
  refine Fz Ga ?_
  rw[Fj Dc _]
  show wpAny _ A.in1 (Uk (.ref it) >>= _) _ _ s
  refine Ae (j3 hit hl (x:=items[i]) (by simp [lt]) λh1 hit1 sb1=>?_)
  rw[ev']
  show wpAny _ A.in1 (Yh [Cq b] (setAdd a (.ref b)) >>= _) _ _ _
  refine Ae (Dz ?_)
  unfold setAdd
  have kp:Kept s.heap h1:=λb o c q=>by
   refine (sb1.2 b λz=>?_).trans q
   subst z
   obtain ⟨o',ho',c',_⟩:=hit
   rw[ho'] at q
   cases q
   rw[c'] at c
   rcases c with c | c <;> exact absurd c (by decide)
  have S1:=S.keep kp
  have hx1:=Sd hx kp.t
  refine Dz (Ae (wpAny_pyHash_tuple (s:={ s with heap:=h1 }) hu hx1 ?_))
  have kt:∀(h2:Heap) (es2:Array (Int×Value)) (ep2:Nat) (t2:Bi) (V:List (List Int)),Fs a h1 h2->SetT prog w V h2 a es2 ep2 t2->es2.size<=i+1->(∀x,x∈V↔x∈ws.take (i+1))->(ws.Nodup->(es2.toList.map (·.2)).Perm (items.toList.take (i+1)))->(∀v∈es2.toList.map (·.2),v∈items.toList)->∀tk,Ng (model prog w) A (.builtin "set.update.loop" ⟨[.ref a,.ref it],[]⟩) R { s with heap:=h2,toks:=tk }:=λh2 es2 ep2 t2 V sb2 S2 l2 u2 g2 w2 tk=>by
   have kt2:Vl h1 h2:=bP S1.obj (by show Fh "set" ≠ Fh "tuple"; decide) sb2
   refine ih (i+1) { s with heap:=h2,toks:=tk } es2 ep2 t2 V (by omega) lt ?_ ?_ (hw.keep λb o c e=>kt2 b o c (kp.t b o c e)) S2 l2 u2 g2 w2 λes3 ep3 t3 h3 tk3 V3 k3 S3 u3 g3 w3=>?_
   ·obtain ⟨o,ho,r⟩:=hit1
    exact ⟨o,(sb2.2 it (Ny n1)).trans ho,r⟩
   ·obtain ⟨o,ho,r⟩:=hl
    exact ⟨o,(sb2.2 l (Ny n2)).trans ((sb1.2 l n3).trans ho),r⟩
   ·exact hR es3 ep3 t3 h3 tk3 V3 (λb o q1 q2 e=>k3 b o q1 q2 ((sb2.2 b q1).trans ((sb1.2 b q2).trans e))) S3 u3 g3 w3
  have tk1:=Dy lt'
  refine E7 (s:={ s with heap:=h1,toks:=s.toks+(ws[i].length+1) }) S1 (by omega) hu hx1 (λhm=>?_) λes2 ep2 t2 h2 nk sb2 S2 g2=>?_
  ·refine Ak ⟨Ov Dc _,?_⟩
   refine kt h1 es ep t U (Heap.SameBut.refl a h1) S1 (by omega) (λx=>?_) (λz=>?_) hV _
   ·rw[tk1,Ay,Ag,hU x]
    exact ⟨.inl,λq=>q.elim id λq=>by rw[q]; exact (hU _).mp hm⟩
   ·obtain ⟨j,hj,ej⟩:=iP.mp ((hU _).mp hm)
    exact absurd ej (Ku.mp z j i (by omega) lt' (by omega))
  ·refine Ak ⟨Ov Dc _,?_⟩
   refine kt h2 es2 ep2 t2 (ws[i]::U) sb2 S2 (by rw[S2.sz,Be,<- S.sz]; omega) (λx=>?_) (λz=>?_) (λv hv=>?_) _
   ·rw[tk1,Ay,Ag,Ai,hU x]
    exact Or.comm
   ·rw[Dy (by rw[Ar]; exact lt),show items.toList[i]=Cq b from ev]
    exact g2.trans ((hN z).append_right _)
   ·rcases Ay.mp (g2.mem_iff.mp hv) with q | q
    ·exact hV v q
    ·rw[Ag.mp q,<- ev]
     exact Il _
end
section
variable{prog:Bs}{w:World}{A:Dj}{E:Value->Al->Prop}{s:Al}
theorem oS{h:Heap}:SetT prog w [] (h.push (Fx #[] 0 (.fresh 0 0 (!bt w)))) h.objs.size #[] 0 (.fresh 0 0 (!bt w)) :=
 ⟨Bl _ rfl,(λe he=>by simp at he),⟨⟨pP,rfl,rfl,Eh,(λj hj=>by simp [SetTable.fresh] at hj),rfl⟩,by show 0 * 5<7 * 3; decide⟩,by show 7 % 2=1; decide,by show 7<8192; decide,by show 0<=1100; decide,λz=>by show (!bt w)=true; rw[z]; rfl,Cv,rfl,λu hu=>by simp at hu,λx hx=>by simp at hx⟩
theorem wV{l:Addr}{items:Array Value}{ws:List (List Int)}{Q:Value->Al->Prop}(hh:A.handled=none)(hu:A.units+64<cLine)(hl:s.heap.IsList l items)(hw:Vf prog w s.heap items.toList ws)(few:ws.length<=1100)(h:∀es ep t h' tk U,(∀b o,s.heap.get? b=some o->h'.get? b=some o)->SetT prog w U h' s.heap.objs.size es ep t->(∀x,x∈U↔x∈ws)->(ws.Nodup->(es.toList.map (·.2)).Perm items.toList)->(∀v∈es.toList.map (·.2),v∈items.toList)->Q (.ref s.heap.objs.size) { s with heap:=h',toks:=tk }):wpAny (model prog w) A (call (.type "set") [.ref l]) Q E s:=by
 obtain ⟨c,tl,hmro⟩:=PySem.F.called_set.mro
 have hmade:=PySem.F.called_set.made
 have hsub:=PySem.F.called_set.sub
 have h1:=PySem.F.called_set.notType
 have h2:=PySem.F.called_set.canCreate
 have hct:=PySem.F.typeCall_set_1 (.ref l)
 refine wpAny_call (Vq (show wpAny _ _ (callAny (.type "set") _) _ _ _ from ?_))
 refine Ak ⟨Code.quiet_builtin _ (by decide +kernel),Fz PySem.F.entry_type_call ?_⟩
 rw[Around.under_plain (weight_type_call_type "set" [.ref l] []) rfl]
 repeat (any_goals (first | assumption | wp_step))
 refine Lf (jY (.ref l) (E:=E) (Q:=λv s1=>v=.ref s.heap.objs.size/\s1={ s with heap:=s.heap.push (Fx #[] 0 (.fresh 0 0 (!bt w))) }) ⟨rfl,rfl⟩) λr s1 hr=>?_
 rcases r with e | (_ | _ | _ | v)
 ·exact hr
 ·exact hr.elim
 ·exact hr.elim
 ·exact hr.elim
 obtain ⟨rfl,rfl⟩:=hr
 have S0:=oS (prog:=prog) (w:=w) (h:=s.heap)
 have T0:Shared.TypeIs { s with heap:=s.heap.push (Fx #[] 0 (.fresh 0 0 (!bt w))) } (.ref s.heap.objs.size) "set" := ⟨_,S0.obj,rfl⟩
 have hli:=PySem.F.called_set.init.lookup
 have hbi:=PySem.F.called_set.init.bind (.ref s.heap.objs.size)
 repeat (any_goals (first | assumption | wp_step))
 refine Lf (codeAny_call_builtin (R:=wants (λr s2=>r=.none/\∃es ep t h' tk U,s2={ s with heap:=h',toks:=tk }/\(∀b o,s.heap.get? b=some o->h'.get? b=some o)/\SetT prog w U h' s.heap.objs.size es ep t/\(∀x,x∈U↔x∈ws)/\(ws.Nodup->(es.toList.map (·.2)).Perm items.toList)/\(∀v∈es.toList.map (·.2),v∈items.toList)) E)
  PySem.F.called_set.init.plain PySem.F.entry_set_init (check_set_init_1 T0 ?_)) λr s2 hr=>?_
 ·obtain ⟨⟨oc,od,odt,osl⟩,ho,hc,n,hd⟩:=id hl
  have hc':oc=.type "list" := hc
  have hd':odt=.seq items n:=hd
  subst hc' hd'
  have ho':=Am (Fx #[] 0 (.fresh 0 0 (!bt w))) ho
  have hl1:(s.heap.push (Fx #[] 0 (.fresh 0 0 (!bt w)))).IsList l items:=⟨_,ho',rfl,n,rfl⟩
  have f1:=PySem.F.sub_list_set
  have f2:=PySem.F.sub_list_frozenset
  have f3:(Fh "list" == Fh "dict")=false:=by decide
  have lt:=Br ho
  unfold Builtin.«set.__init__» noKeywords Te
  generalize hPI:pyIter=PI
  wp_walk
  subst hPI
  refine fE hl1 (Ae (wpAny_runValue ?_))
  have sz:(s.heap.push (Fx #[] 0 (.fresh 0 0 (!bt w)))).objs.size=s.heap.objs.size+1:=Heap.size_push _ _
  have g1:((s.heap.push (Fx #[] 0 (.fresh 0 0 (!bt w)))).push { cls:=.type "list_iterator",data:=.fields #[.ref l,.int 0 0] }).get? (s.heap.push (Fx #[] 0 (.fresh 0 0 (!bt w)))).objs.size=some { cls:=.type "list_iterator",data:=.fields #[.ref l,.int 0 0] }:=Bl _ rfl
  have kp1:Vl s.heap ((s.heap.push (Fx #[] 0 (.fresh 0 0 (!bt w)))).push { cls:=.type "list_iterator",data:=.fields #[.ref l,.int 0 0] }):=λb o _ e=>Am _ (Am _ e)
  refine tW (by rw[sz]; exact Cs (Qz _)) (Nat.ne_of_gt lt) (by rw[sz]; exact Cs (Ml lt)) few (by simp [hh]) (by simp; omega) (items.size - 0) 0 _ #[] 0 (.fresh 0 0 (!bt w)) [] rfl (Ee _) ⟨_,g1,rfl,rfl⟩ ⟨_,Am _ ho',rfl,n,rfl⟩
   (hw.keep kp1) (S0.keep λb o _ q=>Am _ q) (Ee _) (λx=>Iff.rfl) (λ_=>Nz _) (λv hv=>nomatch hv) λes ep t h' tk U k' S' m' m2' m3'=>?_
  refine Ak (Ak ⟨rfl,es,ep,t,h',tk,U,rfl,λb o e=>?_,S',m',m2',m3'⟩)
  ·have lb:=Br e
   exact k' b o (Cs lb) (by rw[sz]; exact Cs (Ml lb)) (Am _ (Am _ e))
 ·rcases r with e | (_ | _ | _ | v)
  ·exact hr
  ·exact hr.elim
  ·exact hr.elim
  ·exact hr.elim
  obtain ⟨rfl,es,ep,t,h',tk,U,rfl,k',S',m',m2',m3'⟩:=hr
  repeat (any_goals (first | assumption | wp_step))
  exact h es ep t h' tk U k' S' m' m2' m3'
end
end NdS
namespace Nd
open PySem PySem.Spec PyProof.Rows L2 NdS
def nB(a:Addr)(n:Nat)(h:Heap):Prop:=∃es ep t,h.get? a=some (Fx es ep t)/\t.fits es.size=true/\es.size=n
abbrev rZ(a:Addr)(n:Nat):HO:=.ext (nB a n)
theorem E4{P:Bs}{w':World}{H:Hp}{h:Heap}{a:Addr}{n:Nat}(e:nB a n h):Gq P w' H h a (rZ a n) :=
 ⟨e,let ⟨_,_,_,S,_⟩:=e; ⟨_,S⟩,λh1 h2 ⟨es,ep,t,S,m⟩ k=>⟨es,ep,t,k _ S,m⟩⟩
theorem sT{P:Bs}{w:World}{H:Hp}{h:Heap}{a:Addr}{n:Nat}(ok:Vj P w H h)(e:H a=some (rZ a n)):nB a n h :=
 (show Gq P w H h a (rZ a n) from ok a _ e).1
theorem kH{prog:Bs}{w:World}:∀{ns:List Int} {vs:List Value},Fe (ns.map V.int) vs->ItemsAre (Cb prog w) ns vs
 | [],_,h=>by cases h; exact .nil
 | n::ns,_,h=>by
  cases h with
  | cons a t =>
   obtain ⟨tk,rfl⟩:=a
   exact .cons (intKind_is _ _ _ _) (kH t)
theorem pH:∀{rs:List Addr} {vs:List Value},Fe (rs.map V.ref) vs->vs=rs.map Cq
 | [],_,h=>by cases h; rfl
 | r::rs,_,h=>by
  cases h with
  | cons a t =>
   cases a
   rw[pH t]
   rfl
theorem Sa{α:Type}[DecidableEq α]:∀{l1 l2:List α},l1.Nodup->(∀e∈l1,e∈l2)->l1.length<=l2.length
 | [],_,_,_=>Ee _
 | a::l1,l2,nd,h=>by
  have nd':=Bt.mp nd
  have ha:=h a (Ab ..)
  have:=Sa (l2:=l2.erase a) nd'.2 λe he=>(Nu (show e≠a from λz=>nd'.1 (by rw[<- z]; exact he))).mpr (h e (Ah _ he))
  rw[Le ha] at this
  have p:0<l2.length:=Ly ha
  rw[Be]
  omega
theorem kP{α:Type}[DecidableEq α]:∀{l:List α},¬ l.Nodup->∃x∈l,x∈l.erase x
 | [],h=>absurd Cv h
 | a::l,h=>by
  by_cases c:a∈l
  ·exact ⟨a,Ab ..,by rw[List.erase_cons_head]; exact c⟩
  ·obtain ⟨x,hx,hx2⟩:=kP (l:=l) λz=>h (Bt.mpr ⟨c,z⟩)
   have ne:¬ (a == x)=true:=λz=>c (by rw[show a=x by simpa using z]; exact hx)
   exact ⟨x,Ah _ hx,by rw[List.erase_cons_tail ne]; exact Ah _ hx2⟩
theorem zE{α:Type}[DecidableEq α]{U ws:List α}(n1:U.Nodup)(h:∀x,x∈U↔x∈ws):U.length<=ws.length/\(U.length=ws.length↔ws.Nodup):=by
 have l1:=Sa n1 λe he=>(h e).mp he
 refine ⟨l1,λe=>Ft λz=>?_,λn2=>Nat.le_antisymm l1 (Sa n2 λe he=>(h e).mpr he)⟩
 obtain ⟨x,hx,hx2⟩:=kP z
 have:=Sa (l2:=ws.erase x) n1 λe he=>by
  by_cases c:e=x
  ·rw[c]; exact hx2
  ·exact (Nu c).mpr ((h e).mp he)
 rw[Le hx] at this
 have p:0<ws.length:=Ly hx
 omega
def AK(K:PySem.W.Frag):List V->Hp->VK->Prop:=λxs H Q=>∃(a:Addr) (rs:List Addr) (f:Addr->List Int),xs=[.ref a]/\Tq K H a (rs.map V.ref)/\(∀r∈rs,Uj K H r ((f r).map V.int))/\rs.length<=1100 /\
 ∀(p:Addr) (n:Nat),H p=none->n<=rs.length->(n=rs.length↔(rs.map f).Nodup)->Q (.ref p) (upd H p (rZ p n))
theorem rR{X:Cx}(hc:X.calm=true)(hu:X.A.units+64<cLine):Jz X (.type "set") (AK X.K):=by
 intro pins s σ H xs us Q I r h
 obtain ⟨a,rs,f,rfl,hs,ht,few,q⟩:=h
 obtain ⟨u,rfl,ru⟩:=vals1 r
 cases ru
 obtain ⟨its,rv,pl,_⟩:=I.list hs
 have e:=pH rv
 subst e
 refine wV (ws:=rs.map f) (I.ok.hd hc) hu pl.isList ⟨by simp,λi h1 h2=>?_⟩ (by rw[Ad]; exact few) λes ep t h' tk U k S m m2 _=>?_
 ·have hi:i<rs.length:=by simpa using h1
  obtain ⟨js,jv,⟨o,e,hcl,n,hd⟩,_⟩:=I.tuple (ht rs[i] (Il hi))
  exact ⟨rs[i],by simp,o,_,n,e,hcl,hd,by rw[List.getElem_map]; simpa using kH jv⟩
 ·obtain ⟨l1,l2⟩:=zE S.nd m
  rw[Ad,<- S.sz] at l1 l2
  exact ⟨.ref s.heap.objs.size,_,I.laid k (An _) (E4 ⟨es,ep,t,S.obj,S.tab.fits,rfl⟩),rfl,q _ _ (I.hok.fresh (An _)) l1 l2⟩
def Z2:List V->Hp->VK->Prop:=λxs H Q=>∃a n,xs=[V.ref a]/\H a=some (rZ a n)/\n<=1100/\Q (.int n) H
theorem tY{X:Cx}:Jz X (.builtin "len") Z2:=by
 intro pins s σ H xs us Q I r h
 obtain ⟨a,n,rfl,ha,hn,q⟩:=h
 obtain ⟨u,rfl,ru⟩:=vals1 r
 cases ru
 obtain ⟨es,ep,t,ho,hf,rfl⟩:=sT I.hok ha
 refine call_len_set ho ⟨rfl,rfl,rfl⟩ rfl hf (by omega) ?_
 exact ⟨.int es.size,H,I.tok _,⟨_,rfl⟩,q⟩
end Nd
namespace Nd
open PySem L2
end Nd
namespace DL
open PySem PySem.Spec PyProof.Rows L2 Nd
def CP(xs:List DV)(δ:DS)(P:DV->DS->Prop):Prop:=match xs with
 | [.dat _ (.list ds)]=>∃ws:List (List Int),ds=ws.map Au/\ws.length<=1100/\∀n:Nat,n<=ws.length->(ws.Nodup->n=ws.length)->(n=ws.length->ws.Nodup)->P (.dat .ow (.int n)) δ
 | _=>False
def qH(da:DA):DE:=λδ P=>da δ λxs δ1=>CP xs δ1 P
section
variable{X:Cx}{p p2 pos pos2:Pos}{e:Expr}{da:DA}
theorem uB(hu:X.A.units+64<cLine)(hc:X.calm=true)(hg:Gl X "len")(hm:X.mg "len" = none)(hg2:Gl X "set")(hm2:X.mg "set" = none)(ha:mE X [e] da)(he:Bz [e] X.env=[(false,eval e X.env)]:=by rfl)(he2:Bz [.Call (.Name "set" p2) [e] [] pos2] X.env=[(false,eval (.Call (.Name "set" p2) [e] [] pos2) X.env)]:=by rfl):Em X (.Call (.Name "len" p) [.Call (.Name "set" p2) [e] [] pos2] [] pos) (qH da):=by
 refine PE.imp (Ze tY hg hm (by decide +kernel) (Hu (Pr (rR hc hu) hg2 hm2 (by decide +kernel) ha (by decide) (by decide) he rfl) Pj he2) (by decide) (by decide) he2 rfl) λσ H Q h=>?_
 obtain ⟨H0,Y,S,T,δ,P,rfl,hS,hA,hd,k⟩:=h
 refine ⟨H0,Y,S,T,δ,_,rfl,hS,hA,hd,λxs δ' As us S' H' e1 e2 ex eu hA' p=>?_⟩
 unfold CP at p
 split at p
 ·obtain ⟨v,F,rfl,hA2⟩:=Ht eu hA' ex
  obtain ⟨ws,rfl,hl,pp⟩:=p
  obtain ⟨a,xs,G,rfl,ha,ra,rfl,hz⟩:=(hA2.told mem_mid).list_inv
  obtain ⟨rs,rfl,rfl,rfl,c1,c2⟩:=jD ra rfl
  rw[Ad] at hl
  refine ⟨a,rs,W4 H',rfl,Tq.of ha,λr hr=>Uj.of (c1 r hr),hl,λq n hq h1 h2=>?_⟩
  refine ⟨q,n,rfl,Dt,by omega,?_⟩
  have s1:=Ff hq (rZ q n)
  exact k _ δ' _ _ S' _ e1 e2 ((hA2.drop.grow s1 (An _)).pushI (.int _)) (pp n (by rw[Ad]; exact h1) (by rw[Ad]; exact h2.mpr) (by rw[Ad]; exact h2.mp))
 ·exact p.elim
end
end DL
namespace NdW
open PySem PyProof.Rows NdS
end NdW
namespace Nd
open PySem PySem.Spec PyProof.Rows L2 NdS NdW
end Nd
namespace DL
open PySem PySem.Spec PyProof.Rows L2 Nd
def W7(t u:DB)(D:DEnds)(b:Bool)(δ:DS):Prop:=match b with
 | true=>t D δ
 | false=>u D δ
def Z1(x:DV)(δ:DS)(P:DV->DS->Prop):Prop:=match x with
 | .dat _ d=>imm d=true/\P (.dat .ow d) δ
 | _=>False
def GM(i:Nat)(s:Option DV)(δ:DS)(P:DV->DS->Prop):Prop:=match s with
 | some (.dat .pk _)=>False
 | some (.dat _ d)=>P (.dat .sh d) ⟨δ.sl.set i (.dat .sh d),δ.n⟩
 | _=>False
def tupB(xs:List DV)(δ:DS)(P:DV->DS->Prop):Prop:=match datas xs with
 | some ds=>ds.length<=1000/\P (.dat (pkMd .sh xs) (.tuple ds)) δ
 | none=>False
def lstB(xs:List DV)(δ:DS)(P:DV->DS->Prop):Prop:=match datas xs with
 | some ds=>ds.length<=1000/\P (.dat (pkMd .tp xs) (.list ds)) δ
 | none=>False
def F8(x:DV)(δ:DS)(P:Option Int->DS->Prop):Prop:=match x with
 | .dat _ (.int i)=>P (some i) δ
 | _=>False
def CO(i:Bool)(x:DV)(l h:Option Int)(δ:DS)(P:DV->DS->Prop):Prop:=match x with
 | .dat m (.list ds)=>Oy i m (Ic ds l h) λz=>P z δ
 | .dat m (.tuple ds)=>Xy i m (Ic ds l h) λz=>P z δ
 | _=>False
def GT(xs:List DV)(δ:DS)(P:DV->DS->Prop):Prop:=match xs with
 | [.dat _ (.list ds)]=>∃ns:List Int,ds=ns.map Ax/\(∀x∈ns,0<=x/\x<60)/\P (.dat .ow (.list ((Yb ns).map Ax))) δ
 | [.dat _ (.tuple ds)]=>∃ns:List Int,ds=ns.map Ax/\(∀x∈ns,0<=x/\x<60)/\P (.dat .ow (.list ((Yb ns).map Ax))) δ
 | _=>False
def bB(x:DV)(δ:DS)(P:Bool->DS->Prop):Prop:=match x with
 | .dat _ (.bool b)=>P b δ
 | _=>False
def O9(du:DT)(b:Bool)(δ:DS)(P:Bool->DS->Prop):Prop:=match b with
 | true=>du δ P
 | false=>P false δ
def X6(du:DT)(b:Bool)(δ:DS)(P:Bool->DS->Prop):Prop:=match b with
 | true=>P true δ
 | false=>du δ P
def uO(x:DV)(δ:DS)(P:DV->DS->Prop):Prop:=match x with
 | .dat _ (.bool b)=>P (.dat .ow (.bool (!b))) δ
 | _=>False
def B6(db:DE)(x:DV)(δ:DS)(P:DV->DS->Prop):Prop:=match x with
 | .dat _ (.bool true)=>db δ P
 | .dat _ (.bool false)=>P (.dat .ow (.bool false)) δ
 | _=>False
def AR(x:DV)(δ:DS)(P:DV->DS->Prop):Prop:=match x with
 | .dat _ (.int i)=>P (.dat .ow (.int (-i))) δ
 | _=>False
def lB(x:DV)(δ:DS)(P:Md->List Ac->DS->Prop):Prop:=match x with
 | .dat m (.list ds)=>P (Kv m) ds δ
 | _=>False
def EI(x:DV)(δ:DS)(P:Md->List Ac->DS->Prop):Prop:=match x with
 | .dat m (.tuple ds)=>P (Kv m) ds δ
 | _=>False
def F7(xs:List DV)(δ:DS)(P:Md->List Ac->DS->Prop):Prop:=match xs with
 | [.dat _ (.int j)]=>-1000000<=j/\j<=1000000/\P .sh ((Bh j.toNat).map λi:Nat=>.int i) δ
 | _=>False
def K9(xs:List DV)(δ:DS)(P:Md->List Ac->DS->Prop):Prop:=match xs with
 | [.dat m (.list ds)]=>P (Kv m) (ds.zipIdx.map λp=>.tuple [.int p.2,p.1]) δ
 | _=>False
def FF(xs:List DV)(δ:DS)(P:Md->List Ac->DS->Prop):Prop:=match xs with
 | [.dat m (.tuple ds)]=>P (Kv m) (ds.zipIdx.map λp=>.tuple [.int p.2,p.1]) δ
 | _=>False
def AO(dg:DG)(db:DB)(D:DEnds)(m:Md)(ds:List Ac)(δ1:DS):Prop:=m=.sh/\∃I:Nat->DS->Prop,I 0 δ1 /\
 (∀i d δ',ds[i]? = some d->I i δ'->dg (.dat .sh d) δ' λδ2=>db { D with nx:=I (i+1),ct:=I (i+1),bk:=D.nx } δ2)/\∀δ',I ds.length δ'->D.nx δ'
def vQ(js:List Nat)(dc:DT)(de:DE)(P:DV->DS->Prop)(m:Md)(ds:List Ac)(δ1:DS):Prop:=∃I:Nat->List Ac->Nat->Prop,I 0 [] δ1.n /\
 (∀i d acc n,ds[i]? = some d->I i acc n->Ur dc de ⟨.dat m d::frD δ1.sl js,n⟩ (λe n'=>I (i+1) (acc++[e]) n') (λn'=>I (i+1) acc n')) /\
 ∀acc n,I ds.length acc n->P (.dat .ow (.list acc)) ⟨δ1.sl,n⟩
def zC(js:List Nat)(dc:DT)(de:DE)(P:DV->DS->Prop)(m:Md)(ds:List Ac)(δ1:DS):Prop:=∃I:Nat->List Ac->Nat->Prop,I 0 [] δ1.n /\
 (∀i d acc n,ds[i]? = some d->I i acc n->Nw false dc de ⟨.dat m d::frD δ1.sl js,n⟩ (λe n'=>I (i+1) (acc++[e]) n') (λn'=>I (i+1) acc n')) /\
 ∀acc n,I ds.length acc n->P (.dat .tp (.list acc)) ⟨δ1.sl,n⟩
def n4(yes:Ac->Nat->Prop)(y:DV)(δ:DS):Prop:=match y with
 | .dat _ e=>imm e=true/\yes e δ.n
 | _=>False
def qV(de:DE)(yes:Ac->Nat->Prop)(no:Nat->Prop)(b:Bool)(δ:DS):Prop:=match b with
 | true=>de δ λy δ3=>n4 yes y δ3
 | false=>no δ.n
def yD(yes:Ac->Nat->Prop)(y:DV)(δ:DS):Prop:=match y with
 | .dat m e=>m≠.pk/\yes e δ.n
 | _=>False
def nP(de:DE)(yes:Ac->Nat->Prop)(no:Nat->Prop)(b:Bool)(δ:DS):Prop:=match b with
 | true=>de δ λy δ3=>yD yes y δ3
 | false=>no δ.n
def callB(pf:PF)(xs:List DV)(δ:DS)(P:DV->DS->Prop):Prop:=match datas xs with
 | some ds=>pf ds λd=>P (.dat .ow d) δ
 | none=>False
def callBW(i:Nat)(df:DF)(xs:List DV)(δ:DS)(P:DV->DS->Prop):Prop:=match δ.sl[i]? with
 | some .drw=>match datas xs with
  | some ds=>df ds δ.n λd n'=>P (.dat .ow d) ⟨δ.sl,n'⟩
  | none=>False
 | _=>False
def xG(xs:List DV)(δ:DS)(P:DV->DS->Prop):Prop:=match xs with
 | [.dat _ (.int _)]=>P .drw δ
 | _=>False
def revTB(x:DV)(δ:DS)(P:DV->DS->Prop):Prop:=match x with
 | .dat _ (.tuple ds)=>Du ds=true/\P (.dat .ow (.tuple ds.reverse)) δ
 | _=>False
def appB(i:Nat)(y:DV)(δ:DS)(D:DEnds):Prop:=match δ.sl[i]?,y with
 | some (.dat m (.list ds)),.dat _ e=>own1 m=true/\npk δ.sl=true/\imm e=true/\ds.length<1000000/\D.nx ⟨δ.sl.set i (.dat m (.list (ds++[e]))),δ.n⟩
 | _,_=>False
def CI(i:Nat)(z:DV)(δ:DS)(D:DEnds):Prop:=match z with
 | .dat _ d=>imm d=true/\D.nx ⟨δ.sl.set i (.dat .sh d),δ.n⟩
 | _=>False
def callAB(pf:PF)(xs:List DV)(δ:DS)(P:DV->DS->Prop):Prop:=match datas xs with
 | some ds=>pf ds λd=>P (.dat .sh d) δ
 | none=>False
def CJ(xs:List DV)(δ:DS)(P:DV->DS->Prop):Prop:=match xs with
 | [.dat _ (.tuple ds)]=>∃ns:List Int,ds=ns.map Ax/\(∀x∈ns,0<=x/\x<60)/\P (.dat .ow (.list ((Yb ns).map Ax))) δ
 | _=>False
theorem e_lenSet{da:DA}{δ:DS}{P:DV->DS->Prop}:qH da δ P=(da δ λxs δ1=>CP xs δ1 P):=rfl
theorem e_lsB{m:Md}{ds:List Ac}{δ:DS}{P:DV->DS->Prop}:CP [.dat m (.list ds)] δ P=(∃ws:List (List Int),ds=ws.map Au/\ws.length<=1100/\∀n:Nat,n<=ws.length->(ws.Nodup->n=ws.length)->(n=ws.length->ws.Nodup)->P (.dat .ow (.int n)) δ):=rfl
theorem W8{i:Nat}{dk de:DE}{D:DEnds}{δ:DS}:vP i dk de D δ=(match δ.sl[i]? with | some (.dat _ (.list _))=>dk δ λz δ1=>de δ1 λy δ2=>G4 i z y δ2 D | _=>False):=rfl
theorem e_callWV{i:Nat}{df:DF}{da:DA}{δ:DS}{P:DV->DS->Prop}:gD i df da δ P=(match δ.sl[i]? with | some .drw=>da δ λxs δ1=>fQ i df xs δ1 P | _=>False):=rfl
theorem e_callWVB{i:Nat}{df:DF}{xs:List DV}{δ:DS}{P:DV->DS->Prop}:fQ i df xs δ P=(match δ.sl[i]?,datas xs with | some .drw,some ds=>noPk xs=true/\df ds δ.n λd n'=>Mw d=true/\P (.dat .sh d) ⟨δ.sl,n'⟩ | _,_=>False):=rfl
theorem e_idx{da db:DE}{δ:DS}{P:DV->DS->Prop}:AJ da db δ P=(da δ λx δ1=>t7 x δ1 db P):=rfl
theorem e_idxB{m:Md}{ds:List Ac}{db:DE}{δ:DS}{P:DV->DS->Prop}:t7 (.dat m (.list ds)) δ db P=(db δ λy δ2=>u4 ds y δ2 P):=rfl
theorem e_idxC{ds:List Ac}{m:Md}{d:Ac}{δ:DS}{P:DV->DS->Prop}:u4 ds (.dat m d) δ P=(Bc ds<=60/\d.depth<=60/\∃j,ds.findIdx? (λe=>Dv e d)=some j/\P (.dat .ow (.int (j:Nat))) δ):=rfl
theorem e_seq{t u:DB}{D:DEnds}{δ:DS}:Y5 t u D δ=(t { D with nx:=λδ'=>u D δ' } δ):=rfl
theorem e_skip{D:DEnds}{δ:DS}:K1 D δ=(D.nx δ):=rfl
theorem e_ret{de:DE}{D:DEnds}{δ:DS}:Y9 de D δ=(de δ D.rt):=rfl
theorem e_if{dt:DT}{t u:DB}{D:DEnds}{δ:DS}:FS dt t u D δ=(dt δ (W7 t u D)):=rfl
theorem e_asg{de:DE}{dg:DG}{D:DEnds}{δ:DS}:uC de dg D δ=(de δ λx δ'=>dg x δ' D.nx):=rfl
theorem e_name{i:Nat}{m:Md}{d:Ac}{δ:DS}{Q:DS->Prop}:Qf i (.dat .ow d) δ Q=(Q ⟨δ.sl.set i (.dat .sh d),δ.n⟩):=rfl
theorem e_name2{i:Nat}{m:Md}{d:Ac}{δ:DS}{Q:DS->Prop}:Qf i (.dat .sh d) δ Q=(Q ⟨δ.sl.set i (.dat .sh d),δ.n⟩):=rfl
theorem e_name4{i:Nat}{δ:DS}{Q:DS->Prop}:Qf i .drw δ Q=(Q ⟨δ.sl.set i .drw,δ.n⟩):=rfl
theorem e_own{i:Nat}{d:Ac}{δ:DS}{Q:DS->Prop}:eB i (.dat .ow d) δ Q=(Q ⟨δ.sl.set i (.dat .ow d),δ.n⟩):=rfl
theorem e_own2{i:Nat}{d:Ac}{δ:DS}{Q:DS->Prop}:eB i (.dat .tp d) δ Q=(Q ⟨δ.sl.set i (.dat .tp d),δ.n⟩):=rfl
theorem e_nF{i:Nat}{x:DV}{δ:DS}{Q:DS->Prop}:EG false i x δ Q=(Qf i x δ Q):=rfl
theorem e_gtup{n:Nat}{gs:uH}{m:Md}{ds:List Ac}{δ:DS}{Q:DS->Prop}:pZ n gs (.dat m (.tuple ds)) δ Q=(ds.length=n/\gs (ds.map λd=>.dat (Mu m) d) δ Q):=rfl
theorem e_gtup_w1{nds:List Int}{n:Nat}{gs:uH}{m:Md}{ds:List Ac}{δ:DS}{Q:DS->Prop}:pZ n gs (.dat m (Au nds)) δ Q=((nds.map Ax).length=n/\gs ((nds.map Ax).map λd=>.dat (Mu m) d) δ Q):=rfl
theorem e_gsn{δ:DS}{Q:DS->Prop}:yI [] δ Q=(Q δ):=rfl
theorem e_gsc{g:DG}{gs:uH}{x:DV}{r:List DV}{δ:DS}{Q:DS->Prop}:oY g gs (x::r) δ Q=(g x δ λδ'=>gs r δ' Q):=rfl
theorem e_op{rd:D2}{da db:DE}{δ:DS}{P:DV->DS->Prop}:Tr rd da db δ P=(da δ λx δ1=>db δ1 λy δ2=>rd x y λz=>P z δ2):=rfl
theorem e_var{i:Nat}{δ:DS}{P:DV->DS->Prop}:Q5 i δ P=(match δ.sl[i]? with | some (.dat m d)=>P (.dat (jX m) d) δ | _=>False):=rfl
theorem e_c{d:Ac}{δ:DS}{P:DV->DS->Prop}:dC d δ P=(P (.dat .ow d) δ):=rfl
theorem e_imm{de:DE}{δ:DS}{P:DV->DS->Prop}:CC de δ P=(de δ λx δ'=>Z1 x δ' P):=rfl
theorem e_immB{m:Md}{d:Ac}{δ:DS}{P:DV->DS->Prop}:Z1 (.dat m d) δ P=(imm d=true/\P (.dat .ow d) δ):=rfl
theorem e_take{i:Nat}{δ:DS}{P:DV->DS->Prop}:uV i δ P=(match δ.sl[i]? with | some (.dat m d)=>P (.dat m d) ⟨δ.sl.set i .un,δ.n⟩ | _=>False):=rfl
theorem e_I{C:Int->Int->Prop}{g:Int->Int->Ac}{i j:Int}{m m':Md}{P:DV->Prop}:W3 C g (.dat m (.int i)) (.dat m' (.int j)) P=(C i j/\P (.dat .ow (g i j))):=rfl
theorem e_I0{g:Int->Int->Ac}{i j:Int}{m m':Md}{P:DV->Prop}:Zu g (.dat m (.int i)) (.dat m' (.int j)) P=(P (.dat .ow (g i j))):=rfl
theorem e_eqF{d e:Ac}{m m':Md}{P:DV->Prop}:iB false (.dat m d) (.dat m' e) P=(d.depth<=60/\e.depth<=60/\P (.dat .ow (.bool (Dv d e)))):=rfl
theorem e_eqT{d e:Ac}{m m':Md}{P:DV->Prop}:iB true (.dat m d) (.dat m' e) P=(d.depth<=60/\e.depth<=60/\P (.dat .ow (.bool (!Dv d e)))):=rfl
theorem e_inFl{d:Ac}{es:List Ac}{m m':Md}{P:DV->Prop}:jR false (.dat m d) (.dat m' (.list es)) P=(Bc es<=60/\d.depth<=60/\P (.dat .ow (.bool (es.any λe=>Dv e d)))):=rfl
theorem e_inTl{d:Ac}{es:List Ac}{m m':Md}{P:DV->Prop}:jR true (.dat m d) (.dat m' (.list es)) P=(Bc es<=60/\d.depth<=60/\P (.dat .ow (.bool (!(es.any λe=>Dv e d))))):=rfl
theorem e_inFt_w1{nes:List Int}{d:Ac}{es:List Ac}{m m':Md}{P:DV->Prop}:jR false (.dat m d) (.dat m' (Au nes)) P=(Bc (nes.map Ax)<=60/\d.depth<=60/\P (.dat .ow (.bool ((nes.map Ax).any λe=>Dv e d)))):=rfl
theorem e_isNT{d:Ac}{m m':Md}{P:DV->Prop}:qI true (.dat m d) (.dat m' .none) P=(P (.dat .ow (.bool (!isNone d)))):=rfl
theorem e_ixl{ds:List Ac}{i:Int}{m m':Md}{P:DV->Prop}:sW (.dat m (.list ds)) (.dat m' (.int i)) P=(∃d,Tj ds i=some d/\P (.dat (Mu m) d)):=rfl
theorem e_ixt{ds:List Ac}{i:Int}{m m':Md}{P:DV->Prop}:sW (.dat m (.tuple ds)) (.dat m' (.int i)) P=(∃d,Tj ds i=some d/\P (.dat (Mu m) d)):=rfl
theorem e_ixt_w1{nds:List Int}{ds:List Ac}{i:Int}{m m':Md}{P:DV->Prop}:sW (.dat m (Au nds)) (.dat m' (.int i)) P=(∃d,Tj (nds.map Ax) i=some d/\P (.dat (Mu m) d)):=rfl
theorem e_cat{ds es:List Ac}{m m':Md}{P:DV->Prop}:pC (.dat m (.list ds)) (.dat m' (.list es)) P=(Du ds=true/\Du es=true/\ds.length+es.length<=1000000/\P (.dat .ow (.list (ds++es)))):=rfl
theorem e_catT{ds es:List Ac}{m m':Md}{P:DV->Prop}:Wm (.dat m (.tuple ds)) (.dat m' (.tuple es)) P=(Du ds=true/\Du es=true/\ds.length+es.length<=1000000/\P (.dat .ow (.tuple (ds++es)))):=rfl
theorem e_catT_w1{nds:List Int}{ds es:List Ac}{m m':Md}{P:DV->Prop}:Wm (.dat m (Au nds)) (.dat m' (.tuple es)) P=(Du (nds.map Ax)=true/\Du es=true/\(nds.map Ax).length+es.length<=1000000/\P (.dat .ow (.tuple ((nds.map Ax)++es)))):=rfl
theorem e_catT_w2{nes:List Int}{ds es:List Ac}{m m':Md}{P:DV->Prop}:Wm (.dat m (.tuple ds)) (.dat m' (Au nes)) P=(Du ds=true/\Du (nes.map Ax)=true/\ds.length+(nes.map Ax).length<=1000000/\P (.dat .ow (.tuple (ds++(nes.map Ax))))):=rfl
theorem e_nlT{m:Md}{ds:List Ac}{P:DV->Prop}:Oy true m ds P=(Du ds=true/\P (.dat .ow (.list ds))):=rfl
theorem e_nlF{m:Md}{ds:List Ac}{P:DV->Prop}:Oy false m ds P=(P (.dat (Up m) (.list ds))):=rfl
theorem e_ntT{m:Md}{ds:List Ac}{P:DV->Prop}:Xy true m ds P=(Du ds=true/\P (.dat .ow (.tuple ds))):=rfl
theorem e_ntF{m:Md}{ds:List Ac}{P:DV->Prop}:Xy false m ds P=(P (.dat (Mu m) (.tuple ds))):=rfl
theorem e_pkOfsh  : jX .sh=(Md.sh):=rfl
theorem e_pkOfow  : jX .ow=(Md.pk):=rfl
theorem e_mdInsh  : Mu .sh=(Md.sh):=rfl
theorem e_mdInow  : Mu .ow=(Md.ow):=rfl
theorem e_mdNewsh  : Up .sh=(Md.tp):=rfl
theorem e_mdItsh  : Kv .sh=(Md.sh):=rfl
theorem e_mdItow  : Kv .ow=(Md.sh):=rfl
theorem e_nil{δ:DS}{P:List DV->DS->Prop}:S7 δ P=(P [] δ):=rfl
theorem e_cons{de:DE}{da:DA}{δ:DS}{P:List DV->DS->Prop}:L5 de da δ P=(de δ λx δ1=>da δ1 λxs δ2=>P (x::xs) δ2):=rfl
theorem e_tup{da:DA}{δ:DS}{P:DV->DS->Prop}:Y3 da δ P=(da δ λxs δ'=>tupB xs δ' P):=rfl
theorem e_lst{da:DA}{δ:DS}{P:DV->DS->Prop}:AH da δ P=(da δ λxs δ'=>lstB xs δ' P):=rfl
theorem e_noPart{δ:DS}{P:Option Int->DS->Prop}:qL δ P=(P none δ):=rfl
theorem e_part{de:DE}{δ:DS}{P:Option Int->DS->Prop}:G7 de δ P=(de δ λx δ'=>F8 x δ' P):=rfl
theorem e_partB{m:Md}{i:Int}{δ:DS}{P:Option Int->DS->Prop}:F8 (.dat m (.int i)) δ P=(P (some i) δ):=rfl
theorem e_sl{i:Bool}{de:DE}{dl dh:DO}{δ:DS}{P:DV->DS->Prop}:FU i de dl dh δ P=(de δ λx δ1=>dl δ1 λl δ2=>dh δ2 λh δ3=>CO i x l h δ3 P):=rfl
theorem e_slBl{i:Bool}{m:Md}{ds:List Ac}{l h:Option Int}{δ:DS}{P:DV->DS->Prop}:CO i (.dat m (.list ds)) l h δ P=(Oy i m (Ic ds l h) λz=>P z δ):=rfl
theorem e_slBt{i:Bool}{m:Md}{ds:List Ac}{l h:Option Int}{δ:DS}{P:DV->DS->Prop}:CO i (.dat m (.tuple ds)) l h δ P=(Xy i m (Ic ds l h) λz=>P z δ):=rfl
theorem e_slBt_w1{nds:List Int}{i:Bool}{m:Md}{ds:List Ac}{l h:Option Int}{δ:DS}{P:DV->DS->Prop}:CO i (.dat m (Au nds)) l h δ P=(Xy i m (Ic (nds.map Ax) l h) λz=>P z δ):=rfl
theorem e_cb{rd:DC}{da:DA}{δ:DS}{P:DV->DS->Prop}:CZ rd da δ P=(da δ λxs δ1=>rd xs λz=>P z δ1):=rfl
theorem e_lenl{ds:List Ac}{m m':Md}{P:DV->Prop}:iR [.dat m (.list ds)] P=(P (.dat .ow (.int ds.length))):=rfl
theorem e_lent{ds:List Ac}{m m':Md}{P:DV->Prop}:iR [.dat m (.tuple ds)] P=(P (.dat .ow (.int ds.length))):=rfl
theorem e_lent_w1{nds:List Int}{ds:List Ac}{m m':Md}{P:DV->Prop}:iR [.dat m (Au nds)] P=(P (.dat .ow (.int (nds.map Ax).length))):=rfl
theorem e_listl{i:Bool}{ds:List Ac}{m m':Md}{P:DV->Prop}:aK i [.dat m (.list ds)] P=(Oy i m ds P):=rfl
theorem e_listt{i:Bool}{ds:List Ac}{m m':Md}{P:DV->Prop}:aK i [.dat m (.tuple ds)] P=(Oy i m ds P):=rfl
theorem e_listt_w1{nds:List Int}{i:Bool}{ds:List Ac}{m m':Md}{P:DV->Prop}:aK i [.dat m (Au nds)] P=(Oy i m (nds.map Ax) P):=rfl
theorem e_tuplel{i:Bool}{ds:List Ac}{m m':Md}{P:DV->Prop}:gW i [.dat m (.list ds)] P=(Xy i m ds P):=rfl
theorem e_intb{i:Bool}{m m':Md}{P:DV->Prop}:wR [.dat m (.bool i)] P=(P (.dat .ow (.int (if i=true then 1 else 0)))):=rfl
theorem e_max2{i j:Int}{m m':Md}{P:DV->Prop}:oJ [.dat m (.int i),.dat m' (.int j)] P=(P (.dat .ow (.int (if j > i then j else i)))):=rfl
theorem e_min2{i j:Int}{m m':Md}{P:DV->Prop}:nL [.dat m (.int i),.dat m' (.int j)] P=(P (.dat .ow (.int (if j<i then j else i)))):=rfl
theorem e_all{ds:List Ac}{m m':Md}{P:DV->Prop}:wQ [.dat m (.list ds)] P=(∃bs:List Bool,ds=bs.map Tg/\P (.dat .ow (.bool (bs.all id)))):=rfl
theorem e_isi{d:Ac}{n:String}{m m':Md}{P:DV->Prop}:yG [.dat m d,.val (.ty n)] P=((n = "int" \/ n = "bool" \/ n = "str" \/ n = "list" \/ n = "tuple")/\P (.dat .ow (.bool (Mo d n)))):=rfl
theorem e_str{d:Ac}{m m':Md}{P:DV->Prop}:wD [.dat m d] P=((∃b,b<=400/\Kf b d/\(b+12) * Gi d<=Bd)/\d.depth<=90/\P (.dat .ow (.str (oD d)))):=rfl
theorem e_v{v:V}{δ:DS}{P:DV->DS->Prop}:dV v δ P=(P (.val v) δ):=rfl
theorem e_b{de:DE}{δ:DS}{P:Bool->DS->Prop}:dB de δ P=(de δ λx δ'=>bB x δ' P):=rfl
theorem e_bB{m:Md}{b:Bool}{δ:DS}{P:Bool->DS->Prop}:bB (.dat m (.bool b)) δ P=(P b δ):=rfl
theorem e_notT{dt:DT}{δ:DS}{P:Bool->DS->Prop}:J1 dt δ P=(dt δ λb δ'=>P (!b) δ'):=rfl
theorem e_andT{dt du:DT}{δ:DS}{P:Bool->DS->Prop}:K5 dt du δ P=(dt δ λb δ'=>O9 du b δ' P):=rfl
theorem e_orT{dt du:DT}{δ:DS}{P:Bool->DS->Prop}:BO dt du δ P=(dt δ λb δ'=>X6 du b δ' P):=rfl
theorem e_orTt{du:DT}{δ:DS}{P:Bool->DS->Prop}:X6 du true δ P=(P true δ):=rfl
theorem e_orTf{du:DT}{δ:DS}{P:Bool->DS->Prop}:X6 du false δ P=(du δ P):=rfl
theorem e_not{de:DE}{δ:DS}{P:DV->DS->Prop}:BN de δ P=(de δ λx δ'=>uO x δ' P):=rfl
theorem e_notB{m:Md}{b:Bool}{δ:DS}{P:DV->DS->Prop}:uO (.dat m (.bool b)) δ P=(P (.dat .ow (.bool (!b))) δ):=rfl
theorem e_and{da db:DE}{δ:DS}{P:DV->DS->Prop}:AS da db δ P=(da δ λx δ'=>B6 db x δ' P):=rfl
theorem e_andt{db:DE}{m:Md}{δ:DS}{P:DV->DS->Prop}:B6 db (.dat m (.bool true)) δ P=(db δ P):=rfl
theorem e_andf{db:DE}{m:Md}{δ:DS}{P:DV->DS->Prop}:B6 db (.dat m (.bool false)) δ P=(P (.dat .ow (.bool false)) δ):=rfl
theorem e_neg{de:DE}{δ:DS}{P:DV->DS->Prop}:BC de δ P=(de δ λx δ'=>AR x δ' P):=rfl
theorem e_negB{m:Md}{i:Int}{δ:DS}{P:DV->DS->Prop}:AR (.dat m (.int i)) δ P=(P (.dat .ow (.int (-i))) δ):=rfl
theorem e_dL{de:DE}{δ:DS}{P:Md->List Ac->DS->Prop}:dL de δ P=(de δ λx δ'=>lB x δ' P):=rfl
theorem e_dTp{de:DE}{δ:DS}{P:Md->List Ac->DS->Prop}:GD de δ P=(de δ λx δ'=>EI x δ' P):=rfl
theorem e_lB{m:Md}{ds:List Ac}{δ:DS}{P:Md->List Ac->DS->Prop}:lB (.dat m (.list ds)) δ P=(P (Kv m) ds δ):=rfl
theorem e_tpB{m:Md}{ds:List Ac}{δ:DS}{P:Md->List Ac->DS->Prop}:EI (.dat m (.tuple ds)) δ P=(P (Kv m) ds δ):=rfl
theorem e_tpB_w1{nds:List Int}{m:Md}{ds:List Ac}{δ:DS}{P:Md->List Ac->DS->Prop}:EI (.dat m (Au nds)) δ P=(P (Kv m) (nds.map Ax) δ):=rfl
theorem e_range1{da:DA}{δ:DS}{P:Md->List Ac->DS->Prop}:mB da δ P=(da δ λxs δ'=>F7 xs δ' P):=rfl
theorem e_rng1B{m:Md}{j:Int}{δ:DS}{P:Md->List Ac->DS->Prop}:F7 [.dat m (.int j)] δ P=(-1000000<=j/\j<=1000000/\P .sh ((Bh j.toNat).map λi:Nat=>.int i) δ):=rfl
theorem e_enum{da:DA}{δ:DS}{P:Md->List Ac->DS->Prop}:zU da δ P=(da δ λxs δ'=>K9 xs δ' P):=rfl
theorem e_enumB{m:Md}{ds:List Ac}{δ:DS}{P:Md->List Ac->DS->Prop}:K9 [.dat m (.list ds)] δ P=(P (Kv m) (ds.zipIdx.map λp=>.tuple [.int p.2,p.1]) δ):=rfl
theorem e_for{di:DI}{dg:DG}{db:DB}{D:DEnds}{δ:DS}:CN di dg db D δ=(di δ (AO dg db D)):=rfl
theorem e_comp{di:DI}{js:List Nat}{dc:DT}{de:DE}{δ:DS}{P:DV->DS->Prop}:vO di js dc de δ P=(di δ (vQ js dc de P)):=rfl
theorem e_compL{di:DI}{js:List Nat}{dc:DT}{de:DE}{δ:DS}{P:DV->DS->Prop}:vU di js dc de δ P=(di δ (zC js dc de P)):=rfl
theorem e_stepL{dc:DT}{de:DE}{δ:DS}{yes:Ac->Nat->Prop}{no:Nat->Prop}:Nw false dc de δ yes no=(dc δ λb δ2=>nP de yes no b δ2):=rfl
theorem e_stepLT{de:DE}{δ:DS}{yes:Ac->Nat->Prop}{no:Nat->Prop}:nP de yes no true δ=(de δ λy δ3=>yD yes y δ3):=rfl
theorem e_stepLF{de:DE}{δ:DS}{yes:Ac->Nat->Prop}{no:Nat->Prop}:nP de yes no false δ=(no δ.n):=rfl
theorem e_noTest{δ:DS}{P:Bool->DS->Prop}:fK δ P=(P true δ):=rfl
theorem e_step{dc:DT}{de:DE}{δ:DS}{yes:Ac->Nat->Prop}{no:Nat->Prop}:Ur dc de δ yes no=(dc δ λb δ2=>qV de yes no b δ2):=rfl
theorem e_stepT{de:DE}{δ:DS}{yes:Ac->Nat->Prop}{no:Nat->Prop}:qV de yes no true δ=(de δ λy δ3=>n4 yes y δ3):=rfl
theorem e_stepF{de:DE}{δ:DS}{yes:Ac->Nat->Prop}{no:Nat->Prop}:qV de yes no false δ=(no δ.n):=rfl
theorem e_yesB{m:Md}{e:Ac}{δ:DS}{yes:Ac->Nat->Prop}:n4 yes (.dat m e) δ=(imm e=true/\yes e δ.n):=rfl
theorem e_call{pf:PF}{da:DA}{δ:DS}{P:DV->DS->Prop}:wI pf da δ P=(da δ λxs δ1=>callB pf xs δ1 P):=rfl
theorem e_callW{i:Nat}{df:DF}{da:DA}{δ:DS}{P:DV->DS->Prop}:nW i df da δ P=(match δ.sl[i]? with | some .drw=>da δ λxs δ1=>callBW i df xs δ1 P | _=>False):=rfl
theorem e_draws{da:DA}{δ:DS}{P:DV->DS->Prop}:vV da δ P=(da δ λxs δ1=>xG xs δ1 P):=rfl
theorem e_drawsB{m:Md}{i:Int}{δ:DS}{P:DV->DS->Prop}:xG [.dat m (.int i)] δ P=(P .drw δ):=rfl
theorem e_append{i:Nat}{de:DE}{D:DEnds}{δ:DS}:iJ i de D δ=(match δ.sl[i]? with | some (.dat _ (.list _))=>de δ λy δ1=>appB i y δ1 D | _=>False):=rfl
theorem e_revT{de:DE}{δ:DS}{P:DV->DS->Prop}:K6 de δ P=(de δ λx δ1=>revTB x δ1 P):=rfl
theorem e_appendO{i:Nat}{de:DE}{D:DEnds}{δ:DS}:aC i de D δ=(match δ.sl[i]? with | some (.dat _ (.list _))=>de δ λy δ1=>appOB i y δ1 D | _=>False):=rfl
theorem e_stepK{i:Bool}{de dk:DE}{δ:DS}{P:DV->DS->Prop}:wC i de dk δ P=(de δ λx δ1=>dk δ1 λz δ2=>gI i x z δ2 P):=rfl
theorem e_stepKB{i:Bool}{m m':Md}{ds:List Ac}{k:Int}{δ:DS}{P:DV->DS->Prop}:gI i (.dat m (.list ds)) (.dat m' (.int k)) δ P=((k=1\/k = -1)/\Oy i m (if k=1 then ds else ds.reverse) λz=>P z δ):=rfl
theorem e_aug{i:Nat}{rd:D2}{de:DE}{D:DEnds}{δ:DS}:j7 i rd de D δ=(match δ.sl[i]? with | some (.dat _ (.int a))=>de δ λy δ1=>rd (.dat .ow (.int a)) y λz=>CI i z δ1 D | _=>False):=rfl
theorem e_augB{i:Nat}{m:Md}{d:Ac}{D:DEnds}{δ:DS}:CI i (.dat m d) δ D=(imm d=true/\D.nx ⟨δ.sl.set i (.dat .sh d),δ.n⟩):=rfl
theorem e_scrSl{i:Nat}{dl dh:DO}{δ:DS}{P:DV->DS->Prop}:mL i dl dh δ P=(match δ.sl[i]? with | some (.scr ns)=>dl δ λl δ2=>dh δ2 λh δ3=>P (.dat .ow (.list ((Ic ns l h).map Ax))) δ3 | _=>False):=rfl
theorem e_dnew{δ:DS}{P:DV->DS->Prop}:F4 δ P=(P (.dat .ow (.dict (Xa []))) δ):=rfl
theorem e_dput{i:Nat}{dk de:DE}{D:DEnds}{δ:DS}:L7 i dk de D δ=(de δ λy δ1=>isDct δ1.sl[i]? = true/\dk δ1 λz δ2=>dputB i y z δ2 D):=rfl
theorem e_tagD{ks:List (List Int×Ac)}:o5 (Xa ks)=(true):=rfl
theorem e_callA{pf:PF}{da:DA}{δ:DS}{P:DV->DS->Prop}:xP pf da δ P=(da δ λxs δ1=>noPk xs=true/\callAB pf xs δ1 P):=rfl
theorem e_ssT{da:DA}{δ:DS}{P:DV->DS->Prop}:CA da δ P=(da δ λxs δ1=>CJ xs δ1 P):=rfl
theorem e_ssTt{m:Md}{ds:List Ac}{δ:DS}{P:DV->DS->Prop}:CJ [.dat m (.tuple ds)] δ P=(∃ns:List Int,ds=ns.map Ax/\(∀x∈ns,0<=x/\x<60)/\P (.dat .ow (.list ((Yb ns).map Ax))) δ):=rfl
theorem e_tr{de:DE}{δ:DS}{P:DV->DS->Prop}:FP de δ P=(de δ λx δ1=>DJ x δ1 P):=rfl
theorem e_trB{m:Md}{j:Int}{δ:DS}{P:DV->DS->Prop}:DJ (.dat m (.int j)) δ P=(0<=j/\j<=1000/\P (.dat .ow (Au (Ub j.toNat))) δ):=rfl
section
variable{t u:DB}{D:DEnds}{δ δ1:DS}
theorem Rh{α:Type}{dg:DG}{db:DB}{ds:List Ac}{l:List α}{g:α->Ac}(e:ds=l.map g)(I:Nat->DS->Prop)(h0:I 0 δ1)(hs:∀i a δ',l[i]? = some a->I i δ'->dg (.dat .sh (g a)) δ' λδ2=>db { D with nx:=I (i+1),ct:=I (i+1),bk:=D.nx } δ2)(hf:∀δ',I l.length δ'->D.nx δ'):AO dg db D .sh ds δ1:=by
 subst e
 refine ⟨rfl,I,h0,λi d δ' hd hI=>?_,λδ' h=>hf δ' (by rw[Ad] at h; exact h)⟩
 rw[Cc] at hd
 cases q:l[i]? with
 | none=>rw[q] at hd; cases hd
 | some a=>rw[q] at hd; cases hd; exact hs i a δ' q hI
end
section
variable{js:List Nat}{dc:DT}{de:DE}{P:DV->DS->Prop}{m:Md}{ds:List Ac}{δ1:DS}{α:Type}
theorem Uo{l:List α}{g:α->Ac}(e:ds=l.map g)(p:α->Bool)(f:α->Ac)(h:∀a∈l,∀(yes:Ac->Nat->Prop) (no:Nat->Prop),(p a=true->yes (f a) δ1.n)->(p a=false->no δ1.n)->Ur dc de ⟨.dat m (g a)::frD δ1.sl js,δ1.n⟩ yes no)(q:P (.dat .ow (.list ((l.filter p).map f))) δ1):vQ js dc de P m ds δ1:=by
 subst e
 refine ⟨λi acc n=>n=δ1.n/\acc=((l.take i).filter p).map f,⟨rfl,by simp⟩,λi d acc n hd ⟨hn,ha⟩=>?_,λacc n ⟨hn,ha⟩=>?_⟩
 ·subst hn ha
  rw[Cc] at hd
  cases q:l[i]? with
  | none=>rw[q] at hd; cases hd
  | some a =>
   rw[q] at hd
   cases hd
   refine h a (Bg q) _ _ (λhp=>⟨rfl,?_⟩) (λhp=>⟨rfl,?_⟩)
   ·rw[Sh q,Pl,Bp]; simp [hp]
   ·rw[Sh q,Pl,Bp]; simp [hp]
 ·subst hn ha
  rw[Ad,Gb]
  exact q
theorem qE{l:List α}{g:α->Ac}(e:ds=l.map g)(f:α->Ac)(h:∀a∈l,∀(yes:Ac->Nat->Prop) (no:Nat->Prop),yes (f a) δ1.n->Ur dc de ⟨.dat m (g a)::frD δ1.sl js,δ1.n⟩ yes no)(q:P (.dat .ow (.list (l.map f))) δ1):vQ js dc de P m ds δ1:=by
 refine Uo e (λ_=>true) f (λa ha yes no hy _=>h a ha yes no (hy rfl)) ?_
 rw[List.filter_eq_self.mpr λ_ _=>rfl]
 exact q
theorem nE{l:List α}{g:α->Ac}(e:ds=l.map g)(p:α->Bool)(f:α->Ac)(h:∀a∈l,∀(yes:Ac->Nat->Prop) (no:Nat->Prop),(p a=true->yes (f a) δ1.n)->(p a=false->no δ1.n)->Nw false dc de ⟨.dat m (g a)::frD δ1.sl js,δ1.n⟩ yes no)(q:P (.dat .tp (.list ((l.filter p).map f))) δ1):zC js dc de P m ds δ1:=by
 subst e
 refine ⟨λi acc n=>n=δ1.n/\acc=((l.take i).filter p).map f,⟨rfl,by simp⟩,λi d acc n hd ⟨hn,ha⟩=>?_,λacc n ⟨hn,ha⟩=>?_⟩
 ·subst hn ha
  rw[Cc] at hd
  cases q:l[i]? with
  | none=>rw[q] at hd; cases hd
  | some a =>
   rw[q] at hd
   cases hd
   refine h a (Bg q) _ _ (λhp=>⟨rfl,?_⟩) (λhp=>⟨rfl,?_⟩)
   ·rw[Sh q,Pl,Bp]; simp [hp]
   ·rw[Sh q,Pl,Bp]; simp [hp]
 ·subst hn ha
  rw[Ad,Gb]
  exact q
end
theorem Pc{t u:DB}{D:DEnds}{b:Bool}{δ:DS}(h1:b=true->t D δ)(h2:b=false->u D δ):W7 t u D b δ:=by
 cases b with
 | true=>exact h1 rfl
 | false=>exact h2 rfl
theorem V7{du:DT}{b:Bool}{δ:DS}{P:Bool->DS->Prop}(h1:b=true->du δ P)(h2:b=false->P false δ):O9 du b δ P:=by
 cases b with
 | true=>exact h1 rfl
 | false=>exact h2 rfl
theorem dM{du:DT}{b:Bool}{δ:DS}{P:Bool->DS->Prop}(h1:b=true->P true δ)(h2:b=false->du δ P):X6 du b δ P:=by
 cases b with
 | true=>exact h1 rfl
 | false=>exact h2 rfl
theorem Wb{db:DE}{m:Md}{b:Bool}{δ:DS}{P:DV->DS->Prop}(h1:b=true->db δ P)(h2:b=false->P (.dat .ow (.bool false)) δ):B6 db (.dat m (.bool b)) δ P:=by
 cases b with
 | true=>exact h1 rfl
 | false=>exact h2 rfl
theorem Qm{de:DE}{yes:Ac->Nat->Prop}{no:Nat->Prop}{b:Bool}{δ:DS}(h1:b=true->de δ λy δ3=>n4 yes y δ3)(h2:b=false->no δ.n):qV de yes no b δ:=by
 cases b with
 | true=>exact h1 rfl
 | false=>exact h2 rfl
class Im (d:Ac):Prop where
 h:imm d=true
class ImA (ds:List Ac):Prop where
 h:Du ds=true
theorem im{d:Ac}[h:Im d]:imm d=true:=h.h
theorem GJ{ds:List Ac}[h:ImA ds]:Du ds=true:=h.h
instance {i:Int}:Im (.int i):=⟨by simp [imm]⟩
instance {i:Bool}:Im (.bool i):=⟨by simp [imm]⟩
instance {i:Str}:Im (.str i):=⟨by simp [imm]⟩
instance:Im .none:=⟨by simp [imm]⟩
instance {ds:List Ac} [h:ImA ds]:Im (.tuple ds):=⟨by rw[imm]; exact h.h⟩
instance {ns:List Int}:Im (Au ns):=⟨xI ns⟩
instance:ImA []:=⟨by simp [Du]⟩
instance {d:Ac} {ds:List Ac} [h:Im d] [t:ImA ds]:ImA (d::ds):=⟨by rw[Du,h.h,t.h]; rfl⟩
instance {α:Type} {f:α->Ac} {l:List α} [h:∀a,Im (f a)]:ImA (l.map f):=⟨Qa (λa=>(h a).h) l⟩
instance {a b:List Ac} [h:ImA a] [k:ImA b]:ImA (a++b):=⟨by rw[Zt,h.h,k.h]; rfl⟩
class Dp (d:Ac) (k:outParam Nat):Prop where
 h:d.depth<=k
class DpA (ds:List Ac) (k:outParam Nat):Prop where
 h:Bc ds<=k
theorem dp{d:Ac}{k:Nat}[h:Dp d k](hk:k<=60:=by decide):d.depth<=60:=By h.h hk
instance {i:Int}:Dp (.int i) 0:=⟨by simp [Bx]⟩
instance {i:Bool}:Dp (.bool i) 0:=⟨by simp [Bx]⟩
instance {i:Str}:Dp (.str i) 0:=⟨by simp [Bx]⟩
instance:Dp .none 0:=⟨by simp [Bx]⟩
instance {ds:List Ac} {k:Nat} [h:DpA ds k]:Dp (.tuple ds) (k+1):=⟨by have:=h.h; simp only[Bx]; omega⟩
instance {ds:List Ac} {k:Nat} [h:DpA ds k]:Dp (.list ds) (k+1):=⟨by have:=h.h; simp only[Bx]; omega⟩
instance {ns:List Int}:Dp (Au ns) 1:=⟨oG ns⟩
instance:DpA [] 0:=⟨by simp [Bc]⟩
instance {d:Ac} {ds:List Ac} {k j:Nat} [h:Dp d k] [t:DpA ds j]:DpA (d::ds) (k+j):=⟨by have:=h.h; have:=t.h; simp only[Bc]; omega⟩
instance {α:Type} {f:α->Ac} {l:List α} {k:Nat} [h:∀a,Dp (f a) k]:DpA (l.map f) k:=⟨Xi λx hx=>by
 obtain ⟨a,_,rfl⟩:=Bq.mp hx
 exact (h a).h⟩
theorem iF{a b:List Ac}:Bc (a++b)<=Bc a+Bc b:=by
 induction a with
 | nil=>simp [Bc]
 | cons x a ih=>simp only[Io,Bc]; omega
instance {a b:List Ac} {k j:Nat} [h:DpA a k] [t:DpA b j]:DpA (a++b) (k+j):=⟨by have:=h.h; have:=t.h; have:=iF (a:=a) (b:=b); omega⟩
theorem eqD_bl(i j:Bool):Dv (.bool i) (.bool j)=(i == j):=by simp [Dv]
theorem eqD_str(i j:Str):Dv (.str i) (.str j)=(i == j):=by simp [Dv]
theorem lF(a b:List Ac):Dv (.list a) (.list b)=Oc a b:=by simp [Dv]
theorem A1(a b:List Ac):Dv (.tuple a) (.tuple b)=Oc a b:=by simp [Dv]
theorem Uv{α:Type}[DecidableEq α]{f:α->Ac}(h:∀a b,Dv (f a) (f b)=decide (a=b)):∀l m:List α,Oc (l.map f) (m.map f)=decide (l=m)
 | [],[]=>by simp [Oc]
 | [],_::_=>by simp [Oc]
 | _::_,[]=>by simp [Oc]
 | a::l,b::m=>by simp [Oc,h,Uv h l m]
theorem eqD_intd(i j:Int):Dv (.int i) (.int j)=decide (i=j):=by simp [Dv]; rfl
theorem eqD_word(a b:List Int):Dv (Au a) (Au b)=decide (a=b):=by
 unfold Au
 rw[A1,Uv eqD_intd]
def gN(ws:List (List Int)):Ac:=.list (ws.map Au)
instance {ws:List (List Int)}:Dp (gN ws) 2:=⟨(inferInstance:Dp (.list (ws.map Au)) 2).h⟩
theorem rW(a b:List (List Int)):Dv (gN a) (gN b)=decide (a=b):=by
 unfold gN
 rw[lF,Uv eqD_word]
def pS(ns:List Int):Ac:=.list (ns.map Ax)
instance {ns:List Int}:Dp (pS ns) 1:=⟨(inferInstance:Dp (.list (ns.map Ax)) 1).h⟩
theorem xN(a b:List Int):Dv (pS a) (pS b)=decide (a=b):=by
 unfold pS
 rw[lF,Uv eqD_intd]
theorem any_int(ns:List Int)(i:Int):((ns.map Ax).any λe=>Dv e (.int i))=decide (i∈ns):=by
 rw[Yl]
 induction ns with
 | nil=>rfl
 | cons n ns ih =>
  rw[Jl,ih]
  simp only[Tw,eqD_intd,Ai]
  by_cases h:n=i
  ·subst h; simp
  ·have : ¬ i=n:=λz=>h z.symm
   simp [h,this]
theorem any_map{α:Type}[DecidableEq α]{f:α->Ac}(h:∀a b,Dv (f a) (f b)=decide (a=b))(l:List α)(a:α):((l.map f).any λe=>Dv e (f a))=decide (a∈l):=by
 rw[Yl]
 induction l with
 | nil=>rfl
 | cons n ns ih =>
  rw[Jl,ih]
  simp only[Tw,h,Ai]
  by_cases h:n=a
  ·subst h; simp
  ·have : ¬ a=n:=λz=>h z.symm
   simp [h,this]
theorem any_word(ws:List (List Int))(a:List Int):((ws.map Au).any λe=>Dv e (Au a))=decide (a∈ws):=(any_map eqD_word ws a).trans (decide_eq_decide.mpr Iff.rfl)
theorem rD{α β:Type}(f:α->β)(l:List α):(l.map f).zipIdx=l.zipIdx.map λp=>(f p.1,p.2):=by
 rw[List.zipIdx_map]
 rfl
theorem qU{α β:Type}(f:α->β)(l:List α)(i:Int):Tj (l.map f) i=(Tj l i).map f:=by
 unfold Tj
 rw[Ad]
 cases rK l.length i with
 | none=>rfl
 | some j=>simp
theorem kR{α:Type}{l:List α}{i:Int}(h0:0<=i)(h1:i<l.length):∃a,l[i.toNat]? = some a/\Tj l i=some a/\a∈l:=by
 have hk:i.toNat<l.length:=by omega
 refine ⟨l[i.toNat],by simp [hk],?_,Il hk⟩
 have q:Tj l ((i.toNat:Nat):Int)=some l[i.toNat]:=qP (by simp [hk])
 rwa [show ((i.toNat:Nat):Int)=i by omega] at q
theorem im_e{d:Ac}[h:Im d]:(imm d=true)=True:=eq_true h.h
theorem ima_e{ds:List Ac}[h:ImA ds]:(Du ds=true)=True:=eq_true h.h
theorem dp_e{d:Ac}{k:Nat}[h:Dp d k](hk:k<=60):(d.depth<=60)=True:=eq_true (By h.h hk)
theorem dpa_e{ds:List Ac}{k:Nat}[h:DpA ds k](hk:k<=60):(Bc ds<=60)=True:=eq_true (By h.h hk)
theorem eqD_lw(a b:List (List Int)):Dv (.list (a.map Au)) (.list (b.map Au))=decide (a=b):=rW a b
theorem eqD_li(a b:List Int):Dv (.list (a.map Ax)) (.list (b.map Ax))=decide (a=b):=xN a b
theorem eqD_l0(a:List Ac):Dv (.list a) (.list [])=a.isEmpty:=A7 a
theorem ow_e{d:Ac}{R:Ac->Prop}:(∃e,DV.dat .ow d=.dat .ow e/\R e)=R d:=by
 apply propext
 constructor
 ·(intro q_; obtain ⟨e,h,r⟩ := q_); cases h; exact r
 ·intro r; exact ⟨d,rfl,r⟩
theorem tt_e{m:Md}{b:Bool}:(∃m',DV.dat m (.bool b)=.dat m' (.bool true))=(b=true):=by
 apply propext
 constructor
 ·rintro ⟨e,h⟩; cases h; rfl
 ·intro r; subst r; exact ⟨m,rfl⟩
theorem cdiv_e{i j:Int}:T7 i j=(0<j/\j<1073741824):=rfl
theorem cmul_l{i j:Int}(h:-18446744073709551616<i/\i<18446744073709551616):x3 i j=True:=eq_true (.inl h)
theorem kS{sl sl':List DV}{n n':Nat}(h:sl=sl')(h':n=n'):(⟨sl,n⟩ : DS)=⟨sl',n'⟩:=by subst h h'; rfl
theorem Ru{j i a:Nat}(h:(Bh j)[i]? = some a):a=i/\i<j:=by
 obtain ⟨h1,h2⟩:=Av.mp h
 rw[Cy] at h1
 rw[List.getElem_range] at h2
 exact ⟨h2.symm,h1⟩
def NP(v:DV):Prop:=∀l,npk (v::l)=npk l
theorem Ge:NP .un:=λ_=>rfl
theorem Ey{d:Ac}:NP (.dat .sh d):=λ_=>rfl
theorem N8:NP .drw:=λ_=>rfl
theorem K2{t u:DB}{D:DEnds}(X:(Bool->DS->Prop)->Prop)(J:DS->Prop)(h:∀N:DS->Prop,(∀δ',J δ'->N δ')->X (W7 t u { D with nx:=N }))(k:∀δ',J δ'->D.nx δ'):X (W7 t u D):=h D.nx k
theorem yE{α:Type}(x y:α)(b:Bool):Tj [x,y] (if b=true then 1 else 0)=some (if b=true then y else x):=by cases b <;> rfl
theorem fold_w(w:List Int):Fp (List.map Ax w)=Au w:=rfl
theorem isi_li(ds:List Ac):Mo (.list ds) "list" = true:=by simp [Mo,pA]
theorem isi_tt(ds:List Ac):Mo (.tuple ds) "tuple" = true:=by simp [Mo,pA]
theorem isi_bb(i:Bool):Mo (.bool i) "bool" = true:=by simp [Mo,pA]
theorem dP{ws:List (List Int)}{i:Int}(h0:0<=i)(h1:i<ws.length):∃w∈ws,Tj (ws.map Au) i=some (Au w):=by
 obtain ⟨w,_,e2,e3⟩:=kR (l:=ws) h0 h1
 exact ⟨w,e3,by rw[qU,e2]; rfl⟩
theorem CH{ns:List Int}(k:Nat):(Ic ns none (some (k:Int))).length<=k:=by
 rw[Kz,Fl]
 exact Nat.min_le_left _ _
theorem ifB_lt{t u:DB}{D:DEnds}{δ:DS}:W7 t u D true δ=t D δ:=rfl
theorem ifB_lf{t u:DB}{D:DEnds}{δ:DS}:W7 t u D false δ=u D δ:=rfl
theorem isi_ss(i:Str):Mo (.str i) "str" = true:=by simp [Mo,pA]
theorem str_self(s:Str):(s == s)=true:=by simp
theorem h9{α:Type}{l:List α}{i:Nat}{a:α}(h:l[i]? = some a):Tj l (i:Int)=some a:=by
 obtain ⟨b,e1,e2,_⟩:=kR (l:=l) (i:=(i:Int)) (by omega) (by have:=(Av.mp h).1; omega)
 rw[e2,<- e1,<- h]; rfl
theorem yesL_sh{e:Ac}{δ:DS}{yes:Ac->Nat->Prop}:yD yes (.dat .sh e) δ=yes e δ.n:=propext ⟨λh=>h.2,λh=>⟨by decide,h⟩⟩
theorem oP{m m':Md}{ds es:List Ac}{P:DV->Prop}(h1:m≠.pk)(h2:m'≠.pk):Tz (.dat m (.list ds)) (.dat m' (.list es)) P=(ds.length+es.length<=1000000/\P (.dat .tp (.list (ds++es)))):=propext ⟨λh=>h.2.2,λh=>⟨h1,h2,h⟩⟩
theorem catL_shtp{ds es:List Ac}{P:DV->Prop}:Tz (.dat .sh (.list ds)) (.dat .tp (.list es)) P=(ds.length+es.length<=1000000/\P (.dat .tp (.list (ds++es)))):=oP (by decide) (by decide)
theorem catL_tpow{ds es:List Ac}{P:DV->Prop}:Tz (.dat .tp (.list ds)) (.dat .ow (.list es)) P=(ds.length+es.length<=1000000/\P (.dat .tp (.list (ds++es)))):=oP (by decide) (by decide)
theorem catL_tptp{ds es:List Ac}{P:DV->Prop}:Tz (.dat .tp (.list ds)) (.dat .tp (.list es)) P=(ds.length+es.length<=1000000/\P (.dat .tp (.list (ds++es)))):=oP (by decide) (by decide)
theorem iW{α:Type}{l:List α}(h:l≠[]):∃a∈l,Tj l (-1)=some a/\l.getLast? = some a:=by
 have hp:=Ky.mpr h
 refine ⟨l[l.length - 1],Il _,?_,?_⟩
 ·unfold Tj rK
  rw[if_neg (by decide),if_pos (by omega),show ((-1:Int)+l.length).toNat=l.length - 1 by omega]
  simp [hp]
 ·rw[List.getLast?_eq_getElem?]; simp [hp]
theorem atI_0{α:Type}(x:α)(l:List α):Tj (x::l) 0=some x:=h9 (i:=0) rfl
theorem atI_1{α:Type}(x y:α)(l:List α):Tj (x::y::l) 1=some y:=h9 (i:=1) rfl
theorem atI_2{α:Type}(x y z:α)(l:List α):Tj (x::y::z::l) 2=some z:=h9 (i:=2) rfl
theorem some_e{α:Type}{a:α}{R:α->Prop}:(∃d,some a=some d/\R d)=R a:=propext ⟨λ⟨_,e,h⟩=>by cases e; exact h,λh=>⟨a,rfl,h⟩⟩
theorem dec_self{α:Type}(a:α)[h:Decidable (a=a)]:decide (a=a)=true:=by simp
theorem isE_cons{α:Type}(a:α)(l:List α):(a::l).isEmpty=false:=rfl
theorem st_places_same:(Gz "places" == Gz "same")=false:=by decide +kernel
theorem CU{a:Addr}{ks:List (List Int×Ac)}{w:List Int}{m m':Md}{P:DV->Prop}:A9 (.dat m (.dict (U2 a ks))) (.dat m' (Au w)) P=∃d,Ue ks w=some d/\P (.dat .ow d):=propext ⟨λ⟨a',ks',w',d,e1,e2,h⟩=>by obtain ⟨_,rfl⟩:=E9 e1; cases Hz e2; exact ⟨d,h⟩,λ⟨d,h⟩=>⟨a,ks,w,d,rfl,rfl,h⟩⟩
theorem dk_e{ks:List (List Int×Ac)}{w:List Int}{Q:List (List Int×Ac)->List Int->Prop}:(∃ks' w',Xa ks=Xa ks'/\Au w=Au w'/\Q ks' w')=Q ks w:=propext ⟨λ⟨ks',w',e1,e2,h⟩=>by cases Ss e1; cases Hz e2; exact h,λh=>⟨ks,w,rfl,rfl,h⟩⟩
theorem dget_e{ks:List (List Int×Ac)}{w:List Int}{m m':Md}{P:DV->Prop}:fU (.dat m (.dict (Xa ks))) (.dat m' (Au w)) P=∃d,Ue ks w=some d/\P (.dat .ow d):=propext ⟨λ⟨ks',w',d,e1,e2,h⟩=>by cases Ss e1; cases Hz e2; exact ⟨d,h⟩,λ⟨d,h⟩=>⟨ks,w,d,rfl,rfl,h⟩⟩
theorem dinF_e{ks:List (List Int×Ac)}{w:List Int}{m m':Md}{P:DV->Prop}:qW false (.dat m' (Au w)) (.dat m (.dict (Xa ks))) P=P (.dat .ow (.bool (Ue ks w).isSome)):=propext ⟨λ⟨ks',w',e1,e2,h⟩=>by cases Ss e1; cases Hz e2; exact h,λh=>⟨ks,w,rfl,rfl,h⟩⟩
theorem retA_sh{d:Ac}{R:Ac->Prop}:(∃m d',DV.dat .sh d=.dat m d'/\m≠.pk/\R d')=R d:=propext ⟨λ⟨m,d',e,_,h⟩=>by cases e; exact h,λh=>⟨_,_,rfl,by decide,h⟩⟩
theorem retA_ow{d:Ac}{R:Ac->Prop}:(∃m d',DV.dat .ow d=.dat m d'/\m≠.pk/\R d')=R d:=propext ⟨λ⟨m,d',e,_,h⟩=>by cases e; exact h,λh=>⟨_,_,rfl,by decide,h⟩⟩
theorem retA_tp{d:Ac}{R:Ac->Prop}:(∃m d',DV.dat .tp d=.dat m d'/\m≠.pk/\R d')=R d:=propext ⟨λ⟨m,d',e,_,h⟩=>by cases e; exact h,λh=>⟨_,_,rfl,by decide,h⟩⟩
theorem ow_npk:(Md.ow≠Md.pk)=True:=eq_true (by decide)
end DL
namespace K57
open PySem L2 Nd DL
def top(i:Nat):Stmt:=PySem.Challenge.pw_needledeck_k57_what_shows_fewest.main.body.getD i (.Pass ⟨0,0,0,0⟩)
abbrev Ud:Stmt:=top 4
abbrev Vw:Stmt:=top 5
abbrev bH:Stmt:=top 7
abbrev Wl:Stmt:=top 8
abbrev Ql:Stmt:=top 9
abbrev Nq:Stmt:=top 11
abbrev Tx:Stmt:=top 12
abbrev Wp:Stmt:=top 13
abbrev Rt:Stmt:=top 14
abbrev Qi:Stmt:=top 15
abbrev Lj:Stmt:=top 16
abbrev Of:Stmt:=top 17
abbrev gR:Stmt:=top 19
abbrev qO:Stmt:=top 20
abbrev Qj:Stmt:=top 21
abbrev Sw:Stmt:=top 22
abbrev Oz:Stmt:=top 23
abbrev Ug:Stmt:=top 24
abbrev Mi:Stmt:=top 25
abbrev Mh:Stmt:=top 26
abbrev Lh:Stmt:=top 27
abbrev Pb:Stmt:=top 28
abbrev Jx:Stmt:=top 29
abbrev Nl:Stmt:=top 30
abbrev Qk:Stmt:=top 31
abbrev Pf:Stmt:=top 32
abbrev Mc:Stmt:=top 33
abbrev bF:Stmt:=top 34
section
variable{P:Bs}{w:World}{K:PySem.W.Frag}{mg:Str->Option Value}{base:Heap}
theorem GF:FnScope ["_law_cell"] ["_law_cell"] (Bo gR):=⟨rfl,rfl,rfl,by decide +kernel,rfl,by decide +kernel,by decide +kernel⟩
theorem vK{f:Addr}{fd:Cg}(F:Fun K "_law_draws" "_law_draws" gR f fd):FnOk P w K mg base Fw 1 f fd ["_law_cell"] Vc:=by
 refine F.ok GF (λvs H Q E h=>?_) (λcdv A outer s H vs Q E hr h=>?_)
 ·obtain ⟨c,rfl,_⟩:=h
  rfl
 obtain ⟨c,rfl,q⟩:=h
 refine ⟨_,Ln (zQ (pT xM (pv 0) (Jp gX Fi Fi) (Oh _)) (Vb (bJ (mX (Hu (Jp Uh (pv 0) (Jp x5 (Jp gX Fi Fi) Fi)) (Hu Fi (Hu e8 Pj)))))) gA)
  (Vb (bJ (mX (Hu (Jp Uh (pv 0) Fi) (Hu Fi (Hu e8 Pj)))))),?_⟩
 refine ⟨_,rfl,10,18,rfl,rfl,⟨by decide,by decide,by decide⟩,_,_,rfl,rfl,_,rfl,Y2 (λ_=>?_) (λ_=>?_)⟩
 ·refine ⟨_,rfl,10,60,rfl,rfl,⟨by decide,by decide,by decide⟩,_,16,rfl,rfl,⟨by decide,by show (Builtin.Int.intBits (10 ^ (60:Int).toNat):Int) * 16<=2 ^ 27; decide +kernel⟩,_,_,rfl,rfl,(by show (0:Int)<(10 ^ (60:Int).toNat) ^ (16:Int).toNat; decide +kernel),(by show 3<=Bd; decide),λp hp=>?_⟩
  exact q p _ _ _ hp Dt (Ff hp _)
 ·refine ⟨_,rfl,_,_,rfl,rfl,(by show (0:Int)<1000003; decide),(by show 3<=Bd; decide),λp hp=>?_⟩
  exact q p _ _ _ hp Dt (Ff hp _)
theorem GO:FnScope ["_law_draws_here", "_law_k", "_law_number"] ["_law_draws_here"] (Bo qO):=⟨rfl,rfl,rfl,by decide +kernel,rfl,by decide +kernel,by decide +kernel⟩
theorem B8{f:Addr}{fd:Cg}(F:Fun K "_law_next" "_law_next" qO f fd):FnOk P w K mg base Fw 1 f fd ["_law_draws_here"] vC:=by
 refine F.ok GO (λvs H Q E h=>?_) (λcdv A outer s H vs Q E hr h=>?_)
 ·obtain ⟨d,c,k,fl,rfl,_⟩:=h
  rfl
 obtain ⟨d,c,k,fl,rfl,hd,h0,h1,q⟩:=h
 refine ⟨_,Ln (oA (Jp aD (bE Sb (pv 0) Fi (λ_ _=>rfl)) Fi) (vS (pv 0) Fi kA))
  (Ln (zQ (yF (bE Sb (pv 0) Fi (λ_ _=>rfl)))
   (Ln (Vy (i:=2) GO.nd rfl (Ci rfl) (Jp Uh (bE Sb (pv 0) Fi (λ_ _=>rfl)) (Jp gX Fi Fi)))
    (Ln (oA (Jp fN (bE Sb (pv 0) Fi (λ_ _=>rfl)) (Jp gX Fi Fi)) (vS (pv 0) Fi kA))
    (Vb (bJ (pv 2))))) gA)
  (Ln (Vy (i:=1) GO.nd rfl (Ci rfl) (bE Sb (pv 0) Fi (λ_ _=>rfl)))
  (Ln (Vy (i:=2) GO.nd rfl (Ci rfl) (Jp Uh (Jp Vx (Jp aD (Jp aD (bE Sb (pv 0) Fi (λ_ _=>rfl)) (Jp Vx (Jp Vx (pv 1) (pv 1)) Fi)) (pv 1)) Fi) Fi))
  (Ln (Vy (i:=2) GO.nd rfl (Ci rfl) (Jp Uh (Jp Vx (pv 2) (pv 2)) Fi))
  (Vb (bJ (Jp fN (Jp Uh (Jp Vx (pv 2) (Jp aD (pv 2) Fi)) Fi) Fi))))))),?_⟩
 -- draws[1]=draws[1]+1
 refine ⟨_,rfl,d,_,1,_,rfl,rfl,Tq.of hd,rfl,_,_,rfl,rfl,_,rfl,d,_,1,1,rfl,rfl,hd,rfl,?_⟩
 have e1:(upd H d (.lst ([V.int c,V.int k,V.bl fl].set 1 (V.int (k+1))))) d=some (.lst [.int c,.int (k+1),.bl fl]):=Dt
 generalize hH1:upd H d (.lst ([V.int c,V.int k,V.bl fl].set 1 (V.int (k+1))))=H1 at e1
 have s1:Tp d H H1:=by rw[<- hH1]; exact Tp.upd
 refine ⟨_,rfl,d,_,2,_,rfl,rfl,Tq.of e1,rfl,_,rfl,?_⟩
 refine Y2 (λ_=>?_) (λ_=>?_)
 ·refine ⟨_,rfl,d,_,0,_,rfl,rfl,Tq.of e1,rfl,10,6,rfl,rfl,⟨by decide,by decide,by decide⟩,_,_,rfl,rfl,(by show (0:Int)<10 ^ (6:Int).toNat; decide),?_⟩
  refine ⟨_,rfl,d,_,0,_,rfl,rfl,Tq.of e1,rfl,10,6,rfl,rfl,⟨by decide,by decide,by decide⟩,_,_,rfl,rfl,⟨by decide,by decide⟩,_,rfl,d,_,0,0,rfl,rfl,e1,rfl,_,rfl,?_⟩
  exact q _ _ _ Dt (s1.trans Tp.upd)
 ·refine ⟨_,rfl,d,_,1,_,rfl,rfl,Tq.of e1,rfl,?_⟩
  have b1:=gT ((c+(k+1) * (k+1) * 7919+(k+1)) * 48271) 2147483629 (by decide)
  refine ⟨_,rfl,d,_,0,_,rfl,rfl,Tq.of e1,rfl,_,rfl,_,rfl,_,_,rfl,rfl,.inl ⟨by omega,by omega⟩,_,_,rfl,rfl,.inr ⟨by decide,by decide⟩,_,_,rfl,rfl,_,rfl,_,_,rfl,rfl,
   _,_,rfl,rfl,.inr ⟨by decide,by decide⟩,_,_,rfl,rfl,(by show (0:Int)<2147483629; decide),?_⟩
  generalize ((c+(k+1) * (k+1) * 7919+(k+1)) * 48271) % 2147483629=x at b1
  have b2:=gT (x * x) 2147483587 (by decide)
  refine ⟨_,rfl,_,rfl,_,_,rfl,rfl,.inl ⟨by omega,by omega⟩,_,_,rfl,rfl,(by show (0:Int)<2147483587; decide),?_⟩
  generalize (x * x) % 2147483587=y at b2
  refine ⟨_,rfl,_,rfl,_,_,rfl,rfl,_,_,rfl,rfl,.inl ⟨by omega,by omega⟩,_,_,rfl,rfl,(by show (0:Int)<2147483579; decide),_,_,rfl,rfl,⟨by decide,by decide⟩,?_⟩
  exact q _ _ _ e1 s1
theorem sY{f:Addr}{fd:Cg}(F:Fun K "_law_draws" "_law_draws" gR f fd):FnOk P w K mg base Fw 1 f fd ["_law_cell"] Vc:=vK F
theorem vX{f:Addr}{fd:Cg}(F:Fun K "_law_next" "_law_next" qO f fd):FnOk P w K mg base Fw 1 f fd ["_law_draws_here"] (bU K Rp):=x6 (B8 F)
end
end K57
namespace DL
open PySem L2 Nd
def sub(a b:List Int):Bool:=a.all λi=>decide (i∈b)
theorem R8{h:Int}{a:List Int}(r:Fd h a):a.Nodup:=r.1.imp λ{x y} h=>Int.ne_of_lt h
theorem rH{a:List Int}(nd:a.Nodup)(h:∀x∈a,0<=x/\x<60):a.length<=60:=By (NdS.len_leI nd λe he=>Yy (h e he).1 (h e he).2) (by decide)
theorem Qd(a:Int){b:Int}(h:0<b):0<=a % b/\a % b<b:=gT a b h
end DL
namespace Nd
open PySem L2 Ts
end Nd
namespace Nd
open PySem L2
def ch:Nat->Nat->Nat
 | _,0=>1
 | 0,_+1=>0
 | n+1,k+1=>ch n k+ch n (k+1)
theorem Qc(n:Nat):ch n 0=1:=by cases n <;> rfl
theorem Nj(n k:Nat):ch (n+1) (k+1)=ch n k+ch n (k+1):=rfl
theorem Ia:∀{n k:Nat},n<k->ch n k=0
 | 0,0,h=>absurd h (Hb _)
 | 0,k+1,_=>rfl
 | n+1,0,h=>absurd h (Dw _)
 | n+1,k+1,h=>by rw[Nj,Ia (by omega:n<k),Ia (by omega:n<k+1)]
theorem Yq:∀n:Nat,ch n n=1
 | 0=>rfl
 | n+1=>by rw[Nj,Yq n,Ia (Qz n)]
theorem i3:∀n:Nat,ch n 1=n
 | 0=>rfl
 | n+1=>by rw[Nj,Qc,i3 n]; omega
theorem gU:∀n k:Nat,ch n (k+1) * (k+1)=ch n k * (n - k)
 | 0,0=>rfl
 | 0,k+1=>by rw[Ia (by omega:0<k+1+1),Ia (by omega:0<k+1)]; simp
 | n+1,0=>by rw[i3,Qc]; omega
 | n+1,k+1=>by
  have h1:=gU n k
  have h2:=gU n (k+1)
  rw[Nj,Nj n k]
  by_cases hk:n<=k
  ·by_cases hk2:n=k
   ·subst hk2
    rw[Yq,Ia (by omega:n<n+1),Ia (by omega:n<n+1+1)]
    simp
   ·rw[Ia (by omega:n<k+1),Ia (by omega:n<k+1+1),Ia (by omega:n<k)]
    simp
  ·have e1:n - k=n - (k+1)+1:=by omega
   have e2:n+1 - (k+1)=n - (k+1)+1:=by omega
   rw[e1] at h1
   rw[e2]
   generalize n - (k+1)=m at h1 h2
   generalize ch n k=A at *
   generalize ch n (k+1)=B at *
   generalize ch n (k+1+1)=C at *
   -- h1:B * (k+1)=A * (m+1); h2:C * (k+1+1)=B * m
   have : (B+C) * (k+1+1)=B * (k+1)+B+C * (k+1+1):=by
    rw[Nat.add_mul,Qp B (k+1) 1,Nat.mul_one]
   rw[this,h1,h2,Nat.add_mul,Qp B m 1,Nat.mul_one]
   omega
theorem oI:∀{n k:Nat},k<=n->ch n k=ch n (n - k)
 | 0,k,h=>by
  have : k=0:=by omega
  subst this; rfl
 | n+1,0,_=>by rw[Qc,Nat.sub_zero,Yq]
 | n+1,k+1,h=>by
  by_cases hk:k=n
  ·subst hk; rw[Nat.sub_self,Yq,Qc]
  ·have e:n+1 - (k+1)=(n - (k+1))+1:=by omega
   rw[Nj,e,Nj,oI (by omega:k<=n),oI (by omega:k+1<=n)]
   have e2:n - k=n - (k+1)+1:=by omega
   rw[e2]
   omega
theorem kB:∀n k:Nat,ch n k<=2 ^ n
 | n,0=>by rw[Qc]; exact Nat.one_le_two_pow
 | 0,k+1=>by rw[Ia (by omega)]; exact Ee _
 | n+1,k+1=>by
  have h1:=kB n k
  have h2:=kB n (k+1)
  rw[Nj,Nat.pow_succ]
  omega
def cw:Nat->Int->Nat->List (List Int)
 | _,_,0=>[[]]
 | 0,_,_+1=>[]
 | d+1,p,m+1=>(cw d (p+1) m).map (p::·)++cw d (p+1) (m+1)
theorem cw_zero (d:Nat) (p:Int):cw d p 0=[[]]:=by cases d <;> rfl
theorem cw_succ (d:Nat) (p:Int) (m:Nat):cw (d+1) p (m+1)=(cw d (p+1) m).map (p::·)++cw d (p+1) (m+1):=rfl
theorem cw_len:∀ (d:Nat) (p:Int) (m:Nat),(cw d p m).length=ch d m
 | d,p,0=>by rw [cw_zero,Qc]; rfl
 | 0,p,m+1=>rfl
 | d+1,p,m+1=>by rw [cw_succ,Az,Ad,cw_len d (p+1) m,cw_len d (p+1) (m+1),Nj]
def yR(p:Int)(d:Nat)(w:List Int):Prop:=w.Pairwise (· < ·)/\∀x∈w,p<=x/\x<p+d
theorem cw_mem:∀ {d:Nat} {p:Int} {m:Nat} {w:List Int},w∈cw d p m↔w.length=m∧yR p d w
 | d,p,0,w=>by
  rw [cw_zero,Ag]
  constructor
  ·rintro rfl; exact ⟨rfl,Eh,λ_ h=>(nomatch h)⟩
  ·rintro ⟨h,_⟩; exact cB h
 | 0,p,m+1,w=>by
  constructor
  ·intro h; cases h
  ·(intro q_; obtain ⟨h,_,h2⟩ := q_)
   match w,h with
   | x::w,_=>have:=h2 x Ab; omega
 | d+1,p,m+1,w=>by
  rw [cw_succ,Ay,List.mem_map]
  constructor
  ·rintro (⟨v,hv,rfl⟩ | h)
   ·obtain ⟨h1,h2,h3⟩:=cw_mem.mp hv
    refine ⟨by rw[Be,h1],Ba.mpr ⟨λx hx=>?_,h2⟩,λx hx=>?_⟩
    ·have:=h3 x hx; omega
    ·rcases Ai.mp hx with rfl | hx
     ·omega
     ·have:=h3 x hx; omega
   ·obtain ⟨h1,h2,h3⟩:=cw_mem.mp h
    exact ⟨h1,h2,λx hx=>by have:=h3 x hx; omega⟩
  ·(intro q_; obtain ⟨h1,h2,h3⟩ := q_)
   match w,h1 with
   | x::v,h1 =>
    obtain ⟨a1,a2⟩:=Ba.mp h2
    have hx:=h3 x Ab
    by_cases e:x=p
    ·subst e
     refine .inl ⟨v,cw_mem.mpr ⟨by simpa using h1,a2,fun y hy=>?_⟩,rfl⟩
     have:=a1 y hy
     have:=h3 y (Ah _ hy)
     omega
    ·refine .inr (cw_mem.mpr ⟨h1,h2,fun y hy=>?_⟩)
     rcases Ai.mp hy with rfl | hy
     ·omega
     ·have:=a1 y hy
      have:=h3 y (Ah _ hy)
      omega
end Nd
namespace DL
open PySem L2 Nd
def pairD(p:Nat×Nat):Ac:=.tuple [.int p.1,.int p.2]
instance {p:Nat×Nat}:Im (pairD p):=⟨(inferInstance:Im (.tuple [.int p.1,.int p.2])).h⟩
instance {p:Nat×Nat}:Dp (pairD p) 1:=⟨(inferInstance:Dp (.tuple [.int p.1,.int p.2]) 1).h⟩
def K4(p:Nat×Nat×List Int):Ac:=.tuple [.int p.1,.int p.2.1,Au p.2.2]
instance {p:Nat×Nat×List Int}:Im (K4 p):=⟨(inferInstance:Im (.tuple [.int p.1,.int p.2.1,Au p.2.2])).h⟩
instance {p:Nat×Nat×List Int}:Dp (K4 p) 2:=⟨(inferInstance:Dp (.tuple [.int p.1,.int p.2.1,Au p.2.2]) 2).h⟩
def EV(L:List (List Int))(f:List Int->Int):Ac:=.list ((L.map f).map Ax)
instance {L:List (List Int)} {f:List Int->Int}:Dp (EV L f) 1:=⟨(inferInstance:Dp (.list ((L.map f).map Ax)) 1).h⟩
def jm(Q w c:List Int):Bool:=sub w c && c.all λi=>decide (i∈w\/i∉Q)
end DL
namespace DL
open PySem PySem.Spec PyProof.Rows L2 Nd
end DL
namespace DRow
open PySem L2 Nd DL
def Ye(w u:List Int):Bool:=w.all λi=>decide (i∈u)
def T8(n1 n2:List Int)(ps:List (List Int×Bool)):Option Bool:=ps.foldl (λst p=>if Ye p.1 n1=Ye p.1 n2 then st else some (Ye p.1 n1 == !p.2)) none
theorem p9(n1 n2:List Int)(ps:List (List Int×Bool))(p:List Int×Bool):T8 n1 n2 (ps++[p])=if Ye p.1 n1=Ye p.1 n2 then T8 n1 n2 ps else some (Ye p.1 n1 == !p.2):=by
 unfold T8
 rw[List.foldl_append]
 rfl
def aW(ps:List (List Int×Bool))(n:List Int):List Int:=ps.reverse.map λp=>if Ye p.1 n=p.2 then 1 else 0
theorem eO(ps:List (List Int×Bool))(p:List Int×Bool)(n:List Int):aW (ps++[p]) n=(if Ye p.1 n=p.2 then 1 else 0)::aW ps n:=by
 unfold aW
 rw[List.reverse_append,Bp]
 rfl
theorem wZ{α:Type}{P:List α->Prop}(h0:P [])(h1:∀l x,P l->P (l++[x]))(l:List α):P l:=by
 have : ∀m:List α,P m.reverse:=λm=>by
  induction m with
  | nil=>exact h0
  | cons x m ih=>rw[Hr]; exact h1 _ _ ih
 have:=this l.reverse
 rwa [List.reverse_reverse] at this
theorem xQ(n1 n2:List Int)(ps:List (List Int×Bool)):(T8 n1 n2 ps=none↔aW ps n1=aW ps n2)/\(T8 n1 n2 ps=some true↔HT.lexLt (aW ps n1) (aW ps n2)=true):=by
 induction ps using wZ with
 | h0=>exact ⟨⟨λ_=>rfl,λ_=>rfl⟩,⟨λh=>(by cases h),λh=>(by cases h)⟩⟩
 | h1 l p ih =>
  rw[p9,eO,eO,HT.lexLt_cons]
  by_cases h:Ye p.1 n1=Ye p.1 n2
  ·rw[if_pos h,h,if_pos rfl]
   refine ⟨ih.1.trans ⟨λe=>by rw[e],λe=>(Fu e).2⟩,ih.2⟩
  ·rw[if_neg h]
   cases h1:Ye p.1 n1 <;> cases h2:Ye p.1 n2 <;> cases h3:p.2 <;> rw[h1,h2] at h <;> first | exact absurd rfl h | simp
theorem i8(x y:List Int)(ps:List (List Int×Bool)):T8 x y ps=some false↔(¬ aW ps x=aW ps y/\¬ HT.lexLt (aW ps x) (aW ps y)=true):=by
 rw[<- (xQ x y ps).1,<- (xQ x y ps).2]
 cases T8 x y ps with
 | none=>simp
 | some b=>cases b <;> simp
abbrev Ps:=List Int×Bool
def K3(p:Ps):Ac:=.tuple [Au p.1,.str (uK p.2)]
instance {p:Ps}:Im (K3 p):=⟨(inferInstance:Im (.tuple [Au p.1,.str (uK p.2)])).h⟩
instance {p:Ps}:Dp (K3 p) 2:=⟨(inferInstance:Dp (.tuple [Au p.1,.str (uK p.2)]) _).h⟩
instance {α:Type} {f:α->Ac} {l:List α} {lo hi:Option Int} [h:∀a,Im (f a)]:ImA (Ic (l.map f) lo hi):=⟨by rw[jT]; exact GJ⟩
theorem cutG_from{α:Type}(xs:List α)(k:Nat):Ic xs (some (k:Int)) none=xs.drop k:=by
 unfold Ic
 rw[HT.sIx_none,HT.sIx_nat]
 by_cases h:k<=xs.length
 ·rw[Nat.min_eq_left h,Jc (by rw[Qx]; exact An _)]
 ·rw[Nat.min_eq_right (by omega),oU (by omega),oU (by omega),List.take_nil]
def aS(D:List (List Int))(n:Nat):List (List Int×Ac):=(D.zipIdx n).map λp=>(p.1,Ax p.2)
theorem jI(w:List Int):∀(D:List (List Int)) (n:Nat),Ue (aS D n) w=if w∈D then some (.int ((n+D.idxOf w:Nat):Int)) else none
 | [],n=>rfl
 | d::D,n=>by
  have ih:=jI w D (n+1)
  have e:aS (d::D) n=(d,.int n)::aS D (n+1):=rfl
  rw[e]
  unfold Ue at ih ⊢
  rw[Jk]
  by_cases h:d=w
  ·subst h
   simp [List.idxOf_cons]
  ·have hd:decide (d=w)=false:=by simp [h]
   rw[show (decide ((d,Ax (n:Int)).1=w))=false from hd]
   show (List.find? (λp=>decide (p.1=w)) (aS D (n+1))).map (·.2)=_
   rw[ih]
   have hw:¬ w=d:=λz=>h z.symm
   by_cases m:w∈D
   ·rw[if_pos m,if_pos (Ah _ m),List.idxOf_cons]
    have hb:(d == w)=false:=by simp [h]
    rw[hb]
    simp
    omega
   ·rw[if_neg m,if_neg (by simp [hw,m])]
theorem xR(D:List (List Int))(n:Nat):(aS D n).length=D.length:=by unfold aS; simp
theorem xV{D:List (List Int)}{k:List Int}(h:k∉D):sS (aS D 0) k (.int D.length)=aS (D++[k]) 0:=by
 unfold sS
 rw[if_neg]
 ·unfold aS
  rw[List.zipIdx_append,Bp]
  simp
 ·intro z
  obtain ⟨p,hp,e⟩:=List.any_eq_true.mp z
  unfold aS at hp
  obtain ⟨q,hq,rfl⟩:=Bq.mp hp
  have e':q.1=k:=by simpa using e
  have:=List.fst_mem_of_mem_zipIdx hq
  rw[e'] at this
  exact h this
end DRow
namespace DL
open PySem PySem.Spec PyProof.Rows L2 Nd DRow
end DL
namespace K57
open PySem L2 Nd DL
local macro_rules | `(tactic| array_get_dec) => do
  let ids:=(("e_lenSet e_lsB e_callWV e_callWVB e_idx e_idxB e_idxC e_seq e_skip e_ret e_if e_asg e_name e_name2 e_name4 e_own e_own2 e_nF e_gtup e_gtup_w1 e_gsn e_gsc e_op e_var e_c e_imm e_immB e_take e_I e_I0 e_eqF e_eqT e_inFl e_inTl e_inFt_w1 e_isNT e_ixl e_ixt e_ixt_w1 e_cat e_catT e_catT_w1 e_catT_w2 e_nlT e_nlF e_ntT e_ntF e_pkOfsh e_pkOfow e_mdInsh e_mdInow e_mdNewsh e_mdItsh e_mdItow e_nil e_cons e_tup e_lst e_noPart e_part e_partB e_sl e_slBl e_slBt e_slBt_w1 e_cb e_lenl e_lent e_lent_w1 e_listl e_listt e_listt_w1 e_tuplel e_intb e_max2 e_min2 e_all e_isi e_str e_v e_b e_bB e_notT e_andT e_orT e_orTt e_orTf e_not e_notB e_and e_andt e_andf e_neg e_negB e_dL e_dTp e_lB e_tpB e_tpB_w1 e_range1 e_rng1B e_enum e_enumB e_for e_comp e_compL e_stepL e_stepLT e_stepLF e_noTest e_step e_stepT e_stepF e_yesB e_call e_callW e_draws e_drawsB e_append e_revT e_appendO e_stepK e_stepKB e_aug e_augB e_scrSl e_dnew e_dput e_tagD e_callA e_ssT e_ssTt e_tr e_trB ow_npk retWT callAB retA retA_sh retA_ow retA_tp isDct dputB dk_e dget_e dinF_e callB callBW tupB lstB datas pkMd allOw noPk appB appOB mmd revTB own1 npk retE retW retL args0 frD frD1 alD List.map_cons List.map_nil List.replicate List.getElem?_cons_zero List.getElem?_cons_succ List.set_cons_zero List.set_cons_succ List.cons_append List.nil_append Option.map_some List.length_cons List.length_nil List.append_nil rdAdd rdSub rdMul rdDiv rdMod rdLt rdLe rdGt rdGe if_true if_false Bool.false_eq_true List.append_assoc Nat.reduceAdd Nat.reduceSub Nat.reduceLeDiff true_and im_e ima_e dp_e dpa_e any_int any_word eqD_intd eqD_word eqD_bl eqD_str eqD_lw eqD_li eqD_l0 ow_e tt_e cdiv_e cmul_l Int.reduceLT Int.reduceNeg and_self fold_w isi_li isi_tt isi_bb Bool.not_true Bool.not_false decide_true String.reduceEq or_true true_or List.isEmpty_nil ifB_lt ifB_lf isi_ss str_self Int.cast_ofNat_Int Int.reduceEq atI_0 atI_1 atI_2 some_e dec_self isE_cons yesL_sh catL_shtp catL_tpow catL_tptp st_places_same" : String).splitOn " ").toArray.map λ(x:String)=>Lean.mkIdent x.toName
  `(tactic| try simp only [$[↓$ids:ident],*])
theorem O3(n i:Nat)(h:i<n):((ch n i:Nat):Int) * ((n:Int) - (i:Int)) / ((i:Int)+1)=((ch n (i+1):Nat):Int):=by
 have e:=gU n i
 have e':((ch n (i+1):Nat):Int) * ((i:Int)+1)=((ch n i:Nat):Int) * ((n:Int) - (i:Int)):=by
  have:=congrArg (λx:Nat=>(x:Int)) e
  simp only[Int.natCast_mul,Int.natCast_add,Int.natCast_one] at this
  rw[Int.ofNat_sub (by omega)] at this
  exact this
 rw[<- e',Int.mul_ediv_cancel _ (by omega)]
def Z9(i:Nat)(δ:DS):Nat:=match δ.sl[i]? with
 | some (.dat _ (.int p))=>p.toNat
 | _=>0
def bO:PF:=λds R=>∃n k:Int,ds=[.int n,.int k]/\0<=n/\n<=60/\0<=k/\R (.int (ch n.toNat k.toNat))
def kU:PF:=λds R=>∃h m n:Int,ds=[.int h,.int m,.int n]/\0<=h/\h<=60/\0<=m/\0<=n/\n<(ch h.toNat m.toNat:Int)/\∀w:List Int,(cw h.toNat 0 m.toNat)[n.toNat]? = some w->R (Au w)
def dU:PF:=λds R=>∃h m:Int,ds=[.int h,.int m]/\0<=h/\h<=12/\0<=m/\R (.list ((cw h.toNat 0 m.toNat).map Au))
section
variable{P:Bs}{w:World}{K:PySem.W.Frag}{mg:Str->Option Value}{base:Heap}
theorem tJ:FnScope ["n", "k", "many", "step"] ["n", "k"] (Bo bH):=⟨rfl,rfl,rfl,by decide +kernel,rfl,by decide +kernel,by decide +kernel⟩
theorem sU{f   : Addr}{fd  : Cg}(F:Fun K "choose" "choose" bH f fd)(mz_min:mg "min" = none)(mz_range:mg "range" = none):FnOk P w K mg base Fw 1 f fd ["n", "k"] (Ou K (bO)):=by
 refine' Hl (k:=0) F tJ (λcdv A outer s H E hr=>?hb) ?h
 case hb =>
  have hu64:=hr.units
  exact Bn (Gh (K8 (Af (pv 1)) (Af (pv 0)))
   (Cf (Cz Bm)) Fc)
   (Bn (Ej (i:=2) tJ.nd rfl (Ci rfl) Bm)
   (Bn (Jq Cw rfl (Hx rfl mz_range (Aa (Cj (eR rfl) pW rfl mz_min (by decide +kernel) (Aa (Af (pv 1)) (Aa (Lw (Af (pv 0)) (Af (pv 1))) Aj))) Aj)) (Ew (i:=3) tJ.nd rfl (Ci rfl))
   (Cf (Ej (i:=2) tJ.nd rfl (Ci rfl) (Wr (xC (Af (pv 2)) (Lw (Af (pv 0)) (Af (pv 3)))) (Ri (Af (pv 3)) Bm)))))
   (Cf (Cz (Dm (Af (pv 2)))))))
 case h =>
  (intro ds R q_; obtain ⟨n,k,rfl,n0,n1,k0,hR⟩ := q_)
  refine ⟨rfl,?_⟩
  array_get_dec
  refine Pc (λq=>?_) (λq=>?_)
  ·have q:=of_decide_eq_true q
   rw[Ia (by omega)] at hR
   array_get_dec
   exact hR
  have q:=of_decide_eq_false q
  array_get_dec
  obtain ⟨t,et,tn,ec⟩ : ∃t:Nat,(if n - k<k then n - k else k)=(t:Int)/\t<=n.toNat/\ch n.toNat t=ch n.toNat k.toNat:=by
   by_cases c:n - k<k
   ·refine ⟨(n - k).toNat,by rw[if_pos c]; omega,by omega,?_⟩
    rw[oI (by omega)]
    congr 1
    omega
   ·exact ⟨k.toNat,by rw[if_neg c]; omega,by omega,rfl⟩
  rw[et]
  refine ⟨by omega,by omega,?_⟩
  rw[Df]
  refine Rh (l:=Bh t) (g:=λi:Nat=>.int i) rfl (λi δ=>∃v:DV,δ=⟨[.dat .sh (.int n),.dat .sh (.int k),.dat .sh (.int (ch n.toNat i)),v],0⟩/\NP v) ?_ ?_ ?_
  ·exact ⟨_,by rw[Qc]; rfl,Ge⟩
  ·(intro i a _ ha q_; obtain ⟨v,rfl,hv⟩ := q_)
   obtain ⟨rfl,hi⟩:=Ru ha
   array_get_dec
   refine ⟨.inr ⟨by omega,by omega⟩,⟨by omega,by omega⟩,?_⟩
   have e:=O3 n.toNat a (by omega)
   rw[show ((n.toNat:Nat):Int)=n by omega] at e
   rw[e]
   exact ⟨_,rfl,Ey⟩
  ·(intro _ q_; obtain ⟨v,rfl,hv⟩ := q_)
   rw[Cy,ec]
   array_get_dec
   exact hR
theorem nC:FnScope ["holes", "many", "number", "word", "left", "place", "having"] ["holes", "many", "number"] (Bo Wl):=⟨rfl,rfl,rfl,by decide +kernel,rfl,by decide +kernel,by decide +kernel⟩
theorem mW{f f_choose  : Addr}{fd d_choose:Cg}(F:Fun K "word_at" "word_at" Wl f fd)(G_choose:FnOk P w K mg base Fw 1 f_choose d_choose ["n", "k"] (Ou K (bO)))(b_choose:Binds K d_choose ["n", "k"] [])(k_choose:PySem.W.keepIn K (.ref f_choose)=true)(m_choose:mg "choose" = some (.ref f_choose))(mz_len:mg "len" = none):FnOk P w K mg base Fw 2 f fd ["holes", "many", "number"] (Ou K (kU)):=by
 refine' Hl (k:=1) F nC (λcdv A outer s H E hr=>?hb) ?h
 case hb =>
  have hr1:Room 1 _:=hr.mono (by decide)
  have hu64:=hr.units
  exact Bn (Gh (Rm (Kn (qG (Af (pv 2)) Bm) (Kg (K7 (Af (pv 2)) (Eg G_choose hr1 rfl m_choose k_choose b_choose Ef (Aa (Af (pv 0)) (Aa (Af (pv 1)) Aj)))))))
   (Cf xB) Fc)
   (Bn (Ej (i:=3) nC.nd rfl (Ci rfl) (Dd Aj))
   (Bn (Ej (i:=4) nC.nd rfl (Ci rfl) (Af (pv 2)))
   (Bn (Ej (i:=5) nC.nd rfl (Ci rfl) Bm)
   (Bn (zV Cw (qG (Cj Es Hf rfl mz_len (by decide +kernel) (Aa (Af (pv 3)) Aj)) (Af (pv 1)))
   (Bn (Ej (i:=6) nC.nd rfl (Ci rfl) (Eg G_choose hr1 rfl m_choose k_choose b_choose Ef (Aa (Lw (Lw (Af (pv 0)) Bm) (Af (pv 5))) (Aa (Lw (Lw (Af (pv 1)) (Cj Es Hf rfl mz_len (by decide +kernel) (Aa (Af (pv 3)) Aj))) Bm) Aj))))
    (Bn (Gh (qG (Af (pv 4)) (Af (pv 6)))
    (Cf (Ej (i:=3) nC.nd rfl (Ci rfl) (Sr (Af (pv 3)) (Dd (Aa (Dm (Af (pv 5))) Aj))))) (Cf (rB (i:=4) nC.nd rfl (Ci rfl) (Af (pv 6)) S5)))
    (Cf (r9 (i:=5) nC.nd rfl (Ci rfl) Bm)))))
   (Cf (Cz (Dm (Af (pv 3)))))))))
 case h =>
  (intro ds R q_; obtain ⟨h,m,n,rfl,h0,h1,m0,n0,n1,hR⟩ := q_)
  refine ⟨rfl,?_⟩
  have mh:m.toNat<=h.toNat:=Nat.le_of_not_lt λz=>by rw[Ia z] at n1; omega
  array_get_dec
  refine dM (λq=>absurd (of_decide_eq_true q) (by omega)) (λ_=>?_)
  array_get_dec
  refine ⟨h,m,rfl,h0,h1,m0,?_⟩
  array_get_dec
  refine Pc (λq=>absurd (of_decide_eq_true q) (by omega)) (λ_=>?_)
  array_get_dec
  obtain ⟨tg,etg⟩ : ∃tg,(cw h.toNat 0 m.toNat)[n.toNat]? = some tg:=by
   have : n.toNat<(cw h.toNat 0 m.toNat).length:=by rw [cw_len]; omega
   exact ⟨_,Bf this⟩
  have hm:tg.length=m.toNat:=(cw_mem.mp (Bg etg)).1
  refine Q9 (λδ=>∃(w r:List Int) (lf pl:Nat) (v:DV),δ=⟨[.dat .sh (.int h),.dat .sh (.int m),.dat .sh (.int n),.dat .sh (Au w),.dat .sh (.int lf),.dat .sh (.int pl),v],0⟩/\NP v/\w++r=tg/\pl<=h.toNat/\(cw (h.toNat - pl) pl r.length)[lf]? = some r) (λδ=>h.toNat - Z9 5 δ) ⟨[],tg,n.toNat,0,_,by rw[Lc n0]; rfl,Ge,rfl,Ee _,by rw[hm]; exact etg⟩ ?_
  (intro _ q_; obtain ⟨w,r,lf,pl,v,rfl,hv,ew,pl0,er⟩ := q_)
  have lw:w.length+r.length=m.toNat:=by rw[<- hm,<- ew,Az]
  array_get_dec
  refine AF (λhb=>?_) (λhb=>?_)
  ·have hb:=of_decide_eq_true hb
   rw[Ad] at hb
   obtain ⟨x,r',rfl⟩ : ∃x r',r=x::r':=by
    cases r with
    | nil=>exact absurd lw (by simp; omega)
    | cons x r'=>exact ⟨x,r',rfl⟩
   rw[Be] at lw er
   obtain ⟨d,hd⟩ : ∃d,h.toNat - pl=d+1:=by
    cases hd:h.toNat - pl with
    | zero=>rw[hd] at er; cases er
    | succ d=>exact ⟨d,rfl⟩
   rw [hd,cw_succ] at er
   array_get_dec
   rw[Ad]
   refine ⟨h - 1 - pl,m - w.length - 1,rfl,by omega,by omega,by omega,?_⟩
   rw[show (h - 1 - (pl:Int)).toNat=d by omega,show (m - (w.length:Int) - 1).toNat=r'.length by omega]
   array_get_dec
   refine Pc (λhl=>?_) (λhl=>?_)
   ·have hl':lf<ch d r'.length:=by have:=of_decide_eq_true hl; omega
    rw [Pz (by rw [Ad,cw_len]; exact hl'),Cc] at er
    cases hv2:(cw d ((pl:Int)+1) r'.length)[lf]? with
    | none=>rw[hv2] at er; cases er
    | some u =>
     rw[hv2] at er
     have er':(pl:Int)::u=x::r':=Ce er
     injection er' with ex eur
     subst ex eur
     array_get_dec
     refine ⟨by rw[Ad]; omega,⟨w++[(pl:Int)],u,lf,pl+1,.dat .sh (.int (ch d u.length)),?_,Ey,by rw[<- ew,Dq]; rfl,by omega,by rw[show h.toNat - (pl+1)=d by omega,show ((pl+1:Nat):Int)=(pl:Int)+1 by omega]; exact hv2⟩,?_⟩
     ·rw[show ((pl+1:Nat):Int)=(pl:Int)+1 by omega]
      unfold Au
      rw[Bp]
      rfl
     ·show h.toNat - ((pl:Int)+1).toNat<h.toNat - (pl:Int).toNat
      omega
   ·have hl':ch d r'.length<=lf:=by have:=of_decide_eq_false hl; omega
    rw [Ki (by rw [Ad,cw_len]; exact hl'),Ad,cw_len] at er
    array_get_dec
    refine ⟨⟨w,x::r',lf - ch d r'.length,pl+1,.dat .sh (.int (ch d r'.length)),?_,Ey,ew,by omega,by rw[show h.toNat - (pl+1)=d by omega,show ((pl+1:Nat):Int)=(pl:Int)+1 by omega,Be]; exact er⟩,?_⟩
    ·rw[show ((lf - ch d r'.length:Nat):Int)=(lf:Int) - (ch d r'.length:Int) by omega,show ((pl+1:Nat):Int)=(pl:Int)+1 by omega]
    ·show h.toNat - ((pl:Int)+1).toNat<h.toNat - (pl:Int).toNat
     omega
  ·have hb:=of_decide_eq_false hb
   rw[Ad] at hb
   obtain rfl:r=[]:=Eo.mp (by omega)
   rw[Ec] at ew
   subst ew
   array_get_dec
   exact hR _ etg
theorem jG:FnScope ["holes", "many"] ["holes", "many"] (Bo Ql):=⟨rfl,rfl,rfl,by decide +kernel,rfl,by decide +kernel,by decide +kernel⟩
theorem kW{f f_choose f_word_at  : Addr}{fd d_choose d_word_at:Cg}(F:Fun K "words_of" "words_of" Ql f fd)(G_choose:FnOk P w K mg base Fw 1 f_choose d_choose ["n", "k"] (Ou K (bO)))(b_choose:Binds K d_choose ["n", "k"] [])(k_choose:PySem.W.keepIn K (.ref f_choose)=true)(m_choose:mg "choose" = some (.ref f_choose))(G_word_at:FnOk P w K mg base Fw 2 f_word_at d_word_at ["holes", "many", "number"] (Ou K (kU)))(b_word_at:Binds K d_word_at ["holes", "many", "number"] [])(k_word_at:PySem.W.keepIn K (.ref f_word_at)=true)(m_word_at:mg "word_at" = some (.ref f_word_at))(mz_range:mg "range" = none):FnOk P w K mg base Fw 3 f fd ["holes", "many"] (Ou K (dU)):=by
 refine' Hl (k:=2) F jG (λcdv A outer s H E hr=>?hb) ?h
 case hb =>
  have hr1:Room 1 _:=hr.mono (by decide)
  have hr2:Room 2 _:=hr.mono (by decide)
  have hu64:=hr.units
  have CS1:∀{scope:Scope} (h:scope={ kind:=.function,names:=[(".0",.local),("number",.local),("word_at",.globalImplicit),("holes",.free),("many",.free)],isGenerator:=false,isCoroutine:=false }),
    CompScope (Lq Fw P w K mg base ["holes", "many"] "words_of" (Bo Ql) f cdv A outer s H E).nox scope [("many",s.heap.objs.size+2),("holes",s.heap.objs.size+1)] "number" ["holes", "many"] [0,1]:=by
   rintro scope rfl
   refine ⟨by rfl,.inl (by decide +kernel),by rfl,by decide +kernel,.inl rfl,λy c h=>?_,by rfl,by decide +kernel,rfl,λk y j e1 e2=>?_⟩
   ·have z:=Et h
    simp only[Ai,Bk,or_false,Fn] at z
    rcases z with ⟨rfl,rfl⟩ | ⟨rfl,rfl⟩ <;> rfl
   ·match k,e1,e2 with
    | 0,e1,e2=>cases e1; cases e2; exact ⟨rfl,rfl,by first | exact .inl rfl | exact .inr rfl⟩
    | 1,e1,e2=>cases e1; cases e2; exact ⟨rfl,rfl,by first | exact .inl rfl | exact .inr rfl⟩
    | k+2,e1,e2=>cases e1
  exact Cf (Cz (Mf (CS1 rfl) rfl (Hx rfl mz_range (Aa (Eg G_choose hr1 rfl m_choose k_choose b_choose Ef (Aa (Af (pv 0)) (Aa (Af (pv 1)) Aj))) Aj)) (λ_ _ _=>Vn) (λ_ _ _=>Eg G_word_at hr2 rfl m_word_at k_word_at b_word_at Ef (Aa (Af (pv 1)) (Aa (Af (pv 2)) (Aa (Af (pv 0)) Aj))))))
 case h =>
  (intro ds R q_; obtain ⟨h,m,rfl,h0,h1,m0,hR⟩ := q_)
  refine ⟨rfl,?_⟩
  array_get_dec
  refine ⟨h,m,rfl,h0,by omega,m0,?_⟩
  array_get_dec
  have c1:=kB h.toNat m.toNat
  have c2:2 ^ h.toNat<=2 ^ 12:=Hv (by decide) (by omega)
  refine ⟨by omega,by omega,?_⟩
  rw[Df]
  have cl:=cw_len h.toNat 0 m.toNat
  refine qE (l:=Bh (ch h.toNat m.toNat)) (g:=λi:Nat=>.int i) rfl (λi=>Au ((cw h.toNat 0 m.toNat).getD i [])) (λi hi yes no hy=>?_) ?_
  ·have hi:=Cu.mp hi
   array_get_dec
   refine ⟨h,m,i,rfl,h0,by omega,m0,by omega,by omega,λw hw=>?_⟩
   rw[Df] at hw
   rw[Kj,hw] at hy
   array_get_dec
   exact hy
  ·have e:(Bh (ch h.toNat m.toNat)).map (λi=>Au ((cw h.toNat 0 m.toNat).getD i []))=(cw h.toNat 0 m.toNat).map Au:=by
    rw[<- cl]
    apply Mb
    intro i
    rw[Cc,Cc]
    by_cases hi:i<(cw h.toNat 0 m.toNat).length
    ·rw[List.getElem?_range hi,Bf hi]
     show some (Au _)=some (Au _)
     rw[Kj,Bf hi]
     rfl
    ·rw[List.getElem?_eq_none (by rw[Cy]; omega),List.getElem?_eq_none (by omega)]
     rfl
   rw[e]
   array_get_dec
   exact hR
end
open DRow
def Om(p c:List Int):List Int:=p.filter λi=>decide (i∈c)
def Wf:PF:=λds R=>∃c p:List Int,ds=[Au c,Au p]/\p.length<=60/\R (Au (Om p c))
def qT:PF:=λds R=>∃(D:List (List Int)) (p:List Int),ds=[.list (D.map Au),Au p]/\D.length<=1000/\p.length<=60/\((D.map (Om p)).Nodup->R .none) /\
 ∀(i j:Nat) (x y:List Int),i<j->D[i]? = some x->D[j]? = some y->Om p x=Om p y->R (Au [(i:Int),(j:Int)])
section
variable{P:Bs}{w:World}{K:PySem.W.Frag}{mg:Str->Option Value}{base:Heap}
theorem cD:FnScope ["card", "places"] ["card", "places"] (Bo Nq):=⟨rfl,rfl,rfl,by decide +kernel,rfl,by decide +kernel,by decide +kernel⟩
theorem cI{f   : Addr}{fd  : Cg}(F:Fun K "notches_at" "notches_at" Nq f fd)(mz_tuple:mg "tuple" = none):FnOk P w K mg base Fw 1 f fd ["card", "places"] (Ou K (Wf)):=by
 refine' Hl (k:=0) F cD (λcdv A outer s H E hr=>?hb) ?h
 case hb =>
  have hu64:=hr.units
  have CS1:∀{scope:Scope} (h:scope={ kind:=.function,names:=[(".0",.local),("place",.local),("card",.free)],isGenerator:=false,isCoroutine:=false }),
    CompScope (Lq Fw P w K mg base ["card", "places"] "notches_at" (Bo Nq) f cdv A outer s H E).nox scope [("card",s.heap.objs.size+1)] "place" ["card"] [0]:=by
   rintro scope rfl
   refine ⟨by rfl,.inl (by decide +kernel),by rfl,by decide +kernel,.inl rfl,λy c h=>?_,by rfl,by decide +kernel,rfl,λk y j e1 e2=>?_⟩
   ·have z:=Et h
    simp only[Ai,Bk,or_false,Fn] at z
    obtain ⟨rfl,rfl⟩:=z; rfl
   ·match k,e1,e2 with
    | 0,e1,e2=>cases e1; cases e2; exact ⟨rfl,rfl,by first | exact .inl rfl | exact .inr rfl⟩
    | k+1,e1,e2=>cases e1
  exact Cf (Cz (Fo Og (Oi (i:=true)) rfl mz_tuple (by decide +kernel) (Aa (Mf (CS1 rfl) rfl (W5 (Af (pv 1))) (λ_ _ _=>Lk (qN hu64 (Af (pv 0)) (Af (pv 1)))) (λ_ _ _=>Af (pv 0))) Aj)))
 case h =>
  (intro ds R q_; obtain ⟨c,p,rfl,lp,hR⟩ := q_)
  refine ⟨rfl,?_⟩
  array_get_dec
  refine Uo (l:=p) (g:=Ax) rfl (λi=>decide (i∈c)) Ax (λi _ yes no hy hn=>?_) ?_
  ·array_get_dec
   refine Qm (λh=>?_) (λh=>?_)
   ·array_get_dec
    exact hy h
   ·exact hn h
  array_get_dec
  exact hR
end
theorem eL{ws:List (List Int)}{i:Nat}{p:List Int×Nat}(h:ws.zipIdx[i]? = some p):p.2=i/\ws[i]? = some p.1:=by
 rw[List.getElem?_zipIdx] at h
 cases e:ws[i]? with
 | none=>rw[e] at h; cases h
 | some a =>
  rw[e] at h
  cases h
  exact ⟨by simp,rfl⟩
theorem N7{D:List (List Int)}{f:List Int->List Int}{w:List Int}{n:Nat}(h:w∈(D.take n).map f):∃(i:Nat) (x:List Int),i<n/\D[i]? = some x/\f x=w/\((D.take n).map f).idxOf w=i:=by
 have lt:=List.idxOf_lt_length_of_mem h
 have ge:=List.getElem_idxOf lt
 obtain ⟨i,ei⟩ : ∃i,((D.take n).map f).idxOf w=i:=⟨_,rfl⟩
 rw[Ad,Fl] at lt
 have g2:((D.take n).map f)[i]? = some w:=by
  rw[<- ei]
  exact List.getElem?_eq_some_iff.mpr ⟨_,ge⟩
 rw[Cc,mD (by omega)] at g2
 cases q:D[i]? with
 | none=>rw[q] at g2; cases g2
 | some x =>
  rw[q] at g2
  injection g2 with g2
  exact ⟨i,x,by omega,q,g2,ei⟩
theorem aA{α:Type}{l:List α}{a:α}(h:l.Nodup)(k:a∉l):(l++[a]).Nodup:=Fq.mpr ⟨h,Bt.mpr ⟨(λz=>nomatch z),Cv⟩,λx hx y hy e=>k (by rw[<- Ag.mp hy,<- e]; exact hx)⟩
theorem eG{α β:Type}{f:α->β}{D:List α}{i:Nat}{x:α}(h:D[i]? = some x):(D.take (i+1)).map f=(D.take i).map f++[f x]:=by
 obtain ⟨h1,h2⟩:=Av.mp h
 rw[Dy h1,Bp,h2]
 rfl
section
variable{P:Bs}{w:World}{K:PySem.W.Frag}{mg:Str->Option Value}{base:Heap}
theorem lN:FnScope ["deck", "places", "seen", "j", "card", "notches"] ["deck", "places"] (Bo Tx):=⟨rfl,rfl,rfl,by decide +kernel,rfl,by decide +kernel,by decide +kernel⟩
theorem jV{f f_notches_at  : Addr}{fd d_notches_at:Cg}(F:Fun K "alike_at" "alike_at" Tx f fd)(G_notches_at:FnOk P w K mg base Fw 1 f_notches_at d_notches_at ["card", "places"] (Ou K (Wf)))(b_notches_at:Binds K d_notches_at ["card", "places"] [])(k_notches_at:PySem.W.keepIn K (.ref f_notches_at)=true)(m_notches_at:mg "notches_at" = some (.ref f_notches_at))(mz_enumerate:mg "enumerate" = none):FnOk P w K mg base Fw 2 f fd ["deck", "places"] (Ou K (qT)):=by
 refine' Hl (k:=1) F lN (λcdv A outer s H E hr=>?hb) ?h
 case hb =>
  have hr1:Room 1 _:=hr.mono (by decide)
  have hu64:=hr.units
  exact Bn (Kr (i:=2) lN.nd rfl (Ci rfl) q9)
   (Bn (Jq Cw rfl (pO rfl mz_enumerate (Aa (Af (pv 0)) Aj)) (Zx (n:=2) rfl (Ir (Ew (i:=3) lN.nd rfl (Ci rfl)) (Ir (Ew (i:=4) lN.nd rfl (Ci rfl)) Vg)))
   (Bn (Ej (i:=5) lN.nd rfl (Ci rfl) (Eg G_notches_at hr1 rfl m_notches_at k_notches_at b_notches_at Ef (Aa (Af (pv 4)) (Aa (Af (pv 1)) Aj))))
    (Bn (Gh (V1 hu64 (Af (pv 5)) (Af (pv 2)))
    (Cf (Cz (Dd (Aa (t5 hu64 (Af (pv 2)) (Af (pv 5))) (Aa (Dm (Af (pv 3))) Aj))))) Fc)
    (Cf (o6 hu64 (pv 2) (Af (pv 5)) (Af (pv 3)))))))
   (Cf (Cz Rn)))
 case h =>
  (intro ds R q_; obtain ⟨D,p,rfl,lD,lp,hN,hA⟩ := q_)
  refine ⟨rfl,?_⟩
  array_get_dec
  have ez:((D.map Au).zipIdx.map λp=>Fp [.int (p.2:Int),p.1])=D.zipIdx.map λp=>.tuple [.int (p.2:Int),Au p.1]:=by rw[rD,Fg]; rfl
  rw[ez]
  refine Rh (l:=D.zipIdx) (g:=λp=>.tuple [.int (p.2:Int),Au p.1]) rfl (λi δ=>(∃v3 v4 v5:DV,δ=⟨[.dat .sh (.list (D.map Au)),.dat .sh (Au p),.dat .ow (.dict (Xa (aS ((D.take i).map (Om p)) 0))),v3,v4,v5],0⟩/\NP v3/\NP v4/\NP v5)/\((D.take i).map (Om p)).Nodup) ?_ ?_ ?_
  ·exact ⟨⟨_,_,_,rfl,Ge,Ge,Ge⟩,Cv⟩
  ·(intro i q _ hq q_; obtain ⟨⟨v3,v4,v5,rfl,hv3,hv4,hv5⟩,nd⟩ := q_)
   obtain ⟨eq',hq1⟩:=eL hq
   array_get_dec
   refine ⟨q.1,p,rfl,lp,?_⟩
   array_get_dec
   have tg:=jI (Om p q.1) ((D.take i).map (Om p)) 0
   by_cases c:Om p q.1∈(D.take i).map (Om p)
   ·rw[if_pos c] at tg
    obtain ⟨i',x,lt,hx,ex,ei⟩:=N7 c
    rw[ei,Mk] at tg
    refine Pc (λ_=>?_) (λh=>absurd h (by rw[tg]; simp))
    array_get_dec
    refine ⟨_,tg,?_⟩
    array_get_dec
    rw[eq']
    exact hA i' i x q.1 lt hx hq1 ex
   ·rw[if_neg c] at tg
    refine Pc (λh=>absurd h (by rw[tg]; simp)) (λ_=>?_)
    have lt:=(Av.mp hq1).1
    have lz:((D.take i).map (Om p)).length=i:=by rw[Ad,Fl]; omega
    have pt:=xV c
    rw[lz,<- eG hq1] at pt
    array_get_dec
    refine ⟨by rw[xR,lz]; omega,?_⟩
    rw[eq',pt]
    refine ⟨⟨_,_,_,rfl,Ey,Ey,Ey⟩,?_⟩
    rw[eG hq1]
    exact aA nd c
  ·(intro _ q_; obtain ⟨⟨v3,v4,v5,rfl,hv3,hv4,hv5⟩,nd⟩ := q_)
   array_get_dec
   rw[Je,Gb] at nd
   exact hN nd
end
theorem Rk:∀{b a:List Int},a.Pairwise (· < ·)->b.Pairwise (· < ·)->(∀x∈a,x∈b)->a.Sublist b
 | b,[],_,_,_=>List.nil_sublist _
 | [],x::a,_,_,h=>nomatch h x Ab
 | y::b,x::a,ha,hb,h=>by
  obtain ⟨a1,a2⟩:=Ba.mp ha
  obtain ⟨b1,b2⟩:=Ba.mp hb
  by_cases e:x=y
  ·subst e
   refine (Rk a2 b2 λz hz=>?_).cons₂ x
   rcases Ai.mp (h z (Ah _ hz)) with q | q
   ·have:=a1 z hz; omega
   ·exact q
  ·have hx:x∈b:=(Ai.mp (h x Ab)).resolve_left e
   refine (Rk ha b2 λz hz=>?_).cons y
   rcases Ai.mp (h z hz) with q | q
   ·have yx:=b1 x hx
    rcases Ai.mp hz with w | w
    ·omega
    ·have:=a1 z w; omega
   ·exact q
theorem cw_rise {m k:Nat} {w:List Int} (h:w∈cw m 0 k):Fd m w:=by
 obtain ⟨_,h1,h2⟩:=cw_mem.mp h
 exact ⟨h1,λx hx=>by have:=h2 x hx; omega⟩
theorem Zh{a b:List Int}(ha:a.Pairwise (· < ·))(hb:b.Pairwise (· < ·))(h:∀x,x∈a↔x∈b):a=b :=
 (Rk ha hb λx hx=>(h x).mp hx).eq_of_length_le (Rk hb ha λx hx=>(h x).mpr hx).length_le
theorem Sn(h:Nat):(Ub h).Pairwise (· < ·):=List.pairwise_map.mpr (List.pairwise_lt_range.imp λz=>by omega)
theorem gJ{p c:List Int}{x:Int}:x∈Om p c↔x∈p/\x∈c:=by
 unfold Om
 rw[List.mem_filter,decide_eq_true_eq]
theorem bN{p c:List Int}(h:p.Pairwise (· < ·)):(Om p c).Pairwise (· < ·):=h.filter _
theorem sI{h:Nat}{x:List Int}(hx:Fd h x):Om (Ub h) x=x:=by
 refine Zh (bN (Sn h)) hx.1 λz=>?_
 rw[gJ]
 exact ⟨λq=>q.2,λq=>⟨Bq.mpr ⟨z.toNat,Cu.mpr (by have:=hx.2 z q; omega),by have:=hx.2 z q; omega⟩,q⟩⟩
def iL(D:List (List Int))(p q:List Int):Prop:=∃(a b:Nat) (x y:List Int),q=[(a:Int),(b:Int)]/\a<b/\D[a]? = some x/\D[b]? = some y/\Om p x=Om p y
def He(D:List (List Int))(q:List Int):Prop:=∃a b:Nat,q=[(a:Int),(b:Int)]/\a<b/\b<D.length
theorem Wq{h:Nat}(p:Nat->Bool):Fd h (((Bh h).filter p).map λk:Nat=>(k:Int)) :=
 ⟨List.pairwise_map.mpr ((List.pairwise_lt_range.filter _).imp λz=>by omega),λx hx=>by
  obtain ⟨k,hk,rfl⟩:=Bq.mp hx
  have:=Cu.mp (Er.mp hk).1
  omega⟩
theorem qC{a b:List Int}(h:a.map Ax=b.map Ax):a=b:=(List.map_inj_right (λx y e=>by injection e)).mp h
def eT:Ac->Bool
 | .int _=>true
 | _=>false
theorem BA(d:Ac):eT d=(Mo d "int" && !Mo d "bool"):=by cases d <;> simp [eT,Mo,pA]
theorem rA{d:Ac}(h:eT d=true):∃i,d=.int i:=by
 cases d <;> simp [eT] at h
 exact ⟨_,rfl⟩
theorem Wh{d:Ac}:(∃ds,d=.tuple ds)\/(Mo d "tuple" = false/\∀ds,d≠.tuple ds):=by
 cases d with
 | tuple ds=>exact .inl ⟨ds,rfl⟩
 | _=>exact .inr ⟨by simp [Mo,pA],by simp⟩
theorem vT{d:Ac}:(∃ds,d=.list ds)\/(Mo d "list" = false/\∀ds,d≠.list ds):=by
 cases d with
 | list ds=>exact .inl ⟨ds,rfl⟩
 | _=>exact .inr ⟨by simp [Mo,pA],by simp⟩
theorem V5{d:Ac}:(∃s,d=.str s)\/(Mo d "str" = false/\∀s,d≠.str s):=by
 cases d with
 | str ds=>exact .inl ⟨ds,rfl⟩
 | _=>exact .inr ⟨by simp [Mo,pA],by simp⟩
def DN(N:Nat)(q:List Int):Prop:=∃a b:Nat,q=[(a:Int),(b:Int)]/\a<b/\b<N
def u0(N:Nat)(x y:Ac):Prop:=∃a b:Nat,x=.int a/\y=.int b/\a<b/\b<N
def BX(N:Nat)(d:Ac):Prop:=∃P:List (List Int),d=.list (P.map Au)/\∀q∈P,DN N q
theorem CQ{N:Nat}{x y:Ac}:u0 N x y↔∃q,.tuple [x,y]=Au q/\DN N q:=by
 constructor
 ·(intro q_; obtain ⟨a,b,rfl,rfl,h⟩ := q_)
  exact ⟨_,rfl,a,b,rfl,h⟩
 ·(intro q_; obtain ⟨_,e,a,b,rfl,h⟩ := q_)
  unfold Au at e
  injection e with e
  injection e with e1 e2
  injection e2 with e2 _
  exact ⟨a,b,e1,e2,h⟩
theorem J0{α:Type}{l:List α}(h:l.length=2):∃a b,l=[a,b]:=by
 match l,h with
 | [a,b],_=>exact ⟨a,b,rfl⟩
theorem J6{α:Type}{l:List α}(h:l.length=3):∃a b c,l=[a,b,c]:=by
 match l,h with
 | [a,b,c],_=>exact ⟨a,b,c,rfl⟩
def gH:PF:=λds R=>∃d,ds=[d]/\R (.bool (eT d))
def kD:PF:=λds R=>∃(h:Int) (d:Ac),ds=[.int h,d]/\(∀w,d=Au w->Fd h w->R (.bool true))/\((∀w,d=Au w->¬ Fd h w)->R (.bool false))
def Zj:PF:=λds R=>∃(D:List (List Int)) (x y:Ac),ds=[.list (D.map Au),x,y]/\(u0 D.length x y->R (.bool true))/\(¬ u0 D.length x y->R (.bool false))
def bK:PF:=λds R=>∃(D:List (List Int)) (d:Ac),ds=[.list (D.map Au),d]/\(BX D.length d->R (.bool true))/\(¬ BX D.length d->R (.bool false))
section
variable{P:Bs}{w:World}{K:PySem.W.Frag}{mg:Str->Option Value}{base:Heap}
theorem jK:FnScope ["thing"] ["thing"] (Bo Ud):=⟨rfl,rfl,rfl,by decide +kernel,rfl,by decide +kernel,by decide +kernel⟩
theorem lY{f   : Addr}{fd  : Cg}(F:Fun K "is_whole" "is_whole" Ud f fd)(mz_bool:mg "bool" = none)(mz_isinstance:mg "isinstance" = none)(mz_int:mg "int" = none):FnOk P w K mg base Fw 1 f fd ["thing"] (Ou K (gH)):=by
 refine' Hl (k:=0) F jK (λcdv A outer s H E hr=>?hb) ?h
 case hb =>
  have hu64:=hr.units
  exact Cf (Cz (Rr (Cj Ke Kh rfl mz_isinstance (by decide +kernel) (Aa (Af (pv 0)) (Aa (Mz (n := "int") rfl mz_int (by decide +kernel)) Aj))) (aV (R7 (Cj Ke Kh rfl mz_isinstance (by decide +kernel) (Aa (Af (pv 0)) (Aa (Mz (n := "bool") rfl mz_bool (by decide +kernel)) Aj)))))))
 case h =>
  (intro ds R q_; obtain ⟨d,rfl,hR⟩ := q_)
  refine ⟨rfl,?_⟩
  rw[BA] at hR
  array_get_dec
  refine Wb (λh1=>?_) (λh1=>?_)
  ·array_get_dec
   rw[h1] at hR
   exact hR
  ·rw[h1] at hR
   array_get_dec
   exact hR
theorem nU:FnScope ["holes", "thing", "least", "place"] ["holes", "thing"] (Bo Vw):=⟨rfl,rfl,rfl,by decide +kernel,rfl,by decide +kernel,by decide +kernel⟩
theorem nI{f f_is_whole  : Addr}{fd d_is_whole:Cg}(F:Fun K "is_word" "is_word" Vw f fd)(G_is_whole:FnOk P w K mg base Fw 1 f_is_whole d_is_whole ["thing"] (Ou K (gH)))(b_is_whole:Binds K d_is_whole ["thing"] [])(k_is_whole:PySem.W.keepIn K (.ref f_is_whole)=true)(m_is_whole:mg "is_whole" = some (.ref f_is_whole))(mz_tuple:mg "tuple" = none)(mz_isinstance:mg "isinstance" = none):FnOk P w K mg base Fw 2 f fd ["holes", "thing"] (Ou K (kD)):=by
 refine' Hl (k:=1) F nU (λcdv A outer s H E hr=>?hb) ?h
 case hb =>
  have hr1:Room 1 _:=hr.mono (by decide)
  have hu64:=hr.units
  exact Bn (Gh (Hy (Gs (Cj Ke Kh rfl mz_isinstance (by decide +kernel) (Aa (Af (pv 1)) (Aa (Mz (n := "tuple") rfl mz_tuple (by decide +kernel)) Aj)))))
   (Cf (Cz Hw)) Fc)
   (Bn (Ej (i:=2) nU.nd rfl (Ci rfl) Bm)
   (Bn (Jq Cw rfl (W5 (Af (pv 1))) (Ew (i:=3) nU.nd rfl (Ci rfl))
   (Bn (Gh (Rm (Kn (Hy (Gs (Eg G_is_whole hr1 rfl m_is_whole k_is_whole b_is_whole Ef (Aa (Af (pv 3)) Aj)))) (Kn (qG (Af (pv 3)) (Af (pv 2))) (Kg (K7 (Af (pv 3)) (Af (pv 0)))))))
    (Cf (Cz Hw)) Fc)
    (Cf (Ej (i:=2) nU.nd rfl (Ci rfl) (Ri (Af (pv 3)) Bm)))))
   (Cf (Cz Hw))))
 case h =>
  (intro ds R q_; obtain ⟨h,d,rfl,hT,hF⟩ := q_)
  refine ⟨rfl,?_⟩
  array_get_dec
  rcases Wh (d:=d) with ⟨xs,rfl⟩ | ⟨e,ne⟩
  rotate_left
  ·rw[e]
   array_get_dec
   exact hF λw z=>absurd z (ne _)
  array_get_dec
  refine Rh (l:=xs) (g:=λx=>x) (Gd _).symm (λi δ=>∃(w:List Int) (least:Int) (v3:DV),δ=⟨[.dat .sh (.int h),.dat .sh (.tuple xs),.dat .sh (.int least),v3],0⟩/\NP v3/\xs.take i=w.map Ax/\Fd h w/\(∀x∈w,x<least)/\0<=least/\(least=0\/least - 1∈w)) ?_ ?_ ?_
  ·exact ⟨[],_,_,rfl,Ge,rfl,Fd.nil _,(λx z=>nomatch z),Int.le_refl _,.inl rfl⟩
  ·(intro i x _ hx q_; obtain ⟨w,least,v3,rfl,hv3,et,r,lt,l0,lm⟩ := q_)
   obtain ⟨i1,i2⟩:=Av.mp hx
   have e1:xs.take (i+1)=w.map Ax++[x]:=by rw[Dy i1,et,i2]
   have eD:xs=w.map Ax++x::xs.drop (i+1):=by
    have:=(List.take_append_drop (i+1) xs).symm
    rw[e1,Dq] at this
    exact this
   have no:(∀p,x=.int p->¬ (least<=p/\p<h))->R (.bool false):=λk=>hF λu e ru=>by
    unfold Au at e
    injection e with e
    rw[eD] at e
    obtain ⟨u1,u2,rfl,ew,ex⟩:=List.map_eq_append_iff.mp e.symm
    obtain ⟨p,u3,rfl,ep,_⟩:=List.map_eq_cons_iff.mp ex
    have ew:u1=w:=qC ew
    subst ew
    obtain ⟨r1,r2,r3⟩:=Cn.mp ru.1
    have b:=ru.2 p (Ao _ Ab)
    refine k p ep.symm ⟨?_,b.2⟩
    rcases lm with z | z
    ·rw[z]; exact b.1
    ·have:=r3 _ z p Ab
     omega
   array_get_dec
   refine ⟨x,rfl,?_⟩
   array_get_dec
   cases hw:eT x with
   | false =>
    array_get_dec
    exact no λp z=>by rw[z] at hw; cases hw
   | true =>
   obtain ⟨p,rfl⟩:=rA hw
   array_get_dec
   refine dM (λq=>?_) (λq=>?_)
   ·have q:p<least:=of_decide_eq_true q
    array_get_dec
    exact no λp' z=>by cases z; omega
   have q:¬ p<least:=of_decide_eq_false q
   array_get_dec
   refine Pc (λq2=>?_) (λq2=>?_)
   ·have q2:=of_decide_eq_true q2
    array_get_dec
    exact no λp' z=>by cases z; omega
   have q2:=of_decide_eq_false q2
   array_get_dec
   refine ⟨w++[p],_,_,rfl,Ey,by rw[e1,Bp]; rfl,⟨Cn.mpr ⟨r.1,Gg _ _,λa ha b hb=>?_⟩,λy hy=>?_⟩,λy hy=>?_,by omega,.inr (by rw[Int.add_sub_cancel]; exact Ao _ Ab)⟩
   ·rw[Ag.mp hb]
    have:=lt a ha
    omega
   ·rcases Ay.mp hy with z | z
    ·exact r.2 y z
    ·rw[Ag.mp z]; omega
   ·rcases Ay.mp hy with z | z
    ·have:=lt y z; omega
    ·rw[Ag.mp z]; omega
  ·(intro _ q_; obtain ⟨w,least,v3,rfl,hv3,et,r,lt,l0,lm⟩ := q_)
   rw[Gb] at et
   array_get_dec
   exact hT w (by rw[et]; rfl) r
theorem mO:FnScope ["deck", "i", "j"] ["deck", "i", "j"] (Bo Wp):=⟨rfl,rfl,rfl,by decide +kernel,rfl,by decide +kernel,by decide +kernel⟩
theorem nK{f f_is_whole  : Addr}{fd d_is_whole:Cg}(F:Fun K "is_pair" "is_pair" Wp f fd)(G_is_whole:FnOk P w K mg base Fw 1 f_is_whole d_is_whole ["thing"] (Ou K (gH)))(b_is_whole:Binds K d_is_whole ["thing"] [])(k_is_whole:PySem.W.keepIn K (.ref f_is_whole)=true)(m_is_whole:mg "is_whole" = some (.ref f_is_whole))(mz_len:mg "len" = none):FnOk P w K mg base Fw 2 f fd ["deck", "i", "j"] (Ou K (Zj)):=by
 refine' Hl (k:=1) F mO (λcdv A outer s H E hr=>?hb) ?h
 case hb =>
  have hr1:Room 1 _:=hr.mono (by decide)
  have hu64:=hr.units
  exact Bn (Gh (Rm (Kn (Hy (Gs (Eg G_is_whole hr1 rfl m_is_whole k_is_whole b_is_whole Ef (Aa (Af (pv 1)) Aj)))) (Kg (Hy (Gs (Eg G_is_whole hr1 rfl m_is_whole k_is_whole b_is_whole Ef (Aa (Af (pv 2)) Aj)))))))
   (Cf (Cz Hw)) Fc)
   (Cf (Cz (Rr (BQ (Af (pv 1)) Bm) (Rr (kO (Af (pv 1)) (Af (pv 2))) (aV (kO (Af (pv 2)) (Cj Es Hf rfl mz_len (by decide +kernel) (Aa (Af (pv 0)) Aj))))))))
 case h =>
  (intro ds R q_; obtain ⟨D,x,y,rfl,hT,hF⟩ := q_)
  refine ⟨rfl,?_⟩
  array_get_dec
  refine ⟨x,rfl,?_⟩
  array_get_dec
  cases hx:eT x with
  | false =>
   array_get_dec
   exact hF λ⟨a,b,e,_⟩=>by rw[e] at hx; cases hx
  | true =>
  array_get_dec
  refine ⟨y,rfl,?_⟩
  array_get_dec
  cases hy:eT y with
  | false =>
   array_get_dec
   exact hF λ⟨a,b,_,e,_⟩=>by rw[e] at hy; cases hy
  | true =>
  obtain ⟨i,rfl⟩:=rA hx
  obtain ⟨j,rfl⟩:=rA hy
  array_get_dec
  have nn:u0 D.length (.int i) (.int j)->0<=i/\i<j/\j<D.length:=λ⟨a,b,e1,e2,lt,lb⟩=>by
   cases e1; cases e2; omega
  refine Wb (λh1=>?_) (λh1=>?_)
  rotate_left
  ·have h1:=of_decide_eq_false h1
   array_get_dec
   exact hF λz=>h1 (nn z).1
  have h1:=of_decide_eq_true h1
  array_get_dec
  refine Wb (λh2=>?_) (λh2=>?_)
  rotate_left
  ·have h2:=of_decide_eq_false h2
   array_get_dec
   exact hF λz=>h2 (nn z).2.1
  have h2:=of_decide_eq_true h2
  array_get_dec
  rw[Ad]
  by_cases h3:j<(D.length:Int)
  ·rw[decide_eq_true h3]
   exact hT ⟨i.toNat,j.toNat,by rw[Lc (by omega)],by rw[Lc (by omega)],by omega,by omega⟩
  ·rw[decide_eq_false h3]
   exact hF λz=>h3 (nn z).2.2
theorem iK:FnScope ["deck", "thing", "pair"] ["deck", "thing"] (Bo Rt):=⟨rfl,rfl,rfl,by decide +kernel,rfl,by decide +kernel,by decide +kernel⟩
theorem fR{f f_is_pair  : Addr}{fd d_is_pair:Cg}(F:Fun K "are_pairs" "are_pairs" Rt f fd)(G_is_pair:FnOk P w K mg base Fw 2 f_is_pair d_is_pair ["deck", "i", "j"] (Ou K (Zj)))(b_is_pair:Binds K d_is_pair ["deck", "i", "j"] [])(k_is_pair:PySem.W.keepIn K (.ref f_is_pair)=true)(m_is_pair:mg "is_pair" = some (.ref f_is_pair))(mz_list:mg "list" = none)(mz_isinstance:mg "isinstance" = none)(mz_len:mg "len" = none)(mz_tuple:mg "tuple" = none):FnOk P w K mg base Fw 3 f fd ["deck", "thing"] (Ou K (bK)):=by
 refine' Hl (k:=2) F iK (λcdv A outer s H E hr=>?hb) ?h
 case hb =>
  have hr1:Room 1 _:=hr.mono (by decide)
  have hr2:Room 2 _:=hr.mono (by decide)
  have hu64:=hr.units
  exact Bn (Gh (Hy (Gs (Cj Ke Kh rfl mz_isinstance (by decide +kernel) (Aa (Af (pv 1)) (Aa (Mz (n := "list") rfl mz_list (by decide +kernel)) Aj)))))
   (Cf (Cz Hw)) Fc)
   (Bn (Jq Cw rfl (tT (Af (pv 1))) (Ew (i:=2) iK.nd rfl (Ci rfl))
   (Cf (Gh (Rm (Kn (Hy (Gs (Cj Ke Kh rfl mz_isinstance (by decide +kernel) (Aa (Af (pv 2)) (Aa (Mz (n := "tuple") rfl mz_tuple (by decide +kernel)) Aj))))) (Kn (Pa hu64 (Cj Es Hf rfl mz_len (by decide +kernel) (Aa (Af (pv 2)) Aj)) Bm) (Kg (Hy (Gs (Eg G_is_pair hr2 rfl m_is_pair k_is_pair b_is_pair Ef (Aa (Af (pv 0)) (Aa (Ed (Af (pv 2)) Bm) (Aa (Ed (Af (pv 2)) Bm) Aj))))))))))
    (Cf (Cz Hw)) Fc)))
   (Cf (Cz Hw)))
 case h =>
  (intro ds R q_; obtain ⟨D,d,rfl,hT,hF⟩ := q_)
  refine ⟨rfl,?_⟩
  array_get_dec
  rcases vT (d:=d) with ⟨xs,rfl⟩ | ⟨e,ne⟩
  rotate_left
  ·rw[e]
   array_get_dec
   exact hF λ⟨P,z,_⟩=>absurd z (ne _)
  array_get_dec
  refine Rh (l:=xs) (g:=λx=>x) (Gd _).symm (λi δ=>∃(P:List (List Int)) (v2:DV),δ=⟨[.dat .sh (.list (D.map Au)),.dat .sh (.list xs),v2],0⟩/\NP v2/\xs.take i=P.map Au/\∀q∈P,DN D.length q) ?_ ?_ ?_
  ·exact ⟨[],_,rfl,Ge,rfl,λq z=>nomatch z⟩
  ·(intro i x _ hx q_; obtain ⟨P,v2,rfl,hv2,et,hP⟩ := q_)
   obtain ⟨i1,i2⟩:=Av.mp hx
   have no:(∀q,x=Au q->¬ DN D.length q)->R (.bool false):=λk=>hF λ⟨P',e,h'⟩=>by
    injection e with e
    have : x∈xs:=Bg hx
    rw[e] at this
    obtain ⟨q,hq,rfl⟩:=Bq.mp this
    exact k q rfl (h' q hq)
   array_get_dec
   rcases Wh (d:=x) with ⟨ys,rfl⟩ | ⟨e,ne⟩
   rotate_left
   ·rw[e]
    array_get_dec
    exact no λq z=>absurd z (ne _)
   array_get_dec
   by_cases l2:ys.length=2
   rotate_left
   ·rw[decide_eq_false (show ¬ (ys.length:Int)=2 by omega)]
    array_get_dec
    refine no λq z=>?_
    (intro q_; obtain ⟨a,b,rfl,_⟩ := q_)
    unfold Au at z
    injection z with z
    rw[z] at l2
    exact l2 rfl
   obtain ⟨y1,y2,rfl⟩:=J0 l2
   array_get_dec
   refine ⟨D,y1,y2,rfl,λok=>?_,λnok=>?_⟩
   rotate_left
   ·array_get_dec
    exact no λq z ok=>nok (CQ.mpr ⟨q,z,ok⟩)
   array_get_dec
   obtain ⟨q,eq',ok⟩:=CQ.mp ok
   refine ⟨P++[q],_,rfl,Ey,by rw[Dy i1,et,i2,eq',Bp]; rfl,λq' hq'=>?_⟩
   rcases Ay.mp hq' with z | z
   ·exact hP q' z
   ·rw[Ag.mp z]; exact ok
  ·(intro _ q_; obtain ⟨P,v2,rfl,hv2,et,hP⟩ := q_)
   rw[Gb] at et
   array_get_dec
   exact hT ⟨P,by rw[et],hP⟩
end
theorem Wj{h:Nat}{w:List Int}(r:Fd h w):w.length<=h:=by
 have:=(Rk r.1 (Sn h) λz hz=>Bq.mpr ⟨z.toNat,Cu.mpr (by have:=r.2 z hz; omega),by have:=r.2 z hz; omega⟩).length_le
 unfold Ub at this
 simpa using this
theorem CY{w:List Int}{h:Nat}:(w=((Bh h).filter λk:Nat=>decide ((k:Int)∈w)).map λk:Nat=>(k:Int))↔Fd h w:=by
 constructor
 ·intro e
  rw[e]
  exact Wq _
 ·intro r
  refine Zh r.1 (Wq (h:=h) _).1 λx=>?_
  constructor
  ·intro hx
   have b:=r.2 x hx
   exact Bq.mpr ⟨x.toNat,Er.mpr ⟨Cu.mpr (by omega),decide_eq_true (by rw[show ((x.toNat:Nat):Int)=x by omega]; exact hx)⟩,by omega⟩
  ·intro hx
   obtain ⟨k,hk,rfl⟩:=Bq.mp hx
   exact of_decide_eq_true (Er.mp hk).2
theorem Pu{p c:List Int}(hp:p.Pairwise (· < ·))(hc:c.Pairwise (· < ·)):Om c p=Om p c :=
 Zh (bN hc) (bN hp) λx=>by rw[gJ,gJ,And.comm]
theorem Ko{D:List (List Int)}{a:Nat}{x:List Int}(h:D[a]? = some x):Tj (D.map Au) (a:Int)=some (Au x):=by
 refine qP (j:=a) ?_
 rw[Cc,h]
 rfl
def eV(i j:Nat):Ac:=.tuple [.str "same",.int i,.int j]
def Zr(w:List Int)(P:List (List Int)):Ac:=.tuple [.str "places",Au w,.list (P.map Au)]
def Xh(h:Nat)(D:List (List Int))(w:List Int)(P:List (List Int)):Prop:=Fd h w/\(D.map (Om w)).Nodup/\(w=[]->P=[])/\(w≠[]->∀u∈cw h 0 (w.length - 1),∃q∈P,iL D u q)
def yP:PF:=λds R=>∃(D P:List (List Int)) (u:List Int),ds=[.list (D.map Au),.list (P.map Au),Au u]/\u.length<=60/\(∀q∈P,He D q)/\((∃q∈P,iL D u q)->R (.bool true))/\(¬ (∃q∈P,iL D u q)->R (.bool false))
def qF(h:Nat)(D:List (List Int))(T:Ac):Prop:=(∃(i j:Nat) (x:List Int),i<j/\D[i]? = some x/\D[j]? = some x/\T=eV i j)\/∃(w:List Int) (P:List (List Int)),T=Zr w P/\(∀q∈P,He D q)/\Xh h D w P
theorem Hz{a b:List Int}(h:Au a=Au b):a=b:=by
 unfold Au at h
 injection h with h
 exact qC h
theorem uN{a b:List (List Int)}(h:a.map Au=b.map Au):a=b:=(List.map_inj_right (λx y e=>Hz e)).mp h
def AQ(T:Ac):Prop:=∀a b l,T=.tuple [a,b,.list l]->l.length<=1100
theorem qF.tup{h:Nat}{D:List (List Int)}{T:Ac}(k:qF h D T):∃s b c,T=.tuple [.str s,b,c]/\(s = "same" \/ s = "places"):=by
 rcases k with ⟨i,j,x,_,_,_,rfl⟩ | ⟨w,P,rfl,_,_⟩
 ·exact ⟨_,_,_,rfl,.inl rfl⟩
 ·exact ⟨_,_,_,rfl,.inr rfl⟩
def dE:PF:=λds R=>∃(h:Nat) (D:List (List Int)) (x y:Ac),ds=[.int h,.list (D.map Au),x,y]/\1<=h/\h<=10/\D.length<=1000/\(∀c∈D,Fd h c)/\(∀l,y=.list l->l.length<=1100) /\
 (∀w P,x=Au w->y=.list (P.map Au)->(∀q∈P,He D q)->Xh h D w P->R (.bool true))/\((∀w P,x=Au w->y=.list (P.map Au)->(∀q∈P,He D q)->¬ Xh h D w P)->R (.bool false))
def Yr:PF:=λds R=>∃(h:Nat) (D:List (List Int)) (T:Ac),ds=[.int h,.list (D.map Au),T]/\1<=h/\h<=10/\D.length<=1000/\(∀c∈D,Fd h c)/\T.depth<=40/\AQ T/\(qF h D T->R (.bool true))/\(¬ qF h D T->R (.bool false))
section
variable{P:Bs}{w:World}{K:PySem.W.Frag}{mg:Str->Option Value}{base:Heap}
theorem cE:FnScope ["deck", "pairs", "places", "i", "j"] ["deck", "pairs", "places"] (Bo Qi):=⟨rfl,rfl,rfl,by decide +kernel,rfl,by decide +kernel,by decide +kernel⟩
theorem cS{f f_notches_at  : Addr}{fd d_notches_at:Cg}(F:Fun K "some_alike" "some_alike" Qi f fd)(G_notches_at:FnOk P w K mg base Fw 1 f_notches_at d_notches_at ["card", "places"] (Ou K (Wf)))(b_notches_at:Binds K d_notches_at ["card", "places"] [])(k_notches_at:PySem.W.keepIn K (.ref f_notches_at)=true)(m_notches_at:mg "notches_at" = some (.ref f_notches_at)):FnOk P w K mg base Fw 2 f fd ["deck", "pairs", "places"] (Ou K (yP)):=by
 refine' Hl (k:=1) F cE (λcdv A outer s H E hr=>?hb) ?h
 case hb =>
  have hr1:Room 1 _:=hr.mono (by decide)
  have hu64:=hr.units
  exact Bn (Jq Cw rfl (tT (Af (pv 1))) (Zx (n:=2) rfl (Ir (Ew (i:=3) cE.nd rfl (Ci rfl)) (Ir (Ew (i:=4) cE.nd rfl (Ci rfl)) Vg)))
   (Cf (Gh (Pp hu64 (Eg G_notches_at hr1 rfl m_notches_at k_notches_at b_notches_at Ef (Aa (Ed (Af (pv 0)) (Af (pv 3))) (Aa (Af (pv 2)) Aj))) (Eg G_notches_at hr1 rfl m_notches_at k_notches_at b_notches_at Ef (Aa (Ed (Af (pv 0)) (Af (pv 4))) (Aa (Af (pv 2)) Aj))))
    (Cf (Cz Hw)) Fc)))
   (Cf (Cz Hw))
 case h =>
  (intro ds R q_; obtain ⟨D,P,u,rfl,lu,hP,hT,hF⟩ := q_)
  refine ⟨rfl,?_⟩
  array_get_dec
  refine Rh (l:=P) (g:=Au) rfl (λi δ=>(∃(v3 v4:DV),δ=⟨[.dat .sh (.list (D.map Au)),.dat .sh (.list (P.map Au)),.dat .sh (Au u),v3,v4],0⟩/\NP v3/\NP v4)/\∀(a:Nat) (q:List Int),a<i->P[a]? = some q->¬ iL D u q) ?_ ?_ ?_
  ·exact ⟨⟨_,_,rfl,Ge,Ge⟩,λa q z=>absurd z (Dw _)⟩
  ·(intro i q _ hq q_; obtain ⟨⟨v3,v4,rfl,hv3,hv4⟩,hall⟩ := q_)
   have mq:=Bg hq
   obtain ⟨a,b,rfl,lt,lb⟩:=hP q mq
   have hx:D[a]? = some D[a]:=Bf (by omega)
   have hyy:D[b]? = some D[b]:=Bf lb
   array_get_dec
   refine ⟨_,Ko hx,D[a],u,rfl,lu,?_⟩
   array_get_dec
   refine ⟨_,Ko hyy,D[b],u,rfl,lu,?_⟩
   array_get_dec
   refine Pc (λz=>?_) (λz=>?_)
   ·array_get_dec
    exact hT ⟨_,mq,a,b,_,_,rfl,lt,hx,hyy,of_decide_eq_true z⟩
   ·array_get_dec
    refine ⟨⟨_,_,rfl,Ey,Ey⟩,λa' q' ha' hq'=>?_⟩
    by_cases e:a'=i
    ·subst e
     rw[hq] at hq'
     cases hq'
     (intro q_; obtain ⟨a',b',x',y',e,_,hx',hy',en⟩ := q_)
     injection e with e1 e2
     injection e2 with e2 _
     have e1:a=a':=by omega
     have e2:b=b':=by omega
     subst e1 e2
     rw[hx] at hx'
     rw[hyy] at hy'
     cases hx'
     cases hy'
     exact of_decide_eq_false z en
    ·exact hall a' q' (by omega) hq'
  ·(intro _ q_; obtain ⟨⟨v3,v4,rfl,hv3,hv4⟩,hall⟩ := q_)
   array_get_dec
   refine hF ?_
   (intro q_; obtain ⟨q,hq,al⟩ := q_)
   obtain ⟨a,ha⟩:=rG.mp hq
   exact hall a q (Av.mp ha).1 ha al
theorem Xw:FnScope ["holes", "deck", "places", "pairs"] ["holes", "deck", "places", "pairs"] (Bo Lj):=⟨rfl,rfl,rfl,by decide +kernel,rfl,by decide +kernel,by decide +kernel⟩
theorem Xz{f f_is_word f_words_of f_alike_at f_are_pairs f_some_alike  : Addr}{fd d_is_word d_words_of d_alike_at d_are_pairs d_some_alike:Cg}(F:Fun K "shows_places" "shows_places" Lj f fd)(G_is_word:FnOk P w K mg base Fw 2 f_is_word d_is_word ["holes", "thing"] (Ou K (kD)))(b_is_word:Binds K d_is_word ["holes", "thing"] [])(k_is_word:PySem.W.keepIn K (.ref f_is_word)=true)(m_is_word:mg "is_word" = some (.ref f_is_word))(G_words_of:FnOk P w K mg base Fw 3 f_words_of d_words_of ["holes", "many"] (Ou K (dU)))(b_words_of:Binds K d_words_of ["holes", "many"] [])(k_words_of:PySem.W.keepIn K (.ref f_words_of)=true)(m_words_of:mg "words_of" = some (.ref f_words_of))(G_alike_at:FnOk P w K mg base Fw 2 f_alike_at d_alike_at ["deck", "places"] (Ou K (qT)))(b_alike_at:Binds K d_alike_at ["deck", "places"] [])(k_alike_at:PySem.W.keepIn K (.ref f_alike_at)=true)(m_alike_at:mg "alike_at" = some (.ref f_alike_at))(G_are_pairs:FnOk P w K mg base Fw 3 f_are_pairs d_are_pairs ["deck", "thing"] (Ou K (bK)))(b_are_pairs:Binds K d_are_pairs ["deck", "thing"] [])(k_are_pairs:PySem.W.keepIn K (.ref f_are_pairs)=true)(m_are_pairs:mg "are_pairs" = some (.ref f_are_pairs))(G_some_alike:FnOk P w K mg base Fw 2 f_some_alike d_some_alike ["deck", "pairs", "places"] (Ou K (yP)))(b_some_alike:Binds K d_some_alike ["deck", "pairs", "places"] [])(k_some_alike:PySem.W.keepIn K (.ref f_some_alike)=true)(m_some_alike:mg "some_alike" = some (.ref f_some_alike))(mz_len:mg "len" = none)(mz_all:mg "all" = none):FnOk P w K mg base Fw 4 f fd ["holes", "deck", "places", "pairs"] (Ou K (dE)):=by
 refine' Hl (k:=3) F Xw (λcdv A outer s H E hr=>?hb) ?h
 case hb =>
  have hr1:Room 1 _:=hr.mono (by decide)
  have hr2:Room 2 _:=hr.mono (by decide)
  have hr3:Room 3 _:=hr.mono (by decide)
  have hu64:=hr.units
  have CS1:∀{scope:Scope} (h:scope={ kind:=.function,names:=[(".0",.local),("fewer",.local),("some_alike",.globalImplicit),("deck",.free),("pairs",.free)],isGenerator:=false,isCoroutine:=false }),
    CompScope (Lq Fw P w K mg base ["holes", "deck", "places", "pairs"] "shows_places" (Bo Lj) f cdv A outer s H E).nox scope [("pairs",s.heap.objs.size+2),("deck",s.heap.objs.size+1)] "fewer" ["deck", "pairs"] [1,3]:=by
   rintro scope rfl
   refine ⟨by rfl,.inl (by decide +kernel),by rfl,by decide +kernel,.inl rfl,λy c h=>?_,by rfl,by decide +kernel,rfl,λk y j e1 e2=>?_⟩
   ·have z:=Et h
    simp only[Ai,Bk,or_false,Fn] at z
    rcases z with ⟨rfl,rfl⟩ | ⟨rfl,rfl⟩ <;> rfl
   ·match k,e1,e2 with
    | 0,e1,e2=>cases e1; cases e2; exact ⟨rfl,rfl,by first | exact .inl rfl | exact .inr rfl⟩
    | 1,e1,e2=>cases e1; cases e2; exact ⟨rfl,rfl,by first | exact .inl rfl | exact .inr rfl⟩
    | k+2,e1,e2=>cases e1
  exact Bn (Gh (Rm (Kn (Hy (Gs (Eg G_is_word hr2 rfl m_is_word k_is_word b_is_word Ef (Aa (Af (pv 0)) (Aa (Af (pv 2)) Aj))))) (Kn (Hy (Gs (Eg G_are_pairs hr3 rfl m_are_pairs k_are_pairs b_are_pairs Ef (Aa (Af (pv 1)) (Aa (Af (pv 3)) Aj))))) (Kg (C7 (Eg G_alike_at hr2 rfl m_alike_at k_alike_at b_alike_at Ef (Aa (Af (pv 1)) (Aa (Af (pv 2)) Aj))) Rn)))))
   (Cf (Cz Hw)) Fc)
   (Bn (Gh (Pp hu64 (Cj Es Hf rfl mz_len (by decide +kernel) (Aa (Af (pv 2)) Aj)) Bm)
   (Cf (Cz (Tn hu64 (Cj Es Hf rfl mz_len (by decide +kernel) (Aa (Af (pv 3)) Aj)) Bm))) Fc)
   (Cf (Cz (Cj (wO rfl) R0 rfl mz_all (by decide +kernel) (Aa (Mf (CS1 rfl) rfl (tT (Eg G_words_of hr3 rfl m_words_of k_words_of b_words_of Ef (Aa (Af (pv 0)) (Aa (Lw (Cj Es Hf rfl mz_len (by decide +kernel) (Aa (Af (pv 2)) Aj)) Bm) Aj)))) (λ_ _ _=>Vn) (λ_ _ _=>Eg G_some_alike hr2 rfl m_some_alike k_some_alike b_some_alike Ef (Aa (Af (pv 1)) (Aa (Af (pv 2)) (Aa (Af (pv 0)) Aj))))) Aj)))))
 case h =>
  (intro ds R q_; obtain ⟨h,D,x,y,rfl,h0,h1,lD,hD,ly,hT,hF⟩ := q_)
  refine ⟨rfl,?_⟩
  array_get_dec
  refine ⟨h,x,rfl,λw e r=>?_,λnr=>?_⟩
  rotate_left
  ·array_get_dec
   exact hF λw P e _ _ z=>nr w e z.1
  subst e
  array_get_dec
  refine ⟨D,y,rfl,λok=>?_,λnok=>?_⟩
  rotate_left
  ·array_get_dec
   exact hF λw' P _ e k _=>nok ⟨P,e,k⟩
  obtain ⟨P,rfl,hP⟩:=ok
  have lP:=ly _ rfl
  rw[Ad] at lP
  have lw:=Kw (r.up (show (h:Int)<=60 by omega))
  have hT:Xh h D w P->R (.bool true):=hT w P rfl rfl hP
  have hF:¬ Xh h D w P->R (.bool false):=λz=>hF λw' P' e1 e2 _ k=>z (by
   rw[Hz e1,uN (PyData.list.inj e2)]
   exact k)
  array_get_dec
  refine ⟨D,w,rfl,lD,lw,λnd=>?_,λi j x y lt hx hy e=>?_⟩
  rotate_left
  ·array_get_dec
   rw[show isNone (Au [(i:Int),(j:Int)])=false from rfl]
   array_get_dec
   refine hF λz=>?_
   have gx:(D.map (Om w))[i]? = some (Om w x):=by rw[Cc,hx]; rfl
   have gy:(D.map (Om w))[j]? = some (Om w y):=by rw[Cc,hy]; rfl
   obtain ⟨i1,i2⟩:=Av.mp gx
   obtain ⟨j1,j2⟩:=Av.mp gy
   exact Ku.mp z.2.1 i j i1 j1 lt (i2.trans (e.trans j2.symm))
  array_get_dec
  rw[show isNone PyData.none=true from rfl]
  array_get_dec
  refine Pc (λz=>?_) (λz=>?_)
  ·have e:w=[]:=Eo.mp (by have:=of_decide_eq_true z; rw[Ad] at this; omega)
   array_get_dec
   by_cases c:P=[]
   ·rw[c]
    array_get_dec
    exact hT ⟨r,nd,λ_=>c,λz=>absurd e z⟩
   ·have lp:0<P.length:=Ky.mpr c
    rw[decide_eq_false (by rw[Ad]; omega)]
    exact hF λz=>c (z.2.2.1 e)
  ·have e:w≠[]:=λe=>by rw[e] at z; exact absurd z (by decide)
   have l0:0<w.length:=Ky.mpr e
   have rl:=Wj r
   array_get_dec
   rw[Ad,show ((w.length:Int) - 1)=((w.length - 1:Nat):Int) by omega]
   refine ⟨h,(w.length - 1:Nat),rfl,by omega,by omega,by omega,?_⟩
   rw[Df,Df]
   array_get_dec
   refine qE (l:=cw h 0 (w.length - 1)) (g:=Au) rfl (λu=>.bool (@decide (∃q∈P,iL D u q) (Aw _))) (λu hu yes no hy=>?_) ?_
   ·have lu:u.length≤60:=by rw [(cw_mem.mp hu).1]; omega
    array_get_dec
    refine ⟨D,P,u,rfl,lu,hP,λa=>?_,λa=>?_⟩
    ·rw[@decide_eq_true _ (Aw _) a] at hy
     array_get_dec
     exact hy
    ·rw[@decide_eq_false _ (Aw _) a] at hy
     array_get_dec
     exact hy
   array_get_dec
   refine ⟨(cw h 0 (w.length - 1)).map λu=>@decide (∃q∈P,iL D u q) (Aw _),by rw[Fg]; rfl,?_⟩
   by_cases A:∀u∈cw h 0 (w.length - 1),∃q∈P,iL D u q
   ·rw[show ((cw h 0 (w.length - 1)).map λu=>@decide (∃q∈P,iL D u q) (Aw _)).all id=true from List.all_eq_true.mpr λb hb=>by
     obtain ⟨u,hu,rfl⟩:=Bq.mp hb
     exact @decide_eq_true _ (Aw _) (A u hu)]
    exact hT ⟨r,nd,λz=>absurd z e,λ_=>A⟩
   ·rw[show ((cw h 0 (w.length - 1)).map λu=>@decide (∃q∈P,iL D u q) (Aw _)).all id=false from Yn.mpr λz=>A λu hu=>@of_decide_eq_true _ (Aw _) (bS.mp z _ (Bq.mpr ⟨u,hu,rfl⟩))]
    exact hF λz=>A (z.2.2.2 e)
theorem Yd:FnScope ["holes", "deck", "thing", "told", "first", "second"] ["holes", "deck", "thing"] (Bo Of):=⟨rfl,rfl,rfl,by decide +kernel,rfl,by decide +kernel,by decide +kernel⟩
theorem Xv{f f_is_pair f_shows_places  : Addr}{fd d_is_pair d_shows_places:Cg}(F:Fun K "shows_fewest" "shows_fewest" Of f fd)(G_is_pair:FnOk P w K mg base Fw 2 f_is_pair d_is_pair ["deck", "i", "j"] (Ou K (Zj)))(b_is_pair:Binds K d_is_pair ["deck", "i", "j"] [])(k_is_pair:PySem.W.keepIn K (.ref f_is_pair)=true)(m_is_pair:mg "is_pair" = some (.ref f_is_pair))(G_shows_places:FnOk P w K mg base Fw 4 f_shows_places d_shows_places ["holes", "deck", "places", "pairs"] (Ou K (dE)))(b_shows_places:Binds K d_shows_places ["holes", "deck", "places", "pairs"] [])(k_shows_places:PySem.W.keepIn K (.ref f_shows_places)=true)(m_shows_places:mg "shows_places" = some (.ref f_shows_places))(mz_str:mg "str" = none)(mz_isinstance:mg "isinstance" = none)(mz_len:mg "len" = none)(mz_tuple:mg "tuple" = none):FnOk P w K mg base Fw 5 f fd ["holes", "deck", "thing"] (Ou K (Yr)):=by
 refine' Hl (k:=4) F Yd (λcdv A outer s H E hr=>?hb) ?h
 case hb =>
  have hr1:Room 1 _:=hr.mono (by decide)
  have hr2:Room 2 _:=hr.mono (by decide)
  have hr3:Room 3 _:=hr.mono (by decide)
  have hr4:Room 4 _:=hr.mono (by decide)
  have hu64:=hr.units
  exact Bn (Gh (Rm (Kn (Hy (Gs (Cj Ke Kh rfl mz_isinstance (by decide +kernel) (Aa (Af (pv 2)) (Aa (Mz (n := "tuple") rfl mz_tuple (by decide +kernel)) Aj))))) (Kn (Pa hu64 (Cj Es Hf rfl mz_len (by decide +kernel) (Aa (Af (pv 2)) Aj)) Bm) (Kg (Hy (Gs (Cj Ke Kh rfl mz_isinstance (by decide +kernel) (Aa (Ed (Af (pv 2)) Bm) (Aa (Mz (n := "str") rfl mz_str (by decide +kernel)) Aj)))))))))
   (Cf (Cz Hw)) Fc)
   (Bn (zB (Af (pv 2)) (Zx (n:=3) rfl (Ir (Ew (i:=3) Yd.nd rfl (Ci rfl)) (Ir (Ew (i:=4) Yd.nd rfl (Ci rfl)) (Ir (Ew (i:=5) Yd.nd rfl (Ci rfl)) Vg)))))
   (Bn (Gh (Pp hu64 (Af (pv 3)) Ja)
   (Cf (Cz (Eg G_shows_places hr4 rfl m_shows_places k_shows_places b_shows_places Ef (Aa (Af (pv 0)) (Aa (Af (pv 1)) (Aa (Af (pv 4)) (Aa (Af (pv 5)) Aj))))))) Fc)
   (Cf (Cz (Rr (Tn hu64 (Af (pv 3)) Ja) (Rr (Eg G_is_pair hr2 rfl m_is_pair k_is_pair b_is_pair Ef (Aa (Af (pv 1)) (Aa (Af (pv 4)) (Aa (Af (pv 5)) Aj)))) (aV (Tn hu64 (Ed (Af (pv 1)) (Af (pv 4))) (Ed (Af (pv 1)) (Af (pv 5)))))))))))
 case h =>
  (intro ds R q_; obtain ⟨h,D,T,rfl,h0,h1,lD,hD,dT,fT,hT,hF⟩ := q_)
  refine ⟨rfl,?_⟩
  array_get_dec
  rcases Wh (d:=T) with ⟨xs,rfl⟩ | ⟨e,ne⟩
  rotate_left
  ·rw[e]
   array_get_dec
   exact hF λz=>by
    obtain ⟨s,b,c,z,_⟩:=z.tup
    exact ne _ z
  array_get_dec
  by_cases l3:xs.length=3
  rotate_left
  ·rw[decide_eq_false (show ¬ (xs.length:Int)=3 by omega)]
   array_get_dec
   exact hF λz=>by
    obtain ⟨s,b,c,z,_⟩:=z.tup
    injection z with z
    rw[z] at l3
    exact l3 rfl
  obtain ⟨a,b,c,rfl⟩:=J6 l3
  array_get_dec
  rcases V5 (d:=a) with ⟨s,rfl⟩ | ⟨e,ne⟩
  rotate_left
  ·rw[e]
   array_get_dec
   exact hF λz=>by
    obtain ⟨s,b',c',z,_⟩:=z.tup
    injection z with z
    injection z with z _
    exact ne _ z
  array_get_dec
  have inj:∀{s':Str} {b' c':Ac},Fp [.str s,b,c]=.tuple [.str s',b',c']->s=s'/\b=b'/\c=c':=λz=>by
   injection z with z
   injection z with z1 z
   injection z with z2 z
   injection z with z3 z
   injection z1 with z1
   exact ⟨z1,z2,z3⟩
  refine Pc (λz=>?_) (λz=>?_)
  ·obtain rfl:s = "places" := Qo z
   array_get_dec
   refine ⟨h,D,b,c,rfl,h0,h1,lD,hD,λl e=>fT _ _ l (by rw[e]),λw P e1 e2 hP k=>?_,λnk=>?_⟩
   ·array_get_dec
    exact hT (.inr ⟨w,P,by rw[e1,e2]; rfl,hP,k⟩)
   ·array_get_dec
    refine hF λk=>?_
    rcases k with ⟨i,j,x,_,_,_,e⟩ | ⟨w,P,e,hP,k⟩
    ·exact absurd (inj e).1 (by decide +kernel)
    ·exact nk w P (inj e).2.1 (inj e).2.2 hP k
  ·have z:¬ s = "places" := λe=>by rw[e] at z; exact absurd z (by decide +kernel)
   array_get_dec
   refine Wb (λz2=>?_) (λz2=>?_)
   rotate_left
   ·array_get_dec
    refine hF λk=>?_
    obtain ⟨s',b',c',e,e2⟩:=k.tup
    obtain ⟨rfl,_⟩:=inj e
    rcases e2 with e2 | e2
    ·rw[e2] at z2; exact absurd z2 (by decide +kernel)
    ·exact z e2
   obtain rfl:s = "same" := Qo z2
   array_get_dec
   refine ⟨D,b,c,rfl,λok=>?_,λnok=>?_⟩
   rotate_left
   ·array_get_dec
    refine hF λk=>?_
    rcases k with ⟨i,j,x,lt,_,hj,e⟩ | ⟨w,P,e,hP,k⟩
    ·exact nok ⟨i,j,(inj e).2.1,(inj e).2.2,lt,(Av.mp hj).1⟩
    ·exact absurd (inj e).1 (by decide +kernel)
   obtain ⟨i,j,rfl,rfl,lt,lj⟩:=ok
   have hi:D[i]? = some D[i]:=Bf (by omega)
   have hj:D[j]? = some D[j]:=Bf lj
   array_get_dec
   refine ⟨_,Ko hi,_,Ko hj,?_⟩
   array_get_dec
   by_cases cc:D[i]=D[j]
   ·rw[decide_eq_true cc]
    exact hT (.inl ⟨i,j,D[j],lt,by rw[hi,cc],hj,rfl⟩)
   ·rw[decide_eq_false cc]
    refine hF λk=>?_
    rcases k with ⟨i',j',x,lt,hi',hj',e⟩ | ⟨w,P,e,hP,k⟩
    ·have e1:=(inj e).2.1
     have e2:=(inj e).2.2
     injection e1 with e1
     injection e2 with e2
     have e1:i'=i:=by omega
     have e2:j'=j:=by omega
     subst e1 e2
     rw[hi] at hi'
     rw[hj] at hj'
     exact cc (by rw[Ce hi',Ce hj'])
    ·exact absurd (inj e).1 (by decide +kernel)
end
def qM:DF:=λds n R=>∃h:Int,ds=[.int h]/\0<h/\h<=60/\n<=90000/\∀ns,Fd h ns->R (Au ns) (n+1)
def I0:DF:=λds n R=>ds=[]/\n<=90000/\∀h:Int,0<h->h<=10->R (.int h) (n+1)
def j6:PF:=λds R=>∃c p:List Int,ds=[Au c,Au p]/\c.length<=60/\R (Au (Om c p))
def vF:DF:=λds n R=>∃h:Nat,ds=[.int h]/\1<=h/\h<=10/\n<=50000/\∀(D:List (List Int)) n',n<=n'->n'<=n+30->D.length<=12->(∀c∈D,Fd h c)->R (.list (D.map Au)) n'
section
variable{P:Bs}{w:World}{K:PySem.W.Frag}{mg:Str->Option Value}{base:Heap}
theorem cH:FnScope ["_law_draws_here", "_law_holes", "_law_pick", "_law_told", "_law_place"] ["_law_draws_here", "_law_holes"] (Bo Qj):=⟨rfl,rfl,rfl,by decide +kernel,rfl,by decide +kernel,by decide +kernel⟩
theorem cV{f f_L_next  : Addr}{fd d_L_next:Cg}(F:Fun K "_law_small" "_law_small" Qj f fd)(G_L_next:FnOk P w K mg base Fw 1 f_L_next d_L_next ["_law_draws_here"] (bU K Rp))(b_L_next:Binds K d_L_next ["_law_draws_here"] [])(k_L_next:PySem.W.keepIn K (.ref f_L_next)=true)(m_L_next:mg "_law_next" = some (.ref f_L_next))(mz_range:mg "range" = none)(mz_tuple:mg "tuple" = none):FnOk P w K mg base Fw 2 f fd ["_law_draws_here", "_law_holes"] (bU K (qM)):=by
 refine' Vm (k:=1) F cH (λcdv A outer s H E hr=>?hb) ?h
 case hb =>
  have hr1:Room 1 _:=hr.mono (by decide)
  have hu64:=hr.units
  exact Bn (Ej (i:=2) cH.nd rfl (Ci rfl) (Gp G_L_next hr1 rfl m_L_next k_L_next b_L_next Ef (pv 0) Aj))
   (Bn (Kr (i:=3) cH.nd rfl (Ci rfl) (Ep Aj))
   (Bn (Jq Cw rfl (Hx rfl mz_range (Aa (Af (pv 1)) Aj)) (Ew (i:=4) cH.nd rfl (Ci rfl))
   (Bn (Gh (Pp hu64 (Ll (Af (pv 2)) Bm) Bm)
    (Cf (dF (pv 3) (Af (pv 4)))) Fc)
    (Cf (Ej (i:=2) cH.nd rfl (Ci rfl) (Wr (Af (pv 2)) Bm)))))
   (Cf (Cz (Fo Og (Oi (i:=true)) rfl mz_tuple (by decide +kernel) (Aa (Af (pv 3)) Aj))))))
 case h =>
  (intro ds n R q_; obtain ⟨h,rfl,h0,h1,hn,hR⟩ := q_)
  refine ⟨rfl,?_⟩
  array_get_dec
  refine ⟨rfl,by omega,λr1=>?_⟩
  array_get_dec
  refine ⟨by omega,by omega,?_⟩
  refine Rh (l:=Bh h.toNat) (g:=λi:Nat=>.int i) rfl (λi δ=>∃(p:Int) (ns:List Int) (v:DV),δ=⟨[.drw,.dat .sh (.int h),.dat .sh (.int p),.dat .ow (.list (ns.map Ax)),v],n+1⟩/\Fd i ns/\NP v) ?_ ?_ ?_
  ·exact ⟨_,[],_,rfl,Fd.nil _,Ge⟩
  ·(intro i a _ ha q_; obtain ⟨p,ns,v,rfl,hr,hv⟩ := q_)
   obtain ⟨rfl,hi⟩:=Ru ha
   have l60:=rH (R8 hr) (λx hx=>by have:=hr.2 x hx; omega)
   array_get_dec
   refine Pc (λhb=>?_) (λhb=>?_)
   ·array_get_dec
    refine ⟨by rw[Ad]; omega,?_⟩
    refine ⟨_,ns++[(a:Int)],_,kS (by rw[Bp]; rfl) rfl,hr.more (by omega),Ey⟩
   ·array_get_dec
    exact ⟨_,ns,_,rfl,hr.up (by omega),Ey⟩
  ·(intro _ q_; obtain ⟨p,ns,v,rfl,hr,hv⟩ := q_)
   rw[Cy] at hr
   array_get_dec
   exact ⟨by omega,hR ns (by rwa [show ((h.toNat:Nat):Int)=h by omega] at hr)⟩
theorem nM:FnScope ["_law_card", "_law_places"] ["_law_card", "_law_places"] (Bo Sw):=⟨rfl,rfl,rfl,by decide +kernel,rfl,by decide +kernel,by decide +kernel⟩
theorem nR{f   : Addr}{fd  : Cg}(F:Fun K "_law_at" "_law_at" Sw f fd)(mz_tuple:mg "tuple" = none):FnOk P w K mg base Fw 1 f fd ["_law_card", "_law_places"] (Ou K (j6)):=by
 refine' Hl (k:=0) F nM (λcdv A outer s H E hr=>?hb) ?h
 case hb =>
  have hu64:=hr.units
  have CS1:∀{scope:Scope} (h:scope={ kind:=.function,names:=[(".0",.local),("_law_place",.local),("_law_places",.free)],isGenerator:=false,isCoroutine:=false }),
    CompScope (Lq Fw P w K mg base ["_law_card", "_law_places"] "_law_at" (Bo Sw) f cdv A outer s H E).nox scope [("_law_places",s.heap.objs.size+1)] "_law_place" ["_law_places"] [1]:=by
   rintro scope rfl
   refine ⟨by rfl,.inl (by decide +kernel),by rfl,by decide +kernel,.inl rfl,λy c h=>?_,by rfl,by decide +kernel,rfl,λk y j e1 e2=>?_⟩
   ·have z:=Et h
    simp only[Ai,Bk,or_false,Fn] at z
    obtain ⟨rfl,rfl⟩:=z; rfl
   ·match k,e1,e2 with
    | 0,e1,e2=>cases e1; cases e2; exact ⟨rfl,rfl,by first | exact .inl rfl | exact .inr rfl⟩
    | k+1,e1,e2=>cases e1
  exact Cf (Cz (Fo Og (Oi (i:=true)) rfl mz_tuple (by decide +kernel) (Aa (Mf (CS1 rfl) rfl (W5 (Af (pv 0))) (λ_ _ _=>Lk (qN hu64 (Af (pv 0)) (Af (pv 1)))) (λ_ _ _=>Af (pv 0))) Aj)))
 case h =>
  (intro ds R q_; obtain ⟨c,p,rfl,lp,hR⟩ := q_)
  refine ⟨rfl,?_⟩
  array_get_dec
  refine Uo (l:=c) (g:=Ax) rfl (λi=>decide (i∈p)) Ax (λi _ yes no hy hn=>?_) ?_
  ·array_get_dec
   refine Qm (λh=>?_) (λh=>?_)
   ·array_get_dec
    exact hy h
   ·exact hn h
  array_get_dec
  exact hR
theorem gQ:FnScope ["_law_draws_here", "_law_holes", "_law_deck_here", "_law_k", "_law_card", "_law_pick", "_law_place"] ["_law_draws_here", "_law_holes"] (Bo Oz):=⟨rfl,rfl,rfl,by decide +kernel,rfl,by decide +kernel,by decide +kernel⟩
theorem gY{f f_L_next f_L_small  : Addr}{fd d_L_next d_L_small:Cg}(F:Fun K "_law_deck" "_law_deck" Oz f fd)(G_L_next:FnOk P w K mg base Fw 1 f_L_next d_L_next ["_law_draws_here"] (bU K Rp))(b_L_next:Binds K d_L_next ["_law_draws_here"] [])(k_L_next:PySem.W.keepIn K (.ref f_L_next)=true)(m_L_next:mg "_law_next" = some (.ref f_L_next))(G_L_small:FnOk P w K mg base Fw 2 f_L_small d_L_small ["_law_draws_here", "_law_holes"] (bU K (qM)))(b_L_small:Binds K d_L_small ["_law_draws_here", "_law_holes"] [])(k_L_small:PySem.W.keepIn K (.ref f_L_small)=true)(m_L_small:mg "_law_small" = some (.ref f_L_small))(mz_range:mg "range" = none)(mz_len:mg "len" = none)(mz_tuple:mg "tuple" = none):FnOk P w K mg base Fw 3 f fd ["_law_draws_here", "_law_holes"] (bU K (vF)):=by
 refine' Vm (k:=2) F gQ (λcdv A outer s H E hr=>?hb) ?h
 case hb =>
  have hr1:Room 1 _:=hr.mono (by decide)
  have hr2:Room 2 _:=hr.mono (by decide)
  have hu64:=hr.units
  have CS1:∀{scope:Scope} (h:scope={ kind:=.function,names:=[(".0",.local),("_law_k",.local),("_law_card",.free),("_law_place",.free)],isGenerator:=false,isCoroutine:=false }),
    CompScope (Lq Fw P w K mg base ["_law_draws_here", "_law_holes", "_law_deck_here", "_law_k", "_law_card", "_law_pick", "_law_place"] "_law_deck" (Bo Oz) f cdv A outer s H E).nox scope [("_law_place",s.heap.objs.size+2),("_law_card",s.heap.objs.size+1)] "_law_k" ["_law_card", "_law_place"] [4,6]:=by
   rintro scope rfl
   refine ⟨by rfl,.inl (by decide +kernel),by rfl,by decide +kernel,.inl rfl,λy c h=>?_,by rfl,by decide +kernel,rfl,λk y j e1 e2=>?_⟩
   ·have z:=Et h
    simp only[Ai,Bk,or_false,Fn] at z
    rcases z with ⟨rfl,rfl⟩ | ⟨rfl,rfl⟩ <;> rfl
   ·match k,e1,e2 with
    | 0,e1,e2=>cases e1; cases e2; exact ⟨rfl,rfl,by first | exact .inl rfl | exact .inr rfl⟩
    | 1,e1,e2=>cases e1; cases e2; exact ⟨rfl,rfl,by first | exact .inl rfl | exact .inr rfl⟩
    | k+2,e1,e2=>cases e1
  exact Bn (Kr (i:=2) gQ.nd rfl (Ci rfl) (Ep Aj))
   (Bn (Jq Cw rfl (Hx rfl mz_range (Aa (Ll (Gp G_L_next hr1 rfl m_L_next k_L_next b_L_next Ef (pv 0) Aj) Bm) Aj)) (Ew (i:=3) gQ.nd rfl (Ci rfl))
   (Bn (Ej (i:=4) gQ.nd rfl (Vt rfl) (Gp G_L_small hr2 rfl m_L_small k_L_small b_L_small Ef (pv 0) (Aa (Af (pv 1)) Aj)))
    (Bn (Ej (i:=5) gQ.nd rfl (Ci rfl) (Gp G_L_next hr1 rfl m_L_next k_L_next b_L_next Ef (pv 0) Aj))
    (Bn (Gh (Rm (M0 (Pa hu64 (Af (pv 2)) (Ep Aj)) (C4 (Pp hu64 (Ll (Af (pv 5)) Bm) Bm))))
    (Bn (Ej (i:=4) gQ.nd rfl (Vt rfl) (Dm (Ed (Af (pv 2)) (Ll (Wr (Af (pv 5)) Bm) (Cj Es Hf rfl mz_len (by decide +kernel) (Aa (Af (pv 2)) Aj))))))
     (Bn (Ej (i:=6) gQ.nd rfl (Vt rfl) (Ll (Wr (Af (pv 5)) Bm) (Af (pv 1))))
     (Cf (Ej (i:=4) gQ.nd rfl (Vt rfl) (Fo Og (Oi (i:=true)) rfl mz_tuple (by decide +kernel) (Aa (Mf (CS1 rfl) rfl (Hx rfl mz_range (Aa (Af (pv 1)) Aj)) (λ_ _ _=>Lk (Pa hu64 (BZ hu64 (Af (pv 0)) (Af (pv 1))) (Tn hu64 (Af (pv 0)) (Af (pv 2))))) (λ_ _ _=>Af (pv 0))) Aj)))))) Fc)
    (Cf (Gh (Rm (Kn (kE hu64 (Af (pv 4)) (Af (pv 2))) (Kg (Pp hu64 (Ll (Af (pv 5)) Bm) Bm))))
    (Cf (dF (pv 2) (Af (pv 4)))) Fc))))))
   (Cf (Cz (Mg (pv 2)))))
 case h =>
  (intro ds n R q_; obtain ⟨h,rfl,h0,h1,hn,hR⟩ := q_)
  refine ⟨rfl,?_⟩
  array_get_dec
  refine ⟨rfl,by omega,λr1=>?_⟩
  array_get_dec
  have bm:=Qd r1 (b:=13) (by decide)
  refine ⟨by omega,by omega,?_⟩
  refine Rh (l:=Bh (r1 % 13).toNat) (g:=λi:Nat=>.int i) rfl (λi δ=>∃(D:List (List Int)) (v3 v4 v5 v6:DV) (n':Nat),δ=⟨[.drw,.dat .sh (.int h),.dat .ow (.list (D.map Au)),v3,v4,v5,v6],n'⟩/\n'=n+1+2 * i/\D.length<=i/\(∀c∈D,Fd h c)/\NP v3/\NP v4/\NP v5/\NP v6) ?_ ?_ ?_
  ·exact ⟨[],_,_,_,_,_,rfl,rfl,An _,(λ_ z=>nomatch z),Ge,Ge,Ge,Ge⟩
  ·(intro i a _ ha q_; obtain ⟨D,v3,v4,v5,v6,n1,rfl,k1,ld,hd,hv3,hv4,hv5,hv6⟩ := q_)
   obtain ⟨rfl,hi⟩:=Ru ha
   array_get_dec
   refine ⟨h,rfl,by omega,by omega,by omega,λw rw_=>?_⟩
   array_get_dec
   refine ⟨rfl,by omega,λr2=>?_⟩
   array_get_dec
   refine K2 (λP=>O9 _ _ _ P) (λδ=>∃(c:List Int) (v6:DV),δ=⟨[.drw,.dat .sh (.int h),.dat .ow (.list (D.map Au)),.dat .sh (.int a),.dat .sh (Au c),.dat .sh (.int r2),v6],n1+1+1⟩/\Fd h c/\NP v6) (λN hN=>?_) ?_
   ·refine V7 (λhb=>?_) (λhb=>?_)
    ·have hne:D≠[]:=λz=>by rw[z] at hb; cases hb
     array_get_dec
     refine Pc (λhb2=>?_) (λhb2=>?_)
     ·have hl:0<D.length:=Ky.mpr hne
      have bl:=Qd (r2 / 2) (b:=((D.map Au).length:Int)) (by rw[Ad]; omega)
      have bh:=Qd (r2 / 40) (b:=(h:Int)) (by omega)
      rw[Ad] at bl
      obtain ⟨c,hc,e⟩:=dP bl.1 bl.2
      array_get_dec
      rw[Ad,e]
      refine ⟨by omega,Au c,rfl,?_⟩
      array_get_dec
      refine ⟨by omega,by omega,by omega,?_⟩
      refine Uo (l:=Bh h) (g:=λi:Nat=>.int i) rfl (λk=>decide ((k:Int)∈c) != decide ((k:Int)=r2 / 40 % h)) (λk=>.int k) (λk hk yes no hy hn=>?_) ?_
      ·array_get_dec
       refine Qm (λz=>?_) (λz=>?_)
       ·array_get_dec
        exact hy z
       ·exact hn z
      array_get_dec
      refine hN _ ⟨_,.dat .sh (.int (r2 / 40 % h)),kS ?_ rfl,Wq (h:=h) (λk=>decide ((k:Int)∈c) != decide ((k:Int)=r2 / 40 % h)),Ey⟩
      unfold Au
      rw[Fg]
      rfl
     ·array_get_dec
      exact hN _ ⟨w,_,rfl,rw_,hv6⟩
    ·array_get_dec
     exact hN _ ⟨w,_,rfl,rw_,hv6⟩
   ·clear hv6
    (intro _ q_; obtain ⟨c,v6,rfl,rc,hv6⟩ := q_)
    array_get_dec
    refine K2 (λP=>X6 _ _ _ P) (λδ=>∃(D':List (List Int)),δ=⟨[.drw,.dat .sh (.int h),.dat .ow (.list (D'.map Au)),.dat .sh (.int a),.dat .sh (Au c),.dat .sh (.int r2),v6],n1+1+1⟩/\D'.length<=a+1/\∀c∈D',Fd h c) (λN hN=>?_) ?_
    ·have go:N ⟨[.drw,.dat .sh (.int h),.dat .ow (.list ((D++[c]).map Au)),.dat .sh (.int a),.dat .sh (Au c),.dat .sh (.int r2),v6],n1+1+1⟩:=hN _ ⟨D++[c],rfl,by rw[Az,Hj]; omega,λx hx=>by
      rcases Ay.mp hx with z | z
      ·exact hd x z
      ·rw[Ag.mp z]; exact rc⟩
     rw[Bp] at go
     refine dM (λhb=>?_) (λhb=>?_)
     ·array_get_dec
      refine ⟨by simp [npk,hv6 _],by rw[Ad]; omega,?_⟩
      exact go
     ·array_get_dec
      refine Pc (λhb2=>?_) (λhb2=>?_)
      ·array_get_dec
       refine ⟨by simp [npk,hv6 _],by rw[Ad]; omega,?_⟩
       exact go
      ·array_get_dec
       exact hN _ ⟨D,rfl,by omega,hd⟩
    ·(intro _ q_; obtain ⟨D',rfl,lD',hD'⟩ := q_)
     try array_get_dec
     exact ⟨D',_,_,_,_,_,rfl,by omega,lD',hD',Ey,Ey,Ey,hv6⟩
  ·(intro _ q_; obtain ⟨D,v3,v4,v5,v6,n1,rfl,k1,ld,hd,hv3,hv4,hv5,hv6⟩ := q_)
   rw[Cy] at k1 ld
   array_get_dec
   exact ⟨by omega,hR D _ (by omega) (by omega) (by omega) hd⟩
theorem lW:FnScope ["_law_draws_here", "_law_pick"] ["_law_draws_here"] (Bo Ug):=⟨rfl,rfl,rfl,by decide +kernel,rfl,by decide +kernel,by decide +kernel⟩
theorem lS{f f_L_next  : Addr}{fd d_L_next:Cg}(F:Fun K "_law_few" "_law_few" Ug f fd)(G_L_next:FnOk P w K mg base Fw 1 f_L_next d_L_next ["_law_draws_here"] (bU K Rp))(b_L_next:Binds K d_L_next ["_law_draws_here"] [])(k_L_next:PySem.W.keepIn K (.ref f_L_next)=true)(m_L_next:mg "_law_next" = some (.ref f_L_next))(mz_int:mg "int" = none):FnOk P w K mg base Fw 2 f fd ["_law_draws_here"] (bU K (I0)):=by
 refine' Vm (k:=1) F lW (λcdv A outer s H E hr=>?hb) ?h
 case hb =>
  have hr1:Room 1 _:=hr.mono (by decide)
  have hu64:=hr.units
  exact Bn (Ej (i:=1) lW.nd rfl (Ci rfl) (Gp G_L_next hr1 rfl m_L_next k_L_next b_L_next Ef (pv 0) Aj))
   (Cf (Cz (Ed (Ep (Aa (Ri Bm (Ll (Wr (Af (pv 1)) Bm) Bm)) (Aa Bm Aj))) (Fo Wd mK rfl mz_int (by decide +kernel) (Aa (Tn hu64 (Ll (Af (pv 1)) Bm) Bm) Aj)))))
 case h =>
  (intro ds n R q_; obtain ⟨rfl,hn,hR⟩ := q_)
  refine ⟨rfl,?_⟩
  array_get_dec
  refine ⟨rfl,by omega,λr1=>?_⟩
  array_get_dec
  have b7:=Qd (r1 / 8) (b:=7) (by decide)
  refine ⟨_,yE _ _ _,by omega,?_⟩
  cases decide (r1 % 8=1)
  ·exact hR _ (by omega) (by omega)
  ·exact hR _ (by omega) (by omega)
end
theorem cw_iff {h k:Nat} {w:List Int}:w∈cw h 0 k↔w.length=k∧Fd h w:=by
 constructor
 ·intro z
  exact ⟨(cw_mem.mp z).1,cw_rise z⟩
 ·rintro ⟨a,b⟩
  exact cw_mem.mpr ⟨a,b.1,fun x hx=>by have:=b.2 x hx; omega⟩
def X1(w:List Int)(k:Nat):Bool:=decide (∀x∈w,x<(k:Int))
def ext(h:Nat)(w:List Int):List (List Int):=((Bh h).filter (X1 w)).map λk:Nat=>w++[(k:Int)]
def Xd(h:Nat):Nat->List (List Int)
 | 0=>[[]]
 | t+1=>(Xd h t).flatMap (ext h)
theorem CW{h:Nat}{w v:List Int}:v∈ext h w↔∃k:Nat,k<h/\(∀x∈w,x<(k:Int))/\v=w++[(k:Int)]:=by
 unfold ext X1
 constructor
 ·intro z
  obtain ⟨k,hk,e⟩:=Bq.mp z
  obtain ⟨k1,k2⟩:=Er.mp hk
  exact ⟨k,Cu.mp k1,of_decide_eq_true k2,e.symm⟩
 ·(intro q_; obtain ⟨k,k1,k2,e⟩ := q_)
  exact Bq.mpr ⟨k,Er.mpr ⟨Cu.mpr k1,decide_eq_true k2⟩,e.symm⟩
theorem A0{h:Nat}:∀{t:Nat} {w:List Int},w∈Xd h t↔w∈cw h 0 t
 | 0,w=>by
  rw [cw_iff]
  show w∈[[]]↔_
  rw[Ag]
  exact ⟨λe=>by rw[e]; exact ⟨rfl,Fd.nil _⟩,λe=>Eo.mp e.1⟩
 | t+1,w=>by
  show w∈(Xd h t).flatMap (ext h)↔_
  rw [List.mem_flatMap,cw_iff]
  constructor
  ·(intro q_; obtain ⟨u,hu,hv⟩ := q_)
   obtain ⟨k,k1,k2,rfl⟩:=CW.mp hv
   obtain ⟨l,r⟩:=cw_iff.mp (A0.mp hu)
   refine ⟨by rw[Az,l]; rfl,Cn.mpr ⟨r.1,Gg _ _,λa ha b hb=>?_⟩,λx hx=>?_⟩
   ·rw[Ag.mp hb]; exact k2 a ha
   ·rcases Ay.mp hx with z | z
    ·exact r.2 x z
    ·rw[Ag.mp z]; omega
  ·rintro ⟨l,r⟩
   obtain ⟨u,z,rfl⟩ : ∃u z,w=u++[z]:=by
    rcases List.eq_nil_or_concat w with e | ⟨u,z,e⟩
    ·rw[e] at l; cases l
    ·exact ⟨u,z,by rw[e]; simp⟩
   rw[Az] at l
   obtain ⟨r1,r2,r3⟩:=Cn.mp r.1
   have bz:=r.2 z (Ao _ (Ag.mpr rfl))
   refine ⟨u,A0.mpr (cw_iff.mpr ⟨by simpa using l,r1,fun x hx=>r.2 x (Ap _ hx)⟩),CW.mpr ⟨z.toNat,by omega,fun x hx=>?_,?_⟩⟩
   ·have:=r3 x hx z (Ag.mpr rfl); omega
   ·rw[show ((z.toNat:Nat):Int)=z by omega]
theorem mN{h:Nat}:∀{L:List (List Int)},L.Nodup->(L.flatMap (ext h)).Nodup
 | [],_=>Cv
 | w::L,nd=>by
  obtain ⟨n1,n2⟩:=Bt.mp nd
  rw[Yk]
  refine Fq.mpr ⟨?_,mN n2,λa ha b hb e=>?_⟩
  ·refine List.Pairwise.map (R:=λx y:Nat=>x≠y) _ (λx y z e=>?_) (List.nodup_range.filter _)
   have:=(List.append_inj' e rfl).2
   injection this with this
   exact z (by omega)
  ·obtain ⟨k,_,_,rfl⟩:=CW.mp ha
   obtain ⟨u,hu,hv⟩:=El.mp hb
   obtain ⟨k',_,_,e2⟩:=CW.mp hv
   rw[e2] at e
   have:=(List.append_inj' e rfl).1
   exact n1 (by rw[this]; exact hu)
theorem oE{h:Nat}:∀t,(Xd h t).Nodup
 | 0=>Bt.mpr ⟨(λz=>nomatch z),Cv⟩
 | t+1=>mN (oE t)
theorem u6{h:Nat}(h1:h<=10)(t i:Nat):(((Xd h t).take i).flatMap (ext h)).length<=1024:=by
 have nd:(((Xd h t).take i).flatMap (ext h)).Nodup:=mN ((Hq _ _).nodup (oE t))
 have:=Sa (l2:=cw h 0 (t+1)) nd λv hv=>by
  rw[<- A0]
  obtain ⟨u,hu,hv⟩:=El.mp hv
  exact El.mpr ⟨u,Nt hu,hv⟩
 rw [cw_len] at this
 exact By this (By (kB h _) (Hv (n:=2) (by decide) h1))
theorem iT{h:Nat}(h1:h<=10)(t:Nat):(Xd h t).length<=1024:=by
 have:=Sa (l2:=cw h 0 t) (oE t) λv hv=>A0.mp hv
 rw [cw_len] at this
 exact By this (By (kB h _) (Hv (n:=2) (by decide) h1))
theorem E1{w:List Int}(r:w.Pairwise (· < ·)){z:Int}(h:w.getLast? = some z)(k:Nat):decide (z<(k:Int))=X1 w k:=by
 unfold X1
 obtain ⟨u,rfl⟩ : ∃u,w=u++[z]:=List.getLast?_eq_some_iff.mp h
 obtain ⟨r1,r2,r3⟩:=Cn.mp r
 refine decide_eq_decide.mpr ⟨λq x hx=>?_,λq=>q z (Ao _ (Ag.mpr rfl))⟩
 rcases Ay.mp hx with y | y
 ·have:=r3 x y z (Ag.mpr rfl); omega
 ·rw[Ag.mp y]; exact q
theorem pX(w:List Int)(k:Int):Au (w++[k])=.tuple (w.map Ax++[.int k]):=by unfold Au; rw[Bp]; rfl
def Um:PF:=λds R=>∃(h:Nat) (k:Int),ds=[.int h,.int k]/\h<=10 /\ -1<=k/\k<=60/\R (.list ((Xd h k.toNat).map Au))
def Wn:PF:=λds R=>∃(D:List (List Int)) (p:List Int),ds=[.list (D.map Au),Au p]/\D.length<=1000/\(∀c∈D,c.length<=60)/\((D.map λc=>Om c p).Nodup->R (.bool true))/\(¬ (D.map λc=>Om c p).Nodup->R (.bool false))
section
variable{P:Bs}{w:World}{K:PySem.W.Frag}{mg:Str->Option Value}{base:Heap}
theorem aG:FnScope ["_law_holes", "_law_many", "_law_told", "_law_turn", "_law_more", "_law_word"] ["_law_holes", "_law_many"] (Bo Mi):=⟨rfl,rfl,rfl,by decide +kernel,rfl,by decide +kernel,by decide +kernel⟩
theorem bI{f   : Addr}{fd  : Cg}(F:Fun K "_law_chosen" "_law_chosen" Mi f fd)(mz_range:mg "range" = none):FnOk P w K mg base Fw 1 f fd ["_law_holes", "_law_many"] (W2 K (Um)):=by
 refine' wY (k:=0) F aG (λcdv A outer s H E hr=>?hb) ?h
 case hb =>
  have hu64:=hr.units
  have CS1:∀{scope:Scope} (h:scope={ kind:=.function,names:=[(".0",.local),("_law_place",.local),("_law_word",.free)],isGenerator:=false,isCoroutine:=false }),
    CompScope (Lq Fw P w K mg base ["_law_holes", "_law_many", "_law_told", "_law_turn", "_law_more", "_law_word"] "_law_chosen" (Bo Mi) f cdv A outer s H E).nox scope [("_law_word",s.heap.objs.size+1)] "_law_place" ["_law_word"] [5]:=by
   rintro scope rfl
   refine ⟨by rfl,.inl (by decide +kernel),by rfl,by decide +kernel,.inl rfl,λy c h=>?_,by rfl,by decide +kernel,rfl,λk y j e1 e2=>?_⟩
   ·have z:=Et h
    simp only[Ai,Bk,or_false,Fn] at z
    obtain ⟨rfl,rfl⟩:=z; rfl
   ·match k,e1,e2 with
    | 0,e1,e2=>cases e1; cases e2; exact ⟨rfl,rfl,by first | exact .inl rfl | exact .inr rfl⟩
    | k+1,e1,e2=>cases e1
  exact Bn (Ej (i:=2) aG.nd rfl (Ci rfl) (Ep (Aa (Dd Aj) Aj)))
   (Bn (Jq Cw rfl (Hx rfl mz_range (Aa (Af (pv 1)) Aj)) (Ew (i:=3) aG.nd rfl (Ci rfl))
   (Bn (Ej (i:=4) aG.nd rfl (Ci rfl) (Ep Aj))
    (Bn (Jq Cw rfl (tT (Af (pv 2))) (Ew (i:=5) aG.nd rfl (Vt rfl))
    (Cf (Ej (i:=4) aG.nd rfl (Ci rfl) (fS (Af (pv 4)) (Mf (CS1 rfl) rfl (Hx rfl mz_range (Aa (Af (pv 0)) Aj)) (λ_ _ _=>Lk (Rm (Kn (Pp hu64 (Af (pv 1)) (Dd Aj)) (Kg (K8 (Af (pv 0)) (Ed (Af (pv 1)) (zP Bm))))))) (λ_ _ _=>Sr (Af (pv 1)) (Dd (Aa (Dm (Af (pv 0))) Aj))))))))
    (Cf (Ej (i:=2) aG.nd rfl (Ci rfl) (Af (pv 4)))))))
   (Cf (Cz (Af (pv 2)))))
 case h =>
  (intro ds R q_; obtain ⟨h,k,rfl,h1,k0,k1,hR⟩ := q_)
  refine ⟨rfl,?_⟩
  array_get_dec
  refine ⟨by omega,by omega,?_⟩
  refine Rh (l:=Bh k.toNat) (g:=λi:Nat=>.int i) rfl (λt δ=>∃(v3 v4 v5:DV),δ=⟨[.dat .sh (.int h),.dat .sh (.int k),.dat .sh (.list ((Xd h t).map Au)),v3,v4,v5],0⟩/\NP v3/\NP v4/\NP v5) ?_ ?_ ?_
  ·exact ⟨_,_,_,rfl,Ge,Ge,Ge⟩
  ·(intro t a _ ha q_; obtain ⟨v3,v4,v5,rfl,hv3,hv4,hv5⟩ := q_)
   array_get_dec
   refine Rh (l:=Xd h t) (g:=Au) rfl (λi δ=>∃(v5:DV),δ=⟨[.dat .sh (.int h),.dat .sh (.int k),.dat .sh (.list ((Xd h t).map Au)),.dat .sh (.int a),.dat .sh (.list ((((Xd h t).take i).flatMap (ext h)).map Au)),v5],0⟩/\NP v5) ?_ ?_ ?_
   ·exact ⟨_,rfl,hv5⟩
   ·(intro i w _ hw q_; obtain ⟨v5,rfl,hv5⟩ := q_)
    have rw_:=(cw_iff.mp (A0.mp (Bg hw))).2
    have l60:=Kw (rw_.up (show (h:Int)<=60 by omega))
    have e1:((Xd h t).take (i+1)).flatMap (ext h)=((Xd h t).take i).flatMap (ext h)++ext h w:=by
     obtain ⟨i1,i2⟩:=Av.mp hw
     rw[Dy i1,List.flatMap_append,i2]
     simp
    have le:=u6 h1 t (i+1)
    rw[e1,Az] at le
    array_get_dec
    refine ⟨by omega,by omega,?_⟩
    rw[Df]
    refine Uo (l:=Bh h) (g:=λk:Nat=>.int k) rfl (X1 w) (λk=>Au (w++[(k:Int)])) (λk hk yes no hy hn=>?_) ?_
    ·array_get_dec
     rw[show Fp []=Au [] from rfl,eqD_word]
     refine dM (λhb=>?_) (λhb=>?_)
     ·have e:w=[]:=of_decide_eq_true hb
      have hy:=hy (by rw[e]; rfl)
      array_get_dec
      exact ⟨by rw[Ad]; omega,by rw[pX] at hy; exact hy⟩
     ·have ne:w≠[]:=of_decide_eq_false hb
      obtain ⟨z,_,z1,z2⟩:=iW ne
      have e3:=qU Ax w (-1)
      rw[z1] at e3
      array_get_dec
      refine ⟨_,e3,?_⟩
      array_get_dec
      rw[E1 rw_.1 z2 k]
      refine Qm (λq=>?_) (λq=>?_)
      ·have hy:=hy q
       array_get_dec
       exact ⟨by rw[Ad]; omega,by rw[pX] at hy; exact hy⟩
      ·exact hn q
    array_get_dec
    have e2:(((Bh h).filter (X1 w)).map λk:Nat=>Au (w++[(k:Int)]))=(ext h w).map Au:=by unfold ext; rw[Fg]; rfl
    rw[e2]
    refine ⟨by rw[Ad,Ad]; omega,.dat .sh (Au w),kS ?_ rfl,Ey⟩
    rw[e1,Bp]
   ·(intro _ q_; obtain ⟨v5,rfl,hv5⟩ := q_)
    rw[Gb]
    array_get_dec
    exact ⟨_,_,_,rfl,Ey,Ey,hv5⟩
  ·(intro _ q_; obtain ⟨v3,v4,v5,rfl,hv3,hv4,hv5⟩ := q_)
   rw[Cy]
   array_get_dec
   exact hR
theorem Zg:FnScope ["_law_deck_here", "_law_places", "_law_met"] ["_law_deck_here", "_law_places"] (Bo Mh):=⟨rfl,rfl,rfl,by decide +kernel,rfl,by decide +kernel,by decide +kernel⟩
theorem bM{f f_L_at  : Addr}{fd d_L_at:Cg}(F:Fun K "_law_parted" "_law_parted" Mh f fd)(G_L_at:FnOk P w K mg base Fw 1 f_L_at d_L_at ["_law_card", "_law_places"] (Ou K (j6)))(b_L_at:Binds K d_L_at ["_law_card", "_law_places"] [])(k_L_at:PySem.W.keepIn K (.ref f_L_at)=true)(m_L_at:mg "_law_at" = some (.ref f_L_at))(mz_len:mg "len" = none)(mz_set:mg "set" = none):FnOk P w K mg base Fw 2 f fd ["_law_deck_here", "_law_places"] (Ou K (Wn)):=by
 refine' Hl (k:=1) F Zg (λcdv A outer s H E hr=>?hb) ?h
 case hb =>
  have hr1:Room 1 _:=hr.mono (by decide)
  have hu64:=hr.units
  have CS1:∀{scope:Scope} (h:scope={ kind:=.function,names:=[(".0",.local),("_law_card",.local),("_law_at",.globalImplicit),("_law_places",.free)],isGenerator:=false,isCoroutine:=false }),
    CompScope (Lq Fw P w K mg base ["_law_deck_here", "_law_places", "_law_met"] "_law_parted" (Bo Mh) f cdv A outer s H E).nox scope [("_law_places",s.heap.objs.size+1)] "_law_card" ["_law_places"] [1]:=by
   rintro scope rfl
   refine ⟨by rfl,.inl (by decide +kernel),by rfl,by decide +kernel,.inl rfl,λy c h=>?_,by rfl,by decide +kernel,rfl,λk y j e1 e2=>?_⟩
   ·have z:=Et h
    simp only[Ai,Bk,or_false,Fn] at z
    obtain ⟨rfl,rfl⟩:=z; rfl
   ·match k,e1,e2 with
    | 0,e1,e2=>cases e1; cases e2; exact ⟨rfl,rfl,by first | exact .inl rfl | exact .inr rfl⟩
    | k+1,e1,e2=>cases e1
  exact Bn (pF (o:=false) (i0:=2) Zg.nd rfl rfl (CS1 rfl) rfl (tT (Af (pv 0))) (λ_ _ _=>Vn) (λ_ _ _=>Eg G_L_at hr1 rfl m_L_at k_L_at b_L_at Ef (Aa (Af (pv 0)) (Aa (Af (pv 1)) Aj))))
   (Cf (Cz (Tn hu64 (uB hu64 rfl rfl mz_len rfl mz_set (Aa (Af (pv 2)) Aj)) (Cj Es Hf rfl mz_len (by decide +kernel) (Aa (Af (pv 2)) Aj)))))
 case h =>
  (intro ds R q_; obtain ⟨D,p,rfl,lD,lc,hT,hF⟩ := q_)
  refine ⟨rfl,?_⟩
  array_get_dec
  refine qE (l:=D) (g:=Au) rfl (λc=>Au (Om c p)) (λc hc yes no hy=>?_) ?_
  ·array_get_dec
   refine ⟨c,p,rfl,lc c hc,?_⟩
   array_get_dec
   exact hy
  array_get_dec
  refine ⟨D.map λc=>Om c p,by rw[Fg]; rfl,by rw[Ad]; omega,λn n1 n2 n3=>?_⟩
  rw[Ad] at n1 n2 n3 ⊢
  array_get_dec
  by_cases c:(D.map λc=>Om c p).Nodup
  ·rw[n2 c,decide_eq_true rfl]
   exact hT c
  ·rw[decide_eq_false λz=>c (n3 (by omega))]
   exact hF c
end
def xA:PF:=λds R=>∃(h k:Nat) (D P:List (List Int)),ds=[.int h,.list (D.map Au),.int k,.list (P.map Au)]/\h<=10/\k<=10/\(∀c∈D,Fd h c)/\P.length<=1100/\(∀q∈P,He D q)/\((∀u∈cw h 0 k,∃q∈P,iL D u q)->R (.bool true))/\(¬ (∀u∈cw h 0 k,∃q∈P,iL D u q)->R (.bool false))
def pL:PF:=λds R=>∃(D:List (List Int)) (d:Ac),ds=[.list (D.map Au),d]/\d.depth<=40/\((∃q,d=Au q/\He D q)->R (.bool true))/\((∀q,d=Au q->¬ He D q)->R (.bool false))
theorem Qb{k:Nat}:∀{xs:List Ac},(∀x∈xs,x.depth<=k)->Bc xs<=k
 | [],_=>by rw[Bc]; omega
 | x::xs,h=>by
  have a:=h x Ab
  have b:=Qb (xs:=xs) λy hy=>h y (Ah _ hy)
  rw[Bc]
  omega
theorem Zy:∀{xs:List Ac} {x:Ac},x∈xs->x.depth<=Bc xs
 | x::xs,y,h=>by
  rw[Bc]
  rcases Ai.mp h with rfl | h
  ·omega
  ·have:=Zy h
   omega
theorem Wc{xs:List Ac}{p:Ac->Bool}(h:(Fp xs).depth<=40):(PyData.list (xs.filter p)).depth<=60:=by
 simp only[Bx] at h ⊢
 have:=Qb (k:=Bc xs) (xs:=xs.filter p) λx hx=>Zy (Er.mp hx).1
 omega
theorem kY{xs:List Ac}(h:xs.filter (λd=>!eT d)=[]):∃w:List Int,xs=w.map Ax:=by
 induction xs with
 | nil=>exact ⟨[],rfl⟩
 | cons x xs ih =>
  rw[List.filter_cons] at h
  cases hx:eT x with
  | false=>rw[hx] at h; cases h
  | true =>
   rw[hx] at h
   obtain ⟨w,rfl⟩:=ih h
   obtain ⟨i,rfl⟩:=rA hx
   exact ⟨i::w,rfl⟩
theorem jE{w:List Int}:(w.map Ax).filter (λd=>!eT d)=[]:=Ma.mpr λd hd=>by
 obtain ⟨i,_,rfl⟩:=Bq.mp hd
 simp [eT]
theorem wB(d:Ac):(Mo d "bool" || !Mo d "int") = !eT d:=by cases d <;> simp [eT,Mo,pA]
section
variable{P:Bs}{w:World}{K:PySem.W.Frag}{mg:Str->Option Value}{base:Heap}
theorem Xu:FnScope ["_law_deck_here", "_law_pair"] ["_law_deck_here", "_law_pair"] (Bo Lh):=⟨rfl,rfl,rfl,by decide +kernel,rfl,by decide +kernel,by decide +kernel⟩
theorem Xx{f   : Addr}{fd  : Cg}(F:Fun K "_law_is_pair" "_law_is_pair" Lh f fd)(mz_len:mg "len" = none)(mz_tuple:mg "tuple" = none)(mz_isinstance:mg "isinstance" = none)(mz_int:mg "int" = none)(mz_bool:mg "bool" = none):FnOk P w K mg base Fw 1 f fd ["_law_deck_here", "_law_pair"] (Ou K (pL)):=by
 refine' Hl (k:=0) F Xu (λcdv A outer s H E hr=>?hb) ?h
 case hb =>
  have hu64:=hr.units
  have CS1:∀{scope:Scope} (h:scope={ kind:=.function,names:=[(".0",.local),("_law_one",.local),("isinstance",.globalImplicit),("bool",.globalImplicit),("int",.globalImplicit)],isGenerator:=false,isCoroutine:=false }),
    CompScope (Lq Fw P w K mg base ["_law_deck_here", "_law_pair"] "_law_is_pair" (Bo Lh) f cdv A outer s H E).nox scope [] "_law_one" [] []:=by
   rintro scope rfl
   exact Nd.compScope0 (by rfl) (by decide +kernel) (by rfl) (by decide +kernel) (by rfl) (by rfl)
  exact Bn (Gh (Rm (Kn (Hy (Gs (Cj Ke Kh rfl mz_isinstance (by decide +kernel) (Aa (Af (pv 1)) (Aa (Mz (n := "tuple") rfl mz_tuple (by decide +kernel)) Aj))))) (Kg (Pa hu64 (Cj Es Hf rfl mz_len (by decide +kernel) (Aa (Af (pv 1)) Aj)) Bm))))
   (Cf (Cz Hw)) Fc)
   (Bn (Gh (Pa hu64 (aU (CS1 rfl) rfl (W5 (Af (pv 1))) (λ_ _ _=>Lk (Rm (Kn (Gs (Cj Ke Kh rfl mz_isinstance (by decide +kernel) (Aa (Af (pv 0)) (Aa (Mz (n := "bool") rfl mz_bool (by decide +kernel)) Aj)))) (Kg (Hy (Gs (Cj Ke Kh rfl mz_isinstance (by decide +kernel) (Aa (Af (pv 0)) (Aa (Mz (n := "int") rfl mz_int (by decide +kernel)) Aj))))))))) (λ_ _ _=>Af (pv 0))) (Ep Aj))
   (Cf (Cz Hw)) Fc)
   (Cf (Cz (Rr (BS Bm (Ed (Af (pv 1)) Bm)) (Rr (kO (Ed (Af (pv 1)) Bm) (Ed (Af (pv 1)) Bm)) (aV (kO (Ed (Af (pv 1)) Bm) (Cj Es Hf rfl mz_len (by decide +kernel) (Aa (Af (pv 0)) Aj)))))))))
 case h =>
  (intro ds R q_; obtain ⟨D,d,rfl,dd,hT,hF⟩ := q_)
  refine ⟨rfl,?_⟩
  have no2:(∀ys,d=.tuple ys->ys.length≠2)->R (.bool false):=λk=>hF λq e ⟨a,b,e2,_⟩=>by
   rw[e,e2] at k
   exact k _ rfl rfl
  array_get_dec
  rcases Wh (d:=d) with ⟨xs,rfl⟩ | ⟨e,ne⟩
  rotate_left
  ·rw[e]
   array_get_dec
   exact no2 λys z=>absurd z (ne _)
  array_get_dec
  by_cases l2:xs.length=2
  rotate_left
  ·rw[decide_eq_false (show ¬ (xs.length:Int)=2 by omega)]
   array_get_dec
   exact no2 λys z=>by injection z with z; rw[<- z]; exact l2
  rw[decide_eq_true (show (xs.length:Int)=2 by omega)]
  array_get_dec
  refine nE (l:=xs) (g:=λx=>x) (Gd _).symm (λd=>!eT d) (λx=>x) (λd hd yes no hy hn=>?_) ?_
  ·have ed:=wB d
   array_get_dec
   refine dM (λq=>?_) (λq=>?_)
   ·rw[q] at ed
    array_get_dec
    exact hy (by rw[<- ed]; rfl)
   ·rw[q] at ed
    array_get_dec
    cases q2:Mo d "int" with
    | false =>
     rw[q2] at ed
     array_get_dec
     exact hy (by rw[<- ed]; rfl)
    | true =>
     rw[q2] at ed
     array_get_dec
     exact hn (by rw[<- ed]; rfl)
  array_get_dec
  cases hf:(xs.filter λd=>!eT d) with
  | cons y ys =>
   array_get_dec
   refine ⟨by have:=Wc (p:=λd=>!eT d) dd; rw[hf] at this; rw[Gd]; exact this,hF λq e _=>?_⟩
   ·unfold Au at e
    injection e with e
    rw[e,jE] at hf
    cases hf
  | nil =>
  obtain ⟨w,rfl⟩:=kY hf
  rw[Ad] at l2
  obtain ⟨i,j,rfl⟩:=J0 l2
  array_get_dec
  have nn:(∃q,Fp ([i,j].map Ax)=Au q/\He D q)->0<=i/\i<j/\j<D.length:=λ⟨q,e,a,b,e2,lt,lb⟩=>by
   have e3:[i,j]=q:=Hz e
   rw[e2] at e3
   injection e3 with e3 e4
   injection e4 with e4 _
   omega
  have no:¬ (0<=i/\i<j/\j<D.length)->R (.bool false):=λk=>hF λq e ok=>k (nn ⟨q,e,ok⟩)
  refine Wb (λh1=>?_) (λh1=>?_)
  rotate_left
  ·have h1:=of_decide_eq_false h1
   array_get_dec
   exact no λz=>h1 z.1
  have h1:=of_decide_eq_true h1
  array_get_dec
  refine Wb (λh2=>?_) (λh2=>?_)
  rotate_left
  ·have h2:=of_decide_eq_false h2
   array_get_dec
   exact no λz=>h2 z.2.1
  have h2:=of_decide_eq_true h2
  array_get_dec
  rw[Ad]
  by_cases h3:j<(D.length:Int)
  ·rw[decide_eq_true h3]
   exact hT ⟨[i,j],rfl,i.toNat,j.toNat,by rw[Lc (by omega),Lc (by omega)],by omega,by omega⟩
  ·rw[decide_eq_false h3]
   exact no λz=>h3 z.2.2
theorem gZ:FnScope ["_law_holes", "_law_deck_here", "_law_many", "_law_pairs_here", "_law_places"] ["_law_holes", "_law_deck_here", "_law_many", "_law_pairs_here"] (Bo Pb):=⟨rfl,rfl,rfl,by decide +kernel,rfl,by decide +kernel,by decide +kernel⟩
theorem iE{f f_L_at f_L_chosen  : Addr}{fd d_L_at d_L_chosen:Cg}(F:Fun K "_law_bars" "_law_bars" Pb f fd)(G_L_at:FnOk P w K mg base Fw 1 f_L_at d_L_at ["_law_card", "_law_places"] (Ou K (j6)))(b_L_at:Binds K d_L_at ["_law_card", "_law_places"] [])(k_L_at:PySem.W.keepIn K (.ref f_L_at)=true)(m_L_at:mg "_law_at" = some (.ref f_L_at))(G_L_chosen:FnOk P w K mg base Fw 1 f_L_chosen d_L_chosen ["_law_holes", "_law_many"] (W2 K (Um)))(b_L_chosen:Binds K d_L_chosen ["_law_holes", "_law_many"] [])(k_L_chosen:PySem.W.keepIn K (.ref f_L_chosen)=true)(m_L_chosen:mg "_law_chosen" = some (.ref f_L_chosen)):FnOk P w K mg base Fw 2 f fd ["_law_holes", "_law_deck_here", "_law_many", "_law_pairs_here"] (Ou K (xA)):=by
 refine' Hl (k:=1) F gZ (λcdv A outer s H E hr=>?hb) ?h
 case hb =>
  have hr1:Room 1 _:=hr.mono (by decide)
  have hu64:=hr.units
  have CS1:∀{scope:Scope} (h:scope={ kind:=.function,names:=[(".0",.local),("_law_pair",.local),("_law_at",.globalImplicit),("_law_deck_here",.free),("_law_places",.free)],isGenerator:=false,isCoroutine:=false }),
    CompScope (Lq Fw P w K mg base ["_law_holes", "_law_deck_here", "_law_many", "_law_pairs_here", "_law_places"] "_law_bars" (Bo Pb) f cdv A outer s H E).nox scope [("_law_places",s.heap.objs.size+2),("_law_deck_here",s.heap.objs.size+1)] "_law_pair" ["_law_deck_here", "_law_places"] [1,4]:=by
   rintro scope rfl
   refine ⟨by rfl,.inl (by decide +kernel),by rfl,by decide +kernel,.inl rfl,λy c h=>?_,by rfl,by decide +kernel,rfl,λk y j e1 e2=>?_⟩
   ·have z:=Et h
    simp only[Ai,Bk,or_false,Fn] at z
    rcases z with ⟨rfl,rfl⟩ | ⟨rfl,rfl⟩ <;> rfl
   ·match k,e1,e2 with
    | 0,e1,e2=>cases e1; cases e2; exact ⟨rfl,rfl,by first | exact .inl rfl | exact .inr rfl⟩
    | 1,e1,e2=>cases e1; cases e2; exact ⟨rfl,rfl,by first | exact .inl rfl | exact .inr rfl⟩
    | k+2,e1,e2=>cases e1
  exact Bn (Jq Cw rfl (tT (Zf G_L_chosen hr1 rfl m_L_chosen k_L_chosen b_L_chosen Ef (Aa (Af (pv 0)) (Aa (Af (pv 2)) Aj)))) (Ew (i:=4) gZ.nd rfl (Vt rfl))
   (Cf (Gh (Pp hu64 (Mf (CS1 rfl) rfl (tT (Af (pv 3))) (λ_ _ _=>Lk (Pp hu64 (Eg G_L_at hr1 rfl m_L_at k_L_at b_L_at Ef (Aa (Ed (Af (pv 1)) (Ed (Af (pv 0)) Bm)) (Aa (Af (pv 2)) Aj))) (Eg G_L_at hr1 rfl m_L_at k_L_at b_L_at Ef (Aa (Ed (Af (pv 1)) (Ed (Af (pv 0)) Bm)) (Aa (Af (pv 2)) Aj))))) (λ_ _ _=>Af (pv 0))) (Ep Aj))
    (Cf (Cz Hw)) Fc)))
   (Cf (Cz Hw))
 case h =>
  (intro ds R q_; obtain ⟨h,k,D,P,rfl,h1,k1,hD,lP,hP,hT,hF⟩ := q_)
  refine ⟨rfl,?_⟩
  array_get_dec
  refine ⟨h,k,rfl,h1,by omega,by omega,?_⟩
  rw[Df]
  array_get_dec
  refine Rh (l:=Xd h k) (g:=Au) rfl (λi δ=>(∃(v4:DV),δ=⟨[.dat .sh (.int h),.dat .sh (.list (D.map Au)),.dat .sh (.int k),.dat .sh (.list (P.map Au)),v4],0⟩/\NP v4)/\∀(a:Nat) (u:List Int),a<i->(Xd h k)[a]? = some u->∃q∈P,iL D u q) ?_ ?_ ?_
  ·exact ⟨⟨_,rfl,Ge⟩,λa u z=>absurd z (Dw _)⟩
  ·(intro i u _ hu q_; obtain ⟨⟨v4,rfl,hv4⟩,hall⟩ := q_)
   have mu:=A0.mp (Bg hu)
   have ru:=cw_rise mu
   array_get_dec
   refine Uo (l:=P) (g:=Au) rfl (λq=>@decide (iL D u q) (Aw _)) Au (λq hq yes no hy hn=>?_) ?_
   ·obtain ⟨a,b,rfl,lt,lb⟩:=hP q hq
    have hx:D[a]? = some D[a]:=Bf (by omega)
    have hyy:D[b]? = some D[b]:=Bf lb
    have rx:=hD D[a] (Il _)
    have ry:=hD D[b] (Il _)
    have lx:=Kw (rx.up (show (h:Int)<=60 by omega))
    have ly:=Kw (ry.up (show (h:Int)<=60 by omega))
    array_get_dec
    refine ⟨_,Ko hx,D[a],u,rfl,lx,?_⟩
    array_get_dec
    refine ⟨_,Ko hyy,D[b],u,rfl,ly,?_⟩
    array_get_dec
    refine Qm (λz=>?_) (λz=>?_)
    ·array_get_dec
     refine hy (@decide_eq_true _ (Aw _) ⟨a,b,_,_,rfl,lt,hx,hyy,?_⟩)
     rw[<- Pu ru.1 rx.1,<- Pu ru.1 ry.1]
     exact of_decide_eq_true z
    ·refine hn (@decide_eq_false _ (Aw _) ?_)
     (intro q_; obtain ⟨a',b',x',y',e,_,hx',hy',en⟩ := q_)
     injection e with e1 e2
     injection e2 with e2 _
     have e1:a=a':=by omega
     have e2:b=b':=by omega
     subst e1 e2
     rw[hx] at hx'
     rw[hyy] at hy'
     cases hx'
     cases hy'
     rw[<- Pu ru.1 rx.1,<- Pu ru.1 ry.1] at en
     exact of_decide_eq_false z en
   by_cases ex:∃q∈P,iL D u q
   ·obtain ⟨q,hq,al⟩:=ex
    have ne:q∈P.filter (λq=>@decide (iL D u q) (Aw _)):=Er.mpr ⟨hq,@decide_eq_true _ (Aw _) al⟩
    obtain ⟨q0,Iz,er⟩ : ∃q0 Iz,P.filter (λq=>@decide (iL D u q) (Aw _))=q0::Iz:=by
     cases e:P.filter (λq=>@decide (iL D u q) (Aw _)) with
     | nil=>rw[e] at ne; cases ne
     | cons q0 Iz=>exact ⟨q0,Iz,rfl⟩
    rw[er]
    array_get_dec
    refine ⟨⟨_,rfl,Ey⟩,λa u' ha hu'=>?_⟩
    by_cases z:a=i
    ·subst z
     rw[hu] at hu'
     cases hu'
     exact ⟨q,hq,al⟩
    ·exact hall a u' (by omega) hu'
   ·have er:P.filter (λq=>@decide (iL D u q) (Aw _))=[]:=Ma.mpr λq hq z=>ex ⟨q,hq,@of_decide_eq_true _ (Aw _) z⟩
    rw[er]
    array_get_dec
    exact hF λz=>ex (z u mu)
  ·(intro _ q_; obtain ⟨⟨v4,rfl,hv4⟩,hall⟩ := q_)
   array_get_dec
   refine hT λu hu=>?_
   obtain ⟨a,ha⟩:=rG.mp (A0.mpr hu)
   exact hall a u (Av.mp ha).1 ha
end
theorem EY{a b c:Ac}(h:(Fp [a,b,c]).depth<=40):a.depth<=39/\b.depth<=39/\c.depth<=39:=by
 simp only[Bx,Bc] at h
 omega
theorem EB{a:Ac}:([PyData.str "same",.str "places"].any λe=>Dv e a)=true↔a=.str "same" \/ a=.str "places" := by
 simp only[Jl,List.any_nil,Bool.or_false,Bool.or_eq_true]
 have one:∀s:Str,Dv (.str s) a=true↔a=.str s:=λs=>by
  cases a with
  | str t=>rw[eqD_str,beq_iff_eq,PyData.str.injEq]; exact eq_comm
  | _=>simp [Dv]
 rw[one,one]
theorem uY{b c:Ac}(h:b.depth<=39/\c.depth<=39):(Fp [b,c]).depth<=40:=by
 simp only[Bx,Bc]
 omega
section
variable{P:Bs}{w:World}{K:PySem.W.Frag}{mg:Str->Option Value}{base:Heap}
theorem cF:FnScope ["_law_holes", "_law_deck_here", "_law_thing"] ["_law_holes", "_law_deck_here", "_law_thing"] (Bo Jx):=⟨rfl,rfl,rfl,by decide +kernel,rfl,by decide +kernel,by decide +kernel⟩
theorem cP{f f_L_parted f_L_is_pair f_L_bars  : Addr}{fd d_L_parted d_L_is_pair d_L_bars:Cg}(F:Fun K "_law_holds" "_law_holds" Jx f fd)(G_L_parted:FnOk P w K mg base Fw 2 f_L_parted d_L_parted ["_law_deck_here", "_law_places"] (Ou K (Wn)))(b_L_parted:Binds K d_L_parted ["_law_deck_here", "_law_places"] [])(k_L_parted:PySem.W.keepIn K (.ref f_L_parted)=true)(m_L_parted:mg "_law_parted" = some (.ref f_L_parted))(G_L_is_pair:FnOk P w K mg base Fw 1 f_L_is_pair d_L_is_pair ["_law_deck_here", "_law_pair"] (Ou K (pL)))(b_L_is_pair:Binds K d_L_is_pair ["_law_deck_here", "_law_pair"] [])(k_L_is_pair:PySem.W.keepIn K (.ref f_L_is_pair)=true)(m_L_is_pair:mg "_law_is_pair" = some (.ref f_L_is_pair))(G_L_bars:FnOk P w K mg base Fw 2 f_L_bars d_L_bars ["_law_holes", "_law_deck_here", "_law_many", "_law_pairs_here"] (Ou K (xA)))(b_L_bars:Binds K d_L_bars ["_law_holes", "_law_deck_here", "_law_many", "_law_pairs_here"] [])(k_L_bars:PySem.W.keepIn K (.ref f_L_bars)=true)(m_L_bars:mg "_law_bars" = some (.ref f_L_bars))(mz_len:mg "len" = none)(mz_tuple:mg "tuple" = none)(mz_isinstance:mg "isinstance" = none)(mz_list:mg "list" = none)(mz_int:mg "int" = none)(mz_bool:mg "bool" = none)(mz_range:mg "range" = none):FnOk P w K mg base Fw 3 f fd ["_law_holes", "_law_deck_here", "_law_thing"] (Ou K (Yr)):=by
 refine' Hl (k:=2) F cF (λcdv A outer s H E hr=>?hb) ?h
 case hb =>
  have hr1:Room 1 _:=hr.mono (by decide)
  have hr2:Room 2 _:=hr.mono (by decide)
  have hu64:=hr.units
  have CS1:∀{scope:Scope} (h:scope={ kind:=.function,names:=[(".0",.local),("_law_one",.local),("isinstance",.globalImplicit),("bool",.globalImplicit),("int",.globalImplicit)],isGenerator:=false,isCoroutine:=false }),
    CompScope (Lq Fw P w K mg base ["_law_holes", "_law_deck_here", "_law_thing"] "_law_holds" (Bo Jx) f cdv A outer s H E).nox scope [] "_law_one" [] []:=by
   rintro scope rfl
   exact Nd.compScope0 (by rfl) (by decide +kernel) (by rfl) (by decide +kernel) (by rfl) (by rfl)
  have CS2:∀{scope:Scope} (h:scope={ kind:=.function,names:=[(".0",.local),("_law_place",.local),("_law_thing",.free)],isGenerator:=false,isCoroutine:=false }),
    CompScope (Lq Fw P w K mg base ["_law_holes", "_law_deck_here", "_law_thing"] "_law_holds" (Bo Jx) f cdv A outer s H E).nox scope [("_law_thing",s.heap.objs.size+2)] "_law_place" ["_law_thing"] [2]:=by
   rintro scope rfl
   refine ⟨by rfl,.inl (by decide +kernel),by rfl,by decide +kernel,.inl rfl,λy c h=>?_,by rfl,by decide +kernel,rfl,λk y j e1 e2=>?_⟩
   ·have z:=Et h
    simp only[Ai,Bk,or_false,Fn] at z
    obtain ⟨rfl,rfl⟩:=z; rfl
   ·match k,e1,e2 with
    | 0,e1,e2=>cases e1; cases e2; exact ⟨rfl,rfl,by first | exact .inl rfl | exact .inr rfl⟩
    | k+1,e1,e2=>cases e1
  have CS3:∀{scope:Scope} (h:scope={ kind:=.function,names:=[(".0",.local),("_law_pair",.local),("_law_is_pair",.globalImplicit),("_law_deck_here",.free)],isGenerator:=false,isCoroutine:=false }),
    CompScope (Lq Fw P w K mg base ["_law_holes", "_law_deck_here", "_law_thing"] "_law_holds" (Bo Jx) f cdv A outer s H E).nox scope [("_law_deck_here",s.heap.objs.size+1)] "_law_pair" ["_law_deck_here"] [1]:=by
   rintro scope rfl
   refine ⟨by rfl,.inl (by decide +kernel),by rfl,by decide +kernel,.inl rfl,λy c h=>?_,by rfl,by decide +kernel,rfl,λk y j e1 e2=>?_⟩
   ·have z:=Et h
    simp only[Ai,Bk,or_false,Fn] at z
    obtain ⟨rfl,rfl⟩:=z; rfl
   ·match k,e1,e2 with
    | 0,e1,e2=>cases e1; cases e2; exact ⟨rfl,rfl,by first | exact .inl rfl | exact .inr rfl⟩
    | k+1,e1,e2=>cases e1
  exact Bn (Gh (Rm (Kn (Hy (Gs (Cj Ke Kh rfl mz_isinstance (by decide +kernel) (Aa (Af (pv 2)) (Aa (Mz (n := "tuple") rfl mz_tuple (by decide +kernel)) Aj))))) (Kn (Pa hu64 (Cj Es Hf rfl mz_len (by decide +kernel) (Aa (Af (pv 2)) Aj)) Bm) (Kg (kE hu64 (Ed (Af (pv 2)) Bm) (Ep (Aa Ja (Aa Ja Aj))))))))
   (Cf (Cz Hw)) Fc)
   (Bn (Gh (Pp hu64 (Ed (Af (pv 2)) Bm) Ja)
   (Cf (Cz (Rr (Eg G_L_is_pair hr1 rfl m_L_is_pair k_L_is_pair b_L_is_pair Ef (Aa (Af (pv 1)) (Aa (Jo (i:=false) (Af (pv 2)) (Iq Bm) Ip) Aj))) (aV (Tn hu64 (Ed (Af (pv 1)) (Ed (Af (pv 2)) Bm)) (Ed (Af (pv 1)) (Ed (Af (pv 2)) Bm))))))) Fc)
   (Bn (Gh (Rm (Kn (Hy (Gs (Cj Ke Kh rfl mz_isinstance (by decide +kernel) (Aa (Ed (Af (pv 2)) Bm) (Aa (Mz (n := "tuple") rfl mz_tuple (by decide +kernel)) Aj))))) (Kg (Hy (Gs (Cj Ke Kh rfl mz_isinstance (by decide +kernel) (Aa (Ed (Af (pv 2)) Bm) (Aa (Mz (n := "list") rfl mz_list (by decide +kernel)) Aj))))))))
   (Cf (Cz Hw)) Fc)
   (Bn (Gh (Pa hu64 (aU (CS1 rfl) rfl (W5 (Ed (Af (pv 2)) Bm)) (λ_ _ _=>Lk (Rm (Kn (Gs (Cj Ke Kh rfl mz_isinstance (by decide +kernel) (Aa (Af (pv 0)) (Aa (Mz (n := "bool") rfl mz_bool (by decide +kernel)) Aj)))) (Kg (Hy (Gs (Cj Ke Kh rfl mz_isinstance (by decide +kernel) (Aa (Af (pv 0)) (Aa (Mz (n := "int") rfl mz_int (by decide +kernel)) Aj))))))))) (λ_ _ _=>Af (pv 0))) (Ep Aj))
   (Cf (Cz Hw)) Fc)
   (Bn (Gh (Rm (Kn (Pa hu64 (Fo Yo (Yw (i:=false)) rfl mz_list (by decide +kernel) (Aa (Ed (Af (pv 2)) Bm) Aj)) (Mf (CS2 rfl) rfl (Hx rfl mz_range (Aa (Af (pv 0)) Aj)) (λ_ _ _=>Lk (qN hu64 (Af (pv 0)) (Ed (Af (pv 1)) Bm))) (λ_ _ _=>Af (pv 0)))) (Kg (Hy (Gs (Eg G_L_parted hr2 rfl m_L_parted k_L_parted b_L_parted Ef (Aa (Af (pv 1)) (Aa (Ed (Af (pv 2)) Bm) Aj))))))))
   (Cf (Cz Hw)) Fc)
   (Bn (Gh (Pa hu64 (aU (CS3 rfl) rfl (tT (Ed (Af (pv 2)) Bm)) (λ_ _ _=>Lk (Hy (Gs (Eg G_L_is_pair hr1 rfl m_L_is_pair k_L_is_pair b_L_is_pair Ef (Aa (Af (pv 1)) (Aa (Af (pv 0)) Aj)))))) (λ_ _ _=>Af (pv 0))) (Ep Aj))
   (Cf (Cz Hw)) Fc)
   (Bn (Gh (Pp hu64 (Ed (Af (pv 2)) Bm) (Dd Aj))
   (Cf (Cz (Tn hu64 (Ed (Af (pv 2)) Bm) (Ep Aj)))) Fc)
   (Cf (Cz (Eg G_L_bars hr2 rfl m_L_bars k_L_bars b_L_bars Ef (Aa (Af (pv 0)) (Aa (Af (pv 1)) (Aa (Lw (Cj Es Hf rfl mz_len (by decide +kernel) (Aa (Ed (Af (pv 2)) Bm) Aj)) Bm) (Aa (Ed (Af (pv 2)) Bm) Aj)))))))))))))
 case h =>
  (intro ds R q_; obtain ⟨h,D,T,rfl,h0,h1,lD,hD,dT,fT,hT,hF⟩ := q_)
  refine ⟨rfl,?_⟩
  have l60:∀c∈D,c.length<=60:=λc hc=>Kw ((hD c hc).up (show (h:Int)<=60 by omega))
  array_get_dec
  rcases Wh (d:=T) with ⟨xs,rfl⟩ | ⟨e,ne⟩
  rotate_left
  ·rw[e]
   array_get_dec
   exact hF λz=>by
    obtain ⟨s,b,c,z,_⟩:=z.tup
    exact ne _ z
  array_get_dec
  by_cases l3:xs.length=3
  rotate_left
  ·rw[decide_eq_false (show ¬ (xs.length:Int)=3 by omega)]
   array_get_dec
   exact hF λz=>by
    obtain ⟨s,b,c,z,_⟩:=z.tup
    injection z with z
    rw[z] at l3
    exact l3 rfl
  obtain ⟨a,b,c,rfl⟩:=J6 l3
  obtain ⟨da,db,dc⟩:=EY dT
  array_get_dec
  refine ⟨by omega,?_⟩
  by_cases i2:a=.str "same" \/ a=.str "places"
  rotate_left
  ·rw[Yn.mpr λz=>i2 (EB.mp z)]
   array_get_dec
   exact hF λz=>by
    obtain ⟨s,b',c',z,e⟩:=z.tup
    injection z with z
    injection z with z _
    rcases e with e | e
    ·exact i2 (.inl (by rw[z,e]))
    ·exact i2 (.inr (by rw[z,e]))
  rw[EB.mpr i2]
  array_get_dec
  rcases i2 with rfl | rfl
  ·array_get_dec
   refine ⟨D,.tuple [b,c],rfl,uY ⟨db,dc⟩,λok=>?_,λnok=>?_⟩
   rotate_left
   ·array_get_dec
    refine hF λk=>?_
    rcases k with ⟨i,j,x,lt,_,hj,e⟩ | ⟨w,P,e,hP,k⟩
    ·unfold eV at e
     injection e with e
     injection e with _ e
     injection e with e1 e
     injection e with e2 _
     exact nok [(i:Int),(j:Int)] (by rw[e1,e2]; rfl) ⟨i,j,rfl,lt,(Av.mp hj).1⟩
    ·unfold Zr at e
     injection e with e
     injection e with e _
     injection e with e
     exact absurd e (by decide +kernel)
   obtain ⟨q,e,i,j,rfl,lt,lj⟩:=ok
   unfold Au at e
   injection e with e
   injection e with e1 e
   injection e with e2 _
   subst e1 e2
   have hi:D[i]? = some D[i]:=Bf (by omega)
   have hj:D[j]? = some D[j]:=Bf lj
   array_get_dec
   refine ⟨_,Ko hi,_,Ko hj,?_⟩
   array_get_dec
   by_cases cc:D[i]=D[j]
   ·rw[decide_eq_true cc]
    exact hT (.inl ⟨i,j,D[j],lt,by rw[hi,cc],hj,rfl⟩)
   ·rw[decide_eq_false cc]
    refine hF λk=>?_
    rcases k with ⟨i',j',x,lt,hi',hj',e⟩ | ⟨w,P,e,hP,k⟩
    ·unfold eV at e
     injection e with e
     injection e with _ e
     injection e with e1 e
     injection e with e2 _
     injection e1 with e1
     injection e2 with e2
     have e1:i'=i:=by omega
     have e2:j'=j:=by omega
     subst e1 e2
     rw[hi] at hi'
     rw[hj] at hj'
     exact cc (by rw[Ce hi',Ce hj'])
    ·unfold Zr at e
     injection e with e
     injection e with e _
     injection e with e
     exact absurd e (by decide +kernel)
  have no:((∀w P,b=Au w->c=.list (P.map Au)->(∀q∈P,He D q)->¬ Xh h D w P))->R (.bool false):=λk=>hF λz=>by
   rcases z with ⟨i,j,x,_,_,_,e⟩ | ⟨w,P,e,hP,z⟩
   ·unfold eV at e
    injection e with e
    injection e with e _
    injection e with e
    exact absurd e (by decide +kernel)
   ·unfold Zr at e
    injection e with e
    injection e with _ e
    injection e with e1 e
    injection e with e2 _
    exact k w P e1 e2 hP z
  array_get_dec
  rcases Wh (d:=b) with ⟨ws,rfl⟩ | ⟨e,ne⟩
  rotate_left
  ·rw[e]
   array_get_dec
   exact no λw P e _ _ _=>ne _ e
  array_get_dec
  rcases vT (d:=c) with ⟨ps,rfl⟩ | ⟨e,ne⟩
  rotate_left
  ·rw[e]
   array_get_dec
   exact no λw P _ e _ _=>ne _ e
  have lps:=fT _ _ _ rfl
  array_get_dec
  refine nE (l:=ws) (g:=λx=>x) (Gd _).symm (λd=>!eT d) (λx=>x) (λd hd yes no hy hn=>?_) ?_
  ·have ed:=wB d
   array_get_dec
   refine dM (λq=>?_) (λq=>?_)
   ·rw[q] at ed
    array_get_dec
    exact hy (by rw[<- ed]; rfl)
   ·rw[q] at ed
    array_get_dec
    cases q2:Mo d "int" with
    | false =>
     rw[q2] at ed
     array_get_dec
     exact hy (by rw[<- ed]; rfl)
    | true =>
     rw[q2] at ed
     array_get_dec
     exact hn (by rw[<- ed]; rfl)
  array_get_dec
  cases hf:(ws.filter λd=>!eT d) with
  | cons y ys =>
   array_get_dec
   refine ⟨by have:=Wc (p:=λd=>!eT d) (show (Fp ws).depth<=40 by omega); rw[hf] at this; rw[Gd]; exact this,no λw P e _ _ _=>?_⟩
   unfold Au at e
   injection e with e
   rw[e,jE] at hf
   cases hf
  | nil =>
  obtain ⟨w,rfl⟩:=kY hf
  array_get_dec
  refine ⟨by omega,by omega,?_⟩
  rw[Df]
  refine Uo (l:=Bh h) (g:=λk:Nat=>.int k) rfl (λk:Nat=>decide ((k:Int)∈w)) (λk:Nat=>.int k) (λk hk yes no hy hn=>?_) ?_
  ·array_get_dec
   refine Qm (λz=>?_) (λz=>?_)
   ·array_get_dec
    exact hy z
   ·exact hn z
  rw[show (((Bh h).filter λk:Nat=>decide ((k:Int)∈w)).map λk:Nat=>Ax (k:Int))=(((Bh h).filter λk:Nat=>decide ((k:Int)∈w)).map λk:Nat=>(k:Int)).map Ax by rw[Fg]; rfl]
  array_get_dec
  by_cases r:Fd h w
  rotate_left
  ·rw[decide_eq_false λe=>r (CY.mp e)]
   array_get_dec
   exact no λw' P e _ _ z=>r (by rw[show w=w' from Hz e]; exact z.1)
  rw[decide_eq_true (CY.mpr r)]
  array_get_dec
  have rw_:=r
  have eW:(D.map λc=>Om c w)=D.map (Om w):=Ii λc hc=>Pu rw_.1 (hD c hc).1
  refine ⟨D,w,rfl,lD,l60,λnd=>?_,λnd=>?_⟩
  rotate_left
  ·array_get_dec
   rw[eW] at nd
   exact no λw' P e _ _ z=>nd (by rw[show w=w' from Hz e]; exact z.2.1)
  rw[eW] at nd
  array_get_dec
  refine nE (l:=ps) (g:=λx=>x) (Gd _).symm (λd=>@decide (¬ ∃q,d=Au q/\He D q) (Aw _)) (λx=>x) (λd hd yes no hy hn=>?_) ?_
  ·array_get_dec
   refine ⟨D,d,rfl,?_,λok=>?_,λnok=>?_⟩
   ·simp only[Bx] at dc
    have:=Zy hd
    omega
   ·array_get_dec
    exact hn (@decide_eq_false _ (Aw _) λz=>z ok)
   ·array_get_dec
    exact hy (@decide_eq_true _ (Aw _) λ⟨q,e,z⟩=>nok q e z)
  cases hp:ps.filter (λd=>@decide (¬ ∃q,d=Au q/\He D q) (Aw _)) with
  | cons y ys =>
   array_get_dec
   have my:y∈ps/\¬ ∃q,y=Au q/\He D q:=by
    have : y∈ps.filter (λd=>@decide (¬ ∃q,d=Au q/\He D q) (Aw _)):=by rw[hp]; exact Ab
    obtain ⟨q1,q2⟩:=Er.mp this
    exact ⟨q1,@of_decide_eq_true _ (Aw _) q2⟩
   refine ⟨?_,no λw' P _ e hP _=>?_⟩
   ·have:=Wc (xs:=ps) (p:=λd=>@decide (¬ ∃q,d=Au q/\He D q) (Aw _)) (by simp only[Bx] at dc ⊢; omega)
    rw[hp] at this
    rw[Gd]
    exact this
   ·injection e with e
    rw[e] at my
    obtain ⟨q,hq,eq'⟩:=Bq.mp my.1
    exact my.2 ⟨q,eq'.symm,hP q hq⟩
  | nil =>
  have hps:∃P:List (List Int),ps=P.map Au/\∀q∈P,He D q:=by
   have all:∀d∈ps,∃q,d=Au q/\He D q:=λd hd=>Ft λz=>by
    have:=Ma.mp hp d hd
    exact this (@decide_eq_true _ (Aw _) z)
   clear hp lps fT dc dT hT hF no l3
   induction ps with
   | nil=>exact ⟨[],rfl,λq z=>nomatch z⟩
   | cons d ps ih =>
    obtain ⟨P,rfl,hP⟩:=ih λd hd=>all d (Ah _ hd)
    obtain ⟨q,rfl,ok⟩:=all d Ab
    refine ⟨q::P,rfl,λq' hq'=>?_⟩
    rcases Ai.mp hq' with z | z
    ·rw[z]; exact ok
    ·exact hP q' z
  obtain ⟨P,rfl,hP⟩:=hps
  rw[Ad] at lps
  have hT:Xh h D w P->R (.bool true):=λz=>hT (.inr ⟨w,P,rfl,hP,z⟩)
  have hF:¬ Xh h D w P->R (.bool false):=λz=>no λw' P' e1 e2 _ k=>z (by
   rw[show w=w' from Hz e1,uN (PyData.list.inj e2)]
   exact k)
  array_get_dec
  rw[show Fp []=Au [] from rfl,eqD_word]
  refine Pc (λz=>?_) (λz=>?_)
  ·have e:w=[]:=of_decide_eq_true z
   array_get_dec
   cases P with
   | nil =>
    array_get_dec
    exact hT ⟨r,nd,λ_=>rfl,λz=>absurd e z⟩
   | cons q P =>
    array_get_dec
    exact hF λz=>nomatch z.2.2.1 e
  ·have e:w≠[]:=of_decide_eq_false z
   have l0:0<w.length:=Ky.mpr e
   have rl:w.length<=10:=by
    have:=Wj r
    omega
   array_get_dec
   rw[Ad,show ((w.length:Int) - 1)=((w.length - 1:Nat):Int) by omega]
   refine ⟨h,w.length - 1,D,P,rfl,h1,by omega,hD,lps,hP,λa=>?_,λa=>?_⟩
   ·array_get_dec
    exact hT ⟨r,nd,λz=>absurd z e,λ_=>a⟩
   ·array_get_dec
    exact hF λz=>a (z.2.2.2 e)
end
def K0(h:Nat)(D:List (List Int))(T:Ac):Prop:=(∃i j:Nat,i<=12/\j<=12/\T=eV i j)\/∃(w:List Int) (P:List (List Int)),Fd h w/\(∀q∈P,He D q)/\P.length<=1024/\T=Zr w P
def qZ:DF:=λds n R=>∃(D:List (List Int)) (p:List Int),ds=[.list (D.map Au),Au p]/\D.length<=12/\(∀c∈D,c.length<=60)/\n<=90000/\∀P:List (List Int),P.length<=1->(∀q∈P,He D q)->R (.list (P.map Au)) (n+1)
def fZ:DF:=λds n R=>∃(h:Nat) (D:List (List Int)) (k:Int),ds=[.int h,.list (D.map Au),.int k]/\h<=10 /\ -1<=k/\k<=60/\D.length<=12/\(∀c∈D,c.length<=60)/\n<=80000/\∀(P:List (List Int)) n',P.length<=1024->(∀q∈P,He D q)->n<=n'->n'<=n+1024->R (.list (P.map Au)) n'
def wN:DF:=λds n R=>∃(h:Nat) (D:List (List Int)),ds=[.int h,.list (D.map Au)]/\1<=h/\h<=7/\D.length<=12/\(∀c∈D,Fd h c)/\n<=70000/\∀T n',K0 h D T->n<=n'->n'<=n+1100->R T n'
theorem nO{L:List (List Int)}{w:List Int}(h:w∈L):∃b:Nat,b<L.length/\(L.map Au).findIdx? (λe=>Dv e (Au w))=some b:=by
 have hs:((L.map Au).findIdx? (λe=>Dv e (Au w))).isSome=true:=by
  rw[List.findIdx?_isSome,any_word]
  exact decide_eq_true h
 obtain ⟨b,hb⟩:=Kx.mp hs
 have:=(Xq.mp hb).1
 rw[Ad] at this
 exact ⟨b,this,hb⟩
theorem rJ{P:List (List Int)}{lo hi:Option Int}:∃Q:List (List Int),Ic (P.map Au) lo hi=Q.map Au/\Q.Sublist P:=by
 refine ⟨Ic P lo hi,?_,Oe _ _ _⟩
 unfold Ic
 rw[Ad,<- List.map_drop,<- Nh]
section
variable{P:Bs}{w:World}{K:PySem.W.Frag}{mg:Str->Option Value}{base:Heap}
theorem cN:FnScope ["_law_draws_here", "_law_deck_here", "_law_places", "_law_some", "_law_j"] ["_law_draws_here", "_law_deck_here", "_law_places"] (Bo Nl):=⟨rfl,rfl,rfl,by decide +kernel,rfl,by decide +kernel,by decide +kernel⟩
theorem cT{f f_L_next f_L_at  : Addr}{fd d_L_next d_L_at:Cg}(F:Fun K "_law_alike" "_law_alike" Nl f fd)(G_L_next:FnOk P w K mg base Fw 1 f_L_next d_L_next ["_law_draws_here"] (bU K Rp))(b_L_next:Binds K d_L_next ["_law_draws_here"] [])(k_L_next:PySem.W.keepIn K (.ref f_L_next)=true)(m_L_next:mg "_law_next" = some (.ref f_L_next))(G_L_at:FnOk P w K mg base Fw 1 f_L_at d_L_at ["_law_card", "_law_places"] (Ou K (j6)))(b_L_at:Binds K d_L_at ["_law_card", "_law_places"] [])(k_L_at:PySem.W.keepIn K (.ref f_L_at)=true)(m_L_at:mg "_law_at" = some (.ref f_L_at))(mz_len:mg "len" = none)(mz_range:mg "range" = none)(mz_max:mg "max" = none):FnOk P w K mg base Fw 2 f fd ["_law_draws_here", "_law_deck_here", "_law_places"] (bU K (qZ)):=by
 refine' Vm (k:=1) F cN (λcdv A outer s H E hr=>?hb) ?h
 case hb =>
  have hr1:Room 1 _:=hr.mono (by decide)
  have hu64:=hr.units
  have CS1:∀{scope:Scope} (h:scope={ kind:=.function,names:=[(".0",.local),("_law_i",.local),("_law_at",.globalImplicit),("_law_deck_here",.free),("_law_j",.free),("_law_places",.free)],isGenerator:=false,isCoroutine:=false }),
    CompScope (Lq Fw P w K mg base ["_law_draws_here", "_law_deck_here", "_law_places", "_law_some", "_law_j"] "_law_alike" (Bo Nl) f cdv A outer s H E).nox scope [("_law_places",s.heap.objs.size+2),("_law_j",s.heap.objs.size+3),("_law_deck_here",s.heap.objs.size+1)] "_law_i" ["_law_deck_here", "_law_j", "_law_places"] [1,4,2]:=by
   rintro scope rfl
   refine ⟨by rfl,.inl (by decide +kernel),by rfl,by decide +kernel,.inl rfl,λy c h=>?_,by rfl,by decide +kernel,rfl,λk y j e1 e2=>?_⟩
   ·have z:=Et h
    simp only[Ai,Bk,or_false,Fn] at z
    rcases z with ⟨rfl,rfl⟩ | ⟨rfl,rfl⟩ | ⟨rfl,rfl⟩ <;> rfl
   ·match k,e1,e2 with
    | 0,e1,e2=>cases e1; cases e2; exact ⟨rfl,rfl,by first | exact .inl rfl | exact .inr rfl⟩
    | 1,e1,e2=>cases e1; cases e2; exact ⟨rfl,rfl,by first | exact .inl rfl | exact .inr rfl⟩
    | 2,e1,e2=>cases e1; cases e2; exact ⟨rfl,rfl,by first | exact .inl rfl | exact .inr rfl⟩
    | k+3,e1,e2=>cases e1
  exact Bn (Ej (i:=3) cN.nd rfl (Ci rfl) (Ep Aj))
   (Bn (Jq Cw rfl (Hx rfl mz_range (Aa (Cj Es Hf rfl mz_len (by decide +kernel) (Aa (Af (pv 1)) Aj)) Aj)) (Ew (i:=4) cN.nd rfl (Vt rfl))
   (Cf (Ej (i:=3) cN.nd rfl (Ci rfl) (fS (Af (pv 3)) (Mf (CS1 rfl) rfl (Hx rfl mz_range (Aa (Af (pv 4)) Aj)) (λ_ _ _=>Lk (Pp hu64 (Eg G_L_at hr1 rfl m_L_at k_L_at b_L_at Ef (Aa (Ed (Af (pv 1)) (Af (pv 0))) (Aa (Af (pv 3)) Aj))) (Eg G_L_at hr1 rfl m_L_at k_L_at b_L_at Ef (Aa (Ed (Af (pv 1)) (Af (pv 2))) (Aa (Af (pv 3)) Aj))))) (λ_ _ _=>Dd (Aa (Dm (Af (pv 0))) (Aa (Dm (Af (pv 2))) Aj))))))))
   (Cf (Cz (Jo (i:=true) (Jo (i:=true) (Af (pv 3)) (Iq (Ll (Gp G_L_next hr1 rfl m_L_next k_L_next b_L_next Ef (pv 0) Aj) (Cj (Sv rfl) Ys rfl mz_max (by decide +kernel) (Aa Bm (Aa (Cj Es Hf rfl mz_len (by decide +kernel) (Aa (Af (pv 3)) Aj)) Aj))))) Ip) Ip (Iq Bm)))))
 case h =>
  (intro ds n R q_; obtain ⟨D,p,rfl,lD,l60,hn,hR⟩ := q_)
  refine ⟨rfl,?_⟩
  array_get_dec
  rw[Ad]
  refine ⟨by omega,by omega,?_⟩
  rw[Df]
  refine Rh (l:=Bh D.length) (g:=λi:Nat=>.int i) rfl (λi δ=>∃(P:List (List Int)) (v4:DV),δ=⟨[.drw,.dat .sh (.list (D.map Au)),.dat .sh (Au p),.dat .sh (.list (P.map Au)),v4],n⟩/\NP v4/\P.length<=12 * i/\∀q∈P,He D q) ?_ ?_ ?_
  ·exact ⟨[],_,rfl,Ge,Ee _,λq z=>nomatch z⟩
  ·(intro i a _ ha q_; obtain ⟨P,v4,rfl,hv4,lP,hP⟩ := q_)
   obtain ⟨rfl,hi⟩:=Ru ha
   have hj:D[a]? = some D[a]:=Bf hi
   array_get_dec
   refine ⟨by omega,by omega,?_⟩
   rw[Df]
   refine Uo (l:=Bh a) (g:=λi:Nat=>.int i) rfl (λi=>decide (Om (D.getD i []) p=Om D[a] p)) (λi=>Au [(i:Int),(a:Int)]) (λi hi2 yes no hy hn=>?_) ?_
   ·have hi2:=Cu.mp hi2
    have hx:D[i]? = some (D.getD i []):=by rw[Kj,Bf (by omega)]; rfl
    array_get_dec
    refine ⟨_,Ko hx,D.getD i [],p,rfl,l60 _ (Bg hx),?_⟩
    array_get_dec
    refine ⟨_,Ko hj,D[a],p,rfl,l60 _ (Bg hj),?_⟩
    array_get_dec
    refine Qm (λz=>?_) (λz=>?_)
    ·array_get_dec
     exact hy z
    ·exact hn z
   array_get_dec
   have lf:=List.length_filter_le (λi=>decide (Om (D.getD i []) p=Om D[a] p)) (Bh a)
   rw[Cy] at lf
   refine ⟨by rw[Ad,Ad]; omega,P++((Bh a).filter (λi=>decide (Om (D.getD i []) p=Om D[a] p))).map (λi:Nat=>[(i:Int),(a:Int)]),_,kS (by rw[Bp,Fg]; rfl) rfl,Ey,by rw[Az,Ad]; omega,λq hq=>?_⟩
   rcases Ay.mp hq with z | z
   ·exact hP q z
   ·obtain ⟨i,hi2,rfl⟩:=Bq.mp z
    have:=Cu.mp (Er.mp hi2).1
    exact ⟨i,a,rfl,this,hi⟩
  ·(intro _ q_; obtain ⟨P,v4,rfl,hv4,lP,hP⟩ := q_)
   array_get_dec
   refine ⟨rfl,by omega,λr1=>?_⟩
   array_get_dec
   rw[Ad]
   refine ⟨by split <;> omega,?_⟩
   obtain ⟨Q,eQ,sQ⟩:=rJ (P:=P) (lo:=some (r1 % (if (P.length:Int) > 1 then (P.length:Int) else 1))) (hi:=none)
   rw[eQ,show (1:Int)=((1:Nat):Int) from rfl,Kz,<- Nh]
   array_get_dec
   exact ⟨by omega,hR _ (List.length_take_le _ _) λq hq=>hP q (sQ.subset (Nt hq))⟩
theorem cK:FnScope ["_law_draws_here", "_law_holes", "_law_deck_here", "_law_many", "_law_told", "_law_places"] ["_law_draws_here", "_law_holes", "_law_deck_here", "_law_many"] (Bo Qk):=⟨rfl,rfl,rfl,by decide +kernel,rfl,by decide +kernel,by decide +kernel⟩
theorem cM{f f_L_chosen f_L_alike  : Addr}{fd d_L_chosen d_L_alike:Cg}(F:Fun K "_law_pairs" "_law_pairs" Qk f fd)(G_L_chosen:FnOk P w K mg base Fw 1 f_L_chosen d_L_chosen ["_law_holes", "_law_many"] (W2 K (Um)))(b_L_chosen:Binds K d_L_chosen ["_law_holes", "_law_many"] [])(k_L_chosen:PySem.W.keepIn K (.ref f_L_chosen)=true)(m_L_chosen:mg "_law_chosen" = some (.ref f_L_chosen))(G_L_alike:FnOk P w K mg base Fw 2 f_L_alike d_L_alike ["_law_draws_here", "_law_deck_here", "_law_places"] (bU K (qZ)))(b_L_alike:Binds K d_L_alike ["_law_draws_here", "_law_deck_here", "_law_places"] [])(k_L_alike:PySem.W.keepIn K (.ref f_L_alike)=true)(m_L_alike:mg "_law_alike" = some (.ref f_L_alike)):FnOk P w K mg base Fw 3 f fd ["_law_draws_here", "_law_holes", "_law_deck_here", "_law_many"] (bU K (fZ)):=by
 refine' Vm (k:=2) F cK (λcdv A outer s H E hr=>?hb) ?h
 case hb =>
  have hr1:Room 1 _:=hr.mono (by decide)
  have hr2:Room 2 _:=hr.mono (by decide)
  have hu64:=hr.units
  exact Bn (Kr (i:=4) cK.nd rfl (Ci rfl) (Ep Aj))
   (Bn (Jq Cw rfl (tT (Zf G_L_chosen hr1 rfl m_L_chosen k_L_chosen b_L_chosen Ef (Aa (Af (pv 1)) (Aa (Af (pv 3)) Aj)))) (Ew (i:=5) cK.nd rfl (Ci rfl))
   (Cf (Kr (i:=4) cK.nd rfl (Ci rfl) (fS (Af (pv 4)) (Gp G_L_alike hr2 rfl m_L_alike k_L_alike b_L_alike Ef (pv 0) (Aa (Af (pv 2)) (Aa (Af (pv 5)) Aj)))))))
   (Cf (Cz (Mg (pv 4)))))
 case h =>
  (intro ds n R q_; obtain ⟨h,D,k,rfl,h1,k0,k1,lD,l60,hn,hR⟩ := q_)
  refine ⟨rfl,?_⟩
  array_get_dec
  refine ⟨h,k,rfl,h1,k0,k1,?_⟩
  array_get_dec
  have lc:=iT h1 k.toNat
  refine Rh (l:=Xd h k.toNat) (g:=Au) rfl (λi δ=>∃(P:List (List Int)) (v5:DV) (n':Nat),δ=⟨[.drw,.dat .sh (.int h),.dat .sh (.list (D.map Au)),.dat .sh (.int k),.dat .ow (.list (P.map Au)),v5],n'⟩/\NP v5/\P.length<=i/\(∀q∈P,He D q)/\n'=n+i) ?_ ?_ ?_
  ·exact ⟨[],_,_,rfl,Ge,An _,(λq z=>nomatch z),rfl⟩
  ·(intro i p _ hp q_; obtain ⟨P,v5,n',rfl,hv5,lP,hP,rfl⟩ := q_)
   have hi:=(Av.mp hp).1
   array_get_dec
   refine ⟨D,p,rfl,lD,l60,by omega,λQ lQ hQ=>?_⟩
   array_get_dec
   refine ⟨by rw[Ad,Ad]; omega,P++Q,_,_,kS (by rw[Bp]) rfl,Ey,by rw[Az]; omega,λq hq=>?_,by omega⟩
   rcases Ay.mp hq with z | z
   ·exact hP q z
   ·exact hQ q z
  ·(intro _ q_; obtain ⟨P,v5,n',rfl,hv5,lP,hP,rfl⟩ := q_)
   array_get_dec
   exact ⟨by omega,hR P _ (by omega) hP (by omega) (by omega)⟩
theorem gL:FnScope ["_law_draws_here", "_law_holes", "_law_deck_here", "_law_many", "_law_places", "_law_some", "_law_j", "_law_card"] ["_law_draws_here", "_law_holes", "_law_deck_here"] (Bo Pf):=⟨rfl,rfl,rfl,by decide +kernel,rfl,by decide +kernel,by decide +kernel⟩
theorem fO{f f_L_next f_L_chosen f_L_parted f_L_pairs  : Addr}{fd d_L_next d_L_chosen d_L_parted d_L_pairs:Cg}(F:Fun K "_law_made" "_law_made" Pf f fd)(G_L_next:FnOk P w K mg base Fw 1 f_L_next d_L_next ["_law_draws_here"] (bU K Rp))(b_L_next:Binds K d_L_next ["_law_draws_here"] [])(k_L_next:PySem.W.keepIn K (.ref f_L_next)=true)(m_L_next:mg "_law_next" = some (.ref f_L_next))(G_L_chosen:FnOk P w K mg base Fw 1 f_L_chosen d_L_chosen ["_law_holes", "_law_many"] (W2 K (Um)))(b_L_chosen:Binds K d_L_chosen ["_law_holes", "_law_many"] [])(k_L_chosen:PySem.W.keepIn K (.ref f_L_chosen)=true)(m_L_chosen:mg "_law_chosen" = some (.ref f_L_chosen))(G_L_parted:FnOk P w K mg base Fw 2 f_L_parted d_L_parted ["_law_deck_here", "_law_places"] (Ou K (Wn)))(b_L_parted:Binds K d_L_parted ["_law_deck_here", "_law_places"] [])(k_L_parted:PySem.W.keepIn K (.ref f_L_parted)=true)(m_L_parted:mg "_law_parted" = some (.ref f_L_parted))(G_L_pairs:FnOk P w K mg base Fw 3 f_L_pairs d_L_pairs ["_law_draws_here", "_law_holes", "_law_deck_here", "_law_many"] (bU K (fZ)))(b_L_pairs:Binds K d_L_pairs ["_law_draws_here", "_law_holes", "_law_deck_here", "_law_many"] [])(k_L_pairs:PySem.W.keepIn K (.ref f_L_pairs)=true)(m_L_pairs:mg "_law_pairs" = some (.ref f_L_pairs))(mz_range:mg "range" = none)(mz_len:mg "len" = none)(mz_enumerate:mg "enumerate" = none):FnOk P w K mg base Fw 4 f fd ["_law_draws_here", "_law_holes", "_law_deck_here"] (mJ K (wN)):=by
 refine' kZ (k:=3) F gL (λcdv A outer s H E hr=>?hb) ?h
 case hb =>
  have hr1:Room 1 _:=hr.mono (by decide)
  have hr2:Room 2 _:=hr.mono (by decide)
  have hr3:Room 3 _:=hr.mono (by decide)
  have hu64:=hr.units
  have CS1:∀{scope:Scope} (h:scope={ kind:=.function,names:=[(".0",.local),("_law_places",.local),("_law_parted",.globalImplicit),("_law_deck_here",.free)],isGenerator:=false,isCoroutine:=false }),
    CompScope (Lq Fw P w K mg base ["_law_draws_here", "_law_holes", "_law_deck_here", "_law_many", "_law_places", "_law_some", "_law_j", "_law_card"] "_law_made" (Bo Pf) f cdv A outer s H E).nox scope [("_law_deck_here",s.heap.objs.size+1)] "_law_places" ["_law_deck_here"] [2]:=by
   rintro scope rfl
   refine ⟨by rfl,.inl (by decide +kernel),by rfl,by decide +kernel,.inl rfl,λy c h=>?_,by rfl,by decide +kernel,rfl,λk y j e1 e2=>?_⟩
   ·have z:=Et h
    simp only[Ai,Bk,or_false,Fn] at z
    obtain ⟨rfl,rfl⟩:=z; rfl
   ·match k,e1,e2 with
    | 0,e1,e2=>cases e1; cases e2; exact ⟨rfl,rfl,by first | exact .inl rfl | exact .inr rfl⟩
    | k+1,e1,e2=>cases e1
  exact Bn (Jq Cw rfl (Hx rfl mz_range (Aa (Ri (Af (pv 1)) Bm) Aj)) (Ew (i:=3) gL.nd rfl (Ci rfl))
   (Bn (pF (o:=false) (i0:=5) gL.nd rfl rfl (CS1 rfl) rfl (tT (Zf G_L_chosen hr1 rfl m_L_chosen k_L_chosen b_L_chosen Ef (Aa (Af (pv 1)) (Aa (Af (pv 3)) Aj)))) (λ_ _ _=>Lk (Gs (Eg G_L_parted hr2 rfl m_L_parted k_L_parted b_L_parted Ef (Aa (Af (pv 1)) (Aa (Af (pv 0)) Aj))))) (λ_ _ _=>Af (pv 0)))
    (Cf (Gh (Pa hu64 (Af (pv 5)) (Ep Aj))
    (Bn (Ej (i:=4) gL.nd rfl (Ci rfl) (Ed (Af (pv 5)) (Ll (Gp G_L_next hr1 rfl m_L_next k_L_next b_L_next Ef (pv 0) Aj) (Cj Es Hf rfl mz_len (by decide +kernel) (Aa (Af (pv 5)) Aj)))))
     (Cf (Cz (Dd (Aa Ja (Aa (Dm (Af (pv 4))) (Aa (Jo (i:=true) (Gp G_L_pairs hr3 rfl m_L_pairs k_L_pairs b_L_pairs Ef (pv 0) (Aa (Af (pv 1)) (Aa (Af (pv 2)) (Aa (Lw (Af (pv 3)) Bm) Aj)))) Ip (Iq (xC Bm (Af (pv 3))))) Aj))))))) Fc))))
   (Bn (Jq Cw rfl (pO rfl mz_enumerate (Aa (Af (pv 2)) Aj)) (Zx (n:=2) rfl (Ir (Ew (i:=6) gL.nd rfl (Ci rfl)) (Ir (Ew (i:=7) gL.nd rfl (Ci rfl)) Vg)))
   (Cf (Gh (qN hu64 (Af (pv 7)) (Jo (i:=true) (Af (pv 2)) Ip (Iq (Af (pv 6)))))
    (Cf (Cz (Dd (Aa Ja (Aa (vN hu64 (Af (pv 2)) (Af (pv 7))) (Aa (Dm (Af (pv 6))) Aj)))))) Fc)))
   (Cf (Cz Rn)))
 case h =>
  (intro ds n R q_; obtain ⟨h,D,rfl,h0,h1,lD,hD,hn,hR⟩ := q_)
  refine ⟨rfl,?_⟩
  have l60:∀c∈D,c.length<=60:=λc hc=>Kw ((hD c hc).up (show (h:Int)<=60 by omega))
  have eU:(D.map λc=>Om c (Ub h))=D:=by
   have e:(D.map λc=>Om c (Ub h))=D.map id:=Ii λc hc=>(Pu (Sn h) (hD c hc).1).trans (sI (hD c hc))
   rw[e,List.map_id]
  have uR:Fd h (Ub h):=⟨Sn h,λx hx=>by
   obtain ⟨k,hk,rfl⟩:=Bq.mp hx
   have:=Cu.mp hk
   omega⟩
  have uM:Ub h∈Xd h h:=A0.mpr (cw_iff.mpr ⟨by unfold Ub; simp,uR⟩)
  array_get_dec
  refine ⟨by omega,by omega,?_⟩
  rw[show ((h:Int)+1).toNat=h+1 by omega]
  refine Rh (l:=Bh (h+1)) (g:=λi:Nat=>.int i) rfl (λi δ=>(∃(v3 v4 v5:DV),δ=⟨[.drw,.dat .sh (.int h),.dat .sh (.list (D.map Au)),v3,v4,v5,.un,.un],n⟩/\NP v3/\NP v4/\NP v5)/\∀k,k<i->∀p∈Xd h k,¬ (D.map λc=>Om c p).Nodup) ?_ ?_ ?_
  ·exact ⟨⟨_,_,_,rfl,Ge,Ge,Ge⟩,λk z=>absurd z (Dw _)⟩
  ·(intro i a _ ha q_; obtain ⟨⟨v3,v4,v5,rfl,hv3,hv4,hv5⟩,hall⟩ := q_)
   obtain ⟨rfl,hi⟩:=Ru ha
   array_get_dec
   refine ⟨h,a,rfl,by omega,by omega,by omega,?_⟩
   rw[Df]
   array_get_dec
   refine Uo (l:=Xd h a) (g:=Au) rfl (λp=>@decide ((D.map λc=>Om c p).Nodup) (Aw _)) Au (λp hp yes no hy hn=>?_) ?_
   ·array_get_dec
    refine ⟨D,p,rfl,by omega,l60,λnd=>?_,λnd=>?_⟩
    ·array_get_dec
     exact hy (@decide_eq_true _ (Aw _) nd)
    ·array_get_dec
     exact hn (@decide_eq_false _ (Aw _) nd)
   have mem:∀p∈(Xd h a).filter (λp=>@decide ((D.map λc=>Om c p).Nodup) (Aw _)),p∈Xd h a:=λp hp=>(Er.mp hp).1
   have nil:(Xd h a).filter (λp=>@decide ((D.map λc=>Om c p).Nodup) (Aw _))=[]->∀p∈Xd h a,¬ (D.map λc=>Om c p).Nodup:=λe p hp nd=>Ma.mp e p hp (@decide_eq_true _ (Aw _) nd)
   have lc:=iT (h:=h) (by omega) a
   have ls:=List.length_filter_le (λp=>@decide ((D.map λc=>Om c p).Nodup) (Aw _)) (Xd h a)
   generalize (Xd h a).filter (λp=>@decide ((D.map λc=>Om c p).Nodup) (Aw _))=S at mem nil ls
   array_get_dec
   cases S with
   | nil =>
    array_get_dec
    refine ⟨⟨_,_,_,rfl,Ey,hv4,Ey⟩,λk hk p hp=>?_⟩
    by_cases z:k=a
    ·subst z; exact nil rfl p hp
    ·exact hall k (by omega) p hp
   | cons p0 S =>
   array_get_dec
   refine ⟨rfl,by omega,λr1=>?_⟩
   array_get_dec
   rw[Ad]
   have bl:=Qd r1 (b:=((S.length+1:Nat):Int)) (by omega)
   have eS:Fp (p0.map Ax)::S.map Au=(p0::S).map Au:=rfl
   obtain ⟨p,hp,e⟩:=dP (ws:=p0::S) bl.1 (by rw[Be]; exact bl.2)
   have hp:=mem p hp
   refine ⟨by omega,Au p,?_,?_⟩
   ·rw[<- e,Int.natCast_succ]; rfl
   array_get_dec
   refine ⟨h,D,(a:Int) - 1,rfl,by omega,by omega,by omega,lD,l60,by omega,λP n' lP hP n1 n2=>?_⟩
   array_get_dec
   rw[show (1000:Int) * (a:Int)=((1000 * a:Nat):Int) by omega,Kz,<- Nh]
   exact ⟨by omega,hR _ _ (.inr ⟨p,P.take (1000 * a),(cw_iff.mp (A0.mp hp)).2,fun q hq=>hP q (Nt hq),by rw [Fl]; omega,rfl⟩) (by omega) (by omega)⟩
  ·(intro _ q_; obtain ⟨⟨v3,v4,v5,rfl,hv3,hv4,hv5⟩,hall⟩ := q_)
   rw[Cy] at hall
   have nnd:¬ D.Nodup:=λz=>hall h (by omega) (Ub h) uM (by rw[eU]; exact z)
   array_get_dec
   have ez:((D.map Au).zipIdx.map λp=>Fp [.int (p.2:Int),p.1])=D.zipIdx.map λp=>.tuple [.int (p.2:Int),Au p.1]:=by rw[rD,Fg]; rfl
   rw[ez]
   refine Rh (l:=D.zipIdx) (g:=λp=>.tuple [.int (p.2:Int),Au p.1]) rfl (λi δ=>(∃(v6 v7:DV),δ=⟨[.drw,.dat .sh (.int h),.dat .sh (.list (D.map Au)),v3,v4,v5,v6,v7],n⟩/\NP v6/\NP v7)/\(D.take i).Nodup) ?_ ?_ ?_
   ·exact ⟨⟨_,_,rfl,Ge,Ge⟩,Cv⟩
   ·(intro i q _ hq q_; obtain ⟨⟨v6,v7,rfl,hv6,hv7⟩,nd⟩ := q_)
    obtain ⟨eq',hq1⟩:=eL hq
    have hi:=(Av.mp hq1).1
    array_get_dec
    rw[eq',Kz,<- Nh]
    array_get_dec
    refine Pc (λz=>?_) (λz=>?_)
    ·have z:=of_decide_eq_true z
     array_get_dec
     have mq:q.1∈D:=Bg hq1
     obtain ⟨b,hb,eb⟩:=nO mq
     refine ⟨b,eb,?_⟩
     array_get_dec
     exact ⟨by omega,hR _ _ (.inl ⟨b,i,by omega,by omega,rfl⟩) (by omega) (by omega)⟩
    ·have z:=of_decide_eq_false z
     array_get_dec
     refine ⟨⟨_,_,rfl,Ey,Ey⟩,?_⟩
     rw[Dy hi,(Av.mp hq1).2]
     exact aA nd z
   ·rintro _ ⟨_,nd⟩
    rw[Je,Gb] at nd
    exact absurd nd nnd
end
end K57
namespace DL
open PySem PySem.Spec PyProof.Rows L2 Nd
def Us:D2:=λx y P=>match x,y with
 | .dat m (.tuple ds),.dat _ (.tuple es)=>m≠.pk/\Du es=true/\ds≠[]/\es≠[]/\ds.length+es.length<=1000000/\P (.dat .sh (.tuple (ds++es)))
 | _,_=>False
theorem zZ{K:PySem.W.Frag}:gO K (zN K) Us:=by
 intro H0 X n S T x y v w F G H Q P hA hd k
 unfold Us at hd
 split at hd
 ·rename_i m ds m' es
  obtain ⟨i1,i2,n1,n2,hz,p⟩:=hd
  obtain ⟨b,ys,rfl,hb,rb,zb⟩:=(hA.told mem_mid).tup_inv
  obtain ⟨a,xs,rfl,ha,ra,za⟩:=(hA.told Ek).tup_inv
  have l1:=ra.len
  have l2:=rb.len
  obtain rfl:=rb.imm i2
  refine ⟨a,b,xs,ys,rfl,rfl,Uj.of ha,Uj.of hb,fP (by omega),λe=>?_,λe=>?_,λq hq=>?_⟩
  ·subst e
   exact absurd (Eo.mp l1.symm) n1
  ·subst e
   exact absurd (Eo.mp l2.symm) n2
  ·have s1:=Ff hq (.tup (xs++ys))
   have sx:=Ba.mp hA.drop.mid.sep
   refine k _ _ _ _ (((hA.drop2.grow (n':=n) s1 (An _)).push (e:=⟨some (.ref q),.dat .sh (.tuple (ds++es)),F++[]⟩) ⟨_,rfl,.tup Dt (by rw[Az]; exact fP (by omega)) ((ra.app rb).kp (Kp.of s1)),(λz=>nomatch z),(λz=>nomatch z)⟩ (λf hf=>⟨(λ_ c hc=>nomatch hc),λhh c hc z=>?_⟩) (λc hc=>nomatch hc)).tomid) p
   rw[Ec] at z
   exact (sx.1 f hf).2 (.inl (yV i1)) c hc z
 ·exact hd.elim
theorem xU{X:Cx}{a b:Expr}{da db:DE}{pos:Pos}(ha:Em X a da)(hb:Em X b db):Em X (.BinOp a .Add b pos) (Tr Us da db):=To oZ zZ ha hb
end DL
namespace K57
open PySem L2 Nd DL
local macro_rules | `(tactic| array_get_dec) => do
  let ids:=(("e_lenSet e_lsB e_callWV e_callWVB e_idx e_idxB e_idxC e_seq e_skip e_ret e_if e_asg e_name e_name2 e_name4 e_own e_own2 e_nF e_gtup e_gtup_w1 e_gsn e_gsc e_op e_var e_c e_imm e_immB e_take e_I e_I0 e_eqF e_eqT e_inFl e_inTl e_inFt_w1 e_isNT e_ixl e_ixt e_ixt_w1 e_cat e_catT e_catT_w1 e_catT_w2 e_nlT e_nlF e_ntT e_ntF e_pkOfsh e_pkOfow e_mdInsh e_mdInow e_mdNewsh e_mdItsh e_mdItow e_nil e_cons e_tup e_lst e_noPart e_part e_partB e_sl e_slBl e_slBt e_slBt_w1 e_cb e_lenl e_lent e_lent_w1 e_listl e_listt e_listt_w1 e_tuplel e_intb e_max2 e_min2 e_all e_isi e_str e_v e_b e_bB e_notT e_andT e_orT e_orTt e_orTf e_not e_notB e_and e_andt e_andf e_neg e_negB e_dL e_dTp e_lB e_tpB e_tpB_w1 e_range1 e_rng1B e_enum e_enumB e_for e_comp e_compL e_stepL e_stepLT e_stepLF e_noTest e_step e_stepT e_stepF e_yesB e_call e_callW e_draws e_drawsB e_append e_revT e_appendO e_stepK e_stepKB e_aug e_augB e_scrSl e_dnew e_dput e_tagD e_callA e_ssT e_ssTt e_tr e_trB ow_npk retWT callAB retA retA_sh retA_ow retA_tp isDct dputB dk_e dget_e dinF_e callB callBW tupB lstB datas pkMd allOw noPk appB appOB mmd revTB own1 npk retE retW retL args0 frD frD1 alD List.map_cons List.map_nil List.replicate List.getElem?_cons_zero List.getElem?_cons_succ List.set_cons_zero List.set_cons_succ List.cons_append List.nil_append Option.map_some List.length_cons List.length_nil List.append_nil rdAdd rdSub rdMul rdDiv rdMod rdLt rdLe rdGt rdGe if_true if_false Bool.false_eq_true List.append_assoc Nat.reduceAdd Nat.reduceSub Nat.reduceLeDiff true_and im_e ima_e dp_e dpa_e any_int any_word eqD_intd eqD_word eqD_bl eqD_str eqD_lw eqD_li eqD_l0 ow_e tt_e cdiv_e cmul_l Int.reduceLT Int.reduceNeg and_self fold_w isi_li isi_tt isi_bb Bool.not_true Bool.not_false decide_true String.reduceEq or_true true_or List.isEmpty_nil ifB_lt ifB_lf isi_ss str_self Int.cast_ofNat_Int Int.reduceEq atI_0 atI_1 atI_2 some_e dec_self isE_cons yesL_sh catL_shtp catL_tpow catL_tptp st_places_same" : String).splitOn " ").toArray.map λ(x:String)=>Lean.mkIdent x.toName
  `(tactic| try simp only [$[↓$ids:ident],*])
def uO:Ac->Bool
 | .bool _=>false
 | _=>true
def Ti(x:Ac):Prop:=x.depth<=10/\Kf 12 x/\Gi x<=4/\Mw x=true
def Wa(x:Ac):Prop:=Ti x/\uO x=true
theorem kI{xs:List Ac}(h:∀x∈xs,Mw x=true):Rj xs=true:=by
 have:=Sj (g:=λx=>x) h
 rwa [Gd] at this
theorem gP{xs:List Ac}(h:∀x∈xs,uO x=true):P7 xs=false:=by
 unfold P7
 split
 ·rename_i a b c
  have:=h (.bool c) (by simp)
  cases this
 ·rfl
def Sm(x:Ac):Prop:=x.depth<=20/\Kf 12 x/\Gi x<=5000/\(∀l,x=.list l->l.length<=1100)/\Mw x=true
def uG(x:Ac):Prop:=x.depth<=40/\AQ x/\Kf 12 x/\Gi x<=25000/\Mw x=true
theorem Od{i:Int}(h:i.natAbs<1000000):Wa (.int i):=⟨⟨by simp [Bx],by rw[Kf]; omega,by simp [Gi],rfl⟩,rfl⟩
theorem P6{b:Bool}:Ti (.bool b):=⟨by simp [Bx],by simp [Kf],by simp [Gi],rfl⟩
theorem M6:Wa .none:=⟨⟨by simp [Bx],by simp [Kf],by simp [Gi],rfl⟩,rfl⟩
theorem Iv{l:List Int}(h:∀i∈l,i.natAbs<1000000)(k:l.length<=3)(t:Bool):Wa (match t with | true=>.tuple (l.map Ax) | false=>.list (l.map Ax)):=by
 have hf:Kq 12 (l.map Ax):=lC.mpr λx hx=>by
  obtain ⟨i,hi,rfl⟩:=Bq.mp hx
  have:=h i hi
  rw[Kf]; omega
 have hn:=oR (ns:=l)
 have hd:=Qb (k:=0) (xs:=l.map Ax) λx hx=>by
  obtain ⟨i,hi,rfl⟩:=Bq.mp hx
  simp [Bx]
 have hr:Rj (l.map Ax)=true:=Sj λi _=>rfl
 have hb:P7 (l.map Ax)=false:=gP λx hx=>by
  obtain ⟨i,hi,rfl⟩:=Bq.mp hx
  rfl
 cases t
 ·exact ⟨⟨by simp only[Bx]; omega,by rw[Kf]; exact hf,by rw[Gi,hn]; omega,by simp only[Mw]; rw[hr,hb]; rfl⟩,rfl⟩
 ·exact ⟨⟨by simp only[Bx]; omega,by rw[Kf]; exact hf,by rw[Gi,hn]; omega,by simp only[Mw]; exact hr⟩,rfl⟩
theorem Ti.sm{x:Ac}(h:Ti x):Sm x:=⟨by have:=h.1; omega,h.2.1,by have:=h.2.2.1; omega,λl e=>by
 have:=h.2.2.1
 rw[e,Gi] at this
 have n1:∀l:List Ac,l.length<=Gu l:=λl=>by
  induction l with
  | nil=>simp [Gu]
  | cons y l ih =>
   have : 1<=Gi y:=by cases y <;> simp [Gi]
   rw[Gu,Be]
   omega
 have:=n1 l
 omega,h.2.2.2⟩
theorem Wa.sm{x:Ac}(h:Wa x):Sm x:=h.1.sm
theorem nH{s:Str}(h:(reprText s).length<=12):Sm (.str s):=⟨by simp [Bx],by rw[Kf]; exact h,by simp [Gi],(λl e=>nomatch e),rfl⟩
theorem Mj{xs:List Ac}(h:∀x∈xs,Wa x)(k:xs.length<=1100):Sm (.list xs):=by
 have hd:=Qb (k:=10) (xs:=xs) λx hx=>(h x hx).1.1
 have hn:=Mm (m:=4) (xs:=xs) λx hx=>(h x hx).1.2.2.1
 refine ⟨by simp only[Bx]; omega,by rw[Kf]; exact lC.mpr λx hx=>(h x hx).1.2.1,by rw[Gi]; omega,λl e=>?_,by simp only[Mw]; rw[kI λx hx=>(h x hx).1.2.2.2,gP λx hx=>(h x hx).2]; rfl⟩
 injection e with e
 rw[<- e]
 exact k
theorem pB{xs:List Ac}(h:∀x∈xs,Ti x)(k:xs.length<=1100):Sm (.tuple xs):=by
 have hd:=Qb (k:=10) (xs:=xs) λx hx=>(h x hx).1
 have hn:=Mm (m:=4) (xs:=xs) λx hx=>(h x hx).2.2.1
 exact ⟨by simp only[Bx]; omega,by rw[Kf]; exact lC.mpr λx hx=>(h x hx).2.1,by rw[Gi]; omega,(λl e=>nomatch e),by simp only[Mw]; exact kI λx hx=>(h x hx).2.2.2⟩
theorem Qn{xs:List Ac}(h:∀x∈xs,Wa x)(k:xs.length<=1100):Sm (.tuple xs):=pB (λx hx=>(h x hx).1) k
theorem Yp{xs:List Ac}(h:∀x∈xs,Sm x)(k:xs.length<=4):uG (.tuple xs):=by
 have hd:=Qb (k:=20) (xs:=xs) λx hx=>(h x hx).1
 have hn:=Mm (m:=5000) (xs:=xs) λx hx=>(h x hx).2.2.1
 refine ⟨by simp only[Bx]; omega,λa b l e=>?_,by rw[Kf]; exact lC.mpr λx hx=>(h x hx).2.1,by rw[Gi]; omega,by simp only[Mw]; exact kI λx hx=>(h x hx).2.2.2.2⟩
 injection e with e
 exact (h (.list l) (by rw[e]; simp)).2.2.2.1 l rfl
theorem wX{xs:List Ac}(h:∀x∈xs,Sm x)(k:xs.length<=4)(b:P7 xs=false):uG (.list xs):=by
 have hd:=Qb (k:=20) (xs:=xs) λx hx=>(h x hx).1
 have hn:=Mm (m:=5000) (xs:=xs) λx hx=>(h x hx).2.2.1
 exact ⟨by simp only[Bx]; omega,(λa b l e=>nomatch e),by rw[Kf]; exact lC.mpr λx hx=>(h x hx).2.1,by rw[Gi]; omega,by simp only[Mw]; rw[kI λx hx=>(h x hx).2.2.2.2,b]; rfl⟩
theorem yS{x:Ac}(h:Sm x)(k:∀xs,x≠.tuple xs):uG x:=⟨by have:=h.1; omega,(λa b l e=>absurd e (k _)),h.2.1,by have:=h.2.2.1; omega,h.2.2.2.2⟩
theorem DM{x y z:Ac}(a:Sm x)(b:Sm y)(c:Sm z):uG (.tuple [x,y,z]):=Yp (λw hw=>by
 simp only[Ai,Bk,or_false] at hw
 rcases hw with rfl | rfl | rfl
 ·exact a
 ·exact b
 ·exact c) (by simp)
theorem dX{D:List (List Int)}{q:List Int}(l:D.length<=12)(h:He D q):Wa (Au q):=by
 obtain ⟨a,b,rfl,lt,lb⟩:=h
 exact Iv (l:=[(a:Int),(b:Int)]) (λi hi=>by
  simp only[Ai,Bk,or_false] at hi
  omega) (by simp) true
def jH:DF:=λds n R=>∃(h:Nat) (D:List (List Int)) (T:Ac),ds=[.int h,.list (D.map Au),T]/\1<=h/\h<=7/\D.length<=12/\(∀c∈D,Fd h c)/\n<=70000/\K0 h D T/\∀(L:List Ac) n',(∀x∈L,uG x)->(∃ds r,L=.tuple ds::r)->n<=n'->n'<=n+1100->R (.list L) n'
theorem X8{s:Str}{y z:Ac}(a:Sm (.str s))(b:Sm y)(c:Sm z):uG (.list [.str s,y,z]):=wX (λw hw=>by
 simp only[Ai,Bk,or_false] at hw
 rcases hw with rfl | rfl | rfl
 ·exact a
 ·exact b
 ·exact c) (by simp) rfl
theorem AA{x y z u:Ac}(a:Sm x)(b:Sm y)(c:Sm z)(d:Sm u):uG (.tuple [x,y,z,u]):=Yp (λw hw=>by
 simp only[Ai,Bk,or_false] at hw
 rcases hw with rfl | rfl | rfl | rfl
 ·exact a
 ·exact b
 ·exact c
 ·exact d) (by simp)
theorem FR{x y z:Ac}(a:Sm x)(b:Sm y):uG (.tuple (Ic [x,y,z] none (some 2))):=by
 rw[show (2:Int)=((2:Nat):Int) from rfl,Kz]
 exact Yp (λw hw=>by
  rw[show [x,y,z].take 2=[x,y] from rfl] at hw
  simp only[Ai,Bk,or_false] at hw
  rcases hw with rfl | rfl
  ·exact a
  ·exact b) (by simp)
theorem qS{x y z:Ac}(a:imm x=true)(b:imm y=true):imm (.tuple (Ic [x,y,z] none (some 2)))=true:=by
 rw[show (2:Int)=((2:Nat):Int) from rfl,Kz,show [x,y,z].take 2=[x,y] from rfl]
 simp [imm,Du,a,b]
theorem all_cons{x:Ac}{l:List Ac}{p:Ac->Prop}(a:p x)(b:∀y∈l,p y):∀y∈x::l,p y:=List.forall_mem_cons.mpr ⟨a,b⟩
theorem Qg{p:Ac->Prop}:∀y∈([]:List Ac),p y:=λy z=>nomatch z
theorem Nn{k l:List Ac}{p:Ac->Prop}(a:∀y∈k,p y)(b:∀y∈l,p y):∀y∈k++l,p y:=List.forall_mem_append.mpr ⟨a,b⟩
theorem Rf{P:List Ac}{lo hi:Option Int}(h:∀x∈P,Wa x):∀x∈Ic P lo hi,Wa x:=λx hx=>h x ((Oe _ _ _).subset hx)
theorem E2{l:Nat}{b:Bool}(hl:l<=1024):∃k:Int,(if b=true then (1000:Int) / (if (l:Int) > 1 then (l:Int) else 1) else 1)=k/\0<=k/\k<=1000/\l * k.toNat<=1024:=by
 refine ⟨_,rfl,?_⟩
 cases b with
 | false=>exact ⟨by simp,by simp,by simpa using hl⟩
 | true =>
  simp only[if_true]
  by_cases c:(l:Int) > 1
  ·rw[if_pos c]
   have h1:=Int.ediv_mul_le (1000:Int) (b:=(l:Int)) (by omega)
   have h2:=Int.ediv_nonneg (a:=(1000:Int)) (b:=(l:Int)) (by decide) (by omega)
   have h3:=Int.ediv_le_self (a:=(1000:Int)) (l:Int) (by decide)
   generalize (1000:Int) / (l:Int)=k at h1 h2 h3
   obtain ⟨m,rfl⟩:=oW h2
   refine ⟨by omega,by omega,?_⟩
   have : ((m * l:Nat):Int)<=1000:=by rw[Int.natCast_mul]; exact h1
   rw[Df,Za]
   omega
  ·rw[if_neg c]
   refine ⟨by decide,by decide,?_⟩
   rw[show ((1000:Int) / 1).toNat=1000 from rfl]
   omega
section
variable{P:Bs}{w:World}{K:PySem.W.Frag}{mg:Str->Option Value}{base:Heap}
theorem aI:FnScope ["_law_draws_here", "_law_holes", "_law_deck_here", "_law_paper", "_law_word", "_law_one", "_law_two", "_law_number", "_law_told", "_law_at_here", "_law_place", "_law_less", "_law_more", "_law_fewer", "_law_pair"] ["_law_draws_here", "_law_holes", "_law_deck_here", "_law_paper"] (Bo Mc):=⟨rfl,rfl,rfl,by decide +kernel,rfl,by decide +kernel,by decide +kernel⟩
theorem Zd{f f_L_next f_L_pairs  : Addr}{fd d_L_next d_L_pairs:Cg}(F:Fun K "_law_things" "_law_things" Mc f fd)(G_L_next:FnOk P w K mg base Fw 1 f_L_next d_L_next ["_law_draws_here"] (bU K Rp))(b_L_next:Binds K d_L_next ["_law_draws_here"] [])(k_L_next:PySem.W.keepIn K (.ref f_L_next)=true)(m_L_next:mg "_law_next" = some (.ref f_L_next))(G_L_pairs:FnOk P w K mg base Fw 3 f_L_pairs d_L_pairs ["_law_draws_here", "_law_holes", "_law_deck_here", "_law_many"] (bU K (fZ)))(b_L_pairs:Binds K d_L_pairs ["_law_draws_here", "_law_holes", "_law_deck_here", "_law_many"] [])(k_L_pairs:PySem.W.keepIn K (.ref f_L_pairs)=true)(m_L_pairs:mg "_law_pairs" = some (.ref f_L_pairs))(mz_len:mg "len" = none)(mz_list:mg "list" = none)(mz_tuple:mg "tuple" = none)(mz_range:mg "range" = none)(mz_max:mg "max" = none)(mz_sorted:mg "sorted" = none)(mz_set:mg "set" = none)(mz_int:mg "int" = none):FnOk P w K mg base Fw 4 f fd ["_law_draws_here", "_law_holes", "_law_deck_here", "_law_paper"] (mJ K (jH)):=by
  refine' kZ (k:=3) F aI (λcdv A outer s H E hr=>?hb) ?h
  case hb =>
    have hr1:Room 1 _:=hr.mono (by decide)
    have hr2:Room 2 _:=hr.mono (by decide)
    have hr3:Room 3 _:=hr.mono (by decide)
    have hu64:=hr.units
    have CS1:∀{scope:Scope} (h:scope={ kind:=.function,names:=[(".0",.local),("_law_k",.local),("int",.globalImplicit)],isGenerator:=false,isCoroutine:=false }),
        CompScope (Lq Fw P w K mg base ["_law_draws_here", "_law_holes", "_law_deck_here", "_law_paper", "_law_word", "_law_one", "_law_two", "_law_number", "_law_told", "_law_at_here", "_law_place", "_law_less", "_law_more", "_law_fewer", "_law_pair"] "_law_things" (Bo Mc) f cdv A outer s H E).nox scope [] "_law_k" [] []:=by
      rintro scope rfl
      exact Nd.compScope0 (by rfl) (by decide +kernel) (by rfl) (by decide +kernel) (by rfl) (by rfl)
    refine' Bn (zB (Af (pv 3)) (Zx (n:=3) rfl (Ir (Ew (i:=4) aI.nd rfl (Ci rfl)) (Ir (Ew (i:=5) aI.nd rfl (Ci rfl)) (Ir (Ew (i:=6) aI.nd rfl (Ci rfl)) Vg))))) ?w0
    case w0 =>
     refine' Bn (Ej (i:=7) aI.nd rfl (Ci rfl) (Ll (Gp G_L_next hr1 rfl m_L_next k_L_next b_L_next Ef (pv 0) Aj) (Ri (Cj Es Hf rfl mz_len (by decide +kernel) (Aa (Af (pv 2)) Aj)) Bm))) ?w1
     case w1 =>
      refine' Bn (Kr (i:=8) aI.nd rfl (Ci rfl) ?e2) ?w2
      case e2 =>
       refine' Ep ?a2_0
       case a2_0 =>
        refine' Aa (Af (pv 3)) ?a2_1
        case a2_1 =>
         refine' Aa (Fo Yo (Yw (i:=false)) rfl mz_list (by decide +kernel) (Aa (Af (pv 3)) Aj)) ?a2_2
         case a2_2 =>
          refine' Aa (xU (Af (pv 3)) (Dd (Aa Bm Aj))) ?a2_3
          case a2_3 =>
           refine' Aa (Dm (Jo (i:=false) (Af (pv 3)) Ip (Iq Bm))) ?a2_4
           case a2_4 =>
            refine' Aa (Dd (Aa Ja (Aa (Dm (Af (pv 5))) (Aa (Af (pv 6)) Aj)))) ?a2_5
            case a2_5 =>
             refine' Aa (Dd (Aa Rn (Aa (Dm (Af (pv 5))) (Aa (Af (pv 6)) Aj)))) ?a2_6
             case a2_6 =>
              refine' Aa Rn ?a2_7
              case a2_7 =>
               refine' Aa Ja ?a2_8
               case a2_8 =>
                refine' Aa (Dd Aj) ?a2_9
                case a2_9 =>
                 exact Aj
      case w2 =>
       refine' Bn (Kr (i:=8) aI.nd rfl (Ci rfl) (Li (Mg (pv 8)) (Ep (Aa (Dd (Aa Ja (Aa (Dm (Af (pv 7))) (Aa (Ri (Af (pv 7)) Bm) Aj)))) (Aa (Dd (Aa Ja (Aa (Dm (Af (pv 7))) (Aa (Dm (Af (pv 7))) Aj)))) (Aa (Dd (Aa Ja (Aa (Lw Bm Bm) (Aa (Dm (Af (pv 7))) Aj)))) Aj)))))) ?w3
       case w3 =>
        refine' Bn (Kr (i:=8) aI.nd rfl (Ci rfl) (Li (Mg (pv 8)) (Ep (Aa (Dd (Aa Ja (Aa Hw (Aa Hw Aj)))) (Aa (Dd (Aa Ja (Aa Bm (Aa Rn Aj)))) (Aa (Dd (Aa Ja (Aa (Dd Aj) (Aa (Ep Aj) Aj)))) (Aa (Dd (Aa Ja (Aa (fA rfl rfl mz_tuple rfl mz_range (Af (pv 1))) (Aa (Ep Aj) Aj)))) Aj))))))) ?w4
        case w4 =>
         refine' Bn (Gh (Pp hu64 (Af (pv 4)) Ja)
      (Cf (Cz (Li (Mg (pv 8)) (Ep (Aa (Dd (Aa (Dm (Af (pv 4))) (Aa (Af (pv 6)) (Aa (Dm (Af (pv 5))) Aj)))) (Aa (Dd (Aa Ja (Aa (fA rfl rfl mz_tuple rfl mz_range (Af (pv 1))) (Aa (Ep (Aa (Dd (Aa (Dm (Af (pv 5))) (Aa (Af (pv 6)) Aj))) Aj)) Aj)))) Aj)))))) Fc) ?w5
         case w5 =>
          refine' Bn (Ej (i:=9) aI.nd rfl (Ci rfl) (Ll (Gp G_L_next hr1 rfl m_L_next k_L_next b_L_next Ef (pv 0) Aj) (Cj (Sv rfl) Ys rfl mz_max (by decide +kernel) (Aa Bm (Aa (Cj Es Hf rfl mz_len (by decide +kernel) (Aa (Af (pv 6)) Aj)) Aj))))) ?w6
          case w6 =>
           refine' Bn (Ej (i:=10) aI.nd rfl (Ci rfl) (Ll (Gp G_L_next hr1 rfl m_L_next k_L_next b_L_next Ef (pv 0) Aj) (Af (pv 1)))) ?w7
           case w7 =>
            refine' Bn (Ej (i:=11) aI.nd rfl (Ci rfl) (Sr (Jo (i:=true) (Af (pv 5)) Ip (Iq (Af (pv 10)))) (Jo (i:=true) (Af (pv 5)) (Iq (Ri (Af (pv 10)) Bm)) Ip))) ?w8
            case w8 =>
             refine' Bn (Ej (i:=12) aI.nd rfl (Ci rfl) (Fo Og (Oi (i:=true)) rfl mz_tuple (by decide +kernel) (Aa (Q7 rfl rfl mz_sorted rfl mz_set (Aa (Sr (Af (pv 5)) (Dd (Aa (Dm (Af (pv 10))) Aj))) Aj)) Aj))) ?w9
             case w9 =>
              refine' Bn (Ej (i:=13) aI.nd rfl (Ci rfl) (Gp G_L_pairs hr3 rfl m_L_pairs k_L_pairs b_L_pairs Ef (pv 0) (Aa (Af (pv 1)) (Aa (Af (pv 2)) (Aa (Cj (Sv rfl) Ys rfl mz_max (by decide +kernel) (Aa Bm (Aa (Lw (Cj Es Hf rfl mz_len (by decide +kernel) (Aa (Af (pv 11)) Aj)) Bm) Aj))) Aj))))) ?w10
              case w10 =>
               refine' Bn (Kr (i:=8) aI.nd rfl (Ci rfl) (Li (Mg (pv 8)) (Ep (Aa (Dd (Aa (Dm (Af (pv 4))) (Aa (Dm (Af (pv 11))) (Aa (Af (pv 13)) Aj)))) (Aa (Dd (Aa (Dm (Af (pv 4))) (Aa (Dm (Af (pv 12))) (Aa (Af (pv 6)) Aj)))) (Aa (Dd (Aa (Dm (Af (pv 4))) (Aa (Dm (Af (pv 5))) (Aa (Ep Aj) Aj)))) Aj)))))) ?w11
               case w11 =>
                refine' Bn (Kr (i:=8) aI.nd rfl (Ci rfl) (Li (Mg (pv 8)) (Ep (Aa (Dd (Aa (Dm (Af (pv 4))) (Aa (Dm (Af (pv 5))) (Aa (Li (Jo (i:=false) (Af (pv 6)) Ip (Iq (Af (pv 9)))) (Jo (i:=false) (Af (pv 6)) (Iq (Ri (Af (pv 9)) Bm)) Ip)) Aj)))) (Aa (Dd (Aa (Dm (Af (pv 4))) (Aa (Dm (Af (pv 5))) (Aa (Li (Af (pv 6)) (Jo (i:=false) (Af (pv 6)) Ip (Iq Bm))) Aj)))) (Aa (Dd (Aa (Dm (Af (pv 4))) (Aa (Dm (Af (pv 5))) (Aa (wA (i:=false) (Af (pv 6)) (zP Bm)) Aj)))) Aj)))))) ?w12
                case w12 =>
                 refine' Bn (Jq Cw rfl (tT ?e13) (Ew (i:=14) aI.nd rfl (Ci rfl))
      (Cf (aO (pv 8) (Dd (Aa (Dm (Af (pv 4))) (Aa (Dm (Af (pv 5))) (Aa (Li (Af (pv 6)) (Ep (Aa (Af (pv 14)) Aj))) Aj))))))) ?w13
                 case e13 =>
                  refine' Ep ?a13_0
                  case a13_0 =>
                   refine' Aa (Dd (Aa Bm (Aa Bm Aj))) ?a13_1
                   case a13_1 =>
                    refine' Aa (Dd (Aa Bm (Aa Bm Aj))) ?a13_2
                    case a13_2 =>
                     refine' Aa (Dd (Aa Bm (Aa (Cj Es Hf rfl mz_len (by decide +kernel) (Aa (Af (pv 2)) Aj)) Aj))) ?a13_3
                     case a13_3 =>
                      refine' Aa (Dd (Aa (Lw Bm Bm) (Aa Bm Aj))) ?a13_4
                      case a13_4 =>
                       refine' Aa (Dd (Aa Hw (Aa Hw Aj))) ?a13_5
                       case a13_5 =>
                        refine' Aa (Ep (Aa Bm (Aa Bm Aj))) ?a13_6
                        case a13_6 =>
                         refine' Aa (Dd (Aa Bm (Aa Bm (Aa Bm Aj)))) ?a13_7
                         case a13_7 =>
                          refine' Aa (Dd (Aa Bm Aj)) ?a13_8
                          case a13_8 =>
                           refine' Aa Rn ?a13_9
                           case a13_9 =>
                            refine' Aa (Dd (Aa Bm (Aa Bm Aj))) ?a13_10
                            case a13_10 =>
                             exact Aj
                 case w13 =>
                  refine' Bn (Kr (i:=8) aI.nd rfl (Ci rfl) (Li (Mg (pv 8)) (Ep (Aa (Dd (Aa (Dm (Af (pv 4))) (Aa (u9 (Af (pv 5)) (J4 vY Fi) (λ_ _ _ h=>⟨_,rfl,h⟩)) (Aa (Af (pv 6)) Aj)))) (Aa (Dd (Aa (Dm (Af (pv 4))) (Aa (Sr (Af (pv 5)) (Dd (Aa (Dm (Af (pv 1))) Aj))) (Aa (Af (pv 6)) Aj)))) (Aa (Dd (Aa (Dm (Af (pv 4))) (Aa (Sr (Dd (Aa (Lw Bm Bm) Aj)) (Af (pv 5))) (Aa (Af (pv 6)) Aj)))) Aj)))))) ?w14
                  case w14 =>
                   refine' Bn (Kr (i:=8) aI.nd rfl (Ci rfl) (Li (Mg (pv 8)) (Ep (Aa (Dd (Aa (Dm (Af (pv 4))) (Aa (Fo Yo (Yw (i:=true)) rfl mz_list (by decide +kernel) (Aa (Af (pv 5)) Aj)) (Aa (Af (pv 6)) Aj)))) (Aa (Dd (Aa (Dm (Af (pv 4))) (Aa (Dm (Af (pv 5))) (Aa (Fo Og (Oi (i:=false)) rfl mz_tuple (by decide +kernel) (Aa (Af (pv 6)) Aj)) Aj)))) (Aa (Dd (Aa (Dm (Af (pv 4))) (Aa (Dm (Af (pv 5))) (Aa Rn Aj)))) Aj)))))) ?w15
                   case w15 =>
                    refine' Bn (aO (pv 8) (Dd (Aa (Dm (Af (pv 4))) (Aa (Dm (Af (pv 5))) (Aa (V9 (Af (pv 6)) (Ed (Ep (Aa Bm (Aa (Wr Bm (Cj (Sv rfl) Ys rfl mz_max (by decide +kernel) (Aa Bm (Aa (Cj Es Hf rfl mz_len (by decide +kernel) (Aa (Af (pv 6)) Aj)) Aj)))) Aj))) (Fo Wd mK rfl mz_int (by decide +kernel) (Aa (Tn hu64 (Ll (Af (pv 7)) Bm) Bm) Aj)))) Aj))))) ?w16
                    case w16 =>
                     exact Cf (Cz (Li (Mg (pv 8)) (Ep (Aa (Dd (Aa (Dm (Af (pv 4))) (Aa (Fo Og (Oi (i:=true)) rfl mz_tuple (by decide +kernel) (Aa (Mf (CS1 rfl) rfl (W5 (Af (pv 5))) (λ_ _ _=>Vn) (λ_ _ _=>Ed (Ep (Aa (Dm (Af (pv 0))) (Aa (Tn hu64 (Af (pv 0)) Bm) Aj))) (Fo Wd mK rfl mz_int (by decide +kernel) (Aa (kO (Af (pv 0)) Bm) Aj)))) Aj)) (Aa (Af (pv 6)) Aj)))) Aj))))
  case h =>
    (intro ds n R q_; obtain ⟨h,D,T,rfl,h0,h1,lD,hD,hn,hT,hR⟩ := q_)
    refine ⟨rfl,?_⟩
    have l60:∀c∈D,c.length<=60:=λc hc=>Kw ((hD c hc).up (show (h:Int)<=60 by omega))
    have s1:Sm (.str "same"):=nH (by decide +kernel)
    have s2:Sm (.str "places"):=nH (by decide +kernel)
    have s3:Sm (.str "Same"):=nH (by decide +kernel)
    have si:∀i:Int,i.natAbs<1000000->Sm (.int i):=λi hi=>(Od hi).sm
    have s0:Sm (.tuple []):=Qn (λx z=>nomatch z) (by decide)
    have sl:Sm (.list []):=Mj (λx z=>nomatch z) (by decide)
    have su:Sm (Au (Ub (h:Int).toNat)):=Qn (λx hx=>by
      obtain ⟨i,hi,rfl⟩:=Bq.mp hx
      obtain ⟨k,hk,rfl⟩:=Bq.mp hi
      have:=Cu.mp hk
      exact Od (by omega)) (by unfold Ub; simp; omega)
    have o1:uG (.str "places"):=yS s2 (λ_ z=>nomatch z)
    have o2:uG .none:=yS M6.sm (λ_ z=>nomatch z)
    have o3:uG (.tuple []):=Yp (λx z=>nomatch z) (by decide)
    rcases hT with ⟨i,j,hi,hj,rfl⟩ | ⟨w,P,rw_,hP,lP,rfl⟩
    · unfold eV
      array_get_dec
      refine ⟨rfl,by omega,λr1=>?_⟩
      array_get_dec
      rw[Ad]
      have bm:=Qd r1 (b:=(D.length:Int)+1) (by omega)
      generalize r1 % ((D.length:Int)+1)=m at bm
      refine ⟨by omega,?_⟩
      unfold Us
      refine ⟨nofun,rfl,nofun,nofun,by simp,?_⟩
      array_get_dec
      refine ⟨qS im im,by omega,by omega,by omega,by omega,by omega,hR _ _ ?_ ⟨_,_,rfl⟩ (by omega) (by omega)⟩
      repeat' first
        | exact Qg
        | refine all_cons ?_ ?_
        | refine Nn ?_ ?_
        | exact o1
        | exact o2
        | exact o3
        | exact FR s1 (si _ (by omega))
        | refine DM ?_ ?_ ?_
        | refine X8 ?_ ?_ ?_
        | refine AA ?_ ?_ ?_ ?_
        | exact s1
        | exact s2
        | exact s3
        | exact s0
        | exact sl
        | exact su
        | exact si _ (by omega)
        | exact P6.sm
        | exact M6.sm
        | exact Mj (all_cons (Iv (l:=[(i:Int),(j:Int)]) (λx hx=>by simp only[Ai,Bk,or_false] at hx; omega) (by simp) true) Qg) (by simp)
    · have tP:∀x∈P.map Au,Wa x:=λx hx=>by
        obtain ⟨q,hq,rfl⟩:=Bq.mp hx
        exact dX lD (hP q hq)
      have bw:∀i∈w,0<=i/\i<7:=λi hi=>by have:=rw_.2 i hi; omega
      have tw:∀x∈w.map Ax,Wa x:=λx hx=>by
        obtain ⟨i,hi,rfl⟩:=Bq.mp hx
        have:=bw i hi
        exact Od (by omega)
      have lw:=Wj rw_
      have sP:Sm (.list (P.map Au)):=Mj tP (by rw[Ad]; omega)
      have sw:Sm (Au w):=Qn tw (by rw[Ad]; omega)
      unfold Zr
      array_get_dec
      refine ⟨rfl,by omega,λr1=>?_⟩
      array_get_dec
      rw[Ad]
      have bm:=Qd r1 (b:=(D.length:Int)+1) (by omega)
      generalize r1 % ((D.length:Int)+1)=m at bm
      refine ⟨by omega,?_⟩
      unfold Us
      refine ⟨nofun,rfl,nofun,nofun,by simp,?_⟩
      array_get_dec
      refine ⟨qS im im,by omega,by omega,rfl,by omega,λr2=>?_⟩
      array_get_dec
      rw[Ad]
      refine ⟨by split <;> omega,rfl,by omega,λr3=>?_⟩
      array_get_dec
      have bh:=Qd r3 (b:=(h:Int)) (by omega)
      generalize r3 % (h:Int)=pl at bh
      refine ⟨by omega,?_⟩
      have c1:∀lo hi,(Ic (w.map Ax) lo hi).length<=w.length:=λlo hi=>by
        have:=(Oe (w.map Ax) lo hi).length_le
        rwa [Ad] at this
      have c2:∀lo hi,(Ic (P.map Au) lo hi).length<=P.length:=λlo hi=>by
        have:=(Oe (P.map Au) lo hi).length_le
        rwa [Ad] at this
      have a1:=c1 none (some pl)
      have a2:=c1 (some (pl+1)) none
      refine ⟨by omega,by rw[Ad]; omega,w++[pl],by rw[Bp]; rfl,λx hx=>?_,?_⟩
      · rcases Ay.mp hx with z | z
        · have:=bw x z; omega
        · rw[Ag.mp z]; omega
      refine ⟨h,D,_,rfl,by omega,by split <;> omega,by rw[Az]; split <;> omega,lD,l60,by omega,λQ n' lQ hQ n1 n2=>?_⟩
      have tQ:∀x∈Q.map Au,Wa x:=λx hx=>by
        obtain ⟨q,hq,rfl⟩:=Bq.mp hx
        exact dX lD (hQ q hq)
      have sQ:Sm (.list (Q.map Au)):=Mj tQ (by rw[Ad]; omega)
      have sM:Sm (Au (Yb (w++[pl]))):=by
        have bx:∀x∈w++[pl],0<=x/\x<60:=λx hx=>by
          rcases Ay.mp hx with z | z
          · have:=bw x z; omega
          · rw[Ag.mp z]; omega
        refine Qn (λx hx=>?_) ?_
        · obtain ⟨i,hi,rfl⟩:=Bq.mp hx
          have:=bx i (wM.mp hi)
          exact Od (by omega)
        · have:=jL bx
          rw[Ad]; omega
      have sL:Sm (.tuple (Ic (w.map Ax) none (some pl)++Ic (w.map Ax) (some (pl+1)) none)):=Qn (Nn (Rf tw) (Rf tw)) (by rw[Az]; omega)
      have ba:=Qd r2 (b:=if (P.length:Int) > 1 then (P.length:Int) else 1) (by split <;> omega)
      generalize (r2 % if (P.length:Int) > 1 then (P.length:Int) else 1)=ah at ba
      obtain ⟨ah,rfl⟩:=oW ba.1
      have b12:(Ic (P.map Au) none (some (ah:Int))).length+(Ic (P.map Au) (some ((ah:Int)+1)) none).length<=P.length:=by
        rw[Kz,show ((ah:Int)+1)=((ah+1:Nat):Int) by omega,DRow.cutG_from,Fl,Qx,Ad]
        omega
      have b3:(Ic (P.map Au) none (some 1)).length<=1:=by
        rw[show (1:Int)=((1:Nat):Int) from rfl,Kz]
        exact List.length_take_le _ _
      refine ⟨by omega,by rw[Ad]; omega,?_⟩
      have sC:Sm (.list (Ic (P.map Au) none (some (ah:Int))++Ic (P.map Au) (some ((ah:Int)+1)) none)):=Mj (Nn (Rf tP) (Rf tP)) (by rw[Az]; omega)
      have sD:Sm (.list (P.map Au++Ic (P.map Au) none (some 1))):=Mj (Nn tP (Rf tP)) (by rw[Az,Ad]; omega)
      have sR:Sm (.list (P.map Au).reverse):=Mj (λx hx=>tP x (List.mem_reverse.mp hx)) (by rw[Ez,Ad]; omega)
      refine Rh (g:=λx=>x) (Gd _).symm (λi δ=>∃(L:List Ac) (v3 v9 v10 v11 v12 v13 v14:DV),δ=⟨[.drw,.dat .sh (.int h),.dat .sh (.list (D.map Au)),v3,.dat .sh (.str "places"),.dat .sh (Au w),.dat .sh (.list (P.map Au)),.dat .sh (.int m),.dat .tp (.list L),v9,v10,v11,v12,v13,v14],n'⟩/\NP v3/\NP v9/\NP v10/\NP v11/\NP v12/\NP v13/\NP v14/\L.length<=22+i/\(∃ds r,L=.tuple ds::r)/\∀x∈L,uG x) ?_ ?_ ?_
      · refine ⟨_,_,_,_,_,_,_,_,rfl,Ey,Ey,Ey,Ey,Ey,Ey,Ge,by simp,⟨_,_,rfl⟩,?_⟩
        repeat' first
          | exact Qg
          | refine all_cons ?_ ?_
          | refine Nn ?_ ?_
          | exact o1
          | exact o2
          | exact o3
          | exact FR s2 sw
          | refine DM ?_ ?_ ?_
          | refine X8 ?_ ?_ ?_
          | refine AA ?_ ?_ ?_ ?_
          | exact s1
          | exact s2
          | exact s3
          | exact s0
          | exact sl
          | exact su
          | exact sw
          | exact sP
          | exact sQ
          | exact sM
          | exact sL
          | exact sC
          | exact sD
          | exact sR
          | exact si _ (by omega)
          | exact P6.sm
          | exact M6.sm
      · (intro i x _ hx q_; obtain ⟨L,v3,v9,v10,v11,v12,v13,v14,rfl,k3,k9,k10,k11,k12,k13,k14,lL,⟨d0,r0,e0⟩,hL⟩ := q_)
        have tx:Wa x:=by
          have hx:=Bg hx
          simp only[Ai,Bk,or_false] at hx
          rcases hx with rfl | rfl | rfl | rfl | rfl | rfl | rfl | rfl | rfl | rfl
          · exact Iv (l:=[1,0]) (by simp) (by simp) true
          · exact Iv (l:=[0,0]) (by simp) (by simp) true
          · exact Iv (l:=[0,((D.map Au).length:Int)]) (by rw[Ad]; intro i hi; simp only[Ai,Bk,or_false] at hi; omega) (by simp) true
          · exact Iv (l:=[0 - 1,0]) (by simp) (by simp) true
          · exact ⟨⟨by simp [Bx,Bc],by simp [Kf,Kq],by simp [Gi,Gu],rfl⟩,rfl⟩
          · exact Iv (l:=[0,1]) (by simp) (by simp) false
          · exact Iv (l:=[0,1,2]) (by simp) (by simp) true
          · exact Iv (l:=[0]) (by simp) (by simp) true
          · exact M6
          · exact Iv (l:=[0,1]) (by simp) (by simp) true
        have sx:Sm (.list (P.map Au++[x])):=Mj (Nn tP (all_cons tx Qg)) (by rw[Az,Ad]; simp; omega)
        array_get_dec
        refine ⟨by rw[Ad]; omega,by simp [npk,k3 _,k9 _,k10 _,k11 _,k12 _,k13 _],nofun,by have:=(Av.mp hx).1; simp at this; omega,_,_,_,_,_,_,_,_,rfl,k3,k9,k10,k11,k12,k13,Ey,by rw[Az,Hj]; omega,⟨d0,_,by rw[e0]; rfl⟩,Nn hL (all_cons (DM s2 sw sx) Qg)⟩
      · (intro _ q_; obtain ⟨L,v3,v9,v10,v11,v12,v13,v14,rfl,k3,k9,k10,k11,k12,k13,k14,lL,⟨d0,r0,e0⟩,hL⟩ := q_)
        rw[show ([Fp [.int 1,.int 0],.tuple [.int 0,.int 0],.tuple [.int 0,.int ((D.map Au).length:Int)],.tuple [.int (0 - 1),.int 0],.tuple [.bool false,.bool true],.list [.int 0,.int 1],.tuple [.int 0,.int 1,.int 2],.tuple [.int 0],.none,.tuple [.int 0,.int 1]]:List Ac).length=10 from rfl] at lL
        array_get_dec
        have lPm:(P.map Au).length=P.length:=Ad _
        have lwm:(w.map Ax).length=w.length:=Ad _
        refine ⟨Mn _,by omega,by omega,by omega,by simp only[Az,Be,Os]; omega,⟨by split <;> omega,by split <;> omega⟩,_,yE _ _ _,?_⟩
        rw[show (if decide (m % 4=1)=true then Ax (1000 / if ((P.map Au).length:Int) > 1 then ((P.map Au).length:Int) else 1) else Ax 1)=.int (if decide (m % 4=1)=true then (1000:Int) / (if (P.length:Int) > 1 then (P.length:Int) else 1) else 1) by rw[lPm]; split <;> rfl]
        obtain ⟨k,ek,q0,q1,q2⟩:=E2 (l:=P.length) (b:=decide (m % 4=1)) lP
        rw[ek]
        refine ⟨Zn _,by omega,by omega,by rw[lPm]; omega,?_⟩
        array_get_dec
        have sRev:Sm (.tuple (w.map Ax).reverse):=Qn (λx hx=>tw x (List.mem_reverse.mp hx)) (by rw[Ez]; omega)
        have sApp:Sm (.tuple (w.map Ax++[Ax h])):=Qn (Nn tw (all_cons (Od (by omega)) Qg)) (by rw[Az,Hj]; omega)
        have sNeg:Sm (.tuple (Ax (0 - 1)::w.map Ax)):=Qn (all_cons (Od (by omega)) tw) (by rw[Be]; omega)
        have sLw:Sm (.list (w.map Ax)):=Mj tw (by omega)
        have sTp:Sm (.tuple (P.map Au)):=Qn tP (by omega)
        have sRep:Sm (.list (Cm k.toNat (P.map Au)).flatten):=Mj (λx hx=>by
          obtain ⟨l,hl,hx⟩:=List.mem_flatten.mp hx
          rw[List.eq_of_mem_replicate hl] at hx
          exact tP x hx) (by rw[List.length_flatten,List.map_replicate,lPm,show (Cm k.toNat P.length).sum=k.toNat * P.length by simp,Za]; omega)
        have sB:Sm (.tuple (w.map λi=>if decide (i<2)=true then Tg (decide (i=1)) else .int i)):=pB (λx hx=>by
          obtain ⟨i,hi,rfl⟩:=Bq.mp hx
          have:=bw i hi
          split
          · exact P6
          · exact (Od (by omega)).1) (by rw[Ad]; omega)
        refine ⟨by simp [npk,k3 _,k9 _,k10 _,k11 _,k12 _,k13 _,k14 _],by simp only[Az,Be,Os]; omega,?_⟩
        refine qE (l:=w) (g:=Ax) rfl (λi=>if decide (i<2)=true then Tg (decide (i=1)) else .int i) (λi hi yes no hy=>?_) ?_
        · array_get_dec
          refine ⟨_,yE _ _ _,?_⟩
          revert hy
          cases decide (i<2)
          · intro hy
            array_get_dec
            exact hy
          · intro hy
            array_get_dec
            exact hy
        array_get_dec
        refine ⟨Qa (λi=>by split <;> simp [imm]) _,by simp only[Az,Be,Os]; omega,by omega,hR _ _ ?_ ⟨d0,_,by rw[e0]; rfl⟩ (by omega) (by omega)⟩
        repeat' first
          | exact Qg
          | exact hL
          | refine all_cons ?_ ?_
          | refine Nn ?_ ?_
          | refine DM ?_ ?_ ?_
          | exact s2
          | exact sw
          | exact sP
          | exact sRev
          | exact sApp
          | exact sNeg
          | exact sLw
          | exact sTp
          | exact sRep
          | exact sB
          | exact M6.sm
theorem L9:FnScope ["_law_script", "_law_cell", "_law_draws_here", "_law_holes", "_law_deck_here", "_law_handed", "_law_thing", "_law_text", "_law_told"] ["_law_script"] (Bo bF):=⟨rfl,rfl,rfl,by decide +kernel,rfl,by decide +kernel,by decide +kernel⟩
theorem M1{f f_shows_fewest f_L_draws f_L_deck f_L_few f_L_holds f_L_made f_L_things  : Addr}{fd d_shows_fewest d_L_draws d_L_deck d_L_few d_L_holds d_L_made d_L_things:Cg}(F:Fun K "law" "law" bF f fd)(G_shows_fewest:FnOk P w K mg base Fw 5 f_shows_fewest d_shows_fewest ["holes", "deck", "thing"] (Ou K (Yr)))(b_shows_fewest:Binds K d_shows_fewest ["holes", "deck", "thing"] [])(k_shows_fewest:PySem.W.keepIn K (.ref f_shows_fewest)=true)(m_shows_fewest:mg "shows_fewest" = some (.ref f_shows_fewest))(G_L_draws:FnOk P w K mg base Fw 1 f_L_draws d_L_draws ["_law_cell"] (Vc))(b_L_draws:Binds K d_L_draws ["_law_cell"] [])(k_L_draws:PySem.W.keepIn K (.ref f_L_draws)=true)(m_L_draws:mg "_law_draws" = some (.ref f_L_draws))(G_L_deck:FnOk P w K mg base Fw 3 f_L_deck d_L_deck ["_law_draws_here", "_law_holes"] (bU K (vF)))(b_L_deck:Binds K d_L_deck ["_law_draws_here", "_law_holes"] [])(k_L_deck:PySem.W.keepIn K (.ref f_L_deck)=true)(m_L_deck:mg "_law_deck" = some (.ref f_L_deck))(G_L_few:FnOk P w K mg base Fw 2 f_L_few d_L_few ["_law_draws_here"] (bU K (I0)))(b_L_few:Binds K d_L_few ["_law_draws_here"] [])(k_L_few:PySem.W.keepIn K (.ref f_L_few)=true)(m_L_few:mg "_law_few" = some (.ref f_L_few))(G_L_holds:FnOk P w K mg base Fw 3 f_L_holds d_L_holds ["_law_holes", "_law_deck_here", "_law_thing"] (Ou K (Yr)))(b_L_holds:Binds K d_L_holds ["_law_holes", "_law_deck_here", "_law_thing"] [])(k_L_holds:PySem.W.keepIn K (.ref f_L_holds)=true)(m_L_holds:mg "_law_holds" = some (.ref f_L_holds))(G_L_made:FnOk P w K mg base Fw 4 f_L_made d_L_made ["_law_draws_here", "_law_holes", "_law_deck_here"] (mJ K (wN)))(b_L_made:Binds K d_L_made ["_law_draws_here", "_law_holes", "_law_deck_here"] [])(k_L_made:PySem.W.keepIn K (.ref f_L_made)=true)(m_L_made:mg "_law_made" = some (.ref f_L_made))(G_L_things:FnOk P w K mg base Fw 4 f_L_things d_L_things ["_law_draws_here", "_law_holes", "_law_deck_here", "_law_paper"] (mJ K (jH)))(b_L_things:Binds K d_L_things ["_law_draws_here", "_law_holes", "_law_deck_here", "_law_paper"] [])(k_L_things:PySem.W.keepIn K (.ref f_L_things)=true)(m_L_things:mg "_law_things" = some (.ref f_L_things))(mz_min:mg "min" = none)(mz_list:mg "list" = none)(mz_str:mg "str" = none)(mz_bool:mg "bool" = none)(mz_isinstance:mg "isinstance" = none):FnOk P w K mg base Fw 6 f fd ["_law_script"] (spLawD K):=by
 refine' P2 (k:=5) F L9 (λcdv A outer s H E hr=>?hb) ?h
 case hb =>
  have hr1:Room 1 _:=hr.mono (by decide)
  have hr2:Room 2 _:=hr.mono (by decide)
  have hr3:Room 3 _:=hr.mono (by decide)
  have hr4:Room 4 _:=hr.mono (by decide)
  have hr5:Room 5 _:=hr.mono (by decide)
  have hu64:=hr.units
  have hrx:Room 5 (Lq Fw P w K mg base ["_law_script", "_law_cell", "_law_draws_here", "_law_holes", "_law_deck_here", "_law_handed", "_law_thing", "_law_text", "_law_told"] "law" (Bo bF) f cdv A outer s H E).nox.A:=hr
  have hu100:(Lq Fw P w K mg base ["_law_script", "_law_cell", "_law_draws_here", "_law_holes", "_law_deck_here", "_law_handed", "_law_thing", "_law_text", "_law_told"] "law" (Bo bF) f cdv A outer s H E).nox.A.units+100<cLine:=by have:=hrx.un; omega
  exact Bn (Jq Cw rfl (tT (fS (wU (pv 0) Ip (Iq Bm)) (Ep (Aa Bm Aj)))) (Ew (i:=1) L9.nd rfl (Ci rfl))
   (Bn (Ej (i:=2) L9.nd rfl (Ci rfl) (xF G_L_draws hr1 rfl m_L_draws k_L_draws b_L_draws Ef (Aa (Af (pv 1)) Aj)))
    (Bn (Ej (i:=3) L9.nd rfl (Ci rfl) (Cj (eR rfl) pW rfl mz_min (by decide +kernel) (Aa Bm (Aa (Gp G_L_few hr2 rfl m_L_few k_L_few b_L_few Ef (pv 2) Aj) Aj))))
    (Bn (Ej (i:=4) L9.nd rfl (Ci rfl) (Gp G_L_deck hr3 rfl m_L_deck k_L_deck b_L_deck Ef (pv 2) (Aa (Af (pv 3)) Aj)))
    (Bn (Ej (i:=5) L9.nd rfl (Ci rfl) (Fo Yo (Yw (i:=true)) rfl mz_list (by decide +kernel) (Aa (Af (pv 4)) Aj)))
    (Cf (Jq Cw rfl (tT (eX G_L_things hr4 rfl m_L_things k_L_things b_L_things Ef (pv 2) (Aa (Af (pv 3)) (Aa (Af (pv 4)) (Aa (eX G_L_made hr4 rfl m_L_made k_L_made b_L_made Ef (pv 2) (Aa (Af (pv 3)) (Aa (Af (pv 4)) Aj))) Aj))))) (Ew (i:=6) L9.nd rfl (Ci rfl))
    (Bn (Ej (i:=7) L9.nd rfl (Ci rfl) (Fo (dO hr.gd hu100) zL rfl mz_str (by decide +kernel) (Aa (Af (pv 6)) Aj)))
     (Bn (Ej (i:=8) L9.nd rfl (Ci rfl) (Eg G_shows_fewest hr5 rfl m_shows_fewest k_shows_fewest b_shows_fewest Ef (Aa (Af (pv 3)) (Aa (Af (pv 5)) (Aa (Af (pv 6)) Aj)))))
     (Bn (Gh (Rm (Kn (Hy (Gs (Cj Ke Kh rfl mz_isinstance (by decide +kernel) (Aa (Af (pv 8)) (Aa (Mz (n := "bool") rfl mz_bool (by decide +kernel)) Aj))))) (Kg (Pa hu64 (Af (pv 8)) (Eg G_L_holds hr3 rfl m_L_holds k_L_holds b_L_holds Ef (Aa (Af (pv 3)) (Aa (Af (pv 4)) (Aa (Af (pv 6)) Aj))))))))
     (Cf (Cz Hw)) Fc)
     (Cf (Gh (Rm (Kn (Pa hu64 (Fo (dO hr.gd hu100) zL rfl mz_str (by decide +kernel) (Aa (Af (pv 6)) Aj)) (Af (pv 7))) (Kg (Pa hu64 (Af (pv 5)) (Af (pv 4))))))
     (Cf (Cz Hw)) Fc))))))))))))
   (Cf (Cz Hw))
 case h =>
  intro ns h63
  array_get_dec
  have lc:(Ic ns none (some 4)).length<=4:=CH 4
  refine ⟨by rw[Ad]; omega,?_⟩
  refine Rh (l:=Ic ns none (some 4)++[0]) (g:=Ax) (by rw[Bp]; rfl) (λi δ=>∃(v1 v2 v3 v4 v5 v6 v7 v8:DV) (n':Nat),δ=⟨[.scr ns,v1,v2,v3,v4,v5,v6,v7,v8],n'⟩/\NP v1/\NP v2/\NP v3/\NP v4/\NP v5/\NP v6/\NP v7/\NP v8/\n'<=3000 * i) ?_ ?_ ?_
  ·exact ⟨_,_,_,_,_,_,_,_,_,rfl,Ge,Ge,Ge,Ge,Ge,Ge,Ge,Ge,by omega⟩
  ·(intro i c _ hc q_; obtain ⟨v1,v2,v3,v4,v5,v6,v7,v8,n0,rfl,hv1,hv2,hv3,hv4,hv5,hv6,hv7,hv8,hn⟩ := q_)
   have hi:i<5:=by
    have:=(Av.mp hc).1
    rw[Az,Hj] at this
    omega
   array_get_dec
   refine ⟨rfl,by omega,λhh hh0 hh1=>?_⟩
   array_get_dec
   obtain ⟨m,em⟩ : ∃m:Nat,(if hh<7 then hh else 7)=(m:Int):=⟨(if hh<7 then hh else 7).toNat,by split <;> omega⟩
   have m1:1<=m/\m<=7:=by split at em <;> omega
   rw[em]
   refine ⟨m,rfl,by omega,by omega,by omega,λD n1 na nb lD hD=>?_⟩
   array_get_dec
   refine ⟨m,D,rfl,by omega,by omega,lD,hD,by omega,λT n2 hT n2a n2b=>?_⟩
   have nT:Mw T=true:=by
    rcases hT with ⟨i,j,_,_,rfl⟩ | ⟨w,P,_,_,_,rfl⟩
    ·rfl
    ·unfold Zr
     have w1:∀w:List Int,Mw (Au w)=true:=λw=>by
      unfold Au
      rw[Mw]
      exact Sj λi _=>rfl
     have w2:Rj (P.map Au)=true:=Sj λw _=>w1 w
     have w3:P7 (P.map Au)=false:=gP λx hx=>by
      obtain ⟨q,_,rfl⟩:=Bq.mp hx
      rfl
     simp only[Mw,Rj,w1,w2,w3]
     rfl
   refine ⟨nT,?_⟩
   refine ⟨m,D,T,rfl,by omega,by omega,lD,hD,by omega,hT,λL n3 hL ⟨d0,r0,e0⟩ n3a n3b=>?_⟩
   refine ⟨?_,?_⟩
   ·simp only[Mw]
    rw[kI λx hx=>(hL x hx).2.2.2.2,e0]
    rfl
   array_get_dec
   refine Rh (l:=L) (g:=λx=>x) (Gd _).symm (λ_ δ=>∃(v6 v7 v8:DV),δ=⟨[.scr ns,.dat .sh (.int c),.drw,.dat .sh (.int m),.dat .sh (.list (D.map Au)),.dat .sh (.list (D.map Au)),v6,v7,v8],n3⟩/\NP v6/\NP v7/\NP v8) ?_ ?_ ?_
   ·exact ⟨_,_,_,rfl,hv6,hv7,hv8⟩
   ·(intro j T' _ hT' q_; obtain ⟨v6,v7,v8,rfl,hv6,hv7,hv8⟩ := q_)
    obtain ⟨t1,t2,t3,t4,-⟩:=hL T' (Bg hT')
    have st:(∃b,b<=400/\Kf b T'/\(b+12) * Gi T'<=Bd):=⟨12,by decide,t3,fP (by omega)⟩
    array_get_dec
    refine ⟨st,by omega,?_⟩
    by_cases hold:qF m D T'
    ·refine ⟨m,D,T',rfl,by omega,by omega,by omega,hD,t1,t2,λ_=>?_,λz=>absurd hold z⟩
     array_get_dec
     refine ⟨m,D,T',rfl,by omega,by omega,by omega,hD,t1,t2,λ_=>?_,λz=>absurd hold z⟩
     array_get_dec
     refine ⟨st,by omega,?_⟩
     array_get_dec
     exact ⟨_,_,_,rfl,Ey,Ey,Ey⟩
    ·refine ⟨m,D,T',rfl,by omega,by omega,by omega,hD,t1,t2,λz=>absurd z hold,λ_=>?_⟩
     array_get_dec
     refine ⟨m,D,T',rfl,by omega,by omega,by omega,hD,t1,t2,λz=>absurd z hold,λ_=>?_⟩
     array_get_dec
     refine ⟨st,by omega,?_⟩
     array_get_dec
     exact ⟨_,_,_,rfl,Ey,Ey,Ey⟩
   ·(intro _ q_; obtain ⟨v6,v7,v8,rfl,hv6,hv7,hv8⟩ := q_)
    exact ⟨_,_,_,_,_,_,_,_,_,rfl,Ey,N8,Ey,Ey,Ey,hv6,hv7,hv8,by omega⟩
  ·(intro _ q_; obtain ⟨v1,v2,v3,v4,v5,v6,v7,v8,n0,rfl,_⟩ := q_)
   array_get_dec
end
structure Def(K:PySem.W.Frag)(x:Str)(st:Stmt)(f:Addr)(fd:Cg):Prop where
 nm:PySem.W.nsIn K Co x=some (some (.ref f))
 fn:Fun K x x st f fd
theorem def_mk{K:PySem.W.Frag}{x:Str}{st:Stmt}{f:Addr}{od an:Option Addr}{sl:Array (Option Value)}{oc kV dc pm cd ct:Value}(a:PySem.W.nsIn K Co x=some (some (.ref f)))(l:K.lookup f=some ⟨oc,od,.func (PySem.W.fnOf x x (Pe st) (Jg st) (Bo st) .none kV dc pm an cd ct),sl⟩)(c:PySem.W.codeIn K cd x=true)(k:PySem.W.keepIn K (.ref f)=true):Def K x st f (PySem.W.fnOf x x (Pe st) (Jg st) (Bo st) .none kV dc pm an cd ct):=⟨a,yA l c k⟩
theorem GG{P:List Value->Prop}(h:P []):∀us:List Value,us.length=0->P us
 | [],_=>h
theorem CV{P:List Value->Prop}{n:Nat}(h:∀a (us:List Value),us.length=n->P (a::us)):∀us:List Value,us.length=n+1->P us
 | a::us,e=>h a us (Nat.succ.inj e)
theorem AU{P:List Value->Prop}(h:∀a0,P [a0]):∀us:List Value,us.length=1->P us:=CV λa us e=>GG (P:=λus=>P (a::us)) (h a) us e
theorem tH{P:List Value->Prop}(h:∀a0 a1,P [a0,a1]):∀us:List Value,us.length=2->P us:=CV λa us e=>AU (P:=λus=>P (a::us)) (h a) us e
theorem L6{P:List Value->Prop}(h:∀a0 a1 a2,P [a0,a1,a2]):∀us:List Value,us.length=3->P us:=CV λa us e=>tH (P:=λus=>P (a::us)) (h a) us e
theorem DH{P:List Value->Prop}(h:∀a0 a1 a2 a3,P [a0,a1,a2,a3]):∀us:List Value,us.length=4->P us:=CV λa us e=>L6 (P:=λus=>P (a::us)) (h a) us e
theorem all_mk{l:PySem.W.OpenLaw}{q:Bs}{w:World}{K:PySem.W.Frag}{h:Heap}{mg:Str->Option Value}{fa f1 f2 f3 f4 f5 f6 f7 f8 f9 f10 f11 f12 f13 f14 f15 f16 f17 f18 f19 f20 f21 f22 f23 f24 f25 f26 f27 f28:Addr}{d1 d2 d3 d4 d5 d6 d7 d8 d9 d10 d11 d12 d13 d14 d15 d16 d17 d18 d19 d20 d21 d22 d23 d24 d25 d26 d27:Cg}(X:K.In h)(G:h.Ns Co mg)(hfa:mg "law" = some (.ref fa)){od an:Option Addr}{sl:Array (Option Value)}{oc kV dc pm cd ct:Value}(D1:Def K "_law_draws" gR f1 d1)(D2:Def K "_law_next" qO f2 d2)(D3:Def K "choose" bH f3 d3)(D4:Def K "word_at" Wl f4 d4)(D5:Def K "words_of" Ql f5 d5)(D6:Def K "notches_at" Nq f6 d6)(D7:Def K "alike_at" Tx f7 d7)(D8:Def K "is_whole" Ud f8 d8)(D9:Def K "is_word" Vw f9 d9)(D10:Def K "is_pair" Wp f10 d10)(D11:Def K "are_pairs" Rt f11 d11)(D12:Def K "some_alike" Qi f12 d12)(D13:Def K "shows_places" Lj f13 d13)(D14:Def K "shows_fewest" Of f14 d14)(D15:Def K "_law_small" Qj f15 d15)(D16:Def K "_law_at" Sw f16 d16)(D17:Def K "_law_deck" Oz f17 d17)(D18:Def K "_law_few" Ug f18 d18)(D19:Def K "_law_chosen" Mi f19 d19)(D20:Def K "_law_parted" Mh f20 d20)(D21:Def K "_law_is_pair" Lh f21 d21)(D22:Def K "_law_bars" Pb f22 d22)(D23:Def K "_law_holds" Jx f23 d23)(D24:Def K "_law_alike" Nl f24 d24)(D25:Def K "_law_pairs" Qk f25 d25)(D26:Def K "_law_made" Pf f26 d26)(D27:Def K "_law_things" Mc f27 d27)(aL:PySem.W.nsIn K Co "law" = some (some (.ref f28)))(lL:K.lookup f28=some ⟨oc,od,.func (PySem.W.fnOf "law" "law" (Pe bF) (Jg bF) (Bo bF) .none kV dc pm an cd ct),sl⟩)(cL:PySem.W.codeIn K cd "law" = true)(kL:PySem.W.keepIn K (.ref f28)=true)(z1:PySem.W.nsIn K Co "min" = some none)(z2:PySem.W.nsIn K Co "range" = some none)(z3:PySem.W.nsIn K Co "len" = some none)(z4:PySem.W.nsIn K Co "tuple" = some none)(z5:PySem.W.nsIn K Co "enumerate" = some none)(z6:PySem.W.nsIn K Co "bool" = some none)(z7:PySem.W.nsIn K Co "isinstance" = some none)(z8:PySem.W.nsIn K Co "int" = some none)(z9:PySem.W.nsIn K Co "list" = some none)(z10:PySem.W.nsIn K Co "all" = some none)(z11:PySem.W.nsIn K Co "str" = some none)(z12:PySem.W.nsIn K Co "set" = some none)(z13:PySem.W.nsIn K Co "max" = some none)(z14:PySem.W.nsIn K Co "sorted" = some none)(tz_often:PySem.W.nsIn K Co "often" = some none)(tz_cut_by:PySem.W.nsIn K Co "cut_by" = some none):fV q K/\∃fd:Cg,(∀(s:Al) (v:Value),BindsTo s fd ⟨[v],[]⟩ [("_law_script",v)])/\∀base:Heap,K.In base->base.Ns Co mg->FnOk l.prog w K mg base Fw 6 fa fd ["_law_script"] (DL.spLawD K):=by
 have e:=hfa.symm.trans (PySem.W.mg_of X G aL)
 cases e
 have FL:=yA (st:=bF) lL cL kL
 have b1:=D1.fn.binds (ps:=["_law_cell"]) λ_ _ _ _ _ _=>AU (λ_=>rfl)
 have b2:=D2.fn.binds (ps:=["_law_draws_here"]) λ_ _ _ _ _ _=>AU (λ_=>rfl)
 have b3:=D3.fn.binds (ps:=["n", "k"]) λ_ _ _ _ _ _=>tH (λ_ _=>rfl)
 have b4:=D4.fn.binds (ps:=["holes", "many", "number"]) λ_ _ _ _ _ _=>L6 (λ_ _ _=>rfl)
 have b5:=D5.fn.binds (ps:=["holes", "many"]) λ_ _ _ _ _ _=>tH (λ_ _=>rfl)
 have b6:=D6.fn.binds (ps:=["card", "places"]) λ_ _ _ _ _ _=>tH (λ_ _=>rfl)
 have b7:=D7.fn.binds (ps:=["deck", "places"]) λ_ _ _ _ _ _=>tH (λ_ _=>rfl)
 have b8:=D8.fn.binds (ps:=["thing"]) λ_ _ _ _ _ _=>AU (λ_=>rfl)
 have b9:=D9.fn.binds (ps:=["holes", "thing"]) λ_ _ _ _ _ _=>tH (λ_ _=>rfl)
 have b10:=D10.fn.binds (ps:=["deck", "i", "j"]) λ_ _ _ _ _ _=>L6 (λ_ _ _=>rfl)
 have b11:=D11.fn.binds (ps:=["deck", "thing"]) λ_ _ _ _ _ _=>tH (λ_ _=>rfl)
 have b12:=D12.fn.binds (ps:=["deck", "pairs", "places"]) λ_ _ _ _ _ _=>L6 (λ_ _ _=>rfl)
 have b13:=D13.fn.binds (ps:=["holes", "deck", "places", "pairs"]) λ_ _ _ _ _ _=>DH (λ_ _ _ _=>rfl)
 have b14:=D14.fn.binds (ps:=["holes", "deck", "thing"]) λ_ _ _ _ _ _=>L6 (λ_ _ _=>rfl)
 have b15:=D15.fn.binds (ps:=["_law_draws_here", "_law_holes"]) λ_ _ _ _ _ _=>tH (λ_ _=>rfl)
 have b16:=D16.fn.binds (ps:=["_law_card", "_law_places"]) λ_ _ _ _ _ _=>tH (λ_ _=>rfl)
 have b17:=D17.fn.binds (ps:=["_law_draws_here", "_law_holes"]) λ_ _ _ _ _ _=>tH (λ_ _=>rfl)
 have b18:=D18.fn.binds (ps:=["_law_draws_here"]) λ_ _ _ _ _ _=>AU (λ_=>rfl)
 have b19:=D19.fn.binds (ps:=["_law_holes", "_law_many"]) λ_ _ _ _ _ _=>tH (λ_ _=>rfl)
 have b20:=D20.fn.binds (ps:=["_law_deck_here", "_law_places"]) λ_ _ _ _ _ _=>tH (λ_ _=>rfl)
 have b21:=D21.fn.binds (ps:=["_law_deck_here", "_law_pair"]) λ_ _ _ _ _ _=>tH (λ_ _=>rfl)
 have b22:=D22.fn.binds (ps:=["_law_holes", "_law_deck_here", "_law_many", "_law_pairs_here"]) λ_ _ _ _ _ _=>DH (λ_ _ _ _=>rfl)
 have b23:=D23.fn.binds (ps:=["_law_holes", "_law_deck_here", "_law_thing"]) λ_ _ _ _ _ _=>L6 (λ_ _ _=>rfl)
 have b24:=D24.fn.binds (ps:=["_law_draws_here", "_law_deck_here", "_law_places"]) λ_ _ _ _ _ _=>L6 (λ_ _ _=>rfl)
 have b25:=D25.fn.binds (ps:=["_law_draws_here", "_law_holes", "_law_deck_here", "_law_many"]) λ_ _ _ _ _ _=>DH (λ_ _ _ _=>rfl)
 have b26:=D26.fn.binds (ps:=["_law_draws_here", "_law_holes", "_law_deck_here"]) λ_ _ _ _ _ _=>L6 (λ_ _ _=>rfl)
 have b27:=D27.fn.binds (ps:=["_law_draws_here", "_law_holes", "_law_deck_here", "_law_paper"]) λ_ _ _ _ _ _=>DH (λ_ _ _ _=>rfl)
 have m1:=PySem.W.mg_of X G D1.nm
 have m2:=PySem.W.mg_of X G D2.nm
 have m3:=PySem.W.mg_of X G D3.nm
 have m4:=PySem.W.mg_of X G D4.nm
 have m5:=PySem.W.mg_of X G D5.nm
 have m6:=PySem.W.mg_of X G D6.nm
 have m7:=PySem.W.mg_of X G D7.nm
 have m8:=PySem.W.mg_of X G D8.nm
 have m9:=PySem.W.mg_of X G D9.nm
 have m10:=PySem.W.mg_of X G D10.nm
 have m11:=PySem.W.mg_of X G D11.nm
 have m12:=PySem.W.mg_of X G D12.nm
 have m13:=PySem.W.mg_of X G D13.nm
 have m14:=PySem.W.mg_of X G D14.nm
 have m15:=PySem.W.mg_of X G D15.nm
 have m16:=PySem.W.mg_of X G D16.nm
 have m17:=PySem.W.mg_of X G D17.nm
 have m18:=PySem.W.mg_of X G D18.nm
 have m19:=PySem.W.mg_of X G D19.nm
 have m20:=PySem.W.mg_of X G D20.nm
 have m21:=PySem.W.mg_of X G D21.nm
 have m22:=PySem.W.mg_of X G D22.nm
 have m23:=PySem.W.mg_of X G D23.nm
 have m24:=PySem.W.mg_of X G D24.nm
 have m25:=PySem.W.mg_of X G D25.nm
 have m26:=PySem.W.mg_of X G D26.nm
 have m27:=PySem.W.mg_of X G D27.nm
 have y1:=PySem.W.mg_none_of X G z1
 have y2:=PySem.W.mg_none_of X G z2
 have y3:=PySem.W.mg_none_of X G z3
 have y4:=PySem.W.mg_none_of X G z4
 have y5:=PySem.W.mg_none_of X G z5
 have y6:=PySem.W.mg_none_of X G z6
 have y7:=PySem.W.mg_none_of X G z7
 have y8:=PySem.W.mg_none_of X G z8
 have y9:=PySem.W.mg_none_of X G z9
 have y10:=PySem.W.mg_none_of X G z10
 have y11:=PySem.W.mg_none_of X G z11
 have y12:=PySem.W.mg_none_of X G z12
 have y13:=PySem.W.mg_none_of X G z13
 have y14:=PySem.W.mg_none_of X G z14
 have tn_often:=DL.tab_no tz_often
 have tn_cut_by:=DL.tab_no tz_cut_by
 refine ⟨sX tn_often tn_cut_by,PySem.W.fnOf "law" "law" (Pe bF) (Jg bF) (Bo bF) .none kV dc pm an cd ct,λs v=>.of_eq rfl,λbase _ _=>?_⟩
 have g1:=sY (P:=l.prog) (w:=w) (mg:=mg) (base:=base) D1.fn
 have g2:=vX (P:=l.prog) (w:=w) (mg:=mg) (base:=base) D2.fn
 have g3:=sU (P:=l.prog) (w:=w) (mg:=mg) (base:=base) D3.fn y1 y2
 have g4:=mW (P:=l.prog) (w:=w) (mg:=mg) (base:=base) D4.fn g3 b3 D3.fn.kp m3 y3
 have g5:=kW (P:=l.prog) (w:=w) (mg:=mg) (base:=base) D5.fn g3 b3 D3.fn.kp m3 g4 b4 D4.fn.kp m4 y2
 have g6:=cI (P:=l.prog) (w:=w) (mg:=mg) (base:=base) D6.fn y4
 have g7:=jV (P:=l.prog) (w:=w) (mg:=mg) (base:=base) D7.fn g6 b6 D6.fn.kp m6 y5
 have g8:=lY (P:=l.prog) (w:=w) (mg:=mg) (base:=base) D8.fn y6 y7 y8
 have g9:=nI (P:=l.prog) (w:=w) (mg:=mg) (base:=base) D9.fn g8 b8 D8.fn.kp m8 y4 y7
 have g10:=nK (P:=l.prog) (w:=w) (mg:=mg) (base:=base) D10.fn g8 b8 D8.fn.kp m8 y3
 have g11:=fR (P:=l.prog) (w:=w) (mg:=mg) (base:=base) D11.fn g10 b10 D10.fn.kp m10 y9 y7 y3 y4
 have g12:=cS (P:=l.prog) (w:=w) (mg:=mg) (base:=base) D12.fn g6 b6 D6.fn.kp m6
 have g13:=Xz (P:=l.prog) (w:=w) (mg:=mg) (base:=base) D13.fn g9 b9 D9.fn.kp m9 g5 b5 D5.fn.kp m5 g7 b7 D7.fn.kp m7 g11 b11 D11.fn.kp m11 g12 b12 D12.fn.kp m12 y3 y10
 have g14:=Xv (P:=l.prog) (w:=w) (mg:=mg) (base:=base) D14.fn g10 b10 D10.fn.kp m10 g13 b13 D13.fn.kp m13 y11 y7 y3 y4
 have g15:=cV (P:=l.prog) (w:=w) (mg:=mg) (base:=base) D15.fn g2 b2 D2.fn.kp m2 y2 y4
 have g16:=nR (P:=l.prog) (w:=w) (mg:=mg) (base:=base) D16.fn y4
 have g17:=gY (P:=l.prog) (w:=w) (mg:=mg) (base:=base) D17.fn g2 b2 D2.fn.kp m2 g15 b15 D15.fn.kp m15 y2 y3 y4
 have g18:=lS (P:=l.prog) (w:=w) (mg:=mg) (base:=base) D18.fn g2 b2 D2.fn.kp m2 y8
 have g19:=bI (P:=l.prog) (w:=w) (mg:=mg) (base:=base) D19.fn y2
 have g20:=bM (P:=l.prog) (w:=w) (mg:=mg) (base:=base) D20.fn g16 b16 D16.fn.kp m16 y3 y12
 have g21:=Xx (P:=l.prog) (w:=w) (mg:=mg) (base:=base) D21.fn y3 y4 y7 y8 y6
 have g22:=iE (P:=l.prog) (w:=w) (mg:=mg) (base:=base) D22.fn g16 b16 D16.fn.kp m16 g19 b19 D19.fn.kp m19
 have g23:=cP (P:=l.prog) (w:=w) (mg:=mg) (base:=base) D23.fn g20 b20 D20.fn.kp m20 g21 b21 D21.fn.kp m21 g22 b22 D22.fn.kp m22 y3 y4 y7 y9 y8 y6 y2
 have g24:=cT (P:=l.prog) (w:=w) (mg:=mg) (base:=base) D24.fn g2 b2 D2.fn.kp m2 g16 b16 D16.fn.kp m16 y3 y2 y13
 have g25:=cM (P:=l.prog) (w:=w) (mg:=mg) (base:=base) D25.fn g19 b19 D19.fn.kp m19 g24 b24 D24.fn.kp m24
 have g26:=fO (P:=l.prog) (w:=w) (mg:=mg) (base:=base) D26.fn g2 b2 D2.fn.kp m2 g19 b19 D19.fn.kp m19 g20 b20 D20.fn.kp m20 g25 b25 D25.fn.kp m25 y2 y3 y5
 have g27:=Zd (P:=l.prog) (w:=w) (mg:=mg) (base:=base) D27.fn g2 b2 D2.fn.kp m2 g25 b25 D25.fn.kp m25 y3 y9 y4 y2 y13 y14 y12 y8
 exact M1 FL g14 b14 D14.fn.kp m14 g1 b1 D1.fn.kp m1 g17 b17 D17.fn.kp m17 g18 b18 D18.fn.kp m18 g23 b23 D23.fn.kp m23 g26 b26 D26.fn.kp m26 g27 b27 D27.fn.kp m27 y1 y9 y11 y6 y7
theorem walk{l:PySem.W.OpenLaw}{q:Bs}{loose:List Str}{XP:(Str->Option Value)->Heap->Prop}{YP:World->Heap->Prop}{d:DefRec}{K:Params->PySem.W.Frag}(hn:l.most=some 63)(hdf:d.params.defaults=[])(hY:∀(w:World) (h:Heap),YP w h->(K w.params).In h)(F:∀(w:World) (mg:Str->Option Value) (fa:Addr) (h:Heap),(K w.params).In h->h.Ns Co mg->mg d.name=some (.ref fa)->fV q (K w.params)/\∃fd:Cg,(∀(s:Al) (u:Value),BindsTo s fd ⟨[u],[]⟩ [("_law_script",u)])/\∀base:Heap,(K w.params).In base->base.Ns Co mg->FnOk l.prog w (K w.params) mg base Fw 6 fa fd ["_law_script"] (DL.spLawD (K w.params))):PySem.W.WalkO q loose XP YP l.row.toRowW d [] (λf vs=>PySem.call f vs) :=
 L2.walk_ofD (n:=63) (k:=6) (x := "_law_script") (CX:=λ_=>Fw) (sp:=λw=>DL.spLawD (K w.params)) hn (by decide) hdf ⟨rfl,by decide,by decide,rfl⟩ hY F (λ_ _ a ns hl _ hS=>⟨a,ns,rfl,hS,hl,λ_=>rfl⟩) λ_ _ _ _ _ z=>z
end K57
theorem GL:PySem.Challenge.rw_needledeck_k57_what_shows_fewest.wellSaid=true:=by kernel_rfl
open PySem PySem.W PyProof.Rows
local macro_rules | `(tactic| refine $h:ident (q := $q) (loose := $l) (Xt := $a) (XP := $b) (Yf := $c) (Ya := $d) (YP := $e) (N := $n) ?hl $y*) => `(tactic| refine $h:ident (q := $q) (loose := $l) (Xt := $a) (XP := $b) (Yf := $c) (Ya := $d) (YP := $e) (N := $n) (fun _ => by kernel_rfl) $y*)
set_option maxRecDepth 100000 in
set_option maxHeartbeats 0 in
theorem PySem.Challenge.cw_needledeck_k57_what_shows_fewest_holds : PySem.Challenge.rw_needledeck_k57_what_shows_fewest.Holds := by
 w_on; refine holds_law GL λsaid=>?_; k_head; (case hw=>w_witness2)
 k_fill
 refine K57.walk (l:=PySem.Challenge.rw_needledeck_k57_what_shows_fewest) rfl rfl (λw h Y=>PySem.W.kIn_of Y) ?F
 case F =>
  intro w mg fa h KX G hmg
  refine' K57.all_mk KX G hmg (K57.def_mk ?a1 ?l1 ?c1 ?k1) (K57.def_mk ?a2 ?l2 ?c2 ?k2) (K57.def_mk ?a3 ?l3 ?c3 ?k3) (K57.def_mk ?a4 ?l4 ?c4 ?k4) (K57.def_mk ?a5 ?l5 ?c5 ?k5) (K57.def_mk ?a6 ?l6 ?c6 ?k6) (K57.def_mk ?a7 ?l7 ?c7 ?k7) (K57.def_mk ?a8 ?l8 ?c8 ?k8) (K57.def_mk ?a9 ?l9 ?c9 ?k9) (K57.def_mk ?a10 ?l10 ?c10 ?k10) (K57.def_mk ?a11 ?l11 ?c11 ?k11) (K57.def_mk ?a12 ?l12 ?c12 ?k12) (K57.def_mk ?a13 ?l13 ?c13 ?k13) (K57.def_mk ?a14 ?l14 ?c14 ?k14) (K57.def_mk ?a15 ?l15 ?c15 ?k15) (K57.def_mk ?a16 ?l16 ?c16 ?k16) (K57.def_mk ?a17 ?l17 ?c17 ?k17) (K57.def_mk ?a18 ?l18 ?c18 ?k18) (K57.def_mk ?a19 ?l19 ?c19 ?k19) (K57.def_mk ?a20 ?l20 ?c20 ?k20) (K57.def_mk ?a21 ?l21 ?c21 ?k21) (K57.def_mk ?a22 ?l22 ?c22 ?k22) (K57.def_mk ?a23 ?l23 ?c23 ?k23) (K57.def_mk ?a24 ?l24 ?c24 ?k24) (K57.def_mk ?a25 ?l25 ?c25 ?k25) (K57.def_mk ?a26 ?l26 ?c26 ?k26) (K57.def_mk ?a27 ?l27 ?c27 ?k27) ?aL ?lL ?cL ?kL ?z1 ?z2 ?z3 ?z4 ?z5 ?z6 ?z7 ?z8 ?z9 ?z10 ?z11 ?z12 ?z13 ?z14 ?tz_often ?tz_cut_by
  (case a1=>k_is); (case l1=>k_is); (case c1=>k_is); (case k1=>k_is)
  (case a2=>k_is); (case l2=>k_is); (case c2=>k_is); (case k2=>k_is)
  (case a3=>k_is); (case l3=>k_is); (case c3=>k_is); (case k3=>k_is)
  (case a4=>k_is); (case l4=>k_is); (case c4=>k_is); (case k4=>k_is)
  (case a5=>k_is); (case l5=>k_is); (case c5=>k_is); (case k5=>k_is)
  (case a6=>k_is); (case l6=>k_is); (case c6=>k_is); (case k6=>k_is)
  (case a7=>k_is); (case l7=>k_is); (case c7=>k_is); (case k7=>k_is)
  (case a8=>k_is); (case l8=>k_is); (case c8=>k_is); (case k8=>k_is)
  (case a9=>k_is); (case l9=>k_is); (case c9=>k_is); (case k9=>k_is)
  (case a10=>k_is); (case l10=>k_is); (case c10=>k_is); (case k10=>k_is)
  (case a11=>k_is); (case l11=>k_is); (case c11=>k_is); (case k11=>k_is)
  (case a12=>k_is); (case l12=>k_is); (case c12=>k_is); (case k12=>k_is)
  (case a13=>k_is); (case l13=>k_is); (case c13=>k_is); (case k13=>k_is)
  (case a14=>k_is); (case l14=>k_is); (case c14=>k_is); (case k14=>k_is)
  (case a15=>k_is); (case l15=>k_is); (case c15=>k_is); (case k15=>k_is)
  (case a16=>k_is); (case l16=>k_is); (case c16=>k_is); (case k16=>k_is)
  (case a17=>k_is); (case l17=>k_is); (case c17=>k_is); (case k17=>k_is)
  (case a18=>k_is); (case l18=>k_is); (case c18=>k_is); (case k18=>k_is)
  (case a19=>k_is); (case l19=>k_is); (case c19=>k_is); (case k19=>k_is)
  (case a20=>k_is); (case l20=>k_is); (case c20=>k_is); (case k20=>k_is)
  (case a21=>k_is); (case l21=>k_is); (case c21=>k_is); (case k21=>k_is)
  (case a22=>k_is); (case l22=>k_is); (case c22=>k_is); (case k22=>k_is)
  (case a23=>k_is); (case l23=>k_is); (case c23=>k_is); (case k23=>k_is)
  (case a24=>k_is); (case l24=>k_is); (case c24=>k_is); (case k24=>k_is)
  (case a25=>k_is); (case l25=>k_is); (case c25=>k_is); (case k25=>k_is)
  (case a26=>k_is); (case l26=>k_is); (case c26=>k_is); (case k26=>k_is)
  (case a27=>k_is); (case l27=>k_is); (case c27=>k_is); (case k27=>k_is)
  (case aL=>k_is); (case lL=>k_is); (case cL=>k_is); (case kL=>k_is)
  (case z1=>k_is); (case z2=>k_is); (case z3=>k_is); (case z4=>k_is); (case z5=>k_is); (case z6=>k_is); (case z7=>k_is); (case z8=>k_is); (case z9=>k_is); (case z10=>k_is); (case z11=>k_is); (case z12=>k_is); (case z13=>k_is); (case z14=>k_is)
  (case tz_often=>k_is)
  (case tz_cut_by=>k_is)