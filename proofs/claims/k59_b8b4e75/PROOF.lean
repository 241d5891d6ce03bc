import PyProof.Rows.All
import KE.KLam
import Wide.All
import OpenK.AllK
import Wide.FinOn
import Lean
import PyProof.EqAt
import PyProof.EqKinds
import PyProof.TupleCall
import PyProof.FactsAll.set
import PyProof.FactsAll.subtypes
import KE.KTupSum
import KE.KMinBuiltin
import PyProof.Draws
import PyProof.DictWalks
import PyProof.DictCompW
import PyProof.IsiH_tuple
import PyProof.FactsAll.zip
import KE.KDictOf
import PyProof.DictValues
import KE.KSortKey
import PyProof.WalkInts
import PyProof.TupleKey
import PyProof.SetRoads
import PyProof.IsRules
import PySem.Challenge.RW_needledeck_k59_whole_one_thing_other
set_option Elab.async false
set_option linter.all false
set_option maxRecDepth 100000
set_option maxHeartbeats 4000000
set_option genSizeOf false
local macro_rules|`(tactic|omega)=>`(tactic|first|lia|omega +splitDisjunctions)
theorem e0a2{A B:Prop}{G:Prop}(k:A→B→G)(h:A∧B):G:=k h.1 h.2
theorem e0a3{A B C:Prop}{G:Prop}(k:A→B→C→G)(h:A∧B∧C):G:=k h.1 h.2.1 h.2.2
theorem e0a4{A B C D:Prop}{G:Prop}(k:A→B→C→D→G)(h:A∧B∧C∧D):G:=k h.1 h.2.1 h.2.2.1 h.2.2.2
theorem e0a5{A B C D E:Prop}{G:Prop}(k:A→B→C→D→E→G)(h:A∧B∧C∧D∧E):G:=k h.1 h.2.1 h.2.2.1 h.2.2.2.1 h.2.2.2.2
theorem e0a6{A B C D E F:Prop}{G:Prop}(k:A→B→C→D→E→F→G)(h:A∧B∧C∧D∧E∧F):G:=k h.1 h.2.1 h.2.2.1 h.2.2.2.1 h.2.2.2.2.1 h.2.2.2.2.2
theorem e1a1{t0:Type}{A:t0→Prop}{G:Prop}(k:∀x,A x→G)(h:∃x,A x):G:=h.elim λx h=>k x h
theorem e1a2{t0:Type}{A B:t0→Prop}{G:Prop}(k:∀x,A x→B x→G)(h:∃x,A x∧B x):G:=h.elim λx h=>k x h.1 h.2
theorem e1a3{t0:Type}{A B C:t0→Prop}{G:Prop}(k:∀x,A x→B x→C x→G)(h:∃x,A x∧B x∧C x):G:=h.elim λx h=>k x h.1 h.2.1 h.2.2
theorem e1a4{t0:Type}{A B C D:t0→Prop}{G:Prop}(k:∀x,A x→B x→C x→D x→G)(h:∃x,A x∧B x∧C x∧D x):G:=h.elim λx h=>k x h.1 h.2.1 h.2.2.1 h.2.2.2
theorem e2a1{t0 t1:Type}{A:t0→t1→Prop}{G:Prop}(k:∀x y,A x y→G)(h:∃x y,A x y):G:=h.elim λx h=>h.elim λy h=>k x y h
theorem e2a2{t0 t1:Type}{A B:t0→t1→Prop}{G:Prop}(k:∀x y,A x y→B x y→G)(h:∃x y,A x y∧B x y):G:=h.elim λx h=>h.elim λy h=>k x y h.1 h.2
theorem e2a3{t0 t1:Type}{A B C:t0→t1→Prop}{G:Prop}(k:∀x y,A x y→B x y→C x y→G)(h:∃x y,A x y∧B x y∧C x y):G:=h.elim λx h=>h.elim λy h=>k x y h.1 h.2.1 h.2.2
theorem e2a4{t0 t1:Type}{A B C D:t0→t1→Prop}{G:Prop}(k:∀x y,A x y→B x y→C x y→D x y→G)(h:∃x y,A x y∧B x y∧C x y∧D x y):G:=h.elim λx h=>h.elim λy h=>k x y h.1 h.2.1 h.2.2.1 h.2.2.2
theorem e3a1{t0 t1 t2:Type}{A:t0→t1→t2→Prop}{G:Prop}(k:∀x y z,A x y z→G)(h:∃x y z,A x y z):G:=h.elim λx h=>h.elim λy h=>h.elim λz h=>k x y z h
theorem e3a3{t0 t1 t2:Type}{A B C:t0→t1→t2→Prop}{G:Prop}(k:∀x y z,A x y z→B x y z→C x y z→G)(h:∃x y z,A x y z∧B x y z∧C x y z):G:=h.elim λx h=>h.elim λy h=>h.elim λz h=>k x y z h.1 h.2.1 h.2.2
theorem e3a4{t0 t1 t2:Type}{A B C D:t0→t1→t2→Prop}{G:Prop}(k:∀x y z,A x y z→B x y z→C x y z→D x y z→G)(h:∃x y z,A x y z∧B x y z∧C x y z∧D x y z):G:=h.elim λx h=>h.elim λy h=>h.elim λz h=>k x y z h.1 h.2.1 h.2.2.1 h.2.2.2
theorem e3a5{t0 t1 t2:Type}{A B C D E:t0→t1→t2→Prop}{G:Prop}(k:∀x y z,A x y z→B x y z→C x y z→D x y z→E x y z→G)(h:∃x y z,A x y z∧B x y z∧C x y z∧D x y z∧E x y z):G:=h.elim λx h=>h.elim λy h=>h.elim λz h=>k x y z h.1 h.2.1 h.2.2.1 h.2.2.2.1 h.2.2.2.2
theorem e4a1{t0 t1 t2 t3:Type}{A:t0→t1→t2→t3→Prop}{G:Prop}(k:∀x y z w,A x y z w→G)(h:∃x y z w,A x y z w):G:=h.elim λx h=>h.elim λy h=>h.elim λz h=>h.elim λw h=>k x y z w h
theorem e4a2{t0 t1 t2 t3:Type}{A B:t0→t1→t2→t3→Prop}{G:Prop}(k:∀x y z w,A x y z w→B x y z w→G)(h:∃x y z w,A x y z w∧B x y z w):G:=h.elim λx h=>h.elim λy h=>h.elim λz h=>h.elim λw h=>k x y z w h.1 h.2
theorem e5a2{t0 t1 t2 t3 t4:Type}{A B:t0→t1→t2→t3→t4→Prop}{G:Prop}(k:∀x y z w u,A x y z w u→B x y z w u→G)(h:∃x y z w u,A x y z w u∧B x y z w u):G:=h.elim λx h=>h.elim λy h=>h.elim λz h=>h.elim λw h=>h.elim λu h=>k x y z w u h.1 h.2
theorem e4a5{t0 t1 t2 t3:Type}{A B C D E:t0→t1→t2→t3→Prop}{G:Prop}(k:∀x y z w,A x y z w→B x y z w→C x y z w→D x y z w→E x y z w→G)(h:∃x y z w,A x y z w∧B x y z w∧C x y z w∧D x y z w∧E x y z w):G:=h.elim λx h=>h.elim λy h=>h.elim λz h=>h.elim λw h=>k x y z w h.1 h.2.1 h.2.2.1 h.2.2.2.1 h.2.2.2.2
theorem e5a5{t0 t1 t2 t3 t4:Type}{A B C D E:t0→t1→t2→t3→t4→Prop}{G:Prop}(k:∀x y z w u,A x y z w u→B x y z w u→C x y z w u→D x y z w u→E x y z w u→G)(h:∃x y z w u,A x y z w u∧B x y z w u∧C x y z w u∧D x y z w u∧E x y z w u):G:=h.elim λx h=>h.elim λy h=>h.elim λz h=>h.elim λw h=>h.elim λu h=>k x y z w u h.1 h.2.1 h.2.2.1 h.2.2.2.1 h.2.2.2.2
theorem e6a5{t0 t1 t2 t3 t4 t5:Type}{A B C D E:t0→t1→t2→t3→t4→t5→Prop}{G:Prop}(k:∀x y z w u v,A x y z w u v→B x y z w u v→C x y z w u v→D x y z w u v→E x y z w u v→G)(h:∃x y z w u v,A x y z w u v∧B x y z w u v∧C x y z w u v∧D x y z w u v∧E x y z w u v):G:=h.elim λx h=>h.elim λy h=>h.elim λz h=>h.elim λw h=>h.elim λu h=>h.elim λv h=>k x y z w u v h.1 h.2.1 h.2.2.1 h.2.2.2.1 h.2.2.2.2
theorem e4a7{t0 t1 t2 t3:Type}{A B C D E F H:t0→t1→t2→t3→Prop}{G:Prop}(k:∀x y z w,A x y z w→B x y z w→C x y z w→D x y z w→E x y z w→F x y z w→H x y z w→G)(h:∃x y z w,A x y z w∧B x y z w∧C x y z w∧D x y z w∧E x y z w∧F x y z w∧H x y z w):G:=h.elim λx h=>h.elim λy h=>h.elim λz h=>h.elim λw h=>k x y z w h.1 h.2.1 h.2.2.1 h.2.2.2.1 h.2.2.2.2.1 h.2.2.2.2.2.1 h.2.2.2.2.2.2
theorem e5a7{t0 t1 t2 t3 t4:Type}{A B C D E F H:t0→t1→t2→t3→t4→Prop}{G:Prop}(k:∀x y z w u,A x y z w u→B x y z w u→C x y z w u→D x y z w u→E x y z w u→F x y z w u→H x y z w u→G)(h:∃x y z w u,A x y z w u∧B x y z w u∧C x y z w u∧D x y z w u∧E x y z w u∧F x y z w u∧H x y z w u):G:=h.elim λx h=>h.elim λy h=>h.elim λz h=>h.elim λw h=>h.elim λu h=>k x y z w u h.1 h.2.1 h.2.2.1 h.2.2.2.1 h.2.2.2.2.1 h.2.2.2.2.2.1 h.2.2.2.2.2.2
theorem e6a7{t0 t1 t2 t3 t4 t5:Type}{A B C D E F H:t0→t1→t2→t3→t4→t5→Prop}{G:Prop}(k:∀x y z w u v,A x y z w u v→B x y z w u v→C x y z w u v→D x y z w u v→E x y z w u v→F x y z w u v→H x y z w u v→G)(h:∃x y z w u v,A x y z w u v∧B x y z w u v∧C x y z w u v∧D x y z w u v∧E x y z w u v∧F x y z w u v∧H x y z w u v):G:=h.elim λx h=>h.elim λy h=>h.elim λz h=>h.elim λw h=>h.elim λu h=>h.elim λv h=>k x y z w u v h.1 h.2.1 h.2.2.1 h.2.2.2.1 h.2.2.2.2.1 h.2.2.2.2.2.1 h.2.2.2.2.2.2
local macro_rules|`(tactic|obtain $p:rcasesPatMed:=$v:term)=>do
 let c s:=((p.raw.reprint.getD "").splitOn s).length
 if c ","<3||c "|">1||c ":">1 then Lean.Macro.throwUnsupported
 let T (a:Lean.Syntax):Lean.TSyntax `Lean.Parser.Tactic.rcasesPatMed:=⟨a⟩
 let q:=p.raw
 let x:=q[0][0]
 let l:=x[1].getSepArgs
 let mut a:Array (Lean.TSyntax ``Lean.Parser.Tactic.tacticSeq):=#[]
 let mut y:Array Lean.Term:=#[]
 let mut z:Array (Array (Lean.TSyntax `tactic)):=#[]
 for o in l do
  let u:=o[0][0][0]
  let f:=Lean.mkIdent (←Lean.Macro.addMacroScope (.mkSimple s!"f{y.size}"))
  if u[0].getId==`rfl then
   y:=y.push f
   z:=z.push #[←`(tactic|subst $f:term)]
  else if u[0].isIdent then
   y:=y.push ⟨u[0]⟩
   z:=z.push #[]
  else if u[1].isMissing then
   y:=y.push (←`(_))
   z:=z.push #[]
  else
   y:=y.push f
   z:=z.push #[←`(tactic|obtain $(T o[0]):rcasesPatMed:=$f)]
 for j in [0:l.size] do
  if j==1 then continue
  let n:=l.size-j
  let mut i:=y.extract 0 n
  let mut w:=(z.extract 0 n).flatten
  if j>0 then
   i:=i.push (←`(r_))
   w:=w.push (←`(tactic|obtain $(T (q.setArg 0 (q[0].setArg 0 (x.setArg 1 (Lean.mkNullNode (Lean.mkSepArray (l.extract n l.size) (Lean.mkAtom ","))))))):rcasesPatMed:=r_))
  for k in [0:i.size] do
   let m:=Lean.mkIdent (.mkSimple s!"e{k}a{i.size-k}")
   let g←if v.raw.isIdent then `(tactic|(revert $(⟨v⟩):ident;refine $m fun $i*=>?_)) else `(tactic|refine $m (fun $i*=>?_) $v)
   a:=a.push (←`(Lean.Parser.Tactic.tacticSeq| $g:tactic;$[$w];*))
  if j==0&& !v.raw.isIdent then
   a:=a.push (←`(Lean.Parser.Tactic.tacticSeq| have h_ := $v; obtain $p := h_))
   break
 a:=a.push (←`(Lean.Parser.Tactic.tacticSeq| rcases $v:term with $p))
 `(tactic|first $[| $a]*)
open Array renaming length_toList → Ah, getD_eq_getD_getElem? → Bp, getElem?_eq_getElem → Dd, toList_append → Dt, getElem?_toList → Es, toList_push → Gj, getElem?_eq_some_iff → Hm, size_setIfInBounds → Ky, toList_extract → Mz, replicate → Nn, perm_iff_toList_perm → Ox, getElem?_eq_none → Qu, toList_reverse → Tz, getElem?_setIfInBounds → cX, toList_setIfInBounds → fV, toList_filterMap → mT
open Bool renaming false_eq_true → Bv, false_ne_true → Cp, and_eq_true → He, not_eq_true' → Hz, not_true → Lc, and_false → Uv, not_eq_false' → Xp
open Classical renaming propDecidable → Cf, byContradiction → Hl
open False renaming elim → Kd
open ForInStep renaming done → Cy, yield → Fp
open Int renaming toNat_natCast → Dq
open LawfulBEq renaming eq_of_beq → Dx
open List renaming mem_cons_self → Aa, length_map → Ab, mem_cons_of_mem → Ae, mem_singleton → Af, mem_append_right → Ag, mem_append_left → Al, getElem?_eq_some_iff → An, mem_cons → Ao, map_cons → Ar, size_toArray → Av, mem_append → Aw, mem_of_getElem? → Ax, length_cons → Ay, pairwise_cons → Bc, getElem?_eq_getElem → Be, length_append → Bh, range → Bi, map_append → Bo, mem_map → Br, getElem?_map → Bw, not_mem_nil → Bz, append_assoc → Cb, pairwise_append → Ce, lookup_cons → Cg, sublist_append_right → Cm, nodup_cons → Cn, nodup_nil → Cz, mem_range → Df, length_take → Dg, sublist_cons_self → Di, length_range → Dm, pairwise_iff_getElem → Dw, append_nil → Ea, pairwise_singleton → Eb, mem_flatMap → Ec, map_map → Ek, getElem?_append_right → Ey, perm_append_comm → Fe, length → Fj, take_succ_eq_append_getElem → Ft, getElem?_take_of_lt → Gd, mem_iff_getElem → Gh, nodup_append → Gk, length_eq_zero_iff → Gm, ext_getElem? → Gn, take_of_length_le → Gx, perm_middle → Hb, cons_append → Hd, getElem?_append_left → Ht, mem_filter → Hv, take_sublist → Hw, map_set → Hx, drop_sublist → Hy, map_congr_left → Ig, filterMap_cons → Ih, replicate → Io, getElem_mem → Ip, mem_replicate → Jb, mem_filterMap → Jc, length_nil → Ji, find?_cons → Jj, take_append_drop → Jr, reverse_perm → Jv, getElem?_set → Jw, take_length → Kl, extract_eq_take_drop → Km, length_pos_iff → Ko, length_erase_of_mem → Lb, length_zipIdx → Lo, lookup → Lp, length_pos_of_mem → Lw, length_singleton → Mj, length_drop → Mp, any_cons → Mx, mem_of_mem_take → Ng, mem_of_mem_drop → Nh, mem_erase_of_ne → Ni, map_nil → Oh, zip_cons_cons → Pd, getD_eq_getElem?_getD → Pe, mem_take_iff_getElem → Pv, mem_of_find?_eq_some → Pw, mem_reverse → Qr, eraseIdx_cons_succ → Qs, find?_some → Td, pairwise_reverse → Tf, mem_iff_getElem? → Tg, getElem?_reverse → Th, getElem?_eq_none → Ti, eraseIdx_sublist → Tj, getElem?_set_ne → Uu, getElem?_drop → Xo, pairwise_map → Ze, mapM_toArray → Zf, flatMap_cons → Zg, all_eq_true → cP, eq_nil_of_length_eq_zero → cW, getElem?_eq_none_iff → jB, set_eq_of_length_le → mP, getElem?_cons_succ → mS, getElem?_set_self → pK, drop_of_length_le → pL, find?_eq_none → o4
open List.Pairwise renaming nil → Fg, sublist → Ii
open List.Perm renaming swap → Et, append_left → Iy, refl → Le
open List.Sublist renaming refl → Dl
open List.cons renaming inj → Em
open Nat renaming le_refl → Ai, lt_of_lt_of_le → Ca, le_trans → Ci, ne_of_lt → Da, not_lt_zero → Dn, zero_le → Do, zero_add → Gz, lt_irrefl → Ha, mod_eq_of_lt → Hk, pow_le_pow_right → Ia, le_of_lt → Mc, mod_lt → Mw, mul_add → Qk, lt_trichotomy → Ql, lt_succ_of_lt → Qm, add_mod → Qn, succ_pos → Tc, add_right_comm → Yl, sub_zero → Zt, lt_trans → Zu, lt_succ_self → cV, lt_succ_iff → fS
open Ne renaming symm → Nm
open Option renaming isSome_iff_exists → Pu
open Option.some renaming inj → Cj
open Or renaming inl → Dj
open Prod.mk renaming injEq → Fz
open PyProof.Rows renaming wpS_bind → Az, pendingOf → Bd, wpS_pure → Bg, SortSt → Bx, wpS_forRange → Eo, slot_tuple_getitem → Er, IntsAre → Ge, wpS_mono → Hj, wpS_modify → Js, seqObj → Kw, failedOf → Lr, SortKind → Ls, callWith_type1 → Mg, wpS_get → Ms, envOfC → Pf, AllBare → Rv, reverseSlice' → Sy, sortedHeap → Ux, firstOfTuple' → cO, subscriptTail_builtinR → o8
open PyProof.Rows.F renaming plain_set_update_loop → Gc, entry_set_update_loop → Qj
open PySem renaming wpAny_bind → Ac, PyData → Ad, Shared → Aj, wpAny_pure → Ap, sizeLine → Bb, Program → Bj, SetTable → Bk, tupleKeyHash → Bu, starEach → By, intKind → Ck, FuncData → Cq, mainGlobals → Ct, Around → Cu, wpAny_newObj_type → Ei, foldedSetIterable → Eu, cellsFrom → Ez, wpAny_holding → Fb, IsTupleKey → Fn, behindInMarks → Fx, wpAny_mono → Fy, compareOp → Gi, wpAny_truthy_bool → Gw, wpAny_call_entry → Hs, backTo → Iq, wpAny_callSpecial?_slot → Jg, bootBuiltins → Jt, assignEach → Ju, wpAny_passesOwn → Kb, codeAny_builtin → Kc, swapsWith → Kf, sysModules → Ku, sizeLine_eq → Kv, binaryOp → Kx, wpAny_typeOf → Ld, wpAny_of_eq → Mf, rawInt → Mt, ofAClassStatement → Mu, codeAny → Mv, sliceBounds → Ov, NameKind → Ow, codeAny_mono → Px, wpAny_Call_Name_kw → Qo, newFunctionEnv → Qp, assign → Qq, getItem → Rq, Keyword → Ru, wpAny_comprehension_free → Sv, strLen_append → Sw, setSearchFrom → Sx, plainId_quiet → Sz, attributeBase → Ta, wpAny_forIn_list → Tv, setField → Tw, codeAny_compStart_list → Uy, builtinsNs → Uz, wpAny_loadPart' → Wd, wpAny_execs_nil → We, letOwnedTupleGo → Wf, keywordEach → Yi, hashByValue → Yj, IsPart → Ym, tupleKind → Zb, callerA → Zc, PassesOwn → Zd, wpAny_standAt → cN, tupleKind_room_in1 → cR, setEntries → cS, entryOfKey → cU, wpAny_setState_of → fP, wpAny_sequenceKey → fQ, wpAny_pyIter_list → fR, wpAny_askSetting → iZ, noFill_tuple_add → jA, wpAny_pyNext_list_item → o7, slot_list_getitem → ET
open PySem.Around renaming under_plainId → Hu
open PySem.Builtin.List renaming listTooLong → Of, listLengthHint → Wl
open PySem.Builtin.Range renaming rangeSize → Kg
open PySem.Builtin.Slice renaming slicePlaces → Jk, sliceAdjust → My, sliceApplied → Wk
open PySem.Builtin.Tuple renaming tupleExact → Fv, tupleItemsOf → Wi, tupleIsExact → Wj
open PySem.Calls renaming Name_function_global → fU
open PySem.Heap renaming get?_push_of_some → Aq, lt_size → Bl, get?_push_size → Bs, SameBut → Gf, get?_update_self → Ho, get?_update_other → pM
open PySem.Heap.SameBut renaming update → Cw
open PySem.NameKind renaming cell → Dz, free → En
open PySem.Obj renaming mapSeq → Ki, putSet → Yk
open PySem.PassesOwn renaming never → Du
open PySem.PyData renaming int → Bm, depthAll → Bn, depth → Dh, showable → Ja, hasDict → Lq, shownAll → Nf, tuple → Od, shown → Oe, showableAll → Wg, hasDictAll → Xn
open PySem.SeqAt renaming EqAt → Mi
open PySem.SetTable renaming below → Bt, insertAt → Co, bits → Cv, runEnd → Dc, Probe → Dv, turns → Ej, laid → Gs, layClean → Jh, advance → Jz, toList_insertAt → Pc, insertAt_perm → Qi, slot → Tx, sizeAbove → Ut
open PySem.SetTable.below renaming go → Rt
open PySem.SetTable.layClean renaming free → Dr
open PySem.SetTable.probe renaming go → Rr
open PySem.SetTable.sizeAbove renaming go → Kh
open PySem.Str renaming ofString → Fu
open PySem.Value renaming ref → Au, type → Ep, int → Mh, none → Qt
open Sum renaming inl → Tb
open True renaming intro → Ln
namespace L2
open PySem PySem.Spec PyProof.Rows
abbrev Kz:=Sum Int Str
def fG:Kz->Value->Bool
 | .inl k,v=>Value.isInt k v
 | .inr x,v=>Value.isStrOf x v
def GJ(w:World):Kz->Int
 | .inl k=>hashInt k
 | .inr x=>hashStr w x
theorem Hr:∀{k:Kz} {v:Value},fG k v=true->(∃i t,k=Tb i/\v=Mh i t)\/(∃x t,k=Sum.inr x/\v=Value.str x t)
 | .inl i,v,h=>by
  obtain ⟨t,e⟩:=Value.isInt_shape (k:=i) (v:=v) h
  exact .inl ⟨i,t,rfl,e⟩
 | .inr x,v,h=>by
  obtain ⟨t,e⟩:=Value.isStrOf_shape (x:=x) (v:=v) h
  exact .inr ⟨x,t,rfl,e⟩
theorem uF(i:Int)(t:Tok):fG (.inl i) (.int i t)=true:=by simp [fG,Value.isInt]
theorem sN(x:Str)(t:Tok):fG (.inr x) (.str x t)=true:=by simp [fG,Value.isStrOf]
theorem S7(a b:Int):decide ((Tb a:Kz)=Tb b)=(a == b):=by
 by_cases e:a=b
 ·subst e; simp
 ·have h:¬ (Tb a:Kz)=Tb b:=λq=>e (Sum.inl.inj q)
  rw[decide_eq_false h]
  exact (beq_eq_false_iff_ne.mpr e).symm
theorem T5(a b:Str):decide ((Sum.inr a:Kz)=Sum.inr b)=decide (a=b):=by
 by_cases e:a=b
 ·subst e; simp
 ·have h:¬ (Sum.inr a:Kz)=Sum.inr b:=λq=>e (Sum.inr.inj q)
  rw[decide_eq_false h,decide_eq_false e]
theorem Z1(a:Int)(b:Str):decide ((Tb a:Kz)=Sum.inr b)=false:=decide_eq_false (λq=>nomatch q)
theorem R3(a:Str)(b:Int):decide ((Sum.inr a:Kz)=Tb b)=false:=decide_eq_false (λq=>nomatch q)
def Ik(prog:Bj)(w:World):PySem.KeyKind prog w Kz where
 is:=fG
 hash:=GJ w
 inj:=λv a b ha hb=>by
  rcases Hr ha with ⟨i,t,rfl,rfl⟩ | ⟨x,t,rfl,rfl⟩
  ·rcases Hr hb with ⟨j,u,rfl,e⟩ | ⟨y,u,rfl,e⟩
   ·injection e with e1 _; rw[e1]
   ·exact nomatch e
  ·rcases Hr hb with ⟨j,u,rfl,e⟩ | ⟨y,u,rfl,e⟩
   ·exact nomatch e
   ·injection e with e1 _; rw[e1]
 byValue:=λk v h=>by
  rcases Hr h with ⟨i,t,rfl,rfl⟩ | ⟨x,t,rfl,rfl⟩ <;> rfl
 pyHash:=λhv h=>by
  rcases Hr hv with ⟨i,t,rfl,rfl⟩ | ⟨x,t,rfl,rfl⟩
  ·exact wpAny_pyHash_int h
  ·exact wpAny_pyHash_str h
 eqBool:=λhu hv h=>by
  rcases Hr hu with ⟨i,t,rfl,rfl⟩ | ⟨x,t,rfl,rfl⟩
  ·rcases Hr hv with ⟨j,u,rfl,rfl⟩ | ⟨y,u,rfl,rfl⟩
   ·rw[S7] at h; exact wpAny_eqBool_int h
   ·rw[Z1] at h; exact SeqAt.EqAt.int_str i t y u _ _ _ _ h
  ·rcases Hr hv with ⟨j,u,rfl,rfl⟩ | ⟨y,u,rfl,rfl⟩
   ·rw[R3] at h; exact SeqAt.EqAt.str_int x t j u _ _ _ _ h
   ·rw[T5] at h; exact wpAny_eqBool_str h
 «strs»:=λk x t v h=>by
  rcases Hr h with ⟨i,u,rfl,e⟩ | ⟨y,u,rfl,e⟩
  ·exact nomatch e
  ·injection e with e1 _
   subst e1
   cases v <;> rfl
theorem kR(prog:Bj)(w:World)(i:Int)(t:Tok):(Ik prog w).is (.inl i) (.int i t)=true:=uF i t
theorem jG(prog:Bj)(w:World)(x:Str)(t:Tok):(Ik prog w).is (.inr x) (.str x t)=true:=sN x t
inductive V where
 | non | bl (b:Bool) | int (i:Int) | str (x:Str) | byt (b:Array UInt8) | flt (b:UInt64) | ref (a:Addr) | ty (n:String)
 deriving DecidableEq
def RelV:V->Value->Prop
 | .non,u=>u=Qt
 | .bl b,u=>u=Value.bool b
 | .int i,u=>∃t,u=Mh i t
 | .str x,u=>∃t,u=Value.str x t
 | .byt b,u=>∃t,u=Value.bytes b t
 | .flt b,u=>∃t,u=Value.float b t
 | .ref a,u=>u=Au a
 | .ty n,u=>u=Ep n
abbrev Fs:List V->List Value->Prop:=Paired RelV
theorem Fs.length{xs:List V}{us:List Value}(r:Fs xs us):xs.length=us.length:=Paired.length r
theorem Fs.get:∀{xs:List V} {us:List Value} {i:Nat} {x:V},Fs xs us->xs[i]? = some x->∃u,us[i]? = some u/\RelV x u
 | _,_,_,_,.nil,e=>by simp at e
 | _,_,0,_,.cons r _,e=>by simp at e; subst e; exact ⟨_,rfl,r⟩
 | _,_,i+1,x,.cons _ t,e=>by
  obtain ⟨u,h1,h2⟩:=Fs.get (i:=i) (x:=x) t (by simpa using e)
  exact ⟨u,by simpa using h1,h2⟩
theorem Fs.set{x:V}{u:Value}(r:RelV x u):∀{xs:List V} {us:List Value} (i:Nat),Fs xs us->Fs (xs.set i x) (us.set i u)
 | _,_,_,.nil=>.nil
 | _,_,0,.cons _ t=>.cons r t
 | _,_,i+1,.cons q t=>.cons q (Fs.set r i t)
theorem Fs.append:∀{xs ys:List V} {us ws:List Value},Fs xs us->Fs ys ws->Fs (xs++ys) (us++ws)
 | _,_,_,_,.nil,s=>s
 | _,_,_,_,.cons r t,s=>.cons r (Fs.append t s)
theorem Fs.take:∀{xs:List V} {us:List Value} (n:Nat),Fs xs us->Fs (xs.take n) (us.take n)
 | _,_,0,_=>.nil
 | _,_,_+1,.nil=>.nil
 | _,_,n+1,.cons r t=>.cons r (Fs.take n t)
theorem Fs.drop:∀{xs:List V} {us:List Value} (n:Nat),Fs xs us->Fs (xs.drop n) (us.drop n)
 | _,_,0,r=>r
 | _,_,_+1,.nil=>.nil
 | _,_,n+1,.cons _ t=>Fs.drop n t
def pI:Option V->Option Value->Prop
 | some v,some u=>RelV v u
 | none,none=>True
 | _,_=>False
def KV{κ:Type}:List (κ×V)->List (κ×Value)->Prop:=Paired λ(p:κ×V) (q:κ×Value)=>p.1=q.1/\RelV p.2 q.2
def kV:Kz->V
 | .inl i=>.int i
 | .inr x=>.str x
inductive HO where
 /-- a list -/
 | lst (xs:List V)
 /-- a tuple (never changes) -/
 | tup (xs:List V)
 /-- a dict whose u5 are ints and texts; one whose u5 are tuples of ints and texts (the empty one is both) -/
 | dK (kvs:List (Kz×V)) | dT (kvs:List (List Kz×V))
 /-- a set of ints: its members,its size -/
 | set (S:Int->Bool) (n:Nat)
 /-- an instance of the class at C,its dict at dx,its attributes -/
 | ins (C dx:Addr) (fs:List (Str×V))
 /-- the dict of the instance at x -/
 | own (x:Addr)
 /-- the dict of an exception -/
 | xd (fs:List (Str×V))
 /-- a bound method,f of x -/
 | met (f x:Addr)
 /-- a range object lo,lo+1,.. below hi -/
 | rng (lo hi:Int)
 /-- a thing that is known to the object (the script; a dict while a loop walks it): read,never written while it is so -/
 | frz (o:Obj) (u:HO)
 /-- a code object's table -/
 | tbl (ps:Array Value)
 /-- any other thing,by what is true of its one object (a def of one's own: FZ a S n:=HO.ext λh=>..) -/
 | ext (φ:Heap->Prop)
abbrev Hp:=Addr->Option HO
def upd(H:Hp)(a:Addr)(o:HO):Hp:=λb=>if b=a then some o else H b
theorem Ed{H:Hp}{a:Addr}{o:HO}:upd H a o a=some o:=by unfold upd; rw[if_pos rfl]
theorem Ew{H:Hp}{a b:Addr}{o:HO}(h:b≠a):upd H a o b=H b:=by unfold upd; rw[if_neg h]
theorem CV{H:Hp}{a b:Addr}{o u:HO}(h:H a=some o)(h':H b=some u)(d:o≠u):a≠b:=by
 intro e; subst e; rw[h] at h'; exact d (Cj h')
theorem Gg{H:Hp}{a b:Addr}{o:HO}(h:H a=some o)(h':H b=none):a≠b:=by
 intro e; subst e; rw[h] at h'; cases h'
section
variable(P:Bj)(w:World)
def Gu(H:Hp)(h:Heap)(a:Addr):HO->Prop
 | .lst xs=>xs.length<=Bb/\∃(its:List Value) (n:Nat),Fs xs its/\h.get? a=some { cls:=.type "list",data:=.seq its.toArray n }
 | .tup xs=>xs.length<=Bb/\∃its:List Value,Fs xs its/\IsTup h a its.toArray
 | .dK kvs=>kvs.length<=Bb/\(a == Ku)=false/\∃vs,KV kvs vs/\h.DictOf (Ik P w) a vs
 | .dT kvs=>kvs.length<=Bb/\(a == Ku)=false/\∃xs:List (List Kz×Addr×Value),
   Paired (λ(p:List Kz×V) (q:List Kz×Addr×Value)=>p.1=q.1/\H q.2.1=some (.tup (p.1.map kV))/\RelV p.2 q.2.2) kvs xs /\
   ∃o es ep,h.get? a=some o/\o.ExactDict/\o.data=.dict es ep/\es.toList=xs.map (cU (Zb (Ik P w)))/\(xs.map (·.1)).Nodup/\ep=es.size
 | .set S n=>h.SetOf (Ck P w) a S n
 | .ins C dx fs=>H dx=some (.own a)/\fs.length<=1000/\dx≠a/\h.get? a=some (PySem.W.instObj C dx) /\
   ∃mA,h.Ns1 dx mA/\(∀f,pI (fs.lookup f) (mA f))/\PySem.Within mA (fs.map (·.1))
 | .own _=>∃o,h.get? a=some o
 | .xd fs=>∃mA,h.Ns1 a mA/\∀f,pI (fs.lookup f) (mA f)
 | .rng lo hi=>∃t u v,h.get? a=some { cls:=.type "range",data:=.fields #[.int lo t,.int hi u,.int 1 v] }
 | .frz o u=>h.get? a=some o/\Gu H h a u
 | .tbl ps=>∃qs:Array Value,h.get? a=some { cls:=.none,data:=.fields qs }/\TriplesOk qs.toList/\∀(pos:Pos) (v:Value),codeAmong pos qs.toList=some v->∃(c:Addr) (oc:Obj) (us:Array Value) (q:Str) (t t0:Tok),v=.ref c/\H c=some (.own a)/\h.get? c=some oc/\oc.data=.fields us/\us[1]? = some (.str q t)/\ps[0]? = some (.str q t0)
 | .met f x=>h.get? a=some (PySem.W.methodObj (.ref f) (.ref x))
 | .ext φ=>φ h/\(∃o,h.get? a=some o)/\∀h1 h2:Heap,φ h1->(∀o,h1.get? a=some o->h2.get? a=some o)->φ h2
def Vm(H:Hp)(h:Heap):Prop:=∀a o,H a=some o->Gu P w H h a o
end
section
variable{P:Bj}{w:World}{H H':Hp}{h h':Heap}{a:Addr}{o:HO}
theorem Gu.lt(x:Gu P w H h a o):a<h.objs.size:=by
 cases o with
 | lst xs=>obtain ⟨_,_,_,_,e⟩:=x; exact Bl e
 | tup xs=>obtain ⟨_,_,_,p⟩:=x; exact p.lt
 | dK kvs=>obtain ⟨_,_,_,_,o,_,_,e,_⟩:=x; exact Bl e
 | dT kvs=>obtain ⟨_,_,_,_,o,_,_,e,_⟩:=x; exact Bl e
 | set S n=>obtain ⟨o,_,_,_,e,_⟩:=x; exact Bl e
 | ins C dx fs=>obtain ⟨_,_,_,e,_⟩:=x; exact Bl e
 | own y=>obtain ⟨_,e⟩:=x; exact Bl e
 | xd fs=>obtain ⟨_,⟨_,_,_,e,_⟩,_⟩:=x; exact Bl e
 | rng lo hi=>obtain ⟨_,_,_,e⟩:=x; exact Bl e
 | frz ob u=>obtain ⟨e,_⟩:=x; exact Bl e
 | tbl ps=>obtain ⟨_,e,_⟩:=x; exact Bl e
 | met f y=>exact Bl (show h.get? a=some _ from x)
 | ext φ=>obtain ⟨_,⟨_,e⟩,_⟩:=x; exact Bl e
theorem Paired.mapP{α β:Type}{F G:α->β->Prop}:∀{l₁:List α} {l₂:List β},Paired F l₁ l₂->(∀a b,F a b->G a b)->Paired G l₁ l₂
 | _,_,.nil,_=>.nil
 | _,_,.cons r t,f=>.cons (f _ _ r) (Paired.mapP t f)
theorem Gu.stay(x:Gu P w H h a o)(k:∀b u,(b=a\/H b=some (.own a))->h.get? b=some u->h'.get? b=some u)(ho:∀b,H b=some (.own a)->H' b=some (.own a))(ht:∀b xs,H b=some (.tup xs)->H' b=some (.tup xs)):Gu P w H' h' a o:=by
 induction o with
 | lst xs=>obtain ⟨z,its,n,r,e⟩:=x; exact ⟨z,its,n,r,k _ _ (.inl rfl) e⟩
 | tup xs=>obtain ⟨z,its,r,ob,e,c⟩:=x; exact ⟨z,its,r,ob,k _ _ (.inl rfl) e,c⟩
 | dK kvs=>obtain ⟨z,y,vs,r,ob,es,ep,e,c⟩:=x; exact ⟨z,y,vs,r,ob,es,ep,k _ _ (.inl rfl) e,c⟩
 | dT kvs =>
  obtain ⟨z,y,xs,r,ob,es,ep,e,c⟩:=x
  exact ⟨z,y,xs,Paired.mapP r λp q z=>⟨z.1,ht _ _ z.2.1,z.2.2⟩,ob,es,ep,k _ _ (.inl rfl) e,c⟩
 | set S n=>obtain ⟨ob,es,ep,t,e,c⟩:=x; exact ⟨ob,es,ep,t,k _ _ (.inl rfl) e,c⟩
 | ins C dx fs =>
  obtain ⟨d,z,ne,e,mA,⟨od,es,ep,e2,c⟩,r⟩:=x
  exact ⟨ho _ d,z,ne,k _ _ (.inl rfl) e,mA,⟨od,es,ep,k _ _ (.inr d) e2,c⟩,r⟩
 | own y=>obtain ⟨ob,e⟩:=x; exact ⟨ob,k _ _ (.inl rfl) e⟩
 | xd fs=>obtain ⟨mA,⟨od,es,ep,e,c⟩,r⟩:=x; exact ⟨mA,⟨od,es,ep,k _ _ (.inl rfl) e,c⟩,r⟩
 | rng lo hi=>obtain ⟨t,u,v,e⟩:=x; exact ⟨t,u,v,k _ _ (.inl rfl) e⟩
 | frz ob u ih=>obtain ⟨e,q⟩:=x; exact ⟨k _ _ (.inl rfl) e,ih q⟩
 | tbl ps =>
  obtain ⟨qs,e,t,z⟩:=x
  exact ⟨qs,k _ _ (.inl rfl) e,t,λpos v y=>by
   obtain ⟨c,oc,us,q,t,t0,h1,h2,h3,h4⟩:=z pos v y
   exact ⟨c,oc,us,q,t,t0,h1,ho _ h2,k _ _ (.inr h2) h3,h4⟩⟩
 | met f y =>
  have e:h.get? a=some (PySem.W.methodObj (.ref f) (.ref y)):=x
  show h'.get? a=some (PySem.W.methodObj (.ref f) (.ref y))
  exact k a _ (.inl rfl) e
 | ext φ=>obtain ⟨p,⟨o,e⟩,st⟩:=x; exact ⟨st _ _ p λo q=>k _ _ (.inl rfl) q,⟨o,k _ _ (.inl rfl) e⟩,st⟩
theorem Vm.lt(x:Vm P w H h)(e:H a=some o):a<h.objs.size:=(x a o e).lt
theorem Vm.fresh(x:Vm P w H h)(e:h.objs.size<=a):H a=none:=by
 cases q:H a with
 | none=>rfl
 | some u=>exact absurd (Ca (x.lt q) e) (Ha _)
theorem Vm.kept(x:Vm P w H h)(k:∀b u,h.get? b=some u->h'.get? b=some u):Vm P w H h':=λa o e =>
 (x a o e).stay (λb u _ q=>k b u q) (λ_ q=>q) λ_ _ q=>q
theorem Vm.laid(x:Vm P w H h)(k:∀b u,h.get? b=some u->h'.get? b=some u)(hp:h.objs.size<=a)(new:Gu P w (upd H a o) h' a o):Vm P w (upd H a o) h':=λb u e=>by
 have hn:=x.fresh hp
 by_cases hb:b=a
 ·subst hb; rw[Ed] at e; cases e; exact new
 ·rw[Ew hb] at e
  exact (x b u e).stay (λc v _ q=>k c v q) (λc q=>by rw[Ew (Gg q hn)]; exact q) λc xs q=>by rw[Ew (Gg q hn)]; exact q
end
def Rd(H:Hp)(a:Addr)(u:HO):Prop:=H a=some u\/∃o,H a=some (.frz o u)
theorem Rd.ok{P:Bj}{w:World}{H:Hp}{h:Heap}{a:Addr}{u:HO}(r:Rd H a u)(x:Vm P w H h):Gu P w H h a u:=by
 rcases r with r | ⟨o,r⟩
 ·exact x a u r
 ·obtain ⟨_,q⟩:=x a _ r
  exact q
def AR:Option HO->Prop
 | some (.lst _)=>True
 | some (.dK _)=>True
 | some (.dT _)=>True
 | some (.set _ _)=>True
 | some (.ins _ _ _)=>True
 | some (.ext _)=>True
 | _=>False
section
variable{P:Bj}{w:World}{H:Hp}{h h':Heap}{x e:Addr}{o':HO}
theorem Vm.write(ok:Vm P w H h)(mu:AR (H x))(he:e=x\/H e=some (.own x))(k:∀b u,b≠e->h.get? b=some u->h'.get? b=some u)(heo:∃u,h'.get? e=some u)(new:Gu P w (upd H x o') h' x o'):Vm P w (upd H x o') h':=λb u q=>by
 have nown:∀c y,H c=some (.own y)->c≠x:=λc y r z=>by subst z; rw[r] at mu; exact mu
 have cK:∀c xs,H c=some (.tup xs)->c≠x:=λc xs r z=>by subst z; rw[r] at mu; exact mu
 by_cases hb:b=x
 ·subst hb; rw[Ed] at q; cases q; exact new
 ·rw[Ew hb] at q
  by_cases hbe:b=e
  ·have q':H b=some (.own x):=by
    rcases he with z | z
    ·exact absurd (hbe.trans z) hb
    ·rw[hbe]; exact z
   rw[q] at q'; cases q'
   obtain ⟨v,hv⟩:=heo
   exact ⟨v,by rw[hbe]; exact hv⟩
  ·refine (ok b u q).stay (λc v hc r=>k c v ?_ r) (λc r=>by rw[Ew (nown c b r)]; exact r) λc xs r=>by rw[Ew (cK c xs r)]; exact r
   rcases hc with rfl | hc
   ·exact hbe
   ·rintro rfl
    rcases he with z | z
    ·exact nown c b hc z
    ·rw[hc] at z; cases z; exact hb rfl
end
structure Un(fs ex:List Addr)(H H':Hp)(h h':Heap):Prop where
 keep:∀b o,h.get? b=some o->H b=none->b∉fs->b∉ex->h'.get? b=some o
 slot:∀b o,h.get? b=some o->H b=none->b∈fs->b∉ex->∃sl,h'.get? b=some { o with slots:=sl }
 free:∀b o,h.get? b=some o->H b=none->b∉ex->H' b=none
 there:∀b o,h.get? b=some o->b∉ex->∃o',h'.get? b=some o'
 tups:∀b xs,H b=some (.tup xs)->H' b=some (.tup xs)
 frzs:∀b o u,H b=some (.frz o u)->H' b=some (.frz o u)
 tbls:∀b ps,H b=some (.tbl ps)->∃more,H' b=some (.tbl (ps++more))
section
variable{fs fs' ex ex':List Addr}{H H1 H2:Hp}{h h1 h2 h':Heap}{a x e:Addr}{o:HO}
theorem Un.any(u:Un fs ex H H1 h h1){b:Addr}{ob:Obj}(q:h.get? b=some ob)(n:H b=none)(hx:b∉ex):∃sl,h1.get? b=some { ob with slots:=sl }:=by
 by_cases hb:b∈fs
 ·exact u.slot b ob q n hb hx
 ·exact ⟨ob.slots,u.keep b ob q n hb hx⟩
theorem Un.kept(k:∀b u,h.get? b=some u->h'.get? b=some u):Un fs ex H H h h' :=
 ⟨λb ob q _ _ _=>k b ob q,λb ob q _ _ _=>⟨ob.slots,k b ob q⟩,λ_ _ _ n _=>n,λb ob q _=>⟨ob,k b ob q⟩,λ_ _ q=>q,λ_ _ _ q=>q,λ_ ps q=>⟨#[],by rw[q]; simp⟩⟩
theorem Un.refl:Un fs ex H H h h:=Un.kept λ_ _ q=>q
theorem Un.laid(k:∀b u,h.get? b=some u->h'.get? b=some u)(hp:h.objs.size<=a)(hn:H a=none):Un fs ex H (upd H a o) h h' where
 keep:=λb u q _ _ _=>k b u q
 slot:=λb u q _ _ _=>⟨u.slots,k b u q⟩
 free:=λb u q n _=>by rw[Ew (Da (Ca (Bl q) hp))]; exact n
 there:=λb u q _=>⟨u,k b u q⟩
 tups:=λb xs q=>by rw[Ew (Gg q hn)]; exact q
 frzs:=λb u xs q=>by rw[Ew (Gg q hn)]; exact q
 tbls:=λb ps q=>⟨#[],by rw[Ew (Gg q hn),q]; simp⟩
theorem Un.write(mu:AR (H x))(he:e=x\/H e=some (.own x))(k:∀b u,b≠e->h.get? b=some u->h'.get? b=some u)(heo:∃u,h'.get? e=some u):Un fs ex H (upd H x o) h h':=by
 have hx:∀b,H b=none->b≠x:=λb n z=>by subst z; rw[n] at mu; exact mu
 have hb:∀b,H b=none->b≠e:=λb n z=>by
  subst z
  rcases he with r | r
  ·exact hx b n r
  ·rw[n] at r; cases r
 have hm:∀b u,H b=some u->¬ AR (some u)->b≠x:=λb u q nm z=>by subst z; rw[q] at mu; exact nm mu
 refine ⟨λb u q n _ _=>k b u (hb b n) q,λb u q n _ _=>⟨u.slots,k b u (hb b n) q⟩,λb u q n _=>by rw[Ew (hx b n)]; exact n,λb u q _=>?_,
  λb xs q=>by rw[Ew (hm b _ q λz=>z)]; exact q,λb u xs q=>by rw[Ew (hm b _ q λz=>z)]; exact q,λb ps q=>⟨#[],by rw[Ew (hm b _ q λz=>z),q]; simp⟩⟩
 by_cases hbe:b=e
 ·subst hbe; exact heo
 ·exact ⟨u,k b u hbe q⟩
end
def EU(h:Heap)(H:Hp):List Addr:=(Bi h.objs.size).filter λa=>(H a).isSome
def dE(h:Heap)(H:Hp):Heap:=PySem.W.hideAll h (EU h H)
theorem tN(h:Heap)(H:Hp):(dE h H).objs.size=h.objs.size:=PySem.W.hideAll_size _ _
theorem xK{h:Heap}{H:Hp}{b:Addr}{o:Obj}(e:h.get? b=some o)(n:H b=none):(dE h H).get? b=some o :=
 PySem.W.hideAll_get _ e λhm=>by
  have q:(H b).isSome=true:=(Hv.mp hm).2
  rw[n] at q; simp at q
theorem D0{h:Heap}{H:Hp}{b:Addr}{o:Obj}(e:(dE h H).get? b=some o):h.get? b=some o/\H b=none:=by
 have e':h.get? b=some o:=PySem.W.of_hideAll (EU h H) e
 refine ⟨e',?_⟩
 cases q:H b with
 | none=>rfl
 | some x =>
  have hm:b∈EU h H:=Hv.mpr ⟨Df.mpr (Bl e'),by simp [q]⟩
  have z:(dE h H).get? b=none:=PySem.W.hideAll_none (EU h H) hm
  rw[z] at e; cases e
def C4(g h:Heap)(L:Addr):List (Addr×Obj):=(Bi h.objs.size).filterMap λa=>if a=L\/(g.get? a).isSome=true then none else (h.get? a).map λo=>(a,o)
def Fo(g h:Heap)(L d:Addr):List (Addr×Obj):=(C4 g h L).filter λp=>decide (p.1≠d)
structure Mod(K:PySem.W.Frag)(mg:Str->Option Value)(base:Heap):Prop where
 kin:K.In base
 glob:base.Ns Ct mg
 blt:∃mb,base.Ns Uz mb/\∀x:Str,x ≠ "__name__" -> mb x=Jt x
 nolimit:base.NoLimit
def Vg:List Str:=["often", "cut_by"]
def P7(x:Str):Str:=x ++ ".<locals>." ++ "<lambda>"
def N8(H:Hp)(P:Addr)(q:Str):Prop:=∃(ps:Array Value) (t0:Tok),H P=some (.tbl ps)/\ps[0]? = some (.str q t0)
def xX(K:PySem.W.Frag)(mg:Str->Option Value)(base:Heap)(H:Hp):Prop:=∀x∈Vg,∀c P,PySem.W.tabIn K x=some (c,P)->PySem.W.CodeHd base c P/\base.BuiltinsAt mg P/\N8 H P (P7 x)
theorem xX.un{K:PySem.W.Frag}{mg:Str->Option Value}{base:Heap}{fs ex:List Addr}{H H':Hp}{h h':Heap}(t:xX K mg base H)(u:Un fs ex H H' h h'):xX K mg base H':=λx hx c P e=>by
 obtain ⟨h1,h2,ps,t0,h3,h4⟩:=t x hx c P e
 obtain ⟨more,h5⟩:=u.tbls P ps h3
 refine ⟨h1,h2,ps++more,t0,h5,?_⟩
 have hl:0<ps.size:=by
  rcases Nat.eq_zero_or_pos ps.size with z | z
  ·rw[Qu (by omega)] at h4; cases h4
  ·exact z
 rw[Array.getElem?_append_left hl]
 exact h4
structure Cx where
 prog:Bj
 w:World
 K:PySem.W.Frag
 mg:Str->Option Value
 base:Heap
 A:Cu
 N:List Str
 s₀:Aj
 H₀:Hp
 env:Env
 outer:List Env
 stack:List Env
 ex:List Addr
 fn:Str->Bool
 calm:Bool
 pn:List (Addr×Obj)
 xe:Value->Aj->Prop
def uE(l:List Env):List Addr:=l.filterMap (·.frame)
abbrev Cx.fs(X:Cx):List Addr:=uE X.outer
def AV(sc:Scope)(x:Str):Prop:=sc.names.lookup x=some .local\/sc.names.lookup x=some .cell\/sc.names.lookup x=some .free
def Loc(sc:Scope)(x:Str):Prop:=sc.names.lookup x=some .local\/sc.names.lookup x=some .cell
def FX(env:Env)(h:Heap)(m:Str->Option Value)(x:Str)(u:Value):Prop :=
 (env.kindOf x=some .local/\m x=some u)\/((env.kindOf x=some .cell\/env.kindOf x=some .free)/\∃c,env.cells.lookup x=some c/\h.IsCell c (some u))
structure Cx.Ok(X:Cx):Prop where
 mod:Mod X.K X.mg X.base
 kind:X.env.scope.kind=.function
 glob:X.env.globals=Ct
 blt:X.env.builtins=Uz
 above:X.s₀.heap.objs.size<=X.env.locals
 inj:∀x y c,X.env.cells.lookup x=some c->X.env.cells.lookup y=some c->x=y
 has:∀x,(X.env.kindOf x=some .cell\/X.env.kindOf x=some .free)->∃c,X.env.cells.lookup x=some c
 cab:∀x c,X.fn x=true->X.env.cells.lookup x=some c->X.s₀.heap.objs.size<=c
 hd:X.calm=true->X.A.handled=none
 frames:X.A.frames=some X.stack
 stk:X.stack=X.outer\/(X.stack=X.env::X.outer/\X.env.frame=some X.env.locals)
 exf:∀b∈X.ex,b≠X.env.locals/\∀x c,X.env.cells.lookup x=some c->c≠b
 bs:∀b o,X.base.get? b=some o->X.s₀.heap.get? b=some o/\X.H₀ b=none
 bsz:X.base.objs.size<=X.s₀.heap.objs.size
 noex:∀b o,X.base.get? b=some o->b∉X.ex
 exfs:∀b∈X.ex,b∉X.fs
 funs:X.s₀.heap.FunFrames X.base X.outer
 frf:∀b∈X.fs,X.H₀ b=none
 tab:xX X.K X.mg X.base X.H₀
structure Inv(X:Cx)(pins:List (Addr×Obj))(σ:List (Option V))(H:Hp)(s:Aj):Prop where
 ok:X.Ok
 os:s.os=X.s₀.os
 bare:Rv s.gens
 base:Un X.fs X.ex X.H₀ H X.s₀.heap s.heap
 loc:∃m,s.heap.Ns X.env.locals m/\∀(i:Nat) (x:Str) (v:V),X.N[i]? = some x->σ[i]? = some (some v)->AV X.env.scope x->∃u,RelV v u/\FX X.env s.heap m x u
 cell:∀x c,X.env.cells.lookup x=some c->∃v,s.heap.IsCell c v
 free:H X.env.locals=none
 freeC:∀x c,X.env.cells.lookup x=some c->H c=none
 pin:∀p∈X.pn++pins,s.heap.get? p.1=some p.2/\H p.1=none/\p.1≠X.env.locals/\p.1∉X.fs/\∀v,p.2.data≠.cell v
 hok:Vm X.prog X.w H s.heap
 len:σ.length=X.N.length
section
variable{X:Cx}{pins:List (Addr×Obj)}{σ:List (Option V)}{H H':Hp}{s:Aj}{h':Heap}
theorem Cx.Ok.nofr(ok:X.Ok){b:Addr}{o:Obj}(e:X.base.get? b=some o):b∉X.fs:=λhb=>by
 have:=(ok.funs.mem hb).1
 rw[e] at this; cases this
theorem Inv.bs(I:Inv X pins σ H s):∀b o,X.base.get? b=some o->s.heap.get? b=some o/\H b=none:=λb o e =>
 ⟨I.base.keep b o (I.ok.bs b o e).1 (I.ok.bs b o e).2 (I.ok.nofr e) (I.ok.noex b o e),I.base.free b o (I.ok.bs b o e).1 (I.ok.bs b o e).2 (I.ok.noex b o e)⟩
theorem Inv.bk(I:Inv X pins σ H s):∀b o,X.base.get? b=some o->s.heap.get? b=some o:=λb o e=>(I.bs b o e).1
theorem Inv.mod(I:Inv X pins σ H s):Mod X.K X.mg X.base:=I.ok.mod
theorem Inv.kIn(I:Inv X pins σ H s):X.K.In s.heap:=I.ok.mod.kin.keeps I.bk
theorem Inv.lt(I:Inv X pins σ H s):X.env.locals<s.heap.objs.size:=let ⟨_,hn,_⟩:=I.loc; hn.lt
theorem Inv.sz(I:Inv X pins σ H s):X.s₀.heap.objs.size<=s.heap.objs.size:=Ci I.ok.above (Mc I.lt)
theorem Inv.nofs(I:Inv X pins σ H s){a:Addr}(h:s.heap.objs.size<=a):a∉X.fs:=λhb=>by
 obtain ⟨_,o,ho,_⟩:=I.ok.funs.mem hb
 exact absurd (Ca (Bl ho) (Ci I.sz h)) (Ha _)
theorem Inv.cne(I:Inv X pins σ H s):∀x c,X.env.cells.lookup x=some c->c≠X.env.locals:=λx c e z=>by
 obtain ⟨v,o,ho,hd⟩:=I.cell x c e
 obtain ⟨m,⟨o',es,ep,ho',hd',_⟩,_⟩:=I.loc
 rw[z,ho'] at ho; cases ho; rw[hd'] at hd; cases hd
theorem Inv.funs(I:Inv X pins σ H s):s.heap.FunFrames X.base X.outer:=by
 have all:∀(l:List Env),(∀b∈uE l,b∈X.fs)->X.s₀.heap.FunFrames X.base l->s.heap.FunFrames X.base l:=by
  intro l
  induction l with
  | nil=>intro _ _; trivial
  | cons env r ih =>
   intro hs hl
   obtain ⟨hk,⟨L,o,hf,hn,ho,hd⟩,hr⟩:=hl
   have hL:L∈X.fs:=hs L (by unfold uE; rw[Ih,hf]; exact Aa)
   obtain ⟨sl,e⟩:=I.base.slot L o ho (I.ok.frf L hL) hL λz=>I.ok.exfs L z hL
   exact ⟨hk,⟨L,_,hf,hn,e,hd⟩,ih (λb hb=>hs b (by unfold uE; rw[Ih,hf]; exact Ae _ hb)) hr⟩
 exact all X.outer (λ_ hb=>hb) I.ok.funs
theorem Inv.stack(I:Inv X pins σ H s):s.heap.FunFrames X.base X.stack:=by
 rcases I.ok.stk with e | ⟨e,hf⟩
 ·rw[e]; exact I.funs
 ·rw[e]
  obtain ⟨m,hn,_⟩:=I.loc
  refine .cons (by rw[I.ok.kind]; decide) hf hn ?_ I.funs
  exact Heap.get?_none_of_le (Ci I.ok.bsz I.ok.above)
theorem Inv.stkSub(I:Inv X pins σ H s):∀b∈uE X.stack,b∈X.env.locals::X.fs:=λb hb=>by
 rcases I.ok.stk with e | ⟨e,hf⟩
 ·rw[e] at hb; exact Ae _ hb
 ·rw[e] at hb
  unfold uE at hb
  rw[Ih,hf] at hb
  exact hb
theorem Inv.stkFree(I:Inv X pins σ H s):∀b∈uE X.stack,H b=none:=λb hb=>by
 rcases Ao.mp (I.stkSub b hb) with e | hb
 ·rw[e]; exact I.free
 ·obtain ⟨_,o,ho,_⟩:=I.ok.funs.mem hb
  exact I.base.free b o ho (I.ok.frf b hb) λz=>I.ok.exfs b z hb
theorem Inv.step{g':Array GenState}{t':Nat}{d':Drawn}{ch:List Addr}(I:Inv X pins σ H s)(hch:∀b∈ch,(b∈X.ex\/X.s₀.heap.objs.size<=b)/\b≠X.env.locals/\(∀x c,X.env.cells.lookup x=some c->c≠b)/\∀p∈X.pn++pins,p.1≠b)(keep:∀b o,b≠X.env.locals->b∉X.fs->b∉ch->s.heap.get? b=some o->H b=none->h'.get? b=some o)(slot:∀b o,b≠X.env.locals->b∈X.fs->b∉ch->s.heap.get? b=some o->H b=none->∃sl,h'.get? b=some { o with slots:=sl })(free:∀b o,b∉ch->s.heap.get? b=some o->H b=none->H' b=none)(there:∀b o,b∉ch->s.heap.get? b=some o->∃o',h'.get? b=some o')(tups:∀b xs,H b=some (.tup xs)->H' b=some (.tup xs))(frzs:∀b o u,H b=some (.frz o u)->H' b=some (.frz o u))(tbls:∀b ps,H b=some (.tbl ps)->∃more,H' b=some (.tbl (ps++more)))(ns:∀m,s.heap.Ns X.env.locals m->h'.Ns X.env.locals m)(hok:Vm X.prog X.w H' h')(hg:Rv g'):Inv X pins σ H' { s with heap:=h',gens:=g',drawn:=d',toks:=t' }:=by
 have neL:∀b o,X.s₀.heap.get? b=some o->b≠X.env.locals:=λb o e=>Da (Ca (Bl e) I.ok.above)
 have neC:∀b o,X.s₀.heap.get? b=some o->b∉X.ex->b∉ch:=λb o e hx hb=>by
  rcases (hch b hb).1 with z | z
  ·exact hx z
  ·exact absurd (Ca (Bl e) z) (Ha _)
 have cellK:∀x c,X.env.cells.lookup x=some c->∀v,s.heap.IsCell c v->h'.IsCell c v:=λx c e v ⟨o,ho,hd⟩=>by
  have nch:c∉ch:=λz=>(hch c z).2.2.1 x c e rfl
  by_cases hc:c∈X.fs
  ·obtain ⟨sl,q⟩:=slot c o (I.cne x c e) hc nch ho (I.freeC x c e)
   exact ⟨_,q,hd⟩
  ·exact ⟨o,keep c o (I.cne x c e) hc nch ho (I.freeC x c e),hd⟩
 refine ⟨I.ok,I.os,hg,⟨λb o e n hb hx=>?_,λb o e n hb hx=>?_,λb o e n hx=>?_,λb o e hx=>?_,λb xs e=>tups b xs (I.base.tups b xs e),λb o xs e=>frzs b o xs (I.base.frzs b o xs e),λb ps e=>?_⟩,?_,λx c e=>?_,?_,λx c e=>?_,λp hp=>?_,hok,I.len⟩
 ·exact keep b o (neL b o e) hb (neC b o e hx) (I.base.keep b o e n hb hx) (I.base.free b o e n hx)
 ·obtain ⟨sl,e1⟩:=I.base.slot b o e n hb hx
  obtain ⟨sl',e2⟩:=slot b _ (neL b o e) hb (neC b o e hx) e1 (I.base.free b o e n hx)
  exact ⟨sl',e2⟩
 ·obtain ⟨o',e1⟩:=I.base.there b o e hx
  exact free b o' (neC b o e hx) e1 (I.base.free b o e n hx)
 ·obtain ⟨o',e1⟩:=I.base.there b o e hx
  exact there b o' (neC b o e hx) e1
 ·obtain ⟨m1,e1⟩:=I.base.tbls b ps e
  obtain ⟨m2,e2⟩:=tbls b _ e1
  exact ⟨m1++m2,by rw[e2,Array.append_assoc]⟩
 ·obtain ⟨m,hn,hl⟩:=I.loc
  refine ⟨m,ns m hn,λi x v e1 e2 e3=>?_⟩
  obtain ⟨u,r,l⟩:=hl i x v e1 e2 e3
  refine ⟨u,r,?_⟩
  rcases l with l | ⟨k,c,e,z⟩
  ·exact .inl l
  ·exact .inr ⟨k,c,e,cellK x c e _ z⟩
 ·obtain ⟨v,z⟩:=I.cell x c e
  exact ⟨v,cellK x c e v z⟩
 ·obtain ⟨m,⟨o,_,_,ho,_⟩,_⟩:=I.loc
  exact free _ o (λz=>(hch _ z).2.1 rfl) ho I.free
 ·obtain ⟨v,o,ho,hd⟩:=I.cell x c e
  exact free c o (λz=>(hch c z).2.2.1 x c e rfl) ho (I.freeC x c e)
 ·obtain ⟨e,n,ne,nf,d⟩:=I.pin p hp
  have nch:p.1∉ch:=λz=>(hch p.1 z).2.2.2 p hp rfl
  exact ⟨keep p.1 p.2 ne nf nch e n,free p.1 p.2 nch e n,ne,nf,d⟩
theorem Inv.un{t':Nat}(I:Inv X pins σ H s)(u:Un X.fs [] H H' s.heap h')(hok:Vm X.prog X.w H' h'):Inv X pins σ H' { s with heap:=h',toks:=t' }:=by
 obtain ⟨m,⟨o,es,ep,ho,r⟩,_⟩:=id I.loc
 obtain ⟨sl,hL⟩:=u.any ho I.free (by simp)
 exact I.step (g':=s.gens) (d':=s.drawn) (ch:=[]) (λ_ z=>nomatch z) (λb o _ hb _ e n=>u.keep b o e n hb (by simp)) (λb o _ hb _ e n=>u.slot b o e n hb (by simp)) (λb o _ e n=>u.free b o e n (by simp)) (λb o _ e=>u.there b o e (by simp)) u.tups u.frzs u.tbls (λm' hm=>by
  obtain ⟨o',es',ep',ho',r'⟩:=hm
  rw[ho] at ho'; cases ho'
  exact ⟨_,es',ep',hL,r'⟩) hok I.bare
theorem Inv.call{g':Array GenState}{t':Nat}{d':Drawn}{ch:List Addr}(I:Inv X pins σ H s)(u:Un (uE X.stack) ch H H' s.heap h')(hok:Vm X.prog X.w H' h')(hg:Rv g')(hch:∀b∈ch,(b∈X.ex\/X.s₀.heap.objs.size<=b)/\b≠X.env.locals/\(∀x c,X.env.cells.lookup x=some c->c≠b)/\∀p∈X.pn++pins,p.1≠b):Inv X pins σ H' { s with heap:=h',gens:=g',drawn:=d',toks:=t' }:=by
 obtain ⟨m,⟨o,es,ep,ho,r⟩,_⟩:=id I.loc
 obtain ⟨sl,hL⟩:=u.any ho I.free λz=>(hch _ z).2.1 rfl
 exact I.step (ch:=ch) hch (λb o hL hb hc e n=>u.keep b o e n (λz=>(Ao.mp (I.stkSub b z)).elim hL hb) hc) (λb o _ _ hc e n=>u.any e n hc) (λb o hc e n=>u.free b o e n hc) (λb o hc e=>u.there b o e hc) u.tups u.frzs u.tbls (λm' hm=>by
  obtain ⟨o',es',ep',ho',r'⟩:=hm
  rw[ho] at ho'; cases ho'
  exact ⟨_,es',ep',hL,r'⟩) hok hg
theorem Inv.turned{t':Nat}{it:Addr}(I:Inv X pins σ H s)(k:∀b o,b≠it->s.heap.get? b=some o->h'.get? b=some o)(hn:H it=none)(hL:it≠X.env.locals)(h1:it∈X.ex\/X.s₀.heap.objs.size<=it)(h2:∀x c,X.env.cells.lookup x=some c->c≠it)(h3:∀p∈X.pn++pins,p.1≠it):Inv X pins σ H { s with heap:=h',toks:=t' }:=by
 have nit:∀b u,H b=some u->b≠it:=λb u e z=>by rw[z,hn] at e; cases e
 refine I.step (g':=s.gens) (d':=s.drawn) (ch:=[it]) (λb hb=>?_) (λb o _ _ hc e _=>k b o (λz=>hc (by simp [z])) e) (λb o _ _ hc e _=>⟨o.slots,k b o (λz=>hc (by simp [z])) e⟩) (λ_ _ _ _ n=>n)
  (λb o hc e=>⟨o,k b o (λz=>hc (by simp [z])) e⟩) (λ_ _ e=>e) (λ_ _ _ e=>e) (λb ps e=>⟨#[],by rw[e]; simp⟩) (λm hm=>?_) (λb u e=>?_) I.bare
 ·have e:b=it:=by simpa using hb
  subst e
  exact ⟨h1,hL,h2,h3⟩
 ·obtain ⟨o,es,ep,ho,r⟩:=hm
  exact ⟨o,es,ep,k _ o (Nm hL) ho,r⟩
 ·refine (I.hok b u e).stay (λc v hc q=>k c v ?_ q) (λ_ q=>q) λ_ _ q=>q
  rcases hc with z | z
  ·rw[z]; exact nit b u e
  ·exact nit c _ z
theorem Inv.tok(I:Inv X pins σ H s)(t:Nat):Inv X pins σ H { s with toks:=t }:=I.un (h':=s.heap) (t':=t) Un.refl I.hok
theorem Inv.kept{t':Nat}(I:Inv X pins σ H s)(k:∀b u,s.heap.get? b=some u->h'.get? b=some u):Inv X pins σ H { s with heap:=h',toks:=t' }:=I.un (Un.kept k) (I.hok.kept k)
theorem Inv.laid{a:Addr}{o:HO}{t':Nat}(I:Inv X pins σ H s)(k:∀b u,s.heap.get? b=some u->h'.get? b=some u)(hp:s.heap.objs.size<=a)(new:Gu X.prog X.w (upd H a o) h' a o):Inv X pins σ (upd H a o) { s with heap:=h',toks:=t' }:=I.un (Un.laid k hp (I.hok.fresh hp)) (I.hok.laid k hp new)
theorem Inv.write{x e:Addr}{o:HO}{t':Nat}(I:Inv X pins σ H s)(mu:AR (H x))(he:e=x\/H e=some (.own x))(k:∀b u,b≠e->s.heap.get? b=some u->h'.get? b=some u)(heo:∃u,h'.get? e=some u)(new:Gu X.prog X.w (upd H x o) h' x o):Inv X pins σ (upd H x o) { s with heap:=h',toks:=t' }:=I.un (Un.write mu he k heo) (I.hok.write mu he k heo new)
theorem Inv.pins_of{pins':List (Addr×Obj)}(I:Inv X pins σ H s)(h:∀p∈pins',s.heap.get? p.1=some p.2/\H p.1=none/\p.1≠X.env.locals/\p.1∉X.fs/\∀v,p.2.data≠.cell v):Inv X pins' σ H s :=
 ⟨I.ok,I.os,I.bare,I.base,I.loc,I.cell,I.free,I.freeC,λp hp=>(Aw.mp hp).elim (λz=>I.pin p (Al _ z)) (h p),I.hok,I.len⟩
theorem mJ{N:List Str}(hN:N.Nodup){i j:Nat}{x:Str}(a:N[i]? = some x)(b:N[j]? = some x):i=j:=by
 obtain ⟨h1,e1⟩:=An.mp a
 obtain ⟨h2,e2⟩:=An.mp b
 exact (List.getElem_inj hN).mp (e1.trans e2.symm)
theorem sO{M:Model}{A:Cu}{E:Value->Aj->Prop}{i:Nat}{x:Str}{v:V}{u:Value}{Q:Unit->Aj->Prop}(I:Inv X pins σ H s)(hN:X.N.Nodup)(hi:X.N[i]? = some x)(hx:Loc X.env.scope x)(r:RelV v u)(h:∀s',Inv X pins (σ.set i (some v)) H s'->(∃a,Gf a s.heap s'.heap/\(a=X.env.locals\/X.env.cells.lookup x=some a))->Q () s')(hf:X.fn x=true\/X.env.scope.names.lookup x=some .local:=by first | exact .inl rfl | exact .inr rfl | assumption):wpAny M A (storeName X.env x u) Q E s:=by
 obtain ⟨m,hn,hl⟩:=id I.loc
 have hcls:(X.env.scope.kind == .class || (X.env.scope.kind == .module && X.env.locals != X.env.globals))=false:=by rw[I.ok.kind]; rfl
 have hiσ:i<σ.length:=by rw[I.len]; exact (An.mp hi).1
 have cne:=I.cne
 have tracked:∀{a:Addr} {h':Heap},(∃o,s.heap.get? a=some o/\H a=none)->Gf a s.heap h'->Vm X.prog X.w H h':=λ{a h'} ha hs b ob e=>by
  obtain ⟨_,_,hfree⟩:=ha
  refine (I.hok b ob e).stay (λc w' hc q=>(hs.2 c ?_).trans q) (λ_ q=>q) λ_ _ q=>q
  rintro rfl
  rcases hc with rfl | hc
  ·rw[hfree] at e; cases e
  ·rw[hfree] at hc; cases hc
 rcases hx with hk | hk
 ·refine wpAny_storeName_local hk hn (λh' hn' hs=>?_) hcls
  obtain ⟨oL,_,_,hoL,_⟩:=id hn
  refine h _ ⟨I.ok,I.os,I.bare,⟨λb o e n hb hx=>?_,λb o e n hb hx=>?_,I.base.free,λb o e hx=>?_,I.base.tups,I.base.frzs,I.base.tbls⟩,⟨_,hn',λj y v' e1 e2 e3=>?_⟩,λy c e=>?_,I.free,I.freeC,λp hp=>?_,tracked ⟨oL,hoL,I.free⟩ hs,by simpa using I.len⟩ ⟨_,hs,.inl rfl⟩
  ·exact (hs.2 b (Da (Ca (Bl e) I.ok.above))).trans (I.base.keep b o e n hb hx)
  ·obtain ⟨sl,e1⟩:=I.base.slot b o e n hb hx
   exact ⟨sl,(hs.2 b (Da (Ca (Bl e) I.ok.above))).trans e1⟩
  ·obtain ⟨o',e1⟩:=I.base.there b o e hx
   exact ⟨o',(hs.2 b (Da (Ca (Bl e) I.ok.above))).trans e1⟩
  ·by_cases hj:j=i
   ·subst hj
    rw[hi] at e1; cases e1
    rw[pK hiσ] at e2
    cases e2
    exact ⟨u,r,.inl ⟨hk,by simp⟩⟩
   ·rw[Uu (Nm hj)] at e2
    obtain ⟨u',r',q⟩:=hl j y v' e1 e2 e3
    refine ⟨u',r',?_⟩
    rcases q with ⟨k,e⟩ | ⟨k,c,e,z⟩
    ·refine .inl ⟨k,?_⟩
     have : y≠x:=λe=>hj (mJ hN e1 (e▸hi))
     simp [this,e]
    ·exact .inr ⟨k,c,e,z.sameBut hs (cne y c e)⟩
  ·obtain ⟨w',z⟩:=I.cell y c e
   exact ⟨w',z.sameBut hs (cne y c e)⟩
  ·obtain ⟨e,n,ne,nf,d⟩:=I.pin p hp
   exact ⟨(hs.2 p.1 ne).trans e,n,ne,nf,d⟩
 ·have hfn:X.fn x=true:=by
   rcases hf with z | z
   ·exact z
   ·rw[z] at hk; cases hk
  obtain ⟨c,hc⟩:=I.ok.has x (.inl hk)
  obtain ⟨w',z⟩:=I.cell x c hc
  refine wpAny_storeName_cell I.ok.kind hk hc z (λh' hc' hs=>?_)
  obtain ⟨oc,hoc,hocd⟩:=id z
  refine h { s with heap:=h' } ⟨I.ok,I.os,I.bare,⟨λb o e n hb hx=>?_,λb o e n hb hx=>?_,I.base.free,λb o e hx=>?_,I.base.tups,I.base.frzs,I.base.tbls⟩,⟨m,hn.sameBut hs (Nm (cne x c hc)),λj y v' e1 e2 e3=>?_⟩,λy c' e=>?_,I.free,I.freeC,λp hp=>?_,tracked ⟨oc,hoc,I.freeC x c hc⟩ hs,by simpa using I.len⟩ ⟨c,hs,.inr hc⟩
  ·exact (hs.2 b (Da (Ca (Bl e) (I.ok.cab x c hfn hc)))).trans (I.base.keep b o e n hb hx)
  ·obtain ⟨sl,e1⟩:=I.base.slot b o e n hb hx
   exact ⟨sl,(hs.2 b (Da (Ca (Bl e) (I.ok.cab x c hfn hc)))).trans e1⟩
  ·obtain ⟨o',e1⟩:=I.base.there b o e hx
   exact ⟨o',(hs.2 b (Da (Ca (Bl e) (I.ok.cab x c hfn hc)))).trans e1⟩
  ·by_cases hj:j=i
   ·subst hj
    rw[hi] at e1; cases e1
    rw[pK hiσ] at e2
    cases e2
    exact ⟨u,r,.inr ⟨.inl hk,c,hc,hc'⟩⟩
   ·rw[Uu (Nm hj)] at e2
    obtain ⟨u',r',q⟩:=hl j y v' e1 e2 e3
    refine ⟨u',r',?_⟩
    rcases q with q | ⟨k,c',e,z'⟩
    ·exact .inl q
    ·refine .inr ⟨k,c',e,z'.sameBut hs ?_⟩
     rintro rfl
     exact hj (mJ hN e1 (I.ok.inj _ _ _ e hc▸hi))
  ·by_cases hcc:c'=c
   ·subst hcc; exact ⟨_,hc'⟩
   ·obtain ⟨w2,z2⟩:=I.cell y c' e
    exact ⟨w2,z2.sameBut hs hcc⟩
  ·obtain ⟨e,n,ne,nf,d⟩:=I.pin p hp
   refine ⟨(hs.2 p.1 ?_).trans e,n,ne,nf,d⟩
   intro q
   rw[q,hoc] at e
   have q':oc=p.2:=Cj e
   exact d w' (by rw[<- q']; exact hocd)
theorem aW{M:Model}{A:Cu}{E:Value->Aj->Prop}{i:Nat}{x:Str}{v:V}{u:Value}{Q:Unit->Aj->Prop}(I:Inv X pins σ H s)(hN:X.N.Nodup)(hi:X.N[i]? = some x)(hx:Loc X.env.scope x)(r:RelV v u)(h:∀s',Inv X pins (σ.set i (some v)) H s'->Q () s')(hf:X.fn x=true\/X.env.scope.names.lookup x=some .local:=by first | exact .inl rfl | exact .inr rfl | assumption):wpAny M A (storeName X.env x u) Q E s :=
 sO I hN hi hx r (λs' I' _=>h s' I') hf
theorem Inv.call'{s':Aj}{ch:List Addr}(I:Inv X pins σ H s)(ho:s'.os=s.os)(u:Un (uE X.stack) ch H H' s.heap s'.heap)(hok:Vm X.prog X.w H' s'.heap)(hg:Rv s'.gens)(hch:∀b∈ch,(b∈X.ex\/X.s₀.heap.objs.size<=b)/\b≠X.env.locals/\(∀x c,X.env.cells.lookup x=some c->c≠b)/\∀p∈X.pn++pins,p.1≠b):Inv X pins σ H' s':=by
 obtain ⟨h',g',d',t',o'⟩:=s'
 have e:o'=s.os:=ho
 subst e
 exact I.call (g':=g') (t':=t') (d':=d') u hok hg hch
end
abbrev XK:=Value->Option Addr->Hp->Prop
abbrev St:=List (Option V)
abbrev VK:=V->Hp->Prop
abbrev TE:=St->Hp->VK->Prop
abbrev TT:=St->Hp->(Bool->Hp->Prop)->Prop
abbrev TA:=St->Hp->(List V->Hp->Prop)->Prop
structure Ends where
 nx:St->Hp->Prop
 rt:VK
 bk:St->Hp->Prop:=λ_ _=>False
 ct:St->Hp->Prop:=λ_ _=>False
abbrev TS:=Ends->St->Hp->Prop
def EP(X:Cx)(pins:List (Addr×Obj))(σ:St)(Q:VK)(u:Value)(s':Aj):Prop:=∃v H',Inv X pins σ H' s'/\RelV v u/\Q v H'
def TP(X:Cx)(pins:List (Addr×Obj))(σ:St)(Q:Bool->Hp->Prop)(b:Bool)(s':Aj):Prop:=∃H',Inv X pins σ H' s'/\Q b H'
def AP(X:Cx)(pins:List (Addr×Obj))(σ:St)(Q:List V->Hp->Prop)(us:List Value)(s':Aj):Prop:=∃vs H',Inv X pins σ H' s'/\Fs vs us/\Q vs H'
def SP(X:Cx)(pins:List (Addr×Obj))(D:Ends)(f:Flow)(s':Aj):Prop :=
 match f with
 | .next=>∃σ' H',Inv X pins σ' H' s'/\D.nx σ' H'
 | .brk=>∃σ' H',Inv X pins σ' H' s'/\D.bk σ' H'
 | .cont=>∃σ' H',Inv X pins σ' H' s'/\D.ct σ' H'
 | .ret u=>∃v σ' H',Inv X pins σ' H' s'/\RelV v u/\D.rt v H'
def PE(X:Cx)(e:Expr)(t:TE):Prop :=
 ∀(pins:List (Addr×Obj)) (s:Aj) (σ:St) (H:Hp) (Q:VK),Inv X pins σ H s->t σ H Q->wpAny (model X.prog X.w) X.A (eval e X.env) (EP X pins σ Q) X.xe s
def PT(X:Cx)(e:Expr)(t:TT):Prop :=
 ∀(pins:List (Addr×Obj)) (s:Aj) (σ:St) (H:Hp) (Q:Bool->Hp->Prop),Inv X pins σ H s->t σ H Q->wpAny (model X.prog X.w) X.A (isTrue e X.env (eval e X.env)) (TP X pins σ Q) X.xe s
def PW(X:Cx)(e:Expr)(t:TT):Prop :=
 ∀(whole:Sem Value) (pins:List (Addr×Obj)) (s:Aj) (σ:St) (H:Hp) (Q:Bool->Hp->Prop),Inv X pins σ H s->t σ H Q->wpAny (model X.prog X.w) X.A (isTrue e X.env whole) (TP X pins σ Q) X.xe s
theorem PW.pt{X:Cx}{e:Expr}{t:TT}(h:PW X e t):PT X e t:=h _
def PA(X:Cx)(es:List Expr)(t:TA):Prop :=
 ∀(pos:Pos) (pins:List (Addr×Obj)) (s:Aj) (σ:St) (H:Hp) (Q:List V->Hp->Prop),Inv X pins σ H s->t σ H Q->wpAny (model X.prog X.w) X.A (spliced (Iq pos (By es X.env))) (AP X pins σ Q) X.xe s
def PS(X:Cx)(st:Stmt)(t:TS):Prop :=
 ∀(pins:List (Addr×Obj)) (s:Aj) (σ:St) (H:Hp) (D:Ends),Inv X pins σ H s->t D σ H->wpAny (model X.prog X.w) X.A (exec st X.env) (SP X pins D) X.xe s
def pJ(X:Cx)(st:List Stmt)(t:TS):Prop :=
 ∀(pins:List (Addr×Obj)) (s:Aj) (σ:St) (H:Hp) (D:Ends),Inv X pins σ H s->t D σ H->wpAny (model X.prog X.w) X.A (execs st X.env) (SP X pins D) X.xe s
theorem Hh{α:Type}{t:Sem α}{Q Q':α->Aj->Prop}{M:Model}{A:Cu}{E:Value->Aj->Prop}{s:Aj}(h:wpAny M A t Q E s)(hQ:∀a s,Q a s->Q' a s):wpAny M A t Q' E s:=Fy h hQ λ_ _ x=>x
section
variable{X:Cx}
theorem IM{a b:Expr}{ta tb:TE}(ha:PE X a ta)(hb:PE X b tb){pins:List (Addr×Obj)}{s:Aj}{σ:St}{H:Hp}{R:V->V->Hp->Prop}(I:Inv X pins σ H s)(h:ta σ H λx H1=>tb σ H1 λy H2=>R x y H2){α:Type}{Q:α->Aj->Prop}{f:Value->Value->Sem α}(hf:∀v u s2 x y H2,Inv X pins σ H2 s2->RelV x v->RelV y u->R x y H2->wpAny (model X.prog X.w) X.A (f v u) Q X.xe s2):wpAny (model X.prog X.w) X.A (eval a X.env) (λv s₁=>wpAny (model X.prog X.w) X.A (eval b X.env) (λu s₂=>wpAny (model X.prog X.w) X.A (f v u) Q X.xe s₂) X.xe s₁) X.xe s:=by
 refine Hh (ha pins s σ H _ I h) λv s1 q0_ => ?_
 obtain ⟨x,H1,I1,r1,q1⟩ := q0_
 refine Hh (hb pins s1 σ H1 _ I1 q1) λu s2 q0_ => ?_
 obtain ⟨y,H2,I2,r2,q2⟩ := q0_
 exact hf v u s2 x y H2 I2 r1 r2 q2
def gN(i:Nat):TE:=λσ H Q=>∃v,σ[i]? = some (some v)/\Q v H
def tC(v:V):TE:=λ_ H Q=>Q v H
theorem W6{i:Nat}{x:Str}{pos:Pos}(hN:X.N[i]? = some x)(hv:AV X.env.scope x)(hd:(x == ("__debug__" : Str))=false:=by decide)(hcd:(x == ("__classdict__" : Str))=false:=by decide):PE X (.Name x pos) (gN i):=by
 intro pins s σ H Q I h
 obtain ⟨v,e,h⟩:=h
 obtain ⟨m,hn,hl⟩:=I.loc
 obtain ⟨u,r,l⟩:=hl i x v hN e hv
 have fin:EP X pins σ Q u s:=⟨v,H,I,r,h⟩
 rcases l with ⟨hk,hm⟩ | ⟨hk,c,hc,hcell⟩
 ·exact wpAny_Name (wpAny_loadName_local I.ok.kind hk hn hm fin) hd
 ·rcases hk with hk | hk
  ·exact wpAny_Name (wpAny_loadName_cell I.ok.kind hk hc hcell fin) hd
  ·exact wpAny_Name (wpAny_loadName_free I.ok.kind hk hc hcell fin hcd) hd
theorem Fh{i j pos}:PE X (.Constant (.int i) j pos) (tC (.int i)):=λ_ _ _ H _ I h=>wpAny_Constant_int ⟨.int i,H,I.tok _,⟨_,rfl⟩,h⟩
theorem zP{b j pos}:PE X (.Constant (.bool b) j pos) (tC (.bl b)):=λ_ _ _ H _ I h=>Constant_bool ⟨.bl b,H,I,rfl,h⟩
theorem zA{j pos}:PE X (.Constant .none j pos) (tC .non):=λ_ _ _ H _ I h=>Constant_none ⟨.non,H,I,rfl,h⟩
theorem X4{x j pos}:PE X (.Constant (.str x) j pos) (tC (.str x)):=λ_ _ _ H _ I h=>Calls.Constant_str ⟨.str x,H,I.tok _,⟨_,rfl⟩,h⟩
def Gl(X:Cx)(x:Str):Prop:=X.env.kindOf x=some .globalImplicit
theorem pV{E:Value->Aj->Prop}{pins:List (Addr×Obj)}{s:Aj}{σ:St}{H:Hp}{x:Str}{u:Value}{pos:Pos}{Q:Value->Aj->Prop}(I:Inv X pins σ H s)(hg:Gl X x)(hm:X.mg x=some u)(h:Q u s)(hd:(x == ("__debug__" : Str))=false:=by decide):wpAny (model X.prog X.w) X.A (eval (.Name x pos) X.env) Q E s :=
 fU I.ok.kind hg (Calls.loadGlobal_global (by rw[I.ok.glob]; exact I.mod.glob.keeps I.bk) hm h) hd
theorem bN{E:Value->Aj->Prop}{pins:List (Addr×Obj)}{s:Aj}{σ:St}{H:Hp}{x:Str}{u:Value}{pos:Pos}{Q:Value->Aj->Prop}(I:Inv X pins σ H s)(hg:Gl X x)(hm:X.mg x=none)(hv:Jt x=some u)(h:Q u s)(hn:x ≠ "__name__" := by decide)(hd:(x == ("__debug__" : Str))=false:=by decide):wpAny (model X.prog X.w) X.A (eval (.Name x pos) X.env) Q E s:=by
 obtain ⟨mb,h1,h2⟩:=I.mod.blt
 exact fU I.ok.kind hg (Calls.loadGlobal_builtin (by rw[I.ok.glob]; exact I.mod.glob.keeps I.bk) hm (by rw[I.ok.blt]; exact h1.keeps I.bk) ((h2 x hn).trans hv) h) hd
theorem F5{x:Str}{v:V}{u:Value}{pos:Pos}(hg:Gl X x)(hm:X.mg x=none)(hv:Jt x=some u)(r:RelV v u)(hn:x ≠ "__name__" := by decide)(hd:(x == ("__debug__" : Str))=false:=by decide):PE X (.Name x pos) (tC v) :=
 λ_ _ _ H _ I h=>bN I hg hm hv ⟨v,H,I,r,h⟩ hn hd
variable{a b:Expr}{ta tb:TE}{pos:Pos}
def PC(X:Cx)(op:CmpOp)(a b:Expr)(t:TE):Prop :=
 ∀(pins:List (Addr×Obj)) (s:Aj) (σ:St) (H:Hp) (Q:VK),Inv X pins σ H s->t σ H Q ->
  wpAny (model X.prog X.w) X.A (eval a X.env) (λv s₁=>wpAny (model X.prog X.w) X.A (eval b X.env) (λu s₂=>wpAny (model X.prog X.w) X.A (Gi op v u) (EP X pins σ Q) X.xe s₂) X.xe s₁) X.xe s
theorem yG(b:Expr){op:CmpOp}(h:op≠.In)(h2:op≠.NotIn):Fx op b=false:=by
 have e1:(op == CmpOp.In)=false:=by cases op <;> first | rfl | exact absurd rfl h
 have e2:(op == CmpOp.NotIn)=false:=by cases op <;> first | rfl | exact absurd rfl h2
 cases b <;> simp [Fx,e1,e2]
def tB(t:TE):TT:=λσ H Q=>t σ H λx H1=>∃c,x=.bl c/\Q c H1
theorem X3{op:CmpOp}{t:TE}(h:PC X op a b t)(h1:Fx op b=false:=by first | exact yG _ (by decide) (by decide) | rfl):PT X (.Compare a [op] [b] pos) (tB t):=by
 intro pins s σ H Q I hw
 refine wpAny_isTrue_Compare1 (Hh (h pins s σ H _ I hw) λv s1 h1=>Hh h1 λu s2 h2=>Hh h2 λc s3 ⟨x,H1,I1,r1,q1⟩=>?_) h1
 obtain ⟨d,rfl,q⟩:=q1
 cases r1
 exact Gw ⟨H1,I1,q⟩
theorem yA{e:Expr}{t:TE}(h:PE X e t)(he:∀whole,isTrue e X.env whole=(do let v <- whole; standAt e.pos; holding [v] (truthy v)):=by intro _; rfl):PT X e (tB t):=by
 intro pins s σ H Q I hw
 refine isTrue_plain (Hh (h pins s σ H _ I hw) λv s1 ⟨x,H1,I1,r1,q1⟩=>?_) (he _)
 obtain ⟨d,rfl,q⟩:=q1
 cases r1
 exact Gw ⟨H1,I1,q⟩
variable{tA tB':TT}{Fo:List Expr}
def IJ(t u:TT):TT:=λσ H Q=>t σ H λc H1=>if c=true then Q true H1 else u σ H1 Q
def GN(t:TT):TT:=λσ H Q=>t σ H λc H1=>Q (!c) H1
theorem V4(ha:PT X a tA):PW X (.BoolOp .Or [a] pos) tA:=by
 intro wh pins s σ H Q I h
 refine isTrue_or (Hh (ha pins s σ H Q I h) λc s1 e=>?_)
 cases c with
 | false=>exact isTrue_or_nil e
 | true=>exact e
theorem EJ(ha:PT X a tA)(hb:PW X (.BoolOp .Or (b::Fo) pos) tB'):PW X (.BoolOp .Or (a::b::Fo) pos) (IJ tA tB'):=by
 intro wh pins s σ H Q I h
 refine isTrue_or (Hh (ha pins s σ H _ I h) λc s1 q0_ => ?_)
 obtain ⟨H1,I1,q1⟩ := q0_
 cases c with
 | true=>exact ⟨H1,I1,q1⟩
 | false=>exact hb wh pins s1 σ H1 Q I1 q1
theorem U6(ha:PT X a tA):PT X (.UnaryOp .Not a pos) (GN tA):=by
 intro pins s σ H Q I h
 exact isTrue_not (ha pins s σ H (λc H1=>Q (!c) H1) I h)
def CW(ta tb:TE):TE:=λσ H Q=>ta σ H λx H1=>∃c,x=.bl c/\if c=true then tb σ H1 Q else Q (.bl false) H1
def ER(ta:TE):TE:=λσ H Q=>ta σ H λx H1=>∃c,x=.bl c/\Q (.bl (!c)) H1
theorem U8{op}{t:TE}(h:PE X a t):PE X (.BoolOp op [a] pos) t:=λpins s σ H Q I hw=>BoolOp_one (h pins s σ H Q I hw)
theorem V2(ha:PE X a ta)(hb:PE X (.BoolOp .And (b::Fo) pos) tb):PE X (.BoolOp .And (a::b::Fo) pos) (CW ta tb):=by
 intro pins s σ H Q I h
 refine BoolOp_and (Hh (ha pins s σ H _ I h) λv s1 q0_ => ?_)
 obtain ⟨x,H1,I1,r1,q1⟩ := q0_
 obtain ⟨c,rfl,q1⟩:=q1
 cases r1
 refine Gw ?_
 cases c with
 | true=>exact hb pins s1 σ H1 Q I1 q1
 | false=>exact ⟨.bl false,H1,I1,rfl,q1⟩
theorem X5(ha:PE X a ta):PE X (.UnaryOp .Not a pos) (ER ta):=by
 intro pins s σ H Q I h
 refine UnaryOp_ (Hh (ha pins s σ H _ I h) λv s1 q0_ => ?_)
 obtain ⟨x,H1,I1,r1,q1⟩ := q0_
 obtain ⟨c,rfl,q1⟩:=q1
 cases r1
 exact not_of (Gw ⟨.bl (!c),H1,I1,rfl,q1⟩)
end
def Ud(K:PySem.W.Frag)(H:Hp)(a:Addr)(xs:List V):Prop :=
 Rd H a (.lst xs) \/
  ∃(o:Obj) (its:Array Value) (n:Nat),K.lookup a=some o/\o.cls=.type "list" /\ o.dict=none/\o.data=.seq its n/\its.size<=Bb/\Fs xs its.toList
def Ur(K:PySem.W.Frag)(H:Hp)(a:Addr)(xs:List V):Prop :=
 Rd H a (.tup xs) \/
  ∃(o:Obj) (its:Array Value) (n:Nat),K.lookup a=some o/\o.cls=.type "tuple" /\ o.data=.seq its n/\its.size<=Bb/\Fs xs its.toList
def GG:Value->Option V
 | .none=>some .non
 | .bool b=>some (.bl b)
 | .int i _=>some (.int i)
 | .str x _=>some (.str x)
 | .bytes b _=>some (.byt b)
 | .float b _=>some (.flt b)
 | .ref a=>some (.ref a)
 | .type n=>some (.ty n)
 | _=>none
theorem RelV.abs{x:V}{u:Value}(r:RelV x u):GG u=some x:=by
 cases x with
 | non=>cases r; rfl
 | bl _=>cases r; rfl
 | int _=>obtain ⟨t,rfl⟩:=r; rfl
 | str _=>obtain ⟨t,rfl⟩:=r; rfl
 | byt _=>obtain ⟨t,rfl⟩:=r; rfl
 | flt _=>obtain ⟨t,rfl⟩:=r; rfl
 | ref _=>cases r; rfl
 | ty _=>cases r; rfl
theorem RelV.inj{x y:V}{u:Value}(r:RelV x u)(q:RelV y u):x=y:=Cj (r.abs.symm.trans q.abs)
theorem Fs.inj:∀{xs ys:List V} {us:List Value},Fs xs us->Fs ys us->xs=ys
 | _,_,_,.nil,.nil=>rfl
 | _,_,_,.cons r t,.cons r' t'=>by rw[r.inj r',Fs.inj t t']
section
variable{X:Cx}{pins:List (Addr×Obj)}{σ:St}{H:Hp}{s:Aj}{a:Addr}{xs ys:List V}
theorem Ud.of{K:PySem.W.Frag}(h:H a=some (.lst xs)):Ud K H a xs:=.inl (.inl h)
theorem Ur.of{K:PySem.W.Frag}(h:H a=some (.tup xs)):Ur K H a xs:=.inl (.inl h)
theorem Inv.list(I:Inv X pins σ H s)(h:Ud X.K H a xs):∃its:List Value,Fs xs its/\PlainL s.heap a its.toArray/\xs.length<=Bb:=by
 rcases h with h | ⟨o,its,n,hk,hc,hd,hs,hz,r⟩
 ·obtain ⟨z,its,n,r,e⟩:=h.ok I.hok
  exact ⟨its,r,⟨_,n,e,rfl,rfl,rfl⟩,z⟩
 ·refine ⟨its.toList,r,⟨o,n,I.kIn a o hk,hc,hd,by simpa using hs⟩,?_⟩
  have e:=r.length
  simp only[Ah] at e
  omega
theorem Inv.tuple(I:Inv X pins σ H s)(h:Ur X.K H a xs):∃its:List Value,Fs xs its/\IsTup s.heap a its.toArray/\xs.length<=Bb:=by
 rcases h with h | ⟨o,its,n,hk,hc,hs,hz,r⟩
 ·obtain ⟨z,its,r,p⟩:=h.ok I.hok
  exact ⟨its,r,p,z⟩
 ·refine ⟨its.toList,r,⟨o,I.kIn a o hk,hc,n,by simpa using hs⟩,?_⟩
  have e:=r.length
  simp only[Ah] at e
  omega
theorem Inv.list_inj(I:Inv X pins σ H s)(h:Ud X.K H a xs)(h':Ud X.K H a ys):xs=ys:=by
 obtain ⟨its,r,⟨o,n,e,_,_,d⟩,_⟩:=I.list h
 obtain ⟨its',r',⟨o',n',e',_,_,d'⟩,_⟩:=I.list h'
 rw[e] at e'; cases e'
 rw[d] at d'
 injection d' with d1 _
 have : its=its':=by simpa using congrArg Array.toList d1
 subst this
 exact r.inj r'
theorem Inv.tuple_inj(I:Inv X pins σ H s)(h:Ur X.K H a xs)(h':Ur X.K H a ys):xs=ys:=by
 obtain ⟨its,r,⟨o,e,_,n,d⟩,_⟩:=I.tuple h
 obtain ⟨its',r',⟨o',e',_,n',d'⟩,_⟩:=I.tuple h'
 rw[e] at e'; cases e'
 rw[d] at d'
 injection d' with d1 _
 have : its=its':=by simpa using congrArg Array.toList d1
 subst this
 exact r.inj r'
end
abbrev Cx.wish(X:Cx)(E:Value->Aj->Prop):Cx:={ X with xe:=E }
abbrev Cx.nox(X:Cx):Cx:=X.wish λ_ _=>False
theorem Cx.Ok.wish{X:Cx}(ok:X.Ok)(E:Value->Aj->Prop):(X.wish E).Ok :=
 ⟨ok.mod,ok.kind,ok.glob,ok.blt,ok.above,ok.inj,ok.has,ok.cab,ok.hd,ok.frames,ok.stk,ok.exf,ok.bs,ok.bsz,ok.noex,ok.exfs,ok.funs,ok.frf,ok.tab⟩
theorem Cx.Ok.unwish{X:Cx}{E:Value->Aj->Prop}(ok:(X.wish E).Ok):X.Ok :=
 ⟨ok.mod,ok.kind,ok.glob,ok.blt,ok.above,ok.inj,ok.has,ok.cab,ok.hd,ok.frames,ok.stk,ok.exf,ok.bs,ok.bsz,ok.noex,ok.exfs,ok.funs,ok.frf,ok.tab⟩
section
variable{X:Cx}{pins:List (Addr×Obj)}{σ:St}{H:Hp}{s:Aj}{E:Value->Aj->Prop}
theorem Inv.wish(I:Inv X pins σ H s)(E:Value->Aj->Prop):Inv (X.wish E) pins σ H s:=⟨I.ok.wish E,I.os,I.bare,I.base,I.loc,I.cell,I.free,I.freeC,I.pin,I.hok,I.len⟩
theorem Inv.unwish(I:Inv (X.wish E) pins σ H s):Inv X pins σ H s:=⟨I.ok.unwish,I.os,I.bare,I.base,I.loc,I.cell,I.free,I.freeC,I.pin,I.hok,I.len⟩
theorem SP.unwish{D:Ends}{f:Flow}{s':Aj}(h:SP (X.wish E) pins D f s'):SP X pins D f s':=by
 cases f with
 | next=>obtain ⟨σ',H',I,q⟩:=h; exact ⟨σ',H',I.unwish,q⟩
 | brk=>obtain ⟨σ',H',I,q⟩:=h; exact ⟨σ',H',I.unwish,q⟩
 | cont=>obtain ⟨σ',H',I,q⟩:=h; exact ⟨σ',H',I.unwish,q⟩
 | ret u=>obtain ⟨v,σ',H',I,r,q⟩:=h; exact ⟨v,σ',H',I.unwish,r,q⟩
theorem pJ.nox{st:List Stmt}{t:TS}(h:pJ X.nox st t):pJ X st t:=λpins s σ H D I hw =>
 Fy (h pins s σ H D (I.wish _) hw) (λ_ _ q=>q.unwish) λ_ _ z=>Kd z
end
section
variable{X:Cx}{st:Stmt}{Fo:List Stmt}{t u:TS}{e:Expr}{te:TE}{pos:Pos}
def CN:TS:=λD σ H=>D.nx σ H
def GR(t u:TS):TS:=λD σ H=>t { D with nx:=u D } σ H
theorem Zn:pJ X [] CN:=λ_ _ σ H _ I h=>We ⟨σ,H,I,h⟩
theorem Lf(h1:PS X st t)(h2:pJ X Fo u):pJ X (st::Fo) (GR t u):=by
 intro pins s σ H D I h
 refine wpAny_execs_cons (Hh (h1 pins s σ H { D with nx:=u D } I h) λf s1 q=>?_)
 cases f with
 | next =>
  obtain ⟨σ',H',I',q⟩:=q
  exact h2 pins s1 σ' H' D I' q
 | ret v=>exact q
 | brk=>exact q
 | cont=>exact q
theorem Sk(h1:PS X st t):pJ X [st] t:=by
 intro pins s σ H D I h
 refine wpAny_execs_cons (Hh (h1 pins s σ H D I h) λf s1 q=>?_)
 cases f with
 | next=>exact We q
 | ret v=>exact q
 | brk=>exact q
 | cont=>exact q
theorem Inv.quiet{pins:List (Addr×Obj)}{σ:St}{H:Hp}{s:Aj}(I:Inv X pins σ H s):interactive X.env=false:=by simp [interactive,I.ok.kind]
def DZ(te:TE):TS:=λD σ H=>te σ H λ_ H1=>D.nx σ H1
theorem rO(he:PE X e te)(hs:Kf e none pos.line X.env=pure false:=by rfl):PS X (.Expr e pos) (DZ te):=by
 intro pins s σ H D I h
 exact wpAny_Expr_any (Hh (he pins s σ H _ I h) λv s1 ⟨x,H1,I1,r1,q1⟩=>⟨σ,H1,I1,q1⟩) I.quiet hs
def GM(te:TE):TS:=λD σ H=>te σ H D.rt
theorem aH(he:PE X e te):PS X (.Return (some e) pos) (GM te):=by
 intro pins s σ H D I h
 exact wpAny_Return_some (Hh (he pins s σ H _ I h) λv s1 ⟨x,H1,I1,r1,q1⟩=>⟨x,σ,H1,I1,r1,q1⟩)
def GQ(c:TT)(t u:TS):TS:=λD σ H=>c σ H λb H1=>if b=true then t D σ H1 else u D σ H1
theorem rD{c:Expr}{a b:List Stmt}{tc:TT}(hc:PT X c tc)(ha:pJ X a t)(hb:pJ X b u):PS X (.If c a b pos) (GQ tc t u):=by
 intro pins s σ H D I h
 refine wpAny_If (Hh (hc pins s σ H _ I h) λd s1 q0_ => ?_)
 obtain ⟨H1,I1,q1⟩ := q0_
 cases d with
 | true=>exact ha pins s1 σ H1 D I1 q1
 | false=>exact hb pins s1 σ H1 D I1 q1
def R5:TS:=λ_ _ _=>False
theorem xS:PS X st R5:=λ_ _ _ _ _ _ h=>h.elim
end
abbrev TG:=V->St->Hp->(St->Hp->Prop)->Prop
abbrev C8:=List V->St->Hp->(St->Hp->Prop)->Prop
def PG(X:Cx)(target:Expr)(t:TG):Prop :=
 ∀(pins:List (Addr×Obj)) (s:Aj) (σ:St) (H:Hp) (v:V) (u:Value) (Q:St->Hp->Prop),Inv X pins σ H s->RelV v u->t v σ H Q ->
  wpAny (model X.prog X.w) X.A (Qq target X.env u) (λ_ s'=>∃σ' H',Inv X pins σ' H' s'/\Q σ' H') X.xe s
def R4(X:Cx)(ts:List Expr)(t:C8):Prop :=
 ∀(pins:List (Addr×Obj)) (s:Aj) (σ:St) (H:Hp) (vs:List V) (us:List Value) (Q:St->Hp->Prop),Inv X pins σ H s->Fs vs us->t vs σ H Q ->
  wpAny (model X.prog X.w) X.A (assignInOrder ((Ju ts X.env).map (·.2)) us) (λ_ s'=>∃σ' H',Inv X pins σ' H' s'/\Q σ' H') X.xe s
abbrev T8:=V->V->V->Hp->(Hp->Prop)->Prop
def CK(X:Cx)(t:T8):Prop :=
 ∀(pins:List (Addr×Obj)) (s:Aj) (σ:St) (H:Hp) (o i v:V) (ov iv u:Value) (Q:Hp->Prop),Inv X pins σ H s->RelV o ov->RelV i iv->RelV v u->t o i v H Q ->
  wpAny (model X.prog X.w) X.A (setItem ov iv u) (λ_ s'=>∃H',Inv X pins σ H' s'/\Q H') X.xe s
abbrev FE:=V->V->Hp->VK->Prop
def FF(X:Cx)(op:Operator)(t:FE):Prop :=
 ∀(pins:List (Addr×Obj)) (s:Aj) (σ:St) (H:Hp) (x y:V) (v u:Value) (Q:VK),Inv X pins σ H s->RelV x v->RelV y u->t x y H Q ->
  wpAny (model X.prog X.w) X.A (inplaceOp op v u) (EP X pins σ Q) X.xe s
section
variable{X:Cx}{pos:Pos}
def Tn(i:Nat):TG:=λv σ H Q=>Q (σ.set i (some v)) H
theorem Ot{i:Nat}{x:Str}(hN:X.N.Nodup)(hi:X.N[i]? = some x)(hx:Loc X.env.scope x)(hf:X.fn x=true\/X.env.scope.names.lookup x=some .local:=by first | exact .inl rfl | exact .inr rfl | assumption):PG X (.Name x pos) (Tn i):=by
 intro pins s σ H v u Q I r h
 exact wpAny_assign_Name (aW I hN hi hx r (λs' I'=>⟨_,H,I',h⟩) hf)
def CC:C8:=λvs σ H Q=>vs=[]/\Q σ H
def vH(t:TG)(u:C8):C8:=λvs σ H Q=>∃v r,vs=v::r/\t v σ H λσ' H'=>u r σ' H' Q
theorem pO:R4 X [] CC:=by
 intro pins s σ H vs us Q I r h
 obtain ⟨e,h⟩:=h
 subst e
 cases r
 exact assignInOrder_nil ⟨σ,H,I,h⟩
theorem aT{e:Expr}{es:List Expr}{t:TG}{u:C8}(h1:PG X e t)(h2:R4 X es u)(hs:(Ju (e::es) X.env).map (·.2)=Qq e X.env::(Ju es X.env).map (·.2):=by rfl):R4 X (e::es) (vH t u):=by
 intro pins s σ H vs us Q I r h
 obtain ⟨v,vr,e1,h⟩:=h
 subst e1
 cases r with
 | cons r rr =>
  rw[hs]
  refine assignInOrder_cons (Hh (h1 pins s σ H _ _ _ I r h) λ_ s1 q0_ => ?_)
  obtain ⟨σ1,H1,I1,q1⟩ := q0_
  exact h2 pins s1 σ1 H1 _ _ Q I1 rr q1
def DH(K:PySem.W.Frag)(n:Nat)(t:C8):TG:=λv σ H Q=>∃a xs,v=.ref a/\Ur K H a xs/\xs.length=n/\t xs σ H Q
theorem wY{es:List Expr}{k:Nat}{t:C8}{n:Nat}(hc:X.calm=true)(h:R4 X es t)(hn:(Ju es X.env).length=n:=by rfl)(hst:(Ju es X.env).findIdx? (·.1)=none:=by rfl):PG X (.Tuple es k pos) (DH X.K n t):=by
 intro pins s σ H v u Q I r hw
 obtain ⟨a,xs,e1,hq,hl,hw⟩:=hw
 subst e1
 cases r
 obtain ⟨its,rv,ht,hz⟩:=I.tuple hq
 refine assign_Tuple_tuple (I.ok.hd hc) ht (by simp [hn,<- hl,rv.length]) hst λh' hx=>?_
 have I1:Inv X pins σ H { s with heap:=h' }:=I.kept (t':=s.toks) λb o e=>hx b o (Da (Bl e)) e
 exact h pins _ σ H xs _ Q I1 (by simpa using rv) hw
def GY(to ti:TE)(t:T8):TG:=λv σ H Q=>to σ H λo H1=>ti σ H1 λi H2=>t o i v H2 λH3=>Q σ H3
theorem n6{o i:Expr}{to ti:TE}{t:T8}(ho:PE X o to)(hi:PE X i ti)(hs:CK X t)
  (ha:∀v,Qq (.Subscript o i pos) X.env v=(do
   let ov <- holding [v] (eval o X.env)
   let iv <- holding [v,ov] (eval i X.env)
   standAt pos
   holding [v,ov,iv] (setItem ov iv v)
   release [v,ov,iv] []):=by intro _; rfl):PG X (.Subscript o i pos) (GY to ti t):=by
 intro pins s σ H v u Q I r h
 rw[ha]
 refine Ac (Fb (Hh (ho pins s σ H _ I h) λov s1 q0_ => ?_))
 obtain ⟨x,H1,I1,r1,q1⟩ := q0_
 refine Ac (Fb (Hh (hi pins s1 σ H1 _ I1 q1) λiv s2 q0_ => ?_))
 obtain ⟨y,H2,I2,r2,q2⟩ := q0_
 refine Ac (cN (Ac (Fb (Hh (hs pins s2 σ H2 x y v ov iv u _ I2 r1 r2 r q2) λ_ s3 q0_ => ?_))))
 obtain ⟨H3,I3,q3⟩ := q0_
 exact wpAny_release ⟨σ,H3,I3,q3⟩
def yO(te:TE)(g:TG):TS:=λD σ H=>te σ H λx H1=>g x σ H1 D.nx
theorem pD{tg e:Expr}{te:TE}{g:TG}(he:PE X e te)(hg:PG X tg g)(hs:swapsWithSole [tg] e pos.line X.env=pure false:=by rfl)(hw:swappedStores [tg] e X.env=pure none:=by rfl)(h1:(Ju [tg] X.env).map (·.2)=[Qq tg X.env]:=by rfl):PS X (.Assign [tg] e pos) (yO te g):=by
 intro pins s σ H D I h
 refine wpAny_Assign_stores (Hh (he pins s σ H _ I h) λv s1 ⟨x,H1,I1,r1,q1⟩=>?_) hs hw
 rw[h1]
 exact Hh (hg pins s1 σ H1 x v _ I1 r1 q1) λ_ s2 q=>q
theorem Xk{i:Nat}{x:Str}{e:Expr}{te:TE}{pos':Pos}(hN:X.N.Nodup)(hi:X.N[i]? = some x)(hx:Loc X.env.scope x)(he:PE X e te)(hs:Kf e (some (.Name x pos')) pos.line X.env=pure false:=by rfl)(hf:X.fn x=true\/X.env.scope.names.lookup x=some .local:=by first | exact .inl rfl | exact .inr rfl | assumption):PS X (.Assign [.Name x pos'] e pos) (yO te (Tn i)):=by
 intro pins s σ H D I h
 refine wpAny_Assign_Name (Hh (he pins s σ H _ I h) λv s1 ⟨y,H1,I1,r1,q1⟩=>?_) hs
 exact aW I1 hN hi hx r1 (λs2 I2=>⟨_,H1,I2,q1⟩) hf
def GT(i:Nat)(te:TE)(ti:FE):TS:=λD σ H=>∃x,σ[i]? = some (some x)/\te σ H λy H1=>ti x y H1 λz H2=>D.nx (σ.set i (some z)) H2
theorem P9{i:Nat}{x:Str}{e:Expr}{te:TE}{op:Operator}{ti:FE}{pos':Pos}(hN:X.N.Nodup)(hi:X.N[i]? = some x)(hx:Loc X.env.scope x)(he:PE X e te)(ho:FF X op ti)(hf:X.fn x=true\/X.env.scope.names.lookup x=some .local:=by first | exact .inl rfl | exact .inr rfl | assumption):PS X (.AugAssign (.Name x pos') op e pos) (GT i te ti):=by
 intro pins s σ H D I h
 obtain ⟨v,e1,h⟩:=h
 obtain ⟨m,hn,hl⟩:=I.loc
 have vis:AV X.env.scope x:=by rcases hx with k | k; exact .inl k; exact .inr (.inl k)
 obtain ⟨u,r,l⟩:=hl i x v hi e1 vis
 refine wpAny_AugAssign_Name ?_
 have go:wpAny (model X.prog X.w) X.A (eval e X.env) (λw s₂=>wpAny (model X.prog X.w) X.A (inplaceOp op u w) (λr s₃=>wpAny (model X.prog X.w) X.A (storeName X.env x r) (λ_=>SP X pins D .next) X.xe s₃) X.xe s₂) X.xe s:=by
  refine Hh (he pins s σ H _ I h) λw s1 q0_ => ?_
  obtain ⟨y,H1,I1,r1,q1⟩ := q0_
  refine Hh (ho pins s1 σ H1 v y u w _ I1 r r1 q1) λz s2 q0_ => ?_
  obtain ⟨zv,H2,I2,r2,q2⟩ := q0_
  exact aW I2 hN hi hx r2 (λs3 I3=>⟨_,H2,I3,q2⟩) hf
 rcases l with ⟨hk,hm⟩ | ⟨hk,c,hc,hcell⟩
 ·exact wpAny_loadName_local I.ok.kind hk hn hm go
 ·rcases hk with hk | hk
  ·exact wpAny_loadName_cell I.ok.kind hk hc hcell go
  ·rcases hx with k | k
   ·have : X.env.scope.names.lookup x=some .free:=hk
    rw[k] at this; cases this
   ·have : X.env.scope.names.lookup x=some .free:=hk
    rw[k] at this; cases this
def FO(f:Int->Int->Int):FE:=λx y H Q=>∃i j,x=.int i/\y=.int j/\Q (.int (f i j)) H
theorem W3:FF X .Add (FO λi j=>i+j):=by
 intro pins s σ H x y v u Q I r1 r2 h
 obtain ⟨i,j,e1,e2,q⟩:=h
 subst e1; subst e2
 obtain ⟨t,rfl⟩:=r1
 obtain ⟨t',rfl⟩:=r2
 exact iadd_int ⟨.int _,H,I.tok _,⟨_,rfl⟩,q⟩
theorem Z9:FF X .Sub (FO λi j=>i - j):=by
 intro pins s σ H x y v u Q I r1 r2 h
 obtain ⟨i,j,e1,e2,q⟩:=h
 subst e1; subst e2
 obtain ⟨t,rfl⟩:=r1
 obtain ⟨t',rfl⟩:=r2
 exact isub_int ⟨.int _,H,I.tok _,⟨_,rfl⟩,q⟩
end
section
variable{X:Cx}{pos:Pos}
def V5(c:TT)(tb:TS):TS:=λD σ H=>∃W:Nat->St->Hp->Prop,(∃m,W m σ H)/\∀m σ H,W m σ H ->
 c σ H λb H1=>if b=true then ∃N:St->Hp->Prop,(∀σ' H',N σ' H'->∃m',m'<m/\W m' σ' H')/\tb { D with nx:=N,ct:=N,bk:=D.nx } σ H1 else D.nx σ H1
theorem i6{c:Expr}{body:List Stmt}{tc:TT}{tb:TS}(hp:Zd (model X.prog X.w) X.A X.env X.xe)(hc:PT X c tc)(hb:pJ X body tb):PS X (.While c body [] pos) (V5 tc tb):=by
 intro pins s σ H D I h
 obtain ⟨W,⟨m0,w0⟩,turn⟩:=h
 refine wpAny_While (codeAny_whileLoop (λn s'=>∃σ' H',Inv X pins σ' H' s'/\W n σ' H') ?_ m0 ⟨σ,H,I,w0⟩)
 (intro n s1 q_; obtain ⟨σ1,H1,I1,w1⟩ := q_)
 refine Kb hp (Hh (hc pins s1 σ1 H1 _ I1 (turn n σ1 H1 w1)) λb s2 q0_ => ?_)
 obtain ⟨H2,I2,q2⟩ := q0_
 cases b with
 | true =>
  obtain ⟨N,hN,q2⟩:=q2
  rw[if_pos rfl]
  refine Kb hp (Hh (hb pins s2 σ1 H2 _ I2 q2) λf s3 q3=>?_)
  cases f with
  | next =>
   obtain ⟨σ3,H3,I3,n3⟩:=q3
   obtain ⟨m',hm,w3⟩:=hN σ3 H3 n3
   exact ⟨m',hm,σ3,H3,I3,w3⟩
  | cont =>
   obtain ⟨σ3,H3,I3,n3⟩:=q3
   obtain ⟨m',hm,w3⟩:=hN σ3 H3 n3
   exact ⟨m',hm,σ3,H3,I3,w3⟩
  | brk=>exact q3
  | ret v=>exact q3
 | false =>
  rw[if_neg Cp]
  exact We ⟨σ1,H2,I2,q2⟩
end
structure It where
 go:Nat->Hp->Prop
 yld:Nat->Hp->V->Hp->Prop
 stop:Nat->Hp->Prop
def Ph(X:Cx)(pins:List (Addr×Obj))(H:Hp)(b:Addr):Prop :=
 H b=none/\b≠X.env.locals/\b∉X.fs/\(b∈X.ex\/X.s₀.heap.objs.size<=b)/\(∀x c,X.env.cells.lookup x=some c->c≠b)/\∀p∈X.pn++pins,p.1≠b
theorem Inv.fpOk{X:Cx}{pins:List (Addr×Obj)}{σ:St}{H H':Hp}{s:Aj}{b:Addr}(I:Inv X pins σ H s)(hb:s.heap.objs.size<=b)(hn:H' b=none):Ph X pins H' b:=by
 refine ⟨hn,Nat.ne_of_gt (Ca I.lt hb),I.nofs hb,.inr (Ci I.sz hb),λx c e z=>?_,λp hp z=>?_⟩
 ·obtain ⟨v,q⟩:=I.cell x c e
  exact absurd (Ca q.lt (by rw[z]; exact hb)) (Ha _)
 ·exact absurd (Ca (Bl (I.pin p hp).1) (by rw[z]; exact hb)) (Ha _)
structure Turn(P:Bj)(w:World)(K:PySem.W.Frag)(tg:Expr)(J:It)(fp:List Addr)(it:Addr)(tn:Nat->Heap->Prop):Prop where
 mem:it∈fp
 obj:∀i h,tn i h->∀b∈fp,∃o,h.get? b=some o/\∀v,o.data≠.cell v
 keep:∀i h h',tn i h->(∀b∈fp,∀o,h.get? b=some o->h'.get? b=some o)->tn i h'
 item:∀(X:Cx),X.prog=P->X.w=w->X.K=K->X.calm=true->∀(i:Nat) (pins:List (Addr×Obj)) (s:Aj) (σ:St) (H:Hp) (E:Value->Aj->Prop),Inv X pins σ H s->(∀b∈fp,Ph X pins H b)->tn i s.heap->J.go i H ->
  wpAny (model P w) X.A (pyNext (.ref it)) (λr s1=>∃u,r=some u /\
   wpAny (model P w) X.A (Wf tg (.ref it) u) (λ_ s2=>∃x H',Inv X pins σ H' s2/\RelV x u/\J.yld i H x H'/\tn (i+1) s2.heap/\∀b∈fp,H' b=none) E s1) E s
 done:∀(X:Cx),X.prog=P->X.w=w->X.K=K->X.calm=true->∀(i:Nat) (pins:List (Addr×Obj)) (s:Aj) (σ:St) (H:Hp) (E:Value->Aj->Prop),Inv X pins σ H s->(∀b∈fp,Ph X pins H b)->tn i s.heap->J.stop i H ->
  wpAny (model P w) X.A (pyNext (.ref it)) (λr s1=>r=none/\Inv X pins σ H s1) E s
 self:∀(A:Cu) (i:Nat) (s:Aj) (Q:Value->Aj->Prop) (E:Value->Aj->Prop),tn i s.heap->Q (.ref it) s->wpAny (model P w) A (pyIter (.ref it)) Q E s
abbrev TI:=St->Hp->(It->Hp->Prop)->Prop
def HG(X:Cx)(pins:List (Addr×Obj))(σ:St)(tg:Expr)(R:It->Hp->Prop)(itv:Value)(s2:Aj):Prop :=
 ∃(it:Addr) (fp:List Addr) (tn:Nat->Heap->Prop) (J:It) (H':Hp),itv=.ref it/\Inv X pins σ H' s2/\Turn X.prog X.w X.K tg J fp it tn/\tn 0 s2.heap/\(∀b∈fp,Ph X pins H' b)/\R J H'
def PI(X:Cx)(tg iter:Expr)(wi:TI):Prop :=
 ∀(pins:List (Addr×Obj)) (s:Aj) (σ:St) (H:Hp) (R:It->Hp->Prop),Inv X pins σ H s->wi σ H R ->
  wpAny (model X.prog X.w) X.A (eval iter X.env) (λv s1=>wpAny (model X.prog X.w) X.A (pyIter v) (HG X pins σ tg R) X.xe s1) X.xe s
theorem vK{M:Model}{A:Cu}{E:Value->Aj->Prop}{s:Aj}{tg:Expr}{it:Addr}{u:Value}{o:Obj}{n:String}{vs:Array Value}{Q:Unit->Aj->Prop}(ho:s.heap.get? it=some o)(hc:o.cls=.type n)(hd:o.data=.fields vs)(hn:["enumerate", "zip", "dict_itemiterator", "dict_reverseitemiterator", "odict_iterator", "itertools.zip_longest", "itertools.pairwise"].contains n=false)(hQ:Q () s):wpAny M A (Wf tg (.ref it) u) Q E s:=by
  unfold Wf
  cases tg <;> first
    | exact Ap hQ
    | (cases u <;> first
        | exact Ap hQ
        | (refine Ac (wpAny_load ho ?_)
           rw[hc,hd]
           show wpAny M A (if (["enumerate", "zip", "dict_itemiterator", "dict_reverseitemiterator", "odict_iterator", "itertools.zip_longest", "itertools.pairwise"].contains n && vs[0]? == some (Mt _))=true then _ else _) Q E s
           rw[if_neg (by intro h; rw[hn,Bool.false_and] at h; cases h)]
           exact Ap hQ))
def GA(K:PySem.W.Frag)(a:Addr):It :=
 ⟨λi H=>∃xs x,Ud K H a xs/\xs[i]? = some x,λi H x H'=>H'=H/\∀xs,Ud K H a xs->xs[i]? = some x,λi H=>∃xs,Ud K H a xs/\xs.length<=i⟩
def GE(K:PySem.W.Frag)(a:Addr):It :=
 ⟨λi H=>∃xs x,Ur K H a xs/\xs[i]? = some x,λi H x H'=>H'=H/\∀xs,Ur K H a xs->xs[i]? = some x,λi H=>∃xs,Ur K H a xs/\xs.length<=i⟩
def BE(lo:Int)(n:Nat):It:=⟨λi _=>i<n,λi H x H'=>H'=H/\x=.int (lo+i),λi _=>n<=i⟩
theorem tZ{P:Bj}{w:World}{K:PySem.W.Frag}{tg:Expr}(a it:Addr):Turn P w K tg (GA K a) [it] it (λi h=>h.IsListIter it a i) where
 mem:=by simp
 obj:=λi h st b hb=>by
  have e:b=it:=by simpa using hb
  subst e
  obtain ⟨o,e,c,d⟩:=st
  exact ⟨o,e,λv z=>by rw[d] at z; cases z⟩
 keep:=λi h h' st k=>st.at λo e=>k it (by simp) o e
 item:=by
  intro X hP hw hK hc i pins s σ H E I hf st hg
  subst hP hw hK
  obtain ⟨xs,x,hq,hx⟩:=hg
  obtain ⟨its,rv,p,hz⟩:=I.list hq
  obtain ⟨u,hu,ru⟩:=rv.get hx
  obtain ⟨f0,f1,f2,f3,f4,f5⟩:=hf it (by simp)
  refine o7 st p.isList (x:=u) (by simpa using hu) λh' st' sb=>?_
  have I1:Inv X pins σ H { s with heap:=h' }:=I.turned (t':=s.toks) (λb o hb e=>(sb.2 b hb).trans e) f0 f1 f3 f4 f5
  obtain ⟨o,e,c,d⟩:=id st'
  exact ⟨u,rfl,vK (s:={ s with heap:=h' }) e c d (by decide) ⟨x,H,I1,ru,⟨rfl,λys hy=>by rw[I.list_inj hy hq]; exact hx⟩,st',λb hb=>(hf b hb).1⟩⟩
 done:=by
  intro X hP hw hK hc i pins s σ H E I hf st hg
  subst hP hw hK
  obtain ⟨xs,hq,hx⟩:=hg
  obtain ⟨its,rv,p,hz⟩:=I.list hq
  obtain ⟨f0,f1,f2,f3,f4,f5⟩:=hf it (by simp)
  have hl:=rv.length
  exact wpAny_pyNext_list_end (I.ok.hd hc) st p.isList (by simp; omega) λh' eb=>⟨rfl,I.turned (t':=s.toks) (λb o hb e=>eb b o hb e) f0 f1 f3 f4 f5⟩
 self:=λ_ _ _ _ _ st h=>wpAny_pyIter_listiter st h
theorem pA{P:Bj}{w:World}{K:PySem.W.Frag}{tg:Expr}(a it:Addr):Turn P w K tg (GE K a) [it] it (λi h=>h.IsTupleIter it a i) where
 mem:=by simp
 obj:=λi h st b hb=>by
  have e:b=it:=by simpa using hb
  subst e
  obtain ⟨o,e,c,d⟩:=st
  exact ⟨o,e,λv z=>by rw[d] at z; cases z⟩
 keep:=λi h h' st k=>st.at λo e=>k it (by simp) o e
 item:=by
  intro X hP hw hK hc i pins s σ H E I hf st hg
  subst hP hw hK
  obtain ⟨xs,x,hq,hx⟩:=hg
  obtain ⟨its,rv,p,hz⟩:=I.tuple hq
  obtain ⟨u,hu,ru⟩:=rv.get hx
  obtain ⟨f0,f1,f2,f3,f4,f5⟩:=hf it (by simp)
  refine wpAny_pyNext_tuple_item st (show s.heap.IsTuple a its.toArray from p) (x:=u) (by simpa using hu) λh' st' sb=>?_
  have I1:Inv X pins σ H { s with heap:=h' }:=I.turned (t':=s.toks) (λb o hb e=>(sb.2 b hb).trans e) f0 f1 f3 f4 f5
  obtain ⟨o,e,c,d⟩:=id st'
  exact ⟨u,rfl,vK (s:={ s with heap:=h' }) e c d (by decide) ⟨x,H,I1,ru,⟨rfl,λys hy=>by rw[I.tuple_inj hy hq]; exact hx⟩,st',λb hb=>(hf b hb).1⟩⟩
 done:=by
  intro X hP hw hK hc i pins s σ H E I hf st hg
  subst hP hw hK
  obtain ⟨xs,hq,hx⟩:=hg
  obtain ⟨its,rv,p,hz⟩:=I.tuple hq
  obtain ⟨f0,f1,f2,f3,f4,f5⟩:=hf it (by simp)
  have hl:=rv.length
  exact wpAny_pyNext_tuple_end (I.ok.hd hc) st (show s.heap.IsTuple a its.toArray from p) (by simp; omega) λh' eb=>⟨rfl,I.turned (t':=s.toks) (λb o hb e=>eb b o hb e) f0 f1 f3 f4 f5⟩
 self:=λ_ _ _ _ _ st h=>wpAny_pyIter_tupleiter st h
theorem mV{P:Bj}{w:World}{K:PySem.W.Frag}{tg:Expr}(it:Addr)(lo:Int)(n:Nat):Turn P w K tg (BE lo n) [it] it (λi h=>IsRangeIter h it (lo+(i:Nat) * 1) ((n:Int) - (i:Nat)) 1) where
 mem:=by simp
 obj:=λi h st b hb=>by
  have e:b=it:=by simpa using hb
  subst e
  exact ⟨_,st,λv z=>by
   have z':Data.fields _=Data.cell v:=z
   cases z'⟩
 keep:=λi h h' st k=>k it (by simp) _ st
 item:=by
  intro X hP hw hK hc i pins s σ H E I hf st hg
  subst hP hw hK
  obtain ⟨f0,f1,f2,f3,f4,f5⟩:=hf it (by simp)
  have W:=Walks.range (prog:=X.prog) (w:=X.w) (I.ok.hd hc) it lo 1 n
  refine W.item i s _ _ hg st λv h' tk hv st' kk=>?_
  obtain ⟨t,rfl⟩:=hv
  have I1:Inv X pins σ H { s with heap:=h',toks:=tk }:=I.turned (λb o hb e=>kk b o (by simpa using hb) e) f0 f1 f3 f4 f5
  refine ⟨_,rfl,vK (s:={ s with heap:=h',toks:=tk }) (n := "range_iterator") st' rfl rfl (by decide) ⟨.int (lo+i),H,I1,⟨t,?_⟩,⟨rfl,rfl⟩,st',λb hb=>(hf b hb).1⟩⟩
  rw[Int.mul_one]
 done:=by
  intro X hP hw hK hc i pins s σ H E I hf st hg
  subst hP hw hK
  obtain ⟨f0,f1,f2,f3,f4,f5⟩:=hf it (by simp)
  exact wpAny_pyNext_range_end (I.ok.hd hc) st (by have : n<=i:=hg; omega) λh' eb=>⟨rfl,I.turned (t':=s.toks) (λb o hb e=>eb b o hb e) f0 f1 f3 f4 f5⟩
 self:=λ_ _ _ _ _ st h=>wpAny_pyIter_rangeiter st h
section
variable{X:Cx}{tg:Expr}
def BR(K:PySem.W.Frag)(tl:TE):TI:=λσ H R=>tl σ H λx H1=>∃a,x=.ref a/\(∃xs,Ud K H1 a xs)/\R (GA K a) H1
def GO(K:PySem.W.Frag)(tl:TE):TI:=λσ H R=>tl σ H λx H1=>∃a,x=.ref a/\(∃xs,Ur K H1 a xs)/\R (GE K a) H1
theorem B1{l:Expr}{tl:TE}(hl:PE X l tl):PI X tg l (BR X.K tl):=by
 intro pins s σ H R I h
 refine Hh (hl pins s σ H _ I h) λv s1 q0_ => ?_
 obtain ⟨x,H1,I1,r1,q1⟩ := q0_
 obtain ⟨a,e,⟨xs,hq⟩,q⟩:=q1
 subst e
 cases r1
 obtain ⟨its,rv,p,hz⟩:=I1.list hq
 refine fR p.isList ?_
 refine ⟨s1.heap.objs.size,[s1.heap.objs.size],_,_,H1,rfl,I1.kept (t':=s1.toks) λb o e=>Aq _ e,tZ a _,⟨_,Bs _ rfl,rfl,rfl⟩,λb hb=>?_,q⟩
 have e:b=s1.heap.objs.size:=by simpa using hb
 subst e
 exact I1.fpOk (Ai _) (I1.hok.fresh (Ai _))
theorem U9{l:Expr}{tl:TE}(hl:PE X l tl):PI X tg l (GO X.K tl):=by
 intro pins s σ H R I h
 refine Hh (hl pins s σ H _ I h) λv s1 q0_ => ?_
 obtain ⟨x,H1,I1,r1,q1⟩ := q0_
 obtain ⟨a,e,⟨xs,hq⟩,q⟩:=q1
 subst e
 cases r1
 obtain ⟨its,rv,p,hz⟩:=I1.tuple hq
 refine wpAny_pyIter_tuple (show s1.heap.IsTuple a its.toArray from p) ?_
 refine ⟨s1.heap.objs.size,[s1.heap.objs.size],_,_,H1,rfl,I1.kept (t':=s1.toks) λb o e=>Aq _ e,pA a _,⟨_,Bs _ rfl,rfl,rfl⟩,λb hb=>?_,q⟩
 have e:b=s1.heap.objs.size:=by simpa using hb
 subst e
 exact I1.fpOk (Ai _) (I1.hok.fresh (Ai _))
theorem vQ{pins:List (Addr×Obj)}{σ:St}{H:Hp}{s:Aj}{R:It->Hp->Prop}{E:Value->Aj->Prop}{lo hi:Int}{t u v:Tok}{tk:Nat}(I:Inv X pins σ H s)(h1:-(2 ^ 62)<=lo)(h2:lo<2 ^ 62)(h3:-(2 ^ 62)<=hi)(h4:hi<2 ^ 62)(q:R (BE lo (hi - lo).toNat) H):wpAny (model X.prog X.w) X.A (pyIter (.ref s.heap.objs.size)) (HG X pins σ tg R) E { s with heap:=s.heap.push { cls:=.type "range",data:=.fields #[.int lo t,.int hi u,.int 1 v] },toks:=tk }:=by
 refine wpAny_pyIter_range (IsRange.new ..) (small_one h1 h2 h3 h4) ?_
 have I1:Inv X pins σ H { s with heap:=s.heap.push { cls:=.type "range",data:=.fields #[.int lo t,.int hi u,.int 1 v] },toks:=tk }:=I.kept λb o e=>Aq _ e
 refine ⟨(s.heap.push { cls:=.type "range",data:=.fields #[.int lo t,.int hi u,.int 1 v] }).objs.size,[(s.heap.push { cls:=.type "range",data:=.fields #[.int lo t,.int hi u,.int 1 v] }).objs.size],_,_,H,rfl,
  I1.kept (t':=tk) λb o e=>Aq _ e,mV _ lo (hi - lo).toNat,?_,λb hb=>?_,q⟩
 ·have e1:lo+((0:Nat):Int) * 1=lo:=by simp
  have e2:(((hi - lo).toNat:Nat):Int) - ((0:Nat):Int)=Kg lo hi 1:=by rw[rangeSize_one]; split <;> omega
  show IsRangeIter _ _ (lo+((0:Nat):Int) * 1) ((((hi - lo).toNat:Nat):Int) - ((0:Nat):Int)) 1
  rw[e1,e2]
  exact Bs _ rfl
 ·have e:b=(s.heap.push { cls:=.type "range",data:=.fields #[.int lo t,.int hi u,.int 1 v] }).objs.size:=by simpa using hb
  subst e
  exact I1.fpOk (Ai _) (I1.hok.fresh (Ai _))
def CG(ta:TA):TI:=λσ H R=>ta σ H λvs H1=>∃j:Int,vs=[.int j] /\ -(2 ^ 62)<=j/\j<2 ^ 62/\R (BE 0 j.toNat) H1
theorem sR{a:Expr}{ta:TA}{p pos:Pos}(hg:Gl X "range")(hm:X.mg "range" = none)(ha:PA X [a] ta)(hs:By [a] X.env=[(false,eval a X.env)]:=by rfl):PI X tg (.Call (.Name "range" p) [a] [] pos) (CG ta):=by
 intro pins s σ H R I h
 refine Call_ (bN I hg hm boot_range (Mg (Hh (ha pos pins s σ H _ I h) λus s1 ⟨vs,H1,I1,r1,q1⟩=>?_) hs rfl))
 obtain ⟨j,e,q1,q2,q⟩:=q1
 subst e
 cases r1 with
 | cons r rr =>
  cases rr
  obtain ⟨t,rfl⟩:=r
  exact call_range_1 (vQ I1 (by omega) (by omega) q1 q2 (by simpa using q))
def FP(wi:TI)(g:TG)(tb:TS):TS:=λD σ H=>wi σ H λJ H1=>∃W:Nat->Nat->St->Hp->Prop,(∃m,W 0 m σ H1)/\∀i m σ H,W i m σ H ->
 (J.stop i H/\D.nx σ H)\/(J.go i H/\∃N:St->Hp->Prop,(∀σ' H',N σ' H'->∃m',m'<m/\W (i+1) m' σ' H')/\∀x H',J.yld i H x H'->g x σ H' λσ2 H2=>tb { D with nx:=N,ct:=N,bk:=D.nx } σ2 H2)
def Ul(fp:List Addr)(h:Heap):List (Addr×Obj):=fp.filterMap λb=>(h.get? b).map λo=>(b,o)
theorem Jo{fp:List Addr}{h:Heap}{b:Addr}{o:Obj}(hb:b∈fp)(e:h.get? b=some o):(b,o)∈Ul fp h:=Jc.mpr ⟨b,hb,by rw[e]; rfl⟩
theorem sE{fp:List Addr}{h:Heap}{p:Addr×Obj}(hp:p∈Ul fp h):p.1∈fp/\h.get? p.1=some p.2:=by
 obtain ⟨b,hb,e⟩:=Jc.mp hp
 cases q:h.get? b with
 | none=>rw[q] at e; cases e
 | some o =>
  rw[q] at e
  have e':(b,o)=p:=Cj e
  subst e'
  exact ⟨hb,q⟩
theorem Inv.pinned{pins:List (Addr×Obj)}{σ:St}{H:Hp}{s:Aj}{fp:List Addr}(I:Inv X pins σ H s)(hf:∀b∈fp,Ph X pins H b)(ho:∀b∈fp,∃o,s.heap.get? b=some o/\∀v,o.data≠.cell v):Inv X (pins++Ul fp s.heap) σ H s :=
 I.pins_of λp hp=>(Aw.mp hp).elim (λz=>I.pin p (Ag _ z)) λz=>by
  obtain ⟨hb,e⟩:=sE z
  obtain ⟨f0,f1,f2,_⟩:=hf p.1 hb
  obtain ⟨o,e',d⟩:=ho p.1 hb
  rw[e] at e'; cases e'
  exact ⟨e,f0,f1,f2,d⟩
theorem Inv.unpinned{pins pl:List (Addr×Obj)}{σ:St}{H:Hp}{s:Aj}(I:Inv X (pins++pl) σ H s):Inv X pins σ H s:=I.pins_of λp hp=>I.pin p (Ag _ (Al _ hp))
theorem vG{iter:Expr}{body:List Stmt}{wi:TI}{g:TG}{tb:TS}{pos:Pos}(hp:Zd (model X.prog X.w) X.A X.env X.xe)(hc:X.calm=true)(hi:PI X tg iter wi)(hg:PG X tg g)(hb:pJ X body tb)(hs:∀x,Eu iter X.env x=pure x:=by intro _; rfl):PS X (.For tg iter body [] pos) (FP wi g tb):=by
 intro pins s σ H D I h
 refine wpAny_For (Hh (hi pins s σ H _ I h) λv s1 h1=>Hh h1 λitv s2 h2=>?_) hs
 obtain ⟨it,fp,tn,J,H2,e,I2,T,st2,f2,W,⟨m0,w0⟩,turn⟩:=h2
 subst e
 -- what stays true of the iterator's objects through the loop
 have stat:∀{H':Hp},(∀b∈fp,H' b=none)->∀b∈fp,Ph X pins H' b:=λhn b hb=>⟨hn b hb,(f2 b hb).2⟩
 refine codeAny_forLoop_any (λn s'=>∃i σ' H',Inv X pins σ' H' s'/\tn i s'.heap/\(∀b∈fp,H' b=none)/\W i n σ' H') ?_ m0 ⟨0,σ,H2,I2,st2,λb hb=>(f2 b hb).1,w0⟩
 (intro n s3 q_; obtain ⟨i,σ3,H3,I3,Rj,fr3,w3⟩ := q_)
 rcases turn i n σ3 H3 w3 with ⟨stop,qn⟩ | ⟨go,N,hN,step⟩
 ·refine Kb hp (Hh (T.done X rfl rfl rfl hc i pins s3 σ3 H3 X.xe I3 (stat fr3) Rj stop) λr s4 q0_ => ?_)
  obtain ⟨hr,I4⟩ := q0_
  subst hr
  exact We ⟨σ3,H3,I4,qn⟩
 ·refine Kb hp (Hh (T.item X rfl rfl rfl hc i pins s3 σ3 H3 X.xe I3 (stat fr3) Rj go) λr s4 q0_ => ?_)
  obtain ⟨u,hr,h4⟩ := q0_
  subst hr
  refine Kb hp (Hh h4 λ_ s5 q0_ => ?_)
  obtain ⟨x,H5,I5,r5,y5,st5,fr5⟩ := q0_
  have I5':=I5.pinned (stat fr5) (T.obj _ _ st5)
  refine Kb hp (Hh (hg _ s5 σ3 H5 x u _ I5' r5 (step x H5 y5)) λ_ s6 q0_ => ?_)
  obtain ⟨σ6,H6,I6,q6⟩ := q0_
  refine Kb hp (Hh (hb _ s6 σ6 H6 _ I6 q6) λf s7 q7=>?_)
  have again:∀{σ7:St} {H7:Hp},Inv X (pins++Ul fp s5.heap) σ7 H7 s7->N σ7 H7->∃m,m<n/\∃i σ' H',Inv X pins σ' H' s7/\tn i s7.heap/\(∀b∈fp,H' b=none)/\W i m σ' H':=λ{σ7 H7} I7 n7=>by
   obtain ⟨m',hm,w7⟩:=hN σ7 H7 n7
   refine ⟨m',hm,i+1,σ7,H7,I7.unpinned,T.keep _ _ _ st5 λb hb o e=>(I7.pin (b,o) (Ag _ (Ag _ (Jo hb e)))).1,λb hb=>?_,w7⟩
   obtain ⟨o,e,d⟩:=T.obj _ _ st5 b hb
   exact (I7.pin (b,o) (Ag _ (Ag _ (Jo hb e)))).2.1
  cases f with
  | next=>obtain ⟨σ7,H7,I7,n7⟩:=q7; exact again I7 n7
  | cont=>obtain ⟨σ7,H7,I7,n7⟩:=q7; exact again I7 n7
  | brk=>obtain ⟨σ7,H7,I7,q7⟩:=q7; exact ⟨σ7,H7,I7.unpinned,q7⟩
  | ret v=>obtain ⟨x7,σ7,H7,I7,r7,q7⟩:=q7; exact ⟨x7,σ7,H7,I7.unpinned,r7,q7⟩
end
abbrev R2:=V->V->Hp->VK->Prop
def Wh(X:Cx)(f:Value->Value->Sem Value)(r:R2):Prop :=
 ∀(pins:List (Addr×Obj)) (s:Aj) (σ:St) (H:Hp) (x y:V) (v u:Value) (Q:VK),Inv X pins σ H s->RelV x v->RelV y u->r x y H Q ->
  wpAny (model X.prog X.w) X.A (f v u) (EP X pins σ Q) X.xe s
def GU(X:Cx)(f:Value->Sem Value)(r:V->Hp->VK->Prop):Prop :=
 ∀(pins:List (Addr×Obj)) (s:Aj) (σ:St) (H:Hp) (x:V) (v:Value) (Q:VK),Inv X pins σ H s->RelV x v->r x H Q ->
  wpAny (model X.prog X.w) X.A (f v) (EP X pins σ Q) X.xe s
def Kr(X:Cx)(f:Value)(r:List V->Hp->VK->Prop):Prop :=
 ∀(pins:List (Addr×Obj)) (s:Aj) (σ:St) (H:Hp) (xs:List V) (us:List Value) (Q:VK),Inv X pins σ H s->Fs xs us->r xs H Q ->
  wpAny (model X.prog X.w) X.A (call f us) (EP X pins σ Q) X.xe s
def FQ(X:Cx)(r:V->Hp->(Bool->Hp->Prop)->Prop):Prop :=
 ∀(pins:List (Addr×Obj)) (s:Aj) (σ:St) (H:Hp) (x:V) (v:Value) (Q:Bool->Hp->Prop),Inv X pins σ H s->RelV x v->r x H Q ->
  wpAny (model X.prog X.w) X.A (truthy v) (TP X pins σ Q) X.xe s
def ES(r:R2)(ta tb:TE):TE:=λσ H Q=>ta σ H λx H1=>tb σ H1 λy H2=>r x y H2 Q
def IC(r:V->Hp->VK->Prop)(ta:TE):TE:=λσ H Q=>ta σ H λx H1=>r x H1 Q
def rI(C:Int->Int->Prop)(g:Int->Int->V):R2:=λx y H Q=>∃i j,x=.int i/\y=.int j/\C i j/\Q (g i j) H
def t9(g:Int->Int->V):R2:=λx y H Q=>∃i j,x=.int i/\y=.int j/\Q (g i j) H
def rU(g:Int->V):V->Hp->VK->Prop:=λx H Q=>∃i,x=.int i/\Q (g i) H
section
variable{X:Cx}{a b c:Expr}{ta tb tc:TE}{pos:Pos}
theorem T2(ha:PE X a ta)(hb:PE X b tb){pins:List (Addr×Obj)}{s:Aj}{σ:St}{H:Hp}{R:V->V->Hp->Prop}(I:Inv X pins σ H s)(h:ta σ H λx H1=>tb σ H1 λy H2=>R x y H2){Q:Value->Aj->Prop}{f:Value->Value->Sem Value}(hf:∀v u s2 x y H2,Inv X pins σ H2 s2->RelV x v->RelV y u->R x y H2->wpAny (model X.prog X.w) X.A (f v u) Q X.xe s2):wpAny (model X.prog X.w) X.A (eval a X.env) (λv s₁=>wpAny (model X.prog X.w) X.A (eval b X.env) (λu s₂=>wpAny (model X.prog X.w) X.A (f v u) Q X.xe s₂) X.xe s₁) X.xe s:=by
 refine Hh (ha pins s σ H _ I h) λv s1 q0_ => ?_
 obtain ⟨x,H1,I1,r1,q1⟩ := q0_
 refine Hh (hb pins s1 σ H1 _ I1 q1) λu s2 q0_ => ?_
 obtain ⟨y,H2,I2,r2,q2⟩ := q0_
 exact hf v u s2 x y H2 I2 r1 r2 q2
theorem Jp{op:Operator}{r:R2}(ho:Wh X (Kx op) r)(ha:PE X a ta)(hb:PE X b tb):PE X (.BinOp a op b pos) (ES r ta tb):=by
 intro pins s σ H Q I h
 exact wpAny_BinOp (T2 ha hb I h λv u s2 x y H2 I2 rx ry q=>ho pins s2 σ H2 x y v u Q I2 rx ry q)
theorem CZ{op:UnaryOp}{r:V->Hp->VK->Prop}(ho:GU X (unaryOp op) r)(ha:PE X a ta):PE X (.UnaryOp op a pos) (IC r ta):=by
 intro pins s σ H Q I h
 exact UnaryOp_ (Hh (ha pins s σ H _ I h) λv s1 ⟨x,H1,I1,r1,q1⟩=>ho pins s1 σ H1 x v Q I1 r1 q1)
theorem BJ{f:Value->Value->Sem Value}{C:Int->Int->Prop}{g:Int->Int->Int}(rule:∀(i j:Int) (t u:Tok) (s:Aj) (Q:Value->Aj->Prop) (E:Value->Aj->Prop),C i j->Q (.int (g i j) s.toks) { s with toks:=s.toks+1 }->wpAny (model X.prog X.w) X.A (f (.int i t) (.int j u)) Q E s):Wh X f (rI C λi j=>.int (g i j)):=by
 intro pins s σ H x y v u Q I rx ry h
 obtain ⟨i,j,rfl,rfl,hc,q⟩:=h
 obtain ⟨t,rfl⟩:=rx
 obtain ⟨t',rfl⟩:=ry
 exact rule i j t t' s _ _ hc ⟨.int (g i j),H,I.tok _,⟨_,rfl⟩,q⟩
theorem BN{f:Value->Value->Sem Value}{g:Int->Int->Int}(rule:∀(i j:Int) (t u:Tok) (s:Aj) (Q:Value->Aj->Prop) (E:Value->Aj->Prop),Q (.int (g i j) s.toks) { s with toks:=s.toks+1 }->wpAny (model X.prog X.w) X.A (f (.int i t) (.int j u)) Q E s):Wh X f (t9 λi j=>.int (g i j)):=by
 intro pins s σ H x y v u Q I rx ry h
 obtain ⟨i,j,rfl,rfl,q⟩:=h
 obtain ⟨t,rfl⟩:=rx
 obtain ⟨t',rfl⟩:=ry
 exact rule i j t t' s _ _ ⟨.int (g i j),H,I.tok _,⟨_,rfl⟩,q⟩
theorem C7{f:Value->Value->Sem Value}{g:Int->Int->Bool}(rule:∀(i j:Int) (t u:Tok) (s:Aj) (Q:Value->Aj->Prop) (E:Value->Aj->Prop),Q (.bool (g i j)) s->wpAny (model X.prog X.w) X.A (f (.int i t) (.int j u)) Q E s):Wh X f (t9 λi j=>.bl (g i j)):=by
 intro pins s σ H x y v u Q I rx ry h
 obtain ⟨i,j,rfl,rfl,q⟩:=h
 obtain ⟨t,rfl⟩:=rx
 obtain ⟨t',rfl⟩:=ry
 exact rule i j t t' s _ _ ⟨.bl (g i j),H,I,rfl,q⟩
def R0(i j:Int):Prop:=0<j/\j<1073741824
def GB(i j:Int):Prop:=0<=j/\j<=1000000/\i.natAbs<2 ^ 64
def Q4(i j:Int):Prop:=(-(2 ^ 64)<i/\i<2 ^ 64)\/(-(2 ^ 64)<j/\j<2 ^ 64)
theorem Q4.ok{i j:Int}(h:Q4 i j):IntMulOk i j:=by
 rcases h with ⟨h1,h2⟩ | ⟨h1,h2⟩
 ·exact .of_left (intBits_le_64 h1 h2)
 ·exact .of_right (intBits_le_64 h1 h2)
theorem aK:Wh X (Kx .Add) (t9 λi j=>.int (i+j)):=BN λ_ _ _ _ _ _ _ q=>add_int q
theorem Z7:Wh X (Kx .Sub) (t9 λi j=>.int (i - j)):=BN λ_ _ _ _ _ _ _ q=>sub_int q
theorem Wt:Wh X (Kx .Mult) (rI Q4 λi j=>.int (i * j)):=BJ λ_ _ _ _ _ _ _ hc q=>mul_int q hc.ok
theorem iQ:Wh X (Kx .FloorDiv) (rI R0 λi j=>.int (i / j)):=BJ λi j _ _ _ _ _ hc q=>by
 have h1:(0:Int)<j:=hc.1
 have h2:j<1073741824:=hc.2
 exact floordiv_int (by omega) (by rw[Int.fdiv_eq_ediv_of_nonneg i (by omega)]; exact q) (.inl (PyProof.noPylong_small (by omega)))
theorem Uj:Wh X (Kx .Mod) (rI (λ_ j=>0<j) λi j=>.int (i % j)):=BJ λi j _ _ _ _ _ hc q=>by
 have h1:(0:Int)<j:=hc
 exact mod_int' (by omega) (by rw[Int.fmod_eq_emod_of_nonneg i (by omega)]; exact q)
theorem iO:Wh X (Kx .Pow) (rI GB λi j=>.int (i ^ j.toNat)):=BJ λ_ _ _ _ _ _ _ hc q=>pow_int_small hc.1 hc.2.1 hc.2.2 q
theorem HX{f:Value->Sem Value}{g:Int->Int}(rule:∀(i:Int) (t:Tok) (s:Aj) (Q:Value->Aj->Prop) (E:Value->Aj->Prop),Q (.int (g i) s.toks) { s with toks:=s.toks+1 }->wpAny (model X.prog X.w) X.A (f (.int i t)) Q E s):GU X f (rU λi=>.int (g i)):=by
 intro pins s σ H x v Q I rx h
 obtain ⟨i,rfl,q⟩:=h
 obtain ⟨t,rfl⟩:=rx
 exact rule i t s _ _ ⟨.int (g i),H,I.tok _,⟨_,rfl⟩,q⟩
theorem Z5:GU X (unaryOp .USub) (rU λi=>.int (-i)):=HX λ_ _ _ _ _ q=>neg_int q
end
section
variable{X:Cx}{a b c:Expr}{ta tb tc:TE}{pos:Pos}
theorem vY{pins:List (Addr×Obj)}{σ:St}{H:Hp}{s:Aj}{Q:VK}{k k':Bool}(I:Inv X pins σ H s)(q:Q (.bl k) H)(e:k=k'):EP X pins σ Q (.bool k') s:=by
 subst e
 exact ⟨.bl k,H,I,rfl,q⟩
theorem M8:Wh X (Gi .Lt) (t9 λi j=>.bl (decide (i<j))):=C7 λ_ _ _ _ _ _ _ q=>lt_int q
theorem op_le:Wh X (Gi .LtE) (t9 λi j=>.bl (decide (i<=j))):=C7 λ_ _ _ _ _ _ _ q=>le_int q
theorem DU:Wh X (Gi .Gt) (t9 λi j=>.bl (decide (j<i))):=C7 λ_ _ _ _ _ _ _ q=>gt_int q
theorem e8:Wh X (Gi .GtE) (t9 λi j=>.bl (decide (j<=i))):=C7 λ_ _ _ _ _ _ _ q=>ge_int q
theorem AB:Wh X (Gi .Is) (λx y H Q=>y=.non/\Q (.bl (decide (x=.non))) H):=by
 intro pins s σ H x y v u Q I rx ry h
 obtain ⟨rfl,q⟩:=h
 cases ry
 refine is_none_gen (vY I q ?_)
 cases x <;> first
  | (cases rx; rfl)
  | (obtain ⟨t,rfl⟩:=rx; rfl)
theorem C2:Wh X (Gi .IsNot) (λx y H Q=>y=.non/\Q (.bl (!decide (x=.non))) H):=by
 intro pins s σ H x y v u Q I rx ry h
 obtain ⟨rfl,q⟩:=h
 cases ry
 refine isnot_none_gen (vY I q ?_)
 cases x <;> first
  | (cases rx; rfl)
  | (obtain ⟨t,rfl⟩:=rx; rfl)
theorem Mn(b:Expr){op:CmpOp}(h:op≠.In:=by decide)(h2:op≠.NotIn:=by decide):Fx op b=false:=by
 have e1:(op == CmpOp.In)=false:=by cases op <;> first | rfl | exact absurd rfl h
 have e2:(op == CmpOp.NotIn)=false:=by cases op <;> first | rfl | exact absurd rfl h2
 cases b <;> simp [Fx,e1,e2]
theorem G3{op:CmpOp}{r:R2}(ho:Wh X (Gi op) r)(ha:PE X a ta)(hb:PE X b tb)(hm:Fx op b=false):PE X (.Compare a [op] [b] pos) (ES r ta tb):=by
 intro pins s σ H Q I h
 exact wpAny_Compare1 (T2 ha hb I h λv u s2 x y H2 I2 rx ry q=>ho pins s2 σ H2 x y v u Q I2 rx ry q) hm
def DQ(t:TE):TT:=λσ H Q=>t σ H λx H'=>∃k,x=.bl k/\Q k H'
theorem sA{op:CmpOp}{r:R2}(ho:Wh X (Gi op) r)(ha:PE X a ta)(hb:PE X b tb)(hm:Fx op b=false):PT X (.Compare a [op] [b] pos) (DQ (ES r ta tb)):=by
 intro pins s σ H Q I h
 refine wpAny_isTrue_Compare1 (Hh (ha pins s σ H _ I h) λv s1 ⟨x,H1,I1,r1,q1⟩=>Hh (hb pins s1 σ H1 _ I1 q1) λu s2 ⟨y,H2,I2,r2,q2⟩ =>
  Hh (ho pins s2 σ H2 x y v u _ I2 r1 r2 q2) λc s3 ⟨z,H3,I3,r3,k,e,q3⟩=>?_) hm
 subst e
 cases r3
 exact Gw ⟨H3,I3,q3⟩
def GZ(K:PySem.W.Frag)(x:V)(H:Hp)(k:Bool):Prop :=
 match x with
 | .non=>k=false
 | .bl b=>k=b
 | .int i=>k=(i != 0)
 | .str y=>y.length<=Bb/\k=((y.length:Int) != 0)
 | .byt y=>y.size<=Bb/\k=((y.size:Int) != 0)
 | .ref p=>(∃xs,Ud K H p xs/\k = !xs.isEmpty)\/(∃xs,Ur K H p xs/\k = !xs.isEmpty)\/∃kvs,H p=some (.dK kvs)/\k = !kvs.isEmpty
 | _=>False
theorem oM{κ:Type}{kvs:List (κ×V)}{vs:List (κ×Value)}(r:KV kvs vs):(!vs.isEmpty) = !kvs.isEmpty:=by
 cases r <;> rfl
theorem aU{xs:List V}{its:List Value}(r:Fs xs its):(!its.toArray.isEmpty) = !xs.isEmpty:=by
 cases r <;> simp
theorem Xg:(Bb:Nat)<2 ^ 63:=by rw[Kv]; decide
theorem GX:FQ X (λx H Q=>∃k,GZ X.K x H k/\Q k H):=by
 intro pins s σ H x v Q I rx h
 obtain ⟨k,e,q⟩:=h
 have hl:=Xg
 have hs:Bb=16777216:=Kv
 cases x with
 | non =>
  cases rx
  have e':k=false:=e
  subst e'
  exact truthy_none ⟨H,I,q⟩
 | bl b =>
  cases rx
  have e':k=b:=e
  subst e'
  exact Gw ⟨H,I,q⟩
 | int i =>
  obtain ⟨t,rfl⟩:=rx
  have e':k=(i != 0):=e
  subst e'
  exact PySem.P.truthy_int ⟨H,I,q⟩
 | str y =>
  obtain ⟨t,rfl⟩:=rx
  obtain ⟨hy,e'⟩ : y.length<=Bb/\k=((y.length:Int) != 0):=e
  subst e'
  exact PySem.P.truthy_str (by omega) ⟨H,I.tok _,q⟩
 | byt y =>
  obtain ⟨t,rfl⟩:=rx
  obtain ⟨hy,e'⟩ : y.size<=Bb/\k=((y.size:Int) != 0):=e
  subst e'
  exact PySem.W.truthy_bytes (by omega) ⟨H,I.tok _,q⟩
 | ref p =>
  cases rx
  have e':(∃xs,Ud X.K H p xs/\k = !xs.isEmpty)\/(∃xs,Ur X.K H p xs/\k = !xs.isEmpty)\/∃kvs,H p=some (.dK kvs)/\k = !kvs.isEmpty:=e
  rcases e' with ⟨xs,hx,e'⟩ | ⟨xs,hx,e'⟩ | ⟨kvs,hx,e'⟩
  ·subst e'
   obtain ⟨its,r,pl,hz⟩:=I.list hx
   have hlen:=r.length
   exact wpAny_truthy_list pl.isList (by simp only[Av]; omega) ⟨H,I.tok _,by rw[aU r]; exact q⟩
  ·subst e'
   obtain ⟨its,r,pl,hz⟩:=I.tuple hx
   have hlen:=r.length
   exact truthy_tuple pl (by simp only[Av]; omega) ⟨H,I.tok _,by rw[aU r]; exact q⟩
  ·subst e'
   obtain ⟨hz,hS,vs,r,m⟩ : kvs.length<=Bb/\(p == Ku)=false/\∃vs,KV kvs vs/\s.heap.DictOf (Ik X.prog X.w) p vs:=I.hok p _ hx
   have hlen:kvs.length=vs.length:=Paired.length r
   exact wpAny_truthy_dict hS m (by omega) ⟨H,I.tok _,by rw[oM r]; exact q⟩
 | _=>exact (show False from e).elim
theorem vals1{x:V}{us:List Value}(r:Fs [x] us):∃u,us=[u]/\RelV x u:=by
 cases r with
 | cons r1 r2=>cases r2; exact ⟨_,rfl,r1⟩
theorem vals2{x y:V}{us:List Value}(r:Fs [x,y] us):∃u w',us=[u,w']/\RelV x u/\RelV y w':=by
 cases r with
 | cons r1 r2 =>
  cases r2 with
  | cons r3 r4=>cases r4; exact ⟨_,_,rfl,r1,r3⟩
theorem sQ(hc:X.calm=true):Kr X (.builtin "min") (λxs H Q=>∃i j,xs=[.int i,.int j]/\Q (.int (if j<i then j else i)) H):=by
 intro pins s σ H xs us Q I r h
 obtain ⟨i,j,rfl,q⟩:=h
 obtain ⟨u,w',rfl,⟨t,rfl⟩,⟨t',rfl⟩⟩:=vals2 r
 refine min_two_ints (I.ok.hd hc) λh' tk k=>⟨_,H,I.kept k,?_,q⟩
 by_cases hj:j<i
 ·rw[if_pos hj,if_pos hj]; exact ⟨_,rfl⟩
 ·rw[if_neg hj,if_neg hj]; exact ⟨_,rfl⟩
def AX(K:PySem.W.Frag)(x:V)(H:Hp)(n:Nat):Prop :=
 match x with
 | .str y=>y.length<=Bb/\n=y.length
 | .byt y=>y.size<=Bb/\n=y.size
 | .ref p=>(∃xs,Ud K H p xs/\n=xs.length)\/∃xs,Ur K H p xs/\n=xs.length
 | _=>False
theorem Ie:Kr X (.builtin "len") (λxs H Q=>∃x n,xs=[x]/\AX X.K x H n/\Q (.int n) H):=by
 intro pins s σ H xs us Q I r h
 obtain ⟨x,n,rfl,e,q⟩:=h
 obtain ⟨u,rfl,rx⟩:=vals1 r
 have hl:=Xg
 have hs:Bb=16777216:=Kv
 cases x with
 | str y =>
  obtain ⟨t,rfl⟩:=rx
  obtain ⟨hy,e'⟩ : y.length<=Bb/\n=y.length:=e
  subst e'
  exact len_str (by omega) ⟨.int _,H,I.tok _,⟨_,rfl⟩,q⟩
 | byt y =>
  obtain ⟨t,rfl⟩:=rx
  obtain ⟨hy,e'⟩ : y.size<=Bb/\n=y.size:=e
  subst e'
  exact PySem.W.len_bytes (by omega) ⟨.int _,H,I.tok _,⟨_,rfl⟩,q⟩
 | ref p =>
  cases rx
  have e':(∃xs,Ud X.K H p xs/\n=xs.length)\/∃xs,Ur X.K H p xs/\n=xs.length:=e
  rcases e' with ⟨xs,hx,e'⟩ | ⟨xs,hx,e'⟩
  ·subst e'
   obtain ⟨its,r',pl,hz⟩:=I.list hx
   have hlen:=r'.length
   exact Calls.call_len_list pl.isList (by simp only[Av]; omega) ⟨.int xs.length,H,I.tok _,⟨_,by simp only[Av]; rw[hlen]⟩,q⟩
  ·subst e'
   obtain ⟨its,r',pl,hz⟩:=I.tuple hx
   have hlen:=r'.length
   exact len_tuple pl (by simp only[Av]; omega) ⟨.int xs.length,H,I.tok _,⟨_,by simp only[Av]; rw[hlen]⟩,q⟩
 | _=>exact (show False from e).elim
end
structure ObjM(h:Heap)(x dx C:Addr)(mA:Str->Option Value):Prop where
 obj:h.get? x=some (PySem.W.instObj C dx)
 ns:h.Ns1 dx mA
 ne:dx≠x
theorem tS{h:Heap}{dx:Addr}{mA:Str->Option Value}(n:h.Ns1 dx mA):∃od,h.get? dx=some od/\∀name,PySem.W.lookIn name od=some (mA name):=by
 obtain ⟨o,es,ep,ho,hd,hk,_,hm⟩:=n
 refine ⟨o,ho,λname=>?_⟩
 have e:=hm name
 unfold nsFind findBy at e
 rw[<- Array.find?_toList] at e
 unfold PySem.W.lookIn
 rw[hd]
 dsimp only
 split
 ·rename_i y q
  rw[q] at e
  exact congrArg some e
 ·rename_i q
  rw[q] at e
  have a:es.toList.any (·.refKey)=false:=by
   rw[List.any_eq_false]
   intro y hy
   obtain ⟨z,t,hkey⟩:=hk y (Array.mem_toList_iff.mp hy)
   simp [DictEntry.refKey,hkey]
  have a':¬ es.toList.any (·.refKey)=true:=by rw[a]; exact Cp
  rw[if_neg a']
  exact congrArg some e
theorem ObjM.look{h:Heap}{x dx C:Addr}{mA:Str->Option Value}(I:ObjM h x dx C mA):∃od,PySem.W.InstAt h x (PySem.W.instObj C dx) C (some od)/\∀name,PySem.W.lookIn name od=some (mA name) :=
 let ⟨od,ho,hl⟩:=tS I.ns
 ⟨od,⟨I.obj,rfl,rfl,ho⟩,hl⟩
theorem pI.some_of{v:V}{o:Option Value}(r:pI (some v) o):∃u,o=some u/\RelV v u:=by
 cases o with
 | none=>exact (show False from r).elim
 | some u=>exact ⟨u,rfl,r⟩
section
variable{P:Bj}{w:World}{H H':Hp}{h h':Heap}{a C dx:Addr}{fs fs':List (Str×V)}
theorem p8(hok:Vm P w H h)(e:H a=some (.ins C dx fs)):∃mA,ObjM h a dx C mA/\(∀f,pI (fs.lookup f) (mA f))/\PySem.Within mA (fs.map (·.1))/\fs.length<=1000/\H dx=some (.own a):=by
 obtain ⟨d,z,ne,ob,mA,n,r,q⟩:=(show Gu P w H h a (.ins C dx fs) from hok a _ e)
 exact ⟨mA,⟨ob,n,ne⟩,r,q,z,d⟩
end
structure Cls(K:PySem.W.Frag)(C:Addr):Prop where
 pg:PySem.W.plainGet K C Str.empty=true
 hd:PySem.W.hasDictIn K C=true
 po:PySem.W.plainOver K C=true
 sa:PySem.W.findIn K (.ref C) "__setattr__" = some (some (.builtin "object.__setattr__"))
theorem Cls.get{K:PySem.W.Frag}{C:Addr}(c:Cls K C)(f:Str):PySem.W.plainGet K C f=true:=c.pg
section
variable{X:Cx}{pins:List (Addr×Obj)}{σ:St}{H:Hp}{s:Aj}{A:Cu}{E:Value->Aj->Prop}{Q:Value->Aj->Prop}{c:Value}{b:Bool}
inductive TyOf (K:PySem.W.Frag) (H:Hp):V->Value->Prop where
 | non:TyOf K H .non (.type "NoneType")
 | bl (x:Bool):TyOf K H (.bl x) (.type "bool")
 | int (i:Int):TyOf K H (.int i) (.type "int")
 | str (x:Str):TyOf K H (.str x) (.type "str")
 | flt (x:UInt64):TyOf K H (.flt x) (.type "float")
 | lst {a:Addr} {xs:List V} (e:H a=some (.lst xs)):TyOf K H (.ref a) (.type "list")
 | frz {a:Addr} {o:Obj} {xs:List V} (e:H a=some (.frz o (.lst xs))):TyOf K H (.ref a) (.type "list")
 | tup {a:Addr} {xs:List V} (e:H a=some (.tup xs)):TyOf K H (.ref a) (.type "tuple")
 | dK {a:Addr} {kvs:List (Kz×V)} (e:H a=some (.dK kvs)):TyOf K H (.ref a) (.type "dict")
 | dT {a:Addr} {kvs:List (List Kz×V)} (e:H a=some (.dT kvs)):TyOf K H (.ref a) (.type "dict")
 | ins {a C dx:Addr} {fs:List (Str×V)} (e:H a=some (.ins C dx fs)) (cl:Cls K C) (ha:PySem.W.findIn K (.ref C) "__class__" = some (some (.builtin "object.__class__")))
   (hn:PySem.W.specialIn K (.builtin "object.__class__") "__get__" = some (some (.builtin "getset_descriptor.__get__"))) (htk:PySem.W.takesIn K (.builtin "object.__class__")=some true)
   (hm:PySem.W.mroIn K C (.type "object")=some true):TyOf K H (.ref a) (.ref C)
theorem sT{x:V}{u t:Value}(I:Inv X pins σ H s)(rx:RelV x u)(ty:TyOf X.K H x t)(e:PySem.W.kitOne X.K t c=some b)(h:∀tk,Q (.bool b) { s with toks:=tk }):wpAny (model X.prog X.w) A (call (.builtin "isinstance") [u,c]) Q E s:=by
 cases ty with
 | non=>cases (show u=Qt from rx); exact PySem.W.kia_one PySem.W.kitx_none I.kIn Ln e (λz=>nomatch z) h
 | bl y=>cases (show u=Value.bool y from rx); exact PySem.W.kia_one PySem.W.kitx_bool I.kIn Ln e (λz=>nomatch z) h
 | int i=>obtain ⟨t,q⟩:=(show ∃t,u=Mh i t from rx); cases q; exact PySem.W.kia_one PySem.W.kitx_int I.kIn Ln e (λz=>nomatch z) h
 | str y=>obtain ⟨t,q⟩:=(show ∃t,u=Value.str y t from rx); cases q; exact PySem.W.kia_one PySem.W.kitx_str I.kIn Ln e (λz=>nomatch z) h
 | flt y=>obtain ⟨t,q⟩:=(show ∃t,u=Value.float y t from rx); cases q; exact PySem.W.kia_one PySem.W.kitx_float I.kIn Ln e (λz=>nomatch z) h
 | @lst a xs ea =>
  cases (show u=Au a from rx)
  obtain ⟨_,_,n,_,h1⟩:=(show Gu X.prog X.w H s.heap a (.lst xs) from I.hok a _ ea)
  exact PySem.W.kia_one PySem.W.kitx_list I.kIn ⟨_,h1,rfl⟩ e (λz=>nomatch z) h
 | @frz a ob xs ea =>
  cases (show u=Au a from rx)
  obtain ⟨_,_,_,n,_,h1⟩:=(show Gu X.prog X.w H s.heap a (.frz ob (.lst xs)) from I.hok a _ ea)
  exact PySem.W.kia_one PySem.W.kitx_list I.kIn ⟨_,h1,rfl⟩ e (λz=>nomatch z) h
 | @tup a xs ea =>
  cases (show u=Au a from rx)
  obtain ⟨_,_,_,p⟩:=(show Gu X.prog X.w H s.heap a (.tup xs) from I.hok a _ ea)
  obtain ⟨o,h1,h2,_⟩:=p
  exact PySem.W.kia_one PySem.W.kitx_tuple I.kIn ⟨o,h1,h2⟩ e (λz=>nomatch z) h
 | @dK a kvs ea =>
  cases (show u=Au a from rx)
  obtain ⟨_,_,vs,_,p⟩:=(show Gu X.prog X.w H s.heap a (.dK kvs) from I.hok a _ ea)
  obtain ⟨o,es,ep,h1,h2,_⟩:=p
  exact PySem.W.kia_one PySem.W.kitx_dict I.kIn ⟨o,h1,h2.1⟩ e (λz=>nomatch z) h
 | @dT a kvs ea =>
  cases (show u=Au a from rx)
  obtain ⟨_,_,xs,_,o,es,ep,h1,h2,_⟩:=(show Gu X.prog X.w H s.heap a (.dT kvs) from I.hok a _ ea)
  exact PySem.W.kia_one PySem.W.kitx_dict I.kIn ⟨o,h1,h2.1⟩ e (λz=>nomatch z) h
 | @ins a C dx fs ea cl ha hn htk hm =>
  cases (show u=Au a from rx)
  obtain ⟨mA,O,_⟩:=p8 I.hok ea
  obtain ⟨od,J,_⟩:=O.look
  exact PySem.W.kia_one (PySem.W.kitx_own (cl.get _) cl.hd ha hn htk hm) I.kIn J e (λz=>nomatch z) h
end
structure Room(k:Nat)(A:Cu):Prop where
 hd:A.handled=none
 dp:A.depth+3 * k+5<recursionLimit
 un:A.units+16 * k+200<cLine
 gd:A.guards=some []
theorem Room.mono{j k:Nat}{A:Cu}(r:Room k A)(h:j<=k):Room j A:=⟨r.hd,by have:=r.dp; omega,by have:=r.un; omega,r.gd⟩
theorem Room.deeper{k:Nat}{A:Cu}(r:Room (k+1) A)(env:Env):Room k (A.deeper env) :=
 ⟨r.hd,by have:=r.dp; show A.depth+1+3 * k+5<_; omega,by have:=r.un; show A.units+3+16 * k+200<_; omega,r.gd⟩
theorem Room.depth{k:Nat}{A:Cu}(r:Room k A):A.depth<recursionLimit:=by have:=r.dp; omega
theorem Room.units{k:Nat}{A:Cu}(r:Room k A):A.units+64<cLine:=by have:=r.un; omega
def AL:TA:=λ_ H Q=>Q [] H
def BK(ta:TE)(tr:TA):TA:=λσ H Q=>ta σ H λx H1=>tr σ H1 λxs H2=>Q (x::xs) H2
section
variable{X:Cx}{e:Expr}{es:List Expr}{te:TE}{t:TA}{pos:Pos}
theorem Qe:PA X [] AL:=λ_ _ _ _ H Q I h=>Calls.spliced_nil ⟨[],H,I,.nil,h⟩
theorem Jf(ha:PE X e te)(hr:PA X es t)(hs:By (e::es) X.env=(false,eval e X.env)::By es X.env:=by rfl):PA X (e::es) (BK te t):=by
 intro pos pins s σ H Q I h
 rw[hs]
 show wpAny _ _ (spliced ((false,eval e X.env)::Iq pos (By es X.env))) _ _ s
 refine Calls.spliced_cons (Hh (ha pins s σ H _ I h) λu s1 q0_ => ?_)
 obtain ⟨x,H1,I1,r1,q1⟩ := q0_
 exact Hh (hr pos pins s1 σ H1 _ I1 q1) λus s2 ⟨xs,H2,I2,r2,q2⟩=>⟨x::xs,H2,I2,.cons r1 r2,q2⟩
def FR(t:TA):TE:=λσ H Q=>t σ H λxs H1=>xs.length<=Bb/\∀p,H1 p=none->Q (.ref p) (upd H1 p (.tup xs))
def FS(t:TA):TE:=λσ H Q=>t σ H λxs H1=>xs.length<=Bb/\∀p,H1 p=none->Q (.ref p) (upd H1 p (.lst xs))
theorem W9{x1}(h:PA X es t):PE X (.Tuple es x1 pos) (FR t):=by
 intro pins s σ H Q I hq
 refine wpAny_Tuple_spliced (Hh (h pos pins s σ H _ I hq) λus s1 ⟨xs,H1,I1,r,z,q⟩=>⟨by rw[<- r.length]; exact z,?_⟩)
 have hf:H1 s1.heap.objs.size=none:=I1.hok.fresh (Ai _)
 refine ⟨.ref s1.heap.objs.size,upd H1 s1.heap.objs.size (.tup xs),I1.laid (t':=s1.toks) (λb u e=>Aq _ e) (Ai _) ?_,rfl,q _ hf⟩
 exact ⟨z,us,r,⟨_,Bs _ rfl,rfl,_,rfl⟩⟩
theorem mX(h:PA X es t):PE X (.List es pos) (FS t):=by
 intro pins s σ H Q I hq
 refine wpAny_List_spliced (Hh (h pos pins s σ H _ I hq) λus s1 ⟨xs,H1,I1,r,z,q⟩=>⟨by rw[<- r.length]; exact z,?_⟩)
 have hf:H1 s1.heap.objs.size=none:=I1.hok.fresh (Ai _)
 refine ⟨.ref s1.heap.objs.size,upd H1 s1.heap.objs.size (.lst xs),I1.laid (t':=s1.toks) (λb u e=>Aq _ e) (Ai _) ?_,rfl,q _ hf⟩
 exact ⟨z,us,0,r,Bs _ rfl⟩
end
abbrev Sp:=List V->Hp->VK->XK->Prop
abbrev qA:=List Env->Hp->Aj->XK->Value->Aj->Prop
structure Env0(P:Bj)(w:World)(K:PySem.W.Frag)(mg:Str->Option Value)(base:Heap)(A:Cu)(outer:List Env)(s:Aj)(H:Hp):Prop where
 frames:A.frames=some outer
 mod:Mod K mg base
 bs:∀b o,base.get? b=some o->s.heap.get? b=some o/\H b=none
 bsz:base.objs.size<=s.heap.objs.size
 funs:s.heap.FunFrames base outer
 frf:∀b∈uE outer,H b=none
 hok:Vm P w H s.heap
 bare:Rv s.gens
 tab:xX K mg base H
def CE(outer:List Env)(P:Bj)(w:World)(H:Hp)(s:Aj)(Q:VK)(u:Value)(s':Aj):Prop :=
 ∃v H',s'.os=s.os/\Rv s'.gens/\Un (uE outer) [] H H' s.heap s'.heap/\Vm P w H' s'.heap/\RelV v u/\Q v H'
def CR(CX:qA)(outer:List Env)(P:Bj)(w:World)(H:Hp)(s:Aj)(Q:VK)(E:XK)(r:Result)(s':Aj):Prop :=
 match r with
 | .ok (.ret u)=>CE outer P w H s Q u s'
 | .ok _=>False
 | .error e=>CX outer H s E e s'
structure FnOk(P:Bj)(w:World)(K:PySem.W.Frag)(mg:Str->Option Value)(base:Heap)(CX:qA)(k:Nat)(f:Addr)(fd:Cq)(ps:List Str)(sp:Sp):Prop where
 len:∀vs H Q E,sp vs H Q E->vs.length=ps.length
 run:∀(A:Cu) (outer:List Env) (s:Aj) (H:Hp) (args:Args) (us:List Value) (vs:List V) (Q:VK) (E:XK),Room k A->Env0 P w K mg base A outer s H->BindsTo s fd args (ps.zip us)->Fs vs us->sp vs H Q E ->
  Mv (model P w) A (.call (.ref f) args) (CR CX outer P w H s Q E) s
theorem FnOk.imp{P:Bj}{w:World}{K:PySem.W.Frag}{mg:Str->Option Value}{base:Heap}{CX:qA}{k:Nat}{f:Addr}{fd:Cq}{ps:List Str}{sp sp':Sp}(F:FnOk P w K mg base CX k f fd ps sp)(h:∀vs H Q E,sp' vs H Q E->sp vs H Q E):FnOk P w K mg base CX k f fd ps sp' :=
 ⟨λvs H Q E q=>F.len vs H Q E (h _ _ _ _ q),λA outer s H args us vs Q E hr he hb hv hs=>F.run A outer s H args us vs Q E hr he hb hv (h _ _ _ _ hs)⟩
section
variable{X:Cx}{pins:List (Addr×Obj)}{σ:St}{H:Hp}{s s':Aj}
theorem Inv.env0(I:Inv X pins σ H s):Env0 X.prog X.w X.K X.mg X.base X.A X.stack s H :=
 ⟨I.ok.frames,I.ok.mod,I.bs,Ci I.ok.bsz I.sz,I.stack,I.stkFree,I.hok,I.bare,I.ok.tab.un I.base⟩
theorem Inv.after{Q:VK}{u:Value}(I:Inv X pins σ H s)(h:CE X.stack X.prog X.w H s Q u s'):EP X pins σ Q u s':=by
 obtain ⟨v,H',os,bare,un,hok,r,q⟩:=h
 obtain ⟨hh,g,d,t,os'⟩:=s'
 obtain rfl:os'=s.os:=os
 exact ⟨v,H',I.call (h':=hh) (g':=g) (d':=d) (t':=t) (ch:=[]) un hok bare (λb z=>absurd z (by simp)),r,q⟩
end
def M6(sp:Sp)(dvs:List V)(E:XK)(t:TA):TE:=λσ H Q=>t σ H λvs H1=>sp (vs++dvs) H1 Q E
def Binds(K:PySem.W.Frag)(fd:Cq)(ps:List Str)(ds:List Value):Prop :=
 ∀(s:Aj) (us:List Value),K.In s.heap->(us++ds).length=ps.length->BindsTo s fd ⟨us,[]⟩ (ps.zip (us++ds))
theorem Binds.all{K:PySem.W.Frag}{fd:Cq}{ps:List Str}(h:∀us:List Value,us.length=ps.length->bindArgs fd ⟨us,[]⟩=pure (ps.zip us)):Binds K fd ps []:=λs us _ hl=>by
 rw[Ea] at hl ⊢
 exact .of_eq (h us hl)
def Oy(CX:qA)(X:Cx)(E:XK):Prop:=∀(pins:List (Addr×Obj)) (σ:St) (H:Hp) (s:Aj) (e:Value) (s':Aj),Inv X pins σ H s->CX X.stack H s E e s'->X.xe e s'
section
variable{X:Cx}{CX:qA}{k:Nat}{f C:Addr}{fd:Cq}{ps:List Str}{sp:Sp}{dvs:List V}{ds:List Value}{E:XK}{x m:Str}{p pos apos:Pos}{e o:Expr}{es:List Expr}{ta:TE}{t:TA}
theorem wX{pins:List (Addr×Obj)}{σ:St}{H:Hp}{s:Aj}{Q:VK}{us:List Value}{vs:List V}(F:FnOk X.prog X.w X.K X.mg X.base CX k f fd ps sp)(hr:Room k X.A)(hb:Binds X.K fd ps ds)(hd:Fs dvs ds)(hx:Oy CX X E)(I:Inv X pins σ H s)(r:Fs vs us)(h:sp (vs++dvs) H Q E):wpAny (model X.prog X.w) X.A (call (.ref f) us) (EP X pins σ Q) X.xe s:=by
 have r2:Fs (vs++dvs) (us++ds):=r.append hd
 have hl:(us++ds).length=ps.length:=by rw[<- r2.length]; exact F.len _ _ _ _ h
 refine wpAny_call (Px (F.run X.A X.stack s H ⟨us,[]⟩ (us++ds) (vs++dvs) Q E hr I.env0 (hb s us I.kIn hl) r2 h) λr s' hq=>?_)
 cases r with
 | error e=>exact hx pins σ H s e s' I hq
 | ok fl =>
  cases fl with
  | ret u=>exact I.after hq
  | next=>exact Kd hq
  | brk=>exact Kd hq
  | cont=>exact Kd hq
theorem Va(F:FnOk X.prog X.w X.K X.mg X.base CX k f fd ps sp)(hr:Room k X.A)(hg:Gl X x)(hm:X.mg x=some (.ref f))(hk:PySem.W.keepIn X.K (.ref f)=true)(hb:Binds X.K fd ps ds)(hd:Fs dvs ds)(hx:Oy CX X E)(ha:PA X (e::es) t)(hdb:(x == ("__debug__" : Str))=false:=by decide)(he:By (e::es) X.env=(false,eval e X.env)::By es X.env:=by rfl)(hpl:(Iq pos (By es X.env)).any (·.1)=false:=by rfl):PE X (.Call (.Name x p) (e::es) [] pos) (M6 sp dvs E t):=by
 intro pins s σ H Q I h
 refine Qo (pV I hg hm ?_ hdb)
 refine PySem.W.callWith_K (h₀:=X.base) I.ok.mod.kin hk (Hh (ha pos pins s σ H _ I h) λus s1 ⟨vs,H1,I1,r,q⟩=>⟨I1.kIn,?_⟩) he hpl
 exact wX F hr hb hd hx I1 r q
theorem wH(F:FnOk X.prog X.w X.K X.mg X.base CX k f fd ps sp)(hr:Room k X.A)(hg:Gl X x)(hm:X.mg x=some (.ref f))(hk:PySem.W.keepIn X.K (.ref f)=true)(hb:Binds X.K fd ps ds)(hd:Fs dvs ds)(hx:Oy CX X E)(hdb:(x == ("__debug__" : Str))=false:=by decide):PE X (.Call (.Name x p) [] [] pos) (M6 sp dvs E AL):=by
 intro pins s σ H Q I h
 refine Qo (pV I hg hm ?_ hdb)
 exact PySem.W.callWith_K0 I.kIn hk (wX (us:=[]) F hr hb hd hx I .nil h)
end
structure FnScope(N P:List Str)(sc:Scope):Prop where
 kind:sc.kind=.function
 co:sc.isCoroutine=false
 gen:sc.isGenerator=false
 nd:N.Nodup
 pre:N.take P.length=P
 par:∀x∈P,sc.names.lookup x=some .local\/sc.names.lookup x=some .cell
 nofree:∀y∈sc.names,y.2≠.free
theorem eM{kindOf:Str->Option Ow}{x:Str}:∀{binds:List (Str×Value)} {m:Str->Option Value},(∀v,(x,v)∉binds)->bindL kindOf binds m x=m x
 | [],_,_=>rfl
 | (n,v)::r,m,h=>by
  unfold bindL
  rw[eM λw hw=>h w (Ae _ hw)]
  split
  ·have : x≠n:=by rintro rfl; exact h v Aa
   simp [this]
  ·rfl
theorem eI{kindOf:Str->Option Ow}{x:Str}:∀{binds:List (Str×Value)} {m:Str->Option Value},(∀v,(x,v)∉binds)->bindC kindOf binds m x=m x
 | [],_,_=>rfl
 | (n,v)::r,m,h=>by
  unfold bindC
  rw[eI λw hw=>h w (Ae _ hw)]
  split
  ·rfl
  ·have : x≠n:=by rintro rfl; exact h v Aa
   simp [this]
theorem eE{kindOf:Str->Option Ow}{x:Str}{v:Value}:∀{P:List Str} {vs:List Value} {i:Nat} {m:Str->Option Value},P.Nodup->P[i]? = some x->vs[i]? = some v->kindOf x=some .local->bindL kindOf (P.zip vs) m x=some v
 | [],_,_,_,_,h,_,_=>by simp at h
 | _::_,[],_,_,_,_,h,_=>by simp at h
 | p::P,w::vs,0,m,nd,h1,h2,hk=>by
  simp at h1 h2; subst h1; subst h2
  show bindL kindOf ((p,w)::P.zip vs) m p=_
  unfold bindL
  rw[eM λv hv=>(Cn.mp nd).1 (List.of_mem_zip hv).1,if_pos hk]
  simp
 | p::P,w::vs,i+1,m,nd,h1,h2,hk=>by
  show bindL kindOf ((p,w)::P.zip vs) m x=_
  unfold bindL
  exact eE (i:=i) (Cn.mp nd).2 (by simpa using h1) (by simpa using h2) hk
theorem eU{kindOf:Str->Option Ow}{x:Str}{v:Value}:∀{P:List Str} {vs:List Value} {i:Nat} {m:Str->Option Value},P.Nodup->P[i]? = some x->vs[i]? = some v->kindOf x≠some .local->bindC kindOf (P.zip vs) m x=some v
 | [],_,_,_,_,h,_,_=>by simp at h
 | _::_,[],_,_,_,_,h,_=>by simp at h
 | p::P,w::vs,0,m,nd,h1,h2,hk=>by
  simp at h1 h2; subst h1; subst h2
  show bindC kindOf ((p,w)::P.zip vs) m p=_
  unfold bindC
  rw[eI λv hv=>(Cn.mp nd).1 (List.of_mem_zip hv).1,if_neg hk]
  simp
 | p::P,w::vs,i+1,m,nd,h1,h2,hk=>by
  show bindC kindOf ((p,w)::P.zip vs) m x=_
  unfold bindC
  exact eU (i:=i) (Cn.mp nd).2 (by simpa using h1) (by simpa using h2) hk
def start(N:List Str)(vs:List V):St:=vs.map some++Io (N.length - vs.length) none
def Me(CX:qA)(P:Bj)(w:World)(K:PySem.W.Frag)(mg:Str->Option Value)(base:Heap)(N:List Str)(qual:Str)(scope:Scope)(f:Addr)(cd:Value)(A:Cu)(outer:List Env)(s:Aj)(H:Hp)(E:XK):Cx where
 prog:=P
 w:=w
 K:=K
 mg:=mg
 base:=base
 A:=A.deeper (Pf qual scope s.heap.objs.size f cd)
 N:=N
 s₀:=s
 H₀:=H
 env:=Pf qual scope s.heap.objs.size f cd
 outer:=outer
 stack:=Pf qual scope s.heap.objs.size f cd::outer
 ex:=[]
 calm:=true
 fn:=λ_=>true
 pn:=[]
 xe:=λe s'=>wpAny (model P w) (A.deeper (Pf qual scope s.heap.objs.size f cd)) (leaving (Pf qual scope s.heap.objs.size f cd) e) (λ_ s''=>CX outer H s E e s'') (λe' s''=>CX outer H s E e' s'') s'
theorem kM{sc:Scope}{n:Nat}{x:Str}(h:sc.names.lookup x=some .cell):∃c,(Ez n sc.names []).lookup x=some c:=by
 have q:=PySem.W.cellsFrom_some sc.names n [] (.inl h)
 exact Pu.mp q
theorem uX{CX:qA}{P:Bj}{w:World}{K:PySem.W.Frag}{mg:Str->Option Value}{base:Heap}{N ps:List Str}{qual:Str}{scope:Scope}{f:Addr}{cd:Value}{A:Cu}{outer:List Env}{s s1:Aj}{H:Hp}{E:XK}{us:List Value}{vs:List V}(S:FnScope N ps scope)(hd:A.handled=none)(e0:Env0 P w K mg base A outer s H)(hl:vs.length=ps.length)(r:Fs vs us)(x:InCallC s s.heap.objs.size (bindL (Pf qual scope s.heap.objs.size f cd).kindOf (ps.zip us) λ_=>none) (Ez (s.heap.objs.size+1) scope.names []) (bindC (Pf qual scope s.heap.objs.size f cd).kindOf (ps.zip us) λ_=>none) s1):Inv (Me CX P w K mg base N qual scope f cd A outer s H E) [] (start N vs) H s1:=by
 have hpl:ps.length<=N.length:=by have:=congrArg Fj S.pre; rw[Dg] at this; omega
 obtain ⟨h1,tk,rfl,hk⟩:=x.done
 have noA:∀b:Addr,b∉(Me CX P w K mg base N qual scope f cd A outer s H E).ex:=λb z=>absurd (show b∈([]:List Addr) from z) (by simp)
 refine ⟨⟨e0.mod,S.kind,rfl,rfl,Ai _,λy z c h1 h2=>?_,λy hy=>?_,λy c _ h=>?_,λ_=>hd,Around.frames_deeper e0.frames,.inr ⟨rfl,rfl⟩,λb z=>absurd z (noA b),e0.bs,e0.bsz,λb _ _=>noA b,λb z=>absurd z (noA b),e0.funs,e0.frf,e0.tab⟩,
  rfl,e0.bare,Un.kept hk,⟨_,x.toInCall.ns,λi y v h1 h2 h3=>?_⟩,λy c h=>⟨_,x.cell y c h⟩,e0.hok.fresh (Ai _),λy c h=>?_,λp hp=>absurd (show p∈([]:List (Addr×Obj)) from hp) (by simp),e0.hok.kept hk,?_⟩
 ·exact name_of_addr x.apart (PySem.mem_of_lookup h1) (PySem.mem_of_lookup h2)
 ·have hy:scope.names.lookup y=some .cell\/scope.names.lookup y=some .free:=hy
  rcases hy with hy | hy
  ·exact kM hy
  ·exact absurd rfl (S.nofree _ (PySem.mem_of_lookup hy))
 ·exact Mc (x.above y c (PySem.mem_of_lookup h))
 ·have hi:i<vs.length:=by
   unfold start at h2
   by_cases hi:i<vs.length
   ·exact hi
   ·rw[Ey (by simpa using hi)] at h2
    rw[List.getElem?_replicate] at h2
    split at h2 <;> cases h2
  have ha:vs[i]? = some v:=by
   unfold start at h2
   rw[Ht (by simpa using hi),Bw] at h2
   cases e:vs[i]? with
   | none=>rw[e] at h2; cases h2
   | some a=>rw[e] at h2; cases h2; rfl
  obtain ⟨u,hu,rv⟩:=r.get ha
  have hp:ps[i]? = some y:=by
   rw[<- S.pre,Gd (by omega)]; exact h1
  have ndP:ps.Nodup:=by rw[<- S.pre]; exact S.nd.sublist (Hw _ _)
  refine ⟨u,rv,?_⟩
  rcases S.par y (Ax hp) with k | k
  ·exact .inl ⟨k,eE ndP hp hu k⟩
  ·obtain ⟨c,e⟩:=kM (n:=s.heap.objs.size+1) k
   refine .inr ⟨.inl k,c,e,?_⟩
   have q:=x.cell y c e
   rw[eU ndP hp hu (by show scope.names.lookup y≠_; rw[k]; decide)] at q
   exact q
 ·exact e0.hok.fresh (Mc (x.above y c (PySem.mem_of_lookup h)))
 ·unfold start
  show _=N.length
  rw[Bh,Ab,List.length_replicate]
  omega
theorem BX{CX:qA}{P:Bj}{w:World}{K:PySem.W.Frag}{mg:Str->Option Value}{base:Heap}{k:Nat}{f:Addr}{name qual:Str}{params:Arguments}{body:List Stmt}{scope:Scope}{dV kV doc pm cdv ct oc:Value}{an od:Option Addr}{osl:Array (Option Value)}{N ps:List Str}{sp:Sp}(lk:K.lookup f=some ⟨oc,od,.func (PySem.W.fnOf name qual params body scope dV kV doc pm an cdv ct),osl⟩)(hcd:PySem.W.codeIn K cdv qual=true)(S:FnScope N ps scope)(len:∀vs H Q E,sp vs H Q E->vs.length=ps.length)(hbody:∀(A:Cu) (outer:List Env) (s:Aj) (H:Hp) (vs:List V) (Q:VK) (E:XK),Room k (A.deeper (Pf qual scope s.heap.objs.size f cdv))->sp vs H Q E->∃t,pJ (Me CX P w K mg base N qual scope f cdv A outer s H E) body t/\t { nx:=λ_ H'=>Q .non H',rt:=Q } (start N vs) H):FnOk P w K mg base CX (k+1) f (PySem.W.fnOf name qual params body scope dV kV doc pm an cdv ct) ps sp:=by
 refine ⟨len,λA outer s H args us vs Q E hr e0 hb r hsp=>?_⟩
 have hl:=len _ _ _ _ hsp
 have KX:K.In s.heap:=e0.mod.kin.keeps λb o e=>(e0.bs b o e).1
 have lim:s.heap.NoLimit:=e0.mod.nolimit.keeps λb o e=>(e0.bs b o e).1
 have hkind:∀y∈ps.zip us,scope.names.lookup y.1=some .local\/(scope.names.lookup y.1=some .cell/\((Ez (s.heap.objs.size+1) scope.names []).lookup y.1).isSome=true):=λ⟨n,v⟩ hy=>by
  rcases S.par n (List.of_mem_zip hy).1 with q | q
  ·exact .inl q
  ·exact .inr ⟨q,PySem.W.cellsFrom_some _ _ _ (.inl q)⟩
 refine codeAny_call_function hr.depth (KX _ _ lk) rfl S.co S.gen rfl (PySem.W.codeRec_of KX hcd) (hb _ _ _ _ ?_)
 refine wpAny_newFunctionEnv_cells S.kind hkind λenv he s1 x=>?_
 subst he
 refine ⟨lim.keeps x.toInCall.keep,codeAny_func ?_⟩
 obtain ⟨t,ht,hq⟩:=hbody A outer s H vs Q E (hr.deeper _) hsp
 have I:Inv (Me CX P w K mg base N qual scope f cdv A outer s H E) [] (start N vs) H s1:=uX S hr.hd e0 hl r x
 refine Fy (ht [] s1 (start N vs) H _ I hq) (λfl s' hs=>?_) λe s' hs=>hs
 have fin:∀{σ':St} {H':Hp} {v:V} {u:Value},Inv (Me CX P w K mg base N qual scope f cdv A outer s H E) [] σ' H' s'->RelV v u->Q v H'->CE outer P w H s Q u s' :=
  λ{σ' H' v u} J rv q=>⟨v,H',J.os,J.bare,J.base,J.hok,rv,q⟩
 cases fl with
 | ret u =>
  obtain ⟨v,σ',H',J,rv,q⟩:=hs
  exact fin J rv q
 | next =>
  obtain ⟨σ',H',J,q⟩:=hs
  exact fin (v:=V.non) (u:=Qt) J rfl q
 | brk =>
  obtain ⟨_,_,_,q⟩:=hs
  exact Kd q
 | cont =>
  obtain ⟨_,_,_,q⟩:=hs
  exact Kd q
section
variable{X:Cx}{x:Str}{p pos:Pos}{e:Expr}{es:List Expr}{t:TA}{id T:String}{r:List V->Hp->VK->Prop}
def FU(r:List V->Hp->VK->Prop)(t:TA):TE:=λσ H Q=>t σ H λvs H1=>r vs H1 Q
theorem cG(hc:Kr X (.builtin id) r)(hg:Gl X x)(hm:X.mg x=none)(hv:Jt x=some (.builtin id))(ha:PA X (e::es) t)(hn:x ≠ "__name__" := by decide)(hdb:(x == ("__debug__" : Str))=false:=by decide)(he:By (e::es) X.env=(false,eval e X.env)::By es X.env:=by rfl)(hpl:(Iq pos (By es X.env)).any (·.1)=false:=by rfl):PE X (.Call (.Name x p) (e::es) [] pos) (FU r t):=by
 intro pins s σ H Q I h
 refine Qo (bN I hg hm hv ?_ hn hdb)
 exact PyProof.Rows.callWith_builtin1 (Hh (ha pos pins s σ H _ I h) λus s1 ⟨vs,H1,I1,r1,q1⟩=>hc pins s1 σ H1 vs us Q I1 r1 q1) he hpl
theorem Pi(hc:Kr X (.type T) r)(hg:Gl X x)(hm:X.mg x=none)(hv:Jt x=some (.type T))(ha:PA X (e::es) t)(hn:x ≠ "__name__" := by decide)(hdb:(x == ("__debug__" : Str))=false:=by decide)(he:By (e::es) X.env=(false,eval e X.env)::By es X.env:=by rfl)(hpl:(Iq pos (By es X.env)).any (·.1)=false:=by rfl):PE X (.Call (.Name x p) (e::es) [] pos) (FU r t):=by
 intro pins s σ H Q I h
 refine Qo (bN I hg hm hv ?_ hn hdb)
 exact Mg (Hh (ha pos pins s σ H _ I h) λus s1 ⟨vs,H1,I1,r1,q1⟩=>hc pins s1 σ H1 vs us Q I1 r1 q1) he hpl
end
end L2
namespace HT
open PySem PyProof.Rows
def lexLt:List Int->List Int->Bool
 | [],[]=>false
 | [],_::_=>true
 | _::_,[]=>false
 | x::xs,y::ys=>if x=y then lexLt xs ys else decide (x<y)
theorem lexLt_cons(x y:Int)(xs ys:List Int):lexLt (x::xs) (y::ys)=if x=y then lexLt xs ys else decide (x<y):=rfl
theorem lexLt_nil_nil:lexLt [] []=false:=rfl
theorem lexLt_nil_cons(y:Int)(ys:List Int):lexLt [] (y::ys)=true:=rfl
theorem lexLt_cons_nil(x:Int)(xs:List Int):lexLt (x::xs) []=false:=rfl
theorem j8(A:Cu)(s:Aj)(a:Int)(t:Tok)(c:Int)(u:Tok):∃e,Mi A s (.int a t) (.int c u) e/\(e=true↔a=c) :=
 ⟨(a == c),SeqAt.EqAt.int_int a t c u,by simp⟩
theorem yY(A:Cu)(s:Aj)(a:Int)(t:Tok)(c:Int)(u:Tok)(prog:Bj)(w:World)(E:Value->Aj->Prop)(Q:Value->Aj->Prop)(h:Q (.bool (decide (a<c))) s):wpAny (model prog w) A (richCompare .Lt (.int a t) (.int c u)) Q E s :=
 (PyProof.Rows.lt_int h:wpAny (model prog w) A (Gi .Lt (.int a t) (.int c u)) Q E s)
section
open PySem.SeqAt
open PySem.AutoSeq1 (wpAny_loadPart')
open PySem.MeetsSeq PySem.MeetsSeq2 PySem.MeetsSeq3
theorem tuple_lt_ints(l b:Addr)(items items2:Array Value)(n n2:Nat)(dd dd2:Option Addr)(sl sl2:Array (Option Value))(ns ms:List Int)(hi:Ge items.toList ns)(hj:Ge items2.toList ms):Meets (Builtin.«tuple.__lt__» ⟨[.ref l,.ref b],[]⟩) (λ_ R s=>s.heap.get? l=some { cls:=.type "tuple",dict:=dd,data:=.seq items n,slots:=sl }/\s.heap.get? b=some { cls:=.type "tuple",dict:=dd2,data:=.seq items2 n2,slots:=sl2 }/\R (.ok (.ret (.bool (lexLt ns ms)))) s) :=
 .of_wp λprog w A R s h=>by
  obtain ⟨hp,g,d,tk,os⟩:=s; obtain ⟨hl,hb,h⟩:=h
  have f2:=AutoSeq1.sub_tuple_tuple
  have z1:items.size=ns.length:=by rw[<- hi.length]; simp
  have z2:items2.size=ms.length:=by rw[<- hj.length]; simp
  wp_walk using Wd hl,Wd hb,Tv _ (λFo b s'=>b.1=none/\s'=⟨hp,g,d,tk,os⟩/\∃(vs ws:List Value) (ns' ms':List Int),Fo=vs.zip ws /\
   Ge vs ns'/\Ge ws ms'/\ns'.length+items2.size=ms'.length+items.size/\R (.ok (.ret (.bool (lexLt ns' ms')))) ⟨hp,g,d,tk,os⟩) _
  case turn =>
   (rintro ⟨y,x⟩ Fo b s' q_; obtain ⟨hb',rfl,vs,ws,ns',ms',hz,hvi,hwi,hlen,hR⟩ := q_)
   cases hvi with
   | nil=>rw[List.zip_nil_left] at hz; cases hz
   | cons a t hvi' =>
    cases hwi with
    | nil=>rw[List.zip_nil_right] at hz; cases hz
    | cons c u hwi' =>
     rw[Pd] at hz
     injection hz with hyx hrest
     injection hyx with hy hx
     subst hy hx
     rw[lexLt_cons] at hR
     simp only[Ay] at hlen
     obtain ⟨e,he,hiff⟩:=j8 A.in1 ⟨hp,g,d,tk,os⟩ a t c u
     refine Ac (he prog w _ _ ?_)
     cases e with
     | true =>
      rw[if_pos (hiff.mp rfl)] at hR
      wp_walk
      exact ⟨rfl,rfl,_,_,_,_,hrest,hvi',hwi',by omega,hR⟩
     | false =>
      rw[if_neg (λq=>absurd (hiff.mpr q) Cp)] at hR
      have hri:=yY A.in1 ⟨hp,g,d,tk,os⟩ a t c u prog w
      wp_walk using hri
      exact ⟨_,rfl,by simpa using hR⟩
  case fin =>
   (rintro ⟨b1,b2⟩ s' q_; obtain ⟨hb',rfl,vs,ws,ns',ms',hz,hvi,hwi,hlen,hR⟩ := q_)
   simp only at hb'
   subst hb'
   have hv:lexLt ns' ms'=decide (items.size<items2.size):=by
    cases hvi with
    | nil =>
     cases hwi with
     | nil =>
      simp only[Ji] at hlen
      rw[lexLt_nil_nil]
      exact (decide_eq_false (by omega)).symm
     | cons c u hw =>
      simp only[Ji,Ay] at hlen
      rw[lexLt_nil_cons]
      exact (decide_eq_true (by omega)).symm
    | cons a t hv =>
     cases hwi with
     | nil =>
      simp only[Ji,Ay] at hlen
      rw[lexLt_cons_nil]
      exact (decide_eq_false (by omega)).symm
     | cons c u hw =>
      rw[Pd] at hz
      cases hz
   rw[hv] at hR
   wp_walk
   exact ⟨_,rfl,by simpa [Builtin.Tuple.tupleCompareSizes] using hR⟩
  case h =>
   exact ⟨rfl,rfl,items.toList,items2.toList,ns,ms,rfl,hi,hj,by omega,h⟩
end
section
variable{prog:Bj}{w:World}{A:Cu}{E:Value->Aj->Prop}{s:Aj}
theorem lt_tupInts{l b:Addr}{items items2:Array Value}{ns ms:List Int}{Q:Value->Aj->Prop}(hl:IsTup s.heap l items)(hb:IsTup s.heap b items2)(hi:Ge items.toList ns)(hj:Ge items2.toList ms)(hu:A.units<cLine)(h:Q (.bool (lexLt ns ms)) s):wpAny (model prog w) A (Gi .Lt (.ref l) (.ref b)) Q E s:=by
 obtain ⟨⟨cls,dd,data,sl⟩,ho,hc,n,hd⟩:=id hl
 obtain ⟨⟨cls2,dd2,data2,sl2⟩,ho2,hc2,n2,hd2⟩:=id hb
 simp only at hc hd hc2 hd2
 subst hc hd hc2 hd2
 exact richCompare_meets_room (op:=.Lt) ⟨_,ho,rfl⟩ ⟨_,ho2,rfl⟩ PySem.F.slot_tuple_lt PySem.F.entry_tuple_lt (PySem.F.args_tuple_lt_2 _ _) (tuple_lt_ints l b items items2 n n2 dd dd2 sl sl2 ns ms hi hj)
  ⟨ho,ho2,show Value.bool (lexLt ns ms)≠Value.notImplemented/\Q (.bool (lexLt ns ms)) s from ⟨(λx=>nomatch x),h⟩⟩ hu
theorem cat_tup{t b:Addr}{vs ws:List Value}{Q:Value->Aj->Prop}(ht:IsTup s.heap t vs.toArray)(hb:IsTup s.heap b ws.toArray)(hv:vs≠[])(h1:ws=[]->Q (.ref t) s)(h2:ws≠[]->Q (.ref s.heap.objs.size) { s with heap:=s.heap.push { cls:=.type "tuple",data:=.seq (vs++ws).toArray } })(hsz:vs.length+ws.length<=Bb):wpAny (model prog w) A (Kx .Add (.ref t) (.ref b)) Q E s:=by
 obtain ⟨⟨cls,dd,data,sl⟩,ho,hc,n,hd⟩:=id ht
 obtain ⟨⟨cls2,dd2,data2,sl2⟩,ho2,hc2,n2,hd2⟩:=id hb
 simp only at hc hd hc2 hd2
 subst hc hd hc2 hd2
 have e:vs.toArray++ws.toArray=(vs++ws).toArray:=by simp
 by_cases hw:ws=[]
 ·exact concat_meets ⟨_,ho,rfl⟩ ⟨_,ho2,rfl⟩ jA seq_tuple_add PySem.F.slot_tuple_add PySem.F.entry_tuple_add (PySem.F.args_tuple_add_2 _ _)
   (tuple_addW1 t b vs.toArray ws.toArray n n2 dd dd2 sl sl2 (by simpa using hv) (by simp [hw])) ⟨ho,ho2,h1 hw⟩
 ·refine concat_meets ⟨_,ho,rfl⟩ ⟨_,ho2,rfl⟩ jA seq_tuple_add PySem.F.slot_tuple_add PySem.F.entry_tuple_add (PySem.F.args_tuple_add_2 _ _)
   (tuple_addW2 t b vs.toArray ws.toArray n n2 dd dd2 sl sl2 (by simpa using hv) (by simpa using hw) (by rw[Av,Av]; exact hsz)) ⟨ho,ho2,?_⟩
  rw[e]
  exact h2 hw
def sIx(n d:Nat):Option Int->Nat
 | none=>d
 | some v=>if v<0 then (v+(n:Int)).toNat else min v.toNat n
theorem sIx_none(n d:Nat):sIx n d none=d:=rfl
theorem sIx_nat(n d k:Nat):sIx n d (some (k:Int))=min k n:=by
 show (if (k:Int)<0 then ((k:Int)+(n:Int)).toNat else min (k:Int).toNat n)=min k n
 rw[if_neg (by omega),Dq]
theorem U7(n d:Nat)(hd:d<=n)(o:Option Int):sIx n d o<=n:=by
 cases o with
 | none=>exact hd
 | some v =>
  show (if v<0 then (v+(n:Int)).toNat else min v.toNat n)<=n
  by_cases hv:v<0
  ·rw[if_pos hv]; omega
  ·rw[if_neg hv]; exact Nat.min_le_right _ _
theorem qI(v:Int)(n d:Nat):(if v<0 then max (v+(n:Int)) 0 else min v (n:Int))=((sIx n d (some v):Nat):Int):=by
 show (if v<0 then max (v+(n:Int)) 0 else min v (n:Int))=(((if v<0 then (v+(n:Int)).toNat else min v.toNat n):Nat):Int)
 by_cases hv:v<0
 ·simp only[if_pos hv]; omega
 ·simp only[if_neg hv]; omega
theorem oR(lo hi:Option Int)(n:Nat):My lo hi 1 (n:Int)=(((sIx n 0 lo:Nat):Int),((sIx n n hi:Nat):Int)):=by
 have h1:¬ ((1:Int)<0):=by omega
 unfold My
 simp only[h1,if_false]
 refine Prod.ext ?_ ?_
 ·cases lo with
  | none=>rfl
  | some v=>exact qI v n 0
 ·cases hi with
  | none=>rfl
  | some v=>exact qI v n n
theorem oB(i j:Nat):Jk (i:Int) (j:Int) 1=j - i:=by
 unfold Jk
 have h1:(1:Int) > 0:=by omega
 simp only[h1,if_true,Int.ediv_one]
 split <;> omega
theorem bA{v:Value}{o:Option Int}{Q:Option Int->Aj->Prop}(p:Ym v o)(h:Q o s):wpAny (model prog w) A (Builtin.Slice.slicePartIndex v) Q E s:=by
 cases p with
 | none=>exact slicePart_none h
 | int i t=>exact slicePart_int h
theorem sliceApplied_gen{sl:Addr}{vl vu:Value}{lo hi:Option Int}{n:Nat}{Q:Int×Int×Nat->Aj->Prop}(hs:s.heap.IsSliceOf sl vl vu .none)(pl:Ym vl lo)(pu:Ym vu hi)(h:Q (((sIx n 0 lo:Nat):Int),1,sIx n n hi - sIx n 0 lo) s):wpAny (model prog w) A (Wk (.ref sl) (pure (n:Int))) Q E s:=by
 obtain ⟨os,hos,hcs,hds⟩:=id hs
 unfold Wk Builtin.Slice.sliceFields
 refine Ac (Ac (wpAny_field hos hds (x:=vl) rfl (Ac (wpAny_field hos hds (x:=vu) rfl (Ac (wpAny_field hos hds (x:=.none) rfl (Ap ?_)))))))
 refine Ac (slicePart_none ?_)
 show wpAny _ _ (if ((1:Int) == 0)=true then _ else _) _ _ s
 rw[if_neg (by decide)]
 refine Ac (bA pl (Ac (bA pu (Ac (Ap ?_)))))
 show wpAny _ _ (match My lo hi 1 (n:Int) with | (lo,hi)=>pure (lo,(1:Int),Jk lo hi 1)) _ _ s
 rw[oR lo hi n]
 show wpAny _ _ (pure (((sIx n 0 lo:Nat):Int),(1:Int),Jk ((sIx n 0 lo:Nat):Int) ((sIx n n hi:Nat):Int) 1)) _ _ s
 rw[oB]
 exact Ap h
theorem wQ(xs:Array Value)(i k:Nat):((Bi k).filterMap λ(m:Nat)=>xs[((i:Int)+(m:Int) * 1).toNat]?).toArray=((xs.toList.drop i).take k).toArray:=by
 have e:(λ(m:Nat)=>xs[((i:Int)+(m:Int) * 1).toNat]?)=λm=>xs[i+m]?:=by
  funext m
  have : ((i:Int)+(m:Int) * 1).toNat=i+m:=by omega
  rw[this]
 rw[e]
 have:=pick_run xs i k
 rw[List.filterMap_map] at this
 have e2:((λx=>xs[x]?) ∘ λx=>i+x)=λm=>xs[i+m]?:=rfl
 rw[e2] at this
 rw[this]
theorem getItem_tuple_cut{t sl:Addr}{items:Array Value}{vl vu:Value}{lo hi:Option Int}{Q:Value->Aj->Prop}(ht:IsTup s.heap t items)(hs:s.heap.IsSliceOf sl vl vu .none)(pl:Ym vl lo)(pu:Ym vu hi)(hw:¬ (sIx items.size 0 lo=0/\sIx items.size items.size hi=items.size))(h:Q (.ref s.heap.objs.size) { s with heap:=s.heap.push { cls:=.type "tuple",data:=.seq ((items.toList.drop (sIx items.size 0 lo)).take (sIx items.size items.size hi - sIx items.size 0 lo)).toArray } })(hsz:items.size<=Bb):wpAny (model prog w) A (Rq (.ref t) (.ref sl)) Q E s:=by
 have htake:sizeOk (.seq ((items.toList.drop (sIx items.size 0 lo)).take (sIx items.size items.size hi - sIx items.size 0 lo)).toArray):=by
  show ((items.toList.drop (sIx items.size 0 lo)).take (sIx items.size items.size hi - sIx items.size 0 lo)).toArray.size<=Bb
  rw[Av,Dg,Mp,Ah]
  omega
 have hj:sIx items.size items.size hi<=items.size:=U7 _ _ (Ai _) hi
 obtain ⟨os,hos,hcs,hds⟩:=id hs
 have hTs:s.TypeIs (.ref sl) "slice" := ⟨os,hos,hcs⟩
 unfold Rq
 try with_reducible refine Fb ?_
 first | refine Ac (Ap ?_) | skip
 refine Ac (fQ ht.typeIs (by decide) ?_)
 refine Ac (Jg (name:=Fu "__getitem__") ht.typeIs Er
  (Hs Er ht.typeIs entry_tuple_getitem ?_ (args_tuple_getitem _ _)))
 show wpAny _ _ (Wi (.ref t) >>= _) _ _ s
 refine Ac (tupleItemsOf_ ht ?_)
 refine Ac (Ld hTs ?_)
 rw[if_pos (by decide)]
 refine Ac (sliceApplied_gen hs pl pu ?_)
 have hno:¬ ((((sIx items.size 0 lo:Nat):Int) == 0 && (1:Int) == 1 && (sIx items.size items.size hi - sIx items.size 0 lo) == items.size)=true):=by
  intro q
  rw[He,He] at q
  have q1:((sIx items.size 0 lo:Nat):Int)=0:=Dx q.1.1
  have q2:sIx items.size items.size hi - sIx items.size 0 lo=items.size:=Dx q.2
  exact hw ⟨by omega,by omega⟩
 show wpAny _ _ (if (((sIx items.size 0 lo:Nat):Int) == 0 && (1:Int) == 1 && (sIx items.size items.size hi - sIx items.size 0 lo) == items.size)=true then _ else _) _ _ s
 rw[if_neg hno,wQ]
 first
  | exact Ac (m:=Fv _) (Ei (Ap ⟨_,rfl,Ap h⟩) htake)
  | exact Ac (m:=Fv _) (Ei (Ac (Ap (Ap ⟨_,rfl,Ap h⟩))) htake)
  | exact Ac (Ac (m:=Fv _) (Ei (Ap (Ap ⟨_,rfl,Ap h⟩)) htake))
  | exact Ac (Ac (m:=Fv _) (Ei (Ap ⟨_,rfl,Ap h⟩) htake))
end
end HT
namespace L2
open PySem PySem.Spec PyProof.Rows
abbrev TO:=St->Hp->(Option Int->Hp->Prop)->Prop
def PO(X:Cx)(e:Option Expr)(t:TO):Prop :=
 ∀(pins:List (Addr×Obj)) (s:Aj) (σ:St) (H:Hp) (Q:Option Int->Hp->Prop),Inv X pins σ H s->t σ H Q ->
  wpAny (model X.prog X.w) X.A (evalPart e X.env) (λu s'=>∃o H',Inv X pins σ H' s'/\Ym u o/\Q o H') X.xe s
def K2:TO:=λ_ H Q=>Q none H
def AZ(t:TE):TO:=λσ H Q=>t σ H λx H1=>∃i,x=.int i/\Q (some i) H1
theorem intsAre_of{ns:List Int}:∀{us:List Value},Fs (ns.map V.int) us->Ge us ns:=by
 induction ns with
 | nil=>intro us r; rw[Oh] at r; cases r; exact .nil
 | cons n ns ih =>
  intro us r
  rw[Ar] at r
  cases r with
  | cons r1 r2 =>
   obtain ⟨t,e⟩:=r1
   subst e
   exact .cons n t (ih r2)
section
variable{X:Cx}{e:Expr}{te:TE}{lo hi:Option Expr}{tl th:TO}{pos p2:Pos}
theorem B3:PO X none K2:=by
 intro pins s σ H Q I h
 rw[evalPart_none]
 exact Ap ⟨none,H,I,.none,h⟩
theorem E1(h:PE X e te):PO X (some e) (AZ te):=by
 intro pins s σ H Q I hw
 rw[evalPart_some]
 refine Hh (h pins s σ H _ I hw) λu s1 q0_ => ?_
 obtain ⟨x,H1,I1,r1,q1⟩ := q0_
 obtain ⟨i,rfl,q⟩:=q1
 obtain ⟨t,rfl⟩:=r1
 exact ⟨some i,H1,I1,.int i t,q⟩
def S8(X:Cx)(r:V->Option Int->Option Int->Hp->VK->Prop):Prop :=
 ∀(pins:List (Addr×Obj)) (s:Aj) (σ:St) (H:Hp) (x:V) (v vl vu:Value) (lo hi:Option Int) (sl:Addr) (Q:VK),Inv X pins σ H s->RelV x v->s.heap.IsSliceOf sl vl vu .none->Ym vl lo->Ym vu hi->r x lo hi H Q ->
  ∃T id,typeLookup (.type T) "__getitem__" = pure (some (.builtin id))/\s.TypeIs v T/\wpAny (model X.prog X.w) X.A (Rq v (.ref sl)) (EP X pins σ Q) X.xe s
theorem S8.or{r r':V->Option Int->Option Int->Hp->VK->Prop}(h:S8 X r)(h':S8 X r'):S8 X (λx lo hi H Q=>r x lo hi H Q\/r' x lo hi H Q):=by
 intro pins s σ H x v vl vu lo hi sl Q I rx hs pl pu q
 rcases q with q | q
 ·exact h pins s σ H x v vl vu lo hi sl Q I rx hs pl pu q
 ·exact h' pins s σ H x v vl vu lo hi sl Q I rx hs pl pu q
def IA(r:V->Option Int->Option Int->Hp->VK->Prop)(te:TE)(tl th:TO):TE:=λσ H Q=>te σ H λx H1=>tl σ H1 λl H2=>th σ H2 λu H3=>r x l u H3 Q
theorem kT{r:V->Option Int->Option Int->Hp->VK->Prop}(hr:S8 X r)(he:PE X e te)(hl:PO X lo tl)(hu:PO X hi th):PE X (.Subscript e (.Slice lo hi none p2) pos) (IA r te tl th):=by
 intro pins s σ H Q I h
 refine Subscript_ (Hh (he pins s σ H _ I h) λv s1 q0_ => ?_)
 obtain ⟨x,H1,I1,r1,q1⟩ := q0_
 refine wpAny_Slice (Hh (hl pins s1 σ H1 _ I1 q1) λvl s2 ⟨l,H2,I2,pl,q2⟩=>Hh (hu pins s2 σ H2 _ I2 q2) λvu s3 q0_ => ?_)
 obtain ⟨u,H3,I3,pu,q3⟩ := q0_
 rw[evalPart_none]
 refine Ap ?_
 have I4:Inv X pins σ H3 { s3 with heap:=s3.heap.push { cls:=.type "slice",data:=.fields #[vl,vu,.none] } }:=I3.kept (t':=s3.toks) λb ob q=>Aq _ q
 obtain ⟨T,id,hT,ht,hg⟩:=hr pins { s3 with heap:=s3.heap.push { cls:=.type "slice",data:=.fields #[vl,vu,.none] } } σ H3 x v vl vu l u s3.heap.objs.size Q I4 r1 (Heap.IsSliceOf.new ..) pl pu q3
 show wpAny (model X.prog X.w) X.A (subscriptTail e (.Slice lo hi none p2) v (.ref s3.heap.objs.size)) (EP X pins σ Q) X.xe { s3 with heap:=s3.heap.push { cls:=.type "slice",data:=.fields #[vl,vu,.none] } }
 exact tail_any (ops:=[.ref s3.heap.objs.size,v]) ht hT hg (by with_unfolding_all rfl)
def bQ(xs:List V)(lo hi:Option Int):List V:=(xs.drop (HT.sIx xs.length 0 lo)).take (HT.sIx xs.length xs.length hi - HT.sIx xs.length 0 lo)
theorem Xs(xs:List V)(lo hi:Option Int):(bQ xs lo hi).length<=xs.length:=by
 unfold bQ
 rw[Dg,Mp]
 omega
def GF(K:PySem.W.Frag):V->Option Int->Option Int->Hp->VK->Prop:=λx lo hi H Q=>∃a xs,x=.ref a/\Ur K H a xs /\
 ¬ (HT.sIx xs.length 0 lo=0/\HT.sIx xs.length xs.length hi=xs.length)/\∀p,H p=none->Q (.ref p) (upd H p (.tup (bQ xs lo hi)))
theorem AC:S8 X (GF X.K):=by
 intro pins s σ H x v vl vu lo hi sl Q I rx hs pl pu h
 obtain ⟨a,xs,rfl,hx,hw,q⟩:=h
 cases rx
 obtain ⟨its,r,ht,hz⟩:=I.tuple hx
 have hlen:its.toArray.size=xs.length:=by rw[Av]; exact r.length.symm
 refine ⟨"tuple",_,Er.lookup,ht.typeIs,?_⟩
 refine HT.getItem_tuple_cut ht hs pl pu (by rw[hlen]; exact hw) ?_ (by rw[hlen]; exact hz)
 rw[hlen]
 refine ⟨.ref s.heap.objs.size,_,I.laid (t':=s.toks) (o:=.tup (bQ xs lo hi)) (λb ob q=>Aq _ q) (Ai _) ?_,rfl,q _ (I.hok.fresh (Ai _))⟩
 exact ⟨Ci (Xs xs lo hi) hz,_,(r.drop (HT.sIx xs.length 0 lo)).take (HT.sIx xs.length xs.length hi - HT.sIx xs.length 0 lo),IsTup.new _ _⟩
def BP(K:PySem.W.Frag):R2:=λx y H Q=>∃a b xs ys,x=.ref a/\y=.ref b/\Ur K H a xs/\Ur K H b ys/\xs≠[]/\xs.length+ys.length<=Bb /\
 (ys=[]->Q (.ref a) H)/\(ys≠[]->∀p,H p=none->Q (.ref p) (upd H p (.tup (xs++ys))))
theorem Fs.nil_iff{xs:List V}{us:List Value}(r:Fs xs us):us=[]↔xs=[]:=by
 cases r with
 | nil=>simp
 | cons _ _=>simp
theorem x4:Wh X (Kx .Add) (BP X.K):=by
 intro pins s σ H x y v u Q I rx ry h
 obtain ⟨a,b,xs,ys,rfl,rfl,ha,hb,hx,hz,q1,q2⟩:=h
 cases rx
 cases ry
 obtain ⟨its,r1,p1,_⟩:=I.tuple ha
 obtain ⟨its2,r2,p2,_⟩:=I.tuple hb
 refine HT.cat_tup p1 p2 (λz=>hx (r1.nil_iff.mp z)) (λz=>⟨.ref a,H,I,rfl,q1 (r2.nil_iff.mp z)⟩) (λz=>?_) (by rw[<- r1.length,<- r2.length]; exact hz)
 refine ⟨.ref s.heap.objs.size,_,I.laid (t':=s.toks) (o:=.tup (xs++ys)) (λb ob q=>Aq _ q) (Ai _) ?_,rfl,q2 (λw=>z (r2.nil_iff.mpr w)) _ (I.hok.fresh (Ai _))⟩
 exact ⟨by rw[Bh]; exact hz,_,r1.append r2,IsTup.new _ _⟩
end
def uH(n:Nat)(i:Int):Option Nat:=if 0<=i then (if i<n then some i.toNat else none) else if -(n:Int)<=i then some (i+n).toNat else none
def Ue{α:Type}(xs:List α)(i:Int):Option α:=(uH xs.length i).bind λj=>xs[j]?
theorem qW{n:Nat}{i:Int}{j:Nat}(h:uH n i=some j):seqIndex? i n=some j/\j<n /\ -(n:Int)<=i/\i<n:=by
 unfold uH at h
 by_cases h0:0<=i
 ·rw[if_pos h0] at h
  by_cases h1:i<n
  ·rw[if_pos h1] at h
   have e:i.toNat=j:=Cj h
   exact ⟨by rw[seqIndex_of h0 h1,e],by omega,by omega,h1⟩
  ·rw[if_neg h1] at h; cases h
 ·rw[if_neg h0] at h
  by_cases h1:-(n:Int)<=i
  ·rw[if_pos h1] at h
   have e:(i+n).toNat=j:=Cj h
   exact ⟨by rw[seqIndex_neg (by omega) h1,e],by omega,h1,by omega⟩
  ·rw[if_neg h1] at h; cases h
theorem iU{α:Type}{xs:List α}{i:Int}{v:α}(h:Ue xs i=some v):∃j,seqIndex? i xs.length=some j/\xs[j]? = some v/\j<xs.length /\ -(xs.length:Int)<=i/\i<xs.length:=by
 unfold Ue at h
 cases e:uH xs.length i with
 | none=>rw[e] at h; cases h
 | some j =>
  rw[e] at h
  obtain ⟨h1,h2,h3,h4⟩:=qW e
  exact ⟨j,h1,h,h2,h3,h4⟩
theorem fZ{α:Type}{xs:List α}{j:Nat}{v:α}(h:xs[j]? = some v):Ue xs (j:Int)=some v:=by
 have hj:j<xs.length:=(An.mp h).1
 have e:uH xs.length (j:Int)=some j:=by
  unfold uH
  rw[if_pos (by omega),if_pos (by omega)]; simp
 unfold Ue; rw[e]; exact h
theorem lX{α:Type}(xs:List α)(v:α):Ue (xs++[v]) (-1)=some v:=by
 have hl:(xs++[v]).length=xs.length+1:=by simp
 have e:uH (xs++[v]).length (-1)=some xs.length:=by
  unfold uH
  rw[hl,if_neg (by decide),if_pos (by omega)]
  congr 1
  omega
 unfold Ue
 rw[e]
 show (xs++[v])[xs.length]? = some v
 simp
def gC(b:Expr):Prop:=∀o i,subscripted b false o i=operate [o,i] (Rq o i)
def o9(X:Cx)(r:R2):Prop :=
 ∀(value slice:Expr) (pins:List (Addr×Obj)) (s:Aj) (σ:St) (H:Hp) (x y:V) (v u:Value) (Q:VK),Inv X pins σ H s->RelV x v->RelV y u->r x y H Q ->
  subscripted slice false v u=operate [v,u] (Rq v u)->wpAny (model X.prog X.w) X.A (subscriptTail value slice v u) (EP X pins σ Q) X.xe s
def HY(X:Cx)(id:String)(r:V->List V->Hp->VK->Prop):Prop :=
 ∀(pins:List (Addr×Obj)) (s:Aj) (σ:St) (H:Hp) (x:V) (xs:List V) (v:Value) (us:List Value) (Q:VK),Inv X pins σ H s->RelV x v->Fs xs us->r x xs H Q ->
  wpAny (model X.prog X.w) X.A (call (.builtin id) (v::us)) (EP X pins σ Q) X.xe s
section
variable{X:Cx}{a b:Expr}{ta tb:TE}{pos:Pos}
theorem o9.or{r r':R2}(h:o9 X r)(h':o9 X r'):o9 X (λx y H Q=>r x y H Q\/r' x y H Q):=by
 intro value slice pins s σ H x y v u Q I rx ry q hs
 rcases q with q | q
 ·exact h value slice pins s σ H x y v u Q I rx ry q hs
 ·exact h' value slice pins s σ H x y v u Q I rx ry q hs
theorem Yg{r:R2}(hr:o9 X r)(ha:PE X a ta)(hb:PE X b tb)(hs:gC b):PE X (.Subscript a b pos) (ES r ta tb):=by
 intro pins s σ H Q I h
 exact Subscript_ (T2 ha hb I h λv u s2 x y H2 I2 rx ry q=>hr a b pins s2 σ H2 x y v u Q I2 rx ry q (hs _ _))
def EH(K:PySem.W.Frag):R2:=λx y H Q=>∃p xs i v,x=.ref p/\y=.int i/\Ud K H p xs/\Ue xs i=some v/\Q v H
def Y6(K:PySem.W.Frag):R2:=λx y H Q=>∃p xs i v,x=.ref p/\y=.int i/\Ur K H p xs/\Ue xs i=some v/\Q v H
def CY:R2:=λx y H Q=>∃z i c,x=.str z/\y=.int i/\z.length<=Bb/\Ue z.cps.toList i=some c/\Q (.str ⟨#[c]⟩) H
theorem Rw:o9 X (EH X.K):=by
 intro value slice pins s σ H x y v u Q I rx ry h hs
 obtain ⟨p,xs,i,z,rfl,rfl,hq,he,q⟩:=h
 cases rx
 obtain ⟨t,rfl⟩:=ry
 obtain ⟨its,r,pl,hz⟩:=I.list hq
 obtain ⟨j,h1,h2,h3,h4,h5⟩:=iU he
 obtain ⟨w,ew,rw'⟩:=r.get h2
 have hl:=r.length
 have hn:=Xg
 have fin:EP X pins σ Q w s:=⟨z,H,I,rw',q⟩
 by_cases h0:0<=i
 ·have hj:i.toNat=j:=by
   rw[seqIndex_of h0 h5] at h1
   exact Cj h1
  exact item_listR pl.isList h0 (by omega) (by rw[hj]; simpa using ew) fin hs
 ·have hj:(i+(its.toArray.size:Int)).toNat=j:=by
   rw[seqIndex_neg (by omega) h4] at h1
   rw[Av,<- hl]
   exact Cj h1
  exact o8 (x:=w) pl.isList.typeIs ET.lookup
   (wpAny_getItem_list_neg (Q:=λr s'=>r=w/\EP X pins σ Q r s') pl.isList (by omega) (by rw[Av] <;> omega) (by omega) (by rw[hj]; simpa using ew) ⟨rfl,fin⟩) hs
theorem U0:o9 X (Y6 X.K):=by
 intro value slice pins s σ H x y v u Q I rx ry h hs
 obtain ⟨p,xs,i,z,rfl,rfl,hq,he,q⟩:=h
 cases rx
 obtain ⟨t,rfl⟩:=ry
 obtain ⟨its,r,pl,hz⟩:=I.tuple hq
 obtain ⟨j,h1,h2,h3,h4,h5⟩:=iU he
 obtain ⟨w,ew,rw'⟩:=r.get h2
 have hl:=r.length
 have hn:=Xg
 have fin:EP X pins σ Q w s:=⟨z,H,I,rw',q⟩
 exact o8 (x:=w) pl.typeIs slot_tuple_getitem.lookup
  (getItem_tuple (j:=j) (Q:=λr s'=>r=w/\EP X pins σ Q r s') pl (by omega) (by omega) (by rw[Av,<- hl]; exact h1) (by simpa using ew) ⟨rfl,fin⟩) hs
theorem Q6:o9 X CY:=by
 intro value slice pins s σ H x y v u Q I rx ry h hs
 obtain ⟨z,i,c,rfl,rfl,hz,he,q⟩:=h
 obtain ⟨t,rfl⟩:=rx
 obtain ⟨t',rfl⟩:=ry
 obtain ⟨j,h1,h2,h3,h4,h5⟩:=iU he
 have hl:z.cps.toList.length=z.length:=by simp [Str.length]
 rw[hl] at h1 h4 h5
 have hn:=Xg
 exact tail_any (typeIs_str s z t) slot_str_getitem.lookup (getItem_str (c:=c) (by
  have e1:decide (i < -(2 ^ 63:Int))=false:=decide_eq_false (by omega)
  have e2:decide (i ≥ 2 ^ 63)=false:=decide_eq_false (by omega)
  rw[e1,e2,Bool.or_false]) (by rw[h1]; simpa using h2) ⟨.str ⟨#[c]⟩,H,I.tok _,⟨_,rfl⟩,q⟩) hs
def HU(K:PySem.W.Frag):R2:=λx y H Q=>EH K x y H Q\/Y6 K x y H Q\/CY x y H Q
theorem Z0:o9 X (HU X.K):=Rw.or (U0.or Q6)
theorem pB(its:List Value)(n j:Nat)(u:Value):Ki (·.setIfInBounds j u) { cls:=.type "list",data:=.seq its.toArray n }={ cls:=.type "list",data:=.seq (its.set j u).toArray n }:=by
 simp [Ki]
theorem Inv.lst{pins:List (Addr×Obj)}{σ:St}{H:Hp}{s:Aj}{p:Addr}{xs:List V}(I:Inv X pins σ H s)(h:H p=some (.lst xs)):∃(its:List Value) (n:Nat),Fs xs its/\s.heap.get? p=some { cls:=.type "list",data:=.seq its.toArray n }/\xs.length<=Bb:=by
 obtain ⟨z,its,n,r,e⟩:=I.hok p _ h
 exact ⟨its,n,r,e,z⟩
theorem Inv.lstUpd{pins:List (Addr×Obj)}{σ:St}{H:Hp}{s:Aj}{p:Addr}{xs ys:List V}{its its':List Value}{n n':Nat}{f:Obj->Obj}(I:Inv X pins σ H s)(h:H p=some (.lst xs))(ho:s.heap.get? p=some { cls:=.type "list",data:=.seq its.toArray n })(hf:f { cls:=.type "list",data:=.seq its.toArray n }={ cls:=.type "list",data:=.seq its'.toArray n' })(r:Fs ys its')(hz:ys.length<=Bb)(t:Nat):Inv X pins σ (upd H p (.lst ys)) { s with heap:=s.heap.update p f,toks:=t }:=by
 have e:(s.heap.update p f).get? p=some { cls:=.type "list",data:=.seq its'.toArray n' }:=by
  rw[Ho f ho (by rw[hf] <;> rfl),hf]
 refine I.write (x:=p) (e:=p) (by rw[h]; trivial) (.inl rfl) (λb u hb q=>(pM _ _ (Nm hb)).trans q) ⟨_,e⟩ ?_
 exact ⟨hz,its',n',r,e⟩
def EM:V->V->V->Hp->(Hp->Prop)->Prop:=λo i v H Q=>∃p xs k j,o=.ref p/\i=.int k/\H p=some (.lst xs)/\uH xs.length k=some j/\Q (upd H p (.lst (xs.set j v)))
theorem lF:CK X EM:=by
 intro pins s σ H o i v ov iv u Q I ro ri rv h
 obtain ⟨p,xs,k,j,rfl,rfl,hp,hj,q⟩:=h
 cases ro
 obtain ⟨t,rfl⟩:=ri
 obtain ⟨its,n,r,ho,hz⟩:=I.lst hp
 obtain ⟨h1,h2,h3,h4⟩:=qW hj
 have hl:=r.length
 have hn:=Xg
 have I':Inv X pins σ (upd H p (.lst (xs.set j v))) { s with heap:=s.heap.update p (Ki (·.setIfInBounds j u)) } :=
  I.lstUpd hp ho (pB its n j u) (r.set rv j) (by rw[List.length_set]; exact hz) s.toks
 by_cases h0:0<=k
 ·have hk:k.toNat=j:=by
   rw[seqIndex_of h0 h4] at h1
   exact Cj h1
  exact PySem.W.ki_setAt ho h0 (by omega) (by rw[Av,<- hl]; exact h4) (by rw[hk]; exact ⟨_,I',q⟩)
 ·have hk:(k+(its.toArray.size:Int)).toNat=j:=by
   rw[seqIndex_neg (by omega) h3] at h1
   rw[Av,<- hl]
   exact Cj h1
  exact PySem.W.ki_setBack ho (by omega) (by rw[Av,<- hl]; exact h3) (by omega) (by rw[hk]; exact ⟨_,I',q⟩)
theorem iG(lo hi:Option Int)(n:Nat):(Ov lo hi none n).1=((HT.sIx n 0 lo:Nat):Int)/\(Ov lo hi none n).2.1=((HT.sIx n n hi:Nat):Int)/\(Ov lo hi none n).2.2=1:=by
 refine ⟨?_,?_,rfl⟩
 ·cases lo with
  | none=>simp [Ov,HT.sIx]
  | some i =>
   simp only[Ov,HT.sIx,Option.getD_none,show (1:Int) > 0 by decide,if_true]
   by_cases h:i<0
   ·simp only[h,if_true] <;> omega
   ·simp only[h,if_false] <;> omega
 ·cases hi with
  | none=>simp [Ov,HT.sIx]
  | some i =>
   simp only[Ov,HT.sIx,Option.getD_none,show (1:Int) > 0 by decide,if_true]
   by_cases h:i<0
   ·simp only[h,if_true] <;> omega
   ·simp only[h,if_false] <;> omega
theorem cY(its:List Value)(lo hi:Option Int):slicePick its.toArray lo hi none=((its.drop (HT.sIx its.length 0 lo)).take (HT.sIx its.length its.length hi - HT.sIx its.length 0 lo)).toArray:=by
 obtain ⟨h1,h2,h3⟩:=iG lo hi its.toArray.size
 unfold slicePick
 rw[h1,h2,h3]
 simp only[sliceRange_one,pick_run,Av] <;> rfl
def T1(K:PySem.W.Frag):V->Option Int->Option Int->Hp->VK->Prop:=λx lo hi H Q=>∃a xs,x=.ref a/\Ud K H a xs/\∀p,H p=none->Q (.ref p) (upd H p (.lst (bQ xs lo hi)))
theorem B7:S8 X (T1 X.K):=by
 intro pins s σ H x v vl vu lo hi sl Q I rx hs pl pu h
 obtain ⟨a,xs,rfl,hx,q⟩:=h
 cases rx
 obtain ⟨its,r,ht,hz⟩:=I.list hx
 have hlen:=r.length
 refine ⟨"list",_,ET.lookup,ht.isList.typeIs,?_⟩
 refine wpAny_getItem_list_slice ht.isList hs pl pu .none (by simp) ?_ (by rw[Av] <;> omega)
 rw[cY,<- hlen]
 refine ⟨.ref s.heap.objs.size,_,I.laid (t':=s.toks) (o:=.lst (bQ xs lo hi)) (λb ob q=>Aq _ q) (Ai _) ?_,rfl,q _ (I.hok.fresh (Ai _))⟩
 exact ⟨Ci (Xs xs lo hi) hz,_,0,(r.drop (HT.sIx xs.length 0 lo)).take (HT.sIx xs.length xs.length hi - HT.sIx xs.length 0 lo),Bs _ rfl⟩
theorem gD:Kr X (.type "list") (λxs H Q=>∃p ys,xs=[.ref p]/\(Ud X.K H p ys\/Ur X.K H p ys)/\∀l,H l=none->Q (.ref l) (upd H l (.lst ys))):=by
 intro pins s σ H xs us Q I r h
 obtain ⟨p,ys,rfl,hq,q⟩:=h
 obtain ⟨u,rfl,rx⟩:=vals1 r
 cases rx
 have fin:∀(its:List Value),Fs ys its->ys.length<=Bb->∀(h':Heap) (c':Nat),(∀b o',s.heap.get? b=some o'->h'.get? b=some o') ->
   h'.get? s.heap.objs.size=some { cls:=.type "list",dict:=none,data:=.seq its.toArray c',slots:=#[] }->EP X pins σ Q (.ref s.heap.objs.size) { s with heap:=h' }:=λits r' hz h' c' kp e =>
  ⟨.ref s.heap.objs.size,_,I.laid (t':=s.toks) kp (Ai _) (show Gu X.prog X.w _ h' _ (.lst ys) from ⟨hz,its,c',r',e⟩),rfl,q _ (I.hok.fresh (Ai _))⟩
 rcases hq with hq | hq
 ·obtain ⟨its,r',pl,hz⟩:=I.list hq
  have hlen:=r'.length
  obtain ⟨o,ho,hc,n,hd⟩:=pl.isList
  exact call_list_seq p (.inl rfl) ho hc hd (λh' c' kp e=>fin its r' hz h' c' kp e) (by simp only[Av] <;> omega)
 ·obtain ⟨its,r',pl,hz⟩:=I.tuple hq
  have hlen:=r'.length
  obtain ⟨o,ho,hc,n,hd⟩:=pl
  exact call_list_seq p (.inr rfl) ho hc hd (λh' c' kp e=>fin its r' hz h' c' kp e) (by simp only[Av] <;> omega)
theorem dP:Kr X (.type "tuple") (λxs H Q=>∃p ys,xs=[.ref p]/\((Ud X.K H p ys/\∀l,H l=none->Q (.ref l) (upd H l (.tup ys)))\/(Ur X.K H p ys/\Q (.ref p) H))):=by
 intro pins s σ H xs us Q I r h
 obtain ⟨p,ys,rfl,h⟩:=h
 obtain ⟨u,rfl,rx⟩:=vals1 r
 cases rx
 rcases h with ⟨hq,q⟩ | ⟨hq,q⟩
 ·obtain ⟨its,r',pl,hz⟩:=I.list hq
  have hlen:=r'.length
  refine call_tuple_list pl.isList (λh' kp=>?_) (by simp only[Av] <;> omega)
  have I1:Inv X pins σ H { s with heap:=h' }:=I.kept (t':=s.toks) kp
  have I2:Inv X pins σ (upd H h'.objs.size (.tup ys)) { s with heap:=h'.push { cls:=.type "tuple",data:=.seq its.toArray } } :=
   I1.laid (t':=s.toks) (λb o e=>Aq _ e) (Ai _) (show Gu X.prog X.w _ _ _ (.tup ys) from ⟨hz,its,r',IsTup.new _ _⟩)
  exact ⟨.ref h'.objs.size,_,I2,rfl,q _ (I1.hok.fresh (Ai _))⟩
 ·obtain ⟨its,r',pl,hz⟩:=I.tuple hq
  exact call_tuple_same pl ⟨.ref p,H,I,rfl,q⟩
def HS(K:PySem.W.Frag)(T:String)(x:V)(H:Hp):Prop:=match x with
 | .str _=>T = "str"
 | .int _=>T = "int"
 | .ref p=>(T = "list" /\ ∃xs,Ud K H p xs)\/(T = "tuple" /\ ∃o,K.lookup p=some o/\o.cls=.type "tuple" /\ o.dict=none) \/
   (T = "dict" /\ ((∃kvs,H p=some (.dK kvs))\/∃kvs,H p=some (.dT kvs)))\/(T = "set" /\ ∃S n,H p=some (.set S n))
 | _=>False
theorem X1{pins:List (Addr×Obj)}{σ:St}{H:Hp}{s:Aj}{T:String}{x:V}{v:Value}(I:Inv X pins σ H s)(r:RelV x v)(ty:HS X.K T x H):s.TypeIs v T/\∀a,v=.ref a->∃ob,s.heap.get? a=some ob/\ob.dict=none:=by
 cases x with
 | str z =>
  obtain ⟨t,rfl⟩:=r
  cases (show T = "str" from ty)
  exact ⟨typeIs_str s z t,λ_ e=>nomatch e⟩
 | int i =>
  obtain ⟨t,rfl⟩:=r
  cases (show T = "int" from ty)
  exact ⟨typeIs_int s i t,λ_ e=>nomatch e⟩
 | ref p =>
  cases r
  rcases ty with ⟨rfl,xs,hq⟩ | ⟨rfl,o,hk,hc,hd⟩ | ⟨rfl,hk⟩ | ⟨rfl,S,n,hk⟩
  ·obtain ⟨its,_,pl,_⟩:=I.list hq
   refine ⟨pl.isList.typeIs,λa e=>?_⟩
   cases e
   obtain ⟨o,n,e,c,hd,_⟩:=pl
   exact ⟨o,e,hd⟩
  ·refine ⟨⟨o,I.kIn p o hk,hc⟩,λa e=>?_⟩
   cases e
   exact ⟨o,I.kIn _ o hk,hd⟩
  ·have z:∃o,s.heap.get? p=some o/\o.ExactDict:=by
    rcases hk with ⟨kvs,hk⟩ | ⟨kvs,hk⟩
    ·obtain ⟨_,_,_,_,o,_,_,e,ex,_⟩:=I.hok p _ hk
     exact ⟨o,e,ex⟩
    ·obtain ⟨_,_,_,_,o,_,_,e,ex,_⟩:=I.hok p _ hk
     exact ⟨o,e,ex⟩
   obtain ⟨o,e,ex⟩:=z
   refine ⟨⟨o,e,ex.1⟩,λa e2=>?_⟩
   cases e2
   exact ⟨o,e,ex.2.1⟩
  ·obtain ⟨o,_,_,_,e,ex,_⟩:=I.hok p _ hk
   refine ⟨⟨o,e,ex.1⟩,λa e2=>?_⟩
   cases e2
   exact ⟨o,e,ex.2.1⟩
 | _=>exact Kd ty
def IF(K:PySem.W.Frag)(T:String)(r:V->List V->Hp->VK->Prop)(to:TE)(t:TA):TE:=λσ H Q=>to σ H λx H1=>HS K T x H1/\t σ H1 λxs H2=>r x xs H2 Q
variable{o e:Expr}{es:List Expr}{to:TE}{t:TA}{name:Str}{apos cpos:Pos}{T id:String}{r:V->List V->Hp->VK->Prop}
theorem O4(pa:PlainAttrs T)(slot:Slot T name id)(hty:typeOf (.builtin id)=pure (.type "method_descriptor"))(hm:HY X id r)(ho:PE X o to)(ha:PA X (e::es) t)
  (hbase:Ta o name X.env (eval o X.env)=eval o X.env:=by rfl)
  (hfew:((Iq cpos (By (e::es) X.env)).all (λx=>!x.1) && (backToKw cpos (Yi [] X.env)).all (λx=>x.1.isSome)
   && decide ((e::es).length+([]:List Ru).length+(if ([]:List Ru).isEmpty then 0 else 1)<30))=true:=by rfl)
  (hline:(apos.endLine == cpos.line)=true:=by rfl) (hs:By (e::es) X.env=(false,eval e X.env)::By es X.env:=by rfl) (hplain:(Iq cpos (By es X.env)).any (·.1)=false:=by rfl) :
  PE X (.Call (.Attribute o name apos) (e::es) [] cpos) (IF X.K T r to t):=by
 intro pins s σ H Q I h
 refine wpAny_Call_method_late hbase hfew hline rfl (Hh (ho pins s σ H _ I h) λv s1 q0_ => ?_)
 obtain ⟨x,H1,I1,r1,ty,q1⟩ := q0_
 obtain ⟨h1,h2⟩:=X1 I1 r1 ty
 refine ⟨T,id,pa,slot,hty,h1,h2,?_⟩
 have hA:=ha cpos pins s1 σ H1 _ I1 q1
 rw[hs] at hA ⊢
 refine Calls.callWith_builtin (by show (false || (Iq cpos (By es X.env)).any (·.1))=false; rw[hplain] <;> rfl) (Calls.evalArgs_plain ?_)
 exact Hh hA λus s2 ⟨vs,H2,I2,r2,q2⟩=>hm pins s2 σ H2 x vs v us Q I2 r1 r2 q2
end
def HD(X:Cx)(id:String)(r:V->List V->Hp->VK->Prop):Prop :=
 ∀(pins:List (Addr×Obj)) (s:Aj) (σ:St) (H:Hp) (x:V) (xs:List V) (v:Value) (us:List Value) (Q:VK),Inv X pins σ H s->RelV x v->Fs xs us->r x xs H Q ->
  wpAny (model X.prog X.w) X.A (call (.builtin id) (v::us)) (EP X pins σ Q) X.xe s
theorem Fs.one:∀{x:V} {us:List Value},Fs [x] us->∃u,us=[u]/\RelV x u
 | _,_,.cons r .nil=>⟨_,rfl,r⟩
section
variable{X:Cx}{pins:List (Addr×Obj)}{σ:St}{H:Hp}{s:Aj}{l b:Addr}{xs ys zs:List V}
theorem Inv.lset{its its':List Value}{n:Nat}{f:Array Value->Array Value}{t':Nat}(I:Inv X pins σ H s)(hH:H l=some (.lst xs))(e:s.heap.get? l=some { cls:=.type "list",data:=.seq its.toArray n })(hf:f its.toArray=its'.toArray)(hv:Fs ys its')(hz:ys.length<=Bb):Inv X pins σ (upd H l (.lst ys)) { s with heap:=s.heap.update l (Ki f),toks:=t' }:=by
 have q:=PySem.IsL.update e f
 rw[hf] at q
 refine I.write (x:=l) (e:=l) (by rw[hH]; exact trivial) (.inl rfl) (λb' u hb hu=>(pM s.heap (Ki f) (Nm hb)).trans hu) ⟨_,q⟩ ?_
 exact ⟨hz,its',_,hv,q⟩
theorem Inv.lnew{its:List Value}{t':Nat}(I:Inv X pins σ H s)(hv:Fs ys its)(hz:ys.length<=Bb):Inv X pins σ (upd H s.heap.objs.size (.lst ys)) { s with heap:=s.heap.push { cls:=.type "list",data:=.seq its.toArray },toks:=t' } :=
 I.laid (λ_ _ q=>Aq _ q) (Ai _) ⟨hz,its,0,hv,Bs _ rfl⟩
theorem Inv.fresh(I:Inv X pins σ H s):H s.heap.objs.size=none:=I.hok.fresh (Ai _)
theorem Inv.lstM(I:Inv X pins σ H s)(hH:H l=some (.lst xs)):xs.length<=Bb/\∃(its:List Value) (n:Nat),Fs xs its/\xs.length=its.length/\s.heap.get? l=some { cls:=.type "list",data:=.seq its.toArray n }:=by
 obtain ⟨z,its,n,r,e⟩:=I.hok l _ hH
 exact ⟨z,its,n,r,r.length,e⟩
theorem vT{n:Nat}(h:n<=Bb):Of n=false:=by
 unfold Of
 exact decide_eq_false (by omega)
end
section
variable{X:Cx}
def A8:V->List V->Hp->VK->Prop:=λx vs H Q=>∃l xs y,x=.ref l/\vs=[y]/\H l=some (.lst xs)/\xs.length<Bb/\Q .non (upd H l (.lst (xs++[y])))
theorem Po:HD X "list.append" A8:=by
 intro pins s σ H x vs v us Q I rx rv h
 obtain ⟨l,xs,y,rfl,rfl,hH,hz,q⟩:=h
 cases rx
 obtain ⟨u,rfl,ru⟩:=rv.one
 obtain ⟨z,its,n,r,hl,e⟩:=I.lstM hH
 refine call_meets F.slot_list_append ⟨_,e,rfl⟩ F.entry_list_append (F.args_list_append_2 _ _) (PySem.list_append l its.toArray n u (by rw[Av]; omega)) ⟨e,?_⟩
 refine ⟨.non,_,I.lset (its':=its++[u]) hH e (by simp) (r.append (.cons ru .nil)) ?_,rfl,q⟩
 rw[Bh,Mj]
 omega
def L4:V->List V->Hp->VK->Prop:=λx vs H Q=>∃l b xs zs,x=.ref l/\vs=[.ref b]/\H l=some (.lst xs)/\H b=some (.lst zs)/\xs.length+zs.length<=Bb/\Q .non (upd H l (.lst (xs++zs)))
theorem AI:HD X "list.extend" L4:=by
 intro pins s σ H x vs v us Q I rx rv h
 obtain ⟨l,b,xs,zs,rfl,rfl,hH,hB,hz,q⟩:=h
 cases rx
 obtain ⟨u,rfl,ru⟩:=rv.one
 cases ru
 obtain ⟨z,its,n,r,hl,e⟩:=I.lstM hH
 obtain ⟨z2,its2,n2,r2,hl2,e2⟩:=I.lstM hB
 have hsz:its.toArray.size+its2.toArray.size<=Bb:=by rw[Av,Av]; omega
 have hlong:¬ (!its.toArray.isEmpty && Of (its.toArray.size+its2.toArray.size))=true:=by
  rw[vT hsz,Uv]
  exact Cp
 refine call_meets F.slot_list_extend ⟨_,e,rfl⟩ F.entry_list_extend (F.args_list_extend_2 _ _)
  (AutoSeq1.list_extend_list_list_0 l its.toArray n b its2.toArray n2 hlong (by rw[Av]; omega) (by omega)) ⟨e,e2,?_⟩
 refine ⟨.non,_,I.lset (its':=its++its2) hH e (by simp) (r.append r2) ?_,rfl,q⟩
 rw[Bh]
 omega
def Y5:R2:=λx y H Q=>∃l b xs zs,x=.ref l/\y=.ref b/\H l=some (.lst xs)/\H b=some (.lst zs)/\xs.length+zs.length<=Bb/\∀p,H p=none->Q (.ref p) (upd H p (.lst (xs++zs)))
theorem zB:Wh X (Kx .Add) Y5:=by
 intro pins s σ H x y v u Q I rx ry h
 obtain ⟨l,b,xs,zs,rfl,rfl,hH,hB,hz,q⟩:=h
 cases rx
 cases ry
 obtain ⟨z,its,n,r,hl,e⟩:=I.lstM hH
 obtain ⟨z2,its2,n2,r2,hl2,e2⟩:=I.lstM hB
 refine PySem.P.add_list e e2 ?_ (by rw[Av,Av]; omega)
 have ea:its.toArray++its2.toArray=(its++its2).toArray:=by simp
 rw[ea]
 exact ⟨.ref _,_,I.lnew (t':=s.toks) (r.append r2) (by rw[Bh]; omega),rfl,q _ I.fresh⟩
end
end L2
namespace Att
open PySem PySem.W PySem.Calls PyProof.Rows
theorem Za{P:Params}{h:Heap}:∀(ns:List Int) (vs:List Value),WellAll P h vs (ns.map WData.int)->Ge vs ns:=by
 intro ns
 induction ns with
 | nil =>
  intro vs w
  rw[Oh] at w
  cases w
  exact .nil
 | cons n ns ih =>
  intro vs w
  rw[Ar] at w
  cases w with
  | cons a b =>
   cases a
   exact .cons _ _ (ih _ b)
theorem tG{l:OpenLaw}{n:Nat}(hn:l.most=some n){P:Params}{h:Heap}{args:List WData}{vals:List Value}(hpre:l.row.toRowW.claim.pre args=true)(hwl:WellAll P h vals args):∃a vs ns,vals=[Au a]/\args=[WData.list (ns.map WData.int)]/\h.get? a=some { cls:=.type "list",data:=.seq vs.toArray }/\Ge vs ns/\ns.length<=n:=by
 have hsh:WShape.hasAll [] args [.list .int]=true:=(pre_splitW hpre).1
 have hc:l.pre.holds [] { args:=args }=true:=(pre_splitW hpre).2
 obtain ⟨d,r,rfl,h1,h2⟩:=hasAllW_cons hsh
 obtain rfl:=hasAllW_nil h2
 obtain ⟨xs,rfl,h3⟩:=hasW_list h1
 obtain ⟨ns,rfl⟩:=items_int h3
 have hlen:ns.length<=n:=by
  unfold OpenLaw.pre at hc
  have h4:(WTm.not (.lt (.lit (.int (n:Int))) (.len (.arg 0)))).holds [] { args:=[.list (ns.map .int)] }=true:=by
   have h4:=(holds_andW hc).1
   rw[hn] at h4
   exact h4
  have h5:=condW_of h4 (w_not (w_lt w_lit (w_len_list (w_arg rfl))))
  rw[Ab] at h5
  refine Nat.le_of_not_lt λq=>?_
  have q':(n:Int)<((ns.length:Nat):Int):=by omega
  first
   | (rw[decide_eq_true q'] at h5; exact absurd h5 (by decide))
   | (simp at h5; omega)
 cases hwl with
 | cons w1 w2 =>
  cases w2
  cases w1 with
  | list ho hall=>exact ⟨_,_,ns,rfl,rfl,ho,Za ns _ hall,hlen⟩
theorem uA(l:OpenLaw)(args:List WData):l.row.toRowW.claim.post args (.bool true) args=true :=
 postW_of (r:=l.row.toRowW) (X:=(true == true))
  (show WShape.has [] (.bool true) .bool=true by first | rfl | decide | simp [WShape.has,WShape.arms,WShape.armsAll])
  (show (WTm.eq .res (.lit (.bool true))).value [] { args:=args,res:=some (.bool true),after:=args }=some (.bool (true == true)) from w_eq_bool (w_res rfl) w_lit) rfl
theorem attach_call{l:OpenLaw}{n:Nat}{q:Bj}{loose:List Str}{XP:(Str->Option Value)->Heap->Prop}{YP:World->Heap->Prop}{d:DefRec}(hn:l.most=some n)(hdf:d.params.defaults=[])(call:∀(w:World) (s₀ s₁:Aj) (mg mb:Str->Option Value) (fa:Addr) (o:Obj) (pm cd doc:Value) (a:Addr) (vs:List Value) (ns:List Int),Ground q loose [] XP w s₀ mg mb s₁.heap->YP w s₁.heap->s₁.heap.get? fa=some o->o.data=.func (docDef d.name d.params d.body d.scope pm cd doc)->s₁.heap.CodeRec cd d.name->mg d.name=some (.ref fa)->s₁.heap.get? a=some { cls:=.type "list",data:=.seq vs.toArray }->Ge vs ns->ns.length<=n->s₁.gens=#[]->Mv (model l.prog w) Zc (.call (.ref fa) ⟨[.ref a],[]⟩) (λr s'=>r=.ok (.ret (.bool true))/\OldK s₁.heap s'.heap/\s'.os=s₁.os/\Rv s'.gens) s₁):WalkO q loose XP YP l.row.toRowW d [] (λf vs=>PySem.call f vs):=by
 intro w s₀ s₁ mg mb G Y fa o pm cd doc dV kV ho hd hcd hD hmg hg args vals as hpre hlay hrd hwl hlo
 obtain rfl:dV=.none:=Dflts.none hD hdf
 obtain rfl:kV=.none:=Dflts.noKw hD
 obtain ⟨a,vs,ns,rfl,rfl,hobj,hints,hlen⟩:=tG hn hpre hwl
 refine enter_call (Px (call w s₀ s₁ mg mb fa o pm cd doc a vs ns G Y ho (fd_plain hd) hcd hmg hobj hints hlen hg) λr s' hq=>?_)
 obtain ⟨rfl,h2,h3,h4⟩:=hq
 exact ⟨.inl ⟨.bool true,.bool true,[],rfl,λ_=>rfl,.bool true,uA l _,λ_=>⟨Fg,λ_ hm=>(nomatch hm)⟩⟩,h2,h3,h4⟩
end Att
namespace L2
open PySem PySem.Spec PyProof.Rows
theorem eL:∀{vs:List Value} {ns:List Int},Ge vs ns->Fs (ns.map V.int) vs
 | _,_,.nil=>.nil
 | _,_,.cons n t h=>.cons ⟨t,rfl⟩ (eL h)
def Ou(s:Stmt):Arguments:=match s with
 | .FunctionDef _ a _ _ _ _ _ _ _ _=>a
 | _=>{ posonlyargs:=[],args:=[],vararg:=none,kwonlyargs:=[],kw_defaults:=[],kwarg:=none,defaults:=[] }
def Jd(s:Stmt):List Stmt:=match s with
 | .FunctionDef _ _ b _ _ _ _ _ _ _=>b
 | _=>[]
def Bq(s:Stmt):Scope:=match s with
 | .FunctionDef _ _ _ _ _ _ sc _ _ _=>sc
 | _=>{ kind:=.function,names:=[],isGenerator:=false,isCoroutine:=false }
abbrev Hn:qA:=λ_ _ _ _ _ _=>False
abbrev E0:XK:=λ_ _ _=>False
theorem Fd{X:Cx}:Oy Hn X E0:=λ_ _ _ _ _ _ _ h=>h.elim
structure Fun(K:PySem.W.Frag)(x qual:Str)(st:Stmt)(f:Addr)(fd:Cq):Prop where
 ex:∃(oc:Value) (od:Option Addr) (kV doc pm:Value) (an:Option Addr) (cdv ct:Value) (osl:Array (Option Value)),
  fd=PySem.W.fnOf x qual (Ou st) (Jd st) (Bq st) .none kV doc pm an cdv ct/\K.lookup f=some ⟨oc,od,.func fd,osl⟩/\PySem.W.codeIn K cdv qual=true
 kp:PySem.W.keepIn K (.ref f)=true
section
variable{P:Bj}{w:World}{K:PySem.W.Frag}{mg:Str->Option Value}{base:Heap}
theorem Fun.ok{x qual:Str}{st:Stmt}{f:Addr}{fd:Cq}{N ps:List Str}{k:Nat}{sp:Sp}(F:Fun K x qual st f fd)(S:FnScope N ps (Bq st))(len:∀vs H Q E,sp vs H Q E->vs.length=ps.length)(hbody:∀(cdv:Value) (A:Cu) (outer:List Env) (s:Aj) (H:Hp) (vs:List V) (Q:VK) (E:XK),Room k (A.deeper (Pf qual (Bq st) s.heap.objs.size f cdv))->sp vs H Q E->∃t,pJ (Me Hn P w K mg base N qual (Bq st) f cdv A outer s H E).nox (Jd st) t/\t { nx:=λ_ H'=>Q .non H',rt:=Q } (start N vs) H):FnOk P w K mg base Hn (k+1) f fd ps sp:=by
 obtain ⟨oc,od,kV,doc,pm,an,cdv,ct,osl,rfl,lk,hcd⟩:=F.ex
 refine BX lk hcd S len λA outer s H vs Q E hr hsp=>?_
 obtain ⟨t,h,q⟩:=hbody cdv A outer s H vs Q E hr hsp
 exact ⟨t,h.nox,q⟩
theorem Fun.binds{x qual:Str}{st:Stmt}{f:Addr}{fd:Cq}{ps:List Str}(F:Fun K x qual st f fd)(h:∀(kV doc pm:Value) (an:Option Addr) (cdv ct:Value) (us:List Value),us.length=ps.length->bindArgs (PySem.W.fnOf x qual (Ou st) (Jd st) (Bq st) .none kV doc pm an cdv ct) ⟨us,[]⟩=pure (ps.zip us)):Binds K fd ps []:=by
 obtain ⟨oc,od,kV,doc,pm,an,cdv,ct,osl,rfl,lk,hcd⟩:=F.ex
 exact .all (h kV doc pm an cdv ct)
theorem wM{x qual:Str}{st:Stmt}{f:Addr}{oc:Value}{od an:Option Addr}{osl:Array (Option Value)}{kV doc pm cdv ct:Value}(l:K.lookup f=some ⟨oc,od,.func (PySem.W.fnOf x qual (Ou st) (Jd st) (Bq st) .none kV doc pm an cdv ct),osl⟩)(c:PySem.W.codeIn K cdv qual=true)(k:PySem.W.keepIn K (.ref f)=true):Fun K x qual st f (PySem.W.fnOf x qual (Ou st) (Jd st) (Bq st) .none kV doc pm an cdv ct):=⟨⟨oc,od,kV,doc,pm,an,cdv,ct,osl,rfl,l,c⟩,k⟩
end
theorem sW{n:Nat}(h:n<=1000):n<Bb:=Nat.lt_of_le_of_lt h (by decide)
section
variable{X:Cx}
theorem pv(i:Nat){x:Str}{pos:Pos}(hN:X.N[i]? = some x:=by rfl)(hv:AV X.env.scope x:=by first | exact Dj rfl | exact Or.inr (Dj rfl) | exact Or.inr (Or.inr rfl))(hd:(x == ("__debug__" : Str))=false:=by decide)(hcd:(x == ("__classdict__" : Str))=false:=by decide):PE X (.Name x pos) (gN i):=W6 hN hv hd hcd
end
theorem tL{A B:Prop}(h:B):if false=true then A else B:=by
 rw[if_neg Cp]
 exact h
theorem wD{A B:Prop}(h:A):if true=true then A else B:=by
 rw[if_pos rfl]
 exact h
theorem DM{c A B:Prop}[Decidable c](h1:c->A)(h2:¬ c->B):if c then A else B:=by
 by_cases h:c
 ·rw[if_pos h]
  exact h1 h
 ·rw[if_neg h]
  exact h2 h
def Yy(H H':Hp):Prop:=∀b o,H b=some o->H' b=some o
theorem Yy.refl(H:Hp):Yy H H:=λ_ _ h=>h
end L2
namespace Nd
open PySem PySem.Spec PyProof.Rows L2
def Fi(X:Cx)(scope:Scope)(cl:List (Str×Addr))(N:List Str)(fp:List Addr)(s:Aj)(H:Hp):Cx where
 prog:=X.prog
 w:=X.w
 K:=X.K
 mg:=X.mg
 base:=X.base
 A:=X.A
 N:=N
 s₀:=s
 H₀:=H
 env:=compEnvC scope (Ez (s.heap.objs.size+1) scope.names cl) s.heap.objs.size X.env
 outer:=X.stack
 stack:=X.stack
 ex:=fp
 fn:=λy=>decide (scope.names.lookup y=some Dz)
 calm:=X.calm
 pn:=[]
 xe:=λ_ _=>False
section
variable{prog:Bj}{w:World}{A:Cu}{R:Result->Aj->Prop}{s:Aj}
theorem Uk{elt tg iter:Expr}{ifs:List Expr}{scope:Scope}{pos:Pos}{it acc:Value}{env:Env}(J:Nat->Aj->Prop) (turn:∀n s,J n s->wpAny (model prog w) A (pyNext it) (λr s1=>match r with
    | none=>R (.ok .next) s1
    | some v=>wpAny (model prog w) A (Wf tg it v) (λ_ s2=>wpAny (model prog w) A (Qq tg env v) (λ_ s3 =>
      wpAny (model prog w) A (forIn ifs true λc r=>if r=true then (do
        let ok <- isTrue c env (eval c env)
        pure (Fp ok)) else pure (Fp r)) (λok s4 =>
       if ok=true then
        wpAny (model prog w) A (eval elt env) (λx s5=>wpAny (model prog w) A (call (.builtin "list.append") [acc,x]) (λ_ s6=>∃m,m<n/\J m s6) (λ_ _=>False) s5) (λ_ _=>False) s4
       else ∃m,m<n/\J m s4) (λ_ _=>False) s3) (λ_ _=>False) s2) (λ_ _=>False) s1) (λ_ _=>False) s)
  (n:Nat) (h:J n s):Mv (model prog w) A (.compLoop (.ListComp elt [⟨tg,iter,ifs,0⟩] scope pos) 0 it acc env) R s:=by
 refine codeAny_loop rfl J (λn s hJ=>?_) n h
 show wpAny _ A (Sem.onRaise (compTurn (.ListComp elt [⟨tg,iter,ifs,0⟩] scope pos) 0 it acc env) (λx=>do noteFrame x env; theTreesLotGoes x)) _ _ s
 refine wpAny_noted ?_
 rw[compTurn_list]
 refine Ac (cN (Ac (Fy (turn n s hJ) (λr s1 h1=>?_) λ_ _ z=>z.elim)))
 cases r with
 | none=>exact Ap h1
 | some v =>
  refine Ac (Fy h1 (λ_ s2 h2=>?_) λ_ _ z=>z.elim)
  refine Ac (Fy h2 (λ_ s3 h3=>?_) λ_ _ z=>z.elim)
  refine Ac (Fy h3 (λok s4 h4=>?_) λ_ _ z=>z.elim)
  cases ok with
  | false=>exact Ap ⟨rfl,h4⟩
  | true =>
   refine Ac (Ac (Fy h4 (λx s5 h5=>?_) λ_ _ z=>z.elim))
   exact Ac (Fy h5 (λ_ s6 h6=>Ap (Ap ⟨rfl,h6⟩)) λ_ _ z=>z.elim)
end
section
variable{X:Cx}{pins:List (Addr×Obj)}{σ:L2.St}{H:Hp}{s:Aj}{scope:Scope}{cl:List (Str×Addr)}{fp:List Addr}{N:List Str}
def xZ(scope:Scope)(x:Str):Prop:=scope.names.lookup x=some .local\/scope.names.lookup x=some .cell
structure CompScope(X:Cx)(scope:Scope)(cl:List (Str×Addr))(x:Str)(ys:List Str)(js:List Nat):Prop where
 clos:closureFor scope X.env=pure cl
 oc:(∀y∈scope.names,y.2≠.cell)\/∃z:Str,(∀n,Ez n scope.names []=[(z,n)])/\scope.names.lookup z=some .cell/\∀y∈scope.names,y.2=.cell->y.1=z
 kind:scope.kind=.function
 locs:∀y∈scope.names,y.2=.local->scope.names.lookup y.1=some .local
 own:xZ scope x
 sub:∀y c,cl.lookup y=some c->X.env.cells.lookup y=some c
 has_:(scope.names.all λy=>!(y.2 == En) || (cl.lookup y.1).isSome)=true
 nd:(x::ys).Nodup
 len:ys.length=js.length
 at_:∀(k:Nat) (y:Str) (j:Nat),ys[k]? = some y->js[k]? = some j->X.N[j]? = some y/\scope.names.lookup y=some .free/\(X.env.kindOf y=some .cell\/X.env.kindOf y=some .free)
theorem CompScope.has{x:Str}{ys:List Str}{js:List Nat}(C:CompScope X scope cl x ys js):∀y∈scope.names,y.2=.free->(cl.lookup y.1).isSome=true:=λy hy e=>by
 have h:=cP.mp C.has_ y hy
 rw[e] at h
 simpa using h
theorem Rb{env:Env}{y:Str}{k:Ow}:∀{names:List (Str×Ow)},
  (names.map λ(n,k)=>if (k == En && env.scope.kind == .function && env.kindOf n == some .cell) then (n,Dz) else (n,k)).lookup y=some k ->
  ∃k0,names.lookup y=some k0/\(k=k0\/(k0=.free/\k=.cell))
 | [],h=>by simp at h
 | (n,k0)::r,h=>by
  have ih:=@Rb env y k r
  rw[Ar] at h
  by_cases hc:(k0 == En && env.scope.kind == .function && env.kindOf n == some .cell)=true
  ·have h':Lp y ((n,Dz)::(r.map λ(n,k)=>if (k == En && env.scope.kind == .function && env.kindOf n == some .cell) then (n,Dz) else (n,k)))=some k:=by
    simpa [hc] using h
   cases hy:y == n with
   | true =>
    rw[Cg,hy] at h'
    have e:k=Dz:=by simpa using h'.symm
    refine ⟨k0,by rw[Cg,hy],.inr ⟨?_,e⟩⟩
    rw[He,He] at hc
    exact Dx hc.1.1
   | false =>
    rw[Cg,hy] at h'
    obtain ⟨q,e1,e2⟩:=ih h'
    exact ⟨q,by rw[Cg,hy]; exact e1,e2⟩
  ·have h':Lp y ((n,k0)::(r.map λ(n,k)=>if (k == En && env.scope.kind == .function && env.kindOf n == some .cell) then (n,Dz) else (n,k)))=some k:=by
    simpa [hc] using h
   cases hy:y == n with
   | true =>
    rw[Cg,hy] at h'
    exact ⟨k0,by rw[Cg,hy],.inl (by simpa using h'.symm)⟩
   | false =>
    rw[Cg,hy] at h'
    obtain ⟨q,e1,e2⟩:=ih h'
    exact ⟨q,by rw[Cg,hy]; exact e1,e2⟩
theorem Wb{env:Env}{y:Str}:∀{names:List (Str×Ow)},names.lookup y=some .free ->
  (names.map λ(n,k)=>if (k == En && env.scope.kind == .function && env.kindOf n == some .cell) then (n,Dz) else (n,k)).lookup y=some .cell \/
  (names.map λ(n,k)=>if (k == En && env.scope.kind == .function && env.kindOf n == some .cell) then (n,Dz) else (n,k)).lookup y=some .free
 | [],h=>by simp at h
 | (n,k0)::r,h=>by
  have ih:=@Wb env y r
  show Lp y ((if (k0 == En && env.scope.kind == .function && env.kindOf n == some .cell)=true then (n,Dz) else (n,k0))::_)=_\/Lp y ((if (k0 == En && env.scope.kind == .function && env.kindOf n == some .cell)=true then (n,Dz) else (n,k0))::_)=_
  by_cases hc:(k0 == En && env.scope.kind == .function && env.kindOf n == some .cell)=true
  ·rw[if_pos hc]
   cases hy:y == n with
   | true=>exact .inl (by rw[Cg,hy])
   | false =>
    rw[Cg,hy] at h
    simp only[Cg,hy]
    exact ih h
  ·rw[if_neg hc]
   cases hy:y == n with
   | true =>
    rw[Cg,hy] at h
    exact .inr (by rw[Cg,hy]; exact h)
   | false =>
    rw[Cg,hy] at h
    simp only[Cg,hy]
    exact ih h
theorem Ff{α β:Type}[BEq α][LawfulBEq α]{y:α}{k:β}:∀{l:List (α×β)},l.lookup y=some k->(y,k)∈l
 | [],h=>by simp at h
 | (n,v)::r,h=>by
  cases hy:y == n with
  | true =>
   rw[Cg,hy] at h
   have e:=Dx hy
   subst e
   have : v=k:=by simpa using h
   subst this
   exact Aa
  | false =>
   rw[Cg,hy] at h
   exact Ae _ (Ff h)
end
theorem gP{a c:Nat}(h:c<a)(e:c=a+1):False:=by omega
theorem Iu:∀(names:List (Str×Ow)) (n:Nat) (acc:List (Str×Addr)),Ez n names acc=Ez n names []++acc
 | [],_,_=>rfl
 | (x,k)::r,n,acc=>by
  unfold Ez
  by_cases h:(k == Dz)=true
  ·rw[if_pos h,if_pos h,Iu r _ ((x,n)::acc),Iu r _ [(x,n)],Cb]; rfl
  ·rw[if_neg h,if_neg h]; exact Iu r n acc
theorem Nz:∀(names:List (Str×Ow)) (n:Nat) (acc:List (Str×Addr)),(∀y∈names,y.2≠.cell)->Ez n names acc=acc
 | [],_,_,_=>rfl
 | (x,k)::r,n,acc,h=>by
  unfold Ez
  rw[if_neg (by have:=h (x,k) Aa; simpa using this)]
  exact Nz r n acc λy hy=>h y (Ae _ hy)
theorem Vq{env:Env}{y:Str}:∀{names:List (Str×Ow)},names.lookup y=some .cell->(names.map λ(n,k)=>if (k == En && env.scope.kind == .function && env.kindOf n == some .cell) then (n,Dz) else (n,k)).lookup y=some .cell
 | [],h=>by simp at h
 | (n,k0)::r,h=>by
  have ih:=@Vq env y r
  show Lp y ((if (k0 == En && env.scope.kind == .function && env.kindOf n == some .cell)=true then (n,Dz) else (n,k0))::_)=_
  by_cases hc:(k0 == En && env.scope.kind == .function && env.kindOf n == some .cell)=true
  ·rw[if_pos hc]
   cases hy:y == n with
   | true=>rw[Cg,hy]
   | false=>rw[Cg,hy] at h ⊢; exact ih h
  ·rw[if_neg hc]
   cases hy:y == n with
   | true=>rw[Cg,hy] at h ⊢; exact h
   | false=>rw[Cg,hy] at h ⊢; exact ih h
theorem Zj{env:Env}{scope:Scope}{x:Str}(o:xZ scope x):Loc (relabel scope env) x:=o.imp lookup_relabel_local Vq
section
variable{X:Cx}{scope:Scope}{cl:List (Str×Addr)}{x y:Str}{ys:List Str}{js:List Nat}{n c:Nat}{N:List Str}{fp:List Addr}{s:Aj}{H:Hp}
theorem gX(o:xZ scope x):(Fi X scope cl N fp s H).fn x=true\/(Fi X scope cl N fp s H).env.scope.names.lookup x=some .local:=by
 rcases o with o | o
 ·exact .inr (lookup_relabel_local o)
 ·exact .inl (decide_eq_true o)
theorem CompScope.split(C:CompScope X scope cl x ys js)(h:(Ez n scope.names cl).lookup y=some c):cl.lookup y=some c\/(c=n/\Ez 0 scope.names []=[(y,0)]/\Ez n scope.names []=[(y,n)]/\scope.names.lookup y=some .cell):=by
 rcases C.oc with o | ⟨z,o1,o2,_⟩
 ·rw[Nz _ _ _ o] at h; exact .inl h
 ·rw[Iu,o1] at h
  have h2:Lp y ((z,n)::cl)=some c:=h
  rw[Cg] at h2
  cases e:y == z with
  | true =>
   rw[e] at h2
   have ec:c=n:=(Cj h2).symm
   have ey:=Dx e
   subst ey
   exact .inr ⟨ec,o1 0,o1 n,o2⟩
  | false=>rw[e] at h2; exact .inl h2
theorem CompScope.find(C:CompScope X scope cl x ys js)(h:cl.lookup y=some c)(hy:scope.names.lookup y=some .free):(Ez n scope.names cl).lookup y=some c:=by
 rcases C.oc with o | ⟨z,o1,o2,_⟩
 ·rw[Nz _ _ _ o]; exact h
 ·rw[Iu,o1]
  show Lp y ((z,n)::cl)=some c
  rw[Cg]
  cases e:y == z with
  | true=>rw[Dx e,o2] at hy; cases hy
  | false=>exact h
theorem CompScope.cellAt(C:CompScope X scope cl x ys js)(hy:(y,Dz)∈scope.names):(Ez n scope.names cl).lookup y=some n:=by
 rcases C.oc with o | ⟨z,o1,o2,o3⟩
 ·exact absurd rfl (o _ hy)
 ·have ez:y=z:=o3 _ hy rfl
  subst ez
  rw[Iu,o1]
  show Lp y ((y,n)::cl)=some n
  rw[Cg,beq_self_eq_true]
theorem Wn{M:Model}{A:Cu}{E:Value->Aj->Prop}{Q:Env->Aj->Prop}(C:CompScope X scope cl x ys js)(hQ:∀h4,h4.Ns s.heap.objs.size (λ_=>none)->(∀b u,s.heap.get? b=some u->h4.get? b=some u)->(∀z n,Ez (s.heap.objs.size+1) scope.names []=[(z,n)]->h4.IsCell n none)->Q (newEnv scope s.heap.objs.size X.env.globals (Ez (s.heap.objs.size+1) scope.names cl) X.env.qual none .none (some X.env) Uz) { s with heap:=h4,toks:=s.toks+([]:List (Str×Value)).length }):wpAny M A (Qp scope X.env.globals cl [] X.env.qual none .none (some X.env)) Q E s:=by
 simp only[Qp,Option.isSome_some,if_true]
 refine Ac (wpAny_alloc (Ac (wpAny_layCells _ (λx k cs=>by cases e:k == Dz <;> simp [e]) _ _ _ _ ?_)))
 have hsz:({ s with heap:=s.heap.push { cls:=.type "dict",data:=.dict #[] } }:Aj).heap.objs.size=s.heap.objs.size+1:=Heap.size_push ..
 rw[hsz]
 refine Ac (Ap (Ap (hQ _ ((Heap.Ns.new s.heap (.type "dict")).keeps (pushCells_keeps _ _)) (λb u e=>pushCells_keeps _ _ b u (Aq _ e)) λz n e=>?_)))
 have ok:=(cellsFrom_ok scope.names (s.heap.push { cls:=.type "dict",data:=.dict #[] }) 0 [] ⟨λ_ _ hm=>(nomatch hm),Fg⟩ (Do _)).empty z n
 rw[show (s.heap.push { cls:=.type "dict",data:=.dict #[] }).objs.size=s.heap.objs.size+1 from hsz,e] at ok
 exact (ok (Af.mpr rfl)).1
end
section
variable{X:Cx}{pins:List (Addr×Obj)}{σ:L2.St}{H:Hp}{s:Aj}{scope:Scope}{cl:List (Str×Addr)}{fp:List Addr}{N:List Str}
theorem E3{x:Str}{ys:List Str}{js:List Nat}(C:CompScope X scope cl x ys js)(I:Inv X pins σ H s)(hf:∀b∈fp,Ph X pins H b)(ho:∀b∈fp,∃o,s.heap.get? b=some o):(Fi X scope cl N fp s H).Ok where
 mod:=I.ok.mod
 kind:=C.kind
 glob:=I.ok.glob
 blt:=I.ok.blt
 above:=Ai _
 inj:=λy z c h1 h2=>by
  have lt:∀y,cl.lookup y=some c->c<s.heap.objs.size:=λy e=>let ⟨_,q⟩:=I.cell y c (C.sub y c e); q.lt
  rcases C.split h1 with h1 | ⟨e1,a1,_⟩
  ·rcases C.split h2 with h2 | ⟨e2,_⟩
   ·exact I.ok.inj y z c (C.sub y c h1) (C.sub z c h2)
   ·exact (gP (lt y h1) e2).elim
  ·rcases C.split h2 with h2 | ⟨e2,a2,_⟩
   ·exact (gP (lt z h2) e1).elim
   ·rw[a1] at a2
    simpa using a2
 has:=λy hy=>by
  have key:∀k,(k=Dz\/k=En)->(compEnvC scope cl s.heap.objs.size X.env).kindOf y=some k->∃c,(Ez (s.heap.objs.size+1) scope.names cl).lookup y=some c:=by
   intro k hk e
   obtain ⟨k0,e0,e1⟩:=Rb (names:=scope.names) (env:=X.env) (y:=y) (k:=k) e
   have m:=Ff e0
   by_cases hk0:k0=.cell
   ·exact ⟨_,C.cellAt (hk0▸m)⟩
   have hfree:k0=.free:=by
    rcases e1 with e1 | e1
    ·subst e1
     rcases hk with hk | hk
     ·exact absurd hk hk0
     ·exact hk
    ·exact e1.1
   obtain ⟨c,hc⟩:=Pu.mp (C.has _ m hfree)
   exact ⟨c,C.find hc (hfree▸e0)⟩
  rcases hy with hy | hy
  ·exact key _ (.inl rfl) hy
  ·exact key _ (.inr rfl) hy
 cab:=λy c h e=>by
  have h:scope.names.lookup y=some .cell:=of_decide_eq_true h
  have:=(C.cellAt (n:=s.heap.objs.size+1) (Ff h)).symm.trans e
  show s.heap.objs.size<=c
  have:=Cj this
  omega
 hd:=I.ok.hd
 frames:=I.ok.frames
 stk:=.inl rfl
 exf:=λb hb=>by
  obtain ⟨o,e⟩:=ho b hb
  refine ⟨Da (Bl e),λy c hc=>?_⟩
  rcases C.split hc with hc | ⟨hc,_⟩
  ·exact (hf b hb).2.2.2.2.1 y c (C.sub y c hc)
  ·exact λz=>gP (Bl e) (z.symm.trans hc)
 bs:=I.bs
 bsz:=Ci I.ok.bsz I.sz
 noex:=λb o e hb=>by
  rcases (hf b hb).2.2.2.1 with z | z
  ·exact I.ok.noex b o e z
  ·exact absurd (Ca (Bl (I.ok.bs b o e).1) z) (Ha _)
 exfs:=λb hb z=>by
  rcases Ao.mp (I.stkSub b z) with e | e
  ·exact (hf b hb).2.1 e
  ·exact (hf b hb).2.2.1 e
 funs:=I.stack
 frf:=I.stkFree
 tab:=I.ok.tab.un I.base
def Hg(σ:L2.St)(js:List Nat):L2.St:=js.map λj=>(σ[j]?).join
theorem Up{x:Str}{pre ys:List Str}{js:List Nat}{h1:Heap}{tk:Nat}{m1:Str->Option Value}(C:CompScope X scope cl x ys js)(I:Inv X pins σ H s)(hf:∀b∈fp,Ph X pins H b)(ho:∀b∈fp,∃o,s.heap.get? b=some o)(hns:h1.Ns s.heap.objs.size m1)(keep:∀b u,s.heap.get? b=some u->h1.get? b=some u)(new:∀z n,Ez (s.heap.objs.size+1) scope.names []=[(z,n)]->h1.IsCell n none):Inv (Fi X scope cl (pre++ys) fp s H) [] (pre.map (λ_=>none)++Hg σ js) H { s with heap:=h1,toks:=tk }:=by
 have cellK:∀y c,cl.lookup y=some c->∃v,s.heap.IsCell c v/\h1.IsCell c v:=λy c e=>by
  obtain ⟨v,o,q,d⟩:=I.cell y c (C.sub y c e)
  exact ⟨v,⟨o,q,d⟩,o,keep c o q,d⟩
 refine ⟨E3 C I hf ho,rfl,I.bare,Un.kept keep,⟨m1,hns,λi y v e1 e2 _=>?_⟩,λy c e=>?_,I.hok.fresh (Ai _),λy c e=>?_,λp hp=>?_,I.hok.kept keep,?_⟩
 ·have e2:(pre.map (λ_=>(none:Option V))++Hg σ js)[i]? = some (some v):=e2
  have e1:(pre++ys)[i]? = some y:=e1
  by_cases hi:i<pre.length
  ·rw[Ht (by rw[Ab]; exact hi),Bw] at e2
   cases q:pre[i]? with
   | none=>rw[q] at e2; cases e2
   | some z=>rw[q] at e2; cases e2
  ·rw[Ey (by rw[Ab]; omega),Ab] at e2
   rw[Ey (by omega)] at e1
   have e1':=e1
   have e2':=e2
   generalize i - pre.length=k at e1' e2'
   unfold Hg at e2'
   rw[Bw] at e2'
   cases ej:js[k]? with
   | none=>rw[ej] at e2'; simp at e2'
   | some j =>
    rw[ej] at e2'
    have e3:(σ[j]?).join=some v:=by simpa using e2'
    have e4:σ[j]? = some (some v):=by
     cases q:σ[j]? with
     | none=>rw[q] at e3; simp at e3
     | some z=>rw[q] at e3; simp at e3; rw[e3]
    obtain ⟨a1,a2,a3⟩:=C.at_ k y j e1' ej
    obtain ⟨m0,_,hl⟩:=I.loc
    have vis:AV X.env.scope y:=a3.elim (λa3=>.inr (.inl a3)) λa3=>.inr (.inr a3)
    obtain ⟨u,r,l⟩:=hl j y v a1 e4 vis
    refine ⟨u,r,?_⟩
    rcases l with ⟨k1,_⟩ | ⟨_,c,hc,hv⟩
    ·rcases a3 with a3 | a3 <;> rw[k1] at a3 <;> cases a3
    ·obtain ⟨c',hc'⟩:=Pu.mp (C.has _ (Ff a2) rfl)
     have ec:c'=c:=by
      have:=C.sub y c' hc'
      rw[hc] at this
      exact (Cj this).symm
     subst ec
     obtain ⟨o,q,d⟩:=hv
     exact .inr ⟨Wb a2,c',C.find hc' a2,o,keep c' o q,d⟩
 ·rcases C.split e with e | ⟨e,_,e',_⟩
  ·obtain ⟨v,_,z⟩:=cellK y c e
   exact ⟨v,z⟩
  ·exact ⟨_,e▸new _ _ e'⟩
 ·rcases C.split e with e | ⟨e,_⟩
  ·exact I.freeC y c (C.sub y c e)
  ·exact I.hok.fresh (by omega)
 ·cases (show p∈([]:List (Addr×Obj)) from hp)
 ·show (pre.map (λ_=>(none:Option V))++Hg σ js).length=(pre++ys).length
  simp [Hg,C.len]
end
section
variable{X:Cx}
def BZ(J:It)(js:List Nat)(tc:TT)(te:TE)(σ:L2.St)(H1:Hp)(Q:VK):Prop:=∀D,H1 D=none->∃W:Nat->Nat->Hp->Prop,(∃m,W 0 m (upd H1 D (.lst [])))/\∀i m H,W i m H ->
 (J.stop i H/\Q (.ref D) H)\/(J.go i H/\∀x H',J.yld i H x H'->∃(N1:Hp->Prop) (N2:VK),(∀H2,N1 H2->∃m',m'<m/\W (i+1) m' H2) /\
  (∀y H3,N2 y H3->∃acc,H3 D=some (.lst acc)/\acc.length<Bb/\∃m',m'<m/\W (i+1) m' (upd H3 D (.lst (acc++[y])))) /\
  tc (some x::Hg σ js) H' λc H2=>if c=true then te (some x::Hg σ js) H2 N2 else N1 H2)
def jR(wi:TI)(js:List Nat)(tc:TT)(te:TE):TE:=λσ H Q=>wi σ H λJ H1=>BZ J js tc te σ H1 Q
def gW:TT:=λ_ H Q=>Q true H
def uQ(X:Cx)(ifs:List Expr)(t:TT):Prop :=
 ∀(pins:List (Addr×Obj)) (s:Aj) (σ:L2.St) (H:Hp) (Q:Bool->Hp->Prop),Inv X pins σ H s->t σ H Q ->
  wpAny (model X.prog X.w) X.A (forIn ifs true λc r=>if r=true then (do
   let ok <- isTrue c X.env (eval c X.env)
   pure (Fp ok)) else pure (Fp r)) (TP X pins σ Q) X.xe s
theorem xJ:uQ X [] gW:=λpins s σ H Q I h=>wpAny_tests_nil ⟨H,I,h⟩
theorem F7{c:Expr}{t:TT}(h:PT X c t):uQ X [c] t:=λpins s σ H Q I q=>wpAny_tests_one (h pins s σ H Q I q)
theorem pH{X X':Cx}{pins:List (Addr×Obj)}{σ σ':L2.St}{H3 H6:Hp}{s3 s7:Aj}{scope:Scope}{cl:List (Str×Addr)}{N:List Str}{fp:List Addr}(hX':Fi X scope cl N fp s3 H3=X')(I3:Inv X pins σ H3 s3)(f3:∀b∈fp,Ph X pins H3 b)(I7:Inv X' [] σ' H6 s7):∃m7,s7.heap.Ns s3.heap.objs.size m7/\∀h8,Gf s3.heap.objs.size s7.heap h8->Inv X pins σ H6 { s7 with heap:=h8 }:=by
 have eP:X'.prog=X.prog:=by rw[<- hX']; rfl
 have eW:X'.w=X.w:=by rw[<- hX']; rfl
 obtain ⟨m7,hn7,_⟩:=I7.loc
 have hn7':s7.heap.Ns s3.heap.objs.size m7:=by rw[<- hX'] at hn7; exact hn7
 refine ⟨m7,hn7',λh8 hs8=>?_⟩
 have I7f:H6 s3.heap.objs.size=none:=by have:=I7.free; rw[<- hX'] at this; exact this
 have b7:Un (uE X.stack) fp H3 H6 s3.heap s7.heap:=by have:=I7.base; rw[<- hX'] at this; exact this
 have ne8:∀b o,s3.heap.get? b=some o->b≠s3.heap.objs.size:=λb o q=>Da (Bl q)
 have u8:Un (uE X.stack) fp H3 H6 s3.heap h8:=by
  refine ⟨λb o q n hb hx=>(hs8.2 b (ne8 b o q)).trans (b7.keep b o q n hb hx),λb o q n hb hx=>?_,b7.free,λb o q hx=>?_,b7.tups,b7.frzs,b7.tbls⟩
  ·obtain ⟨sl,z⟩:=b7.slot b o q n hb hx
   exact ⟨sl,(hs8.2 b (ne8 b o q)).trans z⟩
  ·obtain ⟨o',z⟩:=b7.there b o q hx
   exact ⟨o',(hs8.2 b (ne8 b o q)).trans z⟩
 have hok8:Vm X.prog X.w H6 h8:=λb ob e=>by
  have hk7:=I7.hok
  rw[eP,eW] at hk7
  refine (hk7 b ob e).stay (λc w' hcc q=>(hs8.2 c ?_).trans q) (λ_ q=>q) λ_ _ q=>q
  rintro rfl
  rcases hcc with rfl | hcc
  ·rw[I7f] at e; cases e
  ·rw[I7f] at hcc; cases hcc
 have os7:s7.os=s3.os:=by have:=I7.os; rw[<- hX'] at this; exact this
 exact I3.call' (s':={ s7 with heap:=h8 }) (ch:=fp) os7 u8 hok8 I7.bare (λb hb=>⟨(f3 b hb).2.2.2.1,(f3 b hb).2.1,(f3 b hb).2.2.2.2.1,(f3 b hb).2.2.2.2.2⟩)
theorem Xd{X X':Cx}{σ':L2.St}{H3 H6:Hp}{s3 s7:Aj}{scope:Scope}{cl:List (Str×Addr)}{N:List Str}{fp:List Addr}(hX':Fi X scope cl N fp s3 H3=X')(I4:Inv X' [] σ' H6 s7){H':Hp}(hn:∀b∈fp,H' b=none):∀b∈fp,Ph X' [] H' b:=λb hb=>by
 have ok:=I4.ok
 have hex:b∈X'.ex:=by rw[<- hX']; exact hb
 exact ⟨hn b hb,(ok.exf b hex).1,ok.exfs b hex,.inl hex,(ok.exf b hex).2,λp hp=>by rw[<- hX'] at hp; cases (show p∈([]:List (Addr×Obj)) from hp)⟩
theorem bJ{X X':Cx}{H3:Hp}{s3:Aj}{scope:Scope}{cl:List (Str×Addr)}{N:List Str}{fp:List Addr}(hc:X.calm=true)(hX':Fi X scope cl N fp s3 H3=X'):X'.prog=X.prog/\X'.w=X.w/\X'.K=X.K/\X'.A=X.A/\X'.calm=true:=by
 subst hX'
 exact ⟨rfl,rfl,rfl,rfl,hc⟩
theorem eS{X X':Cx}{pins:List (Addr×Obj)}{σ σ':L2.St}{H3 H6:Hp}{s3 s7:Aj}{scope:Scope}{cl:List (Str×Addr)}{N:List Str}{fp:List Addr}(hX':Fi X scope cl N fp s3 H3=X')(I3:Inv X pins σ H3 s3)(f3:∀b∈fp,Ph X pins H3 b)(I7:Inv X' [] σ' H6 s7):(∃m7,s7.heap.Ns s3.heap.objs.size m7)/\H6 s3.heap.objs.size=none/\Inv X pins σ H6 s7:=by
 subst hX'
 obtain ⟨m7,hn7,_⟩:=I7.loc
 exact ⟨⟨m7,hn7⟩,I7.free,I3.call' (s':=s7) (ch:=fp) I7.os I7.base I7.hok I7.bare (λb hb=>⟨(f3 b hb).2.2.2.1,(f3 b hb).2.1,(f3 b hb).2.2.2.2.1,(f3 b hb).2.2.2.2.2⟩)⟩
theorem bI{X:Cx}{pins:List (Addr×Obj)}{σ:L2.St}{H2:Hp}{s2:Aj}{tg:Expr}{J:It}{fp:List Addr}{it:Addr}{tn:Nat->Heap->Prop}(I2:Inv X pins σ H2 s2)(T:Turn X.prog X.w X.K tg J fp it tn)(st2:tn 0 s2.heap)(f2:∀b∈fp,Ph X pins H2 b){ob:Obj}{ho:HO}(I3:Inv X pins σ (upd H2 s2.heap.objs.size ho) { s2 with heap:=s2.heap.push ob }):(∀b∈fp,Ph X pins (upd H2 s2.heap.objs.size ho) b)/\tn 0 (s2.heap.push ob)/\∀b∈fp,∃o,(s2.heap.push ob).get? b=some o:=by
 have Rj:tn 0 (s2.heap.push ob):=T.keep 0 _ _ st2 λb hb o q=>Aq _ q
 refine ⟨λb hb=>⟨?_,(f2 b hb).2⟩,Rj,λb hb=>?_⟩
 ·rw[Ew ?_]
  ·exact (f2 b hb).1
  ·intro z
   obtain ⟨o,q,_⟩:=T.obj _ _ st2 b hb
   have:=Bl q
   rw[z] at this
   exact absurd this (Ha _)
 ·obtain ⟨o,q,_⟩:=T.obj _ _ Rj b hb
  exact ⟨o,q⟩
theorem rN{elt iter:Expr}{x:Str}{px pos:Pos}{ifs:List Expr}{scope:Scope}{cl:List (Str×Addr)}{ys:List Str}{js:List Nat}{wi:TI}{tc:TT}{te:TE}(C:CompScope X scope cl x ys js)(hc:X.calm=true)(hi:PI X (.Name x px) iter wi)(ht:∀fp s H,uQ (Fi X scope cl (x::ys) fp s H) ifs tc)(he:∀fp s H,PE (Fi X scope cl (x::ys) fp s H) elt te)(hs:∀x,Eu iter X.env x=pure x:=by intro _; rfl):PE X (.ListComp elt [⟨.Name x px,iter,ifs,0⟩] scope pos) (jR wi js tc te):=by
 intro pins s σ H Q I h
 rw[eval_ListComp]
 refine Sv (use:=none) rfl hs C.clos C.kind C.locs (Hh (hi pins s σ H _ I h) λv s1 h1=>Hh h1 λitv s2 h2=>?_)
 obtain ⟨it,fp,tn,J,H2,e,I2,T,st2,f2,q2⟩:=h2
 subst e
 have fD:H2 s2.heap.objs.size=none:=I2.hok.fresh (Ai _)
 obtain ⟨W,⟨m0,w0⟩,turn⟩:=q2 s2.heap.objs.size fD
 refine Ei ?_
 have I3:Inv X pins σ (upd H2 s2.heap.objs.size (.lst [])) { s2 with heap:=s2.heap.push { cls:=.type "list",dict:=none,data:=.seq ([]:List Value).toArray } } :=
  I2.laid (t':=s2.toks) (λb u q=>Aq _ q) (Ai _) ⟨Do _,[],0,.nil,Bs _ rfl⟩
 obtain ⟨f3,st3',o3'⟩:=bI I2 T st2 f2 I3
 generalize hS3:({ s2 with heap:=s2.heap.push { cls:=.type "list",dict:=none,data:=.seq ([]:List Value).toArray } }:Aj)=s3 at I3
 have Rj:tn 0 s3.heap:=by rw[<- hS3]; exact st3'
 have o3:∀b∈fp,∃o,s3.heap.get? b=some o:=by rw[<- hS3]; exact o3'
 show wpAny _ _ (Qp scope X.env.globals cl [] X.env.qual none .none (some X.env)) _ _ _
 refine Wn C λh4 hns4 keep4 new4=>?_
 have I4:∀tk,Inv (Fi X scope cl (x::ys) fp s3 (upd H2 s2.heap.objs.size (.lst []))) [] (none::Hg σ js) (upd H2 s2.heap.objs.size (.lst [])) { s3 with heap:=h4,toks:=tk }:=λtk=>Up (pre:=[x]) C I3 f3 o3 hns4 keep4 new4
 have st4:tn 0 h4:=T.keep 0 _ _ Rj λb hb o q=>keep4 b o q
 generalize hX':Fi X scope cl (x::ys) fp s3 (upd H2 s2.heap.objs.size (.lst []))=X' at I4
 obtain ⟨eP,eW,eK,eA,eC⟩:=bJ hc hX'
 have stat:∀{H':Hp},(∀b∈fp,H' b=none)->∀b∈fp,Ph X' [] H' b:=λ{H'} hn=>Xd hX' (I4 0) hn
 have loop:∀s5:Aj,s5={ s3 with heap:=h4,toks:=s3.toks+([]:List (Str×Value)).length } ->
   Mv (model X.prog X.w) X.A (.compLoop (.ListComp elt [⟨.Name x px,iter,ifs,0⟩] scope pos) 0 (.ref it) (.ref s2.heap.objs.size) (compEnvC scope (Ez (s3.heap.objs.size+1) scope.names cl) s3.heap.objs.size X.env))
    (compPost (model X.prog X.w) X.A X.xe none (EP X pins σ Q) (.ref s2.heap.objs.size) s3.heap.objs.size) s5:=by
  rintro s5 rfl
  refine Uk (λn s'=>∃i o H',Inv X' [] (o::Hg σ js) H' s'/\tn i s'.heap/\(∀b∈fp,H' b=none)/\W i n H') ?_ m0
   ⟨0,none,_,I4 _,st4,λb hb=>(f3 b hb).1,w0⟩
  (intro n s6 q_; obtain ⟨i,o,H6,I6,st6,fr6,w6⟩ := q_)
  rcases turn i n H6 w6 with ⟨stop,qn⟩ | ⟨go,step⟩
  ·have hd:=T.done X' eP eW eK eC i [] s6 _ H6 (λ_ _=>False) I6 (stat fr6) st6 stop
   rw[eA] at hd
   refine Hh hd λr s7 q0_ => ?_
   obtain ⟨hr,I7⟩ := q0_
   subst hr
   obtain ⟨m7,hn7,fin7⟩:=pH hX' I3 f3 I7
   exact ⟨m7,hn7,λh8 hs8=>⟨.ref s2.heap.objs.size,H6,fin7 h8 hs8,rfl,qn⟩⟩
  ·have hit:=T.item X' eP eW eK eC i [] s6 _ H6 (λ_ _=>False) I6 (stat fr6) st6 go
   rw[eA] at hit
   refine Hh hit λr s7 q0_ => ?_
   obtain ⟨u,hr,h7⟩ := q0_
   subst hr
   refine Hh h7 λ_ s8 q0_ => ?_
   obtain ⟨y,H8,I8,r8,y8,st8,fr8⟩ := q0_
   have I8':=I8.pinned (stat fr8) (T.obj _ _ st8)
   obtain ⟨N1,N2,hN1,hN2,hst⟩:=step y H8 y8
   have again:∀{H9:Hp} {s9:Aj} {m':Nat},Inv X' ([]++Ul fp s8.heap) (some y::Hg σ js) H9 s9->m'<n->W (i+1) m' H9->∃m,m<n/\∃i o H',Inv X' [] (o::Hg σ js) H' s9/\tn i s9.heap/\(∀b∈fp,H' b=none)/\W i m H':=λ{H9 s9 m'} I9 hm w9=>by
    refine ⟨m',hm,i+1,some y,H9,I9.unpinned,T.keep _ _ _ st8 λb hb o e=>(I9.pin (b,o) (Ag _ (Ag _ (Jo hb e)))).1,λb hb=>?_,w9⟩
    obtain ⟨o,e,_⟩:=T.obj _ _ st8 b hb
    exact (I9.pin (b,o) (Ag _ (Ag _ (Jo hb e)))).2.1
   subst hX'
   refine Hh (Ot (i:=0) (x:=x) (pos:=px) C.nd rfl (Zj C.own) (gX C.own) _ s8 _ H8 y u (λσ' H'=>σ'=some y::Hg σ js/\H'=H8) I8' r8 ⟨rfl,rfl⟩) λ_ s9 q0_ => ?_
   obtain ⟨σ9,H9,I9,e9,e9'⟩ := q0_
   subst e9 e9'
   refine Hh (ht fp s3 _ _ s9 _ _ _ I9 hst) λok s10 q0_ => ?_
   obtain ⟨H10,I10,q10⟩ := q0_
   cases ok with
   | false =>
    rw[if_neg Cp] at q10 ⊢
    obtain ⟨m',hm,w10⟩:=hN1 _ q10
    exact again I10 hm w10
   | true =>
    rw[if_pos rfl] at q10 ⊢
    refine Hh (he fp s3 _ _ s10 _ _ _ I10 q10) λz s11 q0_ => ?_
    obtain ⟨vz,H11,I11,r11,q11⟩ := q0_
    obtain ⟨acc,ha,hz,m',hm,w11⟩:=hN2 _ _ q11
    refine Hh (Po _ s11 _ H11 (.ref s2.heap.objs.size) [vz] (.ref s2.heap.objs.size) [z] (λ_ H'=>H'=upd H11 s2.heap.objs.size (.lst (acc++[vz]))) I11 rfl (.cons r11 .nil) ⟨_,acc,vz,rfl,rfl,ha,hz,rfl⟩) λ_ s12 q0_ => ?_
    obtain ⟨_,H12,I12,_,e12⟩ := q0_
    subst e12
    exact again I12 hm w11
 exact Uy (loop _ rfl) (T.self X.A 0 _ _ _ st4 (loop _ rfl))
end
theorem Ga{H:Hp}{p:Addr}(h:H p=none)(o:HO):Yy H (upd H p o):=λb u q=>by rw[Ew (Gg q h)]; exact q
theorem dW{α:Type}{xs:List α}{i:Nat}{x:α}(h:xs[i]? = some x):xs.take (i+1)=xs.take i++[x]:=by
 rw[List.take_succ,h]; rfl
mutual
inductive RdV (K:PySem.W.Frag) (H:Hp):V->Ad->Prop
 | non:RdV K H .non .none
 | bl (b:Bool):RdV K H (.bl b) (.bool b)
 | int (i:Int):RdV K H (.int i) (.int i)
 | str (x:Str):RdV K H (.str x) (.str x)
 | lst {a:Addr} {xs:List V} {ds:List Ad}:Ud K H a xs->RdVs K H xs ds->RdV K H (.ref a) (.list ds)
 | tup {a:Addr} {xs:List V} {ds:List Ad}:Ur K H a xs->RdVs K H xs ds->RdV K H (.ref a) (.tuple ds)
inductive RdVs (K:PySem.W.Frag) (H:Hp):List V->List Ad->Prop
 | nil:RdVs K H [] []
 | cons {x:V} {d:Ad} {xs:List V} {ds:List Ad}:RdV K H x d->RdVs K H xs ds->RdVs K H (x::xs) (d::ds)
end
section
variable{X:Cx}{pins:List (Addr×Obj)}{σ:L2.St}{H H':Hp}{s:Aj}{K:PySem.W.Frag}
mutual
theorem RdV.reads(I:Inv X pins σ H s):∀{v:V} {d:Ad} {u:Value},RdV X.K H v d->RelV v u->∃as,Reads s.heap u d as
 | _,_,_,.non,r=>by cases r; exact ⟨_,.none⟩
 | _,_,_,.bl b,r=>by cases r; exact ⟨_,.bool b⟩
 | _,_,_,.int i,r=>by obtain ⟨t,rfl⟩:=r; exact ⟨_,.int i t⟩
 | _,_,_,.str x,r=>by obtain ⟨t,rfl⟩:=r; exact ⟨_,.str x t⟩
 | _,_,_,.lst h hs,r=>by
  cases r
  obtain ⟨its,rv,⟨o,n,e,hc,_,hd⟩,_⟩:=I.list h
  obtain ⟨as,ra⟩:=RdVs.reads I hs rv
  exact ⟨_,.list e hc hd (by simpa using ra)⟩
 | _,_,_,.tup h hs,r=>by
  cases r
  obtain ⟨its,rv,⟨o,e,hc,n,hd⟩,_⟩:=I.tuple h
  obtain ⟨as,ra⟩:=RdVs.reads I hs rv
  exact ⟨_,.tuple e hc hd (by simpa using ra)⟩
theorem RdVs.reads(I:Inv X pins σ H s):∀{vs:List V} {ds:List Ad} {us:List Value},RdVs X.K H vs ds->Fs vs us->∃as,ReadsAll s.heap us ds as
 | _,_,_,.nil,r=>by cases r; exact ⟨_,.nil⟩
 | _,_,_,.cons h hs,r=>by
  cases r with
  | cons r rs =>
   obtain ⟨as,ra⟩:=RdV.reads I h r
   obtain ⟨bs,rb⟩:=RdVs.reads I hs rs
   exact ⟨_,.cons ra rb⟩
end
mutual
theorem RdV.noDict:∀{v:V} {d:Ad},RdV K H v d->d.hasDict=false
 | _,_,.non=>by simp only[Lq]
 | _,_,.bl b=>by simp only[Lq]
 | _,_,.int i=>by simp only[Lq]
 | _,_,.str x=>by simp only[Lq]
 | _,_,.lst h hs=>by simp only[Lq]; exact RdVs.noDict hs
 | _,_,.tup h hs=>by simp only[Lq]; exact RdVs.noDict hs
theorem RdVs.noDict:∀{vs:List V} {ds:List Ad},RdVs K H vs ds->Xn ds=false
 | _,_,.nil=>by simp only[Xn]
 | _,_,.cons h hs=>by simp only[Xn,RdV.noDict h,RdVs.noDict hs,Bool.or_self]
end
end
mutual
def Kk(b:Nat):Ad->Prop
 | .none=>True
 | .bool _=>True
 | .int i=>i.natAbs<10 ^ b
 | .str x=>(reprText x).length<=b
 | .list xs=>Jx b xs
 | .tuple xs=>Jx b xs
 | .dict _=>False
def Jx(b:Nat):List Ad->Prop
 | []=>True
 | x::xs=>Kk b x/\Jx b xs
end
mutual
def Hf:Ad->Nat
 | .list xs=>Hq xs+1
 | .tuple xs=>Hq xs+1
 | _=>1
def Hq:List Ad->Nat
 | []=>0
 | x::xs=>Hf x+Hq xs
end
theorem Oq{b:Nat}:∀{xs:List Ad},Jx b xs↔∀x∈xs,Kk b x
 | []=>by simp [Jx]
 | x::xs=>by simp only[Jx,Ao,forall_eq_or_imp,Oq (xs:=xs)]
theorem Rp{m:Nat}:∀{xs:List Ad},(∀x∈xs,Hf x<=m)->Hq xs<=m * xs.length
 | [],_=>by simp [Hq]
 | x::xs,h=>by
  have h1:=h x (Aa ..)
  have h2:=Rp (xs:=xs) λy hy=>h y (Ae _ hy)
  simp only[Hq,Ay,Qk,Nat.mul_one]
  omega
theorem oA(ns:List Int):Hq (ns.map Bm)=ns.length:=by
 induction ns with
 | nil=>rfl
 | cons n ns ih=>simp only[Ar,Hq,Hf,ih,Ay]; omega
theorem oE(ns:List Int):Bn (ns.map Bm)=0:=by
 induction ns with
 | nil=>rfl
 | cons n ns ih=>simp only[Ar,Bn,Dh,ih,Nat.max_self]
theorem Xq{m:Nat}:∀{xs:List Ad},(∀x∈xs,x.depth<=m)->Bn xs<=m
 | [],_=>by simp [Bn]
 | x::xs,h=>by
  have h1:=h x (Aa ..)
  have h2:=Xq (xs:=xs) λy hy=>h y (Ae _ hy)
  simp only[Bn]
  omega
theorem jZ(ts:List Str):(listText ts).length<=piled ts+2:=by
 cases ts with
 | nil=>rw[listText_nil]; decide
 | cons t r =>
  have h:=textFrom_length_pos r 1 (("[" : Str)++(if (0:Nat) > 0 then ", " else "" : String)++t) (Tc 0)
  have e:((("[" : Str)++(if (0:Nat) > 0 then ", " else "" : String)++t)).length=1+t.length:=by
   rw[Sw,Sw]; rfl
  have hX:(listText (t::r)).length=(textFrom 0 "[" (t::r)).length+1:=by
   show (textFrom 0 "[" (t::r) ++ "]").length=_
   rw[Sw]; rfl
  have hY:(textFrom 0 "[" (t::r)).length=(textFrom 1 (("[" : Str)++(if (0:Nat) > 0 then ", " else "" : String)++t) r).length:=rfl
  rw[hX,hY,h,e,piled_cons]; omega
theorem gL(ts:List Str):(tupleText ts).length<=piled ts+3:=by
 unfold tupleText
 rw[Sw,Sw]
 have e1:((("(" : String):Str)).length=1:=rfl
 have e3:(((if ts.length == 1 then ",)" else ")" : String):Str)).length<=2:=by split <;> decide
 rw[e1]
 by_cases h:ts=[]
 ·subst h
  have : (Str.join ", " []).length=0:=rfl
  omega
 ·have:=join_length_add ts h
  omega
mutual
theorem jJ{b:Nat}:∀{d:Ad},Kk b d->d.shown.length+4<=(b+12) * Hf d
 | .none,_=>by simp only[Oe,Hf]; show 4+4<=_; omega
 | .bool c,_=>by
  simp only[Oe,Hf]
  cases c
  ·show 5+4<=_; omega
  ·show 4+4<=_; omega
 | .int i,h=>by
  simp only[Oe,Hf]
  have h':i.natAbs<10 ^ b:=by simpa only [Kk] using h
  have h2:i.natAbs<10 ^ (b+1):=Ca h' (Ia (by decide) (by omega))
  have h3:(Fu (toString i)).length<=b+2:=by
   have h4:=int_text_length_le10 (a:=i) (k:=b+1) (by omega) h2
   have h5:(Fu (toString i)).length=(toString i).length:=PySem.ofString_length _
   omega
  have h6:((toString i:String):Str).length=(Fu (toString i)).length:=rfl
  omega
 | .str x,h=>by
  simp only[Oe,Hf]
  have h':(reprText x).length<=b:=by simpa only [Kk] using h
  omega
 | .list xs,h=>by
  simp only[Oe,Hf]
  have h1:=Qv (b:=b) (xs:=xs) (by simpa only [Kk] using h)
  have h2:=jZ (Nf xs)
  rw[Qk]
  omega
 | .tuple xs,h=>by
  simp only[Oe,Hf]
  have h1:=Qv (b:=b) (xs:=xs) (by simpa only [Kk] using h)
  have h2:=gL (Nf xs)
  rw[Qk]
  omega
 | .dict kvs,h=>by simp only[Kk] at h
theorem Qv{b:Nat}:∀{xs:List Ad},Jx b xs->piled (Nf xs)<=(b+12) * Hq xs
 | [],_=>by simp only[Nf,Hq,piled_nil]; omega
 | x::xs,h=>by
  simp only[Jx] at h
  have h1:=jJ h.1
  have h2:=Qv h.2
  simp only[Nf,Hq,piled_cons]
  rw[Qk]
  omega
end
theorem sZ{b i:Nat}(hb:b<=400)(h:i<10 ^ b):i.log2<1920:=by
 have h1:i<2 ^ 1920:=Ca h (Ci (Ia (by decide) hb) (by decide +kernel))
 by_cases z:i=0
 ·subst z; decide
 ·exact (Nat.log2_lt z).mpr h1
mutual
theorem Xw{b:Nat}(hb:b<=400):∀{d:Ad},Kk b d->d.showable=true
 | .none,_=>by simp only[Ja]
 | .bool c,_=>by simp only[Ja]
 | .int i,h=>by
  simp only[Ja]
  exact decide_eq_true (sZ hb (by simpa only [Kk] using h))
 | .str x,h=>by simp only[Ja]
 | .list xs,h=>by simp only[Ja]; exact showableAll_of hb (by simpa only [Kk] using h)
 | .tuple xs,h=>by simp only[Ja]; exact showableAll_of hb (by simpa only [Kk] using h)
 | .dict kvs,h=>by simp only[Kk] at h
theorem showableAll_of{b:Nat}(hb:b<=400):∀{xs:List Ad},Jx b xs->Wg xs=true
 | [],_=>by simp only[Wg]
 | x::xs,h=>by
  simp only[Jx] at h
  simp only[Wg,Xw hb h.1,showableAll_of hb h.2,Bool.and_self]
end
def bG:Ad->Str
 | .str x=>x
 | d=>d.shown
structure Tells(K:PySem.W.Frag)(H:Hp)(x:V)(d:Ad):Prop where
 rd:RdV K H x d
 fits:∃b,b<=400/\Kk b d/\(b+12) * Hf d<=Bb
 depth:d.depth<=90
def BG(K:PySem.W.Frag):List V->Hp->VK->Prop:=λxs H Q=>∃x d,xs=[x]/\Tells K H x d/\Q (.str (bG d)) H
theorem Pp{X:Cx}(hg:X.A.guards=some [])(hu:X.A.units+100<cLine):Kr X (.type "str") (BG X.K):=by
 intro pins s σ H xs us Q I r h
 obtain ⟨x,d,rfl,⟨hr,⟨b,hb,hf,hz⟩,hd⟩,q⟩:=h
 obtain ⟨u,rfl,ru⟩:=vals1 r
 have hs:=Xw hb hf
 have hl:d.shown.length<=Bb:=by have:=jJ hf; omega
 have hnd:=hr.noDict
 obtain ⟨as,rs⟩:=hr.reads I ru
 cases hr with
 | non=>cases ru; exact PySem.P.str_of_none ⟨.str _,H,I.tok _,⟨_,rfl⟩,q⟩
 | bl c=>cases ru; exact PySem.P.str_of_bool ⟨.str _,H,I.tok _,⟨_,rfl⟩,by cases c <;> exact q⟩
 | int i =>
  obtain ⟨t,rfl⟩:=ru
  exact PySem.P.str_of_int (by simpa [Ja] using hs) ⟨.str _,H,I.tok _,⟨_,rfl⟩,q⟩
 | str y =>
  obtain ⟨t,rfl⟩:=ru
  exact PySem.P.str_of_str ⟨.str _,H,I,⟨_,rfl⟩,q⟩
 | lst h1 h2 =>
  cases ru
  exact str_of_reads rs hs (λz=>by rw[hnd] at z; cases z) hg (by omega) (λ_ _ e=>e) (λh' u tk hk=>⟨.str _,H,I.kept hk,⟨_,rfl⟩,q⟩) hl
 | tup h1 h2 =>
  cases ru
  exact str_of_reads rs hs (λz=>by rw[hnd] at z; cases z) hg (by omega) (λ_ _ e=>e) (λh' u tk hk=>⟨.str _,H,I.kept hk,⟨_,rfl⟩,q⟩) hl
theorem Fs.at'{xs:List V}{us:List Value}(r:Fs xs us){j:Nat}(h:j<us.length):∃x,xs[j]? = some x/\RelV x us[j]:=by
 have hl:=r.length
 have hj:j<xs.length:=by omega
 obtain ⟨u,hu,ru⟩:=r.get (i:=j) (x:=xs[j]) (by simp [hj])
 rw[Be h] at hu
 cases hu
 exact ⟨xs[j],by simp [hj],ru⟩
section
variable{X:Cx}{pins:List (Addr×Obj)}{σ:L2.St}{H:Hp}{s:Aj}{A:Cu}
theorem eQ(A:Cu):A.in1.units<=A.units+1:=by
 first | exact Ai _ | (simp [Around.in1]; done) | (unfold Around.in1; simp)
theorem mH:Kr X (.builtin "isinstance") (λxs H Q=>∃x n t b,xs=[x,.ty n]/\TyOf X.K H x t/\PySem.W.kitOne X.K t (.type n)=some b/\Q (.bl b) H):=by
 intro pins s σ H xs us Q I r h
 obtain ⟨x,n,t,b,rfl,ty,e,q⟩:=h
 obtain ⟨u,v,rfl,ru,rv⟩:=vals2 r
 cases rv
 exact sT I ru ty e λtk=>⟨.bl b,H,I.tok _,rfl,q⟩
theorem yP(hc:X.calm=true):Kr X (.builtin "all") (λxs H Q=>∃(p:Addr) (bs:List Bool),xs=[.ref p]/\Ud X.K H p (bs.map V.bl)/\Q (.bl (bs.all id)) H):=by
 intro pins s σ H xs us Q I r h
 obtain ⟨p,bs,rfl,hp,q⟩:=h
 obtain ⟨u,rfl,ru⟩:=vals1 r
 cases ru
 obtain ⟨its,rv,pl,_⟩:=I.list hp
 have hlen:its.toArray.size=bs.length:=by
  have:=rv.length
  rw[Ab] at this
  rw[Av]; omega
 refine call_all_walk (fR pl.isList ?_)
 have hd:X.A.in1.handled=none:=I.ok.hd hc
 have ne:p≠s.heap.objs.size:=Da (let ⟨o,q,_⟩:=pl.isList; Bl q)
 refine ⟨s.heap.objs.size,_,_,_,_,_,λi=>bs.getD i false,rfl,Walks.list hd s.heap.objs.size p ne its.toArray,⟨⟨_,Bs _ rfl,rfl,rfl⟩,pl.isList.push _⟩,?_,?_⟩
 ·intro i v s' Q' E' hv hq
  have hv':its[i]? = some v:=by simpa using hv
  have hi:i<its.length:=(An.mp hv').1
  obtain ⟨x,e1,q1⟩:=Fs.at' rv hi
  rw[Be hi] at hv'
  have hv'':its[i]=v:=Cj hv'
  rw[hv''] at q1
  rw[Bw] at e1
  cases eb:bs[i]? with
  | none=>rw[eb] at e1; cases e1
  | some b =>
   rw[eb] at e1
   cases e1
   cases q1
   have : bs.getD i false=b:=by simp [Pe,eb]
   have hq':Q' (bs.getD i false) s':=hq
   rw[this] at hq'
   exact Gw hq'
 ·intro h' tk hk
  have e:((Bi its.toArray.size).all λi=>bs.getD i false)=bs.all id:=by
   rw[hlen]
   have : bs=(Bi bs.length).map (λj=>bs.getD j false):=(range_getD bs false).symm
   conv=>rhs; rw[this]
   rw[List.all_map]
   rfl
  rw[e]
  refine ⟨.bl _,H,I.kept (h':=h') (t':=tk) (λb o qq=>hk b o ?_ (Aq _ qq)),rfl,q⟩
  intro z
  have e2:b=s.heap.objs.size:=by simpa using z
  have e3:=Bl qq
  rw[e2] at e3
  exact absurd e3 (Ha _)
end
section
variable{prog:Bj}{w:World}{A:Cu}{E:Value->Aj->Prop}{s:Aj}
theorem Te{t sl:Addr}{items:Array Value}{vl vu:Value}{lo hi:Option Int}{Q:Value->Aj->Prop}(ht:IsTup s.heap t items)(hs:s.heap.IsSliceOf sl vl vu .none)(pl:Ym vl lo)(pu:Ym vu hi)(hw:HT.sIx items.size 0 lo=0/\HT.sIx items.size items.size hi=items.size)(h:Q (.ref t) s):wpAny (model prog w) A (Rq (.ref t) (.ref sl)) Q E s:=by
 obtain ⟨os,hos,hcs,hds⟩:=id hs
 have hTs:s.TypeIs (.ref sl) "slice" := ⟨os,hos,hcs⟩
 unfold Rq
 try with_reducible refine Fb ?_
 first | refine Ac (Ap ?_) | skip
 refine Ac (fQ ht.typeIs (by decide) ?_)
 refine Ac (Jg (name:=Fu "__getitem__") ht.typeIs Er
  (Hs Er ht.typeIs entry_tuple_getitem ?_ (args_tuple_getitem _ _)))
 show wpAny _ _ (Wi (.ref t) >>= _) _ _ s
 refine Ac (tupleItemsOf_ ht ?_)
 refine Ac (Ld hTs ?_)
 rw[if_pos (by decide)]
 refine Ac (HT.sliceApplied_gen hs pl pu ?_)
 rw[hw.1,hw.2]
 have hyes:(((0:Nat):Int) == 0 && (1:Int) == 1 && (items.size - 0) == items.size)=true:=by simp
 show wpAny _ _ (if (((0:Nat):Int) == 0 && (1:Int) == 1 && (items.size - 0) == items.size)=true then _ else _) _ _ s
 rw[if_pos hyes]
 have hex:∀{R:Bool->Aj->Prop},R true s->wpAny (model prog w) A.in1 (Wj (.ref t)) R E s:=λ{R} hR=>by
  unfold Wj
  refine Ac (Ld ht.typeIs (Ap ?_))
  rw[beq_self_eq_true]
  exact hR
 refine Ac (hex ?_)
 rw[if_pos rfl]
 exact Ac (wpAny_rule (Ap ⟨_,rfl,Ap h⟩))
end
mutual
def Ee:Ad->Ad->Bool
 | .none,.none=>true
 | .bool a,.bool b=>a == b
 | .bool a,.int b=>(if a then 1 else 0) == b
 | .int a,.bool b=>a == (if b then 1 else 0)
 | .int a,.int b=>a == b
 | .str a,.str b=>a == b
 | .list xs,.list ys=>Oa xs ys
 | .tuple xs,.tuple ys=>Oa xs ys
 | _,_=>false
def Oa:List Ad->List Ad->Bool
 | [],[]=>true
 | x::xs,y::ys=>Ee x y && Oa xs ys
 | _,_=>false
end
theorem Nv:∀ds es:List Ad,(((Bi (min ds.length es.length)).all λj=>Ee (ds.getD j .none) (es.getD j .none)) && ds.length == es.length)=Oa ds es
 | [],[]=>by simp [Oa]
 | [],_::_=>by simp [Oa]
 | _::_,[]=>by simp [Oa]
 | d::ds,e::es=>by
  have ih:=Nv ds es
  rw[Oa,<- ih]
  have h1:min (d::ds).length (e::es).length=min ds.length es.length+1:=by simp only[Ay]; omega
  rw[h1,List.range_succ_eq_map,List.all_cons,List.all_map]
  have h2:((d::ds).length == (e::es).length)=(ds.length == es.length):=by
   rw[Bool.eq_iff_iff]; simp
  rw[h2,Bool.and_assoc]
  rfl
section
variable{X:Cx}{pins:List (Addr×Obj)}{σ:L2.St}{H:Hp}{s:Aj}{K:PySem.W.Frag}
mutual
theorem RdV.eqD_self:∀{v:V} {d:Ad},RdV K H v d->Ee d d=true
 | _,_,.non=>by simp [Ee]
 | _,_,.bl b=>by simp [Ee]
 | _,_,.int i=>by simp [Ee]
 | _,_,.str x=>by simp [Ee]
 | _,_,.lst _ h=>by rw[Ee]; exact RdVs.eqDs_self h
 | _,_,.tup _ h=>by rw[Ee]; exact RdVs.eqDs_self h
theorem RdVs.eqDs_self:∀{vs:List V} {ds:List Ad},RdVs K H vs ds->Oa ds ds=true
 | _,_,.nil=>by simp [Oa]
 | _,_,.cons h t=>by rw[Oa,RdV.eqD_self h,RdVs.eqDs_self t]; rfl
end
theorem jK(I:Inv X pins σ H s){a:Addr}{xs ys:List V}(h1:Ud X.K H a xs)(h2:Ur X.K H a ys):False:=by
 obtain ⟨us,_,p1,_⟩:=I.list h1
 obtain ⟨vs,_,p2,_⟩:=I.tuple h2
 exact SeqAt.ne_of_list_tuple p1.isList p2 rfl
mutual
theorem RdV.det(I:Inv X pins σ H s):∀{v:V} {d e:Ad},RdV X.K H v d->RdV X.K H v e->d=e
 | _,_,_,.non,h=>by cases h; rfl
 | _,_,_,.bl b,h=>by cases h; rfl
 | _,_,_,.int i,h=>by cases h; rfl
 | _,_,_,.str x,h=>by cases h; rfl
 | _,_,_,.lst q r,h=>by
  cases h with
  | lst q' r' =>
   have e:=I.list_inj q q'
   subst e
   rw[RdVs.det I r r']
  | tup q' r'=>exact (jK I q q').elim
 | _,_,_,.tup q r,h=>by
  cases h with
  | lst q' r'=>exact (jK I q' q).elim
  | tup q' r' =>
   have e:=I.tuple_inj q q'
   subst e
   rw[RdVs.det I r r']
theorem RdVs.det(I:Inv X pins σ H s):∀{vs:List V} {ds es:List Ad},RdVs X.K H vs ds->RdVs X.K H vs es->ds=es
 | _,_,_,.nil,h=>by cases h; rfl
 | _,_,_,.cons r t,h=>by
  cases h with
  | cons r' t'=>rw[RdV.det I r r',RdVs.det I t t']
end
theorem RdVs.length:∀{vs:List V} {ds:List Ad},RdVs K H vs ds->vs.length=ds.length
 | _,_,.nil=>rfl
 | _,_,.cons _ t=>by rw[Ay,Ay,RdVs.length t]
theorem Wq{A:Cu}{n:Nat}(h:A.units+(n+1)<cLine):A.in1.units+n<cLine:=by
 have:=eQ A
 omega
theorem kP{A:Cu}{a b:Addr}{us vs:List Value}{ds es:List Ad}(p1:PlainL s.heap a us.toArray)(p2:PlainL s.heap b vs.toArray)(l1:us.length=ds.length)(l2:vs.length=es.length)(hu:A.units<cLine)(he:∀j (h1:j<us.length) (h2:j<vs.length),Mi A.in1 s us[j] vs[j] (Ee (ds.getD j .none) (es.getD j .none))):SeqAt.RcAt A s (.ref a) (.ref b) (Oa ds es):=by
 rw[<- Nv]
 by_cases hl:ds.length=es.length
 ·have hs:us.toArray.size=vs.toArray.size:=by rw[Av,Av,l1,l2,hl]
  have h:=SeqAt.RcAt.lists (A:=A) (e:=λj=>Ee (ds.getD j .none) (es.getD j .none)) p1.isList p2.isList hs hu (λj h1 h2=>by simpa using he j (by simpa using h1) (by simpa using h2))
  rw[Av,l1] at h
  rw[hl,Nat.min_self,beq_self_eq_true,Bool.and_true,<- hl]
  exact h
 ·have hs:(us.toArray.size != vs.toArray.size)=true:=by rw[Av,Av,l1,l2]; simpa using hl
  have h:=SeqAt.RcAt.lists_lengths (A:=A) p1.isList p2.isList hs hu
  have e0:(ds.length == es.length)=false:=by simpa using hl
  rw[e0,Uv]
  exact h
theorem eR{A:Cu}{a b:Addr}{us vs:List Value}{ds es:List Ad}(p1:IsTup s.heap a us.toArray)(p2:IsTup s.heap b vs.toArray)(l1:us.length=ds.length)(l2:vs.length=es.length)(hu:A.units<cLine)(he:∀j (h1:j<us.length) (h2:j<vs.length),Mi A.in1 s us[j] vs[j] (Ee (ds.getD j .none) (es.getD j .none))):SeqAt.RcAt A s (.ref a) (.ref b) (Oa ds es):=by
 rw[<- Nv]
 have h:=SeqAt.RcAt.tuples (A:=A) (e:=λj=>Ee (ds.getD j .none) (es.getD j .none)) (show s.heap.IsTuple a us.toArray from p1) (show s.heap.IsTuple b vs.toArray from p2) hu (λj h1 h2=>by simpa using he j (by simpa using h1) (by simpa using h2))
 rw[Av,Av,l1,l2] at h
 exact h
mutual
theorem wO(I:Inv X pins σ H s):∀{A:Cu} {x y:V} {d e:Ad} {u v:Value},RdV X.K H x d->RdV X.K H y e->RelV x u->RelV y v->A.units+d.depth<cLine->Mi A s u v (Ee d e)
 | A,_,_,_,_,_,_,.non,h,ru,rv,hu=>by
  cases ru
  have hu':A.units<cLine:=by omega
  cases h with
  | non=>cases rv; rw[Ee]; exact SeqAt.EqAt.same _
  | bl b=>cases rv; rw[Ee]; exact SeqAt.EqAt.none_bool b; all_goals simp
  | int b=>obtain ⟨t,rfl⟩:=rv; rw[Ee]; exact SeqAt.EqAt.none_int b t; all_goals simp
  | str b=>obtain ⟨t,rfl⟩:=rv; rw[Ee]; exact SeqAt.EqAt.none_str b t; all_goals simp
  | lst q r=>cases rv; obtain ⟨us,_,p,_⟩:=I.list q; rw[Ee]; exact SeqAt.EqAt.none_list p.isList hu'; all_goals simp
  | tup q r=>cases rv; obtain ⟨us,_,p,_⟩:=I.tuple q; rw[Ee]; exact SeqAt.EqAt.none_tuple p hu'; all_goals simp
 | A,_,_,_,_,_,_,.bl a,h,ru,rv,hu=>by
  cases ru
  have hu':A.units<cLine:=by omega
  cases h with
  | non=>cases rv; rw[Ee]; exact SeqAt.EqAt.bool_none a; all_goals simp
  | bl b=>cases rv; rw[Ee]; exact SeqAt.EqAt.bool_bool a b
  | int b=>obtain ⟨t,rfl⟩:=rv; rw[Ee]; exact SeqAt.EqAt.bool_int a b t
  | str b=>obtain ⟨t,rfl⟩:=rv; rw[Ee]; exact SeqAt.EqAt.bool_str a b t; all_goals simp
  | lst q r=>cases rv; obtain ⟨us,_,p,_⟩:=I.list q; rw[Ee]; exact SeqAt.EqAt.bool_list a p.isList hu'; all_goals simp
  | tup q r=>cases rv; obtain ⟨us,_,p,_⟩:=I.tuple q; rw[Ee]; exact SeqAt.EqAt.bool_tuple a p hu'; all_goals simp
 | A,_,_,_,_,_,_,.int a,h,ru,rv,hu=>by
  obtain ⟨t',rfl⟩:=ru
  have hu':A.units<cLine:=by omega
  cases h with
  | non=>cases rv; rw[Ee]; exact SeqAt.EqAt.int_none a t'; all_goals simp
  | bl b=>cases rv; rw[Ee]; exact SeqAt.EqAt.int_bool a t' b
  | int b=>obtain ⟨t,rfl⟩:=rv; rw[Ee]; exact SeqAt.EqAt.int_int a t' b t
  | str b=>obtain ⟨t,rfl⟩:=rv; rw[Ee]; exact SeqAt.EqAt.int_str a t' b t; all_goals simp
  | lst q r=>cases rv; obtain ⟨us,_,p,_⟩:=I.list q; rw[Ee]; exact SeqAt.EqAt.int_list a t' p.isList hu'; all_goals simp
  | tup q r=>cases rv; obtain ⟨us,_,p,_⟩:=I.tuple q; rw[Ee]; exact SeqAt.EqAt.int_tuple a t' p hu'; all_goals simp
 | A,_,_,_,_,_,_,.str a,h,ru,rv,hu=>by
  obtain ⟨t',rfl⟩:=ru
  have hu':A.units<cLine:=by omega
  cases h with
  | non=>cases rv; rw[Ee]; exact SeqAt.EqAt.str_none a t'; all_goals simp
  | bl b=>cases rv; rw[Ee]; exact SeqAt.EqAt.str_bool a t' b; all_goals simp
  | int b=>obtain ⟨t,rfl⟩:=rv; rw[Ee]; exact SeqAt.EqAt.str_int a t' b t; all_goals simp
  | str b=>obtain ⟨t,rfl⟩:=rv; rw[Ee]; exact SeqAt.EqAt.str_str a t' b t
  | lst q r=>cases rv; obtain ⟨us,_,p,_⟩:=I.list q; rw[Ee]; exact SeqAt.EqAt.str_list a t' p.isList hu'; all_goals simp
  | tup q r=>cases rv; obtain ⟨us,_,p,_⟩:=I.tuple q; rw[Ee]; exact SeqAt.EqAt.str_tuple a t' p hu'; all_goals simp
 | A,_,_,_,_,_,_,@RdV.lst _ _ a xs ds q r,h,ru,rv,hu=>by
  cases ru
  have hu':A.units<cLine:=by omega
  obtain ⟨us,r1,p,_⟩:=I.list q
  cases h with
  | non=>cases rv; rw[Ee]; exact SeqAt.EqAt.list_none p.isList hu'; all_goals simp
  | bl b=>cases rv; rw[Ee]; exact SeqAt.EqAt.list_bool b p.isList hu'; all_goals simp
  | int b=>obtain ⟨t,rfl⟩:=rv; rw[Ee]; exact SeqAt.EqAt.list_int b t p.isList hu'; all_goals simp
  | str b=>obtain ⟨t,rfl⟩:=rv; rw[Ee]; exact SeqAt.EqAt.list_str b t p.isList hu'; all_goals simp
  | @lst b ys es q2 rr2 =>
   cases rv
   obtain ⟨vs,r2,p2,_⟩:=I.list q2
   rw[Ee]
   by_cases hab:a=b
   ·subst hab
    have e:=I.list_inj q q2
    subst e
    rw[<- RdVs.det I r rr2,RdVs.eqDs_self r]
    exact SeqAt.EqAt.same _
   ·refine SeqAt.EqAt.of_refs hab (kP p p2 (r1.length.symm.trans r.length) (r2.length.symm.trans rr2.length) hu' λj h1 h2=>?_)
    exact Qh I r rr2 r1 r2 (Wq (by simpa only [Dh] using hu)) j h1 h2
  | tup q2 rr2=>cases rv; obtain ⟨vs,_,p2,_⟩:=I.tuple q2; rw[Ee]; exact SeqAt.EqAt.list_tuple p.isList p2 hu'; all_goals simp
 | A,_,_,_,_,_,_,@RdV.tup _ _ a xs ds q r,h,ru,rv,hu=>by
  cases ru
  have hu':A.units<cLine:=by omega
  obtain ⟨us,r1,p,_⟩:=I.tuple q
  cases h with
  | non=>cases rv; rw[Ee]; exact SeqAt.EqAt.tuple_none p hu'; all_goals simp
  | bl b=>cases rv; rw[Ee]; exact SeqAt.EqAt.tuple_bool b p hu'; all_goals simp
  | int b=>obtain ⟨t,rfl⟩:=rv; rw[Ee]; exact SeqAt.EqAt.tuple_int b t p hu'; all_goals simp
  | str b=>obtain ⟨t,rfl⟩:=rv; rw[Ee]; exact SeqAt.EqAt.tuple_str b t p hu'; all_goals simp
  | lst q2 rr2=>cases rv; obtain ⟨vs,_,p2,_⟩:=I.list q2; rw[Ee]; exact SeqAt.EqAt.tuple_list p p2.isList hu'; all_goals simp
  | @tup b ys es q2 rr2 =>
   cases rv
   obtain ⟨vs,r2,p2,_⟩:=I.tuple q2
   rw[Ee]
   by_cases hab:a=b
   ·subst hab
    have e:=I.tuple_inj q q2
    subst e
    rw[<- RdVs.det I r rr2,RdVs.eqDs_self r]
    exact SeqAt.EqAt.same _
   ·refine SeqAt.EqAt.of_refs hab (eR p p2 (r1.length.symm.trans r.length) (r2.length.symm.trans rr2.length) hu' λj h1 h2=>?_)
    exact Qh I r rr2 r1 r2 (Wq (by simpa only [Dh] using hu)) j h1 h2
theorem Qh(I:Inv X pins σ H s):∀{A:Cu} {xs ys:List V} {ds es:List Ad} {us vs:List Value},RdVs X.K H xs ds->RdVs X.K H ys es->Fs xs us->Fs ys vs->A.units+Bn ds<cLine->∀j (h1:j<us.length) (h2:j<vs.length),Mi A s us[j] vs[j] (Ee (ds.getD j .none) (es.getD j .none))
 | _,_,_,_,_,_,_,.nil,_,r1,_,_=>λj h1 h2=>by cases r1; exact absurd h1 (Dn _)
 | A,_,_,_,_,_,_,@RdVs.cons _ _ x d xs ds r t,h,r1,r2,hu=>λj h1 h2=>by
  cases h with
  | nil=>cases r2; exact absurd h2 (Dn _)
  | cons r' t' =>
   cases r1 with
   | cons ra ta =>
    cases r2 with
    | cons rb tb =>
     have hm:A.units+d.depth<cLine/\A.units+Bn ds<cLine:=by
      simp only[Bn] at hu
      omega
     cases j with
     | zero=>simpa using wO I r r' ra rb hm.1
     | succ j=>simpa using Qh I t t' ta tb hm.2 j (by simpa using h1) (by simpa using h2)
end
end
section
variable{X:Cx}{pins:List (Addr×Obj)}{σ:L2.St}{H:Hp}{s:Aj}{K:PySem.W.Frag}
theorem tX{A:Cu}{a b:Addr}{us vs:List Value}{ds es:List Ad}(p1:PlainL s.heap a us.toArray)(p2:PlainL s.heap b vs.toArray)(l1:us.length=ds.length)(l2:vs.length=es.length)(hu:A.units<cLine)(he:∀j (h1:j<us.length) (h2:j<vs.length),Mi A.in1 s us[j] vs[j] (Ee (ds.getD j .none) (es.getD j .none))):SeqAt.RcNeAt A s (.ref a) (.ref b) (!Oa ds es):=by
 rw[<- Nv]
 by_cases hl:ds.length=es.length
 ·have hs:us.toArray.size=vs.toArray.size:=by rw[Av,Av,l1,l2,hl]
  have h:=SeqAt.RcNeAt.lists (A:=A) (e:=λj=>Ee (ds.getD j .none) (es.getD j .none)) p1.isList p2.isList hs hu (λj h1 h2=>by simpa using he j (by simpa using h1) (by simpa using h2))
  rw[Av,l1] at h
  rw[hl,Nat.min_self,beq_self_eq_true,Bool.and_true,<- hl]
  exact h
 ·have hs:(us.toArray.size != vs.toArray.size)=true:=by rw[Av,Av,l1,l2]; simpa using hl
  have h:=SeqAt.RcNeAt.lists_lengths (A:=A) p1.isList p2.isList hs hu
  have e0:(ds.length == es.length)=false:=by simpa using hl
  rw[e0,Uv]
  exact h
theorem oI{A:Cu}{a b:Addr}{us vs:List Value}{ds es:List Ad}(p1:IsTup s.heap a us.toArray)(p2:IsTup s.heap b vs.toArray)(l1:us.length=ds.length)(l2:vs.length=es.length)(hu:A.units<cLine)(he:∀j (h1:j<us.length) (h2:j<vs.length),Mi A.in1 s us[j] vs[j] (Ee (ds.getD j .none) (es.getD j .none))):SeqAt.RcNeAt A s (.ref a) (.ref b) (!Oa ds es):=by
 rw[<- Nv]
 have h:=SeqAt.RcNeAt.tuples (A:=A) (e:=λj=>Ee (ds.getD j .none) (es.getD j .none)) (show s.heap.IsTuple a us.toArray from p1) (show s.heap.IsTuple b vs.toArray from p2) hu (λj h1 h2=>by simpa using he j (by simpa using h1) (by simpa using h2))
 rw[Av,Av,l1,l2] at h
 exact h
end
section
variable{X:Cx}
def CA(K:PySem.W.Frag):R2:=λx y H Q=>∃d e,RdV K H x d/\RdV K H y e/\d.depth<=60/\Q (.bl (Ee d e)) H
def AY(K:PySem.W.Frag):R2:=λx y H Q=>∃d e,RdV K H x d/\RdV K H y e/\d.depth<=60/\Q (.bl (!Ee d e)) H
theorem vI(hu:X.A.units+64<cLine):Wh X (Gi .Eq) (CA X.K):=by
 intro pins s σ H x y v u Q I rx ry h
 obtain ⟨d,e,h1,h2,hd,q⟩:=h
 have hu':X.A.units<cLine:=by omega
 cases h1 with
 | non =>
  cases rx
  cases h2 with
  | non=>cases ry; rw[Ee] at q; exact SeqAt.RcAt.none_none _ _ _ _ ⟨.bl _,H,I,rfl,q⟩
  | bl b=>cases ry; rw[Ee] at q; exact SeqAt.RcAt.none_bool b _ _ _ _ ⟨.bl _,H,I,rfl,q⟩; all_goals simp
  | int b=>obtain ⟨t,rfl⟩:=ry; rw[Ee] at q; exact SeqAt.RcAt.none_int b t _ _ _ _ ⟨.bl _,H,I,rfl,q⟩; all_goals simp
  | str b=>obtain ⟨t,rfl⟩:=ry; rw[Ee] at q; exact SeqAt.RcAt.none_str b t _ _ _ _ ⟨.bl _,H,I,rfl,q⟩; all_goals simp
  | @lst b ys es q2 rr2=>cases ry; obtain ⟨vs,r2,p2,_⟩:=I.list q2; rw[Ee] at q; exact SeqAt.RcAt.none_list p2.isList hu' _ _ _ _ ⟨.bl _,H,I,rfl,q⟩; all_goals simp
  | @tup b ys es q2 rr2=>cases ry; obtain ⟨vs,r2,p2,_⟩:=I.tuple q2; rw[Ee] at q; exact SeqAt.RcAt.none_tuple p2 hu' _ _ _ _ ⟨.bl _,H,I,rfl,q⟩; all_goals simp
 | bl a =>
  cases rx
  cases h2 with
  | non=>cases ry; rw[Ee] at q; exact SeqAt.RcAt.bool_none a _ _ _ _ ⟨.bl _,H,I,rfl,q⟩; all_goals simp
  | bl b=>cases ry; rw[Ee] at q; exact SeqAt.RcAt.bool_bool a b _ _ _ _ ⟨.bl _,H,I,rfl,q⟩
  | int b=>obtain ⟨t,rfl⟩:=ry; rw[Ee] at q; exact SeqAt.RcAt.bool_int a b t _ _ _ _ ⟨.bl _,H,I,rfl,q⟩
  | str b=>obtain ⟨t,rfl⟩:=ry; rw[Ee] at q; exact SeqAt.RcAt.bool_str a b t _ _ _ _ ⟨.bl _,H,I,rfl,q⟩; all_goals simp
  | @lst b ys es q2 rr2=>cases ry; obtain ⟨vs,r2,p2,_⟩:=I.list q2; rw[Ee] at q; exact SeqAt.RcAt.bool_list a p2.isList hu' _ _ _ _ ⟨.bl _,H,I,rfl,q⟩; all_goals simp
  | @tup b ys es q2 rr2=>cases ry; obtain ⟨vs,r2,p2,_⟩:=I.tuple q2; rw[Ee] at q; exact SeqAt.RcAt.bool_tuple a p2 hu' _ _ _ _ ⟨.bl _,H,I,rfl,q⟩; all_goals simp
 | int a =>
  obtain ⟨t',rfl⟩:=rx
  cases h2 with
  | non=>cases ry; rw[Ee] at q; exact SeqAt.RcAt.int_none a t' _ _ _ _ ⟨.bl _,H,I,rfl,q⟩; all_goals simp
  | bl b=>cases ry; rw[Ee] at q; exact SeqAt.RcAt.int_bool a t' b _ _ _ _ ⟨.bl _,H,I,rfl,q⟩
  | int b=>obtain ⟨t,rfl⟩:=ry; rw[Ee] at q; exact SeqAt.RcAt.int_int a t' b t _ _ _ _ ⟨.bl _,H,I,rfl,q⟩
  | str b=>obtain ⟨t,rfl⟩:=ry; rw[Ee] at q; exact SeqAt.RcAt.int_str a t' b t _ _ _ _ ⟨.bl _,H,I,rfl,q⟩; all_goals simp
  | @lst b ys es q2 rr2=>cases ry; obtain ⟨vs,r2,p2,_⟩:=I.list q2; rw[Ee] at q; exact SeqAt.RcAt.int_list a t' p2.isList hu' _ _ _ _ ⟨.bl _,H,I,rfl,q⟩; all_goals simp
  | @tup b ys es q2 rr2=>cases ry; obtain ⟨vs,r2,p2,_⟩:=I.tuple q2; rw[Ee] at q; exact SeqAt.RcAt.int_tuple a t' p2 hu' _ _ _ _ ⟨.bl _,H,I,rfl,q⟩; all_goals simp
 | str a =>
  obtain ⟨t',rfl⟩:=rx
  cases h2 with
  | non=>cases ry; rw[Ee] at q; exact SeqAt.RcAt.str_none a t' _ _ _ _ ⟨.bl _,H,I,rfl,q⟩; all_goals simp
  | bl b=>cases ry; rw[Ee] at q; exact SeqAt.RcAt.str_bool a t' b _ _ _ _ ⟨.bl _,H,I,rfl,q⟩; all_goals simp
  | int b=>obtain ⟨t,rfl⟩:=ry; rw[Ee] at q; exact SeqAt.RcAt.str_int a t' b t _ _ _ _ ⟨.bl _,H,I,rfl,q⟩; all_goals simp
  | str b=>obtain ⟨t,rfl⟩:=ry; rw[Ee] at q; exact SeqAt.RcAt.str_str a t' b t _ _ _ _ ⟨.bl _,H,I,rfl,q⟩
  | @lst b ys es q2 rr2=>cases ry; obtain ⟨vs,r2,p2,_⟩:=I.list q2; rw[Ee] at q; exact SeqAt.RcAt.str_list a t' p2.isList hu' _ _ _ _ ⟨.bl _,H,I,rfl,q⟩; all_goals simp
  | @tup b ys es q2 rr2=>cases ry; obtain ⟨vs,r2,p2,_⟩:=I.tuple q2; rw[Ee] at q; exact SeqAt.RcAt.str_tuple a t' p2 hu' _ _ _ _ ⟨.bl _,H,I,rfl,q⟩; all_goals simp
 | @lst a xs ds qa r =>
  cases rx
  obtain ⟨us,r1,p,_⟩:=I.list qa
  cases h2 with
  | non=>cases ry; rw[Ee] at q; exact SeqAt.RcAt.list_none p.isList hu' _ _ _ _ ⟨.bl _,H,I,rfl,q⟩; all_goals simp
  | bl b=>cases ry; rw[Ee] at q; exact SeqAt.RcAt.list_bool b p.isList hu' _ _ _ _ ⟨.bl _,H,I,rfl,q⟩; all_goals simp
  | int b=>obtain ⟨t,rfl⟩:=ry; rw[Ee] at q; exact SeqAt.RcAt.list_int b t p.isList hu' _ _ _ _ ⟨.bl _,H,I,rfl,q⟩; all_goals simp
  | str b=>obtain ⟨t,rfl⟩:=ry; rw[Ee] at q; exact SeqAt.RcAt.list_str b t p.isList hu' _ _ _ _ ⟨.bl _,H,I,rfl,q⟩; all_goals simp
  | @lst b ys es q2 rr2=>cases ry; obtain ⟨vs,r2,p2,_⟩:=I.list q2; rw[Ee] at q; exact kP p p2 (r1.length.symm.trans r.length) (r2.length.symm.trans rr2.length) hu' (λj h1 h2=>Qh I r rr2 r1 r2 (Wq (by simp only[Dh] at hd; omega)) j h1 h2) _ _ _ _ ⟨.bl _,H,I,rfl,q⟩
  | @tup b ys es q2 rr2=>cases ry; obtain ⟨vs,r2,p2,_⟩:=I.tuple q2; rw[Ee] at q; exact SeqAt.RcAt.list_tuple p.isList p2 hu' _ _ _ _ ⟨.bl _,H,I,rfl,q⟩; all_goals simp
 | @tup a xs ds qa r =>
  cases rx
  obtain ⟨us,r1,p,_⟩:=I.tuple qa
  cases h2 with
  | non=>cases ry; rw[Ee] at q; exact SeqAt.RcAt.tuple_none p hu' _ _ _ _ ⟨.bl _,H,I,rfl,q⟩; all_goals simp
  | bl b=>cases ry; rw[Ee] at q; exact SeqAt.RcAt.tuple_bool b p hu' _ _ _ _ ⟨.bl _,H,I,rfl,q⟩; all_goals simp
  | int b=>obtain ⟨t,rfl⟩:=ry; rw[Ee] at q; exact SeqAt.RcAt.tuple_int b t p hu' _ _ _ _ ⟨.bl _,H,I,rfl,q⟩; all_goals simp
  | str b=>obtain ⟨t,rfl⟩:=ry; rw[Ee] at q; exact SeqAt.RcAt.tuple_str b t p hu' _ _ _ _ ⟨.bl _,H,I,rfl,q⟩; all_goals simp
  | @lst b ys es q2 rr2=>cases ry; obtain ⟨vs,r2,p2,_⟩:=I.list q2; rw[Ee] at q; exact SeqAt.RcAt.tuple_list p p2.isList hu' _ _ _ _ ⟨.bl _,H,I,rfl,q⟩; all_goals simp
  | @tup b ys es q2 rr2=>cases ry; obtain ⟨vs,r2,p2,_⟩:=I.tuple q2; rw[Ee] at q; exact eR p p2 (r1.length.symm.trans r.length) (r2.length.symm.trans rr2.length) hu' (λj h1 h2=>Qh I r rr2 r1 r2 (Wq (by simp only[Dh] at hd; omega)) j h1 h2) _ _ _ _ ⟨.bl _,H,I,rfl,q⟩
theorem Y3(hu:X.A.units+64<cLine):Wh X (Gi .NotEq) (AY X.K):=by
 intro pins s σ H x y v u Q I rx ry h
 obtain ⟨d,e,h1,h2,hd,q⟩:=h
 have hu':X.A.units<cLine:=by omega
 cases h1 with
 | non =>
  cases rx
  cases h2 with
  | non=>cases ry; rw[Ee] at q; exact SeqAt.RcNeAt.none_none _ _ _ _ ⟨.bl _,H,I,rfl,q⟩
  | bl b=>cases ry; rw[Ee] at q; exact SeqAt.RcNeAt.none_bool b _ _ _ _ ⟨.bl _,H,I,rfl,q⟩; all_goals simp
  | int b=>obtain ⟨t,rfl⟩:=ry; rw[Ee] at q; exact SeqAt.RcNeAt.none_int b t _ _ _ _ ⟨.bl _,H,I,rfl,q⟩; all_goals simp
  | str b=>obtain ⟨t,rfl⟩:=ry; rw[Ee] at q; exact SeqAt.RcNeAt.none_str b t _ _ _ _ ⟨.bl _,H,I,rfl,q⟩; all_goals simp
  | @lst b ys es q2 rr2=>cases ry; obtain ⟨vs,r2,p2,_⟩:=I.list q2; rw[Ee] at q; exact SeqAt.RcNeAt.none_list p2.isList hu' _ _ _ _ ⟨.bl _,H,I,rfl,q⟩; all_goals simp
  | @tup b ys es q2 rr2=>cases ry; obtain ⟨vs,r2,p2,_⟩:=I.tuple q2; rw[Ee] at q; exact SeqAt.RcNeAt.none_tuple p2 hu' _ _ _ _ ⟨.bl _,H,I,rfl,q⟩; all_goals simp
 | bl a =>
  cases rx
  cases h2 with
  | non=>cases ry; rw[Ee] at q; exact SeqAt.RcNeAt.bool_none a _ _ _ _ ⟨.bl _,H,I,rfl,q⟩; all_goals simp
  | bl b=>cases ry; rw[Ee] at q; exact SeqAt.RcNeAt.bool_bool a b _ _ _ _ ⟨.bl _,H,I,rfl,q⟩
  | int b=>obtain ⟨t,rfl⟩:=ry; rw[Ee] at q; exact SeqAt.RcNeAt.bool_int a b t _ _ _ _ ⟨.bl _,H,I,rfl,q⟩
  | str b=>obtain ⟨t,rfl⟩:=ry; rw[Ee] at q; exact SeqAt.RcNeAt.bool_str a b t _ _ _ _ ⟨.bl _,H,I,rfl,q⟩; all_goals simp
  | @lst b ys es q2 rr2=>cases ry; obtain ⟨vs,r2,p2,_⟩:=I.list q2; rw[Ee] at q; exact SeqAt.RcNeAt.bool_list a p2.isList hu' _ _ _ _ ⟨.bl _,H,I,rfl,q⟩; all_goals simp
  | @tup b ys es q2 rr2=>cases ry; obtain ⟨vs,r2,p2,_⟩:=I.tuple q2; rw[Ee] at q; exact SeqAt.RcNeAt.bool_tuple a p2 hu' _ _ _ _ ⟨.bl _,H,I,rfl,q⟩; all_goals simp
 | int a =>
  obtain ⟨t',rfl⟩:=rx
  cases h2 with
  | non=>cases ry; rw[Ee] at q; exact SeqAt.RcNeAt.int_none a t' _ _ _ _ ⟨.bl _,H,I,rfl,q⟩; all_goals simp
  | bl b=>cases ry; rw[Ee] at q; exact SeqAt.RcNeAt.int_bool a t' b _ _ _ _ ⟨.bl _,H,I,rfl,q⟩
  | int b=>obtain ⟨t,rfl⟩:=ry; rw[Ee] at q; exact SeqAt.RcNeAt.int_int a t' b t _ _ _ _ ⟨.bl _,H,I,rfl,q⟩
  | str b=>obtain ⟨t,rfl⟩:=ry; rw[Ee] at q; exact SeqAt.RcNeAt.int_str a t' b t _ _ _ _ ⟨.bl _,H,I,rfl,q⟩; all_goals simp
  | @lst b ys es q2 rr2=>cases ry; obtain ⟨vs,r2,p2,_⟩:=I.list q2; rw[Ee] at q; exact SeqAt.RcNeAt.int_list a t' p2.isList hu' _ _ _ _ ⟨.bl _,H,I,rfl,q⟩; all_goals simp
  | @tup b ys es q2 rr2=>cases ry; obtain ⟨vs,r2,p2,_⟩:=I.tuple q2; rw[Ee] at q; exact SeqAt.RcNeAt.int_tuple a t' p2 hu' _ _ _ _ ⟨.bl _,H,I,rfl,q⟩; all_goals simp
 | str a =>
  obtain ⟨t',rfl⟩:=rx
  cases h2 with
  | non=>cases ry; rw[Ee] at q; exact SeqAt.RcNeAt.str_none a t' _ _ _ _ ⟨.bl _,H,I,rfl,q⟩; all_goals simp
  | bl b=>cases ry; rw[Ee] at q; exact SeqAt.RcNeAt.str_bool a t' b _ _ _ _ ⟨.bl _,H,I,rfl,q⟩; all_goals simp
  | int b=>obtain ⟨t,rfl⟩:=ry; rw[Ee] at q; exact SeqAt.RcNeAt.str_int a t' b t _ _ _ _ ⟨.bl _,H,I,rfl,q⟩; all_goals simp
  | str b=>obtain ⟨t,rfl⟩:=ry; rw[Ee] at q; exact SeqAt.RcNeAt.str_str a t' b t _ _ _ _ ⟨.bl _,H,I,rfl,q⟩
  | @lst b ys es q2 rr2=>cases ry; obtain ⟨vs,r2,p2,_⟩:=I.list q2; rw[Ee] at q; exact SeqAt.RcNeAt.str_list a t' p2.isList hu' _ _ _ _ ⟨.bl _,H,I,rfl,q⟩; all_goals simp
  | @tup b ys es q2 rr2=>cases ry; obtain ⟨vs,r2,p2,_⟩:=I.tuple q2; rw[Ee] at q; exact SeqAt.RcNeAt.str_tuple a t' p2 hu' _ _ _ _ ⟨.bl _,H,I,rfl,q⟩; all_goals simp
 | @lst a xs ds qa r =>
  cases rx
  obtain ⟨us,r1,p,_⟩:=I.list qa
  cases h2 with
  | non=>cases ry; rw[Ee] at q; exact SeqAt.RcNeAt.list_none p.isList hu' _ _ _ _ ⟨.bl _,H,I,rfl,q⟩; all_goals simp
  | bl b=>cases ry; rw[Ee] at q; exact SeqAt.RcNeAt.list_bool b p.isList hu' _ _ _ _ ⟨.bl _,H,I,rfl,q⟩; all_goals simp
  | int b=>obtain ⟨t,rfl⟩:=ry; rw[Ee] at q; exact SeqAt.RcNeAt.list_int b t p.isList hu' _ _ _ _ ⟨.bl _,H,I,rfl,q⟩; all_goals simp
  | str b=>obtain ⟨t,rfl⟩:=ry; rw[Ee] at q; exact SeqAt.RcNeAt.list_str b t p.isList hu' _ _ _ _ ⟨.bl _,H,I,rfl,q⟩; all_goals simp
  | @lst b ys es q2 rr2=>cases ry; obtain ⟨vs,r2,p2,_⟩:=I.list q2; rw[Ee] at q; exact tX p p2 (r1.length.symm.trans r.length) (r2.length.symm.trans rr2.length) hu' (λj h1 h2=>Qh I r rr2 r1 r2 (Wq (by simp only[Dh] at hd; omega)) j h1 h2) _ _ _ _ ⟨.bl _,H,I,rfl,q⟩
  | @tup b ys es q2 rr2=>cases ry; obtain ⟨vs,r2,p2,_⟩:=I.tuple q2; rw[Ee] at q; exact SeqAt.RcNeAt.list_tuple p.isList p2 hu' _ _ _ _ ⟨.bl _,H,I,rfl,q⟩; all_goals simp
 | @tup a xs ds qa r =>
  cases rx
  obtain ⟨us,r1,p,_⟩:=I.tuple qa
  cases h2 with
  | non=>cases ry; rw[Ee] at q; exact SeqAt.RcNeAt.tuple_none p hu' _ _ _ _ ⟨.bl _,H,I,rfl,q⟩; all_goals simp
  | bl b=>cases ry; rw[Ee] at q; exact SeqAt.RcNeAt.tuple_bool b p hu' _ _ _ _ ⟨.bl _,H,I,rfl,q⟩; all_goals simp
  | int b=>obtain ⟨t,rfl⟩:=ry; rw[Ee] at q; exact SeqAt.RcNeAt.tuple_int b t p hu' _ _ _ _ ⟨.bl _,H,I,rfl,q⟩; all_goals simp
  | str b=>obtain ⟨t,rfl⟩:=ry; rw[Ee] at q; exact SeqAt.RcNeAt.tuple_str b t p hu' _ _ _ _ ⟨.bl _,H,I,rfl,q⟩; all_goals simp
  | @lst b ys es q2 rr2=>cases ry; obtain ⟨vs,r2,p2,_⟩:=I.list q2; rw[Ee] at q; exact SeqAt.RcNeAt.tuple_list p p2.isList hu' _ _ _ _ ⟨.bl _,H,I,rfl,q⟩; all_goals simp
  | @tup b ys es q2 rr2=>cases ry; obtain ⟨vs,r2,p2,_⟩:=I.tuple q2; rw[Ee] at q; exact oI p p2 (r1.length.symm.trans r.length) (r2.length.symm.trans rr2.length) hu' (λj h1 h2=>Qh I r rr2 r1 r2 (Wq (by simp only[Dh] at hd; omega)) j h1 h2) _ _ _ _ ⟨.bl _,H,I,rfl,q⟩
theorem zZ{z z':V}{v:Value}(h:RelV z v)(h':RelV z' v):z=z':=by
 cases z <;> cases z' <;> simp only[L2.RelV] at h h' <;> first | rfl | (subst h; cases h'; rfl) | (subst h; cases h'; done) | (obtain ⟨t,rfl⟩:=h; obtain ⟨t',e⟩:=h'; cases e; rfl) | (obtain ⟨t,rfl⟩:=h; obtain ⟨t',e⟩:=h'; cases e; done) | (obtain ⟨t,rfl⟩:=h; cases h'; done) | (subst h; obtain ⟨t',e⟩:=h'; cases e)
open Classical in
noncomputable def Tr(K:PySem.W.Frag)(H:Hp)(d:Ad)(v:Value):Bool:=if h:∃e z,RdV K H z e/\RelV z v then Ee h.choose d else false
theorem kW{pins:List (Addr×Obj)}{σ:L2.St}{H:Hp}{s:Aj}(I:Inv X pins σ H s){d e:Ad}{z:V}{v:Value}(h:RdV X.K H z e)(r:RelV z v):Tr X.K H d v=Ee e d:=by
 unfold Tr
 have hx:∃e z,RdV X.K H z e/\RelV z v:=⟨e,z,h,r⟩
 rw[dif_pos hx]
 obtain ⟨z',h',r'⟩:=hx.choose_spec
 have ez:=zZ r' r
 subst ez
 rw[RdV.det I h' h]
theorem Wu{pins:List (Addr×Obj)}{σ:L2.St}{H:Hp}{s:Aj}(I:Inv X pins σ H s){d:Ad}:∀{xs:List V} {ds:List Ad} {us:List Value},RdVs X.K H xs ds->Fs xs us->us.any (Tr X.K H d)=ds.any λe=>Ee e d
 | _,_,_,.nil,r=>by cases r; rfl
 | _,_,_,.cons h t,r=>by
  cases r with
  | cons r1 r2=>rw[Mx,Mx,kW I h r1,Wu I t r2]
theorem Xb{pins:List (Addr×Obj)}{σ:L2.St}{H:Hp}{s:Aj}(I:Inv X pins σ H s){A:Cu}{x:V}{d:Ad}{u:Value}(hx:RdV X.K H x d)(rx:RelV x u):∀{xs:List V} {ds:List Ad} {us:List Value},RdVs X.K H xs ds->Fs xs us->A.units+Bn ds<cLine->∀v∈us,Mi A s v u (Tr X.K H d v)
 | _,_,_,.nil,r,_=>λv hv=>by cases r; cases hv
 | _,_,_,@RdVs.cons _ _ y e ys es h t,r,hu=>λv hv=>by
  have hm:A.units+e.depth<cLine/\A.units+Bn es<cLine:=by
   simp only[Bn] at hu
   omega
  cases r with
  | cons r1 r2 =>
   rcases Ao.mp hv with rfl | hv
   ·rw[kW I h r1]; exact wO I h hx r1 rx hm.1
   ·exact Xb I hx rx t r2 hm.2 v hv
def EB(K:PySem.W.Frag)(neg:Bool):R2:=λx y H Q=>∃p xs d ds,y=.ref p/\(Ud K H p xs\/Ur K H p xs)/\RdV K H x d/\RdVs K H xs ds/\Bn ds<=60/\Q (.bl (if neg then !(ds.any λe=>Ee e d) else ds.any λe=>Ee e d)) H
theorem wI(hu:X.A.units+64<cLine):Wh X (Gi .In) (EB X.K false):=by
 intro pins s σ H x y v u Q I rx ry h
 obtain ⟨p,xs,d,ds,rfl,hq,hx,hs,hd,q⟩:=h
 cases ry
 have hu1:X.A.in1.units+Bn ds<cLine:=by have:=eQ X.A; omega
 rcases hq with hq | hq
 ·obtain ⟨its,r,pl,hz⟩:=I.list hq
  refine SeqAt.in_listAt (Tr X.K H d) pl.isList (λw hw=>Xb I hx rx hs r hu1 w (by simpa using hw)) ⟨.bl _,H,I,rfl,?_⟩
  rw[show its.toArray.any (Tr X.K H d)=its.any (Tr X.K H d) by simp,Wu I hs r]
  exact q
 ·obtain ⟨its,r,pl,hz⟩:=I.tuple hq
  refine SeqAt.in_tupleAt (Tr X.K H d) pl (λw hw=>Xb I hx rx hs r hu1 w (by simpa using hw)) ⟨.bl _,H,I,rfl,?_⟩
  rw[show its.toArray.any (Tr X.K H d)=its.any (Tr X.K H d) by simp,Wu I hs r]
  exact q
end
def GS(K:PySem.W.Frag)(a:Addr):It :=
 ⟨λi H=>∃xs x,Ud K H a xs/\xs[i]? = some x,λi H x H'=>∃p y,x=.ref p/\H p=none/\H'=upd H p (.tup [.int i,y])/\∀xs,Ud K H a xs->xs[i]? = some y,λi H=>∃xs,Ud K H a xs/\xs.length<=i⟩
section
variable{X:Cx}{pins:List (Addr×Obj)}{σ:L2.St}{H:Hp}{s:Aj}{h':Heap}
theorem Zo{t':Nat}{fp:List Addr}(I:Inv X pins σ H s)(k:∀b o,b∉fp->s.heap.get? b=some o->h'.get? b=some o)(hf:∀b∈fp,Ph X pins H b):Inv X pins σ H { s with heap:=h',toks:=t' }:=by
 have nit:∀b u,H b=some u->b∉fp:=λb u e z=>by rw[(hf b z).1] at e; cases e
 refine I.step (g':=s.gens) (d':=s.drawn) (ch:=fp) (λb hb=>?_) (λb o _ _ hc e _=>k b o hc e) (λb o _ _ hc e _=>⟨o.slots,k b o hc e⟩) (λ_ _ _ _ n=>n)
  (λb o hc e=>⟨o,k b o hc e⟩) (λ_ _ e=>e) (λ_ _ _ e=>e) (λb ps e=>⟨#[],by rw[e]; simp⟩) (λm hm=>?_) (λb u e=>?_) I.bare
 ·obtain ⟨_,f1,_,f3,f4,f5⟩:=hf b hb
  exact ⟨f3,f1,f4,f5⟩
 ·obtain ⟨o,es,ep,ho,r⟩:=hm
  exact ⟨o,es,ep,k _ o (λz=>(hf _ z).2.1 rfl) ho,r⟩
 ·refine (I.hok b u e).stay (λc v hc q=>k c v ?_ q) (λ_ q=>q) λ_ _ q=>q
  rcases hc with z | z
  ·rw[z]; exact nit b u e
  ·exact nit c _ z
end
theorem tY{P:Bj}{w:World}{K:PySem.W.Frag}{elts:List Expr}{k:Nat}{pos:Pos}(a e it:Addr)(ne:e≠it):Turn P w K (.Tuple elts k pos) (GS K a) [e,it] e (λi h=>(∃old,IsEnum h e it ((i:Nat):Int) old)/\h.IsListIter it a i) where
 mem:=Aa
 obj:=λi h st b hb=>by
  obtain ⟨⟨old,he⟩,o,e1,c,d⟩:=st
  rcases Ao.mp hb with z | z
  ·subst z
   exact ⟨_,he,λv z=>by cases z⟩
  ·rw[Af.mp z]
   exact ⟨o,e1,λv z=>by rw[d] at z; cases z⟩
 keep:=λi h h' st kp=>⟨let ⟨old,he⟩:=st.1; ⟨old,kp e Aa _ he⟩,st.2.at λo q=>kp it (Ae _ Aa) o q⟩
 item:=by
  intro X hP hw hK hc i pins s σ H E I hf st hg
  subst hP hw hK
  obtain ⟨xs,x,hq,hx⟩:=hg
  obtain ⟨its,rv,p,hz⟩:=I.list hq
  obtain ⟨u,hu,ru⟩:=rv.get hx
  obtain ⟨⟨old,he⟩,hit⟩:=st
  have el:e<s.heap.objs.size:=Bl he
  have il:it<s.heap.objs.size:=by obtain ⟨_,q,_⟩:=hit; exact Bl q
  refine wpAny_pyNext_enum_item he hit p.isList (x:=u) (by simpa using hu) ne λh1 ho hit1 hT hsz hk=>⟨_,rfl,wpAny_letOwnedTupleGo_enum ho λh2 he2 hs2=>?_⟩
  have hs2':Gf e h1 h2:=hs2
  -- the pair laid,then the iterators turned
  have I1:Inv X pins σ (upd H s.heap.objs.size (.tup [.int i,x])) { s with heap:=s.heap.push { cls:=.type "tuple",data:=.seq #[.int i s.toks,u] } } :=
   I.laid (t':=s.toks) (λb o q=>Aq _ q) (Ai _) ⟨by show 2<=Bb; decide,[.int i s.toks,u],.cons ⟨_,rfl⟩ (.cons ru .nil),_,Bs _ rfl,rfl,0,rfl⟩
  have nT:∀b∈[e,it],b≠s.heap.objs.size:=λb hb=>by
   rcases Ao.mp hb with z | z
   ·rw[z]; exact Da el
   ·rw[Af.mp z]; exact Da il
  have fr:∀b∈[e,it],(upd H s.heap.objs.size (.tup [.int i,x])) b=none:=λb hb=>by rw[Ew (nT b hb)]; exact (hf b hb).1
  refine ⟨.ref s.heap.objs.size,_,Zo (fp:=[e,it]) (s:={ s with heap:=s.heap.push { cls:=.type "tuple",data:=.seq #[.int i s.toks,u] } }) (h':=h2) (t':=s.toks+1) I1 (λb o hb q=>?_) (λb hb=>⟨fr b hb,(hf b hb).2⟩),rfl,⟨_,x,rfl,I.hok.fresh (Ai _),rfl,λys hy=>by rw[I.list_inj hy hq]; exact hx⟩,⟨⟨u,?_⟩,?_⟩,fr⟩
  ·have nbe:b≠e:=λz=>hb (by rw[z]; exact Aa)
   have nbi:b≠it:=λz=>hb (by rw[z]; exact Ae _ Aa)
   refine (hs2'.2 b nbe).trans ?_
   by_cases hbT:b=s.heap.objs.size
   ·subst hbT
    have q':=(Bs s.heap (o:={ cls:=.type "tuple",data:=.seq #[.int i s.toks,u] }) rfl).symm.trans q
    rw[hT]
    exact q'
   ·refine hk b o nbe nbi ?_
    have q0:(s.heap.push { cls:=.type "tuple",data:=.seq #[.int i s.toks,u] }).get? b=some o:=q
    rcases Heap.get?_push_cases q0 with z | z
    ·exact absurd z.1 hbT
    ·exact z
  ·have : ((i+1:Nat):Int)=(i:Int)+1:=by omega
   rw[this]
   exact he2
  ·exact hit1.at λo q=>(hs2'.2 it (Nm ne)).trans q
 done:=by
  intro X hP hw hK hc i pins s σ H E I hf st hg
  subst hP hw hK
  obtain ⟨xs,hq,hx⟩:=hg
  obtain ⟨its,rv,p,hz⟩:=I.list hq
  obtain ⟨⟨old,he⟩,hit⟩:=st
  have hl:=rv.length
  exact wpAny_pyNext_enum_end (I.ok.hd hc) he hit p.isList (by simp; omega) λh1 eb=>⟨rfl,Zo (fp:=[e,it]) (t':=s.toks) I (λb o hb q=>eb b o (λz=>hb (by rw[z]; exact Ae _ Aa)) q) hf⟩
 self:=λ_ _ _ _ _ st h=>let ⟨_,he⟩:=st.1; wpAny_pyIter_enum he h
section
variable{X:Cx}
def AN(K:PySem.W.Frag)(ta:TA):TI:=λσ H R=>ta σ H λvs H1=>∃a,vs=[.ref a]/\(∃xs,Ud K H1 a xs)/\R (GS K a) H1
theorem B9{elts:List Expr}{k:Nat}{tp:Pos}{a:Expr}{ta:TA}{p pos:Pos}(hg:Gl X "enumerate")(hm:X.mg "enumerate" = none)(ha:PA X [a] ta)(hs:By [a] X.env=[(false,eval a X.env)]:=by rfl):PI X (.Tuple elts k tp) (.Call (.Name "enumerate" p) [a] [] pos) (AN X.K ta):=by
 intro pins s σ H R I h
 refine Call_ (bN I hg hm (u:=.type "enumerate") (by decide +kernel) (Mg (Hh (ha pos pins s σ H _ I h) λus s1 ⟨vs,H1,I1,r1,q1⟩=>?_) hs rfl))
 obtain ⟨l,e,⟨xs,hq⟩,q⟩:=q1
 subst e
 obtain ⟨u,rfl,ru⟩:=vals1 r1
 cases ru
 obtain ⟨its,rv,pl,hz⟩:=I1.list hq
 refine call_enumerate_list pl.isList λh2 he hit hsz hk=>wpAny_pyIter_enum he ?_
 have fr:∀b∈[s1.heap.objs.size+1,s1.heap.objs.size],Ph X pins H1 b:=λb hb=>by
  rcases Ao.mp hb with z | z
  ·rw[z]; exact I1.fpOk (Nat.le_succ _) (I1.hok.fresh (Nat.le_succ _))
  ·rw[Af.mp z]; exact I1.fpOk (Ai _) (I1.hok.fresh (Ai _))
 exact ⟨s1.heap.objs.size+1,[s1.heap.objs.size+1,s1.heap.objs.size],_,_,H1,rfl,I1.kept (t':=s1.toks) hk,tY l _ _ (Nat.succ_ne_self _),⟨⟨_,he⟩,hit⟩,fr,q⟩
end
section
variable{X:Cx}
def R9(K:PySem.W.Frag)(J:It)(js:List Nat)(tc:TT)(te:TE)(σ:L2.St)(H1:Hp)(Q:VK):Prop:=∀D,H1 D=none->∃W:Nat->Nat->Hp->Prop,(∃m,W 0 m (upd H1 D (.lst [])))/\∀i m H,W i m H ->
 (J.stop i H/\Q (.ref D) H)\/(J.go i H/\∀x H',J.yld i H x H'->∃(t:Addr) (w1 w2:V),x=.ref t/\Ur K H' t [w1,w2]/\∃(N1:Hp->Prop) (N2:VK),(∀H2,N1 H2->∃m',m'<m/\W (i+1) m' H2) /\
  (∀y H3,N2 y H3->∃acc,H3 D=some (.lst acc)/\acc.length<Bb/\∃m',m'<m/\W (i+1) m' (upd H3 D (.lst (acc++[y])))) /\
  tc (some w1::some w2::Hg σ js) H' λc H2=>if c=true then te (some w1::some w2::Hg σ js) H2 N2 else N1 H2)
def nY(K:PySem.W.Frag)(wi:TI)(js:List Nat)(tc:TT)(te:TE):TE:=λσ H Q=>wi σ H λJ H1=>R9 K J js tc te σ H1 Q
end
section
variable{X:Cx}
theorem F9{elt iter:Expr}{x y0:Str}{px py pos spos:Pos}{i0:Nat}{ifs:List Expr}{scope:Scope}{cl:List (Str×Addr)}{ys:List Str}{js:List Nat}{wi:TI}{tc:TT}{te:TE}(hN:X.N.Nodup)(hi0:X.N[i0]? = some y0)(hy0:X.env.scope.names.lookup y0=some .local)(C:CompScope X scope cl x ys js)(hc:X.calm=true)(hi:PI X (.Name x px) iter wi)(ht:∀fp s H,uQ (Fi X scope cl (x::ys) fp s H) ifs tc)(he:∀fp s H,PE (Fi X scope cl (x::ys) fp s H) elt te)(hs:∀x,Eu iter X.env x=pure x:=by intro _; rfl)(hsw:Kf (.ListComp elt [⟨.Name x px,iter,ifs,0⟩] scope pos) (some (.Name y0 py)) spos.line X.env=pure true:=by rfl):PS X (.Assign [.Name y0 py] (.ListComp elt [⟨.Name x px,iter,ifs,0⟩] scope pos) spos) (yO (jR wi js tc te) (Tn i0)):=by
 intro pins s σ H De I h
 have h:jR wi js tc te σ H λv H1=>De.nx (σ.set i0 (some v)) H1:=h
 rw[exec_Assign_Name_used _ _ _ _ hsw]
 refine Ac (cN (Ac ?_))
 show wpAny _ X.A (do let _ <- comprehension (.ListComp elt [⟨.Name x px,iter,ifs,0⟩] scope pos) scope X.env _ (newList []) false (eval iter X.env) (some (Qq (.Name y0 py) X.env))) _ _ s
 refine Ac (Fy (Sv (use:=some (Qq (.Name y0 py) X.env)) (Q:=λ_ s'=>SP X pins De .next s') rfl hs C.clos C.kind C.locs (Hh (hi pins s σ H _ I h) λv s1 h1=>Hh h1 λitv s2 h2=>?_)) (λ_ s' hq=>Ap (Ap hq)) λ_ _ e=>e)
 obtain ⟨it,fp,tn,J,H2,e,I2,T,st2,f2,q2⟩:=h2
 subst e
 have fD:H2 s2.heap.objs.size=none:=I2.hok.fresh (Ai _)
 obtain ⟨W,⟨m0,w0⟩,turn⟩:=q2 s2.heap.objs.size fD
 refine Ei ?_
 have I3:Inv X pins σ (upd H2 s2.heap.objs.size (.lst [])) { s2 with heap:=s2.heap.push { cls:=.type "list",dict:=none,data:=.seq ([]:List Value).toArray } } :=
  I2.laid (t':=s2.toks) (λb u q=>Aq _ q) (Ai _) ⟨Do _,[],0,.nil,Bs _ rfl⟩
 obtain ⟨f3,st3',o3'⟩:=bI I2 T st2 f2 I3
 generalize hS3:({ s2 with heap:=s2.heap.push { cls:=.type "list",dict:=none,data:=.seq ([]:List Value).toArray } }:Aj)=s3 at I3
 have Rj:tn 0 s3.heap:=by rw[<- hS3]; exact st3'
 have o3:∀b∈fp,∃o,s3.heap.get? b=some o:=by rw[<- hS3]; exact o3'
 show wpAny _ _ (Qp scope X.env.globals cl [] X.env.qual none .none (some X.env)) _ _ _
 refine Wn C λh4 hns4 keep4 new4=>?_
 have I4:∀tk,Inv (Fi X scope cl (x::ys) fp s3 (upd H2 s2.heap.objs.size (.lst []))) [] (none::Hg σ js) (upd H2 s2.heap.objs.size (.lst [])) { s3 with heap:=h4,toks:=tk }:=λtk=>Up (pre:=[x]) C I3 f3 o3 hns4 keep4 new4
 have st4:tn 0 h4:=T.keep 0 _ _ Rj λb hb o q=>keep4 b o q
 generalize hX':Fi X scope cl (x::ys) fp s3 (upd H2 s2.heap.objs.size (.lst []))=X' at I4
 obtain ⟨eP,eW,eK,eA,eC⟩:=bJ hc hX'
 have stat:∀{H':Hp},(∀b∈fp,H' b=none)->∀b∈fp,Ph X' [] H' b:=λ{H'} hn=>Xd hX' (I4 0) hn
 have loop:∀s5:Aj,s5={ s3 with heap:=h4,toks:=s3.toks+([]:List (Str×Value)).length } ->
   Mv (model X.prog X.w) X.A (.compLoop (.ListComp elt [⟨.Name x px,iter,ifs,0⟩] scope pos) 0 (.ref it) (.ref s2.heap.objs.size) (compEnvC scope (Ez (s3.heap.objs.size+1) scope.names cl) s3.heap.objs.size X.env))
    (compPost (model X.prog X.w) X.A X.xe (some (Qq (.Name y0 py) X.env)) (λ_ s'=>SP X pins De .next s') (.ref s2.heap.objs.size) s3.heap.objs.size) s5:=by
  rintro s5 rfl
  refine Uk (λn s'=>∃i o H',Inv X' [] (o::Hg σ js) H' s'/\tn i s'.heap/\(∀b∈fp,H' b=none)/\W i n H') ?_ m0
   ⟨0,none,_,I4 _,st4,λb hb=>(f3 b hb).1,w0⟩
  (intro n s6 q_; obtain ⟨i,o,H6,I6,st6,fr6,w6⟩ := q_)
  rcases turn i n H6 w6 with ⟨stop,qn⟩ | ⟨go,step⟩
  ·have hd:=T.done X' eP eW eK eC i [] s6 _ H6 (λ_ _=>False) I6 (stat fr6) st6 stop
   rw[eA] at hd
   refine Hh hd λr s7 q0_ => ?_
   obtain ⟨hr,I7⟩ := q0_
   subst hr
   obtain ⟨⟨m7,hn7'⟩,I7f,J7⟩:=eS hX' I3 f3 I7
   have fC:Ph X pins H6 s3.heap.objs.size:=I3.fpOk (Ai _) I7f
   obtain ⟨oC,esC,epC,hoC,rC⟩:=id hn7'
   have J8:Inv X (pins++[(s3.heap.objs.size,oC)]) σ H6 s7:=J7.pins_of λp hp=>by
    rcases Aw.mp hp with z | z
    ·have q:=J7.pin p (Ag _ z)
     exact q
    ·rw[Af.mp z]
     exact ⟨hoC,I7f,fC.2.1,fC.2.2.1,λv hv=>by rw[rC.1] at hv; cases hv⟩
   refine Hh (Ot (X:=X) (i:=i0) (x:=y0) (pos:=py) hN hi0 (.inl hy0) (.inr hy0) (pins++[(s3.heap.objs.size,oC)]) s7 σ H6 (.ref s2.heap.objs.size) (.ref s2.heap.objs.size) (λσ' H'=>σ'=σ.set i0 (some (.ref s2.heap.objs.size))/\H'=H6) J8 rfl ⟨rfl,rfl⟩) λ_ s9 q0_ => ?_
   obtain ⟨σ9,H9,I9,e9,e9'⟩ := q0_
   subst e9 e9'
   have hoC9:=(I9.pin (s3.heap.objs.size,oC) (Ag _ (Ag _ Aa))).1
   have I9':Inv X pins (σ.set i0 (some (.ref s2.heap.objs.size))) H9 s9:=I9.pins_of λp hp=>I9.pin p (Ag _ (Al _ hp))
   refine ⟨m7,hn7'.at λo e=>by rw[hoC] at e; cases e; exact hoC9,λh10 hs10=>?_⟩
   exact ⟨_,H9,Zo (t':=s9.toks) (fp:=[s3.heap.objs.size]) I9' (λb o hb e=>(hs10.2 b (λz=>hb (by rw[z]; exact Aa))).trans e) (λb hb=>by rw[Af.mp hb]; exact fC),qn⟩
  ·have hit:=T.item X' eP eW eK eC i [] s6 _ H6 (λ_ _=>False) I6 (stat fr6) st6 go
   rw[eA] at hit
   refine Hh hit λr s7 q0_ => ?_
   obtain ⟨u,hr,h7⟩ := q0_
   subst hr
   refine Hh h7 λ_ s8 q0_ => ?_
   obtain ⟨y,H8,I8,r8,y8,st8,fr8⟩ := q0_
   have I8':=I8.pinned (stat fr8) (T.obj _ _ st8)
   obtain ⟨N1,N2,hN1,hN2,hst⟩:=step y H8 y8
   have again:∀{H9:Hp} {s9:Aj} {m':Nat},Inv X' ([]++Ul fp s8.heap) (some y::Hg σ js) H9 s9->m'<n->W (i+1) m' H9->∃m,m<n/\∃i o H',Inv X' [] (o::Hg σ js) H' s9/\tn i s9.heap/\(∀b∈fp,H' b=none)/\W i m H':=λ{H9 s9 m'} I9 hm w9=>by
    refine ⟨m',hm,i+1,some y,H9,I9.unpinned,T.keep _ _ _ st8 λb hb o e=>(I9.pin (b,o) (Ag _ (Ag _ (Jo hb e)))).1,λb hb=>?_,w9⟩
    obtain ⟨o,e,_⟩:=T.obj _ _ st8 b hb
    exact (I9.pin (b,o) (Ag _ (Ag _ (Jo hb e)))).2.1
   subst hX'
   refine Hh (Ot (i:=0) (x:=x) (pos:=px) C.nd rfl (Zj C.own) (gX C.own) _ s8 _ H8 y u (λσ' H'=>σ'=some y::Hg σ js/\H'=H8) I8' r8 ⟨rfl,rfl⟩) λ_ s9 q0_ => ?_
   obtain ⟨σ9,H9,I9,e9,e9'⟩ := q0_
   subst e9 e9'
   refine Hh (ht fp s3 _ _ s9 _ _ _ I9 hst) λok s10 q0_ => ?_
   obtain ⟨H10,I10,q10⟩ := q0_
   cases ok with
   | false =>
    rw[if_neg Cp] at q10 ⊢
    obtain ⟨m',hm,w10⟩:=hN1 _ q10
    exact again I10 hm w10
   | true =>
    rw[if_pos rfl] at q10 ⊢
    refine Hh (he fp s3 _ _ s10 _ _ _ I10 q10) λz s11 q0_ => ?_
    obtain ⟨vz,H11,I11,r11,q11⟩ := q0_
    obtain ⟨acc,ha,hz,m',hm,w11⟩:=hN2 _ _ q11
    refine Hh (Po _ s11 _ H11 (.ref s2.heap.objs.size) [vz] (.ref s2.heap.objs.size) [z] (λ_ H'=>H'=upd H11 s2.heap.objs.size (.lst (acc++[vz]))) I11 rfl (.cons r11 .nil) ⟨_,acc,vz,rfl,rfl,ha,hz,rfl⟩) λ_ s12 q0_ => ?_
    obtain ⟨_,H12,I12,_,e12⟩ := q0_
    subst e12
    exact again I12 hm w11
 exact Uy (loop _ rfl) (T.self X.A 0 _ _ _ st4 (loop _ rfl))
end
end Nd
namespace Nd
open PySem L2
def O7(K:PySem.W.Frag):R2:=λx y H Q=>∃a b xs ys,x=.ref a/\y=.ref b/\Ur K H a xs/\Ur K H b ys/\xs.length+ys.length<=Bb/\(xs=[]->Q (.ref b) H)/\(ys=[]->Q (.ref a) H)/\(∀p,H p=none->Q (.ref p) (upd H p (.tup (xs++ys))))
open PyProof.Rows in
theorem A6{X:Cx}:Wh X (Kx .Add) (O7 X.K):=by
 intro pins s σ H x y v u Q I rx ry h
 obtain ⟨a,b,xs,ys,rfl,rfl,ha,hb,hz,q1,q3,q2⟩:=h
 by_cases hx:xs=[]
 ·cases rx
  cases ry
  obtain ⟨its,r1,p1,_⟩:=I.tuple ha
  obtain ⟨its2,r2,p2,_⟩:=I.tuple hb
  have e1:its=[]:=r1.nil_iff.mpr hx
  subst e1
  obtain ⟨⟨c1,d1,dt1,sl1⟩,g1,k1,n1,e1⟩:=id p1
  obtain ⟨⟨c2,d2,dt2,sl2⟩,g2,k2,n2,e2⟩:=id p2
  simp only at k1 e1 k2 e2
  subst k1 e1 k2 e2
  exact concat_meets ⟨_,g1,rfl⟩ ⟨_,g2,rfl⟩ jA seq_tuple_add PySem.F.slot_tuple_add PySem.F.entry_tuple_add (PySem.F.args_tuple_add_2 _ _)
   (tuple_addW0 a b _ _ n1 n2 d1 d2 sl1 sl2 rfl) ⟨g1,g2,⟨.ref b,H,I,rfl,q1 hx⟩⟩
 ·exact x4 pins s σ H (.ref a) (.ref b) v u Q I rx ry ⟨a,b,xs,ys,rfl,rfl,ha,hb,hx,hz,q3,λ_=>q2⟩
end Nd
namespace Nd
open PySem PySem.Spec PyProof.Rows L2
end Nd
namespace Nd
open PySem L2
def HB(K:PySem.W.Frag):List V->Hp->VK->Prop:=λxs H Q=>∃x n t b,xs=[x,.ty n]/\TyOf K H x t/\PySem.W.kitOne K t (.type n)=some b/\Q (.bl b) H
theorem Pb{X:Cx}:Kr X (.builtin "isinstance") (HB X.K):=mH
theorem Q5{K:PySem.W.Frag}{T:String}:PySem.W.kitOne K (.type T) (.type T)=some true:=by
 unfold PySem.W.kitOne
 rw[if_pos (by simp)]
theorem compScope0{X:Cx}{scope:Scope}{x:Str}(clos:closureFor scope X.env=pure [])(nocell:∀y∈scope.names,y.2≠.cell)(kind:scope.kind=.function)(locs:∀y∈scope.names,y.2=.local->scope.names.lookup y.1=some .local)(own:scope.names.lookup x=some .local)(has_:(scope.names.all λy=>!(y.2 == En) || (([]:List (Str×Addr)).lookup y.1).isSome)=true):CompScope X scope [] x [] [] :=
 ⟨clos,.inl nocell,kind,locs,.inl own,λ_ _ h=>by simp at h,has_,Cn.mpr ⟨Bz,Cz⟩,rfl,λk y j e1 _=>by simp at e1⟩
theorem sz{n:Nat}(h:n<=1000:=by first | decide | simp | (simp; omega)):n<=Bb:=Mc (sW h)
end Nd
namespace Nd
open PySem PySem.Spec PyProof.Rows L2
theorem V1{K:PySem.W.Frag}{T n:String}{b:Bool}(h1:(Ep T == Ep n)=false)(h2:PySem.W.kitMeta n=true)(h3:(fastBuiltinMro T).map (λx=>x.contains (Ep n))=some b):PySem.W.kitOne K (.type T) (.type n)=some b:=by
 unfold PySem.W.kitOne PySem.W.kitCls
 rw[h1,if_neg (by decide)]
 dsimp only
 rw[if_pos h2]
 exact h3
theorem L9:∀{vs:List Value} {ns:List Int},Ge vs ns->Fs (ns.map V.int) vs
 | _,_,.nil=>.nil
 | _,_,.cons n t h=>.cons ⟨t,rfl⟩ (L9 h)
end Nd
namespace NdS
open PySem
theorem Vx{mask finger moves:Nat}{led plain:Bool}{hs:Array Int}{t:Bk}{order:Array Nat}(h:Gs mask finger moves led plain hs=some (t,order)):t.led=led/\t.mask=mask/\t.plain=plain/\t.dummies=#[]:=by
 unfold Gs at h
 cases hl:Jh mask hs with
 | none=>rw[hl] at h; cases h
 | some owner =>
  rw[hl] at h
  cases h
  exact ⟨rfl,rfl,rfl,rfl⟩
def st(m i:Nat):Nat:=(i * 5+1) % m
def it(m:Nat):Nat->Nat->Nat
 | 0,i=>i
 | t+1,i=>it m t (st m i)
theorem cF(m:Nat):∀(a b i:Nat),it m (a+b) i=it m b (it m a i)
 | 0,b,i=>by rw[Gz]; rfl
 | a+1,b,i=>by rw[Yl]; exact cF m a b (st m i)
def DD(m:Nat):Nat->Nat->List Nat
 | 0,_=>[]
 | f+1,i=>i::DD m f (st m i)
theorem Zp{m:Nat}:∀{f i e:Nat},e∈DD m f i->∃t,t<f/\it m t i=e
 | 0,_,_,h=>by cases h
 | f+1,i,e,h=>by
  rcases Ao.mp h with z | z
  ·exact ⟨0,Tc _,z.symm⟩
  ·obtain ⟨t,h1,h2⟩:=Zp z
   exact ⟨t+1,Nat.succ_lt_succ h1,h2⟩
def Jm(m:Nat):Prop:=0<m/\it m m 0=0/\∀e,e<m->e∈DD m m 0
theorem Pk{m:Nat}(h0:0<m)(h1:(it m m 0 == 0)=true)(h2:((Bi m).all λe=>(DD m m 0).contains e)=true):Jm m :=
 ⟨h0,by simpa using h1,λe he=>by
  have:=cP.mp h2 e (Df.mpr he)
  simpa using this⟩
theorem N7:Jm 8:=Pk (by decide) (by decide +kernel) (by decide +kernel)
theorem W7:Jm 16:=Pk (by decide) (by decide +kernel) (by decide +kernel)
theorem Q3:Jm 32:=Pk (by decide) (by decide +kernel) (by decide +kernel)
theorem Q9:Jm 64:=Pk (by decide) (by decide +kernel) (by decide +kernel)
theorem A7:Jm 128:=Pk (by decide) (by decide +kernel) (by decide +kernel)
theorem qB:Jm 256:=Pk (by decide) (by decide +kernel) (by decide +kernel)
theorem EA{m:Nat}(g:Jm m){i e:Nat}(hi:i<m)(he:e<m):∃t,t<m/\it m t i=e:=by
 obtain ⟨h0,h1,h2⟩:=g
 obtain ⟨a,ha,ea⟩:=Zp (h2 i hi)
 obtain ⟨b,hb,eb⟩:=Zp (h2 e he)
 by_cases hab:a<=b
 ·refine ⟨b - a,by omega,?_⟩
  rw[<- ea,<- cF,Nat.add_sub_cancel' hab]
  exact eb
 ·refine ⟨b+m - a,by omega,?_⟩
  rw[<- ea,<- cF,show a+(b+m - a)=m+b by omega,cF,h1]
  exact eb
def lp(m:Nat):Nat->Nat->Nat->Nat×Nat
 | 0,i,p=>(i,p)
 | t+1,i,p=>lp m t ((i * 5+1+p / 32) % m) (p / 32)
theorem zV(m:Nat):∀(a b i p:Nat),lp m (a+b) i p=lp m b (lp m a i p).1 (lp m a i p).2
 | 0,b,i,p=>by rw[Gz]; rfl
 | a+1,b,i,p=>by rw[Yl]; exact zV m a b _ _
theorem rZ(m:Nat):∀(t i:Nat),lp m t i 0=(it m t i,0)
 | 0,_=>rfl
 | t+1,i=>rZ m t (st m i)
theorem lG{m:Nat}:∀(n i p:Nat),p<32 ^ n->(lp m n i p).2=0
 | 0,i,p,h=>by show p=0; simpa using h
 | n+1,i,p,h=>lG n _ _ (by rw[Nat.pow_succ] at h; exact Nat.div_lt_of_lt_mul (by omega))
theorem P6{m:Nat}(h0:0<m):∀(n i p:Nat),i<m->(lp m n i p).1<m
 | 0,i,p,h=>h
 | n+1,i,p,h=>P6 h0 n _ _ (Mw _ h0)
theorem lW{m:Nat}(g:Jm m){i p e:Nat}(hi:i<m)(hp:p<2 ^ 64)(he:e<m):∃t,t<m+14/\(lp m t i p).1=e:=by
 have h13:=lG (m:=m) 13 i p (Ca hp (by decide))
 obtain ⟨t,ht,e1⟩:=EA g (P6 g.1 13 i p hi) he
 refine ⟨13+t,by omega,?_⟩
 rw[zV,h13,rZ]
 exact e1
theorem Si(mask i:Nat):i<=Dc mask i:=by unfold Dc; split <;> omega
theorem fE{mask:Nat}{owner:Array (Option Nat)}:∀(fuel i p t:Nat),t<fuel->(owner.getD (lp (mask+1) t i p).1 (some 0)).isNone=true->∃j,Dr mask owner fuel i p=some j/\(owner.getD j (some 0)).isNone=true
 | 0,_,_,_,h,_=>absurd h (Dn _)
 | fuel+1,i,p,t,h,hn=>by
  unfold Dr
  split
  ·rename_i k hk
   exact ⟨i+k,rfl,by have:=Td hk; exact this⟩
  ·rename_i hk
   rw[List.find?_eq_none] at hk
   cases t with
   | zero =>
    have:=hk 0 (Df.mpr (by have:=Si mask i; omega))
    exact absurd hn (by simpa [lp] using this)
   | succ t =>
    exact fE fuel _ _ t (by omega) hn
theorem Uc{L:List (Option Nat)}:∀{j x:Nat},L[j]? = some none->((L.set j (some x)).filterMap id).Perm (x::L.filterMap id):=by
 induction L with
 | nil=>intro j x h; simp at h
 | cons a L ih =>
  intro j x h
  cases j with
  | zero =>
   simp at h
   subst h
   simp
  | succ j =>
   have h':L[j]? = some none:=by simpa using h
   have:=ih (x:=x) h'
   cases a with
   | none=>simpa using this
   | some b=>simpa using (List.Perm.cons b this).trans (Et x b _)
theorem tK{L:List (Option Nat)}:(L.filterMap id).length<L.length->∃j:Nat,L[j]? = some none:=by
 induction L with
 | nil=>intro h; simp at h
 | cons a L ih =>
  intro h
  cases a with
  | none=>exact ⟨0,rfl⟩
  | some b =>
   have : (L.filterMap id).length<L.length:=by simpa using h
   obtain ⟨j,hj⟩:=ih this
   exact ⟨j+1,by simpa using hj⟩
theorem rV(h:Int):Cv h<2 ^ 64:=by
 unfold Cv
 have h1:=Int.emod_nonneg h (show (2 ^ 64:Int)≠0 by decide)
 have h2:=Int.emod_lt_of_pos h (show (0:Int)<2 ^ 64 by decide)
 omega
def iR(mask:Nat)(acc:Option (Array (Option Nat)×Nat))(h:Int):Option (Array (Option Nat)×Nat):=do
 let (owner,k) <- acc
 let j <- Dr mask owner (Ej mask) (Cv h % (mask+1)) (Cv h)
 pure (owner.setIfInBounds j (some k),k+1)
theorem kY{mask:Nat}(g:Jm (mask+1)):∀(hs:List Int) (owner:Array (Option Nat)) (n:Nat),owner.size=mask+1->(owner.toList.filterMap id).Perm (Bi n)->n+hs.length<=mask->∃owner':Array (Option Nat),hs.foldl (iR mask) (some (owner,n))=some (owner',n+hs.length)/\owner'.size=mask+1/\(owner'.toList.filterMap id).Perm (Bi (n+hs.length))
 | [],owner,n,h1,h2,_=>⟨owner,rfl,h1,h2⟩
 | h::hs,owner,n,h1,h2,h3=>by
  rw[Ay] at h3
  have len:(owner.toList.filterMap id).length=n:=by rw[h2.length_eq,Dm]
  obtain ⟨e,he⟩:=tK (L:=owner.toList) (by rw[len,Ah]; omega)
  have he':e<mask+1:=by
   have:=(An.mp he).1
   rw[Ah] at this
   omega
  obtain ⟨t,ht,et⟩:=lW g (i:=Cv h % (mask+1)) (p:=Cv h) (e:=e) (Mw _ g.1) (rV h) he'
  have hn:(owner.getD (lp (mask+1) t (Cv h % (mask+1)) (Cv h)).1 (some 0)).isNone=true:=by
   rw[et,Bp,<- Es,he]
   rfl
  obtain ⟨j,ej,hj⟩:=fE (mask:=mask) (owner:=owner) (Ej mask) _ _ t (by unfold Ej; omega) hn
  have hj':owner.toList[j]? = some none:=by
   rw[Bp,<- Es] at hj
   cases q:owner.toList[j]? with
   | none=>rw[q] at hj; simp at hj
   | some v =>
    rw[q] at hj
    cases v with
    | none=>rfl
    | some v=>simp at hj
  have e1:iR mask (some (owner,n)) h=some (owner.setIfInBounds j (some n),n+1):=by
   show (do
    let j <- Dr mask owner (Ej mask) (Cv h % (mask+1)) (Cv h)
    pure (owner.setIfInBounds j (some n),n+1))=_
   rw[ej]
   rfl
  rw[List.foldl_cons,e1]
  have p1:((owner.setIfInBounds j (some n)).toList.filterMap id).Perm (Bi (n+1)):=by
   rw[fV]
   refine (Uc hj').trans ?_
   rw[List.range_succ]
   exact (List.Perm.cons n h2).trans (Fe (l₁:=[n]) (l₂:=Bi n))
  obtain ⟨o',q1,q2,q3⟩:=kY g hs (owner.setIfInBounds j (some n)) (n+1) (by rw[Ky]; exact h1) p1 (by omega)
  refine ⟨o',?_,q2,?_⟩
  ·rw[q1,Ay]
   congr 2
   omega
  ·rw[Ay,show n+(hs.length+1)=n+1+hs.length by omega]
   exact q3
theorem lU{mask:Nat}(g:Jm (mask+1))(hs:Array Int)(hl:hs.size<=mask):∃owner:Array (Option Nat),Jh mask hs=some owner/\owner.size=mask+1/\(owner.toList.filterMap id).Perm (Bi hs.size):=by
 have h0:((Nn (mask+1) (none:Option Nat)).toList.filterMap id).Perm (Bi 0):=by
  rw[Array.toList_replicate]
  simp
 obtain ⟨o,h1,h2,h3⟩:=kY g hs.toList (Nn (mask+1) none) 0 (by simp) h0 (by simpa using hl)
 rw[Ah,Gz] at h1 h3
 refine ⟨o,?_,h2,h3⟩
 unfold Jh
 rw[<- Array.foldl_toList]
 show (hs.toList.foldl (iR mask) (some (Nn (mask+1) none,0))).map (·.1)=some o
 rw[h1]
 rfl
theorem mZ(owner:Array (Option Nat)):((Bi owner.size).filterMap λj=>(owner.getD j none).map λx=>(j,x)).map (·.2)=owner.toList.filterMap id:=by
 obtain ⟨L⟩:=owner
 simp only[Av]
 have h:∀(L:List (Option Nat)) (pre:List (Option Nat)),((List.range' pre.length L.length).filterMap λj=>(((pre++L)[j]?).getD none).map λx=>(j,x)).map (·.2)=L.filterMap id:=by
  intro L
  induction L with
  | nil=>intro pre; rfl
  | cons a L ih =>
   intro pre
   rw[Ay,List.range'_succ,Ih]
   have e:((pre++a::L)[pre.length]?).getD none=a:=by simp
   have ih':=ih (pre++[a])
   rw[Bh,Mj,Cb,List.singleton_append] at ih'
   cases a with
   | none =>
    simp only[e,Option.map_none,List.filterMap_cons_none,id]
    exact ih'
   | some b =>
    simp only[e,Option.map_some,Ar,List.filterMap_cons_some,id]
    rw[ih']
    simp
 have:=h L []
 rw[Ji,<- List.range_eq_range',List.nil_append] at this
 rw[<- this]
 congr 1
 congr 1
 funext j
 rw[Bp]
 simp
theorem B6{mask finger moves:Nat}{led plain:Bool}(g:Jm (mask+1))(hs:Array Int)(hl:hs.size<=mask):∃(t:Bk) (order:Array Nat),Gs mask finger moves led plain hs=some (t,order)/\order.toList.Perm (Bi hs.size)/\t.fits hs.size=true/\t.led=led:=by
 obtain ⟨o,h1,h2,h3⟩:=lU g hs hl
 have e:Gs mask finger moves led plain hs=some ({ mask:=mask,place:=(((Bi (mask+1)).filterMap λj=>(o.getD j none).map λx=>(j,x)).map (·.1)).toArray,dummies:=#[],finger:=finger,led:=led,moves:=moves,plain:=plain },
   (((Bi (mask+1)).filterMap λj=>(o.getD j none).map λx=>(j,x)).map (·.2)).toArray):=by
  unfold Gs
  rw[h1]
  rfl
 have lo:=mZ o
 rw[h2] at lo
 have len:((Bi (mask+1)).filterMap λj=>(o.getD j none).map λx=>(j,x)).length=hs.size:=by
  have:=congrArg Fj lo
  rw[Ab,h3.length_eq,Dm] at this
  exact this
 refine ⟨_,_,e,by rw[List.toList_toArray,lo]; exact h3,?_,rfl⟩
 simp only[SetTable.fits,SetTable.fill,Av,Ab,len,He,beq_self_eq_true,true_and,decide_eq_true_eq]
 show hs.size+0<=mask
 omega
theorem Q2{α:Type}(es:Array α){order:Array Nat}(p:order.toList.Perm (Bi es.size)):(order.filterMap (es[·]?)).toList.Perm es.toList/\(order.filterMap (es[·]?)).size=es.size:=by
 have e:(order.filterMap (es[·]?)).toList.Perm es.toList:=by
  rw[mT]
  have:=p.filterMap (es[·]?)
  rw[filterMap_getElem?_range] at this
  exact this
 exact ⟨e,by rw[<- Ah,e.length_eq,Ah]⟩
abbrev gH(p:Array Nat):Prop:=p.toList.Pairwise (· < ·)
theorem So{p:Array Nat}(r:gH p){i j:Nat}(h:i<j)(hj:j<p.size):p[i]'(by omega)<p[j]:=by
 have:=Dw.mp r i j (by rw[Ah]; omega) (by rw[Ah]; exact hj) h
 simpa using this
structure Below(p:Array Nat)(j b:Nat):Prop where
 le:b<=p.size
 lo:∀i (h:i<p.size),i<b->p[i]<j
 hi:∀i (h:i<p.size),b<=i->j<=p[i]
theorem bF{p:Array Nat}{j:Nat}(r:gH p):∀(fuel lo hi:Nat),hi<=p.size->lo<=hi->hi - lo<=fuel->(∀i (h:i<p.size),i<lo->p[i]<j)->(∀i (h:i<p.size),hi<=i->j<=p[i])->Below p j (Rt p j fuel lo hi)
 | 0,lo,hi,h1,h2,h3,h4,h5=>by
  unfold Rt
  have e:lo=hi:=by omega
  exact ⟨by omega,λi h hl=>h4 i h hl,λi h hl=>h5 i h (by omega)⟩
 | fuel+1,lo,hi,h1,h2,h3,h4,h5=>by
  unfold Rt
  split
  ·rename_i hl
   have hm:(lo+hi) / 2<p.size:=by omega
   have e:p.getD ((lo+hi) / 2) j=p[(lo+hi) / 2]:=by simp [Array.getD,hm]
   dsimp only
   rw[e]
   split
   ·rename_i hc
    refine bF r fuel _ hi h1 (by omega) (by omega) (λi h hi'=>?_) h5
    by_cases z:i=(lo+hi) / 2
    ·subst z; exact hc
    ·exact Zu (So r (show i<(lo+hi) / 2 by omega) hm) hc
   ·rename_i hc
    refine bF r fuel lo _ (by omega) (by omega) (by omega) h4 (λi h hi'=>?_)
    by_cases z:i=(lo+hi) / 2
    ·subst z; omega
    ·exact Ci (by omega) (Mc (So r (show (lo+hi) / 2<i by omega) h))
  ·exact ⟨by omega,λi h hl=>h4 i h hl,λi h hl=>h5 i h (by omega)⟩
theorem Rl{p:Array Nat}(r:gH p)(j:Nat):Below p j (Bt p j) :=
 bF r _ _ _ (Ai _) (Do _) (by omega) (λi h hl=>absurd hl (Dn _)) (λi h hl=>absurd hl (by omega))
theorem Below.eq{p:Array Nat}{j b b':Nat}(x:Below p j b)(y:Below p j b'):b=b':=by
 rcases Ql b b' with z | z | z
 ·have h:b<p.size:=Ca z y.le
  exact absurd (y.lo b h z) (Nat.not_lt.mpr (x.hi b h (Ai _)))
 ·exact z
 ·have h:b'<p.size:=Ca z x.le
  exact absurd (x.lo b' h z) (Nat.not_lt.mpr (y.hi b' h (Ai _)))
theorem kU{p:Array Nat}(r:gH p):Bt p 0=0 :=
 (Rl r 0).eq ⟨Do _,λi h hl=>absurd hl (Dn _),λi h _=>Do _⟩
theorem nI{p:Array Nat}(r:gH p){i:Nat}(h:i<p.size):Bt p (p[i]+1)=i+1 :=
 (Rl r _).eq ⟨h,λk hk hl=>by
  by_cases z:k=i
  ·subst z; exact cV _
  ·exact Qm (So r (show k<i by omega) h),λk hk hl=>So r (show i<k by omega) hk⟩
structure TabOk(n:Nat)(t:Bk):Prop where
 good:Jm (t.mask+1)
 dum:t.dummies=#[]
 plain:t.plain=true
 rise:gH t.place
 top:∀j∈t.place.toList,j<=t.mask
 size:t.place.size=n
structure Tab(n:Nat)(t:Bk):Prop extends TabOk n t where
 room:n * 5<t.mask * 3
theorem Zh{t:Bk}{n:Nat}(x:Tab n t):n+1<=t.mask:=by have:=x.room; omega
theorem TabOk.fits{t:Bk}{n:Nat}(x:TabOk n t)(h:n<=t.mask):t.fits n=true:=by
 simp only[SetTable.fits,SetTable.fill,x.dum,x.size,He,beq_self_eq_true,true_and,decide_eq_true_eq]
 show n+0<=t.mask
 omega
theorem Tab.fits{t:Bk}{n:Nat}(x:Tab n t):t.fits n=true:=x.toTabOk.fits (by have:=Zh x; omega)
theorem Nx{t:Bk}{n j:Nat}(x:TabOk n t):t.slot j=.empty↔j∉t.place.toList:=by
 have nd:SetTable.has t.dummies j=false:=by rw[x.dum]; rfl
 unfold Tx
 dsimp only
 rw[nd]
 constructor
 ·intro h hm
  obtain ⟨i,hi,e⟩:=Gh.mp hm
  rw[Ah] at hi
  have e':t.place[i]=j:=by simpa using e
  have b:Bt t.place j=i:=(Rl x.rise j).eq ⟨Mc hi,λk hk hl=>by rw[<- e']; exact So x.rise hl hi,λk hk hl=>by
   by_cases z:i=k
   ·subst z; exact Nat.le_of_eq e'.symm
   ·rw[<- e']; exact Mc (So x.rise (show i<k by omega) hk)⟩
  rw[b,Dd hi,e',if_pos (by simp)] at h
  cases h
 ·intro h
  rw[if_neg (λz=>h ?_)]
  ·rfl
  ·have z':t.place[Bt t.place j]? = some j:=by simpa using z
   have:=Array.mem_of_getElem? z'
   exact Array.mem_def.mp this
theorem bM{t:Bk}{n j:Nat}(x:TabOk n t):t.slot j≠.dummy:=by
 have nd:SetTable.has t.dummies j=false:=by rw[x.dum]; rfl
 unfold Tx
 dsimp only
 rw[nd]
 split
 ·intro h; cases h
 ·intro h; cases h
theorem fM{mask i:Nat}(h:i<=mask):Dc mask i<=mask:=by unfold Dc; split <;> omega
theorem Wv(mask i:Nat):Dc mask i - i<=9:=by unfold Dc; split <;> omega
theorem gS(mask i p:Nat):SetTable.leap mask i p=((i * 5+1+p / 32) % (mask+1),p / 32):=rfl
theorem zO:∀{l1 l2:List Nat},l1.Nodup->(∀e∈l1,e∈l2)->l1.length<=l2.length
 | [],_,_,_=>Do _
 | a::l1,l2,nd,h=>by
  have nd':=Cn.mp nd
  have ha:=h a (Aa ..)
  have:=zO (l2:=l2.erase a) nd'.2 λe he=>(Ni (show e≠a from λz=>nd'.1 (by rw[<- z]; exact he))).mpr (h e (Ae _ he))
  rw[Lb ha] at this
  have p:0<l2.length:=Lw ha
  rw[Ay]
  omega
theorem q8{m:Nat}{l:List Nat}(nd:l.Pairwise (· < ·))(h:l.length<m):∃e,e<m/\e∉l:=by
 refine Hl λz=>?_
 have all:∀e,e∈Bi m->e∈l:=λe he=>Hl λq=>z ⟨e,Df.mp he,q⟩
 have:=zO List.nodup_range all
 rw[Dm] at this
 omega
theorem kJ{p:Array Nat}(r:gH p){j:Nat}(h:j∉p.toList):gH (Co p (Bt p j) j):=by
  have b:=Rl r j
  show (Co p (Bt p j) j).toList.Pairwise (· < ·)
  rw[Pc]
  have r1:(p.toList.take (Bt p j)).Pairwise (· < ·):=r.sublist (Hw _ _)
  have r2:(p.toList.drop (Bt p j)).Pairwise (· < ·):=r.sublist (Hy _ _)
  have lo:∀e∈p.toList.take (Bt p j),e<j:=λe he=>by
    obtain ⟨i,hi,ei⟩:=Pv.mp he
    rw[Ah] at hi
    have:=b.lo i (by omega) (by omega)
    rw[<- ei]
    simpa using this
  have hi:∀e∈p.toList.drop (Bt p j),j<e:=λe he=>by
    have hm:e∈p.toList:=Nh he
    obtain ⟨i,hi,ei⟩:=List.mem_drop_iff_getElem.mp he
    rw[Ah] at hi
    have:=b.hi (i+Bt p j) (by omega) (by omega)
    have e1:j<=e:=by
      rw[<- ei]
      simpa [Nat.add_comm] using this
    exact Nat.lt_of_le_of_ne e1 λz=>h (by rw[z]; exact hm)
  simp only[List.pairwise_append,List.pairwise_cons,Ao,Aw]
  first
    | exact ⟨r1,⟨hi,r2⟩,λa ha c hc=>by
        rcases hc with z | z
        · rw[z]; exact lo a ha
        · exact Zu (lo a ha) (hi c z)⟩
    | (refine ⟨⟨r1,⟨by simp,Fg⟩,λa ha c hc=>?_⟩,r2,λa ha c hc=>?_⟩
       · have z:c=j:=by simpa using hc
         rw[z]; exact lo a ha
       · rcases ha with z | z | z
         · exact Zu (lo a z) (hi c hc)
         · rw[z]; exact hi c hc
         · cases z)
theorem vA{mask finger moves:Nat}{led plain:Bool}{hs:Array Int}{t:Bk}{order:Array Nat}(h:Gs mask finger moves led plain hs=some (t,order)):gH t.place/\(∀j∈t.place.toList,j<=mask):=by
 unfold Gs at h
 cases hl:Jh mask hs with
 | none=>rw[hl] at h; cases h
 | some owner =>
  rw[hl] at h
  cases h
  have sub:∀(l:List Nat),l.Pairwise (· < ·)->(((l.filterMap λj=>(owner.getD j none).map λx=>(j,x)).map (·.1)).Pairwise (· < ·))/\∀j∈((l.filterMap λj=>(owner.getD j none).map λx=>(j,x)).map (·.1)),j∈l:=by
   intro l hl
   have m:∀j∈((l.filterMap λj=>(owner.getD j none).map λx=>(j,x)).map (·.1)),j∈l:=λj hj=>by
    obtain ⟨q,hq,rfl⟩:=Br.mp hj
    obtain ⟨k,hk,ek⟩:=Jc.mp hq
    cases hg:owner.getD k none with
    | none=>rw[hg] at ek; cases ek
    | some v=>rw[hg] at ek; cases ek; exact hk
   refine ⟨?_,m⟩
   clear m
   induction l with
   | nil=>exact Fg
   | cons a l ih =>
    have hl':=Bc.mp hl
    have ih':=ih hl'.2
    rw[Ih]
    cases hg:owner.getD a none with
    | none=>simpa [hg] using ih'
    | some v =>
     simp only[Option.map_some,Ar,List.pairwise_cons]
     refine ⟨λj hj=>?_,ih'⟩
     obtain ⟨q,hq,rfl⟩:=Br.mp hj
     obtain ⟨k,hk,ek⟩:=Jc.mp hq
     cases hg2:owner.getD k none with
     | none=>rw[hg2] at ek; cases ek
     | some v2=>rw[hg2] at ek; cases ek; exact hl'.1 k hk
  obtain ⟨s1,s2⟩:=sub (Bi (mask+1)) List.pairwise_lt_range
  exact ⟨s1,λj hj=>fS.mp (Df.mp (s2 j hj))⟩
theorem e7{mask finger moves:Nat}{led:Bool}(g:Jm (mask+1))(hs:Array Int)(hl:hs.size * 5<mask * 3):∃(t:Bk) (order:Array Nat),Gs mask finger moves led true hs=some (t,order)/\order.toList.Perm (Bi hs.size)/\Tab hs.size t/\t.led=led:=by
 obtain ⟨t,order,h1,h2,h3,h4⟩:=B6 (finger:=finger) (moves:=moves) (led:=led) (plain:=true) g hs (by omega)
 obtain ⟨l1,l2,l3,l4⟩:=Vx h1
 obtain ⟨r1,r2⟩:=vA h1
 have sz:t.place.size=hs.size:=by
  have:=h3
  simp only[SetTable.fits,He,beq_iff_eq] at this
  exact this.1
 exact ⟨t,order,h1,h2,⟨⟨by rw[l2]; exact g,l4,l3,r1,by rw[l2]; exact r2,sz⟩,by rw[l2]; exact hl⟩,l1⟩
abbrev bt(w:World):Bool:=w.params.followText "set-order"
def CQ:Int×Value->Int
 | (_,.int k _)=>k
 | _=>0
def AQ(e:Int×Value):Prop:=∃k tk,e=(hashInt k,Mh k tk)
abbrev u5(es:Array (Int×Value)):List Int:=es.toList.map CQ
abbrev Il(es:Array (Int×Value))(ep:Nat)(t:Bk):Obj:={ cls:=.type "set",dict:=none,data:=.set es ep t }
structure SetS(w:World)(h:Heap)(a:Addr)(es:Array (Int×Value))(ep:Nat)(t:Bk):Prop where
 obj:h.get? a=some (Il es ep t)
 ent:∀e∈es.toList,AQ e
 nd:(u5 es).Nodup
 tab:Tab es.size t
 led:bt w=false->t.led=true
 few:es.size<64
def ins(k:Int)(l:List Int):List Int:=if k∈l then l else k::l
theorem qX{es:Array (Int×Value)}{ep:Nat}{t:Bk}(es':Array (Int×Value))(t':Bk):Yk es' t' (Il es ep t)=Il es' (ep+1) t':=putSet_of es' t' rfl
theorem rW{h:Heap}{a:Addr}{es:Array (Int×Value)}{ep:Nat}{t:Bk}(ho:h.get? a=some (Il es ep t))(es':Array (Int×Value))(t':Bk):(h.update a (Yk es' t')).get? a=some (Il es' (ep+1) t'):=by
 have:=Ho (Yk es' t') ho (by rw[qX]; rfl)
 rw[qX] at this
 exact this
theorem Ij{α:Type}:∀{l:List α} {i:Nat} (h:i<l.length),(l[i]::l.eraseIdx i).Perm l
 | [],_,h=>absurd h (Dn _)
 | a::l,0,h=>Le _
 | a::l,i+1,h=>by
  have:=Ij (l:=l) (i:=i) (by simpa using h)
  exact (Et a _ _).trans (List.Perm.cons a this)
theorem rL{α:Type}(next:Nat->Nat):∀(fuel k:Nat) (left:List α) (out:Array α),left.length=fuel->(pickOrder.go next fuel k left out).toList.Perm (out.toList++left)
 | 0,k,left,out,h=>by
  unfold pickOrder.go
  have : left=[]:=cW h
  subst this
  simp
 | fuel+1,k,left,out,h=>by
  unfold pickOrder.go
  have hi:next k % left.length<left.length:=Mw _ (by omega)
  rw[Be hi]
  dsimp only
  refine (rL next fuel (k+1) _ _ (by rw[List.length_eraseIdx,if_pos hi]; omega)).trans ?_
  rw[Gj,Cb]
  exact Iy _ (Ij hi)
theorem tR{α:Type}(next:Nat->Nat)(xs:Array α):(pickOrder next xs).toList.Perm xs.toList:=by
 unfold pickOrder
 simpa using rL next xs.size 0 xs.toList #[] (by simp)
section
variable{prog:Bj}{w:World}{A:Cu}{E:Value->Aj->Prop}{s:Aj}
theorem Xc{Q:Bool->Aj->Prop}(h:Q (bt w) s):wpAny (model prog w) A setsByText Q E s:=by
 unfold setsByText
 exact Ac (iZ (Ap h))
theorem uM{a:Addr}{es:Array (Int×Value)}{ep:Nat}:(if bt w then pickOrder (w.params.setOrder a ep) es else es).toList.Perm es.toList:=by
 cases bt w with
 | true=>exact tR _ _
 | false=>exact Le _
end
theorem len_leI:∀{l1 l2:List Int},l1.Nodup->(∀e∈l1,e∈l2)->l1.length<=l2.length
 | [],_,_,_=>Do _
 | a::l1,l2,nd,h=>by
  have nd':=Cn.mp nd
  have ha:=h a (Aa ..)
  have:=len_leI (l2:=l2.erase a) nd'.2 λe he=>(Ni (show e≠a from λz=>nd'.1 (by rw[<- z]; exact he))).mpr (h e (Ae _ he))
  rw[Lb ha] at this
  have p:0<l2.length:=Lw ha
  rw[Ay]
  omega
theorem Xu:isSubtype (.type "set") (.type "set")=pure true:=by rw[isSubtype_type]; kernel_rfl
end NdS
namespace NdS
open PySem PyProof.Rows
section
variable{prog:Bj}{w:World}{A:Cu}{E:Value->Aj->Prop}{s:Aj}
theorem vZ(v:Value){Q:Value->Aj->Prop}(h:Q (.ref s.heap.objs.size) { s with heap:=s.heap.push (Il #[] 0 (.fresh 0 0 (!bt w))) }):Mv (model prog w) A (.call (.builtin "set.__new__") ⟨[.type "set",v],[]⟩) (wants Q E) s:=by
 have sub:=Xu
 obtain ⟨hp,g,d,tk,os⟩:=s
 refine codeAny_of_tree (show wpAny _ A.in1 (do checkBuiltinCall "set.__new__" ⟨[.type "set",v],[]⟩; again (.builtin "set.__new__" ⟨[.type "set",v],[]⟩)) _ _ _ from ?_)
 refine Ac (Mf (PySem.F.newCall_set_1 v) (Ap ⟨Sz PySem.F.plain_set_new _,Kc PySem.F.entry_set_new ?_⟩))
 rw[Hu PySem.F.plain_set_new _]
 unfold Builtin.«set.__new__» Builtin.Frozenset.newClass
 dsimp only
 wp_walk
 refine iZ (Ap ?_)
 dsimp only
 simp only[newObj]
 exact Ac (wpAny_alloc (Ap (Ap h)))
end
theorem Sd:Slot "set_iterator" "__next__" "set_iterator.__next__" :=
 .of (owner := "set_iterator") (n := "__next__") (by rw[typeLookup_type,builtinLookup_eq_fast]; kernel_rfl) (by decide +kernel) (by decide +kernel) (by decide +kernel) (by first | exact .inl (by decide +kernel) | exact .inr (by decide +kernel)) (by rw[isSubtype_type]; kernel_rfl)
theorem aS:entryFor table "set_iterator.__next__" = some Builtin.«set_iterator.__next__»:=entryFor_of_tree (by kernel_rfl)
theorem dY(a:Value):argsOk "set_iterator.__next__" ⟨[a],[]⟩:=by unfold argsOk; kernel_rfl
theorem pE:entryFor table "set.__iter__" = some Builtin.«frozenset.__iter__» :=
 entryFor_alias (id' := "frozenset.__iter__") (by kernel_rfl) (by first | rfl | decide +kernel) (by decide +kernel) (by kernel_rfl)
abbrev pP(f i:Nat)(a:Addr)(n ep:Nat):Obj:={ cls:=.type "set_iterator",data:=.fields #[Mt f,Mt i,.ref a,Mt n,Mt ep] }
def arrOf(w:World)(a:Addr)(ep:Nat)(es:Array (Int×Value)):Array (Int×Value):=if bt w then pickOrder (w.params.setOrder a ep) es else es
theorem jX{w:World}{a:Addr}{ep:Nat}{es:Array (Int×Value)}:(arrOf w a ep es).toList.Perm es.toList:=uM
theorem Pg{w:World}{a:Addr}{ep:Nat}{es:Array (Int×Value)}:(arrOf w a ep es).size=es.size:=by
 have:=(jX (w:=w) (a:=a) (ep:=ep) (es:=es)).length_eq
 rw[Ah,Ah] at this
 exact this
theorem dR:Slot "set_iterator" "__iter__" "set_iterator.__iter__" :=
 .of (owner := "set_iterator") (n := "__iter__") (by rw[typeLookup_type,builtinLookup_eq_fast]; kernel_rfl) (by decide +kernel) (by decide +kernel) (by decide +kernel) (by first | exact .inl (by decide +kernel) | exact .inr (by decide +kernel)) (by rw[isSubtype_type]; kernel_rfl)
theorem nV:entryFor table "set_iterator.__iter__" = some Builtin.«dict_keyiterator.__iter__» :=
 entryFor_alias (id' := "dict_keyiterator.__iter__") (by kernel_rfl) (by first | rfl | decide +kernel) (by decide +kernel) (by kernel_rfl)
theorem uU(a:Value):argsOk "set_iterator.__iter__" ⟨[a],[]⟩:=by unfold argsOk; kernel_rfl
section
variable{prog:Bj}{w:World}{A:Cu}{E:Value->Aj->Prop}{s:Aj}
theorem j9{r:Addr}{Q:Bool->Aj->Prop}(hT:s.TypeIs (.ref r) "set")(h:Q false s):wpAny (model prog w) A (Wl (.ref r)) Q E s:=by
 unfold Wl
 refine Ac (wpAny_specialOf hT PySem.F.slot_set_len.lookup ?_)
 generalize hid:("set.__len__" : String)=id0
 wp_delta
 rw[show splitId id0=some ("set", "__len__") from by subst hid; decide +kernel]
 subst hid
 refine Ac (wpAny_isInstance (T := "set") (b:=true) hT Xu ?_)
 refine wpAny_ite_split (λz=>absurd z (by decide)) (λ_=>wpAny_ite_split (λ_=>?_) (λz=>absurd (by decide +kernel) z))
 exact Ac (Ld hT (Ap h))
end
end NdS
namespace Nd
open PySem PySem.Spec PyProof.Rows L2 NdS
def DR(w:World)(a:Addr)(ks:List Int)(h:Heap):Prop:=∃es ep t,SetS w h a es ep t/\∀x,x∈u5 es↔x∈ks
abbrev FZ(w:World)(a:Addr)(ks:List Int):HO:=.ext (DR w a ks)
end Nd
namespace Nd
open PySem L2
def To(d:Addr)(H H':Hp):Prop:=∀b o,b≠d->H b=some o->H' b=some o
theorem To.trans{d:Addr}{H H1 H2:Hp}(a:To d H H1)(b:To d H1 H2):To d H H2:=λc o n h=>b c o n (a c o n h)
theorem To.upd{d:Addr}{H:Hp}{o:HO}:To d H (upd H d o):=λb o n h=>by rw[Ew n]; exact h
theorem mR{n:Nat}(h:n<=1000000):n<=Bb:=by rw[Kv]; omega
theorem gZ(a b:Int)(h:0<b):0<=a % b/\a % b<b:=⟨Int.emod_nonneg _ (by omega),Int.emod_lt_of_pos _ h⟩
def Ef(h:Int)(ns:List Int):Prop:=ns.Pairwise (· < ·)/\∀x∈ns,0<=x/\x<h
theorem Ef.nil(h:Int):Ef h []:=⟨Fg,λx hx=>by cases hx⟩
theorem Ef.more{h:Int}{ns:List Int}(r:Ef h ns)(h0:0<=h):Ef (h+1) (ns++[h]) :=
 ⟨Ce.mpr ⟨r.1,Eb _ _,λa ha b hb=>by rw[Af.mp hb]; exact (r.2 a ha).2⟩,λx hx=>by
  rcases Aw.mp hx with z | z
  ·have:=r.2 x z; omega
  ·have:=Af.mp z; omega⟩
theorem Ef.up{h h':Int}{ns:List Int}(r:Ef h ns)(l:h<=h'):Ef h' ns:=⟨r.1,λx hx=>by have:=r.2 x hx; omega⟩
def aG(H:Hp)(d:Addr)(c k:Int)(f:Bool):Prop:=H d=some (.lst [.int c,.int k,.bl f])
def xQ:Sp:=λvs H Q _=>∃(d:Addr) (c k:Int) (f:Bool),vs=[.ref d]/\aG H d c k f/\0<=k/\k<=1000000/\∀(r c':Int) (H':Hp),aG H' d c' (k+1) f->To d H H'->Q (.int r) H'
def Bf(ns:List Int):Ad:=.tuple (ns.map Bm)
theorem oZ(ns:List Int):(Bf ns).depth<=1:=by
 have : (Bf ns).depth<=Bn (ns.map Bm)+1:=by simp [Bf,Dh]
 rw[oE] at this
 exact this
def HV:List Int:=(Bi 60).map λi:Nat=>(i:Int)
theorem qO{x:Int}(h0:0<=x)(h1:x<60):x∈HV:=Br.mpr ⟨x.toNat,Df.mpr (by omega),by omega⟩
theorem q9(TD:List Ad):Ee (.list TD) (.list [])=TD.isEmpty:=by cases TD <;> simp [Ee,Oa]
def wZ(b:Bool):Str:=if b=true then "back" else "front"
def order{α:Type}(a b:α)(l:List α):Option Bool->List α
 | none=>l
 | some true=>[a,b]
 | some false=>[b,a]
structure TD(K:PySem.W.Frag)(H:Hp)(x:V)(d:Ad)(n m:Nat):Prop where
 rd:RdV K H x d
 fits:Kk 22 d
 nd:Hf d<=n
 dp:d.depth<=m
abbrev P3(K:PySem.W.Frag):List V->Hp->VK->Prop:=λxs H Q=>∃p ys,xs=[V.ref p]/\(Ud K H p ys\/Ur K H p ys)/\∀l,H l=none->Q (.ref l) (upd H l (.lst ys))
theorem E9{X:Cx}:Kr X (.type "list") (P3 X.K):=gD
abbrev L7(K:PySem.W.Frag):List V->Hp->VK->Prop:=λxs H Q=>∃p ys,xs=[V.ref p]/\((Ud K H p ys/\∀l,H l=none->Q (.ref l) (upd H l (.tup ys)))\/(Ur K H p ys/\Q (.ref p) H))
theorem Ve{X:Cx}:Kr X (.type "tuple") (L7 X.K):=dP
end Nd
namespace DL
open PySem L2 Nd
def KL(K:PySem.W.Frag)(H:Hp)(a:Addr)(xs:List V):Prop :=
 (∃o,H a=some (.frz o (.lst xs)))\/∃(its:Array Value) (n:Nat),K.lookup a=some { cls:=.type "list",data:=.seq its n }/\its.size<=Bb/\Fs xs its.toList
def aQ:Nat->Ad
 | 0=>.none
 | n+1=>.tuple [aQ n]
def Ye(ks:List (List Int×Ad)):List (Ad×Ad):=(aQ 100,.none)::ks.map λp=>(Bf p.1,p.2)
def FW(ks:List (Int×Ad)):List (Ad×Ad):=(aQ 100,.bool true)::ks.map λp=>(.int p.1,p.2)
def J2:List (Ad×Ad)->Bool
 | (_,.none)::_=>true
 | _=>false
def Q8(a:Addr)(ks:List (List Int×Ad)):List (Ad×Ad):=(aQ 100,.int a)::ks.map λp=>(Bf p.1,p.2)
def Nb(w:List Int):List Kz:=w.map Tb
mutual
inductive RdF (K:PySem.W.Frag) (H:Hp):V->Ad->List Addr->Prop
 | non:RdF K H .non .none []
 | bl (b:Bool):RdF K H (.bl b) (.bool b) []
 | int (i:Int):RdF K H (.int i) (.int i) []
 | str (x:Str):RdF K H (.str x) (.str x) []
 | lst {a:Addr} {xs:List V} {ds:List Ad} {F:List Addr}:H a=some (.lst xs)->ds.length<=Bb->RdFs K H xs ds F->RdF K H (.ref a) (.list ds) (a::F)
 | tup {a:Addr} {xs:List V} {ds:List Ad} {F:List Addr}:H a=some (.tup xs)->ds.length<=Bb->RdFs K H xs ds F->RdF K H (.ref a) (.tuple ds) F
 | dic {a:Addr} {kv:List (List Kz×V)} {ks:List (List Int×Ad)}:H a=some (.dT kv)->kv.map (·.1)=ks.map (λp=>Nb p.1)->RdFs K H (kv.map (·.2)) (ks.map (·.2)) []->RdF K H (.ref a) (.dict (Ye ks)) [a]
 | dik {a:Addr} {kv:List (Kz×V)} {ks:List (Int×Ad)}:H a=some (.dK kv)->kv.map (·.1)=ks.map (λp=>(Tb p.1:Kz))->RdFs K H (kv.map (·.2)) (ks.map (·.2)) []->RdF K H (.ref a) (.dict (FW ks)) [a]
 | dnm {a:Addr} {kv:List (List Kz×V)} {ks:List (List Int×Ad)}:H a=some (.dT kv)->kv.map (·.1)=ks.map (λp=>Nb p.1)->RdFs K H (kv.map (·.2)) (ks.map (·.2)) []->RdF K H (.ref a) (.dict (Q8 a ks)) [a]
inductive RdFs (K:PySem.W.Frag) (H:Hp):List V->List Ad->List Addr->Prop
 | nil:RdFs K H [] [] []
 | cons {x:V} {d:Ad} {xs:List V} {ds:List Ad} {F G:List Addr}:RdF K H x d F->RdFs K H xs ds G->RdFs K H (x::xs) (d::ds) (F++G)
end
def GI(o:HO):Prop:=(∃xs,o=.tup xs)\/∃ob u,o=.frz ob u
def Kp(F:List Addr)(H H':Hp):Prop:=∀b o,H b=some o->(b∈F\/GI o)->H' b=some o
theorem Kp.of{F:List Addr}{H H':Hp}(s:Yy H H'):Kp F H H':=λb o e _=>s b o e
theorem Kp.sub{F G:List Addr}{H H':Hp}(k:Kp F H H')(h:∀a∈G,a∈F):Kp G H H':=λb o e z=>k b o e (z.imp (h b) id)
section
variable{K:PySem.W.Frag}{H H':Hp}
theorem KL.kp{a:Addr}{xs:List V}{F:List Addr}(h:KL K H a xs)(k:Kp F H H'):KL K H' a xs:=by
 rcases h with ⟨o,h⟩ | h
 ·exact .inl ⟨o,k _ _ h (.inr (.inr ⟨_,_,rfl⟩))⟩
 ·exact .inr h
theorem KL.sq{a:Addr}{xs:List V}(h:KL K H a xs):Ud K H a xs:=by
 rcases h with ⟨o,h⟩ | ⟨its,n,h,hz,r⟩
 ·exact .inl (.inr ⟨o,h⟩)
 ·exact .inr ⟨_,its,n,h,rfl,rfl,rfl,hz,r⟩
mutual
theorem RdF.kp:∀{v:V} {d:Ad} {F:List Addr},RdF K H v d F->Kp F H H'->RdF K H' v d F
 | _,_,_,.non,_=>.non
 | _,_,_,.bl b,_=>.bl b
 | _,_,_,.int i,_=>.int i
 | _,_,_,.str x,_=>.str x
 | _,_,_,.lst h l hs,k=>.lst (k _ _ h (.inl Aa)) l (RdFs.kp hs (k.sub λ_ z=>Ae _ z))
 | _,_,_,.tup h l hs,k=>.tup (k _ _ h (.inr (.inl ⟨_,rfl⟩))) l (RdFs.kp hs k)
 | _,_,_,.dic h e hs,k=>.dic (k _ _ h (.inl Aa)) e (RdFs.kp hs (k.sub λ_ z=>nomatch z))
 | _,_,_,.dik h e hs,k=>.dik (k _ _ h (.inl Aa)) e (RdFs.kp hs (k.sub λ_ z=>nomatch z))
 | _,_,_,.dnm h e hs,k=>.dnm (k _ _ h (.inl Aa)) e (RdFs.kp hs (k.sub λ_ z=>nomatch z))
theorem RdFs.kp:∀{v:List V} {d:List Ad} {F:List Addr},RdFs K H v d F->Kp F H H'->RdFs K H' v d F
 | _,_,_,.nil,_=>.nil
 | _,_,_,.cons h hs,k=>.cons (RdF.kp h (k.sub λ_ z=>Al _ z)) (RdFs.kp hs (k.sub λ_ z=>Ag _ z))
end
theorem Om:∀n,(aQ n).depth=n
 | 0=>by simp [aQ,Dh]
 | n+1=>by
  have:=Om n
  simp only[aQ,Dh,Bn,this]
  omega
theorem xY{ks:List (Int×Ad)}:100<=(PyData.dict (FW ks)).depth:=by
 have:=Om 100
 simp only[FW,Dh,PyData.depthKv,this]
 omega
theorem xF{a:Addr}{ks:List (List Int×Ad)}:100<=(PyData.dict (Q8 a ks)).depth:=by
 have:=Om 100
 simp only[Q8,Dh,PyData.depthKv,this]
 omega
theorem xD{ks:List (List Int×Ad)}:100<=(PyData.dict (Ye ks)).depth:=by
 have:=Om 100
 simp only[Ye,Dh,PyData.depthKv,this]
 omega
mutual
theorem RdF.rd:∀{v:V} {d:Ad} {F:List Addr},RdF K H v d F->d.depth<=90->RdV K H v d
 | _,_,_,.non,_=>.non
 | _,_,_,.bl b,_=>.bl b
 | _,_,_,.int i,_=>.int i
 | _,_,_,.str x,_=>.str x
 | _,_,_,.lst h l hs,z=>.lst (Ud.of h) (RdFs.rd hs (by simp only[Dh] at z; omega))
 | _,_,_,.tup h l hs,z=>.tup (Ur.of h) (RdFs.rd hs (by simp only[Dh] at z; omega))
 | _,_,_,.dic h e hs,z=>absurd (Ci xD z) (by decide)
 | _,_,_,.dik h e hs,z=>absurd (Ci xY z) (by decide)
 | _,_,_,.dnm h e hs,z=>absurd (Ci xF z) (by decide)
theorem RdFs.rd:∀{v:List V} {d:List Ad} {F:List Addr},RdFs K H v d F->Bn d<=90->RdVs K H v d
 | _,_,_,.nil,_=>.nil
 | _,_,_,.cons h hs,z=>.cons (RdF.rd h (by simp only[Bn] at z; omega)) (RdFs.rd hs (by simp only[Bn] at z; omega))
end
mutual
theorem RdF.dom:∀{v:V} {d:Ad} {F:List Addr},RdF K H v d F->∀a∈F,∃o,H a=some o
 | _,_,_,.non,_,z=>nomatch z
 | _,_,_,.bl b,_,z=>nomatch z
 | _,_,_,.int i,_,z=>nomatch z
 | _,_,_,.str x,_,z=>nomatch z
 | _,_,_,.lst h l hs,b,z=>by
  rcases Ao.mp z with rfl | z
  ·exact ⟨_,h⟩
  ·exact RdFs.dom hs b z
 | _,_,_,.tup h l hs,b,z=>RdFs.dom hs b z
 | _,_,_,.dic h e hs,b,z=>⟨_,Af.mp z▸h⟩
 | _,_,_,.dik h e hs,b,z=>⟨_,Af.mp z▸h⟩
 | _,_,_,.dnm h e hs,b,z=>⟨_,Af.mp z▸h⟩
theorem RdFs.dom:∀{v:List V} {d:List Ad} {F:List Addr},RdFs K H v d F->∀a∈F,∃o,H a=some o
 | _,_,_,.nil,_,z=>nomatch z
 | _,_,_,.cons h hs,b,z=>by
  rcases Aw.mp z with z | z
  ·exact RdF.dom h b z
  ·exact RdFs.dom hs b z
end
theorem RdFs.len:∀{v:List V} {d:List Ad} {F:List Addr},RdFs K H v d F->v.length=d.length
 | _,_,_,.nil=>rfl
 | _,_,_,.cons _ t=>by rw[Ay,Ay,RdFs.len t]
theorem RdFs.get:∀{v:List V} {d:List Ad} {F:List Addr} {i:Nat} {e:Ad},RdFs K H v d F->d[i]? = some e->∃x G,v[i]? = some x/\RdF K H x e G/\G.Sublist F
 | _,_,_,_,_,.nil,z=>by simp at z
 | _,_,_,0,_,.cons h _,z=>by
  simp at z
  subst z
  exact ⟨_,_,rfl,h,List.sublist_append_left _ _⟩
 | _,_,_,i+1,e,.cons _ t,z=>by
  obtain ⟨x,G,h1,h2,h3⟩:=RdFs.get (i:=i) (e:=e) t (by simpa using z)
  exact ⟨x,G,by simpa using h1,h2,h3.trans (Cm _ _)⟩
theorem RdFs.app:∀{v w:List V} {d e:List Ad} {F G:List Addr},RdFs K H v d F->RdFs K H w e G->RdFs K H (v++w) (d++e) (F++G)
 | _,_,_,_,_,_,.nil,h=>h
 | _,_,_,_,_,_,.cons a t,h=>by
  rw[Cb]
  exact .cons a (RdFs.app t h)
theorem RdFs.snoc{v:List V}{d:List Ad}{F G:List Addr}{x:V}{e:Ad}(t:RdFs K H v d F)(h:RdF K H x e G):RdFs K H (v++[x]) (d++[e]) (F++G):=by
 have:=t.app (.cons h .nil)
 rw[Ea] at this
 exact this
end
mutual
def imm:Ad->Bool
 | .list _=>false
 | .dict _=>false
 | .tuple xs=>Eg xs
 | _=>true
def Eg:List Ad->Bool
 | []=>true
 | x::xs=>imm x && Eg xs
end
theorem nK:∀{xs:List Ad},Eg xs=true↔∀x∈xs,imm x=true
 | []=>by simp [Eg]
 | x::xs=>by simp [Eg,nK (xs:=xs)]
theorem Um{α:Type}{f:α->Ad}(h:∀a,imm (f a)=true)(l:List α):Eg (l.map f)=true:=nK.mpr λx hx=>by
 obtain ⟨a,_,rfl⟩:=Br.mp hx
 exact h a
theorem yK(ns:List Int):imm (Bf ns)=true:=by
 unfold Bf
 rw[imm]
 exact Um (λ_=>by simp [imm]) ns
section
variable{K:PySem.W.Frag}{H H':Hp}
mutual
theorem RdF.imm:∀{v:V} {d:Ad} {F:List Addr},RdF K H v d F->DL.imm d=true->F=[]
 | _,_,_,.non,_=>rfl
 | _,_,_,.bl b,_=>rfl
 | _,_,_,.int i,_=>rfl
 | _,_,_,.str x,_=>rfl
 | _,_,_,.lst h l hs,k=>by simp [DL.imm] at k
 | _,_,_,.tup h l hs,k=>RdFs.imm hs (by simpa [DL.imm] using k)
 | _,_,_,.dic h e hs,k=>by simp [DL.imm] at k
 | _,_,_,.dik h e hs,k=>by simp [DL.imm] at k
 | _,_,_,.dnm h e hs,k=>by simp [DL.imm] at k
theorem RdFs.imm:∀{v:List V} {d:List Ad} {F:List Addr},RdFs K H v d F->Eg d=true->F=[]
 | _,_,_,.nil,_=>rfl
 | _,_,_,.cons h hs,k=>by
  rw[Eg,He] at k
  rw[RdF.imm h k.1,RdFs.imm hs k.2]
  rfl
end
end
inductive Md where
 | pk | sh | tp | ow
 deriving DecidableEq
inductive DV where
 | un
 | dat (m:Md) (d:Ad)
 | drw
 | dT (kvs:List (List Kz×Ad))
 | val (v:V)
 | scr (ns:List Int)
 | acc (ds:List Ad)
 | grd (Hc:Hp)
 | tpl (xs:List V)
structure DS where
 sl:List DV
 n:Nat
structure Ent where
 v:Option V
 x:DV
 F:List Addr
def Og:DV->Bool
 | .dat .pk _=>true
 | _=>false
def DW:DV->Bool
 | .drw=>true
 | _=>false
def E2:DV->Bool
 | .drw=>true
 | .acc _=>true
 | .dT _=>true
 | .grd _=>true
 | _=>false
def cells(e:Ent):List Addr:=match e.x with
 | .dat .ow _=>e.F
 | .dat .tp _=>e.F.take 1
 | .drw=>e.F
 | .dT _=>e.F
 | .acc _=>e.F.take 1
 | .grd _=>e.F
 | _=>[]
theorem Fm(e:Ent):∀a∈cells e,a∈e.F:=by
 obtain ⟨v,x,F⟩:=e
 intro a h
 cases x with
 | un=>exact nomatch h
 | val _=>exact nomatch h
 | scr _=>exact nomatch h
 | drw=>exact h
 | dT _=>exact h
 | grd _=>exact h
 | tpl _=>exact nomatch h
 | acc _=>exact (Hw _ _).subset h
 | dat m d =>
  cases m with
  | pk=>exact nomatch h
  | sh=>exact nomatch h
  | tp=>exact (Hw _ _).subset h
  | ow=>exact h
def Vb(e f:Ent):Prop:=((Og f.x=false\/E2 e.x=true)->∀a∈cells e,a∉f.F)/\((Og e.x=false\/E2 f.x=true)->∀a∈cells f,a∉e.F)
theorem Vb.symm{e f:Ent}(h:Vb e f):Vb f e:=⟨h.2,h.1⟩
def Hi(K:PySem.W.Frag)(H:Hp)(n:Nat)(e:Ent):Prop:=match e.x with
 | .un=>e.F=[]
 | .dat m d=>∃v,e.v=some v/\RdF K H v d e.F/\(m=.ow->e.F.Nodup)/\(m=.tp->∀a l,e.F=a::l->a∉l)
 | .drw=>∃dr c k f,e.v=some (.ref dr)/\e.F=[dr]/\aG H dr c k f/\0<=k/\k<=(n:Int)
 | .dT kvs=>∃a ks,e.v=some (.ref a)/\e.F=[a]/\H a=some (.dT ks)/\ks.map (·.1)=kvs.map (·.1)/\RdFs K H (ks.map (·.2)) (kvs.map (·.2)) []
 | .val v=>e.v=some v/\e.F=[]
 | .scr ns=>∃a,e.v=some (.ref a)/\e.F=[]/\KL K H a (ns.map V.int)/\ns.length<=63
 | .acc ds=>∃a xs G,e.v=some (.ref a)/\e.F=a::G/\H a=some (.lst xs)/\RdFs K H xs ds G/\ds.length<=Bb/\a∉G
 | .grd Hc=>∀a∈e.F,∃o,Hc a=some o/\H a=some o
 | .tpl xs=>∃t,e.v=some (.ref t)/\H t=some (.tup xs)/\e.F=[]
structure At(K:PySem.W.Frag)(H0:Hp)(X:Addr->Prop)(n:Nat)(E:List Ent)(H:Hp):Prop where
 ok:∀e∈E,Hi K H n e
 sep:E.Pairwise Vb
 new:∀e∈E,∀a∈cells e,H0 a=none\/(X a/\DW e.x=true)
 same:∀b o,¬ X b->H0 b=some o->H b=some o
 dom:∀b o,H0 b=some o->∃o',H b=some o'
 xd:∀b,X b->H0 b≠none/\∃c k f,aG H b c k f/\0<=k/\k<=(n:Int)
section
variable{K:PySem.W.Frag}{H0 H H':Hp}{X:Addr->Prop}{n n':Nat}{E E' S T:List Ent}{e f:Ent}
theorem At.perm(h:At K H0 X n E H)(p:E.Perm E'):At K H0 X n E' H :=
 ⟨λe he=>h.ok e (p.mem_iff.mpr he),(p.pairwise_iff λ{a b}=>Vb.symm).mp h.sep,λe he=>h.new e (p.mem_iff.mpr he),h.same,h.dom,h.xd⟩
theorem At.sub(h:At K H0 X n E H)(p:E'.Sublist E):At K H0 X n E' H :=
 ⟨λe he=>h.ok e (p.subset he),h.sep.sublist p,λe he=>h.new e (p.subset he),h.same,h.dom,h.xd⟩
theorem At.drop(h:At K H0 X n (S++e::T) H):At K H0 X n (S++T) H:=h.sub ((Dl S).append (Di _ _))
theorem jF:(S++e::T).Perm (e::(S++T)):=Hb
theorem At.mid(h:At K H0 X n (S++e::T) H):At K H0 X n (e::(S++T)) H:=h.perm jF
theorem At.tomid(h:At K H0 X n (e::(S++T)) H):At K H0 X n (S++e::T) H:=h.perm jF.symm
theorem Hi.dom(h:Hi K H n e):∀a∈e.F,∃o,H a=some o:=by
 obtain ⟨v,x,F⟩:=e
 intro a ha
 cases x with
 | un=>rw[show F=[] from h] at ha; cases ha
 | val _=>rw[show F=[] from h.2] at ha; cases ha
 | scr _ =>
  obtain ⟨_,_,hF,_⟩:=h
  rw[show F=[] from hF] at ha; cases ha
 | dat m d =>
  obtain ⟨w,_,h,_⟩:=h
  obtain ⟨xs,z⟩:=h.dom a ha
  exact ⟨_,z⟩
 | drw =>
  obtain ⟨dr,c,k,f,_,hF,h,_⟩:=h
  rw[show F=[dr] from hF] at ha
  rw[Af.mp ha]
  exact ⟨_,h⟩
 | grd Hc =>
  obtain ⟨o,_,z⟩:=h a ha
  exact ⟨o,z⟩
 | tpl xs =>
  obtain ⟨_,_,_,hF⟩:=h
  rw[show F=[] from hF] at ha; cases ha
 | dT kvs =>
  obtain ⟨b,ks,_,hF,h,_⟩:=h
  rw[show F=[b] from hF] at ha
  rw[Af.mp ha]
  exact ⟨_,h⟩
 | acc ds =>
  obtain ⟨b,ks,G,_,hF,h,hr,_⟩:=h
  rw[show F=b::G from hF] at ha
  rcases Ao.mp ha with rfl | ha
  ·exact ⟨_,h⟩
  ·obtain ⟨xs,z⟩:=hr.dom a ha
   exact ⟨_,z⟩
theorem Hi.kp(h:Hi K H n e)(k:Kp e.F H H')(hn:n<=n'):Hi K H' n' e:=by
 obtain ⟨v,x,F⟩:=e
 cases x with
 | un=>exact h
 | val _=>exact h
 | scr _ =>
  obtain ⟨a,h1,h2,h3,h4⟩:=h
  exact ⟨a,h1,h2,h3.kp k,h4⟩
 | dat m d =>
  obtain ⟨w,h1,h2,h3⟩:=h
  exact ⟨w,h1,h2.kp k,h3⟩
 | drw =>
  obtain ⟨dr,c,kk,f,h1,hF,h2,h3,h4⟩:=h
  have hF':F=[dr]:=hF
  subst hF'
  exact ⟨dr,c,kk,f,h1,rfl,k _ _ h2 (.inl Aa),h3,by omega⟩
 | tpl xs =>
  obtain ⟨t,h1,h2,h3⟩:=h
  exact ⟨t,h1,k _ _ h2 (.inr (.inl ⟨_,rfl⟩)),h3⟩
 | grd Hc =>
  intro a ha
  obtain ⟨o,h1,h2⟩:=h a ha
  exact ⟨o,h1,k _ _ h2 (.inl ha)⟩
 | dT kvs =>
  obtain ⟨b,ks,h1,hF,h2,h3,h4⟩:=h
  have hF':F=[b]:=hF
  subst hF'
  exact ⟨b,ks,h1,rfl,k _ _ h2 (.inl Aa),h3,h4.kp (k.sub λ_ z=>nomatch z)⟩
 | acc ds =>
  obtain ⟨b,ks,G,h1,hF,h2,h3,h4⟩:=h
  have hF':F=b::G:=hF
  subst hF'
  exact ⟨b,ks,G,h1,rfl,k _ _ h2 (.inl Aa),h3.kp (k.sub λ_ z=>Ae _ z),h4⟩
theorem At.grow(h:At K H0 X n E H)(s:Yy H H')(hn:n<=n'):At K H0 X n' E H' :=
 ⟨λe he=>(h.ok e he).kp (Kp.of s) hn,h.sep,h.new,λb o nx e=>s _ _ (h.same b o nx e),λb o e=>let ⟨o',q⟩:=h.dom b o e; ⟨o',s _ _ q⟩,λb hb=>let ⟨z,c,k,f,h1,h2,h3⟩:=h.xd b hb; ⟨z,c,k,f,s _ _ h1,h2,by omega⟩⟩
theorem At.free(h:At K H0 X n E H){a:Addr}(ha:H a=none):∀e∈E,a∉e.F:=λe he z=>by
 obtain ⟨o,q⟩:=(h.ok e he).dom a z
 rw[ha] at q; cases q
theorem At.push(h:At K H0 X n E H)(ok:Hi K H n e)(sep:∀f∈E,Vb e f)(new:∀a∈cells e,H0 a=none\/(X a/\DW e.x=true)):At K H0 X n (e::E) H :=
 ⟨λg hg=>by
  rcases Ao.mp hg with rfl | hg
  ·exact ok
  ·exact h.ok g hg,Bc.mpr ⟨sep,h.sep⟩,λg hg=>by
  rcases Ao.mp hg with rfl | hg
  ·exact new
  ·exact h.new g hg,h.same,h.dom,h.xd⟩
theorem At.new0(h:At K H0 X n E H){p:Addr}(hp:H p=none):H0 p=none:=by
 cases q:H0 p with
 | none=>rfl
 | some o =>
  obtain ⟨o',z⟩:=h.dom p o q
  rw[hp] at z; cases z
theorem x3{v:Option V}{m:Md}{d:Ad}:Vb ⟨v,.dat m d,[]⟩ f:=by
 refine ⟨λ_ a ha=>?_,λ_ a _=>Bz⟩
 have:=Fm _ a ha
 cases this
theorem At.pushI(h:At K H0 X n (S++T) H){v:V}{m:Md}{d:Ad}(r:RdF K H v d []):At K H0 X n (S++⟨some v,.dat m d,[]⟩::T) H :=
 (h.push (e:=⟨some v,.dat m d,[]⟩) ⟨v,rfl,r,λ_=>Cz,λ_ a l z=>nomatch z⟩ (λf _=>x3) (λa ha=>nomatch Fm _ a ha)).tomid
def wk:Md->Md->Bool
 | _,.pk=>true
 | .pk,_=>false
 | _,.sh=>true
 | .sh,_=>false
 | _,.tp=>true
 | .tp,.ow=>false
 | .ow,.ow=>true
theorem kF{v:Option V}{m m':Md}{d:Ad}{F:List Addr}(w:wk m m'=true):∀a∈cells ⟨v,.dat m' d,F⟩,a∈cells ⟨v,.dat m d,F⟩:=by
 intro a ha
 cases m <;> cases m' <;> first | exact absurd w (by decide) | exact ha | exact absurd ha Bz | exact (Hw 1 F).subset ha
theorem uC{α:Type}{F:List α}(h:F.Nodup):∀a l,F=a::l->a∉l:=λa l e=>by
 subst e
 exact (Cn.mp h).1
theorem Hi.wk{v:Option V}{m m':Md}{d:Ad}{F:List Addr}(w:wk m m'=true)(h:Hi K H n ⟨v,.dat m d,F⟩):Hi K H n ⟨v,.dat m' d,F⟩:=by
 obtain ⟨u,h1,h2,h3,h4⟩:=h
 refine ⟨u,h1,h2,λe=>?_,λe=>?_⟩
 ·subst e
  cases m <;> first | exact absurd w (by decide) | exact h3 rfl
 ·subst e
  cases m <;> first | exact absurd w (by decide) | exact h4 rfl | exact uC (h3 rfl)
theorem Vb.wk{v:Option V}{m m':Md}{d:Ad}{F:List Addr}(w:wk m m'=true)(h:Vb ⟨v,.dat m d,F⟩ f):Vb ⟨v,.dat m' d,F⟩ f:=by
 refine ⟨λhp a ha=>?_,λhp a ha=>?_⟩
 ·rcases hp with hp | hp
  ·exact h.1 (.inl hp) a (kF w a ha)
  ·cases hp
 ·rcases hp with hp | hp
  ·refine h.2 (.inl ?_) a ha
   cases m <;> cases m' <;> first | rfl | exact absurd w (by decide) | exact absurd hp (by show ¬ (true=false); decide)
  ·exact h.2 (.inr hp) a ha
theorem At.wk{v:Option V}{m m':Md}{d:Ad}{F:List Addr}(w:wk m m'=true)(h:At K H0 X n (⟨v,.dat m d,F⟩::E) H):At K H0 X n (⟨v,.dat m' d,F⟩::E) H:=by
 have hs:=Bc.mp h.sep
 refine (h.sub (Di _ _)).push ((h.ok _ Aa).wk w) (λf hf=>(hs.1 f hf).wk w) λa ha=>?_
 rcases h.new _ Aa a (kF w a ha) with z | z
 ·exact .inl z
 ·cases z.2
end
abbrev DE:=DS->(DV->DS->Prop)->Prop
abbrev DT:=DS->(Bool->DS->Prop)->Prop
abbrev DA:=DS->(List DV->DS->Prop)->Prop
structure DEnds where
 nx:DS->Prop
 rt:DV->DS->Prop
 bk:DS->Prop:=λ_=>False
 ct:DS->Prop:=λ_=>False
abbrev DB:=DEnds->DS->Prop
abbrev DG:=DV->DS->(DS->Prop)->Prop
abbrev zC:=List DV->DS->(DS->Prop)->Prop
def vs(S:List Ent):L2.St:=S.map Ent.v
def Sl(S:List Ent)(δ:DS):Prop:=S.map Ent.x=δ.sl
section
variable(K:PySem.W.Frag)
def LE(de:DE):TE:=λσ H Q=>∃(H0:Hp) (X:Addr->Prop) (S T:List Ent) (δ:DS) (P:DV->DS->Prop),vs S=σ/\Sl S δ/\At K H0 X δ.n (S++T) H/\de δ P /\
 ∀x δ' v F S' H',vs S'=σ->Sl S' δ'->At K H0 X δ'.n (S'++⟨some v,x,F⟩::T) H'->P x δ'->Q v H'
def LT(dt:DT):TT:=λσ H Q=>∃(H0:Hp) (X:Addr->Prop) (S T:List Ent) (δ:DS) (P:Bool->DS->Prop),vs S=σ/\Sl S δ/\At K H0 X δ.n (S++T) H/\dt δ P /\
 ∀b δ' S' H',vs S'=σ->Sl S' δ'->At K H0 X δ'.n (S'++T) H'->P b δ'->Q b H'
def LA(da:DA):TA:=λσ H Q=>∃(H0:Hp) (X:Addr->Prop) (S T:List Ent) (δ:DS) (P:List DV->DS->Prop),vs S=σ/\Sl S δ/\At K H0 X δ.n (S++T) H/\da δ P /\
 ∀xs δ' As us S' H',vs S'=σ->Sl S' δ'->As.map Ent.x=xs->As.map Ent.v=us.map some->At K H0 X δ'.n (S'++(As++T)) H'->P xs δ'->Q us H'
def LS(db:DB):TS:=λD σ H=>∃(H0:Hp) (X:Addr->Prop) (S T:List Ent) (δ:DS) (P:DEnds),vs S=σ/\Sl S δ/\(∀e∈T,Og e.x=false)/\At K H0 X δ.n (S++T) H/\db P δ /\
 (∀δ' S' H',Sl S' δ'->At K H0 X δ'.n (S'++T) H'->P.nx δ'->D.nx (vs S') H') /\
 (∀x δ' v F S' H',Sl S' δ'->At K H0 X δ'.n (S'++⟨some v,x,F⟩::T) H'->P.rt x δ'->D.rt v H') /\
 (∀δ' S' H',Sl S' δ'->At K H0 X δ'.n (S'++T) H'->P.bk δ'->D.bk (vs S') H') /\
 (∀δ' S' H',Sl S' δ'->At K H0 X δ'.n (S'++T) H'->P.ct δ'->D.ct (vs S') H')
def LG(dg:DG):TG:=λv σ H Q=>∃(H0:Hp) (X:Addr->Prop) (S T:List Ent) (δ:DS) (x:DV) (F:List Addr) (P:DS->Prop),vs S=σ/\Sl S δ/\At K H0 X δ.n (S++⟨some v,x,F⟩::T) H/\dg x δ P /\
 ∀δ' S' H',Sl S' δ'->At K H0 X δ'.n (S'++T) H'->P δ'->Q (vs S') H'
def IE(dg:zC):C8:=λus σ H Q=>∃(H0:Hp) (X:Addr->Prop) (S T As:List Ent) (δ:DS) (P:DS->Prop),vs S=σ/\Sl S δ/\As.map Ent.v=us.map some/\At K H0 X δ.n (S++(As++T)) H/\dg (As.map Ent.x) δ P /\
 ∀δ' S' H',Sl S' δ'->At K H0 X δ'.n (S'++T) H'->P δ'->Q (vs S') H'
end
abbrev Fc(X:Cx)(e:Expr)(de:DE):Prop:=PE X e (LE X.K de)
abbrev dO(X:Cx)(e:Expr)(dt:DT):Prop:=PT X e (LT X.K dt)
abbrev FI(X:Cx)(e:Expr)(dt:DT):Prop:=PW X e (LT X.K dt)
abbrev mQ(X:Cx)(es:List Expr)(da:DA):Prop:=PA X es (LA X.K da)
abbrev gO(X:Cx)(st:Stmt)(db:DB):Prop:=PS X st (LS X.K db)
abbrev Ug(X:Cx)(st:List Stmt)(db:DB):Prop:=pJ X st (LS X.K db)
abbrev CM(X:Cx)(tg:Expr)(dg:DG):Prop:=PG X tg (LG X.K dg)
abbrev u9(X:Cx)(tg:List Expr)(dg:zC):Prop:=R4 X tg (IE X.K dg)
theorem PE.imp{X:Cx}{e:Expr}{t t':TE}(h:PE X e t)(k:∀σ H Q,t' σ H Q->t σ H Q):PE X e t':=λpins s σ H Q I q=>h pins s σ H Q I (k σ H Q q)
theorem PT.imp{X:Cx}{e:Expr}{t t':TT}(h:PT X e t)(k:∀σ H Q,t' σ H Q->t σ H Q):PT X e t':=λpins s σ H Q I q=>h pins s σ H Q I (k σ H Q q)
theorem PW.imp{X:Cx}{e:Expr}{t t':TT}(h:PW X e t)(k:∀σ H Q,t' σ H Q->t σ H Q):PW X e t':=λwh pins s σ H Q I q=>h wh pins s σ H Q I (k σ H Q q)
theorem PA.imp{X:Cx}{e:List Expr}{t t':TA}(h:PA X e t)(k:∀σ H Q,t' σ H Q->t σ H Q):PA X e t':=λpos pins s σ H Q I q=>h pos pins s σ H Q I (k σ H Q q)
theorem PG.imp{X:Cx}{e:Expr}{t t':TG}(h:PG X e t)(k:∀v σ H Q,t' v σ H Q->t v σ H Q):PG X e t':=λpins s σ H v u Q I r q=>h pins s σ H v u Q I r (k v σ H Q q)
theorem R4.imp{X:Cx}{e:List Expr}{t t':C8}(h:R4 X e t)(k:∀v σ H Q,t' v σ H Q->t v σ H Q):R4 X e t':=λpins s σ H v u Q I r q=>h pins s σ H v u Q I r (k v σ H Q q)
section
variable{K:PySem.W.Frag}{H:Hp}{v:V}{F:List Addr}
theorem RdF.int_inv{i:Int}(h:RdF K H v (.int i) F):v=.int i/\F=[]:=by cases h; exact ⟨rfl,rfl⟩
theorem RdF.bl_inv{i:Bool}(h:RdF K H v (.bool i) F):v=.bl i/\F=[]:=by cases h; exact ⟨rfl,rfl⟩
theorem RdF.str_inv{i:Str}(h:RdF K H v (.str i) F):v=.str i/\F=[]:=by cases h; exact ⟨rfl,rfl⟩
theorem RdF.non_inv(h:RdF K H v .none F):v=.non/\F=[]:=by cases h; exact ⟨rfl,rfl⟩
theorem RdF.list_inv{ds:List Ad}(h:RdF K H v (.list ds) F):∃a xs G,v=.ref a/\H a=some (.lst xs)/\RdFs K H xs ds G/\F=a::G/\ds.length<=Bb:=by
 cases h with
 | lst h l hs=>exact ⟨_,_,_,rfl,h,hs,rfl,l⟩
theorem RdF.tup_inv{ds:List Ad}(h:RdF K H v (.tuple ds) F):∃a xs,v=.ref a/\H a=some (.tup xs)/\RdFs K H xs ds F/\ds.length<=Bb:=by
 cases h with
 | tup h l hs=>exact ⟨_,_,rfl,h,hs,l⟩
end
section
variable{K:PySem.W.Frag}{H0 H H':Hp}{X:Addr->Prop}{n:Nat}{E S T:List Ent}{v:V}{m:Md}{d:Ad}{F:List Addr}
theorem At.told(h:At K H0 X n E H)(he:⟨some v,.dat m d,F⟩∈E):RdF K H v d F:=by
 obtain ⟨w,e1,h1,_⟩:=h.ok _ he
 cases e1
 exact h1
theorem mem_mid{e:Ent}:e∈S++e::T:=Ag _ Aa
theorem Fk{e f:Ent}:f∈S++e::f::T:=Ag _ (Ae _ Aa)
theorem At.drop2{e f:Ent}(h:At K H0 X n (S++e::f::T) H):At K H0 X n (S++T) H:=h.drop.drop
theorem At.dropL{As:List Ent}(h:At K H0 X n (S++(As++T)) H):At K H0 X n (S++T) H:=h.sub ((Dl S).append (Cm As T))
end
def jW:Md->Md
 | .ow=>.pk
 | .tp=>.pk
 | m=>m
def U3(i:Nat):DE:=λδ P=>match δ.sl[i]? with
 | some (.dat m d)=>P (.dat (jW m) d) δ
 | _=>False
def dC(d:Ad):DE:=λδ P=>P (.dat .ow d) δ
theorem Jy{S:List Ent}{δ:DS}{i:Nat}{x:DV}(h:Sl S δ)(e:δ.sl[i]? = some x):∃ent,S[i]? = some ent/\ent.x=x:=by
 unfold Sl at h
 rw[<- h,Bw] at e
 cases q:S[i]? with
 | none=>rw[q] at e; cases e
 | some ent=>rw[q] at e; exact ⟨ent,rfl,Cj e⟩
theorem Oo{S:List Ent}{i:Nat}{e:Ent}(h:S[i]? = some e):(vs S)[i]? = some e.v:=by
 unfold vs
 rw[Bw,h]
 rfl
theorem At.look{K:PySem.W.Frag}{H0 H:Hp}{X:Addr->Prop}{n:Nat}{S T:List Ent}{u:Option V}{v:V}{m:Md}{d:Ad}{F:List Addr}(h:At K H0 X n (S++T) H)(he:⟨u,.dat m d,F⟩∈S)(hu:u=some v):At K H0 X n (S++⟨some v,.dat (jW m) d,F⟩::T) H:=by
 subst hu
 obtain ⟨S1,S2,rfl⟩:=List.append_of_mem he
 have hp:((S1++⟨some v,.dat m d,F⟩::S2)++T).Perm (⟨some v,.dat m d,F⟩::(S1++(S2++T))):=by
  rw[Cb,Hd]
  exact Hb
 have h2:=h.perm hp
 have hs:=Bc.mp h2.sep
 refine (h.push (e:=⟨some v,.dat (jW m) d,F⟩) ?_ (λf hf=>?_) λa ha=>?_).tomid
 ·obtain ⟨w,e1,h1,_⟩:=h2.ok _ Aa
  refine ⟨w,e1,h1,λz=>?_,λz=>?_⟩ <;> cases m <;> cases z
 ·refine ⟨λ_ a ha=>?_,λhq a ha=>?_⟩
  ·cases m <;> exact nomatch ha
  ·rcases Ao.mp (hp.mem_iff.mp hf) with rfl | hf
   ·rcases hq with hq | hq
    ·cases m <;> first | cases hq; done | exact nomatch ha
    ·cases hq
   ·refine (hs.1 f hf).2 ?_ a ha
    rcases hq with hq | hq
    ·refine .inl ?_
     cases m <;> first | rfl | exact hq
    ·exact .inr hq
 ·cases m <;> exact nomatch ha
section
variable{X:Cx}{e:Expr}
theorem Am{i:Nat}(h:PE X e (gN i)):Fc X e (U3 i):=by
 refine PE.imp h λσ H Q h=>?_
 obtain ⟨H0,Y,S,T,δ,P,rfl,hS,hA,hd,k⟩:=h
 unfold U3 at hd
 split at hd
 ·rename_i m d e1
  obtain ⟨ent,e2,e3⟩:=Jy hS e1
  have hm:ent∈S:=Ax e2
  obtain ⟨u,x,F⟩:=ent
  subst e3
  obtain ⟨v,hv,_⟩:=hA.ok _ (Al _ hm)
  refine ⟨v,by rw[Oo e2]; exact congrArg some hv,k _ δ v F S H rfl hS (hA.look hm hv) hd⟩
 ·exact hd.elim
theorem iK{v:V}{d:Ad}(h:PE X e (tC v))(r:∀H,RdF X.K H v d []):Fc X e (dC d):=by
 refine PE.imp h λσ H Q h=>?_
 obtain ⟨H0,Y,S,T,δ,P,rfl,hS,hA,hd,k⟩:=h
 exact k _ δ v [] S H rfl hS (hA.pushI (r H)) hd
theorem Cs{i j pos}:Fc X (.Constant (.int i) j pos) (dC (.int i)):=iK Fh λ_=>.int i
theorem Ka{i j pos}:Fc X (.Constant (.bool i) j pos) (dC (.bool i)):=iK zP λ_=>.bl i
theorem Xm{i j pos}:Fc X (.Constant (.str i) j pos) (dC (.str i)):=iK X4 λ_=>.str i
theorem gY{j pos}:Fc X (.Constant .none j pos) (dC .none):=iK zA λ_=>.non
end
def DN(de:DE):DE:=λδ P=>de δ λx δ'=>match x with
 | .dat _ d=>imm d=true/\P (.dat .ow d) δ'
 | _=>False
theorem Nw{X:Cx}{e:Expr}{de:DE}(h:Fc X e de):Fc X e (DN de):=by
 refine PE.imp h λσ H Q h=>?_
 obtain ⟨H0,Y,S,T,δ,P,rfl,hS,hA,hd,k⟩:=h
 refine ⟨H0,Y,S,T,δ,_,rfl,hS,hA,hd,λx δ' v F S' H' e1 e2 hA' p=>?_⟩
 cases x with
 | dat m d =>
  have r:=hA'.told mem_mid
  obtain rfl:=r.imm p.1
  exact k _ δ' v [] S' H' e1 e2 (hA'.drop.pushI r) p.2
 | _=>exact p.elim
def zX(i:Nat):DE:=λδ P=>match δ.sl[i]? with
 | some (.dat m d)=>P (.dat m d) ⟨δ.sl.set i .un,δ.n⟩
 | _=>False
theorem Vd{α:Type}:∀{l:List α} {i:Nat} {x y:α},l[i]? = some x->(y::l).Perm (x::l.set i y)
 | [],i,x,y,h=>by simp at h
 | z::l,0,x,y,h=>by
  simp at h
  subst h
  exact Et _ _ _
 | z::l,i+1,x,y,h=>by
  have ih:=Vd (l:=l) (i:=i) (x:=x) (y:=y) (by simpa using h)
  rw[List.set_cons_succ]
  exact (Et z y l).trans ((ih.cons z).trans (Et x z _))
theorem F6{X:Cx}{e:Expr}{i:Nat}(h:PE X e (gN i)):Fc X e (zX i):=by
 refine PE.imp h λσ H Q h=>?_
 obtain ⟨H0,Y,S,T,δ,P,rfl,hS,hA,hd,k⟩:=h
 unfold zX at hd
 split at hd
 ·rename_i m d e1
  obtain ⟨ent,e2,e3⟩:=Jy hS e1
  have hm:ent∈S:=Ax e2
  obtain ⟨u,x,F⟩:=ent
  subst e3
  obtain ⟨v,hv,hv2⟩:=hA.ok _ (Al _ hm)
  have hv':u=some v:=hv
  subst hv'
  refine ⟨v,by rw[Oo e2],k _ _ v F (S.set i ⟨some v,.un,[]⟩) H ?_ ?_ ?_ hd⟩
  ·unfold vs
   rw[Hx]
   apply Gn
   intro j
   rw[Jw]
   split
   ·rename_i hij
    subst hij
    rw[Bw,e2]
    split
    ·rfl
    ·rename_i hj
     rw[Ab] at hj
     exact absurd (An.mp e2).1 hj
   ·rfl
  ·unfold Sl at hS ⊢
   rw[Hx,hS]
  ·have hp:=hA.push (e:=⟨some v,.un,[]⟩) (show Hi X.K H δ.n ⟨some v,.un,[]⟩ from rfl) (λf _=>⟨λ_ a ha=>(nomatch ha),λ_ a _=>Bz⟩) (λa ha=>(nomatch ha))
   have p1:(⟨some v,.un,[]⟩::(S++T)).Perm ((S.set i ⟨some v,.un,[]⟩)++⟨some v,.dat m d,F⟩::T):=by
    rw[<- Hd]
    exact ((Vd (y:=(⟨some v,.un,[]⟩ : Ent)) e2).append_right T).trans (by rw[Hd]; exact List.perm_middle.symm)
   exact hp.perm p1
 ·exact hd.elim
abbrev D2:=DV->DV->(DV->Prop)->Prop
def iX(K:PySem.W.Frag)(r:R2)(rd:D2):Prop:=∀(H0:Hp) (X:Addr->Prop) (n:Nat) (S T:List Ent) (x y:DV) (v w:V) (F G:List Addr) (H:Hp) (Q:VK) (P:DV->Prop),
 At K H0 X n (S++⟨some w,y,G⟩::⟨some v,x,F⟩::T) H->rd x y P->(∀z u F' H',At K H0 X n (S++⟨some u,z,F'⟩::T) H'->P z->Q u H')->r v w H Q
def Uw(rd:D2)(da db:DE):DE:=λδ P=>da δ λx δ1=>db δ1 λy δ2=>rd x y λz=>P z δ2
theorem op_le{K:PySem.W.Frag}{r:R2}{rd:D2}{da db:DE}(o:iX K r rd):∀σ H Q,LE K (Uw rd da db) σ H Q->ES r (LE K da) (LE K db) σ H Q:=by
 intro σ H Q h
 obtain ⟨H0,Y,S,T,δ,P,rfl,hS,hA,hd,k⟩:=h
 refine ⟨H0,Y,S,T,δ,_,rfl,hS,hA,hd,λx δ1 v F S1 H1 e1 e2 hA1 p1=>?_⟩
 refine ⟨H0,Y,S1,⟨some v,x,F⟩::T,δ1,_,e1,e2,hA1,p1,λy δ2 w G S2 H2 e3 e4 hA2 p2=>?_⟩
 exact o H0 Y δ2.n S2 T x y v w F G H2 Q _ hA2 p2 λz u F' H' hA3 p3=>k z δ2 u F' S2 H' e3 e4 hA3 p3
section
variable{X:Cx}{a b:Expr}{da db:DE}{pos:Pos}{r:R2}{rd:D2}
theorem Xr{op:Operator}(ho:Wh X (Kx op) r)(o:iX X.K r rd)(ha:Fc X a da)(hb:Fc X b db):Fc X (.BinOp a op b pos) (Uw rd da db):=PE.imp (Jp ho ha hb) (op_le o)
theorem bU{op:CmpOp}(ho:Wh X (Gi op) r)(o:iX X.K r rd)(ha:Fc X a da)(hb:Fc X b db)(hm:Fx op b=false):Fc X (.Compare a [op] [b] pos) (Uw rd da db):=PE.imp (G3 ho ha hb hm) (op_le o)
theorem EN(ho:o9 X r)(o:iX X.K r rd)(ha:Fc X a da)(hb:Fc X b db)(hs:gC b):Fc X (.Subscript a b pos) (Uw rd da db):=PE.imp (Yg ho ha hb hs) (op_le o)
end
def AF(C:Int->Int->Prop)(g:Int->Int->Ad):D2:=λx y P=>match x,y with
 | .dat _ (.int i),.dat _ (.int j)=>C i j/\P (.dat .ow (g i j))
 | _,_=>False
def bV(g:Int->Int->Ad):D2:=λx y P=>match x,y with
 | .dat _ (.int i),.dat _ (.int j)=>P (.dat .ow (g i j))
 | _,_=>False
section
variable{K:PySem.W.Frag}
theorem R6{C:Int->Int->Prop}{g:Int->Int->V}{g':Int->Int->Ad}(h:∀i j H,RdF K H (g i j) (g' i j) []):iX K (rI C g) (AF C g'):=by
 intro H0 X n S T x y v w F G H Q P hA hd k
 unfold AF at hd
 split at hd
 ·obtain ⟨rfl,_⟩:=(hA.told Fk).int_inv
  obtain ⟨rfl,_⟩:=(hA.told mem_mid).int_inv
  exact ⟨_,_,rfl,rfl,hd.1,k _ _ [] H (hA.drop2.pushI (h _ _ H)) hd.2⟩
 ·exact hd.elim
theorem Yb{g:Int->Int->V}{g':Int->Int->Ad}(h:∀i j H,RdF K H (g i j) (g' i j) []):iX K (t9 g) (bV g'):=by
 intro H0 X n S T x y v w F G H Q P hA hd k
 unfold bV at hd
 split at hd
 ·obtain ⟨rfl,_⟩:=(hA.told Fk).int_inv
  obtain ⟨rfl,_⟩:=(hA.told mem_mid).int_inv
  exact ⟨_,_,rfl,rfl,k _ _ [] H (hA.drop2.pushI (h _ _ H)) hd⟩
 ·exact hd.elim
end
abbrev rdAdd:D2:=bV λi j=>.int (i+j)
abbrev rdSub:D2:=bV λi j=>.int (i - j)
abbrev rdMul:D2:=AF Q4 λi j=>.int (i * j)
abbrev rdDiv:D2:=AF R0 λi j=>.int (i / j)
abbrev rdMod:D2:=AF (λ_ j=>0<j) λi j=>.int (i % j)
abbrev rdLt:D2:=bV λi j=>.bool (decide (i<j))
abbrev rdLe:D2:=bV λi j=>.bool (decide (i<=j))
abbrev rdGt:D2:=bV λi j=>.bool (decide (j<i))
abbrev rdGe:D2:=bV λi j=>.bool (decide (j<=i))
section
variable{X:Cx}{a b:Expr}{da db:DE}{pos:Pos}
theorem Wr(ha:Fc X a da)(hb:Fc X b db):Fc X (.BinOp a .Add b pos) (Uw rdAdd da db):=Xr aK (Yb λ_ _ _=>.int _) ha hb
theorem Rk(ha:Fc X a da)(hb:Fc X b db):Fc X (.BinOp a .Sub b pos) (Uw rdSub da db):=Xr Z7 (Yb λ_ _ _=>.int _) ha hb
theorem AA(ha:Fc X a da)(hb:Fc X b db):Fc X (.BinOp a .Mult b pos) (Uw rdMul da db):=Xr Wt (R6 λ_ _ _=>.int _) ha hb
theorem vE(ha:Fc X a da)(hb:Fc X b db):Fc X (.BinOp a .FloorDiv b pos) (Uw rdDiv da db):=Xr iQ (R6 λ_ _ _=>.int _) ha hb
theorem aC(ha:Fc X a da)(hb:Fc X b db):Fc X (.BinOp a .Mod b pos) (Uw rdMod da db):=Xr Uj (R6 λ_ _ _=>.int _) ha hb
theorem qT(ha:Fc X a da)(hb:Fc X b db):Fc X (.Compare a [.Lt] [b] pos) (Uw rdLt da db):=bU M8 (Yb λ_ _ _=>.bl _) ha hb (Mn _)
theorem EC(ha:Fc X a da)(hb:Fc X b db):Fc X (.Compare a [.LtE] [b] pos) (Uw rdLe da db):=bU L2.op_le (Yb λ_ _ _=>.bl _) ha hb (Mn _)
theorem AO(ha:Fc X a da)(hb:Fc X b db):Fc X (.Compare a [.GtE] [b] pos) (Uw rdGe da db):=bU e8 (Yb λ_ _ _=>.bl _) ha hb (Mn _)
end
def iV(ne:Bool):D2:=λx y P=>match x,y with
 | .dat _ d,.dat _ e=>d.depth<=60/\e.depth<=60/\P (.dat .ow (.bool (match ne with | true=>!Ee d e | false=>Ee d e)))
 | _,_=>False
def zM(ne:Bool):D2:=λx y P=>match x,y with
 | .dat _ d,.dat _ (.list es)=>Bn es<=60/\d.depth<=60/\P (.dat .ow (.bool (match ne with | true=>!(es.any λe=>Ee e d) | false=>es.any λe=>Ee e d)))
 | .dat _ d,.dat _ (.tuple es)=>Bn es<=60/\d.depth<=60/\P (.dat .ow (.bool (match ne with | true=>!(es.any λe=>Ee e d) | false=>es.any λe=>Ee e d)))
 | _,_=>False
section
variable{K:PySem.W.Frag}
theorem N4:iX K (CA K) (iV false):=by
 intro H0 X n S T x y v w F G H Q P hA hd k
 unfold iV at hd
 split at hd
 ·exact ⟨_,_,(hA.told Fk).rd (Ci hd.1 (by decide)),(hA.told mem_mid).rd (Ci hd.2.1 (by decide)),hd.1,k _ _ [] H (hA.drop2.pushI (.bl _)) hd.2.2⟩
 ·exact hd.elim
theorem ED:iX K (AY K) (iV true):=by
 intro H0 X n S T x y v w F G H Q P hA hd k
 unfold iV at hd
 split at hd
 ·exact ⟨_,_,(hA.told Fk).rd (Ci hd.1 (by decide)),(hA.told mem_mid).rd (Ci hd.2.1 (by decide)),hd.1,k _ _ [] H (hA.drop2.pushI (.bl _)) hd.2.2⟩
 ·exact hd.elim
theorem N6{ne:Bool}:iX K (EB K ne) (zM ne):=by
 intro H0 X n S T x y v w F G H Q P hA hd k
 unfold zM at hd
 split at hd
 ·obtain ⟨a,xs,G',rfl,hq,hs,_,_⟩:=(hA.told mem_mid).list_inv
  refine ⟨a,xs,_,_,rfl,.inl (Ud.of hq),(hA.told Fk).rd (Ci hd.2.1 (by decide)),hs.rd (Ci hd.1 (by decide)),hd.1,?_⟩
  cases ne with
  | true=>exact k _ _ [] H (hA.drop2.pushI (.bl _)) hd.2.2
  | false=>exact k _ _ [] H (hA.drop2.pushI (.bl _)) hd.2.2
 ·obtain ⟨a,xs,rfl,hq,hs,_⟩:=(hA.told mem_mid).tup_inv
  refine ⟨a,xs,_,_,rfl,.inr (Ur.of hq),(hA.told Fk).rd (Ci hd.2.1 (by decide)),hs.rd (Ci hd.1 (by decide)),hd.1,?_⟩
  cases ne with
  | true=>exact k _ _ [] H (hA.drop2.pushI (.bl _)) hd.2.2
  | false=>exact k _ _ [] H (hA.drop2.pushI (.bl _)) hd.2.2
 ·exact hd.elim
def isNone:Ad->Bool
 | .none=>true
 | _=>false
theorem sD{v:V}{H:Hp}{d:Ad}{F:List Addr}(r:RdF K H v d F):decide (v=.non)=isNone d:=by
 cases r <;> simp [isNone]
def Yd(ne:Bool):D2:=λx y P=>match x,y with
 | .dat _ d,.dat _ .none=>P (.dat .ow (.bool (match ne with | true=>!isNone d | false=>isNone d)))
 | _,_=>False
theorem Y7:iX K (λx y H Q=>y=.non/\Q (.bl (decide (x=.non))) H) (Yd false):=by
 intro H0 X n S T x y v w F G H Q P hA hd k
 unfold Yd at hd
 split at hd
 ·obtain ⟨rfl,_⟩:=(hA.told mem_mid).non_inv
  refine ⟨rfl,k _ _ [] H (hA.drop2.pushI (m:=.ow) (.bl _)) ?_⟩
  rw[sD (hA.told Fk)]
  exact hd
 ·exact hd.elim
theorem A0:iX K (λx y H Q=>y=.non/\Q (.bl (!decide (x=.non))) H) (Yd true):=by
 intro H0 X n S T x y v w F G H Q P hA hd k
 unfold Yd at hd
 split at hd
 ·rename_i m d m'
  obtain ⟨rfl,_⟩:=(hA.told mem_mid).non_inv
  refine ⟨rfl,k _ _ [] H (hA.drop2.pushI (m:=.ow) (.bl _)) ?_⟩
  rw[sD (hA.told Fk)]
  exact hd
 ·exact hd.elim
end
section
variable{X:Cx}{a b:Expr}{da db:DE}{pos:Pos}
theorem aE(hu:X.A.units+64<cLine)(ha:Fc X a da)(hb:Fc X b db):Fc X (.Compare a [.Eq] [b] pos) (Uw (iV false) da db):=bU (vI hu) N4 ha hb (Mn _)
theorem DY(hu:X.A.units+64<cLine)(ha:Fc X a da)(hb:Fc X b db)(hm:Fx .In b=false:=by with_unfolding_all rfl):Fc X (.Compare a [.In] [b] pos) (Uw (zM false) da db):=bU (wI hu) N6 ha hb hm
end
def Nu:Md->Md
 | .ow=>.ow
 | .tp=>.sh
 | m=>m
theorem At.part{K:PySem.W.Frag}{H0 H:Hp}{X:Addr->Prop}{n:Nat}{S T:List Ent}{v w:V}{m:Md}{d e:Ad}{F G:List Addr}(h:At K H0 X n (S++⟨some v,.dat m d,F⟩::T) H)(r:RdF K H w e G)(hG:G.Sublist F):At K H0 X n (S++⟨some w,.dat (Nu m) e,G⟩::T) H:=by
 have h2:=h.mid
 have hs:=Bc.mp h2.sep
 obtain ⟨v',e1,h1,hn,ht⟩:=h2.ok _ Aa
 have cs:∀a∈cells ⟨some w,.dat (Nu m) e,G⟩,a∈cells ⟨some v,.dat m d,F⟩:=λa ha=>by
  cases m with
  | ow=>exact hG.subset ha
  | tp=>exact nomatch ha
  | sh=>exact nomatch ha
  | pk=>exact nomatch ha
 refine (h.drop.push (e:=⟨some w,.dat (Nu m) e,G⟩) ⟨w,rfl,r,λz=>?_,λz=>?_⟩ (λf hf=>?_) λa ha=>?_).tomid
 ·cases m with
  | ow=>exact (hn rfl).sublist hG
  | _=>cases z
 ·cases m <;> cases z
 ·refine ⟨λhp a ha=>(hs.1 f hf).1 ?_ a (cs a ha),λhp a ha z=>(hs.1 f hf).2 ?_ a ha (hG.subset z)⟩
  ·rcases hp with hp | hp
   ·exact .inl hp
   ·cases hp
  ·rcases hp with hp | hp
   ·refine .inl ?_
    cases m <;> first | rfl | exact hp
   ·exact .inr hp
 ·rcases h2.new _ Aa a (cs a ha) with z | z
  ·exact .inl z
  ·cases z.2
def sJ:D2:=λx y P=>match x,y with
 | .dat m (.list ds),.dat _ (.int i)=>∃d,Ue ds i=some d/\P (.dat (Nu m) d)
 | .dat m (.tuple ds),.dat _ (.int i)=>∃d,Ue ds i=some d/\P (.dat (Nu m) d)
 | .dat _ (.str z),.dat _ (.int i)=>z.length<=Bb/\∃c,Ue z.cps.toList i=some c/\P (.dat .ow (.str ⟨#[c]⟩))
 | _,_=>False
theorem yD{K:PySem.W.Frag}{H:Hp}{xs:List V}{ds:List Ad}{F:List Addr}{i:Int}{d:Ad}(r:RdFs K H xs ds F)(h:Ue ds i=some d):∃x G,Ue xs i=some x/\RdF K H x d G/\G.Sublist F:=by
 unfold Ue at h ⊢
 rw[r.len]
 cases e:uH ds.length i with
 | none=>rw[e] at h; cases h
 | some j =>
  rw[e] at h
  exact r.get h
theorem AW{K:PySem.W.Frag}:iX K (HU K) sJ:=by
 intro H0 X n S T x y v w F G H Q P hA hd k
 unfold sJ at hd
 split at hd
 ·obtain ⟨d,hi,p⟩:=hd
  obtain ⟨rfl,_⟩:=(hA.told mem_mid).int_inv
  have r:=hA.told Fk
  have hA':=hA.drop
  obtain ⟨a,xs,G0,rfl,hq,hs,hG,_⟩:=r.list_inv
  obtain ⟨x,G',h1,h2,h3⟩:=yD hs hi
  subst hG
  exact .inl ⟨_,_,_,_,rfl,rfl,Ud.of hq,h1,k _ _ G' H (hA'.part h2 (h3.trans (Di _ _))) p⟩
 ·obtain ⟨d,hi,p⟩:=hd
  obtain ⟨rfl,_⟩:=(hA.told mem_mid).int_inv
  have r:=hA.told Fk
  have hA':=hA.drop
  obtain ⟨a,xs,rfl,hq,hs,_⟩:=r.tup_inv
  obtain ⟨x,G',h1,h2,h3⟩:=yD hs hi
  exact .inr (.inl ⟨_,_,_,_,rfl,rfl,Ur.of hq,h1,k _ _ G' H (hA'.part h2 h3) p⟩)
 ·obtain ⟨hz,c,hi,p⟩:=hd
  obtain ⟨rfl,_⟩:=(hA.told mem_mid).int_inv
  obtain ⟨rfl,_⟩:=(hA.told Fk).str_inv
  exact .inr (.inr ⟨_,_,_,rfl,rfl,hz,hi,k _ _ [] H (hA.drop2.pushI (.str _)) p⟩)
 ·exact hd.elim
theorem Ex{X:Cx}{a b:Expr}{da db:DE}{pos:Pos}(ha:Fc X a da)(hb:Fc X b db)(hs:gC b:=by intro _ _; rfl):Fc X (.Subscript a b pos) (Uw sJ da db):=EN Z0 AW ha hb hs
def rE:Md->Md
 | .ow=>.ow
 | .pk=>.pk
 | _=>.tp
def Xv(i:Bool)(m:Md)(ds:List Ad)(P:DV->Prop):Prop:=match i with
 | true=>Eg ds=true/\P (.dat .ow (.list ds))
 | false=>P (.dat (rE m) (.list ds))
def cK(i:Bool)(m:Md)(ds:List Ad)(P:DV->Prop):Prop:=match i with
 | true=>Eg ds=true/\P (.dat .ow (.tuple ds))
 | false=>P (.dat (Nu m) (.tuple ds))
section
variable{K:PySem.W.Frag}{H0 H:Hp}{X:Addr->Prop}{n:Nat}{S T:List Ent}{v w:V}{m:Md}{d e:Ad}{F G:List Addr}{p:Addr}{xs:List V}{ds:List Ad}{P:DV->Prop}{i:Bool}
theorem At.newI(h:At K H0 X n (S++T) H)(r:RdFs K H xs ds G)(hi:Eg ds=true)(hz:ds.length<=Bb)(hp:H p=none)(m:Md):At K H0 X n (S++⟨some (.ref p),.dat m (.list ds),[p]⟩::T) (upd H p (.lst xs)):=by
 obtain rfl:=r.imm hi
 have s1:=Ga hp (.lst xs)
 have h1:=h.grow (n':=n) s1 (Ai _)
 refine (h1.push (e:=⟨some (.ref p),.dat m (.list ds),[p]⟩) ⟨_,rfl,.lst Ed hz (r.kp (Kp.of s1)),λ_=>Cn.mpr ⟨Bz,Cz⟩,λ_ a l z=>by cases z; exact Bz⟩ (λf hf=>?_) λa ha=>?_).tomid
 ·have nf:=h.free hp f hf
  refine ⟨λ_ a ha z=>?_,λ_ a ha z=>?_⟩
  ·have:=Fm _ a ha
   rw[Af.mp this] at z
   exact nf z
  ·rw[Af.mp z] at ha
   exact nf (Fm _ _ ha)
 ·have:=Fm _ a ha
  rw[Af.mp this]
  exact .inl (h.new0 hp)
theorem At.newL(h:At K H0 X n (S++⟨some v,.dat m d,F⟩::T) H)(r:RdFs K H xs ds G)(hG:G.Sublist F)(hz:ds.length<=Bb)(hp:H p=none)(q:Xv i m ds P):∃z F',At K H0 X n (S++⟨some (.ref p),z,F'⟩::T) (upd H p (.lst xs))/\P z:=by
 cases i with
 | true=>exact ⟨_,_,h.drop.newI r q.1 hz hp .ow,q.2⟩
 | false =>
  have q:P (.dat (rE m) (.list ds)):=q
  refine ⟨_,p::G,?_,q⟩
  have s1:=Ga hp (.lst xs)
  have h2:=h.mid
  have hs:=Bc.mp h2.sep
  obtain ⟨v',e1,_,hn,_⟩:=h2.ok _ Aa
  have h1:=h.drop.grow (n':=n) s1 (Ai _)
  have npF:p∉F:=h2.free hp _ Aa
  have npG:p∉G:=λz=>npF (hG.subset z)
  have cs:∀a∈cells ⟨some (.ref p),.dat (rE m) (.list ds),p::G⟩,a=p\/(a∈cells ⟨some v,.dat m d,F⟩):=λa ha=>by
   cases m with
   | ow =>
    rcases Ao.mp ha with z | z
    ·exact .inl z
    ·exact .inr (hG.subset z)
   | tp=>exact .inl (Af.mp ha)
   | sh=>exact .inl (Af.mp ha)
   | pk=>exact nomatch ha
  refine (h1.push (e:=⟨some (.ref p),.dat (rE m) (.list ds),p::G⟩) ⟨_,rfl,.lst Ed hz (r.kp (Kp.of s1)),λz=>?_,λz a l e=>?_⟩ (λf hf=>?_) λa ha=>?_).tomid
  ·cases m with
   | ow=>exact Cn.mpr ⟨npG,(hn rfl).sublist hG⟩
   | _=>cases z
  ·cases e
   exact npG
  ·have nf:=h2.free hp f (Ae _ hf)
   refine ⟨λhq a ha z=>?_,λhq a ha z=>?_⟩
   ·rcases cs a ha with rfl | hc
    ·exact nf z
    ·refine (hs.1 f hf).1 ?_ a hc z
     rcases hq with hq | hq
     ·exact .inl hq
     ·cases hq
   ·rcases Ao.mp z with rfl | z
    ·exact nf (Fm _ _ ha)
    ·refine (hs.1 f hf).2 ?_ a ha (hG.subset z)
     rcases hq with hq | hq
     ·refine .inl ?_
      cases m <;> first | rfl | exact hq
     ·exact .inr hq
  ·rcases cs a ha with rfl | hc
   ·exact .inl (h2.new0 hp)
   ·rcases h2.new _ Aa a hc with z | z
    ·exact .inl z
    ·cases z.2
theorem At.newT(h:At K H0 X n (S++⟨some v,.dat m d,F⟩::T) H)(r:RdFs K H xs ds G)(hG:G.Sublist F)(hz:ds.length<=Bb)(hp:H p=none)(q:cK i m ds P):∃z F',At K H0 X n (S++⟨some (.ref p),z,F'⟩::T) (upd H p (.tup xs))/\P z:=by
 have s1:=Ga hp (.tup xs)
 have h1:=h.grow (n':=n) s1 (Ai _)
 cases i with
 | true =>
  obtain rfl:=r.imm q.1
  exact ⟨_,[],h1.drop.pushI (.tup Ed hz (r.kp (Kp.of s1))),q.2⟩
 | false=>exact ⟨_,G,h1.part (.tup Ed hz (r.kp (Kp.of s1))) hG,q⟩
theorem At.oldT{t:Addr}(h:At K H0 X n (S++⟨some v,.dat m d,F⟩::T) H)(r:RdFs K H xs ds G)(hG:G.Sublist F)(hz:ds.length<=Bb)(ht:H t=some (.tup xs))(q:cK i m ds P):∃z F',At K H0 X n (S++⟨some (.ref t),z,F'⟩::T) H/\P z:=by
 cases i with
 | true =>
  obtain rfl:=r.imm q.1
  exact ⟨_,[],h.drop.pushI (.tup ht hz r),q.2⟩
 | false=>exact ⟨_,G,h.part (.tup ht hz r) hG,q⟩
end
def Q1:DA:=λδ P=>P [] δ
def N5(de:DE)(da:DA):DA:=λδ P=>de δ λx δ1=>da δ1 λxs δ2=>P (x::xs) δ2
section
variable{X:Cx}{e:Expr}{es:List Expr}{de:DE}{da:DA}
theorem Ba:mQ X [] Q1:=by
 refine PA.imp Qe λσ H Q h=>?_
 obtain ⟨H0,Y,S,T,δ,P,rfl,hS,hA,hd,k⟩:=h
 exact k [] δ [] [] S H rfl hS rfl rfl hA hd
theorem Ak(ha:Fc X e de)(hr:mQ X es da)(hs:By (e::es) X.env=(false,eval e X.env)::By es X.env:=by rfl):mQ X (e::es) (N5 de da):=by
 refine PA.imp (Jf ha hr hs) λσ H Q h=>?_
 obtain ⟨H0,Y,S,T,δ,P,rfl,hS,hA,hd,k⟩:=h
 refine ⟨H0,Y,S,T,δ,_,rfl,hS,hA,hd,λx δ1 v F S1 H1 e1 e2 hA1 p1=>?_⟩
 refine ⟨H0,Y,S1,⟨some v,x,F⟩::T,δ1,_,e1,e2,hA1,p1,λxs δ2 As us S2 H2 e3 e4 ex eu hA2 p2=>?_⟩
 refine k (x::xs) δ2 (⟨some v,x,F⟩::As) (v::us) S2 H2 e3 e4 (by rw[Ar,ex]) (by rw[Ar,Ar,eu]) (hA2.perm ((Le S2).append ?_)) p2
 exact Hb
end
def allOw:List DV->Bool
 | []=>true
 | .dat .ow _::xs=>allOw xs
 | _=>false
def noPk:List DV->Bool
 | []=>true
 | .dat .pk _::_=>false
 | .dat _ _::xs=>noPk xs
 | _=>false
def datas:List DV->Option (List Ad)
 | []=>some []
 | .dat _ d::xs=>(datas xs).map (d::·)
 | _=>none
def pkMd(top:Md)(xs:List DV):Md:=if allOw xs=true then .ow else if noPk xs=true then top else .pk
section
variable{K:PySem.W.Frag}{H0 H:Hp}{X:Addr->Prop}{n:Nat}{S T As:List Ent}
theorem aX:∀{As:List Ent} {us:List V} {ds:List Ad},As.map Ent.v=us.map some->datas (As.map Ent.x)=some ds->(∀e∈As,Hi K H n e)->RdFs K H us ds (As.flatMap Ent.F)
 | [],us,ds,e,h,_=>by
  cases us with
  | nil=>cases h; exact .nil
  | cons _ _=>cases e
 | ent::As,us,ds,e,h,ok=>by
  cases us with
  | nil=>cases e
  | cons u us =>
   rw[Ar,Ar] at e
   obtain ⟨e1,e2⟩:=Em e
   obtain ⟨v,x,F⟩:=ent
   have e1':v=some u:=e1
   subst e1'
   rw[Ar] at h
   cases x with
   | dat m d =>
    rw[show datas (DV.dat m d::As.map Ent.x)=(datas (As.map Ent.x)).map (d::·) from rfl] at h
    cases q:datas (As.map Ent.x) with
    | none=>rw[q] at h; cases h
    | some es =>
     rw[q] at h
     cases h
     obtain ⟨w,ew,rw',_⟩:=ok _ Aa
     cases ew
     rw[Zg]
     exact .cons rw' (aX e2 q λf hf=>ok f (Ae _ hf))
   | _=>cases h
theorem Pq:∀{As:List Ent},allOw (As.map Ent.x)=true->∀e∈As,∃d,e.x=.dat .ow d
 | [],_,_,h=>nomatch h
 | ⟨v,x,F⟩::As,h,e,he=>by
  rw[Ar] at h
  have hx:(∃d,x=.dat .ow d)/\allOw (As.map Ent.x)=true:=by
   cases x with
   | dat m d=>cases m <;> first | exact ⟨⟨d,rfl⟩,h⟩ | cases h
   | _=>cases h
  rcases Ao.mp he with rfl | he
  ·exact hx.1
  ·exact Pq hx.2 e he
theorem lK:∀{As:List Ent},noPk (As.map Ent.x)=true->∀e∈As,Og e.x=false
 | [],_,_,h=>nomatch h
 | ⟨v,x,F⟩::As,h,e,he=>by
  rw[Ar] at h
  have hx:Og x=false/\noPk (As.map Ent.x)=true:=by
   cases x with
   | dat m d=>cases m <;> first | exact ⟨rfl,h⟩ | cases h
   | _=>cases h
  rcases Ao.mp he with rfl | he
  ·exact hx.1
  ·exact lK hx.2 e he
theorem aA:∀{As:List Ent},(∀e∈As,∃d,e.x=.dat .ow d)->(∀e∈As,Hi K H n e)->As.Pairwise Vb->(As.flatMap Ent.F).Nodup
 | [],_,_,_=>Cz
 | ent::As,ho,ok,hs=>by
  rw[Zg]
  have hc:=Bc.mp hs
  obtain ⟨v,x,F⟩:=ent
  obtain ⟨d,hd⟩:=ho _ Aa
  have hd':x=.dat .ow d:=hd
  subst hd'
  obtain ⟨w,_,_,hn,_⟩:=ok _ Aa
  refine Gk.mpr ⟨hn rfl,aA (λe he=>ho e (Ae _ he)) (λe he=>ok e (Ae _ he)) hc.2,λa ha b hb z=>?_⟩
  subst z
  obtain ⟨f,hf,hb⟩:=Ec.mp hb
  obtain ⟨d',hd'⟩:=ho f (Ae _ hf)
  exact (hc.1 f hf).1 (.inl (by rw[hd']; rfl)) a ha hb
theorem At.pack{v:V}{d:Ad}{N:List Addr}{H':Hp}{top:Md}(h:At K H0 X n (S++(As++T)) H)(s:Yy H H')(hN:∀a∈N,H a=none)(ndN:N.Nodup)(htop:(top=.tp/\N.length=1)\/(top=.sh/\N=[]))(r:RdF K H' v d (N++As.flatMap Ent.F)):At K H0 X n (S++⟨some v,.dat (pkMd top (As.map Ent.x)) d,N++As.flatMap Ent.F⟩::T) H':=by
 have hp:(S++(As++T)).Perm (As++(S++T)):=by
  rw[<- Cb,<- Cb]
  exact Fe.append_right T
 have h2:=h.perm hp
 have hs:=Ce.mp h2.sep
 have h1:=(h.dropL).grow (n':=n) s (Ai _)
 have nN:∀a∈N,∀f∈As++(S++T),a∉f.F:=λa ha f hf=>h2.free (hN a ha) f hf
 have nFlat:∀a∈N,a∉As.flatMap Ent.F:=λa ha z=>by
  obtain ⟨f,hf,z⟩:=Ec.mp z
  exact nN a ha f (Al _ hf) z
 have cs:∀a∈cells ⟨some v,.dat (pkMd top (As.map Ent.x)) d,N++As.flatMap Ent.F⟩,a∈N\/(allOw (As.map Ent.x)=true/\∃f∈As,a∈cells f):=λa ha=>by
  unfold pkMd at ha
  by_cases hw:allOw (As.map Ent.x)=true
  ·rw[if_pos hw] at ha
   rcases Aw.mp ha with z | z
   ·exact .inl z
   ·obtain ⟨f,hf,z⟩:=Ec.mp z
    obtain ⟨d',hd'⟩:=Pq hw f hf
    refine .inr ⟨hw,f,hf,?_⟩
    unfold cells
    rw[hd']
    exact z
  ·rw[if_neg hw] at ha
   by_cases hk:noPk (As.map Ent.x)=true
   ·rw[if_pos hk] at ha
    rcases htop with ⟨rfl,h1⟩ | ⟨rfl,rfl⟩
    ·match N,h1,ha with
     | [b],_,ha=>exact .inl ha
    ·exact nomatch ha
   ·rw[if_neg hk] at ha
    exact nomatch ha
 refine (h1.push (e:=⟨some v,.dat (pkMd top (As.map Ent.x)) d,N++As.flatMap Ent.F⟩) ⟨_,rfl,r,λz=>?_,λz a l e=>?_⟩ (λf hf=>?_) λa ha=>?_).tomid
 ·have hw:allOw (As.map Ent.x)=true:=by
   unfold pkMd at z
   by_cases hw:allOw (As.map Ent.x)=true
   ·exact hw
   ·rw[if_neg hw] at z
    split at z
    ·rcases htop with ⟨rfl,_⟩ | ⟨rfl,_⟩ <;> cases z
    ·cases z
  refine Gk.mpr ⟨ndN,aA (Pq hw) (λe he=>h2.ok e (Al _ he)) hs.1,λa ha b hb e=>?_⟩
  subst e
  exact nFlat a ha hb
 ·have ht:top=.tp:=by
   unfold pkMd at z
   split at z
   ·cases z
   ·split at z
    ·exact z
    ·cases z
  subst ht
  rcases htop with ⟨_,h1⟩ | ⟨h1,_⟩
  ·match N,h1,e,nFlat with
   | [b],_,e,nFlat =>
    cases e
    exact nFlat a Aa
  ·cases h1
 ·have hf':f∈As++(S++T):=Ag _ hf
  refine ⟨λhq a ha z=>?_,λhq a ha z=>?_⟩
  ·rcases cs a ha with hn | ⟨_,g,hg,hc⟩
   ·exact nN a hn f hf' z
   ·refine (hs.2.2 g hg f hf).1 ?_ a hc z
    rcases hq with hq | hq
    ·exact .inl hq
    ·cases hq
  ·rcases Aw.mp z with z | z
   ·exact nN a z f hf' (Fm _ _ ha)
   ·obtain ⟨g,hg,z⟩:=Ec.mp z
    refine (hs.2.2 g hg f hf).2 ?_ a ha z
    rcases hq with hq | hq
    ·refine .inl ?_
     have hq':Og (.dat (pkMd top (As.map Ent.x)) d)=false:=hq
     unfold pkMd at hq'
     by_cases hw:allOw (As.map Ent.x)=true
     ·obtain ⟨d',hd'⟩:=Pq hw g hg
      rw[hd']
      rfl
     ·rw[if_neg hw] at hq'
      by_cases hk:noPk (As.map Ent.x)=true
      ·exact lK hk g hg
      ·rw[if_neg hk] at hq'
       cases hq'
    ·exact .inr hq
 ·rcases cs a ha with hn | ⟨_,g,hg,hc⟩
  ·exact .inl (h2.new0 (hN a hn))
  ·rcases h2.new g (Al _ hg) a hc with z | z
   ·exact .inl z
   ·obtain ⟨d',hd'⟩:=Pq (by assumption) g hg
    rw[hd'] at z
    cases z.2
end
def EL(da:DA):DE:=λδ P=>da δ λxs δ'=>match datas xs with
 | some ds=>ds.length<=1000/\P (.dat (pkMd .sh xs) (.tuple ds)) δ'
 | none=>False
def AM(da:DA):DE:=λδ P=>da δ λxs δ'=>match datas xs with
 | some ds=>ds.length<=1000/\P (.dat (pkMd .tp xs) (.list ds)) δ'
 | none=>False
section
variable{X:Cx}{es:List Expr}{da:DA}{pos:Pos}
theorem Ml{x1}(h:mQ X es da):Fc X (.Tuple es x1 pos) (EL da):=by
 refine PE.imp (W9 h) λσ H Q h=>?_
 obtain ⟨H0,Y,S,T,δ,P,rfl,hS,hA,hd,k⟩:=h
 refine ⟨H0,Y,S,T,δ,_,rfl,hS,hA,hd,λxs δ' As us S' H' e1 e2 ex eu hA' p=>?_⟩
 cases q:datas xs with
 | none=>rw[q] at p; exact p.elim
 | some ds =>
  rw[q] at p
  subst ex
  have r:=aX eu q λe he=>hA'.ok e (Ag _ (Al _ he))
  have hl:=r.len
  have hz:ds.length<=Bb:=sz p.1
  refine ⟨by omega,λt ht=>?_⟩
  have s1:=Ga ht (.tup us)
  exact k _ δ' _ _ S' _ e1 e2 (hA'.pack (N:=[]) s1 (λ_ z=>nomatch z) Cz (.inr ⟨rfl,rfl⟩) (.tup Ed hz (r.kp (Kp.of s1)))) p.2
theorem Lk(h:mQ X es da):Fc X (.List es pos) (AM da):=by
 refine PE.imp (mX h) λσ H Q h=>?_
 obtain ⟨H0,Y,S,T,δ,P,rfl,hS,hA,hd,k⟩:=h
 refine ⟨H0,Y,S,T,δ,_,rfl,hS,hA,hd,λxs δ' As us S' H' e1 e2 ex eu hA' p=>?_⟩
 cases q:datas xs with
 | none=>rw[q] at p; exact p.elim
 | some ds =>
  rw[q] at p
  subst ex
  have r:=aX eu q λe he=>hA'.ok e (Ag _ (Al _ he))
  have hl:=r.len
  have hz:ds.length<=Bb:=sz p.1
  refine ⟨by omega,λt ht=>?_⟩
  have s1:=Ga ht (.lst us)
  exact k _ δ' _ _ S' _ e1 e2 (hA'.pack (N:=[t]) s1 (λa z=>by rw[Af.mp z]; exact ht) (Cn.mpr ⟨Bz,Cz⟩) (.inl ⟨rfl,rfl⟩) (.lst Ed hz (r.kp (Kp.of s1)))) p.2
end
end DL
namespace Nd
open PySem PySem.Spec PyProof.Rows L2
section
variable{X:Cx}
def O1:V->Option Int->Option Int->Hp->VK->Prop:=λx lo hi H Q=>∃a xs,x=.ref a/\H a=some (.tup xs)/\∀p H',H' p=some (.tup (bQ xs lo hi))->Yy H H'->Q (.ref p) H'
theorem G7:S8 X O1:=by
 intro pins s σ H x v vl vu lo hi sl Q I rx hs pl pu h
 obtain ⟨a,xs,rfl,hx',q⟩:=h
 have hx:Ur X.K H a xs:=Ur.of hx'
 cases rx
 by_cases hw:HT.sIx xs.length 0 lo=0/\HT.sIx xs.length xs.length hi=xs.length
 ·obtain ⟨its,r,ht,hz⟩:=I.tuple hx
  have hlen:its.toArray.size=xs.length:=by rw[Av]; exact r.length.symm
  refine ⟨"tuple",_,Er.lookup,ht.typeIs,?_⟩
  refine Te ht hs pl pu (by rw[hlen]; exact hw) ⟨.ref a,H,I,rfl,q a H ?_ (Yy.refl _)⟩
  unfold bQ
  rw[hw.1,hw.2,List.drop_zero,Zt,Kl]
  exact hx'
 ·exact AC pins s σ H (.ref a) (.ref a) vl vu lo hi sl Q I rfl hs pl pu ⟨a,xs,rfl,hx,hw,λp np=>q p _ Ed (Ga np _)⟩
end
end Nd
namespace Ts
open PySem PyProof.Rows
def Rz:Bool->Keyed->Array Keyed->Nat->Nat->Nat->StateT Bx Sem (Option Nat):=sortPriv% PySem.Builtin.gallop
structure Cmp(prog:Bj)(w:World)(A:Cu)(s:Aj)(kd:Ls)(Ok:Keyed->Prop)(blt:Keyed->Keyed->Bool):Prop where
 run:∀(x y:Keyed) (Q:Bool->Aj->Prop) (E:Value->Aj->Prop),Ok x->Ok y->Q (blt x y) s->wpAny (model prog w) A (keyLt' kd x.1 y.1) Q E s
 irr:∀x,blt x x=false
 tr:∀x y z,blt x y=true->blt y z=true->blt x z=true
 neg:∀x y z,blt x z=true->blt x y=true\/blt y z=true
def le(blt:Keyed->Keyed->Bool)(x y:Keyed):Prop:=blt y x=false
section
variable{prog:Bj}{w:World}{A:Cu}{s:Aj}{kd:Ls}{Ok:Keyed->Prop}{blt:Keyed->Keyed->Bool}
theorem Cmp.refl(C:Cmp prog w A s kd Ok blt)(x:Keyed):le blt x x:=C.irr x
theorem Cmp.ofLt(C:Cmp prog w A s kd Ok blt){x y:Keyed}(h:blt x y=true):le blt x y:=by
 unfold le
 cases q:blt y x with
 | false=>rfl
 | true=>have:=C.tr _ _ _ h q; rw[C.irr] at this; cases this
theorem Cmp.trans(C:Cmp prog w A s kd Ok blt){x y z:Keyed}(h1:le blt x y)(h2:le blt y z):le blt x z:=by
 unfold le at *
 cases q:blt z x with
 | false=>rfl
 | true =>
  rcases C.neg _ y _ q with h | h
  ·rw[h2] at h; cases h
  ·rw[h1] at h; cases h
theorem Cmp.ltLe(C:Cmp prog w A s kd Ok blt){x y z:Keyed}(h1:blt x y=true)(h2:le blt y z):blt x z=true:=by
 unfold le at h2
 rcases C.neg _ z _ h1 with h | h
 ·exact h
 ·rw[h2] at h; cases h
theorem Cmp.leLt(C:Cmp prog w A s kd Ok blt){x y z:Keyed}(h1:le blt x y)(h2:blt y z=true):blt x z=true:=by
 unfold le at h1
 rcases C.neg _ x _ h2 with h | h
 ·rw[h1] at h; cases h
 ·exact h
variable{E:Value->Aj->Prop}
structure Kept(st st':Bx):Prop where
 kind:kindOf st'=kindOf st
 arr:arrOf st'=arrOf st
 pend:Bd st'=Bd st
 fail:Lr st'=Lr st
theorem Kept.refl(st:Bx):Kept st st:=⟨rfl,rfl,rfl,rfl⟩
theorem Kept.trans{a b c:Bx}(h:Kept a b)(k:Kept b c):Kept a c:=⟨k.kind.trans h.kind,k.arr.trans h.arr,k.pend.trans h.pend,k.fail.trans h.fail⟩
theorem kA(C:Cmp prog w A s kd Ok blt){st:Bx}{x y:Keyed}{Q:Option Bool->Bx->Prop}(hk:kindOf st=kd)(ox:Ok x)(oy:Ok y)(h:Q (some (blt x y)) st):wpS (model prog w) A E s (lt' x y) Q st:=by
 rw[lt'_eq]
 refine Az (Ms ?_)
 rw[hk]
 exact Az (wpS_lift (wpAny_attempt (C.run x y _ _ ox oy ⟨rfl,Bg h⟩)))
theorem Fl{st:Bx}{xs:Array Keyed}{i:Nat}{p:Keyed}{Q:Keyed->Bx->Prop}(h:xs[i]? = some p)(q:Q p st):wpS (model prog w) A E s (elem' xs i) Q st:=by
 rw[elem'_eq,h]
 exact Bg q
def Rx(left:Bool)(key:Keyed)(arr:Array Keyed)(base i:Nat):StateT Bx Sem (Option Bool):=do
 let x <- elem' arr (base+i)
 if left then lt' x key else return (<- lt' key x).map (!·)
def qJ(left:Bool)(key:Keyed)(arr:Array Keyed)(base n lo0 hi0:Nat):StateT Bx Sem (Option Nat):=do
 let mut lo:=lo0
 let mut hi:=hi0
 for _ in [0:n] do
  if lo ≥ hi then break
  let mid:=lo+(hi - lo) / 2
  let some up <- Rx left key arr base mid | return none
  if up then lo:=mid+1 else hi:=mid
 return some hi
theorem oY(left:Bool)(key:Keyed)(arr:Array Keyed)(base n hint:Nat):Rz left key arr base n hint=(do
  let some right <- Rx left key arr base hint | return none
  let mut last:=0
  let mut ofs:=1
  if right then
   let top:=n - hint
   for _ in [0:n] do
    if ofs ≥ top then break
    let some up <- Rx left key arr base (hint+ofs) | return none
    if !up then break
    last:=ofs
    ofs:=2 * ofs+1
   qJ left key arr base n (hint+last+1) (hint+min ofs top)
  else
   let top:=hint+1
   for _ in [0:n] do
    if ofs ≥ top then break
    let some got <- Rx left key arr base (hint - ofs) | return none
    if got then break
    last:=ofs
    ofs:=2 * ofs+1
   qJ left key arr base n (hint+1 - min ofs top) (hint - last)):=rfl
def Gq(blt:Keyed->Keyed->Bool)(left:Bool)(key x:Keyed):Bool:=if left then blt x key else !blt key x
structure Row(Ok:Keyed->Prop)(arr:Array Keyed)(base n:Nat)(el:Nat->Keyed):Prop where
 at_:∀i,i<n->arr[base+i]? = some (el i)
 ok:∀i,i<n->Ok (el i)
theorem Sh(C:Cmp prog w A s kd Ok blt){st:Bx}{left:Bool}{key:Keyed}{arr:Array Keyed}{base n i:Nat}{el:Nat->Keyed}(R:Row Ok arr base n el)(ok:Ok key)(hk:kindOf st=kd)(hi:i<n){Q:Option Bool->Bx->Prop}(h:Q (some (Gq blt left key (el i))) st):wpS (model prog w) A E s (Rx left key arr base i) Q st:=by
 unfold Rx
 refine Az (Fl (R.at_ i hi) ?_)
 cases left with
 | true =>
  rw[if_pos rfl]
  exact kA C hk (R.ok i hi) ok h
 | false =>
  rw[if_neg Cp]
  exact Az (kA C hk ok (R.ok i hi) (Bg h))
theorem qY(C:Cmp prog w A s kd Ok blt){st:Bx}{left:Bool}{key:Keyed}{arr:Array Keyed}{base n lo hi:Nat}{el:Nat->Keyed}(R:Row Ok arr base n el)(ok:Ok key)(hk:kindOf st=kd)(mono:∀i j,i<=j->j<n->Gq blt left key (el j)=true->Gq blt left key (el i)=true)(h1:lo<=hi)(h2:hi<=n)(t1:∀i,i<lo->Gq blt left key (el i)=true)(t2:∀i,hi<=i->i<n->Gq blt left key (el i)=false){Q:Option Nat->Bx->Prop}(h:∀k,k<=n->(∀i,i<k->Gq blt left key (el i)=true)->(∀i,k<=i->i<n->Gq blt left key (el i)=false)->Q (some k) st):wpS (model prog w) A E s (qJ left key arr base n lo hi) Q st:=by
 unfold qJ
 refine Az (Hj (Eo (I:=λx c st'=>∃l r,c=(none,l,r)/\st'=st/\l<=r/\r<=n/\r - l+x<=n/\(∀i,i<l->Gq blt left key (el i)=true)/\(∀i,r<=i->i<n->Gq blt left key (el i)=false))
  (Q:=λc st'=>∃r,c=(none,r,r)/\st'=st/\r<=n/\(∀i,i<r->Gq blt left key (el i)=true)/\(∀i,r<=i->i<n->Gq blt left key (el i)=false)) ?_ ?_ ⟨lo,hi,rfl,rfl,h1,h2,by omega,t1,t2⟩) ?_)
 ·(intro x c st' _ hx q_; obtain ⟨l,r,rfl,rfl,a1,a2,a3,b1,b2⟩ := q_)
  dsimp only
  by_cases hlr:l ≥ r
  ·rw[if_pos hlr]
   have e:l=r:=by omega
   subst e
   exact Bg ⟨l,rfl,rfl,a2,b1,b2⟩
  ·rw[if_neg hlr]
   have hm:l+(r - l) / 2<n:=by omega
   refine Az (Sh C R ok hk hm ?_)
   dsimp only
   cases hb:Gq blt left key (el (l+(r - l) / 2)) with
   | true =>
    rw[if_pos rfl]
    exact Bg ⟨l+(r - l) / 2+1,r,rfl,rfl,by omega,a2,by omega,λi hi=>mono i _ (by omega) hm hb,b2⟩
   | false =>
    rw[if_neg Cp]
    refine Bg ⟨l,l+(r - l) / 2,rfl,rfl,by omega,by omega,by omega,b1,λi hi hn=>?_⟩
    cases q:Gq blt left key (el i) with
    | false=>rfl
    | true=>rw[mono _ i hi hn q] at hb; cases hb
 ·(intro c st' q_; obtain ⟨l,r,rfl,rfl,a1,a2,a3,b1,b2⟩ := q_)
  have e:l=r:=by
   have : max 0 n=n:=by omega
   rw[this] at a3
   omega
  subst e
  exact ⟨l,rfl,rfl,a2,b1,b2⟩
 ·(intro c st' q_; obtain ⟨r,rfl,rfl,a2,b1,b2⟩ := q_)
  exact Bg (h r a2 b1 b2)
theorem Nl(C:Cmp prog w A s kd Ok blt){st:Bx}{left:Bool}{key:Keyed}{arr:Array Keyed}{base n hint:Nat}{el:Nat->Keyed}(R:Row Ok arr base n el)(ok:Ok key)(hk:kindOf st=kd)(hh:hint<n)(mono:∀i j,i<=j->j<n->Gq blt left key (el j)=true->Gq blt left key (el i)=true){Q:Option Nat->Bx->Prop}(h:∀k,k<=n->(∀i,i<k->Gq blt left key (el i)=true)->(∀i,k<=i->i<n->Gq blt left key (el i)=false)->Q (some k) st):wpS (model prog w) A E s (Rz left key arr base n hint) Q st:=by
 have anti:∀i j,i<=j->j<n->Gq blt left key (el i)=false->Gq blt left key (el j)=false:=λi j hij hj q=>by
  cases z:Gq blt left key (el j) with
  | false=>rfl
  | true=>rw[mono i j hij hj z] at q; cases q
 rw[oY]
 refine Az (Sh C R ok hk hh ?_)
 dsimp only
 cases hb:Gq blt left key (el hint) with
 | true =>
  rw[if_pos rfl]
  refine Az (Hj (Eo (I:=λx c st'=>∃la o,c=(none,la,o)/\st'=st/\la<o/\x+1<=o/\hint+la<n/\Gq blt left key (el (hint+la))=true)
   (Q:=λc st'=>∃la o,c=(none,la,o)/\st'=st/\la<o/\hint+la<n/\Gq blt left key (el (hint+la))=true/\(o ≥ n - hint\/(hint+o<n/\Gq blt left key (el (hint+o))=false))) ?_ ?_
   ⟨0,1,rfl,rfl,by omega,by omega,by omega,hb⟩) ?_)
  ·(intro x c st' _ hx q_; obtain ⟨la,o,rfl,rfl,a1,a2,a3,b1⟩ := q_)
   dsimp only
   by_cases ho:o ≥ n - hint
   ·rw[if_pos ho]
    exact Bg ⟨la,o,rfl,rfl,a1,a3,b1,.inl ho⟩
   ·rw[if_neg ho]
    have hm:hint+o<n:=by omega
    refine Az (Sh C R ok hk hm ?_)
    dsimp only
    cases hb2:Gq blt left key (el (hint+o)) with
    | true =>
     simp only[Lc,Bv,if_false]
     exact Bg ⟨o,2 * o+1,rfl,rfl,by omega,by omega,hm,hb2⟩
    | false =>
     simp only[Bool.not_false,if_true]
     exact Bg ⟨la,o,rfl,rfl,a1,a3,b1,.inr ⟨hm,hb2⟩⟩
  ·(intro c st' q_; obtain ⟨la,o,rfl,rfl,a1,a2,a3,b1⟩ := q_)
   have : max 0 n=n:=by omega
   rw[this] at a2
   exact ⟨la,o,rfl,rfl,a1,a3,b1,.inl (by omega)⟩
  ·(intro c st' q_; obtain ⟨la,o,rfl,rfl,a1,a3,b1,b2⟩ := q_)
   dsimp only
   refine qY C R ok hk mono (by omega) (by omega) (λi hi=>mono i _ (by omega) a3 b1) (λi hi hn=>?_) h
   rcases b2 with b2 | ⟨b2,b3⟩
   ·exfalso; omega
   ·exact anti _ i (by omega) hn b3
 | false =>
  rw[if_neg Cp]
  refine Az (Hj (Eo (I:=λx c st'=>∃la o,c=(none,la,o)/\st'=st/\la<o/\x+1<=o/\la<=hint/\Gq blt left key (el (hint - la))=false)
   (Q:=λc st'=>∃la o,c=(none,la,o)/\st'=st/\la<o/\la<=hint/\Gq blt left key (el (hint - la))=false/\(o ≥ hint+1\/(o<=hint/\Gq blt left key (el (hint - o))=true))) ?_ ?_
   ⟨0,1,rfl,rfl,by omega,by omega,by omega,hb⟩) ?_)
  ·(intro x c st' _ hx q_; obtain ⟨la,o,rfl,rfl,a1,a2,a3,b1⟩ := q_)
   dsimp only
   by_cases ho:o ≥ hint+1
   ·rw[if_pos ho]
    exact Bg ⟨la,o,rfl,rfl,a1,a3,b1,.inl ho⟩
   ·rw[if_neg ho]
    have hm:hint - o<n:=by omega
    refine Az (Sh C R ok hk hm ?_)
    dsimp only
    cases hb2:Gq blt left key (el (hint - o)) with
    | true =>
     rw[if_pos rfl]
     exact Bg ⟨la,o,rfl,rfl,a1,a3,b1,.inr ⟨by omega,hb2⟩⟩
    | false =>
     rw[if_neg Cp]
     exact Bg ⟨o,2 * o+1,rfl,rfl,by omega,by omega,by omega,hb2⟩
  ·(intro c st' q_; obtain ⟨la,o,rfl,rfl,a1,a2,a3,b1⟩ := q_)
   have : max 0 n=n:=by omega
   rw[this] at a2
   exact ⟨la,o,rfl,rfl,a1,a3,b1,.inl (by omega)⟩
  ·(intro c st' q_; obtain ⟨la,o,rfl,rfl,a1,a3,b1,b2⟩ := q_)
   dsimp only
   refine qY C R ok hk mono (by omega) (by omega) (λi hi=>?_) (λi hi hn=>anti _ i hi hn b1) h
   rcases b2 with b2 | ⟨b2,b3⟩
   ·exfalso; omega
   ·exact mono i _ (by omega) (by omega) b3
end
structure MI{α:Type}(R:α->α->Prop)(xs ys out:List α)(i j:Nat):Prop where
 perm:out.Perm (xs.take i++ys.take j)
 srt:out.Pairwise R
 lx:∀o∈out,∀z∈xs.drop i,R o z
 ly:∀o∈out,∀z∈ys.drop j,R o z
section
variable{α:Type}{R:α->α->Prop}{xs ys out:List α}{i j:Nat}
theorem fN{l:List α}{n:Nat}{a:α}(h:l[n]? = some a):l.drop n=a::l.drop (n+1):=by
 obtain ⟨hn,e⟩:=An.mp h
 rw[List.drop_eq_getElem_cons hn,e]
theorem take_snoc{l:List α}{n:Nat}{a:α}(h:l[n]? = some a):l.take (n+1)=l.take n++[a]:=by
 rw[List.take_succ,h]; rfl
theorem MI.pushY(M:MI R xs ys out i j)(sy:ys.Pairwise R){y:α}(hy:ys[j]? = some y)(hx:∀z∈xs.drop i,R y z):MI R xs ys (out++[y]) i (j+1):=by
 have dy:=fN hy
 have sd:(y::ys.drop (j+1)).Pairwise R:=by rw[<- dy]; exact Ii (Hy _ _) sy
 obtain ⟨s1,s2⟩:=Bc.mp sd
 refine ⟨?_,?_,λo ho z hz=>?_,λo ho z hz=>?_⟩
 ·rw[take_snoc hy,<- Cb]
  exact M.perm.append_right _
 ·refine Ce.mpr ⟨M.srt,Eb _ _,λo ho z hz=>?_⟩
  have e:z=y:=by simpa using hz
  rw[e]
  exact M.ly o ho y (by rw[dy]; exact Aa)
 ·rcases Aw.mp ho with ho | ho
  ·exact M.lx o ho z hz
  ·have e:o=y:=by simpa using ho
   rw[e]; exact hx z hz
 ·rcases Aw.mp ho with ho | ho
  ·exact M.ly o ho z (by rw[dy]; exact Ae _ hz)
  ·have e:o=y:=by simpa using ho
   rw[e]; exact s1 z hz
theorem MI.pushX(M:MI R xs ys out i j)(sx:xs.Pairwise R){x:α}(hx:xs[i]? = some x)(hy:∀z∈ys.drop j,R x z):MI R xs ys (out++[x]) (i+1) j:=by
 have dx:=fN hx
 have sd:(x::xs.drop (i+1)).Pairwise R:=by rw[<- dx]; exact Ii (Hy _ _) sx
 obtain ⟨s1,s2⟩:=Bc.mp sd
 refine ⟨?_,?_,λo ho z hz=>?_,λo ho z hz=>?_⟩
 ·rw[take_snoc hx]
  have p1:(out++[x]).Perm ((xs.take i++ys.take j)++[x]):=M.perm.append_right _
  refine p1.trans ?_
  rw[Cb,Cb]
  exact Iy _ Fe
 ·refine Ce.mpr ⟨M.srt,Eb _ _,λo ho z hz=>?_⟩
  have e:z=x:=by simpa using hz
  rw[e]
  exact M.lx o ho x (by rw[dx]; exact Aa)
 ·rcases Aw.mp ho with ho | ho
  ·exact M.lx o ho z (by rw[dx]; exact Ae _ hz)
  ·have e:o=x:=by simpa using ho
   rw[e]; exact s1 z hz
 ·rcases Aw.mp ho with ho | ho
  ·exact M.ly o ho z hz
  ·have e:o=x:=by simpa using ho
   rw[e]; exact hy z hz
theorem Qy{l:List α}{n k:Nat}{a:α}(h:l[n+k]? = some a):(l.drop n).take (k+1)=(l.drop n).take k++[a]:=take_snoc (by rw[Xo]; exact h)
theorem MI.blockX(M:MI R xs ys out i j)(sx:xs.Pairwise R):∀k,i+k<=xs.length->(∀m,m<k->∀x,xs[i+m]? = some x->∀z∈ys.drop j,R x z)->MI R xs ys (out++(xs.drop i).take k) (i+k) j
 | 0,_,_=>by simpa using M
 | k+1,hk,h=>by
  have ih:=MI.blockX M sx k (by omega) λm hm=>h m (by omega)
  obtain ⟨x,hx⟩ : ∃x,xs[i+k]? = some x:=⟨xs[i+k],by simp⟩
  rw[Qy hx,<- Cb]
  exact ih.pushX sx hx (h k (by omega) x hx)
theorem MI.blockY(M:MI R xs ys out i j)(sy:ys.Pairwise R):∀k,j+k<=ys.length->(∀m,m<k->∀y,ys[j+m]? = some y->∀z∈xs.drop i,R y z)->MI R xs ys (out++(ys.drop j).take k) i (j+k)
 | 0,_,_=>by simpa using M
 | k+1,hk,h=>by
  have ih:=MI.blockY M sy k (by omega) λm hm=>h m (by omega)
  obtain ⟨y,hy⟩ : ∃y,ys[j+k]? = some y:=⟨ys[j+k],by simp⟩
  rw[Qy hy,<- Cb]
  exact ih.pushY sy hy (h k (by omega) y hy)
theorem MI.endX(M:MI R xs ys out i j)(sx:xs.Pairwise R)(hj:ys.length<=j):(out++xs.drop i++ys.drop j).Perm (xs++ys)/\(out++xs.drop i++ys.drop j).Pairwise R:=by
 rw[List.drop_eq_nil_of_le hj,Ea]
 constructor
 ·have p1:(out++xs.drop i).Perm ((xs.take i++ys.take j)++xs.drop i):=M.perm.append_right _
  refine p1.trans ?_
  rw[Gx hj]
  have p2:(xs.take i++ys++xs.drop i).Perm (xs.take i++(xs.drop i++ys)):=by
   rw[Cb]
   exact Iy _ Fe
  refine p2.trans ?_
  rw[<- Cb,Jr]
 ·exact Ce.mpr ⟨M.srt,Ii (Hy _ _) sx,M.lx⟩
theorem MI.endYX(M:MI R xs ys out i j)(sx:xs.Pairwise R)(sy:ys.Pairwise R)(h:∀y∈ys.drop j,∀x∈xs.drop i,R y x):(out++ys.drop j++xs.drop i).Perm (xs++ys)/\(out++ys.drop j++xs.drop i).Pairwise R:=by
 constructor
 ·have p1:(out++(ys.drop j++xs.drop i)).Perm ((xs.take i++ys.take j)++(ys.drop j++xs.drop i)):=M.perm.append_right _
  rw[Cb]
  refine p1.trans ?_
  rw[Cb,<- Cb (ys.take j),Jr]
  have p2:(xs.take i++(ys++xs.drop i)).Perm (xs.take i++(xs.drop i++ys)):=Iy _ Fe
  refine p2.trans ?_
  rw[<- Cb,Jr]
 ·refine Ce.mpr ⟨Ce.mpr ⟨M.srt,Ii (Hy _ _) sy,M.ly⟩,Ii (Hy _ _) sx,λa ha b hb=>?_⟩
  rcases Aw.mp ha with ha | ha
  ·exact M.lx a ha b hb
  ·exact h a ha b hb
end
def kD:Array Keyed->Array Keyed->StateT Bx Sem (Array Keyed):=sortPriv% PySem.Builtin.mergeLo
def Zr:Nat->StateT Bx Sem Unit:=sortPriv% PySem.Builtin.setMinGallop
abbrev Y1(st:Bx)(g:Nat):Bx:=SortSt.mk' (kindOf st) (arrOf st) (Bd st) g (Lr st)
theorem oJ(g:Nat):Zr g=modify λst=>Y1 st g:=rfl
theorem Zm(p:Array Keyed)(i:Nat):(p.extract i p.size).toList=p.toList.drop i:=by
 rw[Mz,Km,Gx]
 rw[Mp,Ah]
 exact Ai _
theorem Vt(p:Array Keyed)(i k:Nat):(p.extract i (i+k)).toList=(p.toList.drop i).take k:=by
 rw[Mz,Km,Nat.add_sub_cancel_left]
abbrev dn(p q out:Array Keyed)(i j:Nat):Array Keyed:=out++p.extract i p.size++q.extract j q.size
abbrev lst(p q out:Array Keyed)(i j:Nat):Array Keyed:=out++q.extract j q.size++p.extract i p.size
theorem J1(p q out:Array Keyed)(i j:Nat):(dn p q out i j).toList=out.toList++p.toList.drop i++q.toList.drop j:=by
 rw[Dt,Dt,Zm,Zm]
theorem vV(p q out:Array Keyed)(i j:Nat):(lst p q out i j).toList=out.toList++q.toList.drop j++p.toList.drop i:=by
 rw[Dt,Dt,Zm,Zm]
abbrev K0:=Option (Array Keyed)×Array Keyed×Nat×Nat×Nat×Nat×Nat
def L0(p q out:Array Keyed)(i j g ac k:Nat):StateT Bx Sem (ForInStep K0):=do
 let x <- elem' p i
 if (i+1+1 == p.size)=true then pure (Cy (some (lst p q (out.push x) (i+1) j),out.push x,i+1,j,g,ac,k))
 else if (decide (ac<7) && decide (k<7))=true then pure (Cy (none,out.push x,i+1,j,g,ac,k))
 else pure (Fp (none,out.push x,i+1,j,g,ac,k))
def G4(p q out:Array Keyed)(i j g ac bc:Nat):StateT Bx Sem (ForInStep K0):=do
 let y <- elem' q j
 if (j+1 == q.size)=true then pure (Cy (some (dn p q (out.push y) i (j+1)),out.push y,i,j+1,g,ac,bc))
 else do
  let x <- elem' p i
  let some k <- Rz true x q (j+1) (q.size - (j+1)) 0 | pure (Cy (some (dn p q (out.push y) i (j+1)),out.push y,i,j+1,g,ac,bc))
  if k > 0 then
   if (j+1+k == q.size)=true then pure (Cy (some (dn p q (out.push y++q.extract (j+1) (j+1+k)) i (j+1+k)),out.push y++q.extract (j+1) (j+1+k),i,j+1+k,g,ac,k))
   else L0 p q (out.push y++q.extract (j+1) (j+1+k)) i (j+1+k) g ac k
  else L0 p q (out.push y) i (j+1) g ac k
def T7(p q out:Array Keyed)(i j g ac bc:Nat):StateT Bx Sem (ForInStep K0):=do
 Zr g
 let y <- elem' q j
 let some k <- Rz false y p i (p.size - i) 0 | pure (Cy (some (dn p q out i j),out,i,j,g,ac,bc))
 if k > 0 then
  if (i+k+1 == p.size)=true then pure (Cy (some (lst p q (out++p.extract i (i+k)) (i+k) j),out++p.extract i (i+k),i+k,j,g,k,bc))
  else if (i+k == p.size)=true then pure (Cy (some (dn p q (out++p.extract i (i+k)) (i+k) j),out++p.extract i (i+k),i+k,j,g,k,bc))
  else G4 p q (out++p.extract i (i+k)) (i+k) j g k bc
 else G4 p q out i j g k bc
section
variable{prog:Bj}{w:World}{A:Cu}{s:Aj}{kd:Ls}{Ok:Keyed->Prop}{blt:Keyed->Keyed->Bool}{E:Value->Aj->Prop}
theorem Sa{st:Bx}{x:String}{Q:Unit->Bx->Prop}(h:Q () st):wpS (model prog w) A E s (liftM (rule x):StateT Bx Sem Unit) Q st:=wpS_lift (wpAny_rule ⟨rfl,h⟩)
theorem Sb{st:Bx}{g:Nat}{Q:Unit->Bx->Prop}(h:∀st',Kept st st'->Q () st'):wpS (model prog w) A E s (Zr g) Q st:=by
 rw[oJ]
 exact Js (h _ ⟨rfl,rfl,rfl,rfl⟩)
structure Two(Ok:Keyed->Prop)(blt:Keyed->Keyed->Bool)(p q:Array Keyed)(x0 y0 xl:Keyed):Prop where
 op:∀x∈p.toList,Ok x
 oq:∀x∈q.toList,Ok x
 sp:p.toList.Pairwise (le blt)
 sq:q.toList.Pairwise (le blt)
 hx0:p[0]? = some x0
 hy0:q[0]? = some y0
 hxl:p[p.size - 1]? = some xl
 first:blt y0 x0=true
 last:∀y∈q.toList,blt y xl=true
abbrev oT(blt:Keyed->Keyed->Bool)(p q r:Array Keyed):Prop:=r.toList.Perm (p.toList++q.toList)/\r.toList.Pairwise (le blt)
theorem El{p:Array Keyed}{i:Nat}{x:Keyed}(h:p[i]? = some x):p.toList[i]? = some x:=by simpa using h
theorem Fq{p:Array Keyed}{i:Nat}(h:i<p.size):∃x,p[i]? = some x:=⟨p[i],by simp [h]⟩
theorem Jq{p:Array Keyed}{i:Nat}{x:Keyed}(h:p[i]? = some x):x∈p.toList:=Ax (El h)
theorem lR{α:Type}{l:List α}{i:Nat}{z:α}(h:z∈l.drop i):∃k,l[i+k]? = some z:=by
 obtain ⟨k,hk,e⟩:=Gh.mp h
 exact ⟨k,by rw[<- Xo,Be hk,e]⟩
theorem Ks(C:Cmp prog w A s kd Ok blt){l:List Keyed}(sl:l.Pairwise (le blt)){i j:Nat}{x y:Keyed}(hij:i<=j)(hx:l[i]? = some x)(hy:l[j]? = some y):le blt x y:=by
 by_cases e:i=j
 ·subst e
  rw[hx] at hy
  cases hy
  exact C.refl x
 ·obtain ⟨hi,ex⟩:=An.mp hx
  obtain ⟨hj,ey⟩:=An.mp hy
  have:=Dw.mp sl i j hi hj (by omega)
  rw[ex,ey] at this
  exact this
theorem Oj(C:Cmp prog w A s kd Ok blt){l:List Keyed}(sl:l.Pairwise (le blt)){i:Nat}{x y:Keyed}(hx:l[i]? = some x)(h:le blt y x):∀z∈l.drop i,le blt y z:=λz hz=>by
 obtain ⟨k,hk⟩:=lR hz
 exact C.trans h (Ks C sl (Nat.le_add_right i k) hx hk)
abbrev LI(blt:Keyed->Keyed->Bool)(p q out:Array Keyed)(i j:Nat):Prop:=MI (le blt) p.toList q.toList out.toList i j
theorem Nk(out:Array Keyed)(x:Keyed):(out.push x).toList=out.toList++[x]:=by simp
theorem Two.last_end(C:Cmp prog w A s kd Ok blt){p q out:Array Keyed}{x0 y0 xl:Keyed}(T:Two Ok blt p q x0 y0 xl){i j:Nat}(M:LI blt p q out i j)(hi:i+1=p.size):oT blt p q (lst p q out i j):=by
 have h:=M.endYX T.sp T.sq (λy hy x hx=>?_)
 ·rw[<- vV] at h
  exact h
 ·obtain ⟨k,hk⟩:=lR hx
  have : k=0:=by
   have:=(An.mp hk).1
   rw[Ah] at this
   omega
  subst this
  have e:x=xl:=by
   have:=El T.hxl
   rw[show p.size - 1=i+0 by omega,hk] at this
   exact Cj this
  rw[e]
  exact C.ofLt (T.last y (Nh hy))
theorem Two.done_end{p q out:Array Keyed}{x0 y0 xl:Keyed}(T:Two Ok blt p q x0 y0 xl){i j:Nat}(M:LI blt p q out i j)(hj:q.size<=j):oT blt p q (dn p q out i j):=by
 have h:=M.endX T.sp (by rw[Ah]; exact hj)
 rw[<- J1] at h
 exact h
def CP(blt:Keyed->Keyed->Bool)(p q:Array Keyed)(st:Bx)(n:Nat)(r:ForInStep K0)(st':Bx):Prop:=Kept st st'/\match r with
 | .done (some r,_)=>oT blt p q r
 | .done (none,out,i,j,_)=>LI blt p q out i j/\i+1<p.size/\j<q.size/\n<i+j
 | .yield (none,out,i,j,_)=>LI blt p q out i j/\i+1<p.size/\j<q.size/\n<i+j
 | .yield (some _,_)=>False
theorem rY(C:Cmp prog w A s kd Ok blt){p q out:Array Keyed}{x0 y0 xl:Keyed}(T:Two Ok blt p q x0 y0 xl){i j g ac k n:Nat}{st0 st:Bx}(kp:Kept st0 st)(M:LI blt p q out i j)(hi:i+1<p.size)(hj:j<q.size)(hn:n<=i+j){x:Keyed}(hx:p[i]? = some x)(hq:∀z∈q.toList.drop j,le blt x z):wpS (model prog w) A E s (L0 p q out i j g ac k) (CP blt p q st0 n) st:=by
 unfold L0
 refine Az (Fl hx ?_)
 have M1:LI blt p q (out.push x) (i+1) j:=by
  have:=M.pushX T.sp (El hx) hq
  rw[<- Nk] at this
  exact this
 by_cases h1:i+1+1=p.size
 ·rw[if_pos (by rw[h1]; exact beq_self_eq_true _)]
  exact Bg ⟨kp,T.last_end C M1 h1⟩
 ·rw[if_neg (λz=>h1 (Dx z))]
  by_cases h2:(decide (ac<7) && decide (k<7))=true
  ·rw[if_pos h2]
   exact Bg ⟨kp,M1,by omega,hj,by omega⟩
  ·rw[if_neg h2]
   exact Bg ⟨kp,M1,by omega,hj,by omega⟩
theorem pT(C:Cmp prog w A s kd Ok blt){p q out:Array Keyed}{x0 y0 xl:Keyed}(T:Two Ok blt p q x0 y0 xl){i j g ac bc n:Nat}{st0 st:Bx}(kp:Kept st0 st)(hk:kindOf st=kd)(M:LI blt p q out i j)(hi:i+1<p.size)(hj:j<q.size)(hn:n<=i+j){x y:Keyed}(hx:p[i]? = some x)(hy:q[j]? = some y)(hyx:blt y x=true):wpS (model prog w) A E s (G4 p q out i j g ac bc) (CP blt p q st0 n) st:=by
 unfold G4
 refine Az (Fl hy ?_)
 have M1:LI blt p q (out.push y) i (j+1):=by
  have:=M.pushY T.sq (El hy) (Oj C T.sp (El hx) (C.ofLt hyx))
  rw[<- Nk] at this
  exact this
 by_cases h1:j+1=q.size
 ·rw[if_pos (by rw[h1]; exact beq_self_eq_true _)]
  exact Bg ⟨kp,T.done_end M1 (by omega)⟩
 ·rw[if_neg (λz=>h1 (Dx z))]
  refine Az (Fl hx ?_)
  have R:Row Ok q (j+1) (q.size - (j+1)) (λm=>q.getD (j+1+m) y):=⟨λm hm=>?_,λm hm=>?_⟩
  ·refine Az (Nl C R (T.op x (Jq hx)) hk (by omega) (λa b hab hb q1=>?_) λk hk1 t1 t2=>?_)
   ·obtain ⟨ya,ea⟩:=Fq (p:=q) (i:=j+1+a) (by omega)
    obtain ⟨yb,eb⟩:=Fq (p:=q) (i:=j+1+b) (by omega)
    have ga:q.getD (j+1+a) y=ya:=by simp [Bp,ea]
    have gb:q.getD (j+1+b) y=yb:=by simp [Bp,eb]
    simp only[ga,gb,Gq,if_true] at q1 ⊢
    exact C.leLt (Ks C T.sq (by omega) (El ea) (El eb)) q1
   ·dsimp only
    have val:∀m yy,q[j+1+m]? = some yy->q.getD (j+1+m) y=yy:=λm yy e=>by simp [Bp,e]
    have M2:LI blt p q (out.push y++q.extract (j+1) (j+1+k)) i (j+1+k):=by
     have:=M1.blockY T.sq k (by rw[Ah]; omega) (λm hm yy ey=>by
      have ey':q[j+1+m]? = some yy:=by simpa using ey
      have:=t1 m hm
      rw[val m yy ey'] at this
      simp only[Gq,if_true] at this
      exact Oj C T.sp (El hx) (C.ofLt this))
     rw[<- Vt,<- Dt] at this
     exact this
    by_cases h2:k > 0
    ·rw[if_pos h2]
     by_cases h3:j+1+k=q.size
     ·rw[if_pos (by rw[h3]; exact beq_self_eq_true _)]
      exact Bg ⟨kp,T.done_end M2 (by omega)⟩
     ·rw[if_neg (λz=>h3 (Dx z))]
      obtain ⟨yk,ek⟩:=Fq (p:=q) (i:=j+1+k) (by omega)
      refine rY C T kp M2 hi (by omega) (by omega) hx (Oj C T.sq (El ek) ?_)
      have:=t2 k (Ai _) (by omega)
      rw[val k yk ek] at this
      have z:blt yk x=false:=by simpa only [Gq,if_true] using this
      exact z
    ·rw[if_neg h2]
     have hk0:k=0:=by omega
     subst hk0
     obtain ⟨yk,ek⟩:=Fq (p:=q) (i:=j+1) (by omega)
     refine rY C T kp M1 hi (by omega) (by omega) hx (Oj C T.sq (El ek) ?_)
     have:=t2 0 (Ai _) (by omega)
     rw[val 0 yk ek] at this
     have z:blt yk x=false:=by simpa only [Gq,if_true] using this
     exact z
  ·obtain ⟨ya,ea⟩:=Fq (p:=q) (i:=j+1+m) (by omega)
   rw[ea]
   simp [Bp,ea]
  ·obtain ⟨ya,ea⟩:=Fq (p:=q) (i:=j+1+m) (by omega)
   have : q.getD (j+1+m) y=ya:=by simp [Bp,ea]
   rw[this]
   exact T.oq ya (Jq ea)
theorem K4(C:Cmp prog w A s kd Ok blt){p q out:Array Keyed}{x0 y0 xl:Keyed}(T:Two Ok blt p q x0 y0 xl){i j g ac bc n:Nat}{st0 st:Bx}(kp:Kept st0 st)(hk:kindOf st=kd)(M:LI blt p q out i j)(hi:i+1<p.size)(hj:j<q.size)(hn:n<=i+j):wpS (model prog w) A E s (T7 p q out i j g ac bc) (CP blt p q st0 n) st:=by
 unfold T7
 refine Az (Sb λst1 kp1=>?_)
 have kp':=kp.trans kp1
 have hk':kindOf st1=kd:=kp1.kind.trans hk
 obtain ⟨y,hy⟩:=Fq (p:=q) hj
 refine Az (Fl hy ?_)
 have val:∀m xx,p[i+m]? = some xx->p.getD (i+m) y=xx:=λm xx e=>by simp [Bp,e]
 have R:Row Ok p i (p.size - i) (λm=>p.getD (i+m) y):=⟨λm hm=>by
  obtain ⟨xa,ea⟩:=Fq (p:=p) (i:=i+m) (by omega)
  rw[val m xa ea,ea],λm hm=>by
  obtain ⟨xa,ea⟩:=Fq (p:=p) (i:=i+m) (by omega)
  show Ok (p.getD (i+m) y)
  rw[val m xa ea]
  exact T.op xa (Jq ea)⟩
 refine Az (Nl C R (T.oq y (Jq hy)) hk' (by omega) (λa b hab hb q1=>?_) λk hk1 t1 t2=>?_)
 ·obtain ⟨xa,ea⟩:=Fq (p:=p) (i:=i+a) (by omega)
  obtain ⟨xb,eb⟩:=Fq (p:=p) (i:=i+b) (by omega)
  simp only[val a xa ea,val b xb eb,Gq,Bv,if_false,Hz] at q1 ⊢
  exact C.trans (Ks C T.sp (by omega) (El ea) (El eb)) q1
 ·dsimp only
  -- the last one is beyond y: so k does not reach it
  have hkl:i+k+1<=p.size:=by
   rcases Nat.lt_or_ge (i+k) p.size with z | z
   ·omega
   ·exfalso
    have:=t1 (p.size - 1 - i) (by omega)
    have e:p[i+(p.size - 1 - i)]? = some xl:=by
     rw[show i+(p.size - 1 - i)=p.size - 1 by omega]
     exact T.hxl
    rw[val _ xl e] at this
    simp only[Gq,Bv,if_false,T.last y (Jq hy),Lc] at this
  have M1:LI blt p q (out++p.extract i (i+k)) (i+k) j:=by
   have:=M.blockX T.sp k (by rw[Ah]; omega) (λm hm xx ex=>by
    have ex':p[i+m]? = some xx:=by simpa using ex
    have:=t1 m hm
    rw[val m xx ex'] at this
    simp only[Gq,Bv,if_false,Hz] at this
    exact Oj C T.sq (El hy) this)
   rw[<- Vt,<- Dt] at this
   exact this
  obtain ⟨xk,ek⟩:=Fq (p:=p) (i:=i+k) (by omega)
  have hyx:blt y xk=true:=by
   have:=t2 k (Ai _) (by omega)
   rw[val k xk ek] at this
   simpa only [Gq,Bv,if_false,Xp] using this
  by_cases h2:k > 0
  ·rw[if_pos h2]
   by_cases h3:i+k+1=p.size
   ·rw[if_pos (by rw[h3]; exact beq_self_eq_true _)]
    exact Bg ⟨kp',T.last_end C M1 h3⟩
   ·rw[if_neg (λz=>h3 (Dx z)),if_neg (λz=>by have:=Dx z; omega)]
    exact pT C T kp' hk' M1 (by omega) hj (by omega) ek hy hyx
  ·rw[if_neg h2]
   have hk0:k=0:=by omega
   subst hk0
   exact pT C T kp' hk' M hi hj hn ek hy hyx
theorem pG(C:Cmp prog w A s kd Ok blt){p q:Array Keyed}{x0 y0 xl:Keyed}(T:Two Ok blt p q x0 y0 xl){st:Bx}(hk:kindOf st=kd){Q:Array Keyed->Bx->Prop}(h:∀r st',Kept st st'->oT blt p q r->Q r st'):wpS (model prog w) A E s (kD p q) Q st:=by
 have p0:0<p.size:=by
  have:=(Hm.mp T.hx0).1
  exact this
 have q0:0<q.size:=by
  have:=(Hm.mp T.hy0).1
  exact this
 have M0:LI blt p q #[y0] 0 1:=by
  have m:LI blt p q #[] 0 0:=⟨by simp,by simp,λo ho=>by simp at ho,λo ho=>by simp at ho⟩
  have:=m.pushY T.sq (El T.hy0) (Oj C T.sp (El T.hx0) (C.ofLt T.first))
  simpa using this
 unfold kD
 refine Az (Sa ?_)
 refine Az (Fl T.hy0 ?_)
 dsimp only
 by_cases h1:1=q.size
 ·rw[if_pos (by rw[<- h1]; rfl)]
  exact Bg (h _ _ (Kept.refl _) (T.done_end M0 (by omega)))
 rw[if_neg (λz=>h1 (Dx z))]
 by_cases h2:0+1=p.size
 ·rw[if_pos (by rw[<- h2]; rfl)]
  exact Bg (h _ _ (Kept.refl _) (T.last_end C M0 (by omega)))
 rw[if_neg (λz=>h2 (Dx z))]
 refine Az (Ms ?_)
 refine Az (Hj (Eo
  (I:=λx c st'=>Kept st st'/\∃out i j g,c=(none,out,i,j,g)/\LI blt p q out i j/\i+1<p.size/\j<q.size/\x+1<=i+j)
  (Q:=λc st'=>Kept st st'/\∃r Fo,c=(some r,Fo)/\oT blt p q r) ?_ ?_ ⟨Kept.refl _,_,0,1,_,rfl,M0,by omega,by omega,by omega⟩) ?_)
 ·(intro x c st1 _ hx q_; obtain ⟨kp1,out,i,j,g,rfl,M,hi,hj,hn⟩ := q_)
  dsimp only
  -- one by one
  refine Az (Hj (Eo
   (I:=λ_ c st'=>st'=st1/\∃out i j ac bc,c=(none,out,i,j,ac,bc)/\LI blt p q out i j/\i+1<p.size/\j<q.size/\x+1<=i+j)
   (Q:=λc st'=>st'=st1/\((∃r Fo,c=(some r,Fo)/\oT blt p q r)\/∃out i j ac bc,c=(none,out,i,j,ac,bc)/\LI blt p q out i j/\i+1<p.size/\j<q.size/\x+1<=i+j)) ?_ ?_ ⟨rfl,out,i,j,0,0,rfl,M,hi,hj,hn⟩) ?_)
  ·(intro z c st2 _ hz q_; obtain ⟨rfl,out,i,j,ac,bc,rfl,M,hi,hj,hn⟩ := q_)
   dsimp only
   obtain ⟨yy,hy⟩:=Fq (p:=q) hj
   obtain ⟨xx,hx⟩:=Fq (p:=p) (i:=i) (by omega)
   refine Az (Fl hy ?_)
   refine Az (Fl hx ?_)
   refine Az (kA C (kp1.kind.trans hk) (T.oq yy (Jq hy)) (T.op xx (Jq hx)) ?_)
   dsimp only
   cases hb:blt yy xx with
   | true =>
    rw[if_pos rfl]
    refine Az (Fl hy ?_)
    have M1:LI blt p q (out.push yy) i (j+1):=by
     have:=M.pushY T.sq (El hy) (Oj C T.sp (El hx) (C.ofLt hb))
     rw[<- Nk] at this
     exact this
    by_cases e1:j+1=q.size
    ·rw[if_pos (by rw[e1]; exact beq_self_eq_true _)]
     exact Bg ⟨rfl,.inl ⟨_,_,rfl,T.done_end M1 (by omega)⟩⟩
    ·rw[if_neg (λz=>e1 (Dx z))]
     split
     ·exact Bg ⟨rfl,.inr ⟨_,_,_,_,_,rfl,M1,hi,by omega,by omega⟩⟩
     ·exact Bg ⟨rfl,_,_,_,_,_,rfl,M1,hi,by omega,by omega⟩
   | false =>
    rw[if_neg Cp]
    refine Az (Fl hx ?_)
    have M1:LI blt p q (out.push xx) (i+1) j:=by
     have:=M.pushX T.sp (El hx) (Oj C T.sq (El hy) hb)
     rw[<- Nk] at this
     exact this
    by_cases e1:i+1+1=p.size
    ·rw[if_pos (by rw[e1]; exact beq_self_eq_true _)]
     exact Bg ⟨rfl,.inl ⟨_,_,rfl,T.last_end C M1 (by omega)⟩⟩
    ·rw[if_neg (λz=>e1 (Dx z))]
     split
     ·exact Bg ⟨rfl,.inr ⟨_,_,_,_,_,rfl,M1,by omega,hj,by omega⟩⟩
     ·exact Bg ⟨rfl,_,_,_,_,_,rfl,M1,by omega,hj,by omega⟩
  ·(intro c st2 q_; obtain ⟨rfl,out,i,j,ac,bc,rfl,M⟩ := q_)
   exact ⟨rfl,.inr ⟨out,i,j,ac,bc,rfl,M⟩⟩
  ·rintro c st2 ⟨rfl,hc⟩
   rcases hc with hc | hc
   ·obtain ⟨r,Fo,rfl,hr⟩:=hc
    exact Bg ⟨kp1,r,_,rfl,hr⟩
   ·obtain ⟨out,i,j,ac,bc,rfl,M,hi,hj,hn⟩:=hc
    dsimp only
    refine Az (Sa ?_)
    -- the gallop
    refine Az (Hj (Eo
     (I:=λy c st'=>Kept st st'/\∃out i j g ac bc,c=(none,out,i,j,g,ac,bc)/\LI blt p q out i j/\i+1<p.size/\j<q.size/\(if y=0 then x+1<=i+j else x+2<=i+j))
     (Q:=λc st'=>Kept st st'/\((∃r Fo,c=(some r,Fo)/\oT blt p q r)\/∃out i j g ac bc,c=(none,out,i,j,g,ac,bc)/\LI blt p q out i j/\i+1<p.size/\j<q.size/\x+2<=i+j)) ?_ ?_
     ⟨kp1,out,i,j,_,ac,bc,rfl,M,hi,hj,by rw[if_pos rfl]; exact hn⟩) ?_)
    ·(intro y c Rj _ hy q_; obtain ⟨kp3,out,i,j,g,ac,bc,rfl,M,hi,hj,hn⟩ := q_)
     have hn':x+1<=i+j:=by split at hn <;> omega
     have key:∀g',wpS (model prog w) A E s (T7 p q out i j g' ac bc) (CP blt p q st (x+1)) Rj:=λg'=>K4 C T kp3 (kp3.kind.trans hk) M hi hj hn'
     dsimp only
     refine Hj (?_:wpS (model prog w) A E s _ (CP blt p q st (x+1)) Rj) λr st4 hr=>?_
     ·by_cases hg:g > 1
      ·rw[if_pos hg]
       exact key _
      ·rw[if_neg hg]
       exact key _
     ·obtain ⟨kp4,hr⟩:=hr
      match r,hr with
      | .done (some r,Fo),hr=>exact ⟨kp4,.inl ⟨r,Fo,rfl,hr⟩⟩
      | .done (none,out,i,j,g,ac,bc),hr=>exact ⟨kp4,.inr ⟨out,i,j,g,ac,bc,rfl,hr.1,hr.2.1,hr.2.2.1,by have:=hr.2.2.2; omega⟩⟩
      | .yield (none,out,i,j,g,ac,bc),hr=>exact ⟨kp4,out,i,j,g,ac,bc,rfl,hr.1,hr.2.1,hr.2.2.1,by rw[if_neg (by omega)]; have:=hr.2.2.2; omega⟩
    ·(intro c Rj q_; obtain ⟨kp3,out,i,j,g,ac,bc,rfl,M,hi,hj,hn⟩ := q_)
     rw[if_neg (by omega)] at hn
     exact ⟨kp3,.inr ⟨out,i,j,g,ac,bc,rfl,M,hi,hj,hn⟩⟩
    ·rintro c Rj ⟨kp3,hc⟩
     rcases hc with hc | hc
     ·obtain ⟨r,Fo,rfl,hr⟩:=hc
      exact Bg ⟨kp3,r,_,rfl,hr⟩
     ·obtain ⟨out,i,j,g,ac,bc,rfl,M,hi,hj,hn⟩:=hc
      dsimp only
      refine Az (Sb λst4 kp4=>?_)
      exact Bg ⟨kp3.trans kp4,out,i,j,_,rfl,M,hi,hj,by omega⟩
 ·(intro c st1 q_; obtain ⟨kp1,out,i,j,g,rfl,M,hi,hj,hn⟩ := q_)
  exfalso
  have : max 0 (p.size+q.size)=p.size+q.size:=by omega
  rw[this] at hn
  omega
 ·(intro c st1 q_; obtain ⟨kp1,r,Fo,rfl,hr⟩ := q_)
  exact Bg (h r st1 kp1 hr)
end
def kE:Array Keyed->Array Keyed->StateT Bx Sem (Array Keyed):=sortPriv% PySem.Builtin.mergeHi
abbrev Q0(p q out:Array Keyed)(m n:Nat):Array Keyed:=p.extract 0 m++q.extract 0 n++out.reverse
abbrev FG(p q out:Array Keyed)(m n:Nat):Array Keyed:=q.extract 0 n++p.extract 0 m++out.reverse
abbrev F3:=Option (Array Keyed)×Nat×Nat×Array Keyed×Nat×Nat×Nat
def z0(p q out:Array Keyed)(m n g ac k:Nat):StateT Bx Sem (ForInStep F3):=do
 let x <- elem' p (m - 1)
 if (m - 1 == 0)=true then pure (Cy (some (Q0 p q (out.push x) (m - 1) n),m - 1,n,out.push x,g,ac,k))
 else if (decide (ac<7) && decide (k<7))=true then pure (Cy (none,m - 1,n,out.push x,g,ac,k))
 else pure (Fp (none,m - 1,n,out.push x,g,ac,k))
def F4(p q out:Array Keyed)(m n g ac bc:Nat):StateT Bx Sem (ForInStep F3):=do
 let y <- elem' q (n - 1)
 if (n - 1 == 1)=true then pure (Cy (some (FG p q (out.push y) m (n - 1)),m,n - 1,out.push y,g,ac,bc))
 else do
  let x <- elem' p (m - 1)
  let some t <- Rz true x q 0 (n - 1) (n - 1 - 1) | pure (Cy (some (Q0 p q (out.push y) m (n - 1)),m,n - 1,out.push y,g,ac,bc))
  if n - 1 - t > 0 then
   if (t == 1)=true then pure (Cy (some (FG p q (out.push y++(q.extract t (n - 1)).reverse) m t),m,t,out.push y++(q.extract t (n - 1)).reverse,g,ac,n - 1 - t))
   else if (t == 0)=true then pure (Cy (some (Q0 p q (out.push y++(q.extract t (n - 1)).reverse) m t),m,t,out.push y++(q.extract t (n - 1)).reverse,g,ac,n - 1 - t))
   else z0 p q (out.push y++(q.extract t (n - 1)).reverse) m t g ac (n - 1 - t)
  else z0 p q (out.push y) m (n - 1) g ac (n - 1 - t)
def T6(p q out:Array Keyed)(m n g ac bc:Nat):StateT Bx Sem (ForInStep F3):=do
 Zr g
 let y <- elem' q (n - 1)
 let some t <- Rz false y p 0 m (m - 1) | pure (Cy (some (Q0 p q out m n),m,n,out,g,ac,bc))
 if m - t > 0 then
  if (t == 0)=true then pure (Cy (some (Q0 p q (out++(p.extract t m).reverse) t n),t,n,out++(p.extract t m).reverse,g,m - t,bc))
  else F4 p q (out++(p.extract t m).reverse) t n g (m - t) bc
 else F4 p q out m n g (m - t) bc
section
variable{α:Type}{R:α->α->Prop}{xs ys out:List α}{i j:Nat}
theorem MI.swap(M:MI R xs ys out i j):MI R ys xs out j i:=⟨M.perm.trans Fe,M.srt,M.ly,M.lx⟩
theorem MI.endXY(M:MI R xs ys out i j)(sx:xs.Pairwise R)(sy:ys.Pairwise R)(h:∀x∈xs.drop i,∀y∈ys.drop j,R x y):(out++xs.drop i++ys.drop j).Perm (xs++ys)/\(out++xs.drop i++ys.drop j).Pairwise R:=by
 have:=M.swap.endYX sy sx h
 exact ⟨this.1.trans Fe,this.2⟩
end
abbrev ge(blt:Keyed->Keyed->Bool)(x y:Keyed):Prop:=le blt y x
abbrev HI(blt:Keyed->Keyed->Bool)(p q out:Array Keyed)(m n:Nat):Prop:=MI (ge blt) p.toList.reverse q.toList.reverse out.toList (p.size - m) (q.size - n)
theorem Jl(p:Array Keyed){m:Nat}(h:m<=p.size):p.toList.reverse.drop (p.size - m)=(p.toList.take m).reverse:=by
 rw[List.drop_reverse,Ah]
 congr 2
 omega
theorem vR{p:Array Keyed}{m:Nat}{x:Keyed}(h0:0<m)(h:m<=p.size)(e:p[m - 1]? = some x):p.toList.reverse[p.size - m]? = some x:=by
 rw[Th (by rw[Ah]; omega),Ah,show p.size - 1 - (p.size - m)=m - 1 by omega]
 exact El e
theorem J6(p:Array Keyed)(m:Nat):(p.extract 0 m).toList=p.toList.take m:=by
 rw[Mz,Km,List.drop_zero,Zt]
theorem CJ(p:Array Keyed){t m:Nat}(h1:t<=m)(h2:m<=p.size):(p.extract t m).reverse.toList=(p.toList.reverse.drop (p.size - m)).take (m - t):=by
 rw[Jl p h2,List.take_reverse,Tz,Mz,Km,Dg,Ah,List.drop_take]
 congr 2
 ·omega
 ·congr 1
  omega
section
variable{prog:Bj}{w:World}{A:Cu}{s:Aj}{kd:Ls}{Ok:Keyed->Prop}{blt:Keyed->Keyed->Bool}{E:Value->Aj->Prop}
theorem Jn{l:List Keyed}(h:l.Pairwise (le blt)):l.reverse.Pairwise (ge blt):=Tf.mpr h
theorem Two.dn_end{p q out:Array Keyed}{x0 y0 xl:Keyed}(T:Two Ok blt p q x0 y0 xl){m n:Nat}(M:HI blt p q out m n)(hm:m<=p.size)(hn:n<=q.size)(h:m=0\/n=0):oT blt p q (Q0 p q out m n):=by
 have h1:=M.endYX (Jn T.sp) (Jn T.sq) (λy hy x hx=>by
  rw[Jl p hm] at hx
  rw[Jl q hn] at hy
  rcases h with h | h
  ·subst h; simp at hx
  ·subst h; simp at hy)
 rw[Jl p hm,Jl q hn] at h1
 have e:(Q0 p q out m n).toList=(out.toList++(q.toList.take n).reverse++(p.toList.take m).reverse).reverse:=by
  rw[Dt,Dt,J6,J6,Tz]
  simp
 refine ⟨?_,?_⟩
 ·rw[e]
  refine (Jv _).trans (h1.1.trans ?_)
  exact List.Perm.append (Jv _) (Jv _)
 ·rw[e]
  exact Tf.mpr h1.2
theorem Two.fs_end(C:Cmp prog w A s kd Ok blt){p q out:Array Keyed}{x0 y0 xl:Keyed}(T:Two Ok blt p q x0 y0 xl){m n:Nat}(M:HI blt p q out m n)(hm:m<=p.size)(hn:n=1)(hq:1<=q.size):oT blt p q (FG p q out m n):=by
 subst hn
 have h1:=M.endXY (Jn T.sp) (Jn T.sq) (λx hx y hy=>by
  rw[Jl p hm] at hx
  rw[Jl q hq] at hy
  have ey:y=y0:=by
   have : y∈q.toList.take 1:=Qr.mp hy
   obtain ⟨k,hk,e⟩:=Gh.mp this
   have hk0:k=0:=by
    rw[Dg] at hk
    omega
   subst hk0
   have e2:q.toList[0]? = some y:=by
    rw[<- e,<- Be hk,Gd (by omega)]
   rw[El T.hy0] at e2
   exact (Cj e2).symm
  rw[ey]
  have hx':x∈p.toList:=Ng (Qr.mp hx)
  obtain ⟨k,hk,e⟩:=Gh.mp hx'
  have e2:p.toList[k]? = some x:=by rw[<- e,Be hk]
  exact C.trans (C.ofLt T.first) (Ks C T.sp (Do k) (El T.hx0) e2))
 rw[Jl p hm,Jl q hq] at h1
 have e:(FG p q out m 1).toList=(out.toList++(p.toList.take m).reverse++(q.toList.take 1).reverse).reverse:=by
  rw[Dt,Dt,J6,J6,Tz]
  simp
 refine ⟨?_,?_⟩
 ·rw[e]
  refine (Jv _).trans (h1.1.trans ?_)
  exact List.Perm.append (Jv _) (Jv _)
 ·rw[e]
  exact Tf.mpr h1.2
theorem Se(C:Cmp prog w A s kd Ok blt){p:Array Keyed}(sp:p.toList.Pairwise (le blt)){m:Nat}{x y:Keyed}(h0:0<m)(hm:m<=p.size)(hx:p[m - 1]? = some x)(h:le blt x y):∀z∈p.toList.reverse.drop (p.size - m),ge blt y z:=λz hz=>by
 rw[Jl p hm] at hz
 obtain ⟨k,hk,e⟩:=Gh.mp (Qr.mp hz)
 have e2:p.toList[k]? = some z:=by
  rw[Dg] at hk
  rw[<- e,<- Be (by rw[Dg]; exact hk),Gd (by omega)]
 rw[Dg] at hk
 exact C.trans (Ks C sp (by omega) e2 (El hx)) h
theorem HI.pushX(C:Cmp prog w A s kd Ok blt){p q out:Array Keyed}{x0 y0 xl:Keyed}(T:Two Ok blt p q x0 y0 xl){m n:Nat}(M:HI blt p q out m n)(h0:0<m)(hm:m<=p.size){x:Keyed}(hx:p[m - 1]? = some x)(h:∀z∈q.toList.reverse.drop (q.size - n),ge blt x z):HI blt p q (out.push x) (m - 1) n:=by
 have:=MI.pushX M (Jn T.sp) (vR h0 hm hx) h
 rw[<- Nk,show p.size - m+1=p.size - (m - 1) by omega] at this
 exact this
theorem HI.pushY(C:Cmp prog w A s kd Ok blt){p q out:Array Keyed}{x0 y0 xl:Keyed}(T:Two Ok blt p q x0 y0 xl){m n:Nat}(M:HI blt p q out m n)(h0:0<n)(hn:n<=q.size){y:Keyed}(hy:q[n - 1]? = some y)(h:∀z∈p.toList.reverse.drop (p.size - m),ge blt y z):HI blt p q (out.push y) m (n - 1):=by
 have:=MI.pushY M (Jn T.sq) (vR h0 hn hy) h
 rw[<- Nk,show q.size - n+1=q.size - (n - 1) by omega] at this
 exact this
def BB(blt:Keyed->Keyed->Bool)(p q:Array Keyed)(st:Bx)(b:Nat)(r:ForInStep F3)(st':Bx):Prop:=Kept st st'/\match r with
 | .done (some r,_)=>oT blt p q r
 | .done (none,m,n,out,_)=>HI blt p q out m n/\0<m/\m<=p.size/\1<n/\n<=q.size/\m+n<b
 | .yield (none,m,n,out,_)=>HI blt p q out m n/\0<m/\m<=p.size/\1<n/\n<=q.size/\m+n<b
 | .yield (some _,_)=>False
theorem qD(C:Cmp prog w A s kd Ok blt){p q out:Array Keyed}{x0 y0 xl:Keyed}(T:Two Ok blt p q x0 y0 xl){m n g ac k b:Nat}{st0 st:Bx}(kp:Kept st0 st)(M:HI blt p q out m n)(m0:0<m)(hm:m<=p.size)(n0:1<n)(hn:n<=q.size)(hb:m+n<=b){x:Keyed}(hx:p[m - 1]? = some x)(hq:∀z∈q.toList.reverse.drop (q.size - n),ge blt x z):wpS (model prog w) A E s (z0 p q out m n g ac k) (BB blt p q st0 b) st:=by
 unfold z0
 refine Az (Fl hx ?_)
 have M1:=HI.pushX C T M m0 hm hx hq
 by_cases h1:m - 1=0
 ·rw[if_pos (by rw[h1]; rfl)]
  exact Bg ⟨kp,T.dn_end M1 (by omega) hn (.inl h1)⟩
 ·rw[if_neg (λz=>h1 (Dx z))]
  by_cases h2:(decide (ac<7) && decide (k<7))=true
  ·rw[if_pos h2]
   exact Bg ⟨kp,M1,by omega,by omega,n0,hn,by omega⟩
  ·rw[if_neg h2]
   exact Bg ⟨kp,M1,by omega,by omega,n0,hn,by omega⟩
theorem qS(C:Cmp prog w A s kd Ok blt){p q out:Array Keyed}{x0 y0 xl:Keyed}(T:Two Ok blt p q x0 y0 xl){m n g ac bc b:Nat}{st0 st:Bx}(kp:Kept st0 st)(hk:kindOf st=kd)(M:HI blt p q out m n)(m0:0<m)(hm:m<=p.size)(n0:1<n)(hn:n<=q.size)(hb:m+n<=b){x y:Keyed}(hx:p[m - 1]? = some x)(hy:q[n - 1]? = some y)(hxy:le blt x y):wpS (model prog w) A E s (F4 p q out m n g ac bc) (BB blt p q st0 b) st:=by
 unfold F4
 refine Az (Fl hy ?_)
 have M1:=HI.pushY C T M (by omega) hn hy (Se C T.sp m0 hm hx hxy)
 by_cases h1:n - 1=1
 ·rw[if_pos (by rw[h1]; rfl)]
  exact Bg ⟨kp,T.fs_end C M1 hm h1 (by omega)⟩
 rw[if_neg (λz=>h1 (Dx z))]
 refine Az (Fl hx ?_)
 have val:∀i yy,q[i]? = some yy->q.getD (0+i) y=yy:=λi yy e=>by rw[Gz]; simp [Bp,e]
 have R:Row Ok q 0 (n - 1) (λi=>q.getD (0+i) y):=⟨λi hi=>by
  obtain ⟨ya,ea⟩:=Fq (p:=q) (i:=i) (by omega)
  rw[val i ya ea,Gz,ea],λi hi=>by
  obtain ⟨ya,ea⟩:=Fq (p:=q) (i:=i) (by omega)
  show Ok (q.getD (0+i) y)
  rw[val i ya ea]
  exact T.oq ya (Jq ea)⟩
 refine Az (Nl C R (T.op x (Jq hx)) hk (by omega) (λa c hab hc q1=>?_) λt ht t1 t2=>?_)
 ·obtain ⟨ya,ea⟩:=Fq (p:=q) (i:=a) (by omega)
  obtain ⟨yc,ec⟩:=Fq (p:=q) (i:=c) (by omega)
  simp only[val a ya ea,val c yc ec,Gq,if_true] at q1 ⊢
  exact C.leLt (Ks C T.sq hab (El ea) (El ec)) q1
 dsimp only
 have M2:HI blt p q (out.push y++(q.extract t (n - 1)).reverse) m t:=by
  have:=MI.blockY M1 (Jn T.sq) (n - 1 - t) (by rw[List.length_reverse,Ah]; omega) (λi hi yy ey=>by
   have e1:q[n - 1 - i - 1]? = some yy:=by
    rw[Th (by rw[Ah]; omega),Ah,show q.size - 1 - (q.size - (n - 1)+i)=n - 1 - i - 1 by omega] at ey
    simpa using ey
   have:=t2 (n - 1 - i - 1) (by omega) (by omega)
   rw[val _ yy e1] at this
   have z:blt yy x=false:=by simpa only [Gq,if_true] using this
   exact Se C T.sp m0 hm hx z)
  rw[<- CJ q (by omega) (by omega),<- Dt,show q.size - (n - 1)+(n - 1 - t)=q.size - t by omega] at this
  exact this
 -- what is left of q is below x
 have below:∀z∈q.toList.reverse.drop (q.size - t),ge blt x z:=λz hz=>by
  rw[Jl q (by omega)] at hz
  obtain ⟨k,hk',e⟩:=Gh.mp (Qr.mp hz)
  rw[Dg] at hk'
  have e2:q.toList[k]? = some z:=by
   rw[<- e,<- Be (by rw[Dg]; exact hk'),Gd (by omega)]
  have e3:q[k]? = some z:=by simpa using e2
  have:=t1 k (by omega)
  rw[val k z e3] at this
  exact C.ofLt (by simpa only [Gq,if_true] using this)
 by_cases h2:n - 1 - t > 0
 ·rw[if_pos h2]
  by_cases h3:t=1
  ·rw[if_pos (by rw[h3]; rfl)]
   exact Bg ⟨kp,T.fs_end C M2 hm h3 (by omega)⟩
  ·rw[if_neg (λz=>h3 (Dx z))]
   by_cases h4:t=0
   ·rw[if_pos (by rw[h4]; rfl)]
    exact Bg ⟨kp,T.dn_end M2 hm (by omega) (.inr h4)⟩
   ·rw[if_neg (λz=>h4 (Dx z))]
    exact qD C T kp M2 m0 hm (by omega) (by omega) (by omega) hx below
 ·rw[if_neg h2]
  have et:t=n - 1:=by omega
  rw[et] at below
  exact qD C T kp M1 m0 hm (by omega) (by omega) (by omega) hx below
theorem J3(C:Cmp prog w A s kd Ok blt){p q out:Array Keyed}{x0 y0 xl:Keyed}(T:Two Ok blt p q x0 y0 xl){m n g ac bc b:Nat}{st0 st:Bx}(kp:Kept st0 st)(hk:kindOf st=kd)(M:HI blt p q out m n)(m0:0<m)(hm:m<=p.size)(n0:1<n)(hn:n<=q.size)(hb:m+n<=b):wpS (model prog w) A E s (T6 p q out m n g ac bc) (BB blt p q st0 b) st:=by
 unfold T6
 refine Az (Sb λst1 kp1=>?_)
 have kp':=kp.trans kp1
 have hk':kindOf st1=kd:=kp1.kind.trans hk
 obtain ⟨y,hy⟩:=Fq (p:=q) (i:=n - 1) (by omega)
 refine Az (Fl hy ?_)
 have val:∀i xx,p[i]? = some xx->p.getD (0+i) y=xx:=λi xx e=>by rw[Gz]; simp [Bp,e]
 have R:Row Ok p 0 m (λi=>p.getD (0+i) y):=⟨λi hi=>by
  obtain ⟨xa,ea⟩:=Fq (p:=p) (i:=i) (by omega)
  rw[val i xa ea,Gz,ea],λi hi=>by
  obtain ⟨xa,ea⟩:=Fq (p:=p) (i:=i) (by omega)
  show Ok (p.getD (0+i) y)
  rw[val i xa ea]
  exact T.op xa (Jq ea)⟩
 refine Az (Nl C R (T.oq y (Jq hy)) hk' (by omega) (λa c hab hc q1=>?_) λt ht t1 t2=>?_)
 ·obtain ⟨xa,ea⟩:=Fq (p:=p) (i:=a) (by omega)
  obtain ⟨xc,ec⟩:=Fq (p:=p) (i:=c) (by omega)
  simp only[val a xa ea,val c xc ec,Gq,Bv,if_false,Hz] at q1 ⊢
  exact C.trans (Ks C T.sp hab (El ea) (El ec)) q1
 dsimp only
 have M1:HI blt p q (out++(p.extract t m).reverse) t n:=by
  have:=MI.blockX M (Jn T.sp) (m - t) (by rw[List.length_reverse,Ah]; omega) (λi hi xx ex=>by
   have e1:p[m - i - 1]? = some xx:=by
    rw[Th (by rw[Ah]; omega),Ah,show p.size - 1 - (p.size - m+i)=m - i - 1 by omega] at ex
    simpa using ex
   have:=t2 (m - i - 1) (by omega) (by omega)
   rw[val _ xx e1] at this
   have z:blt y xx=true:=by simpa only [Gq,Bv,if_false,Xp] using this
   exact Se C T.sq (by omega) hn hy (C.ofLt z))
  rw[<- CJ p (by omega) hm,<- Dt,show p.size - m+(m - t)=p.size - t by omega] at this
  exact this
 have below:∀x,0<t->p[t - 1]? = some x->le blt x y:=λx h0 hx=>by
  have:=t1 (t - 1) (by omega)
  rw[val _ x hx] at this
  have z:blt y x=false:=by simpa only [Gq,Bv,if_false,Hz] using this
  exact z
 by_cases h2:m - t > 0
 ·rw[if_pos h2]
  by_cases h3:t=0
  ·rw[if_pos (by rw[h3]; rfl)]
   exact Bg ⟨kp',T.dn_end M1 (by omega) hn (.inl h3)⟩
  ·rw[if_neg (λz=>h3 (Dx z))]
   obtain ⟨x,hx⟩:=Fq (p:=p) (i:=t - 1) (by omega)
   exact qS C T kp' hk' M1 (by omega) (by omega) n0 hn (by omega) hx hy (below x (by omega) hx)
 ·rw[if_neg h2]
  have et:t=m:=by omega
  subst et
  obtain ⟨x,hx⟩:=Fq (p:=p) (i:=t - 1) (by omega)
  exact qS C T kp' hk' M m0 hm n0 hn hb hx hy (below x m0 hx)
theorem nH(C:Cmp prog w A s kd Ok blt){p q:Array Keyed}{x0 y0 xl:Keyed}(T:Two Ok blt p q x0 y0 xl){st:Bx}(hk:kindOf st=kd){Q:Array Keyed->Bx->Prop}(h:∀r st',Kept st st'->oT blt p q r->Q r st'):wpS (model prog w) A E s (kE p q) Q st:=by
 have p0:0<p.size:=(Hm.mp T.hx0).1
 have q0:0<q.size:=(Hm.mp T.hy0).1
 obtain ⟨yl,hyl⟩:=Fq (p:=q) (i:=q.size - 1) (by omega)
 have M0:HI blt p q #[xl] (p.size - 1) q.size:=by
  have m:HI blt p q #[] p.size q.size:=⟨by simp,by simp,λo ho=>by simp at ho,λo ho=>by simp at ho⟩
  have:=HI.pushX C T m p0 (Ai _) T.hxl (Se C T.sq q0 (Ai _) hyl (C.ofLt (T.last yl (Jq hyl))))
  simpa using this
 unfold kE
 refine Az (Sa ?_)
 refine Az (Fl T.hxl ?_)
 dsimp only
 by_cases h1:p.size - 1=0
 ·rw[if_pos (by rw[h1]; rfl)]
  exact Bg (h _ _ (Kept.refl _) (T.dn_end M0 (by omega) (by omega) (.inl h1)))
 rw[if_neg (λz=>h1 (Dx z))]
 by_cases h2:q.size=1
 ·rw[if_pos (by rw[h2]; rfl)]
  exact Bg (h _ _ (Kept.refl _) (T.fs_end C M0 (by omega) h2 (by omega)))
 rw[if_neg (λz=>h2 (Dx z))]
 refine Az (Ms ?_)
 refine Az (Hj (Eo
  (I:=λx c st'=>Kept st st'/\∃m n out g,c=(none,m,n,out,g)/\HI blt p q out m n/\0<m/\m<=p.size/\1<n/\n<=q.size/\m+n+x+1<=p.size+q.size)
  (Q:=λc st'=>Kept st st'/\∃r Fo,c=(some r,Fo)/\oT blt p q r) ?_ ?_ ⟨Kept.refl _,_,_,_,_,rfl,M0,by omega,by omega,by omega,by omega,by omega⟩) ?_)
 ·(intro x c st1 _ hx q_; obtain ⟨kp1,m,n,out,g,rfl,M,m0,hm,n0,hn,hb⟩ := q_)
  dsimp only
  -- one by one
  refine Az (Hj (Eo
   (I:=λ_ c st'=>st'=st1/\∃m n out ac bc,c=(none,m,n,out,ac,bc)/\HI blt p q out m n/\0<m/\m<=p.size/\1<n/\n<=q.size/\m+n+x+1<=p.size+q.size)
   (Q:=λc st'=>st'=st1/\((∃r Fo,c=(some r,Fo)/\oT blt p q r)\/∃m n out ac bc,c=(none,m,n,out,ac,bc)/\HI blt p q out m n/\0<m/\m<=p.size/\1<n/\n<=q.size/\m+n+x+1<=p.size+q.size)) ?_ ?_ ⟨rfl,m,n,out,0,0,rfl,M,m0,hm,n0,hn,hb⟩) ?_)
  ·(intro z c st2 _ hz q_; obtain ⟨rfl,m,n,out,ac,bc,rfl,M,m0,hm,n0,hn,hb⟩ := q_)
   dsimp only
   obtain ⟨yy,hy⟩:=Fq (p:=q) (i:=n - 1) (by omega)
   obtain ⟨xx,hx⟩:=Fq (p:=p) (i:=m - 1) (by omega)
   refine Az (Fl hy ?_)
   refine Az (Fl hx ?_)
   refine Az (kA C (kp1.kind.trans hk) (T.oq yy (Jq hy)) (T.op xx (Jq hx)) ?_)
   dsimp only
   cases hlt:blt yy xx with
   | true =>
    rw[if_pos rfl]
    refine Az (Fl hx ?_)
    have M1:=HI.pushX C T M m0 hm hx (Se C T.sq (by omega) hn hy (C.ofLt hlt))
    by_cases e1:m - 1=0
    ·rw[if_pos (by rw[e1]; rfl)]
     exact Bg ⟨rfl,.inl ⟨_,_,rfl,T.dn_end M1 (by omega) hn (.inl e1)⟩⟩
    ·rw[if_neg (λz=>e1 (Dx z))]
     split
     ·exact Bg ⟨rfl,.inr ⟨_,_,_,_,_,rfl,M1,by omega,by omega,n0,hn,by omega⟩⟩
     ·exact Bg ⟨rfl,_,_,_,_,_,rfl,M1,by omega,by omega,n0,hn,by omega⟩
   | false =>
    rw[if_neg Cp]
    refine Az (Fl hy ?_)
    have M1:=HI.pushY C T M (by omega) hn hy (Se C T.sp m0 hm hx hlt)
    by_cases e1:n - 1=1
    ·rw[if_pos (by rw[e1]; rfl)]
     exact Bg ⟨rfl,.inl ⟨_,_,rfl,T.fs_end C M1 hm e1 (by omega)⟩⟩
    ·rw[if_neg (λz=>e1 (Dx z))]
     split
     ·exact Bg ⟨rfl,.inr ⟨_,_,_,_,_,rfl,M1,m0,hm,by omega,by omega,by omega⟩⟩
     ·exact Bg ⟨rfl,_,_,_,_,_,rfl,M1,m0,hm,by omega,by omega,by omega⟩
  ·(intro c st2 q_; obtain ⟨rfl,m,n,out,ac,bc,rfl,M⟩ := q_)
   exact ⟨rfl,.inr ⟨m,n,out,ac,bc,rfl,M⟩⟩
  ·rintro c st2 ⟨rfl,hc⟩
   rcases hc with hc | hc
   ·obtain ⟨r,Fo,rfl,hr⟩:=hc
    exact Bg ⟨kp1,r,_,rfl,hr⟩
   ·obtain ⟨m,n,out,ac,bc,rfl,M,m0,hm,n0,hn,hb⟩:=hc
    dsimp only
    refine Az (Sa ?_)
    -- the gallop
    refine Az (Hj (Eo
     (I:=λy c st'=>Kept st st'/\∃m n out g ac bc,c=(none,m,n,out,g,ac,bc)/\HI blt p q out m n/\0<m/\m<=p.size/\1<n/\n<=q.size/\(if y=0 then m+n+x+1<=p.size+q.size else m+n+x+2<=p.size+q.size))
     (Q:=λc st'=>Kept st st'/\((∃r Fo,c=(some r,Fo)/\oT blt p q r)\/∃m n out g ac bc,c=(none,m,n,out,g,ac,bc)/\HI blt p q out m n/\0<m/\m<=p.size/\1<n/\n<=q.size/\m+n+x+2<=p.size+q.size)) ?_ ?_
     ⟨kp1,m,n,out,_,ac,bc,rfl,M,m0,hm,n0,hn,by rw[if_pos rfl]; exact hb⟩) ?_)
    ·(intro y c Rj _ hy q_; obtain ⟨kp3,m,n,out,g,ac,bc,rfl,M,m0,hm,n0,hn,hb⟩ := q_)
     have hb':m+n+x+1<=p.size+q.size:=by split at hb <;> omega
     have key:∀g',wpS (model prog w) A E s (T6 p q out m n g' ac bc) (BB blt p q st (m+n)) Rj:=λg'=>J3 C T kp3 (kp3.kind.trans hk) M m0 hm n0 hn (Ai _)
     dsimp only
     refine Hj (?_:wpS (model prog w) A E s _ (BB blt p q st (m+n)) Rj) λr st4 hr=>?_
     ·by_cases hg:g > 1
      ·rw[if_pos hg]
       exact key _
      ·rw[if_neg hg]
       exact key _
     ·obtain ⟨kp4,hr⟩:=hr
      match r,hr with
      | .done (some r,Fo),hr=>exact ⟨kp4,.inl ⟨r,Fo,rfl,hr⟩⟩
      | .done (none,m',n',out',g',ac',bc'),hr=>exact ⟨kp4,.inr ⟨m',n',out',g',ac',bc',rfl,hr.1,hr.2.1,hr.2.2.1,hr.2.2.2.1,hr.2.2.2.2.1,by have:=hr.2.2.2.2.2; omega⟩⟩
      | .yield (none,m',n',out',g',ac',bc'),hr=>exact ⟨kp4,m',n',out',g',ac',bc',rfl,hr.1,hr.2.1,hr.2.2.1,hr.2.2.2.1,hr.2.2.2.2.1,by rw[if_neg (by omega)]; have:=hr.2.2.2.2.2; omega⟩
    ·(intro c Rj q_; obtain ⟨kp3,m,n,out,g,ac,bc,rfl,M,m0,hm,n0,hn,hb⟩ := q_)
     rw[if_neg (by omega)] at hb
     exact ⟨kp3,.inr ⟨m,n,out,g,ac,bc,rfl,M,m0,hm,n0,hn,hb⟩⟩
    ·rintro c Rj ⟨kp3,hc⟩
     rcases hc with hc | hc
     ·obtain ⟨r,Fo,rfl,hr⟩:=hc
      exact Bg ⟨kp3,r,_,rfl,hr⟩
     ·obtain ⟨m,n,out,g,ac,bc,rfl,M,m0,hm,n0,hn,hb⟩:=hc
      dsimp only
      refine Az (Sb λst4 kp4=>?_)
      exact Bg ⟨kp3.trans kp4,m,n,out,_,rfl,M,m0,hm,n0,hn,by omega⟩
 ·(intro c st1 q_; obtain ⟨kp1,m,n,out,g,rfl,M,m0,hm,n0,hn,hb⟩ := q_)
  exfalso
  have : max 0 (p.size+q.size)=p.size+q.size:=by omega
  rw[this] at hb
  omega
 ·(intro c st1 q_; obtain ⟨kp1,r,Fo,rfl,hr⟩ := q_)
  exact Bg (h r st1 kp1 hr)
end
def dX:Nat->Nat->StateT Bx Sem (Option Nat):=sortPriv% PySem.Builtin.countRun
def Yh:Nat->Nat->Nat->StateT Bx Sem Bool:=sortPriv% PySem.Builtin.binarySort
def X(xs:Array Keyed)(i:Nat):Keyed:=xs[i]?.getD (Qt,Qt)
theorem Yr{xs:Array Keyed}{i:Nat}(h:i<xs.size):xs[i]? = some (X xs i):=by
 unfold X
 rw[getElem?_pos xs i h]
 rfl
theorem Py{xs ys:Array Keyed}{i j:Nat}(h:xs[i]? = ys[j]?):X xs i=X ys j:=by unfold X; rw[h]
theorem Ri{xs:Array Keyed}{i j:Nat}(hj:j<=xs.size)(k:Nat):X (mirror xs i j ((j - i) / 2)) k=if i<=k/\k<j then X xs (i+j - 1 - k) else X xs k:=by
 have e:=getElem?_mirror_all (i:=i) hj k
 by_cases h:i<=k/\k<j
 ·rw[if_pos h] at e ⊢; exact Py e
 ·rw[if_neg h] at e ⊢; exact Py e
theorem zL{xs:Array Keyed}{src d:Nat}(hs:src<xs.size)(hd:d<=src)(k:Nat):X (bubble xs src d) k=if k=src - d then X xs src else if src - d<k/\k<=src then X xs (k - 1) else X xs k:=by
 have e:=getElem?_bubble hs d hd k
 by_cases h1:k=src - d
 ·rw[if_pos h1] at e ⊢; exact Py e
 ·rw[if_neg h1] at e ⊢
  by_cases h2:src - d<k/\k<=src
  ·rw[if_pos h2] at e ⊢; exact Py e
  ·rw[if_neg h2] at e ⊢; exact Py e
def Qw(blt:Keyed->Keyed->Bool)(xs:Array Keyed)(a b:Nat):Prop:=∀i j,a<=i->i<=j->j<b->le blt (X xs i) (X xs j)
def vB(blt:Keyed->Keyed->Bool)(xs:Array Keyed)(a b:Nat):Prop:=∀i j,a<=i->i<=j->j<b->le blt (X xs j) (X xs i)
structure Good(kd:Ls)(a₀:Array Keyed)(pend:Array (Nat×Nat×Nat))(st:Bx):Prop where
 kind:kindOf st=kd
 fail:Lr st=none
 perm:(arrOf st).Perm a₀
 pd:Bd st=pend
def iY(xs ys:Array Keyed)(a b:Nat):Prop:=∀i,(i<a\/b<=i)->X ys i=X xs i
theorem iY.refl(xs:Array Keyed)(a b:Nat):iY xs xs a b:=λ_ _=>rfl
theorem iY.trans{xs ys zs:Array Keyed}{a b:Nat}(h:iY xs ys a b)(k:iY ys zs a b):iY xs zs a b:=λi hi=>(k i hi).trans (h i hi)
section
variable{prog:Bj}{w:World}{A:Cu}{s:Aj}{kd:Ls}{Ok:Keyed->Prop}{blt:Keyed->Keyed->Bool}{E:Value->Aj->Prop}{a₀:Array Keyed}{pend:Array (Nat×Nat×Nat)}
theorem Good.size{st:Bx}(g:Good kd a₀ pend st):(arrOf st).size=a₀.size:=g.perm.size_eq
theorem Good.okX{st:Bx}(g:Good kd a₀ pend st)(h0:∀x∈a₀.toList,Ok x){i:Nat}(hi:i<a₀.size):Ok (X (arrOf st) i):=by
 have e:=Yr (xs:=arrOf st) (i:=i) (by rw[g.size]; exact hi)
 exact h0 _ ((Ox.mp g.perm).mem_iff.mp (Jq e))
theorem Good.set{st:Bx}(g:Good kd a₀ pend st){xs:Array Keyed}(h:xs.Perm (arrOf st)):Good kd a₀ pend (setArr st xs):=⟨g.kind,g.fail,h.trans g.perm,g.pd⟩
theorem Vi(C:Cmp prog w A s kd Ok blt){st:Bx}(g:Good kd a₀ pend st)(h0:∀x∈a₀.toList,Ok x){i j:Nat}(hi:i<a₀.size)(hj:j<a₀.size){Q:Option Bool->Bx->Prop}(h:Q (some (blt (X (arrOf st) i) (X (arrOf st) j))) st):wpS (model prog w) A E s (ltAt' i j) Q st:=by
 rw[ltAt'_eq]
 refine Az (Ms ?_)
 refine Az (Fl (Yr (by rw[g.size]; exact hi)) ?_)
 refine Az (Fl (Yr (by rw[g.size]; exact hj)) ?_)
 exact kA C g.kind (g.okX h0 hi) (g.okX h0 hj) h
theorem Qb{st:Bx}{i j:Nat}{Q:Unit->Bx->Prop}(h:Q () (setArr st (mirror (arrOf st) i j ((j - i) / 2)))):wpS (model prog w) A E s (Sy i j) Q st:=by
 rw[reverseSlice'_eq]
 exact Js h
def BS(lo a b:Nat):StateT Bx Sem (Option (Option Nat)×Nat) :=
 forIn [a:b] ((none,a):Option (Option Nat)×Nat) λ_ c=>do
  let some jN <- ltAt' (lo+c.2) (lo+c.2 - 1) | pure (Cy (some none,c.2))
  if jN=true then pure (Cy (none,c.2)) else pure (Fp (none,c.2+1))
theorem wB(C:Cmp prog w A s kd Ok blt){st:Bx}(g:Good kd a₀ pend st)(h0:∀x∈a₀.toList,Ok x){lo a b:Nat}(hb:lo+b<=a₀.size)(ha:1<=a)(hab:a<=b)(h1:Qw blt (arrOf st) lo (lo+a)){Q:Option (Option Nat)×Nat->Bx->Prop}(h:∀n,a<=n->n<=b->Qw blt (arrOf st) lo (lo+n)->(n=b\/blt (X (arrOf st) (lo+n)) (X (arrOf st) (lo+n - 1))=true)->Q (none,n) st):wpS (model prog w) A E s (BS lo a b) Q st:=by
 unfold BS
 refine Eo (I:=λx c st'=>st'=st/\c=(none,x)/\Qw blt (arrOf st) lo (lo+x)) ?_ ?_ ⟨rfl,rfl,h1⟩
 ·(intro x c st' hx1 hx2 q_; obtain ⟨rfl,rfl,hs⟩ := q_)
  dsimp only
  refine Az (Vi C g h0 (by omega) (by omega) ?_)
  dsimp only
  cases hl:blt (X (arrOf st') (lo+x)) (X (arrOf st') (lo+x - 1)) with
  | true =>
   rw[if_pos rfl]
   exact Bg (h x hx1 (by omega) hs (.inr hl))
  | false =>
   rw[if_neg Cp]
   refine Bg ⟨rfl,rfl,λi j hi hij hj=>?_⟩
   by_cases hjx:j<lo+x
   ·exact hs i j hi hij hjx
   ·have ej:j=lo+x:=by omega
    subst ej
    by_cases hi':i=lo+x
    ·subst hi'; exact C.refl _
    ·exact C.trans (hs i (lo+x - 1) hi (by omega) (by omega)) hl
 ·(intro c st' q_; obtain ⟨rfl,rfl,hs⟩ := q_)
  rw[show max a b=b by omega] at hs ⊢
  exact h b hab (Ai _) hs (.inl rfl)
theorem mW{xs:Array Keyed}{lo n:Nat}(hn:lo+n<=xs.size)(h:vB blt xs lo (lo+n)):Qw blt (mirror xs lo (lo+n) ((lo+n - lo) / 2)) lo (lo+n):=λi j hi hij hj=>by
 rw[Ri hn,Ri hn,if_pos (by omega),if_pos (by omega)]
 exact h _ _ (by omega) (by omega) (by omega)
theorem Wo{xs:Array Keyed}{lo n b e:Nat}(hn:lo+n<=xs.size)(he:e<=lo+n)(hb:lo<=b)(h:vB blt xs lo (lo+n))(eqv:∀i j,b<=i->i<e->b<=j->j<e->le blt (X xs i) (X xs j)):vB blt (mirror xs b e ((e - b) / 2)) lo (lo+n):=λi j hi hij hj=>by
 rw[Ri (by omega),Ri (by omega)]
 by_cases h1:b<=j/\j<e
 ·rw[if_pos h1]
  by_cases h2:b<=i/\i<e
  ·rw[if_pos h2]
   exact eqv _ _ (by omega) (by omega) (by omega) (by omega)
  ·rw[if_neg h2]
   exact h _ _ hi (by omega) (by omega)
 ·rw[if_neg h1]
  by_cases h2:b<=i/\i<e
  ·rw[if_pos h2]
   exact h _ _ (by omega) (by omega) (by omega)
  ·rw[if_neg h2]
   exact h i j hi hij hj
theorem Qc{xs:Array Keyed}{a b i j:Nat}(h1:a<=i)(h2:j<=b)(h3:j<=xs.size):iY xs (mirror xs i j ((j - i) / 2)) a b:=λk hk=>by
 rw[Ri h3,if_neg (by omega)]
def i8(lo n b:Nat):StateT Bx Sem (Option Nat):=do
 Sy lo (lo+n)
 let mut m:=n
 for _ in [n:b] do
  let some jN <- ltAt' (lo+m) (lo+m - 1) | return none
  if jN then break
  m:=m+1
 return some m
theorem qK(C:Cmp prog w A s kd Ok blt){st:Bx}(g:Good kd a₀ pend st)(h0:∀x∈a₀.toList,Ok x){lo n b:Nat}(hb:lo+b<=a₀.size)(hn:1<=n)(hnb:n<=b)(h1:vB blt (arrOf st) lo (lo+n)){Q:Option Nat->Bx->Prop}(h:∀m st',Good kd a₀ pend st'->1<=m->m<=b->Qw blt (arrOf st') lo (lo+m)->iY (arrOf st) (arrOf st') lo (lo+b)->Q (some m) st'):wpS (model prog w) A E s (i8 lo n b) Q st:=by
 unfold i8
 have hsz:lo+n<=(arrOf st).size:=by rw[g.size]; omega
 refine Az (Qb ?_)
 have g':Good kd a₀ pend (setArr st (mirror (arrOf st) lo (lo+n) ((lo+n - lo) / 2))):=g.set (mirror_perm _ _ _ _)
 refine Az (wB C g' h0 hb hn hnb (mW hsz h1) λm hm1 hm2 hs _=>?_)
 exact Bg (h m _ g' (by omega) hm2 hs (Qc (Ai _) (by omega) hsz))
abbrev X2:=Option (Option Nat)×Nat×Nat
def DK(lo a b:Nat):StateT Bx Sem X2 :=
 forIn [a:b] ((none,a,0):X2) λ_ c=>do
  let some jN <- ltAt' (lo+c.2.1) (lo+c.2.1 - 1) | pure (Cy (some none,c.2.1,c.2.2))
  if jN=true then
   if c.2.2 > 0 then do
    Sy (lo+c.2.1 - (c.2.2+1)) (lo+c.2.1)
    pure (Fp (none,c.2.1+1,0))
   else pure (Fp (none,c.2.1+1,0))
  else do
   let some more <- ltAt' (lo+c.2.1 - 1) (lo+c.2.1) | pure (Cy (some none,c.2.1,c.2.2))
   if more=true then pure (Cy (none,c.2.1,c.2.2)) else pure (Fp (none,c.2.1+1,c.2.2+1))
def A9(blt:Keyed->Keyed->Bool)(xs:Array Keyed)(lo n e:Nat):Prop:=e+1<=n/\∀i j,lo+n - (e+1)<=i->i<lo+n->lo+n - (e+1)<=j->j<lo+n->le blt (X xs i) (X xs j)
theorem xG(C:Cmp prog w A s kd Ok blt){xs:Array Keyed}{lo n:Nat}(h:1<=n):A9 blt xs lo n 0:=⟨by omega,λi j i1 i2 j1 j2=>by
 have e:i=j:=by omega
 subst e
 exact C.refl _⟩
theorem Vy(C:Cmp prog w A s kd Ok blt){xs:Array Keyed}{lo n:Nat}(hn:1<=n)(h:vB blt xs lo (lo+n))(hl:le blt (X xs (lo+n)) (X xs (lo+n - 1))):vB blt xs lo (lo+(n+1)):=λi j hi hij hj=>by
 by_cases hjx:j<lo+n
 ·exact h i j hi hij hjx
 ·have ej:j=lo+n:=by omega
  subst ej
  by_cases hi':i=lo+n
  ·subst hi'; exact C.refl _
  ·exact C.trans hl (h i (lo+n - 1) hi (by omega) (by omega))
theorem J4(C:Cmp prog w A s kd Ok blt){st:Bx}(g:Good kd a₀ pend st)(h0:∀x∈a₀.toList,Ok x){lo a b:Nat}(hb:lo+b<=a₀.size)(ha:1<=a)(hab:a<=b)(h1:vB blt (arrOf st) lo (lo+a)){Q:X2->Bx->Prop}(h:∀n e st',Good kd a₀ pend st'->a<=n->n<=b->vB blt (arrOf st') lo (lo+n)->A9 blt (arrOf st') lo n e->iY (arrOf st) (arrOf st') lo (lo+b)->Q (none,n,e) st'):wpS (model prog w) A E s (DK lo a b) Q st:=by
 unfold DK
 refine Eo (I:=λx c st'=>∃e,c=(none,x,e)/\Good kd a₀ pend st'/\vB blt (arrOf st') lo (lo+x)/\A9 blt (arrOf st') lo x e/\iY (arrOf st) (arrOf st') lo (lo+b)) ?_ ?_
  ⟨0,rfl,g,h1,xG C ha,iY.refl _ _ _⟩
 ·(intro x c st' hx1 hx2 q_; obtain ⟨e,rfl,g',hs,lk,ou⟩ := q_)
  have hsz:(arrOf st').size=a₀.size:=g'.size
  dsimp only
  refine Az (Vi C g' h0 (by omega) (by omega) ?_)
  dsimp only
  cases hl:blt (X (arrOf st') (lo+x)) (X (arrOf st') (lo+x - 1)) with
  | true =>
   rw[if_pos rfl]
   have d1:=Vy C (by omega) hs (C.ofLt hl)
   have one:∀ys:Array Keyed,A9 blt ys lo (x+1) 0:=λys=>⟨by omega,λi j i1 i2 j1 j2=>by
    have : i=j:=by omega
    subst this
    exact C.refl _⟩
   by_cases he:e > 0
   ·rw[if_pos he]
    refine Az (Qb ?_)
    refine Bg ⟨0,rfl,g'.set (mirror_perm _ _ _ _),?_,one _,ou.trans (Qc (by have:=lk.1; omega) (by omega) (by omega))⟩
    exact Wo (by omega) (by omega) (by have:=lk.1; omega) d1 λi j i1 i2 j1 j2=>lk.2 i j i1 i2 j1 j2
   ·rw[if_neg he]
    exact Bg ⟨0,rfl,g',d1,one _,ou⟩
  | false =>
   rw[if_neg Cp]
   refine Az (Vi C g' h0 (by omega) (by omega) ?_)
   dsimp only
   cases hm:blt (X (arrOf st') (lo+x - 1)) (X (arrOf st') (lo+x)) with
   | true =>
    rw[if_pos rfl]
    exact Bg (h x e st' g' hx1 (by omega) hs lk ou)
   | false =>
    rw[if_neg Cp]
    refine Bg ⟨e+1,rfl,g',Vy C (by omega) hs hm,⟨by have:=lk.1; omega,λi j i1 i2 j1 j2=>?_⟩,ou⟩
    have l1:le blt (X (arrOf st') (lo+x - 1)) (X (arrOf st') (lo+x)):=hl
    have l2:le blt (X (arrOf st') (lo+x)) (X (arrOf st') (lo+x - 1)):=hm
    by_cases ei:i=lo+x
    ·by_cases ej:j=lo+x
     ·rw[ei,ej]; exact C.refl _
     ·rw[ei]
      exact C.trans l2 (lk.2 (lo+x - 1) j (by omega) (by omega) (by omega) (by omega))
    ·by_cases ej:j=lo+x
     ·rw[ej]
      exact C.trans (lk.2 i (lo+x - 1) (by omega) (by omega) (by omega) (by omega)) l1
     ·exact lk.2 i j (by omega) (by omega) (by omega) (by omega)
 ·(intro c st' q_; obtain ⟨e,rfl,g',hs,lk,ou⟩ := q_)
  rw[show max a b=b by omega] at hs lk ⊢
  exact h b e st' g' hab (Ai _) hs lk ou
def O8(lo n b:Nat):StateT Bx Sem (Option Nat):=do
 liftM (rule "list.sort.descending-run")
 let mut m:=n+1
 let mut e:=0
 for _ in [m:b] do
  let some jN <- ltAt' (lo+m) (lo+m - 1) | return none
  if jN then
   if e > 0 then Sy (lo+m - (e+1)) (lo+m)
   e:=0
  else
   let some more <- ltAt' (lo+m - 1) (lo+m) | return none
   if more then break
   e:=e+1
  m:=m+1
 if e > 0 then Sy (lo+m - (e+1)) (lo+m)
 i8 lo m b
theorem qC(C:Cmp prog w A s kd Ok blt){st:Bx}(g:Good kd a₀ pend st)(h0:∀x∈a₀.toList,Ok x){lo n b:Nat}(hb:lo+b<=a₀.size)(hnb:n+1<=b)(h1:vB blt (arrOf st) lo (lo+(n+1))){Q:Option Nat->Bx->Prop}(h:∀m st',Good kd a₀ pend st'->1<=m->m<=b->Qw blt (arrOf st') lo (lo+m)->iY (arrOf st) (arrOf st') lo (lo+b)->Q (some m) st'):wpS (model prog w) A E s (O8 lo n b) Q st:=by
 unfold O8
 refine Az (Sa ?_)
 refine Az (J4 C g h0 hb (by omega) hnb h1 λk e st1 g1 k1 k2 d1 lk ou=>?_)
 dsimp only
 have hsz:(arrOf st1).size=a₀.size:=g1.size
 by_cases he:e > 0
 ·rw[if_pos he]
  refine Az (Qb ?_)
  refine qK C (g1.set (mirror_perm _ _ _ _)) h0 hb (by omega) k2 (Wo (by omega) (by omega) (by have:=lk.1; omega) d1 λi j i1 i2 j1 j2=>lk.2 i j i1 i2 j1 j2) λm st2 g2 m1 m2 as ou2=>?_
  exact h m st2 g2 m1 m2 as ((ou.trans (Qc (by have:=lk.1; omega) (by omega) (by omega))).trans ou2)
 ·rw[if_neg he]
  exact qK C g1 h0 hb (by omega) k2 d1 λm st2 g2 m1 m2 as ou2=>h m st2 g2 m1 m2 as (ou.trans ou2)
theorem yZ(C:Cmp prog w A s kd Ok blt){st:Bx}(g:Good kd a₀ pend st)(h0:∀x∈a₀.toList,Ok x){lo b:Nat}(hb:lo+b<=a₀.size)(b1:1<=b){Q:Option Nat->Bx->Prop}(h:∀m st',Good kd a₀ pend st'->1<=m->m<=b->Qw blt (arrOf st') lo (lo+m)->iY (arrOf st) (arrOf st') lo (lo+b)->Q (some m) st'):wpS (model prog w) A E s (dX lo b) Q st:=by
 unfold dX
 have hsz:(arrOf st).size=a₀.size:=g.size
 refine Az (wB C g h0 hb (Ai _) b1 (λi j i1 i2 j1=>by
  have : i=j:=by omega
  subst this
  exact C.refl _) λn n1 n2 hs hor=>?_)
 dsimp only
 by_cases e:n=b
 ·rw[if_pos (by rw[e]; exact beq_self_eq_true _)]
  exact Bg (h n st g n1 n2 hs (iY.refl _ _ _))
 rw[if_neg (λz=>e (Dx z))]
 have hlt:blt (X (arrOf st) (lo+n)) (X (arrOf st) (lo+n - 1))=true:=hor.resolve_left e
 by_cases hg:n > 1
 ·rw[if_pos hg]
  refine Az (Vi C g h0 (by omega) (by omega) ?_)
  dsimp only
  cases hr:blt (X (arrOf st) lo) (X (arrOf st) (lo+n - 1)) with
  | true =>
   rw[if_pos rfl]
   exact Bg (h n st g n1 n2 hs (iY.refl _ _ _))
  | false =>
   rw[if_neg Cp]
   refine Az (Qb ?_)
   -- all of it are alike
   have like:∀i j,lo<=i->i<lo+n->lo<=j->j<lo+n->le blt (X (arrOf st) i) (X (arrOf st) j):=λi j i1 i2 j1 j2 =>
    C.trans (hs i (lo+n - 1) i1 (by omega) (by omega)) (C.trans hr (hs lo j (Ai _) j1 j2))
   have d1:vB blt (arrOf st) lo (lo+(n+1)):=Vy C n1 (λi j i1 i2 j1=>like j i (by omega) j1 i1 (by omega)) (C.ofLt hlt)
   exact qC C (g.set (mirror_perm _ _ _ _)) h0 hb (by omega) (Wo (by omega) (by omega) (Ai _) d1 like) λm st2 g2 m1 m2 as ou2=>h m st2 g2 m1 m2 as ((Qc (Ai _) (by omega) (by omega)).trans ou2)
 ·rw[if_neg hg]
  have en:n=1:=by omega
  subst en
  have d1:vB blt (arrOf st) lo (lo+(1+1)):=Vy C (Ai _) (λi j i1 i2 j1=>by
   have : i=j:=by omega
   subst this
   exact C.refl _) (C.ofLt hlt)
  exact qC C g h0 hb (by omega) d1 h
end
def Vk:Nat->StateT Bx Sem Bool:=sortPriv% PySem.Builtin.mergeAt
section
variable{prog:Bj}{w:World}{A:Cu}{s:Aj}{kd:Ls}{Ok:Keyed->Prop}{blt:Keyed->Keyed->Bool}{E:Value->Aj->Prop}{a₀:Array Keyed}{pend:Array (Nat×Nat×Nat)}
theorem jH{st:Bx}{i j:Nat}{Q:Unit->Bx->Prop}(h:Q () (setArr st (bubble (arrOf st) i (i - j)))):wpS (model prog w) A E s (moveDown' i j) Q st:=by
 rw[moveDown'_eq]
 exact Js h
theorem tF(C:Cmp prog w A s kd Ok blt){st:Bx}(g:Good kd a₀ pend st)(h0:∀x∈a₀.toList,Ok x){lo n ok:Nat}(hb:lo+n<=a₀.size)(h1:Qw blt (arrOf st) lo (lo+ok))(hok:ok<=n){Q:Bool->Bx->Prop}(h:∀st',Good kd a₀ pend st'->Qw blt (arrOf st') lo (lo+n)->iY (arrOf st) (arrOf st') lo (lo+n)->Q true st'):wpS (model prog w) A E s (Yh lo n ok) Q st:=by
 unfold Yh
 refine Az (Hj (Eo
  (I:=λk c st'=>c=(none,())/\Good kd a₀ pend st'/\Qw blt (arrOf st') lo (lo+k)/\iY (arrOf st) (arrOf st') lo (lo+n))
  (Q:=λc st'=>c=(none,())/\Good kd a₀ pend st'/\Qw blt (arrOf st') lo (lo+n)/\iY (arrOf st) (arrOf st') lo (lo+n)) ?_ ?_ ⟨rfl,g,?_,iY.refl _ _ _⟩) ?_)
 ·(intro k c st1 hk1 hk2 q_; obtain ⟨rfl,g1,hs,ou⟩ := q_)
  have hsz:(arrOf st1).size=a₀.size:=g1.size
  dsimp only
  refine Az (Hj (Eo
   (I:=λy c st'=>st'=st1/\∃l r,c=(none,l,r)/\l<=r/\r<=k/\r - l+y<=k/\(∀i,i<l->le blt (X (arrOf st1) (lo+i)) (X (arrOf st1) (lo+k)))/\(∀i,r<=i->i<k->blt (X (arrOf st1) (lo+k)) (X (arrOf st1) (lo+i))=true))
   (Q:=λc st'=>st'=st1/\∃l,c=(none,l,l)/\l<=k/\(∀i,i<l->le blt (X (arrOf st1) (lo+i)) (X (arrOf st1) (lo+k)))/\(∀i,l<=i->i<k->blt (X (arrOf st1) (lo+k)) (X (arrOf st1) (lo+i))=true)) ?_ ?_
   ⟨rfl,0,k,rfl,by omega,by omega,by omega,λi hi=>by omega,λi h1 h2=>by omega⟩) ?_)
  ·(intro y c st2 _ hy q_; obtain ⟨rfl,l,r,rfl,a1,a2,a3,b1,b2⟩ := q_)
   dsimp only
   by_cases hlr:l ≥ r
   ·rw[if_pos hlr]
    have e:l=r:=by omega
    subst e
    exact Bg ⟨rfl,l,rfl,a2,b1,b2⟩
   ·rw[if_neg hlr]
    refine Az (Vi C g1 h0 (by omega) (by omega) ?_)
    dsimp only
    cases hl:blt (X (arrOf st2) (lo+k)) (X (arrOf st2) (lo+(l+r) / 2)) with
    | true =>
     rw[if_pos rfl]
     exact Bg ⟨rfl,l,(l+r) / 2,rfl,by omega,by omega,by omega,b1,λi i1 i2=>C.ltLe hl (hs _ _ (by omega) (by omega) (by omega))⟩
    | false =>
     rw[if_neg Cp]
     exact Bg ⟨rfl,(l+r) / 2+1,r,rfl,by omega,a2,by omega,λi hi=>C.trans (hs _ _ (by omega) (by omega) (by omega)) hl,b2⟩
  ·(intro c st2 q_; obtain ⟨rfl,l,r,rfl,a1,a2,a3,b1,b2⟩ := q_)
   have : max 0 k=k:=by omega
   rw[this] at a3
   have e:l=r:=by omega
   subst e
   exact ⟨rfl,l,rfl,a2,b1,b2⟩
  ·(intro c st2 q_; obtain ⟨rfl,l,rfl,a2,b1,b2⟩ := q_)
   dsimp only
   refine Az (jH ?_)
   have xb:=λi=>zL (xs:=arrOf st2) (src:=lo+k) (d:=lo+k - (lo+l)) (by omega) (by omega) i
   have ed:lo+k - (lo+k - (lo+l))=lo+l:=by omega
   refine Bg ⟨rfl,g1.set (bubble_perm _ _ _),λi j i1 i2 j1=>?_,ou.trans λi hi=>?_⟩
   ·show le blt (X (bubble (arrOf st2) (lo+k) (lo+k - (lo+l))) i) (X (bubble (arrOf st2) (lo+k) (lo+k - (lo+l))) j)
    rw[xb,xb,ed]
    by_cases e1:i=lo+l
    ·rw[if_pos e1]
     by_cases e2:j=lo+l
     ·rw[if_pos e2]; exact C.refl _
     ·rw[if_neg e2]
      by_cases e3:lo+l<j/\j<=lo+k
      ·rw[if_pos e3]
       have:=b2 (j - 1 - lo) (by omega) (by omega)
       rw[show lo+(j - 1 - lo)=j - 1 by omega] at this
       exact C.ofLt this
      ·exfalso; omega
    ·rw[if_neg e1]
     by_cases e2:j=lo+l
     ·rw[if_pos e2,if_neg (by omega)]
      have:=b1 (i - lo) (by omega)
      rw[show lo+(i - lo)=i by omega] at this
      exact this
     ·rw[if_neg e2]
      by_cases e3:lo+l<i/\i<=lo+k
      ·rw[if_pos e3,if_pos (by omega)]
       exact hs _ _ (by omega) (by omega) (by omega)
      ·rw[if_neg e3]
       by_cases e4:lo+l<j/\j<=lo+k
       ·rw[if_pos e4]
        exact hs _ _ (by omega) (by omega) (by omega)
       ·rw[if_neg e4]
        exact hs _ _ (by omega) (by omega) (by omega)
   ·show X (bubble (arrOf st2) (lo+k) (lo+k - (lo+l))) i=X (arrOf st2) i
    rw[xb,ed,if_neg (by omega),if_neg (by omega)]
 ·(intro c st1 q_; obtain ⟨rfl,g1,hs,ou⟩ := q_)
  refine ⟨rfl,g1,λi j i1 i2 j1=>hs i j i1 i2 (by omega),ou⟩
 ·intro i j i1 i2 j1
  by_cases e:i=j
  ·subst e; exact C.refl _
  ·exact h1 i j i1 i2 (by omega)
 ·(intro c st1 q_; obtain ⟨rfl,g1,hs,ou⟩ := q_)
  exact Bg (h st1 g1 hs ou)
end
abbrev Nq(xs:Array Keyed)(b:Nat)(l:List (Keyed×Nat)):Array Keyed:=l.foldl (λa x=>match x with | (p,j)=>a.setIfInBounds (b+j) p) xs
theorem Zw(b:Nat):∀(l:List Keyed) (o:Nat) (xs:Array Keyed),b+o+l.length<=xs.size->(Nq xs b (l.zipIdx o)).size=xs.size/\∀i:Nat,(Nq xs b (l.zipIdx o))[i]? = if b+o<=i/\i<b+o+l.length then l[i - (b+o)]? else xs[i]?
 | [],o,xs,_=>⟨rfl,λi=>by rw[if_neg (by rw[Ji]; omega)]; rfl⟩
 | x::l,o,xs,h=>by
  rw[Ay] at h
  have ih:=Zw b l (o+1) (xs.setIfInBounds (b+o) x) (by rw[Ky]; omega)
  have e:Nq xs b ((x::l).zipIdx o)=Nq (xs.setIfInBounds (b+o) x) b (l.zipIdx (o+1)):=by
   rw[List.zipIdx_cons]
   rfl
  rw[e]
  refine ⟨ih.1.trans (Ky),λi=>?_⟩
  rw[ih.2 i,Ay]
  by_cases h1:b+(o+1)<=i/\i<b+(o+1)+l.length
  ·rw[if_pos h1,if_pos (by omega)]
   rw[show i - (b+o)=(i - (b+(o+1)))+1 by omega,mS]
  ·rw[if_neg h1]
   by_cases h2:i=b+o
   ·subst h2
    rw[if_pos (by omega),Array.getElem?_setIfInBounds_self_of_lt (by omega),Nat.sub_self]
    rfl
   ·rw[if_neg (by omega),Array.getElem?_setIfInBounds_ne (by omega)]
theorem oU{xs m:Array Keyed}{b n:Nat}(hb:b+n<=xs.size)(hn:m.size=n)(hp:m.toList.Perm ((xs.toList.drop b).take n)):(Nq xs b m.toList.zipIdx).Perm xs:=by
 have ha:=Zw b m.toList 0 xs (by rw[Ah]; omega)
 have e:(Nq xs b m.toList.zipIdx).toList=xs.toList.take b++(m.toList++xs.toList.drop (b+n)):=by
  apply Gn
  intro i
  have h1:=ha.2 i
  rw[Ah,hn] at h1
  have h2:(Nq xs b m.toList.zipIdx).toList[i]? = (Nq xs b m.toList.zipIdx)[i]?:=by simp
  rw[h2,h1]
  have lt:(xs.toList.take b).length=b:=by rw[Dg,Ah]; omega
  by_cases c1:i<b
  ·rw[if_neg (by omega),Ht (by omega),Gd c1]
   simp
  ·rw[Ey (by omega),lt]
   by_cases c2:i<b+n
   ·rw[if_pos (by omega),Ht (by rw[Ah]; omega)]
    congr 1
   ·rw[if_neg (by omega),Ey (by rw[Ah]; omega),Xo,Ah]
    rw[show b+n+(i - b - m.size)=i by omega]
    simp
 refine Array.perm_iff_toList_perm.mpr ?_
 rw[e]
 have e2:xs.toList=xs.toList.take b++((xs.toList.drop b).take n++xs.toList.drop (b+n)):=by
  conv=>lhs; rw[<- Jr b xs.toList]
  congr 1
  conv=>lhs; rw[<- Jr n (xs.toList.drop b)]
  rw[List.drop_drop]
 conv=>rhs; rw[e2]
 exact Iy _ (List.Perm.append_right _ hp)
theorem Xj{xs:Array Keyed}{a n:Nat}(h:a+n<=xs.size){i:Nat}(hi:i<n):(xs.extract a (a+n))[i]? = some (X xs (a+i)):=by
 rw[Array.getElem?_extract,if_pos (by omega)]
 exact Yr (by omega)
theorem Ro{xs:Array Keyed}{a n:Nat}(h:a+n<=xs.size):(xs.extract a (a+n)).size=n:=by
 rw[Array.size_extract]
 omega
theorem Vw{xs:Array Keyed}{a n:Nat}(h:a+n<=xs.size){x:Keyed}(hx:x∈(xs.extract a (a+n)).toList):∃i,i<n/\x=X xs (a+i):=by
 obtain ⟨i,hi,e⟩:=Gh.mp hx
 rw[Ah,Ro h] at hi
 refine ⟨i,hi,?_⟩
 have h1:=Xj h hi
 have h2:(xs.extract a (a+n)).toList[i]? = some x:=by rw[<- e,<- Be]
 rw[Es,h1] at h2
 exact (Cj h2).symm
section
variable{prog:Bj}{w:World}{A:Cu}{s:Aj}{kd:Ls}{Ok:Keyed->Prop}{blt:Keyed->Keyed->Bool}{E:Value->Aj->Prop}{a₀:Array Keyed}{pend:Array (Nat×Nat×Nat)}
theorem aF(C:Cmp prog w A s kd Ok blt){xs:Array Keyed}{a n c d:Nat}(h:a+n<=xs.size)(hs:Qw blt xs c d)(h1:c<=a)(h2:a+n<=d):(xs.extract a (a+n)).toList.Pairwise (le blt):=by
 rw[Dw]
 intro i j hi hj hij
 rw[Ah,Ro h] at hi hj
 have e1:(xs.extract a (a+n)).toList[i]? = some (X xs (a+i)):=by rw[Es]; exact Xj h hi
 have e2:(xs.extract a (a+n)).toList[j]? = some (X xs (a+j)):=by rw[Es]; exact Xj h hj
 obtain ⟨_,f1⟩:=An.mp e1
 obtain ⟨_,f2⟩:=An.mp e2
 rw[f1,f2]
 exact hs _ _ (by omega) (by omega) (by omega)
theorem mD(C:Cmp prog w A s kd Ok blt){xs:Array Keyed}{a b c:Nat}(hab:a<b)(h1:Qw blt xs a b)(h2:Qw blt xs b c)(h:le blt (X xs (b - 1)) (X xs b)):Qw blt xs a c:=λi j i1 i2 j1=>by
 by_cases e1:j<b
 ·exact h1 i j i1 i2 e1
 ·by_cases e2:b<=i
  ·exact h2 i j e2 i2 j1
  ·exact C.trans (h1 i (b - 1) i1 (by omega) (by omega)) (C.trans h (h2 b j (Ai _) (by omega) j1))
structure Good0(kd:Ls)(a₀:Array Keyed)(st:Bx):Prop where
 kind:kindOf st=kd
 fail:Lr st=none
 perm:(arrOf st).Perm a₀
theorem Good0.size{st:Bx}(g:Good0 kd a₀ st):(arrOf st).size=a₀.size:=g.perm.size_eq
theorem Good0.okX{st:Bx}(g:Good0 kd a₀ st)(h0:∀x∈a₀.toList,Ok x){i:Nat}(hi:i<a₀.size):Ok (X (arrOf st) i):=by
 have e:=Yr (xs:=arrOf st) (i:=i) (by rw[g.size]; exact hi)
 exact h0 _ ((Ox.mp g.perm).mem_iff.mp (Jq e))
theorem vD{st:Bx}(g:Good0 kd a₀ st)(h0:∀x∈a₀.toList,Ok x){b n:Nat}(h:b+n<=a₀.size):Row Ok (arrOf st) b n (λi=>X (arrOf st) (b+i)) :=
 ⟨λi hi=>Yr (by rw[g.size]; omega),λi hi=>g.okX h0 (by omega)⟩
theorem W4{st st':Bx}{Q:Unit->Bx->Prop}(h:Q () st'):wpS (model prog w) A E s (set st':StateT Bx Sem Unit) Q st:=by
 unfold wpS
 rw[StateT.run_set]
 exact Ap ⟨rfl,h⟩
theorem nP(C:Cmp prog w A s kd Ok blt){st:Bx}(g:Good0 kd a₀ st)(h0:∀x∈a₀.toList,Ok x){i sa na pa sb nb pb:Nat}(hi:(Bd st)[i]? = some (sa,na,pa))(hj:(Bd st)[i+1]? = some (sb,nb,pb))(e1:sb=sa+na)(n1:1<=na)(n2:1<=nb)(hz:sb+nb<=a₀.size)(s1:Qw blt (arrOf st) sa sb)(s2:Qw blt (arrOf st) sb (sb+nb)){Q:Bool->Bx->Prop}(h:∀st',Good0 kd a₀ st'->Bd st'=((Bd st).setIfInBounds i (sa,na+nb,pa)).eraseIdxIfInBounds (i+1)->Qw blt (arrOf st') sa (sb+nb)->iY (arrOf st) (arrOf st') sa (sb+nb)->Q true st'):wpS (model prog w) A E s (Vk i) Q st:=by
 have hsz:(arrOf st).size=a₀.size:=g.size
 unfold Vk
 refine Az (Ms ?_)
 rw[hi,hj]
 dsimp only
 refine Az (W4 ?_)
 refine Az (Fl (Yr (xs:=arrOf st) (i:=sb) (by rw[hsz]; omega)) ?_)
 show wpS (model prog w) A E s _ _ (SortSt.mk' (kindOf st) (arrOf st) (((Bd st).setIfInBounds i (sa,na+nb,pa)).eraseIdxIfInBounds (i+1)) (gallopOf st) (Lr st))
 generalize hst1:SortSt.mk' (kindOf st) (arrOf st) (((Bd st).setIfInBounds i (sa,na+nb,pa)).eraseIdxIfInBounds (i+1)) (gallopOf st) (Lr st)=st1
 have k1:kindOf st1=kd:=by rw[<- hst1]; exact g.kind
 have ar1:arrOf st1=arrOf st:=by rw[<- hst1]
 have pd1:Bd st1=((Bd st).setIfInBounds i (sa,na+nb,pa)).eraseIdxIfInBounds (i+1):=by rw[<- hst1]
 have fl1:Lr st1=none:=by rw[<- hst1]; exact g.fail
 have g1:Good0 kd a₀ st1:=⟨k1,fl1,by rw[ar1]; exact g.perm⟩
 have same:Good0 kd a₀ st1->Qw blt (arrOf st) sa (sb+nb)->Q true st1:=λgg as=>h st1 gg pd1 (by rw[ar1]; exact as) (by rw[ar1]; exact iY.refl _ _ _)
 refine Az (Nl C (hint:=0) (n:=na) (vD g h0 (b:=sa) (n:=na) (by omega)) (g.okX h0 (i:=sb) (by omega)) k1 (by omega) (λa c hac hc q1=>?_) λk kn t1 t2=>?_)
 ·simp only[Gq,Bv,if_false,Hz] at q1 ⊢
  exact C.trans (s1 _ _ (by omega) (by omega) (by omega)) q1
 dsimp only
 have f1:∀m,m<k->le blt (X (arrOf st) (sa+m)) (X (arrOf st) sb):=λm hm=>by
  have:=t1 m hm
  have z:blt (X (arrOf st) sb) (X (arrOf st) (sa+m))=false:=by simpa only [Gq,Bv,if_false,Hz] using this
  exact z
 by_cases c1:na - k=0
 ·rw[if_pos (by rw[c1]; rfl)]
  refine Bg (same g1 (mD C (by omega) s1 s2 ?_))
  have:=f1 (na - 1) (by omega)
  rw[show sa+(na - 1)=sb - 1 by omega] at this
  exact this
 rw[if_neg (λz=>c1 (Dx z))]
 have f2:blt (X (arrOf st) sb) (X (arrOf st) (sa+k))=true:=by
  have:=t2 k (Ai _) (by omega)
  simpa only [Gq,Bv,if_false,Xp] using this
 have el:sa+k+(na - k) - 1=sb - 1:=by omega
 rw[el]
 refine Az (Fl (Yr (xs:=arrOf st) (i:=sb - 1) (by rw[hsz]; omega)) ?_)
 refine Az (Nl C (hint:=nb - 1) (n:=nb) (vD g h0 (b:=sb) (n:=nb) (by omega)) (g.okX h0 (i:=sb - 1) (by omega)) k1 (by omega) (λa c hac hc q1=>?_) λl ln u1 u2=>?_)
 ·simp only[Gq,if_true] at q1 ⊢
  exact C.leLt (s2 _ _ (by omega) (by omega) (by omega)) q1
 dsimp only
 have f3:∀m,m<l->blt (X (arrOf st) (sb+m)) (X (arrOf st) (sb - 1))=true:=λm hm=>by
  have:=u1 m hm
  simpa only [Gq,if_true] using this
 have f4:∀m,l<=m->m<nb->le blt (X (arrOf st) (sb - 1)) (X (arrOf st) (sb+m)):=λm h1 h2=>by
  have:=u2 m h1 h2
  have z:blt (X (arrOf st) (sb+m)) (X (arrOf st) (sb - 1))=false:=by simpa only [Gq,if_true] using this
  exact z
 by_cases c2:l=0
 ·rw[if_pos (by rw[c2]; rfl)]
  subst c2
  exact Bg (same g1 (mD C (by omega) s1 s2 (f4 0 (Ai _) (by omega))))
 rw[if_neg (λz=>c2 (Dx z))]
 have ep:(arrOf st).extract (sa+k) sb=(arrOf st).extract (sa+k) (sa+k+(na - k)):=by rw[show sa+k+(na - k)=sb by omega]
 rw[ep]
 have hp:sa+k+(na - k)<=(arrOf st).size:=by omega
 have hq:sb+l<=(arrOf st).size:=by omega
 have T:Two Ok blt ((arrOf st).extract (sa+k) (sa+k+(na - k))) ((arrOf st).extract sb (sb+l)) (X (arrOf st) (sa+k)) (X (arrOf st) sb) (X (arrOf st) (sb - 1)):=by
  refine ⟨λx hx=>?_,λx hx=>?_,aF C hp s1 (by omega) (by omega),aF C hq s2 (by omega) (by omega),?_,?_,?_,f2,λy hy=>?_⟩
  ·obtain ⟨m,hm,rfl⟩:=Vw hp hx
   exact g.okX h0 (by omega)
  ·obtain ⟨m,hm,rfl⟩:=Vw hq hx
   exact g.okX h0 (by omega)
  ·exact Xj hp (by omega)
  ·exact Xj hq (by omega)
  ·rw[Ro hp,Xj hp (by omega),show sa+k+(na - k - 1)=sb - 1 by omega]
  ·obtain ⟨m,hm,rfl⟩:=Vw hq hy
   exact f3 m hm
 -- oP the merge
 have fin:∀(r:Array Keyed) (st2:Bx),Kept st1 st2->oT blt ((arrOf st).extract (sa+k) (sa+k+(na - k))) ((arrOf st).extract sb (sb+l)) r ->
   Q (Lr (setArr st2 (Nq (arrOf st2) (sa+k) r.toList.zipIdx))).isNone (setArr st2 (Nq (arrOf st2) (sa+k) r.toList.zipIdx)):=by
  intro r st2 kp hr
  have ar2:arrOf st2=arrOf st:=kp.arr.trans ar1
  have fl2:Lr st2=none:=kp.fail.trans fl1
  have rsz:r.size=na - k+l:=by
   have:=hr.1.length_eq
   rw[Bh,Ah,Ah,Ah,Ro hp,Ro hq] at this
   exact this
  have seg:((arrOf st).toList.drop (sa+k)).take (na - k+l)=((arrOf st).extract (sa+k) (sa+k+(na - k))).toList++((arrOf st).extract sb (sb+l)).toList:=by
   rw[Vt,Vt,List.take_add,List.drop_drop,show sa+k+(na - k)=sb by omega]
  have pa':=Zw (sa+k) r.toList 0 (arrOf st) (by rw[Ah]; omega)
  have xat:∀m,X (Nq (arrOf st) (sa+k) r.toList.zipIdx) m=if sa+k<=m/\m<sb+l then X r (m - (sa+k)) else X (arrOf st) m:=λm=>by
   have:=pa'.2 m
   rw[Ah,rsz,Nat.add_zero] at this
   by_cases hm:sa+k<=m/\m<sb+l
   ·rw[if_pos hm]
    rw[if_pos (by omega)] at this
    refine Py (this.trans ?_)
    simp
   ·rw[if_neg hm]
    rw[if_neg (by omega)] at this
    exact Py this
  -- each thing of the merged is one of the two runs'
  have from2:∀m,m<na - k+l->(∃c,sa+k<=c/\c<sb/\X r m=X (arrOf st) c)\/(∃c,sb<=c/\c<sb+l/\X r m=X (arrOf st) c):=λm hm=>by
   have hx:=Jq (Yr (xs:=r) (i:=m) (by omega))
   rcases Aw.mp (hr.1.mem_iff.mp hx) with z | z
   ·obtain ⟨c,hc,e⟩:=Vw hp z
    exact .inl ⟨sa+k+c,by omega,by omega,e⟩
   ·obtain ⟨c,hc,e⟩:=Vw hq z
    exact .inr ⟨sb+c,by omega,by omega,e⟩
  have rs:∀m n,m<=n->n<na - k+l->le blt (X r m) (X r n):=λm n hmn hn=>Ks C hr.2 hmn (El (Yr (by omega))) (El (Yr (by omega)))
  have e3:Lr (setArr st2 (Nq (arrOf st2) (sa+k) r.toList.zipIdx))=none:=fl2
  rw[e3]
  refine h _ ⟨kp.kind.trans k1,e3,?_⟩ (kp.pend.trans pd1) ?_ ?_
  ·show (Nq (arrOf st2) (sa+k) r.toList.zipIdx).Perm a₀
   rw[ar2]
   refine (oU (by omega) rsz ?_).trans g.perm
   rw[seg]
   exact hr.1
  ·show Qw blt (Nq (arrOf st2) (sa+k) r.toList.zipIdx) sa (sb+nb)
   rw[ar2]
   intro c d c1 cd d1
   rw[xat,xat]
   by_cases zc:sa+k<=c/\c<sb+l
   ·rw[if_pos zc]
    by_cases zd:sa+k<=d/\d<sb+l
    ·rw[if_pos zd]
     exact rs _ _ (by omega) (by omega)
    ·rw[if_neg zd]
     rcases from2 (c - (sa+k)) (by omega) with ⟨b,b1,b2,e⟩ | ⟨b,b1,b2,e⟩
     ·rw[e]
      refine C.trans (s1 b (sb - 1) (by omega) (by omega) (by omega)) ?_
      have:=f4 (d - sb) (by omega) (by omega)
      rw[show sb+(d - sb)=d by omega] at this
      exact this
     ·rw[e]
      exact s2 b d b1 (by omega) (by omega)
   ·rw[if_neg zc]
    by_cases zd:sa+k<=d/\d<sb+l
    ·rw[if_pos zd]
     rcases from2 (d - (sa+k)) (by omega) with ⟨b,b1,b2,e⟩ | ⟨b,b1,b2,e⟩
     ·rw[e]
      exact s1 c b c1 (by omega) b2
     ·rw[e]
      have:=f1 (c - sa) (by omega)
      rw[show sa+(c - sa)=c by omega] at this
      exact C.trans this (s2 sb b (Ai _) b1 (by omega))
    ·rw[if_neg zd]
     by_cases y1:d<sb
     ·exact s1 c d c1 cd y1
     ·by_cases y2:sb<=c
      ·exact s2 c d y2 cd d1
      ·have:=f1 (c - sa) (by omega)
       rw[show sa+(c - sa)=c by omega] at this
       exact C.trans this (s2 sb d (Ai _) (by omega) d1)
  ·show iY (arrOf st) (Nq (arrOf st2) (sa+k) r.toList.zipIdx) sa (sb+nb)
   rw[ar2]
   intro m hm
   rw[xat,if_neg (by omega)]
 by_cases c3:na - k<=l
 ·rw[if_pos c3]
  refine Az (pG C T k1 λr st2 kp hr=>?_)
  exact Az (Js (Az (Ms (Bg (fin r st2 kp hr)))))
 ·rw[if_neg c3]
  refine Az (nH C T k1 λr st2 kp hr=>?_)
  exact Az (Js (Az (Ms (Bg (fin r st2 kp hr)))))
end
def fO:StateT Bx Sem Unit:=sortPriv% PySem.Builtin.sortRuns
def Runs(blt:Keyed->Keyed->Bool)(xs:Array Keyed):List (Nat×Nat×Nat)->Nat->Nat->Prop
 | [],a,b=>a=b
 | (s,n,_)::r,a,b=>s=a/\1<=n/\Qw blt xs a (a+n)/\Runs blt xs r (a+n) b
variable{blt:Keyed->Keyed->Bool}
theorem Runs.len{xs:Array Keyed}:∀{l:List (Nat×Nat×Nat)} {a b:Nat},Runs blt xs l a b->a+l.length<=b
 | [],a,b,h=>by
  have e:a=b:=h
  rw[Ji]
  omega
 | (s,n,p)::r,a,b,h=>by
  have:=Runs.len h.2.2.2
  have:=h.2.1
  rw[Ay]
  omega
theorem Qw.out{xs ys:Array Keyed}{a b c d:Nat}(h:Qw blt xs a b)(o:iY xs ys c d)(e:b<=c\/d<=a):Qw blt ys a b:=λi j i1 i2 j1=>by
 rw[o i (by omega),o j (by omega)]
 exact h i j i1 i2 j1
theorem Runs.out{xs ys:Array Keyed}{c d:Nat}(o:iY xs ys c d):∀{l:List (Nat×Nat×Nat)} {a b:Nat},(b<=c\/d<=a)->Runs blt xs l a b->Runs blt ys l a b
 | [],_,_,_,h=>h
 | (s,n,p)::r,a,b,e,h=>by
  have hl:=Runs.len h.2.2.2
  exact ⟨h.1,h.2.1,h.2.2.1.out o (by omega),Runs.out o (by omega) h.2.2.2⟩
theorem Runs.push{xs:Array Keyed}{m q:Nat}(hm:1<=m):∀{l:List (Nat×Nat×Nat)} {a b:Nat},Runs blt xs l a b->Qw blt xs b (b+m)->Runs blt xs (l++[(b,m,q)]) a (b+m)
 | [],a,b,h,hs=>by
  have e:a=b:=h
  subst e
  exact ⟨rfl,hm,hs,rfl⟩
 | (s,n,p)::r,a,b,h,hs=>⟨h.1,h.2.1,h.2.2.1,Runs.push hm h.2.2.2 hs⟩
theorem Runs.power{xs:Array Keyed}{pw:Nat}:∀{l:List (Nat×Nat×Nat)} {a b:Nat} (k:Nat),Runs blt xs l a b->Runs blt xs (l.modify k λx=>(x.1,x.2.1,pw)) a b
 | [],_,_,k,h=>by simpa using h
 | (s,n,p)::r,a,b,0,h=>by
  rw[List.modify_zero_cons]
  exact h
 | (s,n,p)::r,a,b,k+1,h=>by
  rw[List.modify_succ_cons]
  exact ⟨h.1,h.2.1,h.2.2.1,Runs.power k h.2.2.2⟩
theorem Runs.two{xs:Array Keyed}:∀{l:List (Nat×Nat×Nat)} {a b i sa na pa sb nb pb:Nat},Runs blt xs l a b->l[i]? = some (sa,na,pa)->l[i+1]? = some (sb,nb,pb)->sb=sa+na/\1<=na/\1<=nb/\a<=sa/\sb+nb<=b/\Qw blt xs sa sb/\Qw blt xs sb (sb+nb)
 | [],_,_,_,_,_,_,_,_,_,_,h,_=>by simp at h
 | (s,n,p)::r,a,b,0,sa,na,pa,sb,nb,pb,h,h1,h2=>by
  obtain ⟨e,hn,hs,hr⟩:=h
  have q:s=sa/\n=na/\p=pa:=by simpa using h1
  obtain ⟨q1,q2,q3⟩:=q
  subst q1 q2 q3
  subst e
  cases r with
  | nil=>simp at h2
  | cons y r' =>
   obtain ⟨s',n',p'⟩:=y
   have q':s'=sb/\n'=nb/\p'=pb:=by simpa using h2
   obtain ⟨q1,q2,q3⟩:=q'
   subst q1 q2 q3
   obtain ⟨e',hn',hs',hr'⟩:=hr
   have:=Runs.len hr'
   exact ⟨e',hn,hn',Ai _,by omega,by rw[e']; exact hs,by rw[e']; exact hs'⟩
 | (s,n,p)::r,a,b,i+1,sa,na,pa,sb,nb,pb,h,h1,h2=>by
  have:=Runs.two h.2.2.2 (by simpa using h1) (by simpa using h2)
  exact ⟨this.1,this.2.1,this.2.2.1,by have:=this.2.2.2.1; have:=h.2.1; omega,this.2.2.2.2.1,this.2.2.2.2.2⟩
theorem Runs.merge{xs ys:Array Keyed}:∀{l:List (Nat×Nat×Nat)} {a b i sa na pa sb nb pb:Nat},Runs blt xs l a b->l[i]? = some (sa,na,pa)->l[i+1]? = some (sb,nb,pb)->iY xs ys sa (sb+nb)->Qw blt ys sa (sb+nb)->Runs blt ys ((l.set i (sa,na+nb,pa)).eraseIdx (i+1)) a b
 | [],_,_,_,_,_,_,_,_,_,_,h,_,_,_=>by simp at h
 | (s,n,p)::r,a,b,0,sa,na,pa,sb,nb,pb,h,h1,h2,o,as=>by
  have tw:=Runs.two h h1 h2
  obtain ⟨e,hn,hs,hr⟩:=h
  have q:s=sa/\n=na/\p=pa:=by simpa using h1
  obtain ⟨q1,q2,q3⟩:=q
  subst q1 q2 q3
  subst e
  cases r with
  | nil=>simp at h2
  | cons y r' =>
   obtain ⟨s',n',p'⟩:=y
   have q':s'=sb/\n'=nb/\p'=pb:=by simpa using h2
   obtain ⟨q1,q2,q3⟩:=q'
   subst q1 q2 q3
   obtain ⟨e',hn',hs',hr'⟩:=hr
   rw[List.set_cons_zero,Qs,List.eraseIdx_cons_zero]
   refine ⟨rfl,by omega,?_,?_⟩
   ·rw[show s+(n+n')=s'+n' by omega]
    exact as
   ·rw[show s+(n+n')=s+n+n' by omega]
    exact Runs.out o (.inr (by omega)) hr'
 | (s,n,p)::r,a,b,i+1,sa,na,pa,sb,nb,pb,h,h1,h2,o,as=>by
  have tw:=Runs.two (i:=i) h.2.2.2 (by simpa using h1) (by simpa using h2)
  rw[List.set_cons_succ,Qs]
  exact ⟨h.1,h.2.1,h.2.2.1.out o (.inl tw.2.2.2.1),Runs.merge h.2.2.2 (by simpa using h1) (by simpa using h2) o as⟩
theorem fK(P:Array (Nat×Nat×Nat))(i:Nat)(v:Nat×Nat×Nat):((P.setIfInBounds i v).eraseIdxIfInBounds (i+1)).toList=(P.toList.set i v).eraseIdx (i+1):=by
 rw[Array.toList_eraseIdxIfInBounds,fV]
section
variable{prog:Bj}{w:World}{A:Cu}{s:Aj}{kd:Ls}{Ok:Keyed->Prop}{E:Value->Aj->Prop}{a₀:Array Keyed}
theorem Ol{α:Type}{c:Prop}[Decidable c]{p q:StateT Bx Sem α}{Q:α->Bx->Prop}{st:Bx}(h1:c->wpS (model prog w) A E s p Q st)(h2:¬ c->wpS (model prog w) A E s q Q st):wpS (model prog w) A E s (if c then p else q) Q st:=by
 by_cases h:c
 ·rw[if_pos h]; exact h1 h
 ·rw[if_neg h]; exact h2 h
theorem iM(C:Cmp prog w A s kd Ok blt){st:Bx}(g:Good0 kd a₀ st)(h0:∀x∈a₀.toList,Ok x){lo i:Nat}(hlo:lo<=a₀.size)(rn:Runs blt (arrOf st) (Bd st).toList 0 lo)(hi:i+1<(Bd st).size){Q:Bool->Bx->Prop}(h:∀st',Good0 kd a₀ st'->Runs blt (arrOf st') (Bd st').toList 0 lo->(Bd st').size+1=(Bd st).size->(∀c d,lo<=c->Qw blt (arrOf st) c d->Qw blt (arrOf st') c d)->Q true st'):wpS (model prog w) A E s (Vk i) Q st:=by
 obtain ⟨⟨sa,na,pa⟩,ha⟩ : ∃x,(Bd st)[i]? = some x:=⟨(Bd st)[i],by simp⟩
 obtain ⟨⟨sb,nb,pb⟩,hb⟩ : ∃x,(Bd st)[i+1]? = some x:=⟨(Bd st)[i+1],by simp⟩
 have la:(Bd st).toList[i]? = some (sa,na,pa):=by simpa using ha
 have lb:(Bd st).toList[i+1]? = some (sb,nb,pb):=by simpa using hb
 obtain ⟨t1,t2,t3,t4,t5,t6,t7⟩:=rn.two la lb
 refine nP C g h0 ha hb t1 t2 t3 (by omega) t6 t7 λst' g' pd as ou=>?_
 refine h st' g' ?_ ?_ λc d hc hs=>hs.out ou (.inr (by omega))
 ·rw[pd,fK]
  exact rn.merge la lb ou as
 ·have : (Bd st').toList.length+1=(Bd st).toList.length:=by
   rw[pd,fK,List.length_eraseIdx,List.length_set,Ah,if_pos hi]
   omega
  simpa using this
theorem C0{st:Bx}(g:Good0 kd a₀ st):Good kd a₀ (Bd st) st:=⟨g.kind,g.fail,g.perm,rfl⟩
theorem jI{st:Bx}{p:Array (Nat×Nat×Nat)}(g:Good kd a₀ p st):Good0 kd a₀ st:=⟨g.kind,g.fail,g.perm⟩
theorem uR(C:Cmp prog w A s kd Ok blt){st:Bx}(g:Good0 kd a₀ st)(h0:∀x∈a₀.toList,Ok x)(hp:Bd st=#[])(hz:1<=a₀.size){Q:Unit->Bx->Prop}(h:∀st',Good0 kd a₀ st'->Qw blt (arrOf st') 0 a₀.size->Q () st'):wpS (model prog w) A E s fO Q st:=by
 unfold fO
 refine Az (Ms ?_)
 have hsz:(arrOf st).size=a₀.size:=g.size
 dsimp only
 rw[hsz]
 generalize (sortPriv% PySem.Builtin.minRun) a₀.size a₀.size 0=mr
 refine Az (Hj (Eo
  (I:=λx c st'=>∃lo,c=(none,lo)/\Good0 kd a₀ st'/\Runs blt (arrOf st') (Bd st').toList 0 lo/\lo<=a₀.size/\x<=lo)
  (Q:=λc st'=>c=(none,a₀.size)/\Good0 kd a₀ st'/\Runs blt (arrOf st') (Bd st').toList 0 a₀.size) ?_ ?_ ⟨0,rfl,g,by rw[hp]; exact rfl,by omega,by omega⟩) ?_)
 ·(intro x c st1 _ hx q_; obtain ⟨lo,rfl,g1,rn,hlo,hxl⟩ := q_)
  dsimp only
  by_cases hge:lo ≥ a₀.size
  ·rw[if_pos hge]
   have e:lo=a₀.size:=by omega
   subst e
   exact Bg ⟨rfl,g1,rn⟩
  rw[if_neg hge]
  refine Az (yZ C (C0 g1) h0 (lo:=lo) (b:=a₀.size - lo) (by omega) (by omega) λm st2 g2 m1 m2 as ou=>?_)
  dsimp only
  have rn2:Runs blt (arrOf st2) (Bd st2).toList 0 lo:=by
   rw[g2.pd]
   exact rn.out ou (.inl (Ai _))
  have g2':=jI g2
  clear rn g1
  refine Ol (λhmin=>?_) (λhmin=>?_)
  ·refine Az (Sa ?_)
   refine Az (tF C g2 h0 (lo:=lo) (n:=min (a₀.size - lo) mr) (ok:=m) (by omega) as (by omega) λRj g3 as3 ou3=>?_)
   refine Ol (λz=>absurd z (by decide)) (λ_=>?_)
   have n1:1<=min (a₀.size - lo) mr:=by omega
   have n2:lo+min (a₀.size - lo) mr<=a₀.size:=by omega
   have rn3:Runs blt (arrOf Rj) (Bd Rj).toList 0 lo:=by
    rw[g3.pd,<- g2.pd]
    exact rn2.out ou3 (.inl (Ai _))
   have g3':=jI g3
   generalize min (a₀.size - lo) mr=n at as3 n1 n2
   clear g2 g2' rn2 as ou ou3 g3 m1 m2 hmin
   refine Az (Ms ?_)
   cases hb:(Bd Rj).back? with
   | none =>
    dsimp only
    refine Az (Js ?_)
    refine Bg ⟨lo+n,rfl,⟨g3'.kind,g3'.fail,g3'.perm⟩,?_,n2,by omega⟩
    show Runs blt (arrOf Rj) ((Bd Rj).push (lo,n,0)).toList 0 (lo+n)
    rw[Gj]
    exact rn3.push n1 as3
   | some y =>
    obtain ⟨s1,l1,p1⟩:=y
    dsimp only
    refine Az (Hj (Eo
     (I:=λ_ c st'=>c=(none,())/\Good0 kd a₀ st'/\Runs blt (arrOf st') (Bd st').toList 0 lo/\Qw blt (arrOf st') lo (lo+n))
     (Q:=λc st'=>c=(none,())/\Good0 kd a₀ st'/\Runs blt (arrOf st') (Bd st').toList 0 lo/\Qw blt (arrOf st') lo (lo+n)) ?_ (λ_ _ z=>z) ⟨rfl,g3',rn3,as3⟩) ?_)
    ·(intro z c st4 _ _ q_; obtain ⟨rfl,g4,rn4,as4⟩ := q_)
     refine Az (Ms ?_)
     by_cases hs1:(Bd st4).size > 1
     ·rw[if_pos hs1]
      obtain ⟨⟨a1,b1,older⟩,ho⟩ : ∃x,(Bd st4)[(Bd st4).size - 2]? = some x:=⟨(Bd st4)[(Bd st4).size - 2],by simp⟩
      rw[ho]
      dsimp only
      refine Ol (λ_=>Bg ⟨rfl,g4,rn4,as4⟩) (λ_=>?_)
      refine Az (iM C g4 h0 hlo rn4 (i:=(Bd st4).size - 2) (show (Bd st4).size - 2+1<(Bd st4).size by omega) λst5 g5 rn5 _ keep=>?_)
      refine Ol (λz=>absurd z (by decide)) (λ_=>?_)
      exact Bg ⟨rfl,g5,rn5,keep _ _ (Ai _) as4⟩
     ·rw[if_neg hs1]
      exact Bg ⟨rfl,g4,rn4,as4⟩
    ·(intro c st4 q_; obtain ⟨rfl,g4,rn4,as4⟩ := q_)
     dsimp only
     refine Az (Js ?_)
     refine Az (Js ?_)
     refine Bg ⟨lo+n,rfl,⟨g4.kind,g4.fail,g4.perm⟩,?_,n2,by omega⟩
     show Runs blt (arrOf st4) (((Bd st4).modify ((Bd st4).size - 1) _).push (lo,n,0)).toList 0 (lo+n)
     rw[Gj,Array.toList_modify]
     exact (rn4.power _).push n1 as4
  ·have n2:lo+m<=a₀.size:=by omega
   refine Az (Ms ?_)
   cases hb:(Bd st2).back? with
   | none =>
    dsimp only
    refine Az (Js ?_)
    refine Bg ⟨lo+m,rfl,⟨g2'.kind,g2'.fail,g2'.perm⟩,?_,n2,by omega⟩
    show Runs blt (arrOf st2) ((Bd st2).push (lo,m,0)).toList 0 (lo+m)
    rw[Gj]
    exact rn2.push m1 as
   | some y =>
    obtain ⟨s1,l1,p1⟩:=y
    dsimp only
    refine Az (Hj (Eo
     (I:=λ_ c st'=>c=(none,())/\Good0 kd a₀ st'/\Runs blt (arrOf st') (Bd st').toList 0 lo/\Qw blt (arrOf st') lo (lo+m))
     (Q:=λc st'=>c=(none,())/\Good0 kd a₀ st'/\Runs blt (arrOf st') (Bd st').toList 0 lo/\Qw blt (arrOf st') lo (lo+m)) ?_ (λ_ _ z=>z) ⟨rfl,g2',rn2,as⟩) ?_)
    ·(intro z c st4 _ _ q_; obtain ⟨rfl,g4,rn4,as4⟩ := q_)
     refine Az (Ms ?_)
     by_cases hs1:(Bd st4).size > 1
     ·rw[if_pos hs1]
      obtain ⟨⟨a1,b1,older⟩,ho⟩ : ∃x,(Bd st4)[(Bd st4).size - 2]? = some x:=⟨(Bd st4)[(Bd st4).size - 2],by simp⟩
      rw[ho]
      dsimp only
      refine Ol (λ_=>Bg ⟨rfl,g4,rn4,as4⟩) (λ_=>?_)
      refine Az (iM C g4 h0 hlo rn4 (i:=(Bd st4).size - 2) (show (Bd st4).size - 2+1<(Bd st4).size by omega) λst5 g5 rn5 _ keep=>?_)
      refine Ol (λz=>absurd z (by decide)) (λ_=>?_)
      exact Bg ⟨rfl,g5,rn5,keep _ _ (Ai _) as4⟩
     ·rw[if_neg hs1]
      exact Bg ⟨rfl,g4,rn4,as4⟩
    ·(intro c st4 q_; obtain ⟨rfl,g4,rn4,as4⟩ := q_)
     dsimp only
     refine Az (Js ?_)
     refine Az (Js ?_)
     refine Bg ⟨lo+m,rfl,⟨g4.kind,g4.fail,g4.perm⟩,?_,n2,by omega⟩
     show Runs blt (arrOf st4) (((Bd st4).modify ((Bd st4).size - 1) _).push (lo,m,0)).toList 0 (lo+m)
     rw[Gj,Array.toList_modify]
     exact (rn4.power _).push m1 as4
 ·(intro c st1 q_; obtain ⟨lo,rfl,g1,rn,hlo,hxl⟩ := q_)
  have : max 0 a₀.size=a₀.size:=by omega
  rw[this] at hxl
  have e:lo=a₀.size:=by omega
  subst e
  exact ⟨rfl,g1,rn⟩
 ·(intro c st1 q_; obtain ⟨rfl,g1,rn⟩ := q_)
  dsimp only
  have len0:=Runs.len rn
  rw[Ah] at len0
  refine Az (Hj (Eo
   (I:=λx c st'=>c=(none,())/\Good0 kd a₀ st'/\Runs blt (arrOf st') (Bd st').toList 0 a₀.size/\((Bd st').size<=1\/(Bd st').size+x<=a₀.size))
   (Q:=λc st'=>c=(none,())/\Good0 kd a₀ st'/\Runs blt (arrOf st') (Bd st').toList 0 a₀.size/\(Bd st').size<=1) ?_ ?_ ⟨rfl,g1,rn,.inr (by omega)⟩) ?_)
  ·(intro x c st2 _ hx q_; obtain ⟨rfl,g2,rn2,hs⟩ := q_)
   refine Az (Ms ?_)
   refine Ol (λh1=>Bg ⟨rfl,g2,rn2,h1⟩) (λh1=>?_)
   have h1':¬ (Bd st2).size<=1:=h1
   generalize hB:Option.any _ _=bb
   have key:∀i,i+1<(Bd st2).size->wpS (model prog w) A E s (Vk i) (λr Rj=>r=true/\Good0 kd a₀ Rj/\Runs blt (arrOf Rj) (Bd Rj).toList 0 a₀.size/\(Bd Rj).size+1=(Bd st2).size) st2 :=
    λi hi=>iM C g2 h0 (Ai _) rn2 hi λRj g3 rn3 sz _=>⟨rfl,g3,rn3,sz⟩
   refine Az (Hj (key _ ?_) λr Rj ⟨er,g3,rn3,sz⟩=>?_)
   ·cases bb with
    | true=>show (Bd st2).size - 2 - 1+1<(Bd st2).size; omega
    | false=>show (Bd st2).size - 2+1<(Bd st2).size; omega
   subst er
   refine Ol (λz=>absurd z (by decide)) (λ_=>?_)
   exact Bg ⟨rfl,g3,rn3,.inr (by omega)⟩
  ·(intro c st2 q_; obtain ⟨rfl,g2,rn2,hs⟩ := q_)
   have : max 0 a₀.size=a₀.size:=by omega
   rw[this] at hs
   exact ⟨rfl,g2,rn2,by omega⟩
  ·(intro c st2 q_; obtain ⟨rfl,g2,rn2,hs⟩ := q_)
   dsimp only
   refine Bg (h st2 g2 ?_)
   generalize hl:(Bd st2).toList=l at rn2
   have hll:l.length<=1:=by rw[<- hl,Ah]; exact hs
   match l,rn2,hll with
   | [],rn2,_ =>
    have e:0=a₀.size:=rn2
    omega
   | [(s1,n1,p1)],rn2,_ =>
    obtain ⟨_,_,as,e⟩:=rn2
    have e':0+n1=a₀.size:=e
    rw[e'] at as
    exact as
end
end Ts
namespace Ts
open PySem PyProof.Rows L2
theorem Zs:∀l:List Int,HT.lexLt l l=false
 | []=>rfl
 | x::r=>by rw[HT.lexLt_cons,if_pos rfl]; exact Zs r
theorem cH:∀{a b c:List Int},HT.lexLt a b=true->HT.lexLt b c=true->HT.lexLt a c=true
 | [],[],_,h,_=>by rw[HT.lexLt_nil_nil] at h; cases h
 | [],_::_,[],_,h=>by rw[HT.lexLt_cons_nil] at h; cases h
 | [],_::_,_::_,_,_=>HT.lexLt_nil_cons _ _
 | _::_,[],_,h,_=>by rw[HT.lexLt_cons_nil] at h; cases h
 | _::_,_::_,[],_,h=>by rw[HT.lexLt_cons_nil] at h; cases h
 | x::a,y::b,z::c,h1,h2=>by
  rw[HT.lexLt_cons] at h1 h2 ⊢
  by_cases e1:x=y
  ·subst e1
   rw[if_pos rfl] at h1
   by_cases e2:x=z
   ·subst e2
    rw[if_pos rfl] at h2 ⊢
    exact cH h1 h2
   ·rw[if_neg e2] at h2 ⊢
    exact h2
  ·rw[if_neg e1] at h1
   have l1:x<y:=of_decide_eq_true h1
   by_cases e2:y=z
   ·subst e2
    rw[if_neg e1]
    exact h1
   ·rw[if_neg e2] at h2
    have l2:y<z:=of_decide_eq_true h2
    rw[if_neg (by omega)]
    exact decide_eq_true (by omega)
theorem rF:∀{a b:List Int},HT.lexLt a b=false->HT.lexLt b a=false->a=b
 | [],[],_,_=>rfl
 | [],_::_,h,_=>by rw[HT.lexLt_nil_cons] at h; cases h
 | _::_,[],_,h=>by rw[HT.lexLt_nil_cons] at h; cases h
 | x::a,y::b,h1,h2=>by
  rw[HT.lexLt_cons] at h1 h2
  by_cases e:x=y
  ·subst e
   rw[if_pos rfl] at h1 h2
   rw[rF h1 h2]
  ·rw[if_neg e] at h1
   rw[if_neg (Nm e)] at h2
   have l1:=of_decide_eq_false h1
   have l2:=of_decide_eq_false h2
   omega
theorem fX{a b c:List Int}(h:HT.lexLt a c=true):HT.lexLt a b=true\/HT.lexLt b c=true:=by
 cases h1:HT.lexLt a b with
 | true=>exact .inl rfl
 | false =>
  cases h2:HT.lexLt b a with
  | true=>exact .inr (cH h2 h)
  | false =>
   rw[<- rF h1 h2]
   exact .inr h
def HP(c:Addr->List Int)(x:Keyed):List Int:=match x.1 with
 | .ref a=>c a
 | _=>[]
def IG(c:Addr->List Int)(x y:Keyed):Bool:=HT.lexLt (HP c x) (HP c y)
def E8(c:Addr->List Int)(rs:List Addr)(h:Heap):Prop:=∀r∈rs,∃its:List Value,Ge its (c r)/\IsTup h r its.toArray
section
variable{prog:Bj}{w:World}{A:Cu}{E:Value->Aj->Prop}{s:Aj}{c:Addr->List Int}{rs:List Addr}
theorem uO(hH:E8 c rs s.heap)(hu:A.units<cLine){a b:Addr}(ha:a∈rs)(hb:b∈rs){Q:Bool->Aj->Prop}(h:Q (HT.lexLt (c a) (c b)) s):wpAny (model prog w) A (oneLt' true (.ref a) (.ref b)) Q E s:=by
 obtain ⟨i1,t1,⟨c1,d1,dt1,sl1⟩,g1,k1,n1,e1⟩:=hH a ha
 obtain ⟨i2,t2,⟨c2,d2,dt2,sl2⟩,g2,k2,n2,e2⟩:=hH b hb
 simp only at k1 e1 k2 e2
 subst k1 e1 k2 e2
 rw[oneLt'_eq]
 simp only[if_true]
 refine Ac (wpAny_cRoomFor hu (Ac (wpAny_callSpecialIfBound?_slot ⟨_,g1,rfl⟩ PySem.F.slot_tuple_lt ?_)))
 refine call_meets PySem.F.slot_tuple_lt ⟨_,g1,rfl⟩ PySem.F.entry_tuple_lt (PySem.F.args_tuple_lt_2 _ _) (HT.tuple_lt_ints a b _ _ n1 n2 d1 d2 sl1 sl2 (c a) (c b) (by simpa using t1) (by simpa using t2)) ⟨g1,g2,?_⟩
 exact Gw h
theorem L3(hH:E8 c rs s.heap)(hu:A.units<cLine):Cmp prog w A s oneType' (λx=>∃r∈rs,x.1=.ref r) (IG c) where
 run:=λx y Q E ⟨r,hr,ex⟩ ⟨r',hr',ey⟩ h=>by
  obtain ⟨x1,x2⟩:=x
  obtain ⟨y1,y2⟩:=y
  simp only at ex ey
  subst ex ey
  rw[keyLt'_oneType]
  exact uO hH hu hr hr' h
 irr:=λx=>Zs _
 tr:=λx y z h1 h2=>cH h1 h2
 neg:=λx y z h=>fX h
theorem Ub:∀{l:List Addr} {Q:List (Option Value)->Aj->Prop},(∀r∈l,∃its:List Value,Ge its (c r)/\IsTup s.heap r its.toArray)->(∀fs:List (Option Value),fs.length=l.length->(∀(i:Nat) (r:Addr),l[i]? = some r->∃f,fs[i]? = some f/\(f.isSome=true↔c r≠[]))->Q fs s)->wpAny (model prog w) A ((l.map Au).mapM cO) Q E s
 | [],Q,_,h=>by
  rw[Oh,List.mapM_nil]
  exact Ap (h [] rfl λi r e=>by simp at e)
 | r::l,Q,hH,h=>by
  obtain ⟨its,ti,o,g,k,n,e⟩:=hH r Aa
  rw[Ar,List.mapM_cons]
  have one:∀{R:Option Value->Aj->Prop},R its.toArray[0]? s->wpAny (model prog w) A (cO (.ref r)) R E s:=λ{R} hR=>by
   unfold cO
   refine Ac (Ld (T := "tuple") ⟨o,g,k⟩ ?_)
   rw[if_neg (by simp)]
   exact Ac (listItems_at g e (Ap hR))
  refine Ac (one (Ac (Ub (λr' hr'=>hH r' (Ae _ hr')) λfs hl hf=>Ap (h _ (by rw[Ay,Ay,hl]) λi r' er=>?_))))
  cases i with
  | zero =>
   have e':r=r':=by simpa using er
   subst e'
   refine ⟨_,rfl,?_⟩
   have hlen:=ti.length
   cases its with
   | nil =>
    cases hc:c r with
    | nil=>simp
    | cons _ _=>rw[hc] at hlen; simp at hlen
   | cons a b =>
    cases hc:c r with
    | nil=>rw[hc] at hlen; simp at hlen
    | cons _ _=>simp
  | succ i =>
   obtain ⟨f,h1,h2⟩:=hf i r' (by simpa using er)
   exact ⟨f,by simpa using h1,h2⟩
theorem dS:∀{l:List Addr} {Q:List Value->Aj->Prop},(∀r∈l,∃its:List Value,Ge its (c r)/\IsTup s.heap r its.toArray)->Q (l.map λ_=>Ep "tuple") s->wpAny (model prog w) A ((l.map Au).mapM typeOf) Q E s
 | [],Q,_,h=>by
  rw[Oh,List.mapM_nil]
  exact Ap h
 | r::l,Q,hH,h=>by
  obtain ⟨its,ti,o,g,k,n,e⟩:=hH r Aa
  rw[Ar,List.mapM_cons]
  exact Ac (Ld (T := "tuple") ⟨o,g,k⟩ (Ac (dS (λr' hr'=>hH r' (Ae _ hr')) (Ap h))))
theorem zW{r:Addr}{l:List Addr}(hH:E8 c (r::l) s.heap)(h0:c r=[]){Q:Ls->Aj->Prop}(h:Q oneType' s):wpAny (model prog w) A (keyKind' ((r::l).map Au).toArray) Q E s:=by
 rw[keyKind'_eq,Zf]
 refine Ac ?_
 show wpAny (model prog w) A (List.toArray <$> ((r::l).map Au).mapM cO) _ E s
 rw[map_eq_pure_bind]
 refine Ac (Ub hH λfs hl hf=>Ap ?_)
 obtain ⟨f,h1,h2⟩:=hf 0 r rfl
 have fn:f=none:=by
  cases f with
  | none=>rfl
  | some v=>exact absurd h0 (h2.mp rfl)
 subst fn
 have na:¬ (fs.toArray.all λx=>x.isSome)=true:=by
  intro z
  have:=Array.all_eq_true'.mp z none (by
   have:=Ax h1
   simpa using this)
  simp at this
 have n0:¬ (fs.toArray[0]?.bind id).isSome=true:=by
  rw[List.getElem?_toArray,h1]
  simp
 rw[if_neg na,if_neg n0,oneTypeOnly'_eq,Zf]
 refine Ac (Ac ?_)
 show wpAny (model prog w) A (List.toArray <$> ((r::l).map Au).mapM typeOf) _ E s
 rw[map_eq_pure_bind]
 refine Ac (dS hH (Ap ?_))
 have e0:((r::l).map λ_=>Ep "tuple").toArray[0]? = some (Ep "tuple"):=by simp
 have ea:(((r::l).map λ_=>Ep "tuple").toArray.all λx=>x == Ep "tuple")=true:=by
  simp only[List.all_toArray,List.all_map,List.all_eq_true]
  intro _ _
  rfl
 rw[e0]
 dsimp only
 rw[ea,if_pos rfl]
 exact Ap (Ap h)
end
theorem vals_refs:∀rs:List Addr,Fs (rs.map V.ref) (rs.map Au)
 | []=>.nil
 | _::l=>.cons rfl (vals_refs l)
def BF{κ:Type}(c:Addr->κ)(d0:κ)(x:Keyed):κ:=match x.1 with
 | .ref a=>c a
 | _=>d0
def HR{κ:Type}(c:Addr->κ)(d0:κ)(lt_:κ->κ->Bool)(x y:Keyed):Bool:=lt_ (BF c d0 x) (BF c d0 y)
def xP{κ:Type}(prog:Bj)(w:World)(A:Cu)(s:Aj)(rs:List Addr)(c:Addr->κ)(d0:κ)(lt_:κ->κ->Bool):Prop :=
 ∃kd,(∀(R:Ls->Aj->Prop) (E:Value->Aj->Prop),R kd s->wpAny (model prog w) A (keyKind' (rs.map Au).toArray) R E s)/\Cmp prog w A s kd (λx=>∃r∈rs,x.1=.ref r) (HR c d0 lt_)
section
variable{prog:Bj}{w:World}{A:Cu}{E:Value->Aj->Prop}{s:Aj}{κ:Type}{c:Addr->κ}{d0:κ}{lt_:κ->κ->Bool}{rs:List Addr}
theorem sort_listG{a:Addr}{n:Nat}{P:Fin->Aj->Prop}(hl:s.heap.get? a=some (Kw "list" (rs.map Au).toArray n))(hC:∀h':Heap,(∀b o,b≠a->s.heap.get? b=some o->h'.get? b=some o)->2<=rs.length->xP prog w A { s with heap:=h' } rs c d0 lt_)(hz:rs.length<=Bb)(h:∀rs':List Addr,rs'.Perm rs->rs'.Pairwise (λx y=>lt_ (c y) (c x)=false)->P (.done (.ret .none)) { s with heap:=Ux s.heap a (rs.map Au) (rs'.map Au).toArray }):wpAny (model prog w) A (Builtin.«list.sort» ⟨[.ref a],[]⟩) P E s:=by
 have lt:=Bl hl
 have hsz:(rs.map Au).toArray.size=rs.length:=by simp
 rw[list_sort_plain]
 refine Ac (listItems_at hl rfl (Ac (listUpdate_at hl rfl ?_ (by rw[hsz]; exact hz))))
 obtain ⟨ep,hl1⟩ : ∃ep,(s.heap.update a (Ki λ_=>#[])).get? a=some (Kw "list" #[] ep):=⟨_,get?_update_seq hl (λ_=>#[])⟩
 refine Ac (seqEpoch_at hl1 rfl (Ac (wpAny_newTuple (Ac (wpAny_newList (Fb ?_)) ))))
 have hl2:(((s.heap.update a (Ki λ_=>#[])).push (Kw "tuple" (rs.map Au).toArray 0)).push (Kw "list" #[] 0)).get? a=some (Kw "list" #[] ep):=by
  rw[Heap.get?_push_ne _ _ _ (by rw[size_push',Heap.size_update]; exact Da (Qm lt)),
   Heap.get?_push_ne _ _ _ (by rw[Heap.size_update]; exact Da lt)]
  exact hl1
 have kept:∀b o,b≠a->s.heap.get? b=some o->(((s.heap.update a (Ki λ_=>#[])).push (Kw "tuple" (rs.map Au).toArray 0)).push (Kw "list" #[] 0)).get? b=some o:=λb o hb e=>by
  refine Aq _ (Aq _ ?_)
  exact ((Cw s.heap a _).2 b hb).trans e
 show wpAny (model prog w) A _ P E { s with heap:=((s.heap.update a (Ki λ_=>#[])).push (Kw "tuple" (rs.map Au).toArray 0)).push (Kw "list" #[] 0) }
 dsimp only
 -- what is left oP the runs
 have fin:∀(out:Array Value) (rs':List Addr),out=(rs'.map Au).toArray->rs'.Perm rs->rs'.Pairwise (λx y=>lt_ (c y) (c x)=false) ->
   P (.done (.ret .none)) { s with heap:=Ux s.heap a (rs.map Au) out }:=λout rs' e p1 p2=>by rw[e]; exact h rs' p1 p2
 by_cases h2:(rs.map Au).toArray.size<2
 ·rw[if_pos h2,if_pos h2]
  refine Ac (Ap ?_)
  rw[StateT.run_pure]
  refine Ac (Ap (Ac (seqEpoch_at hl2 rfl (Ac (listUpdate_at hl2 rfl ?_ (by simp) ?_)))))
  ·simp only[bne_self_eq_false,Bv,if_false]
   refine Ap (fin _ rs ?_ (Le _) ?_)
   ·show Array.map (λx=>x.2) ((rs.map Au).toArray.zip (rs.map Au).toArray)=_
    apply Array.ext'
    simp [List.map_snd_zip]
   ·rw[hsz] at h2
    match rs,h2 with
    | [],_=>exact Fg
    | [_],_=>exact Eb _ _
    | _::_::_,h2=>simp only[Ay] at h2; omega
  ·show (Array.map (λx:Keyed=>x.2) ((rs.map Au).toArray.zip (rs.map Au).toArray)).size<=Bb+1
   rw[Array.size_map,Array.size_zip,hsz]
   omega
 ·rw[if_neg h2,if_neg h2]
  rw[hsz] at h2
  obtain ⟨kd,hk,C⟩:=hC (((s.heap.update a (Ki λ_=>#[])).push (Kw "tuple" (rs.map Au).toArray 0)).push (Kw "list" #[] 0)) kept (by omega)
  refine Ac (hk _ _ ?_)
  have a0:(pairsOf (rs.map Au)).size=rs.length:=by rw[pairsOf_size,Ab]
  refine Ac (Fy (uR C (a₀:=pairsOf (rs.map Au)) (st:=SortSt.mk' kd ((rs.map Au).toArray.zip (rs.map Au).toArray) #[] 7 none) (E:=E)
   (Q:=λ_ st'=>Good0 kd (pairsOf (rs.map Au)) st'/\Qw (HR c d0 lt_) (arrOf st') 0 (pairsOf (rs.map Au)).size)
   ⟨rfl,rfl,Array.Perm.refl _⟩ (λx hx=>?_) rfl (by rw[a0]; omega) λst' g as=>⟨g,as⟩) ?_ λ_ _ z=>z)
  ·rw[pairsOf_toList] at hx
   obtain ⟨_,hm⟩:=mem_zip_self hx
   obtain ⟨r,hr,e⟩:=Br.mp hm
   exact ⟨r,hr,e.symm⟩
  ·(rintro ⟨⟨⟩,st'⟩ s' q_; obtain ⟨rfl,g,as⟩ := q_)
   dsimp only
   -- the things of the new order
   have pl:(arrOf st').toList.Perm ((rs.map Au).zip (rs.map Au)):=by rw[<- pairsOf_toList]; exact Ox.mp g.perm
   have each:∀x∈(arrOf st').toList,∃r∈rs,x=(Au r,Au r):=λx hx=>by
    obtain ⟨e,hm⟩:=mem_zip_self (pl.mem_iff.mp hx)
    obtain ⟨r,hr,e2⟩:=Br.mp hm
    refine ⟨r,hr,?_⟩
    obtain ⟨x1,x2⟩:=x
    simp only at e e2
    rw[<- e,e2]
   have ex:∀l:List Keyed,(∀x∈l,∃r∈rs,x=(Au r,Au r))->∃rs':List Addr,l=rs'.map λr=>(Au r,Au r):=by
    intro l
    induction l with
    | nil=>intro _; exact ⟨[],rfl⟩
    | cons x l ih =>
     intro hx
     obtain ⟨r,_,e⟩:=hx x Aa
     obtain ⟨rs',e'⟩:=ih λy hy=>hx y (Ae _ hy)
     exact ⟨r::rs',by rw[Ar,e,e']⟩
   obtain ⟨rs',ers⟩:=ex _ each
   have zz:(rs.map Au).zip (rs.map Au)=rs.map λr=>(Au r,Au r):=by
    rw[List.zip_map',]
   rw[ers,zz] at pl
   have inj:∀x:Keyed,∃a:Addr,True:=λ_=>⟨0,trivial⟩
   have pr:rs'.Perm rs:=by
    have:=pl.map (λx:Keyed=>match x.1 with | .ref a=>a | _=>0)
    rw[Ek,Ek] at this
    simpa [Function.comp_def] using this
   have so:rs'.Pairwise (λx y=>lt_ (c y) (c x)=false):=by
    rw[Dw]
    intro i j hi hj hij
    have ls:(arrOf st').size=rs'.length:=by
     have:=congrArg Fj ers
     rw[Ah,Ab] at this
     exact this
    have xe:∀k (hk:k<rs'.length),X (arrOf st') k=(Au rs'[k],Au rs'[k]):=λk hk=>by
     have e1:=El (Yr (xs:=arrOf st') (i:=k) (by omega))
     rw[ers,Bw,Be hk] at e1
     exact (Cj e1).symm
    have:=as i j (Do _) (by omega) (by rw[a0,<- pr.length_eq]; exact hj)
    rw[xe i hi,xe j hj] at this
    exact this
   refine Ac (seqEpoch_at hl2 rfl (Ac (listUpdate_at hl2 rfl ?_ (by simp) ?_)))
   ·have fl:Lr st'=none:=g.fail
    rw[fl]
    simp only[bne_self_eq_false,Bv,if_false]
    refine Ap (fin _ rs' ?_ pr so)
    apply Array.ext'
    rw[Array.toList_map,ers,Ek]
    rfl
   ·show (Array.map (λx:Keyed=>x.2) (arrOf st')).size<=Bb+1
    rw[Array.size_map,g.size,a0]
    omega
end
section
variable{prog:Bj}{w:World}{A:Cu}{E:Value->Aj->Prop}{s:Aj}{c:Addr->List Int}{rs:List Addr}
theorem G9{b:Bool}{x y:Int}{t u:Tok}{Q:Bool->Aj->Prop}(h:Q (decide (x<y)) s):wpAny (model prog w) A (oneLt' b (.int x t) (.int y u)) Q E s:=by
 cases b with
 | true=>exact oneLt_int h
 | false=>exact PySem.W.kat_one _ _ (lt_int h)
theorem mE{b:Bool}{Q:Bool->Aj->Prop}:∀{xs ys:List Value} {ns ms:List Int} (i:Nat),Ge xs ns->Ge ys ms->Q (HT.lexLt ns ms) s->PySem.W.KatLex prog w A b (decide (xs.length<ys.length)) Q (xs.zip ys) i s
 | _,_,_,_,i,.nil,.nil,h=>h
 | _,_,_,_,i,.nil,.cons m u k,h=>h
 | _,_,_,_,i,.cons n t k,.nil,h=>h
 | _,_,_,_,i,.cons (vs:=xs) n t k,.cons (vs:=ys) m u k2,h=>by
  rw[Pd]
  refine PySem.W.kat_cons (wpAny_eqBool_int ?_)
  rw[HT.lexLt_cons] at h
  cases hnm:(n == m) with
  | true =>
   have e:n=m:=by simpa using hnm
   rw[if_pos e] at h
   refine PySem.W.kat_yes ?_
   have : decide ((Mh n t::xs).length<(Mh m u::ys).length)=decide (xs.length<ys.length):=by simp
   rw[this]
   exact mE (i+1) k k2 h
  | false =>
   have e:¬ n=m:=by simpa using hnm
   rw[if_neg e] at h
   exact PySem.W.kat_no (G9 h)
theorem bL:∀{l:List Addr},(∀r∈l,∃its:List Value,Ge its (c r)/\IsTup s.heap r its.toArray)->(∀r∈l,c r≠[])->∃fs:List Value,PySem.W.KatTups s.heap (l.map Au) fs/\fs.length=l.length/\∀v∈fs,∃i t,v=.int i t
 | [],_,_=>⟨[],.nil,rfl,λ_ h=>(nomatch h)⟩
 | r::l,hH,hn=>by
  obtain ⟨fs,h1,h2,h3⟩:=bL (λr' hr'=>hH r' (Ae _ hr')) (λr' hr'=>hn r' (Ae _ hr'))
  obtain ⟨its,ti,o,g,k,n,e⟩:=hH r Aa
  have hne:=hn r Aa
  match its,ti with
  | [],ti=>cases hc:c r with
   | nil=>exact absurd hc hne
   | cons _ _=>rw[hc] at ti; cases ti
  | v::its,ti =>
   have : ∃i t,v=.int i t:=by
    revert ti
    generalize c r=cr
    intro ti
    cases ti with
    | cons m t k=>exact ⟨_,_,rfl⟩
   refine ⟨v::fs,PySem.W.KatTups.cons g k e (by simp) h1,by rw[Ay,Ay,h2],λx hx=>?_⟩
   rcases Ao.mp hx with rfl | hx
   ·exact this
   ·exact h3 x hx
theorem kinded_ints(hH:E8 c rs s.heap)(hu:A.units<cLine)(h2:2<=rs.length):xP prog w A s rs c [] HT.lexLt:=by
 obtain ⟨r,l,rfl⟩ : ∃r l,rs=r::l:=by
  cases rs with
  | nil=>simp at h2
  | cons r l=>exact ⟨r,l,rfl⟩
 by_cases h0:c r=[]
 ·exact ⟨oneType',λR E h=>zW hH h0 h,L3 hH hu⟩
 by_cases hall:∀r'∈r::l,c r'≠[]
 ·obtain ⟨fs,f1,f2,f3⟩:=bL hH hall
  refine ⟨tuples' true,λR E h=>?_,?_⟩
  ·refine PySem.W.kat_kind (T:=.type "int") f1 (by rw[f2]; simp) (λv hv=>?_) (by decide) h
   obtain ⟨i,t,rfl⟩:=f3 v hv
   exact .now
  ·refine ⟨λx y Q E ⟨r1,hr1,ex⟩ ⟨r2,hr2,ey⟩ h=>?_,λx=>Zs _,λx y z=>cH,λx y z=>fX⟩
   obtain ⟨x1,x2⟩:=x
   obtain ⟨y1,y2⟩:=y
   simp only at ex ey
   subst ex ey
   obtain ⟨i1,t1,o1,g1,k1,n1,e1⟩:=hH r1 hr1
   obtain ⟨i2,t2,o2,g2,k2,n2,e2⟩:=hH r2 hr2
   refine PySem.W.kat_lt g1 e1 g2 e2 ?_
   have e:(decide (i1.toArray.size<i2.toArray.size))=decide (i1.length<i2.length):=by simp
   rw[e]
   exact mE 0 t1 t2 h
 ·refine ⟨general',λR E h=>?_,?_⟩
  ·rw[kat_kind_eq,Zf,map_eq_pure_bind]
   refine Ac (Ac (Ub hH λfs hl hf=>Ap ?_))
   have na:¬ (fs.toArray.all λx=>x.isSome)=true:=by
    intro z
    refine hall λr' hr'=>?_
    obtain ⟨i,hi⟩:=List.getElem?_of_mem hr'
    obtain ⟨f,q1,q2⟩:=hf i r' hi
    refine q2.mp ?_
    exact Array.all_eq_true'.mp z f (by have:=Ax q1; simpa using this)
   obtain ⟨f,q1,q2⟩:=hf 0 r rfl
   have n0:(fs.toArray[0]?.bind id).isSome=true:=by
    rw[List.getElem?_toArray,q1]
    simpa using q2.mpr h0
   rw[if_neg na,if_pos n0]
   exact Ap h
  ·refine ⟨λx y Q E ⟨r1,hr1,ex⟩ ⟨r2,hr2,ey⟩ h=>?_,λx=>Zs _,λx y z=>cH,λx y z=>fX⟩
   obtain ⟨x1,x2⟩:=x
   obtain ⟨y1,y2⟩:=y
   simp only at ex ey
   subst ex ey
   obtain ⟨i1,t1,p1⟩:=hH r1 hr1
   obtain ⟨i2,t2,p2⟩:=hH r2 hr2
   show wpAny (model prog w) A (oneLt' false (.ref r1) (.ref r2)) Q E s
   exact PySem.W.kat_one _ _ (HT.lt_tupInts p1 p2 (show Ge i1.toArray.toList (c r1) by simpa using t1) (show Ge i2.toArray.toList (c r2) by simpa using t2) hu h)
end
end Ts
namespace DL
open PySem L2 Nd
def Nt{α:Type}(xs:List α)(lo hi:Option Int):List α:=(xs.drop (HT.sIx xs.length 0 lo)).take (HT.sIx xs.length xs.length hi - HT.sIx xs.length 0 lo)
theorem jL{α β:Type}(f:α->β)(xs:List α)(lo hi:Option Int):Nt (xs.map f) lo hi=(Nt xs lo hi).map f:=by
 unfold Nt
 rw[Ab,List.map_take,List.map_drop]
theorem cE{α:Type}(xs:List α)(lo hi:Option Int):(Nt xs lo hi).Sublist xs:=(Hw _ _).trans (Hy _ _)
theorem eG{α:Type}(xs:List α)(k:Nat):Nt xs none (some (k:Int))=xs.take k:=by
 unfold Nt
 rw[HT.sIx_none,HT.sIx_nat,List.drop_zero,Zt]
 by_cases h:k<=xs.length
 ·rw[Nat.min_eq_left h]
 ·rw[Nat.min_eq_right (by omega),Kl,Gx (by omega)]
section
variable{K:PySem.W.Frag}{H:Hp}
theorem RdFs.drop:∀(n:Nat) {xs:List V} {ds:List Ad} {F:List Addr},RdFs K H xs ds F->∃G,RdFs K H (xs.drop n) (ds.drop n) G/\G.Sublist F
 | 0,_,_,F,h=>⟨F,h,Dl _⟩
 | n+1,_,_,_,.nil=>⟨[],.nil,Dl _⟩
 | n+1,_,_,_,.cons _ t=>by
  obtain ⟨G,h1,h2⟩:=RdFs.drop n t
  exact ⟨G,h1,h2.trans (Cm _ _)⟩
theorem RdFs.take:∀(n:Nat) {xs:List V} {ds:List Ad} {F:List Addr},RdFs K H xs ds F->∃G,RdFs K H (xs.take n) (ds.take n) G/\G.Sublist F
 | 0,_,_,F,h=>⟨[],.nil,List.nil_sublist _⟩
 | n+1,_,_,_,.nil=>⟨[],.nil,Dl _⟩
 | n+1,_,_,_,.cons a t=>by
  obtain ⟨G,h1,h2⟩:=RdFs.take n t
  exact ⟨_,.cons a h1,(Dl _).append h2⟩
theorem RdFs.cut{xs:List V}{ds:List Ad}{F:List Addr}(h:RdFs K H xs ds F)(lo hi:Option Int):∃G,RdFs K H (bQ xs lo hi) (Nt ds lo hi) G/\G.Sublist F:=by
 unfold bQ Nt
 rw[h.len]
 obtain ⟨G,h1,h2⟩:=h.drop (HT.sIx ds.length 0 lo)
 obtain ⟨G',h3,h4⟩:=h1.take (HT.sIx ds.length ds.length hi - HT.sIx ds.length 0 lo)
 exact ⟨G',h3,h4.trans h2⟩
theorem RdFs.ints:∀ns:List Int,RdFs K H (ns.map V.int) (ns.map Bm) []
 | []=>.nil
 | n::ns=>RdFs.cons (F:=[]) (.int n) (RdFs.ints ns)
theorem RdFs.ints_inv:∀{ns:List Int} {xs:List V} {F:List Addr},RdFs K H xs (ns.map Bm) F->xs=ns.map V.int/\F=[]
 | [],_,_,h=>by cases h; exact ⟨rfl,rfl⟩
 | n::ns,_,_,h=>by
  rw[Ar] at h
  cases h with
  | cons a t =>
   obtain ⟨rfl,rfl⟩:=a.int_inv
   obtain ⟨rfl,rfl⟩:=RdFs.ints_inv t
   exact ⟨rfl,rfl⟩
theorem RdFs.bools_inv:∀{ns:List Bool} {xs:List V} {F:List Addr},RdFs K H xs (ns.map PyData.bool) F->xs=ns.map V.bl/\F=[]
 | [],_,_,h=>by cases h; exact ⟨rfl,rfl⟩
 | n::ns,_,_,h=>by
  rw[Ar] at h
  cases h with
  | cons a t =>
   obtain ⟨rfl,rfl⟩:=a.bl_inv
   obtain ⟨rfl,rfl⟩:=RdFs.bools_inv t
   exact ⟨rfl,rfl⟩
end
theorem aY{a b:List Ad}:Eg (a++b)=(Eg a && Eg b):=by
 induction a with
 | nil=>simp [Eg]
 | cons x a ih=>simp [Eg,ih,Bool.and_assoc]
theorem Rc(ns:List Int):Eg (ns.map Bm)=true:=Um (λ_=>by simp [imm]) ns
def rH:D2:=λx y P=>match x,y with
 | .dat _ (.list ds),.dat _ (.list es)=>Eg ds=true/\Eg es=true/\ds.length+es.length<=1000000/\P (.dat .ow (.list (ds++es)))
 | _,_=>False
def hZ:D2:=λx y P=>match x,y with
 | .dat _ (.tuple ds),.dat _ (.tuple es)=>Eg ds=true/\Eg es=true/\ds.length+es.length<=1000000/\P (.dat .ow (.tuple (ds++es)))
 | _,_=>False
def HA:D2:=λx y P=>match x,y with
 | .dat _ (.list ds),.dat _ (.int k)=>Eg ds=true /\ -1000000<=k/\k<=1000000/\ds.length * k.toNat<=1000000/\P (.dat .ow (.list (Io k.toNat ds).flatten))
 | _,_=>False
section
variable{K:PySem.W.Frag}
theorem W0:iX K Y5 rH:=by
 intro H0 X n S T x y v w F G H Q P hA hd k
 unfold rH at hd
 split at hd
 ·obtain ⟨i1,i2,hz,p⟩:=hd
  obtain ⟨b,ys,G1,rfl,hb,rb,_,_⟩:=(hA.told mem_mid).list_inv
  obtain ⟨a,xs,G2,rfl,ha,ra,_,_⟩:=(hA.told Fk).list_inv
  have l1:=ra.len
  have l2:=rb.len
  refine ⟨a,b,xs,ys,rfl,rfl,ha,hb,mR (by omega),λq hq=>?_⟩
  exact k _ _ _ _ (hA.drop2.newI (ra.app rb) (by rw[aY,i1,i2]; rfl) (by rw[Bh]; exact mR (by omega)) hq .ow) p
 ·exact hd.elim
theorem p7:iX K (O7 K) hZ:=by
 intro H0 X n S T x y v w F G H Q P hA hd k
 unfold hZ at hd
 split at hd
 ·obtain ⟨i1,i2,hz,p⟩:=hd
  obtain ⟨b,ys,rfl,hb,rb,zb⟩:=(hA.told mem_mid).tup_inv
  obtain ⟨a,xs,rfl,ha,ra,za⟩:=(hA.told Fk).tup_inv
  have l1:=ra.len
  have l2:=rb.len
  obtain rfl:=ra.imm i1
  obtain rfl:=rb.imm i2
  refine ⟨a,b,xs,ys,rfl,rfl,Ur.of ha,Ur.of hb,mR (by omega),λe=>?_,λe=>?_,λq hq=>?_⟩
  ·subst e
   obtain rfl:=Gm.mp (l1.symm.trans rfl)
   exact k _ _ [] _ (hA.drop2.pushI (.tup hb zb rb)) p
  ·subst e
   obtain rfl:=Gm.mp (l2.symm.trans rfl)
   rw[Ea] at p
   exact k _ _ [] _ (hA.drop2.pushI (.tup ha za ra)) p
  ·have s1:=Ga hq (.tup (xs++ys))
   exact k _ _ [] _ ((hA.drop2.grow s1 (Ai _)).pushI (.tup Ed (by rw[Bh]; exact mR (by omega)) ((ra.app rb).kp (Kp.of s1)))) p
 ·exact hd.elim
end
section
variable{X:Cx}{a b:Expr}{da db:DE}{pos:Pos}
theorem iD(ha:Fc X a da)(hb:Fc X b db):Fc X (.BinOp a .Add b pos) (Uw rH da db):=Xr zB W0 ha hb
theorem pQ(ha:Fc X a da)(hb:Fc X b db):Fc X (.BinOp a .Add b pos) (Uw hZ da db):=Xr A6 p7 ha hb
end
abbrev DO:=DS->(Option Int->DS->Prop)->Prop
def LO(K:PySem.W.Frag)(do_:DO):TO:=λσ H Q=>∃(H0:Hp) (X:Addr->Prop) (S T:List Ent) (δ:DS) (P:Option Int->DS->Prop),vs S=σ/\Sl S δ/\At K H0 X δ.n (S++T) H/\do_ δ P /\
 ∀o δ' S' H',vs S'=σ->Sl S' δ'->At K H0 X δ'.n (S'++T) H'->P o δ'->Q o H'
abbrev AK(X:Cx)(e:Option Expr)(d:DO):Prop:=PO X e (LO X.K d)
theorem PO.imp{X:Cx}{e:Option Expr}{t t':TO}(h:PO X e t)(k:∀σ H Q,t' σ H Q->t σ H Q):PO X e t':=λpins s σ H Q I q=>h pins s σ H Q I (k σ H Q q)
def qQ:DO:=λδ P=>P none δ
def O9(de:DE):DO:=λδ P=>de δ λx δ'=>match x with
 | .dat _ (.int i)=>P (some i) δ'
 | _=>False
section
variable{X:Cx}{e:Expr}{de:DE}{lo hi:Option Expr}{dl dh:DO}{pos p2:Pos}
theorem Vf:AK X none qQ:=by
 refine PO.imp B3 λσ H Q h=>?_
 obtain ⟨H0,Y,S,T,δ,P,rfl,hS,hA,hd,k⟩:=h
 exact k _ δ S H rfl hS hA hd
theorem Vn(h:Fc X e de):AK X (some e) (O9 de):=by
 refine PO.imp (E1 h) λσ H Q h=>?_
 obtain ⟨H0,Y,S,T,δ,P,rfl,hS,hA,hd,k⟩:=h
 refine ⟨H0,Y,S,T,δ,_,rfl,hS,hA,hd,λx δ' v F S' H' e1 e2 hA' p=>?_⟩
 split at p
 ·obtain ⟨rfl,_⟩:=(hA'.told mem_mid).int_inv
  exact ⟨_,rfl,k _ δ' S' H' e1 e2 hA'.drop p⟩
 ·exact p.elim
def HE(i:Bool)(de:DE)(dl dh:DO):DE:=λδ P=>de δ λx δ1=>dl δ1 λl δ2=>dh δ2 λh δ3=>match x with
 | .dat m (.list ds)=>Xv i m (Nt ds l h) λz=>P z δ3
 | .dat m (.tuple ds)=>cK i m (Nt ds l h) λz=>P z δ3
 | _=>False
def GH(K:PySem.W.Frag):V->Option Int->Option Int->Hp->VK->Prop:=λx lo hi H Q=>T1 K x lo hi H Q\/O1 x lo hi H Q
theorem bP{i:Bool}(he:Fc X e de)(hl:AK X lo dl)(hh:AK X hi dh):Fc X (.Subscript e (.Slice lo hi none p2) pos) (HE i de dl dh):=by
 refine PE.imp (kT (r:=GH X.K) (B7.or G7) he hl hh) λσ H Q h=>?_
 obtain ⟨H0,Y,S,T,δ,P,rfl,hS,hA,hd,k⟩:=h
 refine ⟨H0,Y,S,T,δ,_,rfl,hS,hA,hd,λx δ1 v F S1 H1 e1 e2 hA1 p1=>?_⟩
 refine ⟨H0,Y,S1,⟨some v,x,F⟩::T,δ1,_,e1,e2,hA1,p1,λl δ2 S2 H2 e3 e4 hA2 p2=>?_⟩
 refine ⟨H0,Y,S2,⟨some v,x,F⟩::T,δ2,_,e3,e4,hA2,p2,λh δ3 S3 H3 e5 e6 hA3 p3=>?_⟩
 split at p3
 ·obtain ⟨a,xs,G,rfl,ha,ra,rfl,hz⟩:=(hA3.told mem_mid).list_inv
  refine .inl ⟨a,xs,rfl,Ud.of ha,λp hp=>?_⟩
  obtain ⟨G',h1,h2⟩:=ra.cut l h
  obtain ⟨z,F',hA4,p4⟩:=hA3.newL h1 (h2.trans (Di _ _)) (Ci (cE _ _ _).length_le hz) hp p3
  exact k z δ3 _ F' S3 _ e5 e6 hA4 p4
 ·obtain ⟨a,xs,rfl,ha,ra,hz⟩:=(hA3.told mem_mid).tup_inv
  refine .inr ⟨a,xs,rfl,ha,λp H' hp s1=>?_⟩
  obtain ⟨G',h1,h2⟩:=ra.cut l h
  obtain ⟨z,F',hA4,p4⟩:=(hA3.grow s1 (Ai _)).oldT (h1.kp (Kp.of s1)) h2 (Ci (cE _ _ _).length_le hz) hp p3
  exact k z δ3 _ F' S3 _ e5 e6 hA4 p4
 ·exact p3.elim
end
end DL
namespace NdS
open PySem PyProof.Rows
end NdS
namespace Nd
open PySem PySem.Spec PyProof.Rows L2 NdS
end Nd
namespace DL
open PySem L2 Nd
def EE(x:Int):List Int->List Int
 | []=>[x]
 | y::l=>if x<y then x::y::l else if x=y then y::l else y::EE x l
def S6(ns:List Int):List Int:=ns.foldr EE []
abbrev DC:=List DV->(DV->Prop)->Prop
def Tp(K:PySem.W.Frag)(r:List V->Hp->VK->Prop)(rd:DC):Prop:=∀(H0:Hp) (X:Addr->Prop) (n:Nat) (S T As:List Ent) (us:List V) (H:Hp) (Q:VK) (P:DV->Prop),
 As.map Ent.v=us.map some->At K H0 X n (S++(As++T)) H->rd (As.map Ent.x) P->(∀z u F' H',At K H0 X n (S++⟨some u,z,F'⟩::T) H'->P z->Q u H')->r us H Q
def FH(rd:DC)(da:DA):DE:=λδ P=>da δ λxs δ1=>rd xs λz=>P z δ1
section
variable{X:Cx}{x:Str}{p pos:Pos}{e:Expr}{es:List Expr}{da:DA}{id T:String}{r:List V->Hp->VK->Prop}{rd:DC}
theorem L8{K:PySem.W.Frag}(o:Tp K r rd):∀σ H Q,LE K (FH rd da) σ H Q->FU r (LA K da) σ H Q:=by
 intro σ H Q h
 obtain ⟨H0,Y,S,T,δ,P,rfl,hS,hA,hd,k⟩:=h
 refine ⟨H0,Y,S,T,δ,_,rfl,hS,hA,hd,λxs δ' As us S' H' e1 e2 ex eu hA' p=>?_⟩
 subst ex
 exact o H0 Y δ'.n S' T As us H' Q _ eu hA' p λz u F' H'' hA3 p3=>k z δ' u F' S' H'' e1 e2 hA3 p3
theorem Eh(hc:Kr X (.builtin id) r)(o:Tp X.K r rd)(hg:Gl X x)(hm:X.mg x=none)(hv:Jt x=some (.builtin id))(ha:mQ X (e::es) da)(hn:x ≠ "__name__" := by decide)(hdb:(x == ("__debug__" : Str))=false:=by decide)(he:By (e::es) X.env=(false,eval e X.env)::By es X.env:=by rfl)(hpl:(Iq pos (By es X.env)).any (·.1)=false:=by rfl):Fc X (.Call (.Name x p) (e::es) [] pos) (FH rd da) :=
 PE.imp (cG hc hg hm hv ha hn hdb he hpl) (L8 o)
theorem Iw(hc:Kr X (.type T) r)(o:Tp X.K r rd)(hg:Gl X x)(hm:X.mg x=none)(hv:Jt x=some (.type T))(ha:mQ X (e::es) da)(hn:x ≠ "__name__" := by decide)(hdb:(x == ("__debug__" : Str))=false:=by decide)(he:By (e::es) X.env=(false,eval e X.env)::By es X.env:=by rfl)(hpl:(Iq pos (By es X.env)).any (·.1)=false:=by rfl):Fc X (.Call (.Name x p) (e::es) [] pos) (FH rd da) :=
 PE.imp (Pi hc hg hm hv ha hn hdb he hpl) (L8 o)
end
theorem W5{α β:Type}{f:α->β}{l:List α}{x:β}(h:l.map f=[x]):∃a,l=[a]/\f a=x:=by
 cases l with
 | nil=>cases h
 | cons a t =>
  obtain ⟨h1,h2⟩:=Em h
  exact ⟨a,by rw[List.map_eq_nil_iff.mp h2],h1⟩
theorem CI{α β:Type}{f:α->β}{l:List α}{x y:β}(h:l.map f=[x,y]):∃a b,l=[a,b]/\f a=x/\f b=y:=by
 cases l with
 | nil=>cases h
 | cons a t =>
  obtain ⟨h1,h2⟩:=Em h
  obtain ⟨b,rfl,h3⟩:=W5 h2
  exact ⟨a,b,rfl,h1,h3⟩
theorem Je{K:PySem.W.Frag}{H0 H:Hp}{X:Addr->Prop}{n:Nat}{S T As:List Ent}{us:List V}{x:DV}(eu:As.map Ent.v=us.map some)(hA:At K H0 X n (S++(As++T)) H)(ex:As.map Ent.x=[x]):∃v F,us=[v]/\At K H0 X n (S++⟨some v,x,F⟩::T) H:=by
 obtain ⟨⟨v,y,F⟩,rfl,h1⟩:=W5 ex
 obtain ⟨u,rfl,h2⟩:=W5 eu.symm
 have h1':y=x:=h1
 have h2':some u=v:=h2
 subst h1' h2'
 exact ⟨u,F,rfl,hA⟩
theorem lJ{K:PySem.W.Frag}{H0 H:Hp}{X:Addr->Prop}{n:Nat}{S T As:List Ent}{us:List V}{x y:DV}(eu:As.map Ent.v=us.map some)(hA:At K H0 X n (S++(As++T)) H)(ex:As.map Ent.x=[x,y]):∃v F w G,us=[v,w]/\At K H0 X n (S++⟨some v,x,F⟩::⟨some w,y,G⟩::T) H:=by
 obtain ⟨⟨v,x',F⟩,⟨w,y',G⟩,rfl,h1,h2⟩:=CI ex
 obtain ⟨u,u',rfl,h3,h4⟩:=CI eu.symm
 have h1':x'=x:=h1
 have h2':y'=y:=h2
 have h3':some u=v:=h3
 have h4':some u'=w:=h4
 subst h1' h2' h3' h4'
 exact ⟨u,F,u',G,rfl,hA⟩
def jD:DC:=λxs P=>match xs with
 | [.dat _ (.list ds)]=>P (.dat .ow (.int ds.length))
 | [.dat _ (.tuple ds)]=>P (.dat .ow (.int ds.length))
 | [.dat _ (.str z)]=>z.length<=1000000/\P (.dat .ow (.int z.length))
 | _=>False
def oG(i:Bool):DC:=λxs P=>match xs with
 | [.dat m (.list ds)]=>Xv i m ds P
 | [.dat m (.tuple ds)]=>Xv i m ds P
 | _=>False
def gV(i:Bool):DC:=λxs P=>match xs with
 | [.dat m (.list ds)]=>cK i m ds P
 | [.dat m (.tuple ds)]=>P (.dat m (.tuple ds))
 | _=>False
def GD:DC:=λxs P=>match xs with
 | [.dat _ (.int i),.dat _ (.int j)]=>P (.dat .ow (.int (if j > i then j else i)))
 | _=>False
def oW:DC:=λxs P=>match xs with
 | [.dat _ (.int i),.dat _ (.int j)]=>P (.dat .ow (.int (if j<i then j else i)))
 | _=>False
def GW:DC:=λxs P=>match xs with
 | [.dat _ (.list ds)]=>∃ns:List Int,ds=ns.map Bm/\ns≠[]/\∀M∈ns,(∀x∈ns,M<=x)->P (.dat .ow (.int M))
 | _=>False
def yU:DC:=λxs P=>match xs with
 | [.dat _ (.list ds)]=>∃bs:List Bool,ds=bs.map PyData.bool/\P (.dat .ow (.bool (bs.all id)))
 | _=>False
def o6:Ad->String
 | .none => "NoneType"
 | .bool _ => "bool"
 | .int _ => "int"
 | .str _ => "str"
 | .list _ => "list"
 | .tuple _ => "tuple"
 | .dict _ => "dict"
def Us(d:Ad)(n:String):Bool:=o6 d == n || (o6 d == "bool" && n == "int")
def i5:DC:=λxs P=>match xs with
 | [.dat _ d,.val (.ty n)]=>(n = "int" \/ n = "bool" \/ n = "str" \/ n = "list" \/ n = "tuple")/\P (.dat .ow (.bool (Us d n)))
 | _=>False
def vO:DC:=λxs P=>match xs with
 | [.dat _ d]=>(∃b,b<=400/\Kk b d/\(b+12) * Hf d<=Bb)/\d.depth<=90/\P (.dat .ow (.str (bG d)))
 | _=>False
section
variable{K:PySem.W.Frag}
theorem Lv:Tp K (λxs H Q=>∃x n,xs=[x]/\AX K x H n/\Q (.int n) H) jD:=by
 intro H0 X n S T As us H Q P eu hA hd k
 unfold jD at hd
 split at hd
 ·rename_i ex
  obtain ⟨v,F,rfl,hA⟩:=Je eu hA ex
  obtain ⟨a,xs,G,rfl,ha,ra,_,_⟩:=(hA.told mem_mid).list_inv
  exact ⟨_,_,rfl,.inl ⟨xs,Ud.of ha,ra.len.symm⟩,k _ _ [] H (hA.drop.pushI (.int _)) hd⟩
 ·rename_i ex
  obtain ⟨v,F,rfl,hA⟩:=Je eu hA ex
  obtain ⟨a,xs,rfl,ha,ra,_⟩:=(hA.told mem_mid).tup_inv
  exact ⟨_,_,rfl,.inr ⟨xs,Ur.of ha,ra.len.symm⟩,k _ _ [] H (hA.drop.pushI (.int _)) hd⟩
 ·rename_i ex
  obtain ⟨v,F,rfl,hA⟩:=Je eu hA ex
  obtain ⟨rfl,_⟩:=(hA.told mem_mid).str_inv
  exact ⟨_,_,rfl,⟨mR hd.1,rfl⟩,k _ _ [] H (hA.drop.pushI (.int _)) hd.2⟩
 ·exact hd.elim
theorem r0{i:Bool}:Tp K (P3 K) (oG i):=by
 intro H0 X n S T As us H Q P eu hA hd k
 unfold oG at hd
 split at hd
 ·rename_i ex
  obtain ⟨v,F,rfl,hA⟩:=Je eu hA ex
  obtain ⟨a,xs,G,rfl,ha,ra,rfl,hz⟩:=(hA.told mem_mid).list_inv
  refine ⟨a,xs,rfl,.inl (Ud.of ha),λl hl=>?_⟩
  obtain ⟨z,F',h1,h2⟩:=hA.newL ra (Di _ _) hz hl hd
  exact k _ _ _ _ h1 h2
 ·rename_i ex
  obtain ⟨v,F,rfl,hA⟩:=Je eu hA ex
  obtain ⟨a,xs,rfl,ha,ra,hz⟩:=(hA.told mem_mid).tup_inv
  refine ⟨a,xs,rfl,.inr (Ur.of ha),λl hl=>?_⟩
  obtain ⟨z,F',h1,h2⟩:=hA.newL ra (Dl _) hz hl hd
  exact k _ _ _ _ h1 h2
 ·exact hd.elim
theorem Vh{i:Bool}:Tp K (L7 K) (gV i):=by
 intro H0 X n S T As us H Q P eu hA hd k
 unfold gV at hd
 split at hd
 ·rename_i ex
  obtain ⟨v,F,rfl,hA⟩:=Je eu hA ex
  obtain ⟨a,xs,G,rfl,ha,ra,rfl,hz⟩:=(hA.told mem_mid).list_inv
  refine ⟨a,xs,rfl,.inl ⟨Ud.of ha,λl hl=>?_⟩⟩
  obtain ⟨z,F',h1,h2⟩:=hA.newT ra (Di _ _) hz hl hd
  exact k _ _ _ _ h1 h2
 ·rename_i ex
  obtain ⟨v,F,rfl,hA⟩:=Je eu hA ex
  obtain ⟨a,xs,rfl,ha,ra,hz⟩:=(hA.told mem_mid).tup_inv
  exact ⟨a,xs,rfl,.inr ⟨Ur.of ha,k _ _ F H hA hd⟩⟩
 ·exact hd.elim
theorem u4:Tp K (λxs H Q=>∃i j,xs=[V.int i,V.int j]/\Q (.int (if j<i then j else i)) H) oW:=by
 intro H0 X n S T As us H Q P eu hA hd k
 unfold oW at hd
 split at hd
 ·rename_i ex
  obtain ⟨v,F,w,G,rfl,hA⟩:=lJ eu hA ex
  obtain ⟨rfl,_⟩:=(hA.told mem_mid).int_inv
  obtain ⟨rfl,_⟩:=(hA.told Fk).int_inv
  exact ⟨_,_,rfl,k _ _ [] H (hA.drop2.pushI (.int _)) hd⟩
 ·exact hd.elim
theorem W8:Tp K (λxs H Q=>∃(p:Addr) (bs:List Bool),xs=[.ref p]/\Ud K H p (bs.map V.bl)/\Q (.bl (bs.all id)) H) yU:=by
 intro H0 X n S T As us H Q P eu hA hd k
 unfold yU at hd
 split at hd
 ·rename_i ex
  obtain ⟨v,F,rfl,hA⟩:=Je eu hA ex
  obtain ⟨bs,rfl,h1⟩:=hd
  obtain ⟨a,xs,G,rfl,ha,ra,rfl,hz⟩:=(hA.told mem_mid).list_inv
  obtain ⟨rfl,_⟩:=ra.bools_inv
  exact ⟨a,bs,rfl,Ud.of ha,k _ _ [] H (hA.drop.pushI (.bl _)) h1⟩
 ·exact hd.elim
theorem A3{T n:String}{b:Bool}(h1:(Ep T == Ep n)=false)(h2:PySem.W.kitMeta n=true)(h3:(fastBuiltinMro T).map (λx=>x.contains (Ep n))=some b):PySem.W.kitOne K (.type T) (.type n)=some b:=V1 h1 h2 h3
theorem C5{d:Ad}{n:String}(hn:n = "int" \/ n = "bool" \/ n = "str" \/ n = "list" \/ n = "tuple"):PySem.W.kitOne K (.type (o6 d)) (.type n)=some (Us d n):=by
 have main:∀T:String,(T = "NoneType" \/ T = "bool" \/ T = "int" \/ T = "str" \/ T = "list" \/ T = "tuple" \/ T = "dict")->PySem.W.kitOne K (.type T) (.type n)=some (T == n || (T == "bool" && n == "int")):=by
  intro T hT
  rcases hT with rfl | rfl | rfl | rfl | rfl | rfl | rfl <;> rcases hn with rfl | rfl | rfl | rfl | rfl <;> first | exact Q5 | exact A3 (by decide +kernel) (by decide +kernel) (by decide +kernel)
 unfold Us
 refine main _ ?_
 cases d <;> simp [o6]
theorem Oz:Tp K (HB K) i5:=by
 intro H0 X n S T As us H Q P eu hA hd k
 unfold i5 at hd
 split at hd
 ·rename_i ex
  obtain ⟨v,F,w,G,rfl,hA⟩:=lJ eu hA ex
  have hw:w=.ty _:=Cj (hA.ok _ Fk).1
  subst hw
  have r:=hA.told mem_mid
  refine ⟨v,_,.type (o6 _),_,rfl,?_,C5 hd.1,k _ _ [] H (hA.drop2.pushI (.bl _)) hd.2⟩
  ·cases r with
   | non=>exact .non
   | bl b=>exact .bl b
   | int i=>exact .int i
   | str x=>exact .str x
   | lst h l hs=>exact .lst h
   | tup h l hs=>exact .tup h
   | dic h e hs=>exact .dT h
   | dik h e hs=>exact .dK h
   | dnm h e hs=>exact .dT h
 ·exact hd.elim
theorem aM:Tp K (BG K) vO:=by
 intro H0 X n S T As us H Q P eu hA hd k
 unfold vO at hd
 split at hd
 ·rename_i ex
  obtain ⟨v,F,rfl,hA⟩:=Je eu hA ex
  exact ⟨_,_,rfl,⟨(hA.told mem_mid).rd hd.2.1,hd.1,hd.2.1⟩,k _ _ [] H (hA.drop.pushI (.str _)) hd.2.2⟩
 ·exact hd.elim
end
def dV(v:V):DE:=λδ P=>P (.val v) δ
section
variable{X:Cx}{e:Expr}
theorem V0{v:V}(h:PE X e (tC v)):Fc X e (dV v):=by
 refine PE.imp h λσ H Q h=>?_
 obtain ⟨H0,Y,S,T,δ,P,rfl,hS,hA,hd,k⟩:=h
 exact k _ δ v [] S H rfl hS ((hA.push (e:=⟨some v,.val v,[]⟩) ⟨rfl,rfl⟩ (λf _=>⟨λ_ a ha=>(nomatch ha),λ_ a _=>Bz⟩) (λa ha=>(nomatch ha))).tomid) hd
theorem Tq{x:Str}{n:String}{pos:Pos}(hg:Gl X x)(hm:X.mg x=none)(hv:Jt x=some (.type n))(hn:x ≠ "__name__" := by decide)(hd:(x == ("__debug__" : Str))=false:=by decide):Fc X (.Name x pos) (dV (.ty n)):=V0 (F5 hg hm hv rfl hn hd)
end
end DL
namespace Nd
open PySem PySem.Spec PyProof.Rows L2
end Nd
namespace Nd
open PySem PySem.Spec PyProof.Rows L2
open AutoSeq1 (wpAny_loadPart')
end Nd
namespace DL
open PySem L2 Nd
def dB(de:DE):DT:=λδ P=>de δ λx δ'=>match x with
 | .dat _ (.bool b)=>P b δ'
 | _=>False
def O6(dt:DT):DT:=λδ P=>dt δ λb δ'=>P (!b) δ'
def HQ(dt du:DT):DT:=λδ P=>dt δ λb δ'=>match b with
 | true=>du δ' P
 | false=>P false δ'
def BY(dt du:DT):DT:=λδ P=>dt δ λb δ'=>match b with
 | true=>P true δ'
 | false=>du δ' P
def AS(de:DE):DE:=λδ P=>de δ λx δ'=>match x with
 | .dat _ (.bool b)=>P (.dat .ow (.bool (!b))) δ'
 | _=>False
def BM(da db:DE):DE:=λδ P=>da δ λx δ'=>match x with
 | .dat _ (.bool true)=>db δ' P
 | .dat _ (.bool false)=>P (.dat .ow (.bool false)) δ'
 | _=>False
def CH(de:DE):DE:=λδ P=>de δ λx δ'=>match x with
 | .dat _ (.int i)=>P (.dat .ow (.int (-i))) δ'
 | _=>False
section
variable{K:PySem.W.Frag}{de:DE}
theorem V9:∀σ H Q,LT K (dB de) σ H Q->LE K de σ H λx H'=>∃k,x=.bl k/\Q k H':=by
 intro σ H Q h
 obtain ⟨H0,Y,S,T,δ,P,rfl,hS,hA,hd,k⟩:=h
 refine ⟨H0,Y,S,T,δ,_,rfl,hS,hA,hd,λx δ1 v F S1 H1 e1 e2 hA1 p1=>?_⟩
 split at p1
 ·obtain ⟨rfl,_⟩:=(hA1.told mem_mid).bl_inv
  exact ⟨_,rfl,k _ δ1 S1 H1 e1 e2 hA1.drop p1⟩
 ·exact p1.elim
end
section
variable{X:Cx}{a b c e:Expr}{da db de:DE}{dt du:DT}{pos:Pos}{Fo:List Expr}
theorem Iz(h:Fc X e de)(he:∀whole,isTrue e X.env whole=(do let v <- whole; standAt e.pos; holding [v] (truthy v)):=by intro _; rfl):dO X e (dB de):=PT.imp (yA h he) V9
theorem Rm{op:CmpOp}{r:R2}{rd:D2}(ho:Wh X (Gi op) r)(o:iX X.K r rd)(ha:Fc X a da)(hb:Fc X b db)(hm:Fx op b=false):dO X (.Compare a [op] [b] pos) (dB (Uw rd da db)):=by
 refine PT.imp (sA ho ha hb hm) λσ H Q h=>?_
 exact op_le o _ _ _ (V9 σ H Q h)
theorem qR(ha:Fc X a da)(hb:Fc X b db):dO X (.Compare a [.Lt] [b] pos) (dB (Uw rdLt da db)):=Rm M8 (Yb λ_ _ _=>.bl _) ha hb (Mn _)
theorem P0(ha:Fc X a da)(hb:Fc X b db):dO X (.Compare a [.Gt] [b] pos) (dB (Uw rdGt da db)):=Rm DU (Yb λ_ _ _=>.bl _) ha hb (Mn _)
theorem O3(ha:Fc X a da)(hb:Fc X b db):dO X (.Compare a [.GtE] [b] pos) (dB (Uw rdGe da db)):=Rm e8 (Yb λ_ _ _=>.bl _) ha hb (Mn _)
theorem Tu(hu:X.A.units+64<cLine)(ha:Fc X a da)(hb:Fc X b db):dO X (.Compare a [.Eq] [b] pos) (dB (Uw (iV false) da db)):=Rm (vI hu) N4 ha hb (Mn _)
theorem Rf(hu:X.A.units+64<cLine)(ha:Fc X a da)(hb:Fc X b db):dO X (.Compare a [.NotEq] [b] pos) (dB (Uw (iV true) da db)):=Rm (Y3 hu) ED ha hb (Mn _)
theorem yE(hu:X.A.units+64<cLine)(ha:Fc X a da)(hb:Fc X b db)(hm:Fx .In b=false:=by with_unfolding_all rfl):dO X (.Compare a [.In] [b] pos) (dB (Uw (zM false) da db)):=Rm (wI hu) N6 ha hb hm
theorem Z3(ha:Fc X a da)(hb:Fc X b db):dO X (.Compare a [.Is] [b] pos) (dB (Uw (Yd false) da db)):=Rm AB Y7 ha hb (Mn _)
theorem qL(ha:Fc X a da)(hb:Fc X b db):dO X (.Compare a [.IsNot] [b] pos) (dB (Uw (Yd true) da db)):=Rm C2 A0 ha hb (Mn _)
theorem Ke(h:dO X a dt):dO X (.UnaryOp .Not a pos) (O6 dt):=by
 refine PT.imp (U6 h) λσ H Q h=>?_
 obtain ⟨H0,Y,S,T,δ,P,rfl,hS,hA,hd,k⟩:=h
 exact ⟨H0,Y,S,T,δ,_,rfl,hS,hA,hd,λb δ' S' H' e1 e2 hA' p=>k _ δ' S' H' e1 e2 hA' p⟩
theorem Mk(h:dO X a dt):FI X (.BoolOp .Or [a] pos) dt:=V4 h
theorem Mr(h:dO X a dt)(hb:FI X (.BoolOp .Or (b::Fo) pos) du):FI X (.BoolOp .Or (a::b::Fo) pos) (BY dt du):=by
 refine PW.imp (EJ h hb) λσ H Q h=>?_
 obtain ⟨H0,Y,S,T,δ,P,rfl,hS,hA,hd,k⟩:=h
 refine ⟨H0,Y,S,T,δ,_,rfl,hS,hA,hd,λb δ' S' H' e1 e2 hA' p=>?_⟩
 cases b with
 | true=>exact wD (k _ δ' S' H' e1 e2 hA' p)
 | false=>exact tL ⟨H0,Y,S',T,δ',P,e1,e2,hA',p,k⟩
theorem Ys(h:FI X a dt):dO X a dt:=PW.pt h
theorem Zv{op}(h:Fc X a da):Fc X (.BoolOp op [a] pos) da:=U8 h
theorem Rg(h:Fc X a da)(hb:Fc X (.BoolOp .And (b::Fo) pos) db):Fc X (.BoolOp .And (a::b::Fo) pos) (BM da db):=by
 refine PE.imp (V2 h hb) λσ H Q h=>?_
 obtain ⟨H0,Y,S,T,δ,P,rfl,hS,hA,hd,k⟩:=h
 refine ⟨H0,Y,S,T,δ,_,rfl,hS,hA,hd,λx δ1 v F S1 H1 e1 e2 hA1 p1=>?_⟩
 split at p1
 ·obtain ⟨rfl,_⟩:=(hA1.told mem_mid).bl_inv
  exact ⟨_,rfl,wD ⟨H0,Y,S1,T,δ1,P,e1,e2,hA1.drop,p1,k⟩⟩
 ·obtain ⟨rfl,_⟩:=(hA1.told mem_mid).bl_inv
  exact ⟨_,rfl,tL (k _ δ1 _ [] S1 H1 e1 e2 (hA1.drop.pushI (.bl _)) p1)⟩
 ·exact p1.elim
theorem R1(h:Fc X a da):Fc X (.UnaryOp .Not a pos) (AS da):=by
 refine PE.imp (X5 h) λσ H Q h=>?_
 obtain ⟨H0,Y,S,T,δ,P,rfl,hS,hA,hd,k⟩:=h
 refine ⟨H0,Y,S,T,δ,_,rfl,hS,hA,hd,λx δ1 v F S1 H1 e1 e2 hA1 p1=>?_⟩
 split at p1
 ·obtain ⟨rfl,_⟩:=(hA1.told mem_mid).bl_inv
  exact ⟨_,rfl,k _ δ1 _ [] S1 H1 e1 e2 (hA1.drop.pushI (.bl _)) p1⟩
 ·exact p1.elim
theorem T4(h:Fc X a da):Fc X (.UnaryOp .USub a pos) (CH da):=by
 refine PE.imp (CZ Z5 h) λσ H Q h=>?_
 obtain ⟨H0,Y,S,T,δ,P,rfl,hS,hA,hd,k⟩:=h
 refine ⟨H0,Y,S,T,δ,_,rfl,hS,hA,hd,λx δ1 v F S1 H1 e1 e2 hA1 p1=>?_⟩
 split at p1
 ·obtain ⟨rfl,_⟩:=(hA1.told mem_mid).int_inv
  exact ⟨_,rfl,k _ δ1 _ [] S1 H1 e1 e2 (hA1.drop.pushI (.int _)) p1⟩
 ·exact p1.elim
end
theorem PS.impD{X:Cx}{st:Stmt}{t t':TS}(h:PS X st t)(k:∀D σ H,t' D σ H->t D σ H):PS X st t':=λpins s σ H D I q=>h pins s σ H D I (k D σ H q)
theorem pJ.impD{X:Cx}{st:List Stmt}{t t':TS}(h:pJ X st t)(k:∀D σ H,t' D σ H->t D σ H):pJ X st t':=λpins s σ H D I q=>h pins s σ H D I (k D σ H q)
def M5:DB:=λD δ=>D.nx δ
def CS(t u:DB):DB:=λD δ=>t { D with nx:=λδ'=>u D δ' } δ
def CO(de:DE):DB:=λD δ=>de δ D.rt
def HJ(dt:DT)(t u:DB):DB:=λD δ=>dt δ λb δ'=>match b with
 | true=>t D δ'
 | false=>u D δ'
def oS(de:DE)(dg:DG):DB:=λD δ=>de δ λx δ'=>dg x δ' D.nx
def AD:DB:=λ_ _=>False
section
variable{X:Cx}{st:Stmt}{e tg c:Expr}{t u:DB}{Fo:List Stmt}{de:DE}{dg:DG}{dt:DT}{pos:Pos}
theorem Gb:Ug X [] M5:=by
 refine pJ.impD Zn λD σ H h=>?_
 obtain ⟨H0,Y,S,T,δ,P,rfl,hS,hT,hA,hd,k1,k2,k3,k4⟩:=h
 exact k1 δ S H hS hA hd
theorem Cc(h1:gO X st t)(h2:Ug X Fo u):Ug X (st::Fo) (CS t u):=by
 refine pJ.impD (Lf h1 h2) λD σ H h=>?_
 obtain ⟨H0,Y,S,T,δ,P,rfl,hS,hT,hA,hd,k1,k2,k3,k4⟩:=h
 exact ⟨H0,Y,S,T,δ,_,rfl,hS,hT,hA,hd,λδ' S' H' e2 hA' p=>⟨H0,Y,S',T,δ',P,rfl,e2,hT,hA',p,k1,k2,k3,k4⟩,k2,k3,k4⟩
theorem Cr(h1:gO X st t):Ug X [st] t:=Sk h1
theorem Ds(he:Fc X e de):gO X (.Return (some e) pos) (CO de):=by
 refine PS.impD (aH he) λD σ H h=>?_
 obtain ⟨H0,Y,S,T,δ,P,rfl,hS,hT,hA,hd,k1,k2,k3,k4⟩:=h
 exact ⟨H0,Y,S,T,δ,_,rfl,hS,hA,hd,λx δ' v F S' H' e1 e2 hA' p=>k2 x δ' v F S' H' e2 hA' p⟩
theorem Ib{a b:List Stmt}(hc:dO X c dt)(ha:Ug X a t)(hb:Ug X b u):gO X (.If c a b pos) (HJ dt t u):=by
 refine PS.impD (rD hc ha hb) λD σ H h=>?_
 obtain ⟨H0,Y,S,T,δ,P,rfl,hS,hT,hA,hd,k1,k2,k3,k4⟩:=h
 refine ⟨H0,Y,S,T,δ,_,rfl,hS,hA,hd,λb δ' S' H' e1 e2 hA' p=>?_⟩
 cases b with
 | true=>exact wD ⟨H0,Y,S',T,δ',P,e1,e2,hT,hA',p,k1,k2,k3,k4⟩
 | false=>exact tL ⟨H0,Y,S',T,δ',P,e1,e2,hT,hA',p,k1,k2,k3,k4⟩
theorem bX{K:PySem.W.Frag}{te:TE}{g:TG}(h1:∀σ H Q,LE K de σ H Q->te σ H Q)(h2:∀v σ H Q,LG K dg v σ H Q->g v σ H Q):∀D σ H,LS K (oS de dg) D σ H->yO te g D σ H:=by
 intro D σ H h
 obtain ⟨H0,Y,S,T,δ,P,rfl,hS,hT,hA,hd,k1,k2,k3,k4⟩:=h
 refine h1 _ _ _ ⟨H0,Y,S,T,δ,_,rfl,hS,hA,hd,λx δ' v F S' H' e1 e2 hA' p=>?_⟩
 exact h2 _ _ _ _ ⟨H0,Y,S',T,δ',x,F,P.nx,e1,e2,hA',p,λδ2 S2 H2 e3 hA2 q=>k1 δ2 S2 H2 e3 hA2 q⟩
theorem yT(he:Fc X e de)(hg:CM X tg dg)(hs:swapsWithSole [tg] e pos.line X.env=pure false:=by rfl)(hw:swappedStores [tg] e X.env=pure none:=by rfl)(h1:(Ju [tg] X.env).map (·.2)=[Qq tg X.env]:=by rfl):gO X (.Assign [tg] e pos) (oS de dg):=PS.impD (pD he hg hs hw h1) (bX (λ_ _ _ h=>h) λ_ _ _ _ h=>h)
theorem vW:gO X st AD:=by
 refine PS.impD xS λD σ H h=>?_
 obtain ⟨H0,Y,S,T,δ,P,rfl,hS,hT,hA,hd,_⟩:=h
 exact hd
end
def Qf(i:Nat):DG:=λx δ P=>match x with
 | .dat .pk _=>False
 | .dat _ d=>P ⟨δ.sl.set i (.dat .sh d),δ.n⟩
 | .val v=>P ⟨δ.sl.set i (.val v),δ.n⟩
 | .drw=>P ⟨δ.sl.set i .drw,δ.n⟩
 | .dT kvs=>P ⟨δ.sl.set i (.dT kvs),δ.n⟩
 | _=>False
def jU(i:Nat):DG:=λx δ P=>match x with
 | .dat .ow d=>P ⟨δ.sl.set i (.dat .ow d),δ.n⟩
 | .dat .tp d=>P ⟨δ.sl.set i (.dat .tp d),δ.n⟩
 | _=>False
theorem At.store{K:PySem.W.Frag}{H0 H:Hp}{X:Addr->Prop}{n:Nat}{S T:List Ent}{e:Ent}{i:Nat}(h:At K H0 X n (S++e::T) H):At K H0 X n (S.set i e++T) H:=by
 by_cases hi:i<S.length
 ·have hx:S[i]? = some S[i]:=by simp [hi]
  have p:(S++e::T).Perm (S[i]::(S.set i e++T)):=by
   refine Hb.trans ?_
   rw[<- Hd,<- Hd]
   exact (Vd hx).append_right T
  exact (h.perm p).sub (Di _ _)
 ·rw[mP (by omega)]
  exact h.drop
theorem aR{S:List Ent}{i:Nat}{v:V}{x:DV}{F:List Addr}:vs (S.set i ⟨some v,x,F⟩)=(vs S).set i (some v):=by
 unfold vs
 rw[Hx]
theorem bO{S:List Ent}{δ:DS}{i n:Nat}{v:V}{x:DV}{F:List Addr}(h:Sl S δ):Sl (S.set i ⟨some v,x,F⟩) ⟨δ.sl.set i x,n⟩:=by
 unfold Sl at h ⊢
 rw[Hx,h]
theorem gU{K:PySem.W.Frag}{i:Nat}:∀v σ H Q,LG K (Qf i) v σ H Q->Tn i v σ H Q:=by
 intro v σ H Q h
 obtain ⟨H0,Y,S,T,δ,x,F,P,rfl,hS,hA,hd,k⟩:=h
 show Q ((vs S).set i (some v)) H
 have fin:∀y,At K H0 Y δ.n (S++⟨some v,y,F⟩::T) H->P ⟨δ.sl.set i y,δ.n⟩->Q ((vs S).set i (some v)) H:=λy hA' p=>by
  rw[<- aR (x:=y) (F:=F)]
  exact k _ _ H (bO hS) hA'.store p
 unfold Qf at hd
 split at hd
 ·exact hd.elim
 ·rename_i m d hm
  refine fin _ ?_ hd
  refine (hA.mid.wk ?_).tomid
  cases m <;> first | rfl | exact (hm rfl).elim
 ·exact fin _ hA hd
 ·exact fin _ hA hd
 ·exact fin _ hA hd
 ·exact hd.elim
theorem zN{K:PySem.W.Frag}{i:Nat}:∀v σ H Q,LG K (jU i) v σ H Q->Tn i v σ H Q:=by
 intro v σ H Q h
 obtain ⟨H0,Y,S,T,δ,x,F,P,rfl,hS,hA,hd,k⟩:=h
 show Q ((vs S).set i (some v)) H
 have fin:∀y,At K H0 Y δ.n (S++⟨some v,y,F⟩::T) H->P ⟨δ.sl.set i y,δ.n⟩->Q ((vs S).set i (some v)) H:=λy hA' p=>by
  rw[<- aR (x:=y) (F:=F)]
  exact k _ _ H (bO hS) hA'.store p
 unfold jU at hd
 split at hd
 ·exact fin _ hA hd
 ·exact fin _ hA hd
 ·exact hd.elim
section
variable{X:Cx}{pos:Pos}
theorem Gp{i:Nat}{x:Str}(hN:X.N.Nodup)(hi:X.N[i]? = some x)(hx:Loc X.env.scope x)(hf:X.fn x=true\/X.env.scope.names.lookup x=some .local:=by first | exact .inl rfl | exact .inr rfl | assumption):CM X (.Name x pos) (Qf i):=PG.imp (Ot hN hi hx hf) gU
theorem Fw{i:Nat}{x:Str}{e:Expr}{de:DE}{pos':Pos}(hN:X.N.Nodup)(hi:X.N[i]? = some x)(hx:Loc X.env.scope x)(he:Fc X e de)(hs:Kf e (some (.Name x pos')) pos.line X.env=pure false:=by rfl)(hf:X.fn x=true\/X.env.scope.names.lookup x=some .local:=by first | exact .inl rfl | exact .inr rfl | assumption):gO X (.Assign [.Name x pos'] e pos) (oS de (Qf i)):=PS.impD (Xk hN hi hx he hs hf) (bX (λ_ _ _ h=>h) gU)
theorem Ry{i:Nat}{x:Str}{e:Expr}{de:DE}{pos':Pos}(hN:X.N.Nodup)(hi:X.N[i]? = some x)(hx:Loc X.env.scope x)(he:Fc X e de)(hs:Kf e (some (.Name x pos')) pos.line X.env=pure false:=by rfl)(hf:X.fn x=true\/X.env.scope.names.lookup x=some .local:=by first | exact .inl rfl | exact .inr rfl | assumption):gO X (.Assign [.Name x pos'] e pos) (oS de (jU i)):=PS.impD (Xk hN hi hx he hs hf) (bX (λ_ _ _ h=>h) zN)
end
def wF:zC:=λxs δ P=>match xs with
 | []=>P δ
 | _=>False
def rB(g:DG)(gs:zC):zC:=λxs δ P=>match xs with
 | x::r=>g x δ λδ'=>gs r δ' P
 | []=>False
def qU(n:Nat)(gs:zC):DG:=λx δ P=>match x with
 | .dat m (.tuple ds)=>ds.length=n/\gs (ds.map λd=>.dat (Nu m) d) δ P
 | _=>False
theorem At.unpack{K:PySem.W.Frag}{H0 H:Hp}{X:Addr->Prop}{n:Nat}{m:Md}:∀{us:List V} {ds:List Ad} {F:List Addr} {E:List Ent},RdFs K H us ds F->(m=.ow->F.Nodup)->(∀f∈E,Vb ⟨none,.dat (Nu m) .none,F⟩ f)->(∀a∈cells ⟨none,.dat (Nu m) .none,F⟩,H0 a=none)->At K H0 X n E H->∃As:List Ent,As.map Ent.v=us.map some/\As.map Ent.x=ds.map (λd=>.dat (Nu m) d)/\(∀e∈As,∀a∈e.F,a∈F)/\At K H0 X n (As++E) H
 | _,_,_,_,.nil,_,_,_,h=>⟨[],rfl,rfl,λ_ z=>(nomatch z),h⟩
 | _,_,_,E,.cons (x:=x) (d:=d) (F:=F1) (G:=G1) a t,hn,hs,hnew,h=>by
  have cs:∀{G:List Addr} {u:Option V} {d':Ad},(∀b∈G,b∈F1++G1)->∀b∈cells ⟨u,.dat (Nu m) d',G⟩,b∈cells ⟨none,.dat (Nu m) .none,F1++G1⟩:=λ{G u d'} hG b hb=>by
   cases m with
   | ow=>exact hG b hb
   | _=>exact nomatch hb
  have sub:∀{G:List Addr} {u:Option V} {d':Ad} {f:Ent},(∀b∈G,b∈F1++G1)->Vb ⟨none,.dat (Nu m) .none,F1++G1⟩ f->Vb ⟨u,.dat (Nu m) d',G⟩ f:=λ{G u d' f} hG q=>by
   refine ⟨λhp b hb=>q.1 ?_ b (cs hG b hb),λhp b hb z=>q.2 ?_ b hb (hG b z)⟩
   ·rcases hp with hp | hp
    ·exact .inl hp
    ·cases hp
   ·rcases hp with hp | hp
    ·refine .inl ?_
     cases m <;> exact hp
    ·exact .inr hp
  obtain ⟨As,h1,h2,h3,h4⟩:=At.unpack (m:=m) t (λz=>(Gk.mp (hn z)).2.1) (λf hf=>sub (λb hb=>Ag _ hb) (hs f hf)) (λb hb=>hnew b (cs (λb hb=>Ag _ hb) b hb)) h
  refine ⟨⟨some x,.dat (Nu m) d,F1⟩::As,by rw[Ar,Ar,h1],by rw[Ar,Ar,h2],λe he b hb=>?_,?_⟩
  ·rcases Ao.mp he with rfl | he
   ·exact Al _ hb
   ·exact Ag _ (h3 e he b hb)
  ·refine h4.push ⟨x,rfl,a,λz=>?_,λz=>?_⟩ (λf hf=>?_) λb hb=>.inl (hnew b (cs (λb hb=>Al _ hb) b hb))
   ·cases m with
    | ow=>exact (Gk.mp (hn rfl)).1
    | _=>cases z
   ·cases m <;> cases z
   ·rcases Aw.mp hf with hf | hf
    ·have hx:f.x∈As.map Ent.x:=Br.mpr ⟨f,hf,rfl⟩
     rw[h2] at hx
     obtain ⟨d',_,ed⟩:=Br.mp hx
     refine ⟨λhp b hb z=>?_,λhp b hb z=>?_⟩
     ·cases m with
      | ow=>exact (Gk.mp (hn rfl)).2.2 b hb b (h3 f hf b z) rfl
      | _=>exact nomatch hb
     ·cases m with
      | ow=>exact (Gk.mp (hn rfl)).2.2 b z b (h3 f hf b (Fm _ _ hb)) rfl
      | _ =>
       unfold cells at hb
       rw[<- ed] at hb
       exact nomatch hb
    ·exact sub (λb hb=>Al _ hb) (hs f hf)
section
variable{X:Cx}{pos:Pos}
theorem Zl:u9 X [] wF:=by
 refine R4.imp pO λus σ H Q h=>?_
 obtain ⟨H0,Y,S,T,As,δ,P,rfl,hS,eu,hA,hd,k⟩:=h
 match As,hA,hd,eu with
 | [],hA,hd,eu =>
  cases us with
  | nil=>exact ⟨rfl,k δ S H hS hA hd⟩
  | cons _ _=>cases eu
 | _::_,hA,hd,eu=>exact hd.elim
theorem Lh{e:Expr}{es:List Expr}{g:DG}{gs:zC}(h1:CM X e g)(h2:u9 X es gs)(hs:(Ju (e::es) X.env).map (·.2)=Qq e X.env::(Ju es X.env).map (·.2):=by rfl):u9 X (e::es) (rB g gs):=by
 refine R4.imp (aT h1 h2 hs) λus σ H Q h=>?_
 obtain ⟨H0,Y,S,T,As,δ,P,rfl,hS,eu,hA,hd,k⟩:=h
 match As,hA,hd,eu with
 | [],hA,hd,eu=>exact hd.elim
 | ⟨v,x,F⟩::As,hA,hd,eu =>
  cases us with
  | nil=>cases eu
  | cons u us =>
   rw[Ar,Ar] at eu
   obtain ⟨e1,e2⟩:=Em eu
   have e1':v=some u:=e1
   subst e1'
   refine ⟨u,us,rfl,H0,Y,S,As++T,δ,x,F,_,rfl,hS,hA,hd,λδ' S' H' e3 hA' p=>?_⟩
   exact ⟨H0,Y,S',T,As,δ',P,rfl,e3,e2,hA',p,k⟩
theorem gQ{es:List Expr}{kk:Nat}{gs:zC}{n:Nat}(hc:X.calm=true)(h:u9 X es gs)(hn:(Ju es X.env).length=n:=by rfl)(hst:(Ju es X.env).findIdx? (·.1)=none:=by rfl):CM X (.Tuple es kk pos) (qU n gs):=by
 refine PG.imp (wY hc h hn hst) λv σ H Q h=>?_
 obtain ⟨H0,Y,S,T,δ,x,F,P,rfl,hS,hA,hd,k⟩:=h
 unfold qU at hd
 split at hd
 ·rename_i m ds
  obtain ⟨a,xs,rfl,ha,ra,hz⟩:=(hA.told mem_mid).tup_inv
  have hm:=hA.mid
  have hp:=Bc.mp hm.sep
  obtain ⟨w,_,_,hnd,_⟩:=hm.ok _ Aa
  have cs:∀b∈cells ⟨none,.dat (Nu m) .none,F⟩,b∈cells ⟨some (.ref a),.dat m (.tuple ds),F⟩:=λb hb=>by
   cases m with
   | ow=>exact hb
   | _=>exact nomatch hb
  obtain ⟨As,h1,h2,h3,h4⟩:=At.unpack (m:=m) (E:=S++T) ra hnd (λf hf=>by
   refine ⟨λhq b hb=>(hp.1 f hf).1 ?_ b (cs b hb),λhq b hb=>(hp.1 f hf).2 ?_ b hb⟩
   ·rcases hq with hq | hq
    ·exact .inl hq
    ·cases hq
   ·rcases hq with hq | hq
    ·refine .inl ?_
     cases m <;> first | rfl | exact hq
    ·exact .inr hq) (λb hb=>by
   rcases hm.new _ Aa b (cs b hb) with z | z
   ·exact z
   ·cases z.2) hA.drop
  refine ⟨a,xs,rfl,Ur.of ha,by rw[ra.len]; exact hd.1,H0,Y,S,T,As,δ,P,rfl,hS,h1,h4.perm ?_,by rw[h2]; exact hd.2,k⟩
  rw[<- Cb,<- Cb]
  exact Fe.append_right T
 ·exact hd.elim
end
theorem nU{K:PySem.W.Frag}{H0 H:Hp}{X:Addr->Prop}{n:Nat}{E:List Ent}(h:At K H0 X n E H):∀{e f:Ent},e∈E->f∈E->e=f\/Vb e f:=by
 have main:∀{E:List Ent},E.Pairwise Vb->∀{e f:Ent},e∈E->f∈E->e=f\/Vb e f:=by
  intro E
  induction E with
  | nil=>intro _ e f he; cases he
  | cons g E ih =>
   intro hp e f he hf
   have hc:=Bc.mp hp
   rcases Ao.mp he with he | he
   ·subst he
    rcases Ao.mp hf with hf | hf
    ·exact .inl hf.symm
    ·exact .inr (hc.1 f hf)
   ·rcases Ao.mp hf with hf | hf
    ·rw[hf]
     exact .inr (hc.1 e he).symm
    ·exact ih hc.2 he hf
 intro e f he hf
 exact main h.sep he hf
abbrev DI:=DS->(Md->List Ad->DS->Prop)->Prop
structure IterOk(K:PySem.W.Frag)(J:It)(hid:List Ent)(m:Md)(ds:List Ad):Prop where
 md:m=.sh\/m=.pk
 hd:∀e∈hid,cells e=[]
 np:m=.sh->∀e∈hid,Og e.x=false
 go:∀H n i,(∀e∈hid,Hi K H n e)->i<ds.length->J.go i H
 yld:∀H n i x H',(∀e∈hid,Hi K H n e)->i<ds.length->J.yld i H x H'->Yy H H'/\∃d F,ds[i]? = some d/\RdF K H' x d F/\∀a∈F,∃e∈hid,a∈e.F
 stop:∀H n,(∀e∈hid,Hi K H n e)->J.stop ds.length H
def LI(K:PySem.W.Frag)(di:DI):TI:=λσ H R=>∃(H0:Hp) (X:Addr->Prop) (S T:List Ent) (δ:DS) (P:Md->List Ad->DS->Prop),vs S=σ/\Sl S δ/\At K H0 X δ.n (S++T) H/\di δ P /\
 ∀m ds δ' J hid S' H',vs S'=σ->Sl S' δ'->At K H0 X δ'.n (S'++(hid++T)) H'->IterOk K J hid m ds->ds.length<=Bb->P m ds δ'->R J H'
abbrev xU(X:Cx)(tg iter:Expr)(di:DI):Prop:=PI X tg iter (LI X.K di)
theorem PI.imp{X:Cx}{tg e:Expr}{t t':TI}(h:PI X tg e t)(k:∀σ H Q,t' σ H Q->t σ H Q):PI X tg e t':=λpins s σ H Q I q=>h pins s σ H Q I (k σ H Q q)
def La:Md->Md
 | .pk=>.pk
 | _=>.sh
theorem iA(m:Md):wk m (La m)=true:=by cases m <;> rfl
theorem At.item{K:PySem.W.Frag}{H0 H H':Hp}{X:Addr->Prop}{n:Nat}{S T hid:List Ent}{m:Md}{v:V}{d:Ad}{F:List Addr}(h:At K H0 X n (S++(hid++T)) H)(s:Yy H H')(r:RdF K H' v d F)(hF:∀a∈F,∃e∈hid,a∈e.F)(md:m=.sh\/m=.pk)(hh:∀e∈hid,cells e=[])(np:m=.sh->∀e∈hid,Og e.x=false):At K H0 X n (S++⟨some v,.dat m d,F⟩::(hid++T)) H':=by
 have h1:=h.grow (n':=n) s (Ai _)
 have c0:∀a,a∉cells ⟨some v,.dat m d,F⟩:=λa ha=>by
  rcases md with rfl | rfl <;> exact nomatch ha
 refine (h1.push (e:=⟨some v,.dat m d,F⟩) ⟨v,rfl,r,λz=>?_,λz=>?_⟩ (λf hf=>⟨λ_ a ha=>absurd ha (c0 a),λhq a ha z=>?_⟩) λa ha=>absurd ha (c0 a)).tomid
 ·rcases md with rfl | rfl <;> cases z
 ·rcases md with rfl | rfl <;> cases z
 ·obtain ⟨e,he,ze⟩:=hF a z
  have he':e∈S++(hid++T):=Ag _ (Al _ he)
  rcases nU h he' hf with rfl | q
  ·rw[hh e he] at ha
   cases ha
  ·refine q.2 ?_ a ha ze
   rcases hq with hq | hq
   ·refine .inl (np ?_ e he)
    rcases md with rfl | rfl
    ·rfl
    ·cases hq
   ·exact .inr hq
def HL(de:DE):DI:=λδ P=>de δ λx δ'=>match x with
 | .dat m (.list ds)=>P (La m) ds δ'
 | .dat m (.tuple ds)=>P (La m) ds δ'
 | _=>False
def jC(da:DA):DI:=λδ P=>da δ λxs δ'=>match xs with
 | [.dat _ (.int j)]=>-1000000<=j/\j<=1000000/\P .sh ((Bi j.toNat).map λi:Nat=>.int i) δ'
 | _=>False
def vP(da:DA):DI:=λδ P=>da δ λxs δ'=>match xs with
 | [.dat m (.list ds)]=>P (La m) (ds.zipIdx.map λp=>.tuple [.int p.2,p.1]) δ'
 | _=>False
def EW(da:DA):DI:=λδ P=>da δ λxs δ'=>match xs with
 | [.dat m (.tuple ds)]=>P (La m) (ds.zipIdx.map λp=>.tuple [.int p.2,p.1]) δ'
 | _=>False
section
variable{K:PySem.W.Frag}
theorem Na{H:Hp}{n:Nat}{v:V}{m:Md}{d:Ad}{F:List Addr}{hid:List Ent}(h:∀e∈hid,Hi K H n e)(he:⟨some v,.dat m d,F⟩∈hid):RdF K H v d F:=by
 obtain ⟨w,e1,h1,_⟩:=h _ he
 cases e1
 exact h1
theorem xM{v:Option V}{m:Md}{d:Ad}{F:List Addr}:cells ⟨v,.dat (La m) d,F⟩=[]:=by cases m <;> rfl
theorem nM{v:Option V}{m:Md}{d:Ad}{F:List Addr}:∀e∈[(⟨v,.dat (La m) d,F⟩ : Ent)],cells e=[]:=λe he=>by
 rw[Af.mp he]
 exact xM
theorem xH{v:Option V}{m:Md}{d:Ad}{F:List Addr}:La m=.sh->∀e∈[(⟨v,.dat (La m) d,F⟩ : Ent)],Og e.x=false:=λz e he=>by
 rw[Af.mp he]
 show Og (.dat (La m) d)=false
 rw[z]
 rfl
theorem gI(m:Md):La m=.sh\/La m=.pk:=by cases m <;> simp [La]
theorem uG{a:Addr}{m:Md}{ds:List Ad}{F:List Addr}:IterOk K (GA K a) [⟨some (.ref a),.dat (La m) (.list ds),F⟩] (La m) ds where
 md:=gI m
 hd:=nM
 np:=xH
 go:=λH n i h hi=>by
  obtain ⟨b,xs,G,e,hb,rb,_,_⟩:=(Na h Aa).list_inv
  cases e
  have hl:=rb.len
  exact ⟨xs,xs[i],Ud.of hb,by simp [show i<xs.length by omega]⟩
 yld:=λH n i x H' h hi y=>by
  obtain ⟨b,xs,G,e,hb,rb,rfl,_⟩:=(Na h Aa).list_inv
  cases e
  obtain ⟨rfl,y⟩:=y
  have hx:=y xs (Ud.of hb)
  obtain ⟨x',F',h1,h2,h3⟩:=rb.get (i:=i) (e:=ds[i]) (by simp [hi])
  rw[hx] at h1
  cases h1
  exact ⟨Yy.refl _,ds[i],F',by simp [hi],h2,λc hc=>⟨_,Aa,Ae _ (h3.subset hc)⟩⟩
 stop:=λH n h=>by
  obtain ⟨b,xs,G,e,hb,rb,_,_⟩:=(Na h Aa).list_inv
  cases e
  exact ⟨xs,Ud.of hb,by rw[rb.len]; exact Ai _⟩
theorem j5{a:Addr}{m:Md}{ds:List Ad}{F:List Addr}:IterOk K (GE K a) [⟨some (.ref a),.dat (La m) (.tuple ds),F⟩] (La m) ds where
 md:=gI m
 hd:=nM
 np:=xH
 go:=λH n i h hi=>by
  obtain ⟨b,xs,e,hb,rb,_⟩:=(Na h Aa).tup_inv
  cases e
  have hl:=rb.len
  exact ⟨xs,xs[i],Ur.of hb,by simp [show i<xs.length by omega]⟩
 yld:=λH n i x H' h hi y=>by
  obtain ⟨b,xs,e,hb,rb,_⟩:=(Na h Aa).tup_inv
  cases e
  obtain ⟨rfl,y⟩:=y
  have hx:=y xs (Ur.of hb)
  obtain ⟨x',F',h1,h2,h3⟩:=rb.get (i:=i) (e:=ds[i]) (by simp [hi])
  rw[hx] at h1
  cases h1
  exact ⟨Yy.refl _,ds[i],F',by simp [hi],h2,λc hc=>⟨_,Aa,h3.subset hc⟩⟩
 stop:=λH n h=>by
  obtain ⟨b,xs,e,hb,rb,_⟩:=(Na h Aa).tup_inv
  cases e
  exact ⟨xs,Ur.of hb,by rw[rb.len]; exact Ai _⟩
theorem nE{lo:Int}{n:Nat}:IterOk K (BE lo n) [] .sh ((Bi n).map λi:Nat=>.int (lo+i)) where
 md:=.inl rfl
 hd:=λ_ z=>nomatch z
 np:=λ_ _ z=>nomatch z
 go:=λH k i h hi=>by
  show i<n
  simpa using hi
 yld:=λH k i x H' h hi y=>by
  obtain ⟨rfl,rfl⟩:=y
  rw[Ab,Dm] at hi
  exact ⟨Yy.refl _,.int (lo+i),[],by simp [hi],.int _,λ_ z=>nomatch z⟩
 stop:=λH k h=>by simp [BE]
theorem sI{a:Addr}{m:Md}{ds:List Ad}{F:List Addr}:IterOk K (GS K a) [⟨some (.ref a),.dat (La m) (.list ds),F⟩] (La m) (ds.zipIdx.map λp=>.tuple [.int p.2,p.1]) where
 md:=gI m
 hd:=nM
 np:=xH
 go:=λH n i h hi=>by
  obtain ⟨b,xs,G,e,hb,rb,_,_⟩:=(Na h Aa).list_inv
  cases e
  have hl:=rb.len
  rw[Ab,Lo] at hi
  exact ⟨xs,xs[i],Ud.of hb,by simp [show i<xs.length by omega]⟩
 yld:=λH n i x H' h hi y=>by
  obtain ⟨b,xs,G,e,hb,rb,rfl,_⟩:=(Na h Aa).list_inv
  cases e
  rw[Ab,Lo] at hi
  obtain ⟨t,z,rfl,nt,rfl,y⟩:=y
  have hx:=y xs (Ud.of hb)
  obtain ⟨x',F',h1,h2,h3⟩:=rb.get (i:=i) (e:=ds[i]) (by simp [hi])
  rw[hx] at h1
  cases h1
  have s1:=Ga nt (.tup [.int i,z])
  refine ⟨s1,.tuple [.int i,ds[i]],F',by simp [hi],.tup Ed (by simp [Kv]) ?_,λc hc=>⟨_,Aa,Ae _ (h3.subset hc)⟩⟩
  have:=RdFs.cons (F:=[]) (.int (i:Int)) (RdFs.cons (h2.kp (Kp.of s1)) RdFs.nil)
  rw[Ea] at this
  exact this
 stop:=λH n h=>by
  obtain ⟨b,xs,G,e,hb,rb,_,_⟩:=(Na h Aa).list_inv
  cases e
  exact ⟨xs,Ud.of hb,by rw[Ab,Lo,rb.len]; exact Ai _⟩
end
section
variable{X:Cx}{tg e:Expr}{de:DE}{di:DI}
def dL(de:DE):DI:=λδ P=>de δ λx δ'=>match x with
 | .dat m (.list ds)=>P (La m) ds δ'
 | _=>False
def HH(de:DE):DI:=λδ P=>de δ λx δ'=>match x with
 | .dat m (.tuple ds)=>P (La m) ds δ'
 | _=>False
theorem sL(h:Fc X e de):xU X tg e (dL de):=by
 refine PI.imp (B1 h) λσ H R h=>?_
 obtain ⟨H0,Y,S,T,δ,P,rfl,hS,hA,hd,k⟩:=h
 refine ⟨H0,Y,S,T,δ,_,rfl,hS,hA,hd,λx δ1 v F S1 H1 e1 e2 hA1 p1=>?_⟩
 split at p1
 ·obtain ⟨a,xs,G,rfl,ha,ra,rfl,hz⟩:=(hA1.told mem_mid).list_inv
  exact ⟨a,rfl,⟨xs,Ud.of ha⟩,k _ _ δ1 _ [_] S1 H1 e1 e2 ((hA1.mid.wk (iA _)).tomid) uG hz p1⟩
 ·exact p1.elim
theorem FJ(h:Fc X e de):xU X tg e (HH de):=by
 refine PI.imp (U9 h) λσ H R h=>?_
 obtain ⟨H0,Y,S,T,δ,P,rfl,hS,hA,hd,k⟩:=h
 refine ⟨H0,Y,S,T,δ,_,rfl,hS,hA,hd,λx δ1 v F S1 H1 e1 e2 hA1 p1=>?_⟩
 split at p1
 ·obtain ⟨a,xs,rfl,ha,ra,hz⟩:=(hA1.told mem_mid).tup_inv
  exact ⟨a,rfl,⟨xs,Ur.of ha⟩,k _ _ δ1 _ [_] S1 H1 e1 e2 ((hA1.mid.wk (iA _)).tomid) j5 hz p1⟩
 ·exact p1.elim
variable{es:List Expr}{da:DA}{a b:Expr}{p pos tp:Pos}{elts:List Expr}{kt:Nat}
theorem Kt(hg:Gl X "range")(hm:X.mg "range" = none)(ha:mQ X [a] da)(hs:By [a] X.env=[(false,eval a X.env)]:=by rfl):xU X tg (.Call (.Name "range" p) [a] [] pos) (jC da):=by
 refine PI.imp (sR hg hm ha hs) λσ H R h=>?_
 obtain ⟨H0,Y,S,T,δ,P,rfl,hS,hA,hd,k⟩:=h
 refine ⟨H0,Y,S,T,δ,_,rfl,hS,hA,hd,λxs δ' As us S' H' e1 e2 ex eu hA' p=>?_⟩
 split at p
 ·obtain ⟨v,F,rfl,hA2⟩:=Je eu hA' ex
  obtain ⟨rfl,_⟩:=(hA2.told mem_mid).int_inv
  obtain ⟨j0,j1,pp⟩:=p
  refine ⟨_,rfl,by omega,by omega,k _ _ δ' _ [] S' H' e1 e2 hA2.drop nE (by rw[Ab,Dm]; exact mR (by omega)) ?_⟩
  simpa using pp
 ·exact p.elim
theorem A4(hg:Gl X "enumerate")(hm:X.mg "enumerate" = none)(ha:mQ X [a] da)(hs:By [a] X.env=[(false,eval a X.env)]:=by rfl):xU X (.Tuple elts kt tp) (.Call (.Name "enumerate" p) [a] [] pos) (vP da):=by
 refine PI.imp (B9 hg hm ha hs) λσ H R h=>?_
 obtain ⟨H0,Y,S,T,δ,P,rfl,hS,hA,hd,k⟩:=h
 refine ⟨H0,Y,S,T,δ,_,rfl,hS,hA,hd,λxs δ' As us S' H' e1 e2 ex eu hA' p=>?_⟩
 split at p
 ·obtain ⟨v,F,rfl,hA2⟩:=Je eu hA' ex
  obtain ⟨a,xs,G,rfl,ha,ra,rfl,hz⟩:=(hA2.told mem_mid).list_inv
  exact ⟨a,rfl,⟨xs,Ud.of ha⟩,k _ _ δ' _ [_] S' H' e1 e2 ((hA2.mid.wk (iA _)).tomid) sI (by rw[Ab,Lo]; exact hz) p⟩
 ·exact p.elim
end
def CB(di:DI)(dg:DG)(db:DB):DB:=λD δ=>di δ λm ds δ1=>m=.sh/\∃I:Nat->DS->Prop,I 0 δ1 /\
 (∀i d δ',ds[i]? = some d->I i δ'->dg (.dat .sh d) δ' λδ2=>db { D with nx:=I (i+1),ct:=I (i+1),bk:=D.nx } δ2)/\∀δ',I ds.length δ'->D.nx δ'
section
variable{X:Cx}{tg iter:Expr}{di:DI}{dg:DG}{db:DB}{body:List Stmt}{pos:Pos}
theorem At.dropH{K:PySem.W.Frag}{H0 H:Hp}{X:Addr->Prop}{n:Nat}{S T hid:List Ent}{e:Ent}(h:At K H0 X n (S++e::(hid++T)) H):At K H0 X n (S++e::T) H:=h.sub ((Dl S).append ((Cm hid T).cons₂ e))
theorem Mo(hp:Zd (model X.prog X.w) X.A X.env X.xe)(hc:X.calm=true)(hi:xU X tg iter di)(hg:CM X tg dg)(hb:Ug X body db)(hs:∀x,Eu iter X.env x=pure x:=by intro _; rfl):gO X (.For tg iter body [] pos) (CB di dg db):=by
 refine PS.impD (vG hp hc hi hg hb hs) λD σ H h=>?_
 obtain ⟨H0,Y,S,T,δ,P,rfl,hS,hT,hA,hd,k1,k2,k3,k4⟩:=h
 refine ⟨H0,Y,S,T,δ,_,rfl,hS,hA,hd,λm ds δ1 J hid S1 H1 e1 e2 hA1 it hz p1=>?_⟩
 obtain ⟨rfl,I,h0,hs,hf⟩:=p1
 rw[<- e1]
 have hT':∀e∈hid++T,Og e.x=false:=λe he=>by
  rcases Aw.mp he with he | he
  ·exact it.np rfl e he
  ·exact hT e he
 refine ⟨λi q σ H=>q=ds.length - i/\i<=ds.length/\∃S δ,vs S=σ/\Sl S δ/\At X.K H0 Y δ.n (S++(hid++T)) H/\I i δ,⟨ds.length,by simp,Do _,S1,δ1,rfl,e2,hA1,h0⟩,?_⟩
 (intro i q σ H q_; obtain ⟨rfl,hi,S2,δ2,rfl,e3,hA2,hI⟩ := q_)
 have hid_ok:∀e∈hid,Hi X.K H δ2.n e:=λe he=>hA2.ok e (Ag _ (Al _ he))
 by_cases hlt:i<ds.length
 ·refine .inr ⟨it.go H δ2.n i hid_ok hlt,λσ' H'=>∃S δ,vs S=σ'/\Sl S δ/\At X.K H0 Y δ.n (S++(hid++T)) H'/\I (i+1) δ,λσ' H' q=>⟨ds.length - (i+1),by omega,rfl,hlt,q⟩,λx H' y=>?_⟩
  obtain ⟨s1,d,F,h1,h2,h3⟩:=it.yld H δ2.n i x H' hid_ok hlt y
  refine ⟨H0,Y,S2,hid++T,δ2,.dat .sh d,F,_,rfl,e3,hA2.item s1 h2 h3 it.md it.hd it.np,hs i d δ2 h1 hI,λδ3 S3 H3 e4 hA3 p3=>?_⟩
  refine ⟨H0,Y,S3,hid++T,δ3,_,rfl,e4,hT',hA3,p3,λδ4 S4 H4 e5 hA4 p4=>⟨S4,δ4,rfl,e5,hA4,p4⟩,λx δ4 v F S4 H4 e5 hA4 p4=>k2 x δ4 v F S4 H4 e5 hA4.dropH p4,
   λδ4 S4 H4 e5 hA4 p4=>k1 δ4 S4 H4 e5 hA4.dropL p4,λδ4 S4 H4 e5 hA4 p4=>⟨S4,δ4,rfl,e5,hA4,p4⟩⟩
 ·have e:i=ds.length:=by omega
  subst e
  exact .inl ⟨it.stop H δ2.n hid_ok,k1 δ2 S2 H e3 hA2.dropL (hf δ2 hI)⟩
end
def vN(dt:DT)(db:DB):DB:=λD δ=>∃(I:DS->Prop) (μ:DS->Nat),I δ/\∀δ',I δ'->dt δ' λb δ2=>match b with
 | true=>db { D with nx:=λδ3=>I δ3/\μ δ3<μ δ',ct:=λδ3=>I δ3/\μ δ3<μ δ',bk:=D.nx } δ2
 | false=>D.nx δ2
end DL
namespace Nd
open PySem PySem.Spec PyProof.Rows L2
section
variable{X:Cx}
theorem yS{elt iter:Expr}{x x2 y0:Str}{px px2 pt py pos spos:Pos}{kt:Nat}{i0:Nat}{ifs:List Expr}{scope:Scope}{cl:List (Str×Addr)}{ys:List Str}{js:List Nat}{wi:TI}{tc:TT}{te:TE}(hN:X.N.Nodup)(hi0:X.N[i0]? = some y0)(hy0:X.env.scope.names.lookup y0=some .local)(C:CompScope X scope cl x ys js)(own2:xZ scope x2)(nd2:(x::x2::ys).Nodup)(hc:X.calm=true)(hi:PI X (.Tuple [.Name x px,.Name x2 px2] kt pt) iter wi)(ht:∀fp s H,uQ (Fi X scope cl (x::x2::ys) fp s H) ifs tc)(he:∀fp s H,PE (Fi X scope cl (x::x2::ys) fp s H) elt te)(hs:∀x,Eu iter X.env x=pure x:=by intro _; rfl)(hsw:Kf (.ListComp elt [⟨.Tuple [.Name x px,.Name x2 px2] kt pt,iter,ifs,0⟩] scope pos) (some (.Name y0 py)) spos.line X.env=pure true:=by rfl):PS X (.Assign [.Name y0 py] (.ListComp elt [⟨.Tuple [.Name x px,.Name x2 px2] kt pt,iter,ifs,0⟩] scope pos) spos) (yO (nY X.K wi js tc te) (Tn i0)):=by
 intro pins s σ H De I h
 have h:nY X.K wi js tc te σ H λv H1=>De.nx (σ.set i0 (some v)) H1:=h
 rw[exec_Assign_Name_used _ _ _ _ hsw]
 refine Ac (cN (Ac ?_))
 show wpAny _ X.A (do let _ <- comprehension (.ListComp elt [⟨.Tuple [.Name x px,.Name x2 px2] kt pt,iter,ifs,0⟩] scope pos) scope X.env _ (newList []) false (eval iter X.env) (some (Qq (.Name y0 py) X.env))) _ _ s
 refine Ac (Fy (Sv (use:=some (Qq (.Name y0 py) X.env)) (Q:=λ_ s'=>SP X pins De .next s') rfl hs C.clos C.kind C.locs (Hh (hi pins s σ H _ I h) λv s1 h1=>Hh h1 λitv s2 h2=>?_)) (λ_ s' hq=>Ap (Ap hq)) λ_ _ e=>e)
 obtain ⟨it,fp,tn,J,H2,e,I2,T,st2,f2,q2⟩:=h2
 subst e
 have fD:H2 s2.heap.objs.size=none:=I2.hok.fresh (Ai _)
 obtain ⟨W,⟨m0,w0⟩,turn⟩:=q2 s2.heap.objs.size fD
 refine Ei ?_
 have I3:Inv X pins σ (upd H2 s2.heap.objs.size (.lst [])) { s2 with heap:=s2.heap.push { cls:=.type "list",dict:=none,data:=.seq ([]:List Value).toArray } } :=
  I2.laid (t':=s2.toks) (λb u q=>Aq _ q) (Ai _) ⟨Do _,[],0,.nil,Bs _ rfl⟩
 obtain ⟨f3,st3',o3'⟩:=bI I2 T st2 f2 I3
 generalize hS3:({ s2 with heap:=s2.heap.push { cls:=.type "list",dict:=none,data:=.seq ([]:List Value).toArray } }:Aj)=s3 at I3
 have Rj:tn 0 s3.heap:=by rw[<- hS3]; exact st3'
 have o3:∀b∈fp,∃o,s3.heap.get? b=some o:=by rw[<- hS3]; exact o3'
 show wpAny _ _ (Qp scope X.env.globals cl [] X.env.qual none .none (some X.env)) _ _ _
 refine Wn C λh4 hns4 keep4 new4=>?_
 have I4:∀tk,Inv (Fi X scope cl (x::x2::ys) fp s3 (upd H2 s2.heap.objs.size (.lst []))) [] (none::none::Hg σ js) (upd H2 s2.heap.objs.size (.lst [])) { s3 with heap:=h4,toks:=tk }:=λtk=>Up (pre:=[x,x2]) C I3 f3 o3 hns4 keep4 new4
 have st4:tn 0 h4:=T.keep 0 _ _ Rj λb hb o q=>keep4 b o q
 generalize hX':Fi X scope cl (x::x2::ys) fp s3 (upd H2 s2.heap.objs.size (.lst []))=X' at I4
 obtain ⟨eP,eW,eK,eA,eC⟩:=bJ hc hX'
 have stat:∀{H':Hp},(∀b∈fp,H' b=none)->∀b∈fp,Ph X' [] H' b:=λ{H'} hn=>Xd hX' (I4 0) hn
 have loop:∀s5:Aj,s5={ s3 with heap:=h4,toks:=s3.toks+([]:List (Str×Value)).length } ->
   Mv (model X.prog X.w) X.A (.compLoop (.ListComp elt [⟨.Tuple [.Name x px,.Name x2 px2] kt pt,iter,ifs,0⟩] scope pos) 0 (.ref it) (.ref s2.heap.objs.size) (compEnvC scope (Ez (s3.heap.objs.size+1) scope.names cl) s3.heap.objs.size X.env))
    (compPost (model X.prog X.w) X.A X.xe (some (Qq (.Name y0 py) X.env)) (λ_ s'=>SP X pins De .next s') (.ref s2.heap.objs.size) s3.heap.objs.size) s5:=by
  rintro s5 rfl
  refine Uk (λn s'=>∃i o o2 H',Inv X' [] (o::o2::Hg σ js) H' s'/\tn i s'.heap/\(∀b∈fp,H' b=none)/\W i n H') ?_ m0
   ⟨0,none,none,_,I4 _,st4,λb hb=>(f3 b hb).1,w0⟩
  (intro n s6 q_; obtain ⟨i,o,o2,H6,I6,st6,fr6,w6⟩ := q_)
  rcases turn i n H6 w6 with ⟨stop,qn⟩ | ⟨go,step⟩
  ·have hd:=T.done X' eP eW eK eC i [] s6 _ H6 (λ_ _=>False) I6 (stat fr6) st6 stop
   rw[eA] at hd
   refine Hh hd λr s7 q0_ => ?_
   obtain ⟨hr,I7⟩ := q0_
   subst hr
   obtain ⟨⟨m7,hn7'⟩,I7f,J7⟩:=eS hX' I3 f3 I7
   have fC:Ph X pins H6 s3.heap.objs.size:=I3.fpOk (Ai _) I7f
   obtain ⟨oC,esC,epC,hoC,rC⟩:=id hn7'
   have J8:Inv X (pins++[(s3.heap.objs.size,oC)]) σ H6 s7:=J7.pins_of λp hp=>by
    rcases Aw.mp hp with z | z
    ·have q:=J7.pin p (Ag _ z)
     exact q
    ·rw[Af.mp z]
     exact ⟨hoC,I7f,fC.2.1,fC.2.2.1,λv hv=>by rw[rC.1] at hv; cases hv⟩
   refine Hh (Ot (X:=X) (i:=i0) (x:=y0) (pos:=py) hN hi0 (.inl hy0) (.inr hy0) (pins++[(s3.heap.objs.size,oC)]) s7 σ H6 (.ref s2.heap.objs.size) (.ref s2.heap.objs.size) (λσ' H'=>σ'=σ.set i0 (some (.ref s2.heap.objs.size))/\H'=H6) J8 rfl ⟨rfl,rfl⟩) λ_ s9 q0_ => ?_
   obtain ⟨σ9,H9,I9,e9,e9'⟩ := q0_
   subst e9 e9'
   have hoC9:=(I9.pin (s3.heap.objs.size,oC) (Ag _ (Ag _ Aa))).1
   have I9':Inv X pins (σ.set i0 (some (.ref s2.heap.objs.size))) H9 s9:=I9.pins_of λp hp=>I9.pin p (Ag _ (Al _ hp))
   refine ⟨m7,hn7'.at λo e=>by rw[hoC] at e; cases e; exact hoC9,λh10 hs10=>?_⟩
   exact ⟨_,H9,Zo (t':=s9.toks) (fp:=[s3.heap.objs.size]) I9' (λb o hb e=>(hs10.2 b (λz=>hb (by rw[z]; exact Aa))).trans e) (λb hb=>by rw[Af.mp hb]; exact fC),qn⟩
  ·have hit:=T.item X' eP eW eK eC i [] s6 _ H6 (λ_ _=>False) I6 (stat fr6) st6 go
   rw[eA] at hit
   refine Hh hit λr s7 q0_ => ?_
   obtain ⟨u,hr,h7⟩ := q0_
   subst hr
   refine Hh h7 λ_ s8 q0_ => ?_
   obtain ⟨y,H8,I8,r8,y8,st8,fr8⟩ := q0_
   have I8':=I8.pinned (stat fr8) (T.obj _ _ st8)
   obtain ⟨tp,w1,w2,ey,hsq,N1,N2,hN1,hN2,hst⟩:=step y H8 y8
   have again:∀{H9:Hp} {s9:Aj} {m':Nat},Inv X' ([]++Ul fp s8.heap) (some w1::some w2::Hg σ js) H9 s9->m'<n->W (i+1) m' H9->∃m,m<n/\∃i o o2 H',Inv X' [] (o::o2::Hg σ js) H' s9/\tn i s9.heap/\(∀b∈fp,H' b=none)/\W i m H':=λ{H9 s9 m'} I9 hm w9=>by
    refine ⟨m',hm,i+1,some w1,some w2,H9,I9.unpinned,T.keep _ _ _ st8 λb hb o e=>(I9.pin (b,o) (Ag _ (Ag _ (Jo hb e)))).1,λb hb=>?_,w9⟩
    obtain ⟨o,e,_⟩:=T.obj _ _ st8 b hb
    exact (I9.pin (b,o) (Ag _ (Ag _ (Jo hb e)))).2.1
   subst hX'
   have g1:PG (Fi X scope cl (x::x2::ys) fp s3 (upd H2 s2.heap.objs.size (.lst []))) (.Tuple [.Name x px,.Name x2 px2] kt pt) (DH X.K 2 (vH (Tn 0) (vH (Tn 1) CC))) :=
    wY (X:=Fi X scope cl (x::x2::ys) fp s3 (upd H2 s2.heap.objs.size (.lst []))) hc (aT (Ot (i:=0) (x:=x) nd2 rfl (Zj C.own) (gX C.own)) (aT (Ot (i:=1) (x:=x2) nd2 rfl (Zj own2) (gX own2)) pO))
   refine Hh (g1 _ s8 _ H8 y u (λσ' H'=>σ'=some w1::some w2::Hg σ js/\H'=H8) I8' r8 ⟨tp,[w1,w2],ey,hsq,rfl,_,_,rfl,_,_,rfl,rfl,rfl,rfl⟩) λ_ s9 q0_ => ?_
   obtain ⟨σ9,H9,I9,e9,e9'⟩ := q0_
   subst e9 e9'
   refine Hh (ht fp s3 _ _ s9 _ _ _ I9 hst) λok s10 q0_ => ?_
   obtain ⟨H10,I10,q10⟩ := q0_
   cases ok with
   | false =>
    rw[if_neg Cp] at q10 ⊢
    obtain ⟨m',hm,w10⟩:=hN1 _ q10
    exact again I10 hm w10
   | true =>
    rw[if_pos rfl] at q10 ⊢
    refine Hh (he fp s3 _ _ s10 _ _ _ I10 q10) λz s11 q0_ => ?_
    obtain ⟨vz,H11,I11,r11,q11⟩ := q0_
    obtain ⟨acc,ha,hz,m',hm,w11⟩:=hN2 _ _ q11
    refine Hh (Po _ s11 _ H11 (.ref s2.heap.objs.size) [vz] (.ref s2.heap.objs.size) [z] (λ_ H'=>H'=upd H11 s2.heap.objs.size (.lst (acc++[vz]))) I11 rfl (.cons r11 .nil) ⟨_,acc,vz,rfl,rfl,ha,hz,rfl⟩) λ_ s12 q0_ => ?_
    obtain ⟨_,H12,I12,_,e12⟩ := q0_
    subst e12
    exact again I12 hm w11
 exact Uy (loop _ rfl) (T.self X.A 0 _ _ _ st4 (loop _ rfl))
end
end Nd
namespace DL
open PySem L2 Nd
def al(e:Ent):Ent:=match e.x with
 | .dat m d=>⟨e.v,.dat (jW m) d,e.F⟩
 | .val _=>e
 | .scr _=>e
 | _=>⟨e.v,.un,[]⟩
def alD:DV->DV
 | .dat m d=>.dat (jW m) d
 | .val v=>.val v
 | .scr ns=>.scr ns
 | _=>.un
def zE(S:List Ent)(j:Nat):Ent:=match S[j]? with
 | some e=>al e
 | none=>⟨none,.un,[]⟩
def Zq(S:List Ent)(js:List Nat):List Ent:=js.map (zE S)
def frD1(sl:List DV)(j:Nat):DV:=match sl[j]? with
 | some x=>alD x
 | none=>.un
def frD(sl:List DV)(js:List Nat):List DV:=js.map (frD1 sl)
theorem GP(e:Ent):(al e).v=e.v:=by
 obtain ⟨v,x,F⟩:=e
 cases x <;> rfl
theorem GV(e:Ent):(al e).x=alD e.x:=by
 obtain ⟨v,x,F⟩:=e
 cases x <;> rfl
theorem qH(S:List Ent)(js:List Nat):vs (Zq S js)=Hg (vs S) js:=by
 unfold vs Zq Hg
 rw[Ek]
 refine Ig λj _=>?_
 rw[Bw]
 simp only[Function.comp,zE]
 cases S[j]? with
 | none=>rfl
 | some e=>exact GP e
theorem pN{S:List Ent}{δ:DS}(h:Sl S δ)(js:List Nat):(Zq S js).map Ent.x=frD δ.sl js:=by
 unfold Sl at h
 unfold Zq frD
 rw[Ek]
 refine Ig λj _=>?_
 simp only[Function.comp,zE,frD1]
 rw[<- h,Bw]
 cases S[j]? with
 | none=>rfl
 | some e=>exact GV e
section
variable{K:PySem.W.Frag}{H0 H H':Hp}{X:Addr->Prop}{n:Nat}{E S T:List Ent}
theorem lS(e:Ent):cells (al e)=[]:=by
 obtain ⟨v,x,F⟩:=e
 cases x with
 | dat m d=>cases m <;> rfl
 | _=>rfl
theorem At.view1(h:At K H0 X n E H){e:Ent}(he:e∈E):At K H0 X n (al e::E) H:=by
 refine h.push ?_ (λf hf=>⟨λ_ a ha=>(by rw[lS] at ha; cases ha),λhq a ha z=>?_⟩) λa ha=>(by rw[lS] at ha; cases ha)
 ·have:=h.ok e he
  obtain ⟨v,x,F⟩:=e
  cases x with
  | dat m d =>
   obtain ⟨w,h1,h2,_⟩:=this
   exact ⟨w,h1,h2,λz=>(by cases m <;> cases z),λz=>(by cases m <;> cases z)⟩
  | val v=>exact this
  | scr ns=>exact this
  | _=>exact (rfl:([]:List Addr)=[])
 ·obtain ⟨v,x,F⟩:=e
  cases x with
  | dat m d =>
   rcases nU h he hf with rfl | q
   ·rcases hq with hq | hq
    ·cases m <;> first | cases hq; done | exact nomatch ha
    ·cases hq
   ·refine q.2 ?_ a ha z
    rcases hq with hq | hq
    ·refine .inl ?_
     cases m <;> first | rfl | exact hq
    ·exact .inr hq
  | val v =>
   rw[show F=[] from (h.ok _ he).2] at z
   cases z
  | scr ns =>
   obtain ⟨_,_,hF,_⟩:=h.ok _ he
   rw[show F=[] from hF] at z
   cases z
  | _=>exact nomatch z
theorem At.blank(h:At K H0 X n E H){v:Option V}:At K H0 X n (⟨v,.un,[]⟩::E) H :=
 h.push (rfl:([]:List Addr)=[]) (λf _=>⟨λ_ a ha=>(nomatch ha),λ_ a _=>Bz⟩) (λa ha=>(nomatch ha))
theorem At.view(h:At K H0 X n E H)(hS:∀e∈S,e∈E):∀js:List Nat,At K H0 X n (Zq S js++E) H
 | []=>h
 | j::js=>by
  have ih:=At.view h hS js
  show At K H0 X n (zE S j::(Zq S js++E)) H
  unfold zE
  cases e:S[j]? with
  | none=>exact ih.blank
  | some x=>exact ih.view1 (Ag _ (hS x (Ax e)))
theorem At.accNew(h:At K H0 X n E H){D:Addr}(hD:H D=Option.none):At K H0 X n (⟨some (.ref D),.acc [],[D]⟩::E) (upd H D (.lst [])):=by
 have s1:=Ga hD (.lst [])
 refine (h.grow (n':=n) s1 (Ai _)).push ⟨D,[],[],rfl,rfl,Ed,.nil,Do _,Bz⟩ (λf hf=>?_) λa ha=>?_
 ·have nf:=h.free hD f hf
  refine ⟨λ_ a ha z=>?_,λ_ a ha z=>?_⟩
  ·rw[Af.mp ha] at z
   exact nf z
  ·rw[Af.mp z] at ha
   exact nf (Fm _ _ ha)
 ·rw[Af.mp ha]
  exact .inl (h.new0 hD)
theorem At.accPutG{D:Addr}{ds:List Ad}{v:V}{m:Md}{e:Ad}{F G:List Addr}(h:At K H0 X n (⟨some (.ref D),.acc ds,D::G⟩::⟨some v,.dat m e,F⟩::E) H)(hm:m≠.pk)(hz:ds.length+1<=Bb):∃xs,H D=some (.lst xs)/\xs.length=ds.length/\At K H0 X n (⟨some (.ref D),.acc (ds++[e]),D::(G++F)⟩::E) (upd H D (.lst (xs++[v]))):=by
 obtain ⟨a,xs,G',e1,e0,ha,ra,_,nG⟩:=h.ok _ Aa
 have e1':some (V.ref D)=some (V.ref a):=e1
 cases e1'
 have e0':D::G=D::G':=e0
 cases e0'
 have r:RdF K H v e F:=h.told (Ae _ Aa)
 have hs:=Bc.mp h.sep
 have hs2:=Bc.mp hs.2
 have h1:=(h.sub (Di _ _)).sub (Di _ _)
 have npk:Og (.dat m e)=false:=by cases m <;> first | rfl | exact absurd rfl hm
 have nF:D∉F:=(hs.1 _ Aa).1 (.inr rfl) D Aa
 have kp:∀{F:List Addr},D∉F->Kp F H (upd H D (.lst (xs++[v]))):=λ{F} hF b o q z=>by
  have : b≠D:=by
   rintro rfl
   rw[ha] at q
   cases q
   rcases z with z | z
   ·exact hF z
   ·rcases z with ⟨_,z⟩ | ⟨_,_,z⟩ <;> cases z
  rw[Ew this]
  exact q
 have nD:H0 D=Option.none:=by
  rcases h.new _ Aa D Aa with z | z
  ·exact z
  ·cases z.2
 refine ⟨xs,ha,ra.len,?_⟩
 refine ⟨λf hf=>?_,?_,λf hf=>?_,λb o nx q=>?_,λb o q=>?_,λb hb=>?_⟩
 rotate_right
 ·obtain ⟨z,c,k,f,h1,h2⟩:=h.xd b hb
  refine ⟨z,c,k,f,(Ew ?_).trans h1,h2⟩
  rintro rfl
  exact z nD
 ·rcases Ao.mp hf with rfl | hf
  ·exact ⟨D,xs++[v],G++F,rfl,rfl,Ed,(ra.kp (kp nG)).snoc (r.kp (kp nF)),by rw[Bh]; exact hz,λz=>(Aw.mp z).elim nG nF⟩
  ·exact (h1.ok f hf).kp (kp ((hs.1 f (Ae _ hf)).1 (.inr rfl) D Aa)) (Ai _)
 ·refine Bc.mpr ⟨λf hf=>⟨λhq a ha'=>(hs.1 f (Ae _ hf)).1 (.inr rfl) a ha',λhq a ha' z=>?_⟩,hs2.2⟩
  have z1:=(hs.1 f (Ae _ hf)).2 (.inl rfl) a ha'
  rcases Ao.mp z with z | z
  ·exact z1 (z▸Aa)
  ·rcases Aw.mp z with z | z
   ·exact z1 (Ae _ z)
   ·exact (hs2.1 f hf).2 (.inl npk) a ha' z
 ·rcases Ao.mp hf with rfl | hf
  ·intro a ha'
   rw[Af.mp ha']
   exact .inl nD
  ·exact h1.new f hf
 ·rw[Ew (Gg q nD)]
  exact h.same b o nx q
 ·rw[Ew (Gg q nD)]
  exact h.dom b o q
theorem At.accPut{D:Addr}{ds:List Ad}{v:V}{e:Ad}(h:At K H0 X n (⟨some (.ref D),.acc ds,[D]⟩::E) H)(r:RdF K H v e [])(hz:ds.length+1<=Bb):∃xs,H D=some (.lst xs)/\xs.length=ds.length/\At K H0 X n (⟨some (.ref D),.acc (ds++[e]),[D]⟩::E) (upd H D (.lst (xs++[v]))) :=
 At.accPutG (m:=.ow) (At.pushI (S:=[⟨some (.ref D),.acc ds,[D]⟩]) h r) (by decide) hz
def fF:Bool->Md
 | true=>.ow
 | false=>.tp
theorem At.accGetG{D:Addr}{ds:List Ad}{b:Bool}{G:List Addr}(h:At K H0 X n (⟨some (.ref D),.acc ds,D::G⟩::E) H)(hb:b=true->G=[]):At K H0 X n (⟨some (.ref D),.dat (fF b) (.list ds),D::G⟩::E) H:=by
 obtain ⟨a,xs,G',e1,e0,ha,ra,hz,nG⟩:=h.ok _ Aa
 have e1':some (V.ref D)=some (V.ref a):=e1
 cases e1'
 have e0':D::G=D::G':=e0
 cases e0'
 have hs:=Bc.mp h.sep
 have cs:∀a∈cells ⟨some (.ref D),.dat (fF b) (.list ds),D::G⟩,a=D:=λa ha'=>by
  cases b with
  | true=>rw[hb rfl] at ha'; exact Af.mp ha'
  | false=>exact Af.mp ha'
 refine (h.sub (Di _ _)).push ⟨_,rfl,.lst ha hz ra,λz=>?_,λ_ a l e=>?_⟩ (λf hf=>⟨λhq a ha'=>?_,λhq a ha'=>(hs.1 f hf).2 (.inl rfl) a ha'⟩) λa ha'=>?_
 ·cases b with
  | true=>rw[hb rfl]; exact Cn.mpr ⟨Bz,Cz⟩
  | false=>cases z
 ·have e:D::G=a::l:=e
  cases e
  exact nG
 ·rw[cs a ha']
  exact (hs.1 f hf).1 (.inr rfl) D Aa
 ·rw[cs a ha']
  rcases h.new _ Aa D Aa with z | z
  ·exact .inl z
  ·cases z.2
theorem At.accGet{D:Addr}{ds:List Ad}(h:At K H0 X n (⟨some (.ref D),.acc ds,[D]⟩::E) H):At K H0 X n (⟨some (.ref D),.dat .ow (.list ds),[D]⟩::E) H:=At.accGetG (b:=true) h λ_=>rfl
end
def gE:DT:=λδ P=>P true δ
def T3(b:Bool)(m:Md)(e:Ad):Prop:=match b with
 | true=>imm e=true
 | false=>m≠.pk
def Nj(b:Bool)(dc:DT)(de:DE)(δ:DS)(yes:Ad->Nat->Prop)(no:Nat->Prop):Prop:=dc δ λc δ2=>match c with
 | true=>de δ2 λy δ3=>match y with
  | .dat m e=>T3 b m e/\yes e δ3.n
  | _=>False
 | false=>no δ2.n
def vU(b:Bool)(di:DI)(js:List Nat)(dc:DT)(de:DE):DE:=λδ P=>di δ λm ds δ1=>∃I:Nat->List Ad->Nat->Prop,I 0 [] δ1.n /\
 (∀i d acc n,ds[i]? = some d->I i acc n->Nj b dc de ⟨.dat m d::frD δ1.sl js,n⟩ (λe n'=>I (i+1) (acc++[e]) n') (λn'=>I (i+1) acc n')) /\
 ∀acc n,I ds.length acc n->P (.dat (fF b) (.list acc)) ⟨δ1.sl,n⟩
def rQ(b:Bool)(di:DI)(js:List Nat)(dc:DT)(de:DE):DE:=λδ P=>di δ λm ds δ1=>∃I:Nat->List Ad->Nat->Prop,I 0 [] δ1.n /\
 (∀i d acc n,ds[i]? = some d->I i acc n->∃d1 d2,d=.tuple [d1,d2]/\Nj b dc de ⟨.dat m d1::.dat m d2::frD δ1.sl js,n⟩ (λe n'=>I (i+1) (acc++[e]) n') (λn'=>I (i+1) acc n')) /\
 ∀acc n,I ds.length acc n->P (.dat (fF b) (.list acc)) ⟨δ1.sl,n⟩
def Wc:DT->DE->DS->(Ad->Nat->Prop)->(Nat->Prop)->Prop:=Nj true
def zI:DI->List Nat->DT->DE->DE:=vU true
def qP:DI->List Nat->DT->DE->DE:=rQ false
section
variable{K:PySem.W.Frag}{H0 H H':Hp}{Y:Addr->Prop}{n:Nat}{E S T:List Ent}
theorem mF{b:Bool}{dc:DT}{de:DE}{δ:DS}{yes:Ad->Nat->Prop}{no:Nat->Prop}{D:Addr}{G:List Addr}{acc:List Ad}{N1:Hp->Prop}{N2:VK}(hS:Sl S δ)(hb:b=true->G=[])(hA:At K H0 Y δ.n (S++⟨some (.ref D),.acc acc,D::G⟩::T) H)(h:Nj b dc de δ yes no)(hz:acc.length+1<=Bb)(k1:∀n' H',At K H0 Y n' (⟨some (.ref D),.acc acc,D::G⟩::T) H'->no n'->N1 H')(k2:∀e n' v H' G',(b=true->G'=[])->(∃xs,H' D=some (.lst xs)/\xs.length=acc.length/\At K H0 Y n' (⟨some (.ref D),.acc (acc++[e]),D::G'⟩::T) (upd H' D (.lst (xs++[v]))))->yes e n'->N2 v H'):LT K dc (vs S) H λc H2=>if c=true then LE K de (vs S) H2 N2 else N1 H2:=by
 refine ⟨H0,Y,S,⟨some (.ref D),.acc acc,D::G⟩::T,δ,_,rfl,hS,hA,h,λc δ2 S2 H2 e1 e2 hA2 p2=>?_⟩
 cases c with
 | false=>exact tL (k1 _ _ (hA2.sub (Cm _ _)) p2)
 | true =>
  refine wD ⟨H0,Y,S2,⟨some (.ref D),.acc acc,D::G⟩::T,δ2,_,e1,e2,hA2,p2,λy δ3 v F S3 H3 e3 e4 hA3 p3=>?_⟩
  split at p3
  ·rename_i m e
   have r:=hA3.told mem_mid
   cases b with
   | true =>
    obtain rfl:=r.imm p3.1
    obtain rfl:=hb rfl
    exact k2 _ _ _ _ [] (λ_=>rfl) ((hA3.drop.sub (Cm _ _)).accPut r hz) p3.2
   | false =>
    have hA4:At K H0 Y δ3.n (⟨some v,.dat m e,F⟩::⟨some (.ref D),.acc acc,D::G⟩::T) H3:=hA3.sub (Cm _ _)
    exact k2 _ _ _ _ (G++F) (λz=>nomatch z) ((hA4.perm (Et _ _ _)).accPutG p3.1 hz) p3.2
  ·exact p3.elim
theorem uK{dt:TT}:∀σ H Q,LT K gE σ H Q->gW σ H Q:=by
 intro σ H Q h
 obtain ⟨H0,Y,S,T,δ,P,rfl,hS,hA,hd,k⟩:=h
 exact k true δ S H rfl hS hA hd
theorem uQ.imp{X:Cx}{e:List Expr}{t t':TT}(h:uQ X e t)(k:∀σ H Q,t' σ H Q->t σ H Q):uQ X e t':=λpins s σ H Q I q=>h pins s σ H Q I (k σ H Q q)
theorem qN{b:Bool}{di:DI}{js:List Nat}{dc:DT}{de:DE}:∀σ H Q,LE K (vU b di js dc de) σ H Q->jR (LI K di) js (LT K dc) (LE K de) σ H Q:=by
 intro σ H Q h
 obtain ⟨H0,Y,S,T,δ,P,rfl,hS,hA,hd,k⟩:=h
 refine ⟨H0,Y,S,T,δ,_,rfl,hS,hA,hd,λm ds δ1 J hid S1 H1 e1 e2 hA1 it hz p1=>?_⟩
 obtain ⟨I,h0,hs,hf⟩:=p1
 rw[<- e1]
 intro D hD
 refine ⟨λi q H=>q=ds.length - i/\i<=ds.length/\∃acc n G,(b=true->G=[])/\At K H0 Y n (⟨some (.ref D),.acc acc,D::G⟩::(S1++(hid++T))) H/\acc.length<=i/\I i acc n,⟨ds.length,by simp,Do _,[],δ1.n,[],λ_=>rfl,hA1.accNew hD,Ai _,h0⟩,?_⟩
 (intro i q H q_; obtain ⟨rfl,hi,acc,n,G,hG,hA2,hl,hI⟩ := q_)
 have hid_ok:∀e∈hid,Hi K H n e:=λe he=>hA2.ok e (Ae _ (Ag _ (Al _ he)))
 by_cases hlt:i<ds.length
 ·refine .inr ⟨it.go H n i hid_ok hlt,λx H' y=>?_⟩
  obtain ⟨s1,d,F,h1,h2,h3⟩:=it.yld H n i x H' hid_ok hlt y
  have hA3:At K H0 Y n ((⟨some (.ref D),.acc acc,D::G⟩::S1)++⟨some x,.dat m d,F⟩::(hid++T)) H':=At.item (S:=⟨some (.ref D),.acc acc,D::G⟩::S1) hA2 s1 h2 h3 it.md it.hd it.np
  have hA4:=hA3.mid
  have hA5:=At.view (S:=S1) hA4 (λe he=>Ae _ (Al _ (Ae _ he))) js
  have hA6:At K H0 Y n ((⟨some x,.dat m d,F⟩::Zq S1 js)++⟨some (.ref D),.acc acc,D::G⟩::(S1++(hid++T))) H':=hA5.mid
  have hS6:Sl (⟨some x,.dat m d,F⟩::Zq S1 js) ⟨.dat m d::frD δ1.sl js,n⟩:=by
   unfold Sl
   rw[Ar,pN e2]
  have hv:vs (⟨some x,.dat m d,F⟩::Zq S1 js)=some x::Hg (vs S1) js:=by
   rw[<- qH]
   rfl
  refine ⟨λH2=>∃m',m'<ds.length - i/\_,λy H3=>∃acc,H3 D=some (.lst acc)/\acc.length<Bb/\∃m',m'<ds.length - i/\_,λH2 q=>q,λy H3 q=>q,?_⟩
  rw[<- hv]
  refine mF hS6 hG hA6 (hs i d acc n h1 hI) (by omega) (λn' H2 hA7 p=>?_) (λe n' v H2 G' hG' hA7 p=>?_)
  ·exact ⟨ds.length - (i+1),by omega,rfl,hlt,acc,n',G,hG,hA7,by omega,p⟩
  ·obtain ⟨xs,g1,g2,g3⟩:=hA7
   exact ⟨xs,g1,by omega,ds.length - (i+1),by omega,rfl,hlt,acc++[e],n',G',hG',g3,by rw[Bh]; simp; omega,p⟩
 ·have e:i=ds.length:=by omega
  subst e
  refine .inl ⟨it.stop H n hid_ok,k _ ⟨δ1.sl,n⟩ _ (D::G) S1 H e1 e2 ?_ (hf acc n hI)⟩
  have hA3:=hA2.accGetG hG
  have hA4:At K H0 Y n (⟨some (.ref D),.dat (fF b) (.list acc),D::G⟩::(S1++T)) H:=hA3.sub (((Dl S1).append (Cm hid T)).cons₂ _)
  exact hA4.tomid
theorem wG{b:Bool}{di:DI}{js:List Nat}{dc:DT}{de:DE}:∀σ H Q,LE K (rQ b di js dc de) σ H Q->nY K (LI K di) js (LT K dc) (LE K de) σ H Q:=by
 intro σ H Q h
 obtain ⟨H0,Y,S,T,δ,P,rfl,hS,hA,hd,k⟩:=h
 refine ⟨H0,Y,S,T,δ,_,rfl,hS,hA,hd,λm ds δ1 J hid S1 H1 e1 e2 hA1 it hz p1=>?_⟩
 obtain ⟨I,h0,hs,hf⟩:=p1
 rw[<- e1]
 intro D hD
 refine ⟨λi q H=>q=ds.length - i/\i<=ds.length/\∃acc n G,(b=true->G=[])/\At K H0 Y n (⟨some (.ref D),.acc acc,D::G⟩::(S1++(hid++T))) H/\acc.length<=i/\I i acc n,⟨ds.length,by simp,Do _,[],δ1.n,[],λ_=>rfl,hA1.accNew hD,Ai _,h0⟩,?_⟩
 (intro i q H q_; obtain ⟨rfl,hi,acc,n,G,hG,hA2,hl,hI⟩ := q_)
 have hid_ok:∀e∈hid,Hi K H n e:=λe he=>hA2.ok e (Ae _ (Ag _ (Al _ he)))
 by_cases hlt:i<ds.length
 ·refine .inr ⟨it.go H n i hid_ok hlt,λx H' y=>?_⟩
  obtain ⟨s1,d,F,h1,h2,h3⟩:=it.yld H n i x H' hid_ok hlt y
  obtain ⟨d1,d2,rfl,hst⟩:=hs i d acc n h1 hI
  obtain ⟨t,xs,rfl,ht,rt,_⟩:=h2.tup_inv
  cases rt with
  | @cons w1 _ xs _ F1 _ r1 rt =>
   cases rt with
   | @cons w2 _ xs _ F2 G r2 rt =>
    cases rt
    have hA3:At K H0 Y n ((⟨some (.ref D),.acc acc,D::G⟩::S1)++⟨some w1,.dat m d1,F1⟩::(hid++T)) H':=At.item (S:=⟨some (.ref D),.acc acc,D::G⟩::S1) hA2 s1 r1 (λa ha=>h3 a (Al _ ha)) it.md it.hd it.np
    have hA3':At K H0 Y n ((⟨some w1,.dat m d1,F1⟩::⟨some (.ref D),.acc acc,D::G⟩::S1)++(hid++T)) H':=hA3.mid
    have hA3'':At K H0 Y n ((⟨some w1,.dat m d1,F1⟩::⟨some (.ref D),.acc acc,D::G⟩::S1)++⟨some w2,.dat m d2,F2⟩::(hid++T)) H':=At.item hA3' (Yy.refl _) r2 (λa ha=>h3 a (Ag _ (Al _ ha))) it.md it.hd it.np
    have hA4:At K H0 Y n (⟨some w1,.dat m d1,F1⟩::⟨some w2,.dat m d2,F2⟩::⟨some (.ref D),.acc acc,D::G⟩::(S1++(hid++T))) H':=hA3''.mid.perm (Et _ _ _)
    have hA5:=At.view (S:=S1) hA4 (λe he=>Ae _ (Ae _ (Ae _ (Al _ he)))) js
    have hA6:At K H0 Y n ((⟨some w1,.dat m d1,F1⟩::⟨some w2,.dat m d2,F2⟩::Zq S1 js)++⟨some (.ref D),.acc acc,D::G⟩::(S1++(hid++T))) H':=by
     have z:=hA5.mid
     refine z.perm ?_
     exact (Hb).cons _
    have hS6:Sl (⟨some w1,.dat m d1,F1⟩::⟨some w2,.dat m d2,F2⟩::Zq S1 js) ⟨.dat m d1::.dat m d2::frD δ1.sl js,n⟩:=by
     unfold Sl
     rw[Ar,Ar,pN e2]
    have hv:vs (⟨some w1,.dat m d1,F1⟩::⟨some w2,.dat m d2,F2⟩::Zq S1 js)=some w1::some w2::Hg (vs S1) js:=by
     rw[<- qH]
     rfl
    refine ⟨t,w1,w2,rfl,Ur.of ht,λH2=>∃m',m'<ds.length - i/\_,λy H3=>∃acc,H3 D=some (.lst acc)/\acc.length<Bb/\∃m',m'<ds.length - i/\_,λH2 q=>q,λy H3 q=>q,?_⟩
    rw[<- hv]
    refine mF hS6 hG hA6 hst (by omega) (λn' H2 hA7 p=>?_) (λe n' v H2 G' hG' hA7 p=>?_)
    ·exact ⟨ds.length - (i+1),by omega,rfl,hlt,acc,n',G,hG,hA7,by omega,p⟩
    ·obtain ⟨xs,g1,g2,g3⟩:=hA7
     exact ⟨xs,g1,by omega,ds.length - (i+1),by omega,rfl,hlt,acc++[e],n',G',hG',g3,by rw[Bh]; simp; omega,p⟩
 ·have e:i=ds.length:=by omega
  subst e
  refine .inl ⟨it.stop H n hid_ok,k _ ⟨δ1.sl,n⟩ _ (D::G) S1 H e1 e2 ?_ (hf acc n hI)⟩
  have hA3:=hA2.accGetG hG
  have hA4:At K H0 Y n (⟨some (.ref D),.dat (fF b) (.list acc),D::G⟩::(S1++T)) H:=hA3.sub (((Dl S1).append (Cm hid T)).cons₂ _)
  exact hA4.tomid
end
section
variable{X:Cx}{elt iter c:Expr}{x x2 y0:Str}{px px2 pt py pos spos:Pos}{kt i0:Nat}{ifs:List Expr}{scope:Scope}{cl:List (Str×Addr)}{ys:List Str}{js:List Nat}{di:DI}{dc:DT}{de:DE}
theorem Rh:uQ X [] (LT X.K gE):=uQ.imp xJ (uK (dt:=gW))
theorem Os(h:dO X c dc):uQ X [c] (LT X.K dc):=F7 h
theorem Ly(C:CompScope X scope cl x ys js)(hc:X.calm=true)(hi:xU X (.Name x px) iter di)(ht:∀fp s H,uQ (Fi X scope cl (x::ys) fp s H) ifs (LT X.K dc))(he:∀fp s H,Fc (Fi X scope cl (x::ys) fp s H) elt de)(hs:∀x,Eu iter X.env x=pure x:=by intro _; rfl):Fc X (.ListComp elt [⟨.Name x px,iter,ifs,0⟩] scope pos) (zI di js dc de):=PE.imp (rN C hc hi ht he hs) qN
def FK(o:Bool)(i:Nat):DG:=match o with
 | true=>jU i
 | false=>Qf i
theorem CU{K:PySem.W.Frag}{o:Bool}{i:Nat}:∀v σ H Q,LG K (FK o i) v σ H Q->Tn i v σ H Q:=by
 cases o with
 | true=>exact zN
 | false=>exact gU
theorem B2{o:Bool}(hN:X.N.Nodup)(hi0:X.N[i0]? = some y0)(hy0:X.env.scope.names.lookup y0=some .local)(C:CompScope X scope cl x ys js)(hc:X.calm=true)(hi:xU X (.Name x px) iter di)(ht:∀fp s H,uQ (Fi X scope cl (x::ys) fp s H) ifs (LT X.K dc))(he:∀fp s H,Fc (Fi X scope cl (x::ys) fp s H) elt de)(hs:∀x,Eu iter X.env x=pure x:=by intro _; rfl)(hsw:Kf (.ListComp elt [⟨.Name x px,iter,ifs,0⟩] scope pos) (some (.Name y0 py)) spos.line X.env=pure true:=by rfl):gO X (.Assign [.Name y0 py] (.ListComp elt [⟨.Name x px,iter,ifs,0⟩] scope pos) spos) (oS (zI di js dc de) (FK o i0)):=PS.impD (F9 hN hi0 hy0 C hc hi ht he hs hsw) (bX qN CU)
theorem sX{o:Bool}(hN:X.N.Nodup)(hi0:X.N[i0]? = some y0)(hy0:X.env.scope.names.lookup y0=some .local)(C:CompScope X scope cl x ys js)(own2:xZ scope x2)(nd2:(x::x2::ys).Nodup)(hc:X.calm=true)(hi:xU X (.Tuple [.Name x px,.Name x2 px2] kt pt) iter di)(ht:∀fp s H,uQ (Fi X scope cl (x::x2::ys) fp s H) ifs (LT X.K dc))(he:∀fp s H,Fc (Fi X scope cl (x::x2::ys) fp s H) elt de)(hs:∀x,Eu iter X.env x=pure x:=by intro _; rfl)(hsw:Kf (.ListComp elt [⟨.Tuple [.Name x px,.Name x2 px2] kt pt,iter,ifs,0⟩] scope pos) (some (.Name y0 py)) spos.line X.env=pure true:=by rfl):gO X (.Assign [.Name y0 py] (.ListComp elt [⟨.Tuple [.Name x px,.Name x2 px2] kt pt,iter,ifs,0⟩] scope pos) spos) (oS (qP di js dc de) (FK o i0)):=PS.impD (yS hN hi0 hy0 C own2 nd2 hc hi ht he hs hsw) (bX wG CU)
end
end DL
namespace DL
open PySem PySem.Spec PyProof.Rows L2 Nd
section
variable{K:PySem.W.Frag}{H0 H H':Hp}{X:Addr->Prop}{n n':Nat}{E S T:List Ent}
theorem At.pushF(h:At K H0 X n E H){v:V}{d:Ad}{F:List Addr}(r:RdF K H v d F)(nd:F.Nodup)(fr:∀a∈F,∀f∈E,a∉f.F)(f0:∀a∈F,H0 a=none):At K H0 X n (⟨some v,.dat .ow d,F⟩::E) H:=by
 refine h.push ⟨v,rfl,r,λ_=>nd,λz=>nomatch z⟩ (λf hf=>⟨λ_ a ha z=>fr a ha f hf z,λ_ a ha z=>fr a z f hf (Fm _ _ ha)⟩) λa ha=>.inl (f0 a ha)
theorem At.drawn(h:At K H0 X n E H){e:Ent}{dr:Addr}(he:e∈E)(hx:e.x=.drw)(hv:e.v=some (.ref dr))(s:To dr H H')(hd:∃c k f,aG H' dr c k f/\0<=k/\k<=(n':Int))(hn:n<=n'):At K H0 X n' E H':=by
 obtain ⟨v,x,F⟩:=e
 have hx':x=.drw:=hx
 subst hx'
 obtain ⟨dr',c0,k0,f0,hv',hF,hd0,_⟩:=h.ok _ he
 have e1:some (V.ref dr)=some (V.ref dr'):=hv.symm.trans hv'
 cases e1
 have hF':F=[dr]:=hF
 subst hF'
 refine ⟨λf hf=>?_,h.sep,h.new,λb o nx q=>?_,λb o q=>?_,λb hb=>?_⟩
 rotate_right
 ·obtain ⟨z,c,k,f,h1,h2,h3⟩:=h.xd b hb
  by_cases hbd:b=dr
  ·subst hbd
   exact ⟨z,hd⟩
  ·exact ⟨z,c,k,f,s _ _ hbd h1,h2,by omega⟩
 ·rcases nU h he hf with rfl | q
  ·obtain ⟨c,k,fl,h1,h2,h3⟩:=hd
   exact ⟨dr,c,k,fl,hv',rfl,h1,h2,h3⟩
  ·have nf:dr∉f.F:=q.1 (.inr rfl) dr Aa
   refine (h.ok f hf).kp (λb o eb z=>?_) hn
   by_cases hb:b=dr
   ·subst hb
    rcases z with z | z
    ·exact absurd z nf
    ·have hd0':H b=some (.lst _):=hd0
     rw[eb] at hd0'
     cases hd0'
     rcases z with ⟨_,z⟩ | ⟨_,_,z⟩ <;> cases z
   ·exact s b o hb eb
 ·have hb:b≠dr:=by
   rintro rfl
   rcases h.new _ he b Aa with z | z
   ·rw[z] at q; cases q
   ·exact nx z.1
  exact s b o hb (h.same b o nx q)
 ·by_cases hb:b=dr
  ·subst hb
   obtain ⟨c,k,fl,h1,_⟩:=hd
   exact ⟨_,h1⟩
  ·obtain ⟨o',z⟩:=h.dom b o q
   exact ⟨o',s b o' hb z⟩
end
abbrev PF:=List Ad->(Ad->Prop)->Prop
abbrev DF:=List Ad->Nat->(Ad->Nat->Prop)->Prop
def Nr(K:PySem.W.Frag)(pf:PF):Sp:=λus H Q _=>∃(As:List Ent) (n:Nat) (ds:List Ad) (R:Ad->Prop),As.map Ent.v=us.map some/\(∀e∈As,Hi K H n e)/\datas (As.map Ent.x)=some ds/\pf ds R /\
 ∀v d F H',R d->RdF K H' v d F->F.Nodup->(∀a∈F,H a=none)->Yy H H'->Q v H'
def B8(K:PySem.W.Frag)(df:DF):Sp:=λus H Q _=>∃(dr:Addr) (ws:List V) (As:List Ent) (n:Nat) (ds:List Ad) (R:Ad->Nat->Prop),us=.ref dr::ws/\As.map Ent.v=ws.map some/\(∀e∈As,Hi K H n e)/\(∀e∈As,dr∉e.F)/\(∃c k f,aG H dr c k f/\0<=k/\k<=(n:Int))/\datas (As.map Ent.x)=some ds/\df ds n R /\
 ∀v d F n' H',n<=n'->R d n'->RdF K H' v d F->F.Nodup->(∀a∈F,H a=none)->(∃c k f,aG H' dr c k f/\0<=k/\k<=(n':Int))->To dr H H'->Q v H'
def yX(pf:PF)(da:DA):DE:=λδ P=>da δ λxs δ1=>match datas xs with
 | some ds=>pf ds λd=>P (.dat .ow d) δ1
 | none=>False
def oQ(i:Nat)(df:DF)(da:DA):DE:=λδ P=>match δ.sl[i]? with
 | some .drw=>da δ λxs δ1=>match δ1.sl[i]? with
  | some .drw=>match datas xs with
   | some ds=>df ds δ1.n λd n'=>P (.dat .ow d) ⟨δ1.sl,n'⟩
   | none=>False
  | _=>False
 | _=>False
section
variable{X:Cx}{CX:qA}{k:Nat}{f:Addr}{fd:Cq}{ps:List Str}{pf:PF}{df:DF}{E:XK}{x:Str}{p pos:Pos}{e e0:Expr}{es:List Expr}{da:DA}
theorem Dy(F:FnOk X.prog X.w X.K X.mg X.base CX k f fd ps (Nr X.K pf))(hr:Room k X.A)(hg:Gl X x)(hm:X.mg x=some (.ref f))(hk:PySem.W.keepIn X.K (.ref f)=true)(hb:Binds X.K fd ps [])(hx:Oy CX X E)(ha:mQ X (e::es) da)(hdb:(x == ("__debug__" : Str))=false:=by decide)(he:By (e::es) X.env=(false,eval e X.env)::By es X.env:=by rfl)(hpl:(Iq pos (By es X.env)).any (·.1)=false:=by rfl):Fc X (.Call (.Name x p) (e::es) [] pos) (yX pf da):=by
 refine PE.imp (Va F hr hg hm hk hb .nil hx ha hdb he hpl) λσ H Q h=>?_
 obtain ⟨H0,Y,S,T,δ,P,rfl,hS,hA,hd,kk⟩:=h
 refine ⟨H0,Y,S,T,δ,_,rfl,hS,hA,hd,λxs δ' As us S' H' e1 e2 ex eu hA' p=>?_⟩
 subst ex
 cases q:datas (As.map Ent.x) with
 | none=>rw[q] at p; exact p.elim
 | some ds =>
  rw[q] at p
  rw[Ea]
  refine ⟨As,δ'.n,ds,_,eu,λe he=>hA'.ok e (Ag _ (Al _ he)),q,p,λv d F H'' r rd nd fr s=>?_⟩
  exact kk _ δ' v F S' H'' e1 e2 (((hA'.dropL.grow s (Ai _)).pushF rd nd (λa ha=>hA'.dropL.free (fr a ha)) (λa ha=>hA'.new0 (fr a ha))).tomid) r
theorem EI(F:FnOk X.prog X.w X.K X.mg X.base CX k f fd ps (Nr X.K pf))(hr:Room k X.A)(hg:Gl X x)(hm:X.mg x=some (.ref f))(hk:PySem.W.keepIn X.K (.ref f)=true)(hb:Binds X.K fd ps [])(hx:Oy CX X E)(hdb:(x == ("__debug__" : Str))=false:=by decide):Fc X (.Call (.Name x p) [] [] pos) (yX pf Q1):=by
 refine PE.imp (wH F hr hg hm hk hb .nil hx hdb) λσ H Q h=>?_
 obtain ⟨H0,Y,S,T,δ,P,rfl,hS,hA,hd,kk⟩:=h
 show Nr X.K pf [] H Q E
 refine ⟨[],δ.n,[],_,rfl,λe he=>(nomatch he),rfl,hd,λv d F H'' r rd nd fr s=>?_⟩
 exact kk _ δ v F S H'' rfl hS (((hA.grow s (Ai _)).pushF rd nd (λa ha=>hA.free (fr a ha)) (λa ha=>hA.new0 (fr a ha))).tomid) r
theorem Pj{i:Nat}(F:FnOk X.prog X.w X.K X.mg X.base CX k f fd ps (B8 X.K df))(hr:Room k X.A)(hg:Gl X x)(hm:X.mg x=some (.ref f))(hk:PySem.W.keepIn X.K (.ref f)=true)(hb:Binds X.K fd ps [])(hx:Oy CX X E)(h0:PE X e0 (gN i))(ha:mQ X es da)(hdb:(x == ("__debug__" : Str))=false:=by decide)(he:By (e0::es) X.env=(false,eval e0 X.env)::By es X.env:=by rfl)(hpl:(Iq pos (By es X.env)).any (·.1)=false:=by rfl):Fc X (.Call (.Name x p) (e0::es) [] pos) (oQ i df da):=by
 refine PE.imp (Va F hr hg hm hk hb .nil hx (Jf h0 ha he) hdb he hpl) λσ H Q h=>?_
 obtain ⟨H0,Y,S,T,δ,P,rfl,hS,hA,hd,kk⟩:=h
 unfold oQ at hd
 split at hd
 case h_2=>exact hd.elim
 rename_i hsl0
 have main:∀w,(vs S)[i]? = some (some w)->LA X.K da (vs S) H λxs H2=>B8 X.K df ((w::xs)++[]) H2 Q E:=λw hw=>by
  refine ⟨H0,Y,S,T,δ,_,rfl,hS,hA,hd,λxs δ' As us S' H' e1 e2 ex eu hA' p=>?_⟩
  subst ex
  split at p
  ·rename_i hsl
   obtain ⟨ent,s1,s2⟩:=Jy e2 hsl
   have hm':ent∈S':=Ax s1
   have hv:ent.v=some w:=by
    have:=Oo s1
    rw[e1,hw] at this
    exact (Cj this).symm
   obtain ⟨u,z,F⟩:=ent
   have s2':z=.drw:=s2
   subst s2'
   have hE:(⟨u,.drw,F⟩ : Ent)∈S'++(As++T):=Al _ hm'
   obtain ⟨dr,c0,k0,f0,hv0,hF0,hd0,hk0,hk1⟩:=hA'.ok _ hE
   have ew:some w=some (V.ref dr):=hv.symm.trans hv0
   cases ew
   have hF':F=[dr]:=hF0
   subst hF'
   cases q:datas (As.map Ent.x) with
   | none=>rw[q] at p; exact p.elim
   | some ds =>
    rw[q] at p
    rw[Ea]
    refine ⟨dr,us,As,δ'.n,ds,_,rfl,eu,λe he=>hA'.ok e (Ag _ (Al _ he)),λe he=>?_,⟨c0,k0,f0,hd0,hk0,hk1⟩,q,p,λv d F n' H'' hn r rd nd fr hdr s=>?_⟩
    ·obtain ⟨_,_,hp⟩ := Ce.mp hA'.sep
     exact (hp _ hm' e (Al _ he)).1 (.inr rfl) dr Aa
    ·have hA2:=hA'.dropL.drawn (Al _ hm') rfl hv s hdr hn
     exact kk _ ⟨δ'.sl,n'⟩ v F S' H'' e1 e2 ((hA2.pushF rd nd (λa ha=>hA'.dropL.free (fr a ha)) (λa ha=>hA'.new0 (fr a ha))).tomid) r
  ·exact p.elim
 obtain ⟨ent,s1,s2⟩:=Jy hS hsl0
 have hm':ent∈S:=Ax s1
 obtain ⟨u,z,F⟩:=ent
 have s2':z=.drw:=s2
 subst s2'
 obtain ⟨dr,c0,k0,f0,hv0,_⟩:=hA.ok _ (Al _ hm')
 have hw:(vs S)[i]? = some (some (.ref dr)):=(Oo s1).trans (congrArg some hv0)
 exact ⟨_,hw,main _ hw⟩
def Vj:Sp:=λvs H Q _=>∃c:Int,vs=[.int c]/\∀(p:Addr) (c':Int) (f:Bool) (H':Hp),H p=none->aG H' p c' 0 f->Yy H H'->Q (.ref p) H'
def yW(da:DA):DE:=λδ P=>da δ λxs δ1=>match xs with
 | [.dat _ (.int _)]=>P .drw δ1
 | _=>False
theorem i3(F:FnOk X.prog X.w X.K X.mg X.base CX k f fd ps Vj)(hr:Room k X.A)(hg:Gl X x)(hm:X.mg x=some (.ref f))(hk:PySem.W.keepIn X.K (.ref f)=true)(hb:Binds X.K fd ps [])(hx:Oy CX X E)(ha:mQ X (e::es) da)(hdb:(x == ("__debug__" : Str))=false:=by decide)(he:By (e::es) X.env=(false,eval e X.env)::By es X.env:=by rfl)(hpl:(Iq pos (By es X.env)).any (·.1)=false:=by rfl):Fc X (.Call (.Name x p) (e::es) [] pos) (yW da):=by
 refine PE.imp (Va F hr hg hm hk hb .nil hx ha hdb he hpl) λσ H Q h=>?_
 obtain ⟨H0,Y,S,T,δ,P,rfl,hS,hA,hd,kk⟩:=h
 refine ⟨H0,Y,S,T,δ,_,rfl,hS,hA,hd,λxs δ' As us S' H' e1 e2 ex eu hA' p=>?_⟩
 split at p
 ·obtain ⟨v,F,rfl,hA2⟩:=Je eu hA' ex
  obtain ⟨rfl,_⟩:=(hA2.told mem_mid).int_inv
  refine ⟨_,rfl,λq c' fl H'' nq hdr s=>?_⟩
  have h3:=hA2.drop.grow (n':=δ'.n) s (Ai _)
  refine kk _ δ' _ [q] S' H'' e1 e2 ((h3.push (e:=⟨some (.ref q),.drw,[q]⟩) ⟨q,_,0,fl,rfl,rfl,hdr,by decide,by omega⟩ (λf hf=>?_) λa ha=>?_).tomid) p
  ·have nf:=hA2.drop.free nq f hf
   refine ⟨λ_ a ha z=>?_,λ_ a ha z=>?_⟩
   ·rw[Af.mp ha] at z
    exact nf z
   ·rw[Af.mp z] at ha
    exact nf (Fm _ _ ha)
  ·rw[Af.mp ha]
   exact .inl (hA2.new0 nq)
 ·exact p.elim
end
def args0(ds:List Ad)(k:Nat):List DV:=ds.map (λd=>.dat .sh d)++Io k .un
def Wz(e:Ent):Ent:=match e.x with
 | .dat _ d=>⟨e.v,.dat .sh d,e.F⟩
 | _=>e
theorem Iv:∀{xs:List DV} {ds:List Ad},datas xs=some ds->xs.length=ds.length
 | [],ds,h=>by cases h; rfl
 | x::xs,ds,h=>by
  cases x with
  | dat m d =>
   cases q:datas xs with
   | none=>simp [datas,q] at h
   | some es =>
    simp [datas,q] at h
    subst h
    rw[Ay,Ay,Iv q]
  | _=>cases h
theorem Qx:∀{As:List Ent} {ds:List Ad},datas (As.map Ent.x)=some ds->(As.map Wz).map Ent.x=ds.map (λd=>.dat .sh d)
 | [],ds,h=>by cases h; rfl
 | ⟨v,x,F⟩::As,ds,h=>by
  rw[Ar] at h
  cases x with
  | dat m d =>
   cases q:datas (As.map Ent.x) with
   | none=>simp [datas,q] at h
   | some es =>
    simp [datas,q] at h
    subst h
    rw[Ar,Ar,Ar,Qx q]
    rfl
  | _=>cases h
theorem Wm:∀{As:List Ent} {ds:List Ad},datas (As.map Ent.x)=some ds->∀e∈As,∃m d,e.x=.dat m d
 | [],ds,h,e,he=>nomatch he
 | ⟨v,x,F⟩::As,ds,h,e,he=>by
  rw[Ar] at h
  cases x with
  | dat m d =>
   cases q:datas (As.map Ent.x) with
   | none=>simp [datas,q] at h
   | some es =>
    rcases Ao.mp he with rfl | he
    ·exact ⟨m,d,rfl⟩
    ·exact Wm q e he
  | _=>cases h
theorem F8(As:List Ent):(As.map Wz).map Ent.v=As.map Ent.v:=by
 rw[Ek]
 refine Ig λe _=>?_
 obtain ⟨v,x,F⟩:=e
 cases x <;> rfl
def Gv(k:Nat):List Ent:=Io k ⟨none,.un,[]⟩
theorem Zk{As:List Ent}{ds:List Ad}(q:datas (As.map Ent.x)=some ds)(k:Nat):∀e∈As.map Wz++Gv k,cells e=[]/\E2 e.x=false:=λe he=>by
 rcases Aw.mp he with he | he
 ·obtain ⟨f,hf,rfl⟩:=Br.mp he
  obtain ⟨m,d,hx⟩:=Wm q f hf
  obtain ⟨v,x,F⟩:=f
  have hx':x=.dat m d:=hx
  subst hx'
  exact ⟨rfl,rfl⟩
 ·rw[(Jb.mp he).2]
  exact ⟨rfl,rfl⟩
theorem Pl{α:Type}{R:α->α->Prop}:∀{l:List α},(∀a∈l,∀b∈l,R a b)->l.Pairwise R
 | [],_=>Fg
 | a::l,h=>Bc.mpr ⟨λb hb=>h a Aa b (Ae _ hb),Pl λx hx y hy=>h x (Ae _ hx) y (Ae _ hy)⟩
theorem qF{K:PySem.W.Frag}{H:Hp}{n:Nat}{As:List Ent}{ds:List Ad}(q:datas (As.map Ent.x)=some ds)(ok:∀e∈As,Hi K H n e)(k:Nat):∀e∈As.map Wz++Gv k,Hi K H n e:=λe he=>by
 rcases Aw.mp he with he | he
 ·obtain ⟨f,hf,rfl⟩:=Br.mp he
  obtain ⟨m,d,hx⟩:=Wm q f hf
  have o:=ok f hf
  obtain ⟨v,x,F⟩:=f
  have hx':x=.dat m d:=hx
  subst hx'
  obtain ⟨w,h1,h2,_⟩:=o
  exact ⟨w,h1,h2,λz=>(nomatch z),λz=>(nomatch z)⟩
 ·rw[(Jb.mp he).2]
  exact (rfl:([]:List Addr)=[])
theorem Mb{α β:Type}(f:α->β)(k:Nat)(a:α):(Io k a).map f=Io k (f a):=by
 rw[List.map_replicate]
def retE(R:Ad->Prop):DEnds where
 nx:=λ_=>R .none
 rt:=λx _=>∃d,x=.dat .ow d/\R d
def retW(n:Nat)(R:Ad->Nat->Prop):DEnds where
 nx:=λδ=>n<=δ.n/\R .none δ.n
 rt:=λx δ=>n<=δ.n/\∃d,x=.dat .ow d/\R d δ.n
section
variable{P:Bj}{w:World}{K:PySem.W.Frag}{mg:Str->Option Value}{base:Heap}
theorem Gy{x qual:Str}{st:Stmt}{f:Addr}{fd:Cq}{N ps:List Str}{k:Nat}{pf:PF}{db:DB}(F:Fun K x qual st f fd)(S:FnScope N ps (Bq st))(hb:∀(cdv:Value) (A:Cu) (outer:List Env) (s:Aj) (H:Hp) (E:XK),Room k (A.deeper (Pf qual (Bq st) s.heap.objs.size f cdv))->Ug (Me Hn P w K mg base N qual (Bq st) f cdv A outer s H E).nox (Jd st) db)(h:∀ds R,pf ds R->ds.length=ps.length/\db (retE R) ⟨args0 ds (N.length - ps.length),0⟩):FnOk P w K mg base Hn (k+1) f fd ps (Nr K pf):=by
 refine F.ok S (λvs H Q E z=>?_) λcdv A outer s H us Q E hr z=>?_
 ·obtain ⟨As,n,ds,R,eu,ok,q,hp,_⟩:=z
  have l1:=(h ds R hp).1
  have l2:=Iv q
  rw[Ab] at l2
  have l3:=congrArg Fj eu
  rw[Ab,Ab] at l3
  omega
 ·obtain ⟨As,n,ds,R,eu,ok,q,hp,k1⟩:=z
  obtain ⟨l1,hd⟩:=h ds R hp
  have l2:=Iv q
  rw[Ab] at l2
  have l3:=congrArg Fj eu
  rw[Ab,Ab] at l3
  refine ⟨_,hb cdv A outer s H E hr,H,λ_=>False,As.map Wz++Gv (N.length - ps.length),[],⟨args0 ds (N.length - ps.length),0⟩,retE R,?_,?_,λ_ z=>(nomatch z),?_,hd,λδ' S' H' e1 hA p=>?_,λx δ' v F' S' H' e1 hA p=>?_,λ_ _ _ _ _ p=>p.elim,λ_ _ _ _ _ p=>p.elim⟩
  ·unfold vs L2.start Gv
   rw[Bo,F8,eu,Mb,show us.length=ps.length by omega]
  ·unfold Sl args0 Gv
   rw[Bo,Qx q,Mb]
  ·rw[Ea]
   have hs:=Zk q (N.length - ps.length)
   refine ⟨λe he=>?_,Pl λa ha b hb'=>⟨λhq c hc=>?_,λhq c hc=>?_⟩,λe he a ha=>?_,λb o _ e=>e,λb o e=>⟨o,e⟩,λb hb=>hb.elim⟩
   ·have:=qF q ok (N.length - ps.length) e he
    obtain ⟨v,x,F⟩:=e
    cases x with
    | drw=>exact absurd (hs _ he).2 (by show ¬ (true=false); decide)
    | _=>exact this
   ·rw[(hs a ha).1] at hc; cases hc
   ·rw[(hs b hb').1] at hc; cases hc
   ·rw[(hs e he).1] at ha; cases ha
  ·exact k1 .non .none [] H' p .non Cz (λ_ z=>(nomatch z)) λb o e=>hA.same b o (λz=>z) e
  ·obtain ⟨d,rfl,r⟩:=p
   rw[show S'++[(⟨some v,.dat .ow d,F'⟩ : Ent)]=S'++⟨some v,.dat .ow d,F'⟩::[] from rfl] at hA
   obtain ⟨u,e2,rd,nd,_⟩:=hA.ok _ mem_mid
   cases e2
   refine k1 v d F' H' r rd (nd rfl) (λa ha=>?_) λb o e=>hA.same b o (λz=>z) e
   rcases hA.new _ mem_mid a ha with z | z
   ·exact z
   ·exact z.1.elim
theorem E5{x qual:Str}{st:Stmt}{f:Addr}{fd:Cq}{N ps:List Str}{p0:Str}{k:Nat}{df:DF}{db:DB}(F:Fun K x qual st f fd)(S:FnScope N (p0::ps) (Bq st))(hb:∀(cdv:Value) (A:Cu) (outer:List Env) (s:Aj) (H:Hp) (E:XK),Room k (A.deeper (Pf qual (Bq st) s.heap.objs.size f cdv))->Ug (Me Hn P w K mg base N qual (Bq st) f cdv A outer s H E).nox (Jd st) db)(h:∀ds n R,df ds n R->ds.length=ps.length/\db (retW n R) ⟨.drw::args0 ds (N.length - (p0::ps).length),n⟩):FnOk P w K mg base Hn (k+1) f fd (p0::ps) (B8 K df):=by
 refine F.ok S (λvs H Q E z=>?_) λcdv A outer s H us Q E hr z=>?_
 ·obtain ⟨dr,ws,As,n,ds,R,rfl,eu,ok,nd,hdr,q,hp,_⟩:=z
  have l1:=(h ds n R hp).1
  have l2:=Iv q
  rw[Ab] at l2
  have l3:=congrArg Fj eu
  rw[Ab,Ab] at l3
  rw[Ay,Ay]
  omega
 ·obtain ⟨dr,ws,As,n,ds,R,rfl,eu,ok,ndr,hdr,q,hp,k1⟩:=z
  obtain ⟨l1,hd⟩:=h ds n R hp
  have l2:=Iv q
  rw[Ab] at l2
  have l3:=congrArg Fj eu
  rw[Ab,Ab] at l3
  -- what the end tells of the draws: they stand in an old cell
  have ends:∀{E':List Ent} {n':Nat} {H':Hp},At K H (·=dr) n' E' H'->∀b o,b≠dr->H b=some o->H' b=some o:=λhA b o nb e=>hA.same b o nb e
  refine ⟨_,hb cdv A outer s H E hr,H,(·=dr),⟨some (.ref dr),.drw,[dr]⟩::(As.map Wz++Gv (N.length - (p0::ps).length)),[],⟨.drw::args0 ds (N.length - (p0::ps).length),n⟩,retW n R,?_,?_,λ_ z=>(nomatch z),?_,hd,λδ' S' H' e1 hA p=>?_,λx δ' v F' S' H' e1 hA p=>?_,λ_ _ _ _ _ p=>p.elim,λ_ _ _ _ _ p=>p.elim⟩
  ·unfold vs L2.start Gv
   rw[Ar,Bo,F8,eu,Mb,Ay,Ay,show ws.length=ps.length by omega]
   rfl
  ·unfold Sl args0 Gv
   rw[Ar,Bo,Qx q,Mb]
  ·rw[Ea]
   have hs:=Zk q (N.length - (p0::ps).length)
   have hsub:∀e∈As.map Wz++Gv (N.length - (p0::ps).length),dr∉e.F:=λe he=>by
    rcases Aw.mp he with he | he
    ·obtain ⟨f,hf,rfl⟩:=Br.mp he
     obtain ⟨v,x,F⟩:=f
     have:=ndr _ hf
     cases x <;> exact this
    ·rw[(Jb.mp he).2]
     exact Bz
   refine ⟨λe he=>?_,Bc.mpr ⟨λb hb'=>⟨λhq c hc=>?_,λhq c hc=>?_⟩,Pl λa ha b hb'=>⟨λhq c hc=>?_,λhq c hc=>?_⟩⟩,λe he a ha=>?_,λb o _ e=>e,λb o e=>⟨o,e⟩,λb hb=>?_⟩
   rotate_right
   ·subst hb
    obtain ⟨c,kk,fl,z1,z2⟩:=hdr
    exact ⟨λz=>(by rw[show H b=some _ from z1] at z; cases z),c,kk,fl,z1,z2⟩
   ·rcases Ao.mp he with rfl | he
    ·obtain ⟨c,kk,fl,z1,z2,z3⟩:=hdr
     exact ⟨dr,c,kk,fl,rfl,rfl,z1,z2,z3⟩
    ·exact qF q ok _ e he
   ·rw[Af.mp hc]
    exact hsub b hb'
   ·rw[(hs b hb').1] at hc; cases hc
   ·rw[(hs a ha).1] at hc; cases hc
   ·rw[(hs b hb').1] at hc; cases hc
   ·rcases Ao.mp he with rfl | he
    ·rw[Af.mp ha]
     exact .inr ⟨rfl,rfl⟩
    ·rw[(hs e he).1] at ha; cases ha
  ·exact k1 .non .none [] δ'.n H' p.1 p.2 .non Cz (λ_ z=>(nomatch z)) (hA.xd dr rfl).2 (ends hA)
  ·obtain ⟨hn,d,rfl,r⟩:=p
   rw[show S'++[(⟨some v,.dat .ow d,F'⟩ : Ent)]=S'++⟨some v,.dat .ow d,F'⟩::[] from rfl] at hA
   obtain ⟨u,e2,rd,nd,_⟩:=hA.ok _ mem_mid
   cases e2
   refine k1 v d F' δ'.n H' hn r rd (nd rfl) (λa ha=>?_) (hA.xd dr rfl).2 (ends hA)
   rcases hA.new _ mem_mid a ha with z | z
   ·exact z
   ·cases z.2
end
end DL
namespace L2
open PySem PySem.Spec PyProof.Rows
def xI(H:Hp):Prop:=∀b,H b=none\/(∃o xs,H b=some (.frz o (.lst xs)))\/∃ps,H b=some (.tbl ps)
def mO(tabs:List (Addr×Addr×Str))(H:Hp):Hp:=λb=>match tabs.find? (λr=>r.2.1 == b) with | some t=>some (.tbl #[.str t.2.2 0]) | none=>H b
theorem Uq{tabs:List (Addr×Addr×Str)}{H:Hp}{b:Addr}{t:Addr×Addr×Str}(h:tabs.find? (λr=>r.2.1 == b)=some t):mO tabs H b=some (.tbl #[.str t.2.2 0]):=by unfold mO; rw[h]
theorem Lu{tabs:List (Addr×Addr×Str)}{H:Hp}{b:Addr}(h:tabs.find? (λr=>r.2.1 == b)=none):mO tabs H b=H b:=by unfold mO; rw[h]
def gA(q:Bj)(K:PySem.W.Frag):Prop:=∃tabs:List (Addr×Addr×Str),(∀t∈tabs,∃x d,(recsOf q).find? (λe=>e.name == x)=some d/\PySem.W.tabIn K x=some (t.1,t.2.1))/\(∀t∈tabs,∀t'∈tabs,t.2.1=t'.2.1->t=t') /\
 (∀x∈Vg,∀c P,PySem.W.tabIn K x=some (c,P)->(c,P,P7 x)∈tabs)/\∀t∈tabs,K.lookup t.2.1=none
theorem B0{x:Str}(hx:x∈Vg):x = "often" \/ x = "cut_by" := by
 rcases Ao.mp hx with h | hx
 ·exact .inl h
 ·exact .inr (Af.mp hx)
theorem uT{q:Bj}{K:PySem.W.Frag}(h1:PySem.W.tabIn K "often" = none)(h2:PySem.W.tabIn K "cut_by" = none):gA q K:=by
 refine ⟨[],λ_ z=>(nomatch z),λ_ z=>(nomatch z),λx hx c P e=>?_,λ_ z=>(nomatch z)⟩
 rcases B0 hx with rfl | rfl
 ·rw[h1] at e; cases e
 ·rw[h2] at e; cases e
theorem uY{P:Bj}{w:World}{K:PySem.W.Frag}{mg mb:Str->Option Value}{CX:qA}{k:Nat}{fa a:Addr}{fd:Cq}{x:Str}{sp:Sp}{s₁:Aj}{vs:List Value}{ns:List Int}(tabs:List (Addr×Addr×Str))(hT:∀t∈tabs,PySem.W.CodeHd s₁.heap t.1 t.2.1/\s₁.heap.get? t.2.1=some (PySem.W.tabObj #[]))(hu:∀t∈tabs,∀t'∈tabs,t.2.1=t'.2.1->t=t')(hL:∀x∈Vg,∀c P,PySem.W.tabIn K x=some (c,P)->(c,P,P7 x)∈tabs)(hnt:∀t∈tabs,K.lookup t.2.1=none)(hbm:∃bm ob,mg "__builtins__" = some (.ref bm)/\bm≠Uz/\s₁.heap.get? bm=some ob/\ob.cls=.type "module" /\ ob.dict=some Uz/\ob.data=.plain)(KX:K.In s₁.heap)(hns:s₁.heap.Ns Ct mg)(hb:s₁.heap.Ns Uz mb)(hbb:∀x:Str,x ≠ "__name__" -> mb x=Jt x)(hlim:s₁.heap.NoLimit)(hg:s₁.gens=#[])(ha:s₁.heap.get? a=some { cls:=.type "list",data:=.seq vs.toArray })(hi:Ge vs ns)(hl:ns.length<=Bb)(hr:Room k Zc)(F:∀base:Heap,K.In base->base.Ns Ct mg->FnOk P w K mg base CX k fa fd [x] sp)(hbind:∀(s:Aj) (u:Value),BindsTo s fd ⟨[u],[]⟩ [(x,u)])(hsp:∀H:Hp,xI H->DL.KL K H a (ns.map V.int)->sp [.ref a] H (λv _=>v=.bl true) λ_ _ _=>False)(hCX:∀H e s',CX [] H s₁ (λ_ _ _=>False) e s'->False):Mv (model P w) Zc (.call (.ref fa) ⟨[.ref a],[]⟩) (λr s'=>r=.ok (.ret (.bool true))/\OldK s₁.heap s'.heap/\s'.os=s₁.os/\Rv s'.gens) s₁:=by
 have rv:=eL hi
 have lenV:=hi.length
 -- from an abstract heap in which nothing but the script may be tracked
 have core:∀H:Hp,xI H->DL.KL K H a (ns.map V.int)->Vm P w H s₁.heap->(∀b,H b≠none->b=a\/∃t∈tabs,b=t.2.1)->(H a≠none->K.lookup a=none)->(∀t∈tabs,N8 H t.2.1 t.2.2) ->
   Mv (model P w) Zc (.call (.ref fa) ⟨[.ref a],[]⟩) (λr s'=>r=.ok (.ret (.bool true))/\OldK s₁.heap s'.heap/\s'.os=s₁.os/\Rv s'.gens) s₁:=by
  intro H hO hS hok hA hK hTH
  have base_of:∀{b:Addr} {o:Obj},s₁.heap.get? b=some o->H b=none->(dE s₁.heap H).get? b=some o:=λe n=>xK e n
  have noA:∀{b:Addr} {o:Obj} {es:Array DictEntry} {ep:Nat},s₁.heap.get? b=some o->o.data=.dict es ep->H b=none:=λ{b o es ep} e d=>by
   cases q:H b with
   | none=>rfl
   | some u =>
    rcases hA b (by rw[q]; simp) with e' | ⟨t,ht,e'⟩
    ·subst e'
     rw[ha] at e; cases e
     have d':Data.seq vs.toArray _=Data.dict es ep:=d
     cases d'
    ·rw[e',(hT t ht).2] at e; cases e
     cases d
  have nsK:∀{b:Addr} {m:Str->Option Value},s₁.heap.Ns b m->(dE s₁.heap H).Ns b m:=λ{b m} ⟨o,es,ep,e,d,r⟩=>⟨o,es,ep,base_of e (noA e d),d,r⟩
  have hKb:K.In (dE s₁.heap H):=λb o e=>base_of (KX b o e) (by
   cases q:H b with
   | none=>rfl
   | some u =>
    rcases hA b (by rw[q]; simp) with e' | ⟨t,ht,e'⟩
    ·subst e'
     rw[hK (by rw[q]; simp)] at e; cases e
    ·rw[e',hnt t ht] at e; cases e)
  have noC:∀{b:Addr} {o:Obj},s₁.heap.get? b=some o->o.cls≠.none->o.cls≠.type "list" -> H b=none:=λ{b o} e d d2=>by
   cases q:H b with
   | none=>rfl
   | some u =>
    rcases hA b (by rw[q]; simp) with e' | ⟨t,ht,e'⟩
    ·subst e'
     rw[ha] at e; cases e
     exact absurd rfl d2
    ·rw[e',(hT t ht).2] at e; cases e
     exact absurd rfl d
  have hTb:xX K mg (dE s₁.heap H) H:=λx hx c P e=>by
   have ht:=hL x hx c P e
   obtain ⟨bm,ob,b1,b2,b3,b4,b5,b6⟩:=hbm
   obtain ⟨⟨o,us,file,tf,flags,tg,inF,text,tt,e1,r1,r2⟩,hP⟩:=hT _ ht
   refine ⟨⟨o,us,file,tf,flags,tg,inF,text,tt,base_of e1 (noC e1 (by rw[r1]; nofun) (by rw[r1]; simp)),r1,r2⟩,⟨bm,ob,b1,b2,λz=>?_,λz=>?_,base_of b3 (noC b3 (by rw[b4]; nofun) (by rw[b4]; simp)),b4,b5,b6⟩,hTH _ ht⟩
   ·obtain ⟨o',es,ep,e',d,_⟩:=hns
    rw[<- z,b3] at e'; cases e'; rw[b6] at d; cases d
   ·have hP:s₁.heap.get? P=_:=hP
    rw[<- z,b3] at hP; cases hP; cases b4
  have hM:Mod K mg (dE s₁.heap H):=⟨hKb,nsK hns,⟨mb,nsK hb,hbb⟩,let ⟨mc,h1,h2⟩:=hlim; ⟨mc,nsK h1,h2⟩⟩
  have e0:Env0 P w K mg (dE s₁.heap H) Zc [] s₁ H:=⟨rfl,hM,λb o e=>D0 e,Nat.le_of_eq (tN _ _),trivial,λb hb=>absurd (show b∈([]:List Addr) from hb) (by simp),hok,.of_eq hg,hTb⟩
  refine Px ((F _ hKb (nsK hns)).run Zc [] s₁ H ⟨[.ref a],[]⟩ [.ref a] [.ref a] _ _ hr e0 (hbind s₁ (.ref a)) (.cons rfl .nil) (hsp H hO hS)) λr s' h=>?_
  cases r with
  | error e=>exact (hCX H e s' h).elim
  | ok fl =>
   cases fl with
   | next=>exact Kd h
   | brk=>exact Kd h
   | cont=>exact Kd h
   | ret u =>
    obtain ⟨v,H',os,bare,un,hok',r',q⟩:=h
    have q':v=.bl true:=q
    subst q'
    obtain rfl:u=Value.bool true:=r'
    have old:∀b o,s₁.heap.get? b=some o->s'.heap.get? b=some o\/∃t∈tabs,b=t.2.1:=λb o e=>by
     cases q:H b with
     | none=>exact .inl (un.keep b o e q (by intro z; exact absurd (show b∈([]:List Addr) from z) (by simp)) (by simp))
     | some u =>
      rcases hO b with z | ⟨ob,xs,z⟩ | ⟨ps,z⟩
      ·rw[q] at z; cases z
      ·have z2:=un.frzs b ob _ z
       obtain ⟨e1,_⟩:=hok b _ z
       obtain ⟨e2,_⟩:=hok' b _ z2
       rw[e] at e1; cases e1
       exact .inl e2
      ·rcases hA b (by rw[q]; simp) with e' | h'
       ·obtain ⟨_,e1,_⟩:=hok b _ z
        rw[e',ha] at e1; cases e1
       ·exact .inr h'
    have grown:∀t∈tabs,∃ps,s'.heap.get? t.2.1=some (PySem.W.tabObj ps):=λt ht=>by
     obtain ⟨ps,t0,h3,_⟩:=hTH t ht
     obtain ⟨more,h5⟩:=un.tbls _ _ h3
     obtain ⟨qs,e1,_⟩:=hok' _ _ h5
     exact ⟨qs,e1⟩
    refine ⟨rfl,⟨λb o e=>?_,λb o e=>?_⟩,os,bare⟩
    ·rcases old b o e with z | ⟨t,ht,rfl⟩
     ·exact .inl z
     ·obtain ⟨ps,hP⟩:=grown t ht
      have e2:=(hT t ht).2
      rw[e] at e2
      cases e2
      exact .inr (.inl ⟨((hT t ht).1.tab (hT t ht).2).isCodeTable,rfl,#[],ps,rfl,by rw[Array.empty_append]; exact hP⟩)
    ·rcases old b o e with z | ⟨t,ht,rfl⟩
     ·exact ⟨_,z⟩
     ·obtain ⟨ps,hP⟩:=grown t ht
      exact ⟨_,hP⟩
 have tabH:∀(t:Addr×Addr×Str),t∈tabs->tabs.find? (λr=>r.2.1 == t.2.1)=some t:=λt ht=>by
  cases q:tabs.find? (λr=>r.2.1 == t.2.1) with
  | none=>exact absurd (List.find?_eq_none.mp q t ht) (by simp)
  | some r=>exact congrArg some (hu r (Pw q) t ht (by have:=Td q; simpa using this))
 have neA:∀t∈tabs,t.2.1≠a:=λt ht z=>by
  have e:=(hT t ht).2
  rw[z,ha] at e; cases e
 have all:∀H:Hp,(∀b,H b=none\/∃o xs,H b=some (.frz o (.lst xs)))->(∀b,H b≠none->b=a)->(H a≠none->K.lookup a=none)->DL.KL K H a (ns.map V.int)->Vm P w H s₁.heap ->
   Mv (model P w) Zc (.call (.ref fa) ⟨[.ref a],[]⟩) (λr s'=>r=.ok (.ret (.bool true))/\OldK s₁.heap s'.heap/\s'.os=s₁.os/\Rv s'.gens) s₁:=by
  intro H h1 h2 h3 h4 h5
  refine core (mO tabs H) (λb=>?_) ?_ (λb u z=>?_) (λb z=>?_) (λz=>?_) λt ht=>?_
  ·cases q:tabs.find? (λr=>r.2.1 == b) with
   | some t=>exact .inr (.inr ⟨_,Uq q⟩)
   | none =>
    rcases h1 b with z | ⟨o,xs,z⟩
    ·exact .inl (by rw[Lu q]; exact z)
    ·exact .inr (.inl ⟨o,xs,by rw[Lu q]; exact z⟩)
  ·have na:tabs.find? (λr=>r.2.1 == a)=none:=o4.mpr λt ht z=>neA t ht (by simpa using z)
   rcases h4 with ⟨o,h⟩ | h
   ·exact .inl ⟨o,by rw[Lu na]; exact h⟩
   ·exact .inr h
  ·cases q:tabs.find? (λr=>r.2.1 == b) with
   | some t =>
    rw[Uq q] at z
    cases z
    have eb:t.2.1=b:=by have:=Td q; simpa using this
    exact ⟨#[],by rw[<- eb]; exact (hT t (Pw q)).2,by simp [TriplesOk],λpos v y=>by simp [codeAmong] at y⟩
   | none =>
    rw[Lu q] at z
    rcases h1 b with y | ⟨o,xs,y⟩
    ·rw[z] at y; cases y
    ·rw[z] at y
     cases y
     exact h5 b _ z
  ·cases q:tabs.find? (λr=>r.2.1 == b) with
   | some t=>exact .inr ⟨t,Pw q,by have:=Td q; exact (by simpa using this : t.2.1=b).symm⟩
   | none =>
    rw[Lu q] at z
    exact .inl (h2 b z)
  ·have na:tabs.find? (λr=>r.2.1 == a)=none:=o4.mpr λt ht z=>neA t ht (by simpa using z)
   rw[Lu na] at z
   exact h3 z
  ·exact ⟨#[.str t.2.2 0],0,Uq (tabH t ht),rfl⟩
 cases hk:K.lookup a with
 | some o =>
  -- the script is one of the module's own objects
  have e:=KX a o hk
  rw[ha] at e
  cases e
  exact all (λ_=>none) (λ_=>.inl rfl) (λb z=>absurd rfl z) (λz=>absurd rfl z) (.inr ⟨vs.toArray,_,hk,by rw[Av,lenV]; exact hl,by simpa using rv⟩) (λb u z=>by have z':(none:Option HO)=some u:=z; cases z')
 | none =>
  refine all (λb=>if b=a then some (.frz { cls:=.type "list",data:=.seq vs.toArray } (.lst (ns.map V.int))) else none) (λb=>?_) (λb z=>?_) (λ_=>hk) (.inl ⟨{ cls:=.type "list",data:=.seq vs.toArray },if_pos rfl⟩) (λb u z=>?_)
  ·by_cases hb:b=a
   ·exact .inr ⟨_,_,if_pos hb⟩
   ·exact .inl (if_neg hb)
  ·by_cases hb:b=a
   ·exact hb
   ·exact absurd (if_neg hb) z
  ·by_cases hb:b=a
   ·have z':=(if_pos hb).symm.trans z
    cases z'
    subst hb
    exact ⟨ha,by rw[Ab]; exact hl,vs,_,rv,ha⟩
   ·have z':=(if_neg hb).symm.trans z
    cases z'
theorem walk_ofD{l:PySem.W.OpenLaw}{n k:Nat}{q:Bj}{loose:List Str}{XP:(Str->Option Value)->Heap->Prop}{YP:World->Heap->Prop}{d:DefRec}{K:Params->PySem.W.Frag}{CX:World->qA}{sp:World->Sp}{x:Str}(hn:l.most=some n)(hn2:n<=Bb)(hdf:d.params.defaults=[])(hr:Room k Zc)(hY:∀(w:World) (h:Heap),YP w h->(K w.params).In h)(F:∀(w:World) (mg:Str->Option Value) (fa:Addr) (h:Heap),(K w.params).In h->h.Ns Ct mg->mg d.name=some (.ref fa)->(gA q (K w.params))/\∃fd:Cq,(∀(s:Aj) (u:Value),BindsTo s fd ⟨[u],[]⟩ [(x,u)])/\∀base:Heap,(K w.params).In base->base.Ns Ct mg->FnOk l.prog w (K w.params) mg base (CX w) k fa fd [x] (sp w))(hsp:∀(w:World) (H:Hp) (a:Addr) (ns:List Int),ns.length<=n->xI H->DL.KL (K w.params) H a (ns.map V.int)->sp w [.ref a] H (λv _=>v=.bl true) λ_ _ _=>False)(hCX:∀(w:World) (H:Hp) (s:Aj) (e:Value) (s':Aj),CX w [] H s (λ_ _ _=>False) e s'->False):PySem.W.WalkO q loose XP YP l.row.toRowW d [] (λf vs=>PySem.call f vs):=by
 refine Att.attach_call hn hdf λw s₀ s₁ mg mb fa o pm cd doc a vs ns G Y ho hd hcd hmg hobj hints hlen hg=>?_
 have KX:=hY w _ Y
 obtain ⟨⟨tabs,t1,t2,t3,t4⟩,fd,hb,hF⟩:=F w mg fa _ KX G.T.g hmg
 exact uY tabs (λt ht=>by
  obtain ⟨x,d,h1,h2⟩:=t1 t ht
  exact PySem.W.tab_of G.T KX h1 h2) t2 t3 t4 G.T.bmain KX G.T.g G.T.b G.T.builtins G.T.nolimit hg hobj hints (Ci hlen hn2) hr hF hb (λH hO hS=>hsp w H a ns hlen hO hS) λH e s'=>hCX w H s₁ e s'
end L2
namespace DL
open PySem PySem.Spec PyProof.Rows L2 Nd
def npk:List DV->Bool
 | []=>true
 | .dat .pk _::_=>false
 | _::xs=>npk xs
theorem iC:∀{S:List Ent} {sl:List DV},S.map Ent.x=sl->npk sl=true->∀e∈S,Og e.x=false
 | [],_,_,_,e,he=>nomatch he
 | ⟨v,x,F⟩::S,_,h,hn,e,he=>by
  subst h
  rw[Ar] at hn
  have : Og x=false/\npk (S.map Ent.x)=true:=by
   cases x with
   | dat m d=>cases m <;> first | exact ⟨rfl,hn⟩ | cases hn
   | _=>exact ⟨rfl,hn⟩
  rcases Ao.mp he with rfl | he
  ·exact this.1
  ·exact iC rfl this.2 e he
def own1:Md->Bool
 | .ow=>true
 | .tp=>true
 | _=>false
section
variable{K:PySem.W.Frag}{H0 H:Hp}{X:Addr->Prop}{n:Nat}{E:List Ent}
theorem At.write{v:Option V}{m:Md}{ds es:List Ad}{a:Addr}{F G:List Addr}{ys:List V}(h:At K H0 X n (⟨v,.dat m (.list ds),a::F⟩::E) H)(ho:own1 m=true)(hv:v=some (.ref a))(np:∀e∈E,Og e.x=false)(r:RdFs K H ys es G)(hG:G.Sublist F)(hz:es.length<=Bb):At K H0 X n (⟨v,.dat m (.list es),a::G⟩::E) (upd H a (.lst ys)):=by
 obtain ⟨w,e1,rd,hn,ht⟩:=h.ok _ Aa
 obtain ⟨b,xs,G0,e2,ha,ra,eF,_⟩:=rd.list_inv
 have eF':a::F=b::G0:=eF
 cases eF'
 have hs:=Bc.mp h.sep
 have naF:a∉F:=by
  cases m with
  | ow=>exact (Cn.mp (hn rfl)).1
  | tp=>exact ht rfl a F rfl
  | sh=>cases ho
  | pk=>cases ho
 have ca:a∈cells ⟨v,.dat m (.list ds),a::F⟩:=by
  cases m <;> first | exact Aa | cases ho
 have kp:∀{F':List Addr},a∉F'->Kp F' H (upd H a (.lst ys)):=λ{F'} hF b o q z=>by
  have : b≠a:=by
   rintro rfl
   rw[ha] at q
   cases q
   rcases z with z | z
   ·exact hF z
   ·rcases z with ⟨_,z⟩ | ⟨_,_,z⟩ <;> cases z
  rw[Ew this]
  exact q
 have n0:H0 a=none:=by
  rcases h.new _ Aa a ca with z | z
  ·exact z
  ·cases z.2
 have cs:∀c∈cells ⟨v,.dat m (.list es),a::G⟩,c∈cells ⟨v,.dat m (.list ds),a::F⟩:=λc hc=>by
  cases m with
  | ow =>
   rcases Ao.mp hc with z | z
   ·exact Ao.mpr (.inl z)
   ·exact Ao.mpr (.inr (hG.subset z))
  | tp=>exact hc
  | sh=>cases ho
  | pk=>cases ho
 have hsub:∀c∈a::G,c∈a::F:=λc hc=>by
  rcases Ao.mp hc with z | z
  ·exact Ao.mpr (.inl z)
  ·exact Ao.mpr (.inr (hG.subset z))
 have naG:a∉G:=λz=>naF (hG.subset z)
 refine ⟨λf hf=>?_,?_,λf hf=>?_,λb o nx q=>?_,λb o q=>?_,λb hb=>?_⟩
 ·rcases Ao.mp hf with rfl | hf
  ·refine ⟨.ref a,hv,.lst Ed hz (r.kp (kp naG)),λz=>?_,λz c l e=>?_⟩
   ·exact Cn.mpr ⟨naG,(Cn.mp (hn z)).2.sublist hG⟩
   ·cases e
    exact naG
  ·exact (h.ok f (Ae _ hf)).kp (kp ((hs.1 f hf).1 (.inl (np f hf)) a ca)) (Ai _)
 ·refine Bc.mpr ⟨λf hf=>⟨λhq c hc=>(hs.1 f hf).1 (.inl (np f hf)) c (cs c hc),λhq c hc z=>(hs.1 f hf).2 (.inl ?_) c hc (hsub c z)⟩,hs.2⟩
  cases m <;> first | rfl | cases ho
 ·rcases Ao.mp hf with rfl | hf
  ·exact λc hc=>h.new _ Aa c (cs c hc)
  ·exact h.new f (Ae _ hf)
 ·rw[Ew (Gg q n0)]
  exact h.same b o nx q
 ·rw[Ew (Gg q n0)]
  exact h.dom b o q
 ·obtain ⟨z,c,k,f,h1,h2⟩:=h.xd b hb
  refine ⟨z,c,k,f,(Ew ?_).trans h1,h2⟩
  rintro rfl
  exact z n0
end
theorem Ij{α:Type}:∀{l:List α} {i:Nat} {x:α},l[i]? = some x->l.Perm (x::l.eraseIdx i)
 | [],i,x,h=>by simp at h
 | z::l,0,x,h=>by
  simp at h
  subst h
  exact Le _
 | z::l,i+1,x,h=>by
  have ih:=Ij (l:=l) (i:=i) (x:=x) (by simpa using h)
  rw[Qs]
  exact (ih.cons z).trans (Et x z _)
theorem Sm{α:Type}{l:List α}{i:Nat}{x y:α}(h:l[i]? = some x):(l.set i y).Perm (y::l.eraseIdx i):=by
 have hlt:=(An.mp h).1
 have q:=Ij (l:=l.set i y) (i:=i) (x:=y) (by rw[Jw]; simp [hlt])
 rw[List.eraseIdx_set_eq] at q
 exact q
theorem nQ{K:PySem.W.Frag}{H0 H:Hp}{X:Addr->Prop}{S T:List Ent}{δ:DS}{i:Nat}{m:Md}{ds es:List Ad}(hS:Sl S δ)(hT:∀e∈T,Og e.x=false)(hA:At K H0 X δ.n (S++T) H)(hi:δ.sl[i]? = some (.dat m (.list ds)))(ho:own1 m=true)(np:npk δ.sl=true):∃a xs G,(vs S)[i]? = some (some (.ref a))/\H a=some (.lst xs)/\RdFs K H xs ds G/\ds.length<=Bb/\∀ys G',RdFs K H ys es G'->G'.Sublist G->es.length<=Bb->∃S',vs S'=vs S/\Sl S' ⟨δ.sl.set i (.dat m (.list es)),δ.n⟩/\At K H0 X δ.n (S'++T) (upd H a (.lst ys)):=by
 obtain ⟨ent,e2,e3⟩:=Jy hS hi
 have hm:ent∈S:=Ax e2
 obtain ⟨u,x,F⟩:=ent
 have e3':x=.dat m (.list ds):=e3
 subst e3'
 obtain ⟨v,hv,rd,_⟩:=hA.ok _ (Al _ hm)
 obtain ⟨a,xs,G,rfl,ha,ra,eF,hz⟩:=rd.list_inv
 have eF':F=a::G:=eF
 subst eF'
 refine ⟨a,xs,G,by rw[Oo e2]; exact congrArg some hv,ha,ra,hz,λys G' r hG hz'=>?_⟩
 have hn:=iC hS np
 have pm:(S++T).Perm (⟨u,.dat m (.list ds),a::G⟩::(S.eraseIdx i++T)):=by
  exact (Ij e2).append_right T
 have h1:=(hA.perm pm).write (es:=es) (ys:=ys) ho hv (λe he=>?_) r hG hz'
 ·refine ⟨S.set i ⟨u,.dat m (.list es),a::G'⟩,?_,?_,h1.perm ?_⟩
  ·unfold vs
   rw[Hx]
   apply Gn
   intro j
   rw[Jw]
   split
   ·rename_i hij
    subst hij
    rw[Bw,e2]
    split
    ·rfl
    ·rename_i hj
     rw[Ab] at hj
     exact absurd (An.mp e2).1 hj
   ·rfl
  ·unfold Sl at hS ⊢
   rw[Hx,hS]
  ·exact ((Sm e2).append_right T).symm
 ·rcases Aw.mp he with he | he
  ·exact hn e ((Tj S i).subset he)
  ·exact hT e he
def fY(i:Nat)(de:DE):DB:=λD δ=>match δ.sl[i]? with
 | some (.dat _ (.list _))=>de δ λy δ1=>match δ1.sl[i]?,y with
  | some (.dat m (.list ds)),.dat _ e=>own1 m=true/\npk δ1.sl=true/\imm e=true/\ds.length<1000000/\D.nx ⟨δ1.sl.set i (.dat m (.list (ds++[e]))),δ1.n⟩
  | _,_=>False
 | _=>False
section
variable{X:Cx}{o e:Expr}{de:DE}{apos cpos pos:Pos}{i:Nat}
theorem fJ(ho:PE X o (gN i))(he:Fc X e de)(hbase:Ta o "append" X.env (eval o X.env)=eval o X.env:=by rfl)
  (hfew:((Iq cpos (By [e] X.env)).all (λx=>!x.1) && (backToKw cpos (Yi [] X.env)).all (λx=>x.1.isSome)
   && decide (([e]:List Expr).length+([]:List Ru).length+(if ([]:List Ru).isEmpty then 0 else 1)<30))=true:=by rfl)
  (hline:(apos.endLine == cpos.line)=true:=by rfl) (hs:By [e] X.env=(false,eval e X.env)::By [] X.env:=by rfl) (hplain:(Iq cpos (By [] X.env)).any (·.1)=false:=by rfl)
  (hsw:Kf (.Call (.Attribute o "append" apos) [e] [] cpos) none pos.line X.env=pure false:=by rfl) :
  gO X (.Expr (.Call (.Attribute o "append" apos) [e] [] cpos) pos) (fY i de):=by
 refine PS.impD (rO (O4 PySem.F.plainAttrs_list PySem.F.slot_list_append PySem.F.type_list_append Po ho (Jf he Qe hs) hbase hfew hline hs hplain) hsw) λD σ H h=>?_
 obtain ⟨H0,Y,S,T,δ,P,rfl,hS,hT,hA,hd,k1,k2,k3,k4⟩:=h
 unfold fY at hd
 split at hd
 case h_2=>exact hd.elim
 rename_i m0 ds0 hsl
 obtain ⟨ent,e2,e3⟩:=Jy hS hsl
 have hm:ent∈S:=Ax e2
 obtain ⟨u,x,F⟩:=ent
 have e3':x=.dat m0 (.list ds0):=e3
 subst e3'
 obtain ⟨v,hv,rd,_⟩:=hA.ok _ (Al _ hm)
 obtain ⟨a,xs,G,rfl,ha,ra,eF,hz⟩:=rd.list_inv
 refine ⟨.ref a,by rw[Oo e2]; exact congrArg some hv,.inl ⟨rfl,xs,Ud.of ha⟩,H0,Y,S,T,δ,_,rfl,hS,hA,hd,λy δ1 w F1 S1 H1 e4 e5 hA1 p1=>?_⟩
 split at p1
 ·rename_i m ds m' e' hsl1
  obtain ⟨p1,p2,p3,p4,p5⟩:=p1
  have r:=hA1.told mem_mid
  obtain rfl:=r.imm p3
  obtain ⟨b,xs1,G1,g1,g2,g3,g4,g5⟩:=nQ (es:=ds++[e']) e5 hT hA1.drop hsl1 p1 p2
  rw[e4,Oo e2] at g1
  have : some (V.ref b)=some (V.ref a):=(Cj g1).symm.trans hv
  cases this
  obtain ⟨S2,h1,h2,h3⟩:=g5 (xs1++[w]) (G1++[]) (g3.snoc r) (by rw[Ea]; exact Dl _) (by rw[Bh]; exact mR (by simp; omega))
  have hl:=g3.len
  refine ⟨a,xs1,w,rfl,rfl,g2,Ca (by omega) (mR (n:=1000000) (Ai _)),?_⟩
  rw[<- e4,<- h1]
  exact k1 ⟨_,_⟩ S2 _ h2 h3 p5
 ·exact p1.elim
end
def HK(i:Nat)(dk de:DE):DB:=λD δ=>de δ λy δ1=>match δ1.sl[i]? with
 | some (.dat _ (.list _))=>dk δ1 λz δ2=>match δ2.sl[i]?,y,z with
  | some (.dat m (.list ds)),.dat _ e,.dat _ (.int k)=>own1 m=true/\npk δ2.sl=true/\imm e=true/\Eg ds=true/\∃j,uH ds.length k=some j/\D.nx ⟨δ2.sl.set i (.dat m (.list (ds.set j e))),δ2.n⟩
  | _,_,_=>False
 | _=>False
def J5(i:Nat)(rd:D2)(de:DE):DB:=λD δ=>match δ.sl[i]? with
 | some (.dat _ (.int a))=>de δ λy δ1=>rd (.dat .ow (.int a)) y λz=>match z with
  | .dat _ d=>imm d=true/\D.nx ⟨δ1.sl.set i (.dat .sh d),δ1.n⟩
  | _=>False
 | _=>False
section
variable{X:Cx}{x:Str}{e:Expr}{de:DE}{pos pos':Pos}{i:Nat}
theorem rJ{op:Operator}{g:Int->Int->Int}(hN:X.N.Nodup)(hi:X.N[i]? = some x)(hx:Loc X.env.scope x)(he:Fc X e de)(ho:FF X op (FO g))(hf:X.fn x=true\/X.env.scope.names.lookup x=some .local:=by first | exact .inl rfl | exact .inr rfl | assumption):gO X (.AugAssign (.Name x pos') op e pos) (J5 i (bV λa b=>.int (g a b)) de):=by
 refine PS.impD (P9 hN hi hx he ho hf) λD σ H h=>?_
 obtain ⟨H0,Y,S,T,δ,P,rfl,hS,hT,hA,hd,k1,k2,k3,k4⟩:=h
 unfold J5 at hd
 split at hd
 case h_2=>exact hd.elim
 rename_i m0 a hsl
 obtain ⟨ent,e2,e3⟩:=Jy hS hsl
 have hm:ent∈S:=Ax e2
 obtain ⟨u,x,F⟩:=ent
 have e3':x=.dat m0 (.int a):=e3
 subst e3'
 obtain ⟨v,hv,rd,_⟩:=hA.ok _ (Al _ hm)
 obtain ⟨rfl,_⟩:=rd.int_inv
 refine ⟨.int a,by rw[Oo e2]; exact congrArg some hv,H0,Y,S,T,δ,_,rfl,hS,hA,hd,λy δ1 w F1 S1 H1 e4 e5 hA1 p1=>?_⟩
 unfold bV at p1
 split at p1
 ·rename_i a' b' ea
  cases ea
  obtain ⟨rfl,_⟩:=(hA1.told mem_mid).int_inv
  refine ⟨a,_,rfl,rfl,?_⟩
  show D.nx ((vs S).set i (some (V.int (g a _)))) H1
  rw[<- e4,<- aR (x:=.dat .sh (.int (g a _))) (F:=[])]
  exact k1 ⟨_,_⟩ _ H1 (bO e5) ((hA1.drop.pushI (.int _)).store) p1.2
 ·exact p1.elim
theorem pY(hN:X.N.Nodup)(hi:X.N[i]? = some x)(hx:Loc X.env.scope x)(he:Fc X e de)(hf:X.fn x=true\/X.env.scope.names.lookup x=some .local:=by first | exact .inl rfl | exact .inr rfl | assumption):gO X (.AugAssign (.Name x pos') .Add e pos) (J5 i rdAdd de):=rJ hN hi hx he W3 hf
end
def spLawD(K:PySem.W.Frag):Sp:=λus H Q _=>∃(a:Addr) (ns:List Int),us=[.ref a]/\KL K H a (ns.map V.int)/\ns.length<=63/\∀H',Q (.bl true) H'
def retL:DEnds where
 nx:=λ_=>False
 rt:=λx _=>∃m,x=.dat m (.bool true)
section
variable{P:Bj}{w:World}{K:PySem.W.Frag}{mg:Str->Option Value}{base:Heap}
theorem P8{x qual p0:Str}{st:Stmt}{f:Addr}{fd:Cq}{N:List Str}{k:Nat}{db:DB}(F:Fun K x qual st f fd)(S:FnScope N [p0] (Bq st))(hb:∀(cdv:Value) (A:Cu) (outer:List Env) (s:Aj) (H:Hp) (E:XK),Room k (A.deeper (Pf qual (Bq st) s.heap.objs.size f cdv))->Ug (Me Hn P w K mg base N qual (Bq st) f cdv A outer s H E).nox (Jd st) db)(h:∀ns:List Int,ns.length<=63->db retL ⟨.scr ns::Io (N.length - 1) .un,0⟩):FnOk P w K mg base Hn (k+1) f fd [p0] (spLawD K):=by
 refine F.ok S (λvs H Q E z=>?_) λcdv A outer s H us Q E hr z=>?_
 ·obtain ⟨a,ns,rfl,_⟩:=z
  rfl
 ·obtain ⟨a,ns,rfl,hK,h63,k1⟩:=z
  refine ⟨_,hb cdv A outer s H E hr,H,λ_=>False,⟨some (.ref a),.scr ns,[]⟩::Gv (N.length - 1),[],⟨.scr ns::Io (N.length - 1) .un,0⟩,retL,?_,?_,λ_ z=>(nomatch z),?_,h ns h63,λδ' S' H' e1 hA p=>p.elim,λx δ' v F' S' H' e1 hA p=>?_,λ_ _ _ _ _ p=>p.elim,λ_ _ _ _ _ p=>p.elim⟩
  ·unfold vs L2.start Gv
   rw[Ar,Mb]
   rfl
  ·unfold Sl Gv
   rw[Ar,Mb]
  ·rw[Ea]
   have hc:∀e∈(⟨some (.ref a),.scr ns,[]⟩::Gv (N.length - 1):List Ent),cells e=[]:=λe he=>by
    rcases Ao.mp he with rfl | he
    ·rfl
    ·rw[(Jb.mp he).2]
     rfl
   refine ⟨λe he=>?_,Pl λa ha b hb'=>⟨λhq c z=>?_,λhq c z=>?_⟩,λe he a ha=>?_,λb o _ e=>e,λb o e=>⟨o,e⟩,λb hb=>hb.elim⟩
   ·rcases Ao.mp he with rfl | he
    ·exact ⟨a,rfl,rfl,hK,h63⟩
    ·rw[(Jb.mp he).2]
     exact (rfl:([]:List Addr)=[])
   ·rw[hc a ha] at z; cases z
   ·rw[hc b hb'] at z; cases z
   ·rw[hc e he] at ha; cases ha
  ·obtain ⟨m,rfl⟩:=p
   rw[show S'++[(⟨some v,.dat m (.bool true),F'⟩ : Ent)]=S'++⟨some v,.dat m (.bool true),F'⟩::[] from rfl] at hA
   obtain ⟨rfl,_⟩:=(hA.told mem_mid).bl_inv
   exact k1 H'
end
def oX(i:Nat)(dl dh:DO):DE:=λδ P=>match δ.sl[i]? with
 | some (.scr ns)=>dl δ λl δ2=>dh δ2 λh δ3=>P (.dat .ow (.list ((Nt ns l h).map Bm))) δ3
 | _=>False
def FA(i:Nat)(de:DE):DE:=λδ P=>match δ.sl[i]? with
 | some (.scr ns)=>de δ λy δ1=>match y with
  | .dat _ (.list es)=>Eg es=true/\ns.length+es.length<=1000000/\P (.dat .ow (.list (ns.map Bm++es))) δ1
  | _=>False
 | _=>False
section
variable{X:Cx}{e b:Expr}{de:DE}{lo hi:Option Expr}{dl dh:DO}{pos p2:Pos}{i:Nat}
theorem T9{K:PySem.W.Frag}{H0 H:Hp}{Y:Addr->Prop}{S T:List Ent}{δ:DS}{ns:List Int}(hS:Sl S δ)(hA:At K H0 Y δ.n (S++T) H)(hi:δ.sl[i]? = some (.scr ns)):∃a,(vs S)[i]? = some (some (.ref a))/\(⟨some (.ref a),.scr ns,[]⟩ : Ent)∈S/\KL K H a (ns.map V.int)/\ns.length<=63:=by
 obtain ⟨ent,e2,e3⟩:=Jy hS hi
 have hm:ent∈S:=Ax e2
 obtain ⟨u,x,F⟩:=ent
 have e3':x=.scr ns:=e3
 subst e3'
 obtain ⟨a,h1,h2,h3⟩:=hA.ok _ (Al _ hm)
 have h1':u=some (.ref a):=h1
 have h2':F=[]:=h2
 subst h1' h2'
 exact ⟨a,by rw[Oo e2],hm,h3⟩
theorem vL(he:PE X e (gN i))(hl:AK X lo dl)(hh:AK X hi dh):Fc X (.Subscript e (.Slice lo hi none p2) pos) (oX i dl dh):=by
 refine PE.imp (kT (r:=T1 X.K) B7 he hl hh) λσ H Q h=>?_
 obtain ⟨H0,Y,S,T,δ,P,rfl,hS,hA,hd,k⟩:=h
 unfold oX at hd
 split at hd
 case h_2=>exact hd.elim
 rename_i ns hsl
 obtain ⟨a,ha,hm,hK,h63⟩:=T9 hS hA hsl
 have hA0:At X.K H0 Y δ.n (S++⟨some (.ref a),.scr ns,[]⟩::T) H:=(At.view1 hA (Al _ hm)).tomid
 refine ⟨.ref a,ha,H0,Y,S,⟨some (.ref a),.scr ns,[]⟩::T,δ,_,rfl,hS,hA0,hd,λl δ2 S2 H2 e3 e4 hA2 p2=>?_⟩
 refine ⟨H0,Y,S2,⟨some (.ref a),.scr ns,[]⟩::T,δ2,_,e3,e4,hA2,p2,λh δ3 S3 H3 e5 e6 hA3 p3=>?_⟩
 obtain ⟨a',h1,_,hK3,_⟩:=hA3.ok _ mem_mid
 cases h1
 refine ⟨a,_,rfl,hK3.sq,λp hp=>?_⟩
 have : bQ (ns.map V.int) l h=(Nt ns l h).map V.int:=by
  rw[<- jL]; rfl
 rw[this]
 refine k _ δ3 _ _ S3 _ e5 e6 (hA3.drop.newI (RdFs.ints _) (Rc _) ?_ hp .ow) p3
 rw[Ab]
 have l1:=(cE ns l h).length_le
 exact sz (by omega)
end
def Pm(p:Nat)(dc:DT)(de:DE)(δ:DS)(yes:Ad->Nat->Prop)(no:Nat->Prop):Prop:=dc δ λb δ2=>match b with
 | true=>de δ2 λy δ3=>match y with
  | .dat _ e=>imm e=true/\δ3.sl[p]? = some .drw/\yes e δ3.n
  | _=>False
 | false=>δ2.sl[p]? = some .drw/\no δ2.n
def oF(di:DI)(js1:List Nat)(j0:Nat)(js2:List Nat)(dc:DT)(de:DE):DE:=λδ P=>di δ λm ds δ1=>δ1.sl[j0]? = some .drw/\∃I:Nat->List Ad->Nat->Prop,I 0 [] δ1.n /\
 (∀i d acc n,ds[i]? = some d->I i acc n->Pm (js1.length+1) dc de ⟨.dat m d::(frD (δ1.sl.set j0 .un) js1++.drw::frD (δ1.sl.set j0 .un) js2),n⟩ (λe n'=>I (i+1) (acc++[e]) n') (λn'=>I (i+1) acc n')) /\
 ∀acc n,I ds.length acc n->P (.dat .ow (.list acc)) ⟨δ1.sl,n⟩
section
variable{K:PySem.W.Frag}{H0 H H':Hp}{Y:Addr->Prop}{n n':Nat}{E S T:List Ent}
theorem At.re(h:At K H0 Y n E H)(ok:∀e∈E,Hi K H' n' e)(s:∀b o,¬ Y b->H0 b=some o->H' b=some o)(dm:∀b o,H0 b=some o->∃o',H' b=some o')(xd:∀b,Y b->H0 b≠none/\∃c k f,aG H' b c k f/\0<=k/\k<=(n':Int)):At K H0 Y n' E H':=⟨ok,h.sep,h.new,s,dm,xd⟩
theorem n4{S':List Ent}{δ:DS}{p:Nat}{dr:Addr}(hA:At K H0 Y n E H)(hE:∀e∈S',e∈E)(hS:Sl S' δ)(hp:δ.sl[p]? = some .drw)(hv:(vs S')[p]? = some (some (.ref dr))):Hi K H n ⟨some (.ref dr),.drw,[dr]⟩:=by
 obtain ⟨ent,e2,e3⟩:=Jy hS hp
 have hm:ent∈S':=Ax e2
 rw[Oo e2] at hv
 obtain ⟨u,x,F⟩:=ent
 have e3':x=.drw:=e3
 subst e3'
 have hu:u=some (.ref dr):=Cj hv
 subst hu
 obtain ⟨dr',c,k,f,h1,h2,h3⟩:=hA.ok _ (hE _ hm)
 have h1':some (V.ref dr)=some (V.ref dr'):=h1
 cases h1'
 exact ⟨dr,c,k,f,rfl,rfl,h3⟩
theorem yQ{p:Nat}{dr:Addr}{dc:DT}{de:DE}{δ:DS}{yes:Ad->Nat->Prop}{no:Nat->Prop}{D:Addr}{acc:List Ad}{N1:Hp->Prop}{N2:VK}(hS:Sl S δ)(hA:At K H0 Y δ.n (S++⟨some (.ref D),.acc acc,[D]⟩::T) H)(hp:(vs S)[p]? = some (some (.ref dr)))(h:Pm p dc de δ yes no)(k1:∀n' H',At K H0 Y n' (⟨some (.ref D),.acc acc,[D]⟩::T) H'->Hi K H' n' ⟨some (.ref dr),.drw,[dr]⟩->no n'->N1 H')(k2:∀e n' v H',At K H0 Y n' (⟨some (.ref D),.acc acc,[D]⟩::T) H'->Hi K H' n' ⟨some (.ref dr),.drw,[dr]⟩->RdF K H' v e []->yes e n'->N2 v H'):LT K dc (vs S) H λc H2=>if c=true then LE K de (vs S) H2 N2 else N1 H2:=by
 refine ⟨H0,Y,S,⟨some (.ref D),.acc acc,[D]⟩::T,δ,_,rfl,hS,hA,h,λb δ2 S2 H2 e1 e2 hA2 p2=>?_⟩
 cases b with
 | false=>exact tL (k1 _ _ (hA2.sub (Cm _ _)) (n4 hA2 (λe he=>Al _ he) e2 p2.1 (by rw[e1]; exact hp)) p2.2)
 | true =>
  refine wD ⟨H0,Y,S2,⟨some (.ref D),.acc acc,[D]⟩::T,δ2,_,e1,e2,hA2,p2,λy δ3 v F S3 H3 e3 e4 hA3 p3=>?_⟩
  split at p3
  ·have r:=hA3.told mem_mid
   obtain rfl:=r.imm p3.1
   exact k2 _ _ _ _ (hA3.drop.sub (Cm _ _)) (n4 hA3 (λe he=>Al _ he) e4 p3.2.1 (by rw[e3]; exact hp)) r p3.2.2
  ·exact p3.elim
theorem xA{di:DI}{js1 js2:List Nat}{j0:Nat}{dc:DT}{de:DE}:∀σ H Q,LE K (oF di js1 j0 js2 dc de) σ H Q->jR (LI K di) (js1++j0::js2) (LT K dc) (LE K de) σ H Q:=by
 intro σ H Q h
 obtain ⟨H0,Y,S,T,δ,P,rfl,hS,hA,hd,k⟩:=h
 refine ⟨H0,Y,S,T,δ,_,rfl,hS,hA,hd,λm ds δ1 J hid S1 H1 e1 e2 hA1 it hz p1=>?_⟩
 obtain ⟨hj,I,h0,hs,hf⟩:=p1
 rw[<- e1]
 obtain ⟨ent,s1,s2⟩:=Jy e2 hj
 have hm':ent∈S1:=Ax s1
 obtain ⟨u,x,F0⟩:=ent
 have s2':x=.drw:=s2
 subst s2'
 obtain ⟨dr,_,_,_,hv0,hF0,_⟩:=hA1.ok _ (Al _ hm')
 have hv0':u=some (.ref dr):=hv0
 have hF0':F0=[dr]:=hF0
 subst hv0' hF0'
 intro D hD
 refine ⟨λi q H=>q=ds.length - i/\i<=ds.length/\∃acc n,At K H0 Y n (⟨some (.ref D),.acc acc,[D]⟩::(S1++(hid++T))) H/\acc.length<=i/\I i acc n,⟨ds.length,by simp,Do _,[],δ1.n,hA1.accNew hD,Ai _,h0⟩,?_⟩
 (intro i q H q_; obtain ⟨rfl,hi,acc,n,hA2,hl,hI⟩ := q_)
 have hid_ok:∀e∈hid,Hi K H n e:=λe he=>hA2.ok e (Ae _ (Ag _ (Al _ he)))
 by_cases hlt:i<ds.length
 ·refine .inr ⟨it.go H n i hid_ok hlt,λx H' y=>?_⟩
  obtain ⟨s1',d,F,h1,h2,h3⟩:=it.yld H n i x H' hid_ok hlt y
  have hA3:At K H0 Y n ((⟨some (.ref D),.acc acc,[D]⟩::S1)++⟨some x,.dat m d,F⟩::(hid++T)) H':=At.item (S:=⟨some (.ref D),.acc acc,[D]⟩::S1) hA2 s1' h2 h3 it.md it.hd it.np
  -- the draws are taken out of their slot
  have hA4:At K H0 Y n (⟨some (.ref dr),.drw,[dr]⟩::⟨some x,.dat m d,F⟩::⟨some (.ref D),.acc acc,[D]⟩::(S1.set j0 ⟨some (.ref dr),.un,[]⟩++(hid++T))) H':=by
   have q:=hA3.mid.blank (v:=some (.ref dr))
   refine q.perm ?_
   have pS:(⟨some (.ref dr),.un,[]⟩::S1:List Ent).Perm (⟨some (.ref dr),.drw,[dr]⟩::S1.set j0 ⟨some (.ref dr),.un,[]⟩):=Vd s1
   have p2:=pS.append_right (hid++T)
   -- un::x::D::S1.. ~ x::D::un::S1..
   have a1:((⟨some (.ref dr),.un,[]⟩ : Ent)::⟨some x,.dat m d,F⟩::((⟨some (.ref D),.acc acc,[D]⟩::S1)++(hid++T))).Perm (⟨some x,.dat m d,F⟩::⟨some (.ref D),.acc acc,[D]⟩::⟨some (.ref dr),.un,[]⟩::(S1++(hid++T))) :=
    (Et _ _ _).trans ((Et _ _ _).cons _)
   have a2:((⟨some x,.dat m d,F⟩ : Ent)::⟨some (.ref D),.acc acc,[D]⟩::⟨some (.ref dr),.drw,[dr]⟩::(S1.set j0 ⟨some (.ref dr),.un,[]⟩++(hid++T))).Perm (⟨some (.ref dr),.drw,[dr]⟩::⟨some x,.dat m d,F⟩::⟨some (.ref D),.acc acc,[D]⟩::(S1.set j0 ⟨some (.ref dr),.un,[]⟩++(hid++T))) :=
    ((Et _ _ _).cons _).trans (Et _ _ _)
   exact a1.trans (((p2.cons _).cons _).trans a2)
  have e2':Sl (S1.set j0 ⟨some (.ref dr),.un,[]⟩) ⟨δ1.sl.set j0 .un,n⟩:=bO e2
  have vS:vs (S1.set j0 ⟨some (.ref dr),.un,[]⟩)=vs S1:=by
   rw[aR]
   apply Gn
   intro j
   rw[Jw]
   split
   ·rename_i hij
    subst hij
    rw[Oo s1]
    split
    ·rfl
    ·rename_i hj'
     unfold vs at hj'
     rw[Ab] at hj'
     exact absurd (An.mp s1).1 hj'
   ·rfl
  have hsub:∀e∈S1.set j0 ⟨some (.ref dr),.un,[]⟩,e∈(⟨some (.ref dr),.drw,[dr]⟩::⟨some x,.dat m d,F⟩::⟨some (.ref D),.acc acc,[D]⟩::(S1.set j0 ⟨some (.ref dr),.un,[]⟩++(hid++T)):List Ent):=λe he=>Ae _ (Ae _ (Ae _ (Al _ he)))
  have hA5:=At.view (S:=S1.set j0 ⟨some (.ref dr),.un,[]⟩) hA4 hsub js2
  have hA5':=At.view (S:=S1.set j0 ⟨some (.ref dr),.un,[]⟩) hA5 (λe he=>Ag _ (hsub e he)) js1
  have hA6:At K H0 Y n ((⟨some x,.dat m d,F⟩::(Zq (S1.set j0 ⟨some (.ref dr),.un,[]⟩) js1++⟨some (.ref dr),.drw,[dr]⟩::Zq (S1.set j0 ⟨some (.ref dr),.un,[]⟩) js2))++⟨some (.ref D),.acc acc,[D]⟩::(S1.set j0 ⟨some (.ref dr),.un,[]⟩++(hid++T))) H':=by
   refine hA5'.perm ?_
   generalize Zq (S1.set j0 ⟨some (.ref dr),.un,[]⟩) js1=A1
   generalize Zq (S1.set j0 ⟨some (.ref dr),.un,[]⟩) js2=A2
   generalize (⟨some (.ref D),.acc acc,[D]⟩::(S1.set j0 ⟨some (.ref dr),.un,[]⟩++(hid++T)):List Ent)=R
   have b1:(A2++((⟨some (.ref dr),.drw,[dr]⟩ : Ent)::⟨some x,.dat m d,F⟩::R)).Perm ((⟨some x,.dat m d,F⟩ : Ent)::⟨some (.ref dr),.drw,[dr]⟩::(A2++R)) :=
    (Hb.trans ((Hb).cons _)).trans (Et _ _ _)
   have b2:=b1.append_left A1
   refine b2.trans (Hb.trans ?_)
   rw[Hd,Cb,Hd]
  have hS6:Sl (⟨some x,.dat m d,F⟩::(Zq (S1.set j0 ⟨some (.ref dr),.un,[]⟩) js1++⟨some (.ref dr),.drw,[dr]⟩::Zq (S1.set j0 ⟨some (.ref dr),.un,[]⟩) js2)) ⟨.dat m d::(frD (δ1.sl.set j0 .un) js1++.drw::frD (δ1.sl.set j0 .un) js2),n⟩:=by
   unfold Sl
   rw[Ar,Bo,Ar,pN e2',pN e2']
  have hv:vs (⟨some x,.dat m d,F⟩::(Zq (S1.set j0 ⟨some (.ref dr),.un,[]⟩) js1++⟨some (.ref dr),.drw,[dr]⟩::Zq (S1.set j0 ⟨some (.ref dr),.un,[]⟩) js2))=some x::Hg (vs S1) (js1++j0::js2):=by
   have f1:=qH (S1.set j0 ⟨some (.ref dr),.un,[]⟩) js1
   have f2:=qH (S1.set j0 ⟨some (.ref dr),.un,[]⟩) js2
   rw[vS] at f1 f2
   unfold vs at f1 f2 ⊢
   rw[Ar,Bo,Ar,f1,f2]
   unfold Hg
   rw[Bo,Ar,Bw,s1]
   rfl
  have hp6:(vs (⟨some x,.dat m d,F⟩::(Zq (S1.set j0 ⟨some (.ref dr),.un,[]⟩) js1++⟨some (.ref dr),.drw,[dr]⟩::Zq (S1.set j0 ⟨some (.ref dr),.un,[]⟩) js2)))[js1.length+1]? = some (some (.ref dr)):=by
   unfold vs
   rw[Ar,mS,Bo,Ey (by rw[Ab]; unfold Zq; rw[Ab]; exact Ai _)]
   rw[Ab]
   unfold Zq
   rw[Ab,Nat.sub_self]
   rfl
  -- back to the outer names
  have back:∀{n':Nat} {H2:Hp},At K H0 Y n' (⟨some (.ref D),.acc acc,[D]⟩::(S1.set j0 ⟨some (.ref dr),.un,[]⟩++(hid++T))) H2->Hi K H2 n' ⟨some (.ref dr),.drw,[dr]⟩->At K H0 Y n' (⟨some (.ref D),.acc acc,[D]⟩::(S1++(hid++T))) H2:=λ{n' H2} hB hd'=>by
   refine hA2.re (λe he=>?_) hB.same hB.dom hB.xd
   rcases Ao.mp he with rfl | he
   ·exact hB.ok _ Aa
   ·rcases Aw.mp he with he | he
    ·obtain ⟨j,hj1⟩:=List.getElem?_of_mem he
     by_cases hjj:j=j0
     ·subst hjj
      rw[s1] at hj1
      cases hj1
      exact hd'
     ·refine hB.ok e (Ae _ (Al _ (Ax (i:=j) ?_)))
      rw[Uu (Nm hjj)]
      exact hj1
    ·exact hB.ok e (Ae _ (Ag _ he))
  refine ⟨λH2=>∃m',m'<ds.length - i/\_,λy H3=>∃acc,H3 D=some (.lst acc)/\acc.length<Bb/\∃m',m'<ds.length - i/\_,λH2 q=>q,λy H3 q=>q,?_⟩
  rw[<- hv]
  refine yQ hS6 hA6 hp6 (hs i d acc n h1 hI) (λn' H2 hA7 hd7 p=>?_) (λe n' v H2 hA7 hd7 r7 p=>?_)
  ·exact ⟨ds.length - (i+1),by omega,rfl,hlt,acc,n',back hA7 hd7,by omega,p⟩
  ·obtain ⟨xs,g1,g2,g3⟩:=(back hA7 hd7).accPut r7 (by omega)
   exact ⟨xs,g1,by omega,ds.length - (i+1),by omega,rfl,hlt,acc++[e],n',g3,by rw[Bh]; simp; omega,p⟩
 ·have e:i=ds.length:=by omega
  subst e
  refine .inl ⟨it.stop H n hid_ok,k _ ⟨δ1.sl,n⟩ _ [D] S1 H e1 e2 ?_ (hf acc n hI)⟩
  have hA3:=hA2.accGet
  have hA4:At K H0 Y n (⟨some (.ref D),.dat .ow (.list acc),[D]⟩::(S1++T)) H:=hA3.sub (((Dl S1).append (Cm hid T)).cons₂ _)
  exact hA4.tomid
end
section
variable{X:Cx}{elt iter c:Expr}{x y0:Str}{px py pos spos:Pos}{i0:Nat}{ifs:List Expr}{scope:Scope}{cl:List (Str×Addr)}{ys:List Str}{js1 js2:List Nat}{j0:Nat}{di:DI}{dc:DT}{de:DE}
theorem yI(C:CompScope X scope cl x ys (js1++j0::js2))(hc:X.calm=true)(hi:xU X (.Name x px) iter di)(ht:∀fp s H,uQ (Fi X scope cl (x::ys) fp s H) ifs (LT X.K dc))(he:∀fp s H,Fc (Fi X scope cl (x::ys) fp s H) elt de)(hs:∀x,Eu iter X.env x=pure x:=by intro _; rfl):Fc X (.ListComp elt [⟨.Name x px,iter,ifs,0⟩] scope pos) (oF di js1 j0 js2 dc de):=PE.imp (rN C hc hi ht he hs) xA
end
theorem jM{X:Cx}{c:Expr}{body:List Stmt}{dt:DT}{db:DB}{pos:Pos}(hp:Zd (model X.prog X.w) X.A X.env X.xe)(hc:dO X c dt)(hb:Ug X body db):gO X (.While c body [] pos) (vN dt db):=by
 refine PS.impD (i6 hp hc hb) λD σ H h=>?_
 obtain ⟨H0,Y,S,T,δ,P,rfl,hS,hT,hA,hd,k1,k2,k3,k4⟩:=h
 obtain ⟨I,μ,h0,hs⟩:=hd
 refine ⟨λq σ H=>∃S δ,vs S=σ/\Sl S δ/\At X.K H0 Y δ.n (S++T) H/\I δ/\q=μ δ,⟨_,S,δ,rfl,hS,hA,h0,rfl⟩,?_⟩
 (intro q σ H q_; obtain ⟨S1,δ1,rfl,e1,hA1,hI,rfl⟩ := q_)
 refine ⟨H0,Y,S1,T,δ1,_,rfl,e1,hA1,hs δ1 hI,λb δ2 S2 H2 e2 e3 hA2 p2=>?_⟩
 cases b with
 | true =>
  refine ⟨λσ' H'=>∃S δ,vs S=σ'/\Sl S δ/\At X.K H0 Y δ.n (S++T) H'/\I δ/\μ δ<μ δ1,λσ' H' ⟨S,δ,z1,z2,z3,z4,z5⟩=>⟨_,z5,S,δ,z1,z2,z3,z4,rfl⟩,?_⟩
  exact ⟨H0,Y,S2,T,δ2,_,e2,e3,hT,hA2,p2,λδ4 S4 H4 e5 hA4 p4=>⟨S4,δ4,rfl,e5,hA4,p4⟩,k2,λδ4 S4 H4 e5 hA4 p4=>k1 δ4 S4 H4 e5 hA4 p4,λδ4 S4 H4 e5 hA4 p4=>⟨S4,δ4,rfl,e5,hA4,p4⟩⟩
 | false =>
  rw[<- e2]
  exact k1 δ2 S2 H2 e3 hA2 p2
def BH(i j:Int):Prop:=0<=j/\(Builtin.Int.intBits i:Int) * j<=2 ^ 27
theorem u7{X:Cx}:Wh X (Kx .Pow) (rI BH λi j=>.int (i ^ j.toNat)):=BJ λ_ _ _ _ _ _ _ hc q=>pow_int hc.1 hc.2 q
def gK:DF:=λds n R=>ds=[]/\n<=100000/\∀r:Int,R (.int r) (n+1)
theorem K1{P:Bj}{w:World}{K:PySem.W.Frag}{mg:Str->Option Value}{base:Heap}{k:Nat}{f:Addr}{fd:Cq}{ps:List Str}(F:FnOk P w K mg base Hn k f fd ps xQ):FnOk P w K mg base Hn k f fd ps (B8 K gK):=by
 refine F.imp λus H Q E h=>?_
 obtain ⟨dr,ws,As,n,ds,R,rfl,eu,ok,nd,⟨c,kk,fl,hdr,h0,h1⟩,q,hp,k1⟩:=h
 obtain ⟨rfl,hn,hR⟩:=hp
 have hAs:As=[]:=by
  have:=Iv q
  rw[Ab] at this
  exact Gm.mp this
 subst hAs
 have hws:ws=[]:=by
  cases ws with
  | nil=>rfl
  | cons _ _=>cases eu
 subst hws
 refine ⟨dr,c,kk,fl,rfl,hdr,h0,by omega,λr c' H' hd' s=>?_⟩
 exact k1 (.int r) (.int r) [] (n+1) H' (by omega) (hR r) (.int r) Cz (λ_ z=>(nomatch z)) ⟨c',kk+1,fl,hd',by omega,by omega⟩ s
theorem Kn{ns:List Int}(r:Ef 60 ns):ns.length<=60:=Ci (NdS.len_leI (r.1.imp λ{x y} h=>Int.ne_of_lt h) λe he=>qO (r.2 e he).1 (r.2 e he).2) (by decide)
def AU{α:Type}(xs:List α)(k:Nat)(y:α):List α:=xs.take k++y::xs.drop k
def IH:Md->Md->Md
 | .ow,.ow=>.ow
 | _,_=>.tp
end DL
namespace Nd
open PySem PySem.Spec PyProof.Rows L2
end Nd
namespace DL
open PySem PySem.Spec PyProof.Rows L2 Nd
end DL
namespace Nd
open PySem PySem.Spec PyProof.Rows
section
variable{prog:Bj}{w:World}{κ:Type}[DecidableEq κ](knd:HeapKind prog w κ)
def DictE(h:Heap)(d:Addr)(xs:List (κ×Addr×Value)):Prop :=
 ∃(o:Obj) (es:Array DictEntry) (ep:Nat),h.get? d=some o/\o.ExactDict/\o.data=.dict es ep/\es.toList=xs.map (cU knd)/\(∀x∈xs,knd.is h x.1 x.2.1)/\(xs.map (·.1)).Nodup/\ep=es.size
variable{knd}
theorem DictE.of{h:Heap}{d:Addr}{xs:List (κ×Addr×Value)}(x:DictE knd h d xs):h.DictOfH knd d xs:=let ⟨o,es,ep,a,b,c,e,f,g,_⟩:=x; ⟨o,es,ep,a,b,c,e,f,g⟩
variable{A:Cu}{E:Value->Aj->Prop}{s:Aj}{d a:Addr}{xs:List (κ×Addr×Value)}{k:κ}{v:Value}
theorem tM{xs:List (κ×Addr×Value)}{k:κ}{a:Addr}{v:Value}(hn:(xs.map (·.1)).Nodup)(hk:k∉xs.map (·.1)):((xs++[(k,a,v)]).map (·.1)).Nodup:=by
 rw[Bo,List.nodup_append]
 refine ⟨hn,by simp,λx hx y hy e=>hk ?_⟩
 rw[Ar,Oh,Af] at hy
 have hy:y=k:=hy
 rw[<- hy,<- e]
 exact hx
theorem wA{o:Obj}{es:Array DictEntry}{ep:Nat}{h:Heap}(ho:h.get? d=some o)(hc:o.ExactDict)(hd:o.data=.dict es ep)(he:es.toList=xs.map (cU knd))(his:∀x∈xs,knd.is h x.1 x.2.1)(hn:(xs.map (·.1)).Nodup)(hep:ep=es.size)(hkey:knd.is h k a)(ha:atKey xs k=none)(hk:k∉xs.map (·.1)):DictE knd (h.update d (Obj.mapDictKeys λes=>es.push ⟨knd.hash k,.ref a,v⟩)) d (storedH xs k a v):=by
 rw[storedH_new ha]
 refine ⟨_,_,ep+1,Ho _ ho (Obj.isFreed_of_dict (Obj.data_mapDictKeys hd _)),hc.mapDictKeys _,Obj.data_mapDictKeys hd _,by simp [he,cU],λx hx=>?_,tM hn hk,by rw[hep,Array.size_push]⟩
 rcases Aw.mp hx with z | z
 ·exact knd.keeps (his x z) ho hd (Cw ..)
 ·rw[Af.mp z]
  exact knd.keeps hkey ho hd (Cw ..)
theorem wJ{Q:Unit->Aj->Prop}(hu:knd.room A)(hkey:knd.is s.heap k a)(hm:DictE knd s.heap d xs)(q:∀h',DictE knd h' d (storedH xs k a v)->Gf d s.heap h'->Q () { s with heap:=h',toks:=s.toks+knd.draws k })(hz:xs.length<=Bb):wpAny (model prog w) A (dictSet d (.ref a) v) Q E s:=by
 obtain ⟨o,es,ep,ho,hc,hd,he,his,hn,hep⟩:=hm
 unfold dictSet
 try with_reducible refine Fb ?_
 refine Ac (knd.pyHash hu hkey ?_)
 unfold dictSetHashed
 try with_reducible refine Fb ?_
 refine Ac (wpAny_dictFind_heap (s:={ s with toks:=s.toks+knd.draws k }) hu hkey ho hd he his hn (λno=>?_) λj p hj=>?_)
 ·exact Ac (wpAny_rule (wpAny_updateDictKeys (hz:=by have e:=size_of_entries he; omega) (s:={ s with toks:=s.toks+knd.draws k }) ho hd (q _ (wA ho hc hd he his hn hep hkey (atKey_none_of_get no) (not_mem_keys_of_get no)) (Cw ..))))
 ·refine Ac (wpAny_rule (Ac (wpAny_updateDict (s:={ s with toks:=s.toks+knd.draws k }) ho hd (wpAny_point (q _ ?_ (Cw ..))))))
  rw[storedH_old (atKey_of_get hn hj)]
  refine ⟨_,_,ep,Ho _ ho (Obj.isFreed_of_dict (Obj.data_mapDict hd _)),hc.mapDict _,Obj.data_mapDict hd _,?_,λx hx=>?_,by rw[keys_map_putAt]; exact hn,by rw[hep]; simp⟩
  ·have e1:=modify_map_putAt (cU knd) (λe:DictEntry=>{ e with val:=v }) k v (λ_ _=>rfl) hn hj
   rw[<- he] at e1
   obtain ⟨l⟩:=es
   simpa using e1
  ·obtain ⟨y,hy,rfl⟩:=Br.mp hx
   unfold putAt
   split <;> exact knd.keeps (his y hy) ho hd (Cw ..)
theorem setItemE{Q:Unit->Aj->Prop}(hu:knd.room A.in1)(hkey:knd.is s.heap k a)(hm:DictE knd s.heap d xs)(q:∀h',DictE knd h' d (storedH xs k a v)->Gf d s.heap h'->Q () { s with heap:=h',toks:=s.toks+knd.draws k })(hz:xs.length<=Bb):wpAny (model prog w) A (setItem (.ref d) (.ref a) v) Q E s:=by
 have tD:=hm.of.typeIs
 unfold setItem
 try with_reducible refine Fb ?_
 refine Ac (fQ tD (by decide) ?_)
 refine Ac (Jg (name:=Fu "__setitem__") tD slot_dict_setitem (Hs slot_dict_setitem tD entry_dict_setitem ?_ (args_dict_setitem _ _ _)))
 show wpAny _ _ (bind (Builtin.Dict.notOrdered "__setitem__" ⟨[.ref d,.ref a,v],[]⟩) _) _ _ s
 refine Ac (wpAny_notOrdered_dict tD ?_)
 show wpAny _ _ (bind (dictSet d (.ref a) v) _) _ _ s
 exact Ac (wJ hu hkey hm (λh' a b=>Ap ⟨.none,rfl,Ap (q h' a b)⟩) hz)
end
end Nd
namespace L2
open PySem PySem.Spec PyProof.Rows
section
variable{κ:Type}[DecidableEq κ]
def Xa(kvs:List (κ×V))(k:κ):Option V:=(kvs.find? λkv=>decide (kv.1=k)).map (·.2)
def Vs(kvs:List (κ×V))(k:κ)(v:V):List (κ×V) :=
 if (kvs.any λkv=>decide (kv.1=k))=true then kvs.map (λkv=>if kv.1=k then (kv.1,v) else kv) else kvs++[(k,v)]
theorem Vu{p:κ×V}{r:List (κ×V)}{k:κ}(e:p.1=k):Xa (p::r) k=some p.2:=by simp [Xa,Jj,e]
theorem Vl{p:κ×V}{r:List (κ×V)}{k:κ}(e:¬ p.1=k):Xa (p::r) k=Xa r k:=by simp [Xa,Jj,e]
theorem lQ(k:κ):∀kvs:List (κ×V),(kvs.any λkv=>decide (kv.1=k))=(Xa kvs k).isSome
 | []=>rfl
 | p::r=>by
  rw[Mx]
  by_cases e:p.1=k
  ·simp only[Vu e,decide_eq_true e,Bool.true_or,Option.isSome_some]
  ·rw[Vl e,decide_eq_false e,Bool.false_or]; exact lQ k r
theorem Xx(kvs:List (κ×V))(k:κ)(v:V):(Vs kvs k v).length<=kvs.length+1:=by
 unfold Vs
 split
 ·rw[Ab]; omega
 ·rw[Bh,Ay,Ji]; omega
theorem pI.isSome_eq{o:Option V}{u:Option Value}(r:pI o u):o.isSome=u.isSome:=by
 cases o with
 | none=>cases u with
  | none=>rfl
  | some _=>exact (show False from r).elim
 | some _=>cases u with
  | none=>exact (show False from r).elim
  | some _=>rfl
theorem KV.val{kvs:List (κ×V)}{vs:List (κ×Value)}(r:KV kvs vs)(k:κ):pI (Xa kvs k) (valueAt vs k):=by
 unfold KV at r
 induction r with
 | nil=>exact Ln
 | @cons p q ps qs h t ih =>
  obtain ⟨h1,h2⟩:=h
  by_cases e:p.1=k
  ·have e':q.1=k:=h1.symm.trans e
   have b:valueAt (q::qs) k=some q.2:=by simp [valueAt,Jj,e']
   rw[Vu e,b]; exact h2
  ·have e':¬ q.1=k:=λz=>e (h1.trans z)
   have b:valueAt (q::qs) k=valueAt qs k:=by simp [valueAt,Jj,e']
   rw[Vl e,b]; exact ih
theorem KV.any{kvs:List (κ×V)}{vs:List (κ×Value)}(r:KV kvs vs)(k:κ):(kvs.any λkv=>decide (kv.1=k))=vs.any λkv=>decide (kv.1=k):=by
 unfold KV at r
 induction r with
 | nil=>rfl
 | cons h t ih=>rw[Mx,Mx,ih,h.1]
theorem KV.repl{kvs:List (κ×V)}{vs:List (κ×Value)}(r:KV kvs vs)(k:κ){y:V}{u:Value}(ry:RelV y u):KV (kvs.map λkv=>if kv.1=k then (kv.1,y) else kv) (vs.map λkv=>if kv.1=k then (kv.1,u) else kv):=by
 unfold KV at r ⊢
 induction r with
 | nil=>exact .nil
 | @cons p q ps qs h t ih =>
  rw[Ar,Ar]
  refine .cons ?_ ih
  obtain ⟨h1,h2⟩:=h
  by_cases e:p.1=k
  ·rw[if_pos e,if_pos (h1.symm.trans e)]; exact ⟨h1,ry⟩
  ·rw[if_neg e,if_neg (λz=>e (h1.trans z))]; exact ⟨h1,h2⟩
theorem KV.put{kvs:List (κ×V)}{vs:List (κ×Value)}(r:KV kvs vs)(k:κ){y:V}{u:Value}(ry:RelV y u):KV (Vs kvs k y) (stored vs k u):=by
 unfold Vs stored
 rw[r.any k]
 by_cases e:(vs.any λkv=>decide (kv.1=k))=true
 ·rw[if_pos e,if_pos e]; exact r.repl k ry
 ·rw[if_neg e,if_neg e]; exact Paired.snoc r ⟨rfl,ry⟩
theorem KV.length{kvs:List (κ×V)}{vs:List (κ×Value)}(r:KV kvs vs):kvs.length=vs.length:=Paired.length r
end
theorem qM{P:Bj}{w:World}{k:Kz}{u:Value}(r:RelV (kV k) u):(Ik P w).is k u=true:=by
 cases k with
 | inl i=>obtain ⟨t,e⟩:=(show ∃t,u=Mh i t from r); subst e; exact kR P w i t
 | inr x=>obtain ⟨t,e⟩:=(show ∃t,u=Value.str x t from r); subst e; exact jG P w x t
theorem fB{P:Bj}{w:World}:∀{ks:List Kz} {us:List Value},Fs (ks.map kV) us->ItemsAre (Ik P w) ks us
 | [],_,r=>by rw[Oh] at r; cases r; exact .nil
 | k::ks,_,r=>by
  rw[Ar] at r
  cases r with
  | cons h t=>exact .cons (qM h) (fB t)
abbrev KT(H:Hp):List (List Kz×V)->List (List Kz×Addr×Value)->Prop:=Paired λp q=>p.1=q.1/\H q.2.1=some (.tup (p.1.map kV))/\RelV p.2 q.2.2
theorem KT.val{H:Hp}{kvs:List (List Kz×V)}{xs:List (List Kz×Addr×Value)}(r:KT H kvs xs)(k:List Kz):pI (Xa kvs k) ((atKey xs k).map (·.2)):=by
 induction r with
 | nil=>exact Ln
 | @cons p q ps qs h t ih =>
  obtain ⟨h1,_,h2⟩:=h
  by_cases e:p.1=k
  ·have e':q.1=k:=h1.symm.trans e
   have b:atKey (q::qs) k=some q.2:=by simp [atKey,Jj,e']
   rw[Vu e,b]; exact h2
  ·have e':¬ q.1=k:=λz=>e (h1.trans z)
   have b:atKey (q::qs) k=atKey qs k:=by simp [atKey,Jj,e']
   rw[Vl e,b]; exact ih
theorem KT.repl{H:Hp}{kvs:List (List Kz×V)}{xs:List (List Kz×Addr×Value)}(r:KT H kvs xs)(k:List Kz){y:V}{u:Value}(ry:RelV y u):KT H (kvs.map λkv=>if kv.1=k then (kv.1,y) else kv) (xs.map (putAt k u)):=by
 induction r with
 | nil=>exact .nil
 | @cons p q ps qs h t ih =>
  rw[Ar,Ar]
  refine .cons ?_ ih
  obtain ⟨h1,h2,h3⟩:=h
  unfold putAt
  by_cases e:p.1=k
  ·rw[if_pos e,if_pos (h1.symm.trans e)]; exact ⟨h1,h2,ry⟩
  ·rw[if_neg e,if_neg (λz=>e (h1.trans z))]; exact ⟨h1,h2,h3⟩
theorem KT.put{H:Hp}{kvs:List (List Kz×V)}{xs:List (List Kz×Addr×Value)}(r:KT H kvs xs)(k:List Kz){b:Addr}{y:V}{u:Value}(hb:H b=some (.tup (k.map kV)))(ry:RelV y u):KT H (Vs kvs k y) (storedH xs k b u):=by
 have e:(kvs.any λkv=>decide (kv.1=k))=(atKey xs k).isSome:=by
  rw[lQ,(r.val k).isSome_eq,Option.isSome_map]
 unfold Vs storedH
 rw[e]
 by_cases q:(atKey xs k).isSome=true
 ·rw[if_pos q,if_pos q]; exact r.repl k ry
 ·rw[if_neg q,if_neg q]; exact Paired.snoc r ⟨rfl,hb,ry⟩
theorem KT.keeps{H H':Hp}{kvs:List (List Kz×V)}{xs:List (List Kz×Addr×Value)}(r:KT H kvs xs)(ht:∀b ys,H b=some (.tup ys)->H' b=some (.tup ys)):KT H' kvs xs :=
 Paired.mapP r λ_ _ z=>⟨z.1,ht _ _ z.2.1,z.2.2⟩
section
variable{P:Bj}{w:World}{H:Hp}{h:Heap}{a:Addr}
theorem xV{u:HO}(ok:Vm P w H h)(e:Rd H a u):Gu P w H h a u:=e.ok ok
theorem rK{kvs:List (Kz×V)}(ok:Vm P w H h)(e:Rd H a (.dK kvs)):kvs.length<=Bb/\(a == Ku)=false/\∃vs,KV kvs vs/\h.DictOf (Ik P w) a vs :=
 show Gu P w H h a (.dK kvs) from xV ok e
theorem DJ{kvs:List (Kz×V)}(ok:Vm P w H h)(e:H a=some (.dK kvs)):kvs.length<=Bb/\(a == Ku)=false/\∃vs,KV kvs vs/\h.DictOf (Ik P w) a vs:=rK ok (.inl e)
theorem aB{ks:List Kz}(ok:Vm P w H h)(e:H a=some (.tup (ks.map kV))):(Zb (Ik P w)).is h ks a:=by
 obtain ⟨_,its,r,o,h1,h2,n,h3⟩:=(show Gu P w H h a (.tup (ks.map kV)) from ok a _ e)
 exact ⟨o,its.toArray,n,h1,h2,h3,by simpa using fB r⟩
theorem zD{kvs:List (List Kz×V)}(ok:Vm P w H h)(e:Rd H a (.dT kvs)):kvs.length<=Bb/\(a == Ku)=false/\∃xs,KT H kvs xs/\h.DictOfH (Zb (Ik P w)) a xs:=by
 obtain ⟨z,y,xs,r,o,es,ep,h1,h2,h3,h4,h5,h6⟩:=(show Gu P w H h a (.dT kvs) from xV ok e)
 refine ⟨z,y,xs,r,o,es,ep,h1,h2,h3,h4,λx hx=>?_,h5⟩
 have all:∀{l:List (List Kz×V)} {m:List (List Kz×Addr×Value)},KT H l m->∀x∈m,(Zb (Ik P w)).is h x.1 x.2.1:=by
  intro l m q
  induction q with
  | nil=>intro x hx; exact nomatch hx
  | @cons p q ps qs hq t ih =>
   intro x hx
   rcases Ao.mp hx with e | hx
   ·subst e
    exact aB ok (by rw[<- hq.1]; exact hq.2.1)
   ·exact ih x hx
 exact all r x hx
theorem W2{kvs:List (List Kz×V)}(ok:Vm P w H h)(e:Rd H a (.dT kvs)):kvs.length<=Bb/\(a == Ku)=false/\∃xs,KT H kvs xs/\Nd.DictE (Zb (Ik P w)) h a xs:=by
 obtain ⟨z,y,xs,r,o,es,ep,h1,h2,h3,h4,h5,h6⟩:=(show Gu P w H h a (.dT kvs) from xV ok e)
 refine ⟨z,y,xs,r,o,es,ep,h1,h2,h3,h4,λx hx=>?_,h5,h6⟩
 have all:∀{l:List (List Kz×V)} {m:List (List Kz×Addr×Value)},KT H l m->∀x∈m,(Zb (Ik P w)).is h x.1 x.2.1:=by
  intro l m q
  induction q with
  | nil=>intro x hx; exact nomatch hx
  | @cons p q ps qs hq t ih =>
   intro x hx
   rcases Ao.mp hx with e | hx
   ·subst e
    exact aB ok (by rw[<- hq.1]; exact hq.2.1)
   ·exact ih x hx
 exact all r x hx
end
def kZ(H:Hp)(a:Addr)(y:V)(r:Option V):Prop :=
 (∃kvs k,Rd H a (.dK kvs)/\y=kV k/\r=Xa kvs k)\/∃kvs k b,Rd H a (.dT kvs)/\y=.ref b/\H b=some (.tup (k.map kV))/\r=Xa kvs k
def Y4(H:Hp)(a:Addr)(y v:V)(H':Hp):Prop :=
 (∃kvs k,H a=some (.dK kvs)/\y=kV k/\kvs.length<Bb/\H'=upd H a (.dK (Vs kvs k v))) \/
 ∃kvs k b,H a=some (.dT kvs)/\y=.ref b/\H b=some (.tup (k.map kV))/\kvs.length<Bb/\H'=upd H a (.dT (Vs kvs k v))
theorem kZ.t{H:Hp}{a b:Addr}{kvs:List (List Kz×V)}{k:List Kz}(e:H a=some (.dT kvs))(eb:H b=some (.tup (k.map kV))):kZ H a (.ref b) (Xa kvs k):=.inr ⟨kvs,k,b,.inl e,rfl,eb,rfl⟩
theorem Y4.t{H:Hp}{a b:Addr}{kvs:List (List Kz×V)}{k:List Kz}{v:V}(e:H a=some (.dT kvs))(eb:H b=some (.tup (k.map kV)))(hl:kvs.length<Bb):Y4 H a (.ref b) v (upd H a (.dT (Vs kvs k v))):=.inr ⟨kvs,k,b,e,rfl,eb,hl,rfl⟩
section
variable{X:Cx}{pins:List (Addr×Obj)}{σ:St}{H:Hp}{s:Aj}{a:Addr}{y v:V}{u r:Value}{o:Option V}{A:Cu}{E:Value->Aj->Prop}
theorem Inv.big(I:Inv X pins σ H s):Ku<s.heap.objs.size:=by
 have h:Ct<s.heap.objs.size:=(I.mod.glob.keeps I.bk).lt
 exact Zu (by decide) h
theorem sM{Q:Value->Aj->Prop}(hu:A.units+1<cLine)(I:Inv X pins σ H s)(g:kZ H a y (some v))(ry:RelV y u)(h:∀w' s',Inv X pins σ H s'->RelV v w'->Q w' s'):wpAny (model X.prog X.w) A (Rq (.ref a) u) Q E s:=by
 rcases g with ⟨kvs,k,e,ey,l⟩ | ⟨kvs,k,b,e,ey,eb,l⟩
 ·subst ey
  obtain ⟨z,hd,vs,rel,dd⟩:=rK I.hok e
  obtain ⟨w',hw,rw'⟩:=pI.some_of (v:=v) (o:=valueAt vs k) (by rw[l]; exact rel.val k)
  exact wpAny_getItem_of (qM ry) dd.mapOf hw (h w' _ (I.tok _) rw')
 ·subst ey
  cases (show u=Au b from ry)
  obtain ⟨z,hd,xs,rel,dd⟩:=zD I.hok e
  obtain ⟨w',hw,rw'⟩:=pI.some_of (v:=v) (o:=(atKey xs k).map (·.2)) (by rw[l]; exact rel.val k)
  obtain ⟨p,hp,hp2⟩:=Option.map_eq_some_iff.mp hw
  refine wpAny_getItem_heap (cR hu) (aB I.hok eb) dd hp ?_
  rw[hp2]
  exact h w' _ (I.tok _) rw'
theorem FV{Q:Value->Aj->Prop}(hu:A.units+1<cLine)(I:Inv X pins σ H s)(g:kZ H a y o)(ry:RelV y u)(h:∀s',Inv X pins σ H s'->Q (.bool o.isSome) s'):wpAny (model X.prog X.w) A (Gi .In u (.ref a)) Q E s:=by
 rcases g with ⟨kvs,k,e,ey,l⟩ | ⟨kvs,k,b,e,ey,eb,l⟩
 ·subst ey
  obtain ⟨z,hd,vs,rel,dd⟩:=rK I.hok e
  refine wpAny_in_of (qM ry) hd dd.mapOf ?_
  rw[<- (rel.val k).isSome_eq,<- l]
  exact h _ (I.tok _)
 ·subst ey
  cases (show u=Au b from ry)
  obtain ⟨z,hd,xs,rel,dd⟩:=zD I.hok e
  refine wpAny_in_heap (cR hu) (aB I.hok eb) hd dd ?_
  have q:=(rel.val k).isSome_eq
  rw[Option.isSome_map] at q
  rw[<- q,<- l]
  exact h _ (I.tok _)
theorem qV{h':Heap}{t':Nat}{ob:HO}(I:Inv X pins σ H s)(mu:AR (H a))(hs:Gf a s.heap h')(he:∃q,h'.get? a=some q)(new:Gu X.prog X.w (upd H a ob) h' a ob):Inv X pins σ (upd H a ob) { s with heap:=h',toks:=t' } :=
 I.write (x:=a) (e:=a) mu (.inl rfl) (λb q hb z=>(hs.2 b hb).trans z) he new
theorem X7{P:Bj}{w:World}{H':Hp}{h':Heap}{kvs:List (Kz×V)}{vs:List (Kz×Value)}(z:kvs.length<=Bb)(hd:(a == Ku)=false)(rel:KV kvs vs)(dd:h'.DictOf (Ik P w) a vs):Gu P w H' h' a (.dK kvs):=⟨z,hd,vs,rel,dd⟩
theorem tQ{H':Hp}{Q:Unit->Aj->Prop}(hu:A.units+1<cLine)(I:Inv X pins σ H s)(g:Y4 H a y v H')(ry:RelV y u)(rv:RelV v r)(h:∀s',Inv X pins σ H' s'->Q () s'):wpAny (model X.prog X.w) A (setItem (.ref a) u r) Q E s:=by
 rcases g with ⟨kvs,k,e,ey,l,eH⟩ | ⟨kvs,k,b,e,ey,eb,l,eH⟩
 ·subst ey eH
  obtain ⟨z,hd,vs,rel,dd⟩:=DJ I.hok e
  have hz:vs.length<=Bb:=by rw[<- rel.length]; exact z
  have hl:(Vs kvs k v).length<=Bb:=by have:=Xx kvs k v; omega
  refine wpAny_setItem_pairs (hsz:=hz) (qM ry) dd λh' dd' hs=>h _ ?_
  have he:∃q,h'.get? a=some q:=let ⟨q,_,_,hq,_⟩:=dd'; ⟨q,hq⟩
  exact qV I (by rw[e]; exact Ln) hs he (X7 hl hd (rel.put k rv) dd')
 ·subst ey eH
  cases (show u=Au b from ry)
  obtain ⟨z,hd,xs,rel,dd⟩:=W2 I.hok (.inl e)
  have hz:xs.length<=Bb:=by rw[<- Paired.length rel]; exact z
  have hl:(Vs kvs k v).length<=Bb:=by have:=Xx kvs k v; omega
  refine Nd.setItemE (hz:=hz) (cR hu) (aB I.hok eb) dd λh' dd' hs=>h _ ?_
  obtain ⟨q,es,ep,hq,h2,h3,h4,_,h5⟩:=dd'
  refine qV I (by rw[e]; exact Ln) hs ⟨q,hq⟩ ⟨hl,hd,_,(rel.put k eb rv).keeps λc ys ec=>?_,q,es,ep,hq,h2,h3,h4,h5⟩
  rw[Ew (CV ec e (λz=>nomatch z))]
  exact ec
end
def R7(i:Expr):Prop:=∀ov iv,subscripted i false ov iv=operate [ov,iv] (Rq ov iv)
theorem K7{prog:Bj}{w:World}{A:Cu}{E:Value->Aj->Prop}{s:Aj}{env:Env}{value slice:Expr}{pos:Pos}{T id:String}{Q:Value->Aj->Prop}(hl:typeLookup (.type T) "__getitem__" = pure (some (.builtin id)))(hs:R7 slice)(h:wpAny (model prog w) A (eval value env) (λo s₁=>wpAny (model prog w) A (eval slice env) (λi s₂=>s₂.TypeIs o T/\wpAny (model prog w) A (Rq o i) Q E s₂) E s₁) E s):wpAny (model prog w) A (eval (.Subscript value slice pos) env) Q E s:=by
 refine Subscript_ (Fy h (λo s₁ h₁=>Fy h₁ (λi s₂ h₂=>?_) λ_ _ x=>x) λ_ _ x=>x)
 obtain ⟨hT,h₂⟩:=h₂
 unfold subscriptTail
 refine Ac ?_
 rw[getitemInPython_of_ne hT.not_modules]
 refine Ac (wpAny_specialOf hT hl ?_)
 have fin:wpAny (model prog w) A (subscripted slice false o i) (λr s₃=>wpAny (model prog w) A (letTemporaryGo value o r >>= λ_=>pure r) Q E s₃) E s₂:=by
  rw[hs o i]
  exact wpAny_operating (Fy h₂ (λr s₃ h₃=>Ac (wpAny_letTemporaryGo (Ap h₃))) λ_ _ x=>x)
 first
  | exact Ap (Ac fin)
  | exact Ac (Ap (Ac fin))
  | exact Ac fin
theorem jV{X:Cx}{pins:List (Addr×Obj)}{σ:St}{H:Hp}{s:Aj}{a:Addr}{y:V}{o:Option V}(I:Inv X pins σ H s)(g:kZ H a y o):s.TypeIs (.ref a) "dict" := by
 rcases g with ⟨kvs,k,e,_,_⟩ | ⟨kvs,k,b,e,_,_,_⟩
 ·obtain ⟨_,_,vs,_,dd⟩:=rK I.hok e
  exact dd.typeIs
 ·obtain ⟨_,_,xs,_,dd⟩:=zD I.hok e
  exact dd.typeIs
def DP(td ty:TE):TE:=λσ H Q=>td σ H λx H1=>ty σ H1 λy H2=>∃a v,x=.ref a/\kZ H2 a y (some v)/\Q v H2
def GL(ty td:TE):TE:=λσ H Q=>ty σ H λy H1=>td σ H1 λx H2=>∃a o,x=.ref a/\kZ H2 a y o/\Q (.bl o.isSome) H2
def EO(td ty tv:TE):TS:=λD σ H=>tv σ H λv H1=>td σ H1 λx H2=>ty σ H2 λy H3=>∃a H4,x=.ref a/\Y4 H3 a y v H4/\D.nx σ H4
section
variable{X:Cx}{o i e value:Expr}{pos pos' tpos:Pos}{td ty tv:TE}
theorem C9(hu:X.A.units+1<cLine)(ho:PE X o td)(hi:PE X i ty)(hs:R7 i):PE X (.Subscript o i pos) (DP td ty):=by
 intro pins s σ H Q I h
 refine K7 PySem.F.slot_dict_getitem.lookup hs (Hh (ho pins s σ H _ I h) λu s1 ⟨x,H1,I1,rx,q1⟩=>Hh (hi pins s1 σ H1 _ I1 q1) λiv s2 q0_ => ?_)
 obtain ⟨y,H2,I2,ry,a,v,ex,g,q2⟩ := q0_
 subst ex
 obtain rfl:u=Au a:=rx
 exact ⟨jV I2 g,sM hu I2 g ry λw' s3 I3 rw'=>⟨v,H2,I3,rw',q2⟩⟩
theorem Z2(hu:X.A.units+1<cLine)(hi:PE X i ty)(ho:PE X o td):PC X .In i o (GL ty td):=by
 intro pins s σ H Q I h
 refine Hh (hi pins s σ H _ I h) λiv s1 ⟨y,H1,I1,ry,q1⟩=>Hh (ho pins s1 σ H1 _ I1 q1) λu s2 q0_ => ?_
 obtain ⟨x,H2,I2,rx,a,ov,ex,g,q2⟩ := q0_
 subst ex
 obtain rfl:u=Au a:=rx
 exact FV hu I2 g ry λs3 I3=>⟨.bl ov.isSome,H2,I3,rfl,q2⟩
theorem L1(hu:X.A.units+1<cLine)(ho:PE X o td)(hi:PE X i ty)(hv:PE X value tv)(hs:Kf value (some (.Subscript o i pos')) pos.line X.env=pure false):PS X (.Assign [.Subscript o i pos'] value pos) (EO td ty tv):=by
 intro pins s σ H D I h
 refine wpAny_Assign_Subscript (Hh (hv pins s σ H _ I h) λr s1 ⟨v,H1,I1,rv,q1⟩=>Hh (ho pins s1 σ H1 _ I1 q1) λu s2 ⟨x,H2,I2,rx,q2⟩=>Hh (hi pins s2 σ H2 _ I2 q2) λiv s3 ⟨y,H3,I3,ry,a,H4,ex,g,q3⟩=>?_) hs
 subst ex
 obtain rfl:u=Au a:=rx
 exact tQ hu I3 g ry rv λs4 I4=>⟨σ,H4,I4,q3⟩
end
theorem vC{P:Bj}{w:World}{H:Hp}(h:Heap)(hb:Ku<h.objs.size):Gu P w H (h.push { cls:=.type "dict",data:=.dict #[] }) h.objs.size (.dT []) :=
 ⟨Do _,beq_eq_false_iff_ne.mpr (Nm (Da hb)),[],.nil,_,#[],0,Bs _ rfl,⟨rfl,rfl,rfl⟩,rfl,rfl,Cz,rfl⟩
def Y8:TE:=λ_ H Q=>∀p,H p=none->Q (.ref p) (upd H p (.dT []))
section
variable{X:Cx}{pos:Pos}
theorem yJ:PE X (.Dict [] [] pos) Y8:=λpins s σ H Q I h =>
 wpAny_Dict_empty ⟨.ref s.heap.objs.size,_,I.laid (a:=s.heap.objs.size) (o:=.dT []) (t':=s.toks) (λ_ _ q=>Aq _ q) (Ai _) (vC s.heap I.big),rfl,h _ (I.hok.fresh (Ai _))⟩
end
structure M1(X:Cx)(o:Expr)(m:Str)(apos:Pos)(e:Expr)(cpos:Pos):Prop where
 base:Ta o m X.env (eval o X.env)=eval o X.env
 few:((Iq cpos (By [e] X.env)).all (λx=>!x.1) && (backToKw cpos (Yi [] X.env)).all (λx=>x.1.isSome)
  && decide (([e]:List Expr).length+([]:List Ru).length+(if ([]:List Ru).isEmpty then 0 else 1)<30))=true
 line:(apos.endLine == cpos.line)=true
 trees:Iq cpos (By [e] X.env)=[(false,eval e X.env)]
structure M2(X:Cx)(o:Expr)(m:Str)(apos:Pos)(e f:Expr)(cpos:Pos):Prop where
 base:Ta o m X.env (eval o X.env)=eval o X.env
 few:((Iq cpos (By [e,f] X.env)).all (λx=>!x.1) && (backToKw cpos (Yi [] X.env)).all (λx=>x.1.isSome)
  && decide (([e,f]:List Expr).length+([]:List Ru).length+(if ([]:List Ru).isEmpty then 0 else 1)<30))=true
 line:(apos.endLine == cpos.line)=true
 trees:Iq cpos (By [e,f] X.env)=[(false,eval e X.env),(false,eval f X.env)]
end L2
namespace Nd
open PySem PySem.Spec PyProof.Rows L2
end Nd
namespace DL
open PySem PySem.Spec PyProof.Rows L2 Nd
def Ui(ks:List (List Int×Ad))(w:List Int):Option Ad:=(ks.find? λp=>decide (p.1=w)).map (·.2)
def tW(ks:List (List Int×Ad))(w:List Int)(d:Ad):List (List Int×Ad) :=
 if (ks.any λp=>decide (p.1=w))=true then ks.map (λp=>if p.1=w then (p.1,d) else p) else ks++[(w,d)]
theorem Wa{α β:Type}{f:α->β}(hf:∀a b,f a=f b->a=b):∀{l m:List α},l.map f=m.map f->l=m
 | [],[],_=>rfl
 | [],_::_,h=>by cases h
 | _::_,[],h=>by cases h
 | a::l,b::m,h=>by
  obtain ⟨h1,h2⟩:=Em h
  rw[hf a b h1,Wa hf h2]
theorem Pn{a b:List Int}(h:Bf a=Bf b):a=b:=Wa (λx y e=>by cases e; rfl) (PyData.tuple.inj h)
theorem Sg{a b:List (List Int×Ad)}(h:Ye a=Ye b):a=b:=Wa (λx y e=>by
 obtain ⟨e1,e2⟩:=Prod.mk.inj e
 exact Prod.ext (Pn e1) e2) (Em h).2
theorem bE{a b:List Int}(h:Nb a=Nb b):a=b:=Wa (λx y e=>by cases e; rfl) h
theorem qZ(w:List Int):(Nb w).map kV=w.map V.int:=by
 unfold Nb
 rw[Ek]
 rfl
section
variable{K:PySem.W.Frag}{H H':Hp}
structure DRel(K:PySem.W.Frag)(H:Hp)(kv:List (List Kz×V))(ks:List (List Int×Ad)):Prop where
 key:kv.map (·.1)=ks.map λp=>Nb p.1
 val:RdFs K H (kv.map (·.2)) (ks.map (·.2)) []
theorem RdF.dict_inv{v:V}{X:List (Ad×Ad)}{F:List Addr}(h:RdF K H v (.dict X) F)(hX:J2 X=true:=by first | rfl | assumption):∃a kv ks,v=.ref a/\X=Ye ks/\H a=some (.dT kv)/\DRel K H kv ks/\F=[a]:=by
 cases h with
 | dic h e hs=>exact ⟨_,_,_,rfl,rfl,h,⟨e,hs⟩,rfl⟩
 | dik h e hs=>cases hX
 | dnm h e hs=>cases hX
theorem RdFs.cons_nil{x:V}{d:Ad}{xs:List V}{ds:List Ad}{F:List Addr}(h:RdFs K H (x::xs) (d::ds) F)(hF:F=[]):RdF K H x d []/\RdFs K H xs ds []:=by
 cases h with
 | cons a t =>
  obtain ⟨rfl,rfl⟩:=List.append_eq_nil_iff.mp hF
  exact ⟨a,t⟩
theorem j7{kv:List (List Kz×V)}{ks:List (List Int×Ad)}(r:DRel K H kv ks):kv.length=ks.length:=by
 have:=congrArg Fj r.key
 simpa using this
theorem aP(w:List Int):∀{kv:List (List Kz×V)} {ks:List (List Int×Ad)},DRel K H kv ks->(Xa kv (Nb w)=none/\Ui ks w=none)\/∃v d,Xa kv (Nb w)=some v/\Ui ks w=some d/\RdF K H v d []
 | [],[],_=>.inl ⟨rfl,rfl⟩
 | [],_::_,r=>by cases r.key
 | _::_,[],r=>by cases r.key
 | (k,v)::kv,(u,d)::ks,r=>by
  obtain ⟨e1,e2⟩:=Em r.key
  have e1:k=Nb u:=e1
  obtain ⟨r1,r2⟩:=RdFs.cons_nil r.val rfl
  by_cases h:u=w
  ·subst h e1
   refine .inr ⟨v,d,Vu rfl,by simp [Ui],r1⟩
  ·have hk:¬ k=Nb w:=λz=>h (bE (e1.symm.trans z))
   rw[Vl hk,show Ui ((u,d)::ks) w=Ui ks w by simp [Ui,h]]
   exact aP w ⟨e2,r2⟩
theorem n8(w:List Int){kv:List (List Kz×V)}{ks:List (List Int×Ad)}(r:DRel K H kv ks):(kv.any λp=>decide (p.1=Nb w))=(ks.any λp=>decide (p.1=w)):=by
 have h1:(kv.any λp=>decide (p.1=Nb w))=((kv.map (·.1)).any λk=>decide (k=Nb w)):=by rw[List.any_map]; rfl
 rw[h1,r.key,List.any_map]
 congr 1
 funext p
 exact decide_eq_decide.mpr ⟨λz=>bE z,λz=>by show Nb p.1=Nb w; rw[z]⟩
theorem dZ(w:List Int){v:V}{d:Ad}(rv:RdF K H v d []):∀{kv:List (List Kz×V)} {ks:List (List Int×Ad)},DRel K H kv ks->DRel K H (kv.map λp=>if p.1=Nb w then (p.1,v) else p) (ks.map λp=>if p.1=w then (p.1,d) else p)
 | [],[],r=>r
 | [],_::_,r=>by cases r.key
 | _::_,[],r=>by cases r.key
 | (k,v')::kv,(u,d')::ks,r=>by
  obtain ⟨e1,e2⟩:=Em r.key
  have e1:k=Nb u:=e1
  obtain ⟨r1,r2⟩:=RdFs.cons_nil r.val rfl
  have ih:=dZ w rv (kv:=kv) (ks:=ks) ⟨e2,r2⟩
  rw[Ar,Ar]
  by_cases h:u=w
  ·rw[if_pos (show k=Nb w by rw[e1,h]),if_pos h]
   exact ⟨by rw[Ar,Ar,ih.key]; exact congrArg (·::_) e1,RdFs.cons (F:=[]) (G:=[]) rv ih.val⟩
  ·have hk:¬ k=Nb w:=λz=>h (bE (e1.symm.trans z))
   rw[if_neg (show ¬ (k,v').1=Nb w from hk),if_neg (show ¬ (u,d').1=w from h)]
   exact ⟨by rw[Ar,Ar,ih.key]; exact congrArg (·::_) e1,RdFs.cons (F:=[]) (G:=[]) r1 ih.val⟩
theorem wL(w:List Int){v:V}{d:Ad}(rv:RdF K H v d []){kv:List (List Kz×V)}{ks:List (List Int×Ad)}(r:DRel K H kv ks):DRel K H (Vs kv (Nb w) v) (tW ks w d):=by
 unfold Vs tW
 rw[n8 w r]
 split
 ·exact dZ w rv r
 ·refine ⟨by rw[Bo,Bo,r.key]; rfl,?_⟩
  rw[Bo,Bo]
  exact r.val.snoc rv
end
def BI:R2:=λx y H Q=>∃a v,x=.ref a/\kZ H a y (some v)/\Q v H
def BL(ne:Bool):R2:=λy x H Q=>∃a o,x=.ref a/\kZ H a y o/\Q (.bl (match ne with | true=>!o.isSome | false=>o.isSome)) H
def gR:D2:=λx y P=>match x,y with
 | .dat _ (.dict X),.dat _ k=>∃ks w d,X=Ye ks/\k=Bf w/\Ui ks w=some d/\P (.dat .ow d)
 | _,_=>False
def qE(ne:Bool):D2:=λy x P=>match y,x with
 | .dat _ k,.dat _ (.dict X)=>∃ks w,X=Ye ks/\k=Bf w/\P (.dat .ow (.bool (match ne with | true=>!(Ui ks w).isSome | false=>(Ui ks w).isSome)))
 | _,_=>False
section
variable{K:PySem.W.Frag}
theorem word_at{H:Hp}{v:V}{w:List Int}{F:List Addr}(r:RdF K H v (Bf w) F):∃b,v=.ref b/\H b=some (.tup ((Nb w).map kV)):=by
 obtain ⟨b,xs,rfl,hb,rb,_⟩:=r.tup_inv
 obtain ⟨rfl,_⟩:=rb.ints_inv
 exact ⟨b,rfl,by rw[qZ]; exact hb⟩
theorem p9:iX K BI gR:=by
 intro H0 X n S T x y v w F G H Q P hA hd k
 unfold gR at hd
 split at hd
 ·obtain ⟨ks,u,d,rfl,rfl,hg,p⟩:=hd
  obtain ⟨b,rfl,hb⟩:=word_at (hA.told mem_mid)
  obtain ⟨a,kv,ks',rfl,ek,ha,rel,_⟩:=(hA.told Fk).dict_inv
  obtain rfl:=Sg ek
  rcases aP u rel with ⟨_,z⟩ | ⟨v',d',h1,h2,h3⟩
  ·rw[z] at hg; cases hg
  ·rw[h2] at hg; cases hg
   exact ⟨a,v',rfl,h1▸kZ.t ha hb,k _ _ [] H (hA.drop2.pushI h3) p⟩
 ·exact hd.elim
theorem Y2{ne:Bool}:iX K (BL ne) (qE ne):=by
 intro H0 X n S T x y v w F G H Q P hA hd k
 unfold qE at hd
 split at hd
 ·obtain ⟨ks,u,rfl,rfl,p⟩:=hd
  obtain ⟨b,rfl,hb⟩:=word_at (hA.told Fk)
  obtain ⟨a,kv,ks',rfl,ek,ha,rel,_⟩:=(hA.told mem_mid).dict_inv
  obtain rfl:=Sg ek
  refine ⟨a,_,rfl,kZ.t ha hb,?_⟩
  rcases aP u rel with ⟨h1,h2⟩ | ⟨v',d',h1,h2,h3⟩
  ·rw[h1]
   rw[h2] at p
   cases ne <;> exact k _ _ [] H (hA.drop2.pushI (.bl _)) p
  ·rw[h1]
   rw[h2] at p
   cases ne <;> exact k _ _ [] H (hA.drop2.pushI (.bl _)) p
 ·exact hd.elim
end
section
variable{X:Cx}{a b:Expr}{da db:DE}{pos:Pos}
theorem GK{n:Nat}(hu:n+64<cLine):n+1<cLine:=by omega
theorem A5(hu:X.A.units+64<cLine)(ha:Fc X a da)(hb:Fc X b db)(hs:R7 b:=by intro _ _; rfl):Fc X (.Subscript a b pos) (Uw gR da db):=PE.imp (C9 (GK hu) ha hb hs) (op_le p9)
theorem X6(hu:X.A.units+64<cLine)(ha:Fc X a da)(hb:Fc X b db)(hm:Fx .In b=false:=by with_unfolding_all rfl):dO X (.Compare a [.In] [b] pos) (dB (Uw (qE false) da db)):=PT.imp (X3 (Z2 (GK hu) ha hb) hm) λσ H Q h=>op_le (r:=BL false) Y2 _ _ _ (V9 σ H Q h)
end
def N0:DE:=λδ P=>P (.dat .ow (.dict (Ye []))) δ
theorem At.newD{K:PySem.W.Frag}{H0 H:Hp}{X:Addr->Prop}{n:Nat}{S T:List Ent}{p:Addr}(h:At K H0 X n (S++T) H)(hp:H p=none):At K H0 X n (S++⟨some (.ref p),.dat .ow (.dict (Ye [])),[p]⟩::T) (upd H p (.dT [])):=by
 have s1:=Ga hp (.dT [])
 refine ((h.grow (n':=n) s1 (Ai _)).push (e:=⟨some (.ref p),.dat .ow (.dict (Ye [])),[p]⟩) ⟨_,rfl,.dic Ed rfl .nil,λ_=>Cn.mpr ⟨Bz,Cz⟩,λz=>nomatch z⟩ (λf hf=>?_) λa ha=>?_).tomid
 ·have nf:=h.free hp f hf
  refine ⟨λ_ a ha z=>?_,λ_ a ha z=>?_⟩
  ·rw[Af.mp ha] at z
   exact nf z
  ·rw[Af.mp z] at ha
   exact nf (Fm _ _ ha)
 ·rw[Af.mp ha]
  exact .inl (h.new0 hp)
theorem x5{X:Cx}{pos:Pos}:Fc X (.Dict [] [] pos) N0:=by
 refine PE.imp yJ λσ H Q h=>?_
 obtain ⟨H0,Y,S,T,δ,P,rfl,hS,hA,hd,k⟩:=h
 exact λp hp=>k _ δ _ _ S _ rfl hS (hA.newD hp) hd
theorem At.writeD{K:PySem.W.Frag}{H0 H:Hp}{X:Addr->Prop}{n:Nat}{E:List Ent}{v:Option V}{ks ks':List (List Int×Ad)}{a:Addr}{kv':List (List Kz×V)}(h:At K H0 X n (⟨v,.dat .ow (.dict (Ye ks)),[a]⟩::E) H)(hv:v=some (.ref a))(np:∀e∈E,Og e.x=false)(r:DRel K H kv' ks'):At K H0 X n (⟨v,.dat .ow (.dict (Ye ks')),[a]⟩::E) (upd H a (.dT kv')):=by
 obtain ⟨w,e1,rd,hn,ht⟩:=h.ok _ Aa
 obtain ⟨b,kv,ks0,e2,ek,ha,_,eF⟩:=rd.dict_inv
 have eF':[a]=[b]:=eF
 cases eF'
 have hs:=Bc.mp h.sep
 have kp:∀{F':List Addr},a∉F'->Kp F' H (upd H a (.dT kv')):=λ{F'} hF b o q z=>by
  have : b≠a:=by
   rintro rfl
   rw[ha] at q
   cases q
   rcases z with z | z
   ·exact hF z
   ·rcases z with ⟨_,z⟩ | ⟨_,_,z⟩ <;> cases z
  rw[Ew this]
  exact q
 have n0:H0 a=none:=by
  rcases h.new _ Aa a Aa with z | z
  ·exact z
  ·cases z.2
 refine ⟨λf hf=>?_,Bc.mpr ⟨λf hf=>⟨λhq c hc=>(hs.1 f hf).1 (.inl (np f hf)) c hc,λhq c hc=>(hs.1 f hf).2 (.inl rfl) c hc⟩,hs.2⟩,λf hf=>?_,λb o nx q=>?_,λb o q=>?_,λb hb=>?_⟩
 ·rcases Ao.mp hf with rfl | hf
  ·exact ⟨.ref a,hv,.dic Ed r.key (r.val.kp (kp Bz)),λ_=>Cn.mpr ⟨Bz,Cz⟩,λz=>nomatch z⟩
  ·exact (h.ok f (Ae _ hf)).kp (kp ((hs.1 f hf).1 (.inl (np f hf)) a Aa)) (Ai _)
 ·rcases Ao.mp hf with rfl | hf
  ·exact λc hc=>h.new _ Aa c hc
  ·exact h.new f (Ae _ hf)
 ·rw[Ew (Gg q n0)]
  exact h.same b o nx q
 ·rw[Ew (Gg q n0)]
  exact h.dom b o q
 ·obtain ⟨z,c,k,f,h1,h2⟩:=h.xd b hb
  refine ⟨z,c,k,f,(Ew ?_).trans h1,h2⟩
  rintro rfl
  exact z n0
theorem kH{K:PySem.W.Frag}{H0 H:Hp}{X:Addr->Prop}{S T:List Ent}{δ:DS}{i:Nat}{ks ks':List (List Int×Ad)}(hS:Sl S δ)(hT:∀e∈T,Og e.x=false)(hA:At K H0 X δ.n (S++T) H)(hi:δ.sl[i]? = some (.dat .ow (.dict (Ye ks))))(np:npk δ.sl=true):∃a kv,(vs S)[i]? = some (some (.ref a))/\H a=some (.dT kv)/\DRel K H kv ks/\∀kv',DRel K H kv' ks'->∃S',vs S'=vs S/\Sl S' ⟨δ.sl.set i (.dat .ow (.dict (Ye ks'))),δ.n⟩/\At K H0 X δ.n (S'++T) (upd H a (.dT kv')):=by
 obtain ⟨ent,e2,e3⟩:=Jy hS hi
 have hm:ent∈S:=Ax e2
 obtain ⟨u,x,F⟩:=ent
 have e3':x=.dat .ow (.dict (Ye ks)):=e3
 subst e3'
 obtain ⟨v,hv,rd,_⟩:=hA.ok _ (Al _ hm)
 obtain ⟨a,kv,ks0,rfl,ek,ha,rel,eF⟩:=rd.dict_inv
 obtain rfl:=Sg ek
 have eF':F=[a]:=eF
 subst eF'
 refine ⟨a,kv,by rw[Oo e2]; exact congrArg some hv,ha,rel,λkv' r=>?_⟩
 have hn:=iC hS np
 have h1:=(hA.perm ((Ij e2).append_right T)).writeD (ks':=ks') (kv':=kv') hv (λe he=>?_) r
 ·refine ⟨S.set i ⟨u,.dat .ow (.dict (Ye ks')),[a]⟩,?_,?_,h1.perm ((Sm e2).append_right T).symm⟩
  ·unfold vs
   rw[Hx]
   apply Gn
   intro j
   rw[Jw]
   split
   ·rename_i hij
    subst hij
    rw[Bw,e2]
    split
    ·rfl
    ·rename_i hj
     rw[Ab] at hj
     exact absurd (An.mp e2).1 hj
   ·rfl
  ·unfold Sl at hS ⊢
   rw[Hx,hS]
 ·rcases Aw.mp he with he | he
  ·exact hn e ((Tj S i).subset he)
  ·exact hT e he
def dputB(i:Nat)(y z:DV)(δ:DS)(D:DEnds):Prop:=match δ.sl[i]?,y,z with
 | some (.dat .ow (.dict X)),.dat _ e,.dat _ k=>npk δ.sl=true/\imm e=true/\∃ks w,X=Ye ks/\k=Bf w/\ks.length<1000000/\D.nx ⟨δ.sl.set i (.dat .ow (.dict (Ye (tW ks w e)))),δ.n⟩
 | _,_,_=>False
def isDct:Option DV->Bool
 | some (.dat _ (.dict X))=>J2 X
 | _=>false
def M9(i:Nat)(dk de:DE):DB:=λD δ=>de δ λy δ1=>isDct δ1.sl[i]? = true/\dk δ1 λz δ2=>dputB i y z δ2 D
section
variable{X:Cx}{o i e:Expr}{dk de:DE}{apos cpos pos pos':Pos}{n:Nat}
theorem wR{K:PySem.W.Frag}{H0 H:Hp}{Y:Addr->Prop}{S T:List Ent}{δ:DS}(hS:Sl S δ)(hA:At K H0 Y δ.n (S++T) H)(hi:isDct δ.sl[n]? = true):∃a kv,(vs S)[n]? = some (some (.ref a))/\H a=some (.dT kv):=by
 cases q:δ.sl[n]? with
 | none=>rw[q] at hi; cases hi
 | some x =>
  rw[q] at hi
  obtain ⟨ent,e2,e3⟩:=Jy hS q
  obtain ⟨u,y,F⟩:=ent
  have e3':y=x:=e3
  subst e3'
  have hm:(⟨u,y,F⟩ : Ent)∈S:=Ax e2
  match y,hi with
  | .dat m (.dict X),hi =>
   have hX:J2 X=true:=hi
   obtain ⟨v,hv,rd,_⟩:=hA.ok _ (Al _ hm)
   obtain ⟨a,kv,ks,rfl,_,ha,_⟩:=rd.dict_inv
   exact ⟨a,kv,by rw[Oo e2]; exact congrArg some hv,ha⟩
theorem r9(hu:X.A.units+64<cLine)(ho:PE X o (gN n))(hi:Fc X i dk)(he:Fc X e de)(hs:Kf e (some (.Subscript o i pos')) pos.line X.env=pure false:=by rfl):gO X (.Assign [.Subscript o i pos'] e pos) (M9 n dk de):=by
 refine PS.impD (L1 (GK hu) ho hi he hs) λD σ H h=>?_
 obtain ⟨H0,Y,S,T,δ,P,rfl,hS,hT,hA,hd,k1,k2,k3,k4⟩:=h
 refine ⟨H0,Y,S,T,δ,_,rfl,hS,hA,hd,λy δ1 v F S1 H1 e1 e2 hA1 p1=>?_⟩
 obtain ⟨p1,p2⟩:=p1
 obtain ⟨a,kv,hv,ha⟩:=wR e2 hA1.drop p1
 rw[e1] at hv
 refine ⟨.ref a,hv,H0,Y,S1,⟨some v,y,F⟩::T,δ1,_,e1,e2,hA1,p2,λz δ2 w G S2 H2 e3 e4 hA2 p3=>?_⟩
 unfold dputB at p3
 split at p3
 ·rename_i X0 m1 d m2 k hsl
  obtain ⟨p3,p4,ks,u,rfl,rfl,p5,p6⟩:=p3
  obtain ⟨b,rfl,hb⟩:=word_at (hA2.told mem_mid)
  have r:=hA2.told Fk
  obtain rfl:=r.imm p4
  obtain ⟨a',kv',g1,g2,g3,g4⟩:=kH (ks':=tW ks u d) e4 hT hA2.drop2 hsl p3
  rw[e3,hv] at g1
  cases g1
  obtain ⟨S3,h1,h2,h3⟩:=g4 (Vs kv' (Nb u) v) (wL u r g3)
  refine ⟨a,_,rfl,Y4.t g2 hb (by rw[j7 g3]; exact Ca p5 (mR (n:=1000000) (Ai _))),?_⟩
  rw[<- e3,<- h1]
  exact k1 ⟨_,_⟩ S3 _ h2 h3 p6
 ·exact p3.elim
end
def O5:V->Int
 | .int i=>i
 | _=>0
def o5(H:Hp)(r:Addr):List Int:=match H r with
 | some (.tup xs)=>xs.map O5
 | _=>[]
theorem V7{H:Hp}{r:Addr}{w:List Int}(h:H r=some (.tup (w.map V.int))):o5 H r=w:=by
 unfold o5
 rw[h]
 show (w.map V.int).map O5=w
 rw[Ek]
 exact List.map_id' w
section
variable{K:PySem.W.Frag}{H:Hp}
theorem bW:∀{ws:List (List Int)} {xs:List V} {ds:List Ad} {G:List Addr},RdFs K H xs ds G->ds=ws.map Bf->∃rs:List Addr,xs=rs.map V.ref/\ws=rs.map (o5 H)/\G=[]/\(∀r∈rs,H r=some (.tup ((o5 H r).map V.int)))/\∀r∈rs,RdF K H (.ref r) (Bf (o5 H r)) []
 | [],_,_,_,h,e=>by
  subst e
  cases h
  exact ⟨[],rfl,rfl,rfl,(λ_ z=>nomatch z),(λ_ z=>nomatch z)⟩
 | w::ws,_,_,_,h,e=>by
  cases h with
  | nil=>cases e
  | cons a t =>
   obtain ⟨e1,e2⟩:=Em e
   obtain ⟨rs,rfl,rfl,rfl,h1,h2⟩:=bW t e2
   subst e1
   obtain ⟨r,rfl,hr⟩:=word_at a
   rw[qZ] at hr
   have ew:=V7 hr
   obtain rfl:=a.imm (show imm (Bf w)=true from Rc w)
   refine ⟨r::rs,rfl,by rw[Ar,ew],rfl,λx hx=>?_,λx hx=>?_⟩
   ·rcases Ao.mp hx with rfl | hx
    ·rw[ew]; exact hr
    ·exact h1 x hx
   ·rcases Ao.mp hx with rfl | hx
    ·rw[ew]; exact a
    ·exact h2 x hx
theorem Uo:∀L:List (List Int),Eg (L.map Bf)=true
 | []=>rfl
 | w::L=>by
  show (imm (Bf w) && Eg (L.map Bf))=true
  rw[Uo L,show imm (Bf w)=true from Rc w]; rfl
end
end DL
namespace Nd
open PySem PySem.Spec PyProof.Rows L2
end Nd
namespace DL
open PySem PySem.Spec PyProof.Rows L2 Nd
end DL
namespace Nd
open PySem PySem.Spec PySem.Calls PyProof.Rows PyProof.V L2
def BD(r:Addr)(j:Int)(h:Heap):Prop:=∃t u v,IsRange h r 0 j 1 t u v
abbrev vF(r:Addr)(j:Int):HO:=.ext (BD r j)
section
variable{prog:Bj}{w:World}{A:Cu}{E:Value->Aj->Prop}{s:Aj}
theorem dQ{R:List Value->Aj->Prop}{r:Addr}{a b c:Int}{t u v:Tok}{n:Nat}(hh:A.handled=none)(hr:IsRange s.heap r a b c t u v)(hsmall:Builtin.Range.small a b c=true)(hn:Kg a b c=n)(hlen:n<=2 ^ 24)(h:∀(h':Heap) (tk:Nat) (acc:Array Value),(∀b o,s.heap.get? b=some o->h'.get? b=some o)->ItemsOf (λi v=>∃t,v=.int (a+i * c) t) acc n->R acc.toList { s with heap:=h',toks:=tk }):wpAny (model prog w) A (collect (.ref r)) R E s:=by
 unfold collect
 refine Ac (wpAny_runValue (Kc PyProof.Rows.entry_proto_collect' ?_))
 rw[Hu PySem.F.plain_proto_collect _]
 show wpAny _ A.in1 (newList [] >>= λl=>again (.builtin "list.__iadd__" ⟨[l,.ref r],[]⟩)) _ _ s
 refine Ac (Ei ?_)
 refine Ap ⟨Sz PySem.F.plain_list_iadd _,Kc PyProof.Rows.entry_list_iadd' ?_⟩
 rw[Hu PySem.F.plain_list_iadd _]
 have hS₁:(s.heap.push { cls:=.type "list",data:=.seq ([]:List Value).toArray }).get? s.heap.objs.size=some { cls:=.type "list",data:=.seq #[] }:=Bs _ rfl
 show wpAny _ A.in1 (Builtin.List.listExtendWith (.ref s.heap.objs.size) (.ref r) (.ref s.heap.objs.size)) _ _ _
 have key:=wpAny_extend_range (prog:=prog) (w:=w) (A:=A) (s:={ s with heap:=s.heap.push { cls:=.type "list",data:=.seq ([]:List Value).toArray } })
  (R:=λ(q:Result) (s':Aj)=>∃(h':Heap) (tk:Nat) (acc':Array Value) (c':Nat),q=.ok (.ret (.ref s.heap.objs.size))/\s'={ s with heap:=h',toks:=tk } /\
   (∀b o,s.heap.get? b=some o->h'.get? b=some o)/\h'.get? s.heap.objs.size=some { cls:=.type "list",dict:=none,data:=.seq acc' c',slots:=#[] }/\ItemsOf (λi v=>∃t,v=.int (a+i * c) t) acc' n)
  hh (Aq _ hr) hsmall hn hlen s.heap.objs.size (.ref s.heap.objs.size) 0 hS₁
  (λh' tk acc' c' hk hS' hacc=>⟨h',tk,acc',c',rfl,rfl,λb o e=>hk b o (Da (Bl e)) (Aq _ e),hS',hacc⟩)
 refine Fy key (λfin s' x=>?_) λe s' x=>?_
 ·cases fin with
  | done f =>
   obtain ⟨h',tk,acc',c',e,rfl,hk,hS',hacc⟩:=x
   cases e
   show wpAny _ A (load s.heap.objs.size >>= _) _ _ _
   refine Ac (wpAny_load hS' ?_)
   exact Ap (h h' tk acc' hk hacc)
  | again c₁ =>
   refine ⟨x.1,Px x.2 λq s₂ y=>?_⟩
   obtain ⟨h',tk,acc',c',rfl,rfl,hk,hS',hacc⟩:=y
   show wpAny _ A (load s.heap.objs.size >>= _) _ _ _
   refine Ac (wpAny_load hS' ?_)
   exact Ap (h h' tk acc' hk hacc)
 ·obtain ⟨_,_,_,_,e',_⟩:=x
  cases e'
theorem Ww{Q₁:Value->Aj->Prop}{r:Addr}{a b c:Int}{t u v:Tok}{n:Nat}(hh:A.handled=none)(hr:IsRange s.heap r a b c t u v)(hsmall:Builtin.Range.small a b c=true)(hn:Kg a b c=n)(hlen:n<=1000)(h:∀(h':Heap) (tk:Nat) (acc:Array Value),(∀b o,s.heap.get? b=some o->h'.get? b=some o)->ItemsOf (λi v=>∃t,v=.int (a+i * c) t) acc n->Q₁ (.ref h'.objs.size) { s with heap:=h'.push { cls:=.type "tuple",data:=.seq acc },toks:=tk }):Mv (model prog w) A (.call (.builtin "tuple.__new__") ⟨[.type "tuple",.ref r],[]⟩) (wants Q₁ E) s:=by
 refine codeAny_of_tree ?_
 show wpAny _ A.in1 (do checkBuiltinCall "tuple.__new__" ⟨[.type "tuple",.ref r],[]⟩; again (.builtin "tuple.__new__" ⟨[.type "tuple",.ref r],[]⟩)) _ _ s
 refine Ac (Mf (F.newCall_tuple_1 _) (Ap ⟨Sz F.plain_tuple_new _,Kc F.entry_tuple_new ?_⟩))
 rw[Hu F.plain_tuple_new _]
 have hsub:=sub_tuple_self
 have hinit:=init_tuple_lookup
 have hmh:=madeHere_tuple
 have hTI:s.TypeIs (.ref r) "range" := ⟨_,hr,rfl⟩
 have hh1:A.in1.handled=none:=hh
 wp_walk using Ld hTI,dQ hh1 hr hsmall hn (by omega)
 intro h' tk acc hm hacc
 show wpAny _ _ (Fv acc.toList.toArray >>= λv=>ret v) _ _ _
 unfold Fv
 refine Ac (Ei ?_ (by show acc.toList.toArray.size<=Bb; simp only[Array.toArray_toList]; rw[hacc.1,Kv]; omega))
 refine Ap ?_
 have e:acc.toList.toArray=acc:=by simp
 rw[e]
 exact h h' tk acc hm hacc
end
theorem dI:∀{n:Nat} {acc:Array Value},acc.size=n->(∀(i:Nat) v,acc[i]? = some v->∃t,v=Mh (i:Int) t)->Ge acc.toList ((Bi n).map λk:Nat=>(k:Int)):=by
 intro n acc hs h
 have gen:∀(l:List Value) (m:Nat),(∀(i:Nat) v,l[i]? = some v->∃t,v=Mh ((m+i:Nat):Int) t)->Ge l ((List.range' m l.length).map λk:Nat=>(k:Int)):=by
  intro l
  induction l with
  | nil=>intro m _; exact .nil
  | cons x l ih =>
   intro m hx
   obtain ⟨t,e⟩:=hx 0 x rfl
   have:=ih (m+1) λi v hv=>by
    obtain ⟨t,e⟩:=hx (i+1) v hv
    exact ⟨t,by rw[e]; congr 1; omega⟩
   rw[Ay,List.range'_succ,Ar]
   rw[e]
   exact .cons _ t this
 have:=gen acc.toList 0 λi v hv=>by
  obtain ⟨t,e⟩:=h i v (by simpa using hv)
  exact ⟨t,by rw[e]; congr 1; omega⟩
 rw[List.range_eq_range']
 have e:acc.toList.length=n:=by simpa using hs
 rw[e] at this
 exact this
section
variable{X:Cx}
def BU:List V->Hp->VK->Prop:=λxs H Q=>∃j:Int,xs=[.int j]/\∀r,H r=none->Q (.ref r) (upd H r (vF r j))
theorem mB:Kr X (.type "range") BU:=by
 intro pins s σ H xs us Q I r h
 obtain ⟨j,rfl,q⟩:=h
 obtain ⟨u,rfl,t,rfl⟩:=vals1 r
 refine call_range_1 ⟨.ref s.heap.objs.size,_,I.laid (a:=s.heap.objs.size) (o:=vF s.heap.objs.size j) (t':=s.toks+1+1) (λb o e=>Aq _ e) (Ai _) ?_,rfl,q _ (I.hok.fresh (Ai _))⟩
 refine ⟨⟨_,_,_,Bs _ rfl⟩,⟨_,Bs _ rfl⟩,λh1 h2 ⟨t,u,v,e⟩ k=>⟨t,u,v,k _ e⟩⟩
def EG:List V->Hp->VK->Prop:=λxs H Q=>∃(r:Addr) (j:Int),xs=[.ref r]/\H r=some (vF r j)/\0<=j/\j<=1000/\∀l,H l=none->Q (.ref l) (upd H l (.tup (((Bi j.toNat).map λn:Nat=>(n:Int)).map V.int)))
theorem kX(hc:X.calm=true):Kr X (.type "tuple") EG:=by
 intro pins s σ H xs us Q I r h
 obtain ⟨p,j,rfl,hp,j0,j1,q⟩:=h
 obtain ⟨u,rfl,ru⟩:=vals1 r
 cases ru
 obtain ⟨⟨t,u,v,hr⟩,_,_⟩:=(show Gu X.prog X.w H s.heap p (vF p j) from I.hok p _ hp)
 have hn:Kg 0 j 1=((j.toNat:Nat):Int):=by rw[rangeSize_one]; split <;> omega
 refine callType_codes (Q₁:=λobj s₁=>s₁.TypeIs obj "tuple" /\ EP X pins σ Q obj s₁) F.called_tuple (F.typeCall_tuple_1 _) F.entry_object_init
  (Ww (prog:=X.prog) (w:=X.w) (E:=X.xe) (Q₁:=λobj s₁=>s₁.TypeIs obj "tuple" /\ EP X pins σ Q obj s₁) (A:=X.A.in1) (show X.A.in1.handled=none from I.ok.hd hc) hr (small_one (by omega) (by omega) (by omega) (by omega)) hn (by omega) λh' tk acc hk hacc=>⟨⟨_,Bs _ rfl,rfl⟩,?_⟩) λobj s₁ h₁=>?_
 ·have I1:Inv X pins σ H { s with heap:=h',toks:=tk }:=I.kept hk
  have hv:Fs (((Bi j.toNat).map λn:Nat=>(n:Int)).map V.int) acc.toList:=by
   refine L9 (dI ?_ ?_)
   ·exact hacc.1
   ·intro i v hv
    obtain ⟨t,e⟩:=hacc.2 i v hv
    exact ⟨t,by rw[e]; congr 1; omega⟩
  refine ⟨.ref h'.objs.size,_,I1.laid (a:=h'.objs.size) (o:=.tup (((Bi j.toNat).map λn:Nat=>(n:Int)).map V.int)) (t':=tk) (λb o e=>Aq _ e) (Ai _) ⟨?_,acc.toList,hv,?_⟩,rfl,q _ (I1.hok.fresh (Ai _))⟩
  ·rw[Ab,Ab,Dm]; exact sz (by omega)
  ·have e:acc=acc.toList.toArray:=by simp
   rw[e]
   exact IsTup.new _ _
 ·exact ⟨h₁.1,F.args_object_init_2 obj _,object_init_meets F.called_tuple.init.lookup F.called_tuple.made (by decide) X.prog X.w X.A.in1 _ s₁ ⟨h₁.1,rfl,h₁.2⟩⟩
end
end Nd
namespace DL
open PySem PySem.Spec PyProof.Rows L2 Nd
def FC(K:PySem.W.Frag)(pf:PF):Sp:=λus H Q _=>∃(As:List Ent) (n:Nat) (ds:List Ad) (R:Ad->Prop) (C:List Addr),As.map Ent.v=us.map some/\(∀e∈As,Hi K H n e)/\datas (As.map Ent.x)=some ds/\pf ds R/\(∀a∈C,H a≠none/\∀e∈As,a∉e.F) /\
 ∀v d F H',R d->RdF K H' v d F->(∀a∈F,a∉C)->Yy H H'->Q v H'
def retA(R:Ad->Prop):DEnds where
 nx:=λ_=>R .none
 rt:=λx _=>∃m d,x=.dat m d/\m≠.pk/\R d
section
variable{K:PySem.W.Frag}{H0 H H':Hp}{X:Addr->Prop}{n:Nat}{E S T:List Ent}
theorem At.pushS(h:At K H0 X n E H){v:V}{d:Ad}{F:List Addr}(r:RdF K H v d F)(fr:∀f∈E,∀a∈cells f,a∉F):At K H0 X n (⟨some v,.dat .sh d,F⟩::E) H :=
 h.push ⟨v,rfl,r,λz=>(nomatch z),λz=>(nomatch z)⟩ (λf hf=>⟨λ_ a ha=>(nomatch ha),λ_ a ha=>fr f hf a ha⟩) λa ha=>(nomatch ha)
end
section
variable{P:Bj}{w:World}{K:PySem.W.Frag}{mg:Str->Option Value}{base:Heap}
theorem CL{As:List Ent}{k:Nat}:∀e∈As.map Wz++Gv k,∀a∈e.F,∃f∈As,a∈f.F:=λe he a ha=>by
 rcases Aw.mp he with he | he
 ·obtain ⟨f,hf,rfl⟩:=Br.mp he
  refine ⟨f,hf,?_⟩
  obtain ⟨v,x,F⟩:=f
  cases x <;> exact ha
 ·rw[(Jb.mp he).2] at ha
  exact nomatch ha
theorem h9{x qual:Str}{st:Stmt}{f:Addr}{fd:Cq}{N ps:List Str}{k:Nat}{pf:PF}{db:DB}(F:Fun K x qual st f fd)(S:FnScope N ps (Bq st))(hb:∀(cdv:Value) (A:Cu) (outer:List Env) (s:Aj) (H:Hp) (E:XK),Room k (A.deeper (Pf qual (Bq st) s.heap.objs.size f cdv))->Ug (Me Hn P w K mg base N qual (Bq st) f cdv A outer s H E).nox (Jd st) db)(h:∀ds R,pf ds R->ds.length=ps.length/\db (retA R) ⟨args0 ds (N.length - ps.length),0⟩):FnOk P w K mg base Hn (k+1) f fd ps (FC K pf):=by
 refine F.ok S (λvs H Q E z=>?_) λcdv A outer s H us Q E hr z=>?_
 ·obtain ⟨As,n,ds,R,C,eu,ok,q,hp,_⟩:=z
  have l1:=(h ds R hp).1
  have l2:=Iv q
  rw[Ab] at l2
  have l3:=congrArg Fj eu
  rw[Ab,Ab] at l3
  omega
 ·obtain ⟨As,n,ds,R,C,eu,ok,q,hp,hG,k1⟩:=z
  obtain ⟨l1,hd⟩:=h ds R hp
  have l2:=Iv q
  rw[Ab] at l2
  have l3:=congrArg Fj eu
  rw[Ab,Ab] at l3
  let H0:Hp:=λa=>open Classical in if a∈C then none else H a
  have h0n:∀{a},a∈C->H0 a=none:=λz=>if_pos z
  have h0s:∀{a},a∉C->H0 a=H a:=λz=>if_neg z
  -- what holds at the end
  have ends:∀{E':List Ent} {n':Nat} {H':Hp},At K H0 (λ_=>False) n' (E'++[⟨none,.grd H,C⟩]) H'->Yy H H':=λ{E' n' H'} hA b o e=>by
   by_cases hb:b∈C
   ·obtain ⟨o',g1,g2⟩:=hA.ok _ (Ag _ Aa) b hb
    rw[e] at g1
    cases g1
    exact g2
   ·exact hA.same b o (λz=>z) (by rw[h0s hb]; exact e)
  refine ⟨_,hb cdv A outer s H E hr,H0,λ_=>False,As.map Wz++Gv (N.length - ps.length),[⟨none,.grd H,C⟩],⟨args0 ds (N.length - ps.length),0⟩,retA R,?_,?_,λe z=>?_,?_,hd,λδ' S' H' e1 hA p=>?_,λx δ' v F' S' H' e1 hA p=>?_,λ_ _ _ _ _ p=>p.elim,λ_ _ _ _ _ p=>p.elim⟩
  ·unfold vs L2.start Gv
   rw[Bo,F8,eu,Mb,show us.length=ps.length by omega]
  ·unfold Sl args0 Gv
   rw[Bo,Qx q,Mb]
  ·rw[Af.mp z]; rfl
  ·have hs:=Zk q (N.length - ps.length)
   have hF:=CL (As:=As) (k:=N.length - ps.length)
   have gF:∀e∈As.map Wz++Gv (N.length - ps.length),∀a∈C,a∉e.F:=λe he a ha z=>by
    obtain ⟨f,hf,zf⟩:=hF e he a z
    exact (hG _ ha).2 f hf zf
   refine ⟨λe he=>?_,Ce.mpr ⟨Pl λa ha b hb'=>⟨λhq c hc=>?_,λhq c hc=>?_⟩,Eb _ _,λa ha b hb'=>⟨λhq c hc=>?_,λhq c hc=>?_⟩⟩,λe he a ha=>?_,λb o _ e=>?_,λb o e=>?_,λb hb=>hb.elim⟩
   ·rcases Aw.mp he with he | he
    ·have:=qF q ok (N.length - ps.length) e he
     obtain ⟨v,x,F⟩:=e
     cases x with
     | drw=>exact absurd (hs _ he).2 (by show ¬ (true=false); decide)
     | _=>exact this
    ·rw[Af.mp he]
     intro a ha
     have:=(hG _ ha).1
     cases q:H a with
     | none=>exact absurd q this
     | some o=>exact ⟨o,by first | rfl | exact q,by first | rfl | exact q⟩
   ·rw[(hs a ha).1] at hc; cases hc
   ·rw[(hs b hb').1] at hc; cases hc
   ·rw[(hs a ha).1] at hc; cases hc
   ·rw[Af.mp hb'] at hc
    exact gF a ha c hc
   ·rcases Aw.mp he with he | he
    ·rw[(hs e he).1] at ha; cases ha
    ·rw[Af.mp he] at ha
     exact .inl (h0n ha)
   ·by_cases hb:b∈C
    ·rw[h0n hb] at e; cases e
    ·rw[h0s hb] at e; exact e
   ·by_cases hb:b∈C
    ·rw[h0n hb] at e; cases e
    ·rw[h0s hb] at e; exact ⟨o,e⟩
  ·exact k1 .non .none [] H' p .non (λ_ z=>(nomatch z)) (ends hA)
  ·obtain ⟨m,d,rfl,hm,r⟩:=p
   obtain ⟨u,e2,rd,_⟩:=hA.ok _ mem_mid
   cases e2
   have hA2:At K H0 (λ_=>False) δ'.n ((S'++[⟨some v,.dat m d,F'⟩])++[⟨none,.grd H,C⟩]) H':=by rw[Cb]; exact hA
   refine k1 v d F' H' r rd (λa ha=>?_) (ends hA2)
   have sp:=(Ce.mp hA2.sep).2.2 _ (Ag _ Aa) _ Aa
   exact λz=>sp.2 (.inr rfl) a z ha
end
def xO(pf:PF)(da:DA):DE:=λδ P=>da δ λxs δ1=>noPk xs=true/\match datas xs with
 | some ds=>pf ds λd=>P (.dat .sh d) δ1
 | none=>False
theorem aV:∀{As:List Ent},noPk (As.map Ent.x)=true->∀e∈As,Og e.x=false
 | [],_,e,he=>nomatch he
 | ⟨v,x,F⟩::As,h,e,he=>by
  rw[Ar] at h
  have hh:Og x=false/\noPk (As.map Ent.x)=true:=by
   cases x with
   | dat m d=>cases m <;> first | exact ⟨rfl,h⟩ | (simp [noPk] at h)
   | _=>exact ⟨rfl,by simpa [noPk] using h⟩
  rcases Ao.mp he with rfl | he
  ·exact hh.1
  ·exact aV hh.2 e he
section
variable{X:Cx}{CX:qA}{k:Nat}{f:Addr}{fd:Cq}{ps:List Str}{pf:PF}{E:XK}{x:Str}{p pos:Pos}{e:Expr}{es:List Expr}{da:DA}
theorem j3(F:FnOk X.prog X.w X.K X.mg X.base CX k f fd ps (FC X.K pf))(hr:Room k X.A)(hg:Gl X x)(hm:X.mg x=some (.ref f))(hk:PySem.W.keepIn X.K (.ref f)=true)(hb:Binds X.K fd ps [])(hx:Oy CX X E)(ha:mQ X (e::es) da)(hdb:(x == ("__debug__" : Str))=false:=by decide)(he:By (e::es) X.env=(false,eval e X.env)::By es X.env:=by rfl)(hpl:(Iq pos (By es X.env)).any (·.1)=false:=by rfl):Fc X (.Call (.Name x p) (e::es) [] pos) (xO pf da):=by
 refine PE.imp (Va F hr hg hm hk hb .nil hx ha hdb he hpl) λσ H Q h=>?_
 obtain ⟨H0,Y,S,T,δ,P,rfl,hS,hA,hd,kk⟩:=h
 refine ⟨H0,Y,S,T,δ,_,rfl,hS,hA,hd,λxs δ' As us S' H' e1 e2 ex eu hA' p=>?_⟩
 subst ex
 obtain ⟨np,p⟩:=p
 cases q:datas (As.map Ent.x) with
 | none=>rw[q] at p; exact p.elim
 | some ds =>
  rw[q] at p
  rw[Ea]
  have hAs:=aV np
  have hE:=hA'.dropL
  refine ⟨As,δ'.n,ds,_,(S'++T).flatMap cells,eu,λe he=>hA'.ok e (Ag _ (Al _ he)),q,p,λa ha=>?_,λv d F H'' r rd fr s=>?_⟩
  ·obtain ⟨g,hg1,hg2⟩:=Ec.mp ha
   refine ⟨λz=>?_,λe he=>?_⟩
   ·obtain ⟨o,q⟩:=(hE.ok g hg1).dom a (Fm _ _ hg2)
    rw[z] at q; cases q
   ·obtain ⟨_,hp2,hp⟩ := Ce.mp hA'.sep
    rcases Aw.mp hg1 with hg1 | hg1
    ·exact (hp g hg1 e (Al _ he)).1 (.inl (hAs e he)) a hg2
    ·exact ((Ce.mp hp2).2.2 e he g hg1).2 (.inl (hAs e he)) a hg2
  ·refine kk _ δ' v F S' H'' e1 e2 (((hE.grow s (Ai _)).pushS rd λf hf a ha z=>fr a z (Ec.mpr ⟨f,hf,ha⟩)).tomid) r
end
def HZ(da:DA):DE:=λδ P=>da δ λxs δ1=>match xs with
 | [.dat _ (.tuple ds)]=>∃ns:List Int,ds=ns.map Bm/\(∀x∈ns,0<=x/\x<60)/\P (.dat .ow (.list ((S6 ns).map Bm))) δ1
 | _=>False
def Yo(j:Nat):List Int:=(Bi j).map λn:Nat=>(n:Int)
def FB(x:DV)(δ:DS)(P:DV->DS->Prop):Prop:=match x with
 | .dat _ (.int j)=>0<=j/\j<=1000/\P (.dat .ow (Bf (Yo j.toNat))) δ
 | _=>False
def HN(de:DE):DE:=λδ P=>de δ λx δ1=>FB x δ1 P
section
variable{X:Cx}{p p2 pos pos2:Pos}{e:Expr}{de:DE}
theorem uS(hc:X.calm=true)(hg:Gl X "tuple")(hm:X.mg "tuple" = none)(hg2:Gl X "range")(hm2:X.mg "range" = none)(ha:Fc X e de)(he:By [e] X.env=[(false,eval e X.env)]:=by rfl)(he2:By [.Call (.Name "range" p2) [e] [] pos2] X.env=[(false,eval (.Call (.Name "range" p2) [e] [] pos2) X.env)]:=by rfl):Fc X (.Call (.Name "tuple" p) [.Call (.Name "range" p2) [e] [] pos2] [] pos) (HN de):=by
 refine PE.imp (Pi (kX hc) hg hm (by decide +kernel) (Jf (Pi mB hg2 hm2 (by decide +kernel) (Jf ha Qe he) (by decide) (by decide) he rfl) Qe he2) (by decide) (by decide) he2 rfl) λσ H Q h=>?_
 obtain ⟨H0,Y,S,T,δ,P,rfl,hS,hA,hd,k⟩:=h
 refine ⟨H0,Y,S,T,δ,_,rfl,hS,hA,hd,λx δ' v F S' H' e1 e2 hA' p=>?_⟩
 unfold FB at p
 split at p
 ·rename_i m j
  obtain ⟨j0,j1,p⟩:=p
  obtain ⟨rfl,_⟩:=(hA'.told mem_mid).int_inv
  refine ⟨j,rfl,λr nr=>⟨r,j,rfl,Ed,j0,j1,λl nl=>?_⟩⟩
  have s1:=Ga nr (vF r j)
  have s2:=Ga nl (.tup ((Yo j.toNat).map V.int))
  refine k _ δ' _ _ S' _ e1 e2 (((hA'.drop.grow s1 (Ai _)).grow s2 (Ai _)).pushI (RdF.tup Ed ?_ (RdFs.ints _))) p
  rw[Ab]
  unfold Yo
  rw[Ab,Dm]
  exact mR (by omega)
 ·exact p.elim
end
def K9(K:PySem.W.Frag)(df:DF):Sp:=λus H Q _=>∃(dr:Addr) (ws:List V) (As:List Ent) (n:Nat) (ds:List Ad) (R:Ad->Nat->Prop) (C:List Addr),us=.ref dr::ws/\As.map Ent.v=ws.map some/\(∀e∈As,Hi K H n e)/\(∀e∈As,dr∉e.F)/\(∃c k f,aG H dr c k f/\0<=k/\k<=(n:Int))/\datas (As.map Ent.x)=some ds/\df ds n R /\
 dr∉C/\(∀a∈C,H a≠none/\∀e∈As,a∉e.F) /\
 ∀v d F n' H',n<=n'->R d n'->RdF K H' v d F->(∀a∈F,a∉C)->To dr H H'->(∃c k f,aG H' dr c k f/\0<=k/\k<=(n':Int))->Q v H'
def retWT(n:Nat)(R:Ad->Nat->Prop):DEnds where
 nx:=λδ=>n<=δ.n/\R .none δ.n
 rt:=λx δ=>n<=δ.n/\∃m d,x=.dat m d/\m≠.pk/\R d δ.n
section
variable{P:Bj}{w:World}{K:PySem.W.Frag}{mg:Str->Option Value}{base:Heap}
theorem yR{x qual:Str}{st:Stmt}{f:Addr}{fd:Cq}{N ps:List Str}{p0:Str}{k:Nat}{df:DF}{db:DB}(F:Fun K x qual st f fd)(S:FnScope N (p0::ps) (Bq st))(hb:∀(cdv:Value) (A:Cu) (outer:List Env) (s:Aj) (H:Hp) (E:XK),Room k (A.deeper (Pf qual (Bq st) s.heap.objs.size f cdv))->Ug (Me Hn P w K mg base N qual (Bq st) f cdv A outer s H E).nox (Jd st) db)(h:∀ds n R,df ds n R->ds.length=ps.length/\db (retWT n R) ⟨.drw::args0 ds (N.length - (p0::ps).length),n⟩):FnOk P w K mg base Hn (k+1) f fd (p0::ps) (K9 K df):=by
 refine F.ok S (λvs H Q E z=>?_) λcdv A outer s H us Q E hr z=>?_
 ·obtain ⟨dr,ws,As,n,ds,R,C,rfl,eu,ok,nd,hdr,q,hp,_⟩:=z
  have l1:=(h ds n R hp).1
  have l2:=Iv q
  rw[Ab] at l2
  have l3:=congrArg Fj eu
  rw[Ab,Ab] at l3
  rw[Ay,Ay]
  omega
 ·obtain ⟨dr,ws,As,n,ds,R,C,rfl,eu,ok,ndr,hdr,q,hp,hC,hG,k1⟩:=z
  obtain ⟨l1,hd⟩:=h ds n R hp
  have l2:=Iv q
  rw[Ab] at l2
  have l3:=congrArg Fj eu
  rw[Ab,Ab] at l3
  let H0:Hp:=λa=>open Classical in if a∈C then none else H a
  have h0n:∀{a},a∈C->H0 a=none:=λz=>if_pos z
  have h0s:∀{a},a∉C->H0 a=H a:=λz=>if_neg z
  have ends:∀{E':List Ent} {n':Nat} {H':Hp},At K H0 (·=dr) n' (E'++[⟨none,.grd H,C⟩]) H'->To dr H H':=λ{E' n' H'} hA b o nb e=>by
   by_cases hb:b∈C
   ·obtain ⟨o',g1,g2⟩:=hA.ok _ (Ag _ Aa) b hb
    rw[e] at g1
    cases g1
    exact g2
   ·exact hA.same b o nb (by rw[h0s hb]; exact e)
  refine ⟨_,hb cdv A outer s H E hr,H0,(·=dr),⟨some (.ref dr),.drw,[dr]⟩::(As.map Wz++Gv (N.length - (p0::ps).length)),[⟨none,.grd H,C⟩],⟨.drw::args0 ds (N.length - (p0::ps).length),n⟩,retWT n R,?_,?_,λe z=>?_,?_,hd,λδ' S' H' e1 hA p=>?_,λx δ' v F' S' H' e1 hA p=>?_,λ_ _ _ _ _ p=>p.elim,λ_ _ _ _ _ p=>p.elim⟩
  ·unfold vs L2.start Gv
   rw[Ar,Bo,F8,eu,Mb,Ay,Ay,show ws.length=ps.length by omega]
   rfl
  ·unfold Sl args0 Gv
   rw[Ar,Bo,Qx q,Mb]
  ·rw[Af.mp z]; rfl
  ·have hs:=Zk q (N.length - (p0::ps).length)
   have hF:=CL (As:=As) (k:=N.length - (p0::ps).length)
   have gF:∀e∈As.map Wz++Gv (N.length - (p0::ps).length),∀a∈C,a∉e.F:=λe he a ha z=>by
    obtain ⟨f,hf,zf⟩:=hF e he a z
    exact (hG a ha).2 f hf zf
   have hsub:∀e∈As.map Wz++Gv (N.length - (p0::ps).length),dr∉e.F:=λe he z=>by
    obtain ⟨f,hf,zf⟩:=hF e he dr z
    exact ndr f hf zf
   have dom0:H0 dr≠none:=by
    rw[h0s hC]
    obtain ⟨c,kk,fl,z1,z2⟩:=hdr
    exact λz=>(by rw[show H dr=some _ from z1] at z; cases z)
   refine ⟨λe he=>?_,Bc.mpr ⟨λb hb'=>?_,Ce.mpr ⟨Pl λa ha b hb'=>⟨λhq c hc=>?_,λhq c hc=>?_⟩,Eb _ _,λa ha b hb'=>⟨λhq c hc=>?_,λhq c hc=>?_⟩⟩⟩,λe he a ha=>?_,λb o _ e=>?_,λb o e=>?_,λb hb=>?_⟩
   ·rcases Ao.mp he with rfl | he
    ·obtain ⟨c,kk,fl,z1,z2,z3⟩:=hdr
     exact ⟨dr,c,kk,fl,rfl,rfl,z1,z2,z3⟩
    ·rcases Aw.mp he with he | he
     ·exact qF q ok _ e he
     ·rw[Af.mp he]
      intro a ha
      have:=(hG a ha).1
      cases q:H a with
      | none=>exact absurd q this
      | some o=>exact ⟨o,by first | rfl | exact q,by first | rfl | exact q⟩
   ·rcases Aw.mp hb' with hb' | hb'
    ·refine ⟨λhq c hc=>?_,λhq c hc=>?_⟩
     ·rw[Af.mp hc]; exact hsub b hb'
     ·rw[(hs b hb').1] at hc; cases hc
    ·rw[Af.mp hb']
     refine ⟨λhq c hc=>?_,λhq c hc z=>?_⟩
     ·rw[Af.mp hc]; exact hC
     ·rw[Af.mp z] at hc; exact hC hc
   ·rw[(hs a ha).1] at hc; cases hc
   ·rw[(hs b hb').1] at hc; cases hc
   ·rw[(hs a ha).1] at hc; cases hc
   ·rw[Af.mp hb'] at hc
    exact gF a ha c hc
   ·rcases Ao.mp he with rfl | he
    ·rw[Af.mp ha]
     exact .inr ⟨rfl,rfl⟩
    ·rcases Aw.mp he with he | he
     ·rw[(hs e he).1] at ha; cases ha
     ·rw[Af.mp he] at ha
      exact .inl (h0n ha)
   ·by_cases hb:b∈C
    ·rw[h0n hb] at e; cases e
    ·rw[h0s hb] at e; exact e
   ·by_cases hb:b∈C
    ·rw[h0n hb] at e; cases e
    ·rw[h0s hb] at e; exact ⟨o,e⟩
   ·subst hb
    obtain ⟨c,kk,fl,z1,z2⟩:=hdr
    exact ⟨dom0,c,kk,fl,z1,z2⟩
  ·exact k1 .non .none [] δ'.n H' p.1 p.2 .non (λ_ z=>(nomatch z)) (ends hA) (hA.xd dr rfl).2
  ·obtain ⟨hn,m,d,rfl,hm,r⟩:=p
   obtain ⟨u,e2,rd,_⟩:=hA.ok _ mem_mid
   cases e2
   have hA2:At K H0 (·=dr) δ'.n ((S'++[⟨some v,.dat m d,F'⟩])++[⟨none,.grd H,C⟩]) H':=by rw[Cb]; exact hA
   refine k1 v d F' δ'.n H' hn r rd (λa ha=>?_) (ends hA2) (hA.xd dr rfl).2
   have sp:=(Ce.mp hA2.sep).2.2 _ (Ag _ Aa) _ Aa
   exact λz=>sp.2 (.inr rfl) a z ha
end
def gT(df:DF)(xs:List DV)(δ:DS)(P:DV->DS->Prop):Prop:=match xs with
 | .drw::ys=>noPk ys=true/\match datas ys with
  | some ds=>df ds δ.n λd n'=>P (.dat .sh d) ⟨δ.sl,n'⟩
  | none=>False
 | _=>False
def pZ(df:DF)(da:DA):DE:=λδ P=>da δ λxs δ1=>gT df xs δ1 P
section
variable{X:Cx}{CX:qA}{k:Nat}{f:Addr}{fd:Cq}{ps:List Str}{df:DF}{E:XK}{x:Str}{p pos:Pos}{e:Expr}{es:List Expr}{da:DA}
theorem uV(F:FnOk X.prog X.w X.K X.mg X.base CX k f fd ps (K9 X.K df))(hr:Room k X.A)(hg:Gl X x)(hm:X.mg x=some (.ref f))(hk:PySem.W.keepIn X.K (.ref f)=true)(hb:Binds X.K fd ps [])(hx:Oy CX X E)(ha:mQ X (e::es) da)(hdb:(x == ("__debug__" : Str))=false:=by decide)(he:By (e::es) X.env=(false,eval e X.env)::By es X.env:=by rfl)(hpl:(Iq pos (By es X.env)).any (·.1)=false:=by rfl):Fc X (.Call (.Name x p) (e::es) [] pos) (pZ df da):=by
 refine PE.imp (Va F hr hg hm hk hb .nil hx ha hdb he hpl) λσ H Q h=>?_
 obtain ⟨H0,Y,S,T,δ,P,rfl,hS,hA,hd,kk⟩:=h
 refine ⟨H0,Y,S,T,δ,_,rfl,hS,hA,hd,λxs δ' As us S' H' e1 e2 ex eu hA' p=>?_⟩
 subst ex
 unfold gT at p
 split at p
 ·rename_i ys ey
  match As,us,ey,eu,hA' with
  | ent::As,w::us,ey,eu,hA' =>
   obtain ⟨u,z,F⟩:=ent
   have ez:z=.drw:=(Em ey).1
   have eys:As.map Ent.x=ys:=(Em ey).2
   subst ez eys
   obtain ⟨np,p⟩:=p
   have hAs:=aV np
   have eu1:u=some w:=(Em eu).1
   have eu2:As.map Ent.v=us.map some:=(Em eu).2
   have hE:(⟨u,.drw,F⟩ : Ent)∈S'++((⟨u,.drw,F⟩::As)++T):=Ag _ (Al _ Aa)
   obtain ⟨dr,c0,k0,f0,hv0,hF0,hd0,hk0,hk1⟩:=hA'.ok _ hE
   have ew:some w=some (V.ref dr):=eu1.symm.trans hv0
   cases ew
   have hF':F=[dr]:=hF0
   subst hF'
   have hM:=hA'.perm (jF (S:=S') (T:=As++T))
   have hMs:=Bc.mp hM.sep
   have hE0:At X.K H0 Y δ'.n (S'++T) H':=hM.sub (((Dl S').append (Cm As T)).cons _)
   cases q:datas (As.map Ent.x) with
   | none=>rw[q] at p; exact p.elim
   | some ds =>
    rw[q] at p
    rw[Ea]
    refine ⟨dr,us,As,δ'.n,ds,_,(S'++T).flatMap cells,rfl,eu2,λe he=>hA'.ok e (Ag _ (Al _ (Ae _ he))),λe he=>?_,⟨c0,k0,f0,hd0,hk0,hk1⟩,q,p,λz=>?_,λa ha=>?_,λv d F n' H'' hn r rd fr s hdr=>?_⟩
    ·exact (hMs.1 e (Ag _ (Al _ he))).1 (.inr rfl) dr Aa
    ·obtain ⟨g,hg1,hg2⟩:=Ec.mp z
     refine (hMs.1 g ?_).1 (.inr rfl) dr Aa (Fm _ _ hg2)
     rcases Aw.mp hg1 with h | h
     ·exact Al _ h
     ·exact Ag _ (Ag _ h)
    ·obtain ⟨g,hg1,hg2⟩:=Ec.mp ha
     refine ⟨λz=>?_,λe he=>?_⟩
     ·obtain ⟨o,q⟩:=(hE0.ok g hg1).dom a (Fm _ _ hg2)
      rw[z] at q; cases q
     ·obtain ⟨_,hp2,hp⟩ := Ce.mp hMs.2
      rcases Aw.mp hg1 with hg1 | hg1
      ·exact (hp g hg1 e (Al _ he)).1 (.inl (hAs e he)) a hg2
      ·exact ((Ce.mp hp2).2.2 e he g hg1).2 (.inl (hAs e he)) a hg2
    ·have hA2:=hM.drawn Aa rfl hv0 s hdr hn
     have hA3:At X.K H0 Y n' (S'++T) H'':=hA2.sub (((Dl S').append (Cm As T)).cons _)
     exact kk _ ⟨δ'.sl,n'⟩ v F S' H'' e1 e2 ((hA3.pushS rd λf hf a ha z=>fr a z (Ec.mpr ⟨f,hf,ha⟩)).tomid) r
 ·exact p.elim
end
abbrev PX:=List Ad->(Ad->Prop)->(Addr->Prop)->Prop
end DL
namespace Nd
open PySem PySem.Spec PyProof.Rows L2
end Nd
namespace DL
open PySem PySem.Spec PyProof.Rows L2 Nd
end DL
namespace Nd
open PySem PySem.Spec PyProof.Rows L2
end Nd
namespace Nd
open PySem PySem.Spec
end Nd
namespace Nd
open PySem PySem.Spec PyProof.Rows L2
end Nd
namespace DL
open PySem PySem.Spec PyProof.Rows L2 Nd
end DL
namespace Nd
open PySem PySem.Spec PyProof.Rows L2
end Nd
namespace DL
open PySem PySem.Spec PyProof.Rows L2 Nd
end DL
namespace Nd
open PySem PySem.Spec PyProof.Rows L2
end Nd
namespace DL
open PySem PySem.Spec PyProof.Rows L2 Nd
theorem At.spoil{K:PySem.W.Frag}{H0 H H':Hp}{X:Addr->Prop}{n:Nat}{E:List Ent}{v:Option V}{d:Ad}{F:List Addr}(h:At K H0 X n (⟨v,.dat .ow d,F⟩::E) H)(np:∀f∈E,Og f.x=false)(hs:∀b o,H b=some o->(b∉F\/GI o)->H' b=some o):At K H0 X n E H':=by
 have hp:=Bc.mp h.sep
 have n0:∀a∈F,H0 a=none:=λa ha=>by
  rcases h.new _ Aa a ha with z | z
  ·exact z
  ·cases z.2
 refine At.re (h.sub (Di _ _)) (λf hf=>(h.ok f (Ae _ hf)).kp (λb o e z=>hs b o e (z.imp (λq r=>(hp.1 f hf).1 (.inl (np f hf)) b r q) id)) (Ai _)) (λb o nx q=>hs b o (h.same b o nx q) (.inl λz=>?_)) (λb o q=>?_) λb hb=>?_
 ·rw[n0 b z] at q; cases q
 ·obtain ⟨o',e⟩:=h.dom b o q
  exact ⟨o',hs b o' e (.inl λz=>by rw[n0 b z] at q; cases q)⟩
 ·obtain ⟨z,c,k,f,h1,h2⟩:=h.xd b hb
  exact ⟨z,c,k,f,hs _ _ h1 (.inl λw=>z (n0 b w)),h2⟩
end DL
namespace Ts
open PySem PyProof.Rows L2
end Ts
namespace DL
open PySem PySem.Spec PyProof.Rows L2 Nd Ts
end DL
namespace DL
open PySem PySem.Spec PyProof.Rows L2 Nd
end DL
namespace Nd
open PySem PySem.Spec PyProof.Rows L2
end Nd
namespace DL
open PySem PySem.Spec PyProof.Rows L2 Nd
theorem C3{a b:Addr}{x y:List (List Int×Ad)}(h:Q8 a x=Q8 b y):a=b/\x=y:=by
 obtain ⟨h1,h2⟩:=Em h
 refine ⟨Int.ofNat.inj (PyData.int.inj (Prod.mk.inj h1).2),?_⟩
 refine Wa (λx y e=>?_) h2
 obtain ⟨e1,e2⟩:=Prod.mk.inj e
 exact Prod.ext (Pn e1) e2
def K3:D2:=λx y P=>match x,y with
 | .dat _ (.dict X),.dat _ k=>∃a ks w d,X=Q8 a ks/\k=Bf w/\Ui ks w=some d/\P (.dat .ow d)
 | _,_=>False
end DL
namespace Nd
open PySem PySem.Spec PySem.Calls PyProof.Rows PyProof.V L2 Ts
end Nd
namespace DL
open PySem PySem.Spec PyProof.Rows L2 Nd Ts
theorem tab_no{K:PySem.W.Frag}{x:Str}(nm:PySem.W.nsIn K Ct x=some none):PySem.W.tabIn K x=none:=by
 unfold PySem.W.tabIn
 rw[nm]
end DL
namespace HT
open PySem PyProof.Rows
end HT
namespace Nd
open PySem PySem.Spec PySem.Calls PyProof.Rows PyProof.V L2 Ts
end Nd
namespace DL
open PySem PySem.Spec PyProof.Rows L2 Nd Ts
end DL
namespace DL
open PySem PySem.Spec PyProof.Rows L2 Nd
end DL
namespace DL
open PySem L2 Nd
end DL
namespace Nd
open PySem PySem.Spec PyProof.Rows L2
end Nd
namespace DL
open PySem PySem.Spec PyProof.Rows L2 Nd
def L5(i:Nat)(z y:DV)(δ:DS)(D:DEnds):Prop:=match δ.sl[i]?,z,y with
 | some (.dat m (.list ds)),.dat _ (.int k),.dat my e=>own1 m=true/\npk δ.sl=true/\my≠.pk/\ds.length<1000000/\0<=k/\k<=1000000/\D.nx ⟨δ.sl.set i (.dat (IH m my) (.list (AU ds k.toNat e))),δ.n⟩
 | _,_,_=>False
def n9(i:Nat)(dk de:DE):DB:=λD δ=>match δ.sl[i]? with
 | some (.dat _ (.list _))=>dk δ λz δ1=>de δ1 λy δ2=>L5 i z y δ2 D
 | _=>False
def HM(db:DB)(D:DEnds)(I:DS->Prop)(μ:DS->Nat)(δ':DS)(b:Bool)(δ2:DS):Prop:=match b with
 | true=>db { D with nx:=λδ3=>I δ3/\μ δ3<μ δ',ct:=λδ3=>I δ3/\μ δ3<μ δ',bk:=D.nx } δ2
 | false=>D.nx δ2
theorem zH{dt:DT}{db:DB}{D:DEnds}{δ:DS}(I:DS->Prop)(μ:DS->Nat)(h0:I δ)(h:∀δ',I δ'->dt δ' (HM db D I μ δ')):vN dt db D δ:=⟨I,μ,h0,h⟩
theorem O2{db:DB}{D:DEnds}{I:DS->Prop}{μ:DS->Nat}{δ' δ2:DS}{b:Bool}(h1:b=true->db { D with nx:=λδ3=>I δ3/\μ δ3<μ δ',ct:=λδ3=>I δ3/\μ δ3<μ δ',bk:=D.nx } δ2)(h2:b=false->D.nx δ2):HM db D I μ δ' b δ2:=by
 cases b with
 | true=>exact h1 rfl
 | false=>exact h2 rfl
end DL
namespace NdS
open PySem
theorem gJ{m:Nat}:∀{f i t:Nat},t<f->it m t i∈DD m f i
 | f+1,i,0,_=>Aa ..
 | f+1,i,t+1,h=>Ae _ (gJ (Nat.lt_of_succ_lt_succ h))
theorem Z8{m:Nat}(i:Nat):st (2 * m) i % m=st m (i % m):=by
 unfold st
 rw[Nat.mod_mod_of_dvd _ ⟨2,by omega⟩,Qn,Nat.mul_mod]
 conv=>rhs; rw[Qn,Nat.mul_mod,Nat.mod_mod]
theorem xR{m:Nat}:∀(t i:Nat),it (2 * m) t i % m=it m t (i % m)
 | 0,i=>rfl
 | t+1,i=>by
  show it (2 * m) t (st (2 * m) i) % m=it m t (st m (i % m))
  rw[xR t,Z8]
theorem L6{m i:Nat}(h:0<m):st m i<m:=Mw _ h
theorem N3{m:Nat}(h:0<m):∀{t i:Nat},i<m->it m t i<m
 | 0,_,hi=>hi
 | t+1,i,hi=>N3 h (t:=t) (L6 h)
theorem x6{m i:Nat}:st (2 * m) ((i+m) % (2 * m))=(st (2 * m) i+m) % (2 * m):=by
 unfold st
 have e:(i+m) * 5+1=i * 5+1+m+2 * (2 * m):=by omega
 rw[Qn,Nat.mul_mod,Nat.mod_mod,<- Nat.mul_mod,<- Qn,e,Nat.add_mul_mod_self_right,Qn]
 conv=>rhs; rw[Qn,Nat.mod_mod]
theorem pX{m:Nat}:∀(t i:Nat),i<2 * m->it (2 * m) t ((i+m) % (2 * m))=(it (2 * m) t i+m) % (2 * m)
 | 0,i,_=>rfl
 | t+1,i,h=>by
  show it (2 * m) t (st (2 * m) ((i+m) % (2 * m)))=_
  rw[x6,pX t _ (L6 (by omega))]
  rfl
theorem Oc{m:Nat}(g:Jm m)(h:it (2 * m) m 0=m):Jm (2 * m):=by
 obtain ⟨h0,h1,h2⟩:=g
 have half:∀t,it (2 * m) (m+t) 0=(it (2 * m) t 0+m) % (2 * m):=λt=>by
  rw[cF,h]
  have:=pX (m:=m) t 0 (by omega)
  rw[Gz,Hk (show m<2 * m by omega)] at this
  exact this
 refine ⟨by omega,?_,λe he=>?_⟩
 ·have:=half m
  rw[h,show m+m=2 * m by omega,Nat.mod_self] at this
  exact this
 ·obtain ⟨t,ht,et⟩:=Zp (h2 (e % m) (Mw _ h0))
  have k:=xR (m:=m) t 0
  rw[Nat.zero_mod,et] at k
  have lt:it (2 * m) t 0<2 * m:=N3 (by omega) (by omega)
  by_cases c:it (2 * m) t 0=e
  ·rw[<- c]; exact gJ (by omega)
  ·have hh:=half t
   have : (it (2 * m) t 0+m) % (2 * m)=e:=by
    generalize it (2 * m) t 0=x at k lt c
    have up:∀{y},m<=y->y<2 * m->y % m=y - m:=λ{y} h1 h2=>by rw[Nat.mod_eq_sub_mod h1,Hk (by omega)]
    by_cases c1:x<m <;> by_cases c2:e<m
    ·rw[Hk c1,Hk c2] at k; omega
    ·rw[Hk c1,up (by omega) he] at k
     rw[Hk (by omega)]; omega
    ·rw[up (by omega) lt,Hk c2] at k
     rw[show x+m=e+2 * m by omega,Nat.add_mod_right,Hk he]
    ·rw[up (by omega) lt,up (by omega) he] at k; omega
   rw[<- this,<- hh]
   exact gJ (by omega)
theorem rG:Jm 512:=Oc qB (by decide +kernel)
theorem kK:Jm 1024:=Oc rG (by decide +kernel)
theorem mL:Jm 2048:=Oc kK (by decide +kernel)
theorem kB:Jm 4096:=Oc mL (by decide +kernel)
theorem zT:Jm 8192:=Oc kB (by decide +kernel)
theorem i7:∀{i:Nat},i<=10->Jm (2 ^ (i+3))
 | 0,_=>N7 | 1,_=>W7 | 2,_=>Q3 | 3,_=>Q9 | 4,_=>A7 | 5,_=>qB
 | 6,_=>rG | 7,_=>kK | 8,_=>mL | 9,_=>kB | 10,_=>zT
 | i+11,h=>absurd h (by omega)
theorem jQ{n:Nat}(hn:n<8192):∀(j i f:Nat),i+j=10->∃k,i<=k/\k<=10/\Kh n (f+j+1) (2 ^ (i+3))=2 ^ (k+3)/\n<2 ^ (k+3)
 | 0,i,f,h=>by
  have : i=10:=by omega
  subst this
  refine ⟨10,Ai _,Ai _,?_,hn⟩
  unfold Kh
  rw[if_neg (by show ¬ 8192<=n; omega)]
 | j+1,i,f,h=>by
  by_cases c:2 ^ (i+3)<=n
  ·obtain ⟨k,k1,k2,k3,k4⟩:=jQ hn j (i+1) f (by omega)
   refine ⟨k,by omega,k2,?_,k4⟩
   rw[<- k3,show f+(j+1)+1=(f+j+1)+1 by omega]
   show (if 2 ^ (i+3)<=n then Kh n (f+j+1) (2 ^ (i+3) * 2) else _)=_
   rw[if_pos c,<- Nat.pow_succ]
  ·refine ⟨i,Ai _,by omega,?_,Nat.lt_of_not_le c⟩
   show (if 2 ^ (i+3)<=n then Kh n (f+(j+1)) (2 ^ (i+3) * 2) else _)=_
   rw[if_neg c]
theorem zJ{n:Nat}(hn:n<8192):∃m,Ut n=m+1/\Jm (m+1)/\n<=m/\7<=m/\m<8192/\m % 2=1:=by
 obtain ⟨k,k1,k2,k3,k4⟩:=jQ hn 10 0 53 rfl
 have k3':Ut n=2 ^ (k+3):=k3
 have e:2 ^ (k+3)=2 ^ k * 8:=Nat.pow_add 2 k 3
 have p:0<2 ^ k:=Nat.pow_pos (by decide)
 have up:2 ^ (k+3)<=2 ^ 13:=Ia (by decide) (by omega)
 have up':2 ^ (k+3)<=8192:=up
 refine ⟨2 ^ (k+3) - 1,by omega,?_,by omega,by omega,by omega,by omega⟩
 rw[show 2 ^ (k+3) - 1+1=2 ^ (k+3) by omega]
 exact i7 k2
theorem tP{t:Bk}{es:Array (Int×Value)}{wanted:Nat}(hp:t.plain=true)(hw:wanted<8192)(h2:es.size * 2<=wanted):∃(t':Bk) (order:Array Nat),t.relaid (es.map (·.1)) wanted=some (t',order)/\order.toList.Perm (Bi es.size)/\Tab es.size t'/\t'.mask % 2=1/\Ut wanted<=8192/\t'.led=t.led:=by
 obtain ⟨m,e1,g,hm,m7,m8,mo⟩:=zJ hw
 have sz:(es.map (·.1)).size=es.size:=Array.size_map ..
 obtain ⟨t',order,q1,q2,q3,q4⟩:=e7 (mask:=m) (finger:=t.finger) (moves:=t.movedTo m) (led:=t.led) g (es.map (·.1)) (by rw[sz]; omega)
 rw[sz] at q2 q3
 refine ⟨t',order,?_,q2,q3,?_,by omega,q4⟩
 ·unfold SetTable.relaid
  rw[e1,Nat.add_sub_cancel,hp]
  exact q1
 ·rw[(Vx q1).2.1]; exact mo
def Mq(t:Bk):Nat->Dv->Dv
 | 0,p=>p
 | k+1,p=>Mq t k (t.advance p)
structure WayOk(t:Bk)(p:Dv):Prop where
 more:p.more<=9
 top:p.j+p.more<=t.mask
 dum:p.dummy=none
theorem WayOk.next{t:Bk}{p:Dv}(x:WayOk t p):WayOk t (t.advance p):=by
 obtain ⟨h1,h2,h3⟩:=x
 unfold Jz
 split
 ·exact ⟨by dsimp only; omega,by dsimp only; omega,h3⟩
 ·rw[gS]
  have hi:(p.i * 5+1+p.perturb / 32) % (t.mask+1)<=t.mask:=fS.mp (Mw _ (Tc _))
  have a1:=fM hi
  have a2:=Si t.mask ((p.i * 5+1+p.perturb / 32) % (t.mask+1))
  exact ⟨Wv _ _,by dsimp only; omega,h3⟩
theorem Sf{t:Bk}(h:Int):WayOk t (t.probeStart h):=by
 have hi:Cv h % (t.mask+1)<=t.mask:=fS.mp (Mw _ (Tc _))
 have a1:=fM hi
 have a2:=Si t.mask (Cv h % (t.mask+1))
 exact ⟨Wv _ _,by show Cv h % (t.mask+1)+(Dc t.mask (Cv h % (t.mask+1)) - Cv h % (t.mask+1))<=t.mask; omega,rfl⟩
theorem iF{t:Bk}:∀(k:Nat) (p:Dv),p.more=k->∃q:Dv,Mq t (k+1) p=q/\q.j=((p.i * 5+1+p.perturb / 32) % (t.mask+1))/\q.i=q.j/\q.perturb=p.perturb / 32/\q.more<=9
 | 0,p,h=>by
  refine ⟨_,rfl,?_⟩
  show (t.advance p).j=_/\(t.advance p).i=(t.advance p).j/\(t.advance p).perturb=_/\(t.advance p).more<=9
  unfold Jz
  rw[if_neg (by omega),gS]
  exact ⟨rfl,rfl,rfl,Wv _ _⟩
 | k+1,p,h=>by
  have e:t.advance p={ p with j:=p.j+1,more:=p.more - 1 }:=by
   unfold Jz
   rw[if_pos (by omega)]
  obtain ⟨q,q1,q2,q3,q4,q5⟩:=iF k (t.advance p) (by rw[e]; show p.more - 1=k; omega)
  rw[e] at q2 q4
  exact ⟨q,q1,q2,q3,q4,q5⟩
theorem Ll{t:Bk}:∀(a b:Nat) (p:Dv),Mq t (a+b) p=Mq t b (Mq t a p)
 | 0,b,p=>by rw[Gz]; rfl
 | a+1,b,p=>by rw[Yl]; exact Ll a b _
theorem dU{t:Bk}:∀(u:Nat) (p:Dv),p.more<=9->∃k,k<=p.more+1+10 * u/\(Mq t k p).j=(lp (t.mask+1) (u+1) p.i p.perturb).1
 | 0,p,h=>by
  obtain ⟨q,q1,q2,q3,q4,q5⟩:=iF (t:=t) p.more p rfl
  exact ⟨p.more+1,by omega,by rw[q1]; exact q2⟩
 | u+1,p,h=>by
  obtain ⟨q,q1,q2,q3,q4,q5⟩:=iF (t:=t) p.more p rfl
  obtain ⟨k,k1,k2⟩:=dU u q q5
  refine ⟨p.more+1+k,by omega,?_⟩
  rw[Ll,q1,k2,q3,q2,q4]
  rfl
theorem uD{t:Bk}{n:Nat}(x:Tab n t)(h:Int):∃k,k<10 * Ej t.mask/\t.slot (Mq t k (t.probeStart h)).j=.empty:=by
 have hm:=Zh x
 obtain ⟨e,he,hn⟩:=q8 (m:=t.mask+1) x.rise (by rw[Ah,x.size]; omega)
 obtain ⟨u,hu,eu⟩:=lW x.good (i:=Cv h % (t.mask+1)) (p:=Cv h) (e:=e) (Mw _ (Tc _)) (rV h) he
 have tn:10 * Ej t.mask=10 * t.mask+150:=by unfold Ej; omega
 cases u with
 | zero=>exact ⟨0,by omega,(Nx x.toTabOk).mpr (by rw[show (Mq t 0 (t.probeStart h)).j=e from eu]; exact hn)⟩
 | succ u =>
  obtain ⟨k,k1,k2⟩:=dU (t:=t) u (t.probeStart h) (Sf h).more
  have:=(Sf (t:=t) h).more
  exact ⟨k,by omega,(Nx x.toTabOk).mpr (by rw[k2,show (lp (t.mask+1) (u+1) (t.probeStart h).i (t.probeStart h).perturb).1=e from eu]; exact hn)⟩
theorem uW{t:Bk}{n j i:Nat}(x:TabOk n t)(h:t.slot j=.live i):i<n:=by
 unfold Tx at h
 dsimp only at h
 split at h
 ·rename_i c
  injection h with h
  subst h
  have c':t.place[Bt t.place j]? = some j:=by simpa using c
  have:=(Hm.mp c').1
  rw[<- x.size]
  exact this
 ·split at h <;> cases h
end NdS
namespace NdS
open PySem PyProof.Rows
theorem zQ{t u:Bk}(h:t.mask=u.mask)(p:Dv):t.advance p=u.advance p:=by
 unfold Jz
 rw[h]
theorem bT{t u:Bk}(h:t.mask=u.mask):∀(k:Nat) (p:Dv),Mq t k p=Mq u k p
 | 0,_=>rfl
 | k+1,p=>by
  show Mq t k (t.advance p)=Mq u k (u.advance p)
  rw[zQ h,bT h k]
theorem cC{t u:Bk}(h:t.mask=u.mask)(x:Int):t.probeStart x=u.probeStart x:=by
 unfold SetTable.probeStart
 rw[h]
def Yc(t:Bk)(P:Nat->Prop)(h:Int)(j:Nat):Prop:=∃k,(Mq t k (t.probeStart h)).j=j/\∀k',k'<k->P (Mq t k' (t.probeStart h)).j
theorem Yc.mono{t u:Bk}{P Q:Nat->Prop}{h:Int}{j:Nat}(x:Yc t P h j)(e:t.mask=u.mask)(s:∀i,P i->Q i):Yc u Q h j:=by
 obtain ⟨k,h1,h2⟩:=x
 refine ⟨k,?_,λk' hk=>?_⟩
 ·rw[<- bT e,<- cC e]; exact h1
 ·rw[<- bT e,<- cC e]; exact s _ (h2 k' hk)
def AH(t:Bk)(es:List Int):Prop:=∀x∈es.zip t.place.toList,Yc t (·∈t.place.toList) x.1 x.2
theorem cJ{t:Bk}:∀(k:Nat) (p:Dv),k<=p.more->Mq t k p={ p with j:=p.j+k,more:=p.more - k }
 | 0,_,_=>rfl
 | k+1,p,h=>by
  show Mq t k (t.advance p)=_
  have e:t.advance p={ p with j:=p.j+1,more:=p.more - 1 }:=by
   unfold Jz
   rw[if_pos (by omega)]
  rw[e,cJ k _ (by show k<=p.more - 1; omega)]
  simp only[SetTable.Probe.mk.injEq,and_true,true_and]
  omega
def Qg(m i pe:Nat):Dv:={ j:=i,more:=Dc m i - i,i:=i,perturb:=pe,dummy:=none }
theorem wW{t:Bk}(i pe:Nat):Mq t (Dc t.mask i - i+1) (Qg t.mask i pe)=Qg t.mask ((i * 5+1+pe / 32) % (t.mask+1)) (pe / 32):=by
 rw[Ll,cJ (Dc t.mask i - i) (Qg t.mask i pe) (Ai _)]
 show t.advance _=_
 unfold Jz
 rw[if_neg (by show ¬ (Dc t.mask i - i - (Dc t.mask i - i) > 0); omega),gS]
 rfl
theorem jE{t:Bk}{owner:Array (Option Nat)}:∀(fuel i pe j:Nat),Dr t.mask owner fuel i pe=some j->∃k,(Mq t k (Qg t.mask i pe)).j=j/\∀k',k'<k->(owner.getD (Mq t k' (Qg t.mask i pe)).j (some 0)).isNone=false
 | 0,_,_,_,h=>by unfold Dr at h; cases h
 | fuel+1,i,pe,j,h=>by
  unfold Dr at h
  split at h
  ·rename_i k hk
   injection h with h
   obtain ⟨p1,as,bs,e1,p2⟩:=List.find?_eq_some_iff_append.mp hk
   have el:∀(n:Nat) (as bs:List Nat) (k:Nat),Bi n=as++k::bs->as=Bi k/\k<n:=λn as bs k e=>by
    have l1:as.length<n:=by
     have:=congrArg Fj e
     rw[Dm,Bh,Ay] at this
     omega
    have g:(Bi n)[as.length]? = some k:=by rw[e]; simp
    rw[List.getElem?_range l1] at g
    injection g with g
    refine ⟨?_,by omega⟩
    have tk:=congrArg (List.take as.length) e
    rw[List.take_left',List.take_range,Nat.min_eq_left (by omega)] at tk
    ·rw[<- tk,g]
    ·rfl
   obtain ⟨ea,kn⟩:=el _ _ _ _ e1
   refine ⟨k,?_,λk' hk'=>?_⟩
   ·rw[cJ k _ (by show k<=Dc t.mask i - i; omega)]
    exact h
   ·rw[cJ k' _ (by show k'<=Dc t.mask i - i; omega)]
    have:=p2 k' (by rw[ea]; exact Df.mpr hk')
    show (owner.getD (i+k') (some 0)).isNone=false
    rw[Hz] at this
    exact this
  ·rename_i hk
   have none:=List.find?_eq_none.mp hk
   obtain ⟨k,k1,k2⟩:=jE fuel _ _ j h
   have sl:Mq t (Dc t.mask i - i+1) (Qg t.mask i pe)=Qg t.mask (SetTable.leap t.mask i pe).1 (SetTable.leap t.mask i pe).2:=wW i pe
   refine ⟨Dc t.mask i - i+1+k,by rw[Ll,sl]; exact k1,λk' hk'=>?_⟩
   by_cases c:k'<=Dc t.mask i - i
   ·rw[cJ k' _ c]
    have a:=Si t.mask i
    have:=none k' (Df.mpr (by omega))
    show (owner.getD (i+k') (some 0)).isNone=false
    exact Bool.eq_false_iff.mpr this
   ·rw[show k'=Dc t.mask i - i+1+(k' - (Dc t.mask i - i+1)) by omega,Ll,sl]
    exact k2 _ (by omega)
theorem yB{t:Bk}:∀(k:Nat) (p:Dv),WayOk t p->WayOk t (Mq t k p)
 | 0,_,h=>h
 | k+1,_,h=>yB k _ h.next
theorem Q7{t:Bk}(k:Nat)(h:Int):(Mq t k (t.probeStart h)).j<=t.mask:=by
 have:=(yB k _ (Sf (t:=t) h)).top
 omega
def aD(owner:Array (Option Nat))(i:Nat):Prop:=(owner.getD i (some 0)).isNone=false
def V8(t:Bk)(H:Nat->Int)(owner:Array (Option Nat)):Prop:=∀j k,owner[j]? = some (some k)->Yc t (aD owner) (H k) j
theorem lH{m:Nat}:∀hs:List Int,hs.foldl (iR m) none=none
 | []=>rfl
 | h::hs=>by rw[List.foldl_cons]; exact lH hs
theorem fI{owner:Array (Option Nat)}{j n i:Nat}(h:aD owner i):aD (owner.setIfInBounds j (some n)) i:=by
 unfold aD at *
 rw[Bp] at *
 rw[cX]
 split
 ·split <;> rfl
 ·exact h
theorem rX{t:Bk}{H:Nat->Int}:∀(hs:List Int) (owner:Array (Option Nat)) (n:Nat) (owner':Array (Option Nat)) (n':Nat),hs.foldl (iR t.mask) (some (owner,n))=some (owner',n')->(∀i h,hs[i]? = some h->H (n+i)=h)->V8 t H owner->V8 t H owner'/\owner'.size=owner.size
 | [],owner,n,owner',n',e,_,x=>by
  rw[List.foldl_nil] at e
  injection e with e
  injection e with e1 e2
  rw[<- e1]
  exact ⟨x,rfl⟩
 | h::hs,owner,n,owner',n',e,eH,x=>by
  rw[List.foldl_cons] at e
  cases ef:Dr t.mask owner (Ej t.mask) (Cv h % (t.mask+1)) (Cv h) with
  | none =>
   have e1:iR t.mask (some (owner,n)) h=none:=by
    show (do
     let j <- Dr t.mask owner (Ej t.mask) (Cv h % (t.mask+1)) (Cv h)
     pure (owner.setIfInBounds j (some n),n+1))=_
    rw[ef]
    rfl
   rw[e1,lH] at e
   cases e
  | some j =>
   have e1:iR t.mask (some (owner,n)) h=some (owner.setIfInBounds j (some n),n+1):=by
    show (do
     let j <- Dr t.mask owner (Ej t.mask) (Cv h % (t.mask+1)) (Cv h)
     pure (owner.setIfInBounds j (some n),n+1))=_
    rw[ef]
    rfl
   rw[e1] at e
   refine (λz=>⟨z.1,z.2.trans (Ky ..)⟩) (rX hs _ _ owner' n' e (λi h' hi=>?_) λj' k hk=>?_)
   ·rw[show n+1+i=n+(i+1) by omega]
    exact eH (i+1) h' hi
   ·rw[cX] at hk
    split at hk
    ·rename_i c
     split at hk
     ·injection hk with hk
      injection hk with hk
      obtain ⟨k0,k1,k2⟩:=jE (t:=t) _ _ _ _ ef
      have hH:H k=h:=by rw[<- hk]; exact eH 0 h rfl
      rw[hH,<- c]
      exact Yc.mono (P:=aD owner) ⟨k0,k1,k2⟩ rfl λi z=>fI z
     ·cases hk
    ·exact (x j' k hk).mono rfl λi z=>fI z
theorem uP{mask finger moves:Nat}{led plain:Bool}{hs:Array Int}{t:Bk}{order:Array Nat}(h:Gs mask finger moves led plain hs=some (t,order)):AH t (order.toList.map λk=>hs.getD k 0):=by
 have hm:=(Vx h).2.1
 unfold Gs at h
 cases hl:Jh mask hs with
 | none=>rw[hl] at h; cases h
 | some owner =>
  rw[hl] at h
  have x:V8 t (λk=>hs.getD k 0) owner/\owner.size=mask+1:=by
   unfold Jh at hl
   rw[<- Array.foldl_toList] at hl
   replace hl:(hs.toList.foldl (iR mask) (some (Nn (mask+1) none,0))).map (·.1)=some owner:=hl
   cases hf:hs.toList.foldl (iR mask) (some (Nn (mask+1) none,0)) with
   | none=>rw[hf] at hl; cases hl
   | some r =>
    obtain ⟨o,n⟩:=r
    rw[hf] at hl
    injection hl with hl
    rw[<- hl]
    have hf':=hf
    rw[<- hm] at hf
    have z:=rX (t:=t) (H:=λk=>hs.getD k 0) _ _ _ _ _ hf (λi h hi=>by
     rw[Gz,Bp,<- Es,hi]
     rfl) λj k hk=>by
     rw[Array.getElem?_replicate] at hk
     split at hk <;> simp at hk
    exact ⟨z.1,by rw[z.2,Array.size_replicate,hm]⟩
  obtain ⟨x,sz⟩:=x
  cases h
  intro y hy
  have hT:∀i,i<=mask->aD owner i->i∈((Bi (mask+1)).filterMap λj=>(owner.getD j none).map λx=>(j,x)).map (·.1):=λi hi z=>by
   unfold aD at z
   have lt:i<owner.size:=by omega
   rw[Bp,Dd lt] at z
   cases q:owner[i] with
   | none=>rw[q] at z; simp at z
   | some v =>
    refine Br.mpr ⟨(i,v),Jc.mpr ⟨i,Df.mpr (by omega),?_⟩,rfl⟩
    rw[Bp,Dd lt,q]
    rfl
  dsimp only at hy ⊢
  rw[Ek,List.zip_map'] at hy
  obtain ⟨⟨j,k⟩,hjk,rfl⟩:=Br.mp hy
  obtain ⟨j0,hj0,ej⟩:=Jc.mp hjk
  have e2:owner[j]? = some (some k):=by
   rw[Bp] at ej
   cases q:owner[j0]? with
   | none=>rw[q] at ej; cases ej
   | some v =>
    rw[q] at ej
    cases v with
    | none=>cases ej
    | some v=>cases ej; exact q
  have ow:=x j k e2
  obtain ⟨k0,k1,k2⟩:=ow
  refine ⟨k0,k1,λk' hk'=>?_⟩
  exact hT _ (Q7 k' _) (k2 k' hk')
theorem AH.put{t:Bk}{hs:List Int}{h:Int}{j p:Nat}(x:AH t hs)(len:hs.length=t.place.size)(o:Yc t (·∈t.place.toList) h j):AH { t with place:=Co t.place p j } (hs.take p++h::hs.drop p):=by
 have pm:=Qi t.place p j
 rw[Gj] at pm
 have up:∀i,i∈t.place.toList->i∈(Co t.place p j).toList:=λi hi=>pm.mem_iff.mpr (Al _ hi)
 intro y hy
 have hy':y∈(hs.take p++h::hs.drop p).zip (t.place.toList.take p++j::t.place.toList.drop p):=by
  have e:=Pc t.place p j
  have e':(Co t.place p j).toList=t.place.toList.take p++j::t.place.toList.drop p:=by first | exact e | (rw[e]; simp)
  rw[<- e']
  exact hy
 rw[List.zip_append (by rw[Dg,Dg,len,Ah]),Pd] at hy'
 rcases Aw.mp hy' with z | z
 ·have : y∈hs.zip t.place.toList:=by
   rw[List.zip_eq_zipWith,<- List.take_zipWith] at z
   exact Ng z
  exact (x y this).mono rfl up
 ·rcases Ao.mp z with rfl | z
  ·exact o.mono rfl up
  ·have : y∈hs.zip t.place.toList:=by
    rw[List.zip_eq_zipWith,<- List.drop_zipWith] at z
    exact Nh z
   exact (x y this).mono rfl up
theorem jY{α:Type}{es:Array (Int×α)}:∀L:List Nat,(∀k∈L,k<es.size)->(L.filterMap (es[·]?)).map (·.1)=L.map λk=>(es.map (·.1)).getD k 0
 | [],_=>rfl
 | k::L,h=>by
  have hk:=h k Aa
  rw[Ih,Dd hk]
  dsimp only
  rw[Ar,Ar,jY L λi hi=>h i (Ae _ hi),Bp,Array.getElem?_map,Dd hk]
  rfl
theorem lO{t:Bk}{n:Nat}(x:TabOk n t){f:Nat->Int}{h:Int}:∀(fuel k:Nat) (p:Dv),WayOk t p->k<fuel->t.slot (Mq t k p).j=.empty->(∃j m,Rr t f h fuel p=some (.empty j none)/\t.slot j=.empty/\j<=t.mask/\(Mq t m p).j=j/\∀m',m'<m->t.slot (Mq t m' p).j≠.empty/\∀i,t.slot (Mq t m' p).j=.live i->f i≠h)\/(∃j i m k',Rr t f h fuel p=some (.candidate j i (Mq t (m+1) p))/\t.slot j=.live i/\f i=h/\k'+m+1=k/\WayOk t (Mq t (m+1) p)/\t.slot (Mq t k' (Mq t (m+1) p)).j=.empty/\(Mq t m p).j=j/\∀m',m'<m->t.slot (Mq t m' p).j≠.empty/\∀i,t.slot (Mq t m' p).j=.live i->f i≠h)
 | 0,k,p,_,h,_=>absurd h (Dn _)
 | fuel+1,k,p,w,hk,he=>by
  unfold Rr
  split
  ·rename_i hs
   exact .inl ⟨p.j,0,by rw[w.dum],hs,by have:=w.top; omega,rfl,λm' z=>absurd z (Dn _)⟩
  ·rename_i hs
   exact absurd hs (bM x)
  ·rename_i i hs
   cases k with
   | zero=>exact absurd (show t.slot p.j=.empty from he) (by rw[hs]; intro z; cases z)
   | succ k =>
    by_cases c:(f i == h)=true
    ·rw[if_pos c]
     exact .inr ⟨p.j,i,0,k,rfl,hs,by simpa using c,by omega,w.next,he,rfl,λm' z=>absurd z (Dn _)⟩
    ·rw[if_neg c]
     have hd:t.slot p.j≠.empty/\∀i,t.slot p.j=.live i->f i≠h:=⟨by rw[hs]; exact λz=>(by cases z),λi' z=>by
      rw[hs] at z
      injection z with z
      rw[<- z]
      simpa using c⟩
     have ahead:∀{m:Nat},(∀m',m'<m->t.slot (Mq t m' (t.advance p)).j≠.empty/\∀i,t.slot (Mq t m' (t.advance p)).j=.live i->f i≠h)->∀m',m'<m+1->t.slot (Mq t m' p).j≠.empty/\∀i,t.slot (Mq t m' p).j=.live i->f i≠h:=λ{m} q m' hm'=>by
      cases m' with
      | zero=>exact hd
      | succ m'=>exact q m' (by omega)
     rcases lO x fuel k _ w.next (by omega) he with ⟨j,m,a,b,c,d,e⟩ | ⟨j,i',m,k',a,b,c,d,e,f,g,q⟩
     ·exact .inl ⟨j,m+1,a,b,c,d,ahead e⟩
     ·exact .inr ⟨j,i',m+1,k',a,b,c,by omega,e,f,g,ahead q⟩
theorem nA{t:Bk}{n j i:Nat}(x:TabOk n t)(h:t.place.toList[i]? = some j):t.slot j=.live i:=by
 have b:=Rl x.rise j
 have e:Bt t.place j=i:=by
  have hi:=(An.mp h).1
  have hi':i<t.place.size:=by rw[<- Ah]; exact hi
  have ei:t.place[i]=j:=by
   have:=(An.mp h).2
   simpa using this
  rcases Ql (Bt t.place j) i with z | z | z
  ·have:=b.hi (Bt t.place j) (by omega) (Ai _)
   have:=Dw.mp x.rise (Bt t.place j) i (by rw[Ah]; omega) hi z
   simp at this
   omega
  ·exact z
  ·have:=b.lo i hi' z
   omega
 unfold Tx
 dsimp only
 rw[e,<- Es,h,if_pos (by simp)]
def xN(prog:Bj)(w:World)(U:List (List Int))(h:Heap)(e:Int×Value):Prop:=∃(b:Addr) (ks:List Int),e=(Bu (Ck prog w) ks,.ref b)/\Fn (Ck prog w) h ks b/\ks∈U
structure SetT(prog:Bj)(w:World)(U:List (List Int))(h:Heap)(a:Addr)(es:Array (Int×Value))(ep:Nat)(t:Bk):Prop where
 obj:h.get? a=some (Il es ep t)
 ent:∀e∈es.toList,xN prog w U h e
 tab:Tab es.size t
 odd:t.mask % 2=1
 top:t.mask<8192
 few:es.size<=1100
 led:bt w=false->t.led=true
 nd:U.Nodup
 sz:es.size=U.length
 all:∀u∈U,∃e∈es.toList,∃b,e=(Bu (Ck prog w) u,Au b)/\Fn (Ck prog w) h u b
 ways:AH t (es.toList.map (·.1))
def Kept(h h':Heap):Prop:=∀b o,o.cls=.type "set" \/ o.cls=.type "tuple" -> h.get? b=some o->h'.get? b=some o
def Vr(h h':Heap):Prop:=∀b o,o.cls=.type "tuple" -> h.get? b=some o->h'.get? b=some o
theorem Kept.t{h h':Heap}(k:Kept h h'):Vr h h':=λb o c e=>k b o (.inr c) e
theorem xN.keep{prog:Bj}{w:World}{U V:List (List Int)}{h h':Heap}{e:Int×Value}(x:xN prog w U h e)(k:Vr h h')(s:∀y∈U,y∈V):xN prog w V h' e:=by
 obtain ⟨b,ks,e,⟨o,items,n,ho,hc,hd,hi⟩,hm⟩:=x
 exact ⟨b,ks,e,⟨o,items,n,k b o hc ho,hc,hd,hi⟩,s _ hm⟩
theorem Sn{prog:Bj}{w:World}{h h':Heap}{ks:List Int}{b:Addr}(x:Fn (Ck prog w) h ks b)(k:Vr h h'):Fn (Ck prog w) h' ks b:=by
 obtain ⟨o,items,n,ho,hc,hd,hi⟩:=x
 exact ⟨o,items,n,k b o hc ho,hc,hd,hi⟩
theorem SetT.keep{prog:Bj}{w:World}{U:List (List Int)}{h h':Heap}{a:Addr}{es:Array (Int×Value)}{ep:Nat}{t:Bk}(S:SetT prog w U h a es ep t)(k:Kept h h'):SetT prog w U h' a es ep t :=
 ⟨k _ _ (.inl rfl) S.obj,λe he=>(S.ent e he).keep k.t λ_ z=>z,S.tab,S.odd,S.top,S.few,S.led,S.nd,S.sz,λu hu=>by obtain ⟨e,he,b,eb,x⟩:=S.all u hu; exact ⟨e,he,b,eb,Sn x k.t⟩,S.ways⟩
theorem aZ{h h':Heap}{a:Addr}{o:Obj}(ho:h.get? a=some o)(hc:o.cls≠.type "tuple")(sb:Gf a h h'):Vr h h':=λb o' c e=>by
 by_cases z:b=a
 ·subst z
  rw[ho] at e
  cases e
  exact absurd c hc
 ·exact (sb.2 b z).trans e
theorem Zz{n:Nat}(h:n<=1200):n<=Bb:=by rw[Kv]; omega
section
variable{prog:Bj}{w:World}{A:Cu}{E:Value->Aj->Prop}{s:Aj}{U:List (List Int)}
theorem Sr{a:Addr}{es:Array (Int×Value)}{ep:Nat}{t:Bk}{Q:(Array (Int×Value)×Nat×Bk)->Aj->Prop}(S:SetT prog w U s.heap a es ep t)(h:Q (es,ep,t) s):wpAny (model prog w) A (setState a) Q E s :=
 fP S.obj rfl S.tab.fits h
theorem yM{ks:List Int}{a:Addr}{Q:Bool->Aj->Prop}(hk:Fn (Ck prog w) s.heap ks a)(h:Q true s):wpAny (model prog w) A (Yj 8 (.ref a)) Q E s:=by
 have hT:=hk.typeIs
 obtain ⟨o,items,n,ho,_,hd,hi⟩:=hk
 unfold Yj
 refine Ac (wpAny_specialOf hT F.slot_tuple_hash.lookup ?_)
 dsimp only
 refine Ac (wpAny_seqItems ho hd ?_)
 refine Ac ?_
 show wpAny _ _ (forIn items _ _) _ _ s
 rw[<- Array.forIn_toList]
 refine Tv _ (λFo r s'=>r.1=none/\s'=s/\∃l,ItemsAre (Ck prog w) l Fo) _ ?_ ?_ _ _ ⟨rfl,rfl,_,hi⟩
 ·(intro v Fo r s' q_; obtain ⟨hr,rfl,l,hall⟩ := q_)
  cases hall with
  | @cons k v' ks' vs' h1 h2 =>
   obtain ⟨tk,rfl⟩ : ∃tk,v=.int k tk:=by
    cases v <;> simp [Ck,Value.isInt] at h1
    rename_i z tk
    exact ⟨tk,by rw[h1]⟩
   refine Ac (m:=Yj 7 (.int k tk)) (Mf (a:=true) (show Yj 7 (.int k tk)=pure true by unfold Yj; rfl) ?_)
   simp only[Lc,Bv,if_false]
   exact Ap ⟨rfl,rfl,_,h2⟩
 ·(rintro ⟨r1,r2⟩ s' q_; obtain ⟨hr,rfl,_⟩ := q_)
  simp only at hr
  subst hr
  exact Ap h
theorem fL{ks:List Int}{a:Addr}{Q:Bool->Aj->Prop}(hk:Fn (Ck prog w) s.heap ks a)(h:Q false s):wpAny (model prog w) A (Mu 8 (.ref a)) Q E s:=by
 have hT:=hk.typeIs
 obtain ⟨o,items,n,ho,_,hd,hi⟩:=hk
 unfold Mu
 refine Ac (Ld hT ?_)
 dsimp only
 rw[if_pos (by decide)]
 refine Ac (Ap ?_)
 simp only[Lc,Bv,if_false]
 refine Ac (wpAny_seqItems ho hd ?_)
 dsimp only
 refine Ac ?_
 show wpAny _ _ (forIn items _ _) _ _ s
 rw[<- Array.forIn_toList]
 refine Tv _ (λFo r s'=>r.1=none/\s'=s/\∃l,ItemsAre (Ck prog w) l Fo) _ ?_ ?_ _ _ ⟨rfl,rfl,_,hi⟩
 ·(intro v Fo r s' q_; obtain ⟨hr,rfl,l,hall⟩ := q_)
  cases hall with
  | @cons k v' ks' vs' h1 h2 =>
   obtain ⟨tk,rfl⟩ : ∃tk,v=.int k tk:=by
    cases v <;> simp [Ck,Value.isInt] at h1
    rename_i z tk
    exact ⟨tk,by rw[h1]⟩
   refine Ac (m:=Mu 7 (.int k tk)) (Mf (a:=false) (show Mu 7 (.int k tk)=pure false by unfold Mu; rfl) ?_)
   simp only[Bv,if_false]
   exact Ap ⟨rfl,rfl,_,h2⟩
 ·(rintro ⟨r1,r2⟩ s' q_; obtain ⟨hr,rfl,_⟩ := q_)
  simp only at hr
  subst hr
  exact Ap h
theorem w4{x:Addr}{kx:List Int}{stored:List Value}{Q:Bool->Aj->Prop}(hx:Fn (Ck prog w) s.heap kx x)(hs:∀y∈stored,∃b ky,y=Au b/\Fn (Ck prog w) s.heap ky b)(h:Q false s):wpAny (model prog w) A (searchCouldBeSeen (.ref x) stored) Q E s:=by
 unfold searchCouldBeSeen
 refine Ac ?_
 refine Tv _ (λFo r s'=>r.1=none/\s'=s/\∀y∈Fo,∃b ky,y=Au b/\Fn (Ck prog w) s.heap ky b) _ ?_ ?_ _ _ ⟨rfl,rfl,hs⟩
 ·(intro v Fo r s' q_; obtain ⟨hr,rfl,hall⟩ := q_)
  obtain ⟨b,ky,rfl,hy⟩:=hall _ (Aa ..)
  have hall':=λy hy=>hall y (Ae _ hy)
  dsimp only
  split
  ·exact Ap ⟨rfl,rfl,hall'⟩
  ·refine Ac (wpAny_eqIsQuiet_tuple hx ?_)
   simp only[Lc,Bv,if_false]
   refine Ac (wpAny_eqIsQuiet_tuple hy ?_)
   simp only[Lc,Bv,if_false]
   refine Ac (fL hx ?_)
   simp only[Bv,if_false]
   refine Ac (fL hy ?_)
   simp only[Bv,if_false]
   exact Ap ⟨rfl,rfl,hall'⟩
 ·(rintro ⟨r1,r2⟩ s' q_; obtain ⟨hr,rfl,_⟩ := q_)
  simp only at hr
  subst hr
  exact Ap h
def M3(prog:Bj)(w:World)(h:Heap)(es:Array (Int×Value))(t:Bk)(kx:List Int)(p:Dv):Prop :=
 ∃kt i b,t.slot (Mq t kt p).j=.live i/\es[i]? = some (Bu (Ck prog w) kx,Au b)/\Fn (Ck prog w) h kx b/\∀k',k'<kt->t.slot (Mq t k' p).j≠.empty
theorem lV{a:Addr}{kx:List Int}{es:Array (Int×Value)}{ep:Nat}{t:Bk}(S:SetT prog w U s.heap a es ep t)(h:kx∈U):M3 prog w s.heap es t kx (t.probeStart (Bu (Ck prog w) kx)):=by
 obtain ⟨e,he,b,eb,x⟩:=S.all kx h
 obtain ⟨i,hi,ei⟩:=List.getElem_of_mem he
 have hi':i<es.size:=by rw[<- Ah]; exact hi
 have hp:i<t.place.toList.length:=by rw[Ah,S.tab.size]; exact hi'
 have hz:((es.toList.map (·.1)).zip t.place.toList)[i]? = some (Bu (Ck prog w) kx,t.place.toList[i]):=by
  rw[List.getElem?_zip_eq_some]
  refine ⟨?_,Be hp⟩
  rw[Bw,Be hi,ei,eb]
  rfl
 obtain ⟨k,k1,k2⟩:=S.ways _ (Ax hz)
 refine ⟨k,i,b,?_,?_,x,λk' hk'=>?_⟩
 ·rw[k1]
  exact nA S.tab.toTabOk (Be hp)
 ·rw[Dd hi']
  have : es[i]=e:=by simpa using ei
  rw[this,eb]
 ·exact λz=>(Nx S.tab.toTabOk).mp z (k2 k' hk')
theorem Xz{a x:Addr}{kx:List Int}{es:Array (Int×Value)}{ep:Nat}{t:Bk}{Q:SetFound->Aj->Prop}(S:SetT prog w U s.heap a es ep t)(hu:A.units<cLine)(hx:Fn (Ck prog w) s.heap kx x)(h1:kx∈U->Q (.there none) s)(h2:∀j,t.slot j=.empty->j<=t.mask->Yc t (·∈t.place.toList) (Bu (Ck prog w) kx) j->kx∉U->Q (.free j false) s):∀(fuel k:Nat) (stand:Option Dv),WayOk t (stand.getD (t.probeStart (Bu (Ck prog w) kx)))->k<fuel->k<10 * Ej t.mask->t.slot (Mq t k (stand.getD (t.probeStart (Bu (Ck prog w) kx)))).j=.empty->(∃k0,Mq t k0 (t.probeStart (Bu (Ck prog w) kx))=stand.getD (t.probeStart (Bu (Ck prog w) kx))/\∀k',k'<k0->t.slot (Mq t k' (t.probeStart (Bu (Ck prog w) kx))).j≠.empty)->(kx∈U->M3 prog w s.heap es t kx (stand.getD (t.probeStart (Bu (Ck prog w) kx))))->wpAny (model prog w) A (Sx a (.ref x) (Bu (Ck prog w) kx) true fuel stand) Q E s
 | 0,k,_,_,h,_,_,_,_=>absurd h (Dn _)
 | fuel+1,k,stand,wo,hk,hk2,he,pre,tgt=>by
  have gw:t.gaveWay=false:=by unfold SetTable.gaveWay; rw[S.odd]; rfl
  unfold Sx
  refine Ac (Sr S ?_)
  dsimp only
  rw[gw]
  simp only[Bv,if_false]
  obtain ⟨k0,ek0,pre⟩:=pre
  have fH:∀{i:Nat} {b:Addr},es[i]? = some (Bu (Ck prog w) kx,Au b)->(es[i]?.map (·.1)).getD 0=Bu (Ck prog w) kx:=λ{i b} e=>by rw[e]; rfl
  rcases lO S.tab.toTabOk (f:=λi=>(es[i]?.map (·.1)).getD 0) (h:=Bu (Ck prog w) kx) (10 * Ej t.mask) k _ wo hk2 he with ⟨j,m,e,ej,jm,em,am⟩ | ⟨j,i,m,k',e,ej,ei,lt,wo',he',em,am⟩
  ·have e':t.probe (λi=>(es[i]?.map (·.1)).getD 0) (Bu (Ck prog w) kx) (stand.getD (t.probeStart (Bu (Ck prog w) kx)))=some (.empty j none):=e
   rw (transparency:=.all) [e']
   refine Ap (h2 j ej jm ⟨k0+m,by rw[Ll,ek0]; exact em,λk' hk'=>?_⟩ λhm=>?_)
   ·refine Hl λz=>?_
    have z':=(Nx S.tab.toTabOk).mpr z
    by_cases c:k'<k0
    ·exact pre k' c z'
    ·rw[show k'=k0+(k' - k0) by omega,Ll,ek0] at z'
     exact (am _ (by omega)).1 z'
   ·obtain ⟨kt,i,b,a1,a2,a3,a4⟩:=tgt hm
    rcases Ql kt m with z | z | z
    ·exact (am kt z).2 i a1 (fH a2)
    ·subst z
     rw[em,ej] at a1
     cases a1
    ·exact a4 m z (by rw[em]; exact ej)
  ·have e':t.probe (λi=>(es[i]?.map (·.1)).getD 0) (Bu (Ck prog w) kx) (stand.getD (t.probeStart (Bu (Ck prog w) kx)))=some (.candidate j i (Mq t (m+1) (stand.getD (t.probeStart (Bu (Ck prog w) kx))))):=e
   rw (transparency:=.all) [e']
   dsimp only
   have hi:=uW S.tab.toTabOk ej
   have hei:es[i]? = some es[i]:=Dd hi
   obtain ⟨b,ky,eb,hy,hm⟩:=S.ent es[i] (by simp)
   have Fo:wpAny (model prog w) A (do
     let some (_,y):=es[i]? | unsupported "internal:set-entry"
     let equal <- holding [y] (eqBool y (.ref x))
     let (es',_,t') <- setState a
     if true && equal then return .there none
     let some same:=t'.sameMemory t.moves t.mask | unsupported "set.changed-during-lookup:is-the-new-block-at-the-old-address"
     let still <- match (if same then t'.slot j else .empty) with
      | .live i'=>match es'[i']? with
       | some (_,y')=>do pure (if <- isSame y' y then some i' else none)
       | none=>pure none
      | _=>pure none
     match still with
     | none=>rule "set.search.anew"; Sx a (.ref x) (Bu (Ck prog w) kx) true fuel none
     | some i'=>if equal then return .there (some i') else Sx a (.ref x) (Bu (Ck prog w) kx) true fuel (some (Mq t (m+1) (stand.getD (t.probeStart (Bu (Ck prog w) kx)))))) Q E s:=by
    rw[hei,eb]
    dsimp only
    refine Ac (Fb (wpAny_eqBool_tuple hu hy hx ?_))
    refine Ac (Sr S ?_)
    dsimp only
    by_cases c:ky=kx
    ·rw[decide_eq_true c,if_pos (by decide)]
     exact Ap (h1 (by rw[<- c]; exact hm))
    ·rw[decide_eq_false c,if_neg (by decide)]
     have sm:t.sameMemory t.moves t.mask=some true:=by unfold SetTable.sameMemory; rw[if_pos (by simp)]
     rw[sm]
     dsimp only
     rw[if_pos rfl,ej]
     dsimp only
     rw[hei,eb]
     dsimp only
     refine Ac (wpAny_isSame_ref_self (Ac (Ap ?_)))
     rw[if_pos rfl]
     dsimp only
     rw[if_neg (by decide)]
     refine Xz S hu hx h1 h2 fuel k' (some (Mq t (m+1) (stand.getD (t.probeStart (Bu (Ck prog w) kx))))) wo' (by omega) (by omega) he' ⟨k0+(m+1),by rw[Ll,ek0]; rfl,λk'' hk'' z=>?_⟩ λhmm=>?_
     ·by_cases c:k''<k0
      ·exact pre k'' c z
      ·rw[show k''=k0+(k'' - k0) by omega,Ll,ek0] at z
       by_cases c2:k'' - k0<m
       ·exact (am _ c2).1 z
       ·rw[show k'' - k0=m by omega,em,ej] at z
        cases z
     ·obtain ⟨kt,i0,b0,a1,a2,a3,a4⟩:=tgt hmm
      rcases Ql kt m with z | z | z
      ·exact absurd (fH a2) ((am kt z).2 i0 a1)
      ·subst z
       rw[em,ej] at a1
       injection a1 with a1
       subst a1
       rw[hei,eb] at a2
       injection a2 with a2
       injection a2 with a21 a22
       injection a22 with a22
       subst a22
       exact absurd (hy.inj a3) c
      ·refine ⟨kt - (m+1),i0,b0,?_,a2,a3,λk'' hk''=>?_⟩
       ·show t.slot (Mq t (kt - (m+1)) (Mq t (m+1) _)).j=_
        rw[<- Ll,show m+1+(kt - (m+1))=kt by omega]
        exact a1
       ·show t.slot (Mq t k'' (Mq t (m+1) _)).j≠_
        rw[<- Ll]
        exact a4 _ (by omega)
   by_cases l:t.led=true
   ·rw[l]
    simp only[Lc,Bv,if_false]
    exact Fo
   ·rw[Bool.not_eq_true] at l
    rw[l]
    simp only[Bool.not_false,if_true]
    refine Ac (w4 hx (λy hy=>?_) ?_)
    ·obtain ⟨e0,he0,rfl⟩:=Br.mp hy
     obtain ⟨b',k'',rfl,h3,_⟩:=S.ent e0 (by
      have:=Array.mem_def.mp (Array.mem_filter.mp (Array.mem_def.mpr he0)).1
      exact this)
     exact ⟨b',k'',rfl,h3⟩
    ·simp only[Bv,if_false]
     exact Fo
theorem tE{a x:Addr}{kx:List Int}{es:Array (Int×Value)}{ep:Nat}{t:Bk}{Q:SetFound->Aj->Prop}(S:SetT prog w U s.heap a es ep t)(hu:A.units<cLine)(hx:Fn (Ck prog w) s.heap kx x)(h1:kx∈U->Q (.there none) s)(h2:∀j,t.slot j=.empty->j<=t.mask->Yc t (·∈t.place.toList) (Bu (Ck prog w) kx) j->kx∉U->Q (.free j false) s)(fuel k:Nat)(hk:k<fuel)(hk2:k<10 * Ej t.mask)(he:t.slot (Mq t k (t.probeStart (Bu (Ck prog w) kx))).j=.empty):wpAny (model prog w) A (Sx a (.ref x) (Bu (Ck prog w) kx) true fuel none) Q E s :=
 Xz S hu hx h1 h2 fuel k none (Sf _) hk hk2 he ⟨0,rfl,λk' z=>absurd z (Dn _)⟩ λh=>lV S h
end
section
variable{prog:Bj}{w:World}{A:Cu}{E:Value->Aj->Prop}{s:Aj}{U:List (List Int)}
theorem FY{t:Bk}{es:Array (Int×Value)}(x:Tab es.size t)(e:Int×Value){j:Nat}(h2:j∉t.place.toList)(h3:j<=t.mask)(wy:AH t (es.toList.map (·.1)))(ow:Yc t (·∈t.place.toList) e.1 j):∃t1 p,t.put j=(t1,p)/\(Co es p e).toList.Perm (es.toList++[e])/\(Co es p e).size=es.size+1/\TabOk (es.size+1) t1/\t1.mask=t.mask/\t1.plain=true/\t1.led=t.led/\AH t1 ((Co es p e).toList.map (·.1)):=by
 have hm:=Zh x
 have perm:=Qi es (Bt t.place j) e
 rw[Gj] at perm
 have size:(Co es (Bt t.place j) e).size=es.size+1:=by
  rw[<- Ah,perm.length_eq,Bh,Ah]
  rfl
 have p2:=Qi t.place (Bt t.place j) j
 rw[Gj] at p2
 have size2:(Co t.place (Bt t.place j) j).size=es.size+1:=by
  rw[<- Ah,p2.length_eq,Bh,Ah,x.size]
  rfl
 have nd:SetTable.has t.dummies j=false:=by rw[x.dum]; rfl
 have ok:TabOk (es.size+1) { t with place:=Co t.place (Bt t.place j) j } :=
  ⟨x.good,x.dum,x.plain,kJ x.rise h2,λe he=>by
   rcases Aw.mp (p2.mem_iff.mp he) with z | z
   ·exact x.top e z
   ·rw[Af.mp z]; exact h3,size2⟩
 refine ⟨{ t with place:=Co t.place (Bt t.place j) j },Bt t.place j,?_,perm,size,ok,rfl,x.plain,rfl,?_⟩
 ·unfold SetTable.put
  simp only[nd,Bv,if_false]
 ·have e1:(Co es (Bt t.place j) e).toList=es.toList.take (Bt t.place j)++e::es.toList.drop (Bt t.place j):=by
   have z:=Pc es (Bt t.place j) e
   first | exact z | (rw[z]; simp)
  rw[e1,Bo,Ar,List.map_take,List.map_drop]
  exact wy.put (by rw[Ab,Ah,x.size]) ow
theorem nB{a:Addr}{es:Array (Int×Value)}{ep:Nat}{t:Bk}{wanted:Nat}{Q:Unit->Aj->Prop}(ho:s.heap.get? a=some (Il es ep t))(ent:∀e∈es.toList,xN prog w U s.heap e)(ok:TabOk es.size t)(le:es.size<=t.mask)(few:es.size<=1100)(led:bt w=false->t.led=true)(und:U.Nodup)(usz:es.size=U.length)(uall:∀u∈U,∃e∈es.toList,∃b,e=(Bu (Ck prog w) u,Au b)/\Fn (Ck prog w) s.heap u b)(hw:wanted<8192)(h2:es.size * 2<=wanted)(h:∀es' ep' t' h',Gf a s.heap h'->SetT prog w U h' a es' ep' t'->es'.size=es.size->es'.toList.Perm es.toList->Q () { s with heap:=h' }):wpAny (model prog w) A (setRelay a wanted) Q E s:=by
 obtain ⟨t',order,q1,q2,q3,q4,q5,q6⟩:=tP (es:=es) ok.plain hw h2
 obtain ⟨p1,p2⟩:=Q2 es q2
 have mk:t'.mask<8192:=by
  unfold SetTable.relaid at q1
  rw[(Vx q1).2.1]
  omega
 unfold setRelay
 refine Ac (fP ho rfl (ok.fits le) ?_)
 dsimp only
 rw[if_neg (by rw[Kv]; omega),q1]
 refine Ac ?_
 show wpAny (model prog w) A (do
  if (order.filterMap (es[·]?)).size != es.size then unsupported "internal:set-table-lost-an-element"
  pure (order.filterMap (es[·]?),t')) _ _ _
 rw[if_neg (by rw[p2]; simp)]
 refine Ap ?_
 dsimp only
 refine wpAny_storeSet_of ho rfl ?_ (Zz (by rw[p2]; omega))
 have sb:=Cw s.heap a (Yk (order.filterMap (es[·]?)) t')
 have kt:Vr s.heap _:=aZ ho (by show Ep "set" ≠ Ep "tuple"; decide) sb
 exact h _ _ _ _ sb ⟨rW ho _ _,λe he=>(ent e (p1.mem_iff.mp he)).keep kt λ_ z=>z,by rw[p2]; exact q3,q4,mk,by rw[p2]; exact few,λz=>by rw[q6]; exact led z,und,by rw[p2]; exact usz,λu hu=>by obtain ⟨e,he,b,eb,x⟩:=uall u hu; exact ⟨e,p1.mem_iff.mpr he,b,eb,Sn x kt⟩,by rw[mT,jY _ λk hk=>Df.mp (q2.mem_iff.mp hk)]; exact uP q1⟩ p2 p1
theorem x8{a x:Addr}{kx:List Int}{es:Array (Int×Value)}{ep:Nat}{t:Bk}{Q:Bool->Aj->Prop}(S:SetT prog w U s.heap a es ep t)(hn:es.size<1100)(hu:A.units<cLine)(hx:Fn (Ck prog w) s.heap kx x)(h0:kx∈U->Q false s)(h:∀es' ep' t' h',kx∉U->Gf a s.heap h'->SetT prog w (kx::U) h' a es' ep' t'->(es'.toList.map (·.2)).Perm (es.toList.map (·.2)++[Au x])->Q true { s with heap:=h' }):wpAny (model prog w) A (setAddHashed a (.ref x) (Bu (Ck prog w) kx)) Q E s:=by
 unfold setAddHashed setAddHashedIn
 refine Fb (Ac (Sr S ?_))
 dsimp only
 rw[if_neg (show ¬ (byScan (.ref x) es=true) from λz=>by simp [byScan,Value.scannable] at z)]
 obtain ⟨k,hk,he⟩:=uD S.tab (Bu (Ck prog w) kx)
 have hk':k<100000:=by
  have:=S.top
  unfold Ej at hk
  omega
 unfold setSearch
 refine Ac (tE S hu hx (λhm=>?_) (λj ej jm ow nk=>?_) 100000 k hk' hk he)
 ·dsimp only
  refine Ap ?_
  exact h0 hm
 ·dsimp only
  refine Ac (Sr S ?_)
  dsimp only
  obtain ⟨t1,p,e1,p1,z1,ok1,m1,pl1,ld1,wy1⟩:=FY S.tab (Bu (Ck prog w) kx,Au x) ((Nx S.tab.toTabOk).mp ej) jm S.ways ow
  rw[e1]
  dsimp only
  rw[pl1,if_pos rfl]
  refine Ac (yM hx ?_)
  rw[if_pos rfl]
  have z1':(Co es p (Bu (Ck prog w) kx,Au x)).size<=1200:=by omega
  refine Ac (wpAny_storeSet_of S.obj rfl ?_ (Zz z1'))
  have sb:=Cw s.heap a (Yk (Co es p (Bu (Ck prog w) kx,Au x)) t1)
  have kt:Vr s.heap _:=aZ S.obj (by show Ep "set" ≠ Ep "tuple"; decide) sb
  have ent1:∀e∈(Co es p (Bu (Ck prog w) kx,Au x)).toList,xN prog w (kx::U) s.heap e:=λe he=>by
   rcases Aw.mp (p1.mem_iff.mp he) with z | z
   ·exact (S.ent e z).keep (λ_ _ _ z=>z) λ_ z=>Ae _ z
   ·rw[Af.mp z]; exact ⟨x,kx,rfl,hx,Aa ..⟩
  have o1:=rW S.obj (Co es p (Bu (Ck prog w) kx,Au x)) t1
  have ent2:=λe he=>(ent1 e he).keep kt λ_ z=>z
  have hm:=Zh S.tab
  have und:(kx::U).Nodup:=Cn.mpr ⟨nk,S.nd⟩
  have usz:(Co es p (Bu (Ck prog w) kx,Au x)).size=(kx::U).length:=by rw[z1,S.sz,Ay]
  have uall:∀u∈kx::U,∃e∈(Co es p (Bu (Ck prog w) kx,Au x)).toList,∃b,e=(Bu (Ck prog w) u,Au b)/\Fn (Ck prog w) _ u b:=λu hu=>by
   rcases Ao.mp hu with rfl | hu
   ·exact ⟨_,p1.mem_iff.mpr (Ag _ (Af.mpr rfl)),x,rfl,Sn hx kt⟩
   ·obtain ⟨e,he,b,eb,q⟩:=S.all u hu
    exact ⟨e,p1.mem_iff.mpr (Al _ he),b,eb,Sn q kt⟩
  have pv:((Co es p (Bu (Ck prog w) kx,Au x)).toList.map (·.2)).Perm (es.toList.map (·.2)++[Au x]):=by
   have:=p1.map (·.2)
   rw[Bo] at this
   exact this
  by_cases tf:t1.tooFull=true
  ·rw[tf,if_pos (by decide)]
   have gr:SetTable.grown (es.size+1)=(es.size+1) * 4:=by unfold SetTable.grown; rw[if_neg (by omega)]
   rw[gr]
   refine Ac (nB o1 ent2 (by rw[z1]; exact ok1) (by omega) (by omega) (λz=>by rw[ld1]; exact S.led z) und usz uall (by omega) (by omega) λes' ep' t' h' sb' S' zz pz=>Ap ?_)
   exact h es' ep' t' h' nk (sb.trans sb') S' ((pz.map (·.2)).trans pv)
  ·have room:(es.size+1) * 5<t1.mask * 3:=by
    have : ¬ (t1.fill * 5 ≥ t1.mask * 3):=λz=>tf (by unfold SetTable.tooFull; exact decide_eq_true z)
    have e:t1.fill=es.size+1:=by
     unfold SetTable.fill
     rw[ok1.dum,ok1.size]
     rfl
    omega
   rw[Bool.not_eq_true] at tf
   rw[tf]
   simp only[Uv,Bv,if_false]
   refine Ap ?_
   exact h _ _ t1 _ nk sb ⟨o1,ent2,by rw[z1]; exact ⟨ok1,room⟩,by rw[m1]; exact S.odd,by rw[m1]; exact S.top,by omega,λz=>by rw[ld1]; exact S.led z,und,usz,uall,wy1⟩ pv
end
section
variable{prog:Bj}{w:World}{A:Cu}{R:Result->Aj->Prop}
def Vp(prog:Bj)(w:World)(h:Heap)(vs:List Value)(ws:List (List Int)):Prop:=vs.length=ws.length/\∀(i:Nat) (h1:i<vs.length) (h2:i<ws.length),∃b,vs[i]=Au b/\Fn (Ck prog w) h ws[i] b
theorem Vp.keep{h h':Heap}{vs:List Value}{ws:List (List Int)}(x:Vp prog w h vs ws)(k:Vr h h'):Vp prog w h' vs ws :=
 ⟨x.1,λi h1 h2=>by obtain ⟨b,e,z⟩:=x.2 i h1 h2; exact ⟨b,e,Sn z k⟩⟩
theorem sG{a it l:Addr}(n1:a≠it)(n2:a≠l)(n3:l≠it){items:Array Value}{ws:List (List Int)}(few:ws.length<=1100)(hh:A.in1.handled=none)(hu:A.in1.units<cLine):∀(k i:Nat) (s:Aj) (es:Array (Int×Value)) (ep:Nat) (t:Bk) (U:List (List Int)),items.size - i=k->i<=items.size->s.heap.IsListIter it l i->s.heap.IsList l items->Vp prog w s.heap items.toList ws->SetT prog w U s.heap a es ep t->es.size<=i->(∀x,x∈U↔x∈ws.take i)->(ws.Nodup->(es.toList.map (·.2)).Perm (items.toList.take i))->(∀v∈es.toList.map (·.2),v∈items.toList)->(∀es' ep' t' h' tk V,(∀b o,b≠a->b≠it->s.heap.get? b=some o->h'.get? b=some o)->SetT prog w V h' a es' ep' t'->(∀x,x∈V↔x∈ws)->(ws.Nodup->(es'.toList.map (·.2)).Perm items.toList)->(∀v∈es'.toList.map (·.2),v∈items.toList)->R (.ok (.ret .none)) { s with heap:=h',toks:=tk })->Mv (model prog w) A (.builtin "set.update.loop" ⟨[.ref a,.ref it],[]⟩) R s:=by
 intro k
 induction k with
 | zero =>
  intro i s es ep t U hk hi hit hl hw S hz hU hN hV hR
  have len:items.size=ws.length:=by rw[<- hw.1,Ah]
  have e:i=items.size:=by omega
  refine Kc Qj ?_
  rw[Hu Gc _]
  show wpAny _ A.in1 (pyNext (.ref it) >>= _) _ _ s
  refine Ac (wpAny_pyNext_list_end hh hit hl (by rw[e]; simp) λh' x=>?_)
  have kp:Kept s.heap h':=λb o c q=>by
   refine x b o (λz=>?_) q
   subst z
   obtain ⟨o',ho',c',_⟩:=hit
   rw[ho'] at q
   cases q
   rw[c'] at c
   rcases c with c | c <;> exact absurd c (by decide)
  have S':=S.keep kp
  refine Ap (hR es ep t h' s.toks U (λb o _ q e=>x b o q e) S' (λx=>?_) (λz=>?_) hV)
  ·rw[hU x,Gx (by omega)]
  ·have q:=hN z
   rw[e,Gx (by rw[Ah]; exact Ai _)] at q
   exact q
 | succ k ih =>
  intro i s es ep t U hk hi hit hl hw S hz hU hN hV hR
  have len:items.size=ws.length:=by rw[<- hw.1,Ah]
  have lt:i<items.size:=by omega
  have lt':i<ws.length:=by omega
  obtain ⟨b,ev,hx⟩:=hw.2 i (by rw[Ah]; exact lt) lt'
  have ev':items[i]=Au b:=by simpa using ev
  refine Kc Qj ?_
  rw[Hu Gc _]
  show wpAny _ A.in1 (pyNext (.ref it) >>= _) _ _ s
  refine Ac (o7 hit hl (x:=items[i]) (by simp [lt]) λh1 hit1 sb1=>?_)
  rw[ev']
  show wpAny _ A.in1 (holding [Au b] (setAdd a (.ref b)) >>= _) _ _ _
  refine Ac (Fb ?_)
  unfold setAdd
  have kp:Kept s.heap h1:=λb o c q=>by
   refine (sb1.2 b λz=>?_).trans q
   subst z
   obtain ⟨o',ho',c',_⟩:=hit
   rw[ho'] at q
   cases q
   rw[c'] at c
   rcases c with c | c <;> exact absurd c (by decide)
  have S1:=S.keep kp
  have hx1:=Sn hx kp.t
  refine Fb (Ac (wpAny_pyHash_tuple (s:={ s with heap:=h1 }) hu hx1 ?_))
  have kt:∀(h2:Heap) (es2:Array (Int×Value)) (ep2:Nat) (t2:Bk) (V:List (List Int)),Gf a h1 h2->SetT prog w V h2 a es2 ep2 t2->es2.size<=i+1->(∀x,x∈V↔x∈ws.take (i+1))->(ws.Nodup->(es2.toList.map (·.2)).Perm (items.toList.take (i+1)))->(∀v∈es2.toList.map (·.2),v∈items.toList)->∀tk,Mv (model prog w) A (.builtin "set.update.loop" ⟨[.ref a,.ref it],[]⟩) R { s with heap:=h2,toks:=tk }:=λh2 es2 ep2 t2 V sb2 S2 l2 u2 g2 w2 tk=>by
   have kt2:Vr h1 h2:=aZ S1.obj (by show Ep "set" ≠ Ep "tuple"; decide) sb2
   refine ih (i+1) { s with heap:=h2,toks:=tk } es2 ep2 t2 V (by omega) lt ?_ ?_ (hw.keep λb o c e=>kt2 b o c (kp.t b o c e)) S2 l2 u2 g2 w2 λes3 ep3 t3 h3 tk3 V3 k3 S3 u3 g3 w3=>?_
   ·obtain ⟨o,ho,r⟩:=hit1
    exact ⟨o,(sb2.2 it (Nm n1)).trans ho,r⟩
   ·obtain ⟨o,ho,r⟩:=hl
    exact ⟨o,(sb2.2 l (Nm n2)).trans ((sb1.2 l n3).trans ho),r⟩
   ·exact hR es3 ep3 t3 h3 tk3 V3 (λb o q1 q2 e=>k3 b o q1 q2 ((sb2.2 b q1).trans ((sb1.2 b q2).trans e))) S3 u3 g3 w3
  have tk1:=Ft lt'
  refine x8 (s:={ s with heap:=h1,toks:=s.toks+(ws[i].length+1) }) S1 (by omega) hu hx1 (λhm=>?_) λes2 ep2 t2 h2 nk sb2 S2 g2=>?_
  ·refine Ap ⟨Sz Gc _,?_⟩
   refine kt h1 es ep t U (Heap.SameBut.refl a h1) S1 (by omega) (λx=>?_) (λz=>?_) hV _
   ·rw[tk1,Aw,Af,hU x]
    exact ⟨.inl,λq=>q.elim id λq=>by rw[q]; exact (hU _).mp hm⟩
   ·obtain ⟨j,hj,ej⟩:=Pv.mp ((hU _).mp hm)
    exact absurd ej (Dw.mp z j i (by omega) lt' (by omega))
  ·refine Ap ⟨Sz Gc _,?_⟩
   refine kt h2 es2 ep2 t2 (ws[i]::U) sb2 S2 (by rw[S2.sz,Ay,<- S.sz]; omega) (λx=>?_) (λz=>?_) (λv hv=>?_) _
   ·rw[tk1,Aw,Af,Ao,hU x]
    exact Or.comm
   ·rw[Ft (by rw[Ah]; exact lt),show items.toList[i]=Au b from ev]
    exact g2.trans ((hN z).append_right _)
   ·rcases Aw.mp (g2.mem_iff.mp hv) with q | q
    ·exact hV v q
    ·rw[Af.mp q,<- ev]
     exact Ip _
end
section
variable{prog:Bj}{w:World}{A:Cu}{E:Value->Aj->Prop}{s:Aj}
theorem oK{h:Heap}:SetT prog w [] (h.push (Il #[] 0 (.fresh 0 0 (!bt w)))) h.objs.size #[] 0 (.fresh 0 0 (!bt w)) :=
 ⟨Bs _ rfl,(λe he=>by simp at he),⟨⟨N7,rfl,rfl,Fg,(λj hj=>by simp [SetTable.fresh] at hj),rfl⟩,by show 0 * 5<7 * 3; decide⟩,by show 7 % 2=1; decide,by show 7<8192; decide,by show 0<=1100; decide,λz=>by show (!bt w)=true; rw[z]; rfl,Cz,rfl,λu hu=>by simp at hu,λx hx=>by simp at hx⟩
theorem mG{l:Addr}{items:Array Value}{ws:List (List Int)}{Q:Value->Aj->Prop}(hh:A.handled=none)(hu:A.units+64<cLine)(hl:s.heap.IsList l items)(hw:Vp prog w s.heap items.toList ws)(few:ws.length<=1100)(h:∀es ep t h' tk U,(∀b o,s.heap.get? b=some o->h'.get? b=some o)->SetT prog w U h' s.heap.objs.size es ep t->(∀x,x∈U↔x∈ws)->(ws.Nodup->(es.toList.map (·.2)).Perm items.toList)->(∀v∈es.toList.map (·.2),v∈items.toList)->Q (.ref s.heap.objs.size) { s with heap:=h',toks:=tk }):wpAny (model prog w) A (call (.type "set") [.ref l]) Q E s:=by
 obtain ⟨c,tl,hmro⟩:=PySem.F.called_set.mro
 have hmade:=PySem.F.called_set.made
 have hsub:=PySem.F.called_set.sub
 have h1:=PySem.F.called_set.notType
 have h2:=PySem.F.called_set.canCreate
 have hct:=PySem.F.typeCall_set_1 (.ref l)
 refine wpAny_call (codeAny_of_tree (show wpAny _ _ (callAny (.type "set") _) _ _ _ from ?_))
 refine Ap ⟨Code.quiet_builtin _ (by decide +kernel),Kc PySem.F.entry_type_call ?_⟩
 rw[Around.under_plain (weight_type_call_type "set" [.ref l] []) rfl]
 repeat (any_goals (first | assumption | wp_step))
 refine Px (vZ (.ref l) (E:=E) (Q:=λv s1=>v=.ref s.heap.objs.size/\s1={ s with heap:=s.heap.push (Il #[] 0 (.fresh 0 0 (!bt w))) }) ⟨rfl,rfl⟩) λr s1 hr=>?_
 rcases r with e | (_ | _ | _ | v)
 ·exact hr
 ·exact hr.elim
 ·exact hr.elim
 ·exact hr.elim
 obtain ⟨rfl,rfl⟩:=hr
 have S0:=oK (prog:=prog) (w:=w) (h:=s.heap)
 have T0:Shared.TypeIs { s with heap:=s.heap.push (Il #[] 0 (.fresh 0 0 (!bt w))) } (.ref s.heap.objs.size) "set" := ⟨_,S0.obj,rfl⟩
 have hli:=PySem.F.called_set.init.lookup
 have hbi:=PySem.F.called_set.init.bind (.ref s.heap.objs.size)
 repeat (any_goals (first | assumption | wp_step))
 refine Px (codeAny_call_builtin (R:=wants (λr s2=>r=.none/\∃es ep t h' tk U,s2={ s with heap:=h',toks:=tk }/\(∀b o,s.heap.get? b=some o->h'.get? b=some o)/\SetT prog w U h' s.heap.objs.size es ep t/\(∀x,x∈U↔x∈ws)/\(ws.Nodup->(es.toList.map (·.2)).Perm items.toList)/\(∀v∈es.toList.map (·.2),v∈items.toList)) E)
  PySem.F.called_set.init.plain PySem.F.entry_set_init (check_set_init_1 T0 ?_)) λr s2 hr=>?_
 ·obtain ⟨⟨oc,od,odt,osl⟩,ho,hc,n,hd⟩:=id hl
  have hc':oc=.type "list" := hc
  have hd':odt=.seq items n:=hd
  subst hc' hd'
  have ho':=Aq (Il #[] 0 (.fresh 0 0 (!bt w))) ho
  have hl1:(s.heap.push (Il #[] 0 (.fresh 0 0 (!bt w)))).IsList l items:=⟨_,ho',rfl,n,rfl⟩
  have f1:=PySem.F.sub_list_set
  have f2:=PySem.F.sub_list_frozenset
  have f3:(Ep "list" == Ep "dict")=false:=by decide
  have lt:=Bl ho
  unfold Builtin.«set.__init__» noKeywords Builtin.Frozenset.updateFrom
  generalize hPI:pyIter=PI
  wp_walk
  subst hPI
  refine fR hl1 (Ac (wpAny_runValue ?_))
  have sz:(s.heap.push (Il #[] 0 (.fresh 0 0 (!bt w)))).objs.size=s.heap.objs.size+1:=Heap.size_push _ _
  have g1:((s.heap.push (Il #[] 0 (.fresh 0 0 (!bt w)))).push { cls:=.type "list_iterator",data:=.fields #[.ref l,.int 0 0] }).get? (s.heap.push (Il #[] 0 (.fresh 0 0 (!bt w)))).objs.size=some { cls:=.type "list_iterator",data:=.fields #[.ref l,.int 0 0] }:=Bs _ rfl
  have kp1:Vr s.heap ((s.heap.push (Il #[] 0 (.fresh 0 0 (!bt w)))).push { cls:=.type "list_iterator",data:=.fields #[.ref l,.int 0 0] }):=λb o _ e=>Aq _ (Aq _ e)
  refine sG (by rw[sz]; exact Da (cV _)) (Nat.ne_of_gt lt) (by rw[sz]; exact Da (Qm lt)) few (by simp [hh]) (by simp; omega) (items.size - 0) 0 _ #[] 0 (.fresh 0 0 (!bt w)) [] rfl (Do _) ⟨_,g1,rfl,rfl⟩ ⟨_,Aq _ ho',rfl,n,rfl⟩
   (hw.keep kp1) (S0.keep λb o _ q=>Aq _ q) (Do _) (λx=>Iff.rfl) (λ_=>Le _) (λv hv=>nomatch hv) λes ep t h' tk U k' S' m' m2' m3'=>?_
  refine Ap (Ap ⟨rfl,es,ep,t,h',tk,U,rfl,λb o e=>?_,S',m',m2',m3'⟩)
  ·have lb:=Bl e
   exact k' b o (Da lb) (by rw[sz]; exact Da (Qm lb)) (Aq _ (Aq _ e))
 ·rcases r with e | (_ | _ | _ | v)
  ·exact hr
  ·exact hr.elim
  ·exact hr.elim
  ·exact hr.elim
  obtain ⟨rfl,es,ep,t,h',tk,U,rfl,k',S',m',m2',m3'⟩:=hr
  repeat (any_goals (first | assumption | wp_step))
  exact h es ep t h' tk U k' S' m' m2' m3'
end
end NdS
namespace Nd
open PySem PySem.Spec PyProof.Rows L2 NdS
def nC(a:Addr)(n:Nat)(h:Heap):Prop:=∃es ep t,h.get? a=some (Il es ep t)/\t.fits es.size=true/\es.size=n
abbrev sF(a:Addr)(n:Nat):HO:=.ext (nC a n)
theorem G6{P:Bj}{w':World}{H:Hp}{h:Heap}{a:Addr}{n:Nat}(e:nC a n h):Gu P w' H h a (sF a n) :=
 ⟨e,let ⟨_,_,_,S,_⟩:=e; ⟨_,S⟩,λh1 h2 ⟨es,ep,t,S,m⟩ k=>⟨es,ep,t,k _ S,m⟩⟩
theorem sP{P:Bj}{w:World}{H:Hp}{h:Heap}{a:Addr}{n:Nat}(ok:Vm P w H h)(e:H a=some (sF a n)):nC a n h :=
 (show Gu P w H h a (sF a n) from ok a _ e).1
theorem Vz{prog:Bj}{w:World}:∀{ns:List Int} {vs:List Value},Fs (ns.map V.int) vs->ItemsAre (Ck prog w) ns vs
 | [],_,h=>by cases h; exact .nil
 | n::ns,_,h=>by
  cases h with
  | cons a t =>
   obtain ⟨tk,rfl⟩:=a
   exact .cons (intKind_is _ _ _ _) (Vz t)
theorem iJ:∀{rs:List Addr} {vs:List Value},Fs (rs.map V.ref) vs->vs=rs.map Au
 | [],_,h=>by cases h; rfl
 | r::rs,_,h=>by
  cases h with
  | cons a t =>
   cases a
   rw[iJ t]
   rfl
theorem Sj{α:Type}[DecidableEq α]:∀{l1 l2:List α},l1.Nodup->(∀e∈l1,e∈l2)->l1.length<=l2.length
 | [],_,_,_=>Do _
 | a::l1,l2,nd,h=>by
  have nd':=Cn.mp nd
  have ha:=h a (Aa ..)
  have:=Sj (l2:=l2.erase a) nd'.2 λe he=>(Ni (show e≠a from λz=>nd'.1 (by rw[<- z]; exact he))).mpr (h e (Ae _ he))
  rw[Lb ha] at this
  have p:0<l2.length:=Lw ha
  rw[Ay]
  omega
theorem kN{α:Type}[DecidableEq α]:∀{l:List α},¬ l.Nodup->∃x∈l,x∈l.erase x
 | [],h=>absurd Cz h
 | a::l,h=>by
  by_cases c:a∈l
  ·exact ⟨a,Aa ..,by rw[List.erase_cons_head]; exact c⟩
  ·obtain ⟨x,hx,hx2⟩:=kN (l:=l) λz=>h (Cn.mpr ⟨c,z⟩)
   have ne:¬ (a == x)=true:=λz=>c (by rw[show a=x by simpa using z]; exact hx)
   exact ⟨x,Ae _ hx,by rw[List.erase_cons_tail ne]; exact Ae _ hx2⟩
theorem Vc{α:Type}[DecidableEq α]{U ws:List α}(n1:U.Nodup)(h:∀x,x∈U↔x∈ws):U.length<=ws.length/\(U.length=ws.length↔ws.Nodup):=by
 have l1:=Sj n1 λe he=>(h e).mp he
 refine ⟨l1,λe=>Hl λz=>?_,λn2=>Nat.le_antisymm l1 (Sj n2 λe he=>(h e).mpr he)⟩
 obtain ⟨x,hx,hx2⟩:=kN z
 have:=Sj (l2:=ws.erase x) n1 λe he=>by
  by_cases c:e=x
  ·rw[c]; exact hx2
  ·exact (Ni c).mpr ((h e).mp he)
 rw[Lb hx] at this
 have p:0<ws.length:=Lw hx
 omega
def CF(K:PySem.W.Frag):List V->Hp->VK->Prop:=λxs H Q=>∃(a:Addr) (rs:List Addr) (f:Addr->List Int),xs=[.ref a]/\Ud K H a (rs.map V.ref)/\(∀r∈rs,Ur K H r ((f r).map V.int))/\rs.length<=1100 /\
 ∀(p:Addr) (n:Nat),H p=none->n<=rs.length->(n=rs.length↔(rs.map f).Nodup)->Q (.ref p) (upd H p (sF p n))
theorem uZ{X:Cx}(hc:X.calm=true)(hu:X.A.units+64<cLine):Kr X (.type "set") (CF X.K):=by
 intro pins s σ H xs us Q I r h
 obtain ⟨a,rs,f,rfl,hs,ht,few,q⟩:=h
 obtain ⟨u,rfl,ru⟩:=vals1 r
 cases ru
 obtain ⟨its,rv,pl,_⟩:=I.list hs
 have e:=iJ rv
 subst e
 refine mG (ws:=rs.map f) (I.ok.hd hc) hu pl.isList ⟨by simp,λi h1 h2=>?_⟩ (by rw[Ab]; exact few) λes ep t h' tk U k S m m2 _=>?_
 ·have hi:i<rs.length:=by simpa using h1
  obtain ⟨js,jv,⟨o,e,hcl,n,hd⟩,_⟩:=I.tuple (ht rs[i] (Ip hi))
  exact ⟨rs[i],by simp,o,_,n,e,hcl,hd,by rw[List.getElem_map]; simpa using Vz jv⟩
 ·obtain ⟨l1,l2⟩:=Vc S.nd m
  rw[Ab,<- S.sz] at l1 l2
  exact ⟨.ref s.heap.objs.size,_,I.laid k (Ai _) (G6 ⟨es,ep,t,S.obj,S.tab.fits,rfl⟩),rfl,q _ _ (I.hok.fresh (Ai _)) l1 l2⟩
def EK:List V->Hp->VK->Prop:=λxs H Q=>∃a n,xs=[V.ref a]/\H a=some (sF a n)/\n<=1100/\Q (.int n) H
theorem sU{X:Cx}:Kr X (.builtin "len") EK:=by
 intro pins s σ H xs us Q I r h
 obtain ⟨a,n,rfl,ha,hn,q⟩:=h
 obtain ⟨u,rfl,ru⟩:=vals1 r
 cases ru
 obtain ⟨es,ep,t,ho,hf,rfl⟩:=sP I.hok ha
 refine call_len_set ho ⟨rfl,rfl,rfl⟩ rfl hf (by omega) ?_
 exact ⟨.int es.size,H,I.tok _,⟨_,rfl⟩,q⟩
end Nd
namespace Nd
open PySem L2
end Nd
namespace DL
open PySem PySem.Spec PyProof.Rows L2 Nd
def EY(xs:List DV)(δ:DS)(P:DV->DS->Prop):Prop:=match xs with
 | [.dat _ (.list ds)]=>∃ws:List (List Int),ds=ws.map Bf/\ws.length<=1100/\∀n:Nat,n<=ws.length->(ws.Nodup->n=ws.length)->(n=ws.length->ws.Nodup)->P (.dat .ow (.int n)) δ
 | _=>False
def pU(da:DA):DE:=λδ P=>da δ λxs δ1=>EY xs δ1 P
section
variable{X:Cx}{p p2 pos pos2:Pos}{e:Expr}{da:DA}
theorem tI(hu:X.A.units+64<cLine)(hc:X.calm=true)(hg:Gl X "len")(hm:X.mg "len" = none)(hg2:Gl X "set")(hm2:X.mg "set" = none)(ha:mQ X [e] da)(he:By [e] X.env=[(false,eval e X.env)]:=by rfl)(he2:By [.Call (.Name "set" p2) [e] [] pos2] X.env=[(false,eval (.Call (.Name "set" p2) [e] [] pos2) X.env)]:=by rfl):Fc X (.Call (.Name "len" p) [.Call (.Name "set" p2) [e] [] pos2] [] pos) (pU da):=by
 refine PE.imp (cG sU hg hm (by decide +kernel) (Jf (Pi (uZ hc hu) hg2 hm2 (by decide +kernel) ha (by decide) (by decide) he rfl) Qe he2) (by decide) (by decide) he2 rfl) λσ H Q h=>?_
 obtain ⟨H0,Y,S,T,δ,P,rfl,hS,hA,hd,k⟩:=h
 refine ⟨H0,Y,S,T,δ,_,rfl,hS,hA,hd,λxs δ' As us S' H' e1 e2 ex eu hA' p=>?_⟩
 unfold EY at p
 split at p
 ·obtain ⟨v,F,rfl,hA2⟩:=Je eu hA' ex
  obtain ⟨ws,rfl,hl,pp⟩:=p
  obtain ⟨a,xs,G,rfl,ha,ra,rfl,hz⟩:=(hA2.told mem_mid).list_inv
  obtain ⟨rs,rfl,rfl,rfl,c1,c2⟩:=bW ra rfl
  rw[Ab] at hl
  refine ⟨a,rs,o5 H',rfl,Ud.of ha,λr hr=>Ur.of (c1 r hr),hl,λq n hq h1 h2=>?_⟩
  refine ⟨q,n,rfl,Ed,by omega,?_⟩
  have s1:=Ga hq (sF q n)
  exact k _ δ' _ _ S' _ e1 e2 ((hA2.drop.grow s1 (Ai _)).pushI (.int _)) (pp n (by rw[Ab]; exact h1) (by rw[Ab]; exact h2.mpr) (by rw[Ab]; exact h2.mp))
 ·exact p.elim
end
section
variable{K:PySem.W.Frag}
theorem nZ{H:Hp}{D:Addr}{l l2:List V}{F:List Addr}(hD:H D=some (.lst l))(nD:D∉F):Kp F H (upd H D (.lst l2)):=λb o e z=>by
 by_cases c:b=D
 ·subst c
  rw[hD] at e
  cases e
  rcases z with z | z
  ·exact absurd z nD
  ·rcases z with ⟨_,z⟩ | ⟨_,_,z⟩ <;> cases z
 ·rw[Ew c]; exact e
end
section
variable{K:PySem.W.Frag}
theorem kI{S:List Ent}{δ:DS}{i:Nat}{u:Option V}{x y:DV}{F F':List Addr}(e2:S[i]? = some ⟨u,x,F⟩)(hS:Sl S δ):vs (S.set i ⟨u,y,F'⟩)=vs S/\Sl (S.set i ⟨u,y,F'⟩) ⟨δ.sl.set i y,δ.n⟩:=by
 constructor
 ·unfold vs
  rw[Hx]
  apply Gn
  intro j
  rw[Jw]
  split
  ·rename_i hij
   subst hij
   rw[Bw,e2]
   split
   ·rfl
   ·rename_i hj
    rw[Ab] at hj
    exact absurd (An.mp e2).1 hj
  ·rfl
 ·unfold Sl at hS ⊢
  rw[Hx,hS]
end
end DL
namespace NdW
open PySem PyProof.Rows NdS
structure SetW(w:World)(h:Heap)(a:Addr)(es:Array (Int×Value))(ep:Nat)(t:Bk):Prop where
 obj:h.get? a=some (Il es ep t)
 tab:Tab es.size t
 led:bt w=false->t.led=true
 few:es.size<=1100
theorem SetW.keep{w:World}{h h':Heap}{a:Addr}{es:Array (Int×Value)}{ep:Nat}{t:Bk}(S:SetW w h a es ep t)(k:∀o,h.get? a=some o->h'.get? a=some o):SetW w h' a es ep t:=⟨k _ S.obj,S.tab,S.led,S.few⟩
section
variable{prog:Bj}{w:World}{A:Cu}{E:Value->Aj->Prop}{s:Aj}
theorem SetW.ty{a:Addr}{es:Array (Int×Value)}{ep:Nat}{t:Bk}(S:SetW w s.heap a es ep t):s.TypeIs (.ref a) "set" := ⟨_,S.obj,rfl⟩
theorem Np{a:Addr}{es:Array (Int×Value)}{ep:Nat}{t:Bk}{Q:(Array (Int×Value)×Nat×Bk)->Aj->Prop}(S:SetW w s.heap a es ep t)(h:Q (es,ep,t) s):wpAny (model prog w) A (setState a) Q E s :=
 fP S.obj rfl S.tab.fits h
theorem K6{a:Addr}{es:Array (Int×Value)}{ep:Nat}{t:Bk}{Q:Array (Int×Value)->Aj->Prop}(S:SetW w s.heap a es ep t)(h:Q (if bt w then pickOrder (w.params.setOrder a ep) es else es) s):wpAny (model prog w) A (setWalk a) Q E s:=by
 unfold setWalk
 refine Ac (Np S ?_)
 dsimp only
 refine Ac (Xc ?_)
 cases hb:bt w with
 | true =>
  rw[hb] at h
  rw[if_pos rfl] at h ⊢
  exact Ac (iZ (Ap h))
 | false =>
  have hl:=S.led hb
  have hp:=S.tab.plain
  rw[hb] at h
  obtain ⟨mask,place,dummies,finger,led,moves,plain⟩:=t
  have hl':led=true:=hl
  have hp':plain=true:=hp
  subst hl' hp'
  exact Ac (m:=(pure ():Sem Unit)) (Ap (Ap h))
end
def kS(w:World)(I a:Addr)(es:Array (Int×Value))(ep:Nat)(t:Bk)(i:Nat)(h:Heap):Prop :=
 (∃f,h.get? I=some (pP f i a es.size ep)/\(bt w=false->Bt t.place f=i))/\SetW w h a es ep t
section
variable{prog:Bj}{w:World}{A:Cu}{E:Value->Aj->Prop}{s:Aj}
theorem w8{a:Addr}{es:Array (Int×Value)}{ep:Nat}{t:Bk}{Q:Value->Aj->Prop}(S:SetW w s.heap a es ep t)(h:Q (.ref s.heap.objs.size) { s with heap:=s.heap.push (pP 0 0 a es.size ep) }):wpAny (model prog w) A (pyIter (.ref a)) Q E s:=by
 refine wpAny_pyIter_slot S.ty PySem.F.slot_set_iter (Hs PySem.F.slot_set_iter S.ty pE ?_ (PySem.F.args_set_iter_1 _))
 unfold Builtin.«frozenset.__iter__»
 refine Ac (m:=Builtin.Frozenset.slot0 "__iter__" ⟨[.ref a],[]⟩) (Mf (a:=a) rfl ?_)
 unfold Builtin.Frozenset.sizeOf cS setDrawn setEpoch
 refine Ac (Ac (Ac (Np S (Ap (Ap ?_)))))
 refine Ac (Ac (Np S ?_))
 dsimp only
 refine Ac (Xc (Ap ?_))
 have hp:=S.tab.plain
 have tail:wpAny (model prog w) A.in1 (do
   let first <- (pure (Mt 0):Sem Value)
   ret (<- newFields "set_iterator" [first,Mt 0,.ref a,Mt es.size,Mt (<- (do return (<- setState a).2.1))])) (λfin s'=>∃v,fin=.done (.ret v)/\∃T' r,s'.TypeIs v T'/\typeLookup (.type T') "__next__" = pure (some r)/\Q v s') E s:=by
  refine Ac (Ap ?_)
  refine Ac (Ac (Np S (Ap ?_)))
  refine Ac (Ei (Ap ⟨_,rfl, "set_iterator",_,⟨_,Bs _ rfl,rfl⟩,Sd.lookup,h⟩))
 obtain ⟨mask,place,dummies,finger,led,moves,plain⟩:=t
 have hp':plain=true:=hp
 subst hp'
 cases hb:bt w with
 | true=>exact tail
 | false=>exact tail
theorem bR{a:Addr}{es:Array (Int×Value)}{ep f i:Nat}{t:Bk}{Q:Option (Value×Nat)->Aj->Prop}(S:SetW w s.heap a es ep t)(hf:bt w=false->Bt t.place f=i)(h1:∀(hi:i<es.size) f',(bt w=false->Bt t.place f'=i+1)->Q (some (((NdS.arrOf w a ep es)[i]'(by rw[Pg]; exact hi)).2,f')) s)(h2:es.size<=i->Q none s):wpAny (model prog w) A (setNext a f i ep) Q E s:=by
 unfold setNext
 refine Ac (Np S ?_)
 dsimp only
 refine Ac (Xc ?_)
 cases hb:bt w with
 | true =>
  rw[if_pos rfl,if_neg (by simp)]
  refine Ac (K6 S (Ap ?_))
  show Q (((NdS.arrOf w a ep es)[i]?).map λe=>(e.2,f)) s
  by_cases hi:i<es.size
  ·rw[Dd (by rw[Pg]; exact hi)]
   exact h1 hi f (λz=>by rw[hb] at z; cases z)
  ·rw[Qu (by rw[Pg]; omega)]
   exact h2 (by omega)
 | false =>
  have hl:=S.led hb
  have hp:=S.tab.plain
  have tail:wpAny (model prog w) A (pure (match es[Bt t.place f]?,t.place[Bt t.place f]? with
    | some (_,x),some j=>some (x,j+1)
    | _,_=>none):Sem (Option (Value×Nat))) Q E s:=by
   rw[hf hb]
   by_cases hi:i<es.size
   ·have hi2:i<t.place.size:=by rw[S.tab.size]; exact hi
    rw[Dd hi,Dd hi2]
    refine Ap ?_
    have:=h1 hi (t.place[i]+1) (λ_=>nI S.tab.rise hi2)
    have e:NdS.arrOf w a ep es=es:=by unfold NdS.arrOf; rw[hb]; rfl
    simp only[e] at this
    exact this
   ·rw[Qu (by omega)]
    exact Ap (h2 (by omega))
  obtain ⟨mask,place,dummies,finger,led,moves,plain⟩:=t
  have hl':led=true:=hl
  have hp':plain=true:=hp
  subst hl' hp'
  exact Ac (m:=(pure ():Sem Unit)) (Ap tail)
theorem uI{I a:Addr}{es:Array (Int×Value)}{ep:Nat}{t:Bk}{i:Nat}{Q:Option Value->Aj->Prop}(st:kS w I a es ep t i s.heap)(ne:a≠I)(hi:i<es.size)(h:∀h',kS w I a es ep t (i+1) h'->Gf I s.heap h'->Q (some ((NdS.arrOf w a ep es)[i]'(by rw[Pg]; exact hi)).2) { s with heap:=h' }):wpAny (model prog w) A (pyNext (.ref I)) Q E s:=by
 obtain ⟨⟨f,ho,hf⟩,S⟩:=st
 have T:s.TypeIs (.ref I) "set_iterator" := ⟨_,ho,rfl⟩
 unfold pyNext
 refine Ac (wpAny_attempt (Jg (name:=Fu "__next__") T Sd (Hs Sd T aS ?_ (dY _))))
 unfold Builtin.«set_iterator.__next__»
 refine Ac (m:=slotArgs "__next__" 0 ⟨[.ref I],[]⟩) (Mf (a:=(Au I,[])) rfl ?_)
 dsimp only
 refine Ac (wpAny_fieldsOf ho rfl ?_)
 show wpAny (model prog w) A.in1 (do
  if (((<- cS a).size:Nat):Int) != (es.size:Int) then
   rule "set_iterator.__next__.size-changed"
   Tw (.ref I) 3 (Mt (-1))
   raiseError "RuntimeError" "Set changed size during iteration"
  match <- setNext a (f:Int).toNat (i:Int).toNat (ep:Int).toNat with
  | some (x,next) =>
   Tw (.ref I) 0 (Mt next)
   Tw (.ref I) 1 (Mt ((i:Int)+1))
   ret x
  | none=>Tw (.ref I) 2 .none; raiseNew (<- newExc (.type "StopIteration") [])) _ _ _
 unfold cS
 refine Ac (Ac (Np S (Ap ?_)))
 rw[if_neg (by simp)]
 simp only[Dq]
 refine Ac (bR S hf (λ_ f' hf'=>?_) (λz=>absurd hi (by omega)))
 dsimp only
 refine Ac (wpAny_setField ho rfl (by simp) ?_)
 have g1:(s.heap.update I (Obj.mapFields (·.setIfInBounds 0 (Mt f')))).get? I=some (pP f' i a es.size ep):=Ho _ ho rfl
 refine Ac (wpAny_setField g1 rfl (by simp) (Ap ⟨_,rfl,Ap (h _ ⟨⟨f',?_,hf'⟩,?_⟩ ((Cw ..).trans (Cw ..)))⟩))
 ·exact Ho _ g1 rfl
 ·refine S.keep λo q=>?_
  exact ((Cw _ _ _).2 a ne).trans (((Cw _ _ _).2 a ne).trans q)
theorem yV{I a:Addr}{es:Array (Int×Value)}{ep:Nat}{t:Bk}{Q:Option Value->Aj->Prop}(hh:A.handled=none)(st:kS w I a es ep t es.size s.heap)(h:∀h',Heap.ExtBut I s.heap h'->Q none { s with heap:=h' }):wpAny (model prog w) A (pyNext (.ref I)) Q E s:=by
 obtain ⟨⟨f,ho,hf⟩,S⟩:=st
 have T:s.TypeIs (.ref I) "set_iterator" := ⟨_,ho,rfl⟩
 unfold pyNext
 refine Ac (wpAny_attempt (Jg (name:=Fu "__next__") T Sd (Hs Sd T aS ?_ (dY _))))
 unfold Builtin.«set_iterator.__next__»
 refine Ac (m:=slotArgs "__next__" 0 ⟨[.ref I],[]⟩) (Mf (a:=(Au I,[])) rfl ?_)
 dsimp only
 refine Ac (wpAny_fieldsOf ho rfl ?_)
 show wpAny (model prog w) A.in1 (do
  if (((<- cS a).size:Nat):Int) != (es.size:Int) then
   rule "set_iterator.__next__.size-changed"
   Tw (.ref I) 3 (Mt (-1))
   raiseError "RuntimeError" "Set changed size during iteration"
  match <- setNext a (f:Int).toNat (es.size:Int).toNat (ep:Int).toNat with
  | some (x,next) =>
   Tw (.ref I) 0 (Mt next)
   Tw (.ref I) 1 (Mt ((es.size:Int)+1))
   ret x
  | none=>Tw (.ref I) 2 .none; raiseNew (<- newExc (.type "StopIteration") [])) _ _ _
 unfold cS
 refine Ac (Ac (Np S (Ap ?_)))
 rw[if_neg (by simp)]
 simp only[Dq]
 refine Ac (bR S hf (λz _ _=>absurd z (Ha _)) (λ_=>?_))
 dsimp only
 refine Ac (wpAny_setField ho rfl (by simp) (Ac ?_))
 simp only[newExc,newTuple]
 refine Ac (Ei ?_ (by size_fits))
 refine Ac (m:=firstArgMember _ _) (Mf (a:=Qt) (by first | rfl | (simp only[firstArgMember]; rfl)) (Ei ?_ (by size_fits)))
 simp only[raiseNew]
 refine Ac (wpAny_handled ?_)
 rw[show A.in1.handled=none from hh]
 refine Ac (Ap (wpAny_throw ?_))
 refine Ac (wpAny_isInstance (T := "StopIteration") (b:=true) ⟨_,Bs _ rfl,rfl⟩ isSubtype_stop ?_)
 exact Ap (h _ (((Cw ..).extBut.push _).push _))
end
section
variable{prog:Bj}{w:World}{A:Cu}{E:Value->Aj->Prop}{s:Aj}
theorem tU(hh:A.handled=none){I a:Addr}(ne:a≠I)(es:Array (Int×Value))(ep:Nat)(t:Bk):Walks prog w A I [I,a] [I] es.size (λi v=>∃e,(NdS.arrOf w a ep es)[i]? = some e/\v=e.2) (λi h=>kS w I a es ep t i h) where
 sub:=λb hb=>by simp at hb; simp [hb]
 frame:=λi h h' ⟨⟨f,ho,hf⟩,S⟩ hk=>⟨⟨f,hk I (by simp) _ ho,hf⟩,S.keep λo q=>hk a (by simp) o q⟩
 item:=λi s Q E hi st hQ=>uI st ne hi λh' st' sb=>hQ _ h' s.toks ⟨_,Dd (by rw[Pg]; exact hi),rfl⟩ st' λb o hb e=>(sb.2 b (λz=>hb (by simp [z]))).trans e
 done:=λs Q E st hQ=>yV hh st λh' x=>hQ h' s.toks λb o hb e=>x b o (λz=>hb (by simp [z])) e
 self:=λi s Q E st hQ=>by
  obtain ⟨⟨f,ho,hf⟩,S⟩:=st
  have T:s.TypeIs (.ref I) "set_iterator" := ⟨_,ho,rfl⟩
  refine wpAny_pyIter_slot T dR (Hs dR T nV ?_ (uU _))
  exact Ap ⟨_,rfl, "set_iterator",_,T,Sd.lookup,hQ⟩
theorem C1(a:Addr)(es:Array (Int×Value))(ep:Nat)(t:Bk):PySem.W.KdlSrc prog w "set" a a es.size (λi v=>∃e,(NdS.arrOf w a ep es)[i]? = some e/\v=e.2) (λh=>SetW w h a es ep t) where
 type:=λs S=>S.ty
 there:=λh S=>⟨Bl S.obj,Bl S.obj⟩
 keep:=λh h' S k=>S.keep λo q=>k a (.inl rfl) o q
 notList:=by decide
 notTuple:=by decide
 hint:=λA E s Q S h=>j9 S.ty h
 iter:=λA s hh S=>by
  have lt:=Bl S.obj
  refine ⟨pP 0 0 a es.size ep,λi h=>kS w s.heap.objs.size a es ep t i h,λE Q h=>w8 S h,?_,⟨⟨0,Bs _ rfl,λ_=>kU S.tab.rise⟩,S.keep λo q=>Aq _ q⟩⟩
  exact tU hh (Da lt) es ep t
theorem pC{arr:Array (Int×Value)}{acc:Array Value}(h:ItemsOf (λi v=>∃e,arr[i]? = some e/\v=e.2) acc arr.size):acc.toList=arr.toList.map (·.2):=by
 apply Gn
 intro j
 rw[Bw]
 cases q:acc.toList[j]? with
 | none =>
  have l:acc.size<=j:=by
   have:=jB.mp q
   rw[Ah] at this
   exact this
  rw[Ti (by rw[Ah]; have:=h.1; omega)]
  rfl
 | some v =>
  obtain ⟨e,h1,h2⟩:=h.2 j v (by rw[<- Es]; exact q)
  rw[Es,h1,h2]
  rfl
theorem tV{h:Heap}{a:Addr}{vs:List Value}{out:Array Value}{b:Addr}{o:Obj}(ne:b≠a)(e:h.get? b=some o):(Ux h a vs out).get? b=some o:=by
 unfold Ux
 exact ((Cw _ _ _).2 b ne).trans (Aq _ (Aq _ (((Cw _ _ _).2 b ne).trans e)))
theorem J0{h:Heap}{a:Addr}{vs:List Value}{out:Array Value}{n:Nat}(g:h.get? a=some (Kw "list" vs.toArray n)):∃n,(Ux h a vs out).get? a=some (Kw "list" out n):=by
 unfold Ux
 have g2:=get?_update_seq g (λ_=>#[])
 have g3:=Aq (Kw "list" #[] 0) (Aq (Kw "tuple" vs.toArray 0) g2)
 exact ⟨_,get?_update_seq g3 (λ_=>out)⟩
def Y9:Value->Addr
 | .ref a=>a
 | _=>0
theorem tJ{l:List Value}{rs:List Addr}(h:l.Perm (rs.map Au)):∃rs0:List Addr,l=rs0.map Au/\rs0.Perm rs:=by
 refine ⟨l.map Y9,?_,?_⟩
 ·rw[Ek]
  refine ((Ig λv hv=>?_).trans (List.map_id l)).symm
  obtain ⟨r,_,rfl⟩:=Br.mp (h.mem_iff.mp hv)
  rfl
 ·have:=h.map Y9
  rw[Ek,show Y9 ∘ Au=id from rfl,List.map_id] at this
  exact this
theorem kC{a:Addr}{es:Array (Int×Value)}{ep:Nat}{t:Bk}{rs:List Addr}{c:Addr->List Int}{Q:Value->Aj->Prop}(hh:A.handled=none)(hu:A.units+64<cLine)(S:SetW w s.heap a es ep t)(hv:(es.toList.map (·.2)).Perm (rs.map Au))(hw:∀r∈rs,∃ti:List Value,Ge ti (c r)/\IsTup s.heap r ti.toArray)(h:∀(p:Addr) (rs':List Addr) (n:Nat) (h1 h':Heap) (tk:Nat),rs'.Perm rs->rs'.Pairwise (λx y=>HT.lexLt (c y) (c x)=false)->(∀b o,s.heap.get? b=some o->h1.get? b=some o)->h1.objs.size<=p->(∀b o,h1.get? b=some o->h'.get? b=some o)->h'.get? p=some (Kw "list" (rs'.map Au).toArray n)->Q (.ref p) { s with heap:=h',toks:=tk }):wpAny (model prog w) A (call (.builtin "sorted") [.ref a]) Q E s:=by
 refine Calls.call_function_entry (by exact kind_sorted) plain_sorted entry_sorted (args_sorted1 _) ?_
 unfold Builtin.«sorted»
 refine Ac (m:=checkCount "sorted" 1 1 _) (Ap (Ac (PySem.W.kdu_collect (A:=A.in1) (C1 a es ep t) hh S (Zz (by have:=S.few; omega)) λh1 tk acc k1 hacc=>?_)))
 have hacc':ItemsOf (λi v=>∃e,(NdS.arrOf w a ep es)[i]? = some e/\v=e.2) acc (NdS.arrOf w a ep es).size:=by rw[Pg]; exact hacc
 have e1:=pC hacc'
 have e3:acc.toList.Perm (rs.map Au):=by
  rw[e1]
  exact ((jX (w:=w) (a:=a) (ep:=ep) (es:=es)).map (λe:Int×Value=>e.2)).trans hv
 obtain ⟨rs0,e2,p0⟩:=tJ e3
 rw[e2]
 have l0:rs0.length<=1100:=by
  have:=congrArg Fj e2
  rw[Ah,hacc.1,Ab] at this
  have:=S.few
  omega
 refine Ac (wpAny_newList ?_ (by rw[Ab]; exact Zz (by omega)))
 have g1:(h1.push (Kw "list" (rs0.map Au).toArray 0)).get? h1.objs.size=some (Kw "list" (rs0.map Au).toArray 0):=Bs _ rfl
 refine Ac (Fb (Hs slot_list_sort ⟨_,g1,rfl⟩ entry_list_sort (Ts.sort_listG (s:={ s with heap:=h1.push (Kw "list" (rs0.map Au).toArray 0),toks:=tk }) (c:=c) (d0:=[]) (lt_:=HT.lexLt) g1 (λh' hk h2=>Ts.kinded_ints (λr hr=>?_) ?_ h2) (Zz (by omega)) λrs' p1 p2=>⟨_,rfl,?_⟩) (args_list_sort _)))
 ·obtain ⟨ti,t1,o,g,kk⟩:=hw r (p0.mem_iff.mp hr)
  have g':=k1 r o g
  exact ⟨ti,t1,o,hk _ _ (Da (Bl g')) (Aq _ g'),kk⟩
 ·first | (show A.units+1+1<cLine; omega) | (simp; omega) | omega
 ·obtain ⟨n,hn⟩:=J0 (out:=(rs'.map Au).toArray) g1
  refine Ap ⟨_,rfl,h _ rs' n h1 _ tk (p1.trans p0) p2 k1 (Ai _) (λb o e=>tV (Da (Bl e)) (Aq _ e)) hn⟩
end
end NdW
namespace Nd
open PySem PySem.Spec PyProof.Rows L2 NdS NdW
def oO(w:World)(a:Addr)(V:List Value)(h:Heap):Prop:=∃es ep t,SetW w h a es ep t/\(es.toList.map (·.2)).Perm V
abbrev mI(w:World)(a:Addr)(V:List Value):HO:=.ext (oO w a V)
theorem E4{P:Bj}{w w':World}{H:Hp}{h:Heap}{a:Addr}{V:List Value}(e:oO w a V h):Gu P w' H h a (mI w a V) :=
 ⟨e,let ⟨_,_,_,S,_⟩:=e; ⟨_,S.obj⟩,λh1 h2 ⟨es,ep,t,S,m⟩ k=>⟨es,ep,t,S.keep λo q=>k o q,m⟩⟩
theorem uN{P:Bj}{w:World}{H:Hp}{h:Heap}{a:Addr}{V:List Value}(ok:Vm P w H h)(e:H a=some (mI w a V)):oO w a V h :=
 (show Gu P w H h a (mI w a V) from ok a _ e).1
theorem jO:∀{vs:List Value},(∀v∈vs,∃r,v=Au r)->∃rs:List Addr,vs=rs.map Au
 | [],_=>⟨[],rfl⟩
 | v::vs,h=>by
  obtain ⟨r,e⟩:=h v Aa
  obtain ⟨rs,e2⟩:=jO (vs:=vs) λx hx=>h x (Ae _ hx)
  exact ⟨r::rs,by rw[e,e2]; rfl⟩
def BO(w:World)(K:PySem.W.Frag):List V->Hp->VK->Prop:=λxs H Q=>∃(a:Addr) (rs:List Addr) (f:Addr->List Int),xs=[.ref a]/\Ud K H a (rs.map V.ref)/\(∀r∈rs,Ur K H r ((f r).map V.int))/\rs.length<=1100 /\
 ∀(p:Addr) (rs':List Addr),H p=none->(∀r∈rs',r∈rs)->(rs'.map f).Nodup->(∀x,x∈rs'.map f↔x∈rs.map f)->Q (.ref p) (upd H p (mI w p (rs'.map Au)))
theorem tH{X:Cx}(hc:X.calm=true)(hu:X.A.units+64<cLine):Kr X (.type "set") (BO X.w X.K):=by
 intro pins s σ H xs us Q I r h
 obtain ⟨a,rs,f,rfl,hs,ht,few,q⟩:=h
 obtain ⟨u,rfl,ru⟩:=vals1 r
 cases ru
 obtain ⟨its,rv,pl,_⟩:=I.list hs
 have e:=iJ rv
 subst e
 refine mG (ws:=rs.map f) (I.ok.hd hc) hu pl.isList ⟨by simp,λi h1 h2=>?_⟩ (by rw[Ab]; exact few) λes ep t h' tk U k S m m2 m3=>?_
 ·have hi:i<rs.length:=by simpa using h1
  obtain ⟨js,jv,⟨o,e,hcl,n,hd⟩,_⟩:=I.tuple (ht rs[i] (Ip hi))
  exact ⟨rs[i],by simp,o,_,n,e,hcl,hd,by rw[List.getElem_map]; simpa using Vz jv⟩
 ·obtain ⟨rs',er⟩ : ∃rs':List Addr,es.toList.map (·.2)=rs'.map Au:=jO λv hv=>by
   obtain ⟨x,_,ex⟩:=Br.mp (m3 v hv)
   exact ⟨x,ex.symm⟩
  have sub:∀r∈rs',r∈rs:=λr hr=>by
   obtain ⟨x,hx,ex⟩:=Br.mp (m3 (Au r) (by rw[er]; exact Br.mpr ⟨r,hr,rfl⟩))
   injection ex with ex
   rw[<- ex]; exact hx
  have key:∀r∈rs,Fn (Ck X.prog X.w) h' (f r) r:=λr hr=>by
   obtain ⟨js,jv,⟨o,e,hcl,n,hd⟩,_⟩:=I.tuple (ht r hr)
   exact ⟨o,_,n,k _ _ e,hcl,hd,by simpa using Vz jv⟩
  have cov:∀u∈U,u∈rs'.map f:=λu hu=>by
   obtain ⟨e,he,b,eb,x⟩:=S.all u hu
   have hb:b∈rs':=by
    have : Au b∈es.toList.map (·.2):=Br.mpr ⟨e,he,by rw[eb]⟩
    rw[er] at this
    obtain ⟨y,hy,ey⟩:=Br.mp this
    injection ey with ey
    rw[<- ey]; exact hy
   exact Br.mpr ⟨b,hb,(key b (sub b hb)).inj x⟩
  have lenE:(rs'.map f).length=U.length:=by
   have:=congrArg Fj er
   rw[Ab,Ab,Ah,S.sz] at this
   rw[Ab]; exact this.symm
  have back:∀x,x∈rs'.map f->x∈rs.map f:=λx hx=>by
   obtain ⟨r,hr,rfl⟩:=Br.mp hx
   exact Br.mpr ⟨r,sub r hr,rfl⟩
  refine ⟨.ref s.heap.objs.size,_,I.laid k (Ai _) (E4 (V:=rs'.map Au) ⟨es,ep,t,⟨S.obj,S.tab,S.led,S.few⟩,by rw[er]⟩),rfl,q _ rs' (I.hok.fresh (Ai _)) sub ?_ λx=>⟨back x,λhx=>cov x ((m x).mpr hx)⟩⟩
  exact (Vc S.nd λx=>⟨cov x,λhx=>(m x).mpr (back x hx)⟩).2.mp lenE.symm
def U1(w:World)(K:PySem.W.Frag):List V->Hp->VK->Prop:=λxs H Q=>∃(a:Addr) (rs:List Addr) (c:Addr->List Int),xs=[.ref a]/\H a=some (mI w a (rs.map Au))/\(∀r∈rs,Ur K H r ((c r).map V.int))/\rs.length<=1100 /\
 ∀(p:Addr) (rs':List Addr),H p=none->rs'.Perm rs->rs'.Pairwise (λx y=>HT.lexLt (c y) (c x)=false)->Q (.ref p) (upd H p (.lst (rs'.map V.ref)))
theorem gM{X:Cx}(hc:X.calm=true)(hu:X.A.units+64<cLine):Kr X (.builtin "sorted") (U1 X.w X.K):=by
 intro pins s σ H xs us Q I r h
 obtain ⟨a,rs,c,rfl,ha,ht,few,q⟩:=h
 obtain ⟨u,rfl,ru⟩:=vals1 r
 cases ru
 obtain ⟨es,ep,t,S,m⟩:=uN I.hok ha
 refine kC (c:=c) (I.ok.hd hc) hu S m (λr hr=>?_) λp rs' n h1 h' tk pm pw k1 hge k2 hg=>?_
 ·obtain ⟨ti,t1,t2,_⟩:=I.tuple (ht r hr)
  exact ⟨ti,intsAre_of t1,t2⟩
 ·have I1:Inv X pins σ H { s with heap:=h1,toks:=tk }:=I.kept k1
  refine ⟨.ref p,upd H p (.lst (rs'.map V.ref)),I1.laid (t':=tk) k2 hge ⟨by rw[Ab,pm.length_eq,Kv]; omega,_,n,Ts.vals_refs rs',hg⟩,rfl,q p rs' (I1.hok.fresh hge) pm pw⟩
end Nd
namespace DL
open PySem PySem.Spec PyProof.Rows L2 Nd
def r6(xs:List DV)(δ:DS)(P:DV->DS->Prop):Prop:=match xs with
 | [.dat _ (.list ds)]=>∃ws:List (List Int),ds=ws.map Bf/\ws.length<=1100/\∀L:List (List Int),L.Nodup->(∀x,x∈L↔x∈ws)->L.Pairwise (λx y=>HT.lexLt y x=false)->P (.dat .ow (.list (L.map Bf))) δ
 | _=>False
def BV(da:DA):DE:=λδ P=>da δ λxs δ1=>r6 xs δ1 P
section
variable{X:Cx}{p p2 pos pos2:Pos}{e:Expr}{da:DA}
theorem Z6(hu:X.A.units+64<cLine)(hc:X.calm=true)(hg:Gl X "sorted")(hm:X.mg "sorted" = none)(hg2:Gl X "set")(hm2:X.mg "set" = none)(ha:mQ X [e] da)(he:By [e] X.env=[(false,eval e X.env)]:=by rfl)(he2:By [.Call (.Name "set" p2) [e] [] pos2] X.env=[(false,eval (.Call (.Name "set" p2) [e] [] pos2) X.env)]:=by rfl):Fc X (.Call (.Name "sorted" p) [.Call (.Name "set" p2) [e] [] pos2] [] pos) (BV da):=by
 refine PE.imp (cG (gM hc hu) hg hm (by decide +kernel) (Jf (Pi (tH hc hu) hg2 hm2 (by decide +kernel) ha (by decide) (by decide) he rfl) Qe he2) (by decide) (by decide) he2 rfl) λσ H Q h=>?_
 obtain ⟨H0,Y,S,T,δ,P,rfl,hS,hA,hd,k⟩:=h
 refine ⟨H0,Y,S,T,δ,_,rfl,hS,hA,hd,λxs δ' As us S' H' e1 e2 ex eu hA' p=>?_⟩
 unfold r6 at p
 split at p
 ·obtain ⟨v,F,rfl,hA2⟩:=Je eu hA' ex
  obtain ⟨ws,rfl,hl,pp⟩:=p
  obtain ⟨a,xs,G,rfl,ha,ra,rfl,hz⟩:=(hA2.told mem_mid).list_inv
  obtain ⟨rs,rfl,rfl,rfl,c1,c2⟩:=bW ra rfl
  rw[Ab] at hl
  refine ⟨a,rs,o5 H',rfl,Ud.of ha,λr hr=>Ur.of (c1 r hr),hl,λq rs2 hq sub nd2 iff2=>?_⟩
  have s1:=Ga hq (mI X.w q (rs2.map Au))
  have l2:rs2.length<=rs.length:=by
   have:=(Vc nd2 iff2).1
   rwa [Ab,Ab] at this
  refine ⟨q,rs2,o5 H',rfl,Ed,λr hr=>Ur.of (s1 _ _ (c1 r (sub r hr))),by omega,λr rs' nr pm pw=>?_⟩
  have c3:∀x∈rs',RdF X.K (upd H' q (mI X.w q (rs2.map Au))) (.ref x) (Bf (o5 H' x)) []:=λx hx=>(c2 x (sub x (pm.mem_iff.mp hx))).kp λb o e _=>s1 b o e
  have c4:RdFs X.K (upd H' q (mI X.w q (rs2.map Au))) (rs'.map V.ref) ((rs'.map (o5 H')).map Bf) []:=by
   clear pm pw nr
   induction rs' with
   | nil=>exact .nil
   | cons y l ih=>exact RdFs.cons (F:=[]) (G:=[]) (c3 y Aa) (ih λx hx=>c3 x (Ae _ hx))
  exact k _ δ' _ _ S' _ e1 e2 ((hA2.drop.grow s1 (Ai _)).newI c4 (Uo _) (by rw[Ab,Ab,pm.length_eq]; exact mR (by omega)) nr .ow) (pp _ ((pm.map _).nodup_iff.mpr nd2) (λx=>((pm.map _).mem_iff).trans (iff2 x)) (Ze.mpr pw))
 ·exact p.elim
end
def EZ(t u:DB)(D:DEnds)(b:Bool)(δ:DS):Prop:=match b with
 | true=>t D δ
 | false=>u D δ
def BA(x:DV)(δ:DS)(P:DV->DS->Prop):Prop:=match x with
 | .dat _ d=>imm d=true/\P (.dat .ow d) δ
 | _=>False
def IK(i:Nat)(s:Option DV)(δ:DS)(P:DV->DS->Prop):Prop:=match s with
 | some (.dat .pk _)=>False
 | some (.dat _ d)=>P (.dat .sh d) ⟨δ.sl.set i (.dat .sh d),δ.n⟩
 | _=>False
def tupB(xs:List DV)(δ:DS)(P:DV->DS->Prop):Prop:=match datas xs with
 | some ds=>ds.length<=1000/\P (.dat (pkMd .sh xs) (.tuple ds)) δ
 | none=>False
def lstB(xs:List DV)(δ:DS)(P:DV->DS->Prop):Prop:=match datas xs with
 | some ds=>ds.length<=1000/\P (.dat (pkMd .tp xs) (.list ds)) δ
 | none=>False
def M4(x:DV)(δ:DS)(P:Option Int->DS->Prop):Prop:=match x with
 | .dat _ (.int i)=>P (some i) δ
 | _=>False
def GC(i:Bool)(x:DV)(l h:Option Int)(δ:DS)(P:DV->DS->Prop):Prop:=match x with
 | .dat m (.list ds)=>Xv i m (Nt ds l h) λz=>P z δ
 | .dat m (.tuple ds)=>cK i m (Nt ds l h) λz=>P z δ
 | _=>False
def IP(xs:List DV)(δ:DS)(P:DV->DS->Prop):Prop:=match xs with
 | [.dat _ (.list ds)]=>∃ns:List Int,ds=ns.map Bm/\(∀x∈ns,0<=x/\x<60)/\P (.dat .ow (.list ((S6 ns).map Bm))) δ
 | [.dat _ (.tuple ds)]=>∃ns:List Int,ds=ns.map Bm/\(∀x∈ns,0<=x/\x<60)/\P (.dat .ow (.list ((S6 ns).map Bm))) δ
 | _=>False
def bB(x:DV)(δ:DS)(P:Bool->DS->Prop):Prop:=match x with
 | .dat _ (.bool b)=>P b δ
 | _=>False
def EX(du:DT)(b:Bool)(δ:DS)(P:Bool->DS->Prop):Prop:=match b with
 | true=>P true δ
 | false=>du δ P
def DX(x:DV)(δ:DS)(P:DV->DS->Prop):Prop:=match x with
 | .dat _ (.bool b)=>P (.dat .ow (.bool (!b))) δ
 | _=>False
def BW(db:DE)(x:DV)(δ:DS)(P:DV->DS->Prop):Prop:=match x with
 | .dat _ (.bool true)=>db δ P
 | .dat _ (.bool false)=>P (.dat .ow (.bool false)) δ
 | _=>False
def EF(x:DV)(δ:DS)(P:DV->DS->Prop):Prop:=match x with
 | .dat _ (.int i)=>P (.dat .ow (.int (-i))) δ
 | _=>False
def lB(x:DV)(δ:DS)(P:Md->List Ad->DS->Prop):Prop:=match x with
 | .dat m (.list ds)=>P (La m) ds δ
 | _=>False
def HF(x:DV)(δ:DS)(P:Md->List Ad->DS->Prop):Prop:=match x with
 | .dat m (.tuple ds)=>P (La m) ds δ
 | _=>False
def P2(xs:List DV)(δ:DS)(P:Md->List Ad->DS->Prop):Prop:=match xs with
 | [.dat _ (.int j)]=>-1000000<=j/\j<=1000000/\P .sh ((Bi j.toNat).map λi:Nat=>.int i) δ
 | _=>False
def O0(xs:List DV)(δ:DS)(P:Md->List Ad->DS->Prop):Prop:=match xs with
 | [.dat m (.list ds)]=>P (La m) (ds.zipIdx.map λp=>.tuple [.int p.2,p.1]) δ
 | _=>False
def BQ(dg:DG)(db:DB)(D:DEnds)(m:Md)(ds:List Ad)(δ1:DS):Prop:=m=.sh/\∃I:Nat->DS->Prop,I 0 δ1 /\
 (∀i d δ',ds[i]? = some d->I i δ'->dg (.dat .sh d) δ' λδ2=>db { D with nx:=I (i+1),ct:=I (i+1),bk:=D.nx } δ2)/\∀δ',I ds.length δ'->D.nx δ'
def n5(js:List Nat)(dc:DT)(de:DE)(P:DV->DS->Prop)(m:Md)(ds:List Ad)(δ1:DS):Prop:=∃I:Nat->List Ad->Nat->Prop,I 0 [] δ1.n /\
 (∀i d acc n,ds[i]? = some d->I i acc n->Wc dc de ⟨.dat m d::frD δ1.sl js,n⟩ (λe n'=>I (i+1) (acc++[e]) n') (λn'=>I (i+1) acc n')) /\
 ∀acc n,I ds.length acc n->P (.dat .ow (.list acc)) ⟨δ1.sl,n⟩
def qG(js:List Nat)(dc:DT)(de:DE)(P:DV->DS->Prop)(m:Md)(ds:List Ad)(δ1:DS):Prop:=∃I:Nat->List Ad->Nat->Prop,I 0 [] δ1.n /\
 (∀i d acc n,ds[i]? = some d->I i acc n->∃d1 d2,d=.tuple [d1,d2]/\Nj false dc de ⟨.dat m d1::.dat m d2::frD δ1.sl js,n⟩ (λe n'=>I (i+1) (acc++[e]) n') (λn'=>I (i+1) acc n')) /\
 ∀acc n,I ds.length acc n->P (.dat .tp (.list acc)) ⟨δ1.sl,n⟩
def g0(js1:List Nat)(j0:Nat)(js2:List Nat)(dc:DT)(de:DE)(P:DV->DS->Prop)(m:Md)(ds:List Ad)(δ1:DS):Prop:=δ1.sl[j0]? = some .drw/\∃I:Nat->List Ad->Nat->Prop,I 0 [] δ1.n /\
 (∀i d acc n,ds[i]? = some d->I i acc n->Pm (js1.length+1) dc de ⟨.dat m d::(frD (δ1.sl.set j0 .un) js1++.drw::frD (δ1.sl.set j0 .un) js2),n⟩ (λe n'=>I (i+1) (acc++[e]) n') (λn'=>I (i+1) acc n')) /\
 ∀acc n,I ds.length acc n->P (.dat .ow (.list acc)) ⟨δ1.sl,n⟩
def w5(yes:Ad->Nat->Prop)(y:DV)(δ:DS):Prop:=match y with
 | .dat _ e=>imm e=true/\yes e δ.n
 | _=>False
def rR(de:DE)(yes:Ad->Nat->Prop)(no:Nat->Prop)(b:Bool)(δ:DS):Prop:=match b with
 | true=>de δ λy δ3=>w5 yes y δ3
 | false=>no δ.n
def zS(yes:Ad->Nat->Prop)(y:DV)(δ:DS):Prop:=match y with
 | .dat m e=>m≠.pk/\yes e δ.n
 | _=>False
def wC(de:DE)(yes:Ad->Nat->Prop)(no:Nat->Prop)(b:Bool)(δ:DS):Prop:=match b with
 | true=>de δ λy δ3=>zS yes y δ3
 | false=>no δ.n
def vX(p:Nat)(yes:Ad->Nat->Prop)(y:DV)(δ:DS):Prop:=match y with
 | .dat _ e=>imm e=true/\δ.sl[p]? = some .drw/\yes e δ.n
 | _=>False
def zR(p:Nat)(de:DE)(yes:Ad->Nat->Prop)(no:Nat->Prop)(b:Bool)(δ:DS):Prop:=match b with
 | true=>de δ λy δ3=>vX p yes y δ3
 | false=>δ.sl[p]? = some .drw/\no δ.n
def callB(pf:PF)(xs:List DV)(δ:DS)(P:DV->DS->Prop):Prop:=match datas xs with
 | some ds=>pf ds λd=>P (.dat .ow d) δ
 | none=>False
def callBW(i:Nat)(df:DF)(xs:List DV)(δ:DS)(P:DV->DS->Prop):Prop:=match δ.sl[i]? with
 | some .drw=>match datas xs with
  | some ds=>df ds δ.n λd n'=>P (.dat .ow d) ⟨δ.sl,n'⟩
  | none=>False
 | _=>False
def zK(xs:List DV)(δ:DS)(P:DV->DS->Prop):Prop:=match xs with
 | [.dat _ (.int _)]=>P .drw δ
 | _=>False
def appB(i:Nat)(y:DV)(δ:DS)(D:DEnds):Prop:=match δ.sl[i]?,y with
 | some (.dat m (.list ds)),.dat _ e=>own1 m=true/\npk δ.sl=true/\imm e=true/\ds.length<1000000/\D.nx ⟨δ.sl.set i (.dat m (.list (ds++[e]))),δ.n⟩
 | _,_=>False
def CT(i:Nat)(z:DV)(δ:DS)(D:DEnds):Prop:=match z with
 | .dat _ d=>imm d=true/\D.nx ⟨δ.sl.set i (.dat .sh d),δ.n⟩
 | _=>False
def callAB(pf:PF)(xs:List DV)(δ:DS)(P:DV->DS->Prop):Prop:=match datas xs with
 | some ds=>pf ds λd=>P (.dat .sh d) δ
 | none=>False
def callWSD(df:DF)(ys:List DV)(δ:DS)(P:DV->DS->Prop):Prop:=match datas ys with
 | some ds=>df ds δ.n λd n'=>P (.dat .sh d) ⟨δ.sl,n'⟩
 | none=>False
theorem e_ssW{da:DA}{δ:DS}{P:DV->DS->Prop}:BV da δ P=(da δ λxs δ1=>r6 xs δ1 P):=rfl
theorem e_ssWB{m:Md}{ds:List Ad}{δ:DS}{P:DV->DS->Prop}:r6 [.dat m (.list ds)] δ P=(∃ws:List (List Int),ds=ws.map Bf/\ws.length<=1100/\∀L:List (List Int),L.Nodup->(∀x,x∈L↔x∈ws)->L.Pairwise (λx y=>HT.lexLt y x=false)->P (.dat .ow (.list (L.map Bf))) δ):=rfl
theorem e_lenSet{da:DA}{δ:DS}{P:DV->DS->Prop}:pU da δ P=(da δ λxs δ1=>EY xs δ1 P):=rfl
theorem e_lsB{m:Md}{ds:List Ad}{δ:DS}{P:DV->DS->Prop}:EY [.dat m (.list ds)] δ P=(∃ws:List (List Int),ds=ws.map Bf/\ws.length<=1100/\∀n:Nat,n<=ws.length->(ws.Nodup->n=ws.length)->(n=ws.length->ws.Nodup)->P (.dat .ow (.int n)) δ):=rfl
theorem AE{i:Nat}{dk de:DE}{D:DEnds}{δ:DS}:n9 i dk de D δ=(match δ.sl[i]? with | some (.dat _ (.list _))=>dk δ λz δ1=>de δ1 λy δ2=>L5 i z y δ2 D | _=>False):=rfl
theorem e_seq{t u:DB}{D:DEnds}{δ:DS}:CS t u D δ=(t { D with nx:=λδ'=>u D δ' } δ):=rfl
theorem e_skip{D:DEnds}{δ:DS}:M5 D δ=(D.nx δ):=rfl
theorem e_ret{de:DE}{D:DEnds}{δ:DS}:CO de D δ=(de δ D.rt):=rfl
theorem e_if{dt:DT}{t u:DB}{D:DEnds}{δ:DS}:HJ dt t u D δ=(dt δ (EZ t u D)):=rfl
theorem e_asg{de:DE}{dg:DG}{D:DEnds}{δ:DS}:oS de dg D δ=(de δ λx δ'=>dg x δ' D.nx):=rfl
theorem e_name{i:Nat}{m:Md}{d:Ad}{δ:DS}{Q:DS->Prop}:Qf i (.dat .ow d) δ Q=(Q ⟨δ.sl.set i (.dat .sh d),δ.n⟩):=rfl
theorem e_name2{i:Nat}{m:Md}{d:Ad}{δ:DS}{Q:DS->Prop}:Qf i (.dat .sh d) δ Q=(Q ⟨δ.sl.set i (.dat .sh d),δ.n⟩):=rfl
theorem e_name3{i:Nat}{m:Md}{d:Ad}{δ:DS}{Q:DS->Prop}:Qf i (.dat .tp d) δ Q=(Q ⟨δ.sl.set i (.dat .sh d),δ.n⟩):=rfl
theorem e_own{i:Nat}{d:Ad}{δ:DS}{Q:DS->Prop}:jU i (.dat .ow d) δ Q=(Q ⟨δ.sl.set i (.dat .ow d),δ.n⟩):=rfl
theorem e_nF{i:Nat}{x:DV}{δ:DS}{Q:DS->Prop}:FK false i x δ Q=(Qf i x δ Q):=rfl
theorem e_gtup{n:Nat}{gs:zC}{m:Md}{ds:List Ad}{δ:DS}{Q:DS->Prop}:qU n gs (.dat m (.tuple ds)) δ Q=(ds.length=n/\gs (ds.map λd=>.dat (Nu m) d) δ Q):=rfl
theorem e_gtup_w1{nds:List Int}{n:Nat}{gs:zC}{m:Md}{ds:List Ad}{δ:DS}{Q:DS->Prop}:qU n gs (.dat m (Bf nds)) δ Q=((nds.map Bm).length=n/\gs ((nds.map Bm).map λd=>.dat (Nu m) d) δ Q):=rfl
theorem e_gsn{δ:DS}{Q:DS->Prop}:wF [] δ Q=(Q δ):=rfl
theorem e_gsc{g:DG}{gs:zC}{x:DV}{r:List DV}{δ:DS}{Q:DS->Prop}:rB g gs (x::r) δ Q=(g x δ λδ'=>gs r δ' Q):=rfl
theorem e_op{rd:D2}{da db:DE}{δ:DS}{P:DV->DS->Prop}:Uw rd da db δ P=(da δ λx δ1=>db δ1 λy δ2=>rd x y λz=>P z δ2):=rfl
theorem e_var{i:Nat}{δ:DS}{P:DV->DS->Prop}:U3 i δ P=(match δ.sl[i]? with | some (.dat m d)=>P (.dat (jW m) d) δ | _=>False):=rfl
theorem e_c{d:Ad}{δ:DS}{P:DV->DS->Prop}:dC d δ P=(P (.dat .ow d) δ):=rfl
theorem e_imm{de:DE}{δ:DS}{P:DV->DS->Prop}:DN de δ P=(de δ λx δ'=>BA x δ' P):=rfl
theorem e_immB{m:Md}{d:Ad}{δ:DS}{P:DV->DS->Prop}:BA (.dat m d) δ P=(imm d=true/\P (.dat .ow d) δ):=rfl
theorem e_take{i:Nat}{δ:DS}{P:DV->DS->Prop}:zX i δ P=(match δ.sl[i]? with | some (.dat m d)=>P (.dat m d) ⟨δ.sl.set i .un,δ.n⟩ | _=>False):=rfl
theorem e_I{C:Int->Int->Prop}{g:Int->Int->Ad}{i j:Int}{m m':Md}{P:DV->Prop}:AF C g (.dat m (.int i)) (.dat m' (.int j)) P=(C i j/\P (.dat .ow (g i j))):=rfl
theorem e_I0{g:Int->Int->Ad}{i j:Int}{m m':Md}{P:DV->Prop}:bV g (.dat m (.int i)) (.dat m' (.int j)) P=(P (.dat .ow (g i j))):=rfl
theorem e_eqF{d e:Ad}{m m':Md}{P:DV->Prop}:iV false (.dat m d) (.dat m' e) P=(d.depth<=60/\e.depth<=60/\P (.dat .ow (.bool (Ee d e)))):=rfl
theorem e_eqT{d e:Ad}{m m':Md}{P:DV->Prop}:iV true (.dat m d) (.dat m' e) P=(d.depth<=60/\e.depth<=60/\P (.dat .ow (.bool (!Ee d e)))):=rfl
theorem e_inFt_w1{nes:List Int}{d:Ad}{es:List Ad}{m m':Md}{P:DV->Prop}:zM false (.dat m d) (.dat m' (Bf nes)) P=(Bn (nes.map Bm)<=60/\d.depth<=60/\P (.dat .ow (.bool ((nes.map Bm).any λe=>Ee e d)))):=rfl
theorem e_isNF{d:Ad}{m m':Md}{P:DV->Prop}:Yd false (.dat m d) (.dat m' .none) P=(P (.dat .ow (.bool (isNone d)))):=rfl
theorem e_isNT{d:Ad}{m m':Md}{P:DV->Prop}:Yd true (.dat m d) (.dat m' .none) P=(P (.dat .ow (.bool (!isNone d)))):=rfl
theorem e_ixl{ds:List Ad}{i:Int}{m m':Md}{P:DV->Prop}:sJ (.dat m (.list ds)) (.dat m' (.int i)) P=(∃d,Ue ds i=some d/\P (.dat (Nu m) d)):=rfl
theorem e_ixt{ds:List Ad}{i:Int}{m m':Md}{P:DV->Prop}:sJ (.dat m (.tuple ds)) (.dat m' (.int i)) P=(∃d,Ue ds i=some d/\P (.dat (Nu m) d)):=rfl
theorem e_ixt_w1{nds:List Int}{ds:List Ad}{i:Int}{m m':Md}{P:DV->Prop}:sJ (.dat m (Bf nds)) (.dat m' (.int i)) P=(∃d,Ue (nds.map Bm) i=some d/\P (.dat (Nu m) d)):=rfl
theorem e_cat{ds es:List Ad}{m m':Md}{P:DV->Prop}:rH (.dat m (.list ds)) (.dat m' (.list es)) P=(Eg ds=true/\Eg es=true/\ds.length+es.length<=1000000/\P (.dat .ow (.list (ds++es)))):=rfl
theorem e_catT_w1{nds:List Int}{ds es:List Ad}{m m':Md}{P:DV->Prop}:hZ (.dat m (Bf nds)) (.dat m' (.tuple es)) P=(Eg (nds.map Bm)=true/\Eg es=true/\(nds.map Bm).length+es.length<=1000000/\P (.dat .ow (.tuple ((nds.map Bm)++es)))):=rfl
theorem e_nlT{m:Md}{ds:List Ad}{P:DV->Prop}:Xv true m ds P=(Eg ds=true/\P (.dat .ow (.list ds))):=rfl
theorem e_ntT{m:Md}{ds:List Ad}{P:DV->Prop}:cK true m ds P=(Eg ds=true/\P (.dat .ow (.tuple ds))):=rfl
theorem e_ntF{m:Md}{ds:List Ad}{P:DV->Prop}:cK false m ds P=(P (.dat (Nu m) (.tuple ds))):=rfl
theorem e_pkOfsh  : jW .sh=(Md.sh):=rfl
theorem e_pkOfow  : jW .ow=(Md.pk):=rfl
theorem e_mdInsh  : Nu .sh=(Md.sh):=rfl
theorem e_mdItpk  : La .pk=(Md.pk):=rfl
theorem e_mdItsh  : La .sh=(Md.sh):=rfl
theorem e_mdItow  : La .ow=(Md.sh):=rfl
theorem e_nil{δ:DS}{P:List DV->DS->Prop}:Q1 δ P=(P [] δ):=rfl
theorem e_cons{de:DE}{da:DA}{δ:DS}{P:List DV->DS->Prop}:N5 de da δ P=(de δ λx δ1=>da δ1 λxs δ2=>P (x::xs) δ2):=rfl
theorem e_tup{da:DA}{δ:DS}{P:DV->DS->Prop}:EL da δ P=(da δ λxs δ'=>tupB xs δ' P):=rfl
theorem e_lst{da:DA}{δ:DS}{P:DV->DS->Prop}:AM da δ P=(da δ λxs δ'=>lstB xs δ' P):=rfl
theorem e_noPart{δ:DS}{P:Option Int->DS->Prop}:qQ δ P=(P none δ):=rfl
theorem e_part{de:DE}{δ:DS}{P:Option Int->DS->Prop}:O9 de δ P=(de δ λx δ'=>M4 x δ' P):=rfl
theorem e_partB{m:Md}{i:Int}{δ:DS}{P:Option Int->DS->Prop}:M4 (.dat m (.int i)) δ P=(P (some i) δ):=rfl
theorem e_sl{i:Bool}{de:DE}{dl dh:DO}{δ:DS}{P:DV->DS->Prop}:HE i de dl dh δ P=(de δ λx δ1=>dl δ1 λl δ2=>dh δ2 λh δ3=>GC i x l h δ3 P):=rfl
theorem e_slBl{i:Bool}{m:Md}{ds:List Ad}{l h:Option Int}{δ:DS}{P:DV->DS->Prop}:GC i (.dat m (.list ds)) l h δ P=(Xv i m (Nt ds l h) λz=>P z δ):=rfl
theorem e_slBt{i:Bool}{m:Md}{ds:List Ad}{l h:Option Int}{δ:DS}{P:DV->DS->Prop}:GC i (.dat m (.tuple ds)) l h δ P=(cK i m (Nt ds l h) λz=>P z δ):=rfl
theorem e_cb{rd:DC}{da:DA}{δ:DS}{P:DV->DS->Prop}:FH rd da δ P=(da δ λxs δ1=>rd xs λz=>P z δ1):=rfl
theorem e_lenl{ds:List Ad}{m m':Md}{P:DV->Prop}:jD [.dat m (.list ds)] P=(P (.dat .ow (.int ds.length))):=rfl
theorem e_lent{ds:List Ad}{m m':Md}{P:DV->Prop}:jD [.dat m (.tuple ds)] P=(P (.dat .ow (.int ds.length))):=rfl
theorem e_lent_w1{nds:List Int}{ds:List Ad}{m m':Md}{P:DV->Prop}:jD [.dat m (Bf nds)] P=(P (.dat .ow (.int (nds.map Bm).length))):=rfl
theorem e_listt_w1{nds:List Int}{i:Bool}{ds:List Ad}{m m':Md}{P:DV->Prop}:oG i [.dat m (Bf nds)] P=(Xv i m (nds.map Bm) P):=rfl
theorem e_tuplel{i:Bool}{ds:List Ad}{m m':Md}{P:DV->Prop}:gV i [.dat m (.list ds)] P=(cK i m ds P):=rfl
theorem e_min2{i j:Int}{m m':Md}{P:DV->Prop}:oW [.dat m (.int i),.dat m' (.int j)] P=(P (.dat .ow (.int (if j<i then j else i)))):=rfl
theorem e_all{ds:List Ad}{m m':Md}{P:DV->Prop}:yU [.dat m (.list ds)] P=(∃bs:List Bool,ds=bs.map PyData.bool/\P (.dat .ow (.bool (bs.all id)))):=rfl
theorem e_isi{d:Ad}{n:String}{m m':Md}{P:DV->Prop}:i5 [.dat m d,.val (.ty n)] P=((n = "int" \/ n = "bool" \/ n = "str" \/ n = "list" \/ n = "tuple")/\P (.dat .ow (.bool (Us d n)))):=rfl
theorem e_str{d:Ad}{m m':Md}{P:DV->Prop}:vO [.dat m d] P=((∃b,b<=400/\Kk b d/\(b+12) * Hf d<=Bb)/\d.depth<=90/\P (.dat .ow (.str (bG d)))):=rfl
theorem e_v{v:V}{δ:DS}{P:DV->DS->Prop}:dV v δ P=(P (.val v) δ):=rfl
theorem e_b{de:DE}{δ:DS}{P:Bool->DS->Prop}:dB de δ P=(de δ λx δ'=>bB x δ' P):=rfl
theorem e_bB{m:Md}{b:Bool}{δ:DS}{P:Bool->DS->Prop}:bB (.dat m (.bool b)) δ P=(P b δ):=rfl
theorem e_notT{dt:DT}{δ:DS}{P:Bool->DS->Prop}:O6 dt δ P=(dt δ λb δ'=>P (!b) δ'):=rfl
theorem e_orT{dt du:DT}{δ:DS}{P:Bool->DS->Prop}:BY dt du δ P=(dt δ λb δ'=>EX du b δ' P):=rfl
theorem e_orTt{du:DT}{δ:DS}{P:Bool->DS->Prop}:EX du true δ P=(P true δ):=rfl
theorem e_orTf{du:DT}{δ:DS}{P:Bool->DS->Prop}:EX du false δ P=(du δ P):=rfl
theorem e_not{de:DE}{δ:DS}{P:DV->DS->Prop}:AS de δ P=(de δ λx δ'=>DX x δ' P):=rfl
theorem e_notB{m:Md}{b:Bool}{δ:DS}{P:DV->DS->Prop}:DX (.dat m (.bool b)) δ P=(P (.dat .ow (.bool (!b))) δ):=rfl
theorem e_and{da db:DE}{δ:DS}{P:DV->DS->Prop}:BM da db δ P=(da δ λx δ'=>BW db x δ' P):=rfl
theorem e_andt{db:DE}{m:Md}{δ:DS}{P:DV->DS->Prop}:BW db (.dat m (.bool true)) δ P=(db δ P):=rfl
theorem e_neg{de:DE}{δ:DS}{P:DV->DS->Prop}:CH de δ P=(de δ λx δ'=>EF x δ' P):=rfl
theorem e_negB{m:Md}{i:Int}{δ:DS}{P:DV->DS->Prop}:EF (.dat m (.int i)) δ P=(P (.dat .ow (.int (-i))) δ):=rfl
theorem e_dL{de:DE}{δ:DS}{P:Md->List Ad->DS->Prop}:dL de δ P=(de δ λx δ'=>lB x δ' P):=rfl
theorem e_dTp{de:DE}{δ:DS}{P:Md->List Ad->DS->Prop}:HH de δ P=(de δ λx δ'=>HF x δ' P):=rfl
theorem e_lB{m:Md}{ds:List Ad}{δ:DS}{P:Md->List Ad->DS->Prop}:lB (.dat m (.list ds)) δ P=(P (La m) ds δ):=rfl
theorem e_tpB_w1{nds:List Int}{m:Md}{ds:List Ad}{δ:DS}{P:Md->List Ad->DS->Prop}:HF (.dat m (Bf nds)) δ P=(P (La m) (nds.map Bm) δ):=rfl
theorem e_range1{da:DA}{δ:DS}{P:Md->List Ad->DS->Prop}:jC da δ P=(da δ λxs δ'=>P2 xs δ' P):=rfl
theorem e_rng1B{m:Md}{j:Int}{δ:DS}{P:Md->List Ad->DS->Prop}:P2 [.dat m (.int j)] δ P=(-1000000<=j/\j<=1000000/\P .sh ((Bi j.toNat).map λi:Nat=>.int i) δ):=rfl
theorem e_enum{da:DA}{δ:DS}{P:Md->List Ad->DS->Prop}:vP da δ P=(da δ λxs δ'=>O0 xs δ' P):=rfl
theorem e_enumB{m:Md}{ds:List Ad}{δ:DS}{P:Md->List Ad->DS->Prop}:O0 [.dat m (.list ds)] δ P=(P (La m) (ds.zipIdx.map λp=>.tuple [.int p.2,p.1]) δ):=rfl
theorem e_for{di:DI}{dg:DG}{db:DB}{D:DEnds}{δ:DS}:CB di dg db D δ=(di δ (BQ dg db D)):=rfl
theorem e_comp{di:DI}{js:List Nat}{dc:DT}{de:DE}{δ:DS}{P:DV->DS->Prop}:zI di js dc de δ P=(di δ (n5 js dc de P)):=rfl
theorem e_comp2L{di:DI}{js:List Nat}{dc:DT}{de:DE}{δ:DS}{P:DV->DS->Prop}:qP di js dc de δ P=(di δ (qG js dc de P)):=rfl
theorem e_stepL{dc:DT}{de:DE}{δ:DS}{yes:Ad->Nat->Prop}{no:Nat->Prop}:Nj false dc de δ yes no=(dc δ λb δ2=>wC de yes no b δ2):=rfl
theorem e_stepLT{de:DE}{δ:DS}{yes:Ad->Nat->Prop}{no:Nat->Prop}:wC de yes no true δ=(de δ λy δ3=>zS yes y δ3):=rfl
theorem e_compD{di:DI}{js1 js2:List Nat}{j0:Nat}{dc:DT}{de:DE}{δ:DS}{P:DV->DS->Prop}:oF di js1 j0 js2 dc de δ P=(di δ (g0 js1 j0 js2 dc de P)):=rfl
theorem e_noTest{δ:DS}{P:Bool->DS->Prop}:gE δ P=(P true δ):=rfl
theorem e_step{dc:DT}{de:DE}{δ:DS}{yes:Ad->Nat->Prop}{no:Nat->Prop}:Wc dc de δ yes no=(dc δ λb δ2=>rR de yes no b δ2):=rfl
theorem e_stepT{de:DE}{δ:DS}{yes:Ad->Nat->Prop}{no:Nat->Prop}:rR de yes no true δ=(de δ λy δ3=>w5 yes y δ3):=rfl
theorem e_stepF{de:DE}{δ:DS}{yes:Ad->Nat->Prop}{no:Nat->Prop}:rR de yes no false δ=(no δ.n):=rfl
theorem e_yesB{m:Md}{e:Ad}{δ:DS}{yes:Ad->Nat->Prop}:w5 yes (.dat m e) δ=(imm e=true/\yes e δ.n):=rfl
theorem e_stepD{p:Nat}{dc:DT}{de:DE}{δ:DS}{yes:Ad->Nat->Prop}{no:Nat->Prop}:Pm p dc de δ yes no=(dc δ λb δ2=>zR p de yes no b δ2):=rfl
theorem e_stepDT{p:Nat}{de:DE}{δ:DS}{yes:Ad->Nat->Prop}{no:Nat->Prop}:zR p de yes no true δ=(de δ λy δ3=>vX p yes y δ3):=rfl
theorem e_yesBD{p:Nat}{m:Md}{e:Ad}{δ:DS}{yes:Ad->Nat->Prop}:vX p yes (.dat m e) δ=(imm e=true/\δ.sl[p]? = some .drw/\yes e δ.n):=rfl
theorem e_call{pf:PF}{da:DA}{δ:DS}{P:DV->DS->Prop}:yX pf da δ P=(da δ λxs δ1=>callB pf xs δ1 P):=rfl
theorem e_callW{i:Nat}{df:DF}{da:DA}{δ:DS}{P:DV->DS->Prop}:oQ i df da δ P=(match δ.sl[i]? with | some .drw=>da δ λxs δ1=>callBW i df xs δ1 P | _=>False):=rfl
theorem e_draws{da:DA}{δ:DS}{P:DV->DS->Prop}:yW da δ P=(da δ λxs δ1=>zK xs δ1 P):=rfl
theorem e_drawsB{m:Md}{i:Int}{δ:DS}{P:DV->DS->Prop}:zK [.dat m (.int i)] δ P=(P .drw δ):=rfl
theorem e_append{i:Nat}{de:DE}{D:DEnds}{δ:DS}:fY i de D δ=(match δ.sl[i]? with | some (.dat _ (.list _))=>de δ λy δ1=>appB i y δ1 D | _=>False):=rfl
theorem e_aug{i:Nat}{rd:D2}{de:DE}{D:DEnds}{δ:DS}:J5 i rd de D δ=(match δ.sl[i]? with | some (.dat _ (.int a))=>de δ λy δ1=>rd (.dat .ow (.int a)) y λz=>CT i z δ1 D | _=>False):=rfl
theorem e_augB{i:Nat}{m:Md}{d:Ad}{D:DEnds}{δ:DS}:CT i (.dat m d) δ D=(imm d=true/\D.nx ⟨δ.sl.set i (.dat .sh d),δ.n⟩):=rfl
theorem e_scrSl{i:Nat}{dl dh:DO}{δ:DS}{P:DV->DS->Prop}:oX i dl dh δ P=(match δ.sl[i]? with | some (.scr ns)=>dl δ λl δ2=>dh δ2 λh δ3=>P (.dat .ow (.list ((Nt ns l h).map Bm))) δ3 | _=>False):=rfl
theorem e_dnew{δ:DS}{P:DV->DS->Prop}:N0 δ P=(P (.dat .ow (.dict (Ye []))) δ):=rfl
theorem e_dput{i:Nat}{dk de:DE}{D:DEnds}{δ:DS}:M9 i dk de D δ=(de δ λy δ1=>isDct δ1.sl[i]? = true/\dk δ1 λz δ2=>dputB i y z δ2 D):=rfl
theorem e_tagD{ks:List (List Int×Ad)}:J2 (Ye ks)=(true):=rfl
theorem e_callA{pf:PF}{da:DA}{δ:DS}{P:DV->DS->Prop}:xO pf da δ P=(da δ λxs δ1=>noPk xs=true/\callAB pf xs δ1 P):=rfl
theorem e_tr{de:DE}{δ:DS}{P:DV->DS->Prop}:HN de δ P=(de δ λx δ1=>FB x δ1 P):=rfl
theorem e_trB{m:Md}{j:Int}{δ:DS}{P:DV->DS->Prop}:FB (.dat m (.int j)) δ P=(0<=j/\j<=1000/\P (.dat .ow (Bf (Yo j.toNat))) δ):=rfl
theorem e_callWS{df:DF}{da:DA}{δ:DS}{P:DV->DS->Prop}:pZ df da δ P=(da δ λxs δ1=>gT df xs δ1 P):=rfl
theorem e_callWSB{df:DF}{ys:List DV}{δ:DS}{P:DV->DS->Prop}:gT df (.drw::ys) δ P=(noPk ys=true/\callWSD df ys δ P):=rfl
section
variable{t u:DB}{D:DEnds}{δ δ1:DS}
theorem Yw{α:Type}{dg:DG}{db:DB}{ds:List Ad}{l:List α}{g:α->Ad}(e:ds=l.map g)(I:Nat->DS->Prop)(h0:I 0 δ1)(hs:∀i a δ',l[i]? = some a->I i δ'->dg (.dat .sh (g a)) δ' λδ2=>db { D with nx:=I (i+1),ct:=I (i+1),bk:=D.nx } δ2)(hf:∀δ',I l.length δ'->D.nx δ'):BQ dg db D .sh ds δ1:=by
 subst e
 refine ⟨rfl,I,h0,λi d δ' hd hI=>?_,λδ' h=>hf δ' (by rw[Ab] at h; exact h)⟩
 rw[Bw] at hd
 cases q:l[i]? with
 | none=>rw[q] at hd; cases hd
 | some a=>rw[q] at hd; cases hd; exact hs i a δ' q hI
end
section
variable{js:List Nat}{dc:DT}{de:DE}{P:DV->DS->Prop}{m:Md}{ds:List Ad}{δ1:DS}{α:Type}
theorem Vo{l:List α}{g:α->Ad}(e:ds=l.map g)(p:α->Bool)(f:α->Ad)(h:∀a∈l,∀(yes:Ad->Nat->Prop) (no:Nat->Prop),(p a=true->yes (f a) δ1.n)->(p a=false->no δ1.n)->Wc dc de ⟨.dat m (g a)::frD δ1.sl js,δ1.n⟩ yes no)(q:P (.dat .ow (.list ((l.filter p).map f))) δ1):n5 js dc de P m ds δ1:=by
 subst e
 refine ⟨λi acc n=>n=δ1.n/\acc=((l.take i).filter p).map f,⟨rfl,by simp⟩,λi d acc n hd ⟨hn,ha⟩=>?_,λacc n ⟨hn,ha⟩=>?_⟩
 ·subst hn ha
  rw[Bw] at hd
  cases q:l[i]? with
  | none=>rw[q] at hd; cases hd
  | some a =>
   rw[q] at hd
   cases hd
   refine h a (Ax q) _ _ (λhp=>⟨rfl,?_⟩) (λhp=>⟨rfl,?_⟩)
   ·rw[dW q,List.filter_append,Bo]; simp [hp]
   ·rw[dW q,List.filter_append,Bo]; simp [hp]
 ·subst hn ha
  rw[Ab,Kl]
  exact q
theorem xB{l:List α}{g:α->Ad}(e:ds=l.map g)(f:α->Ad)(h:∀a∈l,∀(yes:Ad->Nat->Prop) (no:Nat->Prop),yes (f a) δ1.n->Wc dc de ⟨.dat m (g a)::frD δ1.sl js,δ1.n⟩ yes no)(q:P (.dat .ow (.list (l.map f))) δ1):n5 js dc de P m ds δ1:=by
 refine Vo e (λ_=>true) f (λa ha yes no hy _=>h a ha yes no (hy rfl)) ?_
 rw[List.filter_eq_self.mpr λ_ _=>rfl]
 exact q
theorem E6{js1 js2:List Nat}{j0:Nat}{l:List α}{g:α->Ad}(e:ds=l.map g)(hj:δ1.sl[j0]? = some .drw)(I:Nat->List Ad->Nat->Prop)(h0:I 0 [] δ1.n)(h:∀i a acc n,l[i]? = some a->I i acc n->Pm (js1.length+1) dc de ⟨.dat m (g a)::(frD (δ1.sl.set j0 .un) js1++.drw::frD (δ1.sl.set j0 .un) js2),n⟩ (λe n'=>I (i+1) (acc++[e]) n') (λn'=>I (i+1) acc n'))(q:∀acc n,I l.length acc n->P (.dat .ow (.list acc)) ⟨δ1.sl,n⟩):g0 js1 j0 js2 dc de P m ds δ1:=by
 subst e
 refine ⟨hj,I,h0,λi d acc n hd hI=>?_,λacc n hI=>q acc n (by rw[Ab] at hI; exact hI)⟩
 rw[Bw] at hd
 cases q:l[i]? with
 | none=>rw[q] at hd; cases hd
 | some a=>rw[q] at hd; cases hd; exact h i a acc n q hI
end
theorem Tt{t u:DB}{D:DEnds}{b:Bool}{δ:DS}(h1:b=true->t D δ)(h2:b=false->u D δ):EZ t u D b δ:=by
 cases b with
 | true=>exact h1 rfl
 | false=>exact h2 rfl
theorem yH{du:DT}{b:Bool}{δ:DS}{P:Bool->DS->Prop}(h1:b=true->P true δ)(h2:b=false->du δ P):EX du b δ P:=by
 cases b with
 | true=>exact h1 rfl
 | false=>exact h2 rfl
theorem Su{de:DE}{yes:Ad->Nat->Prop}{no:Nat->Prop}{b:Bool}{δ:DS}(h1:b=true->de δ λy δ3=>w5 yes y δ3)(h2:b=false->no δ.n):rR de yes no b δ:=by
 cases b with
 | true=>exact h1 rfl
 | false=>exact h2 rfl
class Im (d:Ad):Prop where
 h:imm d=true
class ImA (ds:List Ad):Prop where
 h:Eg ds=true
theorem IB{ds:List Ad}[h:ImA ds]:Eg ds=true:=h.h
instance {i:Int}:Im (.int i):=⟨by simp [imm]⟩
instance {i:Bool}:Im (.bool i):=⟨by simp [imm]⟩
instance {i:Str}:Im (.str i):=⟨by simp [imm]⟩
instance:Im .none:=⟨by simp [imm]⟩
instance {ds:List Ad} [h:ImA ds]:Im (.tuple ds):=⟨by rw[imm]; exact h.h⟩
instance {ns:List Int}:Im (Bf ns):=⟨yK ns⟩
instance:ImA []:=⟨by simp [Eg]⟩
instance {d:Ad} {ds:List Ad} [h:Im d] [t:ImA ds]:ImA (d::ds):=⟨by rw[Eg,h.h,t.h]; rfl⟩
instance {α:Type} {f:α->Ad} {l:List α} [h:∀a,Im (f a)]:ImA (l.map f):=⟨Um (λa=>(h a).h) l⟩
instance {a b:List Ad} [h:ImA a] [k:ImA b]:ImA (a++b):=⟨by rw[aY,h.h,k.h]; rfl⟩
class Dp (d:Ad) (k:outParam Nat):Prop where
 h:d.depth<=k
class DpA (ds:List Ad) (k:outParam Nat):Prop where
 h:Bn ds<=k
theorem dp{d:Ad}{k:Nat}[h:Dp d k](hk:k<=60:=by decide):d.depth<=60:=Ci h.h hk
instance {i:Int}:Dp (.int i) 0:=⟨by simp [Dh]⟩
instance {i:Bool}:Dp (.bool i) 0:=⟨by simp [Dh]⟩
instance {i:Str}:Dp (.str i) 0:=⟨by simp [Dh]⟩
instance:Dp .none 0:=⟨by simp [Dh]⟩
instance {ds:List Ad} {k:Nat} [h:DpA ds k]:Dp (.tuple ds) (k+1):=⟨by have:=h.h; simp only[Dh]; omega⟩
instance {ds:List Ad} {k:Nat} [h:DpA ds k]:Dp (.list ds) (k+1):=⟨by have:=h.h; simp only[Dh]; omega⟩
instance {ns:List Int}:Dp (Bf ns) 1:=⟨oZ ns⟩
instance:DpA [] 0:=⟨by simp [Bn]⟩
instance {d:Ad} {ds:List Ad} {k j:Nat} [h:Dp d k] [t:DpA ds j]:DpA (d::ds) (k+j):=⟨by have:=h.h; have:=t.h; simp only[Bn]; omega⟩
instance {α:Type} {f:α->Ad} {l:List α} {k:Nat} [h:∀a,Dp (f a) k]:DpA (l.map f) k:=⟨Xq λx hx=>by
 obtain ⟨a,_,rfl⟩:=Br.mp hx
 exact (h a).h⟩
theorem iW{a b:List Ad}:Bn (a++b)<=Bn a+Bn b:=by
 induction a with
 | nil=>simp [Bn]
 | cons x a ih=>simp only[Hd,Bn]; omega
instance {a b:List Ad} {k j:Nat} [h:DpA a k] [t:DpA b j]:DpA (a++b) (k+j):=⟨by have:=h.h; have:=t.h; have:=iW (a:=a) (b:=b); omega⟩
theorem eqD_bl(i j:Bool):Ee (.bool i) (.bool j)=(i == j):=by simp [Ee]
theorem eqD_str(i j:Str):Ee (.str i) (.str j)=(i == j):=by simp [Ee]
theorem yL(a b:List Ad):Ee (.list a) (.list b)=Oa a b:=by simp [Ee]
theorem C6(a b:List Ad):Ee (.tuple a) (.tuple b)=Oa a b:=by simp [Ee]
theorem bY{α:Type}[DecidableEq α]{f:α->Ad}(h:∀a b,Ee (f a) (f b)=decide (a=b)):∀l m:List α,Oa (l.map f) (m.map f)=decide (l=m)
 | [],[]=>by simp [Oa]
 | [],_::_=>by simp [Oa]
 | _::_,[]=>by simp [Oa]
 | a::l,b::m=>by simp [Oa,h,bY h l m]
theorem eqD_intd(i j:Int):Ee (.int i) (.int j)=decide (i=j):=by simp [Ee]; rfl
theorem eqD_word(a b:List Int):Ee (Bf a) (Bf b)=decide (a=b):=by
 unfold Bf
 rw[C6,bY eqD_intd]
def U5(ws:List (List Int)):Ad:=.list (ws.map Bf)
instance {ws:List (List Int)}:Dp (U5 ws) 2:=⟨(inferInstance:Dp (.list (ws.map Bf)) 2).h⟩
def rA(ns:List Int):Ad:=.list (ns.map Bm)
instance {ns:List Int}:Dp (rA ns) 1:=⟨(inferInstance:Dp (.list (ns.map Bm)) 1).h⟩
theorem wN(a b:List Int):Ee (rA a) (rA b)=decide (a=b):=by
 unfold rA
 rw[yL,bY eqD_intd]
theorem any_int(ns:List Int)(i:Int):((ns.map Bm).any λe=>Ee e (.int i))=decide (i∈ns):=by
 rw[List.any_map]
 induction ns with
 | nil=>rfl
 | cons n ns ih =>
  rw[Mx,ih]
  simp only[Function.comp,eqD_intd,Ao]
  by_cases h:n=i
  ·subst h; simp
  ·have : ¬ i=n:=λz=>h z.symm
   simp [h,this]
theorem B5{α β:Type}(f:α->β)(l:List α):(l.map f).zipIdx=l.zipIdx.map λp=>(f p.1,p.2):=by
 rw[List.zipIdx_map]
 rfl
theorem K5{α β:Type}(f:α->β)(l:List α)(i:Int):Ue (l.map f) i=(Ue l i).map f:=by
 unfold Ue
 rw[Ab]
 cases uH l.length i with
 | none=>rfl
 | some j=>simp
theorem zU{α:Type}{l:List α}{i:Int}(h0:0<=i)(h1:i<l.length):∃a,l[i.toNat]? = some a/\Ue l i=some a/\a∈l:=by
 have hk:i.toNat<l.length:=by omega
 refine ⟨l[i.toNat],by simp [hk],?_,Ip hk⟩
 have q:Ue l ((i.toNat:Nat):Int)=some l[i.toNat]:=fZ (by simp [hk])
 rwa [show ((i.toNat:Nat):Int)=i by omega] at q
theorem im_e{d:Ad}[h:Im d]:(imm d=true)=True:=eq_true h.h
theorem ima_e{ds:List Ad}[h:ImA ds]:(Eg ds=true)=True:=eq_true h.h
theorem dp_e{d:Ad}{k:Nat}[h:Dp d k](hk:k<=60):(d.depth<=60)=True:=eq_true (Ci h.h hk)
theorem dpa_e{ds:List Ad}{k:Nat}[h:DpA ds k](hk:k<=60):(Bn ds<=60)=True:=eq_true (Ci h.h hk)
theorem eqD_li(a b:List Int):Ee (.list (a.map Bm)) (.list (b.map Bm))=decide (a=b):=wN a b
theorem eqD_l0(a:List Ad):Ee (.list a) (.list [])=a.isEmpty:=q9 a
theorem ow_e{d:Ad}{R:Ad->Prop}:(∃e,DV.dat .ow d=.dat .ow e/\R e)=R d:=by
 apply propext
 constructor
 ·(intro q_; obtain ⟨e,h,r⟩ := q_); cases h; exact r
 ·intro r; exact ⟨d,rfl,r⟩
theorem tt_e{m:Md}{b:Bool}:(∃m',DV.dat m (.bool b)=.dat m' (.bool true))=(b=true):=by
 apply propext
 constructor
 ·rintro ⟨e,h⟩; cases h; rfl
 ·intro r; subst r; exact ⟨m,rfl⟩
theorem cdiv_e{i j:Int}:R0 i j=(0<j/\j<1073741824):=rfl
theorem i9{sl sl':List DV}{n n':Nat}(h:sl=sl')(h':n=n'):(⟨sl,n⟩ : DS)=⟨sl',n'⟩:=by subst h h'; rfl
theorem cM{j i a:Nat}(h:(Bi j)[i]? = some a):a=i/\i<j:=by
 obtain ⟨h1,h2⟩:=An.mp h
 rw[Dm] at h1
 rw[List.getElem_range] at h2
 exact ⟨h2.symm,h1⟩
def NP(v:DV):Prop:=∀l,npk (v::l)=npk l
theorem Kq:NP .un:=λ_=>rfl
theorem Ir{d:Ad}:NP (.dat .sh d):=λ_=>rfl
theorem xE{d:Ad}:NP (.dat .ow d):=λ_=>rfl
theorem fold_w(w:List Int):Od (List.map Bm w)=Bf w:=rfl
theorem isi_li(ds:List Ad):Us (.list ds) "list" = true:=by simp [Us,o6]
theorem isi_tt(ds:List Ad):Us (.tuple ds) "tuple" = true:=by simp [Us,o6]
theorem isi_ib(i:Int):Us (.int i) "bool" = false:=by simp [Us,o6]
theorem isi_ii(i:Int):Us (.int i) "int" = true:=by simp [Us,o6]
theorem isi_wt(w:List Int):Us (Bf w) "tuple" = true:=isi_tt _
theorem BC{ns:List Int}(k:Nat):(Nt ns none (some (k:Int))).length<=k:=by
 rw[eG,Dg]
 exact Nat.min_le_left _ _
theorem ifB_lt{t u:DB}{D:DEnds}{δ:DS}:EZ t u D true δ=t D δ:=rfl
theorem ifB_lf{t u:DB}{D:DEnds}{δ:DS}:EZ t u D false δ=u D δ:=rfl
theorem isi_ss(i:Str):Us (.str i) "str" = true:=by simp [Us,o6]
theorem str_self(s:Str):(s == s)=true:=by simp
theorem j4{α:Type}{l:List α}{i:Nat}{a:α}(h:l[i]? = some a):Ue l (i:Int)=some a:=by
 obtain ⟨b,e1,e2,_⟩:=zU (l:=l) (i:=(i:Int)) (by omega) (by have:=(An.mp h).1; omega)
 rw[e2,<- e1,<- h]; rfl
theorem yesL_ow{e:Ad}{δ:DS}{yes:Ad->Nat->Prop}:zS yes (.dat .ow e) δ=yes e δ.n:=propext ⟨λh=>h.2,λh=>⟨by decide,h⟩⟩
theorem lX{α:Type}{l:List α}(h:l≠[]):∃a∈l,Ue l (-1)=some a/\l.getLast? = some a:=by
 have hp:=Ko.mpr h
 refine ⟨l[l.length - 1],Ip _,?_,?_⟩
 ·unfold Ue uH
  rw[if_neg (by decide),if_pos (by omega),show ((-1:Int)+l.length).toNat=l.length - 1 by omega]
  simp [hp]
 ·rw[List.getLast?_eq_getElem?]; simp [hp]
theorem atI_0{α:Type}(x:α)(l:List α):Ue (x::l) 0=some x:=j4 (i:=0) rfl
theorem atI_1{α:Type}(x y:α)(l:List α):Ue (x::y::l) 1=some y:=j4 (i:=1) rfl
theorem atI_2{α:Type}(x y z:α)(l:List α):Ue (x::y::z::l) 2=some z:=j4 (i:=2) rfl
theorem some_e{α:Type}{a:α}{R:α->Prop}:(∃d,some a=some d/\R d)=R a:=propext ⟨λ⟨_,e,h⟩=>by cases e; exact h,λh=>⟨a,rfl,h⟩⟩
theorem isE_cons{α:Type}(a:α)(l:List α):(a::l).isEmpty=false:=rfl
theorem st_places_same:(Fu "places" == Fu "same")=false:=by decide +kernel
theorem st_same_places:(Fu "same" == Fu "places")=false:=by decide +kernel
theorem FN{a:Addr}{ks:List (List Int×Ad)}{w:List Int}{m m':Md}{P:DV->Prop}:K3 (.dat m (.dict (Q8 a ks))) (.dat m' (Bf w)) P=∃d,Ui ks w=some d/\P (.dat .ow d):=propext ⟨λ⟨a',ks',w',d,e1,e2,h⟩=>by obtain ⟨_,rfl⟩:=C3 e1; cases Pn e2; exact ⟨d,h⟩,λ⟨d,h⟩=>⟨a,ks,w,d,rfl,rfl,h⟩⟩
theorem dk_e{ks:List (List Int×Ad)}{w:List Int}{Q:List (List Int×Ad)->List Int->Prop}:(∃ks' w',Ye ks=Ye ks'/\Bf w=Bf w'/\Q ks' w')=Q ks w:=propext ⟨λ⟨ks',w',e1,e2,h⟩=>by cases Sg e1; cases Pn e2; exact h,λh=>⟨ks,w,rfl,rfl,h⟩⟩
theorem dget_e{ks:List (List Int×Ad)}{w:List Int}{m m':Md}{P:DV->Prop}:gR (.dat m (.dict (Ye ks))) (.dat m' (Bf w)) P=∃d,Ui ks w=some d/\P (.dat .ow d):=propext ⟨λ⟨ks',w',d,e1,e2,h⟩=>by cases Sg e1; cases Pn e2; exact ⟨d,h⟩,λ⟨d,h⟩=>⟨ks,w,d,rfl,rfl,h⟩⟩
theorem dinF_e{ks:List (List Int×Ad)}{w:List Int}{m m':Md}{P:DV->Prop}:qE false (.dat m' (Bf w)) (.dat m (.dict (Ye ks))) P=P (.dat .ow (.bool (Ui ks w).isSome)):=propext ⟨λ⟨ks',w',e1,e2,h⟩=>by cases Sg e1; cases Pn e2; exact h,λh=>⟨ks,w,rfl,rfl,h⟩⟩
theorem retA_sh{d:Ad}{R:Ad->Prop}:(∃m d',DV.dat .sh d=.dat m d'/\m≠.pk/\R d')=R d:=propext ⟨λ⟨m,d',e,_,h⟩=>by cases e; exact h,λh=>⟨_,_,rfl,by decide,h⟩⟩
theorem retA_tp{d:Ad}{R:Ad->Prop}:(∃m d',DV.dat .tp d=.dat m d'/\m≠.pk/\R d')=R d:=propext ⟨λ⟨m,d',e,_,h⟩=>by cases e; exact h,λh=>⟨_,_,rfl,by decide,h⟩⟩
end DL
namespace K59
open PySem L2 Nd DL
def top(i:Nat):Stmt:=PySem.Challenge.pw_needledeck_k59_whole_one_thing_other.main.body.getD i (.Pass ⟨0,0,0,0⟩)
abbrev Uh:Stmt:=top 4
abbrev Wp:Stmt:=top 5
abbrev cA:Stmt:=top 7
abbrev Wy:Stmt:=top 8
abbrev Qa:Stmt:=top 9
abbrev Nc:Stmt:=top 11
abbrev Ua:Stmt:=top 12
abbrev Mm:Stmt:=top 13
abbrev Xl:Stmt:=top 14
abbrev Rn:Stmt:=top 15
abbrev Pz:Stmt:=top 16
abbrev Lj:Stmt:=top 17
abbrev Ny:Stmt:=top 18
abbrev iT:Stmt:=top 20
abbrev rT:Stmt:=top 21
abbrev Qd:Stmt:=top 22
abbrev Sq:Stmt:=top 23
abbrev Lx:Stmt:=top 26
abbrev Ma:Stmt:=top 27
abbrev Lg:Stmt:=top 28
abbrev Oi:Stmt:=top 29
abbrev Li:Stmt:=top 30
abbrev Kj:Stmt:=top 31
abbrev Yp:Stmt:=top 32
section
variable{P:Bj}{w:World}{K:PySem.W.Frag}{mg:Str->Option Value}{base:Heap}
theorem ID:FnScope ["_law_cell"] ["_law_cell"] (Bq iT):=⟨rfl,rfl,rfl,by decide +kernel,rfl,by decide +kernel,by decide +kernel⟩
theorem wK{f:Addr}{fd:Cq}(F:Fun K "_law_draws" "_law_draws" iT f fd):FnOk P w K mg base Hn 1 f fd ["_law_cell"] Vj:=by
 refine F.ok ID (λvs H Q E h=>?_) (λcdv A outer s H vs Q E hr h=>?_)
 ·obtain ⟨c,rfl,_⟩:=h
  rfl
 obtain ⟨c,rfl,q⟩:=h
 refine ⟨_,Lf (rD (sA e8 (pv 0) (Jp iO Fh Fh) (Mn _)) (Sk (aH (mX (Jf (Jp Uj (pv 0) (Jp u7 (Jp iO Fh Fh) Fh)) (Jf Fh (Jf zP Qe)))))) Zn)
  (Sk (aH (mX (Jf (Jp Uj (pv 0) Fh) (Jf Fh (Jf zP Qe)))))),?_⟩
 refine ⟨_,rfl,10,18,rfl,rfl,⟨by decide,by decide,by decide⟩,_,_,rfl,rfl,_,rfl,DM (λ_=>?_) (λ_=>?_)⟩
 ·refine ⟨_,rfl,10,60,rfl,rfl,⟨by decide,by decide,by decide⟩,_,16,rfl,rfl,⟨by decide,by show (Builtin.Int.intBits (10 ^ (60:Int).toNat):Int) * 16<=2 ^ 27; decide +kernel⟩,_,_,rfl,rfl,(by show (0:Int)<(10 ^ (60:Int).toNat) ^ (16:Int).toNat; decide +kernel),(by show 3<=Bb; decide),λp hp=>?_⟩
  exact q p _ _ _ hp Ed (Ga hp _)
 ·refine ⟨_,rfl,_,_,rfl,rfl,(by show (0:Int)<1000003; decide),(by show 3<=Bb; decide),λp hp=>?_⟩
  exact q p _ _ _ hp Ed (Ga hp _)
theorem HW:FnScope ["_law_draws_here", "_law_k", "_law_number"] ["_law_draws_here"] (Bq rT):=⟨rfl,rfl,rfl,by decide +kernel,rfl,by decide +kernel,by decide +kernel⟩
theorem B4{f:Addr}{fd:Cq}(F:Fun K "_law_next" "_law_next" rT f fd):FnOk P w K mg base Hn 1 f fd ["_law_draws_here"] xQ:=by
 refine F.ok HW (λvs H Q E h=>?_) (λcdv A outer s H vs Q E hr h=>?_)
 ·obtain ⟨d,c,k,fl,rfl,_⟩:=h
  rfl
 obtain ⟨d,c,k,fl,rfl,hd,h0,h1,q⟩:=h
 refine ⟨_,Lf (pD (Jp aK (Yg Rw (pv 0) Fh (λ_ _=>rfl)) Fh) (n6 (pv 0) Fh lF))
  (Lf (rD (yA (Yg Rw (pv 0) Fh (λ_ _=>rfl)))
   (Lf (Xk (i:=2) HW.nd rfl (Dj rfl) (Jp Uj (Yg Rw (pv 0) Fh (λ_ _=>rfl)) (Jp iO Fh Fh)))
    (Lf (pD (Jp iQ (Yg Rw (pv 0) Fh (λ_ _=>rfl)) (Jp iO Fh Fh)) (n6 (pv 0) Fh lF))
    (Sk (aH (pv 2))))) Zn)
  (Lf (Xk (i:=1) HW.nd rfl (Dj rfl) (Yg Rw (pv 0) Fh (λ_ _=>rfl)))
  (Lf (Xk (i:=2) HW.nd rfl (Dj rfl) (Jp Uj (Jp Wt (Jp aK (Jp aK (Yg Rw (pv 0) Fh (λ_ _=>rfl)) (Jp Wt (Jp Wt (pv 1) (pv 1)) Fh)) (pv 1)) Fh) Fh))
  (Lf (Xk (i:=2) HW.nd rfl (Dj rfl) (Jp Uj (Jp Wt (pv 2) (pv 2)) Fh))
  (Sk (aH (Jp iQ (Jp Uj (Jp Wt (pv 2) (Jp aK (pv 2) Fh)) Fh) Fh))))))),?_⟩
 -- draws[1]=draws[1]+1
 refine ⟨_,rfl,d,_,1,_,rfl,rfl,Ud.of hd,rfl,_,_,rfl,rfl,_,rfl,d,_,1,1,rfl,rfl,hd,rfl,?_⟩
 have e1:(upd H d (.lst ([V.int c,V.int k,V.bl fl].set 1 (V.int (k+1))))) d=some (.lst [.int c,.int (k+1),.bl fl]):=Ed
 generalize hH1:upd H d (.lst ([V.int c,V.int k,V.bl fl].set 1 (V.int (k+1))))=H1 at e1
 have s1:To d H H1:=by rw[<- hH1]; exact To.upd
 refine ⟨_,rfl,d,_,2,_,rfl,rfl,Ud.of e1,rfl,_,rfl,?_⟩
 refine DM (λ_=>?_) (λ_=>?_)
 ·refine ⟨_,rfl,d,_,0,_,rfl,rfl,Ud.of e1,rfl,10,6,rfl,rfl,⟨by decide,by decide,by decide⟩,_,_,rfl,rfl,(by show (0:Int)<10 ^ (6:Int).toNat; decide),?_⟩
  refine ⟨_,rfl,d,_,0,_,rfl,rfl,Ud.of e1,rfl,10,6,rfl,rfl,⟨by decide,by decide,by decide⟩,_,_,rfl,rfl,⟨by decide,by decide⟩,_,rfl,d,_,0,0,rfl,rfl,e1,rfl,_,rfl,?_⟩
  exact q _ _ _ Ed (s1.trans To.upd)
 ·refine ⟨_,rfl,d,_,1,_,rfl,rfl,Ud.of e1,rfl,?_⟩
  have b1:=gZ ((c+(k+1) * (k+1) * 7919+(k+1)) * 48271) 2147483629 (by decide)
  refine ⟨_,rfl,d,_,0,_,rfl,rfl,Ud.of e1,rfl,_,rfl,_,rfl,_,_,rfl,rfl,.inl ⟨by omega,by omega⟩,_,_,rfl,rfl,.inr ⟨by decide,by decide⟩,_,_,rfl,rfl,_,rfl,_,_,rfl,rfl,
   _,_,rfl,rfl,.inr ⟨by decide,by decide⟩,_,_,rfl,rfl,(by show (0:Int)<2147483629; decide),?_⟩
  generalize ((c+(k+1) * (k+1) * 7919+(k+1)) * 48271) % 2147483629=x at b1
  have b2:=gZ (x * x) 2147483587 (by decide)
  refine ⟨_,rfl,_,rfl,_,_,rfl,rfl,.inl ⟨by omega,by omega⟩,_,_,rfl,rfl,(by show (0:Int)<2147483587; decide),?_⟩
  generalize (x * x) % 2147483587=y at b2
  refine ⟨_,rfl,_,rfl,_,_,rfl,rfl,_,_,rfl,rfl,.inl ⟨by omega,by omega⟩,_,_,rfl,rfl,(by show (0:Int)<2147483579; decide),_,_,rfl,rfl,⟨by decide,by decide⟩,?_⟩
  exact q _ _ _ e1 s1
theorem sH{f:Addr}{fd:Cq}(F:Fun K "_law_draws" "_law_draws" iT f fd):FnOk P w K mg base Hn 1 f fd ["_law_cell"] Vj:=wK F
theorem vJ{f:Addr}{fd:Cq}(F:Fun K "_law_next" "_law_next" rT f fd):FnOk P w K mg base Hn 1 f fd ["_law_draws_here"] (B8 K gK):=K1 (B4 F)
end
end K59
namespace DL
open PySem L2 Nd
def sub(a b:List Int):Bool:=a.all λi=>decide (i∈b)
def jN(a b:List Int):List Int:=a.filter λi=>decide (i∉b)
theorem Y0{h:Int}{a:List Int}(r:Ef h a):a.Nodup:=r.1.imp λ{x y} h=>Int.ne_of_lt h
theorem sY{a:List Int}(nd:a.Nodup)(h:∀x∈a,0<=x/\x<60):a.length<=60:=Ci (NdS.len_leI nd λe he=>qO (h e he).1 (h e he).2) (by decide)
theorem iH(a:Int){b:Int}(h:0<b):0<=a % b/\a % b<b:=gZ a b h
end DL
namespace Nd
open PySem L2 Ts
end Nd
namespace Nd
open PySem L2
def ch:Nat->Nat->Nat
 | _,0=>1
 | 0,_+1=>0
 | n+1,k+1=>ch n k+ch n (k+1)
theorem On(n:Nat):ch n 0=1:=by cases n <;> rfl
theorem Lz(n k:Nat):ch (n+1) (k+1)=ch n k+ch n (k+1):=rfl
theorem Ic:∀{n k:Nat},n<k->ch n k=0
 | 0,0,h=>absurd h (Ha _)
 | 0,k+1,_=>rfl
 | n+1,0,h=>absurd h (Dn _)
 | n+1,k+1,h=>by rw[Lz,Ic (by omega:n<k),Ic (by omega:n<k+1)]
theorem Zi:∀n:Nat,ch n n=1
 | 0=>rfl
 | n+1=>by rw[Lz,Zi n,Ic (cV n)]
theorem j6:∀n:Nat,ch n 1=n
 | 0=>rfl
 | n+1=>by rw[Lz,On,j6 n]; omega
theorem gG:∀n k:Nat,ch n (k+1) * (k+1)=ch n k * (n - k)
 | 0,0=>rfl
 | 0,k+1=>by rw[Ic (by omega:0<k+1+1),Ic (by omega:0<k+1)]; simp
 | n+1,0=>by rw[j6,On]; omega
 | n+1,k+1=>by
  have h1:=gG n k
  have h2:=gG n (k+1)
  rw[Lz,Lz n k]
  by_cases hk:n<=k
  ·by_cases hk2:n=k
   ·subst hk2
    rw[Zi,Ic (by omega:n<n+1),Ic (by omega:n<n+1+1)]
    simp
   ·rw[Ic (by omega:n<k+1),Ic (by omega:n<k+1+1),Ic (by omega:n<k)]
    simp
  ·have e1:n - k=n - (k+1)+1:=by omega
   have e2:n+1 - (k+1)=n - (k+1)+1:=by omega
   rw[e1] at h1
   rw[e2]
   generalize n - (k+1)=m at h1 h2
   generalize ch n k=A at *
   generalize ch n (k+1)=B at *
   generalize ch n (k+1+1)=C at *
   -- h1:B * (k+1)=A * (m+1); h2:C * (k+1+1)=B * m
   have : (B+C) * (k+1+1)=B * (k+1)+B+C * (k+1+1):=by
    rw[Nat.add_mul,Qk B (k+1) 1,Nat.mul_one]
   rw[this,h1,h2,Nat.add_mul,Qk B m 1,Nat.mul_one]
   omega
theorem nS:∀{n k:Nat},k<=n->ch n k=ch n (n - k)
 | 0,k,h=>by
  have : k=0:=by omega
  subst this; rfl
 | n+1,0,_=>by rw[On,Zt,Zi]
 | n+1,k+1,h=>by
  by_cases hk:k=n
  ·subst hk; rw[Nat.sub_self,Zi,On]
  ·have e:n+1 - (k+1)=(n - (k+1))+1:=by omega
   rw[Lz,e,Lz,nS (by omega:k<=n),nS (by omega:k+1<=n)]
   have e2:n - k=n - (k+1)+1:=by omega
   rw[e2]
   omega
theorem kO:∀n k:Nat,ch n k<=2 ^ n
 | n,0=>by rw[On]; exact Nat.one_le_two_pow
 | 0,k+1=>by rw[Ic (by omega)]; exact Do _
 | n+1,k+1=>by
  have h1:=kO n k
  have h2:=kO n (k+1)
  rw[Lz,Nat.pow_succ]
  omega
theorem yC:∀{n k:Nat},k<=n->0<ch n k
 | n,0,_=>by rw[On]; exact Nat.one_pos
 | 0,k+1,h=>absurd h (Nat.not_succ_le_zero _)
 | n+1,k+1,h=>by rw[Lz]; have:=yC (by omega:k<=n); omega
def cw:Nat->Int->Nat->List (List Int)
 | _,_,0=>[[]]
 | 0,_,_+1=>[]
 | d+1,p,m+1=>(cw d (p+1) m).map (p::·)++cw d (p+1) (m+1)
theorem cw_zero (d:Nat) (p:Int):cw d p 0=[[]]:=by cases d <;> rfl
theorem cw_succ (d:Nat) (p:Int) (m:Nat):cw (d+1) p (m+1)=(cw d (p+1) m).map (p::·)++cw d (p+1) (m+1):=rfl
theorem cw_len:∀ (d:Nat) (p:Int) (m:Nat),(cw d p m).length=ch d m
 | d,p,0=>by rw [cw_zero,On]; rfl
 | 0,p,m+1=>rfl
 | d+1,p,m+1=>by rw [cw_succ,Bh,Ab,cw_len d (p+1) m,cw_len d (p+1) (m+1),Lz]
def wU(p:Int)(d:Nat)(w:List Int):Prop:=w.Pairwise (· < ·)/\∀x∈w,p<=x/\x<p+d
theorem cw_mem:∀ {d:Nat} {p:Int} {m:Nat} {w:List Int},w∈cw d p m↔w.length=m∧wU p d w
 | d,p,0,w=>by
  rw [cw_zero,Af]
  constructor
  ·rintro rfl; exact ⟨rfl,Fg,λ_ h=>(nomatch h)⟩
  ·rintro ⟨h,_⟩; exact cW h
 | 0,p,m+1,w=>by
  constructor
  ·intro h; cases h
  ·(intro q_; obtain ⟨h,_,h2⟩ := q_)
   match w,h with
   | x::w,_=>have:=h2 x Aa; omega
 | d+1,p,m+1,w=>by
  rw [cw_succ,Aw,List.mem_map]
  constructor
  ·rintro (⟨v,hv,rfl⟩ | h)
   ·obtain ⟨h1,h2,h3⟩:=cw_mem.mp hv
    refine ⟨by rw[Ay,h1],Bc.mpr ⟨λx hx=>?_,h2⟩,λx hx=>?_⟩
    ·have:=h3 x hx; omega
    ·rcases Ao.mp hx with rfl | hx
     ·omega
     ·have:=h3 x hx; omega
   ·obtain ⟨h1,h2,h3⟩:=cw_mem.mp h
    exact ⟨h1,h2,λx hx=>by have:=h3 x hx; omega⟩
  ·(intro q_; obtain ⟨h1,h2,h3⟩ := q_)
   match w,h1 with
   | x::v,h1 =>
    obtain ⟨a1,a2⟩:=Bc.mp h2
    have hx:=h3 x Aa
    by_cases e:x=p
    ·subst e
     refine .inl ⟨v,cw_mem.mpr ⟨by simpa using h1,a2,fun y hy=>?_⟩,rfl⟩
     have:=a1 y hy
     have:=h3 y (Ae _ hy)
     omega
    ·refine .inr (cw_mem.mpr ⟨h1,h2,fun y hy=>?_⟩)
     rcases Ao.mp hy with rfl | hy
     ·omega
     ·have:=a1 y hy
      have:=h3 y (Ae _ hy)
      omega
def oP(top:Int):Nat->List Int->Nat
 | _,[]=>0
 | m,x::w=>ch (top - 1 - x).toNat m+oP top (m - 1) w
end Nd
namespace DL
open PySem L2 Nd
def pairD(p:Nat×Nat):Ad:=.tuple [.int p.1,.int p.2]
instance {p:Nat×Nat}:Im (pairD p):=⟨(inferInstance:Im (.tuple [.int p.1,.int p.2])).h⟩
instance {p:Nat×Nat}:Dp (pairD p) 1:=⟨(inferInstance:Dp (.tuple [.int p.1,.int p.2]) 1).h⟩
def N9(p:Nat×Nat×List Int):Ad:=.tuple [.int p.1,.int p.2.1,Bf p.2.2]
instance {p:Nat×Nat×List Int}:Im (N9 p):=⟨(inferInstance:Im (.tuple [.int p.1,.int p.2.1,Bf p.2.2])).h⟩
instance {p:Nat×Nat×List Int}:Dp (N9 p) 2:=⟨(inferInstance:Dp (.tuple [.int p.1,.int p.2.1,Bf p.2.2]) 2).h⟩
def FT(L:List (List Int))(f:List Int->Int):Ad:=.list ((L.map f).map Bm)
instance {L:List (List Int)} {f:List Int->Int}:Dp (FT L f) 1:=⟨(inferInstance:Dp (.list ((L.map f).map Bm)) 1).h⟩
def jm(Q w c:List Int):Bool:=sub w c && c.all λi=>decide (i∈w\/i∉Q)
end DL
namespace DL
open PySem PySem.Spec PyProof.Rows L2 Nd
end DL
namespace DRow
open PySem L2 Nd DL
abbrev Cd:=List Int
def Yq(w u:List Int):Bool:=w.all λi=>decide (i∈u)
def Z4(n1 n2:List Int)(ps:List (List Int×Bool)):Option Bool:=ps.foldl (λst p=>if Yq p.1 n1=Yq p.1 n2 then st else some (Yq p.1 n1 == !p.2)) none
theorem t8(n1 n2:List Int)(ps:List (List Int×Bool))(p:List Int×Bool):Z4 n1 n2 (ps++[p])=if Yq p.1 n1=Yq p.1 n2 then Z4 n1 n2 ps else some (Yq p.1 n1 == !p.2):=by
 unfold Z4
 rw[List.foldl_append]
 rfl
def aO(ps:List (List Int×Bool))(n:List Int):List Int:=ps.reverse.map λp=>if Yq p.1 n=p.2 then 1 else 0
theorem eX(ps:List (List Int×Bool))(p:List Int×Bool)(n:List Int):aO (ps++[p]) n=(if Yq p.1 n=p.2 then 1 else 0)::aO ps n:=by
 unfold aO
 rw[List.reverse_append,Bo]
 rfl
theorem xC{α:Type}{P:List α->Prop}(h0:P [])(h1:∀l x,P l->P (l++[x]))(l:List α):P l:=by
 have : ∀m:List α,P m.reverse:=λm=>by
  induction m with
  | nil=>exact h0
  | cons x m ih=>rw[List.reverse_cons]; exact h1 _ _ ih
 have:=this l.reverse
 rwa [List.reverse_reverse] at this
theorem zY(n1 n2:List Int)(ps:List (List Int×Bool)):(Z4 n1 n2 ps=none↔aO ps n1=aO ps n2)/\(Z4 n1 n2 ps=some true↔HT.lexLt (aO ps n1) (aO ps n2)=true):=by
 induction ps using xC with
 | h0=>exact ⟨⟨λ_=>rfl,λ_=>rfl⟩,⟨λh=>(by cases h),λh=>(by cases h)⟩⟩
 | h1 l p ih =>
  rw[t8,eX,eX,HT.lexLt_cons]
  by_cases h:Yq p.1 n1=Yq p.1 n2
  ·rw[if_pos h,h,if_pos rfl]
   refine ⟨ih.1.trans ⟨λe=>by rw[e],λe=>(Em e).2⟩,ih.2⟩
  ·rw[if_neg h]
   cases h1:Yq p.1 n1 <;> cases h2:Yq p.1 n2 <;> cases h3:p.2 <;> rw[h1,h2] at h <;> first | exact absurd rfl h | simp
theorem Rj(x y:List Int)(ps:List (List Int×Bool)):Z4 x y ps=some false↔(¬ aO ps x=aO ps y/\¬ HT.lexLt (aO ps x) (aO ps y)=true):=by
 rw[<- (zY x y ps).1,<- (zY x y ps).2]
 cases Z4 x y ps with
 | none=>simp
 | some b=>cases b <;> simp
def two(x y:Cd):Cd->Bool:=λr=>decide (r=x) || decide (r=y)
abbrev Ps:=List Int×Bool
def P4(p:Ps):Ad:=.tuple [Bf p.1,.str (wZ p.2)]
instance {p:Ps}:Im (P4 p):=⟨(inferInstance:Im (.tuple [Bf p.1,.str (wZ p.2)])).h⟩
instance {p:Ps}:Dp (P4 p) 2:=⟨(inferInstance:Dp (.tuple [Bf p.1,.str (wZ p.2)]) _).h⟩
instance {α:Type} {f:α->Ad} {l:List α} {lo hi:Option Int} [h:∀a,Im (f a)]:ImA (Nt (l.map f) lo hi):=⟨by rw[jL]; exact IB⟩
theorem cutG_from{α:Type}(xs:List α)(k:Nat):Nt xs (some (k:Int)) none=xs.drop k:=by
 unfold Nt
 rw[HT.sIx_none,HT.sIx_nat]
 by_cases h:k<=xs.length
 ·rw[Nat.min_eq_left h,Gx (by rw[Mp]; exact Ai _)]
 ·rw[Nat.min_eq_right (by omega),pL (by omega),pL (by omega),List.take_nil]
def aN(D:List (List Int))(n:Nat):List (List Int×Ad):=(D.zipIdx n).map λp=>(p.1,Bm p.2)
theorem lA(w:List Int):∀(D:List (List Int)) (n:Nat),Ui (aN D n) w=if w∈D then some (.int ((n+D.idxOf w:Nat):Int)) else none
 | [],n=>rfl
 | d::D,n=>by
  have ih:=lA w D (n+1)
  have e:aN (d::D) n=(d,.int n)::aN D (n+1):=rfl
  rw[e]
  unfold Ui at ih ⊢
  rw[Jj]
  by_cases h:d=w
  ·subst h
   simp [List.idxOf_cons]
  ·have hd:decide (d=w)=false:=by simp [h]
   rw[show (decide ((d,Bm (n:Int)).1=w))=false from hd]
   show (List.find? (λp=>decide (p.1=w)) (aN D (n+1))).map (·.2)=_
   rw[ih]
   have hw:¬ w=d:=λz=>h z.symm
   by_cases m:w∈D
   ·rw[if_pos m,if_pos (Ae _ m),List.idxOf_cons]
    have hb:(d == w)=false:=by simp [h]
    rw[hb]
    simp
    omega
   ·rw[if_neg m,if_neg (by simp [hw,m])]
theorem yF(D:List (List Int))(n:Nat):(aN D n).length=D.length:=by unfold aN; simp
theorem i4{D:List (List Int)}{k:List Int}(h:k∉D):tW (aN D 0) k (.int D.length)=aN (D++[k]) 0:=by
 unfold tW
 rw[if_neg]
 ·unfold aN
  rw[List.zipIdx_append,Bo]
  simp
 ·intro z
  obtain ⟨p,hp,e⟩:=List.any_eq_true.mp z
  unfold aN at hp
  obtain ⟨q,hq,rfl⟩:=Br.mp hp
  have e':q.1=k:=by simpa using e
  have:=List.fst_mem_of_mem_zipIdx hq
  rw[e'] at this
  exact h this
end DRow
namespace DL
open PySem PySem.Spec PyProof.Rows L2 Nd DRow
end DL
namespace K59
open PySem L2 Nd DL
local macro_rules | `(tactic| array_get_dec) => do
  let ids:=(("e_ssW e_ssWB e_lenSet e_lsB e_seq e_skip e_ret e_if e_asg e_name e_name2 e_name3 e_own e_nF e_gtup e_gtup_w1 e_gsn e_gsc e_op e_var e_c e_imm e_immB e_take e_I e_I0 e_eqF e_eqT e_inFt_w1 e_isNF e_isNT e_ixl e_ixt e_ixt_w1 e_cat e_catT_w1 e_nlT e_ntT e_ntF e_pkOfsh e_pkOfow e_mdInsh e_mdItpk e_mdItsh e_mdItow e_nil e_cons e_tup e_lst e_noPart e_part e_partB e_sl e_slBl e_slBt e_cb e_lenl e_lent e_lent_w1 e_listt_w1 e_tuplel e_min2 e_all e_isi e_str e_v e_b e_bB e_notT e_orT e_orTt e_orTf e_not e_notB e_and e_andt e_neg e_negB e_dL e_dTp e_lB e_tpB_w1 e_range1 e_rng1B e_enum e_enumB e_for e_comp e_comp2L e_stepL e_stepLT e_compD e_noTest e_step e_stepT e_stepF e_yesB e_stepD e_stepDT e_yesBD e_call e_callW e_draws e_drawsB e_append e_aug e_augB e_scrSl e_dnew e_dput e_tagD e_callA e_tr e_trB e_callWS e_callWSB callWSD retWT callAB retA retA_sh retA_tp isDct dputB dk_e dget_e dinF_e callB callBW tupB lstB datas pkMd allOw noPk appB own1 npk retE retW retL args0 frD frD1 alD List.map_cons List.map_nil List.replicate List.getElem?_cons_zero List.getElem?_cons_succ List.set_cons_zero List.set_cons_succ List.cons_append List.nil_append Option.map_some List.length_cons List.length_nil List.append_nil rdAdd rdSub rdMul rdDiv rdMod rdLt rdLe rdGt rdGe if_true if_false Bool.false_eq_true List.append_assoc Nat.reduceAdd Nat.reduceSub Nat.reduceLeDiff true_and im_e ima_e dp_e dpa_e any_int eqD_intd eqD_word eqD_bl eqD_str eqD_li eqD_l0 ow_e tt_e cdiv_e Int.reduceLT Int.reduceNeg and_self and_true fold_w isi_li isi_tt isi_ib isi_ii isi_wt Bool.not_true Bool.not_false decide_true String.reduceEq or_true true_or List.isEmpty_nil ifB_lt ifB_lf isi_ss str_self Int.cast_ofNat_Int atI_0 atI_1 atI_2 some_e isE_cons yesL_ow st_places_same st_same_places" : String).splitOn " ").toArray.map λ(x:String)=>Lean.mkIdent x.toName
  `(tactic| try simp only [$[↓$ids:ident],*])
theorem U2(n i:Nat)(h:i<n):((ch n i:Nat):Int) * ((n:Int) - (i:Int)) / ((i:Int)+1)=((ch n (i+1):Nat):Int):=by
 have e:=gG n i
 have e':((ch n (i+1):Nat):Int) * ((i:Int)+1)=((ch n i:Nat):Int) * ((n:Int) - (i:Int)):=by
  have:=congrArg (λx:Nat=>(x:Int)) e
  simp only[Int.natCast_mul,Int.natCast_add,Int.natCast_one] at this
  rw[Int.ofNat_sub (by omega)] at this
  exact this
 rw[<- e',Int.mul_ediv_cancel _ (by omega)]
def P1(i:Nat)(δ:DS):Nat:=match δ.sl[i]? with
 | some (.dat _ (.int p))=>p.toNat
 | _=>0
def bK:PF:=λds R=>∃n k:Int,ds=[.int n,.int k]/\0<=n/\n<=60/\0<=k/\R (.int (ch n.toNat k.toNat))
def lE:PF:=λds R=>∃h m n:Int,ds=[.int h,.int m,.int n]/\0<=h/\h<=60/\0<=m/\0<=n/\n<(ch h.toNat m.toNat:Int)/\∀w:List Int,(cw h.toNat 0 m.toNat)[n.toNat]? = some w->R (Bf w)
def Xi:PF:=λds R=>∃h m:Int,ds=[.int h,.int m]/\0<=h/\h<=12/\0<=m/\R (.list ((cw h.toNat 0 m.toNat).map Bf))
section
variable{P:Bj}{w:World}{K:PySem.W.Frag}{mg:Str->Option Value}{base:Heap}
theorem uJ:FnScope ["n", "k", "many", "step"] ["n", "k"] (Bq cA):=⟨rfl,rfl,rfl,by decide +kernel,rfl,by decide +kernel,by decide +kernel⟩
theorem tO{f   : Addr}{fd  : Cq}(F:Fun K "choose" "choose" cA f fd)(mz_min:mg "min" = none)(mz_range:mg "range" = none):FnOk P w K mg base Hn 1 f fd ["n", "k"] (Nr K (bK)):=by
 refine' Gy (k:=0) F uJ (λcdv A outer s H E hr=>?hb) ?h
 case hb =>
  have hu64:=hr.units
  exact Cc (Ib (P0 (Am (pv 1)) (Am (pv 0)))
   (Cr (Ds Cs)) Gb)
   (Cc (Fw (i:=2) uJ.nd rfl (Dj rfl) Cs)
   (Cc (Mo Du rfl (Kt rfl mz_range (Ak (Eh (sQ rfl) u4 rfl mz_min (by decide +kernel) (Ak (Am (pv 1)) (Ak (Rk (Am (pv 0)) (Am (pv 1))) Ba))) Ba)) (Gp (i:=3) uJ.nd rfl (Dj rfl))
   (Cr (Fw (i:=2) uJ.nd rfl (Dj rfl) (vE (AA (Am (pv 2)) (Rk (Am (pv 0)) (Am (pv 3)))) (Wr (Am (pv 3)) Cs)))))
   (Cr (Ds (Nw (Am (pv 2)))))))
 case h =>
  (intro ds R q_; obtain ⟨n,k,rfl,n0,n1,k0,hR⟩ := q_)
  refine ⟨rfl,?_⟩
  array_get_dec
  refine Tt (λq=>?_) (λq=>?_)
  ·have q:=of_decide_eq_true q
   rw[Ic (by omega)] at hR
   array_get_dec
   exact hR
  have q:=of_decide_eq_false q
  array_get_dec
  obtain ⟨t,et,tn,ec⟩ : ∃t:Nat,(if n - k<k then n - k else k)=(t:Int)/\t<=n.toNat/\ch n.toNat t=ch n.toNat k.toNat:=by
   by_cases c:n - k<k
   ·refine ⟨(n - k).toNat,by rw[if_pos c]; omega,by omega,?_⟩
    rw[nS (by omega)]
    congr 1
    omega
   ·exact ⟨k.toNat,by rw[if_neg c]; omega,by omega,rfl⟩
  rw[et]
  refine ⟨by omega,by omega,?_⟩
  rw[Dq]
  refine Yw (l:=Bi t) (g:=λi:Nat=>.int i) rfl (λi δ=>∃v:DV,δ=⟨[.dat .sh (.int n),.dat .sh (.int k),.dat .sh (.int (ch n.toNat i)),v],0⟩/\NP v) ?_ ?_ ?_
  ·exact ⟨_,by rw[On]; rfl,Kq⟩
  ·(intro i a _ ha q_; obtain ⟨v,rfl,hv⟩ := q_)
   obtain ⟨rfl,hi⟩:=cM ha
   array_get_dec
   refine ⟨.inr ⟨by omega,by omega⟩,⟨by omega,by omega⟩,?_⟩
   have e:=U2 n.toNat a (by omega)
   rw[show ((n.toNat:Nat):Int)=n by omega] at e
   rw[e]
   exact ⟨_,rfl,Ir⟩
  ·(intro _ q_; obtain ⟨v,rfl,hv⟩ := q_)
   rw[Dm,ec]
   array_get_dec
   exact hR
theorem nX:FnScope ["holes", "many", "number", "word", "left", "place", "having"] ["holes", "many", "number"] (Bq Wy):=⟨rfl,rfl,rfl,by decide +kernel,rfl,by decide +kernel,by decide +kernel⟩
theorem oH{f f_choose  : Addr}{fd d_choose:Cq}(F:Fun K "word_at" "word_at" Wy f fd)(G_choose:FnOk P w K mg base Hn 1 f_choose d_choose ["n", "k"] (Nr K (bK)))(b_choose:Binds K d_choose ["n", "k"] [])(k_choose:PySem.W.keepIn K (.ref f_choose)=true)(m_choose:mg "choose" = some (.ref f_choose))(mz_len:mg "len" = none):FnOk P w K mg base Hn 2 f fd ["holes", "many", "number"] (Nr K (lE)):=by
 refine' Gy (k:=1) F nX (λcdv A outer s H E hr=>?hb) ?h
 case hb =>
  have hr1:Room 1 _:=hr.mono (by decide)
  have hu64:=hr.units
  exact Cc (Ib (Ys (Mr (qR (Am (pv 2)) Cs) (Mk (O3 (Am (pv 2)) (Dy G_choose hr1 rfl m_choose k_choose b_choose Fd (Ak (Am (pv 0)) (Ak (Am (pv 1)) Ba)))))))
   (Cr vW) Gb)
   (Cc (Fw (i:=3) nX.nd rfl (Dj rfl) (Ml Ba))
   (Cc (Fw (i:=4) nX.nd rfl (Dj rfl) (Am (pv 2)))
   (Cc (Fw (i:=5) nX.nd rfl (Dj rfl) Cs)
   (Cc (jM Du (qR (Eh Ie Lv rfl mz_len (by decide +kernel) (Ak (Am (pv 3)) Ba)) (Am (pv 1)))
   (Cc (Fw (i:=6) nX.nd rfl (Dj rfl) (Dy G_choose hr1 rfl m_choose k_choose b_choose Fd (Ak (Rk (Rk (Am (pv 0)) Cs) (Am (pv 5))) (Ak (Rk (Rk (Am (pv 1)) (Eh Ie Lv rfl mz_len (by decide +kernel) (Ak (Am (pv 3)) Ba))) Cs) Ba))))
    (Cc (Ib (qR (Am (pv 4)) (Am (pv 6)))
    (Cr (Fw (i:=3) nX.nd rfl (Dj rfl) (pQ (Am (pv 3)) (Ml (Ak (Nw (Am (pv 5))) Ba))))) (Cr (rJ (i:=4) nX.nd rfl (Dj rfl) (Am (pv 6)) Z9)))
    (Cr (pY (i:=5) nX.nd rfl (Dj rfl) Cs)))))
   (Cr (Ds (Nw (Am (pv 3)))))))))
 case h =>
  (intro ds R q_; obtain ⟨h,m,n,rfl,h0,h1,m0,n0,n1,hR⟩ := q_)
  refine ⟨rfl,?_⟩
  have mh:m.toNat<=h.toNat:=Nat.le_of_not_lt λz=>by rw[Ic z] at n1; omega
  array_get_dec
  refine yH (λq=>absurd (of_decide_eq_true q) (by omega)) (λ_=>?_)
  array_get_dec
  refine ⟨h,m,rfl,h0,h1,m0,?_⟩
  array_get_dec
  refine Tt (λq=>absurd (of_decide_eq_true q) (by omega)) (λ_=>?_)
  array_get_dec
  obtain ⟨tg,etg⟩ : ∃tg,(cw h.toNat 0 m.toNat)[n.toNat]? = some tg:=by
   have : n.toNat<(cw h.toNat 0 m.toNat).length:=by rw [cw_len]; omega
   exact ⟨_,Be this⟩
  have hm:tg.length=m.toNat:=(cw_mem.mp (Ax etg)).1
  refine zH (λδ=>∃(w r:List Int) (lf pl:Nat) (v:DV),δ=⟨[.dat .sh (.int h),.dat .sh (.int m),.dat .sh (.int n),.dat .sh (Bf w),.dat .sh (.int lf),.dat .sh (.int pl),v],0⟩/\NP v/\w++r=tg/\pl<=h.toNat/\(cw (h.toNat - pl) pl r.length)[lf]? = some r) (λδ=>h.toNat - P1 5 δ) ⟨[],tg,n.toNat,0,_,by rw[Int.toNat_of_nonneg n0]; rfl,Kq,rfl,Do _,by rw[hm]; exact etg⟩ ?_
  (intro _ q_; obtain ⟨w,r,lf,pl,v,rfl,hv,ew,pl0,er⟩ := q_)
  have lw:w.length+r.length=m.toNat:=by rw[<- hm,<- ew,Bh]
  array_get_dec
  refine O2 (λhb=>?_) (λhb=>?_)
  ·have hb:=of_decide_eq_true hb
   rw[Ab] at hb
   obtain ⟨x,r',rfl⟩ : ∃x r',r=x::r':=by
    cases r with
    | nil=>exact absurd lw (by simp; omega)
    | cons x r'=>exact ⟨x,r',rfl⟩
   rw[Ay] at lw er
   obtain ⟨d,hd⟩ : ∃d,h.toNat - pl=d+1:=by
    cases hd:h.toNat - pl with
    | zero=>rw[hd] at er; cases er
    | succ d=>exact ⟨d,rfl⟩
   rw [hd,cw_succ] at er
   array_get_dec
   rw[Ab]
   refine ⟨h - 1 - pl,m - w.length - 1,rfl,by omega,by omega,by omega,?_⟩
   rw[show (h - 1 - (pl:Int)).toNat=d by omega,show (m - (w.length:Int) - 1).toNat=r'.length by omega]
   array_get_dec
   refine Tt (λhl=>?_) (λhl=>?_)
   ·have hl':lf<ch d r'.length:=by have:=of_decide_eq_true hl; omega
    rw [Ht (by rw [Ab,cw_len]; exact hl'),Bw] at er
    cases hv2:(cw d ((pl:Int)+1) r'.length)[lf]? with
    | none=>rw[hv2] at er; cases er
    | some u =>
     rw[hv2] at er
     have er':(pl:Int)::u=x::r':=Cj er
     injection er' with ex eur
     subst ex eur
     array_get_dec
     refine ⟨by rw[Ab]; omega,⟨w++[(pl:Int)],u,lf,pl+1,.dat .sh (.int (ch d u.length)),?_,Ir,by rw[<- ew,Cb]; rfl,by omega,by rw[show h.toNat - (pl+1)=d by omega,show ((pl+1:Nat):Int)=(pl:Int)+1 by omega]; exact hv2⟩,?_⟩
     ·rw[show ((pl+1:Nat):Int)=(pl:Int)+1 by omega]
      unfold Bf
      rw[Bo]
      rfl
     ·show h.toNat - ((pl:Int)+1).toNat<h.toNat - (pl:Int).toNat
      omega
   ·have hl':ch d r'.length<=lf:=by have:=of_decide_eq_false hl; omega
    rw [Ey (by rw [Ab,cw_len]; exact hl'),Ab,cw_len] at er
    array_get_dec
    refine ⟨⟨w,x::r',lf - ch d r'.length,pl+1,.dat .sh (.int (ch d r'.length)),?_,Ir,ew,by omega,by rw[show h.toNat - (pl+1)=d by omega,show ((pl+1:Nat):Int)=(pl:Int)+1 by omega,Ay]; exact er⟩,?_⟩
    ·rw[show ((lf - ch d r'.length:Nat):Int)=(lf:Int) - (ch d r'.length:Int) by omega,show ((pl+1:Nat):Int)=(pl:Int)+1 by omega]
    ·show h.toNat - ((pl:Int)+1).toNat<h.toNat - (pl:Int).toNat
     omega
  ·have hb:=of_decide_eq_false hb
   rw[Ab] at hb
   obtain rfl:r=[]:=Gm.mp (by omega)
   rw[Ea] at ew
   subst ew
   array_get_dec
   exact hR _ etg
theorem jS:FnScope ["holes", "many"] ["holes", "many"] (Bq Qa):=⟨rfl,rfl,rfl,by decide +kernel,rfl,by decide +kernel,by decide +kernel⟩
theorem lI{f f_choose f_word_at  : Addr}{fd d_choose d_word_at:Cq}(F:Fun K "words_of" "words_of" Qa f fd)(G_choose:FnOk P w K mg base Hn 1 f_choose d_choose ["n", "k"] (Nr K (bK)))(b_choose:Binds K d_choose ["n", "k"] [])(k_choose:PySem.W.keepIn K (.ref f_choose)=true)(m_choose:mg "choose" = some (.ref f_choose))(G_word_at:FnOk P w K mg base Hn 2 f_word_at d_word_at ["holes", "many", "number"] (Nr K (lE)))(b_word_at:Binds K d_word_at ["holes", "many", "number"] [])(k_word_at:PySem.W.keepIn K (.ref f_word_at)=true)(m_word_at:mg "word_at" = some (.ref f_word_at))(mz_range:mg "range" = none):FnOk P w K mg base Hn 3 f fd ["holes", "many"] (Nr K (Xi)):=by
 refine' Gy (k:=2) F jS (λcdv A outer s H E hr=>?hb) ?h
 case hb =>
  have hr1:Room 1 _:=hr.mono (by decide)
  have hr2:Room 2 _:=hr.mono (by decide)
  have hu64:=hr.units
  have CS1:∀{scope:Scope} (h:scope={ kind:=.function,names:=[(".0",.local),("number",.local),("word_at",.globalImplicit),("holes",.free),("many",.free)],isGenerator:=false,isCoroutine:=false }),
    CompScope (Me Hn P w K mg base ["holes", "many"] "words_of" (Bq Qa) f cdv A outer s H E).nox scope [("many",s.heap.objs.size+2),("holes",s.heap.objs.size+1)] "number" ["holes", "many"] [0,1]:=by
   rintro scope rfl
   refine ⟨by rfl,.inl (by decide +kernel),by rfl,by decide +kernel,.inl rfl,λy c h=>?_,by rfl,by decide +kernel,rfl,λk y j e1 e2=>?_⟩
   ·have z:=Ff h
    simp only[Ao,Bz,or_false,Fz] at z
    rcases z with ⟨rfl,rfl⟩ | ⟨rfl,rfl⟩ <;> rfl
   ·match k,e1,e2 with
    | 0,e1,e2=>cases e1; cases e2; exact ⟨rfl,rfl,by first | exact .inl rfl | exact .inr rfl⟩
    | 1,e1,e2=>cases e1; cases e2; exact ⟨rfl,rfl,by first | exact .inl rfl | exact .inr rfl⟩
    | k+2,e1,e2=>cases e1
  exact Cr (Ds (Ly (CS1 rfl) rfl (Kt rfl mz_range (Ak (Dy G_choose hr1 rfl m_choose k_choose b_choose Fd (Ak (Am (pv 0)) (Ak (Am (pv 1)) Ba))) Ba)) (λ_ _ _=>Rh) (λ_ _ _=>Dy G_word_at hr2 rfl m_word_at k_word_at b_word_at Fd (Ak (Am (pv 1)) (Ak (Am (pv 2)) (Ak (Am (pv 0)) Ba))))))
 case h =>
  (intro ds R q_; obtain ⟨h,m,rfl,h0,h1,m0,hR⟩ := q_)
  refine ⟨rfl,?_⟩
  array_get_dec
  refine ⟨h,m,rfl,h0,by omega,m0,?_⟩
  array_get_dec
  have c1:=kO h.toNat m.toNat
  have c2:2 ^ h.toNat<=2 ^ 12:=Ia (by decide) (by omega)
  refine ⟨by omega,by omega,?_⟩
  rw[Dq]
  have cl:=cw_len h.toNat 0 m.toNat
  refine xB (l:=Bi (ch h.toNat m.toNat)) (g:=λi:Nat=>.int i) rfl (λi=>Bf ((cw h.toNat 0 m.toNat).getD i [])) (λi hi yes no hy=>?_) ?_
  ·have hi:=Df.mp hi
   array_get_dec
   refine ⟨h,m,i,rfl,h0,by omega,m0,by omega,by omega,λw hw=>?_⟩
   rw[Dq] at hw
   rw[Pe,hw] at hy
   array_get_dec
   exact hy
  ·have e:(Bi (ch h.toNat m.toNat)).map (λi=>Bf ((cw h.toNat 0 m.toNat).getD i []))=(cw h.toNat 0 m.toNat).map Bf:=by
    rw[<- cl]
    apply Gn
    intro i
    rw[Bw,Bw]
    by_cases hi:i<(cw h.toNat 0 m.toNat).length
    ·rw[List.getElem?_range hi,Be hi]
     show some (Bf _)=some (Bf _)
     rw[Pe,Be hi]
     rfl
    ·rw[Ti (by rw[Dm]; omega),Ti (by omega)]
     rfl
   rw[e]
   array_get_dec
   exact hR
end
open DRow
def Qz(p c:List Int):List Int:=p.filter λi=>decide (i∈c)
def Wx:PF:=λds R=>∃c p:List Int,ds=[Bf c,Bf p]/\p.length<=60/\R (Bf (Qz p c))
def iE:PF:=λds R=>∃(D:List (List Int)) (p:List Int),ds=[.list (D.map Bf),Bf p]/\D.length<=1000/\p.length<=60/\((D.map (Qz p)).Nodup->R .none) /\
 ∀(i j:Nat) (x y:List Int),i<j->D[i]? = some x->D[j]? = some y->Qz p x=Qz p y->R (Bf [(i:Int),(j:Int)])
section
variable{P:Bj}{w:World}{K:PySem.W.Frag}{mg:Str->Option Value}{base:Heap}
theorem dF:FnScope ["card", "places"] ["card", "places"] (Bq Nc):=⟨rfl,rfl,rfl,by decide +kernel,rfl,by decide +kernel,by decide +kernel⟩
theorem dG{f   : Addr}{fd  : Cq}(F:Fun K "notches_at" "notches_at" Nc f fd)(mz_tuple:mg "tuple" = none):FnOk P w K mg base Hn 1 f fd ["card", "places"] (Nr K (Wx)):=by
 refine' Gy (k:=0) F dF (λcdv A outer s H E hr=>?hb) ?h
 case hb =>
  have hu64:=hr.units
  have CS1:∀{scope:Scope} (h:scope={ kind:=.function,names:=[(".0",.local),("place",.local),("card",.free)],isGenerator:=false,isCoroutine:=false }),
    CompScope (Me Hn P w K mg base ["card", "places"] "notches_at" (Bq Nc) f cdv A outer s H E).nox scope [("card",s.heap.objs.size+1)] "place" ["card"] [0]:=by
   rintro scope rfl
   refine ⟨by rfl,.inl (by decide +kernel),by rfl,by decide +kernel,.inl rfl,λy c h=>?_,by rfl,by decide +kernel,rfl,λk y j e1 e2=>?_⟩
   ·have z:=Ff h
    simp only[Ao,Bz,or_false,Fz] at z
    obtain ⟨rfl,rfl⟩:=z; rfl
   ·match k,e1,e2 with
    | 0,e1,e2=>cases e1; cases e2; exact ⟨rfl,rfl,by first | exact .inl rfl | exact .inr rfl⟩
    | k+1,e1,e2=>cases e1
  exact Cr (Ds (Iw Ve (Vh (i:=true)) rfl mz_tuple (by decide +kernel) (Ak (Ly (CS1 rfl) rfl (FJ (Am (pv 1))) (λ_ _ _=>Os (yE hu64 (Am (pv 0)) (Am (pv 1)))) (λ_ _ _=>Am (pv 0))) Ba)))
 case h =>
  (intro ds R q_; obtain ⟨c,p,rfl,lp,hR⟩ := q_)
  refine ⟨rfl,?_⟩
  array_get_dec
  refine Vo (l:=p) (g:=Bm) rfl (λi=>decide (i∈c)) Bm (λi _ yes no hy hn=>?_) ?_
  ·array_get_dec
   refine Su (λh=>?_) (λh=>?_)
   ·array_get_dec
    exact hy h
   ·exact hn h
  array_get_dec
  exact hR
end
theorem sV{ws:List (List Int)}{i:Nat}{p:List Int×Nat}(h:ws.zipIdx[i]? = some p):p.2=i/\ws[i]? = some p.1:=by
 rw[List.getElem?_zipIdx] at h
 cases e:ws[i]? with
 | none=>rw[e] at h; cases h
 | some a =>
  rw[e] at h
  cases h
  exact ⟨by simp,rfl⟩
theorem V6{D:List (List Int)}{f:List Int->List Int}{w:List Int}{n:Nat}(h:w∈(D.take n).map f):∃(i:Nat) (x:List Int),i<n/\D[i]? = some x/\f x=w/\((D.take n).map f).idxOf w=i:=by
 have lt:=List.idxOf_lt_length_of_mem h
 have ge:=List.getElem_idxOf lt
 obtain ⟨i,ei⟩ : ∃i,((D.take n).map f).idxOf w=i:=⟨_,rfl⟩
 rw[Ab,Dg] at lt
 have g2:((D.take n).map f)[i]? = some w:=by
  rw[<- ei]
  exact List.getElem?_eq_some_iff.mpr ⟨_,ge⟩
 rw[Bw,Gd (by omega)] at g2
 cases q:D[i]? with
 | none=>rw[q] at g2; cases g2
 | some x =>
  rw[q] at g2
  injection g2 with g2
  exact ⟨i,x,by omega,q,g2,ei⟩
theorem nJ{α:Type}{l:List α}{a:α}(h:l.Nodup)(k:a∉l):(l++[a]).Nodup:=Gk.mpr ⟨h,Cn.mpr ⟨(λz=>nomatch z),Cz⟩,λx hx y hy e=>k (by rw[<- Af.mp hy,<- e]; exact hx)⟩
theorem eD{α β:Type}{f:α->β}{D:List α}{i:Nat}{x:α}(h:D[i]? = some x):(D.take (i+1)).map f=(D.take i).map f++[f x]:=by
 obtain ⟨h1,h2⟩:=An.mp h
 rw[Ft h1,Bo,h2]
 rfl
section
variable{P:Bj}{w:World}{K:PySem.W.Frag}{mg:Str->Option Value}{base:Heap}
theorem kQ:FnScope ["deck", "places", "seen", "j", "card", "notches"] ["deck", "places"] (Bq Ua):=⟨rfl,rfl,rfl,by decide +kernel,rfl,by decide +kernel,by decide +kernel⟩
theorem jP{f f_notches_at  : Addr}{fd d_notches_at:Cq}(F:Fun K "alike_at" "alike_at" Ua f fd)(G_notches_at:FnOk P w K mg base Hn 1 f_notches_at d_notches_at ["card", "places"] (Nr K (Wx)))(b_notches_at:Binds K d_notches_at ["card", "places"] [])(k_notches_at:PySem.W.keepIn K (.ref f_notches_at)=true)(m_notches_at:mg "notches_at" = some (.ref f_notches_at))(mz_enumerate:mg "enumerate" = none):FnOk P w K mg base Hn 2 f fd ["deck", "places"] (Nr K (iE)):=by
 refine' Gy (k:=1) F kQ (λcdv A outer s H E hr=>?hb) ?h
 case hb =>
  have hr1:Room 1 _:=hr.mono (by decide)
  have hu64:=hr.units
  exact Cc (Ry (i:=2) kQ.nd rfl (Dj rfl) x5)
   (Cc (Mo Du rfl (A4 rfl mz_enumerate (Ak (Am (pv 0)) Ba)) (gQ (n:=2) rfl (Lh (Gp (i:=3) kQ.nd rfl (Dj rfl)) (Lh (Gp (i:=4) kQ.nd rfl (Dj rfl)) Zl)))
   (Cc (Fw (i:=5) kQ.nd rfl (Dj rfl) (Dy G_notches_at hr1 rfl m_notches_at k_notches_at b_notches_at Fd (Ak (Am (pv 4)) (Ak (Am (pv 1)) Ba))))
    (Cc (Ib (X6 hu64 (Am (pv 5)) (Am (pv 2)))
    (Cr (Ds (Ml (Ak (A5 hu64 (Am (pv 2)) (Am (pv 5))) (Ak (Nw (Am (pv 3))) Ba))))) Gb)
    (Cr (r9 hu64 (pv 2) (Am (pv 5)) (Am (pv 3)))))))
   (Cr (Ds gY)))
 case h =>
  (intro ds R q_; obtain ⟨D,p,rfl,lD,lp,hN,hA⟩ := q_)
  refine ⟨rfl,?_⟩
  array_get_dec
  have ez:((D.map Bf).zipIdx.map λp=>Od [.int (p.2:Int),p.1])=D.zipIdx.map λp=>.tuple [.int (p.2:Int),Bf p.1]:=by rw[B5,Ek]; rfl
  rw[ez]
  refine Yw (l:=D.zipIdx) (g:=λp=>.tuple [.int (p.2:Int),Bf p.1]) rfl (λi δ=>(∃v3 v4 v5:DV,δ=⟨[.dat .sh (.list (D.map Bf)),.dat .sh (Bf p),.dat .ow (.dict (Ye (aN ((D.take i).map (Qz p)) 0))),v3,v4,v5],0⟩/\NP v3/\NP v4/\NP v5)/\((D.take i).map (Qz p)).Nodup) ?_ ?_ ?_
  ·exact ⟨⟨_,_,_,rfl,Kq,Kq,Kq⟩,Cz⟩
  ·(intro i q _ hq q_; obtain ⟨⟨v3,v4,v5,rfl,hv3,hv4,hv5⟩,nd⟩ := q_)
   obtain ⟨eq',hq1⟩:=sV hq
   array_get_dec
   refine ⟨q.1,p,rfl,lp,?_⟩
   array_get_dec
   have tg:=lA (Qz p q.1) ((D.take i).map (Qz p)) 0
   by_cases c:Qz p q.1∈(D.take i).map (Qz p)
   ·rw[if_pos c] at tg
    obtain ⟨i',x,lt,hx,ex,ei⟩:=V6 c
    rw[ei,Gz] at tg
    refine Tt (λ_=>?_) (λh=>absurd h (by rw[tg]; simp))
    array_get_dec
    refine ⟨_,tg,?_⟩
    array_get_dec
    rw[eq']
    exact hA i' i x q.1 lt hx hq1 ex
   ·rw[if_neg c] at tg
    refine Tt (λh=>absurd h (by rw[tg]; simp)) (λ_=>?_)
    have lt:=(An.mp hq1).1
    have lz:((D.take i).map (Qz p)).length=i:=by rw[Ab,Dg]; omega
    have pt:=i4 c
    rw[lz,<- eD hq1] at pt
    array_get_dec
    refine ⟨by rw[yF,lz]; omega,?_⟩
    rw[eq',pt]
    refine ⟨⟨_,_,_,rfl,Ir,Ir,Ir⟩,?_⟩
    rw[eD hq1]
    exact nJ nd c
  ·(intro _ q_; obtain ⟨⟨v3,v4,v5,rfl,hv3,hv4,hv5⟩,nd⟩ := q_)
   array_get_dec
   rw[Lo,Kl] at nd
   exact hN nd
end
theorem Pr:∀{b a:List Int},a.Pairwise (· < ·)->b.Pairwise (· < ·)->(∀x∈a,x∈b)->a.Sublist b
 | b,[],_,_,_=>List.nil_sublist _
 | [],x::a,_,_,h=>nomatch h x Aa
 | y::b,x::a,ha,hb,h=>by
  obtain ⟨a1,a2⟩:=Bc.mp ha
  obtain ⟨b1,b2⟩:=Bc.mp hb
  by_cases e:x=y
  ·subst e
   refine (Pr a2 b2 λz hz=>?_).cons₂ x
   rcases Ao.mp (h z (Ae _ hz)) with q | q
   ·have:=a1 z hz; omega
   ·exact q
  ·have hx:x∈b:=(Ao.mp (h x Aa)).resolve_left e
   refine (Pr ha b2 λz hz=>?_).cons y
   rcases Ao.mp (h z hz) with q | q
   ·have yx:=b1 x hx
    rcases Ao.mp hz with w | w
    ·omega
    ·have:=a1 z w; omega
   ·exact q
theorem cw_rise {m k:Nat} {w:List Int} (h:w∈cw m 0 k):Ef m w:=by
 obtain ⟨_,h1,h2⟩:=cw_mem.mp h
 exact ⟨h1,λx hx=>by have:=h2 x hx; omega⟩
theorem cD{a b:List Int}(ha:a.Pairwise (· < ·))(hb:b.Pairwise (· < ·))(h:∀x,x∈a↔x∈b):a=b :=
 (Pr ha hb λx hx=>(h x).mp hx).eq_of_length_le (Pr hb ha λx hx=>(h x).mpr hx).length_le
theorem Xf(h:Nat):(Yo h).Pairwise (· < ·):=Ze.mpr (List.pairwise_lt_range.imp λz=>by omega)
theorem iP{p c:List Int}{x:Int}:x∈Qz p c↔x∈p/\x∈c:=by
 unfold Qz
 rw[List.mem_filter,decide_eq_true_eq]
theorem Zy{p c:List Int}(h:p.Pairwise (· < ·)):(Qz p c).Pairwise (· < ·):=h.filter _
theorem Pt{h:Nat}{x:List Int}(hx:Ef h x):Qz (Yo h) x=x:=by
 refine cD (Zy (Xf h)) hx.1 λz=>?_
 rw[iP]
 exact ⟨λq=>q.2,λq=>⟨Br.mpr ⟨z.toNat,Df.mpr (by have:=hx.2 z q; omega),by have:=hx.2 z q; omega⟩,q⟩⟩
theorem cw_full {h:Nat} {w:List Int} (hw:w∈cw h 0 h):w=Yo h:=by
 have rw':=cw_rise hw
 have lw:=(cw_mem.mp hw).1
 have sb:=Pr rw'.1 (Xf h) λz hz=>Br.mpr ⟨z.toNat,Df.mpr (by have:=rw'.2 z hz; omega),by have:=rw'.2 z hz; omega⟩
 exact sb.eq_of_length (by rw[lw]; unfold Yo; simp)
def cQ(D:List (List Int))(p q:List Int):Prop:=∃(a b:Nat) (x y:List Int),q=[(a:Int),(b:Int)]/\a<b/\D[a]? = some x/\D[b]? = some y/\Qz p x=Qz p y
def Pa(D:List (List Int))(q:List Int):Prop:=∃a b:Nat,q=[(a:Int),(b:Int)]/\a<b/\b<D.length
theorem cQ.ok{D:List (List Int)}{p q:List Int}(h:cQ D p q):Pa D q:=by
 obtain ⟨a,b,x,y,e,lt,_,hy,_⟩:=h
 exact ⟨a,b,e,lt,(An.mp hy).1⟩
structure Bars(D:List (List Int))(h k:Nat)(P:List (List Int)):Prop where
 none:k=0->P=[]
 ok:∀q∈P,Pa D q
 all:1<=k->∀u∈cw h 0 (k - 1),∃q∈P,cQ D u q
 few:P.length<=1100
 nd:P.Nodup
def bD:PF:=λds R=>∃(h:Nat) (D:List (List Int)),ds=[.int h,.list (D.map Bf)]/\1<=h/\h<=10/\D.length<=1000/\(∀c∈D,Ef h c) /\
 (∀(i j:Nat) (x:List Int),i<j->D[i]? = some x->D[j]? = some x->R (.tuple [.str "same",.int i,.int j])) /\
 ∀(k:Nat) (w:List Int) (P:List (List Int)),D.Nodup->k<=h->w∈cw h 0 k->(D.map (Qz w)).Nodup->Bars D h k P->R (.tuple [.str "places",Bf w,.list (P.map Bf)])
section
variable{P:Bj}{w:World}{K:PySem.W.Frag}{mg:Str->Option Value}{base:Heap}
theorem Xe:FnScope ["holes", "deck", "same", "many", "pairs", "met", "places", "pair"] ["holes", "deck"] (Bq Mm):=⟨rfl,rfl,rfl,by decide +kernel,rfl,by decide +kernel,by decide +kernel⟩
theorem Xh{f f_words_of f_alike_at  : Addr}{fd d_words_of d_alike_at:Cq}(F:Fun K "fewest_places" "fewest_places" Mm f fd)(G_words_of:FnOk P w K mg base Hn 3 f_words_of d_words_of ["holes", "many"] (Nr K (Xi)))(b_words_of:Binds K d_words_of ["holes", "many"] [])(k_words_of:PySem.W.keepIn K (.ref f_words_of)=true)(m_words_of:mg "words_of" = some (.ref f_words_of))(G_alike_at:FnOk P w K mg base Hn 2 f_alike_at d_alike_at ["deck", "places"] (Nr K (iE)))(b_alike_at:Binds K d_alike_at ["deck", "places"] [])(k_alike_at:PySem.W.keepIn K (.ref f_alike_at)=true)(m_alike_at:mg "alike_at" = some (.ref f_alike_at))(mz_tuple:mg "tuple" = none)(mz_range:mg "range" = none)(mz_sorted:mg "sorted" = none)(mz_set:mg "set" = none):FnOk P w K mg base Hn 4 f fd ["holes", "deck"] (Nr K (bD)):=by
 refine' Gy (k:=3) F Xe (λcdv A outer s H E hr=>?hb) ?h
 case hb =>
  have hr1:Room 1 _:=hr.mono (by decide)
  have hr2:Room 2 _:=hr.mono (by decide)
  have hr3:Room 3 _:=hr.mono (by decide)
  have hu64:=hr.units
  exact Cc (Fw (i:=2) Xe.nd rfl (Dj rfl) (Dy G_alike_at hr2 rfl m_alike_at k_alike_at b_alike_at Fd (Ak (Am (pv 1)) (Ak (uS rfl rfl mz_tuple rfl mz_range (Am (pv 0))) Ba))))
   (Cc (Ib (qL (Am (pv 2)) gY)
   (Cr (Ds (Ml (Ak Xm (Ak (Nw (Ex (Am (pv 2)) Cs)) (Ak (Nw (Ex (Am (pv 2)) Cs)) Ba)))))) Gb)
   (Cc (Fw (i:=3) Xe.nd rfl (Dj rfl) Cs)
   (Cc (Ry (i:=4) Xe.nd rfl (Dj rfl) (Lk Ba))
   (Cr (jM Du (Iz Ka)
   (Cc (Ry (i:=5) Xe.nd rfl (Dj rfl) (Lk Ba))
    (Cc (Mo Du rfl (sL (Dy G_words_of hr3 rfl m_words_of k_words_of b_words_of Fd (Ak (Am (pv 0)) (Ak (Am (pv 3)) Ba)))) (Gp (i:=6) Xe.nd rfl (Dj rfl))
    (Cc (Fw (i:=7) Xe.nd rfl (Dj rfl) (Dy G_alike_at hr2 rfl m_alike_at k_alike_at b_alike_at Fd (Ak (Am (pv 1)) (Ak (Am (pv 6)) Ba))))
     (Cc (Ib (Z3 (Am (pv 7)) gY)
     (Cr (Ds (Ml (Ak Xm (Ak (Nw (Am (pv 6))) (Ak (F6 (pv 4)) Ba)))))) Gb)
     (Cr (fJ (pv 5) (Am (pv 7)))))))
    (Cc (Ry (i:=4) Xe.nd rfl (Dj rfl) (Z6 hu64 rfl rfl mz_sorted rfl mz_set (Ak (Am (pv 5)) Ba)))
    (Cr (pY (i:=3) Xe.nd rfl (Dj rfl) Cs))))))))))
 case h =>
  (intro ds R q_; obtain ⟨h,D,rfl,h0,h1,lD,hD,hS,hP⟩ := q_)
  refine ⟨rfl,?_⟩
  array_get_dec
  refine ⟨by omega,by omega,D,Yo h,rfl,lD,by unfold Yo; simp; omega,λnd=>?_,λi j x y lt hx hy e=>?_⟩
  rotate_left
  ·rw[Pt (hD x (Ax hx)),Pt (hD y (Ax hy))] at e
   rw[show isNone (Bf [(i:Int),(j:Int)])=false from rfl]
   array_get_dec
   exact hS i j x lt hx (by rw[e]; exact hy)
  have ndD:D.Nodup:=by
   have e:D.map (Qz (Yo h))=D.map id:=Ig λc hc=>Pt (hD c hc)
   rw[e,List.map_id] at nd
   exact nd
  dsimp only
  rw[show isNone PyData.none=true from rfl]
  array_get_dec
  refine zH (λδ=>∃(k:Nat) (P:List (List Int)) (v5 v6 v7:DV),δ=⟨[.dat .sh (.int h),.dat .sh (.list (D.map Bf)),.dat .sh .none,.dat .sh (.int k),.dat .ow (.list (P.map Bf)),v5,v6,v7],0⟩/\k<=h/\Bars D h k P/\NP v5/\NP v6/\NP v7) (λδ=>h+1 - P1 3 δ) ⟨0,[],_,_,_,rfl,by omega,⟨λ_=>rfl,(λq z=>nomatch z),(λz=>absurd z (by decide)),by decide,Cz⟩,Kq,Kq,Kq⟩ ?_
  (intro _ q_; obtain ⟨k,P,v5,v6,v7,rfl,kh,hB,hv5,hv6,hv7⟩ := q_)
  array_get_dec
  refine O2 (λ_=>?_) (λq=>nomatch q)
  array_get_dec
  refine ⟨h,k,rfl,by omega,by omega,by omega,?_⟩
  rw[Dq,Dq]
  array_get_dec
  have lc:(cw h 0 k).length<=1024:=by
   rw [cw_len]
   exact Ci (kO h k) (Ia (n:=2) (by decide) h1)
  refine Yw (l:=cw h 0 k) (g:=Bf) rfl (λi δ=>∃(M:List (List Int)) (v6 v7:DV),δ=⟨[.dat .sh (.int h),.dat .sh (.list (D.map Bf)),.dat .sh .none,.dat .sh (.int k),.dat .ow (.list (P.map Bf)),.dat .ow (.list (M.map Bf)),v6,v7],0⟩/\M.length=i/\(∀(a:Nat) (u:List Int),a<i->(cw h 0 k)[a]? = some u->∃q∈M,cQ D u q)/\(∀q∈M,Pa D q)/\(0<i->k<h)/\NP v6/\NP v7) ?_ ?_ ?_
  ·exact ⟨[],_,_,rfl,rfl,(λa u z=>absurd z (Dn _)),(λq z=>nomatch z),(λz=>absurd z (Dn _)),hv6,hv7⟩
  ·(intro i w _ hw q_; obtain ⟨M,v6,v7,rfl,lM,hM,hQ,hk,hv6,hv7⟩ := q_)
   have mw:=Ax hw
   have li:=(An.mp hw).1
   array_get_dec
   have lw:w.length≤60:=by rw [(cw_mem.mp mw).1]; omega
   refine ⟨D,w,rfl,lD,lw,λnd2=>?_,λa b x y lt hx hy e=>?_⟩
   ·array_get_dec
    rw[show isNone PyData.none=true from rfl]
    array_get_dec
    exact hP k w P ndD kh mw nd2 hB
   ·array_get_dec
    rw[show isNone (Bf [(a:Int),(b:Int)])=false from rfl]
    array_get_dec
    have al:cQ D w [(a:Int),(b:Int)]:=⟨a,b,x,y,rfl,lt,hx,hy,e⟩
    refine ⟨by rw[Ab]; omega,M++[[(a:Int),(b:Int)]],_,_,i9 (by rw[Bo]; rfl) rfl,by rw[Bh,lM]; rfl,λa' u ha' hu=>?_,λq hq=>?_,λ_=>?_,Ir,Ir⟩
    ·by_cases z:a'=i
     ·subst z
      rw[hw] at hu
      cases hu
      exact ⟨_,Ag _ (Af.mpr rfl),al⟩
     ·obtain ⟨q,q1,q2⟩:=hM a' u (by omega) hu
      exact ⟨q,Al _ q1,q2⟩
    ·rcases Aw.mp hq with z | z
     ·exact hQ q z
     ·rw[Af.mp z]; exact al.ok
    ·refine Hl λz=>?_
     obtain rfl:k=h:=by omega
     rw [cw_full mw,Pt (hD x (Ax hx)),Pt (hD y (Ax hy))] at e
     obtain ⟨i1,i2⟩:=An.mp hx
     obtain ⟨j1,j2⟩:=An.mp hy
     exact Dw.mp ndD a b i1 j1 lt (by rw[i2,j2,e])
  ·(intro _ q_; obtain ⟨M,v6,v7,rfl,lM,hM,hQ,hk,hv6,hv7⟩ := q_)
   have lp:=yC (n:=h) (k:=k) kh
   rw [← cw_len h 0 k] at lp
   have kl:=hk (by omega)
   array_get_dec
   refine ⟨M,rfl,by omega,λL nL iL oL=>?_⟩
   array_get_dec
   have lL:=(Vc nL iL).1
   refine ⟨⟨k+1,L,_,_,_,rfl,by omega,⟨λz=>by omega,λq hq=>hQ q ((iL q).mp hq),λ_ u hu=>?_,by omega,nL⟩,xE,hv6,hv7⟩,?_⟩
   ·rw[Nat.add_sub_cancel] at hu
    obtain ⟨a,ha⟩:=Tg.mp hu
    obtain ⟨q,q1,q2⟩:=hM a u (An.mp ha).1 ha
    exact ⟨q,(iL q).mpr q1,q2⟩
   ·show h+1 - ((k:Int)+1).toNat<h+1 - (k:Int).toNat
    omega
end
def rS:DF:=λds n R=>∃h:Int,ds=[.int h]/\0<h/\h<=60/\n<=90000/\∀ns,Ef h ns->R (Bf ns) (n+1)
def X9:PF:=λds R=>∃c p:List Int,ds=[Bf c,Bf p]/\c.length<=60/\R (Bf (Qz c p))
theorem Ws{h:Nat}(p:Nat->Bool):Ef h (((Bi h).filter p).map λk:Nat=>(k:Int)) :=
 ⟨Ze.mpr ((List.pairwise_lt_range.filter _).imp λz=>by omega),λx hx=>by
  obtain ⟨k,hk,rfl⟩:=Br.mp hx
  have:=Df.mp (Hv.mp hk).1
  omega⟩
section
variable{P:Bj}{w:World}{K:PySem.W.Frag}{mg:Str->Option Value}{base:Heap}
theorem dN:FnScope ["_law_draws_here", "_law_holes", "_law_pick", "_law_told", "_law_place"] ["_law_draws_here", "_law_holes"] (Bq Qd):=⟨rfl,rfl,rfl,by decide +kernel,rfl,by decide +kernel,by decide +kernel⟩
theorem cZ{f f_L_next  : Addr}{fd d_L_next:Cq}(F:Fun K "_law_small" "_law_small" Qd f fd)(G_L_next:FnOk P w K mg base Hn 1 f_L_next d_L_next ["_law_draws_here"] (B8 K gK))(b_L_next:Binds K d_L_next ["_law_draws_here"] [])(k_L_next:PySem.W.keepIn K (.ref f_L_next)=true)(m_L_next:mg "_law_next" = some (.ref f_L_next))(mz_range:mg "range" = none)(mz_tuple:mg "tuple" = none):FnOk P w K mg base Hn 2 f fd ["_law_draws_here", "_law_holes"] (B8 K (rS)):=by
 refine' E5 (k:=1) F dN (λcdv A outer s H E hr=>?hb) ?h
 case hb =>
  have hr1:Room 1 _:=hr.mono (by decide)
  have hu64:=hr.units
  exact Cc (Fw (i:=2) dN.nd rfl (Dj rfl) (Pj G_L_next hr1 rfl m_L_next k_L_next b_L_next Fd (pv 0) Ba))
   (Cc (Ry (i:=3) dN.nd rfl (Dj rfl) (Lk Ba))
   (Cc (Mo Du rfl (Kt rfl mz_range (Ak (Am (pv 1)) Ba)) (Gp (i:=4) dN.nd rfl (Dj rfl))
   (Cc (Ib (Tu hu64 (aC (Am (pv 2)) Cs) Cs)
    (Cr (fJ (pv 3) (Am (pv 4)))) Gb)
    (Cr (Fw (i:=2) dN.nd rfl (Dj rfl) (vE (Am (pv 2)) Cs)))))
   (Cr (Ds (Iw Ve (Vh (i:=true)) rfl mz_tuple (by decide +kernel) (Ak (Am (pv 3)) Ba))))))
 case h =>
  (intro ds n R q_; obtain ⟨h,rfl,h0,h1,hn,hR⟩ := q_)
  refine ⟨rfl,?_⟩
  array_get_dec
  refine ⟨rfl,by omega,λr1=>?_⟩
  array_get_dec
  refine ⟨by omega,by omega,?_⟩
  refine Yw (l:=Bi h.toNat) (g:=λi:Nat=>.int i) rfl (λi δ=>∃(p:Int) (ns:List Int) (v:DV),δ=⟨[.drw,.dat .sh (.int h),.dat .sh (.int p),.dat .ow (.list (ns.map Bm)),v],n+1⟩/\Ef i ns/\NP v) ?_ ?_ ?_
  ·exact ⟨_,[],_,rfl,Ef.nil _,Kq⟩
  ·(intro i a _ ha q_; obtain ⟨p,ns,v,rfl,hr,hv⟩ := q_)
   obtain ⟨rfl,hi⟩:=cM ha
   have l60:=sY (Y0 hr) (λx hx=>by have:=hr.2 x hx; omega)
   array_get_dec
   refine Tt (λhb=>?_) (λhb=>?_)
   ·array_get_dec
    refine ⟨by rw[Ab]; omega,?_⟩
    refine ⟨_,ns++[(a:Int)],_,i9 (by rw[Bo]; rfl) rfl,hr.more (by omega),Ir⟩
   ·array_get_dec
    exact ⟨_,ns,_,rfl,hr.up (by omega),Ir⟩
  ·(intro _ q_; obtain ⟨p,ns,v,rfl,hr,hv⟩ := q_)
   rw[Dm] at hr
   array_get_dec
   exact ⟨by omega,hR ns (by rwa [show ((h.toNat:Nat):Int)=h by omega] at hr)⟩
theorem mU:FnScope ["_law_card", "_law_places"] ["_law_card", "_law_places"] (Bq Sq):=⟨rfl,rfl,rfl,by decide +kernel,rfl,by decide +kernel,by decide +kernel⟩
theorem oD{f   : Addr}{fd  : Cq}(F:Fun K "_law_at" "_law_at" Sq f fd)(mz_tuple:mg "tuple" = none):FnOk P w K mg base Hn 1 f fd ["_law_card", "_law_places"] (Nr K (X9)):=by
 refine' Gy (k:=0) F mU (λcdv A outer s H E hr=>?hb) ?h
 case hb =>
  have hu64:=hr.units
  have CS1:∀{scope:Scope} (h:scope={ kind:=.function,names:=[(".0",.local),("_law_place",.local),("_law_places",.free)],isGenerator:=false,isCoroutine:=false }),
    CompScope (Me Hn P w K mg base ["_law_card", "_law_places"] "_law_at" (Bq Sq) f cdv A outer s H E).nox scope [("_law_places",s.heap.objs.size+1)] "_law_place" ["_law_places"] [1]:=by
   rintro scope rfl
   refine ⟨by rfl,.inl (by decide +kernel),by rfl,by decide +kernel,.inl rfl,λy c h=>?_,by rfl,by decide +kernel,rfl,λk y j e1 e2=>?_⟩
   ·have z:=Ff h
    simp only[Ao,Bz,or_false,Fz] at z
    obtain ⟨rfl,rfl⟩:=z; rfl
   ·match k,e1,e2 with
    | 0,e1,e2=>cases e1; cases e2; exact ⟨rfl,rfl,by first | exact .inl rfl | exact .inr rfl⟩
    | k+1,e1,e2=>cases e1
  exact Cr (Ds (Iw Ve (Vh (i:=true)) rfl mz_tuple (by decide +kernel) (Ak (Ly (CS1 rfl) rfl (FJ (Am (pv 0))) (λ_ _ _=>Os (yE hu64 (Am (pv 0)) (Am (pv 1)))) (λ_ _ _=>Am (pv 0))) Ba)))
 case h =>
  (intro ds R q_; obtain ⟨c,p,rfl,lp,hR⟩ := q_)
  refine ⟨rfl,?_⟩
  array_get_dec
  refine Vo (l:=c) (g:=Bm) rfl (λi=>decide (i∈p)) Bm (λi _ yes no hy hn=>?_) ?_
  ·array_get_dec
   refine Su (λh=>?_) (λh=>?_)
   ·array_get_dec
    exact hy h
   ·exact hn h
  array_get_dec
  exact hR
end
theorem cw_iff {h k:Nat} {w:List Int}:w∈cw h 0 k↔w.length=k∧Ef h w:=by
 constructor
 ·intro z
  exact ⟨(cw_mem.mp z).1,cw_rise z⟩
 ·rintro ⟨a,b⟩
  exact cw_mem.mpr ⟨a,b.1,fun x hx=>by have:=b.2 x hx; omega⟩
def AG(w:List Int)(k:Nat):Bool:=decide (∀x∈w,x<(k:Int))
def ext(h:Nat)(w:List Int):List (List Int):=((Bi h).filter (AG w)).map λk:Nat=>w++[(k:Int)]
def nO(h:Nat):Nat->List (List Int)
 | 0=>[[]]
 | t+1=>(nO h t).flatMap (ext h)
theorem EV{h:Nat}{w v:List Int}:v∈ext h w↔∃k:Nat,k<h/\(∀x∈w,x<(k:Int))/\v=w++[(k:Int)]:=by
 unfold ext AG
 constructor
 ·intro z
  obtain ⟨k,hk,e⟩:=Br.mp z
  obtain ⟨k1,k2⟩:=Hv.mp hk
  exact ⟨k,Df.mp k1,of_decide_eq_true k2,e.symm⟩
 ·(intro q_; obtain ⟨k,k1,k2,e⟩ := q_)
  exact Br.mpr ⟨k,Hv.mpr ⟨Df.mpr k1,decide_eq_true k2⟩,e.symm⟩
theorem x9{h:Nat}:∀{t:Nat} {w:List Int},w∈nO h t↔w∈cw h 0 t
 | 0,w=>by
  rw [cw_iff]
  show w∈[[]]↔_
  rw[Af]
  exact ⟨λe=>by rw[e]; exact ⟨rfl,Ef.nil _⟩,λe=>Gm.mp e.1⟩
 | t+1,w=>by
  show w∈(nO h t).flatMap (ext h)↔_
  rw [List.mem_flatMap,cw_iff]
  constructor
  ·(intro q_; obtain ⟨u,hu,hv⟩ := q_)
   obtain ⟨k,k1,k2,rfl⟩:=EV.mp hv
   obtain ⟨l,r⟩:=cw_iff.mp (x9.mp hu)
   refine ⟨by rw[Bh,l]; rfl,Ce.mpr ⟨r.1,Eb _ _,λa ha b hb=>?_⟩,λx hx=>?_⟩
   ·rw[Af.mp hb]; exact k2 a ha
   ·rcases Aw.mp hx with z | z
    ·exact r.2 x z
    ·rw[Af.mp z]; omega
  ·rintro ⟨l,r⟩
   obtain ⟨u,z,rfl⟩ : ∃u z,w=u++[z]:=by
    rcases List.eq_nil_or_concat w with e | ⟨u,z,e⟩
    ·rw[e] at l; cases l
    ·exact ⟨u,z,by rw[e]; simp⟩
   rw[Bh] at l
   obtain ⟨r1,r2,r3⟩:=Ce.mp r.1
   have bz:=r.2 z (Ag _ (Af.mpr rfl))
   refine ⟨u,x9.mpr (cw_iff.mpr ⟨by simpa using l,r1,fun x hx=>r.2 x (Al _ hx)⟩),EV.mpr ⟨z.toNat,by omega,fun x hx=>?_,?_⟩⟩
   ·have:=r3 x hx z (Af.mpr rfl); omega
   ·rw[show ((z.toNat:Nat):Int)=z by omega]
theorem oN{h:Nat}:∀{L:List (List Int)},L.Nodup->(L.flatMap (ext h)).Nodup
 | [],_=>Cz
 | w::L,nd=>by
  obtain ⟨n1,n2⟩:=Cn.mp nd
  rw[Zg]
  refine Gk.mpr ⟨?_,oN n2,λa ha b hb e=>?_⟩
  ·refine List.Pairwise.map (R:=λx y:Nat=>x≠y) _ (λx y z e=>?_) (List.nodup_range.filter _)
   have:=(List.append_inj' e rfl).2
   injection this with this
   exact z (by omega)
  ·obtain ⟨k,_,_,rfl⟩:=EV.mp ha
   obtain ⟨u,hu,hv⟩:=Ec.mp hb
   obtain ⟨k',_,_,e2⟩:=EV.mp hv
   rw[e2] at e
   have:=(List.append_inj' e rfl).1
   exact n1 (by rw[this]; exact hu)
theorem wV{h:Nat}:∀t,(nO h t).Nodup
 | 0=>Cn.mpr ⟨(λz=>nomatch z),Cz⟩
 | t+1=>oN (wV t)
theorem J9{h:Nat}(h1:h<=10)(t i:Nat):(((nO h t).take i).flatMap (ext h)).length<=1024:=by
 have nd:(((nO h t).take i).flatMap (ext h)).Nodup:=oN ((Hw _ _).nodup (wV t))
 have:=Sj (l2:=cw h 0 (t+1)) nd λv hv=>by
  rw[<- x9]
  obtain ⟨u,hu,hv⟩:=Ec.mp hv
  exact Ec.mpr ⟨u,Ng hu,hv⟩
 rw [cw_len] at this
 exact Ci this (Ci (kO h _) (Ia (n:=2) (by decide) h1))
theorem u6{w:List Int}(r:w.Pairwise (· < ·)){z:Int}(h:w.getLast? = some z)(k:Nat):decide (z<(k:Int))=AG w k:=by
 unfold AG
 obtain ⟨u,rfl⟩ : ∃u,w=u++[z]:=List.getLast?_eq_some_iff.mp h
 obtain ⟨r1,r2,r3⟩:=Ce.mp r
 refine decide_eq_decide.mpr ⟨λq x hx=>?_,λq=>q z (Ag _ (Af.mpr rfl))⟩
 rcases Aw.mp hx with y | y
 ·have:=r3 x y z (Af.mpr rfl); omega
 ·rw[Af.mp y]; exact q
theorem rM(w:List Int)(k:Int):Bf (w++[k])=.tuple (w.map Bm++[.int k]):=by unfold Bf; rw[Bo]; rfl
def lN:PF:=λds R=>∃h k:Nat,ds=[.int h,.int k]/\h<=10/\k<=10/\R (.list ((nO h k).map Bf))
def eY:PF:=λds R=>∃(D:List (List Int)) (p:List Int),ds=[.list (D.map Bf),Bf p]/\D.length<=1000/\(∀c∈D,c.length<=60)/\((D.map λc=>Qz c p).Nodup->R (.bool true))/\(¬ (D.map λc=>Qz c p).Nodup->R (.bool false))
def sC:PF:=λds R=>∃(D:List (List Int)) (q:List Int),ds=[.list (D.map Bf),Bf q]/\Pa D q/\R (.bool true)
section
variable{P:Bj}{w:World}{K:PySem.W.Frag}{mg:Str->Option Value}{base:Heap}
theorem cB:FnScope ["_law_holes", "_law_many", "_law_told", "_law_turn", "_law_more", "_law_word"] ["_law_holes", "_law_many"] (Bq Lx):=⟨rfl,rfl,rfl,by decide +kernel,rfl,by decide +kernel,by decide +kernel⟩
theorem aJ{f   : Addr}{fd  : Cq}(F:Fun K "_law_chosen" "_law_chosen" Lx f fd)(mz_range:mg "range" = none):FnOk P w K mg base Hn 1 f fd ["_law_holes", "_law_many"] (FC K (lN)):=by
 refine' h9 (k:=0) F cB (λcdv A outer s H E hr=>?hb) ?h
 case hb =>
  have hu64:=hr.units
  have CS1:∀{scope:Scope} (h:scope={ kind:=.function,names:=[(".0",.local),("_law_place",.local),("_law_word",.free)],isGenerator:=false,isCoroutine:=false }),
    CompScope (Me Hn P w K mg base ["_law_holes", "_law_many", "_law_told", "_law_turn", "_law_more", "_law_word"] "_law_chosen" (Bq Lx) f cdv A outer s H E).nox scope [("_law_word",s.heap.objs.size+1)] "_law_place" ["_law_word"] [5]:=by
   rintro scope rfl
   refine ⟨by rfl,.inl (by decide +kernel),by rfl,by decide +kernel,.inl rfl,λy c h=>?_,by rfl,by decide +kernel,rfl,λk y j e1 e2=>?_⟩
   ·have z:=Ff h
    simp only[Ao,Bz,or_false,Fz] at z
    obtain ⟨rfl,rfl⟩:=z; rfl
   ·match k,e1,e2 with
    | 0,e1,e2=>cases e1; cases e2; exact ⟨rfl,rfl,by first | exact .inl rfl | exact .inr rfl⟩
    | k+1,e1,e2=>cases e1
  exact Cc (Fw (i:=2) cB.nd rfl (Dj rfl) (Lk (Ak (Ml Ba) Ba)))
   (Cc (Mo Du rfl (Kt rfl mz_range (Ak (Am (pv 1)) Ba)) (Gp (i:=3) cB.nd rfl (Dj rfl))
   (Cc (Fw (i:=4) cB.nd rfl (Dj rfl) (Lk Ba))
    (Cc (Mo Du rfl (sL (Am (pv 2))) (Gp (i:=5) cB.nd rfl (Or.inr rfl))
    (Cr (Fw (i:=4) cB.nd rfl (Dj rfl) (iD (Am (pv 4)) (Ly (CS1 rfl) rfl (Kt rfl mz_range (Ak (Am (pv 0)) Ba)) (λ_ _ _=>Os (Ys (Mr (Tu hu64 (Am (pv 1)) (Ml Ba)) (Mk (P0 (Am (pv 0)) (Ex (Am (pv 1)) (T4 Cs))))))) (λ_ _ _=>pQ (Am (pv 1)) (Ml (Ak (Nw (Am (pv 0))) Ba))))))))
    (Cr (Fw (i:=2) cB.nd rfl (Dj rfl) (Am (pv 4)))))))
   (Cr (Ds (Am (pv 2)))))
 case h =>
  (intro ds R q_; obtain ⟨h,k,rfl,h1,k1,hR⟩ := q_)
  refine ⟨rfl,?_⟩
  array_get_dec
  refine ⟨by omega,by omega,?_⟩
  rw[Dq]
  refine Yw (l:=Bi k) (g:=λi:Nat=>.int i) rfl (λt δ=>∃(v3 v4 v5:DV),δ=⟨[.dat .sh (.int h),.dat .sh (.int k),.dat .sh (.list ((nO h t).map Bf)),v3,v4,v5],0⟩/\NP v3/\NP v4/\NP v5) ?_ ?_ ?_
  ·exact ⟨_,_,_,rfl,Kq,Kq,Kq⟩
  ·(intro t a _ ha q_; obtain ⟨v3,v4,v5,rfl,hv3,hv4,hv5⟩ := q_)
   array_get_dec
   refine Yw (l:=nO h t) (g:=Bf) rfl (λi δ=>∃(v5:DV),δ=⟨[.dat .sh (.int h),.dat .sh (.int k),.dat .sh (.list ((nO h t).map Bf)),.dat .sh (.int a),.dat .sh (.list ((((nO h t).take i).flatMap (ext h)).map Bf)),v5],0⟩/\NP v5) ?_ ?_ ?_
   ·exact ⟨_,rfl,hv5⟩
   ·(intro i w _ hw q_; obtain ⟨v5,rfl,hv5⟩ := q_)
    have rw_:=(cw_iff.mp (x9.mp (Ax hw))).2
    have l60:=Kn (rw_.up (show (h:Int)<=60 by omega))
    have e1:((nO h t).take (i+1)).flatMap (ext h)=((nO h t).take i).flatMap (ext h)++ext h w:=by
     obtain ⟨i1,i2⟩:=An.mp hw
     rw[Ft i1,List.flatMap_append,i2]
     simp
    have le:=J9 h1 t (i+1)
    rw[e1,Bh] at le
    array_get_dec
    refine ⟨by omega,by omega,?_⟩
    rw[Dq]
    refine Vo (l:=Bi h) (g:=λk:Nat=>.int k) rfl (AG w) (λk=>Bf (w++[(k:Int)])) (λk hk yes no hy hn=>?_) ?_
    ·array_get_dec
     rw[show Od []=Bf [] from rfl,eqD_word]
     refine yH (λhb=>?_) (λhb=>?_)
     ·have e:w=[]:=of_decide_eq_true hb
      have hy:=hy (by rw[e]; rfl)
      array_get_dec
      exact ⟨by rw[Ab]; omega,by rw[rM] at hy; exact hy⟩
     ·have ne:w≠[]:=of_decide_eq_false hb
      obtain ⟨z,_,z1,z2⟩:=lX ne
      have e3:=K5 Bm w (-1)
      rw[z1] at e3
      array_get_dec
      refine ⟨_,e3,?_⟩
      array_get_dec
      rw[u6 rw_.1 z2 k]
      refine Su (λq=>?_) (λq=>?_)
      ·have hy:=hy q
       array_get_dec
       exact ⟨by rw[Ab]; omega,by rw[rM] at hy; exact hy⟩
      ·exact hn q
    array_get_dec
    have e2:(((Bi h).filter (AG w)).map λk:Nat=>Bf (w++[(k:Int)]))=(ext h w).map Bf:=by unfold ext; rw[Ek]; rfl
    rw[e2]
    refine ⟨by rw[Ab,Ab]; omega,.dat .sh (Bf w),i9 ?_ rfl,Ir⟩
    rw[e1,Bo]
   ·(intro _ q_; obtain ⟨v5,rfl,hv5⟩ := q_)
    rw[Kl]
    array_get_dec
    exact ⟨_,_,_,rfl,Ir,Ir,hv5⟩
  ·(intro _ q_; obtain ⟨v3,v4,v5,rfl,hv3,hv4,hv5⟩ := q_)
   rw[Dm]
   array_get_dec
   exact hR
theorem bC:FnScope ["_law_deck_here", "_law_places", "_law_met"] ["_law_deck_here", "_law_places"] (Bq Ma):=⟨rfl,rfl,rfl,by decide +kernel,rfl,by decide +kernel,by decide +kernel⟩
theorem bZ{f f_L_at  : Addr}{fd d_L_at:Cq}(F:Fun K "_law_parted" "_law_parted" Ma f fd)(G_L_at:FnOk P w K mg base Hn 1 f_L_at d_L_at ["_law_card", "_law_places"] (Nr K (X9)))(b_L_at:Binds K d_L_at ["_law_card", "_law_places"] [])(k_L_at:PySem.W.keepIn K (.ref f_L_at)=true)(m_L_at:mg "_law_at" = some (.ref f_L_at))(mz_len:mg "len" = none)(mz_set:mg "set" = none):FnOk P w K mg base Hn 2 f fd ["_law_deck_here", "_law_places"] (Nr K (eY)):=by
 refine' Gy (k:=1) F bC (λcdv A outer s H E hr=>?hb) ?h
 case hb =>
  have hr1:Room 1 _:=hr.mono (by decide)
  have hu64:=hr.units
  have CS1:∀{scope:Scope} (h:scope={ kind:=.function,names:=[(".0",.local),("_law_card",.local),("_law_at",.globalImplicit),("_law_places",.free)],isGenerator:=false,isCoroutine:=false }),
    CompScope (Me Hn P w K mg base ["_law_deck_here", "_law_places", "_law_met"] "_law_parted" (Bq Ma) f cdv A outer s H E).nox scope [("_law_places",s.heap.objs.size+1)] "_law_card" ["_law_places"] [1]:=by
   rintro scope rfl
   refine ⟨by rfl,.inl (by decide +kernel),by rfl,by decide +kernel,.inl rfl,λy c h=>?_,by rfl,by decide +kernel,rfl,λk y j e1 e2=>?_⟩
   ·have z:=Ff h
    simp only[Ao,Bz,or_false,Fz] at z
    obtain ⟨rfl,rfl⟩:=z; rfl
   ·match k,e1,e2 with
    | 0,e1,e2=>cases e1; cases e2; exact ⟨rfl,rfl,by first | exact .inl rfl | exact .inr rfl⟩
    | k+1,e1,e2=>cases e1
  exact Cc (B2 (o:=false) (i0:=2) bC.nd rfl rfl (CS1 rfl) rfl (sL (Am (pv 0))) (λ_ _ _=>Rh) (λ_ _ _=>Dy G_L_at hr1 rfl m_L_at k_L_at b_L_at Fd (Ak (Am (pv 0)) (Ak (Am (pv 1)) Ba))))
   (Cr (Ds (aE hu64 (tI hu64 rfl rfl mz_len rfl mz_set (Ak (Am (pv 2)) Ba)) (Eh Ie Lv rfl mz_len (by decide +kernel) (Ak (Am (pv 2)) Ba)))))
 case h =>
  (intro ds R q_; obtain ⟨D,p,rfl,lD,lc,hT,hF⟩ := q_)
  refine ⟨rfl,?_⟩
  array_get_dec
  refine xB (l:=D) (g:=Bf) rfl (λc=>Bf (Qz c p)) (λc hc yes no hy=>?_) ?_
  ·array_get_dec
   refine ⟨c,p,rfl,lc c hc,?_⟩
   array_get_dec
   exact hy
  array_get_dec
  refine ⟨D.map λc=>Qz c p,by rw[Ek]; rfl,by rw[Ab]; omega,λn n1 n2 n3=>?_⟩
  rw[Ab] at n1 n2 n3 ⊢
  array_get_dec
  by_cases c:(D.map λc=>Qz c p).Nodup
  ·rw[n2 c,decide_eq_true rfl]
   exact hT c
  ·rw[decide_eq_false λz=>c (n3 (by omega))]
   exact hF c
theorem Yx:FnScope ["_law_deck_here", "_law_pair"] ["_law_deck_here", "_law_pair"] (Bq Lg):=⟨rfl,rfl,rfl,by decide +kernel,rfl,by decide +kernel,by decide +kernel⟩
theorem Yz{f   : Addr}{fd  : Cq}(F:Fun K "_law_is_pair" "_law_is_pair" Lg f fd)(mz_len:mg "len" = none)(mz_tuple:mg "tuple" = none)(mz_isinstance:mg "isinstance" = none)(mz_int:mg "int" = none)(mz_bool:mg "bool" = none):FnOk P w K mg base Hn 1 f fd ["_law_deck_here", "_law_pair"] (Nr K (sC)):=by
 refine' Gy (k:=0) F Yx (λcdv A outer s H E hr=>?hb) ?h
 case hb =>
  have hu64:=hr.units
  have CS1:∀{scope:Scope} (h:scope={ kind:=.function,names:=[(".0",.local),("_law_one",.local),("isinstance",.globalImplicit),("bool",.globalImplicit),("int",.globalImplicit)],isGenerator:=false,isCoroutine:=false }),
    CompScope (Me Hn P w K mg base ["_law_deck_here", "_law_pair"] "_law_is_pair" (Bq Lg) f cdv A outer s H E).nox scope [] "_law_one" [] []:=by
   rintro scope rfl
   exact Nd.compScope0 (by rfl) (by decide +kernel) (by rfl) (by decide +kernel) (by rfl) (by rfl)
  exact Cc (Ib (Ys (Mr (Ke (Iz (Eh Pb Oz rfl mz_isinstance (by decide +kernel) (Ak (Am (pv 1)) (Ak (Tq (n := "tuple") rfl mz_tuple (by decide +kernel)) Ba))))) (Mk (Rf hu64 (Eh Ie Lv rfl mz_len (by decide +kernel) (Ak (Am (pv 1)) Ba)) Cs))))
   (Cr (Ds Ka)) Gb)
   (Cc (Ib (Rf hu64 (Ly (CS1 rfl) rfl (FJ (Am (pv 1))) (λ_ _ _=>Os (Ys (Mr (Iz (Eh Pb Oz rfl mz_isinstance (by decide +kernel) (Ak (Am (pv 0)) (Ak (Tq (n := "bool") rfl mz_bool (by decide +kernel)) Ba)))) (Mk (Ke (Iz (Eh Pb Oz rfl mz_isinstance (by decide +kernel) (Ak (Am (pv 0)) (Ak (Tq (n := "int") rfl mz_int (by decide +kernel)) Ba))))))))) (λ_ _ _=>Am (pv 0))) (Lk Ba))
   (Cr (Ds Ka)) Gb)
   (Cr (Ds (Rg (EC Cs (Ex (Am (pv 1)) Cs)) (Rg (qT (Ex (Am (pv 1)) Cs) (Ex (Am (pv 1)) Cs)) (Zv (qT (Ex (Am (pv 1)) Cs) (Eh Ie Lv rfl mz_len (by decide +kernel) (Ak (Am (pv 0)) Ba)))))))))
 case h =>
  (intro ds R q_; obtain ⟨D,q,rfl,⟨a,b,rfl,lt,lb⟩,hR⟩ := q_)
  refine ⟨rfl,?_⟩
  array_get_dec
  refine Vo (l:=[(a:Int),(b:Int)]) (g:=Bm) rfl (λ_=>false) Bm (λi _ yes no hy hn=>?_) ?_
  ·array_get_dec
   exact hn rfl
  rw[show [(a:Int),(b:Int)].filter (λ_=>false)=[] from rfl]
  array_get_dec
  rw[decide_eq_true (show (0:Int)<=(a:Int) by omega)]
  array_get_dec
  rw[decide_eq_true (show (a:Int)<(b:Int) by omega)]
  array_get_dec
  rw[Ab,decide_eq_true (show (b:Int)<(D.length:Int) by omega)]
  exact hR
end
theorem Ra{p c:List Int}(hp:p.Pairwise (· < ·))(hc:c.Pairwise (· < ·)):Qz c p=Qz p c :=
 cD (Zy hc) (Zy hp) λx=>by rw[iP,iP,And.comm]
theorem Lm{D:List (List Int)}{a:Nat}{x:List Int}(h:D[a]? = some x):Ue (D.map Bf) (a:Int)=some (Bf x):=by
 refine fZ (j:=a) ?_
 rw[Bw,h]
 rfl
def yN:PF:=λds R=>∃(h k:Nat) (D P:List (List Int)),ds=[.int h,.list (D.map Bf),.int k,.list (P.map Bf)]/\h<=10/\k<=10/\(∀c∈D,Ef h c)/\P.length<=1100/\(∀q∈P,Pa D q)/\((∀u∈cw h 0 k,∃q∈P,cQ D u q)->R (.bool true))/\(¬ (∀u∈cw h 0 k,∃q∈P,cQ D u q)->R (.bool false))
def Xy(i j:Nat):Ad:=.tuple [.str "same",.int i,.int j]
def Vv(w:List Int)(P:List (List Int)):Ad:=.tuple [.str "places",Bf w,.list (P.map Bf)]
def eV(h:Nat)(D:List (List Int))(w:List Int)(P:List (List Int)):Prop:=Ef h w/\(D.map (Qz w)).Nodup/\(w=[]->P=[])/\(w≠[]->∀u∈cw h 0 (w.length - 1),∃q∈P,cQ D u q)
def Ss:PF:=λds R=>∃(h:Nat) (D:List (List Int)) (T:Ad),ds=[.int h,.list (D.map Bf),T]/\1<=h/\h<=10/\D.length<=1000/\(∀c∈D,Ef h c) /\
  ((∃(i j:Nat) (x y:List Int),i<j/\D[i]? = some x/\D[j]? = some y/\T=Xy i j/\(x=y->R (.bool true))/\(x≠y->R (.bool false))) \/
   ∃(w:List Int) (P:List (List Int)),Ef 12 w/\(∀q∈P,Pa D q)/\P.length<=1100/\T=Vv w P/\(eV h D w P->R (.bool true))/\(¬ eV h D w P->R (.bool false)))
theorem eJ{h:Nat}{w:List Int}(r:Ef h w):w.length<=h:=by
 have:=(Pr r.1 (Xf h) λz hz=>Br.mpr ⟨z.toNat,Df.mpr (by have:=r.2 z hz; omega),by have:=r.2 z hz; omega⟩).length_le
 unfold Yo at this
 simpa using this
theorem FD{w:List Int}{h:Nat}:(w=((Bi h).filter λk:Nat=>decide ((k:Int)∈w)).map λk:Nat=>(k:Int))↔Ef h w:=by
 constructor
 ·intro e
  rw[e]
  exact Ws _
 ·intro r
  refine cD r.1 (Ws (h:=h) _).1 λx=>?_
  constructor
  ·intro hx
   have b:=r.2 x hx
   exact Br.mpr ⟨x.toNat,Hv.mpr ⟨Df.mpr (by omega),decide_eq_true (by rw[show ((x.toNat:Nat):Int)=x by omega]; exact hx)⟩,by omega⟩
  ·intro hx
   obtain ⟨k,hk,rfl⟩:=Br.mp hx
   exact of_decide_eq_true (Hv.mp hk).2
section
variable{P:Bj}{w:World}{K:PySem.W.Frag}{mg:Str->Option Value}{base:Heap}
theorem fW:FnScope ["_law_holes", "_law_deck_here", "_law_many", "_law_pairs", "_law_places"] ["_law_holes", "_law_deck_here", "_law_many", "_law_pairs"] (Bq Oi):=⟨rfl,rfl,rfl,by decide +kernel,rfl,by decide +kernel,by decide +kernel⟩
theorem hW{f f_L_at f_L_chosen  : Addr}{fd d_L_at d_L_chosen:Cq}(F:Fun K "_law_bars" "_law_bars" Oi f fd)(G_L_at:FnOk P w K mg base Hn 1 f_L_at d_L_at ["_law_card", "_law_places"] (Nr K (X9)))(b_L_at:Binds K d_L_at ["_law_card", "_law_places"] [])(k_L_at:PySem.W.keepIn K (.ref f_L_at)=true)(m_L_at:mg "_law_at" = some (.ref f_L_at))(G_L_chosen:FnOk P w K mg base Hn 1 f_L_chosen d_L_chosen ["_law_holes", "_law_many"] (FC K (lN)))(b_L_chosen:Binds K d_L_chosen ["_law_holes", "_law_many"] [])(k_L_chosen:PySem.W.keepIn K (.ref f_L_chosen)=true)(m_L_chosen:mg "_law_chosen" = some (.ref f_L_chosen)):FnOk P w K mg base Hn 2 f fd ["_law_holes", "_law_deck_here", "_law_many", "_law_pairs"] (Nr K (yN)):=by
 refine' Gy (k:=1) F fW (λcdv A outer s H E hr=>?hb) ?h
 case hb =>
  have hr1:Room 1 _:=hr.mono (by decide)
  have hu64:=hr.units
  have CS1:∀{scope:Scope} (h:scope={ kind:=.function,names:=[(".0",.local),("_law_pair",.local),("_law_at",.globalImplicit),("_law_deck_here",.free),("_law_places",.free)],isGenerator:=false,isCoroutine:=false }),
    CompScope (Me Hn P w K mg base ["_law_holes", "_law_deck_here", "_law_many", "_law_pairs", "_law_places"] "_law_bars" (Bq Oi) f cdv A outer s H E).nox scope [("_law_places",s.heap.objs.size+2),("_law_deck_here",s.heap.objs.size+1)] "_law_pair" ["_law_deck_here", "_law_places"] [1,4]:=by
   rintro scope rfl
   refine ⟨by rfl,.inl (by decide +kernel),by rfl,by decide +kernel,.inl rfl,λy c h=>?_,by rfl,by decide +kernel,rfl,λk y j e1 e2=>?_⟩
   ·have z:=Ff h
    simp only[Ao,Bz,or_false,Fz] at z
    rcases z with ⟨rfl,rfl⟩ | ⟨rfl,rfl⟩ <;> rfl
   ·match k,e1,e2 with
    | 0,e1,e2=>cases e1; cases e2; exact ⟨rfl,rfl,by first | exact .inl rfl | exact .inr rfl⟩
    | 1,e1,e2=>cases e1; cases e2; exact ⟨rfl,rfl,by first | exact .inl rfl | exact .inr rfl⟩
    | k+2,e1,e2=>cases e1
  exact Cc (Mo Du rfl (sL (j3 G_L_chosen hr1 rfl m_L_chosen k_L_chosen b_L_chosen Fd (Ak (Am (pv 0)) (Ak (Am (pv 2)) Ba)))) (Gp (i:=4) fW.nd rfl (Or.inr rfl))
   (Cr (Ib (Tu hu64 (Ly (CS1 rfl) rfl (sL (Am (pv 3))) (λ_ _ _=>Os (Tu hu64 (Dy G_L_at hr1 rfl m_L_at k_L_at b_L_at Fd (Ak (Ex (Am (pv 1)) (Ex (Am (pv 0)) Cs)) (Ak (Am (pv 2)) Ba))) (Dy G_L_at hr1 rfl m_L_at k_L_at b_L_at Fd (Ak (Ex (Am (pv 1)) (Ex (Am (pv 0)) Cs)) (Ak (Am (pv 2)) Ba))))) (λ_ _ _=>Am (pv 0))) (Lk Ba))
    (Cr (Ds Ka)) Gb)))
   (Cr (Ds Ka))
 case h =>
  (intro ds R q_; obtain ⟨h,k,D,P,rfl,h1,k1,hD,lP,hP,hT,hF⟩ := q_)
  refine ⟨rfl,?_⟩
  array_get_dec
  refine ⟨h,k,rfl,h1,k1,?_⟩
  array_get_dec
  refine Yw (l:=nO h k) (g:=Bf) rfl (λi δ=>(∃(v4:DV),δ=⟨[.dat .sh (.int h),.dat .sh (.list (D.map Bf)),.dat .sh (.int k),.dat .sh (.list (P.map Bf)),v4],0⟩/\NP v4)/\∀(a:Nat) (u:List Int),a<i->(nO h k)[a]? = some u->∃q∈P,cQ D u q) ?_ ?_ ?_
  ·exact ⟨⟨_,rfl,Kq⟩,λa u z=>absurd z (Dn _)⟩
  ·(intro i u _ hu q_; obtain ⟨⟨v4,rfl,hv4⟩,hall⟩ := q_)
   have mu:=x9.mp (Ax hu)
   have ru:=cw_rise mu
   array_get_dec
   refine Vo (l:=P) (g:=Bf) rfl (λq=>@decide (cQ D u q) (Cf _)) Bf (λq hq yes no hy hn=>?_) ?_
   ·obtain ⟨a,b,rfl,lt,lb⟩:=hP q hq
    have hx:D[a]? = some D[a]:=Be (by omega)
    have hyy:D[b]? = some D[b]:=Be lb
    have rx:=hD D[a] (Ip _)
    have ry:=hD D[b] (Ip _)
    have lx:=Kn (rx.up (show (h:Int)<=60 by omega))
    have ly:=Kn (ry.up (show (h:Int)<=60 by omega))
    array_get_dec
    refine ⟨_,Lm hx,D[a],u,rfl,lx,?_⟩
    array_get_dec
    refine ⟨_,Lm hyy,D[b],u,rfl,ly,?_⟩
    array_get_dec
    refine Su (λz=>?_) (λz=>?_)
    ·array_get_dec
     refine hy (@decide_eq_true _ (Cf _) ⟨a,b,_,_,rfl,lt,hx,hyy,?_⟩)
     rw[<- Ra ru.1 rx.1,<- Ra ru.1 ry.1]
     exact of_decide_eq_true z
    ·refine hn (@decide_eq_false _ (Cf _) ?_)
     (intro q_; obtain ⟨a',b',x',y',e,_,hx',hy',en⟩ := q_)
     injection e with e1 e2
     injection e2 with e2 _
     have e1:a=a':=by omega
     have e2:b=b':=by omega
     subst e1 e2
     rw[hx] at hx'
     rw[hyy] at hy'
     cases hx'
     cases hy'
     rw[<- Ra ru.1 rx.1,<- Ra ru.1 ry.1] at en
     exact of_decide_eq_false z en
   by_cases ex:∃q∈P,cQ D u q
   ·obtain ⟨q,hq,al⟩:=ex
    have ne:q∈P.filter (λq=>@decide (cQ D u q) (Cf _)):=Hv.mpr ⟨hq,@decide_eq_true _ (Cf _) al⟩
    obtain ⟨q0,Fo,er⟩ : ∃q0 Fo,P.filter (λq=>@decide (cQ D u q) (Cf _))=q0::Fo:=by
     cases e:P.filter (λq=>@decide (cQ D u q) (Cf _)) with
     | nil=>rw[e] at ne; cases ne
     | cons q0 Fo=>exact ⟨q0,Fo,rfl⟩
    rw[er]
    array_get_dec
    refine ⟨⟨_,rfl,Ir⟩,λa u' ha hu'=>?_⟩
    by_cases z:a=i
    ·subst z
     rw[hu] at hu'
     cases hu'
     exact ⟨q,hq,al⟩
    ·exact hall a u' (by omega) hu'
   ·have er:P.filter (λq=>@decide (cQ D u q) (Cf _))=[]:=List.filter_eq_nil_iff.mpr λq hq z=>ex ⟨q,hq,@of_decide_eq_true _ (Cf _) z⟩
    rw[er]
    array_get_dec
    exact hF λz=>ex (z u mu)
  ·(intro _ q_; obtain ⟨⟨v4,rfl,hv4⟩,hall⟩ := q_)
   array_get_dec
   refine hT λu hu=>?_
   obtain ⟨a,ha⟩:=Tg.mp (x9.mpr hu)
   exact hall a u (An.mp ha).1 ha
theorem dD:FnScope ["_law_holes", "_law_deck_here", "_law_thing"] ["_law_holes", "_law_deck_here", "_law_thing"] (Bq Li):=⟨rfl,rfl,rfl,by decide +kernel,rfl,by decide +kernel,by decide +kernel⟩
theorem dJ{f f_L_parted f_L_is_pair f_L_bars  : Addr}{fd d_L_parted d_L_is_pair d_L_bars:Cq}(F:Fun K "_law_holds" "_law_holds" Li f fd)(G_L_parted:FnOk P w K mg base Hn 2 f_L_parted d_L_parted ["_law_deck_here", "_law_places"] (Nr K (eY)))(b_L_parted:Binds K d_L_parted ["_law_deck_here", "_law_places"] [])(k_L_parted:PySem.W.keepIn K (.ref f_L_parted)=true)(m_L_parted:mg "_law_parted" = some (.ref f_L_parted))(G_L_is_pair:FnOk P w K mg base Hn 1 f_L_is_pair d_L_is_pair ["_law_deck_here", "_law_pair"] (Nr K (sC)))(b_L_is_pair:Binds K d_L_is_pair ["_law_deck_here", "_law_pair"] [])(k_L_is_pair:PySem.W.keepIn K (.ref f_L_is_pair)=true)(m_L_is_pair:mg "_law_is_pair" = some (.ref f_L_is_pair))(G_L_bars:FnOk P w K mg base Hn 2 f_L_bars d_L_bars ["_law_holes", "_law_deck_here", "_law_many", "_law_pairs"] (Nr K (yN)))(b_L_bars:Binds K d_L_bars ["_law_holes", "_law_deck_here", "_law_many", "_law_pairs"] [])(k_L_bars:PySem.W.keepIn K (.ref f_L_bars)=true)(m_L_bars:mg "_law_bars" = some (.ref f_L_bars))(mz_list:mg "list" = none)(mz_range:mg "range" = none)(mz_len:mg "len" = none):FnOk P w K mg base Hn 3 f fd ["_law_holes", "_law_deck_here", "_law_thing"] (Nr K (Ss)):=by
 refine' Gy (k:=2) F dD (λcdv A outer s H E hr=>?hb) ?h
 case hb =>
  have hr1:Room 1 _:=hr.mono (by decide)
  have hr2:Room 2 _:=hr.mono (by decide)
  have hu64:=hr.units
  have CS1:∀{scope:Scope} (h:scope={ kind:=.function,names:=[(".0",.local),("_law_place",.local),("_law_thing",.free)],isGenerator:=false,isCoroutine:=false }),
    CompScope (Me Hn P w K mg base ["_law_holes", "_law_deck_here", "_law_thing"] "_law_holds" (Bq Li) f cdv A outer s H E).nox scope [("_law_thing",s.heap.objs.size+2)] "_law_place" ["_law_thing"] [2]:=by
   rintro scope rfl
   refine ⟨by rfl,.inl (by decide +kernel),by rfl,by decide +kernel,.inl rfl,λy c h=>?_,by rfl,by decide +kernel,rfl,λk y j e1 e2=>?_⟩
   ·have z:=Ff h
    simp only[Ao,Bz,or_false,Fz] at z
    obtain ⟨rfl,rfl⟩:=z; rfl
   ·match k,e1,e2 with
    | 0,e1,e2=>cases e1; cases e2; exact ⟨rfl,rfl,by first | exact .inl rfl | exact .inr rfl⟩
    | k+1,e1,e2=>cases e1
  have CS2:∀{scope:Scope} (h:scope={ kind:=.function,names:=[(".0",.local),("_law_pair",.local),("_law_is_pair",.globalImplicit),("_law_deck_here",.free)],isGenerator:=false,isCoroutine:=false }),
    CompScope (Me Hn P w K mg base ["_law_holes", "_law_deck_here", "_law_thing"] "_law_holds" (Bq Li) f cdv A outer s H E).nox scope [("_law_deck_here",s.heap.objs.size+1)] "_law_pair" ["_law_deck_here"] [1]:=by
   rintro scope rfl
   refine ⟨by rfl,.inl (by decide +kernel),by rfl,by decide +kernel,.inl rfl,λy c h=>?_,by rfl,by decide +kernel,rfl,λk y j e1 e2=>?_⟩
   ·have z:=Ff h
    simp only[Ao,Bz,or_false,Fz] at z
    obtain ⟨rfl,rfl⟩:=z; rfl
   ·match k,e1,e2 with
    | 0,e1,e2=>cases e1; cases e2; exact ⟨rfl,rfl,by first | exact .inl rfl | exact .inr rfl⟩
    | k+1,e1,e2=>cases e1
  exact Cc (Ib (Tu hu64 (Ex (Am (pv 2)) Cs) Xm)
   (Cr (Ds (Rg (Dy G_L_is_pair hr1 rfl m_L_is_pair k_L_is_pair b_L_is_pair Fd (Ak (Am (pv 1)) (Ak (bP (i:=false) (Am (pv 2)) (Vn Cs) Vf) Ba))) (Zv (aE hu64 (Ex (Am (pv 1)) (Ex (Am (pv 2)) Cs)) (Ex (Am (pv 1)) (Ex (Am (pv 2)) Cs))))))) Gb)
   (Cc (Ib (Ys (Mr (Rf hu64 (Iw E9 (r0 (i:=true)) rfl mz_list (by decide +kernel) (Ak (Ex (Am (pv 2)) Cs) Ba)) (Ly (CS1 rfl) rfl (Kt rfl mz_range (Ak (Am (pv 0)) Ba)) (λ_ _ _=>Os (yE hu64 (Am (pv 0)) (Ex (Am (pv 1)) Cs))) (λ_ _ _=>Am (pv 0)))) (Mk (Ke (Iz (Dy G_L_parted hr2 rfl m_L_parted k_L_parted b_L_parted Fd (Ak (Am (pv 1)) (Ak (Ex (Am (pv 2)) Cs) Ba))))))))
   (Cr (Ds Ka)) Gb)
   (Cc (Ib (Rf hu64 (Ly (CS2 rfl) rfl (sL (Ex (Am (pv 2)) Cs)) (λ_ _ _=>Os (Ke (Iz (Dy G_L_is_pair hr1 rfl m_L_is_pair k_L_is_pair b_L_is_pair Fd (Ak (Am (pv 1)) (Ak (Am (pv 0)) Ba)))))) (λ_ _ _=>Am (pv 0))) (Lk Ba))
   (Cr (Ds Ka)) Gb)
   (Cc (Ib (Tu hu64 (Ex (Am (pv 2)) Cs) (Ml Ba))
   (Cr (Ds (aE hu64 (Ex (Am (pv 2)) Cs) (Lk Ba)))) Gb)
   (Cr (Ds (Dy G_L_bars hr2 rfl m_L_bars k_L_bars b_L_bars Fd (Ak (Am (pv 0)) (Ak (Am (pv 1)) (Ak (Rk (Eh Ie Lv rfl mz_len (by decide +kernel) (Ak (Ex (Am (pv 2)) Cs) Ba)) Cs) (Ak (Ex (Am (pv 2)) Cs) Ba))))))))))
 case h =>
  (intro ds R q_; obtain ⟨h,D,T,rfl,h0,h1,lD,hD,hJ⟩ := q_)
  refine ⟨rfl,?_⟩
  have l60:∀c∈D,c.length<=60:=λc hc=>Kn ((hD c hc).up (show (h:Int)<=60 by omega))
  rcases hJ with ⟨i,j,x,y,lt,hi,hj,rfl,hT,hF⟩ | ⟨w,P,rw_,hP,lP,rfl,hT,hF⟩
  ·unfold Xy
   array_get_dec
   refine ⟨D,[(i:Int),(j:Int)],rfl,⟨i,j,rfl,lt,(An.mp hj).1⟩,?_⟩
   array_get_dec
   refine ⟨_,Lm hi,_,Lm hj,?_⟩
   array_get_dec
   by_cases c:x=y
   ·rw[decide_eq_true c]; exact hT c
   ·rw[decide_eq_false c]; exact hF c
  ·unfold Vv
   have lw:=Kn (rw_.up (show (12:Int)<=60 by decide))
   array_get_dec
   refine ⟨by omega,by omega,?_⟩
   rw[Dq]
   refine Vo (l:=Bi h) (g:=λk:Nat=>.int k) rfl (λk:Nat=>decide ((k:Int)∈w)) (λk:Nat=>.int k) (λk hk yes no hy hn=>?_) ?_
   ·array_get_dec
    refine Su (λz=>?_) (λz=>?_)
    ·array_get_dec
     exact hy z
    ·exact hn z
   rw[show (((Bi h).filter λk:Nat=>decide ((k:Int)∈w)).map λk:Nat=>Bm (k:Int))=(((Bi h).filter λk:Nat=>decide ((k:Int)∈w)).map λk:Nat=>(k:Int)).map Bm by rw[Ek]; rfl]
   array_get_dec
   by_cases r:Ef h w
   rotate_left
   ·rw[decide_eq_false λe=>r (FD.mp e)]
    array_get_dec
    exact hF λz=>r z.1
   rw[decide_eq_true (FD.mpr r)]
   array_get_dec
   have eW:(D.map λc=>Qz c w)=D.map (Qz w):=Ig λc hc=>Ra rw_.1 (hD c hc).1
   refine ⟨D,w,rfl,lD,l60,λnd=>?_,λnd=>?_⟩
   rotate_left
   ·array_get_dec
    rw[eW] at nd
    exact hF λz=>nd z.2.1
   rw[eW] at nd
   array_get_dec
   refine Vo (l:=P) (g:=Bf) rfl (λ_=>false) Bf (λq hq yes no hy hn=>?_) ?_
   ·array_get_dec
    refine ⟨D,q,rfl,hP q hq,?_⟩
    array_get_dec
    exact hn rfl
   rw[show P.filter (λ_=>false)=[] by simp]
   array_get_dec
   rw[show Od []=Bf [] from rfl,eqD_word]
   refine Tt (λz=>?_) (λz=>?_)
   ·have e:w=[]:=of_decide_eq_true z
    array_get_dec
    cases P with
    | nil =>
     array_get_dec
     exact hT ⟨r,nd,λ_=>rfl,λz=>absurd e z⟩
    | cons q P =>
     array_get_dec
     exact hF λz=>nomatch z.2.2.1 e
   ·have e:w≠[]:=of_decide_eq_false z
    have l0:0<w.length:=Ko.mpr e
    have rl:w.length<=10:=by
     have:=eJ r
     omega
    array_get_dec
    rw[Ab,show ((w.length:Int) - 1)=((w.length - 1:Nat):Int) by omega]
    refine ⟨h,w.length - 1,D,P,rfl,h1,by omega,hD,lP,hP,λa=>?_,λa=>?_⟩
    ·array_get_dec
     exact hT ⟨r,nd,λz=>absurd z e,λ_=>a⟩
    ·array_get_dec
     exact hF λz=>a (z.2.2.2 e)
end
def iB:PF:=λds R=>∃i:Int,ds=[.int i]/\R (.bool true)
def lY:PF:=λds R=>∃(h:Int) (w:List Int),ds=[.int h,Bf w]/\(Ef h w->R (.bool true))/\(¬ Ef h w->R (.bool false))
def Zx:PF:=λds R=>∃(D:List (List Int)) (a b:Nat),ds=[.list (D.map Bf),.int a,.int b]/\a<b/\b<D.length/\R (.bool true)
def bS:PF:=λds R=>∃(D P:List (List Int)),ds=[.list (D.map Bf),.list (P.map Bf)]/\(∀q∈P,Pa D q)/\R (.bool true)
def xT:PF:=λds R=>∃(D P:List (List Int)) (u:List Int),ds=[.list (D.map Bf),.list (P.map Bf),Bf u]/\u.length<=60/\(∀q∈P,Pa D q)/\((∃q∈P,cQ D u q)->R (.bool true))/\(¬ (∃q∈P,cQ D u q)->R (.bool false))
def eZ:PF:=λds R=>∃(h:Nat) (D:List (List Int)) (w:List Int) (P:List (List Int)),ds=[.int h,.list (D.map Bf),Bf w,.list (P.map Bf)]/\1<=h/\h<=10/\D.length<=1000/\(∀c∈D,Ef h c)/\Ef 12 w/\(∀q∈P,Pa D q)/\P.length<=1100/\(eV h D w P->R (.bool true))/\(¬ eV h D w P->R (.bool false))
section
variable{P:Bj}{w:World}{K:PySem.W.Frag}{mg:Str->Option Value}{base:Heap}
theorem mK:FnScope ["thing"] ["thing"] (Bq Uh):=⟨rfl,rfl,rfl,by decide +kernel,rfl,by decide +kernel,by decide +kernel⟩
theorem mC{f   : Addr}{fd  : Cq}(F:Fun K "is_whole" "is_whole" Uh f fd)(mz_bool:mg "bool" = none)(mz_isinstance:mg "isinstance" = none)(mz_int:mg "int" = none):FnOk P w K mg base Hn 1 f fd ["thing"] (Nr K (iB)):=by
 refine' Gy (k:=0) F mK (λcdv A outer s H E hr=>?hb) ?h
 case hb =>
  have hu64:=hr.units
  exact Cr (Ds (Rg (Eh Pb Oz rfl mz_isinstance (by decide +kernel) (Ak (Am (pv 0)) (Ak (Tq (n := "int") rfl mz_int (by decide +kernel)) Ba))) (Zv (R1 (Eh Pb Oz rfl mz_isinstance (by decide +kernel) (Ak (Am (pv 0)) (Ak (Tq (n := "bool") rfl mz_bool (by decide +kernel)) Ba)))))))
 case h =>
  (intro ds R q_; obtain ⟨i,rfl,hR⟩ := q_)
  refine ⟨rfl,?_⟩
  array_get_dec
  exact hR
theorem nR:FnScope ["holes", "thing", "least", "place"] ["holes", "thing"] (Bq Wp):=⟨rfl,rfl,rfl,by decide +kernel,rfl,by decide +kernel,by decide +kernel⟩
theorem mY{f f_is_whole  : Addr}{fd d_is_whole:Cq}(F:Fun K "is_word" "is_word" Wp f fd)(G_is_whole:FnOk P w K mg base Hn 1 f_is_whole d_is_whole ["thing"] (Nr K (iB)))(b_is_whole:Binds K d_is_whole ["thing"] [])(k_is_whole:PySem.W.keepIn K (.ref f_is_whole)=true)(m_is_whole:mg "is_whole" = some (.ref f_is_whole))(mz_tuple:mg "tuple" = none)(mz_isinstance:mg "isinstance" = none):FnOk P w K mg base Hn 2 f fd ["holes", "thing"] (Nr K (lY)):=by
 refine' Gy (k:=1) F nR (λcdv A outer s H E hr=>?hb) ?h
 case hb =>
  have hr1:Room 1 _:=hr.mono (by decide)
  have hu64:=hr.units
  exact Cc (Ib (Ke (Iz (Eh Pb Oz rfl mz_isinstance (by decide +kernel) (Ak (Am (pv 1)) (Ak (Tq (n := "tuple") rfl mz_tuple (by decide +kernel)) Ba)))))
   (Cr (Ds Ka)) Gb)
   (Cc (Fw (i:=2) nR.nd rfl (Dj rfl) Cs)
   (Cc (Mo Du rfl (FJ (Am (pv 1))) (Gp (i:=3) nR.nd rfl (Dj rfl))
   (Cc (Ib (Ys (Mr (Ke (Iz (Dy G_is_whole hr1 rfl m_is_whole k_is_whole b_is_whole Fd (Ak (Am (pv 3)) Ba)))) (Mr (qR (Am (pv 3)) (Am (pv 2))) (Mk (O3 (Am (pv 3)) (Am (pv 0)))))))
    (Cr (Ds Ka)) Gb)
    (Cr (Fw (i:=2) nR.nd rfl (Dj rfl) (Wr (Am (pv 3)) Cs)))))
   (Cr (Ds Ka))))
 case h =>
  (intro ds R q_; obtain ⟨h,w,rfl,hT,hF⟩ := q_)
  refine ⟨rfl,?_⟩
  array_get_dec
  refine Yw (l:=w) (g:=Bm) rfl (λi δ=>(∃(least:Int) (v3:DV),δ=⟨[.dat .sh (.int h),.dat .sh (Bf w),.dat .sh (.int least),v3],0⟩/\NP v3/\(least=0\/∃j:Nat,j<i/\w[j]? = some (least - 1))/\(∀(j:Nat) (x:Int),j<i->w[j]? = some x->x<least)/\0<=least)/\Ef h (w.take i)) ?_ ?_ ?_
  ·exact ⟨⟨_,_,rfl,Kq,.inl rfl,(λj x z=>absurd z (Dn _)),Int.le_refl _⟩,Ef.nil _⟩
  ·(intro i p _ hp q_; obtain ⟨⟨least,v3,rfl,hv3,hl,hx,hl0⟩,r⟩ := q_)
   obtain ⟨i1,i2⟩:=An.mp hp
   array_get_dec
   refine ⟨p,rfl,?_⟩
   array_get_dec
   refine yH (λq=>?_) (λq=>?_)
   ·have q:p<least:=of_decide_eq_true q
    array_get_dec
    refine hF λz=>?_
    rcases hl with rfl | ⟨j,hj,ej⟩
    ·have:=z.2 p (Ax hp); omega
    ·obtain ⟨j1,j2⟩:=An.mp ej
     have:=Dw.mp z.1 j i j1 i1 hj
     rw[i2,j2] at this
     omega
   have q:¬ p<least:=of_decide_eq_false q
   array_get_dec
   refine Tt (λq2=>?_) (λq2=>?_)
   ·have q2:=of_decide_eq_true q2
    array_get_dec
    exact hF λz=>by have:=z.2 p (Ax hp); omega
   have q2:=of_decide_eq_false q2
   array_get_dec
   refine ⟨⟨_,_,rfl,Ir,.inr ⟨i,by omega,by rw[hp,Int.add_sub_cancel]⟩,λj x hj ex=>?_,by omega⟩,?_⟩
   ·by_cases z:j=i
    ·subst z
     rw[hp] at ex
     cases ex
     omega
    ·have:=hx j x (by omega) ex; omega
   ·rw[Ft i1,i2]
    refine ⟨Ce.mpr ⟨r.1,Eb _ _,λa ha b hb=>?_⟩,λx hx'=>?_⟩
    ·obtain ⟨j,hj,ej⟩:=Pv.mp ha
     have:=hx j a (by omega) (by rw[Be (by omega),ej])
     rw[Af.mp hb]
     omega
    ·rcases Aw.mp hx' with z | z
     ·exact r.2 x z
     ·rw[Af.mp z]; omega
  ·(intro _ q_; obtain ⟨⟨least,v3,rfl,hv3,hl,hx,hl0⟩,r⟩ := q_)
   rw[Kl] at r
   array_get_dec
   exact hT r
theorem pF:FnScope ["deck", "i", "j"] ["deck", "i", "j"] (Bq Xl):=⟨rfl,rfl,rfl,by decide +kernel,rfl,by decide +kernel,by decide +kernel⟩
theorem nW{f f_is_whole  : Addr}{fd d_is_whole:Cq}(F:Fun K "is_pair" "is_pair" Xl f fd)(G_is_whole:FnOk P w K mg base Hn 1 f_is_whole d_is_whole ["thing"] (Nr K (iB)))(b_is_whole:Binds K d_is_whole ["thing"] [])(k_is_whole:PySem.W.keepIn K (.ref f_is_whole)=true)(m_is_whole:mg "is_whole" = some (.ref f_is_whole))(mz_len:mg "len" = none):FnOk P w K mg base Hn 2 f fd ["deck", "i", "j"] (Nr K (Zx)):=by
 refine' Gy (k:=1) F pF (λcdv A outer s H E hr=>?hb) ?h
 case hb =>
  have hr1:Room 1 _:=hr.mono (by decide)
  have hu64:=hr.units
  exact Cc (Ib (Ys (Mr (Ke (Iz (Dy G_is_whole hr1 rfl m_is_whole k_is_whole b_is_whole Fd (Ak (Am (pv 1)) Ba)))) (Mk (Ke (Iz (Dy G_is_whole hr1 rfl m_is_whole k_is_whole b_is_whole Fd (Ak (Am (pv 2)) Ba)))))))
   (Cr (Ds Ka)) Gb)
   (Cr (Ds (Rg (AO (Am (pv 1)) Cs) (Rg (qT (Am (pv 1)) (Am (pv 2))) (Zv (qT (Am (pv 2)) (Eh Ie Lv rfl mz_len (by decide +kernel) (Ak (Am (pv 0)) Ba))))))))
 case h =>
  (intro ds R q_; obtain ⟨D,a,b,rfl,lt,lb,hR⟩ := q_)
  refine ⟨rfl,?_⟩
  array_get_dec
  refine ⟨(a:Int),rfl,?_⟩
  array_get_dec
  refine ⟨(b:Int),rfl,?_⟩
  array_get_dec
  rw[decide_eq_true (show (0:Int)<=(a:Int) by omega)]
  array_get_dec
  rw[decide_eq_true (show (a:Int)<(b:Int) by omega)]
  array_get_dec
  rw[Ab,decide_eq_true (show (b:Int)<(D.length:Int) by omega)]
  exact hR
theorem iN:FnScope ["deck", "thing", "pair"] ["deck", "thing"] (Bq Rn):=⟨rfl,rfl,rfl,by decide +kernel,rfl,by decide +kernel,by decide +kernel⟩
theorem iI{f f_is_pair  : Addr}{fd d_is_pair:Cq}(F:Fun K "are_pairs" "are_pairs" Rn f fd)(G_is_pair:FnOk P w K mg base Hn 2 f_is_pair d_is_pair ["deck", "i", "j"] (Nr K (Zx)))(b_is_pair:Binds K d_is_pair ["deck", "i", "j"] [])(k_is_pair:PySem.W.keepIn K (.ref f_is_pair)=true)(m_is_pair:mg "is_pair" = some (.ref f_is_pair))(mz_list:mg "list" = none)(mz_isinstance:mg "isinstance" = none)(mz_len:mg "len" = none)(mz_tuple:mg "tuple" = none):FnOk P w K mg base Hn 3 f fd ["deck", "thing"] (Nr K (bS)):=by
 refine' Gy (k:=2) F iN (λcdv A outer s H E hr=>?hb) ?h
 case hb =>
  have hr1:Room 1 _:=hr.mono (by decide)
  have hr2:Room 2 _:=hr.mono (by decide)
  have hu64:=hr.units
  exact Cc (Ib (Ke (Iz (Eh Pb Oz rfl mz_isinstance (by decide +kernel) (Ak (Am (pv 1)) (Ak (Tq (n := "list") rfl mz_list (by decide +kernel)) Ba)))))
   (Cr (Ds Ka)) Gb)
   (Cc (Mo Du rfl (sL (Am (pv 1))) (Gp (i:=2) iN.nd rfl (Dj rfl))
   (Cr (Ib (Ys (Mr (Ke (Iz (Eh Pb Oz rfl mz_isinstance (by decide +kernel) (Ak (Am (pv 2)) (Ak (Tq (n := "tuple") rfl mz_tuple (by decide +kernel)) Ba))))) (Mr (Rf hu64 (Eh Ie Lv rfl mz_len (by decide +kernel) (Ak (Am (pv 2)) Ba)) Cs) (Mk (Ke (Iz (Dy G_is_pair hr2 rfl m_is_pair k_is_pair b_is_pair Fd (Ak (Am (pv 0)) (Ak (Ex (Am (pv 2)) Cs) (Ak (Ex (Am (pv 2)) Cs) Ba))))))))))
    (Cr (Ds Ka)) Gb)))
   (Cr (Ds Ka)))
 case h =>
  (intro ds R q_; obtain ⟨D,P,rfl,hP,hR⟩ := q_)
  refine ⟨rfl,?_⟩
  array_get_dec
  refine Yw (l:=P) (g:=Bf) rfl (λi δ=>∃(v2:DV),δ=⟨[.dat .sh (.list (D.map Bf)),.dat .sh (.list (P.map Bf)),v2],0⟩/\NP v2) ?_ ?_ ?_
  ·exact ⟨_,rfl,Kq⟩
  ·(intro i q _ hq q_; obtain ⟨v2,rfl,hv2⟩ := q_)
   obtain ⟨a,b,rfl,lt,lb⟩:=hP q (Ax hq)
   array_get_dec
   refine ⟨D,a,b,rfl,lt,lb,?_⟩
   array_get_dec
   exact ⟨_,rfl,Ir⟩
  ·(intro _ q_; obtain ⟨v2,rfl,hv2⟩ := q_)
   array_get_dec
   exact hR
theorem dM:FnScope ["deck", "pairs", "places", "i", "j"] ["deck", "pairs", "places"] (Bq Pz):=⟨rfl,rfl,rfl,by decide +kernel,rfl,by decide +kernel,by decide +kernel⟩
theorem dH{f f_notches_at  : Addr}{fd d_notches_at:Cq}(F:Fun K "some_alike" "some_alike" Pz f fd)(G_notches_at:FnOk P w K mg base Hn 1 f_notches_at d_notches_at ["card", "places"] (Nr K (Wx)))(b_notches_at:Binds K d_notches_at ["card", "places"] [])(k_notches_at:PySem.W.keepIn K (.ref f_notches_at)=true)(m_notches_at:mg "notches_at" = some (.ref f_notches_at)):FnOk P w K mg base Hn 2 f fd ["deck", "pairs", "places"] (Nr K (xT)):=by
 refine' Gy (k:=1) F dM (λcdv A outer s H E hr=>?hb) ?h
 case hb =>
  have hr1:Room 1 _:=hr.mono (by decide)
  have hu64:=hr.units
  exact Cc (Mo Du rfl (sL (Am (pv 1))) (gQ (n:=2) rfl (Lh (Gp (i:=3) dM.nd rfl (Dj rfl)) (Lh (Gp (i:=4) dM.nd rfl (Dj rfl)) Zl)))
   (Cr (Ib (Tu hu64 (Dy G_notches_at hr1 rfl m_notches_at k_notches_at b_notches_at Fd (Ak (Ex (Am (pv 0)) (Am (pv 3))) (Ak (Am (pv 2)) Ba))) (Dy G_notches_at hr1 rfl m_notches_at k_notches_at b_notches_at Fd (Ak (Ex (Am (pv 0)) (Am (pv 4))) (Ak (Am (pv 2)) Ba))))
    (Cr (Ds Ka)) Gb)))
   (Cr (Ds Ka))
 case h =>
  (intro ds R q_; obtain ⟨D,P,u,rfl,lu,hP,hT,hF⟩ := q_)
  refine ⟨rfl,?_⟩
  array_get_dec
  refine Yw (l:=P) (g:=Bf) rfl (λi δ=>(∃(v3 v4:DV),δ=⟨[.dat .sh (.list (D.map Bf)),.dat .sh (.list (P.map Bf)),.dat .sh (Bf u),v3,v4],0⟩/\NP v3/\NP v4)/\∀(a:Nat) (q:List Int),a<i->P[a]? = some q->¬ cQ D u q) ?_ ?_ ?_
  ·exact ⟨⟨_,_,rfl,Kq,Kq⟩,λa q z=>absurd z (Dn _)⟩
  ·(intro i q _ hq q_; obtain ⟨⟨v3,v4,rfl,hv3,hv4⟩,hall⟩ := q_)
   have mq:=Ax hq
   obtain ⟨a,b,rfl,lt,lb⟩:=hP q mq
   have hx:D[a]? = some D[a]:=Be (by omega)
   have hyy:D[b]? = some D[b]:=Be lb
   array_get_dec
   refine ⟨_,Lm hx,D[a],u,rfl,lu,?_⟩
   array_get_dec
   refine ⟨_,Lm hyy,D[b],u,rfl,lu,?_⟩
   array_get_dec
   refine Tt (λz=>?_) (λz=>?_)
   ·array_get_dec
    exact hT ⟨_,mq,a,b,_,_,rfl,lt,hx,hyy,of_decide_eq_true z⟩
   ·array_get_dec
    refine ⟨⟨_,_,rfl,Ir,Ir⟩,λa' q' ha' hq'=>?_⟩
    by_cases e:a'=i
    ·subst e
     rw[hq] at hq'
     cases hq'
     (intro q_; obtain ⟨a',b',x',y',e,_,hx',hy',en⟩ := q_)
     injection e with e1 e2
     injection e2 with e2 _
     have e1:a=a':=by omega
     have e2:b=b':=by omega
     subst e1 e2
     rw[hx] at hx'
     rw[hyy] at hy'
     cases hx'
     cases hy'
     exact of_decide_eq_false z en
    ·exact hall a' q' (by omega) hq'
  ·(intro _ q_; obtain ⟨⟨v3,v4,rfl,hv3,hv4⟩,hall⟩ := q_)
   array_get_dec
   refine hF ?_
   (intro q_; obtain ⟨q,hq,al⟩ := q_)
   obtain ⟨a,ha⟩:=Tg.mp hq
   exact hall a q (An.mp ha).1 ha al
end
def lZ:DF:=λds n R=>ds=[]/\n<=1000/\∀(h:Nat) (D D2:List (List Int)) (n':Nat),2<=h->h<=5->D.length<=10->D2.length=D.length->(∀c∈D,Ef h c)->(∀c∈D2,Ef h c)->n<=n'->n'<=n+50 ->
 R (.list [.tuple [.int h,.list (D.map Bf)],.tuple [.int h,.list (D2.map Bf)],.tuple [.int ((h:Int)+1),.list (D.map Bf)]]) n'
section
variable{P:Bj}{w:World}{K:PySem.W.Frag}{mg:Str->Option Value}{base:Heap}
theorem Yu:FnScope ["holes", "deck", "places", "pairs"] ["holes", "deck", "places", "pairs"] (Bq Lj):=⟨rfl,rfl,rfl,by decide +kernel,rfl,by decide +kernel,by decide +kernel⟩
theorem Yt{f f_is_word f_words_of f_alike_at f_are_pairs f_some_alike  : Addr}{fd d_is_word d_words_of d_alike_at d_are_pairs d_some_alike:Cq}(F:Fun K "shows_places" "shows_places" Lj f fd)(G_is_word:FnOk P w K mg base Hn 2 f_is_word d_is_word ["holes", "thing"] (Nr K (lY)))(b_is_word:Binds K d_is_word ["holes", "thing"] [])(k_is_word:PySem.W.keepIn K (.ref f_is_word)=true)(m_is_word:mg "is_word" = some (.ref f_is_word))(G_words_of:FnOk P w K mg base Hn 3 f_words_of d_words_of ["holes", "many"] (Nr K (Xi)))(b_words_of:Binds K d_words_of ["holes", "many"] [])(k_words_of:PySem.W.keepIn K (.ref f_words_of)=true)(m_words_of:mg "words_of" = some (.ref f_words_of))(G_alike_at:FnOk P w K mg base Hn 2 f_alike_at d_alike_at ["deck", "places"] (Nr K (iE)))(b_alike_at:Binds K d_alike_at ["deck", "places"] [])(k_alike_at:PySem.W.keepIn K (.ref f_alike_at)=true)(m_alike_at:mg "alike_at" = some (.ref f_alike_at))(G_are_pairs:FnOk P w K mg base Hn 3 f_are_pairs d_are_pairs ["deck", "thing"] (Nr K (bS)))(b_are_pairs:Binds K d_are_pairs ["deck", "thing"] [])(k_are_pairs:PySem.W.keepIn K (.ref f_are_pairs)=true)(m_are_pairs:mg "are_pairs" = some (.ref f_are_pairs))(G_some_alike:FnOk P w K mg base Hn 2 f_some_alike d_some_alike ["deck", "pairs", "places"] (Nr K (xT)))(b_some_alike:Binds K d_some_alike ["deck", "pairs", "places"] [])(k_some_alike:PySem.W.keepIn K (.ref f_some_alike)=true)(m_some_alike:mg "some_alike" = some (.ref f_some_alike))(mz_len:mg "len" = none)(mz_all:mg "all" = none):FnOk P w K mg base Hn 4 f fd ["holes", "deck", "places", "pairs"] (Nr K (eZ)):=by
 refine' Gy (k:=3) F Yu (λcdv A outer s H E hr=>?hb) ?h
 case hb =>
  have hr1:Room 1 _:=hr.mono (by decide)
  have hr2:Room 2 _:=hr.mono (by decide)
  have hr3:Room 3 _:=hr.mono (by decide)
  have hu64:=hr.units
  have CS1:∀{scope:Scope} (h:scope={ kind:=.function,names:=[(".0",.local),("fewer",.local),("some_alike",.globalImplicit),("deck",.free),("pairs",.free)],isGenerator:=false,isCoroutine:=false }),
    CompScope (Me Hn P w K mg base ["holes", "deck", "places", "pairs"] "shows_places" (Bq Lj) f cdv A outer s H E).nox scope [("pairs",s.heap.objs.size+2),("deck",s.heap.objs.size+1)] "fewer" ["deck", "pairs"] [1,3]:=by
   rintro scope rfl
   refine ⟨by rfl,.inl (by decide +kernel),by rfl,by decide +kernel,.inl rfl,λy c h=>?_,by rfl,by decide +kernel,rfl,λk y j e1 e2=>?_⟩
   ·have z:=Ff h
    simp only[Ao,Bz,or_false,Fz] at z
    rcases z with ⟨rfl,rfl⟩ | ⟨rfl,rfl⟩ <;> rfl
   ·match k,e1,e2 with
    | 0,e1,e2=>cases e1; cases e2; exact ⟨rfl,rfl,by first | exact .inl rfl | exact .inr rfl⟩
    | 1,e1,e2=>cases e1; cases e2; exact ⟨rfl,rfl,by first | exact .inl rfl | exact .inr rfl⟩
    | k+2,e1,e2=>cases e1
  exact Cc (Ib (Ys (Mr (Ke (Iz (Dy G_is_word hr2 rfl m_is_word k_is_word b_is_word Fd (Ak (Am (pv 0)) (Ak (Am (pv 2)) Ba))))) (Mr (Ke (Iz (Dy G_are_pairs hr3 rfl m_are_pairs k_are_pairs b_are_pairs Fd (Ak (Am (pv 1)) (Ak (Am (pv 3)) Ba))))) (Mk (qL (Dy G_alike_at hr2 rfl m_alike_at k_alike_at b_alike_at Fd (Ak (Am (pv 1)) (Ak (Am (pv 2)) Ba))) gY)))))
   (Cr (Ds Ka)) Gb)
   (Cc (Ib (Tu hu64 (Eh Ie Lv rfl mz_len (by decide +kernel) (Ak (Am (pv 2)) Ba)) Cs)
   (Cr (Ds (aE hu64 (Eh Ie Lv rfl mz_len (by decide +kernel) (Ak (Am (pv 3)) Ba)) Cs))) Gb)
   (Cr (Ds (Eh (yP rfl) W8 rfl mz_all (by decide +kernel) (Ak (Ly (CS1 rfl) rfl (sL (Dy G_words_of hr3 rfl m_words_of k_words_of b_words_of Fd (Ak (Am (pv 0)) (Ak (Rk (Eh Ie Lv rfl mz_len (by decide +kernel) (Ak (Am (pv 2)) Ba)) Cs) Ba)))) (λ_ _ _=>Rh) (λ_ _ _=>Dy G_some_alike hr2 rfl m_some_alike k_some_alike b_some_alike Fd (Ak (Am (pv 1)) (Ak (Am (pv 2)) (Ak (Am (pv 0)) Ba))))) Ba)))))
 case h =>
  (intro ds R q_; obtain ⟨h,D,w,P,rfl,h0,h1,lD,hD,rw_,hP,lP,hT,hF⟩ := q_)
  refine ⟨rfl,?_⟩
  have lw:=Kn (rw_.up (show (12:Int)<=60 by decide))
  array_get_dec
  refine ⟨h,w,rfl,λr=>?_,λr=>?_⟩
  rotate_left
  ·array_get_dec
   exact hF λz=>r z.1
  array_get_dec
  refine ⟨D,P,rfl,hP,?_⟩
  array_get_dec
  refine ⟨D,w,rfl,lD,lw,λnd=>?_,λi j x y lt hx hy e=>?_⟩
  rotate_left
  ·array_get_dec
   rw[show isNone (Bf [(i:Int),(j:Int)])=false from rfl]
   array_get_dec
   refine hF λz=>?_
   have gx:(D.map (Qz w))[i]? = some (Qz w x):=by rw[Bw,hx]; rfl
   have gy:(D.map (Qz w))[j]? = some (Qz w y):=by rw[Bw,hy]; rfl
   obtain ⟨i1,i2⟩:=An.mp gx
   obtain ⟨j1,j2⟩:=An.mp gy
   exact Dw.mp z.2.1 i j i1 j1 lt (i2.trans (e.trans j2.symm))
  array_get_dec
  rw[show isNone PyData.none=true from rfl]
  array_get_dec
  refine Tt (λz=>?_) (λz=>?_)
  ·have e:w=[]:=Gm.mp (by have:=of_decide_eq_true z; rw[Ab] at this; omega)
   array_get_dec
   by_cases c:P=[]
   ·rw[c]
    array_get_dec
    exact hT ⟨r,nd,λ_=>c,λz=>absurd e z⟩
   ·have lp:0<P.length:=Ko.mpr c
    rw[decide_eq_false (by rw[Ab]; omega)]
    exact hF λz=>c (z.2.2.1 e)
  ·have e:w≠[]:=λe=>by rw[e] at z; exact absurd z (by decide)
   have l0:0<w.length:=Ko.mpr e
   have rl:=eJ r
   array_get_dec
   rw[Ab,show ((w.length:Int) - 1)=((w.length - 1:Nat):Int) by omega]
   refine ⟨h,(w.length - 1:Nat),rfl,by omega,by omega,by omega,?_⟩
   rw[Dq,Dq]
   array_get_dec
   refine xB (l:=cw h 0 (w.length - 1)) (g:=Bf) rfl (λu=>.bool (@decide (∃q∈P,cQ D u q) (Cf _))) (λu hu yes no hy=>?_) ?_
   ·have lu:u.length≤60:=by rw [(cw_mem.mp hu).1]; omega
    array_get_dec
    refine ⟨D,P,u,rfl,lu,hP,λa=>?_,λa=>?_⟩
    ·rw[@decide_eq_true _ (Cf _) a] at hy
     array_get_dec
     exact hy
    ·rw[@decide_eq_false _ (Cf _) a] at hy
     array_get_dec
     exact hy
   array_get_dec
   refine ⟨(cw h 0 (w.length - 1)).map λu=>@decide (∃q∈P,cQ D u q) (Cf _),by rw[Ek]; rfl,?_⟩
   by_cases A:∀u∈cw h 0 (w.length - 1),∃q∈P,cQ D u q
   ·rw[show ((cw h 0 (w.length - 1)).map λu=>@decide (∃q∈P,cQ D u q) (Cf _)).all id=true from List.all_eq_true.mpr λb hb=>by
     obtain ⟨u,hu,rfl⟩:=Br.mp hb
     exact @decide_eq_true _ (Cf _) (A u hu)]
    exact hT ⟨r,nd,λz=>absurd z e,λ_=>A⟩
   ·rw[show ((cw h 0 (w.length - 1)).map λu=>@decide (∃q∈P,cQ D u q) (Cf _)).all id=false from Bool.eq_false_iff.mpr λz=>A λu hu=>@of_decide_eq_true _ (Cf _) (cP.mp z _ (Br.mpr ⟨u,hu,rfl⟩))]
    exact hF λz=>A (z.2.2.2 e)
theorem Yv:FnScope ["holes", "deck", "thing", "told", "first", "second"] ["holes", "deck", "thing"] (Bq Ny):=⟨rfl,rfl,rfl,by decide +kernel,rfl,by decide +kernel,by decide +kernel⟩
theorem Yn{f f_is_pair f_shows_places  : Addr}{fd d_is_pair d_shows_places:Cq}(F:Fun K "shows_fewest" "shows_fewest" Ny f fd)(G_is_pair:FnOk P w K mg base Hn 2 f_is_pair d_is_pair ["deck", "i", "j"] (Nr K (Zx)))(b_is_pair:Binds K d_is_pair ["deck", "i", "j"] [])(k_is_pair:PySem.W.keepIn K (.ref f_is_pair)=true)(m_is_pair:mg "is_pair" = some (.ref f_is_pair))(G_shows_places:FnOk P w K mg base Hn 4 f_shows_places d_shows_places ["holes", "deck", "places", "pairs"] (Nr K (eZ)))(b_shows_places:Binds K d_shows_places ["holes", "deck", "places", "pairs"] [])(k_shows_places:PySem.W.keepIn K (.ref f_shows_places)=true)(m_shows_places:mg "shows_places" = some (.ref f_shows_places))(mz_str:mg "str" = none)(mz_isinstance:mg "isinstance" = none)(mz_len:mg "len" = none)(mz_tuple:mg "tuple" = none):FnOk P w K mg base Hn 5 f fd ["holes", "deck", "thing"] (Nr K (Ss)):=by
 refine' Gy (k:=4) F Yv (λcdv A outer s H E hr=>?hb) ?h
 case hb =>
  have hr1:Room 1 _:=hr.mono (by decide)
  have hr2:Room 2 _:=hr.mono (by decide)
  have hr3:Room 3 _:=hr.mono (by decide)
  have hr4:Room 4 _:=hr.mono (by decide)
  have hu64:=hr.units
  exact Cc (Ib (Ys (Mr (Ke (Iz (Eh Pb Oz rfl mz_isinstance (by decide +kernel) (Ak (Am (pv 2)) (Ak (Tq (n := "tuple") rfl mz_tuple (by decide +kernel)) Ba))))) (Mr (Rf hu64 (Eh Ie Lv rfl mz_len (by decide +kernel) (Ak (Am (pv 2)) Ba)) Cs) (Mk (Ke (Iz (Eh Pb Oz rfl mz_isinstance (by decide +kernel) (Ak (Ex (Am (pv 2)) Cs) (Ak (Tq (n := "str") rfl mz_str (by decide +kernel)) Ba)))))))))
   (Cr (Ds Ka)) Gb)
   (Cc (yT (Am (pv 2)) (gQ (n:=3) rfl (Lh (Gp (i:=3) Yv.nd rfl (Dj rfl)) (Lh (Gp (i:=4) Yv.nd rfl (Dj rfl)) (Lh (Gp (i:=5) Yv.nd rfl (Dj rfl)) Zl)))))
   (Cc (Ib (Tu hu64 (Am (pv 3)) Xm)
   (Cr (Ds (Dy G_shows_places hr4 rfl m_shows_places k_shows_places b_shows_places Fd (Ak (Am (pv 0)) (Ak (Am (pv 1)) (Ak (Am (pv 4)) (Ak (Am (pv 5)) Ba))))))) Gb)
   (Cr (Ds (Rg (aE hu64 (Am (pv 3)) Xm) (Rg (Dy G_is_pair hr2 rfl m_is_pair k_is_pair b_is_pair Fd (Ak (Am (pv 1)) (Ak (Am (pv 4)) (Ak (Am (pv 5)) Ba)))) (Zv (aE hu64 (Ex (Am (pv 1)) (Am (pv 4))) (Ex (Am (pv 1)) (Am (pv 5)))))))))))
 case h =>
  (intro ds R q_; obtain ⟨h,D,T,rfl,h0,h1,lD,hD,hJ⟩ := q_)
  refine ⟨rfl,?_⟩
  rcases hJ with ⟨i,j,x,y,lt,hi,hj,rfl,hT,hF⟩ | ⟨w,P,rw_,hP,lP,rfl,hT,hF⟩
  ·unfold Xy
   array_get_dec
   refine ⟨D,i,j,rfl,lt,(An.mp hj).1,?_⟩
   array_get_dec
   refine ⟨_,Lm hi,_,Lm hj,?_⟩
   array_get_dec
   by_cases c:x=y
   ·rw[decide_eq_true c]; exact hT c
   ·rw[decide_eq_false c]; exact hF c
  ·unfold Vv
   array_get_dec
   refine ⟨h,D,w,P,rfl,h0,h1,lD,hD,rw_,hP,lP,λz=>?_,λz=>?_⟩
   ·array_get_dec
    exact hT z
   ·array_get_dec
    exact hF z
theorem cI:FnScope ["_law_draws_here", "_law_holes", "_law_deck_here", "_law_at_here", "_law_place", "_law_card"] ["_law_draws_here"] (Bq Kj):=⟨rfl,rfl,rfl,by decide +kernel,rfl,by decide +kernel,by decide +kernel⟩
theorem aI{f f_L_next f_L_small  : Addr}{fd d_L_next d_L_small:Cq}(F:Fun K "_law_things" "_law_things" Kj f fd)(G_L_next:FnOk P w K mg base Hn 1 f_L_next d_L_next ["_law_draws_here"] (B8 K gK))(b_L_next:Binds K d_L_next ["_law_draws_here"] [])(k_L_next:PySem.W.keepIn K (.ref f_L_next)=true)(m_L_next:mg "_law_next" = some (.ref f_L_next))(G_L_small:FnOk P w K mg base Hn 2 f_L_small d_L_small ["_law_draws_here", "_law_holes"] (B8 K (rS)))(b_L_small:Binds K d_L_small ["_law_draws_here", "_law_holes"] [])(k_L_small:PySem.W.keepIn K (.ref f_L_small)=true)(m_L_small:mg "_law_small" = some (.ref f_L_small))(mz_range:mg "range" = none)(mz_len:mg "len" = none)(mz_tuple:mg "tuple" = none):FnOk P w K mg base Hn 3 f fd ["_law_draws_here"] (K9 K (lZ)):=by
 refine' yR (k:=2) F cI (λcdv A outer s H E hr=>?hb) ?h
 case hb =>
  have hr1:Room 1 _:=hr.mono (by decide)
  have hr2:Room 2 _:=hr.mono (by decide)
  have hu64:=hr.units
  have CS1:∀{scope:Scope} (h:scope={ kind:=.function,names:=[(".0",.local),("_law_k",.local),("_law_small",.globalImplicit),("_law_draws_here",.free),("_law_holes",.free)],isGenerator:=false,isCoroutine:=false }),
    CompScope (Me Hn P w K mg base ["_law_draws_here", "_law_holes", "_law_deck_here", "_law_at_here", "_law_place", "_law_card"] "_law_things" (Bq Kj) f cdv A outer s H E).nox scope [("_law_holes",s.heap.objs.size+2),("_law_draws_here",s.heap.objs.size+1)] "_law_k" ["_law_draws_here", "_law_holes"] [0,1]:=by
   rintro scope rfl
   refine ⟨by rfl,.inl (by decide +kernel),by rfl,by decide +kernel,.inl rfl,λy c h=>?_,by rfl,by decide +kernel,rfl,λk y j e1 e2=>?_⟩
   ·have z:=Ff h
    simp only[Ao,Bz,or_false,Fz] at z
    rcases z with ⟨rfl,rfl⟩ | ⟨rfl,rfl⟩ <;> rfl
   ·match k,e1,e2 with
    | 0,e1,e2=>cases e1; cases e2; exact ⟨rfl,rfl,by first | exact .inl rfl | exact .inr rfl⟩
    | 1,e1,e2=>cases e1; cases e2; exact ⟨rfl,rfl,by first | exact .inl rfl | exact .inr rfl⟩
    | k+2,e1,e2=>cases e1
  have CS2:∀{scope:Scope} (h:scope={ kind:=.function,names:=[(".0",.local),("_law_k",.local),("_law_at_here",.free),("_law_deck_here",.free),("_law_place",.free)],isGenerator:=false,isCoroutine:=false }),
    CompScope (Me Hn P w K mg base ["_law_draws_here", "_law_holes", "_law_deck_here", "_law_at_here", "_law_place", "_law_card"] "_law_things" (Bq Kj) f cdv A outer s H E).nox scope [("_law_place",s.heap.objs.size+5),("_law_deck_here",s.heap.objs.size+3),("_law_at_here",s.heap.objs.size+4)] "_law_k" ["_law_at_here", "_law_deck_here", "_law_place"] [3,2,4]:=by
   rintro scope rfl
   refine ⟨by rfl,.inl (by decide +kernel),by rfl,by decide +kernel,.inl rfl,λy c h=>?_,by rfl,by decide +kernel,rfl,λk y j e1 e2=>?_⟩
   ·have z:=Ff h
    simp only[Ao,Bz,or_false,Fz] at z
    rcases z with ⟨rfl,rfl⟩ | ⟨rfl,rfl⟩ | ⟨rfl,rfl⟩ <;> rfl
   ·match k,e1,e2 with
    | 0,e1,e2=>cases e1; cases e2; exact ⟨rfl,rfl,by first | exact .inl rfl | exact .inr rfl⟩
    | 1,e1,e2=>cases e1; cases e2; exact ⟨rfl,rfl,by first | exact .inl rfl | exact .inr rfl⟩
    | 2,e1,e2=>cases e1; cases e2; exact ⟨rfl,rfl,by first | exact .inl rfl | exact .inr rfl⟩
    | k+3,e1,e2=>cases e1
  exact Cc (Fw (i:=1) cI.nd rfl (Or.inr rfl) (Wr Cs (aC (Pj G_L_next hr1 rfl m_L_next k_L_next b_L_next Fd (pv 0) Ba) Cs)))
   (Cc (Fw (i:=2) cI.nd rfl (Or.inr rfl) (yI (js1:=[]) (j0:=0) (js2:=[1]) (CS1 rfl) rfl (Kt rfl mz_range (Ak (Wr Cs (aC (Pj G_L_next hr1 rfl m_L_next k_L_next b_L_next Fd (pv 0) Ba) Cs)) Ba)) (λ_ _ _=>Rh) (λ_ _ _=>Pj G_L_small hr2 rfl m_L_small k_L_small b_L_small Fd (pv 1) (Ak (Am (pv 2)) Ba))))
   (Cc (Fw (i:=3) cI.nd rfl (Or.inr rfl) (aC (Pj G_L_next hr1 rfl m_L_next k_L_next b_L_next Fd (pv 0) Ba) (Eh Ie Lv rfl mz_len (by decide +kernel) (Ak (Am (pv 2)) Ba))))
   (Cc (Fw (i:=4) cI.nd rfl (Or.inr rfl) (aC (Pj G_L_next hr1 rfl m_L_next k_L_next b_L_next Fd (pv 0) Ba) (Am (pv 1))))
   (Cc (Fw (i:=5) cI.nd rfl (Dj rfl) (Iw Ve (Vh (i:=true)) rfl mz_tuple (by decide +kernel) (Ak (Ly (CS2 rfl) rfl (Kt rfl mz_range (Ak (Am (pv 1)) Ba)) (λ_ _ _=>Os (Rf hu64 (DY hu64 (Am (pv 0)) (Ex (Am (pv 2)) (Am (pv 1)))) (aE hu64 (Am (pv 0)) (Am (pv 3))))) (λ_ _ _=>Am (pv 0))) Ba)))
   (Cr (Ds (Lk (Ak (Ml (Ak (Nw (Am (pv 1))) (Ak (Am (pv 2)) Ba))) (Ak (Ml (Ak (Nw (Am (pv 1))) (Ak (iD (iD (bP (i:=true) (Am (pv 2)) Vf (Vn (Am (pv 3)))) (Lk (Ak (Nw (Am (pv 5))) Ba))) (bP (i:=true) (Am (pv 2)) (Vn (Wr (Am (pv 3)) Cs)) Vf)) Ba))) (Ak (Ml (Ak (Wr (Am (pv 1)) Cs) (Ak (Am (pv 2)) Ba))) Ba))))))))))
 case h =>
  (intro ds n R q_; obtain ⟨rfl,hn,hR⟩ := q_)
  refine ⟨rfl,?_⟩
  array_get_dec
  refine ⟨rfl,by omega,λr1=>?_⟩
  array_get_dec
  have b4:=iH r1 (b:=4) (by decide)
  obtain ⟨h,eh,h2,h5⟩ : ∃h:Nat,2+r1 % 4=(h:Int)/\2<=h/\h<=5:=⟨(2+r1 % 4).toNat,by omega,by omega,by omega⟩
  rw[eh]
  refine ⟨rfl,by omega,λr2=>?_⟩
  array_get_dec
  have b5:=iH r2 (b:=5) (by decide)
  refine ⟨by omega,by omega,?_⟩
  refine E6 (l:=Bi (2+r2 % 5).toNat) (g:=λi:Nat=>.int i) rfl rfl (λi acc n'=>∃D:List (List Int),acc=D.map Bf/\D.length=i/\(∀c∈D,Ef h c)/\n'=n+2+i) ?_ ?_ ?_
  ·exact ⟨[],rfl,rfl,(λc z=>nomatch z),rfl⟩
  ·(intro i a acc n1 ha q_; obtain ⟨D,rfl,lD,hD,rfl⟩ := q_)
   obtain ⟨rfl,hi⟩:=cM ha
   array_get_dec
   refine ⟨h,rfl,by omega,by omega,by omega,λw rw_=>?_⟩
   array_get_dec
   refine ⟨D++[w],by rw[Bo]; rfl,by rw[Bh,lD]; rfl,λc hc=>?_,by omega⟩
   rcases Aw.mp hc with z | z
   ·exact hD c z
   ·rw[Af.mp z]; exact rw_
  ·(intro acc n1 q_; obtain ⟨D,rfl,lD,hD,rfl⟩ := q_)
   rw[Dm] at lD ⊢
   have lD2:2<=D.length/\D.length<=6:=by omega
   array_get_dec
   refine ⟨rfl,by omega,λr3=>?_⟩
   array_get_dec
   have ba:=iH r3 (b:=(D.length:Int)) (by omega)
   refine ⟨by rw[Ab]; omega,rfl,by omega,λr4=>?_⟩
   rw[Ab]
   array_get_dec
   obtain ⟨a,ea,la⟩ : ∃a:Nat,r3 % (D.length:Int)=(a:Int)/\a<D.length:=⟨(r3 % (D.length:Int)).toNat,by omega,by omega⟩
   rw[ea]
   have hx:D[a]? = some D[a]:=Be la
   have bh:=iH r4 (b:=(h:Int)) (by omega)
   refine ⟨by omega,by omega,by omega,?_⟩
   rw[Dq]
   refine Vo (l:=Bi h) (g:=λi:Nat=>.int i) rfl (λk=>decide ((k:Int)∈D[a]) != decide ((k:Int)=r4 % h)) (λk=>.int k) (λk hk yes no hy hn=>?_) ?_
   ·array_get_dec
    refine ⟨_,Lm hx,?_⟩
    array_get_dec
    refine Su (λz=>?_) (λz=>?_)
    ·array_get_dec
     exact hy z
    ·exact hn z
   array_get_dec
   have rc:=Ws (h:=h) (λk:Nat=>decide ((k:Int)∈D[a]) != decide ((k:Int)=r4 % h))
   rw[show Od (((Bi h).filter λk:Nat=>decide ((k:Int)∈D[a]) != decide ((k:Int)=r4 % h)).map λk:Nat=>Bm (k:Int))=Bf (((Bi h).filter λk:Nat=>decide ((k:Int)∈D[a]) != decide ((k:Int)=r4 % h)).map λk:Nat=>(k:Int)) by unfold Bf; rw[Ek]; rfl]
   generalize (((Bi h).filter λk:Nat=>decide ((k:Int)∈D[a]) != decide ((k:Int)=r4 % h)).map λk:Nat=>(k:Int))=card at rc ⊢
   rw[eG,show ((a:Int)+1)=((a+1:Nat):Int) by omega,DRow.cutG_from,<- List.map_take,<- List.map_drop]
   have l1:=List.length_take_le a D
   have l2:(D.drop (a+1)).length=D.length - (a+1):=Mp
   have l3:(D.take a).length=a:=by rw[Dg]; omega
   refine ⟨by rw[Ab]; omega,by rw[Bh,Ab,Ab]; simp; omega,by omega,?_⟩
   have:=hR h D (D.take a++card::D.drop (a+1)) (n+2+(2+r2 % 5).toNat+1+1) h2 h5 (by omega) (by rw[Bh,Ay]; omega) hD (λc hc=>?_) (by omega) (by omega)
   ·rw[Bo,Ar] at this
    exact this
   rcases Aw.mp hc with z | z
   ·exact hD c (Ng z)
   ·rcases Ao.mp z with z | z
    ·rw[z]; exact rc
    ·exact hD c (Nh z)
end
end K59
namespace DL
open PySem PySem.Spec PyProof.Rows L2 Nd
def P5(i:Nat):DB:=λD δ=>∃(d0 d1:Ad) (ds:List Ad),δ.sl[i]? = some (.dat .ow (.tuple [d0,d1,.list ds]))/\npk δ.sl=true/\imm d0=true/\imm d1=true/\Eg ds=true/\ds.length<1000000 /\
 D.nx ⟨δ.sl.set i (.dat .ow (.tuple [d0,d1,.list (ds++[.none])])),δ.n⟩
section
variable{X:Cx}{o e:Expr}{apos cpos pos ip sp:Pos}{i j:Nat}
theorem u0(ho:PE X o (gN i))(he:PE X e (tC .non))
  (hbase:Ta (.Subscript o (.Constant (.int (2:Int)) j ip) sp) "append" X.env (eval (.Subscript o (.Constant (.int (2:Int)) j ip) sp) X.env)=eval (.Subscript o (.Constant (.int (2:Int)) j ip) sp) X.env:=by rfl)
  (hfew:((Iq cpos (By [e] X.env)).all (λx=>!x.1) && (backToKw cpos (Yi [] X.env)).all (λx=>x.1.isSome)
   && decide (([e]:List Expr).length+([]:List Ru).length+(if ([]:List Ru).isEmpty then 0 else 1)<30))=true:=by rfl)
  (hline:(apos.endLine == cpos.line)=true:=by rfl) (hs:By [e] X.env=(false,eval e X.env)::By [] X.env:=by rfl) (hplain:(Iq cpos (By [] X.env)).any (·.1)=false:=by rfl)
  (hsw:Kf (.Call (.Attribute (.Subscript o (.Constant (.int (2:Int)) j ip) sp) "append" apos) [e] [] cpos) none pos.line X.env=pure false:=by rfl) :
  gO X (.Expr (.Call (.Attribute (.Subscript o (.Constant (.int (2:Int)) j ip) sp) "append" apos) [e] [] cpos) pos) (P5 i):=by
 refine PS.impD (rO (O4 PySem.F.plainAttrs_list PySem.F.slot_list_append PySem.F.type_list_append Po (Yg (r:=Y6 X.K) U0 ho Fh (λ_ _=>rfl)) (Jf he Qe hs) hbase hfew hline hs hplain) hsw) λD σ H h=>?_
 obtain ⟨H0,Y,S,T,δ,P,rfl,hS,hT,hA,⟨d0,d1,ds,h1,np,m0,m1,m2,lC,hD⟩,k1,k2,k3,k4⟩:=h
 obtain ⟨ent,e2,e3⟩:=Jy hS h1
 have hmS:ent∈S:=Ax e2
 obtain ⟨u,y,F'⟩:=ent
 have e3':y=.dat .ow (.tuple [d0,d1,.list ds]):=e3
 subst e3'
 obtain ⟨v,hv,rd,nd,_⟩:=hA.ok _ (Al _ hmS)
 have hv':u=some v:=hv
 subst hv'
 obtain ⟨t,xs,rfl,ht,ra,hz⟩:=rd.tup_inv
 cases ra with
 | @cons x0 _ xs' _ F0 G0 a0 ra1 =>
 cases ra1 with
 | @cons x1 _ xs'' _ F1 G1 a1 ra2 =>
 cases ra2 with
 | @cons x2 _ xs3 _ F2 G2 a2 ra3 =>
 cases ra3
 obtain rfl:=a0.imm m0
 obtain rfl:=a1.imm m1
 obtain ⟨r,ys,Gr,rfl,hr,ry,rfl,_⟩:=a2.list_inv
 obtain rfl:=ry.imm m2
 have ly:=ry.len
 have ntr:t≠r:=λz=>by rw[z,hr] at ht; cases ht
 refine ⟨.ref t,by rw[Oo e2],t,_,2,.ref r,rfl,rfl,Ur.of ht,fZ (j:=2) rfl,.inl ⟨rfl,_,Ud.of hr⟩,r,ys,.non,rfl,rfl,hr,Ca (by rw[ly]; exact lC) (mR (n:=1000000) (Ai _)),?_⟩
 have hn:=iC hS np
 have pm:(S++T).Perm (⟨some (.ref t),.dat .ow (.tuple [d0,d1,.list ds]),[r]⟩::(S.eraseIdx i++T)):=(Ij e2).append_right T
 have npE:∀f∈S.eraseIdx i++T,Og f.x=false:=λf hf=>by
  rcases Aw.mp hf with hf | hf
  ·exact hn f ((Tj S i).subset hf)
  ·exact hT f hf
 have hAp:=hA.perm pm
 have keep:∀b o,H b=some o->(b∉[r]\/GI o)->upd H r (.lst (ys++[.non])) b=some o:=λb o e z=>by
  have nb:b≠r:=λq=>by
   subst q
   rcases z with z | z
   ·exact z Aa
   ·rw[hr] at e
    cases e
    rcases z with ⟨_,z⟩ | ⟨_,_,z⟩ <;> cases z
  rw[Ew nb]
  exact e
 have hA1:=hAp.spoil npE keep
 have hsep:=(Bc.mp hAp.sep).1
 have nr0:r∉([]:List Addr):=λz=>nomatch z
 have rd':RdF X.K (upd H r (.lst (ys++[.non]))) (.ref t) (.tuple [d0,d1,.list (ds++[.none])]) [r]:=by
  refine .tup (by rw[Ew ntr]; exact ht) hz (RdFs.cons (F:=[]) (a0.kp (nZ hr nr0)) (RdFs.cons (F:=[]) (a1.kp (nZ hr nr0)) (RdFs.cons (F:=[r]) (G:=[]) ?_ .nil)))
  have r1:RdFs X.K (upd H r (.lst (ys++[.non]))) (ys++[.non]) (ds++[.none]) ([]++[]):=(ry.kp (nZ hr nr0)).snoc .non
  exact .lst Ed (by rw[Bh]; exact mR (by simp; omega)) r1
 have hA2:=hA1.pushF rd' (Cn.mpr ⟨nr0,Cz⟩) (λa ha f hf=>(hsep f hf).1 (.inl (npE f hf)) a ha) λa ha=>by
  rcases hAp.new _ Aa a ha with z | z
  ·exact z
  ·cases z.2
 obtain ⟨s1,s2⟩:=kI (y:=.dat .ow (.tuple [d0,d1,.list (ds++[.none])])) (F':=[r]) e2 hS
 rw[<- s1]
 exact k1 ⟨_,_⟩ _ _ s2 (hA2.perm ((Sm e2).append_right T).symm) hD
end
theorem At.forget{K:PySem.W.Frag}{H0 H:Hp}{X:Addr->Prop}{n i:Nat}{S T:List Ent}{u:Option V}{x:DV}{F:List Addr}(h:At K H0 X n (S++T) H)(e:S[i]? = some ⟨u,x,F⟩):At K H0 X n (S.set i ⟨u,.un,[]⟩++T) H:=by
 have hp:=h.perm ((Ij e).append_right T)
 have hc:At K H0 X n (⟨u,.un,[]⟩::(S.eraseIdx i++T)) H:=by
  obtain ⟨s1,s2⟩:=Bc.mp hp.sep
  refine ⟨λf hf=>?_,Bc.mpr ⟨λf hf=>⟨(λ_ a ha=>nomatch ha),(λ_ a _ ha=>nomatch ha)⟩,s2⟩,λf hf a ha=>?_,hp.same,hp.dom,hp.xd⟩
  ·rcases Ao.mp hf with rfl | hf
   ·rfl
   ·exact hp.ok f (Ae _ hf)
  ·rcases Ao.mp hf with rfl | hf
   ·exact nomatch ha
   ·exact hp.new f (Ae _ hf) a ha
 exact hc.perm ((Sm e).append_right T).symm
def S9(i:Nat):DG:=λx δ P=>P ⟨δ.sl.set i x,δ.n⟩
theorem G8{K:PySem.W.Frag}{i:Nat}:∀v σ H Q,LG K (S9 i) v σ H Q->Tn i v σ H Q:=by
 intro v σ H Q h
 obtain ⟨H0,Y,S,T,δ,x,F,P,rfl,hS,hA,hd,k⟩:=h
 show Q ((vs S).set i (some v)) H
 rw[<- aR (x:=x) (F:=F)]
 exact k _ _ H (bO hS) hA.store hd
def zF(k:Nat)(di:DI)(dt:DT):DB:=λD δ=>di δ λm ds δ1=>(∀d∈ds,dt ⟨δ1.sl.set k (.dat m d),δ1.n⟩ λb δ2=>b=false/\δ2=⟨δ1.sl.set k (.dat m d),δ1.n⟩)/\D.nx ⟨δ1.sl.set k .un,δ1.n⟩
theorem pW{K:PySem.W.Frag}{H0 H:Hp}{X:Addr->Prop}{k:Nat}{S T:List Ent}{δ:DS}(hS:Sl S δ)(h:At K H0 X δ.n (S++T) H):∃S',vs S'=vs S/\Sl S' ⟨δ.sl.set k .un,δ.n⟩/\At K H0 X δ.n (S'++T) H:=by
 cases q:S[k]? with
 | none =>
  refine ⟨S,rfl,?_,h⟩
  have e2:S.map Ent.x=δ.sl:=hS
  show S.map Ent.x=δ.sl.set k .un
  rw[mP,e2]
  rw[<- e2,Ab]
  exact jB.mp q
 | some en =>
  obtain ⟨u,x,F⟩:=en
  obtain ⟨s1,s2⟩:=kI (y:=.un) (F':=[]) q hS
  exact ⟨_,s1,s2,At.forget h q⟩
section
variable{X:Cx}{iter c:Expr}{di:DI}{dt:DT}{t:DB}{a:List Stmt}{pos pos' p2:Pos}{k:Nat}{x:Str}
theorem zG(hp:Zd (model X.prog X.w) X.A X.env X.xe)(hc:X.calm=true)(hi:xU X (.Name x pos') iter di)(hN:X.N.Nodup)(hk:X.N[k]? = some x)(hx:Loc X.env.scope x)(ht:dO X c dt)(ha:Ug X a t)(hf:X.fn x=true\/X.env.scope.names.lookup x=some .local:=by first | exact .inl rfl | exact .inr rfl | assumption)(hs:∀x,Eu iter X.env x=pure x:=by intro _; rfl):gO X (.For (.Name x pos') iter [.If c a [] p2] [] pos) (zF k di dt):=by
 refine PS.impD (vG hp hc hi (PG.imp (Ot hN hk hx hf) (G8 (K:=X.K))) (Sk (rD ht ha Zn)) hs) λD σ H h=>?_
 obtain ⟨H0,Y,S,T,δ,P,rfl,hS,hT,hA,hd,k1,k2,k3,k4⟩:=h
 refine ⟨H0,Y,S,T,δ,_,rfl,hS,hA,hd,λm ds δ1 J hid S1 H1 e1 e2 hA1 it hz p1=>?_⟩
 obtain ⟨hq,hn⟩:=p1
 obtain ⟨S0,f1,f2,f3⟩:=pW (k:=k) e2 hA1
 rw[<- e1,<- f1]
 refine ⟨λi q σ H=>q=ds.length - i/\i<=ds.length/\∃S,vs S=σ/\Sl S ⟨δ1.sl.set k .un,δ1.n⟩/\At X.K H0 Y δ1.n (S++(hid++T)) H,⟨ds.length,by simp,Do _,S0,rfl,f2,f3⟩,?_⟩
 (intro i q σ H q_; obtain ⟨rfl,hi,S2,rfl,e3,hA2⟩ := q_)
 have hid_ok:∀e∈hid,Hi X.K H δ1.n e:=λe he=>hA2.ok e (Ag _ (Al _ he))
 by_cases hlt:i<ds.length
 ·refine .inr ⟨it.go H δ1.n i hid_ok hlt,λσ' H'=>∃S,vs S=σ'/\Sl S ⟨δ1.sl.set k .un,δ1.n⟩/\At X.K H0 Y δ1.n (S++(hid++T)) H',λσ' H' q=>⟨ds.length - (i+1),by omega,rfl,hlt,q⟩,λx H' y=>?_⟩
  obtain ⟨s1,d,F,h1,h2,h3⟩:=it.yld H δ1.n i x H' hid_ok hlt y
  refine ⟨H0,Y,S2,hid++T,⟨δ1.sl.set k .un,δ1.n⟩,.dat m d,F,λδ3=>δ3=⟨δ1.sl.set k (.dat m d),δ1.n⟩,rfl,e3,hA2.item s1 h2 h3 it.md it.hd it.np,by show (⟨(δ1.sl.set k .un).set k (.dat m d),δ1.n⟩ : DS)=_; rw[List.set_set],λδ3 S3 H3 e4 hA3 p3=>?_⟩
  subst p3
  refine ⟨H0,Y,S3,hid++T,_,_,rfl,e4,hA3,hq d (Ax h1),λb δ' S' H' e1' e2' hA' p=>?_⟩
  obtain ⟨rfl,rfl⟩:=p
  obtain ⟨S5,g1,g2,g3⟩:=pW (k:=k) e2' hA'
  refine tL ?_
  have g2':Sl S5 ⟨δ1.sl.set k .un,δ1.n⟩:=by
   have : Sl S5 ⟨(δ1.sl.set k (.dat m d)).set k .un,δ1.n⟩:=g2
   rw[List.set_set] at this
   exact this
  exact ⟨S5,g1.trans e1',g2',g3⟩
 ·have e:i=ds.length:=by omega
  subst e
  exact .inl ⟨it.stop H δ1.n hid_ok,k1 _ S2 H e3 hA2.dropL hn⟩
theorem E7{i:Nat}(hp:Zd (model X.prog X.w) X.A X.env X.xe)(hc:X.calm=true)(hi:xU X (.Name x pos') iter di)(hN:X.N.Nodup)(hk:X.N[i]? = some x)(hx:Loc X.env.scope x)(ht:dO X c dt)(ha:Ug X a t)(hf:X.fn x=true\/X.env.scope.names.lookup x=some .local:=by first | exact .inl rfl | exact .inr rfl | assumption)(hs:∀x,Eu iter X.env x=pure x:=by intro _; rfl):gO X (.For (.Name x pos') iter [.If c a [] p2] [] pos) (zF i di dt):=zG (k:=i) hp hc hi hN hk hx ht ha hf hs
end
def iS:D2:=λx y P=>match x,y with
 | .dat m (.list ds),.dat m' (.list es)=>ds.length+es.length<=1000000/\P (.dat .pk (.list (ds++es)))
 | _,_=>False
theorem G5{K:PySem.W.Frag}:iX K Y5 iS:=by
 intro H0 X n S T x y v w F G H Q P hA hd k
 unfold iS at hd
 split at hd
 ·rename_i m ds m' es
  obtain ⟨hz,p⟩:=hd
  obtain ⟨b,ys,G1,rfl,hb,rb,rfl,_⟩:=(hA.told mem_mid).list_inv
  obtain ⟨a,xs,G2,rfl,ha,ra,rfl,_⟩:=(hA.told Fk).list_inv
  have l1:=ra.len
  have l2:=rb.len
  refine ⟨a,b,xs,ys,rfl,rfl,ha,hb,mR (by omega),λq hq=>?_⟩
  have s1:=Ga hq (.lst (xs++ys))
  have sy:=Bc.mp hA.mid.sep
  have sx:=Bc.mp hA.drop.mid.sep
  have fr:=hA.drop2.free hq
  refine k _ _ _ _ (((hA.drop2.grow (n':=n) s1 (Ai _)).push (e:=⟨some (.ref q),.dat .pk (.list (ds++es)),q::(G2++G1)⟩) ⟨_,rfl,.lst Ed (by rw[Bh]; exact mR (by omega)) ((ra.app rb).kp (Kp.of s1)),(λz=>nomatch z),(λz=>nomatch z)⟩ (λf hf=>⟨(λ_ c hc=>nomatch hc),λhh c hc z=>?_⟩) (λc hc=>nomatch hc)).tomid) p
  have hh':E2 f.x=true:=hh.elim (λz=>nomatch z) id
  rcases Ao.mp z with z | z
  ·rw[z] at hc
   exact fr f hf (Fm _ _ hc)
  ·rcases Aw.mp z with z | z
   ·exact (sx.1 f hf).2 (.inr hh') c hc (Ae _ z)
   ·exact (sy.1 f ((Dl S).append (Di _ T) |>.subset hf)).2 (.inr hh') c hc (Ae _ z)
 ·exact hd.elim
theorem I0{X:Cx}{a b:Expr}{da db:DE}{pos:Pos}(ha:Fc X a da)(hb:Fc X b db):Fc X (.BinOp a .Add b pos) (Uw iS da db):=Xr zB G5 ha hb
end DL
namespace K59
open PySem L2 Nd DL
local macro_rules | `(tactic| array_get_dec) => do
  let ids:=(("e_ssW e_ssWB e_lenSet e_lsB e_seq e_skip e_ret e_if e_asg e_name e_name2 e_name3 e_own e_nF e_gtup e_gtup_w1 e_gsn e_gsc e_op e_var e_c e_imm e_immB e_take e_I e_I0 e_eqF e_eqT e_inFt_w1 e_isNF e_isNT e_ixl e_ixt e_ixt_w1 e_cat e_catT_w1 e_nlT e_ntT e_ntF e_pkOfsh e_pkOfow e_mdInsh e_mdItpk e_mdItsh e_mdItow e_nil e_cons e_tup e_lst e_noPart e_part e_partB e_sl e_slBl e_slBt e_cb e_lenl e_lent e_lent_w1 e_listt_w1 e_tuplel e_min2 e_all e_isi e_str e_v e_b e_bB e_notT e_orT e_orTt e_orTf e_not e_notB e_and e_andt e_neg e_negB e_dL e_dTp e_lB e_tpB_w1 e_range1 e_rng1B e_enum e_enumB e_for e_comp e_comp2L e_stepL e_stepLT e_compD e_noTest e_step e_stepT e_stepF e_yesB e_stepD e_stepDT e_yesBD e_call e_callW e_draws e_drawsB e_append e_aug e_augB e_scrSl e_dnew e_dput e_tagD e_callA e_tr e_trB e_callWS e_callWSB callWSD retWT callAB retA retA_sh retA_tp isDct dputB dk_e dget_e dinF_e callB callBW tupB lstB datas pkMd allOw noPk appB own1 npk retE retW retL args0 frD frD1 alD List.map_cons List.map_nil List.replicate List.getElem?_cons_zero List.getElem?_cons_succ List.set_cons_zero List.set_cons_succ List.cons_append List.nil_append Option.map_some List.length_cons List.length_nil List.append_nil rdAdd rdSub rdMul rdDiv rdMod rdLt rdLe rdGt rdGe if_true if_false Bool.false_eq_true List.append_assoc Nat.reduceAdd Nat.reduceSub Nat.reduceLeDiff true_and im_e ima_e dp_e dpa_e any_int eqD_intd eqD_word eqD_bl eqD_str eqD_li eqD_l0 ow_e tt_e cdiv_e Int.reduceLT Int.reduceNeg and_self and_true fold_w isi_li isi_tt isi_ib isi_ii isi_wt Bool.not_true Bool.not_false decide_true String.reduceEq or_true true_or List.isEmpty_nil ifB_lt ifB_lf isi_ss str_self Int.cast_ofNat_Int atI_0 atI_1 atI_2 some_e isE_cons yesL_ow st_places_same st_same_places" : String).splitOn " ").toArray.map λ(x:String)=>Lean.mkIdent x.toName
  `(tactic| try simp only [$[↓$ids:ident],*])
theorem eO{w:List Int}(r:Ef 60 w):Kk 12 (Bf w):=by
 unfold Bf
 rw[Kk,Oq]
 intro x hx
 obtain ⟨i,hi,rfl⟩:=Br.mp hx
 have:=r.2 i hi
 rw[Kk]
 omega
theorem bH{w:List Int}(r:Ef 60 w):Hf (Bf w)<=61:=by
 unfold Bf
 rw[Hf,oA]
 have:=Kn r
 omega
theorem pR{a:List (List Int)}(h:∀w∈a,Ef 60 w):Kk 12 ((.list (a.map Bf))):=by
 rw[Kk,Oq]
 intro x hx
 obtain ⟨w,hw,rfl⟩:=Br.mp hx
 exact eO (h w hw)
theorem kG{a:List (List Int)}(h:∀w∈a,Ef 60 w):Hf ((.list (a.map Bf)))<=61 * a.length+1:=by
 rw[Hf]
 have:=Rp (m:=61) (xs:=a.map Bf) λx hx=>by
  obtain ⟨w,hw,rfl⟩:=Br.mp hx
  exact bH (h w hw)
 rw[Ab] at this
 omega
def vM(N:Nat)(q:List Int):Prop:=∃a b:Nat,q=[(a:Int),(b:Int)]/\a<b/\b<N
theorem oV{N:Nat}{q:List Int}(h:vM N q)(hN:N<=60):Ef 60 q:=by
 obtain ⟨a,b,rfl,lt,lb⟩:=h
 refine ⟨Bc.mpr ⟨λx hx=>?_,Eb _ _⟩,λx hx=>?_⟩
 ·rw[Af.mp hx]; omega
 ·rcases Ao.mp hx with z | z
  ·rw[z]; omega
  ·rw[Af.mp z]; omega
theorem mN(N:Nat):∀L:List Nat,(L.map λ_=>N).sum=L.length * N
 | []=>by simp
 | a::L=>by rw[Ar,List.sum_cons,mN N L,Ay,Nat.succ_mul]; omega
theorem gB{k:Nat}:∀{xs:List Ad},(∀x∈xs,x.depth<=k)->Bn xs<=k
 | [],_=>by rw[Bn]; omega
 | x::xs,h=>by
  have a:=h x Aa
  have b:=gB (xs:=xs) λy hy=>h y (Ae _ hy)
  rw[Bn]
  omega
theorem eB{xs:List Ad}{m:Nat}(h:∀x∈xs,Kk 12 x/\Hf x<=m)(l:m * xs.length<=40000):Kk 12 (.list xs)/\(12+12) * Hf (.list xs)<=Bb:=by
 have n1:=Rp (m:=m) (xs:=xs) λx hx=>(h x hx).2
 refine ⟨?_,mR ?_⟩
 ·rw[Kk,Oq]
  exact λx hx=>(h x hx).1
 ·rw[Hf]
  omega
theorem eN{N:Nat}{P:List (List Int)}(nd:P.Nodup)(h:∀q∈P,vM N q):P.length<=N * N:=by
 have:=Sj (l2:=(Bi N).flatMap λa:Nat=>(Bi N).map λb:Nat=>[(a:Int),(b:Int)]) nd λq hq=>by
  obtain ⟨a,b,rfl,lt,lb⟩:=h q hq
  exact Ec.mpr ⟨a,Df.mpr (by omega),Br.mpr ⟨b,Df.mpr lb,rfl⟩⟩
 rw[List.length_flatMap] at this
 simp only[Ab,Dm,mN] at this
 exact this
def M7(N:Nat)(T:Ad):Prop:=(∃i j:Nat,i<j/\j<N/\T=Xy i j)\/∃(w:List Int) (P:List (List Int)),Ef 12 w/\(∀q∈P,vM N q)/\P.Nodup/\T=Vv w P
theorem xW{N:Nat}{T:Ad}(h:M7 N T)(hN:N<=10):Kk 12 T/\Hf T<=6300:=by
 rcases h with ⟨i,j,lt,lj,rfl⟩ | ⟨w,P,rw_,hP,nd,rfl⟩
 ·unfold Xy
  refine ⟨?_,?_⟩
  ·simp only[Kk,Jx]
   exact ⟨by decide +kernel,by omega,by omega,trivial⟩
  ·simp only[Hf,Hq]
   decide +kernel
 ·have r60:=rw_.up (show (12:Int)<=60 by decide)
  have rP:∀q∈P,Ef 60 q:=λq hq=>oV (hP q hq) (by omega)
  have n1:=bH r60
  have n2:=kG rP
  have lP:=eN nd hP
  have l100:N * N<=10 * 10:=Nat.mul_le_mul hN hN
  unfold Vv
  refine ⟨?_,?_⟩
  ·simp only[Kk,Jx]
   exact ⟨by decide +kernel,eO r60,pR rP,trivial⟩
  ·simp only[Hf,Hq]
   have : Hf (.str (Fu "places"))<=20:=by decide +kernel
   simp only[Hf] at *
   omega
def Re(h:Nat)(D:List (List Int)):Ad:=.tuple [.int h,.list (D.map Bf)]
structure Dk(N h:Nat)(D:List (List Int)):Prop where
 h2:2<=h
 h6:h<=6
 len:D.length=N
 r:∀c∈D,Ef h c
theorem K8{N h:Nat}{D:List (List Int)}(d:Dk N h D)(hN:N<=10):Kk 12 (Re h D)/\Hf (Re h D)<=620:=by
 have h6:=d.h6
 have rP:∀q∈D,Ef 60 q:=λq hq=>(d.r q hq).up (by omega)
 have n2:=kG rP
 have l:=d.len
 unfold Re
 refine ⟨?_,?_⟩
 ·simp only[Kk,Jx]
  exact ⟨by omega,pR rP,trivial⟩
 ·simp only[Hf,Hq] at *
  omega
theorem mM{N h:Nat}{D:List (List Int)}(d:Dk N h D){k:Nat}{w:List Int}{P:List (List Int)}(mw:w∈cw h 0 k)(hB:Bars D h k P):M7 N (Vv w P):=by
 have h6:=d.h6
 refine .inr ⟨w,P,(cw_rise mw).up (by omega),fun q hq=>?_,hB.nd,rfl⟩
 obtain ⟨a,b,e,lt,lb⟩:=hB.ok q hq
 exact ⟨a,b,e,lt,by rw[<- d.len]; exact lb⟩
theorem sS{h k:Nat}{D:List (List Int)}{w:List Int}{P:List (List Int)}(mw:w∈cw h 0 k)(nd:(D.map (Qz w)).Nodup)(hB:Bars D h k P):eV h D w P:=by
 have lw:=(cw_mem.mp mw).1
 refine ⟨cw_rise mw,nd,fun e=>hB.none (by rw [← lw,e]; rfl),fun e=>?_⟩
 have l0:0<w.length:=Ko.mpr e
 rw[lw]
 exact hB.all (by omega)
theorem R8{N h:Nat}{D:List (List Int)}{K:Ad->Prop}(d:Dk N h D)(hN:N<=10)(k:∀T,M7 N T->(∀R:Ad->Prop,R (.bool true)->Ss [.int h,.list (D.map Bf),T] R)->((∃i j:Nat,T=Xy i j)\/∃w P,T=Vv w P/\P.length<=1100)->K T):bD [.int h,.list (D.map Bf)] K:=by
 have q1:=d.h2
 have q2:=d.h6
 have q3:=d.len
 refine ⟨h,D,rfl,by omega,by omega,by omega,d.r,λa b x lt ha hb=>?_,λk' w P nd kh mw ndw hB=>?_⟩
 ·exact k _ (.inl ⟨a,b,lt,by rw[<- q3]; exact (An.mp hb).1,rfl⟩) (λR hR=>⟨h,D,_,rfl,by omega,by omega,by omega,d.r,.inl ⟨a,b,x,x,lt,ha,hb,rfl,λ_=>hR,λz=>absurd rfl z⟩⟩) (.inl ⟨a,b,rfl⟩)
 ·exact k _ (mM d mw hB) (fun R hR=>⟨h,D,_,rfl,by omega,by omega,by omega,d.r,.inr ⟨w,P,(cw_rise mw).up (by omega),hB.ok,hB.few,rfl,fun _=>hR,fun z=>absurd (sS mw ndw hB) z⟩⟩) (.inr ⟨w,P,rfl,hB.few⟩)
theorem uL{N h:Nat}{D:List (List Int)}(d:Dk N h D)(hN:N<=10){T:Ad}(t:M7 N T):∃b:Bool,∀R:Ad->Prop,R (.bool b)->Ss [.int h,.list (D.map Bf),T] R:=by
 have q1:=d.h2
 have q2:=d.h6
 have q3:=d.len
 rcases t with ⟨i,j,lt,lj,rfl⟩ | ⟨w,P,rw_,hP,nd,rfl⟩
 ·have hi:D[i]? = some D[i]:=Be (by omega)
  have hj:D[j]? = some D[j]:=Be (by omega)
  by_cases c:D[i]=D[j]
  ·exact ⟨true,λR hR=>⟨h,D,_,rfl,by omega,by omega,by omega,d.r,.inl ⟨i,j,_,_,lt,hi,hj,rfl,λ_=>hR,λz=>absurd c z⟩⟩⟩
  ·exact ⟨false,λR hR=>⟨h,D,_,rfl,by omega,by omega,by omega,d.r,.inl ⟨i,j,_,_,lt,hi,hj,rfl,λz=>absurd z c,λ_=>hR⟩⟩⟩
 ·have lP:=eN nd hP
  have l100:N * N<=10 * 10:=Nat.mul_le_mul hN hN
  have ok:∀q∈P,Pa D q:=λq hq=>by
   obtain ⟨a,b,e,lt,lb⟩:=hP q hq
   exact ⟨a,b,e,lt,by omega⟩
  by_cases c:eV h D w P
  ·exact ⟨true,λR hR=>⟨h,D,_,rfl,by omega,by omega,by omega,d.r,.inr ⟨w,P,rw_,ok,by omega,rfl,λ_=>hR,λz=>absurd c z⟩⟩⟩
  ·exact ⟨false,λR hR=>⟨h,D,_,rfl,by omega,by omega,by omega,d.r,.inr ⟨w,P,rw_,ok,by omega,rfl,λz=>absurd z c,λ_=>hR⟩⟩⟩
theorem X8{l:List DV}(h:l.length=10):∃v1 v2 v3 v4 v5 v6 v7 v8 v9 v10,l=[v1,v2,v3,v4,v5,v6,v7,v8,v9,v10]:=by
 match l,h with
 | [v1,v2,v3,v4,v5,v6,v7,v8,v9,v10],_=>exact ⟨v1,v2,v3,v4,v5,v6,v7,v8,v9,v10,rfl⟩
section
variable{P:Bj}{w:World}{K:PySem.W.Frag}{mg:Str->Option Value}{base:Heap}
theorem W1:FnScope ["_law_script", "_law_cell", "_law_things_here", "_law_kept", "_law_holes", "_law_deck_here", "_law_first", "_law_text", "_law_pick", "_law_told", "_law_one"] ["_law_script"] (Bq Yp):=⟨rfl,rfl,rfl,by decide +kernel,rfl,by decide +kernel,by decide +kernel⟩
theorem U4{f f_fewest_places f_shows_fewest f_L_draws f_L_holds f_L_things  : Addr}{fd d_fewest_places d_shows_fewest d_L_draws d_L_holds d_L_things:Cq}(F:Fun K "law" "law" Yp f fd)(G_fewest_places:FnOk P w K mg base Hn 4 f_fewest_places d_fewest_places ["holes", "deck"] (Nr K (bD)))(b_fewest_places:Binds K d_fewest_places ["holes", "deck"] [])(k_fewest_places:PySem.W.keepIn K (.ref f_fewest_places)=true)(m_fewest_places:mg "fewest_places" = some (.ref f_fewest_places))(G_shows_fewest:FnOk P w K mg base Hn 5 f_shows_fewest d_shows_fewest ["holes", "deck", "thing"] (Nr K (Ss)))(b_shows_fewest:Binds K d_shows_fewest ["holes", "deck", "thing"] [])(k_shows_fewest:PySem.W.keepIn K (.ref f_shows_fewest)=true)(m_shows_fewest:mg "shows_fewest" = some (.ref f_shows_fewest))(G_L_draws:FnOk P w K mg base Hn 1 f_L_draws d_L_draws ["_law_cell"] (Vj))(b_L_draws:Binds K d_L_draws ["_law_cell"] [])(k_L_draws:PySem.W.keepIn K (.ref f_L_draws)=true)(m_L_draws:mg "_law_draws" = some (.ref f_L_draws))(G_L_holds:FnOk P w K mg base Hn 3 f_L_holds d_L_holds ["_law_holes", "_law_deck_here", "_law_thing"] (Nr K (Ss)))(b_L_holds:Binds K d_L_holds ["_law_holes", "_law_deck_here", "_law_thing"] [])(k_L_holds:PySem.W.keepIn K (.ref f_L_holds)=true)(m_L_holds:mg "_law_holds" = some (.ref f_L_holds))(G_L_things:FnOk P w K mg base Hn 3 f_L_things d_L_things ["_law_draws_here"] (K9 K (lZ)))(b_L_things:Binds K d_L_things ["_law_draws_here"] [])(k_L_things:PySem.W.keepIn K (.ref f_L_things)=true)(m_L_things:mg "_law_things" = some (.ref f_L_things))(mz_str:mg "str" = none):FnOk P w K mg base Hn 6 f fd ["_law_script"] (spLawD K):=by
 refine' P8 (k:=5) F W1 (λcdv A outer s H E hr=>?hb) ?h
 case hb =>
  have hr1:Room 1 _:=hr.mono (by decide)
  have hr2:Room 2 _:=hr.mono (by decide)
  have hr3:Room 3 _:=hr.mono (by decide)
  have hr4:Room 4 _:=hr.mono (by decide)
  have hr5:Room 5 _:=hr.mono (by decide)
  have hu64:=hr.units
  have hrx:Room 5 (Me Hn P w K mg base ["_law_script", "_law_cell", "_law_things_here", "_law_kept", "_law_holes", "_law_deck_here", "_law_first", "_law_text", "_law_pick", "_law_told", "_law_one"] "law" (Bq Yp) f cdv A outer s H E).nox.A:=hr
  have hu100:(Me Hn P w K mg base ["_law_script", "_law_cell", "_law_things_here", "_law_kept", "_law_holes", "_law_deck_here", "_law_first", "_law_text", "_law_pick", "_law_told", "_law_one"] "law" (Bq Yp) f cdv A outer s H E).nox.A.units+100<cLine:=by have:=hrx.un; omega
  have CS1:∀{scope:Scope} (h:scope={ kind:=.function,names:=[(".0",.local),("_law_holes",.local),("_law_deck_here",.local),("fewest_places",.globalImplicit)],isGenerator:=false,isCoroutine:=false }),
    CompScope (Me Hn P w K mg base ["_law_script", "_law_cell", "_law_things_here", "_law_kept", "_law_holes", "_law_deck_here", "_law_first", "_law_text", "_law_pick", "_law_told", "_law_one"] "law" (Bq Yp) f cdv A outer s H E).nox scope [] "_law_holes" [] []:=by
   rintro scope rfl
   exact Nd.compScope0 (by rfl) (by decide +kernel) (by rfl) (by decide +kernel) (by rfl) (by rfl)
  exact Cc (Mo Du rfl (sL (iD (vL (pv 0) Vf (Vn Cs)) (Lk (Ak Cs Ba)))) (Gp (i:=1) W1.nd rfl (Dj rfl))
   (Cc (Fw (i:=2) W1.nd rfl (Dj rfl) (uV G_L_things hr3 rfl m_L_things k_L_things b_L_things Fd (Ak (i3 G_L_draws hr1 rfl m_L_draws k_L_draws b_L_draws Fd (Ak (Am (pv 1)) Ba)) Ba)))
    (Cc (Fw (i:=3) W1.nd rfl (Dj rfl) (Iw (Pp hr.gd hu100) aM rfl mz_str (by decide +kernel) (Ak (Am (pv 2)) Ba)))
    (Cc (sX (o:=false) (i0:=6) W1.nd rfl rfl (CS1 rfl) (.inl rfl) (by decide +kernel) rfl (sL (Am (pv 2))) (λ_ _ _=>Rh) (λ_ _ _=>Dy G_fewest_places hr4 rfl m_fewest_places k_fewest_places b_fewest_places Fd (Ak (Am (pv 0)) (Ak (Am (pv 1)) Ba))))
    (Cc (Fw (i:=7) W1.nd rfl (Dj rfl) (Iw (Pp hr.gd hu100) aM rfl mz_str (by decide +kernel) (Ak (Am (pv 6)) Ba)))
    (Cr (Mo Du rfl (sL (Lk (Ak Cs (Ak Cs (Ak Cs (Ak Cs (Ak Cs (Ak Cs (Ak Cs Ba))))))))) (Gp (i:=8) W1.nd rfl (Dj rfl))
    (Cc (yT (Ex (Am (pv 2)) (Am (pv 8))) (gQ (n:=2) rfl (Lh (Gp (i:=4) W1.nd rfl (Dj rfl)) (Lh (Gp (i:=5) W1.nd rfl (Dj rfl)) Zl))))
     (Cc (Ry (i:=9) W1.nd rfl (Dj rfl) (Dy G_fewest_places hr4 rfl m_fewest_places k_fewest_places b_fewest_places Fd (Ak (Am (pv 4)) (Ak (Am (pv 5)) Ba))))
     (Cc (Ib (Ys (Mr (Ke (Iz (Dy G_L_holds hr3 rfl m_L_holds k_L_holds b_L_holds Fd (Ak (Am (pv 4)) (Ak (Am (pv 5)) (Ak (Am (pv 9)) Ba)))))) (Mk (Rf hu64 (Iw (Pp hr.gd hu100) aM rfl mz_str (by decide +kernel) (Ak (Am (pv 2)) Ba)) (Am (pv 3))))))
     (Cr (Ds Ka)) Gb)
     (Cc (E7 Du rfl (sL (I0 (Lk (Ak (Am (pv 9)) Ba)) (Am (pv 6)))) (i:=10) W1.nd rfl (Dj rfl)
     (Rf hu64 (Dy G_shows_fewest hr5 rfl m_shows_fewest k_shows_fewest b_shows_fewest Fd (Ak (Am (pv 4)) (Ak (Am (pv 5)) (Ak (Am (pv 10)) Ba)))) (Dy G_L_holds hr3 rfl m_L_holds k_L_holds b_L_holds Fd (Ak (Am (pv 4)) (Ak (Am (pv 5)) (Ak (Am (pv 10)) Ba))))) (Cr (Ds Ka)))
     (Cc (Ib (Tu hu64 (Ex (Am (pv 9)) Cs) Xm)
     (Cr (u0 (pv 9) zA)) Gb)
     (Cr (Ib (Ys (Mr (Rf hu64 (Iw (Pp hr.gd hu100) aM rfl mz_str (by decide +kernel) (Ak (Am (pv 6)) Ba)) (Am (pv 7))) (Mk (Rf hu64 (Iw (Pp hr.gd hu100) aM rfl mz_str (by decide +kernel) (Ak (Am (pv 2)) Ba)) (Am (pv 3))))))
     (Cr (Ds Ka)) Gb))))))))))))))
   (Cr (Ds Ka))
 case h =>
  intro ns h63
  array_get_dec
  have lc:(Nt ns none (some 3)).length<=3:=BC 3
  refine ⟨by rw[Ab]; omega,?_⟩
  refine Yw (l:=Nt ns none (some 3)++[0]) (g:=Bm) (by rw[Bo]; rfl) (λi δ=>∃(l:List DV) (n':Nat),δ=⟨.scr ns::l,n'⟩/\l.length=10/\(∀v∈l,NP v)/\n'<=100 * i) ?_ ?_ ?_
  ·exact ⟨_,_,rfl,rfl,by simp [Kq],by omega⟩
  ·(intro i c _ hc q_; obtain ⟨l,n0,rfl,hl,hv,hn⟩ := q_)
   have hi:i<4:=by
    have:=(An.mp hc).1
    rw[Bh,Mj] at this
    omega
   obtain ⟨v1,v2,v3,v4,v5,v6,v7,v8,v9,v10,rfl⟩:=X8 hl
   simp only[List.forall_mem_cons] at hv
   obtain ⟨hv1,hv2,hv3,hv4,hv5,hv6,hv7,hv8,hv9,hv10,-⟩:=hv
   array_get_dec
   refine ⟨rfl,by omega,λh D D2 n1 h2 h5 lD l2 hD hD2 ka kb=>?_⟩
   have d1:Dk D.length h D:=⟨h2,by omega,rfl,hD⟩
   have d2:Dk D.length h D2:=⟨h2,by omega,l2,hD2⟩
   have d3:Dk D.length (h+1) D:=⟨by omega,by omega,rfl,λc hc=>(hD c hc).up (by omega)⟩
   obtain ⟨tg,eT,hT⟩ : ∃tg:List Ad,[Od [.int h,.list (D.map Bf)],.tuple [.int h,.list (D2.map Bf)],.tuple [.int ((h:Int)+1),.list (D.map Bf)]]=tg/\∀x,x∈tg↔x=Re h D\/x=Re h D2\/x=Re (h+1) D:=⟨_,rfl,λx=>by simp [Re]⟩
   have hI:∀x∈tg,∃(h':Nat) (D':List (List Int)),x=Re h' D'/\Dk D.length h' D':=λx hx=>by
    rcases (hT x).mp hx with z | z | z
    ·exact ⟨_,_,z,d1⟩
    ·exact ⟨_,_,z,d2⟩
    ·exact ⟨_,_,z,d3⟩
   have lT:tg.length=3:=by rw[<- eT]; rfl
   rw[eT]
   array_get_dec
   have fT:Kk 12 (.list tg)/\(12+12) * Hf (.list tg)<=Bb:=eB (m:=620) (λx hx=>by
    obtain ⟨h',D',rfl,dk⟩:=hI x hx
    exact K8 dk lD) (by rw[lT]; decide)
   have dT:(PyData.list tg).depth<=90:=by
    have:=gB (k:=60) (xs:=tg) λx hx=>by
     obtain ⟨h',D',rfl,dk⟩:=hI x hx
     unfold Re
     exact dp
    rw[Dh]
    omega
   obtain ⟨tx,etx⟩ : ∃tx,bG (.list tg)=tx:=⟨_,rfl⟩
   refine ⟨⟨12,by decide,fT.1,fT.2⟩,dT,?_⟩
   rw[etx]
   unfold qG
   refine ⟨λi acc n'=>acc.length=i/\(∀T∈acc,M7 D.length T)/\n'=n1,⟨rfl,(λT z=>nomatch z),rfl⟩,λi x acc n' hx hacc=>?_,λacc n' hacc=>?_⟩
   ·obtain ⟨la,hA,rfl⟩:=hacc
    have snoc:∀T,M7 D.length T->(acc++[T]).length=i+1/\(∀T'∈acc++[T],M7 D.length T'):=λT hT=>⟨by rw[Bh,la]; rfl,λT' hT'=>by
     rcases Aw.mp hT' with z | z
     ·exact hA T' z
     ·rw[Af.mp z]; exact hT⟩
    obtain ⟨h',D',rfl,dk⟩:=hI x (Ax hx)
    have q1:=dk.h2
    have q2:=dk.h6
    have q3:=dk.len
    refine ⟨_,_,rfl,?_⟩
    array_get_dec
    refine ⟨h',D',rfl,by omega,by omega,by omega,dk.r,λa b x lt ha hb=>?_,λk w P nd kh mw ndw hB=>?_⟩
    ·array_get_dec
     have:=snoc _ (.inl ⟨a,b,lt,by rw[<- q3]; exact (An.mp hb).1,rfl⟩)
     exact ⟨this.1,this.2⟩
    ·array_get_dec
     have:=snoc _ (mM dk mw hB)
     exact ⟨this.1,this.2⟩
   obtain ⟨la,hA,rfl⟩:=hacc
   rw[lT] at la
   array_get_dec
   have fA:Kk 12 (.list acc)/\(12+12) * Hf (.list acc)<=Bb:=eB (m:=6300) (λx hx=>xW (hA x hx) lD) (by rw[la]; decide)
   have dA:(PyData.list acc).depth<=90:=by
    have:=gB (k:=60) (xs:=acc) λx hx=>by
     rcases hA x hx with ⟨a,b,_,_,rfl⟩ | ⟨w,P,_,_,_,rfl⟩
     ·unfold Xy
      exact dp
     ·unfold Vv
      exact dp
    rw[Dh]
    omega
   obtain ⟨ty,ety⟩ : ∃ty,bG (.list acc)=ty:=⟨_,rfl⟩
   refine ⟨⟨12,by decide,fA.1,fA.2⟩,dA,?_⟩
   rw[ety]
   refine Yw (l:=[0,1,0,2,1,1,0]) (g:=Bm) rfl (λ_ δ=>∃(v4 v5 v8 v9 v10:DV),δ=⟨[.scr ns,.dat .sh (.int c),.dat .sh (.list tg),.dat .sh (.str tx),v4,v5,.dat .sh (.list acc),.dat .sh (.str ty),v8,v9,v10],n'⟩/\NP v4/\NP v5/\NP v8/\NP v9/\NP v10) ?_ ?_ ?_
   ·exact ⟨_,_,_,_,_,rfl,hv4,hv5,hv8,hv9,hv10⟩
   ·(intro j pk _ hpk q_; obtain ⟨v4,v5,v8,v9,v10,rfl,hv4,hv5,hv8,hv9,hv10⟩ := q_)
    obtain ⟨h',D',epk,dk⟩ : ∃(h':Nat) (D':List (List Int)),Ue tg pk=some (Re h' D')/\Dk D.length h' D':=by
     have:=Ax hpk
     simp only[Ao,Bz,or_false] at this
     have p3:pk=0\/pk=1\/pk=2:=by omega
     rw[<- eT]
     rcases p3 with rfl | rfl | rfl
     ·exact ⟨h,D,rfl,d1⟩
     ·exact ⟨h,D2,rfl,d2⟩
     ·exact ⟨h+1,D,rfl,d3⟩
    have q1:=dk.h2
    have q2:=dk.h6
    have q3:=dk.len
    array_get_dec
    refine ⟨_,epk,?_⟩
    unfold Re
    array_get_dec
    refine R8 dk lD λT tT jT cT=>?_
    array_get_dec
    refine jT _ ?_
    array_get_dec
    rw[etx]
    refine ⟨⟨12,by decide,fT.1,fT.2⟩,dT,?_⟩
    array_get_dec
    unfold zF
    array_get_dec
    unfold iS
    refine ⟨by rw[la,Mj]; decide,?_⟩
    array_get_dec
    refine ⟨λT' hT'=>?_,?_⟩
    ·have t':M7 D.length T':=by
      rcases Ao.mp hT' with z | z
      ·rw[z]; exact tT
      ·exact hA T' z
     obtain ⟨b,hb⟩:=uL dk lD t'
     refine hb _ (hb _ ?_)
     array_get_dec
     cases b <;> rfl
    ·rcases cT with ⟨a,b,rfl⟩ | ⟨w,P,rfl,lP⟩
     ·unfold Xy
      array_get_dec
      refine ⟨⟨12,by decide,fA.1,fA.2⟩,dA,?_⟩
      rw[ety]
      array_get_dec
      refine ⟨⟨12,by decide,fT.1,fT.2⟩,dT,?_⟩
      rw[etx]
      array_get_dec
      exact ⟨_,_,_,_,_,rfl,Ir,Ir,Ir,xE,Kq⟩
     ·unfold Vv
      array_get_dec
      unfold P5
      refine ⟨_,_,_,rfl,rfl,rfl,?_,Uo _,by rw[Ab]; omega,?_⟩
      ·array_get_dec
      array_get_dec
      refine ⟨⟨12,by decide,fA.1,fA.2⟩,dA,?_⟩
      rw[ety]
      array_get_dec
      refine ⟨⟨12,by decide,fT.1,fT.2⟩,dT,?_⟩
      rw[etx]
      array_get_dec
      exact ⟨_,_,_,_,_,rfl,Ir,Ir,Ir,xE,Kq⟩
   ·(intro _ q_; obtain ⟨v4,v5,v8,v9,v10,rfl,hv4,hv5,hv8,hv9,hv10⟩ := q_)
    exact ⟨_,_,rfl,rfl,by simp [Ir,hv4,hv5,hv8,hv9,hv10],by omega⟩
  ·(intro _ q_; obtain ⟨l,n0,rfl,_⟩ := q_)
   array_get_dec
end
structure Def(K:PySem.W.Frag)(x:Str)(st:Stmt)(f:Addr)(fd:Cq):Prop where
 nm:PySem.W.nsIn K Ct x=some (some (.ref f))
 fn:Fun K x x st f fd
theorem def_mk{K:PySem.W.Frag}{x:Str}{st:Stmt}{f:Addr}{od an:Option Addr}{sl:Array (Option Value)}{oc kV dc pm cd ct:Value}(a:PySem.W.nsIn K Ct x=some (some (.ref f)))(l:K.lookup f=some ⟨oc,od,.func (PySem.W.fnOf x x (Ou st) (Jd st) (Bq st) .none kV dc pm an cd ct),sl⟩)(c:PySem.W.codeIn K cd x=true)(k:PySem.W.keepIn K (.ref f)=true):Def K x st f (PySem.W.fnOf x x (Ou st) (Jd st) (Bq st) .none kV dc pm an cd ct):=⟨a,wM l c k⟩
theorem IL{P:List Value->Prop}(h:P []):∀us:List Value,us.length=0->P us
 | [],_=>h
theorem FM{P:List Value->Prop}{n:Nat}(h:∀a (us:List Value),us.length=n->P (a::us)):∀us:List Value,us.length=n+1->P us
 | a::us,e=>h a us (Nat.succ.inj e)
theorem CD{P:List Value->Prop}(h:∀a0,P [a0]):∀us:List Value,us.length=1->P us:=FM λa us e=>IL (P:=λus=>P (a::us)) (h a) us e
theorem uB{P:List Value->Prop}(h:∀a0 a1,P [a0,a1]):∀us:List Value,us.length=2->P us:=FM λa us e=>CD (P:=λus=>P (a::us)) (h a) us e
theorem AJ{P:List Value->Prop}(h:∀a0 a1 a2,P [a0,a1,a2]):∀us:List Value,us.length=3->P us:=FM λa us e=>uB (P:=λus=>P (a::us)) (h a) us e
theorem HC{P:List Value->Prop}(h:∀a0 a1 a2 a3,P [a0,a1,a2,a3]):∀us:List Value,us.length=4->P us:=FM λa us e=>AJ (P:=λus=>P (a::us)) (h a) us e
theorem all_mk{l:PySem.W.OpenLaw}{q:Bj}{w:World}{K:PySem.W.Frag}{h:Heap}{mg:Str->Option Value}{fa f1 f2 f3 f4 f5 f6 f7 f8 f9 f10 f11 f12 f13 f14 f15 f16 f17 f18 f19 f20 f21 f22 f23 f24:Addr}{d1 d2 d3 d4 d5 d6 d7 d8 d9 d10 d11 d12 d13 d14 d15 d16 d17 d18 d19 d20 d21 d22 d23:Cq}(X:K.In h)(G:h.Ns Ct mg)(hfa:mg "law" = some (.ref fa)){od an:Option Addr}{sl:Array (Option Value)}{oc kV dc pm cd ct:Value}(D1:Def K "_law_draws" iT f1 d1)(D2:Def K "_law_next" rT f2 d2)(D3:Def K "choose" cA f3 d3)(D4:Def K "word_at" Wy f4 d4)(D5:Def K "words_of" Qa f5 d5)(D6:Def K "notches_at" Nc f6 d6)(D7:Def K "alike_at" Ua f7 d7)(D8:Def K "fewest_places" Mm f8 d8)(D9:Def K "_law_small" Qd f9 d9)(D10:Def K "_law_at" Sq f10 d10)(D11:Def K "_law_chosen" Lx f11 d11)(D12:Def K "_law_parted" Ma f12 d12)(D13:Def K "_law_is_pair" Lg f13 d13)(D14:Def K "_law_bars" Oi f14 d14)(D15:Def K "_law_holds" Li f15 d15)(D16:Def K "is_whole" Uh f16 d16)(D17:Def K "is_word" Wp f17 d17)(D18:Def K "is_pair" Xl f18 d18)(D19:Def K "are_pairs" Rn f19 d19)(D20:Def K "some_alike" Pz f20 d20)(D21:Def K "shows_places" Lj f21 d21)(D22:Def K "shows_fewest" Ny f22 d22)(D23:Def K "_law_things" Kj f23 d23)(aL:PySem.W.nsIn K Ct "law" = some (some (.ref f24)))(lL:K.lookup f24=some ⟨oc,od,.func (PySem.W.fnOf "law" "law" (Ou Yp) (Jd Yp) (Bq Yp) .none kV dc pm an cd ct),sl⟩)(cL:PySem.W.codeIn K cd "law" = true)(kL:PySem.W.keepIn K (.ref f24)=true)(z1:PySem.W.nsIn K Ct "min" = some none)(z2:PySem.W.nsIn K Ct "range" = some none)(z3:PySem.W.nsIn K Ct "len" = some none)(z4:PySem.W.nsIn K Ct "tuple" = some none)(z5:PySem.W.nsIn K Ct "enumerate" = some none)(z6:PySem.W.nsIn K Ct "sorted" = some none)(z7:PySem.W.nsIn K Ct "set" = some none)(z8:PySem.W.nsIn K Ct "isinstance" = some none)(z9:PySem.W.nsIn K Ct "int" = some none)(z10:PySem.W.nsIn K Ct "bool" = some none)(z11:PySem.W.nsIn K Ct "list" = some none)(z12:PySem.W.nsIn K Ct "all" = some none)(z13:PySem.W.nsIn K Ct "str" = some none)(tz_often:PySem.W.nsIn K Ct "often" = some none)(tz_cut_by:PySem.W.nsIn K Ct "cut_by" = some none):gA q K/\∃fd:Cq,(∀(s:Aj) (v:Value),BindsTo s fd ⟨[v],[]⟩ [("_law_script",v)])/\∀base:Heap,K.In base->base.Ns Ct mg->FnOk l.prog w K mg base Hn 6 fa fd ["_law_script"] (DL.spLawD K):=by
 have e:=hfa.symm.trans (PySem.W.mg_of X G aL)
 cases e
 have FL:=wM (st:=Yp) lL cL kL
 have b1:=D1.fn.binds (ps:=["_law_cell"]) λ_ _ _ _ _ _=>CD (λ_=>rfl)
 have b2:=D2.fn.binds (ps:=["_law_draws_here"]) λ_ _ _ _ _ _=>CD (λ_=>rfl)
 have b3:=D3.fn.binds (ps:=["n", "k"]) λ_ _ _ _ _ _=>uB (λ_ _=>rfl)
 have b4:=D4.fn.binds (ps:=["holes", "many", "number"]) λ_ _ _ _ _ _=>AJ (λ_ _ _=>rfl)
 have b5:=D5.fn.binds (ps:=["holes", "many"]) λ_ _ _ _ _ _=>uB (λ_ _=>rfl)
 have b6:=D6.fn.binds (ps:=["card", "places"]) λ_ _ _ _ _ _=>uB (λ_ _=>rfl)
 have b7:=D7.fn.binds (ps:=["deck", "places"]) λ_ _ _ _ _ _=>uB (λ_ _=>rfl)
 have b8:=D8.fn.binds (ps:=["holes", "deck"]) λ_ _ _ _ _ _=>uB (λ_ _=>rfl)
 have b9:=D9.fn.binds (ps:=["_law_draws_here", "_law_holes"]) λ_ _ _ _ _ _=>uB (λ_ _=>rfl)
 have b10:=D10.fn.binds (ps:=["_law_card", "_law_places"]) λ_ _ _ _ _ _=>uB (λ_ _=>rfl)
 have b11:=D11.fn.binds (ps:=["_law_holes", "_law_many"]) λ_ _ _ _ _ _=>uB (λ_ _=>rfl)
 have b12:=D12.fn.binds (ps:=["_law_deck_here", "_law_places"]) λ_ _ _ _ _ _=>uB (λ_ _=>rfl)
 have b13:=D13.fn.binds (ps:=["_law_deck_here", "_law_pair"]) λ_ _ _ _ _ _=>uB (λ_ _=>rfl)
 have b14:=D14.fn.binds (ps:=["_law_holes", "_law_deck_here", "_law_many", "_law_pairs"]) λ_ _ _ _ _ _=>HC (λ_ _ _ _=>rfl)
 have b15:=D15.fn.binds (ps:=["_law_holes", "_law_deck_here", "_law_thing"]) λ_ _ _ _ _ _=>AJ (λ_ _ _=>rfl)
 have b16:=D16.fn.binds (ps:=["thing"]) λ_ _ _ _ _ _=>CD (λ_=>rfl)
 have b17:=D17.fn.binds (ps:=["holes", "thing"]) λ_ _ _ _ _ _=>uB (λ_ _=>rfl)
 have b18:=D18.fn.binds (ps:=["deck", "i", "j"]) λ_ _ _ _ _ _=>AJ (λ_ _ _=>rfl)
 have b19:=D19.fn.binds (ps:=["deck", "thing"]) λ_ _ _ _ _ _=>uB (λ_ _=>rfl)
 have b20:=D20.fn.binds (ps:=["deck", "pairs", "places"]) λ_ _ _ _ _ _=>AJ (λ_ _ _=>rfl)
 have b21:=D21.fn.binds (ps:=["holes", "deck", "places", "pairs"]) λ_ _ _ _ _ _=>HC (λ_ _ _ _=>rfl)
 have b22:=D22.fn.binds (ps:=["holes", "deck", "thing"]) λ_ _ _ _ _ _=>AJ (λ_ _ _=>rfl)
 have b23:=D23.fn.binds (ps:=["_law_draws_here"]) λ_ _ _ _ _ _=>CD (λ_=>rfl)
 have m1:=PySem.W.mg_of X G D1.nm
 have m2:=PySem.W.mg_of X G D2.nm
 have m3:=PySem.W.mg_of X G D3.nm
 have m4:=PySem.W.mg_of X G D4.nm
 have m5:=PySem.W.mg_of X G D5.nm
 have m6:=PySem.W.mg_of X G D6.nm
 have m7:=PySem.W.mg_of X G D7.nm
 have m8:=PySem.W.mg_of X G D8.nm
 have m9:=PySem.W.mg_of X G D9.nm
 have m10:=PySem.W.mg_of X G D10.nm
 have m11:=PySem.W.mg_of X G D11.nm
 have m12:=PySem.W.mg_of X G D12.nm
 have m13:=PySem.W.mg_of X G D13.nm
 have m14:=PySem.W.mg_of X G D14.nm
 have m15:=PySem.W.mg_of X G D15.nm
 have m16:=PySem.W.mg_of X G D16.nm
 have m17:=PySem.W.mg_of X G D17.nm
 have m18:=PySem.W.mg_of X G D18.nm
 have m19:=PySem.W.mg_of X G D19.nm
 have m20:=PySem.W.mg_of X G D20.nm
 have m21:=PySem.W.mg_of X G D21.nm
 have m22:=PySem.W.mg_of X G D22.nm
 have m23:=PySem.W.mg_of X G D23.nm
 have y1:=PySem.W.mg_none_of X G z1
 have y2:=PySem.W.mg_none_of X G z2
 have y3:=PySem.W.mg_none_of X G z3
 have y4:=PySem.W.mg_none_of X G z4
 have y5:=PySem.W.mg_none_of X G z5
 have y6:=PySem.W.mg_none_of X G z6
 have y7:=PySem.W.mg_none_of X G z7
 have y8:=PySem.W.mg_none_of X G z8
 have y9:=PySem.W.mg_none_of X G z9
 have y10:=PySem.W.mg_none_of X G z10
 have y11:=PySem.W.mg_none_of X G z11
 have y12:=PySem.W.mg_none_of X G z12
 have y13:=PySem.W.mg_none_of X G z13
 have tn_often:=DL.tab_no tz_often
 have tn_cut_by:=DL.tab_no tz_cut_by
 refine ⟨uT tn_often tn_cut_by,PySem.W.fnOf "law" "law" (Ou Yp) (Jd Yp) (Bq Yp) .none kV dc pm an cd ct,λs v=>.of_eq rfl,λbase _ _=>?_⟩
 have g1:=sH (P:=l.prog) (w:=w) (mg:=mg) (base:=base) D1.fn
 have g2:=vJ (P:=l.prog) (w:=w) (mg:=mg) (base:=base) D2.fn
 have g3:=tO (P:=l.prog) (w:=w) (mg:=mg) (base:=base) D3.fn y1 y2
 have g4:=oH (P:=l.prog) (w:=w) (mg:=mg) (base:=base) D4.fn g3 b3 D3.fn.kp m3 y3
 have g5:=lI (P:=l.prog) (w:=w) (mg:=mg) (base:=base) D5.fn g3 b3 D3.fn.kp m3 g4 b4 D4.fn.kp m4 y2
 have g6:=dG (P:=l.prog) (w:=w) (mg:=mg) (base:=base) D6.fn y4
 have g7:=jP (P:=l.prog) (w:=w) (mg:=mg) (base:=base) D7.fn g6 b6 D6.fn.kp m6 y5
 have g8:=Xh (P:=l.prog) (w:=w) (mg:=mg) (base:=base) D8.fn g5 b5 D5.fn.kp m5 g7 b7 D7.fn.kp m7 y4 y2 y6 y7
 have g9:=cZ (P:=l.prog) (w:=w) (mg:=mg) (base:=base) D9.fn g2 b2 D2.fn.kp m2 y2 y4
 have g10:=oD (P:=l.prog) (w:=w) (mg:=mg) (base:=base) D10.fn y4
 have g11:=aJ (P:=l.prog) (w:=w) (mg:=mg) (base:=base) D11.fn y2
 have g12:=bZ (P:=l.prog) (w:=w) (mg:=mg) (base:=base) D12.fn g10 b10 D10.fn.kp m10 y3 y7
 have g13:=Yz (P:=l.prog) (w:=w) (mg:=mg) (base:=base) D13.fn y3 y4 y8 y9 y10
 have g14:=hW (P:=l.prog) (w:=w) (mg:=mg) (base:=base) D14.fn g10 b10 D10.fn.kp m10 g11 b11 D11.fn.kp m11
 have g15:=dJ (P:=l.prog) (w:=w) (mg:=mg) (base:=base) D15.fn g12 b12 D12.fn.kp m12 g13 b13 D13.fn.kp m13 g14 b14 D14.fn.kp m14 y11 y2 y3
 have g16:=mC (P:=l.prog) (w:=w) (mg:=mg) (base:=base) D16.fn y10 y8 y9
 have g17:=mY (P:=l.prog) (w:=w) (mg:=mg) (base:=base) D17.fn g16 b16 D16.fn.kp m16 y4 y8
 have g18:=nW (P:=l.prog) (w:=w) (mg:=mg) (base:=base) D18.fn g16 b16 D16.fn.kp m16 y3
 have g19:=iI (P:=l.prog) (w:=w) (mg:=mg) (base:=base) D19.fn g18 b18 D18.fn.kp m18 y11 y8 y3 y4
 have g20:=dH (P:=l.prog) (w:=w) (mg:=mg) (base:=base) D20.fn g6 b6 D6.fn.kp m6
 have g21:=Yt (P:=l.prog) (w:=w) (mg:=mg) (base:=base) D21.fn g17 b17 D17.fn.kp m17 g5 b5 D5.fn.kp m5 g7 b7 D7.fn.kp m7 g19 b19 D19.fn.kp m19 g20 b20 D20.fn.kp m20 y3 y12
 have g22:=Yn (P:=l.prog) (w:=w) (mg:=mg) (base:=base) D22.fn g18 b18 D18.fn.kp m18 g21 b21 D21.fn.kp m21 y13 y8 y3 y4
 have g23:=aI (P:=l.prog) (w:=w) (mg:=mg) (base:=base) D23.fn g2 b2 D2.fn.kp m2 g9 b9 D9.fn.kp m9 y2 y3 y4
 exact U4 FL g8 b8 D8.fn.kp m8 g22 b22 D22.fn.kp m22 g1 b1 D1.fn.kp m1 g15 b15 D15.fn.kp m15 g23 b23 D23.fn.kp m23 y13
theorem walk{l:PySem.W.OpenLaw}{q:Bj}{loose:List Str}{XP:(Str->Option Value)->Heap->Prop}{YP:World->Heap->Prop}{d:DefRec}{K:Params->PySem.W.Frag}(hn:l.most=some 63)(hdf:d.params.defaults=[])(hY:∀(w:World) (h:Heap),YP w h->(K w.params).In h)(F:∀(w:World) (mg:Str->Option Value) (fa:Addr) (h:Heap),(K w.params).In h->h.Ns Ct mg->mg d.name=some (.ref fa)->gA q (K w.params)/\∃fd:Cq,(∀(s:Aj) (u:Value),BindsTo s fd ⟨[u],[]⟩ [("_law_script",u)])/\∀base:Heap,(K w.params).In base->base.Ns Ct mg->FnOk l.prog w (K w.params) mg base Hn 6 fa fd ["_law_script"] (DL.spLawD (K w.params))):PySem.W.WalkO q loose XP YP l.row.toRowW d [] (λf vs=>PySem.call f vs) :=
 L2.walk_ofD (n:=63) (k:=6) (x := "_law_script") (CX:=λ_=>Hn) (sp:=λw=>DL.spLawD (K w.params)) hn (by decide) hdf ⟨rfl,by decide,by decide,rfl⟩ hY F (λ_ _ a ns hl _ hS=>⟨a,ns,rfl,hS,hl,λ_=>rfl⟩) λ_ _ _ _ _ z=>z
end K59
theorem II:PySem.Challenge.rw_needledeck_k59_whole_one_thing_other.wellSaid=true:=by kernel_rfl
open PySem PySem.W PyProof.Rows
local macro_rules | `(tactic| refine $h:ident (q := $q) (loose := $l) (Xt := $a) (XP := $b) (Yf := $c) (Ya := $d) (YP := $e) (N := $n) ?hl $y*) => `(tactic| refine $h:ident (q := $q) (loose := $l) (Xt := $a) (XP := $b) (Yf := $c) (Ya := $d) (YP := $e) (N := $n) (fun _ => by kernel_rfl) $y*)
set_option maxRecDepth 100000 in
set_option maxHeartbeats 0 in
theorem PySem.Challenge.cw_needledeck_k59_whole_one_thing_other_holds : PySem.Challenge.rw_needledeck_k59_whole_one_thing_other.Holds := by
 w_on; refine holds_law II λsaid=>?_; k_head; (case hw=>w_witness2)
 k_fill
 refine K59.walk (l:=PySem.Challenge.rw_needledeck_k59_whole_one_thing_other) rfl rfl (λw h Y=>PySem.W.kIn_of Y) ?F
 case F =>
  intro w mg fa h KX G hmg
  refine' K59.all_mk KX G hmg (K59.def_mk ?a1 ?l1 ?c1 ?k1) (K59.def_mk ?a2 ?l2 ?c2 ?k2) (K59.def_mk ?a3 ?l3 ?c3 ?k3) (K59.def_mk ?a4 ?l4 ?c4 ?k4) (K59.def_mk ?a5 ?l5 ?c5 ?k5) (K59.def_mk ?a6 ?l6 ?c6 ?k6) (K59.def_mk ?a7 ?l7 ?c7 ?k7) (K59.def_mk ?a8 ?l8 ?c8 ?k8) (K59.def_mk ?a9 ?l9 ?c9 ?k9) (K59.def_mk ?a10 ?l10 ?c10 ?k10) (K59.def_mk ?a11 ?l11 ?c11 ?k11) (K59.def_mk ?a12 ?l12 ?c12 ?k12) (K59.def_mk ?a13 ?l13 ?c13 ?k13) (K59.def_mk ?a14 ?l14 ?c14 ?k14) (K59.def_mk ?a15 ?l15 ?c15 ?k15) (K59.def_mk ?a16 ?l16 ?c16 ?k16) (K59.def_mk ?a17 ?l17 ?c17 ?k17) (K59.def_mk ?a18 ?l18 ?c18 ?k18) (K59.def_mk ?a19 ?l19 ?c19 ?k19) (K59.def_mk ?a20 ?l20 ?c20 ?k20) (K59.def_mk ?a21 ?l21 ?c21 ?k21) (K59.def_mk ?a22 ?l22 ?c22 ?k22) (K59.def_mk ?a23 ?l23 ?c23 ?k23) ?aL ?lL ?cL ?kL ?z1 ?z2 ?z3 ?z4 ?z5 ?z6 ?z7 ?z8 ?z9 ?z10 ?z11 ?z12 ?z13 ?tz_often ?tz_cut_by
  (case a1=>k_is); (case l1=>k_is); (case c1=>k_is); (case k1=>k_is)
  (case a2=>k_is); (case l2=>k_is); (case c2=>k_is); (case k2=>k_is)
  (case a3=>k_is); (case l3=>k_is); (case c3=>k_is); (case k3=>k_is)
  (case a4=>k_is); (case l4=>k_is); (case c4=>k_is); (case k4=>k_is)
  (case a5=>k_is); (case l5=>k_is); (case c5=>k_is); (case k5=>k_is)
  (case a6=>k_is); (case l6=>k_is); (case c6=>k_is); (case k6=>k_is)
  (case a7=>k_is); (case l7=>k_is); (case c7=>k_is); (case k7=>k_is)
  (case a8=>k_is); (case l8=>k_is); (case c8=>k_is); (case k8=>k_is)
  (case a9=>k_is); (case l9=>k_is); (case c9=>k_is); (case k9=>k_is)
  (case a10=>k_is); (case l10=>k_is); (case c10=>k_is); (case k10=>k_is)
  (case a11=>k_is); (case l11=>k_is); (case c11=>k_is); (case k11=>k_is)
  (case a12=>k_is); (case l12=>k_is); (case c12=>k_is); (case k12=>k_is)
  (case a13=>k_is); (case l13=>k_is); (case c13=>k_is); (case k13=>k_is)
  (case a14=>k_is); (case l14=>k_is); (case c14=>k_is); (case k14=>k_is)
  (case a15=>k_is); (case l15=>k_is); (case c15=>k_is); (case k15=>k_is)
  (case a16=>k_is); (case l16=>k_is); (case c16=>k_is); (case k16=>k_is)
  (case a17=>k_is); (case l17=>k_is); (case c17=>k_is); (case k17=>k_is)
  (case a18=>k_is); (case l18=>k_is); (case c18=>k_is); (case k18=>k_is)
  (case a19=>k_is); (case l19=>k_is); (case c19=>k_is); (case k19=>k_is)
  (case a20=>k_is); (case l20=>k_is); (case c20=>k_is); (case k20=>k_is)
  (case a21=>k_is); (case l21=>k_is); (case c21=>k_is); (case k21=>k_is)
  (case a22=>k_is); (case l22=>k_is); (case c22=>k_is); (case k22=>k_is)
  (case a23=>k_is); (case l23=>k_is); (case c23=>k_is); (case k23=>k_is)
  (case aL=>k_is); (case lL=>k_is); (case cL=>k_is); (case kL=>k_is)
  (case z1=>k_is); (case z2=>k_is); (case z3=>k_is); (case z4=>k_is); (case z5=>k_is); (case z6=>k_is); (case z7=>k_is); (case z8=>k_is); (case z9=>k_is); (case z10=>k_is); (case z11=>k_is); (case z12=>k_is); (case z13=>k_is)
  (case tz_often=>k_is)
  (case tz_cut_by=>k_is)