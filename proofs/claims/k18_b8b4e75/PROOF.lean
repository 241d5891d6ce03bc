import PyProof.Rows.All
import KE.KLam
import Wide.All
import OpenK.AllK
import Wide.FinOn
import Lean
import PyProof.EqAt
import PyProof.EqKinds
import PyProof.TupleCall
import PyProof.FactsAll.set
import PyProof.FactsAll.subtypes
import KE.KTupSum
import KE.KMinBuiltin
import PyProof.Draws
import PyProof.DictWalks
import PyProof.DictCompW
import PyProof.IsiH_tuple
import PyProof.FactsAll.zip
import KE.KDictOf
import PyProof.DictValues
import KE.KSortKey
import PyProof.WalkInts
import PyProof.TupleKey
import PyProof.SetRoads
import PyProof.IsRules
import PySem.Challenge.RW_needledeck_k18_whole_no_plain_code_has_m
set_option Elab.async false
set_option linter.all false
set_option maxRecDepth 100000
set_option maxHeartbeats 4000000
set_option genSizeOf false
theorem hS0:PySem.Challenge.rw_needledeck_k18_whole_no_plain_code_has_m.wellSaid=true:=by kernel_rfl
local macro_rules|`(tactic|omega)=>`(tactic|first|lia|omega +splitDisjunctions)
theorem e0a2{A B:Prop}{G:Prop}(k:A→B→G)(h:A∧B):G:=k h.1 h.2
theorem e0a3{A B C:Prop}{G:Prop}(k:A→B→C→G)(h:A∧B∧C):G:=k h.1 h.2.1 h.2.2
theorem e0a4{A B C D:Prop}{G:Prop}(k:A→B→C→D→G)(h:A∧B∧C∧D):G:=k h.1 h.2.1 h.2.2.1 h.2.2.2
theorem e0a5{A B C D E:Prop}{G:Prop}(k:A→B→C→D→E→G)(h:A∧B∧C∧D∧E):G:=k h.1 h.2.1 h.2.2.1 h.2.2.2.1 h.2.2.2.2
theorem e0a6{A B C D E F:Prop}{G:Prop}(k:A→B→C→D→E→F→G)(h:A∧B∧C∧D∧E∧F):G:=k h.1 h.2.1 h.2.2.1 h.2.2.2.1 h.2.2.2.2.1 h.2.2.2.2.2
theorem e1a1{a:Type}{A:a→Prop}{G:Prop}(k:∀x,A x→G)(h:∃x,A x):G:=h.elim λx h=>k x h
theorem e1a2{a:Type}{A B:a→Prop}{G:Prop}(k:∀x,A x→B x→G)(h:∃x,A x∧B x):G:=h.elim λx h=>k x h.1 h.2
theorem e1a3{a:Type}{A B C:a→Prop}{G:Prop}(k:∀x,A x→B x→C x→G)(h:∃x,A x∧B x∧C x):G:=h.elim λx h=>k x h.1 h.2.1 h.2.2
theorem e1a4{a:Type}{A B C D:a→Prop}{G:Prop}(k:∀x,A x→B x→C x→D x→G)(h:∃x,A x∧B x∧C x∧D x):G:=h.elim λx h=>k x h.1 h.2.1 h.2.2.1 h.2.2.2
theorem e2a1{b a:Type}{A:b→a→Prop}{G:Prop}(k:∀x y,A x y→G)(h:∃x y,A x y):G:=h.elim λx h=>h.elim λy h=>k x y h
theorem e2a2{b a:Type}{A B:b→a→Prop}{G:Prop}(k:∀x y,A x y→B x y→G)(h:∃x y,A x y∧B x y):G:=h.elim λx h=>h.elim λy h=>k x y h.1 h.2
theorem e2a3{b a:Type}{A B C:b→a→Prop}{G:Prop}(k:∀x y,A x y→B x y→C x y→G)(h:∃x y,A x y∧B x y∧C x y):G:=h.elim λx h=>h.elim λy h=>k x y h.1 h.2.1 h.2.2
theorem e2a4{b a:Type}{A B C D:b→a→Prop}{G:Prop}(k:∀x y,A x y→B x y→C x y→D x y→G)(h:∃x y,A x y∧B x y∧C x y∧D x y):G:=h.elim λx h=>h.elim λy h=>k x y h.1 h.2.1 h.2.2.1 h.2.2.2
theorem e3a1{c a b:Type}{A:c→a→b→Prop}{G:Prop}(k:∀x y z,A x y z→G)(h:∃x y z,A x y z):G:=h.elim λx h=>h.elim λy h=>h.elim λz h=>k x y z h
theorem e3a3{c a b:Type}{A B C:c→a→b→Prop}{G:Prop}(k:∀x y z,A x y z→B x y z→C x y z→G)(h:∃x y z,A x y z∧B x y z∧C x y z):G:=h.elim λx h=>h.elim λy h=>h.elim λz h=>k x y z h.1 h.2.1 h.2.2
theorem e3a4{c a b:Type}{A B C D:c→a→b→Prop}{G:Prop}(k:∀x y z,A x y z→B x y z→C x y z→D x y z→G)(h:∃x y z,A x y z∧B x y z∧C x y z∧D x y z):G:=h.elim λx h=>h.elim λy h=>h.elim λz h=>k x y z h.1 h.2.1 h.2.2.1 h.2.2.2
theorem e3a5{c a b:Type}{A B C D E:c→a→b→Prop}{G:Prop}(k:∀x y z,A x y z→B x y z→C x y z→D x y z→E x y z→G)(h:∃x y z,A x y z∧B x y z∧C x y z∧D x y z∧E x y z):G:=h.elim λx h=>h.elim λy h=>h.elim λz h=>k x y z h.1 h.2.1 h.2.2.1 h.2.2.2.1 h.2.2.2.2
theorem e4a1{c a b d:Type}{A:c→a→b→d→Prop}{G:Prop}(k:∀x y z w,A x y z w→G)(h:∃x y z w,A x y z w):G:=h.elim λx h=>h.elim λy h=>h.elim λz h=>h.elim λw h=>k x y z w h
theorem e4a2{c a b d:Type}{A B:c→a→b→d→Prop}{G:Prop}(k:∀x y z w,A x y z w→B x y z w→G)(h:∃x y z w,A x y z w∧B x y z w):G:=h.elim λx h=>h.elim λy h=>h.elim λz h=>h.elim λw h=>k x y z w h.1 h.2
theorem e5a2{b d a c e:Type}{A B:b→d→a→c→e→Prop}{G:Prop}(k:∀x y z w u,A x y z w u→B x y z w u→G)(h:∃x y z w u,A x y z w u∧B x y z w u):G:=h.elim λx h=>h.elim λy h=>h.elim λz h=>h.elim λw h=>h.elim λu h=>k x y z w u h.1 h.2
theorem e4a5{c a b d:Type}{A B C D E:c→a→b→d→Prop}{G:Prop}(k:∀x y z w,A x y z w→B x y z w→C x y z w→D x y z w→E x y z w→G)(h:∃x y z w,A x y z w∧B x y z w∧C x y z w∧D x y z w∧E x y z w):G:=h.elim λx h=>h.elim λy h=>h.elim λz h=>h.elim λw h=>k x y z w h.1 h.2.1 h.2.2.1 h.2.2.2.1 h.2.2.2.2
theorem e5a5{b d a c e:Type}{A B C D E:b→d→a→c→e→Prop}{G:Prop}(k:∀x y z w u,A x y z w u→B x y z w u→C x y z w u→D x y z w u→E x y z w u→G)(h:∃x y z w u,A x y z w u∧B x y z w u∧C x y z w u∧D x y z w u∧E x y z w u):G:=h.elim λx h=>h.elim λy h=>h.elim λz h=>h.elim λw h=>h.elim λu h=>k x y z w u h.1 h.2.1 h.2.2.1 h.2.2.2.1 h.2.2.2.2
theorem e6a5{c e a d b f:Type}{A B C D E:c→e→a→d→b→f→Prop}{G:Prop}(k:∀x y z w u v,A x y z w u v→B x y z w u v→C x y z w u v→D x y z w u v→E x y z w u v→G)(h:∃x y z w u v,A x y z w u v∧B x y z w u v∧C x y z w u v∧D x y z w u v∧E x y z w u v):G:=h.elim λx h=>h.elim λy h=>h.elim λz h=>h.elim λw h=>h.elim λu h=>h.elim λv h=>k x y z w u v h.1 h.2.1 h.2.2.1 h.2.2.2.1 h.2.2.2.2
theorem e4a7{c a b d:Type}{A B C D E F H:c→a→b→d→Prop}{G:Prop}(k:∀x y z w,A x y z w→B x y z w→C x y z w→D x y z w→E x y z w→F x y z w→H x y z w→G)(h:∃x y z w,A x y z w∧B x y z w∧C x y z w∧D x y z w∧E x y z w∧F x y z w∧H x y z w):G:=h.elim λx h=>h.elim λy h=>h.elim λz h=>h.elim λw h=>k x y z w h.1 h.2.1 h.2.2.1 h.2.2.2.1 h.2.2.2.2.1 h.2.2.2.2.2.1 h.2.2.2.2.2.2
theorem e5a7{b d a c e:Type}{A B C D E F H:b→d→a→c→e→Prop}{G:Prop}(k:∀x y z w u,A x y z w u→B x y z w u→C x y z w u→D x y z w u→E x y z w u→F x y z w u→H x y z w u→G)(h:∃x y z w u,A x y z w u∧B x y z w u∧C x y z w u∧D x y z w u∧E x y z w u∧F x y z w u∧H x y z w u):G:=h.elim λx h=>h.elim λy h=>h.elim λz h=>h.elim λw h=>h.elim λu h=>k x y z w u h.1 h.2.1 h.2.2.1 h.2.2.2.1 h.2.2.2.2.1 h.2.2.2.2.2.1 h.2.2.2.2.2.2
theorem e6a7{c e a d b f:Type}{A B C D E F H:c→e→a→d→b→f→Prop}{G:Prop}(k:∀x y z w u v,A x y z w u v→B x y z w u v→C x y z w u v→D x y z w u v→E x y z w u v→F x y z w u v→H x y z w u v→G)(h:∃x y z w u v,A x y z w u v∧B x y z w u v∧C x y z w u v∧D x y z w u v∧E x y z w u v∧F x y z w u v∧H x y z w u v):G:=h.elim λx h=>h.elim λy h=>h.elim λz h=>h.elim λw h=>h.elim λu h=>h.elim λv h=>k x y z w u v h.1 h.2.1 h.2.2.1 h.2.2.2.1 h.2.2.2.2.1 h.2.2.2.2.2.1 h.2.2.2.2.2.2
local macro_rules|`(tactic|obtain $p:rcasesPatMed:=$v:term)=>do
 let c s:=((p.raw.reprint.getD "").splitOn s).length
 if c ","<3||c "|">1||c ":">1 then Lean.Macro.throwUnsupported
 let T (a:Lean.Syntax):Lean.TSyntax `Lean.Parser.Tactic.rcasesPatMed:=⟨a⟩
 let q:=p.raw
 let x:=q[0][0]
 let l:=x[1].getSepArgs
 let mut a:Array (Lean.TSyntax ``Lean.Parser.Tactic.tacticSeq):=#[]
 let mut y:Array Lean.Term:=#[]
 let mut z:Array (Array (Lean.TSyntax `tactic)):=#[]
 for o in l do
  let u:=o[0][0][0]
  let f:=Lean.mkIdent (←Lean.Macro.addMacroScope (.mkSimple s!"f{y.size}"))
  if u[0].getId==`rfl then
   y:=y.push f
   z:=z.push #[←`(tactic|subst $f:term)]
  else if u[0].isIdent then
   y:=y.push ⟨u[0]⟩
   z:=z.push #[]
  else if u[1].isMissing then
   y:=y.push (←`(_))
   z:=z.push #[]
  else
   y:=y.push f
   z:=z.push #[←`(tactic|obtain $(T o[0]):rcasesPatMed:=$f)]
 for j in [0:l.size] do
  if j==1 then continue
  let n:=l.size-j
  let mut i:=y.extract 0 n
  let mut w:=(z.extract 0 n).flatten
  if j>0 then
   i:=i.push (←`(r_))
   w:=w.push (←`(tactic|obtain $(T (q.setArg 0 (q[0].setArg 0 (x.setArg 1 (Lean.mkNullNode (Lean.mkSepArray (l.extract n l.size) (Lean.mkAtom ","))))))):rcasesPatMed:=r_))
  for k in [0:i.size] do
   let m:=Lean.mkIdent (.mkSimple s!"e{k}a{i.size-k}")
   let g←if v.raw.isIdent then `(tactic|(revert $(⟨v⟩):ident;refine $m fun $i*=>?_)) else `(tactic|refine $m (fun $i*=>?_) $v)
   a:=a.push (←`(Lean.Parser.Tactic.tacticSeq| $g:tactic;$[$w];*))
  if j==0&& !v.raw.isIdent then
   a:=a.push (←`(Lean.Parser.Tactic.tacticSeq| have h_ := $v; obtain $p := h_))
   break
 a:=a.push (←`(Lean.Parser.Tactic.tacticSeq| rcases $v:term with $p))
 `(tactic|first $[| $a]*)
open Array renaming length_toList → An, getD_eq_getD_getElem? → Cv, toList_append → Dy, getElem?_eq_some_iff → Il, getElem?_toList → Ir, toList_push → Kq, toList_extract → Nr, perm_iff_toList_perm → Py, size_setIfInBounds → Qx, toList_reverse → Us, toList_setIfInBounds → iF, getElem?_eq_getElem → kU
open Bool renaming false_eq_true → Bw, false_ne_true → Cg, and_eq_true → Ff, not_eq_true' → Kz, not_true → Mc, and_false → Vm, not_eq_false' → Yp
open Classical renaming byContradiction → Pe
open False renaming elim → Lj
open ForInStep renaming done → Cz, yield → Fl
open Int renaming toNat_natCast → Ds
open LawfulBEq renaming eq_of_beq → Ed
open List renaming mem_cons_self → Aa, length_map → Ab, mem_singleton → Ac, mem_cons_of_mem → Ad, mem_append_right → Af, mem_append_left → Ah, mem_cons → Ai, getElem?_eq_some_iff → Ak, mem_append → Am, mem_of_getElem? → Aq, length_append → Ar, size_toArray → Au, map_cons → Ax, pairwise_cons → Ay, map_append → Bb, not_mem_nil → Bf, append_assoc → Bh, length_cons → Bi, getElem?_eq_getElem → Bj, getElem?_map → Bm, nodup_cons → Bp, pairwise_append → Bu, sublist_append_right → Ca, mem_flatMap → Cb, range → Ce, lookup_cons → Cf, sublist_cons_self → Ci, mem_map → Cn, length_singleton → Cp, dropLast_concat_getLast → Cr, pairwise_singleton → Ct, length_take → Cu, append_nil → Dd, map_map → Dj, nodup_nil → Dl, length_range → Dq, take_append_drop → Dv, getLast?_eq_some_getLast → Dw, take_length → Ea, nodup_append → Ec, perm_append_comm → Eh, length_dropLast → Eu, pairwise_iff_getElem → Ew, take_of_length_le → Ex, perm_middle → Fd, cons_append → Fe, length → Fh, getElem?_append_right → Fq, length_pos_iff → Ft, length_nil → Fz, dropLast_subset → Gj, take_sublist → Gx, getD_eq_getElem?_getD → Ha, flatMap_cons → Hb, ext_getElem? → Hd, getLastD_eq_getLast? → Hg, map_set → Hn, mem_iff_getElem → Ht, length_eq_zero_iff → Hx, getElem?_set → Hy, drop_sublist → Hz, length_drop → Ih, mem_range → Ip, length_zipIdx → Iq, getElem?_append_left → Iz, drop_eq_getElem_cons → Ja, take_succ_eq_append_getElem → Jb, take_add_one → Jc, flatten_cons → Jd, getElem?_take_of_lt → Jk, flatten_append → Jo, replicate → Jt, drop_zero → Ju, mem_filterMap → Kc, reverse_perm → Kw, extract_eq_take_drop → Ls, map_congr_left → Lv, filterMap_cons → Lw, find?_cons → Me, mem_replicate → Mh, lookup → Mi, length_pos_of_mem → Ms, dropLast_sublist → Nb, nil_sublist → Nh, getElem_mem → Ni, map_take → Np, mem_filter → Pa, filter_sublist → Pd, map_nil → Pg, filter_append → Qe, mem_of_find?_eq_some → Qt, map_dropLast → Qv, sublist_append_left → Rp, length_erase_of_mem → Rq, mem_reverse → Rt, getLast_mem → Ru, eraseIdx_cons_succ → Rv, length_zip → Tw, find?_some → Tx, pairwise_reverse → Ue, mem_iff_getElem? → Ug, getElem?_reverse → Uh, eraseIdx_sublist → Ui, mem_of_mem_take → Vi, mem_of_mem_drop → Vj, mem_erase_of_ne → Vk, getElem?_set_ne → Vl, flatMap_append → Xa, map_drop → Xd, any_cons → Xe, getElem?_drop → Yn, pairwise_map → Zp, any_map → Zq, all_map → Zr, eraseIdx_eq_take_drop_succ → aO, sublist_nil → dS, flatten_nil → dU, mem_take_iff_getElem → lA, append_cancel_right → oY, getElem?_cons_succ → pB, getElem?_set_self → sH, drop_of_length_le → sI, drop_eq_nil_of_le → sJ, append_eq_nil_iff → sL, map_eq_nil_iff → yL, filter_eq_self → yM, find?_eq_none → K7
open List.Pairwise renaming nil → Dn, sublist → Jp
open List.Perm renaming swap → Ee, refl → Gn, append_left → Ka, cons → Oj
open List.Sublist renaming refl → Ck
open List.cons renaming inj → Hh
open Nat renaming le_refl → Aj, lt_of_lt_of_le → By, le_trans → Bz, ne_of_lt → Da, zero_le → Dh, not_lt_zero → Gd, pow_le_pow_right → Gm, mod_eq_of_lt → Ik, lt_irrefl → Jl, zero_add → Kd, le_of_lt → Lr, pow_succ → Mu, le_succ → Oi, mod_lt → Qh, lt_of_le_of_lt → Qi, lt_succ_of_lt → Rn, add_mod → Ro, le_add_right → Rw, min_eq_left → Ud, add_right_comm → Za, succ_pos → aK, sub_zero → aM, lt_trans → aN, min_eq_right → eH, lt_succ_self → eI, le_of_not_lt → eJ, lt_succ_iff → iD
open Ne renaming symm → Oh
open Option renaming none → Qg, isSome_iff_exists → Qs, isSome_some → Wz
open Option.some renaming inj → Bl
open Or renaming inl → Dc, inr → Uc
open Prod.mk renaming injEq → Fm
open PyProof.Rows renaming wpS_bind → Az, pendingOf → Bg, wpS_pure → Bk, SortSt → Bx, seqObj → Es, wpS_forRange → Fb, slot_tuple_getitem → Fg, wpS_mono → Ij, callWith_type1 → Jw, wpS_modify → Kr, IntsAre → Lo, failedOf → Mj, SortKind → Mk, wpS_get → Nk, AllBare → Tc, reverseSlice' → Tu, get?_update_seq → Wy, sortedAll → Zm, callWith_kw → Zo, listUpdate_at → dP, firstOfTuple' → dQ, size_push' → dZ, listItems_at → iA, subscriptTail_builtinR → K9
open PyProof.Rows.F renaming plain_set_update_loop → Ke, entry_set_update_loop → Rm
open PySem renaming PyData → Ae, wpAny_bind → Ag, Shared → Al, wpAny_pure → Aw, sizeLine → Bc, starEach → Be, Program → Bq, FuncData → Cj, wpAny_mono → Co, mainGlobals → Cq, foldedSetIterable → Cw, Around → Df, SetTable → Dk, wpAny_holding → Eg, tupleKeyHash → Eo, intKind → Ep, cellsFrom → Et, behindInMarks → Gg, backTo → Gh, wpAny_standAt → He, wpAny_newObj_type → Hf, swapsWith → Hu, compareOp → Hv, wpAny_truthy_bool → Ic, letOwnedTupleGo → Ie, codeAny → Iu, sizeLine_eq → Iw, attributeBase → Iy, Keyword → Je, wpAny_comprehension_free → Jv, keywordEach → Ko, wpAny_Call_Name_kw → Ks, bootBuiltins → Kt, assignEach → Ku, assign → Kv, IsTupleKey → Kx, wpAny_passesOwn → Lg, binaryOp → Lh, newFunctionEnv → Ma, codeAny_builtin → Mr, wpAny_typeOf → Nl, ofAClassStatement → Nm, codeAny_compStart_list → Nn, sysModules → Pc, sliceBounds → Pr, backToKw → Pt, NameKind → Px, codeAny_mono → Qu, standAt → Sx, holding → Sy, getItem → Sz, wpAny_forIn_list → Um, wpAny_call_entry → Uo, tupleKind → Up, noFill_tuple_add → Uq, compEnvC → Ur, wpAny_rule → Vo, builtinsNs → Vp, wpAny_loadPart' → Ww, wpAny_execs_nil → Wx, exec_Assign_Name_used → Xb, pyNext → Yx, hashByValue → Yy, IsPart → Zb, callerA → Zn, wpAny_newList → dM, setSearchFrom → dN, seq_tuple_add → dO, comprehension → dR, entryOfKey → eB, call_meets → eE, wpAny_pyIter_list → hZ, concat_meets → iB, codeAny_loop → iC, wpAny_callSpecial?_slot → K6, wpAny_pyNext_list_item → K8, slot_list_getitem → IT
open PySem.Around renaming under_plainId → Uj
open PySem.Builtin.List renaming listTooLong → Pb, listExtendWith → Xi, listFitsIndex → Yo
open PySem.Builtin.Slice renaming slicePlaces → Kf, sliceAdjust → Nq, sliceApplied → Xh
open PySem.Builtin.Tuple renaming tupleExact → Ky, tupleItemsOf → Xf, tupleIsExact → Xg
open PySem.Calls renaming Name_function_global → iE, call_function_entry → kT
open PySem.F renaming slot_list_insert → Qw, type_list_insert → aP
open PySem.Heap renaming get?_push_of_some → Av, lt_size → Bn, get?_push_size → Bs, SameBut → Jf, size_update → Lp, get?_update_self → Nc, get?_update_other → sM
open PySem.Heap.SameBut renaming update → Dr
open PySem.NameKind renaming free → Em, cell → En
open PySem.Obj renaming mapSeq → Dt, putSet → Yz
open PySem.PassesOwn renaming never → Cs
open PySem.PyData renaming int → Bo, depthAll → Br, depth → Do, list → Ub, tuple → Ym
open PySem.SeqAt renaming EqAt → Na
open PySem.SetTable renaming below → Dm, bits → Eb, insertAt → El, turns → Hl, Probe → Hm, runEnd → Jx, laid → Jz, layClean → Pu, sizeAbove → Vh, advance → Yl, insertAt_perm → kS
open PySem.SetTable.below renaming go → Tb
open PySem.SetTable.layClean renaming free → Li
open PySem.SetTable.probe renaming go → Ta
open PySem.SetTable.sizeAbove renaming go → Ll
open PySem.Str renaming ofString → aJ
open PySem.Value renaming ref → Bd, type → Ek, none → Xc
open Sum renaming inl → Tv
open True renaming intro → Ng
namespace L2
open PySem PySem.Spec PyProof.Rows
abbrev Lu:=Sum Int Str
def gY:Lu->Value->Bool
 | .inl k,v=>Value.isInt k v
 | .inr x,v=>Value.isStrOf x v
def JJ(w:World):Lu->Int
 | .inl k=>hashInt k
 | .inr x=>hashStr w x
theorem Iv:∀{k:Lu} {v:Value},gY k v=true->(∃i t,k=Tv i/\v=Value.int i t)\/(∃x t,k=Sum.inr x/\v=Value.str x t)
 | .inl i,v,h=>by
  obtain ⟨t,e⟩:=Value.isInt_shape (k:=i) (v:=v) h
  exact .inl ⟨i,t,rfl,e⟩
 | .inr x,v,h=>by
  obtain ⟨t,e⟩:=Value.isStrOf_shape (x:=x) (v:=v) h
  exact .inr ⟨x,t,rfl,e⟩
theorem yG(i:Int)(t:Tok):gY (.inl i) (.int i t)=true:=by simp [gY,Value.isInt]
theorem xZ(x:Str)(t:Tok):gY (.inr x) (.str x t)=true:=by simp [gY,Value.isStrOf]
theorem BU(a b:Int):decide ((Tv a:Lu)=Tv b)=(a == b):=by
 by_cases e:a=b
 ·subst e; simp
 ·have h:¬ (Tv a:Lu)=Tv b:=λq=>e (Sum.inl.inj q)
  rw[decide_eq_false h]
  exact (beq_eq_false_iff_ne.mpr e).symm
theorem BA(a b:Str):decide ((Sum.inr a:Lu)=Sum.inr b)=decide (a=b):=by
 by_cases e:a=b
 ·subst e; simp
 ·have h:¬ (Sum.inr a:Lu)=Sum.inr b:=λq=>e (Sum.inr.inj q)
  rw[decide_eq_false h,decide_eq_false e]
theorem CB(a:Int)(b:Str):decide ((Tv a:Lu)=Sum.inr b)=false:=decide_eq_false (λq=>nomatch q)
theorem AS(a:Str)(b:Int):decide ((Sum.inr a:Lu)=Tv b)=false:=decide_eq_false (λq=>nomatch q)
def Lb(prog:Bq)(w:World):PySem.KeyKind prog w Lu where
 is:=gY
 hash:=JJ w
 inj:=λv a b g d=>by
  rcases Iv g with ⟨i,t,rfl,rfl⟩ | ⟨x,t,rfl,rfl⟩
  ·rcases Iv d with ⟨j,u,rfl,e⟩ | ⟨y,u,rfl,e⟩
   ·injection e with e1 _; rw[e1]
   ·exact nomatch e
  ·rcases Iv d with ⟨j,u,rfl,e⟩ | ⟨y,u,rfl,e⟩
   ·exact nomatch e
   ·injection e with e1 _; rw[e1]
 byValue:=λk v h=>by
  rcases Iv h with ⟨i,t,rfl,rfl⟩ | ⟨x,t,rfl,rfl⟩ <;> rfl
 pyHash:=λc h=>by
  rcases Iv c with ⟨i,t,rfl,rfl⟩ | ⟨x,t,rfl,rfl⟩
  ·exact wpAny_pyHash_int h
  ·exact wpAny_pyHash_str h
 eqBool:=λf c h=>by
  rcases Iv f with ⟨i,t,rfl,rfl⟩ | ⟨x,t,rfl,rfl⟩
  ·rcases Iv c with ⟨j,u,rfl,rfl⟩ | ⟨y,u,rfl,rfl⟩
   ·rw[BU] at h; exact wpAny_eqBool_int h
   ·rw[CB] at h; exact SeqAt.EqAt.int_str i t y u _ _ _ _ h
  ·rcases Iv c with ⟨j,u,rfl,rfl⟩ | ⟨y,u,rfl,rfl⟩
   ·rw[AS] at h; exact SeqAt.EqAt.str_int x t j u _ _ _ _ h
   ·rw[BA] at h; exact wpAny_eqBool_str h
 «strs»:=λk x t v h=>by
  rcases Iv h with ⟨i,u,rfl,e⟩ | ⟨y,u,rfl,e⟩
  ·exact nomatch e
  ·injection e with e1 _
   subst e1
   cases v <;> rfl
theorem oA(prog:Bq)(w:World)(i:Int)(t:Tok):(Lb prog w).is (.inl i) (.int i t)=true:=yG i t
theorem lM(prog:Bq)(w:World)(x:Str)(t:Tok):(Lb prog w).is (.inr x) (.str x t)=true:=xZ x t
inductive V where
 | non | bl (b:Bool) | int (i:Int) | str (x:Str) | byt (b:Array UInt8) | flt (b:UInt64) | ref (a:Addr) | ty (n:String)
 deriving DecidableEq
def RelV:V->Value->Prop
 | .non,u=>u=Xc
 | .bl b,u=>u=Value.bool b
 | .int i,u=>∃t,u=Value.int i t
 | .str x,u=>∃t,u=Value.str x t
 | .byt b,u=>∃t,u=Value.bytes b t
 | .flt b,u=>∃t,u=Value.float b t
 | .ref a,u=>u=Bd a
 | .ty n,u=>u=Ek n
abbrev Gv:List V->List Value->Prop:=Paired RelV
theorem Gv.length{xs:List V}{us:List Value}(r:Gv xs us):xs.length=us.length:=Paired.length r
theorem Gv.get:∀{xs:List V} {us:List Value} {i:Nat} {x:V},Gv xs us->xs[i]? = some x->∃u,us[i]? = some u/\RelV x u
 | _,_,_,_,.nil,e=>by simp at e
 | _,_,0,_,.cons r _,e=>by simp at e; subst e; exact ⟨_,rfl,r⟩
 | _,_,i+1,x,.cons _ t,e=>by
  obtain ⟨u,a,b⟩:=Gv.get (i:=i) (x:=x) t (by simpa using e)
  exact ⟨u,by simpa using a,b⟩
theorem Gv.set{x:V}{u:Value}(r:RelV x u):∀{xs:List V} {us:List Value} (i:Nat),Gv xs us->Gv (xs.set i x) (us.set i u)
 | _,_,_,.nil=>.nil
 | _,_,0,.cons _ t=>.cons r t
 | _,_,i+1,.cons q t=>.cons q (Gv.set r i t)
theorem Gv.append:∀{xs ys:List V} {us ws:List Value},Gv xs us->Gv ys ws->Gv (xs++ys) (us++ws)
 | _,_,_,_,.nil,s=>s
 | _,_,_,_,.cons r t,s=>.cons r (Gv.append t s)
theorem Gv.take:∀{xs:List V} {us:List Value} (n:Nat),Gv xs us->Gv (xs.take n) (us.take n)
 | _,_,0,_=>.nil
 | _,_,_+1,.nil=>.nil
 | _,_,n+1,.cons r t=>.cons r (Gv.take n t)
theorem Gv.drop:∀{xs:List V} {us:List Value} (n:Nat),Gv xs us->Gv (xs.drop n) (us.drop n)
 | _,_,0,r=>r
 | _,_,_+1,.nil=>.nil
 | _,_,n+1,.cons _ t=>Gv.drop n t
def qM:Option V->Option Value->Prop
 | some v,some u=>RelV v u
 | none,none=>True
 | _,_=>False
def KV{a:Type}:List (a×V)->List (a×Value)->Prop:=Paired λ(p:a×V) (q:a×Value)=>p.1=q.1/\RelV p.2 q.2
def kV:Lu->V
 | .inl i=>.int i
 | .inr x=>.str x
inductive HO where
 /-- a list -/
 | lst (xs:List V)
 /-- a tuple (never changes) -/
 | tup (xs:List V)
 /-- a dict whose O6 are ints and texts; one whose O6 are tuples of ints and texts (the empty one is both) -/
 | dK (kvs:List (Lu×V)) | dT (kvs:List (List Lu×V))
 /-- a set of ints: its members,its size -/
 | set (S:Int->Bool) (n:Nat)
 /-- an instance of the class at C,its dict at dx,its attributes -/
 | ins (C dx:Addr) (fs:List (Str×V))
 /-- the dict of the instance at x -/
 | own (x:Addr)
 /-- the dict of an exception -/
 | xd (fs:List (Str×V))
 /-- a bound method,f of x -/
 | met (f x:Addr)
 /-- a range object lo,lo+1,.. below hi -/
 | rng (lo hi:Int)
 /-- a thing that is known to the object (the script; a dict while a loop walks it): read,never written while it is so -/
 | frz (o:Obj) (u:HO)
 /-- a code object's table -/
 | tbl (ps:Array Value)
 /-- any other thing,by what is true of its one object (a def of one's own: JZ a S n:=HO.ext λh=>..) -/
 | ext (φ:Heap->Prop)
abbrev Hp:=Addr->Option HO
def upd(H:Hp)(a:Addr)(o:HO):Hp:=λb=>if b=a then some o else H b
theorem Di{H:Hp}{a:Addr}{o:HO}:upd H a o a=some o:=by unfold upd; rw[if_pos rfl]
theorem Ef{H:Hp}{a b:Addr}{o:HO}(h:b≠a):upd H a o b=H b:=by unfold upd; rw[if_neg h]
theorem upd_upd{H:Hp}{a:Addr}{o u:HO}:upd (upd H a o) a u=upd H a u:=by
 funext b; unfold upd; split <;> rfl
theorem Y9{H:Hp}{a b:Addr}{o u:HO}(h:H a=some o)(h':H b=some u)(d:o≠u):a≠b:=by
 intro e; subst e; rw[h] at h'; exact d (Bl h')
theorem Fu{H:Hp}{a b:Addr}{o:HO}(h:H a=some o)(h':H b=none):a≠b:=by
 intro e; subst e; rw[h] at h'; cases h'
section
variable(P:Bq)(w:World)
def Jn(H:Hp)(h:Heap)(a:Addr):HO->Prop
 | .lst e=>e.length<=Bc/\∃(b:List Value) (n:Nat),Gv e b/\h.get? a=some { cls:=.type "list",data:=.seq b.toArray n }
 | .tup e=>e.length<=Bc/\∃b:List Value,Gv e b/\IsTup h a b.toArray
 | .dK d=>d.length<=Bc/\(a == Pc)=false/\∃vs,KV d vs/\h.DictOf (Lb P w) a vs
 | .dT d=>d.length<=Bc/\(a == Pc)=false/\∃e:List (List Lu×Addr×Value),
   Paired (λ(p:List Lu×V) (q:List Lu×Addr×Value)=>p.1=q.1/\H q.2.1=some (.tup (p.1.map kV))/\RelV p.2 q.2.2) d e /\
   ∃o j s,h.get? a=some o/\o.ExactDict/\o.data=.dict j s/\j.toList=e.map (eB (Up (Lb P w)))/\(e.map (·.1)).Nodup/\s=j.size
 | .set S n=>h.SetOf (Ep P w) a S n
 | .ins C i fs=>H i=some (.own a)/\fs.length<=1000/\i≠a/\h.get? a=some (PySem.W.instObj C i) /\
   ∃g,h.Ns1 i g/\(∀f,qM (fs.lookup f) (g f))/\PySem.Within g (fs.map (·.1))
 | .own _=>∃o,h.get? a=some o
 | .xd fs=>∃g,h.Ns1 a g/\∀f,qM (fs.lookup f) (g f)
 | .rng lo B=>∃t u v,h.get? a=some { cls:=.type "range",data:=.fields #[.int lo t,.int B u,.int 1 v] }
 | .frz o u=>h.get? a=some o/\Jn H h a u
 | .tbl D=>∃k:Array Value,h.get? a=some { cls:=.none,data:=.fields k }/\TriplesOk k.toList/\∀(l:Pos) (v:Value),codeAmong l k.toList=some v->∃(c:Addr) (r:Obj) (z:Array Value) (q:Str) (t E:Tok),v=.ref c/\H c=some (.own a)/\h.get? c=some r/\r.data=.fields z/\z[1]? = some (.str q t)/\D[0]? = some (.str q E)
 | .met f x=>h.get? a=some (PySem.W.methodObj (.ref f) (.ref x))
 | .ext m=>m h/\(∃o,h.get? a=some o)/\∀A y:Heap,m A->(∀o,A.get? a=some o->y.get? a=some o)->m y
def Yd(H:Hp)(h:Heap):Prop:=∀a o,H a=some o->Jn P w H h a o
end
section
variable{P:Bq}{w:World}{H g:Hp}{h h':Heap}{a:Addr}{o:HO}
theorem Jn.lt(x:Jn P w H h a o):a<h.objs.size:=by
 cases o with
 | lst c=>obtain ⟨_,_,_,_,e⟩:=x; exact Bn e
 | tup c=>obtain ⟨_,_,_,p⟩:=x; exact p.lt
 | dK b=>obtain ⟨_,_,_,_,o,_,_,e,_⟩:=x; exact Bn e
 | dT b=>obtain ⟨_,_,_,_,o,_,_,e,_⟩:=x; exact Bn e
 | set S n=>obtain ⟨o,_,_,_,e,_⟩:=x; exact Bn e
 | ins C d fs=>obtain ⟨_,_,_,e,_⟩:=x; exact Bn e
 | own y=>obtain ⟨_,e⟩:=x; exact Bn e
 | xd fs=>obtain ⟨_,⟨_,_,_,e,_⟩,_⟩:=x; exact Bn e
 | rng lo g=>obtain ⟨_,_,_,e⟩:=x; exact Bn e
 | frz j u=>obtain ⟨e,_⟩:=x; exact Bn e
 | tbl i=>obtain ⟨_,e,_⟩:=x; exact Bn e
 | met f y=>exact Bn (show h.get? a=some _ from x)
 | ext k=>obtain ⟨_,⟨_,e⟩,_⟩:=x; exact Bn e
theorem Paired.mapP{d c:Type}{F G:d->c->Prop}:∀{l₁:List d} {l₂:List c},Paired F l₁ l₂->(∀a b,F a b->G a b)->Paired G l₁ l₂
 | _,_,.nil,_=>.nil
 | _,_,.cons r t,f=>.cons (f _ _ r) (Paired.mapP t f)
theorem Jn.stay(x:Jn P w H h a o)(k:∀b u,(b=a\/H b=some (.own a))->h.get? b=some u->h'.get? b=some u)(E:∀b,H b=some (.own a)->g b=some (.own a))(M:∀b xs,H b=some (.tup xs)->g b=some (.tup xs)):Jn P w g h' a o:=by
 induction o with
 | lst xs=>obtain ⟨z,m,n,r,e⟩:=x; exact ⟨z,m,n,r,k _ _ (.inl rfl) e⟩
 | tup xs=>obtain ⟨z,m,r,i,e,c⟩:=x; exact ⟨z,m,r,i,k _ _ (.inl rfl) e,c⟩
 | dK s=>obtain ⟨z,y,vs,r,i,l,j,e,c⟩:=x; exact ⟨z,y,vs,r,i,l,j,k _ _ (.inl rfl) e,c⟩
 | dT s =>
  obtain ⟨z,y,xs,r,i,l,j,e,c⟩:=x
  exact ⟨z,y,xs,Paired.mapP r λp q z=>⟨z.1,M _ _ z.2.1,z.2.2⟩,i,l,j,k _ _ (.inl rfl) e,c⟩
 | set S n=>obtain ⟨i,l,j,t,e,c⟩:=x; exact ⟨i,l,j,t,k _ _ (.inl rfl) e,c⟩
 | ins C U fs =>
  obtain ⟨d,z,R,e,A,⟨D,l,j,O,c⟩,r⟩:=x
  exact ⟨E _ d,z,R,k _ _ (.inl rfl) e,A,⟨D,l,j,k _ _ (.inr d) O,c⟩,r⟩
 | own y=>obtain ⟨i,e⟩:=x; exact ⟨i,k _ _ (.inl rfl) e⟩
 | xd fs=>obtain ⟨A,⟨D,l,j,e,c⟩,r⟩:=x; exact ⟨A,⟨D,l,j,k _ _ (.inl rfl) e,c⟩,r⟩
 | rng lo V=>obtain ⟨t,u,v,e⟩:=x; exact ⟨t,u,v,k _ _ (.inl rfl) e⟩
 | frz i u J=>obtain ⟨e,q⟩:=x; exact ⟨k _ _ (.inl rfl) e,J q⟩
 | tbl Y =>
  obtain ⟨I,e,t,z⟩:=x
  exact ⟨I,k _ _ (.inl rfl) e,t,λB v y=>by
   obtain ⟨c,N,G,q,t,L,T,F,Q,K⟩:=z B v y
   exact ⟨c,N,G,q,t,L,T,E _ F,k _ _ (.inr F) Q,K⟩⟩
 | met f y =>
  have e:h.get? a=some (PySem.W.methodObj (.ref f) (.ref y)):=x
  show h'.get? a=some (PySem.W.methodObj (.ref f) (.ref y))
  exact k a _ (.inl rfl) e
 | ext X=>obtain ⟨p,⟨o,e⟩,st⟩:=x; exact ⟨st _ _ p λo q=>k _ _ (.inl rfl) q,⟨o,k _ _ (.inl rfl) e⟩,st⟩
theorem Yd.lt(x:Yd P w H h)(e:H a=some o):a<h.objs.size:=(x a o e).lt
theorem Yd.fresh(x:Yd P w H h)(e:h.objs.size<=a):H a=none:=by
 cases q:H a with
 | none=>rfl
 | some u=>exact absurd (By (x.lt q) e) (Jl _)
theorem Yd.kept(x:Yd P w H h)(k:∀b u,h.get? b=some u->h'.get? b=some u):Yd P w H h':=λa o e =>
 (x a o e).stay (λb u _ q=>k b u q) (λ_ q=>q) λ_ _ q=>q
theorem Yd.laid(x:Yd P w H h)(k:∀b u,h.get? b=some u->h'.get? b=some u)(i:h.objs.size<=a)(d:Jn P w (upd H a o) h' a o):Yd P w (upd H a o) h':=λb u e=>by
 have f:=x.fresh i
 by_cases g:b=a
 ·subst g; rw[Di] at e; cases e; exact d
 ·rw[Ef g] at e
  exact (x b u e).stay (λc v _ q=>k c v q) (λc q=>by rw[Ef (Fu q f)]; exact q) λc j q=>by rw[Ef (Fu q f)]; exact q
end
def Rd(H:Hp)(a:Addr)(u:HO):Prop:=H a=some u\/∃o,H a=some (.frz o u)
theorem Rd.ok{P:Bq}{w:World}{H:Hp}{h:Heap}{a:Addr}{u:HO}(r:Rd H a u)(x:Yd P w H h):Jn P w H h a u:=by
 rcases r with r | ⟨o,r⟩
 ·exact x a u r
 ·obtain ⟨_,q⟩:=x a _ r
  exact q
def IP:Option HO->Prop
 | some (.lst _)=>True
 | some (.dK _)=>True
 | some (.dT _)=>True
 | some (.set _ _)=>True
 | some (.ins _ _ _)=>True
 | some (.ext _)=>True
 | _=>False
section
variable{P:Bq}{w:World}{H:Hp}{h h':Heap}{x e:Addr}{a:HO}
theorem Yd.write(ok:Yd P w H h)(i:IP (H x))(n:e=x\/H e=some (.own x))(k:∀b u,b≠e->h.get? b=some u->h'.get? b=some u)(m:∃u,h'.get? e=some u)(l:Jn P w (upd H x a) h' x a):Yd P w (upd H x a) h':=λb u q=>by
 have f:∀c y,H c=some (.own y)->c≠x:=λc y r z=>by subst z; rw[r] at i; exact i
 have iV:∀c g,H c=some (.tup g)->c≠x:=λc g r z=>by subst z; rw[r] at i; exact i
 by_cases j:b=x
 ·subst j; rw[Di] at q; cases q; exact l
 ·rw[Ef j] at q
  by_cases d:b=e
  ·have o:H b=some (.own x):=by
    rcases n with z | z
    ·exact absurd (d.trans z) j
    ·rw[d]; exact z
   rw[q] at o; cases o
   obtain ⟨v,p⟩:=m
   exact ⟨v,by rw[d]; exact p⟩
  ·refine (ok b u q).stay (λc v hc r=>k c v ?_ r) (λc r=>by rw[Ef (f c b r)]; exact r) λc g r=>by rw[Ef (iV c g r)]; exact r
   rcases hc with rfl | hc
   ·exact d
   ·rintro rfl
    rcases n with z | z
    ·exact f c b hc z
    ·rw[hc] at z; cases z; exact j rfl
end
structure Un(fs ex:List Addr)(H H':Hp)(h h':Heap):Prop where
 keep:∀b o,h.get? b=some o->H b=none->b∉fs->b∉ex->h'.get? b=some o
 slot:∀b o,h.get? b=some o->H b=none->b∈fs->b∉ex->∃sl,h'.get? b=some { o with slots:=sl }
 free:∀b o,h.get? b=some o->H b=none->b∉ex->H' b=none
 there:∀b o,h.get? b=some o->b∉ex->∃o',h'.get? b=some o'
 tups:∀b xs,H b=some (.tup xs)->H' b=some (.tup xs)
 frzs:∀b o u,H b=some (.frz o u)->H' b=some (.frz o u)
 tbls:∀b ps,H b=some (.tbl ps)->∃more,H' b=some (.tbl (ps++more))
section
variable{fs f ex d:List Addr}{H c g:Hp}{h h1 i h':Heap}{a x e:Addr}{o:HO}
theorem Un.any(u:Un fs ex H c h h1){b:Addr}{a:Obj}(q:h.get? b=some a)(n:H b=none)(d:b∉ex):∃f,h1.get? b=some { a with slots:=f }:=by
 by_cases e:b∈fs
 ·exact u.slot b a q n e d
 ·exact ⟨a.slots,u.keep b a q n e d⟩
theorem Un.kept(k:∀b u,h.get? b=some u->h'.get? b=some u):Un fs ex H H h h' :=
 ⟨λb a q _ _ _=>k b a q,λb a q _ _ _=>⟨a.slots,k b a q⟩,λ_ _ _ n _=>n,λb a q _=>⟨a,k b a q⟩,λ_ _ q=>q,λ_ _ _ q=>q,λ_ c q=>⟨#[],by rw[q]; simp⟩⟩
theorem Un.refl:Un fs ex H H h h:=Un.kept λ_ _ q=>q
theorem Un.laid(k:∀b u,h.get? b=some u->h'.get? b=some u)(d:h.objs.size<=a)(c:H a=none):Un fs ex H (upd H a o) h h' where
 keep:=λb u q _ _ _=>k b u q
 slot:=λb u q _ _ _=>⟨u.slots,k b u q⟩
 free:=λb u q n _=>by rw[Ef (Da (By (Bn q) d))]; exact n
 there:=λb u q _=>⟨u,k b u q⟩
 tups:=λb e q=>by rw[Ef (Fu q c)]; exact q
 frzs:=λb u e q=>by rw[Ef (Fu q c)]; exact q
 tbls:=λb f q=>⟨#[],by rw[Ef (Fu q c),q]; simp⟩
theorem Un.write(c:IP (H x))(j:e=x\/H e=some (.own x))(k:∀b u,b≠e->h.get? b=some u->h'.get? b=some u)(d:∃u,h'.get? e=some u):Un fs ex H (upd H x o) h h':=by
 have g:∀b,H b=none->b≠x:=λb n z=>by subst z; rw[n] at c; exact c
 have i:∀b,H b=none->b≠e:=λb n z=>by
  subst z
  rcases j with r | r
  ·exact g b n r
  ·rw[n] at r; cases r
 have f:∀b u,H b=some u->¬ IP (some u)->b≠x:=λb u q m z=>by subst z; rw[q] at c; exact m c
 refine ⟨λb u q n _ _=>k b u (i b n) q,λb u q n _ _=>⟨u.slots,k b u (i b n) q⟩,λb u q n _=>by rw[Ef (g b n)]; exact n,λb u q _=>?_,
  λb l q=>by rw[Ef (f b _ q λz=>z)]; exact q,λb u l q=>by rw[Ef (f b _ q λz=>z)]; exact q,λb p q=>⟨#[],by rw[Ef (f b _ q λz=>z),q]; simp⟩⟩
 by_cases a:b=e
 ·subst a; exact d
 ·exact ⟨u,k b u a q⟩
end
def JA(h:Heap)(H:Hp):List Addr:=(Ce h.objs.size).filter λa=>(H a).isSome
def eY(h:Heap)(H:Hp):Heap:=PySem.W.hideAll h (JA h H)
theorem yA(h:Heap)(H:Hp):(eY h H).objs.size=h.objs.size:=PySem.W.hideAll_size _ _
theorem C1{h:Heap}{H:Hp}{b:Addr}{o:Obj}(e:h.get? b=some o)(n:H b=none):(eY h H).get? b=some o :=
 PySem.W.hideAll_get _ e λa=>by
  have q:(H b).isSome=true:=(Pa.mp a).2
  rw[n] at q; simp at q
theorem T3{h:Heap}{H:Hp}{b:Addr}{o:Obj}(e:(eY h H).get? b=some o):h.get? b=some o/\H b=none:=by
 have a:h.get? b=some o:=PySem.W.of_hideAll (JA h H) e
 refine ⟨a,?_⟩
 cases q:H b with
 | none=>rfl
 | some x =>
  have c:b∈JA h H:=List.mem_filter.mpr ⟨Ip.mpr (Bn a),by simp [q]⟩
  have z:(eY h H).get? b=none:=PySem.W.hideAll_none (JA h H) c
  rw[z] at e; cases e
def Pq(g h:Heap)(L:Addr):List (Addr×Obj):=(Ce h.objs.size).filterMap λa=>if a=L\/(g.get? a).isSome=true then none else (h.get? a).map λo=>(a,o)
theorem mE{g h:Heap}{L a:Addr}{o:Obj}(h1:a≠L)(c:g.get? a=none)(b:h.get? a=some o):(a,o)∈Pq g h L :=
 Kc.mpr ⟨a,Ip.mpr (Bn b),by simp [h1,c,b]⟩
theorem aT{g h:Heap}{L:Addr}{p:Addr×Obj}(c:p∈Pq g h L):p.1≠L/\g.get? p.1=none/\h.get? p.1=some p.2:=by
 obtain ⟨b,_,e⟩:=Kc.mp c
 split at e
 ·cases e
 ·rename_i a
  cases q:h.get? b with
  | none=>rw[q] at e; simp at e
  | some u =>
   rw[q] at e
   simp only[Option.map_some,Option.some.injEq] at e
   subst e
   refine ⟨λz=>a (.inl z),?_,q⟩
   show g.get? b=none
   cases r:g.get? b with
   | none=>rfl
   | some v=>exact (a (.inr (by simp [r]))).elim
def Gi(g h:Heap)(L d:Addr):List (Addr×Obj):=(Pq g h L).filter λp=>decide (p.1≠d)
theorem lT{g h:Heap}{L:Addr}:News g L h (Pq g h L):=λp d=>let ⟨a,b,c⟩:=aT d; ⟨c,a,b⟩
structure Mod(K:PySem.W.Frag)(mg:Str->Option Value)(base:Heap):Prop where
 kin:K.In base
 glob:base.Ns Cq mg
 blt:∃mb,base.Ns Vp mb/\∀x:Str,x ≠ "__name__" -> mb x=Kt x
 nolimit:base.NoLimit
def Wg:List Str:=["often", "cut_by"]
def EK(x:Str):Str:=x ++ ".<locals>." ++ "<lambda>"
def X3(H:Hp)(P:Addr)(q:Str):Prop:=∃(a:Array Value) (b:Tok),H P=some (.tbl a)/\a[0]? = some (.str q b)
def C5(K:PySem.W.Frag)(mg:Str->Option Value)(base:Heap)(H:Hp):Prop:=∀x∈Wg,∀c P,PySem.W.tabIn K x=some (c,P)->PySem.W.CodeHd base c P/\base.BuiltinsAt mg P/\X3 H P (EK x)
theorem C5.un{K:PySem.W.Frag}{mg:Str->Option Value}{base:Heap}{fs ex:List Addr}{H d:Hp}{h h':Heap}(t:C5 K mg base H)(u:Un fs ex H d h h'):C5 K mg base d:=λx g c P e=>by
 obtain ⟨l,i,a,k,j,b⟩:=t x g c P e
 obtain ⟨more,m⟩:=u.tbls P a j
 refine ⟨l,i,a++more,k,m,?_⟩
 have f:0<a.size:=by
  rcases Nat.eq_zero_or_pos a.size with z | z
  ·rw[Array.getElem?_eq_none (by omega)] at b; cases b
  ·exact z
 rw[Array.getElem?_append_left f]
 exact b
structure Cx where
 prog:Bq
 w:World
 K:PySem.W.Frag
 mg:Str->Option Value
 base:Heap
 A:Df
 N:List Str
 s₀:Al
 H₀:Hp
 env:Env
 outer:List Env
 stack:List Env
 ex:List Addr
 fn:Str->Bool
 calm:Bool
 pn:List (Addr×Obj)
 xe:Value->Al->Prop
def xP(l:List Env):List Addr:=l.filterMap (·.frame)
abbrev Cx.fs(X:Cx):List Addr:=xP X.outer
def GD(a:Scope)(x:Str):Prop:=a.names.lookup x=some .local\/a.names.lookup x=some .cell\/a.names.lookup x=some .free
def Loc(a:Scope)(x:Str):Prop:=a.names.lookup x=some .local\/a.names.lookup x=some .cell
def KJ(env:Env)(h:Heap)(m:Str->Option Value)(x:Str)(u:Value):Prop :=
 (env.kindOf x=some .local/\m x=some u)\/((env.kindOf x=some .cell\/env.kindOf x=some .free)/\∃c,env.cells.lookup x=some c/\h.IsCell c (some u))
structure Cx.Ok(X:Cx):Prop where
 mod:Mod X.K X.mg X.base
 kind:X.env.scope.kind=.function
 glob:X.env.globals=Cq
 blt:X.env.builtins=Vp
 above:X.s₀.heap.objs.size<=X.env.locals
 inj:∀x y c,X.env.cells.lookup x=some c->X.env.cells.lookup y=some c->x=y
 has:∀x,(X.env.kindOf x=some .cell\/X.env.kindOf x=some .free)->∃c,X.env.cells.lookup x=some c
 cab:∀x c,X.fn x=true->X.env.cells.lookup x=some c->X.s₀.heap.objs.size<=c
 hd:X.calm=true->X.A.handled=none
 frames:X.A.frames=some X.stack
 stk:X.stack=X.outer\/(X.stack=X.env::X.outer/\X.env.frame=some X.env.locals)
 exf:∀b∈X.ex,b≠X.env.locals/\∀x c,X.env.cells.lookup x=some c->c≠b
 bs:∀b o,X.base.get? b=some o->X.s₀.heap.get? b=some o/\X.H₀ b=none
 bsz:X.base.objs.size<=X.s₀.heap.objs.size
 noex:∀b o,X.base.get? b=some o->b∉X.ex
 exfs:∀b∈X.ex,b∉X.fs
 funs:X.s₀.heap.FunFrames X.base X.outer
 frf:∀b∈X.fs,X.H₀ b=none
 tab:C5 X.K X.mg X.base X.H₀
structure Inv(X:Cx)(pins:List (Addr×Obj))(σ:List (Option V))(H:Hp)(s:Al):Prop where
 ok:X.Ok
 os:s.os=X.s₀.os
 bare:Tc s.gens
 base:Un X.fs X.ex X.H₀ H X.s₀.heap s.heap
 loc:∃m,s.heap.Ns X.env.locals m/\∀(i:Nat) (x:Str) (v:V),X.N[i]? = some x->σ[i]? = some (some v)->GD X.env.scope x->∃u,RelV v u/\KJ X.env s.heap m x u
 cell:∀x c,X.env.cells.lookup x=some c->∃v,s.heap.IsCell c v
 free:H X.env.locals=none
 freeC:∀x c,X.env.cells.lookup x=some c->H c=none
 pin:∀p∈X.pn++pins,s.heap.get? p.1=some p.2/\H p.1=none/\p.1≠X.env.locals/\p.1∉X.fs/\∀v,p.2.data≠.cell v
 hok:Yd X.prog X.w H s.heap
 len:σ.length=X.N.length
section
variable{X:Cx}{f:List (Addr×Obj)}{g:List (Option V)}{H B:Hp}{s:Al}{h':Heap}
theorem Cx.Ok.nofr(ok:X.Ok){b:Addr}{o:Obj}(e:X.base.get? b=some o):b∉X.fs:=λa=>by
 have:=(ok.funs.mem a).1
 rw[e] at this; cases this
theorem Inv.bs(I:Inv X f g H s):∀b o,X.base.get? b=some o->s.heap.get? b=some o/\H b=none:=λb o e =>
 ⟨I.base.keep b o (I.ok.bs b o e).1 (I.ok.bs b o e).2 (I.ok.nofr e) (I.ok.noex b o e),I.base.free b o (I.ok.bs b o e).1 (I.ok.bs b o e).2 (I.ok.noex b o e)⟩
theorem Inv.bk(I:Inv X f g H s):∀b o,X.base.get? b=some o->s.heap.get? b=some o:=λb o e=>(I.bs b o e).1
theorem Inv.mod(I:Inv X f g H s):Mod X.K X.mg X.base:=I.ok.mod
theorem Inv.kIn(I:Inv X f g H s):X.K.In s.heap:=I.ok.mod.kin.keeps I.bk
theorem Inv.fr(I:Inv X f g H s):∃m,Fr X.base X.env.locals s.heap m :=
 let ⟨m,hn,_⟩:=I.loc
 ⟨m,hn,I.bk,Bz I.ok.bsz I.ok.above⟩
theorem Inv.lt(I:Inv X f g H s):X.env.locals<s.heap.objs.size:=let ⟨_,hn,_⟩:=I.loc; hn.lt
theorem Inv.sz(I:Inv X f g H s):X.s₀.heap.objs.size<=s.heap.objs.size:=Bz I.ok.above (Lr I.lt)
theorem Inv.nofs(I:Inv X f g H s){a:Addr}(h:s.heap.objs.size<=a):a∉X.fs:=λc=>by
 obtain ⟨_,o,b,_⟩:=I.ok.funs.mem c
 exact absurd (By (Bn b) (Bz I.sz h)) (Jl _)
theorem Inv.cne(I:Inv X f g H s):∀x c,X.env.cells.lookup x=some c->c≠X.env.locals:=λx c e z=>by
 obtain ⟨v,o,d,h⟩:=I.cell x c e
 obtain ⟨m,⟨j,i,k,a,b,_⟩,_⟩:=I.loc
 rw[z,a] at d; cases d; rw[b] at h; cases h
theorem Inv.funs(I:Inv X f g H s):s.heap.FunFrames X.base X.outer:=by
 have all:∀(l:List Env),(∀b∈xP l,b∈X.fs)->X.s₀.heap.FunFrames X.base l->s.heap.FunFrames X.base l:=by
  intro l
  induction l with
  | nil=>intro _ _; trivial
  | cons k r m =>
   intro h j
   obtain ⟨p,⟨L,o,d,q,i,n⟩,t⟩:=j
   have a:L∈X.fs:=h L (by unfold xP; rw[Lw,d]; exact Aa)
   obtain ⟨u,e⟩:=I.base.slot L o i (I.ok.frf L a) a λz=>I.ok.exfs L z a
   exact ⟨p,⟨L,_,d,q,e,n⟩,m (λb c=>h b (by unfold xP; rw[Lw,d]; exact Ad _ c)) t⟩
 exact all X.outer (λ_ c=>c) I.ok.funs
theorem Inv.stack(I:Inv X f g H s):s.heap.FunFrames X.base X.stack:=by
 rcases I.ok.stk with e | ⟨e,b⟩
 ·rw[e]; exact I.funs
 ·rw[e]
  obtain ⟨m,a,_⟩:=I.loc
  refine .cons (by rw[I.ok.kind]; decide) b a ?_ I.funs
  exact Heap.get?_none_of_le (Bz I.ok.bsz I.ok.above)
theorem Inv.stkSub(I:Inv X f g H s):∀b∈xP X.stack,b∈X.env.locals::X.fs:=λb a=>by
 rcases I.ok.stk with e | ⟨e,c⟩
 ·rw[e] at a; exact Ad _ a
 ·rw[e] at a
  unfold xP at a
  rw[Lw,c] at a
  exact a
theorem Inv.stkFree(I:Inv X f g H s):∀b∈xP X.stack,H b=none:=λb hb=>by
 rcases Ai.mp (I.stkSub b hb) with e | hb
 ·rw[e]; exact I.free
 ·obtain ⟨_,o,a,_⟩:=I.ok.funs.mem hb
  exact I.base.free b o a (I.ok.frf b hb) λz=>I.ok.exfs b z hb
theorem Inv.step{g':Array GenState}{t':Nat}{d':Drawn}{ch:List Addr}(I:Inv X f g H s)(h:∀b∈ch,(b∈X.ex\/X.s₀.heap.objs.size<=b)/\b≠X.env.locals/\(∀x c,X.env.cells.lookup x=some c->c≠b)/\∀p∈X.pn++f,p.1≠b)(keep:∀b o,b≠X.env.locals->b∉X.fs->b∉ch->s.heap.get? b=some o->H b=none->h'.get? b=some o)(slot:∀b o,b≠X.env.locals->b∈X.fs->b∉ch->s.heap.get? b=some o->H b=none->∃K,h'.get? b=some { o with slots:=K })(free:∀b o,b∉ch->s.heap.get? b=some o->H b=none->B b=none)(there:∀b o,b∉ch->s.heap.get? b=some o->∃E,h'.get? b=some E)(tups:∀b xs,H b=some (.tup xs)->B b=some (.tup xs))(frzs:∀b o u,H b=some (.frz o u)->B b=some (.frz o u))(tbls:∀b ps,H b=some (.tbl ps)->∃more,B b=some (.tbl (ps++more)))(T:∀m,s.heap.Ns X.env.locals m->h'.Ns X.env.locals m)(J:Yd X.prog X.w B h')(Y:Tc g'):Inv X f g B { s with heap:=h',gens:=g',drawn:=d',toks:=t' }:=by
 have F:∀b o,X.s₀.heap.get? b=some o->b≠X.env.locals:=λb o e=>Da (By (Bn e) I.ok.above)
 have y:∀b o,X.s₀.heap.get? b=some o->b∉X.ex->b∉ch:=λb o e a C=>by
  rcases (h b C).1 with z | z
  ·exact a z
  ·exact absurd (By (Bn e) z) (Jl _)
 have j:∀x c,X.env.cells.lookup x=some c->∀v,s.heap.IsCell c v->h'.IsCell c v:=λx c e v ⟨o,D,M⟩=>by
  have t:c∉ch:=λz=>(h c z).2.2.1 x c e rfl
  by_cases P:c∈X.fs
  ·obtain ⟨K,q⟩:=slot c o (I.cne x c e) P t D (I.freeC x c e)
   exact ⟨_,q,M⟩
  ·exact ⟨o,keep c o (I.cne x c e) P t D (I.freeC x c e),M⟩
 refine ⟨I.ok,I.os,Y,⟨λb o e n C a=>?_,λb o e n C a=>?_,λb o e n a=>?_,λb o e a=>?_,λb xs e=>tups b xs (I.base.tups b xs e),λb o xs e=>frzs b o xs (I.base.frzs b o xs e),λb ps e=>?_⟩,?_,λx c e=>?_,?_,λx c e=>?_,λp N=>?_,J,I.len⟩
 ·exact keep b o (F b o e) C (y b o e a) (I.base.keep b o e n C a) (I.base.free b o e n a)
 ·obtain ⟨K,A⟩:=I.base.slot b o e n C a
  obtain ⟨L,G⟩:=slot b _ (F b o e) C (y b o e a) A (I.base.free b o e n a)
  exact ⟨L,G⟩
 ·obtain ⟨E,A⟩:=I.base.there b o e a
  exact free b E (y b o e a) A (I.base.free b o e n a)
 ·obtain ⟨E,A⟩:=I.base.there b o e a
  exact there b E (y b o e a) A
 ·obtain ⟨R,A⟩:=I.base.tbls b ps e
  obtain ⟨S,G⟩:=tbls b _ A
  exact ⟨R++S,by rw[G,Array.append_assoc]⟩
 ·obtain ⟨m,V,U⟩:=I.loc
  refine ⟨m,T m V,λi x v A G W=>?_⟩
  obtain ⟨u,r,l⟩:=U i x v A G W
  refine ⟨u,r,?_⟩
  rcases l with l | ⟨k,c,e,z⟩
  ·exact .inl l
  ·exact .inr ⟨k,c,e,j x c e _ z⟩
 ·obtain ⟨v,z⟩:=I.cell x c e
  exact ⟨v,j x c e v z⟩
 ·obtain ⟨m,⟨o,_,_,D,_⟩,_⟩:=I.loc
  exact free _ o (λz=>(h _ z).2.1 rfl) D I.free
 ·obtain ⟨v,o,D,M⟩:=I.cell x c e
  exact free c o (λz=>(h c z).2.2.1 x c e rfl) D (I.freeC x c e)
 ·obtain ⟨e,n,Q,O,d⟩:=I.pin p N
  have t:p.1∉ch:=λz=>(h p.1 z).2.2.2 p N rfl
  exact ⟨keep p.1 p.2 Q O t e n,free p.1 p.2 t e n,Q,O,d⟩
theorem Inv.un{t':Nat}(I:Inv X f g H s)(u:Un X.fs [] H B s.heap h')(c:Yd X.prog X.w B h'):Inv X f g B { s with heap:=h',toks:=t' }:=by
 obtain ⟨m,⟨o,q,v,j,r⟩,_⟩:=id I.loc
 obtain ⟨y,p⟩:=u.any j I.free (by simp)
 exact I.step (g':=s.gens) (d':=s.drawn) (ch:=[]) (λ_ z=>nomatch z) (λb o _ i _ e n=>u.keep b o e n i (by simp)) (λb o _ i _ e n=>u.slot b o e n i (by simp)) (λb o _ e n=>u.free b o e n (by simp)) (λb o _ e=>u.there b o e (by simp)) u.tups u.frzs u.tbls (λx l=>by
  obtain ⟨t,h,d,a,k⟩:=l
  rw[j] at a; cases a
  exact ⟨_,h,d,p,k⟩) c I.bare
theorem Inv.call{g':Array GenState}{t':Nat}{d':Drawn}{ch:List Addr}(I:Inv X f g H s)(u:Un (xP X.stack) ch H B s.heap h')(i:Yd X.prog X.w B h')(y:Tc g')(h:∀b∈ch,(b∈X.ex\/X.s₀.heap.objs.size<=b)/\b≠X.env.locals/\(∀x c,X.env.cells.lookup x=some c->c≠b)/\∀p∈X.pn++f,p.1≠b):Inv X f g B { s with heap:=h',gens:=g',drawn:=d',toks:=t' }:=by
 obtain ⟨m,⟨o,C,E,q,r⟩,_⟩:=id I.loc
 obtain ⟨G,l⟩:=u.any q I.free λz=>(h _ z).2.1 rfl
 exact I.step (ch:=ch) h (λb o l t a e n=>u.keep b o e n (λz=>(Ai.mp (I.stkSub b z)).elim l t) a) (λb o _ _ a e n=>u.any e n a) (λb o a e n=>u.free b o e n a) (λb o a e=>u.there b o e a) u.tups u.frzs u.tbls (λF A=>by
  obtain ⟨D,k,j,d,v⟩:=A
  rw[q] at d; cases d
  exact ⟨_,k,j,l,v⟩) i y
theorem Inv.turned{t':Nat}{it:Addr}(I:Inv X f g H s)(k:∀b o,b≠it->s.heap.get? b=some o->h'.get? b=some o)(y:H it=none)(h:it≠X.env.locals)(h1:it∈X.ex\/X.s₀.heap.objs.size<=it)(t:∀x c,X.env.cells.lookup x=some c->c≠it)(w:∀p∈X.pn++f,p.1≠it):Inv X f g H { s with heap:=h',toks:=t' }:=by
 have d:∀b u,H b=some u->b≠it:=λb u e z=>by rw[z,y] at e; cases e
 refine I.step (g':=s.gens) (d':=s.drawn) (ch:=[it]) (λb A=>?_) (λb o _ _ a e _=>k b o (λz=>a (by simp [z])) e) (λb o _ _ a e _=>⟨o.slots,k b o (λz=>a (by simp [z])) e⟩) (λ_ _ _ _ n=>n)
  (λb o a e=>⟨o,k b o (λz=>a (by simp [z])) e⟩) (λ_ _ e=>e) (λ_ _ _ e=>e) (λb C e=>⟨#[],by rw[e]; simp⟩) (λm B=>?_) (λb u e=>?_) I.bare
 ·have e:b=it:=by simpa using A
  subst e
  exact ⟨h1,h,t,w⟩
 ·obtain ⟨o,j,l,i,r⟩:=B
  exact ⟨o,j,l,k _ o (Oh h) i,r⟩
 ·refine (I.hok b u e).stay (λc v a q=>k c v ?_ q) (λ_ q=>q) λ_ _ q=>q
  rcases a with z | z
  ·rw[z]; exact d b u e
  ·exact d c _ z
theorem Inv.tok(I:Inv X f g H s)(t:Nat):Inv X f g H { s with toks:=t }:=I.un (h':=s.heap) (t':=t) Un.refl I.hok
theorem Inv.kept{t':Nat}(I:Inv X f g H s)(k:∀b u,s.heap.get? b=some u->h'.get? b=some u):Inv X f g H { s with heap:=h',toks:=t' }:=I.un (Un.kept k) (I.hok.kept k)
theorem Inv.laid{a:Addr}{o:HO}{t':Nat}(I:Inv X f g H s)(k:∀b u,s.heap.get? b=some u->h'.get? b=some u)(d:s.heap.objs.size<=a)(c:Jn X.prog X.w (upd H a o) h' a o):Inv X f g (upd H a o) { s with heap:=h',toks:=t' }:=I.un (Un.laid k d (I.hok.fresh d)) (I.hok.laid k d c)
theorem Inv.write{x e:Addr}{o:HO}{t':Nat}(I:Inv X f g H s)(h:IP (H x))(d:e=x\/H e=some (.own x))(k:∀b u,b≠e->s.heap.get? b=some u->h'.get? b=some u)(a:∃u,h'.get? e=some u)(c:Jn X.prog X.w (upd H x o) h' x o):Inv X f g (upd H x o) { s with heap:=h',toks:=t' }:=I.un (Un.write h d k a) (I.hok.write h d k a c)
theorem Inv.pins_of{a:List (Addr×Obj)}(I:Inv X f g H s)(h:∀p∈a,s.heap.get? p.1=some p.2/\H p.1=none/\p.1≠X.env.locals/\p.1∉X.fs/\∀v,p.2.data≠.cell v):Inv X a g H s :=
 ⟨I.ok,I.os,I.bare,I.base,I.loc,I.cell,I.free,I.freeC,λp b=>(Am.mp b).elim (λz=>I.pin p (Ah _ z)) (h p),I.hok,I.len⟩
theorem oJ{N:List Str}(e:N.Nodup){i j:Nat}{x:Str}(a:N[i]? = some x)(b:N[j]? = some x):i=j:=by
 obtain ⟨g,c⟩:=Ak.mp a
 obtain ⟨f,d⟩:=Ak.mp b
 exact (List.getElem_inj e).mp (c.trans d.symm)
theorem xN{M:Model}{A:Df}{E:Value->Al->Prop}{i:Nat}{x:Str}{v:V}{u:Value}{Q:Unit->Al->Prop}(I:Inv X f g H s)(hN:X.N.Nodup)(P:X.N[i]? = some x)(C:Loc X.env.scope x)(r:RelV v u)(h:∀s',Inv X f (g.set i (some v)) H s'->(∃a,Jf a s.heap s'.heap/\(a=X.env.locals\/X.env.cells.lookup x=some a))->Q () s')(hf:X.fn x=true\/X.env.scope.names.lookup x=some .local:=by first | exact .inl rfl | exact .inr rfl | assumption):wpAny M A (storeName X.env x u) Q E s:=by
 obtain ⟨m,hn,hl⟩:=id I.loc
 have R:(X.env.scope.kind == .class || (X.env.scope.kind == .module && X.env.locals != X.env.globals))=false:=by rw[I.ok.kind]; rfl
 have G:i<g.length:=by rw[I.len]; exact (Ak.mp P).1
 have cne:=I.cne
 have t:∀{a:Addr} {h':Heap},(∃o,s.heap.get? a=some o/\H a=none)->Jf a s.heap h'->Yd X.prog X.w H h':=λ{a h'} ha l b ob e=>by
  obtain ⟨_,_,D⟩:=ha
  refine (I.hok b ob e).stay (λc W hc q=>(l.2 c ?_).trans q) (λ_ q=>q) λ_ _ q=>q
  rintro rfl
  rcases hc with rfl | hc
  ·rw[D] at e; cases e
  ·rw[D] at hc; cases hc
 rcases C with hk | hk
 ·refine wpAny_storeName_local hk hn (λh' h1 l=>?_) R
  obtain ⟨oL,_,_,h0,_⟩:=id hn
  refine h _ ⟨I.ok,I.os,I.bare,⟨λb o e n L C=>?_,λb o e n L C=>?_,I.base.free,λb o e C=>?_,I.base.tups,I.base.frzs,I.base.tbls⟩,⟨_,h1,λj y v' B F e3=>?_⟩,λy c e=>?_,I.free,I.freeC,λp hp=>?_,t ⟨oL,h0,I.free⟩ l,by simpa using I.len⟩ ⟨_,l,.inl rfl⟩
  ·exact (l.2 b (Da (By (Bn e) I.ok.above))).trans (I.base.keep b o e n L C)
  ·obtain ⟨sl,B⟩:=I.base.slot b o e n L C
   exact ⟨sl,(l.2 b (Da (By (Bn e) I.ok.above))).trans B⟩
  ·obtain ⟨o',B⟩:=I.base.there b o e C
   exact ⟨o',(l.2 b (Da (By (Bn e) I.ok.above))).trans B⟩
  ·by_cases K:j=i
   ·subst K
    rw[P] at B; cases B
    rw[sH G] at F
    cases F
    exact ⟨u,r,.inl ⟨hk,by simp⟩⟩
   ·rw[Vl (Oh K)] at F
    obtain ⟨u',r',q⟩:=hl j y v' B F e3
    refine ⟨u',r',?_⟩
    rcases q with ⟨k,e⟩ | ⟨k,c,e,z⟩
    ·refine .inl ⟨k,?_⟩
     have : y≠x:=λe=>K (oJ hN B (e▸P))
     simp [this,e]
    ·exact .inr ⟨k,c,e,z.sameBut l (cne y c e)⟩
  ·obtain ⟨W,z⟩:=I.cell y c e
   exact ⟨W,z.sameBut l (cne y c e)⟩
  ·obtain ⟨e,n,Y,nf,d⟩:=I.pin p hp
   exact ⟨(l.2 p.1 Y).trans e,n,Y,nf,d⟩
 ·have J:X.fn x=true:=by
   rcases hf with z | z
   ·exact z
   ·rw[z] at hk; cases hk
  obtain ⟨c,hc⟩:=I.ok.has x (.inl hk)
  obtain ⟨W,z⟩:=I.cell x c hc
  refine wpAny_storeName_cell I.ok.kind hk hc z (λh' O l=>?_)
  obtain ⟨oc,U,T⟩:=id z
  refine h { s with heap:=h' } ⟨I.ok,I.os,I.bare,⟨λb o e n L C=>?_,λb o e n L C=>?_,I.base.free,λb o e C=>?_,I.base.tups,I.base.frzs,I.base.tbls⟩,⟨m,hn.sameBut l (Oh (cne x c hc)),λj y v' B F e3=>?_⟩,λy Z e=>?_,I.free,I.freeC,λp hp=>?_,t ⟨oc,U,I.freeC x c hc⟩ l,by simpa using I.len⟩ ⟨c,l,.inr hc⟩
  ·exact (l.2 b (Da (By (Bn e) (I.ok.cab x c J hc)))).trans (I.base.keep b o e n L C)
  ·obtain ⟨sl,B⟩:=I.base.slot b o e n L C
   exact ⟨sl,(l.2 b (Da (By (Bn e) (I.ok.cab x c J hc)))).trans B⟩
  ·obtain ⟨o',B⟩:=I.base.there b o e C
   exact ⟨o',(l.2 b (Da (By (Bn e) (I.ok.cab x c J hc)))).trans B⟩
  ·by_cases K:j=i
   ·subst K
    rw[P] at B; cases B
    rw[sH G] at F
    cases F
    exact ⟨u,r,.inr ⟨.inl hk,c,hc,O⟩⟩
   ·rw[Vl (Oh K)] at F
    obtain ⟨u',r',q⟩:=hl j y v' B F e3
    refine ⟨u',r',?_⟩
    rcases q with q | ⟨k,Z,e,z'⟩
    ·exact .inl q
    ·refine .inr ⟨k,Z,e,z'.sameBut l ?_⟩
     rintro rfl
     exact K (oJ hN B (I.ok.inj _ _ _ e hc▸P))
  ·by_cases S:Z=c
   ·subst S; exact ⟨_,O⟩
   ·obtain ⟨w2,z2⟩:=I.cell y Z e
    exact ⟨w2,z2.sameBut l S⟩
  ·obtain ⟨e,n,Y,nf,d⟩:=I.pin p hp
   refine ⟨(l.2 p.1 ?_).trans e,n,Y,nf,d⟩
   intro q
   rw[q,U] at e
   have q':oc=p.2:=Bl e
   exact d W (by rw[<- q']; exact T)
theorem bI{M:Model}{A:Df}{E:Value->Al->Prop}{i:Nat}{x:Str}{v:V}{u:Value}{Q:Unit->Al->Prop}(I:Inv X f g H s)(c:X.N.Nodup)(a:X.N[i]? = some x)(b:Loc X.env.scope x)(r:RelV v u)(h:∀s',Inv X f (g.set i (some v)) H s'->Q () s')(e:X.fn x=true\/X.env.scope.names.lookup x=some .local:=by first | exact .inl rfl | exact .inr rfl | assumption):wpAny M A (storeName X.env x u) Q E s :=
 xN I c a b r (λs' d _=>h s' d) e
theorem Inv.call'{s':Al}{ch:List Addr}(I:Inv X f g H s)(h:s'.os=s.os)(u:Un (xP X.stack) ch H B s.heap s'.heap)(a:Yd X.prog X.w B s'.heap)(j:Tc s'.gens)(d:∀b∈ch,(b∈X.ex\/X.s₀.heap.objs.size<=b)/\b≠X.env.locals/\(∀x c,X.env.cells.lookup x=some c->c≠b)/\∀p∈X.pn++f,p.1≠b):Inv X f g B s':=by
 obtain ⟨h',g',d',t',i⟩:=s'
 have e:i=s.os:=h
 subst e
 exact I.call (g':=g') (t':=t') (d':=d') u a j d
end
abbrev XK:=Value->Option Addr->Hp->Prop
abbrev St:=List (Option V)
abbrev VK:=V->Hp->Prop
abbrev TE:=St->Hp->VK->Prop
abbrev TT:=St->Hp->(Bool->Hp->Prop)->Prop
abbrev TA:=St->Hp->(List V->Hp->Prop)->Prop
structure Ends where
 nx:St->Hp->Prop
 rt:VK
 bk:St->Hp->Prop:=λ_ _=>False
 ct:St->Hp->Prop:=λ_ _=>False
abbrev TS:=Ends->St->Hp->Prop
def EP(X:Cx)(a:List (Addr×Obj))(c:St)(Q:VK)(u:Value)(s':Al):Prop:=∃v b,Inv X a c b s'/\RelV v u/\Q v b
def TP(X:Cx)(a:List (Addr×Obj))(d:St)(Q:Bool->Hp->Prop)(b:Bool)(s':Al):Prop:=∃c,Inv X a d c s'/\Q b c
def AP(X:Cx)(a:List (Addr×Obj))(c:St)(Q:List V->Hp->Prop)(us:List Value)(s':Al):Prop:=∃vs b,Inv X a c b s'/\Gv vs us/\Q vs b
def SP(X:Cx)(b:List (Addr×Obj))(D:Ends)(f:Flow)(s':Al):Prop :=
 match f with
 | .next=>∃a c,Inv X b a c s'/\D.nx a c
 | .brk=>∃a c,Inv X b a c s'/\D.bk a c
 | .cont=>∃a c,Inv X b a c s'/\D.ct a c
 | .ret u=>∃v a c,Inv X b a c s'/\RelV v u/\D.rt v c
def PE(X:Cx)(e:Expr)(t:TE):Prop :=
 ∀(a:List (Addr×Obj)) (s:Al) (b:St) (H:Hp) (Q:VK),Inv X a b H s->t b H Q->wpAny (model X.prog X.w) X.A (eval e X.env) (EP X a b Q) X.xe s
def PT(X:Cx)(e:Expr)(t:TT):Prop :=
 ∀(a:List (Addr×Obj)) (s:Al) (b:St) (H:Hp) (Q:Bool->Hp->Prop),Inv X a b H s->t b H Q->wpAny (model X.prog X.w) X.A (isTrue e X.env (eval e X.env)) (TP X a b Q) X.xe s
def PW(X:Cx)(e:Expr)(t:TT):Prop :=
 ∀(b:Sem Value) (a:List (Addr×Obj)) (s:Al) (c:St) (H:Hp) (Q:Bool->Hp->Prop),Inv X a c H s->t c H Q->wpAny (model X.prog X.w) X.A (isTrue e X.env b) (TP X a c Q) X.xe s
theorem PW.pt{X:Cx}{e:Expr}{t:TT}(h:PW X e t):PT X e t:=h _
def PA(X:Cx)(es:List Expr)(t:TA):Prop :=
 ∀(c:Pos) (a:List (Addr×Obj)) (s:Al) (b:St) (H:Hp) (Q:List V->Hp->Prop),Inv X a b H s->t b H Q->wpAny (model X.prog X.w) X.A (spliced (Gh c (Be es X.env))) (AP X a b Q) X.xe s
def PS(X:Cx)(st:Stmt)(t:TS):Prop :=
 ∀(a:List (Addr×Obj)) (s:Al) (b:St) (H:Hp) (D:Ends),Inv X a b H s->t D b H->wpAny (model X.prog X.w) X.A (exec st X.env) (SP X a D) X.xe s
def qG(X:Cx)(st:List Stmt)(t:TS):Prop :=
 ∀(a:List (Addr×Obj)) (s:Al) (b:St) (H:Hp) (D:Ends),Inv X a b H s->t D b H->wpAny (model X.prog X.w) X.A (execs st X.env) (SP X a D) X.xe s
theorem Gk{c:Type}{t:Sem c}{Q b:c->Al->Prop}{M:Model}{A:Df}{E:Value->Al->Prop}{s:Al}(h:wpAny M A t Q E s)(d:∀a s,Q a s->b a s):wpAny M A t b E s:=Co h d λ_ _ x=>x
section
variable{X:Cx}
theorem MZ{a b:Expr}{g n:TE}(p:PE X a g)(hb:PE X b n){c:List (Addr×Obj)}{s:Al}{e:St}{H:Hp}{R:V->V->Hp->Prop}(I:Inv X c e H s)(h:g e H λx m=>n e m λy i=>R x y i){o:Type}{Q:o->Al->Prop}{f:Value->Value->Sem o}(E:∀v u l x y i,Inv X c e i l->RelV x v->RelV y u->R x y i->wpAny (model X.prog X.w) X.A (f v u) Q X.xe l):wpAny (model X.prog X.w) X.A (eval a X.env) (λv j=>wpAny (model X.prog X.w) X.A (eval b X.env) (λu k=>wpAny (model X.prog X.w) X.A (f v u) Q X.xe k) X.xe j) X.xe s:=by
 refine Gk (p c s e H _ I h) λv D d => ?_
 obtain ⟨x,m,r,C,B⟩ := d
 refine Gk (hb c D e m _ r B) λu l d => ?_
 obtain ⟨y,i,t,q,z⟩ := d
 exact E v u l x y i t C q z
def Nx(i:Nat):TE:=λa H Q=>∃v,a[i]? = some (some v)/\Q v H
def tC(v:V):TE:=λ_ H Q=>Q v H
theorem DP{i:Nat}{x:Str}{pos:Pos}(o:X.N[i]? = some x)(j:GD X.env.scope x)(hd:(x == ("__debug__" : Str))=false:=by decide)(f:(x == ("__classdict__" : Str))=false:=by decide):PE X (.Name x pos) (Nx i):=by
 intro d s n H Q I h
 obtain ⟨v,e,h⟩:=h
 obtain ⟨m,p,k⟩:=I.loc
 obtain ⟨u,r,l⟩:=k i x v o e j
 have b:EP X d n Q u s:=⟨v,H,I,r,h⟩
 rcases l with ⟨hk,q⟩ | ⟨hk,c,g,a⟩
 ·exact wpAny_Name (wpAny_loadName_local I.ok.kind hk p q b) hd
 ·rcases hk with hk | hk
  ·exact wpAny_Name (wpAny_loadName_cell I.ok.kind hk g a b) hd
  ·exact wpAny_Name (wpAny_loadName_free I.ok.kind hk g a b f) hd
theorem Hs{i j pos}:PE X (.Constant (.int i) j pos) (tC (.int i)):=λ_ _ _ H _ I h=>wpAny_Constant_int ⟨.int i,H,I.tok _,⟨_,rfl⟩,h⟩
theorem HA{b j pos}:PE X (.Constant (.bool b) j pos) (tC (.bl b)):=λ_ _ _ H _ I h=>Constant_bool ⟨.bl b,H,I,rfl,h⟩
theorem CY{x j pos}:PE X (.Constant (.str x) j pos) (tC (.str x)):=λ_ _ _ H _ I h=>Calls.Constant_str ⟨.str x,H,I.tok _,⟨_,rfl⟩,h⟩
def Gl(X:Cx)(x:Str):Prop:=X.env.kindOf x=some .globalImplicit
theorem uA{E:Value->Al->Prop}{a:List (Addr×Obj)}{s:Al}{b:St}{H:Hp}{x:Str}{u:Value}{pos:Pos}{Q:Value->Al->Prop}(I:Inv X a b H s)(c:Gl X x)(d:X.mg x=some u)(h:Q u s)(hd:(x == ("__debug__" : Str))=false:=by decide):wpAny (model X.prog X.w) X.A (eval (.Name x pos) X.env) Q E s :=
 iE I.ok.kind c (Calls.loadGlobal_global (by rw[I.ok.glob]; exact I.mod.glob.keeps I.bk) d h) hd
theorem Qc{E:Value->Al->Prop}{a:List (Addr×Obj)}{s:Al}{c:St}{H:Hp}{x:Str}{u:Value}{pos:Pos}{Q:Value->Al->Prop}(I:Inv X a c H s)(g:Gl X x)(i:X.mg x=none)(b:Kt x=some u)(h:Q u s)(e:x ≠ "__name__" := by decide)(hd:(x == ("__debug__" : Str))=false:=by decide):wpAny (model X.prog X.w) X.A (eval (.Name x pos) X.env) Q E s:=by
 obtain ⟨j,f,d⟩:=I.mod.blt
 exact iE I.ok.kind g (Calls.loadGlobal_builtin (by rw[I.ok.glob]; exact I.mod.glob.keeps I.bk) i (by rw[I.ok.blt]; exact f.keeps I.bk) ((d x e).trans b) h) hd
theorem R3{x:Str}{v:V}{u:Value}{pos:Pos}(b:Gl X x)(d:X.mg x=none)(a:Kt x=some u)(r:RelV v u)(c:x ≠ "__name__" := by decide)(hd:(x == ("__debug__" : Str))=false:=by decide):PE X (.Name x pos) (tC v) :=
 λ_ _ _ H _ I h=>Qc I b d a ⟨v,H,I,r,h⟩ c hd
variable{a b:Expr}{g n:TE}{pos:Pos}
def PC(X:Cx)(g:CmpOp)(a b:Expr)(t:TE):Prop :=
 ∀(c:List (Addr×Obj)) (s:Al) (f:St) (H:Hp) (Q:VK),Inv X c f H s->t f H Q ->
  wpAny (model X.prog X.w) X.A (eval a X.env) (λv d=>wpAny (model X.prog X.w) X.A (eval b X.env) (λu e=>wpAny (model X.prog X.w) X.A (Hv g v u) (EP X c f Q) X.xe e) X.xe d) X.xe s
theorem G4(b:Expr){a:CmpOp}(h:a≠.In)(d:a≠.NotIn):Gg a b=false:=by
 have e:(a == CmpOp.In)=false:=by cases a <;> first | rfl | exact absurd rfl h
 have c:(a == CmpOp.NotIn)=false:=by cases a <;> first | rfl | exact absurd rfl d
 cases b <;> simp [Gg,e,c]
def tB(t:TE):TT:=λb H Q=>t b H λx a=>∃c,x=.bl c/\Q c a
theorem BW{f:CmpOp}{t:TE}(h:PC X f a b t)(h1:Gg f b=false:=by first | exact G4 _ (by decide) (by decide) | rfl):PT X (.Compare a [f] [b] pos) (tB t):=by
 intro e s i H Q I k
 refine wpAny_isTrue_Compare1 (Gk (h e s i H _ I k) λv p h1=>Gk h1 λu r j=>Gk j λc o ⟨x,g,n,m,l⟩=>?_) h1
 obtain ⟨d,rfl,q⟩:=l
 cases m
 exact Ic ⟨g,n,q⟩
theorem B2{e:Expr}{t:TE}(h:PE X e t)(f:∀a,isTrue e X.env a=(do let v <- a; Sx e.pos; Sy [v] (truthy v)):=by intro _; rfl):PT X e (tB t):=by
 intro b s g H Q I i
 refine isTrue_plain (Gk (h b s g H _ I i) λv m ⟨x,c,l,k,j⟩=>?_) (f _)
 obtain ⟨d,rfl,q⟩:=j
 cases k
 exact Ic ⟨c,l,q⟩
variable{k o:TT}{Gi:List Expr}
def JG(t u:TT):TT:=λb H Q=>t b H λc a=>if c=true then u b a Q else Q false a
def MS(t u:TT):TT:=λb H Q=>t b H λc a=>if c=true then Q true a else u b a Q
def JQ(t:TT):TT:=λb H Q=>t b H λc a=>Q (!c) a
theorem U6(d:PT X a k):PW X (.BoolOp .And [a] pos) k:=by
 intro g b s f H Q I h
 refine isTrue_and (Gk (d b s f H Q I h) λc i e=>?_)
 cases c with
 | true=>exact isTrue_and_nil e
 | false=>exact e
theorem BN(d:PT X a k):PW X (.BoolOp .Or [a] pos) k:=by
 intro g b s f H Q I h
 refine isTrue_or (Gk (d b s f H Q I h) λc i e=>?_)
 cases c with
 | false=>exact isTrue_or_nil e
 | true=>exact e
theorem AX(m:PT X a k)(hb:PW X (.BoolOp .And (b::Gi) pos) o):PW X (.BoolOp .And (a::b::Gi) pos) (JG k o):=by
 intro l d s g H Q I h
 refine isTrue_and (Gk (m d s g H _ I h) λc n e => ?_)
 obtain ⟨f,i,j⟩ := e
 cases c with
 | true=>exact hb l d n g f Q i j
 | false=>exact ⟨f,i,j⟩
theorem IK(m:PT X a k)(hb:PW X (.BoolOp .Or (b::Gi) pos) o):PW X (.BoolOp .Or (a::b::Gi) pos) (MS k o):=by
 intro l d s g H Q I h
 refine isTrue_or (Gk (m d s g H _ I h) λc n e => ?_)
 obtain ⟨f,i,j⟩ := e
 cases c with
 | true=>exact ⟨f,i,j⟩
 | false=>exact hb l d n g f Q i j
theorem CS(f:PT X a k):PT X (.UnaryOp .Not a pos) (JQ k):=by
 intro b s e H Q I h
 exact isTrue_not (f b s e H (λc d=>Q (!c) d) I h)
def GK(g n:TE):TE:=λb H Q=>g b H λx a=>∃c,x=.bl c/\if c=true then n b a Q else Q (.bl false) a
def IM(g:TE):TE:=λb H Q=>g b H λx a=>∃c,x=.bl c/\Q (.bl (!c)) a
theorem CK{op}{t:TE}(h:PE X a t):PE X (.BoolOp op [a] pos) t:=λb s c H Q I d=>BoolOp_one (h b s c H Q I d)
theorem AF(l:PE X a g)(hb:PE X (.BoolOp .And (b::Gi) pos) n):PE X (.BoolOp .And (a::b::Gi) pos) (GK g n):=by
 intro d s j H Q I h
 refine BoolOp_and (Gk (l d s j H _ I h) λv o f => ?_)
 obtain ⟨x,i,k,m,e⟩ := f
 obtain ⟨c,rfl,e⟩:=e
 cases m
 refine Ic ?_
 cases c with
 | true=>exact hb d o j i Q k e
 | false=>exact ⟨.bl false,i,k,rfl,e⟩
theorem CG(i:PE X a g):PE X (.UnaryOp .Not a pos) (IM g):=by
 intro b s j H Q I h
 refine UnaryOp_ (Gk (i b s j H _ I h) λv m e => ?_)
 obtain ⟨x,f,l,k,d⟩ := e
 obtain ⟨c,rfl,d⟩:=d
 cases k
 exact not_of (Ic ⟨.bl (!c),f,l,rfl,d⟩)
def MG(t:TT)(g n:TE):TE:=λa H Q=>t a H λc b=>if c=true then g a b Q else n a b Q
theorem C9{c:Expr}(q:PT X c k)(p:PE X a g)(hb:PE X b n):PE X (.IfExp c a b pos) (MG k g n):=by
 intro e s f H Q I h
 refine wpAny_IfExp (Gk (q e s f H _ I h) λd o i => ?_)
 obtain ⟨j,l,m⟩ := i
 cases d with
 | true=>exact p e o f j Q l m
 | false=>exact hb e o f j Q l m
end
def Qf(K:PySem.W.Frag)(H:Hp)(a:Addr)(xs:List V):Prop :=
 Rd H a (.lst xs) \/
  ∃(o:Obj) (b:Array Value) (n:Nat),K.lookup a=some o/\o.cls=.type "list" /\ o.dict=none/\o.data=.seq b n/\b.size<=Bc/\Gv xs b.toList
def Tz(K:PySem.W.Frag)(H:Hp)(a:Addr)(xs:List V):Prop :=
 Rd H a (.tup xs) \/
  ∃(o:Obj) (b:Array Value) (n:Nat),K.lookup a=some o/\o.cls=.type "tuple" /\ o.data=.seq b n/\b.size<=Bc/\Gv xs b.toList
def KR:Value->Option V
 | .none=>some .non
 | .bool b=>some (.bl b)
 | .int i _=>some (.int i)
 | .str x _=>some (.str x)
 | .bytes b _=>some (.byt b)
 | .float b _=>some (.flt b)
 | .ref a=>some (.ref a)
 | .type n=>some (.ty n)
 | _=>none
theorem RelV.abs{x:V}{u:Value}(r:RelV x u):KR u=some x:=by
 cases x with
 | non=>cases r; rfl
 | bl _=>cases r; rfl
 | int _=>obtain ⟨t,rfl⟩:=r; rfl
 | str _=>obtain ⟨t,rfl⟩:=r; rfl
 | byt _=>obtain ⟨t,rfl⟩:=r; rfl
 | flt _=>obtain ⟨t,rfl⟩:=r; rfl
 | ref _=>cases r; rfl
 | ty _=>cases r; rfl
theorem RelV.inj{x y:V}{u:Value}(r:RelV x u)(q:RelV y u):x=y:=Bl (r.abs.symm.trans q.abs)
theorem Gv.inj:∀{xs ys:List V} {us:List Value},Gv xs us->Gv ys us->xs=ys
 | _,_,_,.nil,.nil=>rfl
 | _,_,_,.cons r t,.cons r' t'=>by rw[r.inj r',Gv.inj t t']
section
variable{X:Cx}{b:List (Addr×Obj)}{c:St}{H:Hp}{s:Al}{a:Addr}{xs ys:List V}
theorem Qf.of{K:PySem.W.Frag}(h:H a=some (.lst xs)):Qf K H a xs:=.inl (.inl h)
theorem Tz.of{K:PySem.W.Frag}(h:H a=some (.tup xs)):Tz K H a xs:=.inl (.inl h)
theorem Inv.list(I:Inv X b c H s)(h:Qf X.K H a xs):∃d:List Value,Gv xs d/\PlainL s.heap a d.toArray/\xs.length<=Bc:=by
 rcases h with h | ⟨o,d,n,g,j,f,i,k,r⟩
 ·obtain ⟨z,d,n,r,e⟩:=h.ok I.hok
  exact ⟨d,r,⟨_,n,e,rfl,rfl,rfl⟩,z⟩
 ·refine ⟨d.toList,r,⟨o,n,I.kIn a o g,j,f,by simpa using i⟩,?_⟩
  have e:=r.length
  simp only[An] at e
  omega
theorem Inv.tuple(I:Inv X b c H s)(h:Tz X.K H a xs):∃d:List Value,Gv xs d/\IsTup s.heap a d.toArray/\xs.length<=Bc:=by
 rcases h with h | ⟨o,d,n,f,i,g,j,r⟩
 ·obtain ⟨z,d,r,p⟩:=h.ok I.hok
  exact ⟨d,r,p,z⟩
 ·refine ⟨d.toList,r,⟨o,I.kIn a o f,i,n,by simpa using g⟩,?_⟩
  have e:=r.length
  simp only[An] at e
  omega
theorem Inv.list_inj(I:Inv X b c H s)(h:Qf X.K H a xs)(h':Qf X.K H a ys):xs=ys:=by
 obtain ⟨g,r,⟨o,n,e,_,_,d⟩,_⟩:=I.list h
 obtain ⟨f,k,⟨l,m,i,_,_,j⟩,_⟩:=I.list h'
 rw[e] at i; cases i
 rw[d] at j
 injection j with d1 _
 have : g=f:=by simpa using congrArg Array.toList d1
 subst this
 exact r.inj k
theorem Inv.tuple_inj(I:Inv X b c H s)(h:Tz X.K H a xs)(h':Tz X.K H a ys):xs=ys:=by
 obtain ⟨g,r,⟨o,e,_,n,d⟩,_⟩:=I.tuple h
 obtain ⟨f,k,⟨l,i,_,m,j⟩,_⟩:=I.tuple h'
 rw[e] at i; cases i
 rw[d] at j
 injection j with d1 _
 have : g=f:=by simpa using congrArg Array.toList d1
 subst this
 exact r.inj k
end
abbrev Cx.wish(X:Cx)(E:Value->Al->Prop):Cx:={ X with xe:=E }
abbrev Cx.nox(X:Cx):Cx:=X.wish λ_ _=>False
theorem Cx.Ok.wish{X:Cx}(ok:X.Ok)(E:Value->Al->Prop):(X.wish E).Ok :=
 ⟨ok.mod,ok.kind,ok.glob,ok.blt,ok.above,ok.inj,ok.has,ok.cab,ok.hd,ok.frames,ok.stk,ok.exf,ok.bs,ok.bsz,ok.noex,ok.exfs,ok.funs,ok.frf,ok.tab⟩
theorem Cx.Ok.unwish{X:Cx}{E:Value->Al->Prop}(ok:(X.wish E).Ok):X.Ok :=
 ⟨ok.mod,ok.kind,ok.glob,ok.blt,ok.above,ok.inj,ok.has,ok.cab,ok.hd,ok.frames,ok.stk,ok.exf,ok.bs,ok.bsz,ok.noex,ok.exfs,ok.funs,ok.frf,ok.tab⟩
section
variable{X:Cx}{a:List (Addr×Obj)}{b:St}{H:Hp}{s:Al}{E:Value->Al->Prop}
theorem Inv.wish(I:Inv X a b H s)(E:Value->Al->Prop):Inv (X.wish E) a b H s:=⟨I.ok.wish E,I.os,I.bare,I.base,I.loc,I.cell,I.free,I.freeC,I.pin,I.hok,I.len⟩
theorem Inv.unwish(I:Inv (X.wish E) a b H s):Inv X a b H s:=⟨I.ok.unwish,I.os,I.bare,I.base,I.loc,I.cell,I.free,I.freeC,I.pin,I.hok,I.len⟩
theorem SP.unwish{D:Ends}{f:Flow}{s':Al}(h:SP (X.wish E) a D f s'):SP X a D f s':=by
 cases f with
 | next=>obtain ⟨b,c,I,q⟩:=h; exact ⟨b,c,I.unwish,q⟩
 | brk=>obtain ⟨b,c,I,q⟩:=h; exact ⟨b,c,I.unwish,q⟩
 | cont=>obtain ⟨b,c,I,q⟩:=h; exact ⟨b,c,I.unwish,q⟩
 | ret u=>obtain ⟨v,b,c,I,r,q⟩:=h; exact ⟨v,b,c,I.unwish,r,q⟩
theorem qG.nox{st:List Stmt}{t:TS}(h:qG X.nox st t):qG X st t:=λa s b H D I c =>
 Co (h a s b H D (I.wish _) c) (λ_ _ q=>q.unwish) λ_ _ z=>Lj z
end
section
variable{X:Cx}{st:Stmt}{Gi:List Stmt}{t u:TS}{e:Expr}{g:TE}{pos:Pos}
def FW:TS:=λD a H=>D.nx a H
def KY(t u:TS):TS:=λD a H=>t { D with nx:=u D } a H
theorem uQ:qG X [] FW:=λ_ _ a H _ I h=>Wx ⟨a,H,I,h⟩
theorem Ln(h1:PS X st t)(e:qG X Gi u):qG X (st::Gi) (KY t u):=by
 intro a s c H D I h
 refine wpAny_execs_cons (Gk (h1 a s c H { D with nx:=u D } I h) λf g q=>?_)
 cases f with
 | next =>
  obtain ⟨b,d,i,q⟩:=q
  exact e a g b d D i q
 | ret v=>exact q
 | brk=>exact q
 | cont=>exact q
theorem Tr(h1:PS X st t):qG X [st] t:=by
 intro a s b H D I h
 refine wpAny_execs_cons (Gk (h1 a s b H D I h) λf c q=>?_)
 cases f with
 | next=>exact Wx q
 | ret v=>exact q
 | brk=>exact q
 | cont=>exact q
theorem Inv.quiet{a:List (Addr×Obj)}{b:St}{H:Hp}{s:Al}(I:Inv X a b H s):interactive X.env=false:=by simp [interactive,I.ok.kind]
def FJ(g:TE):TS:=λD a H=>g a H λ_ b=>D.nx a b
theorem To(d:PE X e g)(f:Hu e none pos.line X.env=pure false:=by rfl):PS X (.Expr e pos) (FJ g):=by
 intro a s b H D I h
 exact wpAny_Expr_any (Gk (d a s b H _ I h) λv l ⟨x,c,i,k,j⟩=>⟨b,c,i,j⟩) I.quiet f
def JL(g:TE):TS:=λD a H=>g a H D.rt
theorem bG(d:PE X e g):PS X (.Return (some e) pos) (JL g):=by
 intro a s b H D I h
 exact wpAny_Return_some (Gk (d a s b H _ I h) λv k ⟨x,c,f,j,i⟩=>⟨x,b,c,f,j,i⟩)
def KS(c:TT)(t u:TS):TS:=λD a H=>c a H λb d=>if b=true then t D a d else u D a d
theorem W1{c:Expr}{a b:List Stmt}{j:TT}(o:PT X c j)(n:qG X a t)(hb:qG X b u):PS X (.If c a b pos) (KS j t u):=by
 intro e s f H D I h
 refine wpAny_If (Gk (o e s f H _ I h) λd l g => ?_)
 obtain ⟨i,m,k⟩ := g
 cases d with
 | true=>exact n e l f i D m k
 | false=>exact hb e l f i D m k
def CI:TS:=λ_ _ _=>False
theorem zW:PS X st CI:=λ_ _ _ _ _ _ h=>h.elim
end
abbrev TG:=V->St->Hp->(St->Hp->Prop)->Prop
abbrev R8:=List V->St->Hp->(St->Hp->Prop)->Prop
def PG(X:Cx)(a:Expr)(t:TG):Prop :=
 ∀(b:List (Addr×Obj)) (s:Al) (d:St) (H:Hp) (v:V) (u:Value) (Q:St->Hp->Prop),Inv X b d H s->RelV v u->t v d H Q ->
  wpAny (model X.prog X.w) X.A (Kv a X.env u) (λ_ f=>∃c e,Inv X b c e f/\Q c e) X.xe s
def DZ(X:Cx)(g:List Expr)(t:R8):Prop :=
 ∀(a:List (Addr×Obj)) (s:Al) (c:St) (H:Hp) (vs:List V) (e:List Value) (Q:St->Hp->Prop),Inv X a c H s->Gv vs e->t vs c H Q ->
  wpAny (model X.prog X.w) X.A (assignInOrder ((Ku g X.env).map (·.2)) e) (λ_ f=>∃b d,Inv X a b d f/\Q b d) X.xe s
abbrev AI:=V->V->V->Hp->(Hp->Prop)->Prop
def GG(X:Cx)(t:AI):Prop :=
 ∀(a:List (Addr×Obj)) (s:Al) (b:St) (H:Hp) (o i v:V) (d e u:Value) (Q:Hp->Prop),Inv X a b H s->RelV o d->RelV i e->RelV v u->t o i v H Q ->
  wpAny (model X.prog X.w) X.A (setItem d e u) (λ_ f=>∃c,Inv X a b c f/\Q c) X.xe s
abbrev JD:=V->V->Hp->VK->Prop
def IX(X:Cx)(c:Operator)(t:JD):Prop :=
 ∀(a:List (Addr×Obj)) (s:Al) (b:St) (H:Hp) (x y:V) (v u:Value) (Q:VK),Inv X a b H s->RelV x v->RelV y u->t x y H Q ->
  wpAny (model X.prog X.w) X.A (inplaceOp c v u) (EP X a b Q) X.xe s
section
variable{X:Cx}{pos:Pos}
def Rr(i:Nat):TG:=λv a H Q=>Q (a.set i (some v)) H
theorem La{i:Nat}{x:Str}(d:X.N.Nodup)(b:X.N[i]? = some x)(c:Loc X.env.scope x)(f:X.fn x=true\/X.env.scope.names.lookup x=some .local:=by first | exact .inl rfl | exact .inr rfl | assumption):PG X (.Name x pos) (Rr i):=by
 intro a s j H v u Q I r h
 exact wpAny_assign_Name (bI I d b c r (λg e=>⟨_,H,e,h⟩) f)
def DN:R8:=λvs a H Q=>vs=[]/\Q a H
def lZ(t:TG)(u:R8):R8:=λvs b H Q=>∃v r,vs=v::r/\t v b H λa c=>u r a c Q
theorem iN:DZ X [] DN:=by
 intro a s b H vs c Q I r h
 obtain ⟨e,h⟩:=h
 subst e
 cases r
 exact assignInOrder_nil ⟨b,H,I,h⟩
theorem Rz{e:Expr}{es:List Expr}{t:TG}{u:R8}(h1:PG X e t)(i:DZ X es u)(j:(Ku (e::es) X.env).map (·.2)=Kv e X.env::(Ku es X.env).map (·.2):=by rfl):DZ X (e::es) (lZ t u):=by
 intro a s g H vs p Q I r h
 obtain ⟨v,o,f,h⟩:=h
 subst f
 cases r with
 | cons r m =>
  rw[j]
  refine assignInOrder_cons (Gk (h1 a s g H _ _ _ I r h) λ_ l c => ?_)
  obtain ⟨b,d,n,k⟩ := c
  exact i a l b d _ _ Q n m k
def BC(K:PySem.W.Frag)(n:Nat)(t:R8):TG:=λv c H Q=>∃a b,v=.ref a/\Tz K H a b/\b.length=n/\t b c H Q
theorem qA{es:List Expr}{k:Nat}{t:R8}{n:Nat}(y:X.calm=true)(h:DZ X es t)(x:(Ku es X.env).length=n:=by rfl)(f:(Ku es X.env).findIdx? (·.1)=none:=by rfl):PG X (.Tuple es k pos) (BC X.K n t):=by
 intro c s i H v u Q I r d
 obtain ⟨a,m,p,z,l,d⟩:=d
 subst p
 cases r
 obtain ⟨j,g,w,C⟩:=I.tuple z
 refine assign_Tuple_tuple (I.ok.hd y) w (by simp [x,<- l,g.length]) f λA q=>?_
 have B:Inv X c i H { s with heap:=A }:=I.kept (t':=s.toks) λb o e=>q b o (Da (Bn e)) e
 exact h c _ i H m _ Q B (by simpa using g) d
def KQ(f b:TE)(t:AI):TG:=λv a H Q=>f a H λo c=>b a c λi d=>t o i v d λe=>Q a e
theorem x9{o i:Expr}{g f:TE}{t:AI}(D:PE X o g)(j:PE X i f)(G:GG X t)
  (p:∀v,Kv (.Subscript o i pos) X.env v=(do
   let c <- Sy [v] (eval o X.env)
   let d <- Sy [v,c] (eval i X.env)
   Sx pos
   Sy [v,c,d] (setItem c d v)
   release [v,c,d] []):=by intro _; rfl):PG X (.Subscript o i pos) (KQ g f t):=by
 intro b s e H v u Q I r h
 rw[p]
 refine Ag (Eg (Gk (D b s e H _ I h) λc J a => ?_))
 obtain ⟨x,A,C,l,w⟩ := a
 refine Ag (Eg (Gk (j b J e A _ C w) λd m a => ?_))
 obtain ⟨y,F,q,E,k⟩ := a
 refine Ag (He (Ag (Eg (Gk (G b m e F x y v c d u _ q l E r k) λ_ K a => ?_))))
 obtain ⟨B,z,n⟩ := a
 exact wpAny_release ⟨e,B,z,n⟩
def wJ(c:TE)(g:TG):TS:=λD a H=>c a H λx b=>g x a b D.nx
theorem qU{b e:Expr}{d:TE}{g:TG}(i:PE X e d)(o:PG X b g)(j:swapsWithSole [b] e pos.line X.env=pure false:=by rfl)(hw:swappedStores [b] e X.env=pure none:=by rfl)(h1:(Ku [b] X.env).map (·.2)=[Kv b X.env]:=by rfl):PS X (.Assign [b] e pos) (wJ d g):=by
 intro a s c H D I h
 refine wpAny_Assign_stores (Gk (i a s c H _ I h) λv n ⟨x,f,k,m,l⟩=>?_) j hw
 rw[h1]
 exact Gk (o a n c f x v _ k m l) λ_ p q=>q
theorem Sa{i:Nat}{x:Str}{e:Expr}{c:TE}{a:Pos}(o:X.N.Nodup)(g:X.N[i]? = some x)(j:Loc X.env.scope x)(f:PE X e c)(l:Hu e (some (.Name x a)) pos.line X.env=pure false:=by rfl)(r:X.fn x=true\/X.env.scope.names.lookup x=some .local:=by first | exact .inl rfl | exact .inr rfl | assumption):PS X (.Assign [.Name x a] e pos) (wJ c (Rr i)):=by
 intro b s k H D I h
 refine wpAny_Assign_Name (Gk (f b s k H _ I h) λv t ⟨y,d,n,q,p⟩=>?_) l
 exact bI n o g j q (λu m=>⟨_,d,m,p⟩) r
def JY(i:Nat)(e:TE)(b:JD):TS:=λD a H=>∃x,a[i]? = some (some x)/\e a H λy c=>b x y c λz d=>D.nx (a.set i (some z)) d
theorem BB{i:Nat}{x:Str}{e:Expr}{B:TE}{o:Operator}{q:JD}{j:Pos}(G:X.N.Nodup)(t:X.N[i]? = some x)(n:Loc X.env.scope x)(F:PE X e B)(W:IX X o q)(hf:X.fn x=true\/X.env.scope.names.lookup x=some .local:=by first | exact .inl rfl | exact .inr rfl | assumption):PS X (.AugAssign (.Name x j) o e pos) (JY i B q):=by
 intro a s E H D I h
 obtain ⟨v,S,h⟩:=h
 obtain ⟨m,T,R⟩:=I.loc
 have p:GD X.env.scope x:=by rcases n with k | k; exact .inl k; exact .inr (.inl k)
 obtain ⟨u,r,l⟩:=R i x v t S p
 refine wpAny_AugAssign_Name ?_
 have C:wpAny (model X.prog X.w) X.A (eval e X.env) (λw f=>wpAny (model X.prog X.w) X.A (inplaceOp o u w) (λr g=>wpAny (model X.prog X.w) X.A (storeName X.env x r) (λ_=>SP X a D .next) X.xe g) X.xe f) X.xe s:=by
  refine Gk (F a s E H _ I h) λw s1 b => ?_
  obtain ⟨y,Q,V,K,M⟩ := b
  refine Gk (W a s1 E Q v y u w _ V r K M) λz s2 b => ?_
  obtain ⟨zv,Y,L,Z,J⟩ := b
  exact bI L G t n Z (λs3 O=>⟨_,Y,O,J⟩) hf
 rcases l with ⟨hk,P⟩ | ⟨hk,c,U,d⟩
 ·exact wpAny_loadName_local I.ok.kind hk T P C
 ·rcases hk with hk | hk
  ·exact wpAny_loadName_cell I.ok.kind hk U d C
  ·rcases n with k | k
   ·have : X.env.scope.names.lookup x=some .free:=hk
    rw[k] at this; cases this
   ·have : X.env.scope.names.lookup x=some .free:=hk
    rw[k] at this; cases this
def KF(f:Int->Int->Int):JD:=λx y H Q=>∃i j,x=.int i/\y=.int j/\Q (.int (f i j)) H
theorem BG:IX X .Add (KF λi j=>i+j):=by
 intro a s f H x y v u Q I e d h
 obtain ⟨i,j,b,c,q⟩:=h
 subst b; subst c
 obtain ⟨t,rfl⟩:=e
 obtain ⟨g,rfl⟩:=d
 exact iadd_int ⟨.int _,H,I.tok _,⟨_,rfl⟩,q⟩
theorem BP:IX X .Sub (KF λi j=>i - j):=by
 intro a s f H x y v u Q I e d h
 obtain ⟨i,j,b,c,q⟩:=h
 subst b; subst c
 obtain ⟨t,rfl⟩:=e
 obtain ⟨g,rfl⟩:=d
 exact isub_int ⟨.int _,H,I.tok _,⟨_,rfl⟩,q⟩
end
section
variable{X:Cx}{pos:Pos}
def CF(c:TT)(h:TS):TS:=λD a H=>∃W:Nat->St->Hp->Prop,(∃m,W m a H)/\∀m a H,W m a H ->
 c a H λb e=>if b=true then ∃N:St->Hp->Prop,(∀d f,N d f->∃g,g<m/\W g d f)/\h { D with nx:=N,ct:=N,bk:=D.nx } a e else D.nx a e
theorem i8{c:Expr}{g:List Stmt}{x:TT}{E:TS}(z:PassesOwn (model X.prog X.w) X.A X.env X.xe)(Q:PT X c x)(hb:qG X g E):PS X (.While c g [] pos) (CF x E):=by
 intro d s S H D I h
 obtain ⟨W,⟨P,M⟩,j⟩:=h
 refine wpAny_While (codeAny_whileLoop (λn K=>∃i B,Inv X d i B K/\W n i B) ?_ P ⟨S,H,I,M⟩)
 (intro n T L; obtain ⟨e,F,R,O⟩ := L)
 refine Lg z (Gk (Q d T e F _ R (j n e F O)) λb J o => ?_)
 obtain ⟨G,C,l⟩ := o
 cases b with
 | true =>
  obtain ⟨N,y,l⟩:=l
  rw[if_pos rfl]
  refine Lg z (Gk (hb d J e G _ C l) λf U m=>?_)
  cases f with
  | next =>
   obtain ⟨a,k,r,u⟩:=m
   obtain ⟨p,t,q⟩:=y a k u
   exact ⟨p,t,a,k,r,q⟩
  | cont =>
   obtain ⟨a,k,r,u⟩:=m
   obtain ⟨p,t,q⟩:=y a k u
   exact ⟨p,t,a,k,r,q⟩
  | brk=>exact m
  | ret v=>exact m
 | false =>
  rw[if_neg Cg]
  exact Wx ⟨e,G,C,l⟩
end
structure It where
 go:Nat->Hp->Prop
 yld:Nat->Hp->V->Hp->Prop
 stop:Nat->Hp->Prop
def My(X:Cx)(a:List (Addr×Obj))(H:Hp)(b:Addr):Prop :=
 H b=none/\b≠X.env.locals/\b∉X.fs/\(b∈X.ex\/X.s₀.heap.objs.size<=b)/\(∀x c,X.env.cells.lookup x=some c->c≠b)/\∀p∈X.pn++a,p.1≠b
theorem Inv.fpOk{X:Cx}{a:List (Addr×Obj)}{g:St}{H d:Hp}{s:Al}{b:Addr}(I:Inv X a g H s)(hb:s.heap.objs.size<=b)(h:d b=none):My X a d b:=by
 refine ⟨h,Nat.ne_of_gt (By I.lt hb),I.nofs hb,.inr (Bz I.sz hb),λx c e z=>?_,λp f z=>?_⟩
 ·obtain ⟨v,q⟩:=I.cell x c e
  exact absurd (By q.lt (by rw[z]; exact hb)) (Jl _)
 ·exact absurd (By (Bn (I.pin p f).1) (by rw[z]; exact hb)) (Jl _)
structure Turn(P:Bq)(w:World)(K:PySem.W.Frag)(tg:Expr)(J:It)(fp:List Addr)(it:Addr)(tn:Nat->Heap->Prop):Prop where
 mem:it∈fp
 obj:∀i h,tn i h->∀b∈fp,∃o,h.get? b=some o/\∀v,o.data≠.cell v
 keep:∀i h h',tn i h->(∀b∈fp,∀o,h.get? b=some o->h'.get? b=some o)->tn i h'
 item:∀(X:Cx),X.prog=P->X.w=w->X.K=K->X.calm=true->∀(i:Nat) (pins:List (Addr×Obj)) (s:Al) (σ:St) (H:Hp) (E:Value->Al->Prop),Inv X pins σ H s->(∀b∈fp,My X pins H b)->tn i s.heap->J.go i H ->
  wpAny (model P w) X.A (Yx (.ref it)) (λr s1=>∃u,r=some u /\
   wpAny (model P w) X.A (Ie tg (.ref it) u) (λ_ s2=>∃x H',Inv X pins σ H' s2/\RelV x u/\J.yld i H x H'/\tn (i+1) s2.heap/\∀b∈fp,H' b=none) E s1) E s
 done:∀(X:Cx),X.prog=P->X.w=w->X.K=K->X.calm=true->∀(i:Nat) (pins:List (Addr×Obj)) (s:Al) (σ:St) (H:Hp) (E:Value->Al->Prop),Inv X pins σ H s->(∀b∈fp,My X pins H b)->tn i s.heap->J.stop i H ->
  wpAny (model P w) X.A (Yx (.ref it)) (λr s1=>r=none/\Inv X pins σ H s1) E s
 self:∀(A:Df) (i:Nat) (s:Al) (Q:Value->Al->Prop) (E:Value->Al->Prop),tn i s.heap->Q (.ref it) s->wpAny (model P w) A (pyIter (.ref it)) Q E s
abbrev TI:=St->Hp->(It->Hp->Prop)->Prop
def MC(X:Cx)(a:List (Addr×Obj))(h:St)(i:Expr)(R:It->Hp->Prop)(c:Value)(g:Al):Prop :=
 ∃(it:Addr) (f:List Addr) (e:Nat->Heap->Prop) (J:It) (d:Hp),c=.ref it/\Inv X a h d g/\Turn X.prog X.w X.K i J f it e/\e 0 g.heap/\(∀b∈f,My X a d b)/\R J d
def PI(X:Cx)(e b:Expr)(d:TI):Prop :=
 ∀(a:List (Addr×Obj)) (s:Al) (c:St) (H:Hp) (R:It->Hp->Prop),Inv X a c H s->d c H R ->
  wpAny (model X.prog X.w) X.A (eval b X.env) (λv f=>wpAny (model X.prog X.w) X.A (pyIter v) (MC X a c e R) X.xe f) X.xe s
theorem w5{M:Model}{A:Df}{E:Value->Al->Prop}{s:Al}{b:Expr}{it:Addr}{u:Value}{o:Obj}{n:String}{vs:Array Value}{Q:Unit->Al->Prop}(c:s.heap.get? it=some o)(e:o.cls=.type n)(hd:o.data=.fields vs)(d:["enumerate", "zip", "dict_itemiterator", "dict_reverseitemiterator", "odict_iterator", "itertools.zip_longest", "itertools.pairwise"].contains n=false)(a:Q () s):wpAny M A (Ie b (.ref it) u) Q E s:=by
  unfold Ie
  cases b <;> first
    | exact Aw a
    | (cases u <;> first
        | exact Aw a
        | (refine Ag (wpAny_load c ?_)
           rw[e,hd]
           show wpAny M A (if (["enumerate", "zip", "dict_itemiterator", "dict_reverseitemiterator", "odict_iterator", "itertools.zip_longest", "itertools.pairwise"].contains n && vs[0]? == some (rawInt _))=true then _ else _) Q E s
           rw[if_neg (by intro h; rw[d,Bool.false_and] at h; cases h)]
           exact Aw a))
def IZ(K:PySem.W.Frag)(a:Addr):It :=
 ⟨λi H=>∃b x,Qf K H a b/\b[i]? = some x,λi H x c=>c=H/\∀b,Qf K H a b->b[i]? = some x,λi H=>∃b,Qf K H a b/\b.length<=i⟩
def KW(K:PySem.W.Frag)(a:Addr):It :=
 ⟨λi H=>∃b x,Tz K H a b/\b[i]? = some x,λi H x c=>c=H/\∀b,Tz K H a b->b[i]? = some x,λi H=>∃b,Tz K H a b/\b.length<=i⟩
def Z0(lo:Int)(n:Nat):It:=⟨λi _=>i<n,λi H x a=>a=H/\x=.int (lo+i),λi _=>n<=i⟩
theorem xI{P:Bq}{w:World}{K:PySem.W.Frag}{V:Expr}(a it:Addr):Turn P w K V (IZ K a) [it] it (λi h=>h.IsListIter it a i) where
 mem:=by simp
 obj:=λi h st b g=>by
  have e:b=it:=by simpa using g
  subst e
  obtain ⟨o,e,c,d⟩:=st
  exact ⟨o,e,λv z=>by rw[d] at z; cases z⟩
 keep:=λi h l st k=>st.at λo e=>k it (by simp) o e
 item:=by
  intro X y D J M i f s N H E I m st G
  subst y D J
  obtain ⟨T,x,n,A⟩:=G
  obtain ⟨q,t,p,Z⟩:=I.list n
  obtain ⟨u,Q,U⟩:=t.get A
  obtain ⟨r,F,O,B,C,L⟩:=m it (by simp)
  refine K8 st p.isList (x:=u) (by simpa using Q) λl j sb=>?_
  have Y:Inv X f N H { s with heap:=l }:=I.turned (t':=s.toks) (λb o g e=>(sb.2 b g).trans e) r F B C L
  obtain ⟨o,e,c,d⟩:=id j
  exact ⟨u,rfl,w5 (s:={ s with heap:=l }) e c d (by decide) ⟨x,H,Y,U,⟨rfl,λys R=>by rw[I.list_inj R n]; exact A⟩,j,λb g=>(m b g).1⟩⟩
 done:=by
  intro X y D J M i f s N H E I m st G
  subst y D J
  obtain ⟨T,n,A⟩:=G
  obtain ⟨q,t,p,Z⟩:=I.list n
  obtain ⟨r,F,O,B,C,L⟩:=m it (by simp)
  have hl:=t.length
  exact wpAny_pyNext_list_end (I.ok.hd M) st p.isList (by simp; omega) λl S=>⟨rfl,I.turned (t':=s.toks) (λb o g e=>S b o g e) r F B C L⟩
 self:=λ_ _ _ _ _ st h=>wpAny_pyIter_listiter st h
theorem pM{P:Bq}{w:World}{K:PySem.W.Frag}{V:Expr}(a it:Addr):Turn P w K V (KW K a) [it] it (λi h=>h.IsTupleIter it a i) where
 mem:=by simp
 obj:=λi h st b j=>by
  have e:b=it:=by simpa using j
  subst e
  obtain ⟨o,e,c,d⟩:=st
  exact ⟨o,e,λv z=>by rw[d] at z; cases z⟩
 keep:=λi h m st k=>st.at λo e=>k it (by simp) o e
 item:=by
  intro X y D J M i f s N H E I n st G
  subst y D J
  obtain ⟨T,x,q,A⟩:=G
  obtain ⟨g,t,p,Z⟩:=I.tuple q
  obtain ⟨u,Q,U⟩:=t.get A
  obtain ⟨r,F,O,B,C,L⟩:=n it (by simp)
  refine wpAny_pyNext_tuple_item st (show s.heap.IsTuple a g.toArray from p) (x:=u) (by simpa using Q) λm l sb=>?_
  have Y:Inv X f N H { s with heap:=m }:=I.turned (t':=s.toks) (λb o j e=>(sb.2 b j).trans e) r F B C L
  obtain ⟨o,e,c,d⟩:=id l
  exact ⟨u,rfl,w5 (s:={ s with heap:=m }) e c d (by decide) ⟨x,H,Y,U,⟨rfl,λys R=>by rw[I.tuple_inj R q]; exact A⟩,l,λb j=>(n b j).1⟩⟩
 done:=by
  intro X y D J M i f s N H E I n st G
  subst y D J
  obtain ⟨T,q,A⟩:=G
  obtain ⟨g,t,p,Z⟩:=I.tuple q
  obtain ⟨r,F,O,B,C,L⟩:=n it (by simp)
  have hl:=t.length
  exact wpAny_pyNext_tuple_end (I.ok.hd M) st (show s.heap.IsTuple a g.toArray from p) (by simp; omega) λm S=>⟨rfl,I.turned (t':=s.toks) (λb o j e=>S b o j e) r F B C L⟩
 self:=λ_ _ _ _ _ st h=>wpAny_pyIter_tupleiter st h
theorem pQ{P:Bq}{w:World}{K:PySem.W.Frag}{M:Expr}(it:Addr)(lo:Int)(n:Nat):Turn P w K M (Z0 lo n) [it] it (λi h=>IsRangeIter h it (lo+(i:Nat) * 1) ((n:Int) - (i:Nat)) 1) where
 mem:=by simp
 obj:=λi h st b c=>by
  have e:b=it:=by simpa using c
  subst e
  exact ⟨_,st,λv z=>by
   have L:Data.fields _=Data.cell v:=z
   cases L⟩
 keep:=λi h f st k=>k it (by simp) _ st
 item:=by
  intro X l q y u i a s B H E I g st x
  subst l q y
  obtain ⟨j,r,F,m,p,A⟩:=g it (by simp)
  have W:=Walks.range (prog:=X.prog) (w:=X.w) (I.ok.hd u) it lo 1 n
  refine W.item i s _ _ x st λv f C D d J=>?_
  obtain ⟨t,rfl⟩:=D
  have N:Inv X a B H { s with heap:=f,toks:=C }:=I.turned (λb o c e=>J b o (by simpa using c) e) j r m p A
  refine ⟨_,rfl,w5 (s:={ s with heap:=f,toks:=C }) (n := "range_iterator") d rfl rfl (by decide) ⟨.int (lo+i),H,N,⟨t,?_⟩,⟨rfl,rfl⟩,d,λb c=>(g b c).1⟩⟩
  rw[Int.mul_one]
 done:=by
  intro X l q y u i a s B H E I g st x
  subst l q y
  obtain ⟨j,r,F,m,p,A⟩:=g it (by simp)
  exact wpAny_pyNext_range_end (I.ok.hd u) st (by have : n<=i:=x; omega) λf G=>⟨rfl,I.turned (t':=s.toks) (λb o c e=>G b o c e) j r m p A⟩
 self:=λ_ _ _ _ _ st h=>wpAny_pyIter_rangeiter st h
section
variable{X:Cx}{c:Expr}
def tP(K:PySem.W.Frag)(e:TE):TI:=λc H R=>e c H λx b=>∃a,x=.ref a/\(∃d,Qf K b a d)/\R (IZ K a) b
def KP(K:PySem.W.Frag)(e:TE):TI:=λc H R=>e c H λx b=>∃a,x=.ref a/\(∃d,Tz K b a d)/\R (KW K a) b
theorem aC{l:Expr}{j:TE}(hl:PE X l j):PI X c l (tP X.K j):=by
 intro d s n H R I h
 refine Gk (hl d s n H _ I h) λv g i => ?_
 obtain ⟨x,m,f,u,t⟩ := i
 obtain ⟨a,e,⟨z,w⟩,q⟩:=t
 subst e
 cases u
 obtain ⟨k,y,p,A⟩:=f.list w
 refine hZ p.isList ?_
 refine ⟨g.heap.objs.size,[g.heap.objs.size],_,_,m,rfl,f.kept (t':=g.toks) λb o e=>Av _ e,xI a _,⟨_,Bs _ rfl,rfl,rfl⟩,λb r=>?_,q⟩
 have e:b=g.heap.objs.size:=by simpa using r
 subst e
 exact f.fpOk (Aj _) (f.hok.fresh (Aj _))
theorem EN{l:Expr}{k:TE}(hl:PE X l k):PI X c l (KP X.K k):=by
 intro f s n H R I h
 refine Gk (hl f s n H _ I h) λv d j => ?_
 obtain ⟨x,m,g,u,t⟩ := j
 obtain ⟨a,e,⟨z,w⟩,q⟩:=t
 subst e
 cases u
 obtain ⟨i,y,p,A⟩:=g.tuple w
 refine wpAny_pyIter_tuple (show d.heap.IsTuple a i.toArray from p) ?_
 refine ⟨d.heap.objs.size,[d.heap.objs.size],_,_,m,rfl,g.kept (t':=d.toks) λb o e=>Av _ e,pM a _,⟨_,Bs _ rfl,rfl,rfl⟩,λb r=>?_,q⟩
 have e:b=d.heap.objs.size:=by simpa using r
 subst e
 exact g.fpOk (Aj _) (g.hok.fresh (Aj _))
theorem K5{d:List (Addr×Obj)}{f:St}{H:Hp}{s:Al}{R:It->Hp->Prop}{E:Value->Al->Prop}{lo a:Int}{t u v:Tok}{g:Nat}(I:Inv X d f H s)(h1:-(2 ^ 62)<=lo)(k:lo<2 ^ 62)(m:-(2 ^ 62)<=a)(l:a<2 ^ 62)(q:R (Z0 lo (a - lo).toNat) H):wpAny (model X.prog X.w) X.A (pyIter (.ref s.heap.objs.size)) (MC X d f c R) E { s with heap:=s.heap.push { cls:=.type "range",data:=.fields #[.int lo t,.int a u,.int 1 v] },toks:=g }:=by
 refine wpAny_pyIter_range (IsRange.new ..) (small_one h1 k m l) ?_
 have h:Inv X d f H { s with heap:=s.heap.push { cls:=.type "range",data:=.fields #[.int lo t,.int a u,.int 1 v] },toks:=g }:=I.kept λb o e=>Av _ e
 refine ⟨(s.heap.push { cls:=.type "range",data:=.fields #[.int lo t,.int a u,.int 1 v] }).objs.size,[(s.heap.push { cls:=.type "range",data:=.fields #[.int lo t,.int a u,.int 1 v] }).objs.size],_,_,H,rfl,
  h.kept (t':=g) λb o e=>Av _ e,pQ _ lo (a - lo).toNat,?_,λb n=>?_,q⟩
 ·have i:lo+((0:Nat):Int) * 1=lo:=by simp
  have j:(((a - lo).toNat:Nat):Int) - ((0:Nat):Int)=Builtin.Range.rangeSize lo a 1:=by rw[rangeSize_one]; split <;> omega
  show IsRangeIter _ _ (lo+((0:Nat):Int) * 1) ((((a - lo).toNat:Nat):Int) - ((0:Nat):Int)) 1
  rw[i,j]
  exact Bs _ rfl
 ·have e:b=(s.heap.push { cls:=.type "range",data:=.fields #[.int lo t,.int a u,.int 1 v] }).objs.size:=by simpa using n
  subst e
  exact h.fpOk (Aj _) (h.hok.fresh (Aj _))
def HU(c:TA):TI:=λb H R=>c b H λvs a=>∃j:Int,vs=[.int j] /\ -(2 ^ 62)<=j/\j<2 ^ 62/\R (Z0 0 j.toNat) a
theorem gG{a:Expr}{f:TA}{p pos:Pos}(u:Gl X "range")(v:X.mg "range" = none)(g:PA X [a] f)(l:Be [a] X.env=[(false,eval a X.env)]:=by rfl):PI X c (.Call (.Name "range" p) [a] [] pos) (HU f):=by
 intro b s k H R I h
 refine Call_ (Qc I u v boot_range (Jw (Gk (g pos b s k H _ I h) λx y ⟨vs,w,m,o,d⟩=>?_) l rfl))
 obtain ⟨j,e,d,n,q⟩:=d
 subst e
 cases o with
 | cons r i =>
  cases i
  obtain ⟨t,rfl⟩:=r
  exact call_range_1 (K5 m (by omega) (by omega) d n (by simpa using q))
def LD(f:TI)(g:TG)(j:TS):TS:=λD a H=>f a H λJ h=>∃W:Nat->Nat->St->Hp->Prop,(∃m,W 0 m a h)/\∀i m a H,W i m a H ->
 (J.stop i H/\D.nx a H)\/(J.go i H/\∃N:St->Hp->Prop,(∀b c,N b c->∃e,e<m/\W (i+1) e b c)/\∀x c,J.yld i H x c->g x a c λd k=>j { D with nx:=N,ct:=N,bk:=D.nx } d k)
def On(fp:List Addr)(h:Heap):List (Addr×Obj):=fp.filterMap λb=>(h.get? b).map λo=>(b,o)
theorem Gr{fp:List Addr}{h:Heap}{b:Addr}{o:Obj}(hb:b∈fp)(e:h.get? b=some o):(b,o)∈On fp h:=Kc.mpr ⟨b,hb,by rw[e]; rfl⟩
theorem xJ{fp:List Addr}{h:Heap}{p:Addr×Obj}(c:p∈On fp h):p.1∈fp/\h.get? p.1=some p.2:=by
 obtain ⟨b,d,e⟩:=Kc.mp c
 cases q:h.get? b with
 | none=>rw[q] at e; cases e
 | some o =>
  rw[q] at e
  have a:(b,o)=p:=Bl e
  subst a
  exact ⟨d,q⟩
theorem Inv.pinned{a:List (Addr×Obj)}{c:St}{H:Hp}{s:Al}{fp:List Addr}(I:Inv X a c H s)(m:∀b∈fp,My X a H b)(h:∀b∈fp,∃o,s.heap.get? b=some o/\∀v,o.data≠.cell v):Inv X (a++On fp s.heap) c H s :=
 I.pins_of λp j=>(Am.mp j).elim (λz=>I.pin p (Af _ z)) λz=>by
  obtain ⟨g,e⟩:=xJ z
  obtain ⟨i,l,k,_⟩:=m p.1 g
  obtain ⟨o,f,d⟩:=h p.1 g
  rw[e] at f; cases f
  exact ⟨e,i,l,k,d⟩
theorem Inv.unpinned{a c:List (Addr×Obj)}{b:St}{H:Hp}{s:Al}(I:Inv X (a++c) b H s):Inv X a b H s:=I.pins_of λp d=>I.pin p (Af _ (Ah _ d))
theorem zL{z:Expr}{E:List Stmt}{wi:TI}{g:TG}{tb:TS}{pos:Pos}(M:PassesOwn (model X.prog X.w) X.A X.env X.xe)(hc:X.calm=true)(hi:PI X c z wi)(hg:PG X c g)(hb:qG X E tb)(hs:∀x,Cw z X.env x=pure x:=by intro _; rfl):PS X (.For c z E [] pos) (LD wi g tb):=by
 intro j s σ H D I h
 refine wpAny_For (Gk (hi j s σ H _ I h) λv s1 h1=>Gk h1 λh0 s2 h2=>?_) hs
 obtain ⟨it,L,tn,J,H2,e,I2,T,R,f2,W,⟨m0,w0⟩,O⟩:=h2
 subst e
 -- what stays true of the iterator's objects through the loop
 have p:∀{B:Hp},(∀b∈L,B b=none)->∀b∈L,My X j B b:=λhn b hb=>⟨hn b hb,(f2 b hb).2⟩
 refine codeAny_forLoop_any (λn s'=>∃i l B,Inv X j l B s'/\tn i s'.heap/\(∀b∈L,B b=none)/\W i n l B) ?_ m0 ⟨0,σ,H2,I2,R,λb hb=>(f2 b hb).1,w0⟩
 (intro n s3 q_; obtain ⟨i,y,Q,I3,Re,P,w3⟩ := q_)
 rcases O i n y Q w3 with ⟨G,qn⟩ | ⟨go,N,hN,step⟩
 ·refine Lg M (Gk (T.done X rfl rfl rfl hc i j s3 y Q X.xe I3 (p P) Re G) λr s4 k => ?_)
  obtain ⟨V,I4⟩ := k
  subst V
  exact Wx ⟨y,Q,I4,qn⟩
 ·refine Lg M (Gk (T.item X rfl rfl rfl hc i j s3 y Q X.xe I3 (p P) Re go) λr s4 k => ?_)
  obtain ⟨u,V,h4⟩ := k
  subst V
  refine Lg M (Gk h4 λ_ s5 k => ?_)
  obtain ⟨x,H5,I5,r5,y5,F,U⟩ := k
  have Y:=I5.pinned (p U) (T.obj _ _ F)
  refine Lg M (Gk (hg _ s5 y H5 x u _ Y r5 (step x H5 y5)) λ_ s6 k => ?_)
  obtain ⟨S,H6,I6,q6⟩ := k
  refine Lg M (Gk (hb _ s6 S H6 _ I6 q6) λf Z C=>?_)
  have again:∀{a:St} {q:Hp},Inv X (j++On L s5.heap) a q Z->N a q->∃m,m<n/\∃i l B,Inv X j l B Z/\tn i Z.heap/\(∀b∈L,B b=none)/\W i m l B:=λ{a q} t K=>by
   obtain ⟨m',hm,w7⟩:=hN a q K
   refine ⟨m',hm,i+1,a,q,t.unpinned,T.keep _ _ _ F λb hb o e=>(t.pin (b,o) (Af _ (Af _ (Gr hb e)))).1,λb hb=>?_,w7⟩
   obtain ⟨o,e,d⟩:=T.obj _ _ F b hb
   exact (t.pin (b,o) (Af _ (Af _ (Gr hb e)))).2.1
  cases f with
  | next=>obtain ⟨a,q,t,K⟩:=C; exact again t K
  | cont=>obtain ⟨a,q,t,K⟩:=C; exact again t K
  | brk=>obtain ⟨a,q,t,C⟩:=C; exact ⟨a,q,t.unpinned,C⟩
  | ret v=>obtain ⟨x7,a,q,t,r7,C⟩:=C; exact ⟨x7,a,q,t.unpinned,r7,C⟩
end
theorem wQ{lo:Int}{n:Nat}{g:TG}{k:TS}{D:Ends}{a:St}{H:Hp}(h:Nat->St->Hp->Prop)(h0:h 0 a H)(r:∀i a H,i<n->h i a H->g (.int (lo+i)) a H λf j=>k { D with nx:=h (i+1),ct:=h (i+1),bk:=D.nx } f j)(hd:∀a H,h n a H->D.nx a H):∃W:Nat->Nat->St->Hp->Prop,(∃m,W 0 m a H)/\∀i m a H,W i m a H->((Z0 lo n).stop i H/\D.nx a H)\/((Z0 lo n).go i H/\∃N:St->Hp->Prop,(∀c d,N c d->∃l,l<m/\W (i+1) l c d)/\∀x d,(Z0 lo n).yld i H x d->g x a d λf j=>k { D with nx:=N,ct:=N,bk:=D.nx } f j):=by
 refine ⟨λi m a H=>m=n - i/\i<=n/\h i a H,⟨n,by simp,Dh _,h0⟩,?_⟩
 (intro i m a H q; obtain ⟨rfl,s,p⟩ := q)
 by_cases b:i<n
 ·refine .inr ⟨b,h (i+1),λc d o=>⟨n - (i+1),by omega,rfl,b,o⟩,λx d y=>?_⟩
  obtain ⟨e,y⟩:=y
  subst e y
  exact r i a _ b p
 ·have e:i=n:=by omega
  subst e
  exact .inl ⟨Aj _,hd a H p⟩
abbrev R2:=V->V->Hp->VK->Prop
def Vn(X:Cx)(f:Value->Value->Sem Value)(r:R2):Prop :=
 ∀(a:List (Addr×Obj)) (s:Al) (b:St) (H:Hp) (x y:V) (v u:Value) (Q:VK),Inv X a b H s->RelV x v->RelV y u->r x y H Q ->
  wpAny (model X.prog X.w) X.A (f v u) (EP X a b Q) X.xe s
def JS(X:Cx)(f:Value->Sem Value)(r:V->Hp->VK->Prop):Prop :=
 ∀(a:List (Addr×Obj)) (s:Al) (b:St) (H:Hp) (x:V) (v:Value) (Q:VK),Inv X a b H s->RelV x v->r x H Q ->
  wpAny (model X.prog X.w) X.A (f v) (EP X a b Q) X.xe s
def Om(X:Cx)(f:Value)(r:List V->Hp->VK->Prop):Prop :=
 ∀(a:List (Addr×Obj)) (s:Al) (b:St) (H:Hp) (d:List V) (c:List Value) (Q:VK),Inv X a b H s->Gv d c->r d H Q ->
  wpAny (model X.prog X.w) X.A (call f c) (EP X a b Q) X.xe s
def KA(X:Cx)(r:V->Hp->(Bool->Hp->Prop)->Prop):Prop :=
 ∀(a:List (Addr×Obj)) (s:Al) (b:St) (H:Hp) (x:V) (v:Value) (Q:Bool->Hp->Prop),Inv X a b H s->RelV x v->r x H Q ->
  wpAny (model X.prog X.w) X.A (truthy v) (TP X a b Q) X.xe s
def FK(r:R2)(d b:TE):TE:=λa H Q=>d a H λx c=>b a c λy e=>r x y e Q
def MO(r:V->Hp->VK->Prop)(c:TE):TE:=λb H Q=>c b H λx a=>r x a Q
def rI(C:Int->Int->Prop)(g:Int->Int->V):R2:=λx y H Q=>∃i j,x=.int i/\y=.int j/\C i j/\Q (g i j) H
def P3(g:Int->Int->V):R2:=λx y H Q=>∃i j,x=.int i/\y=.int j/\Q (g i j) H
def rU(g:Int->V):V->Hp->VK->Prop:=λx H Q=>∃i,x=.int i/\Q (g i) H
section
variable{X:Cx}{a b c:Expr}{d e k:TE}{pos:Pos}
theorem AH(p:PE X a d)(hb:PE X b e){c:List (Addr×Obj)}{s:Al}{i:St}{H:Hp}{R:V->V->Hp->Prop}(I:Inv X c i H s)(h:d i H λx n=>e i n λy j=>R x y j){Q:Value->Al->Prop}{f:Value->Value->Sem Value}(o:∀v u m x y j,Inv X c i j m->RelV x v->RelV y u->R x y j->wpAny (model X.prog X.w) X.A (f v u) Q X.xe m):wpAny (model X.prog X.w) X.A (eval a X.env) (λv k=>wpAny (model X.prog X.w) X.A (eval b X.env) (λu l=>wpAny (model X.prog X.w) X.A (f v u) Q X.xe l) X.xe k) X.xe s:=by
 refine Gk (p c s i H _ I h) λv D g => ?_
 obtain ⟨x,n,r,C,B⟩ := g
 refine Gk (hb c D i n _ r B) λu m g => ?_
 obtain ⟨y,j,t,q,z⟩ := g
 exact o v u m x y j t C q z
theorem Lf{f:Operator}{r:R2}(g:Vn X (Lh f) r)(k:PE X a d)(hb:PE X b e):PE X (.BinOp a f b pos) (FK r d e):=by
 intro c s l H Q I h
 exact wpAny_BinOp (AH k hb I h λv u o x y m n j i q=>g c o l m x y v u Q n j i q)
theorem FU{c:UnaryOp}{r:V->Hp->VK->Prop}(f:JS X (unaryOp c) r)(i:PE X a d):PE X (.UnaryOp c a pos) (MO r d):=by
 intro b s e H Q I h
 exact UnaryOp_ (Gk (i b s e H _ I h) λv m ⟨x,g,j,l,k⟩=>f b m e g x v Q j l k)
theorem GB{f:Value->Value->Sem Value}{C:Int->Int->Prop}{g:Int->Int->Int}(rule:∀(i j:Int) (t u:Tok) (s:Al) (Q:Value->Al->Prop) (E:Value->Al->Prop),C i j->Q (.int (g i j) s.toks) { s with toks:=s.toks+1 }->wpAny (model X.prog X.w) X.A (f (.int i t) (.int j u)) Q E s):Vn X f (rI C λi j=>.int (g i j)):=by
 intro a s k H x y v u Q I c b h
 obtain ⟨i,j,rfl,rfl,d,q⟩:=h
 obtain ⟨t,rfl⟩:=c
 obtain ⟨e,rfl⟩:=b
 exact rule i j t e s _ _ d ⟨.int (g i j),H,I.tok _,⟨_,rfl⟩,q⟩
theorem GO{f:Value->Value->Sem Value}{g:Int->Int->Int}(rule:∀(i j:Int) (t u:Tok) (s:Al) (Q:Value->Al->Prop) (E:Value->Al->Prop),Q (.int (g i j) s.toks) { s with toks:=s.toks+1 }->wpAny (model X.prog X.w) X.A (f (.int i t) (.int j u)) Q E s):Vn X f (P3 λi j=>.int (g i j)):=by
 intro a s e H x y v u Q I c b h
 obtain ⟨i,j,rfl,rfl,q⟩:=h
 obtain ⟨t,rfl⟩:=c
 obtain ⟨d,rfl⟩:=b
 exact rule i j t d s _ _ ⟨.int (g i j),H,I.tok _,⟨_,rfl⟩,q⟩
theorem V1{f:Value->Value->Sem Value}{g:Int->Int->Bool}(rule:∀(i j:Int) (t u:Tok) (s:Al) (Q:Value->Al->Prop) (E:Value->Al->Prop),Q (.bool (g i j)) s->wpAny (model X.prog X.w) X.A (f (.int i t) (.int j u)) Q E s):Vn X f (P3 λi j=>.bl (g i j)):=by
 intro a s e H x y v u Q I c b h
 obtain ⟨i,j,rfl,rfl,q⟩:=h
 obtain ⟨t,rfl⟩:=c
 obtain ⟨d,rfl⟩:=b
 exact rule i j t d s _ _ ⟨.bl (g i j),H,I,rfl,q⟩
def AZ(i j:Int):Prop:=0<j/\j<1073741824
def Q6(i j:Int):Prop:=0<=j/\j<=1000000/\i.natAbs<2 ^ 64
def DJ(i j:Int):Prop:=(-(2 ^ 64)<i/\i<2 ^ 64)\/(-(2 ^ 64)<j/\j<2 ^ 64)
theorem DJ.ok{i j:Int}(h:DJ i j):IntMulOk i j:=by
 rcases h with ⟨a,b⟩ | ⟨a,b⟩
 ·exact .of_left (intBits_le_64 a b)
 ·exact .of_right (intBits_le_64 a b)
theorem bO:Vn X (Lh .Add) (P3 λi j=>.int (i+j)):=GO λ_ _ _ _ _ _ _ q=>add_int q
theorem CD:Vn X (Lh .Sub) (P3 λi j=>.int (i - j)):=GO λ_ _ _ _ _ _ _ q=>sub_int q
theorem Ye:Vn X (Lh .Mult) (rI DJ λi j=>.int (i * j)):=GB λ_ _ _ _ _ _ _ a q=>mul_int q a.ok
theorem iY:Vn X (Lh .FloorDiv) (rI AZ λi j=>.int (i / j)):=GB λi j _ _ _ _ _ a q=>by
 have b:(0:Int)<j:=a.1
 have c:j<1073741824:=a.2
 exact floordiv_int (by omega) (by rw[Int.fdiv_eq_ediv_of_nonneg i (by omega)]; exact q) (.inl (PyProof.noPylong_small (by omega)))
theorem Yj:Vn X (Lh .Mod) (rI (λ_ j=>0<j) λi j=>.int (i % j)):=GB λi j _ _ _ _ _ a q=>by
 have b:(0:Int)<j:=a
 exact mod_int' (by omega) (by rw[Int.fmod_eq_emod_of_nonneg i (by omega)]; exact q)
theorem sA:Vn X (Lh .Pow) (rI Q6 λi j=>.int (i ^ j.toNat)):=GB λ_ _ _ _ _ _ _ a q=>pow_int_small a.1 a.2.1 a.2.2 q
theorem CC:Vn X (Lh .LShift) (rI Q6 λi j=>.int (i * 2 ^ j.toNat)):=GB λ_ _ _ _ _ _ _ a q=>lshift_int_small a.1 a.2.1 a.2.2 q
theorem MR{f:Value->Sem Value}{g:Int->Int}(rule:∀(i:Int) (t:Tok) (s:Al) (Q:Value->Al->Prop) (E:Value->Al->Prop),Q (.int (g i) s.toks) { s with toks:=s.toks+1 }->wpAny (model X.prog X.w) X.A (f (.int i t)) Q E s):JS X f (rU λi=>.int (g i)):=by
 intro a s c H x v Q I b h
 obtain ⟨i,rfl,q⟩:=h
 obtain ⟨t,rfl⟩:=b
 exact rule i t s _ _ ⟨.int (g i),H,I.tok _,⟨_,rfl⟩,q⟩
theorem DX:JS X (unaryOp .USub) (rU λi=>.int (-i)):=MR λ_ _ _ _ _ q=>neg_int q
end
section
variable{X:Cx}{a b c:Expr}{d f g:TE}{pos:Pos}
theorem C6{a:List (Addr×Obj)}{c:St}{H:Hp}{s:Al}{Q:VK}{k b:Bool}(I:Inv X a c H s)(q:Q (.bl k) H)(e:k=b):EP X a c Q (.bool b) s:=by
 subst e
 exact ⟨.bl k,H,I,rfl,q⟩
theorem HK:Vn X (Hv .Lt) (P3 λi j=>.bl (decide (i<j))):=V1 λ_ _ _ _ _ _ _ q=>lt_int q
theorem op_le:Vn X (Hv .LtE) (P3 λi j=>.bl (decide (i<=j))):=V1 λ_ _ _ _ _ _ _ q=>le_int q
theorem HC:Vn X (Hv .Gt) (P3 λi j=>.bl (decide (j<i))):=V1 λ_ _ _ _ _ _ _ q=>gt_int q
theorem X0:Vn X (Hv .GtE) (P3 λi j=>.bl (decide (j<=i))):=V1 λ_ _ _ _ _ _ _ q=>ge_int q
theorem Ol(b:Expr){a:CmpOp}(h:a≠.In:=by decide)(d:a≠.NotIn:=by decide):Gg a b=false:=by
 have e:(a == CmpOp.In)=false:=by cases a <;> first | rfl | exact absurd rfl h
 have c:(a == CmpOp.NotIn)=false:=by cases a <;> first | rfl | exact absurd rfl d
 cases b <;> simp [Gg,e,c]
theorem sY{e:CmpOp}{r:R2}(g:Vn X (Hv e) r)(k:PE X a d)(hb:PE X b f)(p:Gg e b=false):PE X (.Compare a [e] [b] pos) (FK r d f):=by
 intro c s l H Q I h
 exact wpAny_Compare1 (AH k hb I h λv u o x y m n j i q=>g c o l m x y v u Q n j i q) p
def GU(t:TE):TT:=λa H Q=>t a H λx b=>∃k,x=.bl k/\Q k b
theorem P7{i:CmpOp}{r:R2}(F:Vn X (Hv i) r)(q:PE X a d)(hb:PE X b f)(B:Gg i b=false):PT X (.Compare a [i] [b] pos) (GU (FK r d f)):=by
 intro g s j H Q I h
 refine wpAny_isTrue_Compare1 (Gk (q g s j H _ I h) λv K ⟨x,C,E,n,w⟩=>Gk (hb g K j C _ E w) λu o ⟨y,J,t,G,m⟩ =>
  Gk (F g o j J x y v u _ t n G m) λc L ⟨z,D,A,l,k,e,p⟩=>?_) B
 subst e
 cases l
 exact Ic ⟨D,A,p⟩
def U3(K:PySem.W.Frag)(x:V)(H:Hp)(k:Bool):Prop :=
 match x with
 | .non=>k=false
 | .bl b=>k=b
 | .int i=>k=(i != 0)
 | .str y=>y.length<=Bc/\k=((y.length:Int) != 0)
 | .byt y=>y.size<=Bc/\k=((y.size:Int) != 0)
 | .ref p=>(∃c,Qf K H p c/\k = !c.isEmpty)\/(∃c,Tz K H p c/\k = !c.isEmpty)\/∃a,H p=some (.dK a)/\k = !a.isEmpty
 | _=>False
theorem pG{b:Type}{a:List (b×V)}{vs:List (b×Value)}(r:KV a vs):(!vs.isEmpty) = !a.isEmpty:=by
 cases r <;> rfl
theorem aW{xs:List V}{a:List Value}(r:Gv xs a):(!a.toArray.isEmpty) = !xs.isEmpty:=by
 cases r <;> simp
theorem Ux:(Bc:Nat)<2 ^ 63:=by rw[Iw]; decide
theorem AK:KA X (λx H Q=>∃k,U3 X.K x H k/\Q k H):=by
 intro u s C H x v Q I g h
 obtain ⟨k,e,q⟩:=h
 have B:=Ux
 have D:Bc=16777216:=Iw
 cases x with
 | non =>
  cases g
  have a:k=false:=e
  subst a
  exact truthy_none ⟨H,I,q⟩
 | bl b =>
  cases g
  have a:k=b:=e
  subst a
  exact Ic ⟨H,I,q⟩
 | int i =>
  obtain ⟨t,rfl⟩:=g
  have a:k=(i != 0):=e
  subst a
  exact PySem.P.truthy_int ⟨H,I,q⟩
 | str y =>
  obtain ⟨t,rfl⟩:=g
  obtain ⟨z,a⟩ : y.length<=Bc/\k=((y.length:Int) != 0):=e
  subst a
  exact PySem.P.truthy_str (by omega) ⟨H,I.tok _,q⟩
 | byt y =>
  obtain ⟨t,rfl⟩:=g
  obtain ⟨z,a⟩ : y.size<=Bc/\k=((y.size:Int) != 0):=e
  subst a
  exact PySem.W.truthy_bytes (by omega) ⟨H,I.tok _,q⟩
 | ref p =>
  cases g
  have a:(∃f,Qf X.K H p f/\k = !f.isEmpty)\/(∃f,Tz X.K H p f/\k = !f.isEmpty)\/∃c,H p=some (.dK c)/\k = !c.isEmpty:=e
  rcases a with ⟨f,j,a⟩ | ⟨f,j,a⟩ | ⟨c,j,a⟩
  ·subst a
   obtain ⟨l,r,n,o⟩:=I.list j
   have d:=r.length
   exact wpAny_truthy_list n.isList (by simp only[Au]; omega) ⟨H,I.tok _,by rw[aW r]; exact q⟩
  ·subst a
   obtain ⟨l,r,n,o⟩:=I.tuple j
   have d:=r.length
   exact truthy_tuple n (by simp only[Au]; omega) ⟨H,I.tok _,by rw[aW r]; exact q⟩
  ·subst a
   obtain ⟨o,A,vs,r,m⟩ : c.length<=Bc/\(p == Pc)=false/\∃vs,KV c vs/\s.heap.DictOf (Lb X.prog X.w) p vs:=I.hok p _ j
   have d:c.length=vs.length:=Paired.length r
   exact wpAny_truthy_dict A m (by omega) ⟨H,I.tok _,by rw[pG r]; exact q⟩
 | _=>exact (show False from e).elim
theorem C8(j:PE X a d)(i:∀b,isTrue a X.env b=(do let v <- b; Sx a.pos; Sy [v] (truthy v))) :
  PT X a (λe H Q=>d e H λx f=>∃k,U3 X.K x f k/\Q k f):=by
 intro c s e H Q I h
 exact isTrue_plain (Gk (j c s e H _ I h) λv o ⟨x,g,l,n,m⟩=>AK c o e g x v Q l n m) (i _)
theorem vals1{x:V}{us:List Value}(r:Gv [x] us):∃u,us=[u]/\RelV x u:=by
 cases r with
 | cons b a=>cases a; exact ⟨_,rfl,b⟩
theorem vals2{x y:V}{us:List Value}(r:Gv [x,y] us):∃u a,us=[u,a]/\RelV x u/\RelV y a:=by
 cases r with
 | cons e c =>
  cases c with
  | cons b d=>cases d; exact ⟨_,_,rfl,e,b⟩
theorem xW(c:X.calm=true):Om X (.builtin "min") (λxs H Q=>∃i j,xs=[.int i,.int j]/\Q (.int (if j<i then j else i)) H):=by
 intro b s d H xs f Q I r h
 obtain ⟨i,j,rfl,q⟩:=h
 obtain ⟨u,e,rfl,⟨t,rfl⟩,⟨g,rfl⟩⟩:=vals2 r
 refine min_two_ints (I.ok.hd c) λm l k=>⟨_,H,I.kept k,?_,q⟩
 by_cases a:j<i
 ·rw[if_pos a,if_pos a]; exact ⟨_,rfl⟩
 ·rw[if_neg a,if_neg a]; exact ⟨_,rfl⟩
def IS(K:PySem.W.Frag)(x:V)(H:Hp)(n:Nat):Prop :=
 match x with
 | .str y=>y.length<=Bc/\n=y.length
 | .byt y=>y.size<=Bc/\n=y.size
 | .ref p=>(∃a,Qf K H p a/\n=a.length)\/∃a,Tz K H p a/\n=a.length
 | _=>False
theorem Fs:Om X (.builtin "len") (λxs H Q=>∃x n,xs=[x]/\IS X.K x H n/\Q (.int n) H):=by
 intro j s o H xs w Q I r h
 obtain ⟨x,n,rfl,e,q⟩:=h
 obtain ⟨u,rfl,f⟩:=vals1 r
 have m:=Ux
 have v:Bc=16777216:=Iw
 cases x with
 | str y =>
  obtain ⟨t,rfl⟩:=f
  obtain ⟨k,b⟩ : y.length<=Bc/\n=y.length:=e
  subst b
  exact len_str (by omega) ⟨.int _,H,I.tok _,⟨_,rfl⟩,q⟩
 | byt y =>
  obtain ⟨t,rfl⟩:=f
  obtain ⟨k,b⟩ : y.size<=Bc/\n=y.size:=e
  subst b
  exact PySem.W.len_bytes (by omega) ⟨.int _,H,I.tok _,⟨_,rfl⟩,q⟩
 | ref p =>
  cases f
  have b:(∃xs,Qf X.K H p xs/\n=xs.length)\/∃xs,Tz X.K H p xs/\n=xs.length:=e
  rcases b with ⟨xs,g,b⟩ | ⟨xs,g,b⟩
  ·subst b
   obtain ⟨c,i,d,l⟩:=I.list g
   have a:=i.length
   exact Calls.call_len_list d.isList (by simp only[Au]; omega) ⟨.int xs.length,H,I.tok _,⟨_,by simp only[Au]; rw[a]⟩,q⟩
  ·subst b
   obtain ⟨c,i,d,l⟩:=I.tuple g
   have a:=i.length
   exact len_tuple d (by simp only[Au]; omega) ⟨.int xs.length,H,I.tok _,⟨_,by simp only[Au]; rw[a]⟩,q⟩
 | _=>exact (show False from e).elim
end
structure ObjM(h:Heap)(x dx C:Addr)(mA:Str->Option Value):Prop where
 obj:h.get? x=some (PySem.W.instObj C dx)
 ns:h.Ns1 dx mA
 ne:dx≠x
theorem xB{h:Heap}{d:Addr}{f:Str->Option Value}(n:h.Ns1 d f):∃g,h.get? d=some g/\∀name,PySem.W.lookIn name g=some (f name):=by
 obtain ⟨o,c,r,i,k,m,_,p⟩:=n
 refine ⟨o,i,λname=>?_⟩
 have e:=p name
 unfold nsFind findBy at e
 rw[<- Array.find?_toList] at e
 unfold PySem.W.lookIn
 rw[k]
 dsimp only
 split
 ·rename_i y q
  rw[q] at e
  exact congrArg some e
 ·rename_i q
  rw[q] at e
  have a:c.toList.any (·.refKey)=false:=by
   rw[List.any_eq_false]
   intro y j
   obtain ⟨z,t,b⟩:=m y (Array.mem_toList_iff.mp j)
   simp [DictEntry.refKey,b]
  have l:¬ c.toList.any (·.refKey)=true:=by rw[a]; exact Cg
  rw[if_neg l]
  exact congrArg some e
theorem ObjM.look{h:Heap}{x c C:Addr}{b:Str->Option Value}(I:ObjM h x c C b):∃a,PySem.W.InstAt h x (PySem.W.instObj C c) C (some a)/\∀name,PySem.W.lookIn name a=some (b name) :=
 let ⟨a,ho,hl⟩:=xB I.ns
 ⟨a,⟨I.obj,rfl,rfl,ho⟩,hl⟩
theorem qM.some_of{v:V}{o:Option Value}(r:qM (some v) o):∃u,o=some u/\RelV v u:=by
 cases o with
 | none=>exact (show False from r).elim
 | some u=>exact ⟨u,rfl,r⟩
section
variable{P:Bq}{w:World}{H g:Hp}{h h':Heap}{a C b:Addr}{fs c:List (Str×V)}
theorem O4(g:Yd P w H h)(e:H a=some (.ins C b fs)):∃c,ObjM h a b C c/\(∀f,qM (fs.lookup f) (c f))/\PySem.Within c (fs.map (·.1))/\fs.length<=1000/\H b=some (.own a):=by
 obtain ⟨d,z,i,j,c,n,r,q⟩:=(show Jn P w H h a (.ins C b fs) from g a _ e)
 exact ⟨c,⟨j,n,i⟩,r,q,z,d⟩
end
structure Cls(K:PySem.W.Frag)(C:Addr):Prop where
 pg:PySem.W.plainGet K C Str.empty=true
 hd:PySem.W.hasDictIn K C=true
 po:PySem.W.plainOver K C=true
 sa:PySem.W.findIn K (.ref C) "__setattr__" = some (some (.builtin "object.__setattr__"))
theorem Cls.get{K:PySem.W.Frag}{C:Addr}(c:Cls K C)(f:Str):PySem.W.plainGet K C f=true:=c.pg
section
variable{X:Cx}{d:List (Addr×Obj)}{f:St}{H:Hp}{s:Al}{A:Df}{E:Value->Al->Prop}{Q:Value->Al->Prop}{c:Value}{b:Bool}
inductive TyOf (K:PySem.W.Frag) (H:Hp):V->Value->Prop where
 | non:TyOf K H .non (.type "NoneType")
 | bl (x:Bool):TyOf K H (.bl x) (.type "bool")
 | int (i:Int):TyOf K H (.int i) (.type "int")
 | str (x:Str):TyOf K H (.str x) (.type "str")
 | flt (x:UInt64):TyOf K H (.flt x) (.type "float")
 | lst {a:Addr} {xs:List V} (e:H a=some (.lst xs)):TyOf K H (.ref a) (.type "list")
 | frz {a:Addr} {o:Obj} {xs:List V} (e:H a=some (.frz o (.lst xs))):TyOf K H (.ref a) (.type "list")
 | tup {a:Addr} {xs:List V} (e:H a=some (.tup xs)):TyOf K H (.ref a) (.type "tuple")
 | dK {a:Addr} {kvs:List (Lu×V)} (e:H a=some (.dK kvs)):TyOf K H (.ref a) (.type "dict")
 | dT {a:Addr} {kvs:List (List Lu×V)} (e:H a=some (.dT kvs)):TyOf K H (.ref a) (.type "dict")
 | ins {a C dx:Addr} {fs:List (Str×V)} (e:H a=some (.ins C dx fs)) (cl:Cls K C) (ha:PySem.W.findIn K (.ref C) "__class__" = some (some (.builtin "object.__class__")))
   (hn:PySem.W.specialIn K (.builtin "object.__class__") "__get__" = some (some (.builtin "getset_descriptor.__get__"))) (htk:PySem.W.takesIn K (.builtin "object.__class__")=some true)
   (hm:PySem.W.mroIn K C (.type "object")=some true):TyOf K H (.ref a) (.ref C)
theorem xF{x:V}{u t:Value}(I:Inv X d f H s)(g:RelV x u)(D:TyOf X.K H x t)(e:PySem.W.kitOne X.K t c=some b)(h:∀R,Q (.bool b) { s with toks:=R }):wpAny (model X.prog X.w) A (call (.builtin "isinstance") [u,c]) Q E s:=by
 cases D with
 | non=>cases (show u=Xc from g); exact PySem.W.kia_one PySem.W.kitx_none I.kIn Ng e (λz=>nomatch z) h
 | bl y=>cases (show u=Value.bool y from g); exact PySem.W.kia_one PySem.W.kitx_bool I.kIn Ng e (λz=>nomatch z) h
 | int i=>obtain ⟨t,q⟩:=(show ∃t,u=Value.int i t from g); cases q; exact PySem.W.kia_one PySem.W.kitx_int I.kIn Ng e (λz=>nomatch z) h
 | str y=>obtain ⟨t,q⟩:=(show ∃t,u=Value.str y t from g); cases q; exact PySem.W.kia_one PySem.W.kitx_str I.kIn Ng e (λz=>nomatch z) h
 | flt y=>obtain ⟨t,q⟩:=(show ∃t,u=Value.float y t from g); cases q; exact PySem.W.kia_one PySem.W.kitx_float I.kIn Ng e (λz=>nomatch z) h
 | @lst a m j =>
  cases (show u=Bd a from g)
  obtain ⟨_,_,n,_,k⟩:=(show Jn X.prog X.w H s.heap a (.lst m) from I.hok a _ j)
  exact PySem.W.kia_one PySem.W.kitx_list I.kIn ⟨_,k,rfl⟩ e (λz=>nomatch z) h
 | @frz a G m j =>
  cases (show u=Bd a from g)
  obtain ⟨_,_,_,n,_,k⟩:=(show Jn X.prog X.w H s.heap a (.frz G (.lst m)) from I.hok a _ j)
  exact PySem.W.kia_one PySem.W.kitx_list I.kIn ⟨_,k,rfl⟩ e (λz=>nomatch z) h
 | @tup a m j =>
  cases (show u=Bd a from g)
  obtain ⟨_,_,_,p⟩:=(show Jn X.prog X.w H s.heap a (.tup m) from I.hok a _ j)
  obtain ⟨o,k,r,_⟩:=p
  exact PySem.W.kia_one PySem.W.kitx_tuple I.kIn ⟨o,k,r⟩ e (λz=>nomatch z) h
 | @dK a l j =>
  cases (show u=Bd a from g)
  obtain ⟨_,_,vs,_,p⟩:=(show Jn X.prog X.w H s.heap a (.dK l) from I.hok a _ j)
  obtain ⟨o,P,M,k,r,_⟩:=p
  exact PySem.W.kia_one PySem.W.kitx_dict I.kIn ⟨o,k,r.1⟩ e (λz=>nomatch z) h
 | @dT a l j =>
  cases (show u=Bd a from g)
  obtain ⟨_,_,m,_,o,P,M,k,r,_⟩:=(show Jn X.prog X.w H s.heap a (.dT l) from I.hok a _ j)
  exact PySem.W.kia_one PySem.W.kitx_dict I.kIn ⟨o,k,r.1⟩ e (λz=>nomatch z) h
 | @ins a C S fs j B F N v L =>
  cases (show u=Bd a from g)
  obtain ⟨T,O,_⟩:=O4 I.hok j
  obtain ⟨U,J,_⟩:=O.look
  exact PySem.W.kia_one (PySem.W.kitx_own (B.get _) B.hd F N v L) I.kIn J e (λz=>nomatch z) h
end
structure Room(k:Nat)(A:Df):Prop where
 hd:A.handled=none
 dp:A.depth+3 * k+5<recursionLimit
 un:A.units+16 * k+200<cLine
 gd:A.guards=some []
theorem Room.mono{j k:Nat}{A:Df}(r:Room k A)(h:j<=k):Room j A:=⟨r.hd,by have:=r.dp; omega,by have:=r.un; omega,r.gd⟩
theorem Room.deeper{k:Nat}{A:Df}(r:Room (k+1) A)(env:Env):Room k (A.deeper env) :=
 ⟨r.hd,by have:=r.dp; show A.depth+1+3 * k+5<_; omega,by have:=r.un; show A.units+3+16 * k+200<_; omega,r.gd⟩
theorem Room.depth{k:Nat}{A:Df}(r:Room k A):A.depth<recursionLimit:=by have:=r.dp; omega
theorem Room.units{k:Nat}{A:Df}(r:Room k A):A.units+64<cLine:=by have:=r.un; omega
def V0:TA:=λ_ H Q=>Q [] H
def nB(c:TE)(tr:TA):TA:=λa H Q=>c a H λx b=>tr a b λd e=>Q (x::d) e
section
variable{X:Cx}{e:Expr}{es:List Expr}{a:TE}{t:TA}{pos:Pos}
theorem Lk:PA X [] V0:=λ_ _ _ _ H Q I h=>Calls.spliced_nil ⟨[],H,I,.nil,h⟩
theorem Gp(i:PE X e a)(r:PA X es t)(l:Be (e::es) X.env=(false,eval e X.env)::Be es X.env:=by rfl):PA X (e::es) (nB a t):=by
 intro pos b s d H Q I h
 rw[l]
 show wpAny _ _ (spliced ((false,eval e X.env)::Gh pos (Be es X.env))) _ _ s
 refine Calls.spliced_cons (Gk (i b s d H _ I h) λu q c => ?_)
 obtain ⟨x,f,v,p,o⟩ := c
 exact Gk (r pos b q d f _ v o) λw y ⟨g,k,m,j,n⟩=>⟨x::g,k,m,.cons p j,n⟩
def KD(t:TA):TE:=λc H Q=>t c H λb a=>b.length<=Bc/\∀p,a p=none->Q (.ref p) (upd a p (.tup b))
def JK(t:TA):TE:=λc H Q=>t c H λb a=>b.length<=Bc/\∀p,a p=none->Q (.ref p) (upd a p (.lst b))
theorem sD{x1}(h:PA X es t):PE X (.Tuple es x1 pos) (KD t):=by
 intro a s j H Q I l
 refine wpAny_Tuple_spliced (Gk (h pos a s j H _ I l) λk c ⟨i,d,f,r,z,q⟩=>⟨by rw[<- r.length]; exact z,?_⟩)
 have g:d c.heap.objs.size=none:=f.hok.fresh (Aj _)
 refine ⟨.ref c.heap.objs.size,upd d c.heap.objs.size (.tup i),f.laid (t':=c.toks) (λb u e=>Av _ e) (Aj _) ?_,rfl,q _ g⟩
 exact ⟨z,k,r,⟨_,Bs _ rfl,rfl,_,rfl⟩⟩
theorem rS(h:PA X es t):PE X (.List es pos) (JK t):=by
 intro a s j H Q I l
 refine wpAny_List_spliced (Gk (h pos a s j H _ I l) λk c ⟨i,d,f,r,z,q⟩=>⟨by rw[<- r.length]; exact z,?_⟩)
 have g:d c.heap.objs.size=none:=f.hok.fresh (Aj _)
 refine ⟨.ref c.heap.objs.size,upd d c.heap.objs.size (.lst i),f.laid (t':=c.toks) (λb u e=>Av _ e) (Aj _) ?_,rfl,q _ g⟩
 exact ⟨z,k,0,r,Bs _ rfl⟩
end
abbrev Sp:=List V->Hp->VK->XK->Prop
abbrev uP:=List Env->Hp->Al->XK->Value->Al->Prop
structure Env0(P:Bq)(w:World)(K:PySem.W.Frag)(mg:Str->Option Value)(base:Heap)(A:Df)(outer:List Env)(s:Al)(H:Hp):Prop where
 frames:A.frames=some outer
 mod:Mod K mg base
 bs:∀b o,base.get? b=some o->s.heap.get? b=some o/\H b=none
 bsz:base.objs.size<=s.heap.objs.size
 funs:s.heap.FunFrames base outer
 frf:∀b∈xP outer,H b=none
 hok:Yd P w H s.heap
 bare:Tc s.gens
 tab:C5 K mg base H
def CE(outer:List Env)(P:Bq)(w:World)(H:Hp)(s:Al)(Q:VK)(u:Value)(s':Al):Prop :=
 ∃v a,s'.os=s.os/\Tc s'.gens/\Un (xP outer) [] H a s.heap s'.heap/\Yd P w a s'.heap/\RelV v u/\Q v a
def CR(CX:uP)(outer:List Env)(P:Bq)(w:World)(H:Hp)(s:Al)(Q:VK)(E:XK)(r:Result)(s':Al):Prop :=
 match r with
 | .ok (.ret u)=>CE outer P w H s Q u s'
 | .ok _=>False
 | .error e=>CX outer H s E e s'
structure FnOk(P:Bq)(w:World)(K:PySem.W.Frag)(mg:Str->Option Value)(base:Heap)(CX:uP)(k:Nat)(f:Addr)(fd:Cj)(ps:List Str)(sp:Sp):Prop where
 len:∀vs H Q E,sp vs H Q E->vs.length=ps.length
 run:∀(A:Df) (outer:List Env) (s:Al) (H:Hp) (args:Args) (us:List Value) (vs:List V) (Q:VK) (E:XK),Room k A->Env0 P w K mg base A outer s H->BindsTo s fd args (ps.zip us)->Gv vs us->sp vs H Q E ->
  Iu (model P w) A (.call (.ref f) args) (CR CX outer P w H s Q E) s
theorem FnOk.imp{P:Bq}{w:World}{K:PySem.W.Frag}{mg:Str->Option Value}{base:Heap}{CX:uP}{k:Nat}{f:Addr}{d:Cj}{ps:List Str}{sp b:Sp}(F:FnOk P w K mg base CX k f d ps sp)(h:∀vs H Q E,b vs H Q E->sp vs H Q E):FnOk P w K mg base CX k f d ps b :=
 ⟨λvs H Q E q=>F.len vs H Q E (h _ _ _ _ q),λA a s H c j vs Q E m g l e i=>F.run A a s H c j vs Q E m g l e (h _ _ _ _ i)⟩
section
variable{X:Cx}{a:List (Addr×Obj)}{c:St}{H:Hp}{s s':Al}
theorem Inv.env0(I:Inv X a c H s):Env0 X.prog X.w X.K X.mg X.base X.A X.stack s H :=
 ⟨I.ok.frames,I.ok.mod,I.bs,Bz I.ok.bsz I.sz,I.stack,I.stkFree,I.hok,I.bare,I.ok.tab.un I.base⟩
theorem Inv.after{Q:VK}{u:Value}(I:Inv X a c H s)(h:CE X.stack X.prog X.w H s Q u s'):EP X a c Q u s':=by
 obtain ⟨v,j,os,e,un,f,r,q⟩:=h
 obtain ⟨k,g,d,t,i⟩:=s'
 obtain rfl:i=s.os:=os
 exact ⟨v,j,I.call (h':=k) (g':=g) (d':=d) (t':=t) (ch:=[]) un f e (λb z=>absurd z (by simp)),r,q⟩
end
def tV(sp:Sp)(a:List V)(E:XK)(t:TA):TE:=λc H Q=>t c H λvs b=>sp (vs++a) b Q E
def Binds(K:PySem.W.Frag)(c:Cj)(ps:List Str)(b:List Value):Prop :=
 ∀(s:Al) (a:List Value),K.In s.heap->(a++b).length=ps.length->BindsTo s c ⟨a,[]⟩ (ps.zip (a++b))
theorem Binds.all{K:PySem.W.Frag}{a:Cj}{ps:List Str}(h:∀us:List Value,us.length=ps.length->bindArgs a ⟨us,[]⟩=pure (ps.zip us)):Binds K a ps []:=λs us _ b=>by
 rw[Dd] at b ⊢
 exact .of_eq (h us b)
def Rj(CX:uP)(X:Cx)(E:XK):Prop:=∀(a:List (Addr×Obj)) (c:St) (H:Hp) (s:Al) (e:Value) (b:Al),Inv X a c H s->CX X.stack H s E e b->X.xe e b
section
variable{X:Cx}{CX:uP}{k:Nat}{f C:Addr}{c:Cj}{ps:List Str}{sp:Sp}{a:List V}{b:List Value}{E:XK}{x m:Str}{p pos d:Pos}{e o:Expr}{es:List Expr}{g:TE}{t:TA}
theorem zE{d:List (Addr×Obj)}{i:St}{H:Hp}{s:Al}{Q:VK}{us:List Value}{vs:List V}(F:FnOk X.prog X.w X.K X.mg X.base CX k f c ps sp)(p:Room k X.A)(hb:Binds X.K c ps b)(hd:Gv a b)(n:Rj CX X E)(I:Inv X d i H s)(r:Gv vs us)(h:sp (vs++a) H Q E):wpAny (model X.prog X.w) X.A (call (.ref f) us) (EP X d i Q) X.xe s:=by
 have j:Gv (vs++a) (us++b):=r.append hd
 have l:(us++b).length=ps.length:=by rw[<- j.length]; exact F.len _ _ _ _ h
 refine wpAny_call (Qu (F.run X.A X.stack s H ⟨us,[]⟩ (us++b) (vs++a) Q E p I.env0 (hb s us I.kIn l) j h) λr m g=>?_)
 cases r with
 | error e=>exact n d i H s e m I g
 | ok o =>
  cases o with
  | ret u=>exact I.after g
  | next=>exact Lj g
  | brk=>exact Lj g
  | cont=>exact Lj g
theorem Vw(F:FnOk X.prog X.w X.K X.mg X.base CX k f c ps sp)(z:Room k X.A)(y:Gl X x)(v:X.mg x=some (.ref f))(o:PySem.W.keepIn X.K (.ref f)=true)(hb:Binds X.K c ps b)(hd:Gv a b)(n:Rj CX X E)(m:PA X (e::es) t)(g:(x == ("__debug__" : Str))=false:=by decide)(l:Be (e::es) X.env=(false,eval e X.env)::Be es X.env:=by rfl)(i:(Gh pos (Be es X.env)).any (·.1)=false:=by rfl):PE X (.Call (.Name x p) (e::es) [] pos) (tV sp a E t):=by
 intro d s u H Q I h
 refine Ks (uA I y v ?_ g)
 refine PySem.W.callWith_K (h₀:=X.base) I.ok.mod.kin o (Gk (m pos d s u H _ I h) λC D ⟨vs,B,j,r,q⟩=>⟨j.kIn,?_⟩) l i
 exact zE F z hb hd n j r q
theorem u4(F:FnOk X.prog X.w X.K X.mg X.base CX k f c ps sp)(l:Room k X.A)(j:Gl X x)(m:X.mg x=some (.ref f))(i:PySem.W.keepIn X.K (.ref f)=true)(hb:Binds X.K c ps b)(hd:Gv a b)(g:Rj CX X E)(d:(x == ("__debug__" : Str))=false:=by decide):PE X (.Call (.Name x p) [] [] pos) (tV sp a E V0):=by
 intro e s n H Q I h
 refine Ks (uA I j m ?_ d)
 exact PySem.W.callWith_K0 I.kIn i (zE (us:=[]) F l hb hd g I .nil h)
end
structure FnScope(N P:List Str)(sc:Scope):Prop where
 kind:sc.kind=.function
 co:sc.isCoroutine=false
 gen:sc.isGenerator=false
 nd:N.Nodup
 pre:N.take P.length=P
 par:∀x∈P,sc.names.lookup x=some .local\/sc.names.lookup x=some .cell
 nofree:∀y∈sc.names,y.2≠.free
theorem hW{kindOf:Str->Option Px}{x:Str}:∀{binds:List (Str×Value)} {m:Str->Option Value},(∀v,(x,v)∉binds)->bindL kindOf binds m x=m x
 | [],_,_=>rfl
 | (n,v)::r,m,h=>by
  unfold bindL
  rw[hW λw a=>h w (Ad _ a)]
  split
  ·have : x≠n:=by rintro rfl; exact h v Aa
   simp [this]
  ·rfl
theorem fN{kindOf:Str->Option Px}{x:Str}:∀{binds:List (Str×Value)} {m:Str->Option Value},(∀v,(x,v)∉binds)->bindC kindOf binds m x=m x
 | [],_,_=>rfl
 | (n,v)::r,m,h=>by
  unfold bindC
  rw[fN λw a=>h w (Ad _ a)]
  split
  ·rfl
  ·have : x≠n:=by rintro rfl; exact h v Aa
   simp [this]
theorem fW{kindOf:Str->Option Px}{x:Str}{v:Value}:∀{P:List Str} {vs:List Value} {i:Nat} {m:Str->Option Value},P.Nodup->P[i]? = some x->vs[i]? = some v->kindOf x=some .local->bindL kindOf (P.zip vs) m x=some v
 | [],_,_,_,_,h,_,_=>by simp at h
 | _::_,[],_,_,_,_,h,_=>by simp at h
 | p::P,w::vs,0,m,nd,h1,h2,hk=>by
  simp at h1 h2; subst h1; subst h2
  show bindL kindOf ((p,w)::P.zip vs) m p=_
  unfold bindL
  rw[hW λv a=>(Bp.mp nd).1 (List.of_mem_zip a).1,if_pos hk]
  simp
 | p::P,w::vs,i+1,m,nd,h1,h2,hk=>by
  show bindL kindOf ((p,w)::P.zip vs) m x=_
  unfold bindL
  exact fW (i:=i) (Bp.mp nd).2 (by simpa using h1) (by simpa using h2) hk
theorem hV{kindOf:Str->Option Px}{x:Str}{v:Value}:∀{P:List Str} {vs:List Value} {i:Nat} {m:Str->Option Value},P.Nodup->P[i]? = some x->vs[i]? = some v->kindOf x≠some .local->bindC kindOf (P.zip vs) m x=some v
 | [],_,_,_,_,h,_,_=>by simp at h
 | _::_,[],_,_,_,_,h,_=>by simp at h
 | p::P,w::vs,0,m,nd,h1,h2,hk=>by
  simp at h1 h2; subst h1; subst h2
  show bindC kindOf ((p,w)::P.zip vs) m p=_
  unfold bindC
  rw[fN λv a=>(Bp.mp nd).1 (List.of_mem_zip a).1,if_neg hk]
  simp
 | p::P,w::vs,i+1,m,nd,h1,h2,hk=>by
  show bindC kindOf ((p,w)::P.zip vs) m x=_
  unfold bindC
  exact hV (i:=i) (Bp.mp nd).2 (by simpa using h1) (by simpa using h2) hk
def start(N:List Str)(vs:List V):St:=vs.map some++Jt (N.length - vs.length) none
def Mz(CX:uP)(P:Bq)(w:World)(K:PySem.W.Frag)(mg:Str->Option Value)(base:Heap)(N:List Str)(b:Str)(a:Scope)(f:Addr)(d:Value)(A:Df)(outer:List Env)(s:Al)(H:Hp)(E:XK):Cx where
 prog:=P
 w:=w
 K:=K
 mg:=mg
 base:=base
 A:=A.deeper (envOfC b a s.heap.objs.size f d)
 N:=N
 s₀:=s
 H₀:=H
 env:=envOfC b a s.heap.objs.size f d
 outer:=outer
 stack:=envOfC b a s.heap.objs.size f d::outer
 ex:=[]
 calm:=true
 fn:=λ_=>true
 pn:=[]
 xe:=λe g=>wpAny (model P w) (A.deeper (envOfC b a s.heap.objs.size f d)) (leaving (envOfC b a s.heap.objs.size f d) e) (λ_ c=>CX outer H s E e c) (λh c=>CX outer H s E h c) g
theorem lQ{a:Scope}{n:Nat}{x:Str}(h:a.names.lookup x=some .cell):∃c,(Et n a.names []).lookup x=some c:=by
 have q:=PySem.W.cellsFrom_some a.names n [] (.inl h)
 exact Qs.mp q
theorem xU{CX:uP}{P:Bq}{w:World}{K:PySem.W.Frag}{mg:Str->Option Value}{base:Heap}{N ps:List Str}{g:Str}{d:Scope}{f:Addr}{D:Value}{A:Df}{outer:List Env}{s G:Al}{H:Hp}{E:XK}{us:List Value}{vs:List V}(S:FnScope N ps d)(hd:A.handled=none)(l:Env0 P w K mg base A outer s H)(hl:vs.length=ps.length)(r:Gv vs us)(x:InCallC s s.heap.objs.size (bindL (envOfC g d s.heap.objs.size f D).kindOf (ps.zip us) λ_=>none) (Et (s.heap.objs.size+1) d.names []) (bindC (envOfC g d s.heap.objs.size f D).kindOf (ps.zip us) λ_=>none) G):Inv (Mz CX P w K mg base N g d f D A outer s H E) [] (start N vs) H G:=by
 have M:ps.length<=N.length:=by have:=congrArg Fh S.pre; rw[Cu] at this; omega
 obtain ⟨C,Q,rfl,F⟩:=x.done
 have m:∀b:Addr,b∉(Mz CX P w K mg base N g d f D A outer s H E).ex:=λb z=>absurd (show b∈([]:List Addr) from z) (by simp)
 refine ⟨⟨l.mod,S.kind,rfl,rfl,Aj _,λy z c C j=>?_,λy hy=>?_,λy c _ h=>?_,λ_=>hd,Around.frames_deeper l.frames,.inr ⟨rfl,rfl⟩,λb z=>absurd z (m b),l.bs,l.bsz,λb _ _=>m b,λb z=>absurd z (m b),l.funs,l.frf,l.tab⟩,
  rfl,l.bare,Un.kept F,⟨_,x.toInCall.ns,λi y v C j O=>?_⟩,λy c h=>⟨_,x.cell y c h⟩,l.hok.fresh (Aj _),λy c h=>?_,λp o=>absurd (show p∈([]:List (Addr×Obj)) from o) (by simp),l.hok.kept F,?_⟩
 ·exact name_of_addr x.apart (PySem.mem_of_lookup C) (PySem.mem_of_lookup j)
 ·have hy:d.names.lookup y=some .cell\/d.names.lookup y=some .free:=hy
  rcases hy with hy | hy
  ·exact lQ hy
  ·exact absurd rfl (S.nofree _ (PySem.mem_of_lookup hy))
 ·exact Lr (x.above y c (PySem.mem_of_lookup h))
 ·have B:i<vs.length:=by
   unfold start at j
   by_cases B:i<vs.length
   ·exact B
   ·rw[Fq (by simpa using B)] at j
    rw[List.getElem?_replicate] at j
    split at j <;> cases j
  have L:vs[i]? = some v:=by
   unfold start at j
   rw[Iz (by simpa using B),Bm] at j
   cases e:vs[i]? with
   | none=>rw[e] at j; cases j
   | some a=>rw[e] at j; cases j; rfl
  obtain ⟨u,I,J⟩:=r.get L
  have o:ps[i]? = some y:=by
   rw[<- S.pre,Jk (by omega)]; exact C
  have t:ps.Nodup:=by rw[<- S.pre]; exact S.nd.sublist (Gx _ _)
  refine ⟨u,J,?_⟩
  rcases S.par y (Aq o) with k | k
  ·exact .inl ⟨k,fW t o I k⟩
  ·obtain ⟨c,e⟩:=lQ (n:=s.heap.objs.size+1) k
   refine .inr ⟨.inl k,c,e,?_⟩
   have q:=x.cell y c e
   rw[hV t o I (by show d.names.lookup y≠_; rw[k]; decide)] at q
   exact q
 ·exact l.hok.fresh (Lr (x.above y c (PySem.mem_of_lookup h)))
 ·unfold start
  show _=N.length
  rw[Ar,Ab,List.length_replicate]
  omega
theorem GQ{CX:uP}{P:Bq}{w:World}{K:PySem.W.Frag}{mg:Str->Option Value}{base:Heap}{k:Nat}{f:Addr}{name c:Str}{g:Arguments}{h:List Stmt}{a:Scope}{dV kV z U d ct oc:Value}{X od:Option Addr}{G:Array (Option Value)}{N ps:List Str}{sp:Sp}(lk:K.lookup f=some ⟨oc,od,.func (PySem.W.fnOf name c g h a dV kV z U X d ct),G⟩)(R:PySem.W.codeIn K d c=true)(S:FnScope N ps a)(len:∀vs H Q E,sp vs H Q E->vs.length=ps.length)(m:∀(A:Df) (outer:List Env) (s:Al) (H:Hp) (vs:List V) (Q:VK) (E:XK),Room k (A.deeper (envOfC c a s.heap.objs.size f d))->sp vs H Q E->∃t,qG (Mz CX P w K mg base N c a f d A outer s H E) h t/\t { nx:=λ_ j=>Q .non j,rt:=Q } (start N vs) H):FnOk P w K mg base CX (k+1) f (PySem.W.fnOf name c g h a dV kV z U X d ct) ps sp:=by
 refine ⟨len,λA outer s H Z us vs Q E M C hb r D=>?_⟩
 have hl:=len _ _ _ _ D
 have T:K.In s.heap:=C.mod.kin.keeps λb o e=>(C.bs b o e).1
 have O:s.heap.NoLimit:=C.mod.nolimit.keeps λb o e=>(C.bs b o e).1
 have l:∀y∈ps.zip us,a.names.lookup y.1=some .local\/(a.names.lookup y.1=some .cell/\((Et (s.heap.objs.size+1) a.names []).lookup y.1).isSome=true):=λ⟨n,v⟩ hy=>by
  rcases S.par n (List.of_mem_zip hy).1 with q | q
  ·exact .inl q
  ·exact .inr ⟨q,PySem.W.cellsFrom_some _ _ _ (.inl q)⟩
 refine codeAny_call_function M.depth (T _ _ lk) rfl S.co S.gen rfl (PySem.W.codeRec_of T R) (hb _ _ _ _ ?_)
 refine wpAny_newFunctionEnv_cells S.kind l λh0 he Y x=>?_
 subst he
 refine ⟨O.keeps x.toInCall.keep,codeAny_func ?_⟩
 obtain ⟨t,ht,hq⟩:=m A outer s H vs Q E (M.deeper _) D
 have I:Inv (Mz CX P w K mg base N c a f d A outer s H E) [] (start N vs) H Y:=xU S M.hd C hl r x
 refine Co (ht [] Y (start N vs) H _ I hq) (λfl L p=>?_) λe L p=>p
 have B:∀{i:St} {j:Hp} {v:V} {u:Value},Inv (Mz CX P w K mg base N c a f d A outer s H E) [] i j L->RelV v u->Q v j->CE outer P w H s Q u L :=
  λ{i j v u} J F q=>⟨v,j,J.os,J.bare,J.base,J.hok,F,q⟩
 cases fl with
 | ret u =>
  obtain ⟨v,i,j,J,F,q⟩:=p
  exact B J F q
 | next =>
  obtain ⟨i,j,J,q⟩:=p
  exact B (v:=V.non) (u:=Xc) J rfl q
 | brk =>
  obtain ⟨_,_,_,q⟩:=p
  exact Lj q
 | cont =>
  obtain ⟨_,_,_,q⟩:=p
  exact Lj q
section
variable{X:Cx}{x:Str}{p pos:Pos}{e:Expr}{es:List Expr}{t:TA}{id T:String}{r:List V->Hp->VK->Prop}
def FP(r:List V->Hp->VK->Prop)(t:TA):TE:=λb H Q=>t b H λvs a=>r vs a Q
theorem bN(u:Om X (.builtin id) r)(q:Gl X x)(v:X.mg x=none)(f:Kt x=some (.builtin id))(j:PA X (e::es) t)(o:x ≠ "__name__" := by decide)(b:(x == ("__debug__" : Str))=false:=by decide)(i:Be (e::es) X.env=(false,eval e X.env)::Be es X.env:=by rfl)(c:(Gh pos (Be es X.env)).any (·.1)=false:=by rfl):PE X (.Call (.Name x p) (e::es) [] pos) (FP r t):=by
 intro a s d H Q I h
 refine Ks (Qc I q v f ?_ o b)
 exact PyProof.Rows.callWith_builtin1 (Gk (j pos a s d H _ I h) λk n ⟨vs,g,w,m,l⟩=>u a n d g vs k Q w m l) i c
theorem gU(u:Om X (.type T) r)(q:Gl X x)(v:X.mg x=none)(f:Kt x=some (.type T))(j:PA X (e::es) t)(o:x ≠ "__name__" := by decide)(b:(x == ("__debug__" : Str))=false:=by decide)(i:Be (e::es) X.env=(false,eval e X.env)::Be es X.env:=by rfl)(c:(Gh pos (Be es X.env)).any (·.1)=false:=by rfl):PE X (.Call (.Name x p) (e::es) [] pos) (FP r t):=by
 intro a s d H Q I h
 refine Ks (Qc I q v f ?_ o b)
 exact Jw (Gk (j pos a s d H _ I h) λk n ⟨vs,g,w,m,l⟩=>u a n d g vs k Q w m l) i c
end
end L2
namespace HT
open PySem PyProof.Rows
def lexLt:List Int->List Int->Bool
 | [],[]=>false
 | [],_::_=>true
 | _::_,[]=>false
 | x::xs,y::ys=>if x=y then lexLt xs ys else decide (x<y)
theorem lexLt_cons(x y:Int)(xs ys:List Int):lexLt (x::xs) (y::ys)=if x=y then lexLt xs ys else decide (x<y):=rfl
theorem lexLt_nil_nil:lexLt [] []=false:=rfl
theorem lexLt_nil_cons(y:Int)(ys:List Int):lexLt [] (y::ys)=true:=rfl
theorem lexLt_cons_nil(x:Int)(xs:List Int):lexLt (x::xs) []=false:=rfl
theorem F4(A:Df)(s:Al)(a:Int)(t:Tok)(c:Int)(u:Tok):∃e,Na A s (.int a t) (.int c u) e/\(e=true↔a=c) :=
 ⟨(a == c),SeqAt.EqAt.int_int a t c u,by simp⟩
theorem w8(A:Df)(s:Al)(a:Int)(t:Tok)(c:Int)(u:Tok)(prog:Bq)(w:World)(E:Value->Al->Prop)(Q:Value->Al->Prop)(h:Q (.bool (decide (a<c))) s):wpAny (model prog w) A (richCompare .Lt (.int a t) (.int c u)) Q E s :=
 (PyProof.Rows.lt_int h:wpAny (model prog w) A (Hv .Lt (.int a t) (.int c u)) Q E s)
section
open PySem.SeqAt
open PySem.AutoSeq1 (wpAny_loadPart')
open PySem.MeetsSeq PySem.MeetsSeq2 PySem.MeetsSeq3
theorem tuple_lt_ints(l b:Addr)(i f:Array Value)(n Y:Nat)(U O:Option Addr)(V M:Array (Option Value))(H F:List Int)(Q:Lo i.toList H)(S:Lo f.toList F):Meets (Builtin.«tuple.__lt__» ⟨[.ref l,.ref b],[]⟩) (λ_ R s=>s.heap.get? l=some { cls:=.type "tuple",dict:=U,data:=.seq i n,slots:=V }/\s.heap.get? b=some { cls:=.type "tuple",dict:=O,data:=.seq f Y,slots:=M }/\R (.ok (.ret (.bool (lexLt H F)))) s) :=
 .of_wp λz w A R s h=>by
  obtain ⟨G,g,d,J,os⟩:=s; obtain ⟨X,Z,h⟩:=h
  have f2:=AutoSeq1.sub_tuple_tuple
  have z1:i.size=H.length:=by rw[<- Q.length]; simp
  have z2:f.size=F.length:=by rw[<- S.length]; simp
  wp_walk using Ww X,Ww Z,Um _ (λGi b K=>b.1=none/\K=⟨G,g,d,J,os⟩/\∃(vs I:List Value) (k m:List Int),Gi=vs.zip I /\
   Lo vs k/\Lo I m/\k.length+f.size=m.length+i.size/\R (.ok (.ret (.bool (lexLt k m)))) ⟨G,g,d,J,os⟩) _
  case turn =>
   (rintro ⟨y,x⟩ Gi b K L; obtain ⟨B,rfl,vs,I,k,m,p,C,o,j,r⟩ := L)
   cases C with
   | nil=>rw[List.zip_nil_left] at p; cases p
   | cons a t E =>
    cases o with
    | nil=>rw[List.zip_nil_right] at p; cases p
    | cons c u D =>
     rw[List.zip_cons_cons] at p
     injection p with hyx hrest
     injection hyx with hy hx
     subst hy hx
     rw[lexLt_cons] at r
     simp only[Bi] at j
     obtain ⟨e,T,v⟩:=F4 A.in1 ⟨G,g,d,J,os⟩ a t c u
     refine Ag (T z w _ _ ?_)
     cases e with
     | true =>
      rw[if_pos (v.mp rfl)] at r
      wp_walk
      exact ⟨rfl,rfl,_,_,_,_,hrest,E,D,by omega,r⟩
     | false =>
      rw[if_neg (λq=>absurd (v.mpr q) Cg)] at r
      have N:=w8 A.in1 ⟨G,g,d,J,os⟩ a t c u z w
      wp_walk using N
      exact ⟨_,rfl,by simpa using r⟩
  case fin =>
   (rintro ⟨b1,b2⟩ K L; obtain ⟨B,rfl,vs,I,k,m,p,C,o,j,r⟩ := L)
   simp only at B
   subst B
   have P:lexLt k m=decide (i.size<f.size):=by
    cases C with
    | nil =>
     cases o with
     | nil =>
      simp only[Fz] at j
      rw[lexLt_nil_nil]
      exact (decide_eq_false (by omega)).symm
     | cons c u W =>
      simp only[Fz,Bi] at j
      rw[lexLt_nil_cons]
      exact (decide_eq_true (by omega)).symm
    | cons a t P =>
     cases o with
     | nil =>
      simp only[Fz,Bi] at j
      rw[lexLt_cons_nil]
      exact (decide_eq_false (by omega)).symm
     | cons c u W =>
      rw[List.zip_cons_cons] at p
      cases p
   rw[P] at r
   wp_walk
   exact ⟨_,rfl,by simpa [Builtin.Tuple.tupleCompareSizes] using r⟩
  case h =>
   exact ⟨rfl,rfl,i.toList,f.toList,H,F,rfl,Q,S,by omega,h⟩
end
section
variable{prog:Bq}{w:World}{A:Df}{E:Value->Al->Prop}{s:Al}
theorem cat_tup{t b:Addr}{vs ws:List Value}{Q:Value->Al->Prop}(u:IsTup s.heap t vs.toArray)(hb:IsTup s.heap b ws.toArray)(k:vs≠[])(h1:ws=[]->Q (.ref t) s)(v:ws≠[]->Q (.ref s.heap.objs.size) { s with heap:=s.heap.push { cls:=.type "tuple",data:=.seq (vs++ws).toArray } })(j:vs.length+ws.length<=Bc):wpAny (model prog w) A (Lh .Add (.ref t) (.ref b)) Q E s:=by
 obtain ⟨⟨cls,q,data,o⟩,h,p,n,l⟩:=id u
 obtain ⟨⟨r,d,data2,g⟩,a,f,m,c⟩:=id hb
 simp only at p l f c
 subst p l f c
 have e:vs.toArray++ws.toArray=(vs++ws).toArray:=by simp
 by_cases i:ws=[]
 ·exact iB ⟨_,h,rfl⟩ ⟨_,a,rfl⟩ Uq dO PySem.F.slot_tuple_add PySem.F.entry_tuple_add (PySem.F.args_tuple_add_2 _ _)
   (tuple_addW1 t b vs.toArray ws.toArray n m q d o g (by simpa using k) (by simp [i])) ⟨h,a,h1 i⟩
 ·refine iB ⟨_,h,rfl⟩ ⟨_,a,rfl⟩ Uq dO PySem.F.slot_tuple_add PySem.F.entry_tuple_add (PySem.F.args_tuple_add_2 _ _)
   (tuple_addW2 t b vs.toArray ws.toArray n m q d o g (by simpa using k) (by simpa using i) (by rw[Au,Au]; exact j)) ⟨h,a,?_⟩
  rw[e]
  exact v i
def sIx(n d:Nat):Option Int->Nat
 | none=>d
 | some v=>if v<0 then (v+(n:Int)).toNat else min v.toNat n
theorem sIx_none(n d:Nat):sIx n d none=d:=rfl
theorem sIx_nat(n d k:Nat):sIx n d (some (k:Int))=min k n:=by
 show (if (k:Int)<0 then ((k:Int)+(n:Int)).toNat else min (k:Int).toNat n)=min k n
 rw[if_neg (by omega),Ds]
theorem CP(n d:Nat)(hd:d<=n)(o:Option Int):sIx n d o<=n:=by
 cases o with
 | none=>exact hd
 | some v =>
  show (if v<0 then (v+(n:Int)).toNat else min v.toNat n)<=n
  by_cases a:v<0
  ·rw[if_pos a]; omega
  ·rw[if_neg a]; exact Nat.min_le_right _ _
theorem uO(v:Int)(n d:Nat):(if v<0 then max (v+(n:Int)) 0 else min v (n:Int))=((sIx n d (some v):Nat):Int):=by
 show (if v<0 then max (v+(n:Int)) 0 else min v (n:Int))=(((if v<0 then (v+(n:Int)).toNat else min v.toNat n):Nat):Int)
 by_cases a:v<0
 ·simp only[if_pos a]; omega
 ·simp only[if_neg a]; omega
theorem pF(lo a:Option Int)(n:Nat):Nq lo a 1 (n:Int)=(((sIx n 0 lo:Nat):Int),((sIx n n a:Nat):Int)):=by
 have b:¬ ((1:Int)<0):=by omega
 unfold Nq
 simp only[b,if_false]
 refine Prod.ext ?_ ?_
 ·cases lo with
  | none=>rfl
  | some v=>exact uO v n 0
 ·cases a with
  | none=>rfl
  | some v=>exact uO v n n
theorem qT(i j:Nat):Kf (i:Int) (j:Int) 1=j - i:=by
 unfold Kf
 have a:(1:Int) > 0:=by omega
 simp only[a,if_true,Int.ediv_one]
 split <;> omega
theorem bF{v:Value}{o:Option Int}{Q:Option Int->Al->Prop}(p:Zb v o)(h:Q o s):wpAny (model prog w) A (Builtin.Slice.slicePartIndex v) Q E s:=by
 cases p with
 | none=>exact slicePart_none h
 | int i t=>exact slicePart_int h
theorem sliceApplied_gen{f:Addr}{d e:Value}{lo b:Option Int}{n:Nat}{Q:Int×Int×Nat->Al->Prop}(i:s.heap.IsSliceOf f d e .none)(g:Zb d lo)(j:Zb e b)(h:Q (((sIx n 0 lo:Nat):Int),1,sIx n n b - sIx n 0 lo) s):wpAny (model prog w) A (Xh (.ref f) (pure (n:Int))) Q E s:=by
 obtain ⟨os,c,k,a⟩:=id i
 unfold Xh Builtin.Slice.sliceFields
 refine Ag (Ag (wpAny_field c a (x:=d) rfl (Ag (wpAny_field c a (x:=e) rfl (Ag (wpAny_field c a (x:=.none) rfl (Aw ?_)))))))
 refine Ag (slicePart_none ?_)
 show wpAny _ _ (if ((1:Int) == 0)=true then _ else _) _ _ s
 rw[if_neg (by decide)]
 refine Ag (bF g (Ag (bF j (Ag (Aw ?_)))))
 show wpAny _ _ (match Nq lo b 1 (n:Int) with | (lo,b)=>pure (lo,(1:Int),Kf lo b 1)) _ _ s
 rw[pF lo b n]
 show wpAny _ _ (pure (((sIx n 0 lo:Nat):Int),(1:Int),Kf ((sIx n 0 lo:Nat):Int) ((sIx n n b:Nat):Int) 1)) _ _ s
 rw[qT]
 exact Aw h
theorem j7(xs:Array Value)(i k:Nat):((Ce k).filterMap λ(m:Nat)=>xs[((i:Int)+(m:Int) * 1).toNat]?).toArray=((xs.toList.drop i).take k).toArray:=by
 have e:(λ(m:Nat)=>xs[((i:Int)+(m:Int) * 1).toNat]?)=λm=>xs[i+m]?:=by
  funext m
  have : ((i:Int)+(m:Int) * 1).toNat=i+m:=by omega
  rw[this]
 rw[e]
 have:=pick_run xs i k
 rw[List.filterMap_map] at this
 have a:((λx=>xs[x]?) ∘ λx=>i+x)=λm=>xs[i+m]?:=rfl
 rw[a] at this
 rw[this]
theorem getItem_tuple_cut{t g:Addr}{a:Array Value}{l k:Value}{lo c:Option Int}{Q:Value->Al->Prop}(d:IsTup s.heap t a)(n:s.heap.IsSliceOf g l k .none)(r:Zb l lo)(u:Zb k c)(hw:¬ (sIx a.size 0 lo=0/\sIx a.size a.size c=a.size))(h:Q (.ref s.heap.objs.size) { s with heap:=s.heap.push { cls:=.type "tuple",data:=.seq ((a.toList.drop (sIx a.size 0 lo)).take (sIx a.size a.size c - sIx a.size 0 lo)).toArray } })(p:a.size<=Bc):wpAny (model prog w) A (Sz (.ref t) (.ref g)) Q E s:=by
 have b:sizeOk (.seq ((a.toList.drop (sIx a.size 0 lo)).take (sIx a.size a.size c - sIx a.size 0 lo)).toArray):=by
  show ((a.toList.drop (sIx a.size 0 lo)).take (sIx a.size a.size c - sIx a.size 0 lo)).toArray.size<=Bc
  rw[Au,Cu,Ih,An]
  omega
 have y:sIx a.size a.size c<=a.size:=CP _ _ (Aj _) c
 obtain ⟨os,j,f,o⟩:=id n
 have i:s.TypeIs (.ref g) "slice" := ⟨os,j,f⟩
 unfold Sz
 try with_reducible refine Eg ?_
 first | refine Ag (Aw ?_) | skip
 refine Ag (wpAny_sequenceKey d.typeIs (by decide) ?_)
 refine Ag (K6 (name:=aJ "__getitem__") d.typeIs Fg
  (Uo Fg d.typeIs entry_tuple_getitem ?_ (args_tuple_getitem _ _)))
 show wpAny _ _ (Xf (.ref t) >>= _) _ _ s
 refine Ag (tupleItemsOf_ d ?_)
 refine Ag (Nl i ?_)
 rw[if_pos (by decide)]
 refine Ag (sliceApplied_gen n r u ?_)
 have e:¬ ((((sIx a.size 0 lo:Nat):Int) == 0 && (1:Int) == 1 && (sIx a.size a.size c - sIx a.size 0 lo) == a.size)=true):=by
  intro q
  rw[Ff,Ff] at q
  have x:((sIx a.size 0 lo:Nat):Int)=0:=Ed q.1.1
  have v:sIx a.size a.size c - sIx a.size 0 lo=a.size:=Ed q.2
  exact hw ⟨by omega,by omega⟩
 show wpAny _ _ (if (((sIx a.size 0 lo:Nat):Int) == 0 && (1:Int) == 1 && (sIx a.size a.size c - sIx a.size 0 lo) == a.size)=true then _ else _) _ _ s
 rw[if_neg e,j7]
 first
  | exact Ag (m:=Ky _) (Hf (Aw ⟨_,rfl,Aw h⟩) b)
  | exact Ag (m:=Ky _) (Hf (Ag (Aw (Aw ⟨_,rfl,Aw h⟩))) b)
  | exact Ag (Ag (m:=Ky _) (Hf (Aw (Aw ⟨_,rfl,Aw h⟩)) b))
  | exact Ag (Ag (m:=Ky _) (Hf (Aw ⟨_,rfl,Aw h⟩) b))
end
end HT
namespace L2
open PySem PySem.Spec PyProof.Rows
abbrev TO:=St->Hp->(Option Int->Hp->Prop)->Prop
def PO(X:Cx)(e:Option Expr)(t:TO):Prop :=
 ∀(a:List (Addr×Obj)) (s:Al) (b:St) (H:Hp) (Q:Option Int->Hp->Prop),Inv X a b H s->t b H Q ->
  wpAny (model X.prog X.w) X.A (evalPart e X.env) (λu d=>∃o c,Inv X a b c d/\Zb u o/\Q o c) X.xe s
def O8:TO:=λ_ H Q=>Q none H
def HG(t:TE):TO:=λb H Q=>t b H λx a=>∃i,x=.int i/\Q (some i) a
theorem intsAre_of{a:List Int}:∀{us:List Value},Gv (a.map V.int) us->Lo us a:=by
 induction a with
 | nil=>intro us r; rw[Pg] at r; cases r; exact .nil
 | cons n a b =>
  intro us r
  rw[Ax] at r
  cases r with
  | cons d c =>
   obtain ⟨t,e⟩:=d
   subst e
   exact .cons n t (b c)
section
variable{X:Cx}{e:Expr}{d:TE}{lo c:Option Expr}{g f:TO}{pos j:Pos}
theorem Q7:PO X none O8:=by
 intro a s b H Q I h
 rw[evalPart_none]
 exact Aw ⟨none,H,I,.none,h⟩
theorem V9(h:PE X e d):PO X (some e) (HG d):=by
 intro a s f H Q I g
 rw[evalPart_some]
 refine Gk (h a s f H _ I g) λu m b => ?_
 obtain ⟨x,c,l,k,j⟩ := b
 obtain ⟨i,rfl,q⟩:=j
 obtain ⟨t,rfl⟩:=k
 exact ⟨some i,c,l,.int i t,q⟩
def EH(X:Cx)(r:V->Option Int->Option Int->Hp->VK->Prop):Prop :=
 ∀(a:List (Addr×Obj)) (s:Al) (b:St) (H:Hp) (x:V) (v d f:Value) (lo c:Option Int) (e:Addr) (Q:VK),Inv X a b H s->RelV x v->s.heap.IsSliceOf e d f .none->Zb d lo->Zb f c->r x lo c H Q ->
  ∃T id,typeLookup (.type T) "__getitem__" = pure (some (.builtin id))/\s.TypeIs v T/\wpAny (model X.prog X.w) X.A (Sz v (.ref e)) (EP X a b Q) X.xe s
theorem EH.or{r k:V->Option Int->Option Int->Hp->VK->Prop}(h:EH X r)(h':EH X k):EH X (λx lo c H Q=>r x lo c H Q\/k x lo c H Q):=by
 intro a s e H x v f l lo c i Q I d g b j q
 rcases q with q | q
 ·exact h a s e H x v f l lo c i Q I d g b j q
 ·exact h' a s e H x v f l lo c i Q I d g b j q
def MK(r:V->Option Int->Option Int->Hp->VK->Prop)(d:TE)(g f:TO):TE:=λa H Q=>d a H λx b=>g a b λl c=>f a c λu e=>r x l u e Q
theorem oD{r:V->Option Int->Option Int->Hp->VK->Prop}(P:EH X r)(t:PE X e d)(hl:PO X lo g)(D:PO X c f):PE X (.Subscript e (.Slice lo c none j) pos) (MK r d g f):=by
 intro a s m H Q I h
 refine Subscript_ (Gk (t a s m H _ I h) λv W k => ?_)
 obtain ⟨x,K,R,B,G⟩ := k
 refine wpAny_Slice (Gk (hl a W m K _ R G) λo C ⟨l,U,F,L,z⟩=>Gk (D a C m U _ F z) λn i k => ?_)
 obtain ⟨u,p,J,M,E⟩ := k
 rw[evalPart_none]
 refine Aw ?_
 have y:Inv X a m p { i with heap:=i.heap.push { cls:=.type "slice",data:=.fields #[o,n,.none] } }:=J.kept (t':=i.toks) λb Y q=>Av _ q
 obtain ⟨T,id,N,S,O⟩:=P a { i with heap:=i.heap.push { cls:=.type "slice",data:=.fields #[o,n,.none] } } m p x v o n l u i.heap.objs.size Q y B (Heap.IsSliceOf.new ..) L M E
 show wpAny (model X.prog X.w) X.A (subscriptTail e (.Slice lo c none j) v (.ref i.heap.objs.size)) (EP X a m Q) X.xe { i with heap:=i.heap.push { cls:=.type "slice",data:=.fields #[o,n,.none] } }
 exact tail_any (ops:=[.ref i.heap.objs.size,v]) S N O (by with_unfolding_all rfl)
def bK(xs:List V)(lo c:Option Int):List V:=(xs.drop (HT.sIx xs.length 0 lo)).take (HT.sIx xs.length xs.length c - HT.sIx xs.length 0 lo)
theorem Yt(xs:List V)(lo c:Option Int):(bK xs lo c).length<=xs.length:=by
 unfold bK
 rw[Cu,Ih]
 omega
def KN(K:PySem.W.Frag):V->Option Int->Option Int->Hp->VK->Prop:=λx lo c H Q=>∃a b,x=.ref a/\Tz K H a b /\
 ¬ (HT.sIx b.length 0 lo=0/\HT.sIx b.length b.length c=b.length)/\∀p,H p=none->Q (.ref p) (upd H p (.tup (bK b lo c)))
theorem CW:EH X (KN X.K):=by
 intro j s u H x v w A lo c z Q I l n k t h
 obtain ⟨a,e,rfl,m,p,q⟩:=h
 cases l
 obtain ⟨f,r,g,i⟩:=I.tuple m
 have d:f.toArray.size=e.length:=by rw[Au]; exact r.length.symm
 refine ⟨"tuple",_,Fg.lookup,g.typeIs,?_⟩
 refine HT.getItem_tuple_cut g n k t (by rw[d]; exact p) ?_ (by rw[d]; exact i)
 rw[d]
 refine ⟨.ref s.heap.objs.size,_,I.laid (t':=s.toks) (o:=.tup (bK e lo c)) (λb y q=>Av _ q) (Aj _) ?_,rfl,q _ (I.hok.fresh (Aj _))⟩
 exact ⟨Bz (Yt e lo c) i,_,(r.drop (HT.sIx e.length 0 lo)).take (HT.sIx e.length e.length c - HT.sIx e.length 0 lo),IsTup.new _ _⟩
def FH(K:PySem.W.Frag):R2:=λx y H Q=>∃a b d c,x=.ref a/\y=.ref b/\Tz K H a d/\Tz K H b c/\d≠[]/\d.length+c.length<=Bc /\
 (c=[]->Q (.ref a) H)/\(c≠[]->∀p,H p=none->Q (.ref p) (upd H p (.tup (d++c))))
theorem Gv.nil_iff{xs:List V}{us:List Value}(r:Gv xs us):us=[]↔xs=[]:=by
 cases r with
 | nil=>simp
 | cons _ _=>simp
theorem tN:Vn X (Lh .Add) (FH X.K):=by
 intro f s D H x y v u Q I m k h
 obtain ⟨a,b,l,B,rfl,rfl,n,C,p,e,A,t⟩:=h
 cases m
 cases k
 obtain ⟨i,d,r,_⟩:=I.tuple n
 obtain ⟨g,c,j,_⟩:=I.tuple C
 refine HT.cat_tup r j (λz=>p (d.nil_iff.mp z)) (λz=>⟨.ref a,H,I,rfl,A (c.nil_iff.mp z)⟩) (λz=>?_) (by rw[<- d.length,<- c.length]; exact e)
 refine ⟨.ref s.heap.objs.size,_,I.laid (t':=s.toks) (o:=.tup (l++B)) (λb E q=>Av _ q) (Aj _) ?_,rfl,t (λw=>z (c.nil_iff.mpr w)) _ (I.hok.fresh (Aj _))⟩
 exact ⟨by rw[Ar]; exact e,_,d.append c,IsTup.new _ _⟩
end
def rX(n:Nat)(i:Int):Option Nat:=if 0<=i then (if i<n then some i.toNat else none) else if -(n:Int)<=i then some (i+n).toNat else none
def Xj{a:Type}(xs:List a)(i:Int):Option a:=(rX xs.length i).bind λj=>xs[j]?
theorem kH{n:Nat}{i:Int}{j:Nat}(h:rX n i=some j):seqIndex? i n=some j/\j<n /\ -(n:Int)<=i/\i<n:=by
 unfold rX at h
 by_cases b:0<=i
 ·rw[if_pos b] at h
  by_cases a:i<n
  ·rw[if_pos a] at h
   have e:i.toNat=j:=Bl h
   exact ⟨by rw[seqIndex_of b a,e],by omega,by omega,a⟩
  ·rw[if_neg a] at h; cases h
 ·rw[if_neg b] at h
  by_cases a:-(n:Int)<=i
  ·rw[if_pos a] at h
   have e:(i+n).toNat=j:=Bl h
   exact ⟨by rw[seqIndex_neg (by omega) a,e],by omega,a,by omega⟩
  ·rw[if_neg a] at h; cases h
theorem iP{a:Type}{xs:List a}{i:Int}{v:a}(h:Xj xs i=some v):∃j,seqIndex? i xs.length=some j/\xs[j]? = some v/\j<xs.length /\ -(xs.length:Int)<=i/\i<xs.length:=by
 unfold Xj at h
 cases e:rX xs.length i with
 | none=>rw[e] at h; cases h
 | some j =>
  rw[e] at h
  obtain ⟨f,b,d,c⟩:=kH e
  exact ⟨j,f,h,b,d,c⟩
theorem jR{a:Type}{xs:List a}{j:Nat}{v:a}(h:xs[j]? = some v):Xj xs (j:Int)=some v:=by
 have b:j<xs.length:=(Ak.mp h).1
 have e:rX xs.length (j:Int)=some j:=by
  unfold rX
  rw[if_pos (by omega),if_pos (by omega)]; simp
 unfold Xj; rw[e]; exact h
theorem lX{a:Type}(xs:List a)(v:a):Xj (xs++[v]) (-1)=some v:=by
 have b:(xs++[v]).length=xs.length+1:=by simp
 have e:rX (xs++[v]).length (-1)=some xs.length:=by
  unfold rX
  rw[b,if_neg (by decide),if_pos (by omega)]
  congr 1
  omega
 unfold Xj
 rw[e]
 show (xs++[v])[xs.length]? = some v
 simp
def kB(b:Expr):Prop:=∀o i,subscripted b false o i=operate [o,i] (Sz o i)
def O9(X:Cx)(r:R2):Prop :=
 ∀(c a:Expr) (b:List (Addr×Obj)) (s:Al) (d:St) (H:Hp) (x y:V) (v u:Value) (Q:VK),Inv X b d H s->RelV x v->RelV y u->r x y H Q ->
  subscripted a false v u=operate [v,u] (Sz v u)->wpAny (model X.prog X.w) X.A (subscriptTail c a v u) (EP X b d Q) X.xe s
def MH(X:Cx)(id:String)(r:V->List V->Hp->VK->Prop):Prop :=
 ∀(a:List (Addr×Obj)) (s:Al) (b:St) (H:Hp) (x:V) (d:List V) (v:Value) (c:List Value) (Q:VK),Inv X a b H s->RelV x v->Gv d c->r x d H Q ->
  wpAny (model X.prog X.w) X.A (call (.builtin id) (v::c)) (EP X a b Q) X.xe s
section
variable{X:Cx}{a b:Expr}{B A:TE}{pos:Pos}
theorem O9.or{r i:R2}(h:O9 X r)(h':O9 X i):O9 X (λx y H Q=>r x y H Q\/i x y H Q):=by
 intro b a c s f H x y v u Q I e d q g
 rcases q with q | q
 ·exact h b a c s f H x y v u Q I e d q g
 ·exact h' b a c s f H x y v u Q I e d q g
theorem aR{r:R2}(l:O9 X r)(f:PE X a B)(hb:PE X b A)(j:kB b):PE X (.Subscript a b pos) (FK r B A):=by
 intro c s g H Q I h
 exact Subscript_ (AH f hb I h λv u m x y i k e d q=>l a b c m g i x y v u Q k e d q (j _ _))
def HE(K:PySem.W.Frag):R2:=λx y H Q=>∃p a i v,x=.ref p/\y=.int i/\Qf K H p a/\Xj a i=some v/\Q v H
def HJ(K:PySem.W.Frag):R2:=λx y H Q=>∃p a i v,x=.ref p/\y=.int i/\Tz K H p a/\Xj a i=some v/\Q v H
def GH:R2:=λx y H Q=>∃z i c,x=.str z/\y=.int i/\z.length<=Bc/\Xj z.cps.toList i=some c/\Q (.str ⟨#[c]⟩) H
theorem Th:O9 X (HE X.K):=by
 intro f e a s o H x y v u Q I F D h A
 obtain ⟨p,N,i,z,rfl,rfl,M,B,q⟩:=h
 cases F
 obtain ⟨t,rfl⟩:=D
 obtain ⟨d,r,g,P⟩:=I.list M
 obtain ⟨j,c,L,R,G,C⟩:=iP B
 obtain ⟨w,m,l⟩:=r.get L
 have J:=r.length
 have O:=Ux
 have b:EP X a o Q w s:=⟨z,H,I,l,q⟩
 by_cases n:0<=i
 ·have k:i.toNat=j:=by
   rw[seqIndex_of n C] at c
   exact Bl c
  exact item_listR g.isList n (by omega) (by rw[k]; simpa using m) b A
 ·have k:(i+(d.toArray.size:Int)).toNat=j:=by
   rw[seqIndex_neg (by omega) G] at c
   rw[Au,<- J]
   exact Bl c
  exact K9 (x:=w) g.isList.typeIs IT.lookup
   (wpAny_getItem_list_neg (Q:=λr E=>r=w/\EP X a o Q r E) g.isList (by omega) (by rw[Au] <;> omega) (by omega) (by rw[k]; simpa using m) ⟨rfl,b⟩) A
theorem JT:O9 X (HJ X.K):=by
 intro d c a s g H x y v u Q I o m h D
 obtain ⟨p,J,i,z,rfl,rfl,F,l,q⟩:=h
 cases o
 obtain ⟨t,rfl⟩:=m
 obtain ⟨k,r,f,N⟩:=I.tuple F
 obtain ⟨j,E,C,O,L,G⟩:=iP l
 obtain ⟨w,A,e⟩:=r.get C
 have B:=r.length
 have M:=Ux
 have b:EP X a g Q w s:=⟨z,H,I,e,q⟩
 exact K9 (x:=w) f.typeIs slot_tuple_getitem.lookup
  (getItem_tuple (j:=j) (Q:=λr n=>r=w/\EP X a g Q r n) f (by omega) (by omega) (by rw[Au,<- B]; exact E) (by simpa using A) ⟨rfl,b⟩) D
theorem EF:O9 X GH:=by
 intro b a e s C H x y v u Q I l k h w
 obtain ⟨z,i,c,rfl,rfl,D,f,q⟩:=h
 obtain ⟨t,rfl⟩:=l
 obtain ⟨A,rfl⟩:=k
 obtain ⟨j,d,r,E,m,g⟩:=iP f
 have n:z.cps.toList.length=z.length:=by simp [Str.length]
 rw[n] at d m g
 have B:=Ux
 exact tail_any (typeIs_str s z t) slot_str_getitem.lookup (getItem_str (c:=c) (by
  have o:decide (i < -(2 ^ 63:Int))=false:=decide_eq_false (by omega)
  have p:decide (i ≥ 2 ^ 63)=false:=decide_eq_false (by omega)
  rw[o,p,Bool.or_false]) (by rw[d]; simpa using r) ⟨.str ⟨#[c]⟩,H,I.tok _,⟨_,rfl⟩,q⟩) w
def LL(K:PySem.W.Frag):R2:=λx y H Q=>HE K x y H Q\/HJ K x y H Q\/GH x y H Q
theorem BX:O9 X (LL X.K):=Th.or (JT.or EF)
theorem rZ(a:List Value)(n j:Nat)(u:Value):Dt (·.setIfInBounds j u) { cls:=.type "list",data:=.seq a.toArray n }={ cls:=.type "list",data:=.seq (a.set j u).toArray n }:=by
 simp [Dt]
theorem Inv.lst{b:List (Addr×Obj)}{c:St}{H:Hp}{s:Al}{p:Addr}{xs:List V}(I:Inv X b c H s)(h:H p=some (.lst xs)):∃(a:List Value) (n:Nat),Gv xs a/\s.heap.get? p=some { cls:=.type "list",data:=.seq a.toArray n }/\xs.length<=Bc:=by
 obtain ⟨z,a,n,r,e⟩:=I.hok p _ h
 exact ⟨a,n,r,e,z⟩
theorem Inv.lstUpd{a:List (Addr×Obj)}{g:St}{H:Hp}{s:Al}{p:Addr}{xs ys:List V}{c its':List Value}{n n':Nat}{f:Obj->Obj}(I:Inv X a g H s)(h:H p=some (.lst xs))(i:s.heap.get? p=some { cls:=.type "list",data:=.seq c.toArray n })(d:f { cls:=.type "list",data:=.seq c.toArray n }={ cls:=.type "list",data:=.seq its'.toArray n' })(r:Gv ys its')(hz:ys.length<=Bc)(t:Nat):Inv X a g (upd H p (.lst ys)) { s with heap:=s.heap.update p f,toks:=t }:=by
 have e:(s.heap.update p f).get? p=some { cls:=.type "list",data:=.seq its'.toArray n' }:=by
  rw[Nc f i (by rw[d] <;> rfl),d]
 refine I.write (x:=p) (e:=p) (by rw[h]; trivial) (.inl rfl) (λb u j q=>(sM _ _ (Oh j)).trans q) ⟨_,e⟩ ?_
 exact ⟨hz,its',n',r,e⟩
def FD:V->V->V->Hp->(Hp->Prop)->Prop:=λo i v H Q=>∃p a k j,o=.ref p/\i=.int k/\H p=some (.lst a)/\rX a.length k=some j/\Q (upd H p (.lst (a.set j v)))
theorem mF:GG X FD:=by
 intro b s C H o i v F G u Q I B z y h
 obtain ⟨p,A,k,j,rfl,rfl,g,E,q⟩:=h
 cases B
 obtain ⟨t,rfl⟩:=z
 obtain ⟨a,n,r,f,D⟩:=I.lst g
 obtain ⟨c,K,x,l⟩:=kH E
 have e:=r.length
 have J:=Ux
 have m:Inv X b C (upd H p (.lst (A.set j v))) { s with heap:=s.heap.update p (Dt (·.setIfInBounds j u)) } :=
  I.lstUpd g f (rZ a n j u) (r.set y j) (by rw[List.length_set]; exact D) s.toks
 by_cases w:0<=k
 ·have d:k.toNat=j:=by
   rw[seqIndex_of w l] at c
   exact Bl c
  exact PySem.W.ki_setAt f w (by omega) (by rw[Au,<- e]; exact l) (by rw[d]; exact ⟨_,m,q⟩)
 ·have d:(k+(a.toArray.size:Int)).toNat=j:=by
   rw[seqIndex_neg (by omega) x] at c
   rw[Au,<- e]
   exact Bl c
  exact PySem.W.ki_setBack f (by omega) (by rw[Au,<- e]; exact x) (by omega) (by rw[d]; exact ⟨_,m,q⟩)
theorem iI(lo a:Option Int)(n:Nat):(Pr lo a none n).1=((HT.sIx n 0 lo:Nat):Int)/\(Pr lo a none n).2.1=((HT.sIx n n a:Nat):Int)/\(Pr lo a none n).2.2=1:=by
 refine ⟨?_,?_,rfl⟩
 ·cases lo with
  | none=>simp [Pr,HT.sIx]
  | some i =>
   simp only[Pr,HT.sIx,Option.getD_none,show (1:Int) > 0 by decide,if_true]
   by_cases h:i<0
   ·simp only[h,if_true] <;> omega
   ·simp only[h,if_false] <;> omega
 ·cases a with
  | none=>simp [Pr,HT.sIx]
  | some i =>
   simp only[Pr,HT.sIx,Option.getD_none,show (1:Int) > 0 by decide,if_true]
   by_cases h:i<0
   ·simp only[h,if_true] <;> omega
   ·simp only[h,if_false] <;> omega
theorem fA(a:List Value)(lo b:Option Int):slicePick a.toArray lo b none=((a.drop (HT.sIx a.length 0 lo)).take (HT.sIx a.length a.length b - HT.sIx a.length 0 lo)).toArray:=by
 obtain ⟨e,c,d⟩:=iI lo b a.toArray.size
 unfold slicePick
 rw[e,c,d]
 simp only[sliceRange_one,pick_run,Au] <;> rfl
def DW(K:PySem.W.Frag):V->Option Int->Option Int->Hp->VK->Prop:=λx lo c H Q=>∃a b,x=.ref a/\Qf K H a b/\∀p,H p=none->Q (.ref p) (upd H p (.lst (bK b lo c)))
theorem U7:EH X (DW X.K):=by
 intro g s t H x v u w lo e y Q I k n j p h
 obtain ⟨a,c,rfl,l,q⟩:=h
 cases k
 obtain ⟨i,r,f,m⟩:=I.list l
 have d:=r.length
 refine ⟨"list",_,IT.lookup,f.isList.typeIs,?_⟩
 refine wpAny_getItem_list_slice f.isList n j p .none (by simp) ?_ (by rw[Au] <;> omega)
 rw[fA,<- d]
 refine ⟨.ref s.heap.objs.size,_,I.laid (t':=s.toks) (o:=.lst (bK c lo e)) (λb z q=>Av _ q) (Aj _) ?_,rfl,q _ (I.hok.fresh (Aj _))⟩
 exact ⟨Bz (Yt c lo e) m,_,0,(r.drop (HT.sIx c.length 0 lo)).take (HT.sIx c.length c.length e - HT.sIx c.length 0 lo),Bs _ rfl⟩
theorem eU:Om X (.type "tuple") (λxs H Q=>∃p ys,xs=[.ref p]/\((Qf X.K H p ys/\∀l,H l=none->Q (.ref l) (upd H l (.tup ys)))\/(Tz X.K H p ys/\Q (.ref p) H))):=by
 intro a s k H xs x Q I r h
 obtain ⟨p,ys,rfl,h⟩:=h
 obtain ⟨u,rfl,t⟩:=vals1 r
 cases t
 rcases h with ⟨i,q⟩ | ⟨i,q⟩
 ·obtain ⟨c,g,f,j⟩:=I.list i
  have m:=g.length
  refine call_tuple_list f.isList (λd kp=>?_) (by simp only[Au] <;> omega)
  have n:Inv X a k H { s with heap:=d }:=I.kept (t':=s.toks) kp
  have v:Inv X a k (upd H d.objs.size (.tup ys)) { s with heap:=d.push { cls:=.type "tuple",data:=.seq c.toArray } } :=
   n.laid (t':=s.toks) (λb o e=>Av _ e) (Aj _) (show Jn X.prog X.w _ _ _ (.tup ys) from ⟨j,c,g,IsTup.new _ _⟩)
  exact ⟨.ref d.objs.size,_,v,rfl,q _ (n.hok.fresh (Aj _))⟩
 ·obtain ⟨c,g,f,j⟩:=I.tuple i
  exact call_tuple_same f ⟨.ref p,H,I,rfl,q⟩
def MD(K:PySem.W.Frag)(T:String)(x:V)(H:Hp):Prop:=match x with
 | .str _=>T = "str"
 | .int _=>T = "int"
 | .ref p=>(T = "list" /\ ∃b,Qf K H p b)\/(T = "tuple" /\ ∃o,K.lookup p=some o/\o.cls=.type "tuple" /\ o.dict=none) \/
   (T = "dict" /\ ((∃a,H p=some (.dK a))\/∃a,H p=some (.dT a)))\/(T = "set" /\ ∃S n,H p=some (.set S n))
 | _=>False
theorem BM{f:List (Addr×Obj)}{u:St}{H:Hp}{s:Al}{T:String}{x:V}{v:Value}(I:Inv X f u H s)(r:RelV x v)(g:MD X.K T x H):s.TypeIs v T/\∀a,v=.ref a->∃m,s.heap.get? a=some m/\m.dict=none:=by
 cases x with
 | str z =>
  obtain ⟨t,rfl⟩:=r
  cases (show T = "str" from g)
  exact ⟨typeIs_str s z t,λ_ e=>nomatch e⟩
 | int i =>
  obtain ⟨t,rfl⟩:=r
  cases (show T = "int" from g)
  exact ⟨typeIs_int s i t,λ_ e=>nomatch e⟩
 | ref p =>
  cases r
  rcases g with ⟨rfl,A,y⟩ | ⟨rfl,o,b,w,h⟩ | ⟨rfl,b⟩ | ⟨rfl,S,n,b⟩
  ·obtain ⟨q,_,l,_⟩:=I.list y
   refine ⟨l.isList.typeIs,λa e=>?_⟩
   cases e
   obtain ⟨o,n,e,c,h,_⟩:=l
   exact ⟨o,e,h⟩
  ·refine ⟨⟨o,I.kIn p o b,w⟩,λa e=>?_⟩
   cases e
   exact ⟨o,I.kIn _ o b,h⟩
  ·have z:∃o,s.heap.get? p=some o/\o.ExactDict:=by
    rcases b with ⟨k,b⟩ | ⟨k,b⟩
    ·obtain ⟨_,_,_,_,o,_,_,e,d,_⟩:=I.hok p _ b
     exact ⟨o,e,d⟩
    ·obtain ⟨_,_,_,_,o,_,_,e,d,_⟩:=I.hok p _ b
     exact ⟨o,e,d⟩
   obtain ⟨o,e,d⟩:=z
   refine ⟨⟨o,e,d.1⟩,λa j=>?_⟩
   cases j
   exact ⟨o,e,d.2.1⟩
  ·obtain ⟨o,_,_,_,e,d,_⟩:=I.hok p _ b
   refine ⟨⟨o,e,d.1⟩,λa j=>?_⟩
   cases j
   exact ⟨o,e,d.2.1⟩
 | _=>exact Lj g
def MU(K:PySem.W.Frag)(T:String)(r:V->List V->Hp->VK->Prop)(m:TE)(t:TA):TE:=λb H Q=>m b H λx a=>MD K T x a/\t b a λd c=>r x d c Q
variable{o e:Expr}{es:List Expr}{m:TE}{t:TA}{name:Str}{g d:Pos}{T id:String}{r:V->List V->Hp->VK->Prop}
theorem aX(F:PlainAttrs T)(slot:Slot T name id)(l:typeOf (.builtin id)=pure (.type "method_descriptor"))(D:MH X id r)(G:PE X o m)(A:PA X (e::es) t)
  (f:Iy o name X.env (eval o X.env)=eval o X.env:=by rfl)
  (i:((Gh d (Be (e::es) X.env)).all (λx=>!x.1) && (Pt d (Ko [] X.env)).all (λx=>x.1.isSome)
   && decide ((e::es).length+([]:List Je).length+(if ([]:List Je).isEmpty then 0 else 1)<30))=true:=by rfl)
  (c:(g.endLine == d.line)=true:=by rfl) (N:Be (e::es) X.env=(false,eval e X.env)::Be es X.env:=by rfl) (b:(Gh d (Be es X.env)).any (·.1)=false:=by rfl) :
  PE X (.Call (.Attribute o name g) (e::es) [] d) (MU X.K T r m t):=by
 intro a s k H Q I h
 refine wpAny_Call_method_late f i c rfl (Gk (G a s k H _ I h) λv P j => ?_)
 obtain ⟨x,E,q,n,u,C⟩ := j
 obtain ⟨O,M⟩:=BM q n u
 refine ⟨T,id,F,slot,l,O,M,?_⟩
 have p:=A d a P k E _ q C
 rw[N] at p ⊢
 refine Calls.callWith_builtin (by show (false || (Gh d (Be es X.env)).any (·.1))=false; rw[b] <;> rfl) (Calls.evalArgs_plain ?_)
 exact Gk p λy z ⟨vs,L,B,J,w⟩=>D a z k L x vs v y Q B n J w
end
def IV(X:Cx)(id:String)(r:V->List V->Hp->VK->Prop):Prop :=
 ∀(a:List (Addr×Obj)) (s:Al) (b:St) (H:Hp) (x:V) (d:List V) (v:Value) (c:List Value) (Q:VK),Inv X a b H s->RelV x v->Gv d c->r x d H Q ->
  wpAny (model X.prog X.w) X.A (call (.builtin id) (v::c)) (EP X a b Q) X.xe s
theorem Gv.one:∀{x:V} {us:List Value},Gv [x] us->∃u,us=[u]/\RelV x u
 | _,_,.cons r .nil=>⟨_,rfl,r⟩
theorem Gv.two{x y:V}{us:List Value}(h:Gv [x,y] us):∃u v,us=[u,v]/\RelV x u/\RelV y v:=by
 cases h with
 | cons r t =>
  cases t with
  | cons q t =>
   cases t
   exact ⟨_,_,rfl,r,q⟩
theorem Gv.eraseIdx:∀{xs:List V} {us:List Value} (i:Nat),Gv xs us->Gv (xs.eraseIdx i) (us.eraseIdx i)
 | _,_,_,.nil=>.nil
 | _,_,0,.cons _ t=>t
 | _,_,i+1,.cons r t=>.cons r (Gv.eraseIdx i t)
theorem fP{a:Type}:∀(l:List a) (i:Nat),(l.eraseIdx i).length<=l.length
 | [],_=>Aj _
 | _::_,0=>Oi _
 | _::r,i+1=>Nat.succ_le_succ (fP r i)
section
variable{X:Cx}{a:List (Addr×Obj)}{c:St}{H:Hp}{s:Al}{l b:Addr}{xs ys d:List V}
theorem Inv.lset{b its':List Value}{n:Nat}{f:Array Value->Array Value}{t':Nat}(I:Inv X a c H s)(h:H l=some (.lst xs))(e:s.heap.get? l=some { cls:=.type "list",data:=.seq b.toArray n })(g:f b.toArray=its'.toArray)(d:Gv ys its')(hz:ys.length<=Bc):Inv X a c (upd H l (.lst ys)) { s with heap:=s.heap.update l (Dt f),toks:=t' }:=by
 have q:=PySem.IsL.update e f
 rw[g] at q
 refine I.write (x:=l) (e:=l) (by rw[h]; exact trivial) (.inl rfl) (λk u j i=>(sM s.heap (Dt f) (Oh j)).trans i) ⟨_,q⟩ ?_
 exact ⟨hz,its',_,d,q⟩
theorem Inv.lnew{b:List Value}{t':Nat}(I:Inv X a c H s)(d:Gv ys b)(hz:ys.length<=Bc):Inv X a c (upd H s.heap.objs.size (.lst ys)) { s with heap:=s.heap.push { cls:=.type "list",data:=.seq b.toArray },toks:=t' } :=
 I.laid (λ_ _ q=>Av _ q) (Aj _) ⟨hz,b,0,d,Bs _ rfl⟩
theorem Inv.fresh(I:Inv X a c H s):H s.heap.objs.size=none:=I.hok.fresh (Aj _)
theorem Inv.lstM(I:Inv X a c H s)(d:H l=some (.lst xs)):xs.length<=Bc/\∃(b:List Value) (n:Nat),Gv xs b/\xs.length=b.length/\s.heap.get? l=some { cls:=.type "list",data:=.seq b.toArray n }:=by
 obtain ⟨z,b,n,r,e⟩:=I.hok l _ d
 exact ⟨z,b,n,r,r.length,e⟩
theorem yT{n:Nat}(h:n<=Bc):Pb n=false:=by
 unfold Pb
 exact decide_eq_false (by omega)
end
section
variable{X:Cx}
def P0:V->List V->Hp->VK->Prop:=λx vs H Q=>∃l a y,x=.ref l/\vs=[y]/\H l=some (.lst a)/\a.length<Bc/\Q .non (upd H l (.lst (a++[y])))
theorem Nz:IV X "list.append" P0:=by
 intro c s k H x vs v o Q I f d h
 obtain ⟨l,j,y,rfl,rfl,b,m,q⟩:=h
 cases f
 obtain ⟨u,rfl,g⟩:=d.one
 obtain ⟨z,a,n,r,i,e⟩:=I.lstM b
 refine eE F.slot_list_append ⟨_,e,rfl⟩ F.entry_list_append (F.args_list_append_2 _ _) (PySem.list_append l a.toArray n u (by rw[Au]; omega)) ⟨e,?_⟩
 refine ⟨.non,_,I.lset (its':=a++[u]) b e (by simp) (r.append (.cons g .nil)) ?_,rfl,q⟩
 rw[Ar,Cp]
 omega
def S7:V->List V->Hp->VK->Prop:=λx vs H Q=>∃l b c a,x=.ref l/\vs=[.ref b]/\H l=some (.lst c)/\H b=some (.lst a)/\c.length+a.length<=Bc/\Q .non (upd H l (.lst (c++a)))
theorem wO:IV X "list.extend" S7:=by
 intro i s G H x vs v A Q I k j h
 obtain ⟨l,b,C,D,rfl,rfl,g,m,J,q⟩:=h
 cases k
 obtain ⟨u,rfl,o⟩:=j.one
 cases o
 obtain ⟨z,c,n,r,E,e⟩:=I.lstM g
 obtain ⟨B,a,p,w,t,y⟩:=I.lstM m
 have f:c.toArray.size+a.toArray.size<=Bc:=by rw[Au,Au]; omega
 have d:¬ (!c.toArray.isEmpty && Pb (c.toArray.size+a.toArray.size))=true:=by
  rw[yT f,Vm]
  exact Cg
 refine eE F.slot_list_extend ⟨_,e,rfl⟩ F.entry_list_extend (F.args_list_extend_2 _ _)
  (AutoSeq1.list_extend_list_list_0 l c.toArray n b a.toArray p d (by rw[Au]; omega) (by omega)) ⟨e,y,?_⟩
 refine ⟨.non,_,I.lset (its':=c++a) g e (by simp) (r.append w) ?_,rfl,q⟩
 rw[Ar]
 omega
def AU:V->List V->Hp->VK->Prop:=λx vs H Q=>∃l a i k y,x=.ref l/\vs=[.int i]/\H l=some (.lst a) /\ -(2 ^ 63)<=i/\i<2 ^ 63/\seqIndex? i a.length=some k/\a[k]? = some y/\Q y (upd H l (.lst (a.eraseIdx k)))
theorem yV:IV X "list.pop" AU:=by
 intro d s E H x vs v G Q I o j h
 obtain ⟨l,m,i,k,y,rfl,rfl,c,D,A,p,f,q⟩:=h
 cases o
 obtain ⟨u,rfl,C⟩:=j.one
 obtain ⟨t,rfl⟩:=C
 obtain ⟨z,a,n,r,g,e⟩:=I.lstM c
 obtain ⟨w,B,b⟩:=r.get f
 refine eE F.slot_list_pop ⟨_,e,rfl⟩ F.entry_list_pop (F.args_list_pop_2 _ _)
  (MeetsSeq.list_pop_at l a.toArray n i t k w (fitsIndex_both D A) (by rw[Au,<- g]; exact p) (by rw[<- Ir]; exact B) (by rw[Au]; omega)) ⟨e,?_⟩
 refine ⟨y,_,I.lset (its':=a.eraseIdx k) c e ?_ (r.eraseIdx k) ?_,b,q⟩
 ·show a.toArray.eraseIdxIfInBounds k=(a.eraseIdx k).toArray
  rw[List.eraseIdxIfInBounds_toArray]
 ·have:=fP m k
  omega
def EA:R2:=λx y H Q=>∃l b c a,x=.ref l/\y=.ref b/\H l=some (.lst c)/\H b=some (.lst a)/\c.length+a.length<=Bc/\∀p,H p=none->Q (.ref p) (upd H p (.lst (c++a)))
theorem pK:Vn X (Lh .Add) EA:=by
 intro d s B H x y v u Q I g f h
 obtain ⟨l,b,A,D,rfl,rfl,i,j,C,q⟩:=h
 cases g
 cases f
 obtain ⟨z,c,n,r,t,e⟩:=I.lstM i
 obtain ⟨E,a,w,k,o,m⟩:=I.lstM j
 refine PySem.P.add_list e m ?_ (by rw[Au,Au]; omega)
 have p:c.toArray++a.toArray=(c++a).toArray:=by simp
 rw[p]
 exact ⟨.ref _,_,I.lnew (t':=s.toks) (r.append k) (by rw[Ar]; omega),rfl,q _ I.fresh⟩
end
end L2
namespace Att
open PySem PySem.W PySem.Calls PyProof.Rows
theorem Zk{P:Params}{h:Heap}:∀(c:List Int) (vs:List Value),WellAll P h vs (c.map WData.int)->Lo vs c:=by
 intro c
 induction c with
 | nil =>
  intro vs w
  rw[Pg] at w
  cases w
  exact .nil
 | cons n c d =>
  intro vs w
  rw[Ax] at w
  cases w with
  | cons a b =>
   cases a
   exact .cons _ _ (d _ b)
theorem wI{l:OpenLaw}{n:Nat}(s:l.most=some n){P:Params}{h:Heap}{args:List WData}{c:List Value}(e:l.row.toRowW.claim.pre args=true)(m:WellAll P h c args):∃a vs b,c=[Bd a]/\args=[WData.list (b.map WData.int)]/\h.get? a=some { cls:=.type "list",data:=.seq vs.toArray }/\Lo vs b/\b.length<=n:=by
 have k:WShape.hasAll [] args [.list .int]=true:=(pre_splitW e).1
 have o:l.pre.holds [] { args:=args }=true:=(pre_splitW e).2
 obtain ⟨d,r,rfl,x,v⟩:=hasAllW_cons k
 obtain rfl:=hasAllW_nil v
 obtain ⟨z,rfl,w⟩:=hasW_list x
 obtain ⟨b,rfl⟩:=items_int w
 have g:b.length<=n:=by
  unfold OpenLaw.pre at o
  have j:(WTm.not (.lt (.lit (.int (n:Int))) (.len (.arg 0)))).holds [] { args:=[.list (b.map .int)] }=true:=by
   have j:=(holds_andW o).1
   rw[s] at j
   exact j
  have i:=condW_of j (w_not (w_lt w_lit (w_len_list (w_arg rfl))))
  rw[Ab] at i
  refine eJ λq=>?_
  have u:(n:Int)<((b.length:Nat):Int):=by omega
  first
   | (rw[decide_eq_true u] at i; exact absurd i (by decide))
   | (simp at i; omega)
 cases m with
 | cons p y =>
  cases y
  cases p with
  | list t f=>exact ⟨_,_,b,rfl,rfl,t,Zk b _ f,g⟩
theorem yD(l:OpenLaw)(args:List WData):l.row.toRowW.claim.post args (.bool true) args=true :=
 postW_of (r:=l.row.toRowW) (X:=(true == true))
  (show WShape.has [] (.bool true) .bool=true by first | rfl | decide | simp [WShape.has,WShape.arms,WShape.armsAll])
  (show (WTm.eq .res (.lit (.bool true))).value [] { args:=args,res:=some (.bool true),after:=args }=some (.bool (true == true)) from w_eq_bool (w_res rfl) w_lit) rfl
theorem attach_call{l:OpenLaw}{n:Nat}{q:Bq}{loose:List Str}{XP:(Str->Option Value)->Heap->Prop}{YP:World->Heap->Prop}{d:DefRec}(H:l.most=some n)(p:d.params.defaults=[])(call:∀(w:World) (s₀ b:Al) (mg u:Str->Option Value) (h:Addr) (o:Obj) (t m c:Value) (a:Addr) (vs:List Value) (k:List Int),Ground q loose [] XP w s₀ mg u b.heap->YP w b.heap->b.heap.get? h=some o->o.data=.func (docDef d.name d.params d.body d.scope t m c)->b.heap.CodeRec m d.name->mg d.name=some (.ref h)->b.heap.get? a=some { cls:=.type "list",data:=.seq vs.toArray }->Lo vs k->k.length<=n->b.gens=#[]->Iu (model l.prog w) Zn (.call (.ref h) ⟨[.ref a],[]⟩) (λr s'=>r=.ok (.ret (.bool true))/\OldK b.heap s'.heap/\s'.os=b.os/\Tc s'.gens) b):WalkO q loose XP YP l.row.toRowW d [] (λf vs=>PySem.call f vs):=by
 intro w s₀ b mg u G Y h o t m c dV kV J K x y s I B z O i A F v C
 obtain rfl:dV=.none:=Dflts.none y p
 obtain rfl:kV=.none:=Dflts.noKw y
 obtain ⟨a,vs,k,rfl,rfl,g,e,j⟩:=wI H i v
 refine enter_call (Qu (call w s₀ b mg u h o t m c a vs k G Y J (fd_plain K) x s g e j I) λr s' N=>?_)
 obtain ⟨rfl,L,M,D⟩:=N
 exact ⟨.inl ⟨.bool true,.bool true,[],rfl,λ_=>rfl,.bool true,yD l _,λ_=>⟨Dn,λ_ E=>(nomatch E)⟩⟩,L,M,D⟩
end Att
namespace L2
open PySem PySem.Spec PyProof.Rows
theorem fZ:∀{vs:List Value} {a:List Int},Lo vs a->Gv (a.map V.int) vs
 | _,_,.nil=>.nil
 | _,_,.cons n t h=>.cons ⟨t,rfl⟩ (fZ h)
def Ph(s:Stmt):Arguments:=match s with
 | .FunctionDef _ a _ _ _ _ _ _ _ _=>a
 | _=>{ posonlyargs:=[],args:=[],vararg:=none,kwonlyargs:=[],kw_defaults:=[],kwarg:=none,defaults:=[] }
def Le(s:Stmt):List Stmt:=match s with
 | .FunctionDef _ _ b _ _ _ _ _ _ _=>b
 | _=>[]
def Bv(s:Stmt):Scope:=match s with
 | .FunctionDef _ _ _ _ _ _ a _ _ _=>a
 | _=>{ kind:=.function,names:=[],isGenerator:=false,isCoroutine:=false }
abbrev Ig:uP:=λ_ _ _ _ _ _=>False
abbrev E0:XK:=λ_ _ _=>False
theorem Gf{X:Cx}:Rj Ig X E0:=λ_ _ _ _ _ _ _ h=>h.elim
structure Fun(K:PySem.W.Frag)(x qual:Str)(st:Stmt)(f:Addr)(fd:Cj):Prop where
 ex:∃(oc:Value) (od:Option Addr) (kV doc pm:Value) (an:Option Addr) (cdv ct:Value) (osl:Array (Option Value)),
  fd=PySem.W.fnOf x qual (Ph st) (Le st) (Bv st) .none kV doc pm an cdv ct/\K.lookup f=some ⟨oc,od,.func fd,osl⟩/\PySem.W.codeIn K cdv qual=true
 kp:PySem.W.keepIn K (.ref f)=true
section
variable{P:Bq}{w:World}{K:PySem.W.Frag}{mg:Str->Option Value}{base:Heap}
theorem Fun.ok{x a:Str}{st:Stmt}{f:Addr}{g:Cj}{N ps:List Str}{k:Nat}{sp:Sp}(F:Fun K x a st f g)(S:FnScope N ps (Bv st))(len:∀vs H Q E,sp vs H Q E->vs.length=ps.length)(c:∀(b:Value) (A:Df) (outer:List Env) (s:Al) (H:Hp) (vs:List V) (Q:VK) (E:XK),Room k (A.deeper (envOfC a (Bv st) s.heap.objs.size f b))->sp vs H Q E->∃t,qG (Mz Ig P w K mg base N a (Bv st) f b A outer s H E).nox (Le st) t/\t { nx:=λ_ j=>Q .non j,rt:=Q } (start N vs) H):FnOk P w K mg base Ig (k+1) f g ps sp:=by
 obtain ⟨p,v,kV,l,u,r,b,o,m,rfl,i,d⟩:=F.ex
 refine GQ i d S len λA outer s H vs Q E n e=>?_
 obtain ⟨t,h,q⟩:=c b A outer s H vs Q E n e
 exact ⟨t,h.nox,q⟩
theorem Fun.binds{x a:Str}{st:Stmt}{f:Addr}{g:Cj}{ps:List Str}(F:Fun K x a st f g)(h:∀(kV b e:Value) (d:Option Addr) (c ct:Value) (us:List Value),us.length=ps.length->bindArgs (PySem.W.fnOf x a (Ph st) (Le st) (Bv st) .none kV b e d c ct) ⟨us,[]⟩=pure (ps.zip us)):Binds K g ps []:=by
 obtain ⟨l,m,kV,b,e,d,c,ct,i,rfl,k,j⟩:=F.ex
 exact .all (h kV b e d c ct)
theorem E5{x a:Str}{st:Stmt}{f:Addr}{i:Value}{j g:Option Addr}{e:Array (Option Value)}{kV d h b ct:Value}(l:K.lookup f=some ⟨i,j,.func (PySem.W.fnOf x a (Ph st) (Le st) (Bv st) .none kV d h g b ct),e⟩)(c:PySem.W.codeIn K b a=true)(k:PySem.W.keepIn K (.ref f)=true):Fun K x a st f (PySem.W.fnOf x a (Ph st) (Le st) (Bv st) .none kV d h g b ct):=⟨⟨i,j,kV,d,h,g,b,ct,e,rfl,l,c⟩,k⟩
end
theorem gS{n:Nat}(h:n<=1000):n<Bc:=Qi h (by decide)
section
variable{X:Cx}
theorem pv(i:Nat){x:Str}{pos:Pos}(c:X.N[i]? = some x:=by rfl)(b:GD X.env.scope x:=by first | exact Dc rfl | exact Uc (Dc rfl) | exact Uc (Uc rfl))(hd:(x == ("__debug__" : Str))=false:=by decide)(a:(x == ("__classdict__" : Str))=false:=by decide):PE X (.Name x pos) (Nx i):=DP c b hd a
end
theorem oG{A B:Prop}(h:B):if false=true then A else B:=by
 rw[if_neg Cg]
 exact h
theorem jZ{A B:Prop}(h:A):if true=true then A else B:=by
 rw[if_pos rfl]
 exact h
theorem LB{c A B:Prop}[Decidable c](h1:c->A)(a:¬ c->B):if c then A else B:=by
 by_cases h:c
 ·rw[if_pos h]
  exact h1 h
 ·rw[if_neg h]
  exact a h
def Nt(H a:Hp):Prop:=∀b o,H b=some o->a b=some o
theorem Nt.refl(H:Hp):Nt H H:=λ_ _ h=>h
theorem Nt.trans{H d e:Hp}(a:Nt H d)(b:Nt d e):Nt H e:=λc o h=>b c o (a c o h)
theorem Nt.free{H a:Hp}(e:Nt H a){l:Addr}(h:a l=Qg):H l=Qg:=by
 cases q:H l with
 | none=>rfl
 | some o =>
  rw[e l o q] at h
  cases h
end L2
namespace Nd
open PySem PySem.Spec PyProof.Rows L2
def Dg(X:Cx)(a:Scope)(cl:List (Str×Addr))(N:List Str)(fp:List Addr)(s:Al)(H:Hp):Cx where
 prog:=X.prog
 w:=X.w
 K:=X.K
 mg:=X.mg
 base:=X.base
 A:=X.A
 N:=N
 s₀:=s
 H₀:=H
 env:=Ur a (Et (s.heap.objs.size+1) a.names cl) s.heap.objs.size X.env
 outer:=X.stack
 stack:=X.stack
 ex:=fp
 fn:=λy=>decide (a.names.lookup y=some En)
 calm:=X.calm
 pn:=[]
 xe:=λ_ _=>False
section
variable{prog:Bq}{w:World}{A:Df}{R:Result->Al->Prop}{s:Al}
theorem Uv{f g b:Expr}{e:List Expr}{a:Scope}{pos:Pos}{it d:Value}{env:Env}(J:Nat->Al->Prop) (turn:∀n s,J n s->wpAny (model prog w) A (Yx it) (λr j=>match r with
    | none=>R (.ok .next) j
    | some v=>wpAny (model prog w) A (Ie g it v) (λ_ l=>wpAny (model prog w) A (Kv g env v) (λ_ k =>
      wpAny (model prog w) A (forIn e true λc r=>if r=true then (do
        let ok <- isTrue c env (eval c env)
        pure (Fl ok)) else pure (Fl r)) (λok i =>
       if ok=true then
        wpAny (model prog w) A (eval f env) (λx q=>wpAny (model prog w) A (call (.builtin "list.append") [d,x]) (λ_ o=>∃m,m<n/\J m o) (λ_ _=>False) q) (λ_ _=>False) i
       else ∃m,m<n/\J m i) (λ_ _=>False) k) (λ_ _=>False) l) (λ_ _=>False) j) (λ_ _=>False) s)
  (n:Nat) (h:J n s):Iu (model prog w) A (.compLoop (.ListComp f [⟨g,b,e,0⟩] a pos) 0 it d env) R s:=by
 refine iC rfl J (λn s B=>?_) n h
 show wpAny _ A (Sem.onRaise (compTurn (.ListComp f [⟨g,b,e,0⟩] a pos) 0 it d env) (λx=>do noteFrame x env; theTreesLotGoes x)) _ _ s
 refine wpAny_noted ?_
 rw[compTurn_list]
 refine Ag (He (Ag (Co (turn n s B) (λr j t=>?_) λ_ _ z=>z.elim)))
 cases r with
 | none=>exact Aw t
 | some v =>
  refine Ag (Co t (λ_ l C=>?_) λ_ _ z=>z.elim)
  refine Ag (Co C (λ_ k D=>?_) λ_ _ z=>z.elim)
  refine Ag (Co D (λok i p=>?_) λ_ _ z=>z.elim)
  cases ok with
  | false=>exact Aw ⟨rfl,p⟩
  | true =>
   refine Ag (Ag (Co p (λx q y=>?_) λ_ _ z=>z.elim))
   exact Ag (Co y (λ_ o u=>Aw (Aw ⟨rfl,u⟩)) λ_ _ z=>z.elim)
end
section
variable{X:Cx}{a:List (Addr×Obj)}{b:L2.St}{H:Hp}{s:Al}{scope:Scope}{cl:List (Str×Addr)}{fp:List Addr}{N:List Str}
def mN(scope:Scope)(x:Str):Prop:=scope.names.lookup x=some .local\/scope.names.lookup x=some .cell
structure CompScope(X:Cx)(scope:Scope)(cl:List (Str×Addr))(x:Str)(ys:List Str)(js:List Nat):Prop where
 clos:closureFor scope X.env=pure cl
 oc:(∀y∈scope.names,y.2≠.cell)\/∃z:Str,(∀n,Et n scope.names []=[(z,n)])/\scope.names.lookup z=some .cell/\∀y∈scope.names,y.2=.cell->y.1=z
 kind:scope.kind=.function
 locs:∀y∈scope.names,y.2=.local->scope.names.lookup y.1=some .local
 own:mN scope x
 sub:∀y c,cl.lookup y=some c->X.env.cells.lookup y=some c
 has_:(scope.names.all λy=>!(y.2 == Em) || (cl.lookup y.1).isSome)=true
 nd:(x::ys).Nodup
 len:ys.length=js.length
 at_:∀(k:Nat) (y:Str) (j:Nat),ys[k]? = some y->js[k]? = some j->X.N[j]? = some y/\scope.names.lookup y=some .free/\(X.env.kindOf y=some .cell\/X.env.kindOf y=some .free)
theorem CompScope.has{x:Str}{ys:List Str}{b:List Nat}(C:CompScope X scope cl x ys b):∀y∈scope.names,y.2=.free->(cl.lookup y.1).isSome=true:=λy a e=>by
 have h:=List.all_eq_true.mp C.has_ y a
 rw[e] at h
 simpa using h
theorem rE{x y:Str}{j:Nat}(d:closureFor scope X.env=pure cl)(a:∀y∈scope.names,y.2≠.cell)(kind:scope.kind=.function)(locs:∀y∈scope.names,y.2=.local->scope.names.lookup y.1=some .local)(f:scope.names.lookup x=some .local)(sub:∀y c,cl.lookup y=some c->X.env.cells.lookup y=some c)(e:(scope.names.all λy=>!(y.2 == Em) || (cl.lookup y.1).isSome)=true)(m:[x,y].Nodup)(o:X.N[j]? = some y)(b:scope.names.lookup y=some .free)(h:X.env.kindOf y=some .cell):CompScope X scope cl x [y] [j] :=
 ⟨d,.inl a,kind,locs,.inl f,sub,e,m,rfl,λk z i g l=>by
  cases k with
  | zero =>
   have p:y=z:=by simpa using g
   have n:j=i:=by simpa using l
   subst p n
   exact ⟨o,b,.inl h⟩
  | succ k=>simp at g⟩
theorem Ry{env:Env}{y:Str}{k:Px}:∀{names:List (Str×Px)},
  (names.map λ(n,k)=>if (k == Em && env.scope.kind == .function && env.kindOf n == some .cell) then (n,En) else (n,k)).lookup y=some k ->
  ∃c,names.lookup y=some c/\(k=c\/(c=.free/\k=.cell))
 | [],h=>by simp at h
 | (n,c)::r,h=>by
  have i:=@Ry env y k r
  rw[Ax] at h
  by_cases d:(c == Em && env.scope.kind == .function && env.kindOf n == some .cell)=true
  ·have b:Mi y ((n,En)::(r.map λ(n,k)=>if (k == Em && env.scope.kind == .function && env.kindOf n == some .cell) then (n,En) else (n,k)))=some k:=by
    simpa [d] using h
   cases a:y == n with
   | true =>
    rw[Cf,a] at b
    have e:k=En:=by simpa using b.symm
    refine ⟨c,by rw[Cf,a],.inr ⟨?_,e⟩⟩
    rw[Ff,Ff] at d
    exact Ed d.1.1
   | false =>
    rw[Cf,a] at b
    obtain ⟨q,f,g⟩:=i b
    exact ⟨q,by rw[Cf,a]; exact f,g⟩
  ·have b:Mi y ((n,c)::(r.map λ(n,k)=>if (k == Em && env.scope.kind == .function && env.kindOf n == some .cell) then (n,En) else (n,k)))=some k:=by
    simpa [d] using h
   cases a:y == n with
   | true =>
    rw[Cf,a] at b
    exact ⟨c,by rw[Cf,a],.inl (by simpa using b.symm)⟩
   | false =>
    rw[Cf,a] at b
    obtain ⟨q,f,g⟩:=i b
    exact ⟨q,by rw[Cf,a]; exact f,g⟩
theorem Vv{env:Env}{y:Str}:∀{names:List (Str×Px)},names.lookup y=some .free ->
  (names.map λ(n,k)=>if (k == Em && env.scope.kind == .function && env.kindOf n == some .cell) then (n,En) else (n,k)).lookup y=some .cell \/
  (names.map λ(n,k)=>if (k == Em && env.scope.kind == .function && env.kindOf n == some .cell) then (n,En) else (n,k)).lookup y=some .free
 | [],h=>by simp at h
 | (n,k0)::r,h=>by
  have b:=@Vv env y r
  show Mi y ((if (k0 == Em && env.scope.kind == .function && env.kindOf n == some .cell)=true then (n,En) else (n,k0))::_)=_\/Mi y ((if (k0 == Em && env.scope.kind == .function && env.kindOf n == some .cell)=true then (n,En) else (n,k0))::_)=_
  by_cases c:(k0 == Em && env.scope.kind == .function && env.kindOf n == some .cell)=true
  ·rw[if_pos c]
   cases a:y == n with
   | true=>exact .inl (by rw[Cf,a])
   | false =>
    rw[Cf,a] at h
    simp only[Cf,a]
    exact b h
  ·rw[if_neg c]
   cases a:y == n with
   | true =>
    rw[Cf,a] at h
    exact .inr (by rw[Cf,a]; exact h)
   | false =>
    rw[Cf,a] at h
    simp only[Cf,a]
    exact b h
theorem Ez{a c:Type}[BEq a][LawfulBEq a]{y:a}{k:c}:∀{l:List (a×c)},l.lookup y=some k->(y,k)∈l
 | [],h=>by simp at h
 | (n,v)::r,h=>by
  cases b:y == n with
  | true =>
   rw[Cf,b] at h
   have e:=Ed b
   subst e
   have : v=k:=by simpa using h
   subst this
   exact Aa
  | false =>
   rw[Cf,b] at h
   exact Ad _ (Ez h)
end
theorem iK{a c:Nat}(h:c<a)(e:c=a+1):False:=by omega
theorem Jy:∀(names:List (Str×Px)) (n:Nat) (a:List (Str×Addr)),Et n names a=Et n names []++a
 | [],_,_=>rfl
 | (x,k)::r,n,a=>by
  unfold Et
  by_cases h:(k == En)=true
  ·rw[if_pos h,if_pos h,Jy r _ ((x,n)::a),Jy r _ [(x,n)],Bh]; rfl
  ·rw[if_neg h,if_neg h]; exact Jy r n a
theorem Oq:∀(names:List (Str×Px)) (n:Nat) (a:List (Str×Addr)),(∀y∈names,y.2≠.cell)->Et n names a=a
 | [],_,_,_=>rfl
 | (x,k)::r,n,a,h=>by
  unfold Et
  rw[if_neg (by have:=h (x,k) Aa; simpa using this)]
  exact Oq r n a λy b=>h y (Ad _ b)
theorem Wl{env:Env}{y:Str}:∀{names:List (Str×Px)},names.lookup y=some .cell->(names.map λ(n,k)=>if (k == Em && env.scope.kind == .function && env.kindOf n == some .cell) then (n,En) else (n,k)).lookup y=some .cell
 | [],h=>by simp at h
 | (n,k0)::r,h=>by
  have b:=@Wl env y r
  show Mi y ((if (k0 == Em && env.scope.kind == .function && env.kindOf n == some .cell)=true then (n,En) else (n,k0))::_)=_
  by_cases c:(k0 == Em && env.scope.kind == .function && env.kindOf n == some .cell)=true
  ·rw[if_pos c]
   cases a:y == n with
   | true=>rw[Cf,a]
   | false=>rw[Cf,a] at h ⊢; exact b h
  ·rw[if_neg c]
   cases a:y == n with
   | true=>rw[Cf,a] at h ⊢; exact h
   | false=>rw[Cf,a] at h ⊢; exact b h
theorem Pp{env:Env}{a:Scope}{x:Str}(o:mN a x):Loc (relabel a env) x:=o.imp lookup_relabel_local Wl
section
variable{X:Cx}{a:Scope}{cl:List (Str×Addr)}{x y:Str}{ys:List Str}{d:List Nat}{n c:Nat}{N:List Str}{fp:List Addr}{s:Al}{H:Hp}
theorem Si(o:mN a x):(Dg X a cl N fp s H).fn x=true\/(Dg X a cl N fp s H).env.scope.names.lookup x=some .local:=by
 rcases o with o | o
 ·exact .inr (lookup_relabel_local o)
 ·exact .inl (decide_eq_true o)
theorem CompScope.split(C:CompScope X a cl x ys d)(h:(Et n a.names cl).lookup y=some c):cl.lookup y=some c\/(c=n/\Et 0 a.names []=[(y,0)]/\Et n a.names []=[(y,n)]/\a.names.lookup y=some .cell):=by
 rcases C.oc with o | ⟨z,f,j,_⟩
 ·rw[Oq _ _ _ o] at h; exact .inl h
 ·rw[Jy,f] at h
  have b:Mi y ((z,n)::cl)=some c:=h
  rw[Cf] at b
  cases e:y == z with
  | true =>
   rw[e] at b
   have i:c=n:=(Bl b).symm
   have g:=Ed e
   subst g
   exact .inr ⟨i,f 0,f n,j⟩
  | false=>rw[e] at b; exact .inl b
theorem CompScope.find(C:CompScope X a cl x ys d)(h:cl.lookup y=some c)(b:a.names.lookup y=some .free):(Et n a.names cl).lookup y=some c:=by
 rcases C.oc with o | ⟨z,f,g,_⟩
 ·rw[Oq _ _ _ o]; exact h
 ·rw[Jy,f]
  show Mi y ((z,n)::cl)=some c
  rw[Cf]
  cases e:y == z with
  | true=>rw[Ed e,g] at b; cases b
  | false=>exact h
theorem CompScope.cellAt(C:CompScope X a cl x ys d)(b:(y,En)∈a.names):(Et n a.names cl).lookup y=some n:=by
 rcases C.oc with o | ⟨z,f,g,e⟩
 ·exact absurd rfl (o _ b)
 ·have c:y=z:=e _ b rfl
  subst c
  rw[Jy,f]
  show Mi y ((y,n)::cl)=some n
  rw[Cf,beq_self_eq_true]
theorem Ql{M:Model}{A:Df}{E:Value->Al->Prop}{Q:Env->Al->Prop}(C:CompScope X a cl x ys d)(g:∀f,f.Ns s.heap.objs.size (λ_=>none)->(∀b u,s.heap.get? b=some u->f.get? b=some u)->(∀z n,Et (s.heap.objs.size+1) a.names []=[(z,n)]->f.IsCell n none)->Q (newEnv a s.heap.objs.size X.env.globals (Et (s.heap.objs.size+1) a.names cl) X.env.qual none .none (some X.env) Vp) { s with heap:=f,toks:=s.toks+([]:List (Str×Value)).length }):wpAny M A (Ma a X.env.globals cl [] X.env.qual none .none (some X.env)) Q E s:=by
 simp only[Ma,Wz,if_true]
 refine Ag (wpAny_alloc (Ag (wpAny_layCells _ (λx k i=>by cases e:k == En <;> simp [e]) _ _ _ _ ?_)))
 have c:({ s with heap:=s.heap.push { cls:=.type "dict",data:=.dict #[] } }:Al).heap.objs.size=s.heap.objs.size+1:=Heap.size_push ..
 rw[c]
 refine Ag (Aw (Aw (g _ ((Heap.Ns.new s.heap (.type "dict")).keeps (pushCells_keeps _ _)) (λb u e=>pushCells_keeps _ _ b u (Av _ e)) λz n e=>?_)))
 have ok:=(cellsFrom_ok a.names (s.heap.push { cls:=.type "dict",data:=.dict #[] }) 0 [] ⟨λ_ _ h=>(nomatch h),Dn⟩ (Dh _)).empty z n
 rw[show (s.heap.push { cls:=.type "dict",data:=.dict #[] }).objs.size=s.heap.objs.size+1 from c,e] at ok
 exact (ok (Ac.mpr rfl)).1
end
section
variable{X:Cx}{f:List (Addr×Obj)}{g:L2.St}{H:Hp}{s:Al}{a:Scope}{cl:List (Str×Addr)}{fp:List Addr}{N:List Str}
theorem V3{x:Str}{ys:List Str}{F:List Nat}(C:CompScope X a cl x ys F)(I:Inv X f g H s)(u:∀b∈fp,My X f H b)(D:∀b∈fp,∃o,s.heap.get? b=some o):(Dg X a cl N fp s H).Ok where
 mod:=I.ok.mod
 kind:=C.kind
 glob:=I.ok.glob
 blt:=I.ok.blt
 above:=Aj _
 inj:=λy z c t l=>by
  have lt:∀y,cl.lookup y=some c->c<s.heap.objs.size:=λy e=>let ⟨_,q⟩:=I.cell y c (C.sub y c e); q.lt
  rcases C.split t with t | ⟨e1,E,_⟩
  ·rcases C.split l with l | ⟨A,_⟩
   ·exact I.ok.inj y z c (C.sub y c t) (C.sub z c l)
   ·exact (iK (lt y t) A).elim
  ·rcases C.split l with l | ⟨A,v,_⟩
   ·exact (iK (lt z l) e1).elim
   ·rw[E] at v
    simpa using v
 has:=λy hy=>by
  have r:∀k,(k=En\/k=Em)->(Ur a cl s.heap.objs.size X.env).kindOf y=some k->∃c,(Et (s.heap.objs.size+1) a.names cl).lookup y=some c:=by
   intro k hk e
   obtain ⟨w,B,e1⟩:=Ry (names:=a.names) (env:=X.env) (y:=y) (k:=k) e
   have m:=Ez B
   by_cases p:w=.cell
   ·exact ⟨_,C.cellAt (p▸m)⟩
   have d:w=.free:=by
    rcases e1 with e1 | e1
    ·subst e1
     rcases hk with hk | hk
     ·exact absurd hk p
     ·exact hk
    ·exact e1.1
   obtain ⟨c,i⟩:=Qs.mp (C.has _ m d)
   exact ⟨c,C.find i (d▸B)⟩
  rcases hy with hy | hy
  ·exact r _ (.inl rfl) hy
  ·exact r _ (.inr rfl) hy
 cab:=λy c h e=>by
  have h:a.names.lookup y=some .cell:=of_decide_eq_true h
  have:=(C.cellAt (n:=s.heap.objs.size+1) (Ez h)).symm.trans e
  show s.heap.objs.size<=c
  have:=Bl this
  omega
 hd:=I.ok.hd
 frames:=I.ok.frames
 stk:=.inl rfl
 exf:=λb j=>by
  obtain ⟨o,e⟩:=D b j
  refine ⟨Da (Bn e),λy c i=>?_⟩
  rcases C.split i with i | ⟨i,_⟩
  ·exact (u b j).2.2.2.2.1 y c (C.sub y c i)
  ·exact λz=>iK (Bn e) (z.symm.trans i)
 bs:=I.bs
 bsz:=Bz I.ok.bsz I.sz
 noex:=λb o e j=>by
  rcases (u b j).2.2.2.1 with z | z
  ·exact I.ok.noex b o e z
  ·exact absurd (By (Bn (I.ok.bs b o e).1) z) (Jl _)
 exfs:=λb j z=>by
  rcases Ai.mp (I.stkSub b z) with e | e
  ·exact (u b j).2.1 e
  ·exact (u b j).2.2.1 e
 funs:=I.stack
 frf:=I.stkFree
 tab:=I.ok.tab.un I.base
def Ei(g:L2.St)(a:List Nat):L2.St:=a.map λj=>(g[j]?).join
theorem Oz{x:Str}{pre ys:List Str}{A:List Nat}{h1:Heap}{tk:Nat}{N:Str->Option Value}(C:CompScope X a cl x ys A)(I:Inv X f g H s)(hf:∀b∈fp,My X f H b)(Z:∀b∈fp,∃o,s.heap.get? b=some o)(K:h1.Ns s.heap.objs.size N)(keep:∀b u,s.heap.get? b=some u->h1.get? b=some u)(G:∀z n,Et (s.heap.objs.size+1) a.names []=[(z,n)]->h1.IsCell n none):Inv (Dg X a cl (pre++ys) fp s H) [] (pre.map (λ_=>none)++Ei g A) H { s with heap:=h1,toks:=tk }:=by
 have t:∀y c,cl.lookup y=some c->∃v,s.heap.IsCell c v/\h1.IsCell c v:=λy c e=>by
  obtain ⟨v,o,q,d⟩:=I.cell y c (C.sub y c e)
  exact ⟨v,⟨o,q,d⟩,o,keep c o q,d⟩
 refine ⟨V3 C I hf Z,rfl,I.bare,Un.kept keep,⟨N,K,λi y v E m _=>?_⟩,λy c e=>?_,I.hok.fresh (Aj _),λy c e=>?_,λp S=>?_,I.hok.kept keep,?_⟩
 ·have m:(pre.map (λ_=>(none:Option V))++Ei g A)[i]? = some (some v):=m
  have E:(pre++ys)[i]? = some y:=E
  by_cases P:i<pre.length
  ·rw[Iz (by rw[Ab]; exact P),Bm] at m
   cases q:pre[i]? with
   | none=>rw[q] at m; cases m
   | some z=>rw[q] at m; cases m
  ·rw[Fq (by rw[Ab]; omega),Ab] at m
   rw[Fq (by omega)] at E
   have D:=E
   have h:=m
   generalize i - pre.length=k at D h
   unfold Ei at h
   rw[Bm] at h
   cases L:A[k]? with
   | none=>rw[L] at h; simp at h
   | some j =>
    rw[L] at h
    have B:(g[j]?).join=some v:=by simpa using h
    have Y:g[j]? = some (some v):=by
     cases q:g[j]? with
     | none=>rw[q] at B; simp at B
     | some z=>rw[q] at B; simp at B; rw[B]
    obtain ⟨R,J,a3⟩:=C.at_ k y j D L
    obtain ⟨m0,_,T⟩:=I.loc
    have M:GD X.env.scope y:=a3.elim (λa3=>.inr (.inl a3)) λa3=>.inr (.inr a3)
    obtain ⟨u,r,l⟩:=T j y v R Y M
    refine ⟨u,r,?_⟩
    rcases l with ⟨k1,_⟩ | ⟨_,c,W,O⟩
    ·rcases a3 with a3 | a3 <;> rw[k1] at a3 <;> cases a3
    ·obtain ⟨F,w⟩:=Qs.mp (C.has _ (Ez J) rfl)
     have U:F=c:=by
      have:=C.sub y F w
      rw[W] at this
      exact (Bl this).symm
     subst U
     obtain ⟨o,q,d⟩:=O
     exact .inr ⟨Vv J,F,C.find w J,o,keep F o q,d⟩
 ·rcases C.split e with e | ⟨e,_,Q,_⟩
  ·obtain ⟨v,_,z⟩:=t y c e
   exact ⟨v,z⟩
  ·exact ⟨_,e▸G _ _ Q⟩
 ·rcases C.split e with e | ⟨e,_⟩
  ·exact I.freeC y c (C.sub y c e)
  ·exact I.hok.fresh (by omega)
 ·cases (show p∈([]:List (Addr×Obj)) from S)
 ·show (pre.map (λ_=>(none:Option V))++Ei g A).length=(pre++ys).length
  simp [Ei,C.len]
end
section
variable{X:Cx}
def Z4(J:It)(l:List Nat)(n:TT)(o:TE)(h:L2.St)(f:Hp)(Q:VK):Prop:=∀D,f D=none->∃W:Nat->Nat->Hp->Prop,(∃m,W 0 m (upd f D (.lst [])))/\∀i m H,W i m H ->
 (J.stop i H/\Q (.ref D) H)\/(J.go i H/\∀x j,J.yld i H x j->∃(k:Hp->Prop) (g:VK),(∀b,k b->∃d,d<m/\W (i+1) d b) /\
  (∀y e,g y e->∃a,e D=some (.lst a)/\a.length<Bc/\∃d,d<m/\W (i+1) d (upd e D (.lst (a++[y])))) /\
  n (some x::Ei h l) j λc b=>if c=true then o (some x::Ei h l) b g else k b)
def nX(b:TI)(f:List Nat)(d:TT)(e:TE):TE:=λa H Q=>b a H λJ c=>Z4 J f d e a c Q
def aH:TT:=λ_ H Q=>Q true H
theorem EJ{g:L2.St}{H:Hp}{d:TE}{f:Hp->Prop}{b:VK}{a:L2.St}(h:d a H b):aH g H λc e=>if c=true then d a e b else f e:=by
 show if true=true then d a H b else f H
 exact jZ h
def pA(X:Cx)(d:List Expr)(t:TT):Prop :=
 ∀(a:List (Addr×Obj)) (s:Al) (b:L2.St) (H:Hp) (Q:Bool->Hp->Prop),Inv X a b H s->t b H Q ->
  wpAny (model X.prog X.w) X.A (forIn d true λc r=>if r=true then (do
   let ok <- isTrue c X.env (eval c X.env)
   pure (Fl ok)) else pure (Fl r)) (TP X a b Q) X.xe s
theorem lN:pA X [] aH:=λa s b H Q I h=>wpAny_tests_nil ⟨H,I,h⟩
theorem N5{c:Expr}{t:TT}(h:PT X c t):pA X [c] t:=λa s b H Q I q=>wpAny_tests_one (h a s b H Q I q)
theorem bU{X C:Cx}{f:List (Addr×Obj)}{G E:L2.St}{A m:Hp}{d i:Al}{l:Scope}{cl:List (Str×Addr)}{N:List Str}{fp:List Addr}(a:Dg X l cl N fp d A=C)(K:Inv X f G A d)(B:∀b∈fp,My X f A b)(r:Inv C [] E m i):∃D,i.heap.Ns d.heap.objs.size D/\∀p,Jf d.heap.objs.size i.heap p->Inv X f G m { i with heap:=p }:=by
 have H:C.prog=X.prog:=by rw[<- a]; rfl
 have M:C.w=X.w:=by rw[<- a]; rfl
 obtain ⟨D,v,_⟩:=r.loc
 have u:i.heap.Ns d.heap.objs.size D:=by rw[<- a] at v; exact v
 refine ⟨D,u,λp g=>?_⟩
 have y:m d.heap.objs.size=none:=by have:=r.free; rw[<- a] at this; exact this
 have j:Un (xP X.stack) fp A m d.heap i.heap:=by have:=r.base; rw[<- a] at this; exact this
 have k:∀b o,d.heap.get? b=some o->b≠d.heap.objs.size:=λb o q=>Da (Bn q)
 have O:Un (xP X.stack) fp A m d.heap p:=by
  refine ⟨λb o q n h s=>(g.2 b (k b o q)).trans (j.keep b o q n h s),λb o q n h s=>?_,j.free,λb o q s=>?_,j.tups,j.frzs,j.tbls⟩
  ·obtain ⟨J,z⟩:=j.slot b o q n h s
   exact ⟨J,(g.2 b (k b o q)).trans z⟩
  ·obtain ⟨I,z⟩:=j.there b o q s
   exact ⟨I,(g.2 b (k b o q)).trans z⟩
 have t:Yd X.prog X.w m p:=λb L e=>by
  have x:=r.hok
  rw[H,M] at x
  refine (x b L e).stay (λc P hcc q=>(g.2 c ?_).trans q) (λ_ q=>q) λ_ _ q=>q
  rintro rfl
  rcases hcc with rfl | hcc
  ·rw[y] at e; cases e
  ·rw[y] at hcc; cases hcc
 have F:i.os=d.os:=by have:=r.os; rw[<- a] at this; exact this
 exact K.call' (s':={ i with heap:=p }) (ch:=fp) F O t r.bare (λb h=>⟨(B b h).2.2.2.1,(B b h).2.1,(B b h).2.2.2.2.1,(B b h).2.2.2.2.2⟩)
theorem Qq{X e:Cx}{f:L2.St}{o k:Hp}{m l:Al}{c:Scope}{cl:List (Str×Addr)}{N:List Str}{fp:List Addr}(d:Dg X c cl N fp m o=e)(j:Inv e [] f k l){h:Hp}(n:∀b∈fp,h b=none):∀b∈fp,My e [] h b:=λb i=>by
 have ok:=j.ok
 have a:b∈e.ex:=by rw[<- d]; exact i
 exact ⟨n b i,(ok.exf b a).1,ok.exfs b a,.inl a,(ok.exf b a).2,λp g=>by rw[<- d] at g; cases (show p∈([]:List (Addr×Obj)) from g)⟩
theorem Sh{X b:Cx}{f:Hp}{d:Al}{a:Scope}{cl:List (Str×Addr)}{N:List Str}{fp:List Addr}(e:X.calm=true)(c:Dg X a cl N fp d f=b):b.prog=X.prog/\b.w=X.w/\b.K=X.K/\b.A=X.A/\b.calm=true:=by
 subst c
 exact ⟨rfl,rfl,rfl,rfl,e⟩
theorem Xz{X p:Cx}{a:List (Addr×Obj)}{o j:L2.St}{n i:Hp}{g f:Al}{c:Scope}{cl:List (Str×Addr)}{N:List Str}{fp:List Addr}(l:Dg X c cl N fp g n=p)(q:Inv X a o n g)(e:∀b∈fp,My X a n b)(d:Inv p [] j i f):(∃k,f.heap.Ns g.heap.objs.size k)/\i g.heap.objs.size=none/\Inv X a o i f:=by
 subst l
 obtain ⟨k,m,_⟩:=d.loc
 exact ⟨⟨k,m⟩,d.free,q.call' (s':=f) (ch:=fp) d.os d.base d.hok d.bare (λb h=>⟨(e b h).2.2.2.1,(e b h).2.1,(e b h).2.2.2.2.1,(e b h).2.2.2.2.2⟩)⟩
theorem Sv{X:Cx}{a:List (Addr×Obj)}{j:L2.St}{f:Hp}{c:Al}{l:Expr}{J:It}{fp:List Addr}{it:Addr}{g:Nat->Heap->Prop}(m:Inv X a j f c)(T:Turn X.prog X.w X.K l J fp it g)(e:g 0 c.heap)(k:∀b∈fp,My X a f b){h:Obj}{i:HO}(n:Inv X a j (upd f c.heap.objs.size i) { c with heap:=c.heap.push h }):(∀b∈fp,My X a (upd f c.heap.objs.size i) b)/\g 0 (c.heap.push h)/\∀b∈fp,∃o,(c.heap.push h).get? b=some o:=by
 have Re:g 0 (c.heap.push h):=T.keep 0 _ _ e λb d o q=>Av _ q
 refine ⟨λb d=>⟨?_,(k b d).2⟩,Re,λb d=>?_⟩
 ·rw[Ef ?_]
  ·exact (k b d).1
  ·intro z
   obtain ⟨o,q,_⟩:=T.obj _ _ e b d
   have:=Bn q
   rw[z] at this
   exact absurd this (Jl _)
 ·obtain ⟨o,q,_⟩:=T.obj _ _ Re b d
  exact ⟨o,q⟩
theorem jH{F g:Expr}{x:Str}{px pos:Pos}{E:List Expr}{a:Scope}{cl:List (Str×Addr)}{ys:List Str}{G:List Nat}{wi:TI}{tc:TT}{te:TE}(C:CompScope X a cl x ys G)(hc:X.calm=true)(hi:PI X (.Name x px) g wi)(ht:∀fp s H,pA (Dg X a cl (x::ys) fp s H) E tc)(he:∀fp s H,PE (Dg X a cl (x::ys) fp s H) F te)(hs:∀x,Cw g X.env x=pure x:=by intro _; rfl):PE X (.ListComp F [⟨.Name x px,g,E,0⟩] a pos) (nX wi G tc te):=by
 intro j s D H Q I h
 rw[eval_ListComp]
 refine Jv (use:=none) rfl hs C.clos C.kind C.locs (Gk (hi j s D H _ I h) λv s1 h1=>Gk h1 λj6 d h2=>?_)
 obtain ⟨it,fp,tn,J,H2,e,I2,T,q4,f2,q2⟩:=h2
 subst e
 have fD:H2 d.heap.objs.size=none:=I2.hok.fresh (Aj _)
 obtain ⟨W,⟨m0,w0⟩,k1⟩:=q2 d.heap.objs.size fD
 refine Hf ?_
 have I3:Inv X j D (upd H2 d.heap.objs.size (.lst [])) { d with heap:=d.heap.push { cls:=.type "list",dict:=none,data:=.seq ([]:List Value).toArray } } :=
  I2.laid (t':=d.toks) (λb u q=>Av _ q) (Aj _) ⟨Dh _,[],0,.nil,Bs _ rfl⟩
 obtain ⟨f3,k2,k9⟩:=Sv I2 T q4 f2 I3
 generalize V:({ d with heap:=d.heap.push { cls:=.type "list",dict:=none,data:=.seq ([]:List Value).toArray } }:Al)=s3 at I3
 have Re:tn 0 s3.heap:=by rw[<- V]; exact k2
 have o3:∀b∈fp,∃o,s3.heap.get? b=some o:=by rw[<- V]; exact k9
 show wpAny _ _ (Ma a X.env.globals cl [] X.env.qual none .none (some X.env)) _ _ _
 refine Ql C λh4 h6 l h9=>?_
 have I4:∀tk,Inv (Dg X a cl (x::ys) fp s3 (upd H2 d.heap.objs.size (.lst []))) [] (none::Ei D G) (upd H2 d.heap.objs.size (.lst [])) { s3 with heap:=h4,toks:=tk }:=λtk=>Oz (pre:=[x]) C I3 f3 o3 h6 l h9
 have U:tn 0 h4:=T.keep 0 _ _ Re λb K o q=>l b o q
 generalize p:Dg X a cl (x::ys) fp s3 (upd H2 d.heap.objs.size (.lst []))=X' at I4
 obtain ⟨eP,eW,eK,eA,eC⟩:=Sh hc p
 have k:∀{f:Hp},(∀b∈fp,f b=none)->∀b∈fp,My X' [] f b:=λ{f} hn=>Qq p (I4 0) hn
 have B:∀s5:Al,s5={ s3 with heap:=h4,toks:=s3.toks+([]:List (Str×Value)).length } ->
   Iu (model X.prog X.w) X.A (.compLoop (.ListComp F [⟨.Name x px,g,E,0⟩] a pos) 0 (.ref it) (.ref d.heap.objs.size) (Ur a (Et (s3.heap.objs.size+1) a.names cl) s3.heap.objs.size X.env))
    (compPost (model X.prog X.w) X.A X.xe none (EP X j D Q) (.ref d.heap.objs.size) s3.heap.objs.size) s5:=by
  rintro s5 rfl
  refine Uv (λn s'=>∃i o f,Inv X' [] (o::Ei D G) f s'/\tn i s'.heap/\(∀b∈fp,f b=none)/\W i n f) ?_ m0
   ⟨0,none,_,I4 _,U,λb K=>(f3 b K).1,w0⟩
  (intro n s6 q_; obtain ⟨i,o,H6,I6,h3,O,w6⟩ := q_)
  rcases k1 i n H6 w6 with ⟨Y,qn⟩ | ⟨go,step⟩
  ·have hd:=T.done X' eP eW eK eC i [] s6 _ H6 (λ_ _=>False) I6 (k O) h3 Y
   rw[eA] at hd
   refine Gk hd λr s7 c => ?_
   obtain ⟨hr,I7⟩ := c
   subst hr
   obtain ⟨m7,j1,h5⟩:=bU p I3 f3 I7
   exact ⟨m7,j1,λh8 k5=>⟨.ref d.heap.objs.size,H6,h5 h8 k5,rfl,qn⟩⟩
  ·have Z:=T.item X' eP eW eK eC i [] s6 _ H6 (λ_ _=>False) I6 (k O) h3 go
   rw[eA] at Z
   refine Gk Z λr s7 c => ?_
   obtain ⟨u,hr,h7⟩ := c
   subst hr
   refine Gk h7 λ_ s8 c => ?_
   obtain ⟨y,H8,I8,r8,y8,L,j2⟩ := c
   have q3:=I8.pinned (k j2) (T.obj _ _ L)
   obtain ⟨N1,N2,q6,q8,k6⟩:=step y H8 y8
   have again:∀{S:Hp} {M:Al} {N:Nat},Inv X' ([]++On fp s8.heap) (some y::Ei D G) S M->N<n->W (i+1) N S->∃m,m<n/\∃i o f,Inv X' [] (o::Ei D G) f M/\tn i M.heap/\(∀b∈fp,f b=none)/\W i m f:=λ{S M N} I9 R w9=>by
    refine ⟨N,R,i+1,some y,S,I9.unpinned,T.keep _ _ _ L λb K o e=>(I9.pin (b,o) (Af _ (Af _ (Gr K e)))).1,λb K=>?_,w9⟩
    obtain ⟨o,e,_⟩:=T.obj _ _ L b K
    exact (I9.pin (b,o) (Af _ (Af _ (Gr K e)))).2.1
   subst p
   refine Gk (La (i:=0) (x:=x) (pos:=px) C.nd rfl (Pp C.own) (Si C.own) _ s8 _ H8 y u (λk7 f=>k7=some y::Ei D G/\f=H8) q3 r8 ⟨rfl,rfl⟩) λ_ M c => ?_
   obtain ⟨j8,S,I9,e9,q1⟩ := c
   subst e9 q1
   refine Gk (ht fp s3 _ _ M _ _ _ I9 k6) λok q5 c => ?_
   obtain ⟨j7,h0,t⟩ := c
   cases ok with
   | false =>
    rw[if_neg Cg] at t ⊢
    obtain ⟨N,R,j3⟩:=q6 _ t
    exact again h0 R j3
   | true =>
    rw[if_pos rfl] at t ⊢
    refine Gk (he fp s3 _ _ q5 _ _ _ h0 t) λz j0 c => ?_
    obtain ⟨vz,P,k8,q0,q7⟩ := c
    obtain ⟨k0,ha,hz,N,R,q9⟩:=q8 _ _ q7
    refine Gk (Nz _ j0 _ P (.ref d.heap.objs.size) [vz] (.ref d.heap.objs.size) [z] (λ_ f=>f=upd P d.heap.objs.size (.lst (k0++[vz]))) k8 rfl (.cons q0 .nil) ⟨_,k0,vz,rfl,rfl,ha,hz,rfl⟩) λ_ j5 c => ?_
    obtain ⟨_,j4,k4,_,k3⟩ := c
    subst k3
    exact again k4 R q9
 exact Nn (B _ rfl) (T.self X.A 0 _ _ _ U (B _ rfl))
end
structure Walked(J:It)(G:Hp->Prop)(xs:List V):Prop where
 go:∀i H,i<xs.length->G H->J.go i H
 yld:∀i H x H',i<xs.length->G H->J.yld i H x H'->H'=H/\xs[i]? = some x
 stop:∀H,G H->J.stop xs.length H
theorem So{K:PySem.W.Frag}{a:Addr}{xs:List V}:Walked (IZ K a) (λH=>Qf K H a xs) xs where
 go:=λi H h q=>⟨xs,xs[i],q,by simp [h]⟩
 yld:=λi H x b _ q y=>⟨y.1,y.2 xs q⟩
 stop:=λH q=>⟨xs,q,Aj _⟩
theorem R0{J:It}{G:Hp->Prop}{xs:List V}{l:List Nat}{o:TT}{r:TE}{n:L2.St}{j:Hp}{Q:VK}(wk:Walked J G xs)(hz:xs.length<=Bc)(b:Addr->Nat->List V->Hp->Prop)
  (h0:∀D,j D=none->b D 0 [] (upd j D (.lst []))) (w:∀D i a H,b D i a H->G H)
  (A:∀D i x a H,j D=none->xs[i]? = some x->H D=some (.lst a)->b D i a H->o (some x::Ei n l) H λc f=>if c=true then r (some x::Ei n l) f λy h=>h D=some (.lst a)/\b D (i+1) (a++[y]) (upd h D (.lst (a++[y])))
   else f D=some (.lst a)/\b D (i+1) a f)
  (hd:∀D a H,j D=none->H D=some (.lst a)->b D xs.length a H->Q (.ref D) H):Z4 J l o r n j Q:=by
 intro D k
 refine ⟨λi m H=>m=xs.length - i/\i<=xs.length/\∃a,H D=some (.lst a)/\a.length<=i/\b D i a H,⟨xs.length,by simp,Dh _,[],Di,Aj _,h0 D k⟩,?_⟩
 (intro i m H v; obtain ⟨rfl,B,a,s,C,p⟩ := v)
 have g:=w D i a H p
 by_cases d:i<xs.length
 ·refine .inr ⟨wk.go i H d g,λx u y=>?_⟩
  obtain ⟨e,t⟩:=wk.yld i H x u d g y
  subst e
  refine ⟨λf=>f D=some (.lst a)/\b D (i+1) a f,λy h=>h D=some (.lst a)/\b D (i+1) (a++[y]) (upd h D (.lst (a++[y]))),λf q=>?_,λz h q=>?_,A D i x a _ k t s p⟩
  ·exact ⟨xs.length - (i+1),by omega,rfl,d,a,q.1,by omega,q.2⟩
  ·exact ⟨a,q.1,by omega,xs.length - (i+1),by omega,rfl,d,a++[z],Di,by rw[Ar,Cp]; omega,q.2⟩
 ·have e:i=xs.length:=by omega
  subst e
  exact .inl ⟨wk.stop H g,hd D a H k s p⟩
theorem Fj{H:Hp}{p:Addr}(h:H p=none)(o:HO):Nt H (upd H p o):=λb u q=>by rw[Ef (Fu q h)]; exact q
theorem Oc{a:Type}{xs:List a}{i:Nat}{x:a}(h:xs[i]? = some x):xs.take (i+1)=xs.take i++[x]:=by
 rw[List.take_succ,h]; rfl
mutual
inductive RdV (K:PySem.W.Frag) (H:Hp):V->Ae->Prop
 | non:RdV K H .non .none
 | bl (b:Bool):RdV K H (.bl b) (.bool b)
 | int (i:Int):RdV K H (.int i) (.int i)
 | str (x:Str):RdV K H (.str x) (.str x)
 | lst {a:Addr} {xs:List V} {ds:List Ae}:Qf K H a xs->RdVs K H xs ds->RdV K H (.ref a) (.list ds)
 | tup {a:Addr} {xs:List V} {ds:List Ae}:Tz K H a xs->RdVs K H xs ds->RdV K H (.ref a) (.tuple ds)
inductive RdVs (K:PySem.W.Frag) (H:Hp):List V->List Ae->Prop
 | nil:RdVs K H [] []
 | cons {x:V} {d:Ae} {xs:List V} {ds:List Ae}:RdV K H x d->RdVs K H xs ds->RdVs K H (x::xs) (d::ds)
end
mutual
def FS(b:Nat):Ae->Prop
 | .none=>True
 | .bool _=>True
 | .int i=>i.natAbs<10 ^ b
 | .str x=>(reprText x).length<=b
 | .list a=>kQ b a
 | .tuple a=>kQ b a
 | .dict _=>False
def kQ(b:Nat):List Ae->Prop
 | []=>True
 | x::xs=>FS b x/\kQ b xs
end
mutual
def X2:Ae->Nat
 | .list a=>cN a+1
 | .tuple a=>cN a+1
 | _=>1
def cN:List Ae->Nat
 | []=>0
 | x::xs=>X2 x+cN xs
end
theorem qY(a:List Int):Br (a.map Bo)=0:=by
 induction a with
 | nil=>rfl
 | cons n a b=>simp only[Ax,Br,Do,b,Nat.max_self]
theorem Yw{m:Nat}:∀{xs:List Ae},(∀x∈xs,x.depth<=m)->Br xs<=m
 | [],_=>by simp [Br]
 | x::xs,h=>by
  have b:=h x (Aa ..)
  have c:=Yw (xs:=xs) λy a=>h y (Ad _ a)
  simp only[Br]
  omega
theorem Gv.at'{xs:List V}{us:List Value}(r:Gv xs us){j:Nat}(h:j<us.length):∃x,xs[j]? = some x/\RelV x us[j]:=by
 have d:=r.length
 have a:j<xs.length:=by omega
 obtain ⟨u,b,c⟩:=r.get (i:=j) (x:=xs[j]) (by simp [a])
 rw[Bj h] at b
 cases b
 exact ⟨xs[j],by simp [a],c⟩
section
variable{X:Cx}{a:List (Addr×Obj)}{c:L2.St}{H:Hp}{s:Al}{A:Df}
theorem Xp(A:Df):A.in1.units<=A.units+1:=by
 first | exact Aj _ | (simp [Around.in1]; done) | (unfold Around.in1; simp)
theorem nZ:Om X (.builtin "isinstance") (λxs H Q=>∃x n t b,xs=[x,.ty n]/\TyOf X.K H x t/\PySem.W.kitOne X.K t (.type n)=some b/\Q (.bl b) H):=by
 intro a s c H xs i Q I r h
 obtain ⟨x,n,t,b,rfl,f,e,q⟩:=h
 obtain ⟨u,v,rfl,g,d⟩:=vals2 r
 cases d
 exact xF I g f e λj=>⟨.bl b,H,I.tok _,rfl,q⟩
theorem zI(N:X.calm=true):Om X (.builtin "all") (λxs H Q=>∃(p:Addr) (bs:List Bool),xs=[.ref p]/\Qf X.K H p (bs.map V.bl)/\Q (.bl (bs.all id)) H):=by
 intro a s c H xs U Q I r h
 obtain ⟨p,bs,rfl,G,q⟩:=h
 obtain ⟨u,rfl,M⟩:=vals1 r
 cases M
 obtain ⟨d,w,t,_⟩:=I.list G
 have m:d.toArray.size=bs.length:=by
  have:=w.length
  rw[Ab] at this
  rw[Au]; omega
 refine call_all_walk (hZ t.isList ?_)
 have O:X.A.in1.handled=none:=I.ok.hd N
 have R:p≠s.heap.objs.size:=Da (let ⟨o,q,_⟩:=t.isList; Bn q)
 refine ⟨s.heap.objs.size,_,_,_,_,_,λi=>bs.getD i false,rfl,Walks.list O s.heap.objs.size p R d.toArray,⟨⟨_,Bs _ rfl,rfl,rfl⟩,t.isList.push _⟩,?_,?_⟩
 ·intro i v J F W E T
  have f:d[i]? = some v:=by simpa using E
  have y:i<d.length:=(Ak.mp f).1
  obtain ⟨x,g,B⟩:=Gv.at' w y
  rw[Bj y] at f
  have k:d[i]=v:=Bl f
  rw[k] at B
  rw[Bm] at g
  cases n:bs[i]? with
  | none=>rw[n] at g; cases g
  | some b =>
   rw[n] at g
   cases g
   cases B
   have : bs.getD i false=b:=by simp [Ha,n]
   have l:F (bs.getD i false) J:=T
   rw[this] at l
   exact Ic l
 ·intro h' S L
  have e:((Ce d.toArray.size).all λi=>bs.getD i false)=bs.all id:=by
   rw[m]
   have : bs=(Ce bs.length).map (λj=>bs.getD j false):=(range_getD bs false).symm
   conv=>rhs; rw[this]
   rw[Zr]
   rfl
  rw[e]
  refine ⟨.bl _,H,I.kept (h':=h') (t':=S) (λb o C=>L b o ?_ (Av _ C)),rfl,q⟩
  intro z
  have P:b=s.heap.objs.size:=by simpa using z
  have D:=Bn C
  rw[P] at D
  exact absurd D (Jl _)
end
section
variable{prog:Bq}{w:World}{A:Df}{E:Value->Al->Prop}{s:Al}
theorem Ua{t e:Addr}{a:Array Value}{k m:Value}{lo j:Option Int}{Q:Value->Al->Prop}(b:IsTup s.heap t a)(l:s.heap.IsSliceOf e k m .none)(n:Zb k lo)(q:Zb m j)(hw:HT.sIx a.size 0 lo=0/\HT.sIx a.size a.size j=a.size)(h:Q (.ref t) s):wpAny (model prog w) A (Sz (.ref t) (.ref e)) Q E s:=by
 obtain ⟨os,i,g,o⟩:=id l
 have d:s.TypeIs (.ref e) "slice" := ⟨os,i,g⟩
 unfold Sz
 try with_reducible refine Eg ?_
 first | refine Ag (Aw ?_) | skip
 refine Ag (wpAny_sequenceKey b.typeIs (by decide) ?_)
 refine Ag (K6 (name:=aJ "__getitem__") b.typeIs Fg
  (Uo Fg b.typeIs entry_tuple_getitem ?_ (args_tuple_getitem _ _)))
 show wpAny _ _ (Xf (.ref t) >>= _) _ _ s
 refine Ag (tupleItemsOf_ b ?_)
 refine Ag (Nl d ?_)
 rw[if_pos (by decide)]
 refine Ag (HT.sliceApplied_gen l n q ?_)
 rw[hw.1,hw.2]
 have c:(((0:Nat):Int) == 0 && (1:Int) == 1 && (a.size - 0) == a.size)=true:=by simp
 show wpAny _ _ (if (((0:Nat):Int) == 0 && (1:Int) == 1 && (a.size - 0) == a.size)=true then _ else _) _ _ s
 rw[if_pos c]
 have f:∀{R:Bool->Al->Prop},R true s->wpAny (model prog w) A.in1 (Xg (.ref t)) R E s:=λ{R} p=>by
  unfold Xg
  refine Ag (Nl b.typeIs (Aw ?_))
  rw[beq_self_eq_true]
  exact p
 refine Ag (f ?_)
 rw[if_pos rfl]
 exact Ag (Vo (Aw ⟨_,rfl,Aw h⟩))
end
mutual
def Er:Ae->Ae->Bool
 | .none,.none=>true
 | .bool a,.bool b=>a == b
 | .bool a,.int b=>(if a then 1 else 0) == b
 | .int a,.bool b=>a == (if b then 1 else 0)
 | .int a,.int b=>a == b
 | .str a,.str b=>a == b
 | .list xs,.list ys=>Pf xs ys
 | .tuple xs,.tuple ys=>Pf xs ys
 | _,_=>false
def Pf:List Ae->List Ae->Bool
 | [],[]=>true
 | x::xs,y::ys=>Er x y && Pf xs ys
 | _,_=>false
end
theorem Oy:∀a es:List Ae,(((Ce (min a.length es.length)).all λj=>Er (a.getD j .none) (es.getD j .none)) && a.length == es.length)=Pf a es
 | [],[]=>by simp [Pf]
 | [],_::_=>by simp [Pf]
 | _::_,[]=>by simp [Pf]
 | d::a,e::es=>by
  have c:=Oy a es
  rw[Pf,<- c]
  have b:min (d::a).length (e::es).length=min a.length es.length+1:=by simp only[Bi]; omega
  rw[b,List.range_succ_eq_map,List.all_cons,Zr]
  have f:((d::a).length == (e::es).length)=(a.length == es.length):=by
   rw[Bool.eq_iff_iff]; simp
  rw[f,Bool.and_assoc]
  rfl
section
variable{X:Cx}{a:List (Addr×Obj)}{c:L2.St}{H:Hp}{s:Al}{K:PySem.W.Frag}
mutual
theorem RdV.eqD_self:∀{v:V} {d:Ae},RdV K H v d->Er d d=true
 | _,_,.non=>by simp [Er]
 | _,_,.bl b=>by simp [Er]
 | _,_,.int i=>by simp [Er]
 | _,_,.str x=>by simp [Er]
 | _,_,.lst _ h=>by rw[Er]; exact RdVs.eqDs_self h
 | _,_,.tup _ h=>by rw[Er]; exact RdVs.eqDs_self h
theorem RdVs.eqDs_self:∀{vs:List V} {a:List Ae},RdVs K H vs a->Pf a a=true
 | _,_,.nil=>by simp [Pf]
 | _,_,.cons h t=>by rw[Pf,RdV.eqD_self h,RdVs.eqDs_self t]; rfl
end
theorem lV(I:Inv X pins σ H s){a:Addr}{xs ys:List V}(h1:Qf X.K H a xs)(c:Tz X.K H a ys):False:=by
 obtain ⟨e,_,b,_⟩:=I.list h1
 obtain ⟨vs,_,d,_⟩:=I.tuple c
 exact SeqAt.ne_of_list_tuple b.isList d rfl
mutual
theorem RdV.det(I:Inv X pins σ H s):∀{v:V} {d e:Ae},RdV X.K H v d->RdV X.K H v e->d=e
 | _,_,_,.non,h=>by cases h; rfl
 | _,_,_,.bl b,h=>by cases h; rfl
 | _,_,_,.int i,h=>by cases h; rfl
 | _,_,_,.str x,h=>by cases h; rfl
 | _,_,_,.lst q r,h=>by
  cases h with
  | lst a c =>
   have e:=I.list_inj q a
   subst e
   rw[RdVs.det I r c]
  | tup a c=>exact (lV I q a).elim
 | _,_,_,.tup q r,h=>by
  cases h with
  | lst a c=>exact (lV I a q).elim
  | tup a c =>
   have e:=I.tuple_inj q a
   subst e
   rw[RdVs.det I r c]
theorem RdVs.det(I:Inv X pins σ H s):∀{vs:List V} {a es:List Ae},RdVs X.K H vs a->RdVs X.K H vs es->a=es
 | _,_,_,.nil,h=>by cases h; rfl
 | _,_,_,.cons r t,h=>by
  cases h with
  | cons b c=>rw[RdV.det I r b,RdVs.det I t c]
end
theorem RdVs.length:∀{vs:List V} {a:List Ae},RdVs K H vs a->vs.length=a.length
 | _,_,.nil=>rfl
 | _,_,.cons _ t=>by rw[Bi,Bi,RdVs.length t]
theorem Xr{A:Df}{n:Nat}(h:A.units+(n+1)<cLine):A.in1.units+n<cLine:=by
 have:=Xp A
 omega
theorem mO{A:Df}{a b:Addr}{us vs:List Value}{c es:List Ae}(k:PlainL s.heap a us.toArray)(l:PlainL s.heap b vs.toArray)(l1:us.length=c.length)(l2:vs.length=es.length)(i:A.units<cLine)(m:∀j (h1:j<us.length) (g:j<vs.length),Na A.in1 s us[j] vs[j] (Er (c.getD j .none) (es.getD j .none))):SeqAt.RcAt A s (.ref a) (.ref b) (Pf c es):=by
 rw[<- Oy]
 by_cases d:c.length=es.length
 ·have f:us.toArray.size=vs.toArray.size:=by rw[Au,Au,l1,l2,d]
  have h:=SeqAt.RcAt.lists (A:=A) (e:=λj=>Er (c.getD j .none) (es.getD j .none)) k.isList l.isList f i (λj h1 g=>by simpa using m j (by simpa using h1) (by simpa using g))
  rw[Au,l1] at h
  rw[d,Nat.min_self,beq_self_eq_true,Bool.and_true,<- d]
  exact h
 ·have f:(us.toArray.size != vs.toArray.size)=true:=by rw[Au,Au,l1,l2]; simpa using d
  have h:=SeqAt.RcAt.lists_lengths (A:=A) k.isList l.isList f i
  have n:(c.length == es.length)=false:=by simpa using d
  rw[n,Vm]
  exact h
theorem gD{A:Df}{a b:Addr}{us vs:List Value}{c es:List Ae}(i:IsTup s.heap a us.toArray)(k:IsTup s.heap b vs.toArray)(l1:us.length=c.length)(l2:vs.length=es.length)(g:A.units<cLine)(f:∀j (h1:j<us.length) (d:j<vs.length),Na A.in1 s us[j] vs[j] (Er (c.getD j .none) (es.getD j .none))):SeqAt.RcAt A s (.ref a) (.ref b) (Pf c es):=by
 rw[<- Oy]
 have h:=SeqAt.RcAt.tuples (A:=A) (e:=λj=>Er (c.getD j .none) (es.getD j .none)) (show s.heap.IsTuple a us.toArray from i) (show s.heap.IsTuple b vs.toArray from k) g (λj h1 d=>by simpa using f j (by simpa using h1) (by simpa using d))
 rw[Au,Au,l1,l2] at h
 exact h
mutual
theorem F9(I:Inv X pins σ H s):∀{A:Df} {x y:V} {d e:Ae} {u v:Value},RdV X.K H x d->RdV X.K H y e->RelV x u->RelV y v->A.units+d.depth<cLine->Na A s u v (Er d e)
 | A,_,_,_,_,_,_,.non,h,ru,rv,hu=>by
  cases ru
  have c:A.units<cLine:=by omega
  cases h with
  | non=>cases rv; rw[Er]; exact SeqAt.EqAt.same _
  | bl b=>cases rv; rw[Er]; exact SeqAt.EqAt.none_bool b; all_goals simp
  | int b=>obtain ⟨t,rfl⟩:=rv; rw[Er]; exact SeqAt.EqAt.none_int b t; all_goals simp
  | str b=>obtain ⟨t,rfl⟩:=rv; rw[Er]; exact SeqAt.EqAt.none_str b t; all_goals simp
  | lst q r=>cases rv; obtain ⟨l,_,p,_⟩:=I.list q; rw[Er]; exact SeqAt.EqAt.none_list p.isList c; all_goals simp
  | tup q r=>cases rv; obtain ⟨l,_,p,_⟩:=I.tuple q; rw[Er]; exact SeqAt.EqAt.none_tuple p c; all_goals simp
 | A,_,_,_,_,_,_,.bl a,h,ru,rv,hu=>by
  cases ru
  have c:A.units<cLine:=by omega
  cases h with
  | non=>cases rv; rw[Er]; exact SeqAt.EqAt.bool_none a; all_goals simp
  | bl b=>cases rv; rw[Er]; exact SeqAt.EqAt.bool_bool a b
  | int b=>obtain ⟨t,rfl⟩:=rv; rw[Er]; exact SeqAt.EqAt.bool_int a b t
  | str b=>obtain ⟨t,rfl⟩:=rv; rw[Er]; exact SeqAt.EqAt.bool_str a b t; all_goals simp
  | lst q r=>cases rv; obtain ⟨l,_,p,_⟩:=I.list q; rw[Er]; exact SeqAt.EqAt.bool_list a p.isList c; all_goals simp
  | tup q r=>cases rv; obtain ⟨l,_,p,_⟩:=I.tuple q; rw[Er]; exact SeqAt.EqAt.bool_tuple a p c; all_goals simp
 | A,_,_,_,_,_,_,.int a,h,ru,rv,hu=>by
  obtain ⟨g,rfl⟩:=ru
  have c:A.units<cLine:=by omega
  cases h with
  | non=>cases rv; rw[Er]; exact SeqAt.EqAt.int_none a g; all_goals simp
  | bl b=>cases rv; rw[Er]; exact SeqAt.EqAt.int_bool a g b
  | int b=>obtain ⟨t,rfl⟩:=rv; rw[Er]; exact SeqAt.EqAt.int_int a g b t
  | str b=>obtain ⟨t,rfl⟩:=rv; rw[Er]; exact SeqAt.EqAt.int_str a g b t; all_goals simp
  | lst q r=>cases rv; obtain ⟨l,_,p,_⟩:=I.list q; rw[Er]; exact SeqAt.EqAt.int_list a g p.isList c; all_goals simp
  | tup q r=>cases rv; obtain ⟨l,_,p,_⟩:=I.tuple q; rw[Er]; exact SeqAt.EqAt.int_tuple a g p c; all_goals simp
 | A,_,_,_,_,_,_,.str a,h,ru,rv,hu=>by
  obtain ⟨g,rfl⟩:=ru
  have c:A.units<cLine:=by omega
  cases h with
  | non=>cases rv; rw[Er]; exact SeqAt.EqAt.str_none a g; all_goals simp
  | bl b=>cases rv; rw[Er]; exact SeqAt.EqAt.str_bool a g b; all_goals simp
  | int b=>obtain ⟨t,rfl⟩:=rv; rw[Er]; exact SeqAt.EqAt.str_int a g b t; all_goals simp
  | str b=>obtain ⟨t,rfl⟩:=rv; rw[Er]; exact SeqAt.EqAt.str_str a g b t
  | lst q r=>cases rv; obtain ⟨l,_,p,_⟩:=I.list q; rw[Er]; exact SeqAt.EqAt.str_list a g p.isList c; all_goals simp
  | tup q r=>cases rv; obtain ⟨l,_,p,_⟩:=I.tuple q; rw[Er]; exact SeqAt.EqAt.str_tuple a g p c; all_goals simp
 | A,_,_,_,_,_,_,@RdV.lst _ _ a xs ds q r,h,ru,rv,hu=>by
  cases ru
  have c:A.units<cLine:=by omega
  obtain ⟨l,o,p,_⟩:=I.list q
  cases h with
  | non=>cases rv; rw[Er]; exact SeqAt.EqAt.list_none p.isList c; all_goals simp
  | bl b=>cases rv; rw[Er]; exact SeqAt.EqAt.list_bool b p.isList c; all_goals simp
  | int b=>obtain ⟨t,rfl⟩:=rv; rw[Er]; exact SeqAt.EqAt.list_int b t p.isList c; all_goals simp
  | str b=>obtain ⟨t,rfl⟩:=rv; rw[Er]; exact SeqAt.EqAt.list_str b t p.isList c; all_goals simp
  | @lst b C B k f =>
   cases rv
   obtain ⟨vs,n,m,_⟩:=I.list k
   rw[Er]
   by_cases i:a=b
   ·subst i
    have e:=I.list_inj q k
    subst e
    rw[<- RdVs.det I r f,RdVs.eqDs_self r]
    exact SeqAt.EqAt.same _
   ·refine SeqAt.EqAt.of_refs i (mO p m (o.length.symm.trans r.length) (n.length.symm.trans f.length) c λj z w=>?_)
    exact Rb I r f o n (Xr (by simpa only [Do] using hu)) j z w
  | tup k f=>cases rv; obtain ⟨vs,_,m,_⟩:=I.tuple k; rw[Er]; exact SeqAt.EqAt.list_tuple p.isList m c; all_goals simp
 | A,_,_,_,_,_,_,@RdV.tup _ _ a xs ds q r,h,ru,rv,hu=>by
  cases ru
  have c:A.units<cLine:=by omega
  obtain ⟨l,o,p,_⟩:=I.tuple q
  cases h with
  | non=>cases rv; rw[Er]; exact SeqAt.EqAt.tuple_none p c; all_goals simp
  | bl b=>cases rv; rw[Er]; exact SeqAt.EqAt.tuple_bool b p c; all_goals simp
  | int b=>obtain ⟨t,rfl⟩:=rv; rw[Er]; exact SeqAt.EqAt.tuple_int b t p c; all_goals simp
  | str b=>obtain ⟨t,rfl⟩:=rv; rw[Er]; exact SeqAt.EqAt.tuple_str b t p c; all_goals simp
  | lst k f=>cases rv; obtain ⟨vs,_,m,_⟩:=I.list k; rw[Er]; exact SeqAt.EqAt.tuple_list p m.isList c; all_goals simp
  | @tup b C B k f =>
   cases rv
   obtain ⟨vs,n,m,_⟩:=I.tuple k
   rw[Er]
   by_cases i:a=b
   ·subst i
    have e:=I.tuple_inj q k
    subst e
    rw[<- RdVs.det I r f,RdVs.eqDs_self r]
    exact SeqAt.EqAt.same _
   ·refine SeqAt.EqAt.of_refs i (gD p m (o.length.symm.trans r.length) (n.length.symm.trans f.length) c λj z w=>?_)
    exact Rb I r f o n (Xr (by simpa only [Do] using hu)) j z w
theorem Rb(I:Inv X pins σ H s):∀{A:Df} {xs ys:List V} {a es:List Ae} {us vs:List Value},RdVs X.K H xs a->RdVs X.K H ys es->Gv xs us->Gv ys vs->A.units+Br a<cLine->∀j (h1:j<us.length) (b:j<vs.length),Na A s us[j] vs[j] (Er (a.getD j .none) (es.getD j .none))
 | _,_,_,_,_,_,_,.nil,_,r1,_,_=>λj h1 b=>by cases r1; exact absurd h1 (Gd _)
 | A,_,_,_,_,_,_,@RdVs.cons _ _ x d xs a r t,h,r1,r2,hu=>λj h1 b=>by
  cases h with
  | nil=>cases r2; exact absurd b (Gd _)
  | cons i k =>
   cases r1 with
   | cons l g =>
    cases r2 with
    | cons e f =>
     have c:A.units+d.depth<cLine/\A.units+Br a<cLine:=by
      simp only[Br] at hu
      omega
     cases j with
     | zero=>simpa using F9 I r i l e c.1
     | succ j=>simpa using Rb I t k g f c.2 j (by simpa using h1) (by simpa using b)
end
end
section
variable{X:Cx}{c:List (Addr×Obj)}{d:L2.St}{H:Hp}{s:Al}{K:PySem.W.Frag}
theorem yH{A:Df}{a b:Addr}{us vs:List Value}{c es:List Ae}(k:PlainL s.heap a us.toArray)(l:PlainL s.heap b vs.toArray)(l1:us.length=c.length)(l2:vs.length=es.length)(i:A.units<cLine)(m:∀j (h1:j<us.length) (g:j<vs.length),Na A.in1 s us[j] vs[j] (Er (c.getD j .none) (es.getD j .none))):SeqAt.RcNeAt A s (.ref a) (.ref b) (!Pf c es):=by
 rw[<- Oy]
 by_cases d:c.length=es.length
 ·have f:us.toArray.size=vs.toArray.size:=by rw[Au,Au,l1,l2,d]
  have h:=SeqAt.RcNeAt.lists (A:=A) (e:=λj=>Er (c.getD j .none) (es.getD j .none)) k.isList l.isList f i (λj h1 g=>by simpa using m j (by simpa using h1) (by simpa using g))
  rw[Au,l1] at h
  rw[d,Nat.min_self,beq_self_eq_true,Bool.and_true,<- d]
  exact h
 ·have f:(us.toArray.size != vs.toArray.size)=true:=by rw[Au,Au,l1,l2]; simpa using d
  have h:=SeqAt.RcNeAt.lists_lengths (A:=A) k.isList l.isList f i
  have n:(c.length == es.length)=false:=by simpa using d
  rw[n,Vm]
  exact h
theorem qJ{A:Df}{a b:Addr}{us vs:List Value}{c es:List Ae}(i:IsTup s.heap a us.toArray)(k:IsTup s.heap b vs.toArray)(l1:us.length=c.length)(l2:vs.length=es.length)(g:A.units<cLine)(f:∀j (h1:j<us.length) (d:j<vs.length),Na A.in1 s us[j] vs[j] (Er (c.getD j .none) (es.getD j .none))):SeqAt.RcNeAt A s (.ref a) (.ref b) (!Pf c es):=by
 rw[<- Oy]
 have h:=SeqAt.RcNeAt.tuples (A:=A) (e:=λj=>Er (c.getD j .none) (es.getD j .none)) (show s.heap.IsTuple a us.toArray from i) (show s.heap.IsTuple b vs.toArray from k) g (λj h1 d=>by simpa using f j (by simpa using h1) (by simpa using d))
 rw[Au,Au,l1,l2] at h
 exact h
end
section
variable{X:Cx}
def HZ(K:PySem.W.Frag):R2:=λx y H Q=>∃d e,RdV K H x d/\RdV K H y e/\d.depth<=60/\Q (.bl (Er d e)) H
def HB(K:PySem.W.Frag):R2:=λx y H Q=>∃d e,RdV K H x d/\RdV K H y e/\d.depth<=60/\Q (.bl (!Er d e)) H
theorem J6(M:X.A.units+64<cLine):Vn X (Hv .Eq) (HZ X.K):=by
 intro F s N H x y v u Q I z f h
 obtain ⟨d,e,C,w,E,q⟩:=h
 have c:X.A.units<cLine:=by omega
 cases C with
 | non =>
  cases z
  cases w with
  | non=>cases f; rw[Er] at q; exact SeqAt.RcAt.none_none _ _ _ _ ⟨.bl _,H,I,rfl,q⟩
  | bl b=>cases f; rw[Er] at q; exact SeqAt.RcAt.none_bool b _ _ _ _ ⟨.bl _,H,I,rfl,q⟩; all_goals simp
  | int b=>obtain ⟨t,rfl⟩:=f; rw[Er] at q; exact SeqAt.RcAt.none_int b t _ _ _ _ ⟨.bl _,H,I,rfl,q⟩; all_goals simp
  | str b=>obtain ⟨t,rfl⟩:=f; rw[Er] at q; exact SeqAt.RcAt.none_str b t _ _ _ _ ⟨.bl _,H,I,rfl,q⟩; all_goals simp
  | @lst b n o i g=>cases f; obtain ⟨vs,l,k,_⟩:=I.list i; rw[Er] at q; exact SeqAt.RcAt.none_list k.isList c _ _ _ _ ⟨.bl _,H,I,rfl,q⟩; all_goals simp
  | @tup b n o i g=>cases f; obtain ⟨vs,l,k,_⟩:=I.tuple i; rw[Er] at q; exact SeqAt.RcAt.none_tuple k c _ _ _ _ ⟨.bl _,H,I,rfl,q⟩; all_goals simp
 | bl a =>
  cases z
  cases w with
  | non=>cases f; rw[Er] at q; exact SeqAt.RcAt.bool_none a _ _ _ _ ⟨.bl _,H,I,rfl,q⟩; all_goals simp
  | bl b=>cases f; rw[Er] at q; exact SeqAt.RcAt.bool_bool a b _ _ _ _ ⟨.bl _,H,I,rfl,q⟩
  | int b=>obtain ⟨t,rfl⟩:=f; rw[Er] at q; exact SeqAt.RcAt.bool_int a b t _ _ _ _ ⟨.bl _,H,I,rfl,q⟩
  | str b=>obtain ⟨t,rfl⟩:=f; rw[Er] at q; exact SeqAt.RcAt.bool_str a b t _ _ _ _ ⟨.bl _,H,I,rfl,q⟩; all_goals simp
  | @lst b n o i g=>cases f; obtain ⟨vs,l,k,_⟩:=I.list i; rw[Er] at q; exact SeqAt.RcAt.bool_list a k.isList c _ _ _ _ ⟨.bl _,H,I,rfl,q⟩; all_goals simp
  | @tup b n o i g=>cases f; obtain ⟨vs,l,k,_⟩:=I.tuple i; rw[Er] at q; exact SeqAt.RcAt.bool_tuple a k c _ _ _ _ ⟨.bl _,H,I,rfl,q⟩; all_goals simp
 | int a =>
  obtain ⟨m,rfl⟩:=z
  cases w with
  | non=>cases f; rw[Er] at q; exact SeqAt.RcAt.int_none a m _ _ _ _ ⟨.bl _,H,I,rfl,q⟩; all_goals simp
  | bl b=>cases f; rw[Er] at q; exact SeqAt.RcAt.int_bool a m b _ _ _ _ ⟨.bl _,H,I,rfl,q⟩
  | int b=>obtain ⟨t,rfl⟩:=f; rw[Er] at q; exact SeqAt.RcAt.int_int a m b t _ _ _ _ ⟨.bl _,H,I,rfl,q⟩
  | str b=>obtain ⟨t,rfl⟩:=f; rw[Er] at q; exact SeqAt.RcAt.int_str a m b t _ _ _ _ ⟨.bl _,H,I,rfl,q⟩; all_goals simp
  | @lst b n o i g=>cases f; obtain ⟨vs,l,k,_⟩:=I.list i; rw[Er] at q; exact SeqAt.RcAt.int_list a m k.isList c _ _ _ _ ⟨.bl _,H,I,rfl,q⟩; all_goals simp
  | @tup b n o i g=>cases f; obtain ⟨vs,l,k,_⟩:=I.tuple i; rw[Er] at q; exact SeqAt.RcAt.int_tuple a m k c _ _ _ _ ⟨.bl _,H,I,rfl,q⟩; all_goals simp
 | str a =>
  obtain ⟨m,rfl⟩:=z
  cases w with
  | non=>cases f; rw[Er] at q; exact SeqAt.RcAt.str_none a m _ _ _ _ ⟨.bl _,H,I,rfl,q⟩; all_goals simp
  | bl b=>cases f; rw[Er] at q; exact SeqAt.RcAt.str_bool a m b _ _ _ _ ⟨.bl _,H,I,rfl,q⟩; all_goals simp
  | int b=>obtain ⟨t,rfl⟩:=f; rw[Er] at q; exact SeqAt.RcAt.str_int a m b t _ _ _ _ ⟨.bl _,H,I,rfl,q⟩; all_goals simp
  | str b=>obtain ⟨t,rfl⟩:=f; rw[Er] at q; exact SeqAt.RcAt.str_str a m b t _ _ _ _ ⟨.bl _,H,I,rfl,q⟩
  | @lst b n o i g=>cases f; obtain ⟨vs,l,k,_⟩:=I.list i; rw[Er] at q; exact SeqAt.RcAt.str_list a m k.isList c _ _ _ _ ⟨.bl _,H,I,rfl,q⟩; all_goals simp
  | @tup b n o i g=>cases f; obtain ⟨vs,l,k,_⟩:=I.tuple i; rw[Er] at q; exact SeqAt.RcAt.str_tuple a m k c _ _ _ _ ⟨.bl _,H,I,rfl,q⟩; all_goals simp
 | @lst a J L D r =>
  cases z
  obtain ⟨G,B,p,_⟩:=I.list D
  cases w with
  | non=>cases f; rw[Er] at q; exact SeqAt.RcAt.list_none p.isList c _ _ _ _ ⟨.bl _,H,I,rfl,q⟩; all_goals simp
  | bl b=>cases f; rw[Er] at q; exact SeqAt.RcAt.list_bool b p.isList c _ _ _ _ ⟨.bl _,H,I,rfl,q⟩; all_goals simp
  | int b=>obtain ⟨t,rfl⟩:=f; rw[Er] at q; exact SeqAt.RcAt.list_int b t p.isList c _ _ _ _ ⟨.bl _,H,I,rfl,q⟩; all_goals simp
  | str b=>obtain ⟨t,rfl⟩:=f; rw[Er] at q; exact SeqAt.RcAt.list_str b t p.isList c _ _ _ _ ⟨.bl _,H,I,rfl,q⟩; all_goals simp
  | @lst b n o i g=>cases f; obtain ⟨vs,l,k,_⟩:=I.list i; rw[Er] at q; exact mO p k (B.length.symm.trans r.length) (l.length.symm.trans g.length) c (λj C w=>Rb I r g B l (Xr (by simp only[Do] at E; omega)) j C w) _ _ _ _ ⟨.bl _,H,I,rfl,q⟩
  | @tup b n o i g=>cases f; obtain ⟨vs,l,k,_⟩:=I.tuple i; rw[Er] at q; exact SeqAt.RcAt.list_tuple p.isList k c _ _ _ _ ⟨.bl _,H,I,rfl,q⟩; all_goals simp
 | @tup a J L D r =>
  cases z
  obtain ⟨G,B,p,_⟩:=I.tuple D
  cases w with
  | non=>cases f; rw[Er] at q; exact SeqAt.RcAt.tuple_none p c _ _ _ _ ⟨.bl _,H,I,rfl,q⟩; all_goals simp
  | bl b=>cases f; rw[Er] at q; exact SeqAt.RcAt.tuple_bool b p c _ _ _ _ ⟨.bl _,H,I,rfl,q⟩; all_goals simp
  | int b=>obtain ⟨t,rfl⟩:=f; rw[Er] at q; exact SeqAt.RcAt.tuple_int b t p c _ _ _ _ ⟨.bl _,H,I,rfl,q⟩; all_goals simp
  | str b=>obtain ⟨t,rfl⟩:=f; rw[Er] at q; exact SeqAt.RcAt.tuple_str b t p c _ _ _ _ ⟨.bl _,H,I,rfl,q⟩; all_goals simp
  | @lst b n o i g=>cases f; obtain ⟨vs,l,k,_⟩:=I.list i; rw[Er] at q; exact SeqAt.RcAt.tuple_list p k.isList c _ _ _ _ ⟨.bl _,H,I,rfl,q⟩; all_goals simp
  | @tup b n o i g=>cases f; obtain ⟨vs,l,k,_⟩:=I.tuple i; rw[Er] at q; exact gD p k (B.length.symm.trans r.length) (l.length.symm.trans g.length) c (λj C w=>Rb I r g B l (Xr (by simp only[Do] at E; omega)) j C w) _ _ _ _ ⟨.bl _,H,I,rfl,q⟩
theorem B5(M:X.A.units+64<cLine):Vn X (Hv .NotEq) (HB X.K):=by
 intro F s N H x y v u Q I z f h
 obtain ⟨d,e,C,w,E,q⟩:=h
 have c:X.A.units<cLine:=by omega
 cases C with
 | non =>
  cases z
  cases w with
  | non=>cases f; rw[Er] at q; exact SeqAt.RcNeAt.none_none _ _ _ _ ⟨.bl _,H,I,rfl,q⟩
  | bl b=>cases f; rw[Er] at q; exact SeqAt.RcNeAt.none_bool b _ _ _ _ ⟨.bl _,H,I,rfl,q⟩; all_goals simp
  | int b=>obtain ⟨t,rfl⟩:=f; rw[Er] at q; exact SeqAt.RcNeAt.none_int b t _ _ _ _ ⟨.bl _,H,I,rfl,q⟩; all_goals simp
  | str b=>obtain ⟨t,rfl⟩:=f; rw[Er] at q; exact SeqAt.RcNeAt.none_str b t _ _ _ _ ⟨.bl _,H,I,rfl,q⟩; all_goals simp
  | @lst b n o i g=>cases f; obtain ⟨vs,l,k,_⟩:=I.list i; rw[Er] at q; exact SeqAt.RcNeAt.none_list k.isList c _ _ _ _ ⟨.bl _,H,I,rfl,q⟩; all_goals simp
  | @tup b n o i g=>cases f; obtain ⟨vs,l,k,_⟩:=I.tuple i; rw[Er] at q; exact SeqAt.RcNeAt.none_tuple k c _ _ _ _ ⟨.bl _,H,I,rfl,q⟩; all_goals simp
 | bl a =>
  cases z
  cases w with
  | non=>cases f; rw[Er] at q; exact SeqAt.RcNeAt.bool_none a _ _ _ _ ⟨.bl _,H,I,rfl,q⟩; all_goals simp
  | bl b=>cases f; rw[Er] at q; exact SeqAt.RcNeAt.bool_bool a b _ _ _ _ ⟨.bl _,H,I,rfl,q⟩
  | int b=>obtain ⟨t,rfl⟩:=f; rw[Er] at q; exact SeqAt.RcNeAt.bool_int a b t _ _ _ _ ⟨.bl _,H,I,rfl,q⟩
  | str b=>obtain ⟨t,rfl⟩:=f; rw[Er] at q; exact SeqAt.RcNeAt.bool_str a b t _ _ _ _ ⟨.bl _,H,I,rfl,q⟩; all_goals simp
  | @lst b n o i g=>cases f; obtain ⟨vs,l,k,_⟩:=I.list i; rw[Er] at q; exact SeqAt.RcNeAt.bool_list a k.isList c _ _ _ _ ⟨.bl _,H,I,rfl,q⟩; all_goals simp
  | @tup b n o i g=>cases f; obtain ⟨vs,l,k,_⟩:=I.tuple i; rw[Er] at q; exact SeqAt.RcNeAt.bool_tuple a k c _ _ _ _ ⟨.bl _,H,I,rfl,q⟩; all_goals simp
 | int a =>
  obtain ⟨m,rfl⟩:=z
  cases w with
  | non=>cases f; rw[Er] at q; exact SeqAt.RcNeAt.int_none a m _ _ _ _ ⟨.bl _,H,I,rfl,q⟩; all_goals simp
  | bl b=>cases f; rw[Er] at q; exact SeqAt.RcNeAt.int_bool a m b _ _ _ _ ⟨.bl _,H,I,rfl,q⟩
  | int b=>obtain ⟨t,rfl⟩:=f; rw[Er] at q; exact SeqAt.RcNeAt.int_int a m b t _ _ _ _ ⟨.bl _,H,I,rfl,q⟩
  | str b=>obtain ⟨t,rfl⟩:=f; rw[Er] at q; exact SeqAt.RcNeAt.int_str a m b t _ _ _ _ ⟨.bl _,H,I,rfl,q⟩; all_goals simp
  | @lst b n o i g=>cases f; obtain ⟨vs,l,k,_⟩:=I.list i; rw[Er] at q; exact SeqAt.RcNeAt.int_list a m k.isList c _ _ _ _ ⟨.bl _,H,I,rfl,q⟩; all_goals simp
  | @tup b n o i g=>cases f; obtain ⟨vs,l,k,_⟩:=I.tuple i; rw[Er] at q; exact SeqAt.RcNeAt.int_tuple a m k c _ _ _ _ ⟨.bl _,H,I,rfl,q⟩; all_goals simp
 | str a =>
  obtain ⟨m,rfl⟩:=z
  cases w with
  | non=>cases f; rw[Er] at q; exact SeqAt.RcNeAt.str_none a m _ _ _ _ ⟨.bl _,H,I,rfl,q⟩; all_goals simp
  | bl b=>cases f; rw[Er] at q; exact SeqAt.RcNeAt.str_bool a m b _ _ _ _ ⟨.bl _,H,I,rfl,q⟩; all_goals simp
  | int b=>obtain ⟨t,rfl⟩:=f; rw[Er] at q; exact SeqAt.RcNeAt.str_int a m b t _ _ _ _ ⟨.bl _,H,I,rfl,q⟩; all_goals simp
  | str b=>obtain ⟨t,rfl⟩:=f; rw[Er] at q; exact SeqAt.RcNeAt.str_str a m b t _ _ _ _ ⟨.bl _,H,I,rfl,q⟩
  | @lst b n o i g=>cases f; obtain ⟨vs,l,k,_⟩:=I.list i; rw[Er] at q; exact SeqAt.RcNeAt.str_list a m k.isList c _ _ _ _ ⟨.bl _,H,I,rfl,q⟩; all_goals simp
  | @tup b n o i g=>cases f; obtain ⟨vs,l,k,_⟩:=I.tuple i; rw[Er] at q; exact SeqAt.RcNeAt.str_tuple a m k c _ _ _ _ ⟨.bl _,H,I,rfl,q⟩; all_goals simp
 | @lst a J L D r =>
  cases z
  obtain ⟨G,B,p,_⟩:=I.list D
  cases w with
  | non=>cases f; rw[Er] at q; exact SeqAt.RcNeAt.list_none p.isList c _ _ _ _ ⟨.bl _,H,I,rfl,q⟩; all_goals simp
  | bl b=>cases f; rw[Er] at q; exact SeqAt.RcNeAt.list_bool b p.isList c _ _ _ _ ⟨.bl _,H,I,rfl,q⟩; all_goals simp
  | int b=>obtain ⟨t,rfl⟩:=f; rw[Er] at q; exact SeqAt.RcNeAt.list_int b t p.isList c _ _ _ _ ⟨.bl _,H,I,rfl,q⟩; all_goals simp
  | str b=>obtain ⟨t,rfl⟩:=f; rw[Er] at q; exact SeqAt.RcNeAt.list_str b t p.isList c _ _ _ _ ⟨.bl _,H,I,rfl,q⟩; all_goals simp
  | @lst b n o i g=>cases f; obtain ⟨vs,l,k,_⟩:=I.list i; rw[Er] at q; exact yH p k (B.length.symm.trans r.length) (l.length.symm.trans g.length) c (λj C w=>Rb I r g B l (Xr (by simp only[Do] at E; omega)) j C w) _ _ _ _ ⟨.bl _,H,I,rfl,q⟩
  | @tup b n o i g=>cases f; obtain ⟨vs,l,k,_⟩:=I.tuple i; rw[Er] at q; exact SeqAt.RcNeAt.list_tuple p.isList k c _ _ _ _ ⟨.bl _,H,I,rfl,q⟩; all_goals simp
 | @tup a J L D r =>
  cases z
  obtain ⟨G,B,p,_⟩:=I.tuple D
  cases w with
  | non=>cases f; rw[Er] at q; exact SeqAt.RcNeAt.tuple_none p c _ _ _ _ ⟨.bl _,H,I,rfl,q⟩; all_goals simp
  | bl b=>cases f; rw[Er] at q; exact SeqAt.RcNeAt.tuple_bool b p c _ _ _ _ ⟨.bl _,H,I,rfl,q⟩; all_goals simp
  | int b=>obtain ⟨t,rfl⟩:=f; rw[Er] at q; exact SeqAt.RcNeAt.tuple_int b t p c _ _ _ _ ⟨.bl _,H,I,rfl,q⟩; all_goals simp
  | str b=>obtain ⟨t,rfl⟩:=f; rw[Er] at q; exact SeqAt.RcNeAt.tuple_str b t p c _ _ _ _ ⟨.bl _,H,I,rfl,q⟩; all_goals simp
  | @lst b n o i g=>cases f; obtain ⟨vs,l,k,_⟩:=I.list i; rw[Er] at q; exact SeqAt.RcNeAt.tuple_list p k.isList c _ _ _ _ ⟨.bl _,H,I,rfl,q⟩; all_goals simp
  | @tup b n o i g=>cases f; obtain ⟨vs,l,k,_⟩:=I.tuple i; rw[Er] at q; exact qJ p k (B.length.symm.trans r.length) (l.length.symm.trans g.length) c (λj C w=>Rb I r g B l (Xr (by simp only[Do] at E; omega)) j C w) _ _ _ _ ⟨.bl _,H,I,rfl,q⟩
theorem C4{z a:V}{v:Value}(h:RelV z v)(h':RelV a v):z=a:=by
 cases z <;> cases a <;> simp only[L2.RelV] at h h' <;> first | rfl | (subst h; cases h'; rfl) | (subst h; cases h'; done) | (obtain ⟨t,rfl⟩:=h; obtain ⟨b,e⟩:=h'; cases e; rfl) | (obtain ⟨t,rfl⟩:=h; obtain ⟨b,e⟩:=h'; cases e; done) | (obtain ⟨t,rfl⟩:=h; cases h'; done) | (subst h; obtain ⟨b,e⟩:=h'; cases e)
open Classical in
noncomputable def Nj(K:PySem.W.Frag)(H:Hp)(d:Ae)(v:Value):Bool:=if h:∃e z,RdV K H z e/\RelV z v then Er h.choose d else false
theorem oN{a:List (Addr×Obj)}{c:L2.St}{H:Hp}{s:Al}(I:Inv X a c H s){d e:Ae}{z:V}{v:Value}(h:RdV X.K H z e)(r:RelV z v):Nj X.K H d v=Er e d:=by
 unfold Nj
 have b:∃e z,RdV X.K H z e/\RelV z v:=⟨e,z,h,r⟩
 rw[dif_pos b]
 obtain ⟨j,i,g⟩:=b.choose_spec
 have f:=C4 g r
 subst f
 rw[RdV.det I i h]
theorem Qm{a:List (Addr×Obj)}{c:L2.St}{H:Hp}{s:Al}(I:Inv X a c H s){d:Ae}:∀{xs:List V} {b:List Ae} {us:List Value},RdVs X.K H xs b->Gv xs us->us.any (Nj X.K H d)=b.any λe=>Er e d
 | _,_,_,.nil,r=>by cases r; rfl
 | _,_,_,.cons h t,r=>by
  cases r with
  | cons g f=>rw[Xe,Xe,oN I h g,Qm I t f]
theorem Qk{a:List (Addr×Obj)}{k:L2.St}{H:Hp}{s:Al}(I:Inv X a k H s){A:Df}{x:V}{d:Ae}{u:Value}(c:RdV X.K H x d)(b:RelV x u):∀{xs:List V} {g:List Ae} {us:List Value},RdVs X.K H xs g->Gv xs us->A.units+Br g<cLine->∀v∈us,Na A s v u (Nj X.K H d v)
 | _,_,_,.nil,r,_=>λv hv=>by cases r; cases hv
 | _,_,_,@RdVs.cons _ _ y e ys es h t,r,hu=>λv hv=>by
  have i:A.units+e.depth<cLine/\A.units+Br es<cLine:=by
   simp only[Br] at hu
   omega
  cases r with
  | cons f j =>
   rcases Ai.mp hv with rfl | hv
   ·rw[oN I h f]; exact F9 I h c f b i.1
   ·exact Qk I c b t j i.2 v hv
def AR(K:PySem.W.Frag)(neg:Bool):R2:=λx y H Q=>∃p b d a,y=.ref p/\(Qf K H p b\/Tz K H p b)/\RdV K H x d/\RdVs K H b a/\Br a<=60/\Q (.bl (if neg then !(a.any λe=>Er e d) else a.any λe=>Er e d)) H
theorem E9(z:X.A.units+64<cLine):Vn X (Hv .In) (AR X.K false):=by
 intro i s t H x y v u Q I g k h
 obtain ⟨p,o,d,m,rfl,hq,j,c,n,q⟩:=h
 cases k
 have b:X.A.in1.units+Br m<cLine:=by have:=Xp X.A; omega
 rcases hq with hq | hq
 ·obtain ⟨a,r,e,l⟩:=I.list hq
  refine SeqAt.in_listAt (Nj X.K H d) e.isList (λw f=>Qk I j g c r b w (by simpa using f)) ⟨.bl _,H,I,rfl,?_⟩
  rw[show a.toArray.any (Nj X.K H d)=a.any (Nj X.K H d) by simp,Qm I c r]
  exact q
 ·obtain ⟨a,r,e,l⟩:=I.tuple hq
  refine SeqAt.in_tupleAt (Nj X.K H d) e (λw f=>Qk I j g c r b w (by simpa using f)) ⟨.bl _,H,I,rfl,?_⟩
  rw[show a.toArray.any (Nj X.K H d)=a.any (Nj X.K H d) by simp,Qm I c r]
  exact q
theorem vI(z:X.A.units+64<cLine):Vn X (Hv .NotIn) (AR X.K true):=by
 intro i s t H x y v u Q I g k h
 obtain ⟨p,o,d,m,rfl,hq,j,c,n,q⟩:=h
 cases k
 have b:X.A.in1.units+Br m<cLine:=by have:=Xp X.A; omega
 rcases hq with hq | hq
 ·obtain ⟨a,r,e,l⟩:=I.list hq
  refine SeqAt.notIn_listAt (Nj X.K H d) e.isList (λw f=>Qk I j g c r b w (by simpa using f)) ⟨.bl _,H,I,rfl,?_⟩
  rw[show a.toArray.any (Nj X.K H d)=a.any (Nj X.K H d) by simp,Qm I c r]
  exact q
 ·obtain ⟨a,r,e,l⟩:=I.tuple hq
  refine SeqAt.notIn_tupleAt (Nj X.K H d) e (λw f=>Qk I j g c r b w (by simpa using f)) ⟨.bl _,H,I,rfl,?_⟩
  rw[show a.toArray.any (Nj X.K H d)=a.any (Nj X.K H d) by simp,Qm I c r]
  exact q
end
def KO(K:PySem.W.Frag)(a:Addr):It :=
 ⟨λi H=>∃b x,Qf K H a b/\b[i]? = some x,λi H x c=>∃p y,x=.ref p/\H p=none/\c=upd H p (.tup [.int i,y])/\∀b,Qf K H a b->b[i]? = some y,λi H=>∃b,Qf K H a b/\b.length<=i⟩
section
variable{X:Cx}{a:List (Addr×Obj)}{d:L2.St}{H:Hp}{s:Al}{h':Heap}
theorem Qy{t':Nat}{fp:List Addr}(I:Inv X a d H s)(k:∀b o,b∉fp->s.heap.get? b=some o->h'.get? b=some o)(h:∀b∈fp,My X a H b):Inv X a d H { s with heap:=h',toks:=t' }:=by
 have g:∀b u,H b=some u->b∉fp:=λb u e z=>by rw[(h b z).1] at e; cases e
 refine I.step (g':=s.gens) (d':=s.drawn) (ch:=fp) (λb x=>?_) (λb o _ _ f e _=>k b o f e) (λb o _ _ f e _=>⟨o.slots,k b o f e⟩) (λ_ _ _ _ n=>n)
  (λb o f e=>⟨o,k b o f e⟩) (λ_ _ e=>e) (λ_ _ _ e=>e) (λb B e=>⟨#[],by rw[e]; simp⟩) (λm A=>?_) (λb u e=>?_) I.bare
 ·obtain ⟨_,y,_,l,w,p⟩:=h b x
  exact ⟨l,y,w,p⟩
 ·obtain ⟨o,j,t,i,r⟩:=A
  exact ⟨o,j,t,k _ o (λz=>(h _ z).2.1 rfl) i,r⟩
 ·refine (I.hok b u e).stay (λc v f q=>k c v ?_ q) (λ_ q=>q) λ_ _ q=>q
  rcases f with z | z
  ·rw[z]; exact g b u e
  ·exact g c _ z
end
theorem vH{P:Bq}{w:World}{K:PySem.W.Frag}{A:List Expr}{k:Nat}{pos:Pos}(a e it:Addr)(V:e≠it):Turn P w K (.Tuple A k pos) (KO K a) [e,it] e (λi h=>(∃g,IsEnum h e it ((i:Nat):Int) g)/\h.IsListIter it a i) where
 mem:=Aa
 obj:=λi h st b f=>by
  obtain ⟨⟨g,j⟩,o,e1,c,d⟩:=st
  rcases Ai.mp f with z | z
  ·subst z
   exact ⟨_,j,λv z=>by cases z⟩
  ·rw[Ac.mp z]
   exact ⟨o,e1,λv z=>by rw[d] at z; cases z⟩
 keep:=λi h h' st kp=>⟨let ⟨g,j⟩:=st.1; ⟨g,kp e Aa _ j⟩,st.2.at λo q=>kp it (Ad _ Aa) o q⟩
 item:=by
  intro X F M O S i n s T H E I B st N
  subst F M O
  obtain ⟨xs,x,C,J⟩:=N
  obtain ⟨D,G,p,hz⟩:=I.list C
  obtain ⟨u,hu,ru⟩:=G.get J
  obtain ⟨⟨g,j⟩,l⟩:=st
  have Z:e<s.heap.objs.size:=Bn j
  have il:it<s.heap.objs.size:=by obtain ⟨_,q,_⟩:=l; exact Bn q
  refine wpAny_pyNext_enum_item j l p.isList (x:=u) (by simpa using hu) V λY ho t hT h0 hk=>⟨_,rfl,wpAny_letOwnedTupleGo_enum ho λU L Q=>?_⟩
  have m:Jf e Y U:=Q
  -- the pair laid,then the iterators turned
  have I1:Inv X n T (upd H s.heap.objs.size (.tup [.int i,x])) { s with heap:=s.heap.push { cls:=.type "tuple",data:=.seq #[.int i s.toks,u] } } :=
   I.laid (t':=s.toks) (λb o q=>Av _ q) (Aj _) ⟨by show 2<=Bc; decide,[.int i s.toks,u],.cons ⟨_,rfl⟩ (.cons ru .nil),_,Bs _ rfl,rfl,0,rfl⟩
  have nT:∀b∈[e,it],b≠s.heap.objs.size:=λb f=>by
   rcases Ai.mp f with z | z
   ·rw[z]; exact Da Z
   ·rw[Ac.mp z]; exact Da il
  have fr:∀b∈[e,it],(upd H s.heap.objs.size (.tup [.int i,x])) b=none:=λb f=>by rw[Ef (nT b f)]; exact (B b f).1
  refine ⟨.ref s.heap.objs.size,_,Qy (fp:=[e,it]) (s:={ s with heap:=s.heap.push { cls:=.type "tuple",data:=.seq #[.int i s.toks,u] } }) (h':=U) (t':=s.toks+1) I1 (λb o f q=>?_) (λb f=>⟨fr b f,(B b f).2⟩),rfl,⟨_,x,rfl,I.hok.fresh (Aj _),rfl,λys hy=>by rw[I.list_inj hy C]; exact J⟩,⟨⟨u,?_⟩,?_⟩,fr⟩
  ·have r:b≠e:=λz=>f (by rw[z]; exact Aa)
   have R:b≠it:=λz=>f (by rw[z]; exact Ad _ Aa)
   refine (m.2 b r).trans ?_
   by_cases y:b=s.heap.objs.size
   ·subst y
    have q':=(Bs s.heap (o:={ cls:=.type "tuple",data:=.seq #[.int i s.toks,u] }) rfl).symm.trans q
    rw[hT]
    exact q'
   ·refine hk b o r R ?_
    have q0:(s.heap.push { cls:=.type "tuple",data:=.seq #[.int i s.toks,u] }).get? b=some o:=q
    rcases Heap.get?_push_cases q0 with z | z
    ·exact absurd z.1 y
    ·exact z
  ·have : ((i+1:Nat):Int)=(i:Int)+1:=by omega
   rw[this]
   exact L
  ·exact t.at λo q=>(m.2 it (Oh V)).trans q
 done:=by
  intro X F M O S i n s T H E I B st N
  subst F M O
  obtain ⟨xs,C,J⟩:=N
  obtain ⟨D,G,p,hz⟩:=I.list C
  obtain ⟨⟨g,j⟩,l⟩:=st
  have hl:=G.length
  exact wpAny_pyNext_enum_end (I.ok.hd S) j l p.isList (by simp; omega) λY eb=>⟨rfl,Qy (fp:=[e,it]) (t':=s.toks) I (λb o f q=>eb b o (λz=>f (by rw[z]; exact Ad _ Aa)) q) B⟩
 self:=λ_ _ _ _ _ st h=>let ⟨_,j⟩:=st.1; wpAny_pyIter_enum j h
section
variable{X:Cx}
def HQ(K:PySem.W.Frag)(d:TA):TI:=λc H R=>d c H λvs b=>∃a,vs=[.ref a]/\(∃e,Qf K b a e)/\R (KO K a) b
theorem T5{g:List Expr}{k:Nat}{E:Pos}{a:Expr}{m:TA}{p pos:Pos}(C:Gl X "enumerate")(y:X.mg "enumerate" = none)(t:PA X [a] m)(F:Be [a] X.env=[(false,eval a X.env)]:=by rfl):PI X (.Tuple g k E) (.Call (.Name "enumerate" p) [a] [] pos) (HQ X.K m):=by
 intro c s D H R I h
 refine Call_ (Qc I C y (u:=.type "enumerate") (by decide +kernel) (Jw (Gk (t pos c s D H _ I h) λM f ⟨vs,n,d,r,x⟩=>?_) F rfl))
 obtain ⟨l,e,⟨N,G⟩,q⟩:=x
 subst e
 obtain ⟨u,rfl,w⟩:=vals1 r
 cases w
 obtain ⟨o,L,B,O⟩:=d.list G
 refine call_enumerate_list B.isList λP j i A v=>wpAny_pyIter_enum j ?_
 have fr:∀b∈[f.heap.objs.size+1,f.heap.objs.size],My X c n b:=λb J=>by
  rcases Ai.mp J with z | z
  ·rw[z]; exact d.fpOk (Oi _) (d.hok.fresh (Oi _))
  ·rw[Ac.mp z]; exact d.fpOk (Aj _) (d.hok.fresh (Aj _))
 exact ⟨f.heap.objs.size+1,[f.heap.objs.size+1,f.heap.objs.size],_,_,n,rfl,d.kept (t':=f.toks) v,vH l _ _ (Nat.succ_ne_self _),⟨⟨_,j⟩,i⟩,fr,q⟩
end
section
variable{X:Cx}
def AE(K:PySem.W.Frag)(J:It)(o:List Nat)(p:TT)(q:TE)(l:L2.St)(j:Hp)(Q:VK):Prop:=∀D,j D=none->∃W:Nat->Nat->Hp->Prop,(∃m,W 0 m (upd j D (.lst [])))/\∀i m H,W i m H ->
 (J.stop i H/\Q (.ref D) H)\/(J.go i H/\∀x f,J.yld i H x f->∃(t:Addr) (g e:V),x=.ref t/\Tz K f t [g,e]/\∃(n:Hp->Prop) (k:VK),(∀b,n b->∃d,d<m/\W (i+1) d b) /\
  (∀y h,k y h->∃a,h D=some (.lst a)/\a.length<Bc/\∃d,d<m/\W (i+1) d (upd h D (.lst (a++[y])))) /\
  p (some g::some e::Ei l o) f λc b=>if c=true then q (some g::some e::Ei l o) b k else n b)
def yP(K:PySem.W.Frag)(b:TI)(f:List Nat)(d:TT)(e:TE):TE:=λa H Q=>b a H λJ c=>AE K J f d e a c Q
end
section
variable{X:Cx}
theorem jD{t f:Expr}{x R:Str}{px py pos U:Pos}{i0:Nat}{l:List Expr}{a:Scope}{cl:List (Str×Addr)}{ys:List Str}{S:List Nat}{wi:TI}{tc:TT}{te:TE}(hN:X.N.Nodup)(q6:X.N[i0]? = some R)(q3:X.env.scope.names.lookup R=some .local)(C:CompScope X a cl x ys S)(hc:X.calm=true)(hi:PI X (.Name x px) f wi)(ht:∀fp s H,pA (Dg X a cl (x::ys) fp s H) l tc)(he:∀fp s H,PE (Dg X a cl (x::ys) fp s H) t te)(hs:∀x,Cw f X.env x=pure x:=by intro _; rfl)(j2:Hu (.ListComp t [⟨.Name x px,f,l,0⟩] a pos) (some (.Name R py)) U.line X.env=pure true:=by rfl):PS X (.Assign [.Name R py] (.ListComp t [⟨.Name x px,f,l,0⟩] a pos) U) (wJ (nX wi S tc te) (Rr i0)):=by
 intro d s k H De I h
 have h:nX wi S tc te k H λv H1=>De.nx (k.set i0 (some v)) H1:=h
 rw[Xb _ _ _ _ j2]
 refine Ag (He (Ag ?_))
 show wpAny _ X.A (do let _ <- dR (.ListComp t [⟨.Name x px,f,l,0⟩] a pos) a X.env _ (newList []) false (eval f X.env) (some (Kv (.Name R py) X.env))) _ _ s
 refine Ag (Co (Jv (use:=some (Kv (.Name R py) X.env)) (Q:=λ_ Y=>SP X d De .next Y) rfl hs C.clos C.kind C.locs (Gk (hi d s k H _ I h) λv s1 h1=>Gk h1 λx7 g h2=>?_)) (λ_ Y hq=>Aw (Aw hq)) λ_ _ e=>e)
 obtain ⟨it,fp,tn,J,H2,e,I2,T,j3,f2,q2⟩:=h2
 subst e
 have fD:H2 g.heap.objs.size=none:=I2.hok.fresh (Aj _)
 obtain ⟨W,⟨m0,w0⟩,k9⟩:=q2 g.heap.objs.size fD
 refine Hf ?_
 have I3:Inv X d k (upd H2 g.heap.objs.size (.lst [])) { g with heap:=g.heap.push { cls:=.type "list",dict:=none,data:=.seq ([]:List Value).toArray } } :=
  I2.laid (t':=g.toks) (λb u q=>Av _ q) (Aj _) ⟨Dh _,[],0,.nil,Bs _ rfl⟩
 obtain ⟨f3,q0,q9⟩:=Sv I2 T j3 f2 I3
 generalize h8:({ g with heap:=g.heap.push { cls:=.type "list",dict:=none,data:=.seq ([]:List Value).toArray } }:Al)=s3 at I3
 have Re:tn 0 s3.heap:=by rw[<- h8]; exact q0
 have o3:∀b∈fp,∃o,s3.heap.get? b=some o:=by rw[<- h8]; exact q9
 show wpAny _ _ (Ma a X.env.globals cl [] X.env.qual none .none (some X.env)) _ _ _
 refine Ql C λh4 k5 E k6=>?_
 have I4:∀tk,Inv (Dg X a cl (x::ys) fp s3 (upd H2 g.heap.objs.size (.lst []))) [] (none::Ei k S) (upd H2 g.heap.objs.size (.lst [])) { s3 with heap:=h4,toks:=tk }:=λtk=>Oz (pre:=[x]) C I3 f3 o3 k5 E k6
 have h6:tn 0 h4:=T.keep 0 _ _ Re λb B o q=>E b o q
 generalize G:Dg X a cl (x::ys) fp s3 (upd H2 g.heap.objs.size (.lst []))=X' at I4
 obtain ⟨eP,eW,eK,eA,eC⟩:=Sh hc G
 have D:∀{j:Hp},(∀b∈fp,j b=none)->∀b∈fp,My X' [] j b:=λ{j} hn=>Qq G (I4 0) hn
 have M:∀s5:Al,s5={ s3 with heap:=h4,toks:=s3.toks+([]:List (Str×Value)).length } ->
   Iu (model X.prog X.w) X.A (.compLoop (.ListComp t [⟨.Name x px,f,l,0⟩] a pos) 0 (.ref it) (.ref g.heap.objs.size) (Ur a (Et (s3.heap.objs.size+1) a.names cl) s3.heap.objs.size X.env))
    (compPost (model X.prog X.w) X.A X.xe (some (Kv (.Name R py) X.env)) (λ_ Y=>SP X d De .next Y) (.ref g.heap.objs.size) s3.heap.objs.size) s5:=by
  rintro s5 rfl
  refine Uv (λn Y=>∃i o j,Inv X' [] (o::Ei k S) j Y/\tn i Y.heap/\(∀b∈fp,j b=none)/\W i n j) ?_ m0
   ⟨0,none,_,I4 _,h6,λb B=>(f3 b B).1,w0⟩
  (intro n s6 q_; obtain ⟨i,o,H6,I6,k3,h3,w6⟩ := q_)
  rcases k9 i n H6 w6 with ⟨h9,qn⟩ | ⟨go,step⟩
  ·have hd:=T.done X' eP eW eK eC i [] s6 _ H6 (λ_ _=>False) I6 (D h3) k3 h9
   rw[eA] at hd
   refine Gk hd λr s7 c => ?_
   obtain ⟨hr,I7⟩ := c
   subst hr
   obtain ⟨⟨m7,O⟩,k4,J7⟩:=Xz G I3 f3 I7
   have fC:My X d H6 s3.heap.objs.size:=I3.fpOk (Aj _) k4
   obtain ⟨oC,y1,x6,k0,rC⟩:=id O
   have J8:Inv X (d++[(s3.heap.objs.size,oC)]) k H6 s7:=J7.pins_of λp hp=>by
    rcases Am.mp hp with z | z
    ·have q:=J7.pin p (Af _ z)
     exact q
    ·rw[Ac.mp z]
     exact ⟨k0,k4,fC.2.1,fC.2.2.1,λv hv=>by rw[rC.1] at hv; cases hv⟩
   refine Gk (La (X:=X) (i:=i0) (x:=R) (pos:=py) hN q6 (.inl q3) (.inr q3) (d++[(s3.heap.objs.size,oC)]) s7 k H6 (.ref g.heap.objs.size) (.ref g.heap.objs.size) (λV j=>V=k.set i0 (some (.ref g.heap.objs.size))/\j=H6) J8 rfl ⟨rfl,rfl⟩) λ_ F c => ?_
   obtain ⟨x2,P,K,e9,Z⟩ := c
   subst e9 Z
   have q1:=(K.pin (s3.heap.objs.size,oC) (Af _ (Af _ Aa))).1
   have j8:Inv X d (k.set i0 (some (.ref g.heap.objs.size))) P F:=K.pins_of λp hp=>K.pin p (Af _ (Ah _ hp))
   refine ⟨m7,O.at λo e=>by rw[k0] at e; cases e; exact q1,λx8 k8=>?_⟩
   exact ⟨_,P,Qy (t':=F.toks) (fp:=[s3.heap.objs.size]) j8 (λb o B e=>(k8.2 b (λz=>B (by rw[z]; exact Aa))).trans e) (λb B=>by rw[Ac.mp B]; exact fC),qn⟩
  ·have k1:=T.item X' eP eW eK eC i [] s6 _ H6 (λ_ _=>False) I6 (D h3) k3 go
   rw[eA] at k1
   refine Gk k1 λr s7 c => ?_
   obtain ⟨u,hr,h7⟩ := c
   subst hr
   refine Gk h7 λ_ s8 c => ?_
   obtain ⟨y,H8,I8,r8,y8,h0,x1⟩ := c
   have j1:=I8.pinned (D x1) (T.obj _ _ h0)
   obtain ⟨N1,N2,j5,j7,q7⟩:=step y H8 y8
   have again:∀{P:Hp} {F:Al} {m':Nat},Inv X' ([]++On fp s8.heap) (some y::Ei k S) P F->m'<n->W (i+1) m' P->∃m,m<n/\∃i o j,Inv X' [] (o::Ei k S) j F/\tn i F.heap/\(∀b∈fp,j b=none)/\W i m j:=λ{P F m'} K hm w9=>by
    refine ⟨m',hm,i+1,some y,P,K.unpinned,T.keep _ _ _ h0 λb B o e=>(K.pin (b,o) (Af _ (Af _ (Gr B e)))).1,λb B=>?_,w9⟩
    obtain ⟨o,e,_⟩:=T.obj _ _ h0 b B
    exact (K.pin (b,o) (Af _ (Af _ (Gr B e)))).2.1
   subst G
   refine Gk (La (i:=0) (x:=x) (pos:=px) C.nd rfl (Pp C.own) (Si C.own) _ s8 _ H8 y u (λV j=>V=some y::Ei k S/\j=H8) j1 r8 ⟨rfl,rfl⟩) λ_ F c => ?_
   obtain ⟨x2,P,K,e9,Z⟩ := c
   subst e9 Z
   refine Gk (ht fp s3 _ _ F _ _ _ K q7) λok j4 c => ?_
   obtain ⟨x9,k2,L⟩ := c
   cases ok with
   | false =>
    rw[if_neg Cg] at L ⊢
    obtain ⟨m',hm,x3⟩:=j5 _ L
    exact again k2 hm x3
   | true =>
    rw[if_pos rfl] at L ⊢
    refine Gk (he fp s3 _ _ j4 _ _ _ k2 L) λz x0 c => ?_
    obtain ⟨vz,h5,q8,j0,j6⟩ := c
    obtain ⟨k7,ha,hz,m',hm,j9⟩:=j7 _ _ j6
    refine Gk (Nz _ x0 _ h5 (.ref g.heap.objs.size) [vz] (.ref g.heap.objs.size) [z] (λ_ j=>j=upd h5 g.heap.objs.size (.lst (k7++[vz]))) q8 rfl (.cons j0 .nil) ⟨_,k7,vz,rfl,rfl,ha,hz,rfl⟩) λ_ x5 c => ?_
    obtain ⟨_,x4,q5,_,q4⟩ := c
    subst q4
    exact again q5 hm j9
 exact Nn (M _ rfl) (T.self X.A 0 _ _ _ h6 (M _ rfl))
end
end Nd
namespace Nd
open PySem L2
def X4(K:PySem.W.Frag):R2:=λx y H Q=>∃a b d c,x=.ref a/\y=.ref b/\Tz K H a d/\Tz K H b c/\d.length+c.length<=Bc/\(d=[]->Q (.ref b) H)/\(c=[]->Q (.ref a) H)/\(∀p,H p=none->Q (.ref p) (upd H p (.tup (d++c))))
open PyProof.Rows in
theorem R9{X:Cx}:Vn X (Lh .Add) (X4 X.K):=by
 intro c s O H x y v u Q I m k h
 obtain ⟨a,b,l,D,rfl,rfl,n,q,P,C,B,z⟩:=h
 by_cases f:l=[]
 ·cases m
  cases k
  obtain ⟨e,A,M,_⟩:=I.tuple n
  obtain ⟨j,V,E,_⟩:=I.tuple q
  have d:e=[]:=A.nil_iff.mpr f
  subst d
  obtain ⟨⟨U,G,S,i⟩,r,w,L,d⟩:=id M
  obtain ⟨⟨T,N,R,g⟩,o,p,J,t⟩:=id E
  simp only at w d p t
  subst w d p t
  exact iB ⟨_,r,rfl⟩ ⟨_,o,rfl⟩ Uq dO PySem.F.slot_tuple_add PySem.F.entry_tuple_add (PySem.F.args_tuple_add_2 _ _)
   (tuple_addW0 a b _ _ L J G N i g rfl) ⟨r,o,⟨.ref b,H,I,rfl,C f⟩⟩
 ·exact tN c s O H (.ref a) (.ref b) v u Q I m k ⟨a,b,l,D,rfl,rfl,n,q,f,P,B,λ_=>z⟩
theorem gA:∀{l:List Int},l.Nodup->l.Pairwise (·<=·)->l.Pairwise (· < ·)
 | [],_,_=>.nil
 | a::l,n,p=>by
  obtain ⟨f,g⟩:=Ay.mp p
  obtain ⟨d,e⟩:=Bp.mp n
  refine Ay.mpr ⟨λb c=>?_,gA e g⟩
  have:=f b c
  have : a≠b:=λz=>d (by rw[z]; exact c)
  omega
end Nd
namespace Nd
open PySem PySem.Spec PyProof.Rows L2
end Nd
namespace Nd
open PySem L2
def LV(K:PySem.W.Frag):List V->Hp->VK->Prop:=λa H Q=>∃x n t b,a=[x,.ty n]/\TyOf K H x t/\PySem.W.kitOne K t (.type n)=some b/\Q (.bl b) H
theorem bQ{X:Cx}:Om X (.builtin "isinstance") (LV X.K):=nZ
theorem AM{K:PySem.W.Frag}{T:String}:PySem.W.kitOne K (.type T) (.type T)=some true:=by
 unfold PySem.W.kitOne
 rw[if_pos (by simp)]
theorem compScope0{X:Cx}{a:Scope}{x:Str}(c:closureFor a X.env=pure [])(b:∀y∈a.names,y.2≠.cell)(kind:a.kind=.function)(locs:∀y∈a.names,y.2=.local->a.names.lookup y.1=some .local)(e:a.names.lookup x=some .local)(d:(a.names.all λy=>!(y.2 == Em) || (([]:List (Str×Addr)).lookup y.1).isSome)=true):CompScope X a [] x [] [] :=
 ⟨c,.inl b,kind,locs,.inl e,λ_ _ h=>by simp at h,d,Bp.mpr ⟨Bf,Dl⟩,rfl,λk y j f _=>by simp at f⟩
theorem sz{n:Nat}(h:n<=1000:=by first | decide | simp | (simp; omega)):n<=Bc:=Lr (gS h)
end Nd
namespace Nd
open PySem PySem.Spec PyProof.Rows L2
theorem CM{K:PySem.W.Frag}{T n:String}{b:Bool}(h1:(Ek T == Ek n)=false)(c:PySem.W.kitMeta n=true)(a:(fastBuiltinMro T).map (λx=>x.contains (Ek n))=some b):PySem.W.kitOne K (.type T) (.type n)=some b:=by
 unfold PySem.W.kitOne PySem.W.kitCls
 rw[h1,if_neg (by decide)]
 dsimp only
 rw[if_pos c]
 exact a
theorem Z7:∀{vs:List Value} {a:List Int},Lo vs a->Gv (a.map V.int) vs
 | _,_,.nil=>.nil
 | _,_,.cons n t h=>.cons ⟨t,rfl⟩ (Z7 h)
end Nd
namespace NdS
open PySem
theorem cH{mask finger moves:Nat}{led plain:Bool}{c:Array Int}{t:Dk}{order:Array Nat}(h:Jz mask finger moves led plain c=some (t,order)):t.led=led/\t.mask=mask/\t.plain=plain/\t.dummies=#[]:=by
 unfold Jz at h
 cases b:Pu mask c with
 | none=>rw[b] at h; cases h
 | some a =>
  rw[b] at h
  cases h
  exact ⟨rfl,rfl,rfl,rfl⟩
def st(m i:Nat):Nat:=(i * 5+1) % m
def it(m:Nat):Nat->Nat->Nat
 | 0,i=>i
 | t+1,i=>it m t (st m i)
theorem cO(m:Nat):∀(a b i:Nat),it m (a+b) i=it m b (it m a i)
 | 0,b,i=>by rw[Kd]; rfl
 | a+1,b,i=>by rw[Za]; exact cO m a b (st m i)
def GV(m:Nat):Nat->Nat->List Nat
 | 0,_=>[]
 | f+1,i=>i::GV m f (st m i)
theorem Zt{m:Nat}:∀{f i e:Nat},e∈GV m f i->∃t,t<f/\it m t i=e
 | 0,_,_,h=>by cases h
 | f+1,i,e,h=>by
  rcases Ai.mp h with z | z
  ·exact ⟨0,aK _,z.symm⟩
  ·obtain ⟨t,a,b⟩:=Zt z
   exact ⟨t+1,Nat.succ_lt_succ a,b⟩
def Kl(m:Nat):Prop:=0<m/\it m m 0=0/\∀e,e<m->e∈GV m m 0
theorem Qj{m:Nat}(h0:0<m)(h1:(it m m 0 == 0)=true)(b:((Ce m).all λe=>(GV m m 0).contains e)=true):Kl m :=
 ⟨h0,by simpa using h1,λe a=>by
  have:=List.all_eq_true.mp b e (Ip.mpr a)
  simpa using this⟩
theorem AB:Kl 8:=Qj (by decide) (by decide +kernel) (by decide +kernel)
theorem AW:Kl 16:=Qj (by decide) (by decide +kernel) (by decide +kernel)
theorem DK:Kl 32:=Qj (by decide) (by decide +kernel) (by decide +kernel)
theorem AL:Kl 64:=Qj (by decide) (by decide +kernel) (by decide +kernel)
theorem O0:Kl 128:=Qj (by decide) (by decide +kernel) (by decide +kernel)
theorem uG:Kl 256:=Qj (by decide) (by decide +kernel) (by decide +kernel)
theorem cover{m:Nat}(g:Kl m){i e:Nat}(k:i<m)(j:e<m):∃t,t<m/\it m t i=e:=by
 obtain ⟨n,l,f⟩:=g
 obtain ⟨a,o,h⟩:=Zt (f i k)
 obtain ⟨b,p,d⟩:=Zt (f e j)
 by_cases c:a<=b
 ·refine ⟨b - a,by omega,?_⟩
  rw[<- h,<- cO,Nat.add_sub_cancel' c]
  exact d
 ·refine ⟨b+m - a,by omega,?_⟩
  rw[<- h,<- cO,show a+(b+m - a)=m+b by omega,cO,l]
  exact d
def lp(m:Nat):Nat->Nat->Nat->Nat×Nat
 | 0,i,p=>(i,p)
 | t+1,i,p=>lp m t ((i * 5+1+p / 32) % m) (p / 32)
theorem A9(m:Nat):∀(a b i p:Nat),lp m (a+b) i p=lp m b (lp m a i p).1 (lp m a i p).2
 | 0,b,i,p=>by rw[Kd]; rfl
 | a+1,b,i,p=>by rw[Za]; exact A9 m a b _ _
theorem uV(m:Nat):∀(t i:Nat),lp m t i 0=(it m t i,0)
 | 0,_=>rfl
 | t+1,i=>uV m t (st m i)
theorem oI{m:Nat}:∀(n i p:Nat),p<32 ^ n->(lp m n i p).2=0
 | 0,i,p,h=>by show p=0; simpa using h
 | n+1,i,p,h=>oI n _ _ (by rw[Mu] at h; exact Nat.div_lt_of_lt_mul (by omega))
theorem W0{m:Nat}(h0:0<m):∀(n i p:Nat),i<m->(lp m n i p).1<m
 | 0,i,p,h=>h
 | n+1,i,p,h=>W0 h0 n _ _ (Qh _ h0)
theorem oW{m:Nat}(g:Kl m){i p e:Nat}(d:i<m)(c:p<2 ^ 64)(b:e<m):∃t,t<m+14/\(lp m t i p).1=e:=by
 have a:=oI (m:=m) 13 i p (By c (by decide))
 obtain ⟨t,h,f⟩:=cover g (W0 g.1 13 i p d) b
 refine ⟨13+t,by omega,?_⟩
 rw[A9,a,uV]
 exact f
theorem Xo(mask i:Nat):i<=Jx mask i:=by unfold Jx; split <;> omega
theorem gW{mask:Nat}{owner:Array (Option Nat)}:∀(fuel i p t:Nat),t<fuel->(owner.getD (lp (mask+1) t i p).1 (some 0)).isNone=true->∃j,Li mask owner fuel i p=some j/\(owner.getD j (some 0)).isNone=true
 | 0,_,_,_,h,_=>absurd h (Gd _)
 | fuel+1,i,p,t,h,hn=>by
  unfold Li
  split
  ·rename_i k a
   exact ⟨i+k,rfl,by have:=Tx a; exact this⟩
  ·rename_i a
   rw[List.find?_eq_none] at a
   cases t with
   | zero =>
    have:=a 0 (Ip.mpr (by have:=Xo mask i; omega))
    exact absurd hn (by simpa [lp] using this)
   | succ t =>
    exact gW fuel _ _ t (by omega) hn
theorem Vg{L:List (Option Nat)}:∀{j x:Nat},L[j]? = some none->((L.set j (some x)).filterMap id).Perm (x::L.filterMap id):=by
 induction L with
 | nil=>intro j x h; simp at h
 | cons a L c =>
  intro j x h
  cases j with
  | zero =>
   simp at h
   subst h
   simp
  | succ j =>
   have d:L[j]? = some none:=by simpa using h
   have:=c (x:=x) d
   cases a with
   | none=>simpa using this
   | some b=>simpa using (Oj b this).trans (Ee x b _)
theorem wW{L:List (Option Nat)}:(L.filterMap id).length<L.length->∃j:Nat,L[j]? = some none:=by
 induction L with
 | nil=>intro h; simp at h
 | cons a L d =>
  intro h
  cases a with
  | none=>exact ⟨0,rfl⟩
  | some b =>
   have : (L.filterMap id).length<L.length:=by simpa using h
   obtain ⟨j,c⟩:=d this
   exact ⟨j+1,by simpa using c⟩
theorem tQ(h:Int):Eb h<2 ^ 64:=by
 unfold Eb
 have b:=Int.emod_nonneg h (show (2 ^ 64:Int)≠0 by decide)
 have a:=Int.emod_lt_of_pos h (show (0:Int)<2 ^ 64 by decide)
 omega
def ES(mask:Nat)(a:Option (Array (Option Nat)×Nat))(h:Int):Option (Array (Option Nat)×Nat):=do
 let (owner,k) <- a
 let j <- Li mask owner (Hl mask) (Eb h % (mask+1)) (Eb h)
 pure (owner.setIfInBounds j (some k),k+1)
theorem lU{mask:Nat}(g:Kl (mask+1)):∀(b:List Int) (owner:Array (Option Nat)) (n:Nat),owner.size=mask+1->(owner.toList.filterMap id).Perm (Ce n)->n+b.length<=mask->∃a:Array (Option Nat),b.foldl (ES mask) (some (owner,n))=some (a,n+b.length)/\a.size=mask+1/\(a.toList.filterMap id).Perm (Ce (n+b.length))
 | [],owner,n,h1,h2,_=>⟨owner,rfl,h1,h2⟩
 | h::b,owner,n,h1,h2,h3=>by
  rw[Bi] at h3
  have len:(owner.toList.filterMap id).length=n:=by rw[h2.length_eq,Dq]
  obtain ⟨e,k⟩:=wW (L:=owner.toList) (by rw[len,An]; omega)
  have f:e<mask+1:=by
   have:=(Ak.mp k).1
   rw[An] at this
   omega
  obtain ⟨t,z,m⟩:=oW g (i:=Eb h % (mask+1)) (p:=Eb h) (e:=e) (Qh _ g.1) (tQ h) f
  have w:(owner.getD (lp (mask+1) t (Eb h % (mask+1)) (Eb h)).1 (some 0)).isNone=true:=by
   rw[m,Cv,<- Ir,k]
   rfl
  obtain ⟨j,s,c⟩:=gW (mask:=mask) (owner:=owner) (Hl mask) _ _ t (by unfold Hl; omega) w
  have d:owner.toList[j]? = some none:=by
   rw[Cv,<- Ir] at c
   cases q:owner.toList[j]? with
   | none=>rw[q] at c; simp at c
   | some v =>
    rw[q] at c
    cases v with
    | none=>rfl
    | some v=>simp at c
  have o:ES mask (some (owner,n)) h=some (owner.setIfInBounds j (some n),n+1):=by
   show (do
    let j <- Li mask owner (Hl mask) (Eb h % (mask+1)) (Eb h)
    pure (owner.setIfInBounds j (some n),n+1))=_
   rw[s]
   rfl
  rw[List.foldl_cons,o]
  have y:((owner.setIfInBounds j (some n)).toList.filterMap id).Perm (Ce (n+1)):=by
   rw[iF]
   refine (Vg d).trans ?_
   rw[List.range_succ]
   exact (Oj n h2).trans (Eh (l₁:=[n]) (l₂:=Ce n))
  obtain ⟨r,x,u,l⟩:=lU g b (owner.setIfInBounds j (some n)) (n+1) (by rw[Qx]; exact h1) y (by omega)
  refine ⟨r,?_,u,?_⟩
  ·rw[x,Bi]
   congr 2
   omega
  ·rw[Bi,show n+(b.length+1)=n+1+b.length by omega]
   exact l
theorem lK{mask:Nat}(g:Kl (mask+1))(a:Array Int)(hl:a.size<=mask):∃owner:Array (Option Nat),Pu mask a=some owner/\owner.size=mask+1/\(owner.toList.filterMap id).Perm (Ce a.size):=by
 have d:((Array.replicate (mask+1) (none:Option Nat)).toList.filterMap id).Perm (Ce 0):=by
  rw[Array.toList_replicate]
  simp
 obtain ⟨o,c,e,b⟩:=lU g a.toList (Array.replicate (mask+1) none) 0 (by simp) d (by simpa using hl)
 rw[An,Kd] at c b
 refine ⟨o,?_,e,b⟩
 unfold Pu
 rw[<- Array.foldl_toList]
 show (a.toList.foldl (ES mask) (some (Array.replicate (mask+1) none,0))).map (·.1)=some o
 rw[c]
 rfl
theorem qC(owner:Array (Option Nat)):((Ce owner.size).filterMap λj=>(owner.getD j none).map λx=>(j,x)).map (·.2)=owner.toList.filterMap id:=by
 obtain ⟨L⟩:=owner
 simp only[Au]
 have h:∀(L:List (Option Nat)) (c:List (Option Nat)),((List.range' c.length L.length).filterMap λj=>(((c++L)[j]?).getD none).map λx=>(j,x)).map (·.2)=L.filterMap id:=by
  intro L
  induction L with
  | nil=>intro c; rfl
  | cons a L f =>
   intro c
   rw[Bi,List.range'_succ,Lw]
   have e:((c++a::L)[c.length]?).getD none=a:=by simp
   have d:=f (c++[a])
   rw[Ar,Cp,Bh,List.singleton_append] at d
   cases a with
   | none =>
    simp only[e,Option.map_none,List.filterMap_cons_none,id]
    exact d
   | some b =>
    simp only[e,Option.map_some,Ax,List.filterMap_cons_some,id]
    rw[d]
    simp
 have:=h L []
 rw[Fz,<- List.range_eq_range',List.nil_append] at this
 rw[<- this]
 congr 1
 congr 1
 funext j
 rw[Cv]
 simp
theorem R7{mask finger moves:Nat}{led plain:Bool}(g:Kl (mask+1))(a:Array Int)(hl:a.size<=mask):∃(t:Dk) (order:Array Nat),Jz mask finger moves led plain a=some (t,order)/\order.toList.Perm (Ce a.size)/\t.fits a.size=true/\t.led=led:=by
 obtain ⟨o,d,c,b⟩:=lK g a hl
 have e:Jz mask finger moves led plain a=some ({ mask:=mask,place:=(((Ce (mask+1)).filterMap λj=>(o.getD j none).map λx=>(j,x)).map (·.1)).toArray,dummies:=#[],finger:=finger,led:=led,moves:=moves,plain:=plain },
   (((Ce (mask+1)).filterMap λj=>(o.getD j none).map λx=>(j,x)).map (·.2)).toArray):=by
  unfold Jz
  rw[d]
  rfl
 have lo:=qC o
 rw[c] at lo
 have len:((Ce (mask+1)).filterMap λj=>(o.getD j none).map λx=>(j,x)).length=a.size:=by
  have:=congrArg Fh lo
  rw[Ab,b.length_eq,Dq] at this
  exact this
 refine ⟨_,_,e,by rw[List.toList_toArray,lo]; exact b,?_,rfl⟩
 simp only[SetTable.fits,SetTable.fill,Au,Ab,len,Ff,beq_self_eq_true,true_and,decide_eq_true_eq]
 show a.size+0<=mask
 omega
theorem EL{a:Type}(es:Array a){order:Array Nat}(p:order.toList.Perm (Ce es.size)):(order.filterMap (es[·]?)).toList.Perm es.toList/\(order.filterMap (es[·]?)).size=es.size:=by
 have e:(order.filterMap (es[·]?)).toList.Perm es.toList:=by
  rw[Array.toList_filterMap]
  have:=p.filterMap (es[·]?)
  rw[filterMap_getElem?_range] at this
  exact this
 exact ⟨e,by rw[<- An,e.length_eq,An]⟩
abbrev rH(p:Array Nat):Prop:=p.toList.Pairwise (· < ·)
theorem Zy{p:Array Nat}(r:rH p){i j:Nat}(h:i<j)(a:j<p.size):p[i]'(by omega)<p[j]:=by
 have:=Ew.mp r i j (by rw[An]; omega) (by rw[An]; exact a) h
 simpa using this
structure Below(p:Array Nat)(j b:Nat):Prop where
 le:b<=p.size
 lo:∀i (h:i<p.size),i<b->p[i]<j
 hi:∀i (h:i<p.size),b<=i->j<=p[i]
theorem aQ{p:Array Nat}{j:Nat}(r:rH p):∀(fuel lo a:Nat),a<=p.size->lo<=a->a - lo<=fuel->(∀i (h:i<p.size),i<lo->p[i]<j)->(∀i (h:i<p.size),a<=i->j<=p[i])->Below p j (Tb p j fuel lo a)
 | 0,lo,a,h1,h2,h3,h4,h5=>by
  unfold Tb
  have e:lo=a:=by omega
  exact ⟨by omega,λi h b=>h4 i h b,λi h b=>h5 i h (by omega)⟩
 | fuel+1,lo,a,h1,h2,h3,h4,h5=>by
  unfold Tb
  split
  ·rename_i b
   have f:(lo+a) / 2<p.size:=by omega
   have e:p.getD ((lo+a) / 2) j=p[(lo+a) / 2]:=by simp [Array.getD,f]
   dsimp only
   rw[e]
   split
   ·rename_i d
    refine aQ r fuel _ a h1 (by omega) (by omega) (λi h c=>?_) h5
    by_cases z:i=(lo+a) / 2
    ·subst z; exact d
    ·exact aN (Zy r (show i<(lo+a) / 2 by omega) f) d
   ·rename_i d
    refine aQ r fuel lo _ (by omega) (by omega) (by omega) h4 (λi h c=>?_)
    by_cases z:i=(lo+a) / 2
    ·subst z; omega
    ·exact Bz (by omega) (Lr (Zy r (show (lo+a) / 2<i by omega) h))
  ·exact ⟨by omega,λi h b=>h4 i h b,λi h b=>h5 i h (by omega)⟩
theorem nK{p:Array Nat}(r:rH p)(j:Nat):Below p j (Dm p j) :=
 aQ r _ _ _ (Aj _) (Dh _) (by omega) (λi h a=>absurd a (Gd _)) (λi h a=>absurd a (by omega))
theorem Below.eq{p:Array Nat}{j b a:Nat}(x:Below p j b)(y:Below p j a):b=a:=by
 rcases Nat.lt_trichotomy b a with z | z | z
 ·have h:b<p.size:=By z y.le
  exact absurd (y.lo b h z) (Nat.not_lt.mpr (x.hi b h (Aj _)))
 ·exact z
 ·have h:a<p.size:=By z x.le
  exact absurd (x.lo a h z) (Nat.not_lt.mpr (y.hi a h (Aj _)))
structure TabOk(n:Nat)(t:Dk):Prop where
 good:Kl (t.mask+1)
 dum:t.dummies=#[]
 plain:t.plain=true
 rise:rH t.place
 top:∀j∈t.place.toList,j<=t.mask
 size:t.place.size=n
structure Tab(n:Nat)(t:Dk):Prop extends TabOk n t where
 room:n * 5<t.mask * 3
theorem Zz{t:Dk}{n:Nat}(x:Tab n t):n+1<=t.mask:=by have:=x.room; omega
theorem TabOk.fits{t:Dk}{n:Nat}(x:TabOk n t)(h:n<=t.mask):t.fits n=true:=by
 simp only[SetTable.fits,SetTable.fill,x.dum,x.size,Ff,beq_self_eq_true,true_and,decide_eq_true_eq]
 show n+0<=t.mask
 omega
theorem Tab.fits{t:Dk}{n:Nat}(x:Tab n t):t.fits n=true:=x.toTabOk.fits (by have:=Zz x; omega)
theorem Vb{t:Dk}{n j:Nat}(x:TabOk n t):t.slot j=.empty↔j∉t.place.toList:=by
 have g:SetTable.has t.dummies j=false:=by rw[x.dum]; rfl
 unfold SetTable.slot
 dsimp only
 rw[g]
 constructor
 ·intro h m
  obtain ⟨i,a,e⟩:=Ht.mp m
  rw[An] at a
  have c:t.place[i]=j:=by simpa using e
  have b:Dm t.place j=i:=(nK x.rise j).eq ⟨Lr a,λk f d=>by rw[<- c]; exact Zy x.rise d a,λk f d=>by
   by_cases z:i=k
   ·subst z; exact Nat.le_of_eq c.symm
   ·rw[<- c]; exact Lr (Zy x.rise (show i<k by omega) f)⟩
  rw[b,kU a,c,if_pos (by simp)] at h
  cases h
 ·intro h
  rw[if_neg (λz=>h ?_)]
  ·rfl
  ·have l:t.place[Dm t.place j]? = some j:=by simpa using z
   have:=Array.mem_of_getElem? l
   exact Array.mem_def.mp this
theorem dA{t:Dk}{n j:Nat}(x:TabOk n t):t.slot j≠.dummy:=by
 have a:SetTable.has t.dummies j=false:=by rw[x.dum]; rfl
 unfold SetTable.slot
 dsimp only
 rw[a]
 split
 ·intro h; cases h
 ·intro h; cases h
theorem fY{mask i:Nat}(h:i<=mask):Jx mask i<=mask:=by unfold Jx; split <;> omega
theorem Yi(mask i:Nat):Jx mask i - i<=9:=by unfold Jx; split <;> omega
theorem tI(mask i p:Nat):SetTable.leap mask i p=((i * 5+1+p / 32) % (mask+1),p / 32):=rfl
theorem u3:∀{l1 l2:List Nat},l1.Nodup->(∀e∈l1,e∈l2)->l1.length<=l2.length
 | [],_,_,_=>Dh _
 | a::l1,l2,nd,h=>by
  have b:=Bp.mp nd
  have d:=h a (Aa ..)
  have:=u3 (l2:=l2.erase a) b.2 λe c=>(Vk (show e≠a from λz=>b.1 (by rw[<- z]; exact c))).mpr (h e (Ad _ c))
  rw[Rq d] at this
  have p:0<l2.length:=Ms d
  rw[Bi]
  omega
theorem M3{m:Nat}{l:List Nat}(b:l.Pairwise (· < ·))(h:l.length<m):∃e,e<m/\e∉l:=by
 refine Pe λz=>?_
 have all:∀e,e∈Ce m->e∈l:=λe a=>Pe λq=>z ⟨e,Ip.mp a,q⟩
 have:=u3 List.nodup_range all
 rw[Dq] at this
 omega
theorem lF{p:Array Nat}(r:rH p){j:Nat}(h:j∉p.toList):rH (El p (Dm p j) j):=by
  have b:=nK r j
  show (El p (Dm p j) j).toList.Pairwise (· < ·)
  rw[SetTable.toList_insertAt]
  have n:(p.toList.take (Dm p j)).Pairwise (· < ·):=r.sublist (Gx _ _)
  have m:(p.toList.drop (Dm p j)).Pairwise (· < ·):=r.sublist (Hz _ _)
  have lo:∀e∈p.toList.take (Dm p j),e<j:=λe k=>by
    obtain ⟨i,d,l⟩:=lA.mp k
    rw[An] at d
    have:=b.lo i (by omega) (by omega)
    rw[<- l]
    simpa using this
  have d:∀e∈p.toList.drop (Dm p j),j<e:=λe k=>by
    have q:e∈p.toList:=Vj k
    obtain ⟨i,d,l⟩:=List.mem_drop_iff_getElem.mp k
    rw[An] at d
    have:=b.hi (i+Dm p j) (by omega) (by omega)
    have o:j<=e:=by
      rw[<- l]
      simpa [Nat.add_comm] using this
    exact Nat.lt_of_le_of_ne o λz=>h (by rw[z]; exact q)
  simp only[List.pairwise_append,List.pairwise_cons,Ai,Am]
  first
    | exact ⟨n,⟨d,m⟩,λa f c g=>by
        rcases g with z | z
        · rw[z]; exact lo a f
        · exact aN (lo a f) (d c z)⟩
    | (refine ⟨⟨n,⟨by simp,Dn⟩,λa f c g=>?_⟩,m,λa f c g=>?_⟩
       · have z:c=j:=by simpa using g
         rw[z]; exact lo a f
       · rcases f with z | z | z
         · exact aN (lo a z) (d c g)
         · rw[z]; exact d c g
         · cases z)
theorem vT{mask finger moves:Nat}{led plain:Bool}{r:Array Int}{t:Dk}{order:Array Nat}(h:Jz mask finger moves led plain r=some (t,order)):rH t.place/\(∀j∈t.place.toList,j<=mask):=by
 unfold Jz at h
 cases i:Pu mask r with
 | none=>rw[i] at h; cases h
 | some b =>
  rw[i] at h
  cases h
  have sub:∀(l:List Nat),l.Pairwise (· < ·)->(((l.filterMap λj=>(b.getD j none).map λx=>(j,x)).map (·.1)).Pairwise (· < ·))/\∀j∈((l.filterMap λj=>(b.getD j none).map λx=>(j,x)).map (·.1)),j∈l:=by
   intro l i
   have m:∀j∈((l.filterMap λj=>(b.getD j none).map λx=>(j,x)).map (·.1)),j∈l:=λj f=>by
    obtain ⟨q,p,rfl⟩:=Cn.mp f
    obtain ⟨k,o,c⟩:=Kc.mp p
    cases n:b.getD k none with
    | none=>rw[n] at c; cases c
    | some v=>rw[n] at c; cases c; exact o
   refine ⟨?_,m⟩
   clear m
   induction l with
   | nil=>exact Dn
   | cons a l s =>
    have d:=Ay.mp i
    have g:=s d.2
    rw[Lw]
    cases n:b.getD a none with
    | none=>simpa [n] using g
    | some v =>
     simp only[Option.map_some,Ax,List.pairwise_cons]
     refine ⟨λj f=>?_,g⟩
     obtain ⟨q,p,rfl⟩:=Cn.mp f
     obtain ⟨k,o,c⟩:=Kc.mp p
     cases e:b.getD k none with
     | none=>rw[e] at c; cases c
     | some y=>rw[e] at c; cases c; exact d.1 k o
  obtain ⟨u,w⟩:=sub (Ce (mask+1)) List.pairwise_lt_range
  exact ⟨u,λj f=>iD.mp (Ip.mp (w j f))⟩
theorem F6{mask finger moves:Nat}{led:Bool}(g:Kl (mask+1))(a:Array Int)(hl:a.size * 5<mask * 3):∃(t:Dk) (order:Array Nat),Jz mask finger moves led true a=some (t,order)/\order.toList.Perm (Ce a.size)/\Tab a.size t/\t.led=led:=by
 obtain ⟨t,order,c,e,h,l⟩:=R7 (finger:=finger) (moves:=moves) (led:=led) (plain:=true) g a (by omega)
 obtain ⟨f,b,i,j⟩:=cH c
 obtain ⟨k,d⟩:=vT c
 have sz:t.place.size=a.size:=by
  have:=h
  simp only[SetTable.fits,Ff,beq_iff_eq] at this
  exact this.1
 exact ⟨t,order,c,e,⟨⟨by rw[b]; exact g,j,i,k,by rw[b]; exact d,sz⟩,by rw[b]; exact hl⟩,f⟩
abbrev bt(w:World):Bool:=w.params.followText "set-order"
def GJ:Int×Value->Int
 | (_,.int k _)=>k
 | _=>0
def FM(e:Int×Value):Prop:=∃k a,e=(hashInt k,Value.int k a)
abbrev O6(es:Array (Int×Value)):List Int:=es.toList.map GJ
abbrev Kb(es:Array (Int×Value))(a:Nat)(t:Dk):Obj:={ cls:=.type "set",dict:=none,data:=.set es a t }
structure SetS(w:World)(h:Heap)(a:Addr)(es:Array (Int×Value))(ep:Nat)(t:Dk):Prop where
 obj:h.get? a=some (Kb es ep t)
 ent:∀e∈es.toList,FM e
 nd:(O6 es).Nodup
 tab:Tab es.size t
 led:bt w=false->t.led=true
 few:es.size<64
def ins(k:Int)(l:List Int):List Int:=if k∈l then l else k::l
theorem Z1{n:Nat}(h:n<64):n<=Bc:=by rw[Iw]; omega
theorem sW{es:Array (Int×Value)}{b:Nat}{t:Dk}(a:Array (Int×Value))(t':Dk):Yz a t' (Kb es b t)=Kb a (b+1) t':=putSet_of a t' rfl
theorem tU{h:Heap}{a:Addr}{es:Array (Int×Value)}{c:Nat}{t:Dk}(d:h.get? a=some (Kb es c t))(b:Array (Int×Value))(t':Dk):(h.update a (Yz b t')).get? a=some (Kb b (c+1) t'):=by
 have:=Nc (Yz b t') d (by rw[sW]; rfl)
 rw[sW] at this
 exact this
theorem Hq{b:Type}:∀{l:List b} {i:Nat} (h:i<l.length),(l[i]::l.eraseIdx i).Perm l
 | [],_,h=>absurd h (Gd _)
 | a::l,0,h=>Gn _
 | a::l,i+1,h=>by
  have:=Hq (l:=l) (i:=i) (by simpa using h)
  exact (Ee a _ _).trans (Oj a this)
theorem len_leI:∀{l1 l2:List Int},l1.Nodup->(∀e∈l1,e∈l2)->l1.length<=l2.length
 | [],_,_,_=>Dh _
 | a::l1,l2,nd,h=>by
  have b:=Bp.mp nd
  have d:=h a (Aa ..)
  have:=len_leI (l2:=l2.erase a) b.2 λe c=>(Vk (show e≠a from λz=>b.1 (by rw[<- z]; exact c))).mpr (h e (Ad _ c))
  rw[Rq d] at this
  have p:0<l2.length:=Ms d
  rw[Bi]
  omega
theorem oR:isSubtype (.type "set") (.type "set")=pure true:=by rw[isSubtype_type]; kernel_rfl
end NdS
namespace NdS
open PySem PyProof.Rows
section
variable{prog:Bq}{w:World}{A:Df}{E:Value->Al->Prop}{s:Al}
theorem n9(v:Value){Q:Value->Al->Prop}(h:Q (.ref s.heap.objs.size) { s with heap:=s.heap.push (Kb #[] 0 (.fresh 0 0 (!bt w))) }):Iu (model prog w) A (.call (.builtin "set.__new__") ⟨[.type "set",v],[]⟩) (wants Q E) s:=by
 have sub:=oR
 obtain ⟨b,g,d,a,os⟩:=s
 refine codeAny_of_tree (show wpAny _ A.in1 (do checkBuiltinCall "set.__new__" ⟨[.type "set",v],[]⟩; again (.builtin "set.__new__" ⟨[.type "set",v],[]⟩)) _ _ _ from ?_)
 refine Ag (wpAny_of_eq (PySem.F.newCall_set_1 v) (Aw ⟨plainId_quiet PySem.F.plain_set_new _,Mr PySem.F.entry_set_new ?_⟩))
 rw[Uj PySem.F.plain_set_new _]
 unfold Builtin.«set.__new__» Builtin.Frozenset.newClass
 dsimp only
 wp_walk
 refine wpAny_askSetting (Aw ?_)
 dsimp only
 simp only[newObj]
 exact Ag (wpAny_alloc (Aw (Aw h)))
end
def arrOf(w:World)(a:Addr)(b:Nat)(es:Array (Int×Value)):Array (Int×Value):=if bt w then pickOrder (w.params.setOrder a b) es else es
end NdS
namespace Nd
open PySem PySem.Spec PyProof.Rows L2 NdS
def HM(w:World)(a:Addr)(ks:List Int)(h:Heap):Prop:=∃b c t,SetS w h a b c t/\∀x,x∈O6 b↔x∈ks
abbrev JZ(w:World)(a:Addr)(ks:List Int):HO:=.ext (HM w a ks)
end Nd
namespace Nd
open PySem L2
def Ul(d:Addr)(H a:Hp):Prop:=∀b o,b≠d->H b=some o->a b=some o
theorem Ul.trans{d:Addr}{H e f:Hp}(a:Ul d H e)(b:Ul d e f):Ul d H f:=λc o n h=>b c o n (a c o n h)
theorem Ul.upd{d:Addr}{H:Hp}{o:HO}:Ul d H (upd H d o):=λb o n h=>by rw[Ef n]; exact h
theorem Z1{n:Nat}(h:n<=1000):n<=Bc:=Lr (gS h)
theorem Zg{n:Nat}(h:n<=1000000):n<=Bc:=by rw[Iw]; omega
theorem aF(a b:Int)(h:0<b):0<=a % b/\a % b<b:=⟨Int.emod_nonneg _ (by omega),Int.emod_lt_of_pos _ h⟩
def Ge(h:Int)(a:List Int):Prop:=a.Pairwise (· < ·)/\∀x∈a,0<=x/\x<h
theorem Ge.nil(h:Int):Ge h []:=⟨Dn,λx a=>by cases a⟩
theorem Ge.more{h:Int}{c:List Int}(r:Ge h c)(h0:0<=h):Ge (h+1) (c++[h]) :=
 ⟨Bu.mpr ⟨r.1,Ct _ _,λa e b f=>by rw[Ac.mp f]; exact (r.2 a e).2⟩,λx d=>by
  rcases Am.mp d with z | z
  ·have:=r.2 x z; omega
  ·have:=Ac.mp z; omega⟩
theorem Ge.up{h h':Int}{a:List Int}(r:Ge h a)(l:h<=h'):Ge h' a:=⟨r.1,λx b=>by have:=r.2 x b; omega⟩
def Wo(H:Hp)(d:Addr)(c k:Int)(f:Bool):Prop:=H d=some (.lst [.int c,.int k,.bl f])
def sT:Sp:=λvs H Q _=>∃c:Int,vs=[.int c]/\∀(p:Addr) (f:Bool) (a:Hp),H p=none->Wo a p c 0 f->Nt H a->Q (.ref p) a
def j3:Sp:=λvs H Q _=>∃(d:Addr) (c k:Int) (f:Bool),vs=[.ref d]/\Wo H d c k f/\0<=k/\k<=1000000/\∀(r b:Int) (a:Hp),Wo a d b (k+1) f->Ul d H a->Q (.int r) a
def Bt(a:List Int):Ae:=.tuple (a.map Bo)
theorem qN(a:List Int):(Bt a).depth<=1:=by
 have : (Bt a).depth<=Br (a.map Bo)+1:=by simp [Bt,Do]
 rw[qY] at this
 exact this
def MN:List Int:=(Ce 60).map λi:Nat=>(i:Int)
theorem S8{x:Int}(h0:0<=x)(h1:x<60):x∈MN:=Cn.mpr ⟨x.toNat,Ip.mpr (by omega),by omega⟩
theorem L4(TD:List Ae):Er (.list TD) (.list [])=TD.isEmpty:=by cases TD <;> simp [Er,Pf]
theorem Xv:∀{l1 l2:List Int},l1.Pairwise (· < ·)->l2.Pairwise (· < ·)->(∀x,x∈l1↔x∈l2)->l1=l2
 | [],[],_,_,_=>rfl
 | [],b::l,_,_,h=>by have:=(h b).mpr Aa; cases this
 | a::l,[],_,_,h=>by have:=(h a).mp Aa; cases this
 | a::l1,b::l2,p1,p2,h=>by
  obtain ⟨f,i⟩:=Ay.mp p1
  obtain ⟨d,g⟩:=Ay.mp p2
  have e:a=b:=by
   rcases Ai.mp ((h a).mp Aa) with z | z
   ·exact z
   ·rcases Ai.mp ((h b).mpr Aa) with y | y
    ·exact y.symm
    ·have:=f b y; have:=d a z; omega
  subst e
  rw[Xv i g λx=>⟨λc=>?_,λc=>?_⟩]
  ·rcases Ai.mp ((h x).mp (Ad _ c)) with z | z
   ·have:=f x c; omega
   ·exact z
  ·rcases Ai.mp ((h x).mpr (Ad _ c)) with z | z
   ·have:=d x c; omega
   ·exact z
def i6(b:Bool):Str:=if b=true then "back" else "front"
def order{c:Type}(a b:c)(l:List c):Option Bool->List c
 | none=>l
 | some true=>[a,b]
 | some false=>[b,a]
structure TD(K:PySem.W.Frag)(H:Hp)(x:V)(d:Ae)(n m:Nat):Prop where
 rd:RdV K H x d
 fits:FS 22 d
 nd:X2 d<=n
 dp:d.depth<=m
abbrev AA(K:PySem.W.Frag):List V->Hp->VK->Prop:=λb H Q=>∃p a,b=[V.ref p]/\((Qf K H p a/\∀l,H l=none->Q (.ref l) (upd H l (.tup a)))\/(Tz K H p a/\Q (.ref p) H))
theorem j4{X:Cx}:Om X (.type "tuple") (AA X.K):=eU
end Nd
namespace DL
open PySem L2 Nd
def KL(K:PySem.W.Frag)(H:Hp)(a:Addr)(xs:List V):Prop :=
 (∃o,H a=some (.frz o (.lst xs)))\/∃(b:Array Value) (n:Nat),K.lookup a=some { cls:=.type "list",data:=.seq b n }/\b.size<=Bc/\Gv xs b.toList
def dG:Nat->Ae
 | 0=>.none
 | n+1=>.tuple [dG n]
def kW(ks:List (List Int×Ae)):List (Ae×Ae):=(dG 100,.none)::ks.map λp=>(Bt p.1,p.2)
def JF(ks:List (Int×Ae)):List (Ae×Ae):=(dG 100,.bool true)::ks.map λp=>(.int p.1,p.2)
def KI:List (Ae×Ae)->Bool
 | (_,.none)::_=>true
 | _=>false
def BV(a:Addr)(ks:List (List Int×Ae)):List (Ae×Ae):=(dG 100,.int a)::ks.map λp=>(Bt p.1,p.2)
def Mm(w:List Int):List Lu:=w.map Tv
mutual
inductive RdF (K:PySem.W.Frag) (H:Hp):V->Ae->List Addr->Prop
 | non:RdF K H .non .none []
 | bl (b:Bool):RdF K H (.bl b) (.bool b) []
 | int (i:Int):RdF K H (.int i) (.int i) []
 | str (x:Str):RdF K H (.str x) (.str x) []
 | lst {a:Addr} {xs:List V} {ds:List Ae} {F:List Addr}:H a=some (.lst xs)->ds.length<=Bc->RdFs K H xs ds F->RdF K H (.ref a) (.list ds) (a::F)
 | tup {a:Addr} {xs:List V} {ds:List Ae} {F:List Addr}:H a=some (.tup xs)->ds.length<=Bc->RdFs K H xs ds F->RdF K H (.ref a) (.tuple ds) F
 | dic {a:Addr} {kv:List (List Lu×V)} {ks:List (List Int×Ae)}:H a=some (.dT kv)->kv.map (·.1)=ks.map (λp=>Mm p.1)->RdFs K H (kv.map (·.2)) (ks.map (·.2)) []->RdF K H (.ref a) (.dict (kW ks)) [a]
 | dik {a:Addr} {kv:List (Lu×V)} {ks:List (Int×Ae)}:H a=some (.dK kv)->kv.map (·.1)=ks.map (λp=>(Tv p.1:Lu))->RdFs K H (kv.map (·.2)) (ks.map (·.2)) []->RdF K H (.ref a) (.dict (JF ks)) [a]
 | dnm {a:Addr} {kv:List (List Lu×V)} {ks:List (List Int×Ae)}:H a=some (.dT kv)->kv.map (·.1)=ks.map (λp=>Mm p.1)->RdFs K H (kv.map (·.2)) (ks.map (·.2)) []->RdF K H (.ref a) (.dict (BV a ks)) [a]
inductive RdFs (K:PySem.W.Frag) (H:Hp):List V->List Ae->List Addr->Prop
 | nil:RdFs K H [] [] []
 | cons {x:V} {d:Ae} {xs:List V} {ds:List Ae} {F G:List Addr}:RdF K H x d F->RdFs K H xs ds G->RdFs K H (x::xs) (d::ds) (F++G)
end
def MM(o:HO):Prop:=(∃b,o=.tup b)\/∃a u,o=.frz a u
def Kp(F:List Addr)(H a:Hp):Prop:=∀b o,H b=some o->(b∈F\/MM o)->a b=some o
theorem Kp.of{F:List Addr}{H a:Hp}(s:Nt H a):Kp F H a:=λb o e _=>s b o e
theorem Kp.sub{F G:List Addr}{H c:Hp}(k:Kp F H c)(h:∀a∈G,a∈F):Kp G H c:=λb o e z=>k b o e (z.imp (h b) id)
section
variable{K:PySem.W.Frag}{H c:Hp}
theorem KL.kp{a:Addr}{xs:List V}{F:List Addr}(h:KL K H a xs)(k:Kp F H c):KL K c a xs:=by
 rcases h with ⟨o,h⟩ | h
 ·exact .inl ⟨o,k _ _ h (.inr (.inr ⟨_,_,rfl⟩))⟩
 ·exact .inr h
theorem KL.sq{a:Addr}{xs:List V}(h:KL K H a xs):Qf K H a xs:=by
 rcases h with ⟨o,h⟩ | ⟨b,n,h,c,r⟩
 ·exact .inl (.inr ⟨o,h⟩)
 ·exact .inr ⟨_,b,n,h,rfl,rfl,rfl,c,r⟩
mutual
theorem RdF.kp:∀{v:V} {d:Ae} {F:List Addr},RdF K H v d F->Kp F H c->RdF K c v d F
 | _,_,_,.non,_=>.non
 | _,_,_,.bl b,_=>.bl b
 | _,_,_,.int i,_=>.int i
 | _,_,_,.str x,_=>.str x
 | _,_,_,.lst h l hs,k=>.lst (k _ _ h (.inl Aa)) l (RdFs.kp hs (k.sub λ_ z=>Ad _ z))
 | _,_,_,.tup h l hs,k=>.tup (k _ _ h (.inr (.inl ⟨_,rfl⟩))) l (RdFs.kp hs k)
 | _,_,_,.dic h e hs,k=>.dic (k _ _ h (.inl Aa)) e (RdFs.kp hs (k.sub λ_ z=>nomatch z))
 | _,_,_,.dik h e hs,k=>.dik (k _ _ h (.inl Aa)) e (RdFs.kp hs (k.sub λ_ z=>nomatch z))
 | _,_,_,.dnm h e hs,k=>.dnm (k _ _ h (.inl Aa)) e (RdFs.kp hs (k.sub λ_ z=>nomatch z))
theorem RdFs.kp:∀{v:List V} {d:List Ae} {F:List Addr},RdFs K H v d F->Kp F H c->RdFs K c v d F
 | _,_,_,.nil,_=>.nil
 | _,_,_,.cons h hs,k=>.cons (RdF.kp h (k.sub λ_ z=>Ah _ z)) (RdFs.kp hs (k.sub λ_ z=>Af _ z))
end
theorem Pn:∀n,(dG n).depth=n
 | 0=>by simp [dG,Do]
 | n+1=>by
  have:=Pn n
  simp only[dG,Do,Br,this]
  omega
theorem zG{ks:List (Int×Ae)}:100<=(PyData.dict (JF ks)).depth:=by
 have:=Pn 100
 simp only[JF,Do,PyData.depthKv,this]
 omega
theorem E7{a:Addr}{ks:List (List Int×Ae)}:100<=(PyData.dict (BV a ks)).depth:=by
 have:=Pn 100
 simp only[BV,Do,PyData.depthKv,this]
 omega
theorem z0{ks:List (List Int×Ae)}:100<=(PyData.dict (kW ks)).depth:=by
 have:=Pn 100
 simp only[kW,Do,PyData.depthKv,this]
 omega
mutual
theorem RdF.rd:∀{v:V} {d:Ae} {F:List Addr},RdF K H v d F->d.depth<=90->RdV K H v d
 | _,_,_,.non,_=>.non
 | _,_,_,.bl b,_=>.bl b
 | _,_,_,.int i,_=>.int i
 | _,_,_,.str x,_=>.str x
 | _,_,_,.lst h l hs,z=>.lst (Qf.of h) (RdFs.rd hs (by simp only[Do] at z; omega))
 | _,_,_,.tup h l hs,z=>.tup (Tz.of h) (RdFs.rd hs (by simp only[Do] at z; omega))
 | _,_,_,.dic h e hs,z=>absurd (Bz z0 z) (by decide)
 | _,_,_,.dik h e hs,z=>absurd (Bz zG z) (by decide)
 | _,_,_,.dnm h e hs,z=>absurd (Bz E7 z) (by decide)
theorem RdFs.rd:∀{v:List V} {d:List Ae} {F:List Addr},RdFs K H v d F->Br d<=90->RdVs K H v d
 | _,_,_,.nil,_=>.nil
 | _,_,_,.cons h hs,z=>.cons (RdF.rd h (by simp only[Br] at z; omega)) (RdFs.rd hs (by simp only[Br] at z; omega))
end
mutual
theorem RdF.dom:∀{v:V} {d:Ae} {F:List Addr},RdF K H v d F->∀a∈F,∃o,H a=some o
 | _,_,_,.non,_,z=>nomatch z
 | _,_,_,.bl b,_,z=>nomatch z
 | _,_,_,.int i,_,z=>nomatch z
 | _,_,_,.str x,_,z=>nomatch z
 | _,_,_,.lst h l hs,b,z=>by
  rcases Ai.mp z with rfl | z
  ·exact ⟨_,h⟩
  ·exact RdFs.dom hs b z
 | _,_,_,.tup h l hs,b,z=>RdFs.dom hs b z
 | _,_,_,.dic h e hs,b,z=>⟨_,Ac.mp z▸h⟩
 | _,_,_,.dik h e hs,b,z=>⟨_,Ac.mp z▸h⟩
 | _,_,_,.dnm h e hs,b,z=>⟨_,Ac.mp z▸h⟩
theorem RdFs.dom:∀{v:List V} {d:List Ae} {F:List Addr},RdFs K H v d F->∀a∈F,∃o,H a=some o
 | _,_,_,.nil,_,z=>nomatch z
 | _,_,_,.cons h hs,b,z=>by
  rcases Am.mp z with z | z
  ·exact RdF.dom h b z
  ·exact RdFs.dom hs b z
end
theorem RdFs.len:∀{v:List V} {d:List Ae} {F:List Addr},RdFs K H v d F->v.length=d.length
 | _,_,_,.nil=>rfl
 | _,_,_,.cons _ t=>by rw[Bi,Bi,RdFs.len t]
theorem RdFs.get:∀{v:List V} {d:List Ae} {F:List Addr} {i:Nat} {e:Ae},RdFs K H v d F->d[i]? = some e->∃x G,v[i]? = some x/\RdF K H x e G/\G.Sublist F
 | _,_,_,_,_,.nil,z=>by simp at z
 | _,_,_,0,_,.cons h _,z=>by
  simp at z
  subst z
  exact ⟨_,_,rfl,h,Rp _ _⟩
 | _,_,_,i+1,e,.cons _ t,z=>by
  obtain ⟨x,G,b,c,a⟩:=RdFs.get (i:=i) (e:=e) t (by simpa using z)
  exact ⟨x,G,by simpa using b,c,a.trans (Ca _ _)⟩
theorem RdFs.app:∀{v w:List V} {d e:List Ae} {F G:List Addr},RdFs K H v d F->RdFs K H w e G->RdFs K H (v++w) (d++e) (F++G)
 | _,_,_,_,_,_,.nil,h=>h
 | _,_,_,_,_,_,.cons a t,h=>by
  rw[Bh]
  exact .cons a (RdFs.app t h)
theorem RdFs.snoc{v:List V}{d:List Ae}{F G:List Addr}{x:V}{e:Ae}(t:RdFs K H v d F)(h:RdF K H x e G):RdFs K H (v++[x]) (d++[e]) (F++G):=by
 have:=t.app (.cons h .nil)
 rw[Dd] at this
 exact this
end
mutual
def imm:Ae->Bool
 | .list _=>false
 | .dict _=>false
 | .tuple a=>Dz a
 | _=>true
def Dz:List Ae->Bool
 | []=>true
 | x::xs=>imm x && Dz xs
end
theorem qE:∀{xs:List Ae},Dz xs=true↔∀x∈xs,imm x=true
 | []=>by simp [Dz]
 | x::xs=>by simp [Dz,qE (xs:=xs)]
theorem Uu{b:Type}{f:b->Ae}(h:∀a,imm (f a)=true)(l:List b):Dz (l.map f)=true:=qE.mpr λx c=>by
 obtain ⟨a,_,rfl⟩:=Cn.mp c
 exact h a
theorem G5(a:List Int):imm (Bt a)=true:=by
 unfold Bt
 rw[imm]
 exact Uu (λ_=>by simp [imm]) a
section
variable{K:PySem.W.Frag}{H a:Hp}
mutual
theorem RdF.imm:∀{v:V} {d:Ae} {F:List Addr},RdF K H v d F->DL.imm d=true->F=[]
 | _,_,_,.non,_=>rfl
 | _,_,_,.bl b,_=>rfl
 | _,_,_,.int i,_=>rfl
 | _,_,_,.str x,_=>rfl
 | _,_,_,.lst h l hs,k=>by simp [DL.imm] at k
 | _,_,_,.tup h l hs,k=>RdFs.imm hs (by simpa [DL.imm] using k)
 | _,_,_,.dic h e hs,k=>by simp [DL.imm] at k
 | _,_,_,.dik h e hs,k=>by simp [DL.imm] at k
 | _,_,_,.dnm h e hs,k=>by simp [DL.imm] at k
theorem RdFs.imm:∀{v:List V} {d:List Ae} {F:List Addr},RdFs K H v d F->Dz d=true->F=[]
 | _,_,_,.nil,_=>rfl
 | _,_,_,.cons h hs,k=>by
  rw[Dz,Ff] at k
  rw[RdF.imm h k.1,RdFs.imm hs k.2]
  rfl
end
end
inductive Md where
 | pk | sh | tp | ow
 deriving DecidableEq
inductive DV where
 | un
 | dat (m:Md) (d:Ae)
 | drw
 | dT (kvs:List (List Lu×Ae))
 | val (v:V)
 | scr (ns:List Int)
 | acc (ds:List Ae)
 | grd (Hc:Hp)
 | tpl (xs:List V)
structure DS where
 sl:List DV
 n:Nat
structure Ent where
 v:Option V
 x:DV
 F:List Addr
def Nw:DV->Bool
 | .dat .pk _=>true
 | _=>false
def FY:DV->Bool
 | .drw=>true
 | _=>false
def EB:DV->Bool
 | .drw=>true
 | .acc _=>true
 | .dT _=>true
 | .grd _=>true
 | _=>false
def cells(e:Ent):List Addr:=match e.x with
 | .dat .ow _=>e.F
 | .dat .tp _=>e.F.take 1
 | .drw=>e.F
 | .dT _=>e.F
 | .acc _=>e.F.take 1
 | .grd _=>e.F
 | _=>[]
theorem Gu(e:Ent):∀a∈cells e,a∈e.F:=by
 obtain ⟨v,x,F⟩:=e
 intro a h
 cases x with
 | un=>exact nomatch h
 | val _=>exact nomatch h
 | scr _=>exact nomatch h
 | drw=>exact h
 | dT _=>exact h
 | grd _=>exact h
 | tpl _=>exact nomatch h
 | acc _=>exact (Gx _ _).subset h
 | dat m d =>
  cases m with
  | pk=>exact nomatch h
  | sh=>exact nomatch h
  | tp=>exact (Gx _ _).subset h
  | ow=>exact h
def Wp(e f:Ent):Prop:=((Nw f.x=false\/EB e.x=true)->∀a∈cells e,a∉f.F)/\((Nw e.x=false\/EB f.x=true)->∀a∈cells f,a∉e.F)
theorem Wp.symm{e f:Ent}(h:Wp e f):Wp f e:=⟨h.2,h.1⟩
def Ii(K:PySem.W.Frag)(H:Hp)(n:Nat)(e:Ent):Prop:=match e.x with
 | .un=>e.F=[]
 | .dat m d=>∃v,e.v=some v/\RdF K H v d e.F/\(m=.ow->e.F.Nodup)/\(m=.tp->∀a l,e.F=a::l->a∉l)
 | .drw=>∃i c k f,e.v=some (.ref i)/\e.F=[i]/\Wo H i c k f/\0<=k/\k<=(n:Int)
 | .dT b=>∃a h,e.v=some (.ref a)/\e.F=[a]/\H a=some (.dT h)/\h.map (·.1)=b.map (·.1)/\RdFs K H (h.map (·.2)) (b.map (·.2)) []
 | .val v=>e.v=some v/\e.F=[]
 | .scr j=>∃a,e.v=some (.ref a)/\e.F=[]/\KL K H a (j.map V.int)/\j.length<=63
 | .acc p=>∃a g G,e.v=some (.ref a)/\e.F=a::G/\H a=some (.lst g)/\RdFs K H g p G/\p.length<=Bc/\a∉G
 | .grd q=>∀a∈e.F,∃o,q a=some o/\H a=some o
 | .tpl g=>∃t,e.v=some (.ref t)/\H t=some (.tup g)/\e.F=[]
structure At(K:PySem.W.Frag)(H0:Hp)(X:Addr->Prop)(n:Nat)(E:List Ent)(H:Hp):Prop where
 ok:∀e∈E,Ii K H n e
 sep:E.Pairwise Wp
 new:∀e∈E,∀a∈cells e,H0 a=none\/(X a/\FY e.x=true)
 same:∀b o,¬ X b->H0 b=some o->H b=some o
 dom:∀b o,H0 b=some o->∃o',H b=some o'
 xd:∀b,X b->H0 b≠none/\∃c k f,Wo H b c k f/\0<=k/\k<=(n:Int)
section
variable{K:PySem.W.Frag}{i H j:Hp}{X:Addr->Prop}{n n':Nat}{E E' S T:List Ent}{e f:Ent}
theorem At.perm(h:At K i X n E H)(p:E.Perm E'):At K i X n E' H :=
 ⟨λe c=>h.ok e (p.mem_iff.mpr c),(p.pairwise_iff λ{a b}=>Wp.symm).mp h.sep,λe c=>h.new e (p.mem_iff.mpr c),h.same,h.dom,h.xd⟩
theorem At.sub(h:At K i X n E H)(p:E'.Sublist E):At K i X n E' H :=
 ⟨λe a=>h.ok e (p.subset a),h.sep.sublist p,λe a=>h.new e (p.subset a),h.same,h.dom,h.xd⟩
theorem At.drop(h:At K i X n (S++e::T) H):At K i X n (S++T) H:=h.sub ((Ck S).append (Ci _ _))
theorem zD:(S++e::T).Perm (e::(S++T)):=Fd
theorem At.mid(h:At K i X n (S++e::T) H):At K i X n (e::(S++T)) H:=h.perm zD
theorem At.tomid(h:At K i X n (e::(S++T)) H):At K i X n (S++e::T) H:=h.perm zD.symm
theorem Ii.dom(h:Ii K H n e):∀a∈e.F,∃o,H a=some o:=by
 obtain ⟨v,x,F⟩:=e
 intro a ha
 cases x with
 | un=>rw[show F=[] from h] at ha; cases ha
 | val _=>rw[show F=[] from h.2] at ha; cases ha
 | scr _ =>
  obtain ⟨_,_,g,_⟩:=h
  rw[show F=[] from g] at ha; cases ha
 | dat m d =>
  obtain ⟨w,_,h,_⟩:=h
  obtain ⟨i,z⟩:=h.dom a ha
  exact ⟨_,z⟩
 | drw =>
  obtain ⟨q,c,k,f,_,g,h,_⟩:=h
  rw[show F=[q] from g] at ha
  rw[Ac.mp ha]
  exact ⟨_,h⟩
 | grd r =>
  obtain ⟨o,_,z⟩:=h a ha
  exact ⟨o,z⟩
 | tpl i =>
  obtain ⟨_,_,_,g⟩:=h
  rw[show F=[] from g] at ha; cases ha
 | dT j =>
  obtain ⟨b,l,_,g,h,_⟩:=h
  rw[show F=[b] from g] at ha
  rw[Ac.mp ha]
  exact ⟨_,h⟩
 | acc s =>
  obtain ⟨b,l,G,_,g,h,p,_⟩:=h
  rw[show F=b::G from g] at ha
  rcases Ai.mp ha with rfl | ha
  ·exact ⟨_,h⟩
  ·obtain ⟨i,z⟩:=p.dom a ha
   exact ⟨_,z⟩
theorem Ii.kp(h:Ii K H n e)(k:Kp e.F H j)(E:n<=n'):Ii K j n' e:=by
 obtain ⟨v,x,F⟩:=e
 cases x with
 | un=>exact h
 | val _=>exact h
 | scr _ =>
  obtain ⟨a,i,g,l,q⟩:=h
  exact ⟨a,i,g,l.kp k,q⟩
 | dat m d =>
  obtain ⟨w,i,g,l⟩:=h
  exact ⟨w,i,g.kp k,l⟩
 | drw =>
  obtain ⟨y,c,A,f,i,r,g,l,q⟩:=h
  have p:F=[y]:=r
  subst p
  exact ⟨y,c,A,f,i,rfl,k _ _ g (.inl Aa),l,by omega⟩
 | tpl D =>
  obtain ⟨t,i,g,l⟩:=h
  exact ⟨t,i,k _ _ g (.inr (.inl ⟨_,rfl⟩)),l⟩
 | grd C =>
  intro a u
  obtain ⟨o,i,g⟩:=h a u
  exact ⟨o,i,k _ _ g (.inl u)⟩
 | dT B =>
  obtain ⟨b,s,i,r,g,l,q⟩:=h
  have p:F=[b]:=r
  subst p
  exact ⟨b,s,i,rfl,k _ _ g (.inl Aa),l,q.kp (k.sub λ_ z=>nomatch z)⟩
 | acc I =>
  obtain ⟨b,s,G,i,r,g,l,q⟩:=h
  have p:F=b::G:=r
  subst p
  exact ⟨b,s,G,i,rfl,k _ _ g (.inl Aa),l.kp (k.sub λ_ z=>Ad _ z),q⟩
theorem At.grow(h:At K i X n E H)(s:Nt H j)(a:n<=n'):At K i X n' E j :=
 ⟨λe d=>(h.ok e d).kp (Kp.of s) a,h.sep,h.new,λb o g e=>s _ _ (h.same b o g e),λb o e=>let ⟨o',q⟩:=h.dom b o e; ⟨o',s _ _ q⟩,λb l=>let ⟨z,c,k,f,h1,h2,h3⟩:=h.xd b l; ⟨z,c,k,f,s _ _ h1,h2,by omega⟩⟩
theorem At.free(h:At K i X n E H){a:Addr}(c:H a=none):∀e∈E,a∉e.F:=λe b z=>by
 obtain ⟨o,q⟩:=(h.ok e b).dom a z
 rw[c] at q; cases q
theorem At.push(h:At K i X n E H)(ok:Ii K H n e)(c:∀f∈E,Wp e f)(b:∀a∈cells e,i a=none\/(X a/\FY e.x=true)):At K i X n (e::E) H :=
 ⟨λg hg=>by
  rcases Ai.mp hg with rfl | hg
  ·exact ok
  ·exact h.ok g hg,Ay.mpr ⟨c,h.sep⟩,λg hg=>by
  rcases Ai.mp hg with rfl | hg
  ·exact b
  ·exact h.new g hg,h.same,h.dom,h.xd⟩
theorem At.new0(h:At K i X n E H){p:Addr}(a:H p=none):i p=none:=by
 cases q:i p with
 | none=>rfl
 | some o =>
  obtain ⟨b,z⟩:=h.dom p o q
  rw[a] at z; cases z
theorem V5{v:Option V}{m:Md}{d:Ae}:Wp ⟨v,.dat m d,[]⟩ f:=by
 refine ⟨λ_ a b=>?_,λ_ a _=>Bf⟩
 have:=Gu _ a b
 cases this
theorem At.pushI(h:At K i X n (S++T) H){v:V}{m:Md}{d:Ae}(r:RdF K H v d []):At K i X n (S++⟨some v,.dat m d,[]⟩::T) H :=
 (h.push (e:=⟨some v,.dat m d,[]⟩) ⟨v,rfl,r,λ_=>Dl,λ_ a l z=>nomatch z⟩ (λf _=>V5) (λa b=>nomatch Gu _ a b)).tomid
def wk:Md->Md->Bool
 | _,.pk=>true
 | .pk,_=>false
 | _,.sh=>true
 | .sh,_=>false
 | _,.tp=>true
 | .tp,.ow=>false
 | .ow,.ow=>true
theorem nV{v:Option V}{m b:Md}{d:Ae}{F:List Addr}(w:wk m b=true):∀a∈cells ⟨v,.dat b d,F⟩,a∈cells ⟨v,.dat m d,F⟩:=by
 intro a c
 cases m <;> cases b <;> first | exact absurd w (by decide) | exact c | exact absurd c Bf | exact (Gx 1 F).subset c
theorem wD{b:Type}{F:List b}(h:F.Nodup):∀a l,F=a::l->a∉l:=λa l e=>by
 subst e
 exact (Bp.mp h).1
theorem Ii.wk{v:Option V}{m a:Md}{d:Ae}{F:List Addr}(w:wk m a=true)(h:Ii K H n ⟨v,.dat m d,F⟩):Ii K H n ⟨v,.dat a d,F⟩:=by
 obtain ⟨u,g,c,b,f⟩:=h
 refine ⟨u,g,c,λe=>?_,λe=>?_⟩
 ·subst e
  cases m <;> first | exact absurd w (by decide) | exact b rfl
 ·subst e
  cases m <;> first | exact absurd w (by decide) | exact f rfl | exact wD (b rfl)
theorem Wp.wk{v:Option V}{m c:Md}{d:Ae}{F:List Addr}(w:wk m c=true)(h:Wp ⟨v,.dat m d,F⟩ f):Wp ⟨v,.dat c d,F⟩ f:=by
 refine ⟨λhp a b=>?_,λhp a b=>?_⟩
 ·rcases hp with hp | hp
  ·exact h.1 (.inl hp) a (nV w a b)
  ·cases hp
 ·rcases hp with hp | hp
  ·refine h.2 (.inl ?_) a b
   cases m <;> cases c <;> first | rfl | exact absurd w (by decide) | exact absurd hp (by show ¬ (true=false); decide)
  ·exact h.2 (.inr hp) a b
theorem At.wk{v:Option V}{m b:Md}{d:Ae}{F:List Addr}(w:wk m b=true)(h:At K i X n (⟨v,.dat m d,F⟩::E) H):At K i X n (⟨v,.dat b d,F⟩::E) H:=by
 have e:=Ay.mp h.sep
 refine (h.sub (Ci _ _)).push ((h.ok _ Aa).wk w) (λf g=>(e.1 f g).wk w) λa c=>?_
 rcases h.new _ Aa a (nV w a c) with z | z
 ·exact .inl z
 ·cases z.2
end
abbrev DE:=DS->(DV->DS->Prop)->Prop
abbrev DT:=DS->(Bool->DS->Prop)->Prop
abbrev DA:=DS->(List DV->DS->Prop)->Prop
structure DEnds where
 nx:DS->Prop
 rt:DV->DS->Prop
 bk:DS->Prop:=λ_=>False
 ct:DS->Prop:=λ_=>False
abbrev DB:=DEnds->DS->Prop
abbrev DG:=DV->DS->(DS->Prop)->Prop
abbrev e8:=List DV->DS->(DS->Prop)->Prop
def vs(S:List Ent):L2.St:=S.map Ent.v
def Sl(S:List Ent)(a:DS):Prop:=S.map Ent.x=a.sl
section
variable(K:PySem.W.Frag)
def LE(g:DE):TE:=λe H Q=>∃(d:Hp) (X:Addr->Prop) (S T:List Ent) (b:DS) (P:DV->DS->Prop),vs S=e/\Sl S b/\At K d X b.n (S++T) H/\g b P /\
 ∀x a v F c f,vs c=e->Sl c a->At K d X a.n (c++⟨some v,x,F⟩::T) f->P x a->Q v f
def LT(dt:DT):TT:=λf H Q=>∃(e:Hp) (X:Addr->Prop) (S T:List Ent) (c:DS) (P:Bool->DS->Prop),vs S=f/\Sl S c/\At K e X c.n (S++T) H/\dt c P /\
 ∀b a d g,vs d=f->Sl d a->At K e X a.n (d++T) g->P b a->Q b g
def LA(j:DA):TA:=λg H Q=>∃(e:Hp) (X:Addr->Prop) (S T:List Ent) (b:DS) (P:List DV->DS->Prop),vs S=g/\Sl S b/\At K e X b.n (S++T) H/\j b P /\
 ∀f a d i c h,vs c=g->Sl c a->d.map Ent.x=f->d.map Ent.v=i.map some->At K e X a.n (c++(d++T)) h->P f a->Q i h
def LS(g:DB):TS:=λD h H=>∃(d:Hp) (X:Addr->Prop) (S T:List Ent) (f:DS) (P:DEnds),vs S=h/\Sl S f/\(∀e∈T,Nw e.x=false)/\At K d X f.n (S++T) H/\g P f /\
 (∀a b c,Sl b a->At K d X a.n (b++T) c->P.nx a->D.nx (vs b) c) /\
 (∀x a v F b c,Sl b a->At K d X a.n (b++⟨some v,x,F⟩::T) c->P.rt x a->D.rt v c) /\
 (∀a b c,Sl b a->At K d X a.n (b++T) c->P.bk a->D.bk (vs b) c) /\
 (∀a b c,Sl b a->At K d X a.n (b++T) c->P.ct a->D.ct (vs b) c)
def LG(g:DG):TG:=λv f H Q=>∃(d:Hp) (X:Addr->Prop) (S T:List Ent) (b:DS) (x:DV) (F:List Addr) (P:DS->Prop),vs S=f/\Sl S b/\At K d X b.n (S++⟨some v,x,F⟩::T) H/\g x b P /\
 ∀a c e,Sl c a->At K d X a.n (c++T) e->P a->Q (vs c) e
def MV(h:e8):R8:=λi g H Q=>∃(e:Hp) (X:Addr->Prop) (S T d:List Ent) (b:DS) (P:DS->Prop),vs S=g/\Sl S b/\d.map Ent.v=i.map some/\At K e X b.n (S++(d++T)) H/\h (d.map Ent.x) b P /\
 ∀a c f,Sl c a->At K e X a.n (c++T) f->P a->Q (vs c) f
end
abbrev Fi(X:Cx)(e:Expr)(a:DE):Prop:=PE X e (LE X.K a)
abbrev Zi(X:Cx)(e:Expr)(dt:DT):Prop:=PT X e (LT X.K dt)
abbrev DQ(X:Cx)(e:Expr)(dt:DT):Prop:=PW X e (LT X.K dt)
abbrev oZ(X:Cx)(es:List Expr)(a:DA):Prop:=PA X es (LA X.K a)
abbrev dY(X:Cx)(st:Stmt)(a:DB):Prop:=PS X st (LS X.K a)
abbrev Zf(X:Cx)(st:List Stmt)(a:DB):Prop:=qG X st (LS X.K a)
abbrev IJ(X:Cx)(b:Expr)(a:DG):Prop:=PG X b (LG X.K a)
abbrev R1(X:Cx)(b:List Expr)(a:e8):Prop:=DZ X b (MV X.K a)
theorem PE.imp{X:Cx}{e:Expr}{t t':TE}(h:PE X e t)(k:∀a H Q,t' a H Q->t a H Q):PE X e t':=λb s a H Q I q=>h b s a H Q I (k a H Q q)
theorem PT.imp{X:Cx}{e:Expr}{t t':TT}(h:PT X e t)(k:∀a H Q,t' a H Q->t a H Q):PT X e t':=λb s a H Q I q=>h b s a H Q I (k a H Q q)
theorem PW.imp{X:Cx}{e:Expr}{t t':TT}(h:PW X e t)(k:∀a H Q,t' a H Q->t a H Q):PW X e t':=λc b s a H Q I q=>h c b s a H Q I (k a H Q q)
theorem PA.imp{X:Cx}{e:List Expr}{t t':TA}(h:PA X e t)(k:∀a H Q,t' a H Q->t a H Q):PA X e t':=λc b s a H Q I q=>h c b s a H Q I (k a H Q q)
theorem PG.imp{X:Cx}{e:Expr}{t t':TG}(h:PG X e t)(k:∀v a H Q,t' v a H Q->t v a H Q):PG X e t':=λb s a H v u Q I r q=>h b s a H v u Q I r (k v a H Q q)
theorem DZ.imp{X:Cx}{e:List Expr}{t t':R8}(h:DZ X e t)(k:∀v a H Q,t' v a H Q->t v a H Q):DZ X e t':=λb s a H v u Q I r q=>h b s a H v u Q I r (k v a H Q q)
section
variable{K:PySem.W.Frag}{H:Hp}{v:V}{F:List Addr}
theorem RdF.int_inv{i:Int}(h:RdF K H v (.int i) F):v=.int i/\F=[]:=by cases h; exact ⟨rfl,rfl⟩
theorem RdF.bl_inv{i:Bool}(h:RdF K H v (.bool i) F):v=.bl i/\F=[]:=by cases h; exact ⟨rfl,rfl⟩
theorem RdF.str_inv{i:Str}(h:RdF K H v (.str i) F):v=.str i/\F=[]:=by cases h; exact ⟨rfl,rfl⟩
theorem RdF.list_inv{b:List Ae}(h:RdF K H v (.list b) F):∃a xs G,v=.ref a/\H a=some (.lst xs)/\RdFs K H xs b G/\F=a::G/\b.length<=Bc:=by
 cases h with
 | lst h l c=>exact ⟨_,_,_,rfl,h,c,rfl,l⟩
theorem RdF.tup_inv{b:List Ae}(h:RdF K H v (.tuple b) F):∃a xs,v=.ref a/\H a=some (.tup xs)/\RdFs K H xs b F/\b.length<=Bc:=by
 cases h with
 | tup h l c=>exact ⟨_,_,rfl,h,c,l⟩
end
section
variable{K:PySem.W.Frag}{a H b:Hp}{X:Addr->Prop}{n:Nat}{E S T:List Ent}{v:V}{m:Md}{d:Ae}{F:List Addr}
theorem At.told(h:At K a X n E H)(b:⟨some v,.dat m d,F⟩∈E):RdF K H v d F:=by
 obtain ⟨w,e,c,_⟩:=h.ok _ b
 cases e
 exact c
theorem mem_mid{e:Ent}:e∈S++e::T:=Af _ Aa
theorem Fc{e f:Ent}:f∈S++e::f::T:=Af _ (Ad _ Aa)
theorem At.drop2{e f:Ent}(h:At K a X n (S++e::f::T) H):At K a X n (S++T) H:=h.drop.drop
theorem At.dropL{As:List Ent}(h:At K a X n (S++(As++T)) H):At K a X n (S++T) H:=h.sub ((Ck S).append (Ca As T))
end
def jL:Md->Md
 | .ow=>.pk
 | .tp=>.pk
 | m=>m
def CJ(i:Nat):DE:=λa P=>match a.sl[i]? with
 | some (.dat m d)=>P (.dat (jL m) d) a
 | _=>False
def dC(d:Ae):DE:=λa P=>P (.dat .ow d) a
theorem Hi{S:List Ent}{b:DS}{i:Nat}{x:DV}(h:Sl S b)(e:b.sl[i]? = some x):∃a,S[i]? = some a/\a.x=x:=by
 unfold Sl at h
 rw[<- h,Bm] at e
 cases q:S[i]? with
 | none=>rw[q] at e; cases e
 | some a=>rw[q] at e; exact ⟨a,rfl,Bl e⟩
theorem Jm{S:List Ent}{i:Nat}{e:Ent}(h:S[i]? = some e):(vs S)[i]? = some e.v:=by
 unfold vs
 rw[Bm,h]
 rfl
theorem At.look{K:PySem.W.Frag}{c H:Hp}{X:Addr->Prop}{n:Nat}{S T:List Ent}{u:Option V}{v:V}{m:Md}{d:Ae}{F:List Addr}(h:At K c X n (S++T) H)(l:⟨u,.dat m d,F⟩∈S)(r:u=some v):At K c X n (S++⟨some v,.dat (jL m) d,F⟩::T) H:=by
 subst r
 obtain ⟨k,i,rfl⟩:=List.append_of_mem l
 have g:((k++⟨some v,.dat m d,F⟩::i)++T).Perm (⟨some v,.dat m d,F⟩::(k++(i++T))):=by
  rw[Bh,Fe]
  exact Fd
 have j:=h.perm g
 have p:=Ay.mp j.sep
 refine (h.push (e:=⟨some v,.dat (jL m) d,F⟩) ?_ (λf hf=>?_) λa b=>?_).tomid
 ·obtain ⟨w,o,q,_⟩:=j.ok _ Aa
  refine ⟨w,o,q,λz=>?_,λz=>?_⟩ <;> cases m <;> cases z
 ·refine ⟨λ_ a b=>?_,λhq a b=>?_⟩
  ·cases m <;> exact nomatch b
  ·rcases Ai.mp (g.mem_iff.mp hf) with rfl | hf
   ·rcases hq with hq | hq
    ·cases m <;> first | cases hq; done | exact nomatch b
    ·cases hq
   ·refine (p.1 f hf).2 ?_ a b
    rcases hq with hq | hq
    ·refine .inl ?_
     cases m <;> first | rfl | exact hq
    ·exact .inr hq
 ·cases m <;> exact nomatch b
section
variable{X:Cx}{e:Expr}
theorem Ap{i:Nat}(h:PE X e (Nx i)):Fi X e (CJ i):=by
 refine PE.imp h λr H Q h=>?_
 obtain ⟨q,Y,S,T,o,P,rfl,f,j,b,k⟩:=h
 unfold CJ at b
 split at b
 ·rename_i m d n
  obtain ⟨a,g,p⟩:=Hi f n
  have l:a∈S:=Aq g
  obtain ⟨u,x,F⟩:=a
  subst p
  obtain ⟨v,c,_⟩:=j.ok _ (Ah _ l)
  refine ⟨v,by rw[Jm g]; exact congrArg some c,k _ o v F S H rfl f (j.look l c) b⟩
 ·exact b.elim
theorem sE{v:V}{d:Ae}(h:PE X e (tC v))(r:∀H,RdF X.K H v d []):Fi X e (dC d):=by
 refine PE.imp h λi H Q h=>?_
 obtain ⟨g,Y,S,T,c,P,rfl,b,f,a,k⟩:=h
 exact k _ c v [] S H rfl b (f.pushI (r H)) a
theorem Dx{i j pos}:Fi X (.Constant (.int i) j pos) (dC (.int i)):=sE Hs λ_=>.int i
theorem Mv{i j pos}:Fi X (.Constant (.bool i) j pos) (dC (.bool i)):=sE HA λ_=>.bl i
theorem aU{i j pos}:Fi X (.Constant (.str i) j pos) (dC (.str i)):=sE CY λ_=>.str i
end
def GT(c:DE):DE:=λb P=>c b λx a=>match x with
 | .dat _ d=>imm d=true/\P (.dat .ow d) a
 | _=>False
theorem Nf{X:Cx}{e:Expr}{c:DE}(h:Fi X e c):Fi X e (GT c):=by
 refine PE.imp h λt H Q h=>?_
 obtain ⟨f,Y,S,T,o,P,rfl,j,q,g,k⟩:=h
 refine ⟨f,Y,S,T,o,_,rfl,j,q,g,λx b v F s l i n a p=>?_⟩
 cases x with
 | dat m d =>
  have r:=a.told mem_mid
  obtain rfl:=r.imm p.1
  exact k _ b v [] s l i n (a.drop.pushI r) p.2
 | _=>exact p.elim
def d0(i:Nat):DE:=λa P=>match a.sl[i]? with
 | some (.dat m d)=>P (.dat m d) ⟨a.sl.set i .un,a.n⟩
 | _=>False
theorem Sf{a:Type}:∀{l:List a} {i:Nat} {x y:a},l[i]? = some x->(y::l).Perm (x::l.set i y)
 | [],i,x,y,h=>by simp at h
 | z::l,0,x,y,h=>by
  simp at h
  subst h
  exact Ee _ _ _
 | z::l,i+1,x,y,h=>by
  have b:=Sf (l:=l) (i:=i) (x:=x) (y:=y) (by simpa using h)
  rw[List.set_cons_succ]
  exact (Ee z y l).trans ((b.cons z).trans (Ee x z _))
theorem Zv{X:Cx}{e:Expr}{i:Nat}(h:PE X e (Nx i)):Fi X e (d0 i):=by
 refine PE.imp h λI H Q h=>?_
 obtain ⟨G,Y,S,T,C,P,rfl,q,r,g,k⟩:=h
 unfold d0 at g
 split at g
 ·rename_i m d B
  obtain ⟨b,c,D⟩:=Hi q B
  have A:b∈S:=Aq c
  obtain ⟨u,x,F⟩:=b
  subst D
  obtain ⟨v,t,w⟩:=r.ok _ (Ah _ A)
  have p:u=some v:=t
  subst p
  refine ⟨v,by rw[Jm c],k _ _ v F (S.set i ⟨some v,.un,[]⟩) H ?_ ?_ ?_ g⟩
  ·unfold vs
   rw[Hn]
   apply Hd
   intro j
   rw[Hy]
   split
   ·rename_i o
    subst o
    rw[Bm,c]
    split
    ·rfl
    ·rename_i s
     rw[Ab] at s
     exact absurd (Ak.mp c).1 s
   ·rfl
  ·unfold Sl at q ⊢
   rw[Hn,q]
  ·have z:=r.push (e:=⟨some v,.un,[]⟩) (show Ii X.K H C.n ⟨some v,.un,[]⟩ from rfl) (λf _=>⟨λ_ a l=>(nomatch l),λ_ a _=>Bf⟩) (λa l=>(nomatch l))
   have E:(⟨some v,.un,[]⟩::(S++T)).Perm ((S.set i ⟨some v,.un,[]⟩)++⟨some v,.dat m d,F⟩::T):=by
    rw[<- Fe]
    exact ((Sf (y:=(⟨some v,.un,[]⟩ : Ent)) c).append_right T).trans (by rw[Fe]; exact List.perm_middle.symm)
   exact z.perm E
 ·exact g.elim
abbrev D2:=DV->DV->(DV->Prop)->Prop
def kZ(K:PySem.W.Frag)(r:R2)(rd:D2):Prop:=∀(a:Hp) (X:Addr->Prop) (n:Nat) (S T:List Ent) (x y:DV) (v w:V) (F G:List Addr) (H:Hp) (Q:VK) (P:DV->Prop),
 At K a X n (S++⟨some w,y,G⟩::⟨some v,x,F⟩::T) H->rd x y P->(∀z u c b,At K a X n (S++⟨some u,z,c⟩::T) b->P z->Q u b)->r v w H Q
def Ve(rd:D2)(e c:DE):DE:=λd P=>e d λx a=>c a λy b=>rd x y λz=>P z b
theorem op_le{K:PySem.W.Frag}{r:R2}{rd:D2}{j l:DE}(o:kZ K r rd):∀f H Q,LE K (Ve rd j l) f H Q->FK r (LE K j) (LE K l) f H Q:=by
 intro f H Q h
 obtain ⟨e,Y,S,T,C,P,rfl,L,s,J,k⟩:=h
 refine ⟨e,Y,S,T,C,_,rfl,L,s,J,λx g v F t O B M d I=>?_⟩
 refine ⟨e,Y,t,⟨some v,x,F⟩::T,g,_,B,M,d,I,λy a w G i N E D c A=>?_⟩
 exact o e Y a.n i T x y v w F G N Q _ c A λz u m q b p=>k z a u m i q E D b p
section
variable{X:Cx}{a b:Expr}{c d:DE}{pos:Pos}{r:R2}{rd:D2}
theorem We{e:Operator}(f:Vn X (Lh e) r)(o:kZ X.K r rd)(g:Fi X a c)(hb:Fi X b d):Fi X (.BinOp a e b pos) (Ve rd c d):=PE.imp (Lf f g hb) (op_le o)
theorem qZ{e:CmpOp}(f:Vn X (Hv e) r)(o:kZ X.K r rd)(h:Fi X a c)(hb:Fi X b d)(g:Gg e b=false):Fi X (.Compare a [e] [b] pos) (Ve rd c d):=PE.imp (sY f h hb g) (op_le o)
theorem FZ(e:O9 X r)(o:kZ X.K r rd)(f:Fi X a c)(hb:Fi X b d)(g:kB b):Fi X (.Subscript a b pos) (Ve rd c d):=PE.imp (aR e f hb g) (op_le o)
end
def DH(C:Int->Int->Prop)(g:Int->Int->Ae):D2:=λx y P=>match x,y with
 | .dat _ (.int i),.dat _ (.int j)=>C i j/\P (.dat .ow (g i j))
 | _,_=>False
def bZ(g:Int->Int->Ae):D2:=λx y P=>match x,y with
 | .dat _ (.int i),.dat _ (.int j)=>P (.dat .ow (g i j))
 | _,_=>False
section
variable{K:PySem.W.Frag}
theorem U0{C:Int->Int->Prop}{g:Int->Int->V}{g':Int->Int->Ae}(h:∀i j H,RdF K H (g i j) (g' i j) []):kZ K (rI C g) (DH C g'):=by
 intro c X n S T x y v w F G H Q P b a k
 unfold DH at a
 split at a
 ·obtain ⟨rfl,_⟩:=(b.told Fc).int_inv
  obtain ⟨rfl,_⟩:=(b.told mem_mid).int_inv
  exact ⟨_,_,rfl,rfl,a.1,k _ _ [] H (b.drop2.pushI (h _ _ H)) a.2⟩
 ·exact a.elim
theorem gQ{g:Int->Int->V}{g':Int->Int->Ae}(h:∀i j H,RdF K H (g i j) (g' i j) []):kZ K (P3 g) (bZ g'):=by
 intro c X n S T x y v w F G H Q P b a k
 unfold bZ at a
 split at a
 ·obtain ⟨rfl,_⟩:=(b.told Fc).int_inv
  obtain ⟨rfl,_⟩:=(b.told mem_mid).int_inv
  exact ⟨_,_,rfl,rfl,k _ _ [] H (b.drop2.pushI (h _ _ H)) a⟩
 ·exact a.elim
end
abbrev rdAdd:D2:=bZ λi j=>.int (i+j)
abbrev rdSub:D2:=bZ λi j=>.int (i - j)
abbrev rdMul:D2:=DH DJ λi j=>.int (i * j)
abbrev rdDiv:D2:=DH AZ λi j=>.int (i / j)
abbrev rdMod:D2:=DH (λ_ j=>0<j) λi j=>.int (i % j)
abbrev rdShl:D2:=DH Q6 λi j=>.int (i * 2 ^ j.toNat)
abbrev rdLt:D2:=bZ λi j=>.bool (decide (i<j))
abbrev rdLe:D2:=bZ λi j=>.bool (decide (i<=j))
abbrev rdGt:D2:=bZ λi j=>.bool (decide (j<i))
abbrev rdGe:D2:=bZ λi j=>.bool (decide (j<=i))
section
variable{X:Cx}{a b:Expr}{c d:DE}{pos:Pos}
theorem Mg(e:Fi X a c)(hb:Fi X b d):Fi X (.BinOp a .Add b pos) (Ve rdAdd c d):=We bO (gQ λ_ _ _=>.int _) e hb
theorem Yc(e:Fi X a c)(hb:Fi X b d):Fi X (.BinOp a .Sub b pos) (Ve rdSub c d):=We CD (gQ λ_ _ _=>.int _) e hb
theorem AJ(e:Fi X a c)(hb:Fi X b d):Fi X (.BinOp a .Mult b pos) (Ve rdMul c d):=We Ye (U0 λ_ _ _=>.int _) e hb
theorem kC(e:Fi X a c)(hb:Fi X b d):Fi X (.BinOp a .FloorDiv b pos) (Ve rdDiv c d):=We iY (U0 λ_ _ _=>.int _) e hb
theorem Rk(e:Fi X a c)(hb:Fi X b d):Fi X (.BinOp a .Mod b pos) (Ve rdMod c d):=We Yj (U0 λ_ _ _=>.int _) e hb
theorem CH(e:Fi X a c)(hb:Fi X b d):Fi X (.BinOp a .LShift b pos) (Ve rdShl c d):=We CC (U0 λ_ _ _=>.int _) e hb
end
def eT(a:Bool):D2:=λx y P=>match x,y with
 | .dat _ d,.dat _ e=>d.depth<=60/\e.depth<=60/\P (.dat .ow (.bool (match a with | true=>!Er d e | false=>Er d e)))
 | _,_=>False
def lI(a:Bool):D2:=λx y P=>match x,y with
 | .dat _ d,.dat _ (.list es)=>Br es<=60/\d.depth<=60/\P (.dat .ow (.bool (match a with | true=>!(es.any λe=>Er e d) | false=>es.any λe=>Er e d)))
 | .dat _ d,.dat _ (.tuple es)=>Br es<=60/\d.depth<=60/\P (.dat .ow (.bool (match a with | true=>!(es.any λe=>Er e d) | false=>es.any λe=>Er e d)))
 | _,_=>False
section
variable{K:PySem.W.Frag}
theorem AD:kZ K (HZ K) (eT false):=by
 intro c X n S T x y v w F G H Q P b a k
 unfold eT at a
 split at a
 ·exact ⟨_,_,(b.told Fc).rd (Bz a.1 (by decide)),(b.told mem_mid).rd (Bz a.2.1 (by decide)),a.1,k _ _ [] H (b.drop2.pushI (.bl _)) a.2.2⟩
 ·exact a.elim
theorem W8:kZ K (HB K) (eT true):=by
 intro c X n S T x y v w F G H Q P b a k
 unfold eT at a
 split at a
 ·exact ⟨_,_,(b.told Fc).rd (Bz a.1 (by decide)),(b.told mem_mid).rd (Bz a.2.1 (by decide)),a.1,k _ _ [] H (b.drop2.pushI (.bl _)) a.2.2⟩
 ·exact a.elim
theorem g0{d:Bool}:kZ K (AR K d) (lI d):=by
 intro h X n S T x y v w F G H Q P c b k
 unfold lI at b
 split at b
 ·obtain ⟨a,e,i,rfl,g,f,_,_⟩:=(c.told mem_mid).list_inv
  refine ⟨a,e,_,_,rfl,.inl (Qf.of g),(c.told Fc).rd (Bz b.2.1 (by decide)),f.rd (Bz b.1 (by decide)),b.1,?_⟩
  cases d with
  | true=>exact k _ _ [] H (c.drop2.pushI (.bl _)) b.2.2
  | false=>exact k _ _ [] H (c.drop2.pushI (.bl _)) b.2.2
 ·obtain ⟨a,e,rfl,g,f,_⟩:=(c.told mem_mid).tup_inv
  refine ⟨a,e,_,_,rfl,.inr (Tz.of g),(c.told Fc).rd (Bz b.2.1 (by decide)),f.rd (Bz b.1 (by decide)),b.1,?_⟩
  cases d with
  | true=>exact k _ _ [] H (c.drop2.pushI (.bl _)) b.2.2
  | false=>exact k _ _ [] H (c.drop2.pushI (.bl _)) b.2.2
 ·exact b.elim
end
section
variable{X:Cx}{a b:Expr}{c d:DE}{pos:Pos}
theorem uD(f:X.A.units+64<cLine)(e:Fi X a c)(hb:Fi X b d):Fi X (.Compare a [.Eq] [b] pos) (Ve (eT false) c d):=qZ (J6 f) AD e hb (Ol _)
theorem FV(f:X.A.units+64<cLine)(e:Fi X a c)(hb:Fi X b d):Fi X (.Compare a [.NotEq] [b] pos) (Ve (eT true) c d):=qZ (B5 f) W8 e hb (Ol _)
theorem GE(g:X.A.units+64<cLine)(e:Fi X a c)(hb:Fi X b d)(f:Gg .In b=false:=by with_unfolding_all rfl):Fi X (.Compare a [.In] [b] pos) (Ve (lI false) c d):=qZ (E9 g) g0 e hb f
end
def Nv:Md->Md
 | .ow=>.ow
 | .tp=>.sh
 | m=>m
theorem At.part{K:PySem.W.Frag}{i H:Hp}{X:Addr->Prop}{n:Nat}{S T:List Ent}{v w:V}{m:Md}{d e:Ae}{F G:List Addr}(h:At K i X n (S++⟨some v,.dat m d,F⟩::T) H)(r:RdF K H w e G)(c:G.Sublist F):At K i X n (S++⟨some w,.dat (Nv m) e,G⟩::T) H:=by
 have g:=h.mid
 have j:=Ay.mp g.sep
 obtain ⟨t,q,s,o,p⟩:=g.ok _ Aa
 have k:∀a∈cells ⟨some w,.dat (Nv m) e,G⟩,a∈cells ⟨some v,.dat m d,F⟩:=λa b=>by
  cases m with
  | ow=>exact c.subset b
  | tp=>exact nomatch b
  | sh=>exact nomatch b
  | pk=>exact nomatch b
 refine (h.drop.push (e:=⟨some w,.dat (Nv m) e,G⟩) ⟨w,rfl,r,λz=>?_,λz=>?_⟩ (λf l=>?_) λa b=>?_).tomid
 ·cases m with
  | ow=>exact (o rfl).sublist c
  | _=>cases z
 ·cases m <;> cases z
 ·refine ⟨λhp a b=>(j.1 f l).1 ?_ a (k a b),λhp a b z=>(j.1 f l).2 ?_ a b (c.subset z)⟩
  ·rcases hp with hp | hp
   ·exact .inl hp
   ·cases hp
  ·rcases hp with hp | hp
   ·refine .inl ?_
    cases m <;> first | rfl | exact hp
   ·exact .inr hp
 ·rcases g.new _ Aa a (k a b) with z | z
  ·exact .inl z
  ·cases z.2
def E1:D2:=λx y P=>match x,y with
 | .dat m (.list ds),.dat _ (.int i)=>∃d,Xj ds i=some d/\P (.dat (Nv m) d)
 | .dat m (.tuple ds),.dat _ (.int i)=>∃d,Xj ds i=some d/\P (.dat (Nv m) d)
 | .dat _ (.str z),.dat _ (.int i)=>z.length<=Bc/\∃c,Xj z.cps.toList i=some c/\P (.dat .ow (.str ⟨#[c]⟩))
 | _,_=>False
theorem K3{K:PySem.W.Frag}{H:Hp}{xs:List V}{a:List Ae}{F:List Addr}{i:Int}{d:Ae}(r:RdFs K H xs a F)(h:Xj a i=some d):∃x G,Xj xs i=some x/\RdF K H x d G/\G.Sublist F:=by
 unfold Xj at h ⊢
 rw[r.len]
 cases e:rX a.length i with
 | none=>rw[e] at h; cases h
 | some j =>
  rw[e] at h
  exact r.get h
theorem At.swap{K:PySem.W.Frag}{a H:Hp}{X:Addr->Prop}{n:Nat}{S T:List Ent}{e f:Ent}(h:At K a X n (S++e::f::T) H):At K a X n (S++f::e::T) H:=h.perm ((Gn S).append (Ee f e T))
theorem HP{K:PySem.W.Frag}:kZ K (LL K) E1:=by
 intro u X n S T x y v w F G H Q P b f k
 unfold E1 at f
 split at f
 ·obtain ⟨d,g,p⟩:=f
  obtain ⟨rfl,_⟩:=(b.told mem_mid).int_inv
  have r:=b.told Fc
  have e:=b.drop
  obtain ⟨a,s,z,rfl,o,j,q,_⟩:=r.list_inv
  obtain ⟨x,h,m,i,l⟩:=K3 j g
  subst q
  exact .inl ⟨_,_,_,_,rfl,rfl,Qf.of o,m,k _ _ h H (e.part i (l.trans (Ci _ _))) p⟩
 ·obtain ⟨d,g,p⟩:=f
  obtain ⟨rfl,_⟩:=(b.told mem_mid).int_inv
  have r:=b.told Fc
  have e:=b.drop
  obtain ⟨a,s,rfl,o,j,_⟩:=r.tup_inv
  obtain ⟨x,h,m,i,l⟩:=K3 j g
  exact .inr (.inl ⟨_,_,_,_,rfl,rfl,Tz.of o,m,k _ _ h H (e.part i l) p⟩)
 ·obtain ⟨t,c,g,p⟩:=f
  obtain ⟨rfl,_⟩:=(b.told mem_mid).int_inv
  obtain ⟨rfl,_⟩:=(b.told Fc).str_inv
  exact .inr (.inr ⟨_,_,_,rfl,rfl,t,g,k _ _ [] H (b.drop2.pushI (.str _)) p⟩)
 ·exact f.elim
theorem Uy{X:Cx}{a b:Expr}{c d:DE}{pos:Pos}(f:Fi X a c)(hb:Fi X b d)(e:kB b:=by intro _ _; rfl):Fi X (.Subscript a b pos) (Ve E1 c d):=FZ BX HP f hb e
def gO:Md->Md
 | .ow=>.ow
 | .pk=>.pk
 | _=>.tp
def Yr(i:Bool)(m:Md)(a:List Ae)(P:DV->Prop):Prop:=match i with
 | true=>Dz a=true/\P (.dat .ow (.list a))
 | false=>P (.dat (gO m) (.list a))
def iV(i:Bool)(m:Md)(a:List Ae)(P:DV->Prop):Prop:=match i with
 | true=>Dz a=true/\P (.dat .ow (.tuple a))
 | false=>P (.dat (Nv m) (.tuple a))
section
variable{K:PySem.W.Frag}{c H:Hp}{X:Addr->Prop}{n:Nat}{S T:List Ent}{v w:V}{m:Md}{d e:Ae}{F G:List Addr}{p:Addr}{xs:List V}{b:List Ae}{P:DV->Prop}{i:Bool}
theorem At.newI(h:At K c X n (S++T) H)(r:RdFs K H xs b G)(k:Dz b=true)(hz:b.length<=Bc)(g:H p=none)(m:Md):At K c X n (S++⟨some (.ref p),.dat m (.list b),[p]⟩::T) (upd H p (.lst xs)):=by
 obtain rfl:=r.imm k
 have j:=Fj g (.lst xs)
 have o:=h.grow (n':=n) j (Aj _)
 refine (o.push (e:=⟨some (.ref p),.dat m (.list b),[p]⟩) ⟨_,rfl,.lst Di hz (r.kp (Kp.of j)),λ_=>Bp.mpr ⟨Bf,Dl⟩,λ_ a l z=>by cases z; exact Bf⟩ (λf q=>?_) λa d=>?_).tomid
 ·have i:=h.free g f q
  refine ⟨λ_ a d z=>?_,λ_ a d z=>?_⟩
  ·have:=Gu _ a d
   rw[Ac.mp this] at z
   exact i z
  ·rw[Ac.mp z] at d
   exact i (Gu _ _ d)
 ·have:=Gu _ a d
  rw[Ac.mp this]
  exact .inl (h.new0 g)
theorem At.newL(h:At K c X n (S++⟨some v,.dat m d,F⟩::T) H)(r:RdFs K H xs b G)(s:G.Sublist F)(hz:b.length<=Bc)(k:H p=none)(q:Yr i m b P):∃z B,At K c X n (S++⟨some (.ref p),z,B⟩::T) (upd H p (.lst xs))/\P z:=by
 cases i with
 | true=>exact ⟨_,_,h.drop.newI r q.1 hz k .ow,q.2⟩
 | false =>
  have q:P (.dat (gO m) (.list b)):=q
  refine ⟨_,p::G,?_,q⟩
  have A:=Fj k (.lst xs)
  have j:=h.mid
  have w:=Ay.mp j.sep
  obtain ⟨I,E,_,C,_⟩:=j.ok _ Aa
  have D:=h.drop.grow (n':=n) A (Aj _)
  have u:p∉F:=j.free k _ Aa
  have o:p∉G:=λz=>u (s.subset z)
  have y:∀a∈cells ⟨some (.ref p),.dat (gO m) (.list b),p::G⟩,a=p\/(a∈cells ⟨some v,.dat m d,F⟩):=λa g=>by
   cases m with
   | ow =>
    rcases Ai.mp g with z | z
    ·exact .inl z
    ·exact .inr (s.subset z)
   | tp=>exact .inl (Ac.mp g)
   | sh=>exact .inl (Ac.mp g)
   | pk=>exact nomatch g
  refine (D.push (e:=⟨some (.ref p),.dat (gO m) (.list b),p::G⟩) ⟨_,rfl,.lst Di hz (r.kp (Kp.of A)),λz=>?_,λz a l e=>?_⟩ (λf t=>?_) λa g=>?_).tomid
  ·cases m with
   | ow=>exact Bp.mpr ⟨o,(C rfl).sublist s⟩
   | _=>cases z
  ·cases e
   exact o
  ·have x:=j.free k f (Ad _ t)
   refine ⟨λhq a g z=>?_,λhq a g z=>?_⟩
   ·rcases y a g with rfl | hc
    ·exact x z
    ·refine (w.1 f t).1 ?_ a hc z
     rcases hq with hq | hq
     ·exact .inl hq
     ·cases hq
   ·rcases Ai.mp z with rfl | z
    ·exact x (Gu _ _ g)
    ·refine (w.1 f t).2 ?_ a g (s.subset z)
     rcases hq with hq | hq
     ·refine .inl ?_
      cases m <;> first | rfl | exact hq
     ·exact .inr hq
  ·rcases y a g with rfl | hc
   ·exact .inl (j.new0 k)
   ·rcases j.new _ Aa a hc with z | z
    ·exact .inl z
    ·cases z.2
theorem At.newT(h:At K c X n (S++⟨some v,.dat m d,F⟩::T) H)(r:RdFs K H xs b G)(f:G.Sublist F)(hz:b.length<=Bc)(g:H p=none)(q:iV i m b P):∃z j,At K c X n (S++⟨some (.ref p),z,j⟩::T) (upd H p (.tup xs))/\P z:=by
 have a:=Fj g (.tup xs)
 have e:=h.grow (n':=n) a (Aj _)
 cases i with
 | true =>
  obtain rfl:=r.imm q.1
  exact ⟨_,[],e.drop.pushI (.tup Di hz (r.kp (Kp.of a))),q.2⟩
 | false=>exact ⟨_,G,e.part (.tup Di hz (r.kp (Kp.of a))) f,q⟩
theorem At.oldT{t:Addr}(h:At K c X n (S++⟨some v,.dat m d,F⟩::T) H)(r:RdFs K H xs b G)(f:G.Sublist F)(hz:b.length<=Bc)(a:H t=some (.tup xs))(q:iV i m b P):∃z e,At K c X n (S++⟨some (.ref t),z,e⟩::T) H/\P z:=by
 cases i with
 | true =>
  obtain rfl:=r.imm q.1
  exact ⟨_,[],h.drop.pushI (.tup a hz r),q.2⟩
 | false=>exact ⟨_,G,h.part (.tup a hz r) f,q⟩
end
def AG:DA:=λa P=>P [] a
def Z5(e:DE)(f:DA):DA:=λd P=>e d λx a=>f a λc b=>P (x::c) b
section
variable{X:Cx}{e:Expr}{es:List Expr}{b:DE}{a:DA}
theorem Ba:oZ X [] AG:=by
 refine PA.imp Lk λf H Q h=>?_
 obtain ⟨e,Y,S,T,c,P,rfl,b,d,a,k⟩:=h
 exact k [] c [] [] S H rfl b rfl rfl d a
theorem Ao(o:Fi X e b)(A:oZ X es a)(G:Be (e::es) X.env=(false,eval e X.env)::Be es X.env:=by rfl):oZ X (e::es) (Z5 b a):=by
 refine PA.imp (Gp o A G) λK H Q h=>?_
 obtain ⟨j,Y,S,T,u,P,rfl,C,p,B,k⟩:=h
 refine ⟨j,Y,S,T,u,_,rfl,C,p,B,λx g v F q J t D d z=>?_⟩
 refine ⟨j,Y,q,⟨some v,x,F⟩::T,g,_,t,D,d,z,λn f I m i E y w r l c s=>?_⟩
 refine k (x::n) f (⟨some v,x,F⟩::I) (v::m) i E y w (by rw[Ax,r]) (by rw[Ax,Ax,l]) (c.perm ((Gn i).append ?_)) s
 exact Fd
end
def allOw:List DV->Bool
 | []=>true
 | .dat .ow _::xs=>allOw xs
 | _=>false
def noPk:List DV->Bool
 | []=>true
 | .dat .pk _::_=>false
 | .dat _ _::xs=>noPk xs
 | _=>false
def datas:List DV->Option (List Ae)
 | []=>some []
 | .dat _ d::xs=>(datas xs).map (d::·)
 | _=>none
def pkMd(top:Md)(xs:List DV):Md:=if allOw xs=true then .ow else if noPk xs=true then top else .pk
section
variable{K:PySem.W.Frag}{c H:Hp}{X:Addr->Prop}{n:Nat}{S T As:List Ent}
theorem Wv:∀{As:List Ent} {us:List V} {a:List Ae},As.map Ent.v=us.map some->datas (As.map Ent.x)=some a->(∀e∈As,Ii K H n e)->RdFs K H us a (As.flatMap Ent.F)
 | [],us,a,e,h,_=>by
  cases us with
  | nil=>cases h; exact .nil
  | cons _ _=>cases e
 | ent::As,us,a,e,h,ok=>by
  cases us with
  | nil=>cases e
  | cons u us =>
   rw[Ax,Ax] at e
   obtain ⟨i,j⟩:=Hh e
   obtain ⟨v,x,F⟩:=ent
   have b:v=some u:=i
   subst b
   rw[Ax] at h
   cases x with
   | dat m d =>
    rw[show datas (DV.dat m d::As.map Ent.x)=(datas (As.map Ent.x)).map (d::·) from rfl] at h
    cases q:datas (As.map Ent.x) with
    | none=>rw[q] at h; cases h
    | some l =>
     rw[q] at h
     cases h
     obtain ⟨w,g,c,_⟩:=ok _ Aa
     cases g
     rw[Hb]
     exact .cons c (Wv j q λf k=>ok f (Ad _ k))
   | _=>cases h
theorem Qo:∀{As:List Ent},allOw (As.map Ent.x)=true->∀e∈As,∃d,e.x=.dat .ow d
 | [],_,_,h=>nomatch h
 | ⟨v,x,F⟩::As,h,e,he=>by
  rw[Ax] at h
  have a:(∃d,x=.dat .ow d)/\allOw (As.map Ent.x)=true:=by
   cases x with
   | dat m d=>cases m <;> first | exact ⟨⟨d,rfl⟩,h⟩ | cases h
   | _=>cases h
  rcases Ai.mp he with rfl | he
  ·exact a.1
  ·exact Qo a.2 e he
theorem nU:∀{As:List Ent},noPk (As.map Ent.x)=true->∀e∈As,Nw e.x=false
 | [],_,_,h=>nomatch h
 | ⟨v,x,F⟩::As,h,e,he=>by
  rw[Ax] at h
  have a:Nw x=false/\noPk (As.map Ent.x)=true:=by
   cases x with
   | dat m d=>cases m <;> first | exact ⟨rfl,h⟩ | cases h
   | _=>cases h
  rcases Ai.mp he with rfl | he
  ·exact a.1
  ·exact nU a.2 e he
theorem bL:∀{As:List Ent},(∀e∈As,∃d,e.x=.dat .ow d)->(∀e∈As,Ii K H n e)->As.Pairwise Wp->(As.flatMap Ent.F).Nodup
 | [],_,_,_=>Dl
 | ent::As,ho,ok,hs=>by
  rw[Hb]
  have i:=Ay.mp hs
  obtain ⟨v,x,F⟩:=ent
  obtain ⟨d,k⟩:=ho _ Aa
  have c:x=.dat .ow d:=k
  subst c
  obtain ⟨w,_,_,m,_⟩:=ok _ Aa
  refine Ec.mpr ⟨m rfl,bL (λe g=>ho e (Ad _ g)) (λe g=>ok e (Ad _ g)) i.2,λa l b h z=>?_⟩
  subst z
  obtain ⟨f,j,h⟩:=Cb.mp h
  obtain ⟨o,c⟩:=ho f (Ad _ j)
  exact (i.1 f j).1 (.inl (by rw[c]; rfl)) a l h
theorem At.pack{v:V}{d:Ae}{N:List Addr}{C:Hp}{top:Md}(h:At K c X n (S++(As++T)) H)(s:Nt H C)(J:∀a∈N,H a=none)(D:N.Nodup)(o:(top=.tp/\N.length=1)\/(top=.sh/\N=[]))(r:RdF K C v d (N++As.flatMap Ent.F)):At K c X n (S++⟨some v,.dat (pkMd top (As.map Ent.x)) d,N++As.flatMap Ent.F⟩::T) C:=by
 have P:(S++(As++T)).Perm (As++(S++T)):=by
  rw[<- Bh,<- Bh]
  exact Eh.append_right T
 have y:=h.perm P
 have I:=Bu.mp y.sep
 have u:=(h.dropL).grow (n':=n) s (Aj _)
 have B:∀a∈N,∀f∈As++(S++T),a∉f.F:=λa i f p=>y.free (J a i) f p
 have j:∀a∈N,a∉As.flatMap Ent.F:=λa i z=>by
  obtain ⟨f,p,z⟩:=Cb.mp z
  exact B a i f (Ah _ p) z
 have M:∀a∈cells ⟨some v,.dat (pkMd top (As.map Ent.x)) d,N++As.flatMap Ent.F⟩,a∈N\/(allOw (As.map Ent.x)=true/\∃f∈As,a∈cells f):=λa i=>by
  unfold pkMd at i
  by_cases k:allOw (As.map Ent.x)=true
  ·rw[if_pos k] at i
   rcases Am.mp i with z | z
   ·exact .inl z
   ·obtain ⟨f,p,z⟩:=Cb.mp z
    obtain ⟨L,m⟩:=Qo k f p
    refine .inr ⟨k,f,p,?_⟩
    unfold cells
    rw[m]
    exact z
  ·rw[if_neg k] at i
   by_cases w:noPk (As.map Ent.x)=true
   ·rw[if_pos w] at i
    rcases o with ⟨rfl,u⟩ | ⟨rfl,rfl⟩
    ·match N,u,i with
     | [b],_,i=>exact .inl i
    ·exact nomatch i
   ·rw[if_neg w] at i
    exact nomatch i
 refine (u.push (e:=⟨some v,.dat (pkMd top (As.map Ent.x)) d,N++As.flatMap Ent.F⟩) ⟨_,rfl,r,λz=>?_,λz a l e=>?_⟩ (λf p=>?_) λa i=>?_).tomid
 ·have k:allOw (As.map Ent.x)=true:=by
   unfold pkMd at z
   by_cases k:allOw (As.map Ent.x)=true
   ·exact k
   ·rw[if_neg k] at z
    split at z
    ·rcases o with ⟨rfl,_⟩ | ⟨rfl,_⟩ <;> cases z
    ·cases z
  refine Ec.mpr ⟨D,bL (Qo k) (λe O=>y.ok e (Ah _ O)) I.1,λa i b R e=>?_⟩
  subst e
  exact j a i R
 ·have Q:top=.tp:=by
   unfold pkMd at z
   split at z
   ·cases z
   ·split at z
    ·exact z
    ·cases z
  subst Q
  rcases o with ⟨_,u⟩ | ⟨u,_⟩
  ·match N,u,e,j with
   | [b],_,e,j =>
    cases e
    exact j a Aa
  ·cases u
 ·have A:f∈As++(S++T):=Af _ p
  refine ⟨λhq a i z=>?_,λhq a i z=>?_⟩
  ·rcases M a i with E | ⟨_,g,t,G⟩
   ·exact B a E f A z
   ·refine (I.2.2 g t f p).1 ?_ a G z
    rcases hq with hq | hq
    ·exact .inl hq
    ·cases hq
  ·rcases Am.mp z with z | z
   ·exact B a z f A (Gu _ _ i)
   ·obtain ⟨g,t,z⟩:=Cb.mp z
    refine (I.2.2 g t f p).2 ?_ a i z
    rcases hq with hq | hq
    ·refine .inl ?_
     have q:Nw (.dat (pkMd top (As.map Ent.x)) d)=false:=hq
     unfold pkMd at q
     by_cases k:allOw (As.map Ent.x)=true
     ·obtain ⟨L,m⟩:=Qo k g t
      rw[m]
      rfl
     ·rw[if_neg k] at q
      by_cases w:noPk (As.map Ent.x)=true
      ·exact nU w g t
      ·rw[if_neg w] at q
       cases q
    ·exact .inr hq
 ·rcases M a i with E | ⟨_,g,t,G⟩
  ·exact .inl (y.new0 (J a E))
  ·rcases y.new g (Ah _ t) a G with z | z
   ·exact .inl z
   ·obtain ⟨L,m⟩:=Qo (by assumption) g t
    rw[m] at z
    cases z.2
end
def GW(e:DA):DE:=λd P=>e d λb a=>match datas b with
 | some c=>c.length<=1000/\P (.dat (pkMd .sh b) (.tuple c)) a
 | none=>False
def GN(e:DA):DE:=λd P=>e d λb a=>match datas b with
 | some c=>c.length<=1000/\P (.dat (pkMd .tp b) (.list c)) a
 | none=>False
section
variable{X:Cx}{es:List Expr}{b:DA}{pos:Pos}
theorem Mn{x1}(h:oZ X es b):Fi X (.Tuple es x1 pos) (GW b):=by
 refine PE.imp (sD h) λF H Q h=>?_
 obtain ⟨s,Y,S,T,o,P,rfl,w,l,u,k⟩:=h
 refine ⟨s,Y,S,T,o,_,rfl,w,l,u,λj c C i A D n x m g a p=>?_⟩
 cases q:datas j with
 | none=>rw[q] at p; exact p.elim
 | some B =>
  rw[q] at p
  subst m
  have r:=Wv g q λe f=>a.ok e (Af _ (Ah _ f))
  have E:=r.len
  have y:B.length<=Bc:=sz p.1
  refine ⟨by omega,λt v=>?_⟩
  have d:=Fj v (.tup i)
  exact k _ c _ _ A _ n x (a.pack (N:=[]) d (λ_ z=>nomatch z) Dl (.inr ⟨rfl,rfl⟩) (.tup Di y (r.kp (Kp.of d)))) p.2
theorem Ib(h:oZ X es b):Fi X (.List es pos) (GN b):=by
 refine PE.imp (rS h) λG H Q h=>?_
 obtain ⟨v,Y,S,T,u,P,rfl,x,n,w,k⟩:=h
 refine ⟨v,Y,S,T,u,_,rfl,x,n,w,λm d D l B E s y o j c p=>?_⟩
 cases q:datas m with
 | none=>rw[q] at p; exact p.elim
 | some C =>
  rw[q] at p
  subst o
  have r:=Wv j q λe i=>c.ok e (Af _ (Ah _ i))
  have F:=r.len
  have A:C.length<=Bc:=sz p.1
  refine ⟨by omega,λt f=>?_⟩
  have g:=Fj f (.lst l)
  exact k _ d _ _ B _ s y (c.pack (N:=[t]) g (λa z=>by rw[Ac.mp z]; exact f) (Bp.mpr ⟨Bf,Dl⟩) (.inl ⟨rfl,rfl⟩) (.lst Di A (r.kp (Kp.of g)))) p.2
end
end DL
namespace Nd
open PySem PySem.Spec PyProof.Rows L2
section
variable{X:Cx}
def Z8:V->Option Int->Option Int->Hp->VK->Prop:=λx lo d H Q=>∃a c,x=.ref a/\H a=some (.tup c)/\∀p b,b p=some (.tup (bK c lo d))->Nt H b->Q (.ref p) b
theorem M4:EH X Z8:=by
 intro e s z H x v w u lo i t Q I o n k l h
 obtain ⟨a,b,rfl,c,q⟩:=h
 have j:Tz X.K H a b:=Tz.of c
 cases o
 by_cases f:HT.sIx b.length 0 lo=0/\HT.sIx b.length b.length i=b.length
 ·obtain ⟨g,r,m,A⟩:=I.tuple j
  have d:g.toArray.size=b.length:=by rw[Au]; exact r.length.symm
  refine ⟨"tuple",_,Fg.lookup,m.typeIs,?_⟩
  refine Ua m n k l (by rw[d]; exact f) ⟨.ref a,H,I,rfl,q a H ?_ (Nt.refl _)⟩
  unfold bK
  rw[f.1,f.2,Ju,aM,Ea]
  exact c
 ·exact CW e s z H (.ref a) (.ref a) w u lo i t Q I rfl n k l ⟨a,b,rfl,j,f,λp y=>q p _ Di (Fj y _)⟩
end
end Nd
namespace Ts
open PySem PyProof.Rows
def Tg:Bool->Keyed->Array Keyed->Nat->Nat->Nat->StateT Bx Sem (Option Nat):=sortPriv% PySem.Builtin.gallop
structure Cmp(prog:Bq)(w:World)(A:Df)(s:Al)(kd:Mk)(Ok:Keyed->Prop)(blt:Keyed->Keyed->Bool):Prop where
 run:∀(x y:Keyed) (Q:Bool->Al->Prop) (E:Value->Al->Prop),Ok x->Ok y->Q (blt x y) s->wpAny (model prog w) A (keyLt' kd x.1 y.1) Q E s
 irr:∀x,blt x x=false
 tr:∀x y z,blt x y=true->blt y z=true->blt x z=true
 neg:∀x y z,blt x z=true->blt x y=true\/blt y z=true
def le(blt:Keyed->Keyed->Bool)(x y:Keyed):Prop:=blt y x=false
section
variable{prog:Bq}{w:World}{A:Df}{s:Al}{d:Mk}{Ok:Keyed->Prop}{blt:Keyed->Keyed->Bool}
theorem Cmp.refl(C:Cmp prog w A s d Ok blt)(x:Keyed):le blt x x:=C.irr x
theorem Cmp.ofLt(C:Cmp prog w A s d Ok blt){x y:Keyed}(h:blt x y=true):le blt x y:=by
 unfold le
 cases q:blt y x with
 | false=>rfl
 | true=>have:=C.tr _ _ _ h q; rw[C.irr] at this; cases this
theorem Cmp.trans(C:Cmp prog w A s d Ok blt){x y z:Keyed}(h1:le blt x y)(a:le blt y z):le blt x z:=by
 unfold le at *
 cases q:blt z x with
 | false=>rfl
 | true =>
  rcases C.neg _ y _ q with h | h
  ·rw[a] at h; cases h
  ·rw[h1] at h; cases h
theorem Cmp.ltLe(C:Cmp prog w A s d Ok blt){x y z:Keyed}(h1:blt x y=true)(a:le blt y z):blt x z=true:=by
 unfold le at a
 rcases C.neg _ z _ h1 with h | h
 ·exact h
 ·rw[a] at h; cases h
theorem Cmp.leLt(C:Cmp prog w A s d Ok blt){x y z:Keyed}(h1:le blt x y)(a:blt y z=true):blt x z=true:=by
 unfold le at h1
 rcases C.neg _ x _ a with h | h
 ·rw[h1] at h; cases h
 ·exact h
variable{E:Value->Al->Prop}
structure Kept(st st':Bx):Prop where
 kind:kindOf st'=kindOf st
 arr:arrOf st'=arrOf st
 pend:Bg st'=Bg st
 fail:Mj st'=Mj st
theorem Kept.refl(st:Bx):Kept st st:=⟨rfl,rfl,rfl,rfl⟩
theorem Kept.trans{a b c:Bx}(h:Kept a b)(k:Kept b c):Kept a c:=⟨k.kind.trans h.kind,k.arr.trans h.arr,k.pend.trans h.pend,k.fail.trans h.fail⟩
theorem mG(C:Cmp prog w A s d Ok blt){st:Bx}{x y:Keyed}{Q:Option Bool->Bx->Prop}(a:kindOf st=d)(b:Ok x)(c:Ok y)(h:Q (some (blt x y)) st):wpS (model prog w) A E s (lt' x y) Q st:=by
 rw[lt'_eq]
 refine Az (Nk ?_)
 rw[a]
 exact Az (wpS_lift (wpAny_attempt (C.run x y _ _ b c ⟨rfl,Bk h⟩)))
theorem Gq{st:Bx}{xs:Array Keyed}{i:Nat}{p:Keyed}{Q:Keyed->Bx->Prop}(h:xs[i]? = some p)(q:Q p st):wpS (model prog w) A E s (elem' xs i) Q st:=by
 rw[elem'_eq,h]
 exact Bk q
def Td(left:Bool)(a:Keyed)(b:Array Keyed)(base i:Nat):StateT Bx Sem (Option Bool):=do
 let x <- elem' b (base+i)
 if left then lt' x a else return (<- lt' a x).map (!·)
def vC(left:Bool)(c:Keyed)(d:Array Keyed)(base n b a:Nat):StateT Bx Sem (Option Nat):=do
 let mut lo:=b
 let mut hi:=a
 for _ in [0:n] do
  if lo ≥ hi then break
  let mid:=lo+(hi - lo) / 2
  let some up <- Td left c d base mid | return none
  if up then lo:=mid+1 else hi:=mid
 return some hi
theorem pH(left:Bool)(a:Keyed)(b:Array Keyed)(base n hint:Nat):Tg left a b base n hint=(do
  let some right <- Td left a b base hint | return none
  let mut last:=0
  let mut ofs:=1
  if right then
   let top:=n - hint
   for _ in [0:n] do
    if ofs ≥ top then break
    let some up <- Td left a b base (hint+ofs) | return none
    if !up then break
    last:=ofs
    ofs:=2 * ofs+1
   vC left a b base n (hint+last+1) (hint+min ofs top)
  else
   let top:=hint+1
   for _ in [0:n] do
    if ofs ≥ top then break
    let some got <- Td left a b base (hint - ofs) | return none
    if got then break
    last:=ofs
    ofs:=2 * ofs+1
   vC left a b base n (hint+1 - min ofs top) (hint - last)):=rfl
def Ia(blt:Keyed->Keyed->Bool)(left:Bool)(a x:Keyed):Bool:=if left then blt x a else !blt a x
structure Row(Ok:Keyed->Prop)(arr:Array Keyed)(base n:Nat)(el:Nat->Keyed):Prop where
 at_:∀i,i<n->arr[base+i]? = some (el i)
 ok:∀i,i<n->Ok (el i)
theorem Tj(C:Cmp prog w A s d Ok blt){st:Bx}{left:Bool}{a:Keyed}{b:Array Keyed}{base n i:Nat}{e:Nat->Keyed}(R:Row Ok b base n e)(ok:Ok a)(f:kindOf st=d)(c:i<n){Q:Option Bool->Bx->Prop}(h:Q (some (Ia blt left a (e i))) st):wpS (model prog w) A E s (Td left a b base i) Q st:=by
 unfold Td
 refine Az (Gq (R.at_ i c) ?_)
 cases left with
 | true =>
  rw[if_pos rfl]
  exact mG C f (R.ok i c) ok h
 | false =>
  rw[if_neg Cg]
  exact Az (mG C f ok (R.ok i c) (Bk h))
theorem vE(C:Cmp prog w A s d Ok blt){st:Bx}{left:Bool}{a:Keyed}{v:Array Keyed}{base n lo g:Nat}{b:Nat->Keyed}(R:Row Ok v base n b)(ok:Ok a)(F:kindOf st=d)(mono:∀i j,i<=j->j<n->Ia blt left a (b j)=true->Ia blt left a (b i)=true)(h1:lo<=g)(K:g<=n)(H:∀i,i<lo->Ia blt left a (b i)=true)(G:∀i,g<=i->i<n->Ia blt left a (b i)=false){Q:Option Nat->Bx->Prop}(h:∀k,k<=n->(∀i,i<k->Ia blt left a (b i)=true)->(∀i,k<=i->i<n->Ia blt left a (b i)=false)->Q (some k) st):wpS (model prog w) A E s (vC left a v base n lo g) Q st:=by
 unfold vC
 refine Az (Ij (Fb (I:=λx c f=>∃l r,c=(none,l,r)/\f=st/\l<=r/\r<=n/\r - l+x<=n/\(∀i,i<l->Ia blt left a (b i)=true)/\(∀i,r<=i->i<n->Ia blt left a (b i)=false))
  (Q:=λc f=>∃r,c=(none,r,r)/\f=st/\r<=n/\(∀i,i<r->Ia blt left a (b i)=true)/\(∀i,r<=i->i<n->Ia blt left a (b i)=false)) ?_ ?_ ⟨lo,g,rfl,rfl,h1,K,by omega,H,G⟩) ?_)
 ·(intro x c f _ L u; obtain ⟨l,r,rfl,rfl,D,m,z,p,o⟩ := u)
  dsimp only
  by_cases t:l ≥ r
  ·rw[if_pos t]
   have e:l=r:=by omega
   subst e
   exact Bk ⟨l,rfl,rfl,m,p,o⟩
  ·rw[if_neg t]
   have B:l+(r - l) / 2<n:=by omega
   refine Az (Tj C R ok F B ?_)
   dsimp only
   cases y:Ia blt left a (b (l+(r - l) / 2)) with
   | true =>
    rw[if_pos rfl]
    exact Bk ⟨l+(r - l) / 2+1,r,rfl,rfl,by omega,m,by omega,λi g=>mono i _ (by omega) B y,o⟩
   | false =>
    rw[if_neg Cg]
    refine Bk ⟨l,l+(r - l) / 2,rfl,rfl,by omega,by omega,by omega,p,λi g J=>?_⟩
    cases q:Ia blt left a (b i) with
    | false=>rfl
    | true=>rw[mono _ i g J q] at y; cases y
 ·(intro c f u; obtain ⟨l,r,rfl,rfl,D,m,z,p,o⟩ := u)
  have e:l=r:=by
   have : max 0 n=n:=by omega
   rw[this] at z
   omega
  subst e
  exact ⟨l,rfl,rfl,m,p,o⟩
 ·(intro c f u; obtain ⟨r,rfl,rfl,m,p,o⟩ := u)
  exact Bk (h r m p o)
theorem Of(C:Cmp prog w A s d Ok blt){st:Bx}{left:Bool}{a:Keyed}{F:Array Keyed}{base n hint:Nat}{f:Nat->Keyed}(R:Row Ok F base n f)(ok:Ok a)(B:kindOf st=d)(N:hint<n)(mono:∀i j,i<=j->j<n->Ia blt left a (f j)=true->Ia blt left a (f i)=true){Q:Option Nat->Bx->Prop}(h:∀k,k<=n->(∀i,i<k->Ia blt left a (f i)=true)->(∀i,k<=i->i<n->Ia blt left a (f i)=false)->Q (some k) st):wpS (model prog w) A E s (Tg left a F base n hint) Q st:=by
 have t:∀i j,i<=j->j<n->Ia blt left a (f i)=false->Ia blt left a (f j)=false:=λi j H O q=>by
  cases z:Ia blt left a (f j) with
  | false=>rfl
  | true=>rw[mono i j H O z] at q; cases q
 rw[pH]
 refine Az (Tj C R ok B N ?_)
 dsimp only
 cases L:Ia blt left a (f hint) with
 | true =>
  rw[if_pos rfl]
  refine Az (Ij (Fb (I:=λx c e=>∃b o,c=(none,b,o)/\e=st/\b<o/\x+1<=o/\hint+b<n/\Ia blt left a (f (hint+b))=true)
   (Q:=λc e=>∃b o,c=(none,b,o)/\e=st/\b<o/\hint+b<n/\Ia blt left a (f (hint+b))=true/\(o ≥ n - hint\/(hint+o<n/\Ia blt left a (f (hint+o))=false))) ?_ ?_
   ⟨0,1,rfl,rfl,by omega,by omega,by omega,L⟩) ?_)
  ·(intro x c e _ M r; obtain ⟨b,o,rfl,rfl,p,y,l,g⟩ := r)
   dsimp only
   by_cases v:o ≥ n - hint
   ·rw[if_pos v]
    exact Bk ⟨b,o,rfl,rfl,p,l,g,.inl v⟩
   ·rw[if_neg v]
    have D:hint+o<n:=by omega
    refine Az (Tj C R ok B D ?_)
    dsimp only
    cases m:Ia blt left a (f (hint+o)) with
    | true =>
     simp only[Mc,Bw,if_false]
     exact Bk ⟨o,2 * o+1,rfl,rfl,by omega,by omega,D,m⟩
    | false =>
     simp only[Bool.not_false,if_true]
     exact Bk ⟨b,o,rfl,rfl,p,l,g,.inr ⟨D,m⟩⟩
  ·(intro c e r; obtain ⟨b,o,rfl,rfl,p,y,l,g⟩ := r)
   have : max 0 n=n:=by omega
   rw[this] at y
   exact ⟨b,o,rfl,rfl,p,l,g,.inl (by omega)⟩
  ·(intro c e r; obtain ⟨b,o,rfl,rfl,p,l,g,u⟩ := r)
   dsimp only
   refine vE C R ok B mono (by omega) (by omega) (λi G=>mono i _ (by omega) l g) (λi G K=>?_) h
   rcases u with u | ⟨u,J⟩
   ·exfalso; omega
   ·exact t _ i (by omega) K J
 | false =>
  rw[if_neg Cg]
  refine Az (Ij (Fb (I:=λx c e=>∃b o,c=(none,b,o)/\e=st/\b<o/\x+1<=o/\b<=hint/\Ia blt left a (f (hint - b))=false)
   (Q:=λc e=>∃b o,c=(none,b,o)/\e=st/\b<o/\b<=hint/\Ia blt left a (f (hint - b))=false/\(o ≥ hint+1\/(o<=hint/\Ia blt left a (f (hint - o))=true))) ?_ ?_
   ⟨0,1,rfl,rfl,by omega,by omega,by omega,L⟩) ?_)
  ·(intro x c e _ M r; obtain ⟨b,o,rfl,rfl,p,y,l,g⟩ := r)
   dsimp only
   by_cases v:o ≥ hint+1
   ·rw[if_pos v]
    exact Bk ⟨b,o,rfl,rfl,p,l,g,.inl v⟩
   ·rw[if_neg v]
    have D:hint - o<n:=by omega
    refine Az (Tj C R ok B D ?_)
    dsimp only
    cases m:Ia blt left a (f (hint - o)) with
    | true =>
     rw[if_pos rfl]
     exact Bk ⟨b,o,rfl,rfl,p,l,g,.inr ⟨by omega,m⟩⟩
    | false =>
     rw[if_neg Cg]
     exact Bk ⟨o,2 * o+1,rfl,rfl,by omega,by omega,by omega,m⟩
  ·(intro c e r; obtain ⟨b,o,rfl,rfl,p,y,l,g⟩ := r)
   have : max 0 n=n:=by omega
   rw[this] at y
   exact ⟨b,o,rfl,rfl,p,l,g,.inl (by omega)⟩
  ·(intro c e r; obtain ⟨b,o,rfl,rfl,p,l,g,u⟩ := r)
   dsimp only
   refine vE C R ok B mono (by omega) (by omega) (λi G=>?_) (λi G K=>t _ i G K g) h
   rcases u with u | ⟨u,J⟩
   ·exfalso; omega
   ·exact mono i _ (by omega) (by omega) J
end
structure MI{α:Type}(R:α->α->Prop)(xs ys out:List α)(i j:Nat):Prop where
 perm:out.Perm (xs.take i++ys.take j)
 srt:out.Pairwise R
 lx:∀o∈out,∀z∈xs.drop i,R o z
 ly:∀o∈out,∀z∈ys.drop j,R o z
section
variable{c:Type}{R:c->c->Prop}{xs ys out:List c}{i j:Nat}
theorem gL{l:List c}{n:Nat}{a:c}(h:l[n]? = some a):l.drop n=a::l.drop (n+1):=by
 obtain ⟨b,e⟩:=Ak.mp h
 rw[Ja b,e]
theorem take_snoc{l:List c}{n:Nat}{a:c}(h:l[n]? = some a):l.take (n+1)=l.take n++[a]:=by
 rw[List.take_succ,h]; rfl
theorem MI.pushY(M:MI R xs ys out i j)(h:ys.Pairwise R){y:c}(d:ys[j]? = some y)(g:∀z∈xs.drop i,R y z):MI R xs ys (out++[y]) i (j+1):=by
 have b:=gL d
 have f:(y::ys.drop (j+1)).Pairwise R:=by rw[<- b]; exact Jp (Hz _ _) h
 obtain ⟨k,l⟩:=Ay.mp f
 refine ⟨?_,?_,λo ho z a=>?_,λo ho z a=>?_⟩
 ·rw[take_snoc d,<- Bh]
  exact M.perm.append_right _
 ·refine Bu.mpr ⟨M.srt,Ct _ _,λo ho z a=>?_⟩
  have e:z=y:=by simpa using a
  rw[e]
  exact M.ly o ho y (by rw[b]; exact Aa)
 ·rcases Am.mp ho with ho | ho
  ·exact M.lx o ho z a
  ·have e:o=y:=by simpa using ho
   rw[e]; exact g z a
 ·rcases Am.mp ho with ho | ho
  ·exact M.ly o ho z (by rw[b]; exact Ad _ a)
  ·have e:o=y:=by simpa using ho
   rw[e]; exact k z a
theorem MI.pushX(M:MI R xs ys out i j)(l:xs.Pairwise R){x:c}(d:xs[i]? = some x)(f:∀z∈ys.drop j,R x z):MI R xs ys (out++[x]) (i+1) j:=by
 have b:=gL d
 have g:(x::xs.drop (i+1)).Pairwise R:=by rw[<- b]; exact Jp (Hz _ _) l
 obtain ⟨h,m⟩:=Ay.mp g
 refine ⟨?_,?_,λo ho z a=>?_,λo ho z a=>?_⟩
 ·rw[take_snoc d]
  have k:(out++[x]).Perm ((xs.take i++ys.take j)++[x]):=M.perm.append_right _
  refine k.trans ?_
  rw[Bh,Bh]
  exact Ka _ Eh
 ·refine Bu.mpr ⟨M.srt,Ct _ _,λo ho z a=>?_⟩
  have e:z=x:=by simpa using a
  rw[e]
  exact M.lx o ho x (by rw[b]; exact Aa)
 ·rcases Am.mp ho with ho | ho
  ·exact M.lx o ho z (by rw[b]; exact Ad _ a)
  ·have e:o=x:=by simpa using ho
   rw[e]; exact h z a
 ·rcases Am.mp ho with ho | ho
  ·exact M.ly o ho z a
  ·have e:o=x:=by simpa using ho
   rw[e]; exact f z a
theorem Rx{l:List c}{n k:Nat}{a:c}(h:l[n+k]? = some a):(l.drop n).take (k+1)=(l.drop n).take k++[a]:=take_snoc (by rw[Yn]; exact h)
theorem MI.blockX(M:MI R xs ys out i j)(b:xs.Pairwise R):∀k,i+k<=xs.length->(∀m,m<k->∀x,xs[i+m]? = some x->∀z∈ys.drop j,R x z)->MI R xs ys (out++(xs.drop i).take k) (i+k) j
 | 0,_,_=>by simpa using M
 | k+1,hk,h=>by
  have c:=MI.blockX M b k (by omega) λm d=>h m (by omega)
  obtain ⟨x,a⟩ : ∃x,xs[i+k]? = some x:=⟨xs[i+k],by simp⟩
  rw[Rx a,<- Bh]
  exact c.pushX b a (h k (by omega) x a)
theorem MI.blockY(M:MI R xs ys out i j)(b:ys.Pairwise R):∀k,j+k<=ys.length->(∀m,m<k->∀y,ys[j+m]? = some y->∀z∈xs.drop i,R y z)->MI R xs ys (out++(ys.drop j).take k) i (j+k)
 | 0,_,_=>by simpa using M
 | k+1,hk,h=>by
  have c:=MI.blockY M b k (by omega) λm d=>h m (by omega)
  obtain ⟨y,a⟩ : ∃y,ys[j+k]? = some y:=⟨ys[j+k],by simp⟩
  rw[Rx a,<- Bh]
  exact c.pushY b a (h k (by omega) y a)
theorem MI.endX(M:MI R xs ys out i j)(c:xs.Pairwise R)(a:ys.length<=j):(out++xs.drop i++ys.drop j).Perm (xs++ys)/\(out++xs.drop i++ys.drop j).Pairwise R:=by
 rw[sJ a,Dd]
 constructor
 ·have b:(out++xs.drop i).Perm ((xs.take i++ys.take j)++xs.drop i):=M.perm.append_right _
  refine b.trans ?_
  rw[Ex a]
  have d:(xs.take i++ys++xs.drop i).Perm (xs.take i++(xs.drop i++ys)):=by
   rw[Bh]
   exact Ka _ Eh
  refine d.trans ?_
  rw[<- Bh,Dv]
 ·exact Bu.mpr ⟨M.srt,Jp (Hz _ _) c,M.lx⟩
theorem MI.endYX(M:MI R xs ys out i j)(f:xs.Pairwise R)(d:ys.Pairwise R)(h:∀y∈ys.drop j,∀x∈xs.drop i,R y x):(out++ys.drop j++xs.drop i).Perm (xs++ys)/\(out++ys.drop j++xs.drop i).Pairwise R:=by
 constructor
 ·have e:(out++(ys.drop j++xs.drop i)).Perm ((xs.take i++ys.take j)++(ys.drop j++xs.drop i)):=M.perm.append_right _
  rw[Bh]
  refine e.trans ?_
  rw[Bh,<- Bh (ys.take j),Dv]
  have g:(xs.take i++(ys++xs.drop i)).Perm (xs.take i++(xs.drop i++ys)):=Ka _ Eh
  refine g.trans ?_
  rw[<- Bh,Dv]
 ·refine Bu.mpr ⟨Bu.mpr ⟨M.srt,Jp (Hz _ _) d,M.ly⟩,Jp (Hz _ _) f,λa ha b c=>?_⟩
  rcases Am.mp ha with ha | ha
  ·exact M.lx a ha b c
  ·exact h a ha b c
end
def mQ:Array Keyed->Array Keyed->StateT Bx Sem (Array Keyed):=sortPriv% PySem.Builtin.mergeLo
def aI:Nat->StateT Bx Sem Unit:=sortPriv% PySem.Builtin.setMinGallop
abbrev BJ(st:Bx)(g:Nat):Bx:=SortSt.mk' (kindOf st) (arrOf st) (Bg st) g (Mj st)
theorem rF(g:Nat):aI g=modify λst=>BJ st g:=rfl
theorem aE(p:Array Keyed)(i:Nat):(p.extract i p.size).toList=p.toList.drop i:=by
 rw[Nr,Ls,Ex]
 rw[Ih,An]
 exact Aj _
theorem Wf(p:Array Keyed)(i k:Nat):(p.extract i (i+k)).toList=(p.toList.drop i).take k:=by
 rw[Nr,Ls,Nat.add_sub_cancel_left]
abbrev dn(p q out:Array Keyed)(i j:Nat):Array Keyed:=out++p.extract i p.size++q.extract j q.size
abbrev lst(p q out:Array Keyed)(i j:Nat):Array Keyed:=out++q.extract j q.size++p.extract i p.size
theorem O3(p q out:Array Keyed)(i j:Nat):(dn p q out i j).toList=out.toList++p.toList.drop i++q.toList.drop j:=by
 rw[Dy,Dy,aE,aE]
theorem A7(p q out:Array Keyed)(i j:Nat):(lst p q out i j).toList=out.toList++q.toList.drop j++p.toList.drop i:=by
 rw[Dy,Dy,aE,aE]
abbrev M8:=Option (Array Keyed)×Array Keyed×Nat×Nat×Nat×Nat×Nat
def L9(p q out:Array Keyed)(i j g a k:Nat):StateT Bx Sem (ForInStep M8):=do
 let x <- elem' p i
 if (i+1+1 == p.size)=true then pure (Cz (some (lst p q (out.push x) (i+1) j),out.push x,i+1,j,g,a,k))
 else if (decide (a<7) && decide (k<7))=true then pure (Cz (none,out.push x,i+1,j,g,a,k))
 else pure (Fl (none,out.push x,i+1,j,g,a,k))
def U4(p q out:Array Keyed)(i j g a b:Nat):StateT Bx Sem (ForInStep M8):=do
 let y <- elem' q j
 if (j+1 == q.size)=true then pure (Cz (some (dn p q (out.push y) i (j+1)),out.push y,i,j+1,g,a,b))
 else do
  let x <- elem' p i
  let some k <- Tg true x q (j+1) (q.size - (j+1)) 0 | pure (Cz (some (dn p q (out.push y) i (j+1)),out.push y,i,j+1,g,a,b))
  if k > 0 then
   if (j+1+k == q.size)=true then pure (Cz (some (dn p q (out.push y++q.extract (j+1) (j+1+k)) i (j+1+k)),out.push y++q.extract (j+1) (j+1+k),i,j+1+k,g,a,k))
   else L9 p q (out.push y++q.extract (j+1) (j+1+k)) i (j+1+k) g a k
  else L9 p q (out.push y) i (j+1) g a k
def BR(p q out:Array Keyed)(i j g b a:Nat):StateT Bx Sem (ForInStep M8):=do
 aI g
 let y <- elem' q j
 let some k <- Tg false y p i (p.size - i) 0 | pure (Cz (some (dn p q out i j),out,i,j,g,b,a))
 if k > 0 then
  if (i+k+1 == p.size)=true then pure (Cz (some (lst p q (out++p.extract i (i+k)) (i+k) j),out++p.extract i (i+k),i+k,j,g,k,a))
  else if (i+k == p.size)=true then pure (Cz (some (dn p q (out++p.extract i (i+k)) (i+k) j),out++p.extract i (i+k),i+k,j,g,k,a))
  else U4 p q (out++p.extract i (i+k)) (i+k) j g k a
 else U4 p q out i j g k a
section
variable{prog:Bq}{w:World}{A:Df}{s:Al}{d:Mk}{Ok:Keyed->Prop}{blt:Keyed->Keyed->Bool}{E:Value->Al->Prop}
theorem Tt{st:Bx}{x:String}{Q:Unit->Bx->Prop}(h:Q () st):wpS (model prog w) A E s (liftM (rule x):StateT Bx Sem Unit) Q st:=wpS_lift (Vo ⟨rfl,h⟩)
theorem Tn{st:Bx}{g:Nat}{Q:Unit->Bx->Prop}(h:∀a,Kept st a->Q () a):wpS (model prog w) A E s (aI g) Q st:=by
 rw[rF]
 exact Kr (h _ ⟨rfl,rfl,rfl,rfl⟩)
structure Two(Ok:Keyed->Prop)(blt:Keyed->Keyed->Bool)(p q:Array Keyed)(x0 y0 xl:Keyed):Prop where
 op:∀x∈p.toList,Ok x
 oq:∀x∈q.toList,Ok x
 sp:p.toList.Pairwise (le blt)
 sq:q.toList.Pairwise (le blt)
 hx0:p[0]? = some x0
 hy0:q[0]? = some y0
 hxl:p[p.size - 1]? = some xl
 first:blt y0 x0=true
 last:∀y∈q.toList,blt y xl=true
abbrev rY(blt:Keyed->Keyed->Bool)(p q r:Array Keyed):Prop:=r.toList.Perm (p.toList++q.toList)/\r.toList.Pairwise (le blt)
theorem Ey{p:Array Keyed}{i:Nat}{x:Keyed}(h:p[i]? = some x):p.toList[i]? = some x:=by simpa using h
theorem Gw{p:Array Keyed}{i:Nat}(h:i<p.size):∃x,p[i]? = some x:=⟨p[i],by simp [h]⟩
theorem Kk{p:Array Keyed}{i:Nat}{x:Keyed}(h:p[i]? = some x):x∈p.toList:=Aq (Ey h)
theorem nA{a:Type}{l:List a}{i:Nat}{z:a}(h:z∈l.drop i):∃k,l[i+k]? = some z:=by
 obtain ⟨k,b,e⟩:=Ht.mp h
 exact ⟨k,by rw[<- Yn,Bj b,e]⟩
theorem Lx(C:Cmp prog w A s d Ok blt){l:List Keyed}(h:l.Pairwise (le blt)){i j:Nat}{x y:Keyed}(m:i<=j)(b:l[i]? = some x)(a:l[j]? = some y):le blt x y:=by
 by_cases e:i=j
 ·subst e
  rw[b] at a
  cases a
  exact C.refl x
 ·obtain ⟨f,k⟩:=Ak.mp b
  obtain ⟨g,c⟩:=Ak.mp a
  have:=Ew.mp h i j f g (by omega)
  rw[k,c] at this
  exact this
theorem Pi(C:Cmp prog w A s d Ok blt){l:List Keyed}(c:l.Pairwise (le blt)){i:Nat}{x y:Keyed}(a:l[i]? = some x)(h:le blt y x):∀z∈l.drop i,le blt y z:=λz b=>by
 obtain ⟨k,e⟩:=nA b
 exact C.trans h (Lx C c (Rw i k) a e)
abbrev LI(blt:Keyed->Keyed->Bool)(p q out:Array Keyed)(i j:Nat):Prop:=MI (le blt) p.toList q.toList out.toList i j
theorem Od(out:Array Keyed)(x:Keyed):(out.push x).toList=out.toList++[x]:=by simp
theorem Two.last_end(C:Cmp prog w A s d Ok blt){p q out:Array Keyed}{l g b:Keyed}(T:Two Ok blt p q l g b){i j:Nat}(M:LI blt p q out i j)(m:i+1=p.size):rY blt p q (lst p q out i j):=by
 have h:=M.endYX T.sp T.sq (λy c x f=>?_)
 ·rw[<- A7] at h
  exact h
 ·obtain ⟨k,a⟩:=nA f
  have : k=0:=by
   have:=(Ak.mp a).1
   rw[An] at this
   omega
  subst this
  have e:x=b:=by
   have:=Ey T.hxl
   rw[show p.size - 1=i+0 by omega,a] at this
   exact Bl this
  rw[e]
  exact C.ofLt (T.last y (Vj c))
theorem Two.done_end{p q out:Array Keyed}{d c a:Keyed}(T:Two Ok blt p q d c a){i j:Nat}(M:LI blt p q out i j)(b:q.size<=j):rY blt p q (dn p q out i j):=by
 have h:=M.endX T.sp (by rw[An]; exact b)
 rw[<- O3] at h
 exact h
def GP(blt:Keyed->Keyed->Bool)(p q:Array Keyed)(st:Bx)(n:Nat)(r:ForInStep M8)(a:Bx):Prop:=Kept st a/\match r with
 | .done (some r,_)=>rY blt p q r
 | .done (none,out,i,j,_)=>LI blt p q out i j/\i+1<p.size/\j<q.size/\n<i+j
 | .yield (none,out,i,j,_)=>LI blt p q out i j/\i+1<p.size/\j<q.size/\n<i+j
 | .yield (some _,_)=>False
theorem tD(C:Cmp prog w A s d Ok blt){p q out:Array Keyed}{r l m:Keyed}(T:Two Ok blt p q r l m){i j g c k n:Nat}{a st:Bx}(kp:Kept a st)(M:LI blt p q out i j)(t:i+1<p.size)(f:j<q.size)(u:n<=i+j){x:Keyed}(e:p[i]? = some x)(o:∀z∈q.toList.drop j,le blt x z):wpS (model prog w) A E s (L9 p q out i j g c k) (GP blt p q a n) st:=by
 unfold L9
 refine Az (Gq e ?_)
 have M1:LI blt p q (out.push x) (i+1) j:=by
  have:=M.pushX T.sp (Ey e) o
  rw[<- Od] at this
  exact this
 by_cases b:i+1+1=p.size
 ·rw[if_pos (by rw[b]; exact beq_self_eq_true _)]
  exact Bk ⟨kp,T.last_end C M1 b⟩
 ·rw[if_neg (λz=>b (Ed z))]
  by_cases h:(decide (c<7) && decide (k<7))=true
  ·rw[if_pos h]
   exact Bk ⟨kp,M1,by omega,f,by omega⟩
  ·rw[if_neg h]
   exact Bk ⟨kp,M1,by omega,f,by omega⟩
theorem tJ(C:Cmp prog w A s d Ok blt){p q out:Array Keyed}{x0 O xl:Keyed}(T:Two Ok blt p q x0 O xl){i j g Y W n:Nat}{o st:Bx}(kp:Kept o st)(Q:kindOf st=d)(M:LI blt p q out i j)(F:i+1<p.size)(hj:j<q.size)(hn:n<=i+j){x y:Keyed}(f:p[i]? = some x)(G:q[j]? = some y)(u:blt y x=true):wpS (model prog w) A E s (U4 p q out i j g Y W) (GP blt p q o n) st:=by
 unfold U4
 refine Az (Gq G ?_)
 have M1:LI blt p q (out.push y) i (j+1):=by
  have:=M.pushY T.sq (Ey G) (Pi C T.sp (Ey f) (C.ofLt u))
  rw[<- Od] at this
  exact this
 by_cases N:j+1=q.size
 ·rw[if_pos (by rw[N]; exact beq_self_eq_true _)]
  exact Bk ⟨kp,T.done_end M1 (by omega)⟩
 ·rw[if_neg (λz=>N (Ed z))]
  refine Az (Gq f ?_)
  have R:Row Ok q (j+1) (q.size - (j+1)) (λm=>q.getD (j+1+m) y):=⟨λm B=>?_,λm B=>?_⟩
  ·refine Az (Of C R (T.op x (Kk f)) Q (by omega) (λa b U hb J=>?_) λk P S I=>?_)
   ·obtain ⟨t,c⟩:=Gw (p:=q) (i:=j+1+a) (by omega)
    obtain ⟨Z,H⟩:=Gw (p:=q) (i:=j+1+b) (by omega)
    have V:q.getD (j+1+a) y=t:=by simp [Cv,c]
    have gb:q.getD (j+1+b) y=Z:=by simp [Cv,H]
    simp only[V,gb,Ia,if_true] at J ⊢
    exact C.leLt (Lx C T.sq (by omega) (Ey c) (Ey H)) J
   ·dsimp only
    have val:∀m h,q[j+1+m]? = some h->q.getD (j+1+m) y=h:=λm h e=>by simp [Cv,e]
    have M2:LI blt p q (out.push y++q.extract (j+1) (j+1+k)) i (j+1+k):=by
     have:=M1.blockY T.sq k (by rw[An]; omega) (λm B h X=>by
      have v:q[j+1+m]? = some h:=by simpa using X
      have:=S m B
      rw[val m h v] at this
      simp only[Ia,if_true] at this
      exact Pi C T.sp (Ey f) (C.ofLt this))
     rw[<- Wf,<- Dy] at this
     exact this
    by_cases K:k > 0
    ·rw[if_pos K]
     by_cases L:j+1+k=q.size
     ·rw[if_pos (by rw[L]; exact beq_self_eq_true _)]
      exact Bk ⟨kp,T.done_end M2 (by omega)⟩
     ·rw[if_neg (λz=>L (Ed z))]
      obtain ⟨r,l⟩:=Gw (p:=q) (i:=j+1+k) (by omega)
      refine tD C T kp M2 F (by omega) (by omega) f (Pi C T.sq (Ey l) ?_)
      have:=I k (Aj _) (by omega)
      rw[val k r l] at this
      have z:blt r x=false:=by simpa only [Ia,if_true] using this
      exact z
    ·rw[if_neg K]
     have D:k=0:=by omega
     subst D
     obtain ⟨r,l⟩:=Gw (p:=q) (i:=j+1) (by omega)
     refine tD C T kp M1 F (by omega) (by omega) f (Pi C T.sq (Ey l) ?_)
     have:=I 0 (Aj _) (by omega)
     rw[val 0 r l] at this
     have z:blt r x=false:=by simpa only [Ia,if_true] using this
     exact z
  ·obtain ⟨t,c⟩:=Gw (p:=q) (i:=j+1+m) (by omega)
   rw[c]
   simp [Cv,c]
  ·obtain ⟨t,c⟩:=Gw (p:=q) (i:=j+1+m) (by omega)
   have : q.getD (j+1+m) y=t:=by simp [Cv,c]
   rw[this]
   exact T.oq t (Kk c)
theorem O1(C:Cmp prog w A s d Ok blt){p q out:Array Keyed}{x0 S H:Keyed}(T:Two Ok blt p q x0 S H){i j g ac bc n:Nat}{u st:Bx}(kp:Kept u st)(X:kindOf st=d)(M:LI blt p q out i j)(Q:i+1<p.size)(F:j<q.size)(hn:n<=i+j):wpS (model prog w) A E s (BR p q out i j g ac bc) (GP blt p q u n) st:=by
 unfold BR
 refine Az (Tn λD v=>?_)
 have f:=kp.trans v
 have h:kindOf D=d:=v.kind.trans X
 obtain ⟨y,o⟩:=Gw (p:=q) F
 refine Az (Gq o ?_)
 have val:∀m r,p[i+m]? = some r->p.getD (i+m) y=r:=λm r e=>by simp [Cv,e]
 have R:Row Ok p i (p.size - i) (λm=>p.getD (i+m) y):=⟨λm B=>by
  obtain ⟨l,c⟩:=Gw (p:=p) (i:=i+m) (by omega)
  rw[val m l c,c],λm B=>by
  obtain ⟨l,c⟩:=Gw (p:=p) (i:=i+m) (by omega)
  show Ok (p.getD (i+m) y)
  rw[val m l c]
  exact T.op l (Kk c)⟩
 refine Az (Of C R (T.oq y (Kk o)) h (by omega) (λa b h0 hb L=>?_) λk W N Y=>?_)
 ·obtain ⟨l,c⟩:=Gw (p:=p) (i:=i+a) (by omega)
  obtain ⟨U,K⟩:=Gw (p:=p) (i:=i+b) (by omega)
  simp only[val a l c,val b U K,Ia,Bw,if_false,Kz] at L ⊢
  exact C.trans (Lx C T.sp (by omega) (Ey c) (Ey K)) L
 ·dsimp only
  -- the last one is beyond y: so k does not reach it
  have V:i+k+1<=p.size:=by
   rcases Nat.lt_or_ge (i+k) p.size with z | z
   ·omega
   ·exfalso
    have:=N (p.size - 1 - i) (by omega)
    have e:p[i+(p.size - 1 - i)]? = some H:=by
     rw[show i+(p.size - 1 - i)=p.size - 1 by omega]
     exact T.hxl
    rw[val _ H e] at this
    simp only[Ia,Bw,if_false,T.last y (Kk o),Mc] at this
  have M1:LI blt p q (out++p.extract i (i+k)) (i+k) j:=by
   have:=M.blockX T.sp k (by rw[An]; omega) (λm B r Z=>by
    have G:p[i+m]? = some r:=by simpa using Z
    have:=N m B
    rw[val m r G] at this
    simp only[Ia,Bw,if_false,Kz] at this
    exact Pi C T.sq (Ey o) this)
   rw[<- Wf,<- Dy] at this
   exact this
  obtain ⟨P,x⟩:=Gw (p:=p) (i:=i+k) (by omega)
  have t:blt y P=true:=by
   have:=Y k (Aj _) (by omega)
   rw[val k P x] at this
   simpa only [Ia,Bw,if_false,Yp] using this
  by_cases O:k > 0
  ·rw[if_pos O]
   by_cases I:i+k+1=p.size
   ·rw[if_pos (by rw[I]; exact beq_self_eq_true _)]
    exact Bk ⟨f,T.last_end C M1 I⟩
   ·rw[if_neg (λz=>I (Ed z)),if_neg (λz=>by have:=Ed z; omega)]
    exact tJ C T f h M1 (by omega) F (by omega) x o t
  ·rw[if_neg O]
   have J:k=0:=by omega
   subst J
   exact tJ C T f h M Q F hn x o t
theorem qI(C:Cmp prog w A s d Ok blt){p q:Array Keyed}{x0 U xl:Keyed}(T:Two Ok blt p q x0 U xl){st:Bx}(V:kindOf st=d){Q:Array Keyed->Bx->Prop}(h:∀r a,Kept st a->rY blt p q r->Q r a):wpS (model prog w) A E s (mQ p q) Q st:=by
 have p0:0<p.size:=by
  have:=(Il.mp T.hx0).1
  exact this
 have q0:0<q.size:=by
  have:=(Il.mp T.hy0).1
  exact this
 have S:LI blt p q #[U] 0 1:=by
  have m:LI blt p q #[] 0 0:=⟨by simp,by simp,λo N=>by simp at N,λo N=>by simp at N⟩
  have:=m.pushY T.sq (Ey T.hy0) (Pi C T.sp (Ey T.hx0) (C.ofLt T.first))
  simpa using this
 unfold mQ
 refine Az (Tt ?_)
 refine Az (Gq T.hy0 ?_)
 dsimp only
 by_cases Z:1=q.size
 ·rw[if_pos (by rw[<- Z]; rfl)]
  exact Bk (h _ _ (Kept.refl _) (T.done_end S (by omega)))
 rw[if_neg (λz=>Z (Ed z))]
 by_cases Y:0+1=p.size
 ·rw[if_pos (by rw[<- Y]; rfl)]
  exact Bk (h _ _ (Kept.refl _) (T.last_end C S (by omega)))
 rw[if_neg (λz=>Y (Ed z))]
 refine Az (Nk ?_)
 refine Az (Ij (Fb
  (I:=λx c a=>Kept st a/\∃out i j g,c=(none,out,i,j,g)/\LI blt p q out i j/\i+1<p.size/\j<q.size/\x+1<=i+j)
  (Q:=λc a=>Kept st a/\∃r Gi,c=(some r,Gi)/\rY blt p q r) ?_ ?_ ⟨Kept.refl _,_,0,1,_,rfl,S,by omega,by omega,by omega⟩) ?_)
 ·(intro x c B _ F t; obtain ⟨u,out,i,j,g,rfl,M,n,l,v⟩ := t)
  dsimp only
  -- one by one
  refine Az (Ij (Fb
   (I:=λ_ c a=>a=B/\∃out i j f e,c=(none,out,i,j,f,e)/\LI blt p q out i j/\i+1<p.size/\j<q.size/\x+1<=i+j)
   (Q:=λc a=>a=B/\((∃r Gi,c=(some r,Gi)/\rY blt p q r)\/∃out i j f e,c=(none,out,i,j,f,e)/\LI blt p q out i j/\i+1<p.size/\j<q.size/\x+1<=i+j)) ?_ ?_ ⟨rfl,out,i,j,0,0,rfl,M,n,l,v⟩) ?_)
  ·(intro z c H _ hz t; obtain ⟨rfl,out,i,j,f,e,rfl,M,n,l,v⟩ := t)
   dsimp only
   obtain ⟨P,G⟩:=Gw (p:=q) l
   obtain ⟨O,F⟩:=Gw (p:=p) (i:=i) (by omega)
   refine Az (Gq G ?_)
   refine Az (Gq F ?_)
   refine Az (mG C (u.kind.trans V) (T.oq P (Kk G)) (T.op O (Kk F)) ?_)
   dsimp only
   cases hb:blt P O with
   | true =>
    rw[if_pos rfl]
    refine Az (Gq G ?_)
    have M1:LI blt p q (out.push P) i (j+1):=by
     have:=M.pushY T.sq (Ey G) (Pi C T.sp (Ey F) (C.ofLt hb))
     rw[<- Od] at this
     exact this
    by_cases J:j+1=q.size
    ·rw[if_pos (by rw[J]; exact beq_self_eq_true _)]
     exact Bk ⟨rfl,.inl ⟨_,_,rfl,T.done_end M1 (by omega)⟩⟩
    ·rw[if_neg (λz=>J (Ed z))]
     split
     ·exact Bk ⟨rfl,.inr ⟨_,_,_,_,_,rfl,M1,n,by omega,by omega⟩⟩
     ·exact Bk ⟨rfl,_,_,_,_,_,rfl,M1,n,by omega,by omega⟩
   | false =>
    rw[if_neg Cg]
    refine Az (Gq F ?_)
    have M1:LI blt p q (out.push O) (i+1) j:=by
     have:=M.pushX T.sp (Ey F) (Pi C T.sq (Ey G) hb)
     rw[<- Od] at this
     exact this
    by_cases J:i+1+1=p.size
    ·rw[if_pos (by rw[J]; exact beq_self_eq_true _)]
     exact Bk ⟨rfl,.inl ⟨_,_,rfl,T.last_end C M1 (by omega)⟩⟩
    ·rw[if_neg (λz=>J (Ed z))]
     split
     ·exact Bk ⟨rfl,.inr ⟨_,_,_,_,_,rfl,M1,by omega,l,by omega⟩⟩
     ·exact Bk ⟨rfl,_,_,_,_,_,rfl,M1,by omega,l,by omega⟩
  ·(intro c H t; obtain ⟨rfl,out,i,j,f,e,rfl,M⟩ := t)
   exact ⟨rfl,.inr ⟨out,i,j,f,e,rfl,M⟩⟩
  ·rintro c H ⟨rfl,hc⟩
   rcases hc with hc | hc
   ·obtain ⟨r,Gi,rfl,b⟩:=hc
    exact Bk ⟨u,r,_,rfl,b⟩
   ·obtain ⟨out,i,j,f,e,rfl,M,n,l,v⟩:=hc
    dsimp only
    refine Az (Tt ?_)
    -- the gallop
    refine Az (Ij (Fb
     (I:=λy c a=>Kept st a/\∃out i j g f e,c=(none,out,i,j,g,f,e)/\LI blt p q out i j/\i+1<p.size/\j<q.size/\(if y=0 then x+1<=i+j else x+2<=i+j))
     (Q:=λc a=>Kept st a/\((∃r Gi,c=(some r,Gi)/\rY blt p q r)\/∃out i j g f e,c=(none,out,i,j,g,f,e)/\LI blt p q out i j/\i+1<p.size/\j<q.size/\x+2<=i+j)) ?_ ?_
     ⟨u,out,i,j,_,f,e,rfl,M,n,l,by rw[if_pos rfl]; exact v⟩) ?_)
    ·(intro y c Re _ G t; obtain ⟨k,out,i,j,g,f,e,rfl,M,n,l,v⟩ := t)
     have L:x+1<=i+j:=by split at v <;> omega
     have K:∀W,wpS (model prog w) A E s (BR p q out i j W f e) (GP blt p q st (x+1)) Re:=λW=>O1 C T k (k.kind.trans V) M n l L
     dsimp only
     refine Ij (?_:wpS (model prog w) A E s _ (GP blt p q st (x+1)) Re) λr R b=>?_
     ·by_cases X:g > 1
      ·rw[if_pos X]
       exact K _
      ·rw[if_neg X]
       exact K _
     ·obtain ⟨D,b⟩:=b
      match r,b with
      | .done (some r,Gi),b=>exact ⟨D,.inl ⟨r,Gi,rfl,b⟩⟩
      | .done (none,out,i,j,g,f,e),b=>exact ⟨D,.inr ⟨out,i,j,g,f,e,rfl,b.1,b.2.1,b.2.2.1,by have:=b.2.2.2; omega⟩⟩
      | .yield (none,out,i,j,g,f,e),b=>exact ⟨D,out,i,j,g,f,e,rfl,b.1,b.2.1,b.2.2.1,by rw[if_neg (by omega)]; have:=b.2.2.2; omega⟩
    ·(intro c Re t; obtain ⟨k,out,i,j,g,f,e,rfl,M,n,l,v⟩ := t)
     rw[if_neg (by omega)] at v
     exact ⟨k,.inr ⟨out,i,j,g,f,e,rfl,M,n,l,v⟩⟩
    ·rintro c Re ⟨k,hc⟩
     rcases hc with hc | hc
     ·obtain ⟨r,Gi,rfl,b⟩:=hc
      exact Bk ⟨k,r,_,rfl,b⟩
     ·obtain ⟨out,i,j,g,f,e,rfl,M,n,l,v⟩:=hc
      dsimp only
      refine Az (Tn λR D=>?_)
      exact Bk ⟨k.trans D,out,i,j,_,rfl,M,n,l,by omega⟩
 ·(intro c B t; obtain ⟨u,out,i,j,g,rfl,M,n,l,v⟩ := t)
  exfalso
  have : max 0 (p.size+q.size)=p.size+q.size:=by omega
  rw[this] at v
  omega
 ·(intro c B t; obtain ⟨u,r,Gi,rfl,b⟩ := t)
  exact Bk (h r B u b)
end
def nO:Array Keyed->Array Keyed->StateT Bx Sem (Array Keyed):=sortPriv% PySem.Builtin.mergeHi
abbrev AQ(p q out:Array Keyed)(m n:Nat):Array Keyed:=p.extract 0 m++q.extract 0 n++out.reverse
abbrev IY(p q out:Array Keyed)(m n:Nat):Array Keyed:=q.extract 0 n++p.extract 0 m++out.reverse
abbrev T1:=Option (Array Keyed)×Nat×Nat×Array Keyed×Nat×Nat×Nat
def S6(p q out:Array Keyed)(m n g a k:Nat):StateT Bx Sem (ForInStep T1):=do
 let x <- elem' p (m - 1)
 if (m - 1 == 0)=true then pure (Cz (some (AQ p q (out.push x) (m - 1) n),m - 1,n,out.push x,g,a,k))
 else if (decide (a<7) && decide (k<7))=true then pure (Cz (none,m - 1,n,out.push x,g,a,k))
 else pure (Fl (none,m - 1,n,out.push x,g,a,k))
def Q4(p q out:Array Keyed)(m n g a b:Nat):StateT Bx Sem (ForInStep T1):=do
 let y <- elem' q (n - 1)
 if (n - 1 == 1)=true then pure (Cz (some (IY p q (out.push y) m (n - 1)),m,n - 1,out.push y,g,a,b))
 else do
  let x <- elem' p (m - 1)
  let some t <- Tg true x q 0 (n - 1) (n - 1 - 1) | pure (Cz (some (AQ p q (out.push y) m (n - 1)),m,n - 1,out.push y,g,a,b))
  if n - 1 - t > 0 then
   if (t == 1)=true then pure (Cz (some (IY p q (out.push y++(q.extract t (n - 1)).reverse) m t),m,t,out.push y++(q.extract t (n - 1)).reverse,g,a,n - 1 - t))
   else if (t == 0)=true then pure (Cz (some (AQ p q (out.push y++(q.extract t (n - 1)).reverse) m t),m,t,out.push y++(q.extract t (n - 1)).reverse,g,a,n - 1 - t))
   else S6 p q (out.push y++(q.extract t (n - 1)).reverse) m t g a (n - 1 - t)
  else S6 p q (out.push y) m (n - 1) g a (n - 1 - t)
def AY(p q out:Array Keyed)(m n g b a:Nat):StateT Bx Sem (ForInStep T1):=do
 aI g
 let y <- elem' q (n - 1)
 let some t <- Tg false y p 0 m (m - 1) | pure (Cz (some (AQ p q out m n),m,n,out,g,b,a))
 if m - t > 0 then
  if (t == 0)=true then pure (Cz (some (AQ p q (out++(p.extract t m).reverse) t n),t,n,out++(p.extract t m).reverse,g,m - t,a))
  else Q4 p q (out++(p.extract t m).reverse) t n g (m - t) a
 else Q4 p q out m n g (m - t) a
section
variable{a:Type}{R:a->a->Prop}{xs ys out:List a}{i j:Nat}
theorem MI.swap(M:MI R xs ys out i j):MI R ys xs out j i:=⟨M.perm.trans Eh,M.srt,M.ly,M.lx⟩
theorem MI.endXY(M:MI R xs ys out i j)(a:xs.Pairwise R)(b:ys.Pairwise R)(h:∀x∈xs.drop i,∀y∈ys.drop j,R x y):(out++xs.drop i++ys.drop j).Perm (xs++ys)/\(out++xs.drop i++ys.drop j).Pairwise R:=by
 have:=M.swap.endYX b a h
 exact ⟨this.1.trans Eh,this.2⟩
end
abbrev ge(blt:Keyed->Keyed->Bool)(x y:Keyed):Prop:=le blt y x
abbrev HI(blt:Keyed->Keyed->Bool)(p q out:Array Keyed)(m n:Nat):Prop:=MI (ge blt) p.toList.reverse q.toList.reverse out.toList (p.size - m) (q.size - n)
theorem Kj(p:Array Keyed){m:Nat}(h:m<=p.size):p.toList.reverse.drop (p.size - m)=(p.toList.take m).reverse:=by
 rw[List.drop_reverse,An]
 congr 2
 omega
theorem p6{p:Array Keyed}{m:Nat}{x:Keyed}(h0:0<m)(h:m<=p.size)(e:p[m - 1]? = some x):p.toList.reverse[p.size - m]? = some x:=by
 rw[Uh (by rw[An]; omega),An,show p.size - 1 - (p.size - m)=m - 1 by omega]
 exact Ey e
theorem S9(p:Array Keyed)(m:Nat):(p.extract 0 m).toList=p.toList.take m:=by
 rw[Nr,Ls,Ju,aM]
theorem IG(p:Array Keyed){t m:Nat}(h1:t<=m)(a:m<=p.size):(p.extract t m).reverse.toList=(p.toList.reverse.drop (p.size - m)).take (m - t):=by
 rw[Kj p a,List.take_reverse,Us,Nr,Ls,Cu,An,List.drop_take]
 congr 2
 ·omega
 ·congr 1
  omega
section
variable{prog:Bq}{w:World}{A:Df}{s:Al}{d:Mk}{Ok:Keyed->Prop}{blt:Keyed->Keyed->Bool}{E:Value->Al->Prop}
theorem Kg{l:List Keyed}(h:l.Pairwise (le blt)):l.reverse.Pairwise (ge blt):=Ue.mpr h
theorem Two.dn_end{p q out:Array Keyed}{j g i:Keyed}(T:Two Ok blt p q j g i){m n:Nat}(M:HI blt p q out m n)(d:m<=p.size)(f:n<=q.size)(h:m=0\/n=0):rY blt p q (AQ p q out m n):=by
 have a:=M.endYX (Kg T.sp) (Kg T.sq) (λy b x c=>by
  rw[Kj p d] at c
  rw[Kj q f] at b
  rcases h with h | h
  ·subst h; simp at c
  ·subst h; simp at b)
 rw[Kj p d,Kj q f] at a
 have e:(AQ p q out m n).toList=(out.toList++(q.toList.take n).reverse++(p.toList.take m).reverse).reverse:=by
  rw[Dy,Dy,S9,S9,Us]
  simp
 refine ⟨?_,?_⟩
 ·rw[e]
  refine (Kw _).trans (a.1.trans ?_)
  exact List.Perm.append (Kw _) (Kw _)
 ·rw[e]
  exact Ue.mpr a.2
theorem Two.fs_end(C:Cmp prog w A s d Ok blt){p q out:Array Keyed}{v j t:Keyed}(T:Two Ok blt p q v j t){m n:Nat}(M:HI blt p q out m n)(l:m<=p.size)(u:n=1)(o:1<=q.size):rY blt p q (IY p q out m n):=by
 subst u
 have f:=M.endXY (Kg T.sp) (Kg T.sq) (λx i y h=>by
  rw[Kj p l] at i
  rw[Kj q o] at h
  have r:y=j:=by
   have : y∈q.toList.take 1:=Rt.mp h
   obtain ⟨k,a,e⟩:=Ht.mp this
   have g:k=0:=by
    rw[Cu] at a
    omega
   subst g
   have b:q.toList[0]? = some y:=by
    rw[<- e,<- Bj a,Jk (by omega)]
   rw[Ey T.hy0] at b
   exact (Bl b).symm
  rw[r]
  have c:x∈p.toList:=Vi (Rt.mp i)
  obtain ⟨k,a,e⟩:=Ht.mp c
  have b:p.toList[k]? = some x:=by rw[<- e,Bj a]
  exact C.trans (C.ofLt T.first) (Lx C T.sp (Dh k) (Ey T.hx0) b))
 rw[Kj p l,Kj q o] at f
 have e:(IY p q out m 1).toList=(out.toList++(p.toList.take m).reverse++(q.toList.take 1).reverse).reverse:=by
  rw[Dy,Dy,S9,S9,Us]
  simp
 refine ⟨?_,?_⟩
 ·rw[e]
  refine (Kw _).trans (f.1.trans ?_)
  exact List.Perm.append (Kw _) (Kw _)
 ·rw[e]
  exact Ue.mpr f.2
theorem Ti(C:Cmp prog w A s d Ok blt){p:Array Keyed}(sp:p.toList.Pairwise (le blt)){m:Nat}{x y:Keyed}(h0:0<m)(g:m<=p.size)(c:p[m - 1]? = some x)(h:le blt x y):∀z∈p.toList.reverse.drop (p.size - m),ge blt y z:=λz b=>by
 rw[Kj p g] at b
 obtain ⟨k,a,e⟩:=Ht.mp (Rt.mp b)
 have f:p.toList[k]? = some z:=by
  rw[Cu] at a
  rw[<- e,<- Bj (by rw[Cu]; exact a),Jk (by omega)]
 rw[Cu] at a
 exact C.trans (Lx C sp (by omega) f (Ey c)) h
theorem HI.pushX(C:Cmp prog w A s d Ok blt){p q out:Array Keyed}{f c e:Keyed}(T:Two Ok blt p q f c e){m n:Nat}(M:HI blt p q out m n)(h0:0<m)(b:m<=p.size){x:Keyed}(a:p[m - 1]? = some x)(h:∀z∈q.toList.reverse.drop (q.size - n),ge blt x z):HI blt p q (out.push x) (m - 1) n:=by
 have:=MI.pushX M (Kg T.sp) (p6 h0 b a) h
 rw[<- Od,show p.size - m+1=p.size - (m - 1) by omega] at this
 exact this
theorem HI.pushY(C:Cmp prog w A s d Ok blt){p q out:Array Keyed}{f b c:Keyed}(T:Two Ok blt p q f b c){m n:Nat}(M:HI blt p q out m n)(h0:0<n)(e:n<=q.size){y:Keyed}(a:q[n - 1]? = some y)(h:∀z∈p.toList.reverse.drop (p.size - m),ge blt y z):HI blt p q (out.push y) m (n - 1):=by
 have:=MI.pushY M (Kg T.sq) (p6 h0 e a) h
 rw[<- Od,show q.size - n+1=q.size - (n - 1) by omega] at this
 exact this
def GY(blt:Keyed->Keyed->Bool)(p q:Array Keyed)(st:Bx)(b:Nat)(r:ForInStep T1)(a:Bx):Prop:=Kept st a/\match r with
 | .done (some r,_)=>rY blt p q r
 | .done (none,m,n,out,_)=>HI blt p q out m n/\0<m/\m<=p.size/\1<n/\n<=q.size/\m+n<b
 | .yield (none,m,n,out,_)=>HI blt p q out m n/\0<m/\m<=p.size/\1<n/\n<=q.size/\m+n<b
 | .yield (some _,_)=>False
theorem uZ(C:Cmp prog w A s d Ok blt){p q out:Array Keyed}{v o r:Keyed}(T:Two Ok blt p q v o r){m n g h k b:Nat}{a st:Bx}(kp:Kept a st)(M:HI blt p q out m n)(t:0<m)(l:m<=p.size)(f:1<n)(c:n<=q.size)(hb:m+n<=b){x:Keyed}(i:p[m - 1]? = some x)(u:∀z∈q.toList.reverse.drop (q.size - n),ge blt x z):wpS (model prog w) A E s (S6 p q out m n g h k) (GY blt p q a b) st:=by
 unfold S6
 refine Az (Gq i ?_)
 have M1:=HI.pushX C T M t l i u
 by_cases e:m - 1=0
 ·rw[if_pos (by rw[e]; rfl)]
  exact Bk ⟨kp,T.dn_end M1 (by omega) c (.inl e)⟩
 ·rw[if_neg (λz=>e (Ed z))]
  by_cases j:(decide (h<7) && decide (k<7))=true
  ·rw[if_pos j]
   exact Bk ⟨kp,M1,by omega,by omega,f,c,by omega⟩
  ·rw[if_neg j]
   exact Bk ⟨kp,M1,by omega,by omega,f,c,by omega⟩
theorem uX(C:Cmp prog w A s d Ok blt){p q out:Array Keyed}{x0 S xl:Keyed}(T:Two Ok blt p q x0 S xl){m n g ac bc b:Nat}{u st:Bx}(kp:Kept u st)(U:kindOf st=d)(M:HI blt p q out m n)(B:0<m)(j:m<=p.size)(n0:1<n)(hn:n<=q.size)(hb:m+n<=b){x y:Keyed}(o:p[m - 1]? = some x)(K:q[n - 1]? = some y)(D:le blt x y):wpS (model prog w) A E s (Q4 p q out m n g ac bc) (GY blt p q u b) st:=by
 unfold Q4
 refine Az (Gq K ?_)
 have M1:=HI.pushY C T M (by omega) hn K (Ti C T.sp B j o D)
 by_cases I:n - 1=1
 ·rw[if_pos (by rw[I]; rfl)]
  exact Bk ⟨kp,T.fs_end C M1 j I (by omega)⟩
 rw[if_neg (λz=>I (Ed z))]
 refine Az (Gq o ?_)
 have val:∀i l,q[i]? = some l->q.getD (0+i) y=l:=λi l e=>by rw[Kd]; simp [Cv,e]
 have R:Row Ok q 0 (n - 1) (λi=>q.getD (0+i) y):=⟨λi J=>by
  obtain ⟨r,h⟩:=Gw (p:=q) (i:=i) (by omega)
  rw[val i r h,Kd,h],λi J=>by
  obtain ⟨r,h⟩:=Gw (p:=q) (i:=i) (by omega)
  show Ok (q.getD (0+i) y)
  rw[val i r h]
  exact T.oq r (Kk h)⟩
 refine Az (Of C R (T.op x (Kk o)) U (by omega) (λa c G hc L=>?_) λt ht W V=>?_)
 ·obtain ⟨r,h⟩:=Gw (p:=q) (i:=a) (by omega)
  obtain ⟨X,N⟩:=Gw (p:=q) (i:=c) (by omega)
  simp only[val a r h,val c X N,Ia,if_true] at L ⊢
  exact C.leLt (Lx C T.sq G (Ey h) (Ey N)) L
 dsimp only
 have M2:HI blt p q (out.push y++(q.extract t (n - 1)).reverse) m t:=by
  have:=MI.blockY M1 (Kg T.sq) (n - 1 - t) (by rw[List.length_reverse,An]; omega) (λi J l O=>by
   have Z:q[n - 1 - i - 1]? = some l:=by
    rw[Uh (by rw[An]; omega),An,show q.size - 1 - (q.size - (n - 1)+i)=n - 1 - i - 1 by omega] at O
    simpa using O
   have:=V (n - 1 - i - 1) (by omega) (by omega)
   rw[val _ l Z] at this
   have z:blt l x=false:=by simpa only [Ia,if_true] using this
   exact Ti C T.sp B j o z)
  rw[<- IG q (by omega) (by omega),<- Dy,show q.size - (n - 1)+(n - 1 - t)=q.size - t by omega] at this
  exact this
 -- what is left of q is f x
 have f:∀z∈q.toList.reverse.drop (q.size - t),ge blt x z:=λz P=>by
  rw[Kj q (by omega)] at P
  obtain ⟨k,v,e⟩:=Ht.mp (Rt.mp P)
  rw[Cu] at v
  have e2:q.toList[k]? = some z:=by
   rw[<- e,<- Bj (by rw[Cu]; exact v),Jk (by omega)]
  have e3:q[k]? = some z:=by simpa using e2
  have:=W k (by omega)
  rw[val k z e3] at this
  exact C.ofLt (by simpa only [Ia,if_true] using this)
 by_cases Q:n - 1 - t > 0
 ·rw[if_pos Q]
  by_cases H:t=1
  ·rw[if_pos (by rw[H]; rfl)]
   exact Bk ⟨kp,T.fs_end C M2 j H (by omega)⟩
  ·rw[if_neg (λz=>H (Ed z))]
   by_cases F:t=0
   ·rw[if_pos (by rw[F]; rfl)]
    exact Bk ⟨kp,T.dn_end M2 j (by omega) (.inr F)⟩
   ·rw[if_neg (λz=>F (Ed z))]
    exact uZ C T kp M2 B j (by omega) (by omega) (by omega) o f
 ·rw[if_neg Q]
  have Y:t=n - 1:=by omega
  rw[Y] at f
  exact uZ C T kp M1 B j (by omega) (by omega) (by omega) o f
theorem U1(C:Cmp prog w A s d Ok blt){p q out:Array Keyed}{x0 S xl:Keyed}(T:Two Ok blt p q x0 S xl){m n g ac bc b:Nat}{v st:Bx}(kp:Kept v st)(U:kindOf st=d)(M:HI blt p q out m n)(K:0<m)(N:m<=p.size)(P:1<n)(D:n<=q.size)(hb:m+n<=b):wpS (model prog w) A E s (AY p q out m n g ac bc) (GY blt p q v b) st:=by
 unfold AY
 refine Az (Tn λG B=>?_)
 have k:=kp.trans B
 have o:kindOf G=d:=B.kind.trans U
 obtain ⟨y,u⟩:=Gw (p:=q) (i:=n - 1) (by omega)
 refine Az (Gq u ?_)
 have val:∀i l,p[i]? = some l->p.getD (0+i) y=l:=λi l e=>by rw[Kd]; simp [Cv,e]
 have R:Row Ok p 0 m (λi=>p.getD (0+i) y):=⟨λi I=>by
  obtain ⟨r,h⟩:=Gw (p:=p) (i:=i) (by omega)
  rw[val i r h,Kd,h],λi I=>by
  obtain ⟨r,h⟩:=Gw (p:=p) (i:=i) (by omega)
  show Ok (p.getD (0+i) y)
  rw[val i r h]
  exact T.op r (Kk h)⟩
 refine Az (Of C R (T.oq y (Kk u)) o (by omega) (λa c F hc J=>?_) λt ht W V=>?_)
 ·obtain ⟨r,h⟩:=Gw (p:=p) (i:=a) (by omega)
  obtain ⟨Z,O⟩:=Gw (p:=p) (i:=c) (by omega)
  simp only[val a r h,val c Z O,Ia,Bw,if_false,Kz] at J ⊢
  exact C.trans (Lx C T.sp F (Ey h) (Ey O)) J
 dsimp only
 have M1:HI blt p q (out++(p.extract t m).reverse) t n:=by
  have:=MI.blockX M (Kg T.sp) (m - t) (by rw[List.length_reverse,An]; omega) (λi I l L=>by
   have Y:p[m - i - 1]? = some l:=by
    rw[Uh (by rw[An]; omega),An,show p.size - 1 - (p.size - m+i)=m - i - 1 by omega] at L
    simpa using L
   have:=V (m - i - 1) (by omega) (by omega)
   rw[val _ l Y] at this
   have z:blt y l=true:=by simpa only [Ia,Bw,if_false,Yp] using this
   exact Ti C T.sq (by omega) D u (C.ofLt z))
  rw[<- IG p (by omega) N,<- Dy,show p.size - m+(m - t)=p.size - t by omega] at this
  exact this
 have f:∀x,0<t->p[t - 1]? = some x->le blt x y:=λx h0 j=>by
  have:=W (t - 1) (by omega)
  rw[val _ x j] at this
  have z:blt y x=false:=by simpa only [Ia,Bw,if_false,Kz] using this
  exact z
 by_cases Q:m - t > 0
 ·rw[if_pos Q]
  by_cases H:t=0
  ·rw[if_pos (by rw[H]; rfl)]
   exact Bk ⟨k,T.dn_end M1 (by omega) D (.inl H)⟩
  ·rw[if_neg (λz=>H (Ed z))]
   obtain ⟨x,j⟩:=Gw (p:=p) (i:=t - 1) (by omega)
   exact uX C T k o M1 (by omega) (by omega) P D (by omega) j u (f x (by omega) j)
 ·rw[if_neg Q]
  have X:t=m:=by omega
  subst X
  obtain ⟨x,j⟩:=Gw (p:=p) (i:=t - 1) (by omega)
  exact uX C T k o M K N P D hb j u (f x K j)
theorem qP(C:Cmp prog w A s d Ok blt){p q:Array Keyed}{x0 y0 xl:Keyed}(T:Two Ok blt p q x0 y0 xl){st:Bx}(Y:kindOf st=d){Q:Array Keyed->Bx->Prop}(h:∀r a,Kept st a->rY blt p q r->Q r a):wpS (model prog w) A E s (nO p q) Q st:=by
 have p0:0<p.size:=(Il.mp T.hx0).1
 have q0:0<q.size:=(Il.mp T.hy0).1
 obtain ⟨yl,O⟩:=Gw (p:=q) (i:=q.size - 1) (by omega)
 have X:HI blt p q #[xl] (p.size - 1) q.size:=by
  have m:HI blt p q #[] p.size q.size:=⟨by simp,by simp,λo S=>by simp at S,λo S=>by simp at S⟩
  have:=HI.pushX C T m p0 (Aj _) T.hxl (Ti C T.sq q0 (Aj _) O (C.ofLt (T.last yl (Kk O))))
  simpa using this
 unfold nO
 refine Az (Tt ?_)
 refine Az (Gq T.hxl ?_)
 dsimp only
 by_cases V:p.size - 1=0
 ·rw[if_pos (by rw[V]; rfl)]
  exact Bk (h _ _ (Kept.refl _) (T.dn_end X (by omega) (by omega) (.inl V)))
 rw[if_neg (λz=>V (Ed z))]
 by_cases U:q.size=1
 ·rw[if_pos (by rw[U]; rfl)]
  exact Bk (h _ _ (Kept.refl _) (T.fs_end C X (by omega) U (by omega)))
 rw[if_neg (λz=>U (Ed z))]
 refine Az (Nk ?_)
 refine Az (Ij (Fb
  (I:=λx c a=>Kept st a/\∃m n out g,c=(none,m,n,out,g)/\HI blt p q out m n/\0<m/\m<=p.size/\1<n/\n<=q.size/\m+n+x+1<=p.size+q.size)
  (Q:=λc a=>Kept st a/\∃r Gi,c=(some r,Gi)/\rY blt p q r) ?_ ?_ ⟨Kept.refl _,_,_,_,_,rfl,X,by omega,by omega,by omega,by omega,by omega⟩) ?_)
 ·(intro x c F _ J u; obtain ⟨v,m,n,out,g,rfl,M,l,j,B,k,D⟩ := u)
  dsimp only
  -- one by one
  refine Az (Ij (Fb
   (I:=λ_ c a=>a=F/\∃m n out f e,c=(none,m,n,out,f,e)/\HI blt p q out m n/\0<m/\m<=p.size/\1<n/\n<=q.size/\m+n+x+1<=p.size+q.size)
   (Q:=λc a=>a=F/\((∃r Gi,c=(some r,Gi)/\rY blt p q r)\/∃m n out f e,c=(none,m,n,out,f,e)/\HI blt p q out m n/\0<m/\m<=p.size/\1<n/\n<=q.size/\m+n+x+1<=p.size+q.size)) ?_ ?_ ⟨rfl,m,n,out,0,0,rfl,M,l,j,B,k,D⟩) ?_)
  ·(intro z c N _ hz u; obtain ⟨rfl,m,n,out,f,e,rfl,M,l,j,B,k,D⟩ := u)
   dsimp only
   obtain ⟨yy,K⟩:=Gw (p:=q) (i:=n - 1) (by omega)
   obtain ⟨xx,J⟩:=Gw (p:=p) (i:=m - 1) (by omega)
   refine Az (Gq K ?_)
   refine Az (Gq J ?_)
   refine Az (mG C (v.kind.trans Y) (T.oq yy (Kk K)) (T.op xx (Kk J)) ?_)
   dsimp only
   cases R:blt yy xx with
   | true =>
    rw[if_pos rfl]
    refine Az (Gq J ?_)
    have M1:=HI.pushX C T M l j J (Ti C T.sq (by omega) k K (C.ofLt R))
    by_cases H:m - 1=0
    ·rw[if_pos (by rw[H]; rfl)]
     exact Bk ⟨rfl,.inl ⟨_,_,rfl,T.dn_end M1 (by omega) k (.inl H)⟩⟩
    ·rw[if_neg (λz=>H (Ed z))]
     split
     ·exact Bk ⟨rfl,.inr ⟨_,_,_,_,_,rfl,M1,by omega,by omega,B,k,by omega⟩⟩
     ·exact Bk ⟨rfl,_,_,_,_,_,rfl,M1,by omega,by omega,B,k,by omega⟩
   | false =>
    rw[if_neg Cg]
    refine Az (Gq K ?_)
    have M1:=HI.pushY C T M (by omega) k K (Ti C T.sp l j J R)
    by_cases H:n - 1=1
    ·rw[if_pos (by rw[H]; rfl)]
     exact Bk ⟨rfl,.inl ⟨_,_,rfl,T.fs_end C M1 j H (by omega)⟩⟩
    ·rw[if_neg (λz=>H (Ed z))]
     split
     ·exact Bk ⟨rfl,.inr ⟨_,_,_,_,_,rfl,M1,l,j,by omega,by omega,by omega⟩⟩
     ·exact Bk ⟨rfl,_,_,_,_,_,rfl,M1,l,j,by omega,by omega,by omega⟩
  ·(intro c N u; obtain ⟨rfl,m,n,out,f,e,rfl,M⟩ := u)
   exact ⟨rfl,.inr ⟨m,n,out,f,e,rfl,M⟩⟩
  ·rintro c N ⟨rfl,hc⟩
   rcases hc with hc | hc
   ·obtain ⟨r,Gi,rfl,b⟩:=hc
    exact Bk ⟨v,r,_,rfl,b⟩
   ·obtain ⟨m,n,out,f,e,rfl,M,l,j,B,k,D⟩:=hc
    dsimp only
    refine Az (Tt ?_)
    -- the gallop
    refine Az (Ij (Fb
     (I:=λy c a=>Kept st a/\∃m n out g f e,c=(none,m,n,out,g,f,e)/\HI blt p q out m n/\0<m/\m<=p.size/\1<n/\n<=q.size/\(if y=0 then m+n+x+1<=p.size+q.size else m+n+x+2<=p.size+q.size))
     (Q:=λc a=>Kept st a/\((∃r Gi,c=(some r,Gi)/\rY blt p q r)\/∃m n out g f e,c=(none,m,n,out,g,f,e)/\HI blt p q out m n/\0<m/\m<=p.size/\1<n/\n<=q.size/\m+n+x+2<=p.size+q.size)) ?_ ?_
     ⟨v,m,n,out,_,f,e,rfl,M,l,j,B,k,by rw[if_pos rfl]; exact D⟩) ?_)
    ·(intro y c Re _ K u; obtain ⟨t,m,n,out,g,f,e,rfl,M,l,j,B,k,D⟩ := u)
     have h0:m+n+x+1<=p.size+q.size:=by split at D <;> omega
     have P:∀L,wpS (model prog w) A E s (AY p q out m n L f e) (GY blt p q st (m+n)) Re:=λL=>U1 C T t (t.kind.trans Y) M l j B k (Aj _)
     dsimp only
     refine Ij (?_:wpS (model prog w) A E s _ (GY blt p q st (m+n)) Re) λr W b=>?_
     ·by_cases Z:g > 1
      ·rw[if_pos Z]
       exact P _
      ·rw[if_neg Z]
       exact P _
     ·obtain ⟨G,b⟩:=b
      match r,b with
      | .done (some r,Gi),b=>exact ⟨G,.inl ⟨r,Gi,rfl,b⟩⟩
      | .done (none,m',n',out',L,ac',bc'),b=>exact ⟨G,.inr ⟨m',n',out',L,ac',bc',rfl,b.1,b.2.1,b.2.2.1,b.2.2.2.1,b.2.2.2.2.1,by have:=b.2.2.2.2.2; omega⟩⟩
      | .yield (none,m',n',out',L,ac',bc'),b=>exact ⟨G,m',n',out',L,ac',bc',rfl,b.1,b.2.1,b.2.2.1,b.2.2.2.1,b.2.2.2.2.1,by rw[if_neg (by omega)]; have:=b.2.2.2.2.2; omega⟩
    ·(intro c Re u; obtain ⟨t,m,n,out,g,f,e,rfl,M,l,j,B,k,D⟩ := u)
     rw[if_neg (by omega)] at D
     exact ⟨t,.inr ⟨m,n,out,g,f,e,rfl,M,l,j,B,k,D⟩⟩
    ·rintro c Re ⟨t,hc⟩
     rcases hc with hc | hc
     ·obtain ⟨r,Gi,rfl,b⟩:=hc
      exact Bk ⟨t,r,_,rfl,b⟩
     ·obtain ⟨m,n,out,g,f,e,rfl,M,l,j,B,k,D⟩:=hc
      dsimp only
      refine Az (Tn λW G=>?_)
      exact Bk ⟨t.trans G,m,n,out,_,rfl,M,l,j,B,k,by omega⟩
 ·(intro c F u; obtain ⟨v,m,n,out,g,rfl,M,l,j,B,k,D⟩ := u)
  exfalso
  have : max 0 (p.size+q.size)=p.size+q.size:=by omega
  rw[this] at D
  omega
 ·(intro c F u; obtain ⟨v,r,Gi,rfl,b⟩ := u)
  exact Bk (h r F v b)
end
def gX:Nat->Nat->StateT Bx Sem (Option Nat):=sortPriv% PySem.Builtin.countRun
def Ys:Nat->Nat->Nat->StateT Bx Sem Bool:=sortPriv% PySem.Builtin.binarySort
def X(xs:Array Keyed)(i:Nat):Keyed:=xs[i]?.getD (Xc,Xc)
theorem Zc{xs:Array Keyed}{i:Nat}(h:i<xs.size):xs[i]? = some (X xs i):=by
 unfold X
 rw[getElem?_pos xs i h]
 rfl
theorem Rl{xs ys:Array Keyed}{i j:Nat}(h:xs[i]? = ys[j]?):X xs i=X ys j:=by unfold X; rw[h]
theorem Sm{xs:Array Keyed}{i j:Nat}(a:j<=xs.size)(k:Nat):X (mirror xs i j ((j - i) / 2)) k=if i<=k/\k<j then X xs (i+j - 1 - k) else X xs k:=by
 have e:=getElem?_mirror_all (i:=i) a k
 by_cases h:i<=k/\k<j
 ·rw[if_pos h] at e ⊢; exact Rl e
 ·rw[if_neg h] at e ⊢; exact Rl e
theorem i4{xs:Array Keyed}{src d:Nat}(c:src<xs.size)(hd:d<=src)(k:Nat):X (bubble xs src d) k=if k=src - d then X xs src else if src - d<k/\k<=src then X xs (k - 1) else X xs k:=by
 have e:=getElem?_bubble c d hd k
 by_cases a:k=src - d
 ·rw[if_pos a] at e ⊢; exact Rl e
 ·rw[if_neg a] at e ⊢
  by_cases b:src - d<k/\k<=src
  ·rw[if_pos b] at e ⊢; exact Rl e
  ·rw[if_neg b] at e ⊢; exact Rl e
def Ss(blt:Keyed->Keyed->Bool)(xs:Array Keyed)(a b:Nat):Prop:=∀i j,a<=i->i<=j->j<b->le blt (X xs i) (X xs j)
def yJ(blt:Keyed->Keyed->Bool)(xs:Array Keyed)(a b:Nat):Prop:=∀i j,a<=i->i<=j->j<b->le blt (X xs j) (X xs i)
structure Good(kd:Mk)(a₀:Array Keyed)(pend:Array (Nat×Nat×Nat))(st:Bx):Prop where
 kind:kindOf st=kd
 fail:Mj st=none
 perm:(arrOf st).Perm a₀
 pd:Bg st=pend
def kX(xs ys:Array Keyed)(a b:Nat):Prop:=∀i,(i<a\/b<=i)->X ys i=X xs i
theorem kX.refl(xs:Array Keyed)(a b:Nat):kX xs xs a b:=λ_ _=>rfl
theorem kX.trans{xs ys c:Array Keyed}{a b:Nat}(h:kX xs ys a b)(k:kX ys c a b):kX xs c a b:=λi d=>(k i d).trans (h i d)
section
variable{prog:Bq}{w:World}{A:Df}{s:Al}{f:Mk}{Ok:Keyed->Prop}{blt:Keyed->Keyed->Bool}{E:Value->Al->Prop}{a₀:Array Keyed}{d:Array (Nat×Nat×Nat)}
theorem Good.size{st:Bx}(g:Good f a₀ d st):(arrOf st).size=a₀.size:=g.perm.size_eq
theorem Good.okX{st:Bx}(g:Good f a₀ d st)(h0:∀x∈a₀.toList,Ok x){i:Nat}(a:i<a₀.size):Ok (X (arrOf st) i):=by
 have e:=Zc (xs:=arrOf st) (i:=i) (by rw[g.size]; exact a)
 exact h0 _ ((Py.mp g.perm).mem_iff.mp (Kk e))
theorem Good.set{st:Bx}(g:Good f a₀ d st){xs:Array Keyed}(h:xs.Perm (arrOf st)):Good f a₀ d (setArr st xs):=⟨g.kind,g.fail,h.trans g.perm,g.pd⟩
theorem Wk(C:Cmp prog w A s f Ok blt){st:Bx}(g:Good f a₀ d st)(h0:∀x∈a₀.toList,Ok x){i j:Nat}(b:i<a₀.size)(a:j<a₀.size){Q:Option Bool->Bx->Prop}(h:Q (some (blt (X (arrOf st) i) (X (arrOf st) j))) st):wpS (model prog w) A E s (ltAt' i j) Q st:=by
 rw[ltAt'_eq]
 refine Az (Nk ?_)
 refine Az (Gq (Zc (by rw[g.size]; exact b)) ?_)
 refine Az (Gq (Zc (by rw[g.size]; exact a)) ?_)
 exact mG C g.kind (g.okX h0 b) (g.okX h0 a) h
theorem Rf{st:Bx}{i j:Nat}{Q:Unit->Bx->Prop}(h:Q () (setArr st (mirror (arrOf st) i j ((j - i) / 2)))):wpS (model prog w) A E s (Tu i j) Q st:=by
 rw[reverseSlice'_eq]
 exact Kr h
def GF(lo a b:Nat):StateT Bx Sem (Option (Option Nat)×Nat) :=
 forIn [a:b] ((none,a):Option (Option Nat)×Nat) λ_ c=>do
  let some nS <- ltAt' (lo+c.2) (lo+c.2 - 1) | pure (Cz (some none,c.2))
  if nS=true then pure (Cz (none,c.2)) else pure (Fl (none,c.2+1))
theorem G9(C:Cmp prog w A s f Ok blt){st:Bx}(g:Good f a₀ d st)(h0:∀x∈a₀.toList,Ok x){lo a b:Nat}(hb:lo+b<=a₀.size)(z:1<=a)(r:a<=b)(h1:Ss blt (arrOf st) lo (lo+a)){Q:Option (Option Nat)×Nat->Bx->Prop}(h:∀n,a<=n->n<=b->Ss blt (arrOf st) lo (lo+n)->(n=b\/blt (X (arrOf st) (lo+n)) (X (arrOf st) (lo+n - 1))=true)->Q (none,n) st):wpS (model prog w) A E s (GF lo a b) Q st:=by
 unfold GF
 refine Fb (I:=λx c e=>e=st/\c=(none,x)/\Ss blt (arrOf st) lo (lo+x)) ?_ ?_ ⟨rfl,rfl,h1⟩
 ·(intro x c e p y m; obtain ⟨rfl,rfl,k⟩ := m)
  dsimp only
  refine Az (Wk C g h0 (by omega) (by omega) ?_)
  dsimp only
  cases t:blt (X (arrOf e) (lo+x)) (X (arrOf e) (lo+x - 1)) with
  | true =>
   rw[if_pos rfl]
   exact Bk (h x p (by omega) k (.inr t))
  | false =>
   rw[if_neg Cg]
   refine Bk ⟨rfl,rfl,λi j u q B=>?_⟩
   by_cases l:j<lo+x
   ·exact k i j u q l
   ·have v:j=lo+x:=by omega
    subst v
    by_cases o:i=lo+x
    ·subst o; exact C.refl _
    ·exact C.trans (k i (lo+x - 1) u (by omega) (by omega)) t
 ·(intro c e m; obtain ⟨rfl,rfl,k⟩ := m)
  rw[show max a b=b by omega] at k ⊢
  exact h b r (Aj _) k (.inl rfl)
theorem pZ{xs:Array Keyed}{lo n:Nat}(a:lo+n<=xs.size)(h:yJ blt xs lo (lo+n)):Ss blt (mirror xs lo (lo+n) ((lo+n - lo) / 2)) lo (lo+n):=λi j d b c=>by
 rw[Sm a,Sm a,if_pos (by omega),if_pos (by omega)]
 exact h _ _ (by omega) (by omega) (by omega)
theorem Yh{xs:Array Keyed}{lo n b e:Nat}(m:lo+n<=xs.size)(l:e<=lo+n)(hb:lo<=b)(h:yJ blt xs lo (lo+n))(c:∀i j,b<=i->i<e->b<=j->j<e->le blt (X xs i) (X xs j)):yJ blt (mirror xs b e ((e - b) / 2)) lo (lo+n):=λi j f d k=>by
 rw[Sm (by omega),Sm (by omega)]
 by_cases g:b<=j/\j<e
 ·rw[if_pos g]
  by_cases a:b<=i/\i<e
  ·rw[if_pos a]
   exact c _ _ (by omega) (by omega) (by omega) (by omega)
  ·rw[if_neg a]
   exact h _ _ f (by omega) (by omega)
 ·rw[if_neg g]
  by_cases a:b<=i/\i<e
  ·rw[if_pos a]
   exact h _ _ (by omega) (by omega) (by omega)
  ·rw[if_neg a]
   exact h i j f d k
theorem Ri{xs:Array Keyed}{a b i j:Nat}(h1:a<=i)(e:j<=b)(c:j<=xs.size):kX xs (mirror xs i j ((j - i) / 2)) a b:=λk d=>by
 rw[Sm c,if_neg (by omega)]
def j9(lo n b:Nat):StateT Bx Sem (Option Nat):=do
 Tu lo (lo+n)
 let mut m:=n
 for _ in [n:b] do
  let some nS <- ltAt' (lo+m) (lo+m - 1) | return none
  if nS then break
  m:=m+1
 return some m
theorem uT(C:Cmp prog w A s f Ok blt){st:Bx}(g:Good f a₀ d st)(h0:∀x∈a₀.toList,Ok x){lo n b:Nat}(hb:lo+b<=a₀.size)(o:1<=n)(i:n<=b)(h1:yJ blt (arrOf st) lo (lo+n)){Q:Option Nat->Bx->Prop}(h:∀m a,Good f a₀ d a->1<=m->m<=b->Ss blt (arrOf a) lo (lo+m)->kX (arrOf st) (arrOf a) lo (lo+b)->Q (some m) a):wpS (model prog w) A E s (j9 lo n b) Q st:=by
 unfold j9
 have c:lo+n<=(arrOf st).size:=by rw[g.size]; omega
 refine Az (Rf ?_)
 have j:Good f a₀ d (setArr st (mirror (arrOf st) lo (lo+n) ((lo+n - lo) / 2))):=g.set (mirror_perm _ _ _ _)
 refine Az (G9 C j h0 hb o i (pZ c h1) λm l e k _=>?_)
 exact Bk (h m _ j (by omega) e k (Ri (Aj _) (by omega) c))
abbrev EY:=Option (Option Nat)×Nat×Nat
def FX(lo a b:Nat):StateT Bx Sem EY :=
 forIn [a:b] ((none,a,0):EY) λ_ c=>do
  let some nS <- ltAt' (lo+c.2.1) (lo+c.2.1 - 1) | pure (Cz (some none,c.2.1,c.2.2))
  if nS=true then
   if c.2.2 > 0 then do
    Tu (lo+c.2.1 - (c.2.2+1)) (lo+c.2.1)
    pure (Fl (none,c.2.1+1,0))
   else pure (Fl (none,c.2.1+1,0))
  else do
   let some more <- ltAt' (lo+c.2.1 - 1) (lo+c.2.1) | pure (Cz (some none,c.2.1,c.2.2))
   if more=true then pure (Cz (none,c.2.1,c.2.2)) else pure (Fl (none,c.2.1+1,c.2.2+1))
def V8(blt:Keyed->Keyed->Bool)(xs:Array Keyed)(lo n e:Nat):Prop:=e+1<=n/\∀i j,lo+n - (e+1)<=i->i<lo+n->lo+n - (e+1)<=j->j<lo+n->le blt (X xs i) (X xs j)
theorem yS(C:Cmp prog w A s f Ok blt){xs:Array Keyed}{lo n:Nat}(h:1<=n):V8 blt xs lo n 0:=⟨by omega,λi j b a c d=>by
 have e:i=j:=by omega
 subst e
 exact C.refl _⟩
theorem Wq(C:Cmp prog w A s f Ok blt){xs:Array Keyed}{lo n:Nat}(k:1<=n)(h:yJ blt xs lo (lo+n))(hl:le blt (X xs (lo+n)) (X xs (lo+n - 1))):yJ blt xs lo (lo+(n+1)):=λi j d c g=>by
 by_cases a:j<lo+n
 ·exact h i j d c a
 ·have e:j=lo+n:=by omega
  subst e
  by_cases b:i=lo+n
  ·subst b; exact C.refl _
  ·exact C.trans hl (h i (lo+n - 1) d (by omega) (by omega))
theorem L6(C:Cmp prog w A s f Ok blt){st:Bx}(g:Good f a₀ d st)(h0:∀x∈a₀.toList,Ok x){lo a b:Nat}(hb:lo+b<=a₀.size)(L:1<=a)(v:a<=b)(h1:yJ blt (arrOf st) lo (lo+a)){Q:EY->Bx->Prop}(h:∀n e k,Good f a₀ d k->a<=n->n<=b->yJ blt (arrOf k) lo (lo+n)->V8 blt (arrOf k) lo n e->kX (arrOf st) (arrOf k) lo (lo+b)->Q (none,n,e) k):wpS (model prog w) A E s (FX lo a b) Q st:=by
 unfold FX
 refine Fb (I:=λx c k=>∃e,c=(none,x,e)/\Good f a₀ d k/\yJ blt (arrOf k) lo (lo+x)/\V8 blt (arrOf k) lo x e/\kX (arrOf st) (arrOf k) lo (lo+b)) ?_ ?_
  ⟨0,rfl,g,h1,yS C L,kX.refl _ _ _⟩
 ·(intro x c k u M t; obtain ⟨e,rfl,m,p,l,o⟩ := t)
  have N:(arrOf k).size=a₀.size:=m.size
  dsimp only
  refine Az (Wk C m h0 (by omega) (by omega) ?_)
  dsimp only
  cases J:blt (X (arrOf k) (lo+x)) (X (arrOf k) (lo+x - 1)) with
  | true =>
   rw[if_pos rfl]
   have H:=Wq C (by omega) p (C.ofLt J)
   have one:∀F:Array Keyed,V8 blt F lo (x+1) 0:=λF=>⟨by omega,λi j r z y q=>by
    have : i=j:=by omega
    subst this
    exact C.refl _⟩
   by_cases D:e > 0
   ·rw[if_pos D]
    refine Az (Rf ?_)
    refine Bk ⟨0,rfl,m.set (mirror_perm _ _ _ _),?_,one _,o.trans (Ri (by have:=l.1; omega) (by omega) (by omega))⟩
    exact Yh (by omega) (by omega) (by have:=l.1; omega) H λi j r z y q=>l.2 i j r z y q
   ·rw[if_neg D]
    exact Bk ⟨0,rfl,m,H,one _,o⟩
  | false =>
   rw[if_neg Cg]
   refine Az (Wk C m h0 (by omega) (by omega) ?_)
   dsimp only
   cases G:blt (X (arrOf k) (lo+x - 1)) (X (arrOf k) (lo+x)) with
   | true =>
    rw[if_pos rfl]
    exact Bk (h x e k m u (by omega) p l o)
   | false =>
    rw[if_neg Cg]
    refine Bk ⟨e+1,rfl,m,Wq C (by omega) p G,⟨by have:=l.1; omega,λi j r z y q=>?_⟩,o⟩
    have P:le blt (X (arrOf k) (lo+x - 1)) (X (arrOf k) (lo+x)):=J
    have O:le blt (X (arrOf k) (lo+x)) (X (arrOf k) (lo+x - 1)):=G
    by_cases K:i=lo+x
    ·by_cases B:j=lo+x
     ·rw[K,B]; exact C.refl _
     ·rw[K]
      exact C.trans O (l.2 (lo+x - 1) j (by omega) (by omega) (by omega) (by omega))
    ·by_cases B:j=lo+x
     ·rw[B]
      exact C.trans (l.2 i (lo+x - 1) (by omega) (by omega) (by omega) (by omega)) P
     ·exact l.2 i j (by omega) (by omega) (by omega) (by omega)
 ·(intro c k t; obtain ⟨e,rfl,m,p,l,o⟩ := t)
  rw[show max a b=b by omega] at p l ⊢
  exact h b e k m v (Aj _) p l o
def Z2(lo n b:Nat):StateT Bx Sem (Option Nat):=do
 liftM (rule "list.sort.descending-run")
 let mut m:=n+1
 let mut e:=0
 for _ in [m:b] do
  let some nS <- ltAt' (lo+m) (lo+m - 1) | return none
  if nS then
   if e > 0 then Tu (lo+m - (e+1)) (lo+m)
   e:=0
  else
   let some more <- ltAt' (lo+m - 1) (lo+m) | return none
   if more then break
   e:=e+1
  m:=m+1
 if e > 0 then Tu (lo+m - (e+1)) (lo+m)
 j9 lo m b
theorem uK(C:Cmp prog w A s f Ok blt){st:Bx}(g:Good f a₀ d st)(h0:∀x∈a₀.toList,Ok x){lo n b:Nat}(hb:lo+b<=a₀.size)(p:n+1<=b)(h1:yJ blt (arrOf st) lo (lo+(n+1))){Q:Option Nat->Bx->Prop}(h:∀m a,Good f a₀ d a->1<=m->m<=b->Ss blt (arrOf a) lo (lo+m)->kX (arrOf st) (arrOf a) lo (lo+b)->Q (some m) a):wpS (model prog w) A E s (Z2 lo n b) Q st:=by
 unfold Z2
 refine Az (Tt ?_)
 refine Az (L6 C g h0 hb (by omega) p h1 λk e v t L B D y F=>?_)
 dsimp only
 have I:(arrOf v).size=a₀.size:=t.size
 by_cases z:e > 0
 ·rw[if_pos z]
  refine Az (Rf ?_)
  refine uT C (t.set (mirror_perm _ _ _ _)) h0 hb (by omega) B (Yh (by omega) (by omega) (by have:=y.1; omega) D λi j H K J G=>y.2 i j H K J G) λm c r o q u l=>?_
  exact h m c r o q u ((F.trans (Ri (by have:=y.1; omega) (by omega) (by omega))).trans l)
 ·rw[if_neg z]
  exact uT C t h0 hb (by omega) B D λm c r o q u l=>h m c r o q u (F.trans l)
theorem i7(C:Cmp prog w A s f Ok blt){st:Bx}(g:Good f a₀ d st)(h0:∀x∈a₀.toList,Ok x){lo b:Nat}(hb:lo+b<=a₀.size)(N:1<=b){Q:Option Nat->Bx->Prop}(h:∀m a,Good f a₀ d a->1<=m->m<=b->Ss blt (arrOf a) lo (lo+m)->kX (arrOf st) (arrOf a) lo (lo+b)->Q (some m) a):wpS (model prog w) A E s (gX lo b) Q st:=by
 unfold gX
 have K:(arrOf st).size=a₀.size:=g.size
 refine Az (G9 C g h0 hb (Aj _) N (λi j k y l=>by
  have : i=j:=by omega
  subst this
  exact C.refl _) λn v B p r=>?_)
 dsimp only
 by_cases e:n=b
 ·rw[if_pos (by rw[e]; exact beq_self_eq_true _)]
  exact Bk (h n st g v B p (kX.refl _ _ _))
 rw[if_neg (λz=>e (Ed z))]
 have o:blt (X (arrOf st) (lo+n)) (X (arrOf st) (lo+n - 1))=true:=r.resolve_left e
 by_cases D:n > 1
 ·rw[if_pos D]
  refine Az (Wk C g h0 (by omega) (by omega) ?_)
  dsimp only
  cases M:blt (X (arrOf st) lo) (X (arrOf st) (lo+n - 1)) with
  | true =>
   rw[if_pos rfl]
   exact Bk (h n st g v B p (kX.refl _ _ _))
  | false =>
   rw[if_neg Cg]
   refine Az (Rf ?_)
   -- all of it are alike
   have c:∀i j,lo<=i->i<lo+n->lo<=j->j<lo+n->le blt (X (arrOf st) i) (X (arrOf st) j):=λi j k y l G =>
    C.trans (p i (lo+n - 1) k (by omega) (by omega)) (C.trans M (p lo j (Aj _) l G))
   have u:yJ blt (arrOf st) lo (lo+(n+1)):=Wq C v (λi j k y l=>c j i (by omega) l k (by omega)) (C.ofLt o)
   exact uK C (g.set (mirror_perm _ _ _ _)) h0 hb (by omega) (Yh (by omega) (by omega) (Aj _) u c) λm q I F H L t=>h m q I F H L ((Ri (Aj _) (by omega) (by omega)).trans t)
 ·rw[if_neg D]
  have J:n=1:=by omega
  subst J
  have u:yJ blt (arrOf st) lo (lo+(1+1)):=Wq C (Aj _) (λi j k y l=>by
   have : i=j:=by omega
   subst this
   exact C.refl _) (C.ofLt o)
  exact uK C g h0 hb (by omega) u h
end
def Wa:Nat->StateT Bx Sem Bool:=sortPriv% PySem.Builtin.mergeAt
section
variable{prog:Bq}{w:World}{A:Df}{s:Al}{b:Mk}{Ok:Keyed->Prop}{blt:Keyed->Keyed->Bool}{E:Value->Al->Prop}{a₀:Array Keyed}{a:Array (Nat×Nat×Nat)}
theorem lW{st:Bx}{i j:Nat}{Q:Unit->Bx->Prop}(h:Q () (setArr st (bubble (arrOf st) i (i - j)))):wpS (model prog w) A E s (moveDown' i j) Q st:=by
 rw[moveDown'_eq]
 exact Kr h
theorem wF(C:Cmp prog w A s b Ok blt){st:Bx}(g:Good b a₀ a st)(h0:∀x∈a₀.toList,Ok x){lo n ok:Nat}(hb:lo+n<=a₀.size)(h1:Ss blt (arrOf st) lo (lo+ok))(U:ok<=n){Q:Bool->Bx->Prop}(h:∀f,Good b a₀ a f->Ss blt (arrOf f) lo (lo+n)->kX (arrOf st) (arrOf f) lo (lo+n)->Q true f):wpS (model prog w) A E s (Ys lo n ok) Q st:=by
 unfold Ys
 refine Az (Ij (Fb
  (I:=λk c f=>c=(none,())/\Good b a₀ a f/\Ss blt (arrOf f) lo (lo+k)/\kX (arrOf st) (arrOf f) lo (lo+n))
  (Q:=λc f=>c=(none,())/\Good b a₀ a f/\Ss blt (arrOf f) lo (lo+n)/\kX (arrOf st) (arrOf f) lo (lo+n)) ?_ ?_ ⟨rfl,g,?_,kX.refl _ _ _⟩) ?_)
 ·(intro k c m V Y p; obtain ⟨rfl,t,q,F⟩ := p)
  have W:(arrOf m).size=a₀.size:=t.size
  dsimp only
  refine Az (Ij (Fb
   (I:=λy c f=>f=m/\∃l r,c=(none,l,r)/\l<=r/\r<=k/\r - l+y<=k/\(∀i,i<l->le blt (X (arrOf m) (lo+i)) (X (arrOf m) (lo+k)))/\(∀i,r<=i->i<k->blt (X (arrOf m) (lo+k)) (X (arrOf m) (lo+i))=true))
   (Q:=λc f=>f=m/\∃l,c=(none,l,l)/\l<=k/\(∀i,i<l->le blt (X (arrOf m) (lo+i)) (X (arrOf m) (lo+k)))/\(∀i,l<=i->i<k->blt (X (arrOf m) (lo+k)) (X (arrOf m) (lo+i))=true)) ?_ ?_
   ⟨rfl,0,k,rfl,by omega,by omega,by omega,λi L=>by omega,λi h1 h2=>by omega⟩) ?_)
  ·(intro y c o _ Z p; obtain ⟨rfl,l,r,rfl,T,D,M,v,u⟩ := p)
   dsimp only
   by_cases z:l ≥ r
   ·rw[if_pos z]
    have e:l=r:=by omega
    subst e
    exact Bk ⟨rfl,l,rfl,D,v,u⟩
   ·rw[if_neg z]
    refine Az (Wk C t h0 (by omega) (by omega) ?_)
    dsimp only
    cases O:blt (X (arrOf o) (lo+k)) (X (arrOf o) (lo+(l+r) / 2)) with
    | true =>
     rw[if_pos rfl]
     exact Bk ⟨rfl,l,(l+r) / 2,rfl,by omega,by omega,by omega,v,λi B G=>C.ltLe O (q _ _ (by omega) (by omega) (by omega))⟩
    | false =>
     rw[if_neg Cg]
     exact Bk ⟨rfl,(l+r) / 2+1,r,rfl,by omega,D,by omega,λi L=>C.trans (q _ _ (by omega) (by omega) (by omega)) O,u⟩
  ·(intro c o p; obtain ⟨rfl,l,r,rfl,T,D,M,v,u⟩ := p)
   have : max 0 k=k:=by omega
   rw[this] at M
   have e:l=r:=by omega
   subst e
   exact ⟨rfl,l,rfl,D,v,u⟩
  ·(intro c o p; obtain ⟨rfl,l,rfl,D,v,u⟩ := p)
   dsimp only
   refine Az (lW ?_)
   have K:=λi=>i4 (xs:=arrOf o) (src:=lo+k) (d:=lo+k - (lo+l)) (by omega) (by omega) i
   have N:lo+k - (lo+k - (lo+l))=lo+l:=by omega
   refine Bk ⟨rfl,t.set (bubble_perm _ _ _),λi j B G R=>?_,F.trans λi L=>?_⟩
   ·show le blt (X (bubble (arrOf o) (lo+k) (lo+k - (lo+l))) i) (X (bubble (arrOf o) (lo+k) (lo+k - (lo+l))) j)
    rw[K,K,N]
    by_cases P:i=lo+l
    ·rw[if_pos P]
     by_cases H:j=lo+l
     ·rw[if_pos H]; exact C.refl _
     ·rw[if_neg H]
      by_cases J:lo+l<j/\j<=lo+k
      ·rw[if_pos J]
       have:=u (j - 1 - lo) (by omega) (by omega)
       rw[show lo+(j - 1 - lo)=j - 1 by omega] at this
       exact C.ofLt this
      ·exfalso; omega
    ·rw[if_neg P]
     by_cases H:j=lo+l
     ·rw[if_pos H,if_neg (by omega)]
      have:=v (i - lo) (by omega)
      rw[show lo+(i - lo)=i by omega] at this
      exact this
     ·rw[if_neg H]
      by_cases J:lo+l<i/\i<=lo+k
      ·rw[if_pos J,if_pos (by omega)]
       exact q _ _ (by omega) (by omega) (by omega)
      ·rw[if_neg J]
       by_cases S:lo+l<j/\j<=lo+k
       ·rw[if_pos S]
        exact q _ _ (by omega) (by omega) (by omega)
       ·rw[if_neg S]
        exact q _ _ (by omega) (by omega) (by omega)
   ·show X (bubble (arrOf o) (lo+k) (lo+k - (lo+l))) i=X (arrOf o) i
    rw[K,N,if_neg (by omega),if_neg (by omega)]
 ·(intro c m p; obtain ⟨rfl,t,q,F⟩ := p)
  refine ⟨rfl,t,λi j B G R=>q i j B G (by omega),F⟩
 ·intro i j B G R
  by_cases e:i=j
  ·subst e; exact C.refl _
  ·exact h1 i j B G (by omega)
 ·(intro c m p; obtain ⟨rfl,t,q,F⟩ := p)
  exact Bk (h m t q F)
end
abbrev Ox(xs:Array Keyed)(b:Nat)(l:List (Keyed×Nat)):Array Keyed:=l.foldl (λa x=>match x with | (p,j)=>a.setIfInBounds (b+j) p) xs
theorem cM(b:Nat):∀(l:List Keyed) (o:Nat) (xs:Array Keyed),b+o+l.length<=xs.size->(Ox xs b (l.zipIdx o)).size=xs.size/\∀i:Nat,(Ox xs b (l.zipIdx o))[i]? = if b+o<=i/\i<b+o+l.length then l[i - (b+o)]? else xs[i]?
 | [],o,xs,_=>⟨rfl,λi=>by rw[if_neg (by rw[Fz]; omega)]; rfl⟩
 | x::l,o,xs,h=>by
  rw[Bi] at h
  have c:=cM b l (o+1) (xs.setIfInBounds (b+o) x) (by rw[Qx]; omega)
  have e:Ox xs b ((x::l).zipIdx o)=Ox (xs.setIfInBounds (b+o) x) b (l.zipIdx (o+1)):=by
   rw[List.zipIdx_cons]
   rfl
  rw[e]
  refine ⟨c.1.trans (Qx),λi=>?_⟩
  rw[c.2 i,Bi]
  by_cases a:b+(o+1)<=i/\i<b+(o+1)+l.length
  ·rw[if_pos a,if_pos (by omega)]
   rw[show i - (b+o)=(i - (b+(o+1)))+1 by omega,pB]
  ·rw[if_neg a]
   by_cases d:i=b+o
   ·subst d
    rw[if_pos (by omega),Array.getElem?_setIfInBounds_self_of_lt (by omega),Nat.sub_self]
    rfl
   ·rw[if_neg (by omega),Array.getElem?_setIfInBounds_ne (by omega)]
theorem rN{xs m:Array Keyed}{b n:Nat}(hb:b+n<=xs.size)(j:m.size=n)(c:m.toList.Perm ((xs.toList.drop b).take n)):(Ox xs b m.toList.zipIdx).Perm xs:=by
 have d:=cM b m.toList 0 xs (by rw[An]; omega)
 have e:(Ox xs b m.toList.zipIdx).toList=xs.toList.take b++(m.toList++xs.toList.drop (b+n)):=by
  apply Hd
  intro i
  have a:=d.2 i
  rw[An,j] at a
  have h:(Ox xs b m.toList.zipIdx).toList[i]? = (Ox xs b m.toList.zipIdx)[i]?:=by simp
  rw[h,a]
  have lt:(xs.toList.take b).length=b:=by rw[Cu,An]; omega
  by_cases g:i<b
  ·rw[if_neg (by omega),Iz (by omega),Jk g]
   simp
  ·rw[Fq (by omega),lt]
   by_cases k:i<b+n
   ·rw[if_pos (by omega),Iz (by rw[An]; omega)]
    congr 1
   ·rw[if_neg (by omega),Fq (by rw[An]; omega),Yn,An]
    rw[show b+n+(i - b - m.size)=i by omega]
    simp
 refine Array.perm_iff_toList_perm.mpr ?_
 rw[e]
 have f:xs.toList=xs.toList.take b++((xs.toList.drop b).take n++xs.toList.drop (b+n)):=by
  conv=>lhs; rw[<- Dv b xs.toList]
  congr 1
  conv=>lhs; rw[<- Dv n (xs.toList.drop b)]
  rw[List.drop_drop]
 conv=>rhs; rw[f]
 exact Ka _ (List.Perm.append_right _ c)
theorem Xn{xs:Array Keyed}{a n:Nat}(h:a+n<=xs.size){i:Nat}(b:i<n):(xs.extract a (a+n))[i]? = some (X xs (a+i)):=by
 rw[Array.getElem?_extract,if_pos (by omega)]
 exact Zc (by omega)
theorem Sj{xs:Array Keyed}{a n:Nat}(h:a+n<=xs.size):(xs.extract a (a+n)).size=n:=by
 rw[Array.size_extract]
 omega
theorem Wm{xs:Array Keyed}{a n:Nat}(h:a+n<=xs.size){x:Keyed}(d:x∈(xs.extract a (a+n)).toList):∃i,i<n/\x=X xs (a+i):=by
 obtain ⟨i,b,e⟩:=Ht.mp d
 rw[An,Sj h] at b
 refine ⟨i,b,?_⟩
 have f:=Xn h b
 have c:(xs.extract a (a+n)).toList[i]? = some x:=by rw[<- e,<- Bj]
 rw[Ir,f] at c
 exact (Bl c).symm
section
variable{prog:Bq}{w:World}{A:Df}{s:Al}{kd:Mk}{Ok:Keyed->Prop}{blt:Keyed->Keyed->Bool}{E:Value->Al->Prop}{a₀:Array Keyed}{f:Array (Nat×Nat×Nat)}
theorem bY(C:Cmp prog w A s kd Ok blt){xs:Array Keyed}{a n c d:Nat}(h:a+n<=xs.size)(k:Ss blt xs c d)(h1:c<=a)(p:a+n<=d):(xs.extract a (a+n)).toList.Pairwise (le blt):=by
 rw[Ew]
 intro i j b e o
 rw[An,Sj h] at b e
 have f:(xs.extract a (a+n)).toList[i]? = some (X xs (a+i)):=by rw[Ir]; exact Xn h b
 have g:(xs.extract a (a+n)).toList[j]? = some (X xs (a+j)):=by rw[Ir]; exact Xn h e
 obtain ⟨_,m⟩:=Ak.mp f
 obtain ⟨_,l⟩:=Ak.mp g
 rw[m,l]
 exact k _ _ (by omega) (by omega) (by omega)
theorem oH(C:Cmp prog w A s kd Ok blt){xs:Array Keyed}{a b c:Nat}(m:a<b)(h1:Ss blt xs a b)(f:Ss blt xs b c)(h:le blt (X xs (b - 1)) (X xs b)):Ss blt xs a c:=λi j g d e=>by
 by_cases k:j<b
 ·exact h1 i j g d k
 ·by_cases l:b<=i
  ·exact f i j l d e
  ·exact C.trans (h1 i (b - 1) g (by omega) (by omega)) (C.trans h (f b j (Aj _) (by omega) e))
structure Good0(kd:Mk)(a₀:Array Keyed)(st:Bx):Prop where
 kind:kindOf st=kd
 fail:Mj st=none
 perm:(arrOf st).Perm a₀
theorem Good0.size{st:Bx}(g:Good0 kd a₀ st):(arrOf st).size=a₀.size:=g.perm.size_eq
theorem Good0.okX{st:Bx}(g:Good0 kd a₀ st)(h0:∀x∈a₀.toList,Ok x){i:Nat}(a:i<a₀.size):Ok (X (arrOf st) i):=by
 have e:=Zc (xs:=arrOf st) (i:=i) (by rw[g.size]; exact a)
 exact h0 _ ((Py.mp g.perm).mem_iff.mp (Kk e))
theorem D0{st:Bx}(g:Good0 kd a₀ st)(h0:∀x∈a₀.toList,Ok x){b n:Nat}(h:b+n<=a₀.size):Row Ok (arrOf st) b n (λi=>X (arrOf st) (b+i)) :=
 ⟨λi a=>Zc (by rw[g.size]; omega),λi a=>g.okX h0 (by omega)⟩
theorem EU{st a:Bx}{Q:Unit->Bx->Prop}(h:Q () a):wpS (model prog w) A E s (set a:StateT Bx Sem Unit) Q st:=by
 unfold wpS
 rw[StateT.run_set]
 exact Aw ⟨rfl,h⟩
theorem qV(C:Cmp prog w A s kd Ok blt){st:Bx}(g:Good0 kd a₀ st)(h0:∀x∈a₀.toList,Ok x){i f p W j q pb:Nat}(hi:(Bg st)[i]? = some (f,p,W))(hj:(Bg st)[i+1]? = some (j,q,pb))(e1:j=f+p)(n1:1<=p)(n2:1<=q)(hz:j+q<=a₀.size)(K:Ss blt (arrOf st) f j)(F:Ss blt (arrOf st) j (j+q)){Q:Bool->Bx->Prop}(h:∀v,Good0 kd a₀ v->Bg v=((Bg st).setIfInBounds i (f,p+q,W)).eraseIdxIfInBounds (i+1)->Ss blt (arrOf v) f (j+q)->kX (arrOf st) (arrOf v) f (j+q)->Q true v):wpS (model prog w) A E s (Wa i) Q st:=by
 have V:(arrOf st).size=a₀.size:=g.size
 unfold Wa
 refine Az (Nk ?_)
 rw[hi,hj]
 dsimp only
 refine Az (EU ?_)
 refine Az (Gq (Zc (xs:=arrOf st) (i:=j) (by rw[V]; omega)) ?_)
 show wpS (model prog w) A E s _ _ (SortSt.mk' (kindOf st) (arrOf st) (((Bg st).setIfInBounds i (f,p+q,W)).eraseIdxIfInBounds (i+1)) (gallopOf st) (Mj st))
 generalize t:SortSt.mk' (kindOf st) (arrOf st) (((Bg st).setIfInBounds i (f,p+q,W)).eraseIdxIfInBounds (i+1)) (gallopOf st) (Mj st)=st1
 have M:kindOf st1=kd:=by rw[<- t]; exact g.kind
 have D:arrOf st1=arrOf st:=by rw[<- t]
 have N:Bg st1=((Bg st).setIfInBounds i (f,p+q,W)).eraseIdxIfInBounds (i+1):=by rw[<- t]
 have Z:Mj st1=none:=by rw[<- t]; exact g.fail
 have g1:Good0 kd a₀ st1:=⟨M,Z,by rw[D]; exact g.perm⟩
 have same:Good0 kd a₀ st1->Ss blt (arrOf st) f (j+q)->Q true st1:=λgg as=>h st1 gg N (by rw[D]; exact as) (by rw[D]; exact kX.refl _ _ _)
 refine Az (Of C (hint:=0) (n:=p) (D0 g h0 (b:=f) (n:=p) (by omega)) (g.okX h0 (i:=j) (by omega)) M (by omega) (λa c h7 hc S=>?_) λk kn t1 t2=>?_)
 ·simp only[Ia,Bw,if_false,Kz] at S ⊢
  exact C.trans (K _ _ (by omega) (by omega) (by omega)) S
 dsimp only
 have f1:∀m,m<k->le blt (X (arrOf st) (f+m)) (X (arrOf st) j):=λm u=>by
  have:=t1 m u
  have z:blt (X (arrOf st) j) (X (arrOf st) (f+m))=false:=by simpa only [Ia,Bw,if_false,Kz] using this
  exact z
 by_cases R:p - k=0
 ·rw[if_pos (by rw[R]; rfl)]
  refine Bk (same g1 (oH C (by omega) K F ?_))
  have:=f1 (p - 1) (by omega)
  rw[show f+(p - 1)=j - 1 by omega] at this
  exact this
 rw[if_neg (λz=>R (Ed z))]
 have f2:blt (X (arrOf st) j) (X (arrOf st) (f+k))=true:=by
  have:=t2 k (Aj _) (by omega)
  simpa only [Ia,Bw,if_false,Yp] using this
 have el:f+k+(p - k) - 1=j - 1:=by omega
 rw[el]
 refine Az (Gq (Zc (xs:=arrOf st) (i:=j - 1) (by rw[V]; omega)) ?_)
 refine Az (Of C (hint:=q - 1) (n:=q) (D0 g h0 (b:=j) (n:=q) (by omega)) (g.okX h0 (i:=j - 1) (by omega)) M (by omega) (λa c h7 hc S=>?_) λl ln u1 u2=>?_)
 ·simp only[Ia,if_true] at S ⊢
  exact C.leLt (F _ _ (by omega) (by omega) (by omega)) S
 dsimp only
 have f3:∀m,m<l->blt (X (arrOf st) (j+m)) (X (arrOf st) (j - 1))=true:=λm u=>by
  have:=u1 m u
  simpa only [Ia,if_true] using this
 have f4:∀m,l<=m->m<q->le blt (X (arrOf st) (j - 1)) (X (arrOf st) (j+m)):=λm h1 h2=>by
  have:=u2 m h1 h2
  have z:blt (X (arrOf st) (j+m)) (X (arrOf st) (j - 1))=false:=by simpa only [Ia,if_true] using this
  exact z
 by_cases c2:l=0
 ·rw[if_pos (by rw[c2]; rfl)]
  subst c2
  exact Bk (same g1 (oH C (by omega) K F (f4 0 (Aj _) (by omega))))
 rw[if_neg (λz=>c2 (Ed z))]
 have ep:(arrOf st).extract (f+k) j=(arrOf st).extract (f+k) (f+k+(p - k)):=by rw[show f+k+(p - k)=j by omega]
 rw[ep]
 have I:f+k+(p - k)<=(arrOf st).size:=by omega
 have L:j+l<=(arrOf st).size:=by omega
 have T:Two Ok blt ((arrOf st).extract (f+k) (f+k+(p - k))) ((arrOf st).extract j (j+l)) (X (arrOf st) (f+k)) (X (arrOf st) j) (X (arrOf st) (j - 1)):=by
  refine ⟨λx O=>?_,λx O=>?_,bY C I K (by omega) (by omega),bY C L F (by omega) (by omega),?_,?_,?_,f2,λy hy=>?_⟩
  ·obtain ⟨m,u,rfl⟩:=Wm I O
   exact g.okX h0 (by omega)
  ·obtain ⟨m,u,rfl⟩:=Wm L O
   exact g.okX h0 (by omega)
  ·exact Xn I (by omega)
  ·exact Xn L (by omega)
  ·rw[Sj I,Xn I (by omega),show f+k+(p - k - 1)=j - 1 by omega]
  ·obtain ⟨m,u,rfl⟩:=Wm L hy
   exact f3 m u
 -- qB the merge
 have P:∀(r:Array Keyed) (o:Bx),Kept st1 o->rY blt ((arrOf st).extract (f+k) (f+k+(p - k))) ((arrOf st).extract j (j+l)) r ->
   Q (Mj (setArr o (Ox (arrOf o) (f+k) r.toList.zipIdx))).isNone (setArr o (Ox (arrOf o) (f+k) r.toList.zipIdx)):=by
  intro r o kp G
  have J:arrOf o=arrOf st:=kp.arr.trans D
  have h6:Mj o=none:=kp.fail.trans Z
  have Y:r.size=p - k+l:=by
   have:=G.1.length_eq
   rw[Ar,An,An,An,Sj I,Sj L] at this
   exact this
  have h5:((arrOf st).toList.drop (f+k)).take (p - k+l)=((arrOf st).extract (f+k) (f+k+(p - k))).toList++((arrOf st).extract j (j+l)).toList:=by
   rw[Wf,Wf,List.take_add,List.drop_drop,show f+k+(p - k)=j by omega]
  have h3:=cM (f+k) r.toList 0 (arrOf st) (by rw[An]; omega)
  have H:∀m,X (Ox (arrOf st) (f+k) r.toList.zipIdx) m=if f+k<=m/\m<j+l then X r (m - (f+k)) else X (arrOf st) m:=λm=>by
   have:=h3.2 m
   rw[An,Y,Nat.add_zero] at this
   by_cases u:f+k<=m/\m<j+l
   ·rw[if_pos u]
    rw[if_pos (by omega)] at this
    refine Rl (this.trans ?_)
    simp
   ·rw[if_neg u]
    rw[if_neg (by omega)] at this
    exact Rl this
  -- each thing of the merged is one of the two runs'
  have B:∀m,m<p - k+l->(∃c,f+k<=c/\c<j/\X r m=X (arrOf st) c)\/(∃c,j<=c/\c<j+l/\X r m=X (arrOf st) c):=λm u=>by
   have O:=Kk (Zc (xs:=r) (i:=m) (by omega))
   rcases Am.mp (G.1.mem_iff.mp O) with z | z
   ·obtain ⟨c,hc,e⟩:=Wm I z
    exact .inl ⟨f+k+c,by omega,by omega,e⟩
   ·obtain ⟨c,hc,e⟩:=Wm L z
    exact .inr ⟨j+c,by omega,by omega,e⟩
  have rs:∀m n,m<=n->n<p - k+l->le blt (X r m) (X r n):=λm n h4 hn=>Lx C G.2 h4 (Ey (Zc (by omega))) (Ey (Zc (by omega)))
  have e3:Mj (setArr o (Ox (arrOf o) (f+k) r.toList.zipIdx))=none:=h6
  rw[e3]
  refine h _ ⟨kp.kind.trans M,e3,?_⟩ (kp.pend.trans N) ?_ ?_
  ·show (Ox (arrOf o) (f+k) r.toList.zipIdx).Perm a₀
   rw[J]
   refine (rN (by omega) Y ?_).trans g.perm
   rw[h5]
   exact G.1
  ·show Ss blt (Ox (arrOf o) (f+k) r.toList.zipIdx) f (j+q)
   rw[J]
   intro c d R cd d1
   rw[H,H]
   by_cases zc:f+k<=c/\c<j+l
   ·rw[if_pos zc]
    by_cases zd:f+k<=d/\d<j+l
    ·rw[if_pos zd]
     exact rs _ _ (by omega) (by omega)
    ·rw[if_neg zd]
     rcases B (c - (f+k)) (by omega) with ⟨b,U,b2,e⟩ | ⟨b,U,b2,e⟩
     ·rw[e]
      refine C.trans (K b (j - 1) (by omega) (by omega) (by omega)) ?_
      have:=f4 (d - j) (by omega) (by omega)
      rw[show j+(d - j)=d by omega] at this
      exact this
     ·rw[e]
      exact F b d U (by omega) (by omega)
   ·rw[if_neg zc]
    by_cases zd:f+k<=d/\d<j+l
    ·rw[if_pos zd]
     rcases B (d - (f+k)) (by omega) with ⟨b,U,b2,e⟩ | ⟨b,U,b2,e⟩
     ·rw[e]
      exact K c b R (by omega) b2
     ·rw[e]
      have:=f1 (c - f) (by omega)
      rw[show f+(c - f)=c by omega] at this
      exact C.trans this (F j b (Aj _) U (by omega))
    ·rw[if_neg zd]
     by_cases y1:d<j
     ·exact K c d R cd y1
     ·by_cases y2:j<=c
      ·exact F c d y2 cd d1
      ·have:=f1 (c - f) (by omega)
       rw[show f+(c - f)=c by omega] at this
       exact C.trans this (F j d (Aj _) (by omega) d1)
  ·show kX (arrOf st) (Ox (arrOf o) (f+k) r.toList.zipIdx) f (j+q)
   rw[J]
   intro m u
   rw[H,if_neg (by omega)]
 by_cases c3:p - k<=l
 ·rw[if_pos c3]
  refine Az (qI C T M λr o kp G=>?_)
  exact Az (Kr (Az (Nk (Bk (P r o kp G)))))
 ·rw[if_neg c3]
  refine Az (qP C T M λr o kp G=>?_)
  exact Az (Kr (Az (Nk (Bk (P r o kp G)))))
end
def fX:StateT Bx Sem Unit:=sortPriv% PySem.Builtin.sortRuns
def Runs(blt:Keyed->Keyed->Bool)(xs:Array Keyed):List (Nat×Nat×Nat)->Nat->Nat->Prop
 | [],a,b=>a=b
 | (s,n,_)::r,a,b=>s=a/\1<=n/\Ss blt xs a (a+n)/\Runs blt xs r (a+n) b
variable{blt:Keyed->Keyed->Bool}
theorem Runs.len{xs:Array Keyed}:∀{l:List (Nat×Nat×Nat)} {a b:Nat},Runs blt xs l a b->a+l.length<=b
 | [],a,b,h=>by
  have e:a=b:=h
  rw[Fz]
  omega
 | (s,n,p)::r,a,b,h=>by
  have:=Runs.len h.2.2.2
  have:=h.2.1
  rw[Bi]
  omega
theorem Ss.out{xs ys:Array Keyed}{a b c d:Nat}(h:Ss blt xs a b)(o:kX xs ys c d)(e:b<=c\/d<=a):Ss blt ys a b:=λi j g f k=>by
 rw[o i (by omega),o j (by omega)]
 exact h i j g f k
theorem Runs.out{xs ys:Array Keyed}{c d:Nat}(o:kX xs ys c d):∀{l:List (Nat×Nat×Nat)} {a b:Nat},(b<=c\/d<=a)->Runs blt xs l a b->Runs blt ys l a b
 | [],_,_,_,h=>h
 | (s,n,p)::r,a,b,e,h=>by
  have f:=Runs.len h.2.2.2
  exact ⟨h.1,h.2.1,h.2.2.1.out o (by omega),Runs.out o (by omega) h.2.2.2⟩
theorem Runs.push{xs:Array Keyed}{m q:Nat}(c:1<=m):∀{l:List (Nat×Nat×Nat)} {a b:Nat},Runs blt xs l a b->Ss blt xs b (b+m)->Runs blt xs (l++[(b,m,q)]) a (b+m)
 | [],a,b,h,hs=>by
  have e:a=b:=h
  subst e
  exact ⟨rfl,c,hs,rfl⟩
 | (s,n,p)::r,a,b,h,hs=>⟨h.1,h.2.1,h.2.2.1,Runs.push c h.2.2.2 hs⟩
theorem Runs.power{xs:Array Keyed}{c:Nat}:∀{l:List (Nat×Nat×Nat)} {a b:Nat} (k:Nat),Runs blt xs l a b->Runs blt xs (l.modify k λx=>(x.1,x.2.1,c)) a b
 | [],_,_,k,h=>by simpa using h
 | (s,n,p)::r,a,b,0,h=>by
  rw[List.modify_zero_cons]
  exact h
 | (s,n,p)::r,a,b,k+1,h=>by
  rw[List.modify_succ_cons]
  exact ⟨h.1,h.2.1,h.2.2.1,Runs.power k h.2.2.2⟩
theorem Runs.two{xs:Array Keyed}:∀{l:List (Nat×Nat×Nat)} {a b i d g j c f k:Nat},Runs blt xs l a b->l[i]? = some (d,g,j)->l[i+1]? = some (c,f,k)->c=d+g/\1<=g/\1<=f/\a<=d/\c+f<=b/\Ss blt xs d c/\Ss blt xs c (c+f)
 | [],_,_,_,_,_,_,_,_,_,_,h,_=>by simp at h
 | (s,n,p)::r,a,b,0,d,g,j,c,f,k,h,h1,h2=>by
  obtain ⟨e,C,F,D⟩:=h
  have q:s=d/\n=g/\p=j:=by simpa using h1
  obtain ⟨v,o,u⟩:=q
  subst v o u
  subst e
  cases r with
  | nil=>simp at h2
  | cons y G =>
   obtain ⟨z,A,B⟩:=y
   have E:z=c/\A=f/\B=k:=by simpa using h2
   obtain ⟨v,o,u⟩:=E
   subst v o u
   obtain ⟨m,x,w,t⟩:=D
   have:=Runs.len t
   exact ⟨m,C,x,Aj _,by omega,by rw[m]; exact F,by rw[m]; exact w⟩
 | (s,n,p)::r,a,b,i+1,d,g,j,c,f,k,h,h1,h2=>by
  have:=Runs.two h.2.2.2 (by simpa using h1) (by simpa using h2)
  exact ⟨this.1,this.2.1,this.2.2.1,by have:=this.2.2.2.1; have:=h.2.1; omega,this.2.2.2.2.1,this.2.2.2.2.2⟩
theorem Runs.merge{xs ys:Array Keyed}:∀{l:List (Nat×Nat×Nat)} {a b i c g k f d m:Nat},Runs blt xs l a b->l[i]? = some (c,g,k)->l[i+1]? = some (f,d,m)->kX xs ys c (f+d)->Ss blt ys c (f+d)->Runs blt ys ((l.set i (c,g+d,k)).eraseIdx (i+1)) a b
 | [],_,_,_,_,_,_,_,_,_,_,h,_,_,_=>by simp at h
 | (s,n,p)::r,a,b,0,c,g,k,f,d,m,h,h1,h2,o,as=>by
  have x:=Runs.two h h1 h2
  obtain ⟨e,G,I,D⟩:=h
  have q:s=c/\n=g/\p=k:=by simpa using h1
  obtain ⟨w,t,v⟩:=q
  subst w t v
  subst e
  cases r with
  | nil=>simp at h2
  | cons y H =>
   obtain ⟨z,j,C⟩:=y
   have E:z=f/\j=d/\C=m:=by simpa using h2
   obtain ⟨w,t,v⟩:=E
   subst w t v
   obtain ⟨F,B,A,u⟩:=D
   rw[List.set_cons_zero,Rv,List.eraseIdx_cons_zero]
   refine ⟨rfl,by omega,?_,?_⟩
   ·rw[show s+(n+j)=z+j by omega]
    exact as
   ·rw[show s+(n+j)=s+n+j by omega]
    exact Runs.out o (.inr (by omega)) u
 | (s,n,p)::r,a,b,i+1,c,g,k,f,d,m,h,h1,h2,o,as=>by
  have x:=Runs.two (i:=i) h.2.2.2 (by simpa using h1) (by simpa using h2)
  rw[List.set_cons_succ,Rv]
  exact ⟨h.1,h.2.1,h.2.2.1.out o (.inl x.2.2.2.1),Runs.merge h.2.2.2 (by simpa using h1) (by simpa using h2) o as⟩
theorem gB(P:Array (Nat×Nat×Nat))(i:Nat)(v:Nat×Nat×Nat):((P.setIfInBounds i v).eraseIdxIfInBounds (i+1)).toList=(P.toList.set i v).eraseIdx (i+1):=by
 rw[Array.toList_eraseIdxIfInBounds,iF]
section
variable{prog:Bq}{w:World}{A:Df}{s:Al}{a:Mk}{Ok:Keyed->Prop}{E:Value->Al->Prop}{a₀:Array Keyed}
theorem Pj{a:Type}{c:Prop}[Decidable c]{p q:StateT Bx Sem a}{Q:a->Bx->Prop}{st:Bx}(h1:c->wpS (model prog w) A E s p Q st)(b:¬ c->wpS (model prog w) A E s q Q st):wpS (model prog w) A E s (if c then p else q) Q st:=by
 by_cases h:c
 ·rw[if_pos h]; exact h1 h
 ·rw[if_neg h]; exact b h
theorem kP(C:Cmp prog w A s a Ok blt){st:Bx}(g:Good0 a a₀ st)(h0:∀x∈a₀.toList,Ok x){lo i:Nat}(r:lo<=a₀.size)(m:Runs blt (arrOf st) (Bg st).toList 0 lo)(q:i+1<(Bg st).size){Q:Bool->Bx->Prop}(h:∀b,Good0 a a₀ b->Runs blt (arrOf b) (Bg b).toList 0 lo->(Bg b).size+1=(Bg st).size->(∀c d,lo<=c->Ss blt (arrOf st) c d->Ss blt (arrOf b) c d)->Q true b):wpS (model prog w) A E s (Wa i) Q st:=by
 obtain ⟨⟨p,o,B⟩,j⟩ : ∃x,(Bg st)[i]? = some x:=⟨(Bg st)[i],by simp⟩
 obtain ⟨⟨I,u,J⟩,n⟩ : ∃x,(Bg st)[i+1]? = some x:=⟨(Bg st)[i+1],by simp⟩
 have e:(Bg st).toList[i]? = some (p,o,B):=by simpa using j
 have f:(Bg st).toList[i+1]? = some (I,u,J):=by simpa using n
 obtain ⟨z,y,F,M,K,H,t⟩:=m.two e f
 refine qV C g h0 j n z y F (by omega) H t λb v k D l=>?_
 refine h b v ?_ ?_ λc d L G=>G.out l (.inr (by omega))
 ·rw[k,gB]
  exact m.merge e f l D
 ·have : (Bg b).toList.length+1=(Bg st).toList.length:=by
   rw[k,gB,List.length_eraseIdx,List.length_set,An,if_pos q]
   omega
  simpa using this
theorem S5{st:Bx}(g:Good0 a a₀ st):Good a a₀ (Bg st) st:=⟨g.kind,g.fail,g.perm,rfl⟩
theorem oS{st:Bx}{p:Array (Nat×Nat×Nat)}(g:Good a a₀ p st):Good0 a a₀ st:=⟨g.kind,g.fail,g.perm⟩
theorem vY(C:Cmp prog w A s a Ok blt){st:Bx}(g:Good0 a a₀ st)(h0:∀x∈a₀.toList,Ok x)(hp:Bg st=#[])(hz:1<=a₀.size){Q:Unit->Bx->Prop}(h:∀d,Good0 a a₀ d->Ss blt (arrOf d) 0 a₀.size->Q () d):wpS (model prog w) A E s fX Q st:=by
 unfold fX
 refine Az (Nk ?_)
 have h2:(arrOf st).size=a₀.size:=g.size
 dsimp only
 rw[h2]
 generalize (sortPriv% PySem.Builtin.minRun) a₀.size a₀.size 0=mr
 refine Az (Ij (Fb
  (I:=λx c d=>∃lo,c=(none,lo)/\Good0 a a₀ d/\Runs blt (arrOf d) (Bg d).toList 0 lo/\lo<=a₀.size/\x<=lo)
  (Q:=λc d=>c=(none,a₀.size)/\Good0 a a₀ d/\Runs blt (arrOf d) (Bg d).toList 0 a₀.size) ?_ ?_ ⟨0,rfl,g,by rw[hp]; exact rfl,by omega,by omega⟩) ?_)
 ·(intro x c W _ hx q; obtain ⟨lo,rfl,P,H,M,T⟩ := q)
  dsimp only
  by_cases U:lo ≥ a₀.size
  ·rw[if_pos U]
   have e:lo=a₀.size:=by omega
   subst e
   exact Bk ⟨rfl,P,H⟩
  rw[if_neg U]
  refine Az (i7 C (S5 P) h0 (lo:=lo) (b:=a₀.size - lo) (by omega) (by omega) λm j v Z m2 O ou=>?_)
  dsimp only
  have k:Runs blt (arrOf j) (Bg j).toList 0 lo:=by
   rw[v.pd]
   exact H.out ou (.inl (Aj _))
  have D:=oS v
  clear H P
  refine Pj (λG=>?_) (λG=>?_)
  ·refine Az (Tt ?_)
   refine Az (wF C v h0 (lo:=lo) (n:=min (a₀.size - lo) mr) (ok:=m) (by omega) O (by omega) λRe J K S=>?_)
   refine Pj (λz=>absurd z (by decide)) (λ_=>?_)
   have V:1<=min (a₀.size - lo) mr:=by omega
   have R:lo+min (a₀.size - lo) mr<=a₀.size:=by omega
   have u:Runs blt (arrOf Re) (Bg Re).toList 0 lo:=by
    rw[J.pd,<- v.pd]
    exact k.out S (.inl (Aj _))
   have F:=oS J
   generalize min (a₀.size - lo) mr=n at K V R
   clear v D k O ou S J Z m2 G
   refine Az (Nk ?_)
   cases hb:(Bg Re).back? with
   | none =>
    dsimp only
    refine Az (Kr ?_)
    refine Bk ⟨lo+n,rfl,⟨F.kind,F.fail,F.perm⟩,?_,R,by omega⟩
    show Runs blt (arrOf Re) ((Bg Re).push (lo,n,0)).toList 0 (lo+n)
    rw[Kq]
    exact u.push V K
   | some y =>
    obtain ⟨s1,l1,p1⟩:=y
    dsimp only
    refine Az (Ij (Fb
     (I:=λ_ c d=>c=(none,())/\Good0 a a₀ d/\Runs blt (arrOf d) (Bg d).toList 0 lo/\Ss blt (arrOf d) lo (lo+n))
     (Q:=λc d=>c=(none,())/\Good0 a a₀ d/\Runs blt (arrOf d) (Bg d).toList 0 lo/\Ss blt (arrOf d) lo (lo+n)) ?_ (λ_ _ z=>z) ⟨rfl,F,u,K⟩) ?_)
    ·(intro z c f _ _ q; obtain ⟨rfl,t,p,o⟩ := q)
     refine Az (Nk ?_)
     by_cases B:(Bg f).size > 1
     ·rw[if_pos B]
      obtain ⟨⟨a1,b1,N⟩,ho⟩ : ∃x,(Bg f)[(Bg f).size - 2]? = some x:=⟨(Bg f)[(Bg f).size - 2],by simp⟩
      rw[ho]
      dsimp only
      refine Pj (λ_=>Bk ⟨rfl,t,p,o⟩) (λ_=>?_)
      refine Az (kP C t h0 M p (i:=(Bg f).size - 2) (show (Bg f).size - 2+1<(Bg f).size by omega) λh5 g5 L _ keep=>?_)
      refine Pj (λz=>absurd z (by decide)) (λ_=>?_)
      exact Bk ⟨rfl,g5,L,keep _ _ (Aj _) o⟩
     ·rw[if_neg B]
      exact Bk ⟨rfl,t,p,o⟩
    ·(intro c f q; obtain ⟨rfl,t,p,o⟩ := q)
     dsimp only
     refine Az (Kr ?_)
     refine Az (Kr ?_)
     refine Bk ⟨lo+n,rfl,⟨t.kind,t.fail,t.perm⟩,?_,R,by omega⟩
     show Runs blt (arrOf f) (((Bg f).modify ((Bg f).size - 1) _).push (lo,n,0)).toList 0 (lo+n)
     rw[Kq,Array.toList_modify]
     exact (p.power _).push V o
  ·have R:lo+m<=a₀.size:=by omega
   refine Az (Nk ?_)
   cases hb:(Bg j).back? with
   | none =>
    dsimp only
    refine Az (Kr ?_)
    refine Bk ⟨lo+m,rfl,⟨D.kind,D.fail,D.perm⟩,?_,R,by omega⟩
    show Runs blt (arrOf j) ((Bg j).push (lo,m,0)).toList 0 (lo+m)
    rw[Kq]
    exact k.push Z O
   | some y =>
    obtain ⟨s1,l1,p1⟩:=y
    dsimp only
    refine Az (Ij (Fb
     (I:=λ_ c d=>c=(none,())/\Good0 a a₀ d/\Runs blt (arrOf d) (Bg d).toList 0 lo/\Ss blt (arrOf d) lo (lo+m))
     (Q:=λc d=>c=(none,())/\Good0 a a₀ d/\Runs blt (arrOf d) (Bg d).toList 0 lo/\Ss blt (arrOf d) lo (lo+m)) ?_ (λ_ _ z=>z) ⟨rfl,D,k,O⟩) ?_)
    ·(intro z c f _ _ q; obtain ⟨rfl,t,p,o⟩ := q)
     refine Az (Nk ?_)
     by_cases B:(Bg f).size > 1
     ·rw[if_pos B]
      obtain ⟨⟨a1,b1,N⟩,ho⟩ : ∃x,(Bg f)[(Bg f).size - 2]? = some x:=⟨(Bg f)[(Bg f).size - 2],by simp⟩
      rw[ho]
      dsimp only
      refine Pj (λ_=>Bk ⟨rfl,t,p,o⟩) (λ_=>?_)
      refine Az (kP C t h0 M p (i:=(Bg f).size - 2) (show (Bg f).size - 2+1<(Bg f).size by omega) λh5 g5 L _ keep=>?_)
      refine Pj (λz=>absurd z (by decide)) (λ_=>?_)
      exact Bk ⟨rfl,g5,L,keep _ _ (Aj _) o⟩
     ·rw[if_neg B]
      exact Bk ⟨rfl,t,p,o⟩
    ·(intro c f q; obtain ⟨rfl,t,p,o⟩ := q)
     dsimp only
     refine Az (Kr ?_)
     refine Az (Kr ?_)
     refine Bk ⟨lo+m,rfl,⟨t.kind,t.fail,t.perm⟩,?_,R,by omega⟩
     show Runs blt (arrOf f) (((Bg f).modify ((Bg f).size - 1) _).push (lo,m,0)).toList 0 (lo+m)
     rw[Kq,Array.toList_modify]
     exact (p.power _).push Z o
 ·(intro c W q; obtain ⟨lo,rfl,P,H,M,T⟩ := q)
  have : max 0 a₀.size=a₀.size:=by omega
  rw[this] at T
  have e:lo=a₀.size:=by omega
  subst e
  exact ⟨rfl,P,H⟩
 ·(intro c W q; obtain ⟨rfl,P,H⟩ := q)
  dsimp only
  have X:=Runs.len H
  rw[An] at X
  refine Az (Ij (Fb
   (I:=λx c d=>c=(none,())/\Good0 a a₀ d/\Runs blt (arrOf d) (Bg d).toList 0 a₀.size/\((Bg d).size<=1\/(Bg d).size+x<=a₀.size))
   (Q:=λc d=>c=(none,())/\Good0 a a₀ d/\Runs blt (arrOf d) (Bg d).toList 0 a₀.size/\(Bg d).size<=1) ?_ ?_ ⟨rfl,P,H,.inr (by omega)⟩) ?_)
  ·(intro x c j _ hx q; obtain ⟨rfl,v,k,Y⟩ := q)
   refine Az (Nk ?_)
   refine Pj (λh1=>Bk ⟨rfl,v,k,h1⟩) (λh1=>?_)
   have h6:¬ (Bg j).size<=1:=h1
   generalize hB:Option.any _ _=bb
   have h4:∀i,i+1<(Bg j).size->wpS (model prog w) A E s (Wa i) (λr Re=>r=true/\Good0 a a₀ Re/\Runs blt (arrOf Re) (Bg Re).toList 0 a₀.size/\(Bg Re).size+1=(Bg j).size) j :=
    λi hi=>kP C v h0 (Aj _) k hi λRe J u sz _=>⟨rfl,J,u,sz⟩
   refine Az (Ij (h4 _ ?_) λr Re ⟨er,J,u,sz⟩=>?_)
   ·cases bb with
    | true=>show (Bg j).size - 2 - 1+1<(Bg j).size; omega
    | false=>show (Bg j).size - 2+1<(Bg j).size; omega
   subst er
   refine Pj (λz=>absurd z (by decide)) (λ_=>?_)
   exact Bk ⟨rfl,J,u,.inr (by omega)⟩
  ·(intro c j q; obtain ⟨rfl,v,k,Y⟩ := q)
   have : max 0 a₀.size=a₀.size:=by omega
   rw[this] at Y
   exact ⟨rfl,v,k,by omega⟩
  ·(intro c j q; obtain ⟨rfl,v,k,Y⟩ := q)
   dsimp only
   refine Bk (h j v ?_)
   generalize hl:(Bg j).toList=l at k
   have h3:l.length<=1:=by rw[<- hl,An]; exact Y
   match l,k,h3 with
   | [],k,_ =>
    have e:0=a₀.size:=k
    omega
   | [(s1,V,p1)],k,_ =>
    obtain ⟨_,_,O,e⟩:=k
    have e':0+V=a₀.size:=e
    rw[e'] at O
    exact O
end
end Ts
namespace Ts
open PySem PyProof.Rows L2
theorem lex_irr:∀l:List Int,HT.lexLt l l=false
 | []=>rfl
 | x::r=>by rw[HT.lexLt_cons,if_pos rfl]; exact lex_irr r
theorem pU:∀{a b c:List Int},HT.lexLt a b=true->HT.lexLt b c=true->HT.lexLt a c=true
 | [],[],_,h,_=>by rw[HT.lexLt_nil_nil] at h; cases h
 | [],_::_,[],_,h=>by rw[HT.lexLt_cons_nil] at h; cases h
 | [],_::_,_::_,_,_=>HT.lexLt_nil_cons _ _
 | _::_,[],_,h,_=>by rw[HT.lexLt_cons_nil] at h; cases h
 | _::_,_::_,[],_,h=>by rw[HT.lexLt_cons_nil] at h; cases h
 | x::a,y::b,z::c,h1,h2=>by
  rw[HT.lexLt_cons] at h1 h2 ⊢
  by_cases e:x=y
  ·subst e
   rw[if_pos rfl] at h1
   by_cases d:x=z
   ·subst d
    rw[if_pos rfl] at h2 ⊢
    exact pU h1 h2
   ·rw[if_neg d] at h2 ⊢
    exact h2
  ·rw[if_neg e] at h1
   have g:x<y:=of_decide_eq_true h1
   by_cases d:y=z
   ·subst d
    rw[if_neg e]
    exact h1
   ·rw[if_neg d] at h2
    have f:y<z:=of_decide_eq_true h2
    rw[if_neg (by omega)]
    exact decide_eq_true (by omega)
theorem sQ:∀{a b:List Int},HT.lexLt a b=false->HT.lexLt b a=false->a=b
 | [],[],_,_=>rfl
 | [],_::_,h,_=>by rw[HT.lexLt_nil_cons] at h; cases h
 | _::_,[],_,h=>by rw[HT.lexLt_nil_cons] at h; cases h
 | x::a,y::b,h1,h2=>by
  rw[HT.lexLt_cons] at h1 h2
  by_cases e:x=y
  ·subst e
   rw[if_pos rfl] at h1 h2
   rw[sQ h1 h2]
  ·rw[if_neg e] at h1
   rw[if_neg (Oh e)] at h2
   have d:=of_decide_eq_false h1
   have c:=of_decide_eq_false h2
   omega
theorem U9{a b c:List Int}(h:HT.lexLt a c=true):HT.lexLt a b=true\/HT.lexLt b c=true:=by
 cases e:HT.lexLt a b with
 | true=>exact .inl rfl
 | false =>
  cases d:HT.lexLt b a with
  | true=>exact .inr (pU d h)
  | false =>
   rw[<- sQ e d]
   exact .inr h
def LW(c:Addr->List Int)(x:Keyed):List Int:=match x.1 with
 | .ref a=>c a
 | _=>[]
def LZ(c:Addr->List Int)(x y:Keyed):Bool:=HT.lexLt (LW c x) (LW c y)
def vP(c:Addr->List Int)(rs:List Addr)(h:Heap):Prop:=∀r∈rs,∃a:List Value,Lo a (c r)/\IsTup h r a.toArray
section
variable{prog:Bq}{w:World}{A:Df}{E:Value->Al->Prop}{s:Al}{c:Addr->List Int}{rs:List Addr}
theorem vW(j:vP c rs s.heap)(m:A.units<cLine){a b:Addr}(n:a∈rs)(hb:b∈rs){Q:Bool->Al->Prop}(h:Q (HT.lexLt (c a) (c b)) s):wpAny (model prog w) A (oneLt' true (.ref a) (.ref b)) Q E s:=by
 obtain ⟨C,q,⟨B,r,y,e⟩,f,l,u,i⟩:=j a n
 obtain ⟨D,p,⟨z,v,x,d⟩,o,g,t,k⟩:=j b hb
 simp only at l i g k
 subst l i g k
 rw[oneLt'_eq]
 simp only[if_true]
 refine Ag (wpAny_cRoomFor m (Ag (wpAny_callSpecialIfBound?_slot ⟨_,f,rfl⟩ PySem.F.slot_tuple_lt ?_)))
 refine eE PySem.F.slot_tuple_lt ⟨_,f,rfl⟩ PySem.F.entry_tuple_lt (PySem.F.args_tuple_lt_2 _ _) (HT.tuple_lt_ints a b _ _ u t r v e d (c a) (c b) (by simpa using q) (by simpa using p)) ⟨f,o,?_⟩
 exact Ic h
theorem N6(e:vP c rs s.heap)(j:A.units<cLine):Cmp prog w A s oneType' (λx=>∃r∈rs,x.1=.ref r) (LZ c) where
 run:=λx y Q E ⟨r,i,d⟩ ⟨k,a,b⟩ h=>by
  obtain ⟨m,o⟩:=x
  obtain ⟨l,n⟩:=y
  simp only at d b
  subst d b
  rw[keyLt'_oneType]
  exact vW e j i a h
 irr:=λx=>lex_irr _
 tr:=λx y z g f=>pU g f
 neg:=λx y z h=>U9 h
theorem cY:∀{l:List Addr} {Q:List (Option Value)->Al->Prop},(∀r∈l,∃j:List Value,Lo j (c r)/\IsTup s.heap r j.toArray)->(∀fs:List (Option Value),fs.length=l.length->(∀(i:Nat) (r:Addr),l[i]? = some r->∃f,fs[i]? = some f/\(f.isSome=true↔c r≠[]))->Q fs s)->wpAny (model prog w) A ((l.map Bd).mapM dQ) Q E s
 | [],Q,_,h=>by
  rw[Pg,List.mapM_nil]
  exact Aw (h [] rfl λi r e=>by simp at e)
 | r::l,Q,hH,h=>by
  obtain ⟨j,u,o,g,k,n,e⟩:=hH r Aa
  rw[Ax,List.mapM_cons]
  have one:∀{R:Option Value->Al->Prop},R j.toArray[0]? s->wpAny (model prog w) A (dQ (.ref r)) R E s:=λ{R} x=>by
   unfold dQ
   refine Ag (Nl (T := "tuple") ⟨o,g,k⟩ ?_)
   rw[if_neg (by simp)]
   exact Ag (iA g e (Aw x))
  refine Ag (one (Ag (cY (λm p=>hH m (Ad _ p)) λfs v C=>Aw (h _ (by rw[Bi,Bi,v]) λi m t=>?_))))
  cases i with
  | zero =>
   have y:r=m:=by simpa using t
   subst y
   refine ⟨_,rfl,?_⟩
   have d:=u.length
   cases j with
   | nil =>
    cases q:c r with
    | nil=>simp
    | cons _ _=>rw[q] at d; simp at d
   | cons a b =>
    cases q:c r with
    | nil=>rw[q] at d; simp at d
    | cons _ _=>simp
  | succ i =>
   obtain ⟨f,B,z⟩:=C i m (by simpa using t)
   exact ⟨f,by simpa using B,z⟩
theorem fR:∀{l:List Addr} {Q:List Value->Al->Prop},(∀r∈l,∃a:List Value,Lo a (c r)/\IsTup s.heap r a.toArray)->Q (l.map λ_=>Ek "tuple") s->wpAny (model prog w) A ((l.map Bd).mapM typeOf) Q E s
 | [],Q,_,h=>by
  rw[Pg,List.mapM_nil]
  exact Aw h
 | r::l,Q,hH,h=>by
  obtain ⟨a,f,o,g,k,n,e⟩:=hH r Aa
  rw[Ax,List.mapM_cons]
  exact Ag (Nl (T := "tuple") ⟨o,g,k⟩ (Ag (fR (λd b=>hH d (Ad _ b)) (Aw h))))
theorem u7{r:Addr}{l:List Addr}(a:vP c (r::l) s.heap)(h0:c r=[]){Q:Mk->Al->Prop}(h:Q oneType' s):wpAny (model prog w) A (keyKind' ((r::l).map Bd).toArray) Q E s:=by
 rw[keyKind'_eq,List.mapM_toArray]
 refine Ag ?_
 show wpAny (model prog w) A (List.toArray <$> ((r::l).map Bd).mapM dQ) _ E s
 rw[map_eq_pure_bind]
 refine Ag (cY a λfs n m=>Aw ?_)
 obtain ⟨f,b,g⟩:=m 0 r rfl
 have j:f=none:=by
  cases f with
  | none=>rfl
  | some v=>exact absurd h0 (g.mp rfl)
 subst j
 have d:¬ (fs.toArray.all λx=>x.isSome)=true:=by
  intro z
  have:=Array.all_eq_true'.mp z none (by
   have:=Aq b
   simpa using this)
  simp at this
 have e:¬ (fs.toArray[0]?.bind id).isSome=true:=by
  rw[List.getElem?_toArray,b]
  simp
 rw[if_neg d,if_neg e,oneTypeOnly'_eq,List.mapM_toArray]
 refine Ag (Ag ?_)
 show wpAny (model prog w) A (List.toArray <$> ((r::l).map Bd).mapM typeOf) _ E s
 rw[map_eq_pure_bind]
 refine Ag (fR a (Aw ?_))
 have i:((r::l).map λ_=>Ek "tuple").toArray[0]? = some (Ek "tuple"):=by simp
 have k:(((r::l).map λ_=>Ek "tuple").toArray.all λx=>x == Ek "tuple")=true:=by
  simp only[List.all_toArray,Zr,List.all_eq_true]
  intro _ _
  rfl
 rw[i]
 dsimp only
 rw[k,if_pos rfl]
 exact Aw (Aw h)
theorem vR{a:Addr}{n:Nat}{P:Fin->Al->Prop}(hl:s.heap.get? a=some (Es "list" (rs.map Bd).toArray n))(hH:vP c rs s.heap)(h0:∀r l,rs=r::l->c r=[])(hu:A.units<cLine)(hz:rs.length<=Bc)(h:∀d:List Addr,d.Perm rs->d.Pairwise (λx y=>HT.lexLt (c y) (c x)=false)->P (.done (.ret .none)) { s with heap:=sortedHeap s.heap a (rs.map Bd) (d.map Bd).toArray }):wpAny (model prog w) A (Builtin.«list.sort» ⟨[.ref a],[]⟩) P E s:=by
 have lt:=Bn hl
 have p:(rs.map Bd).toArray.size=rs.length:=by simp
 rw[list_sort_plain]
 refine Ag (iA hl rfl (Ag (dP hl rfl ?_ (by rw[p]; exact hz))))
 obtain ⟨S,D⟩ : ∃S,(s.heap.update a (Dt λ_=>#[])).get? a=some (Es "list" #[] S):=⟨_,Wy hl (λ_=>#[])⟩
 refine Ag (seqEpoch_at D rfl (Ag (wpAny_newTuple (Ag (dM (Eg ?_)) ))))
 have q:(((s.heap.update a (Dt λ_=>#[])).push (Es "tuple" (rs.map Bd).toArray 0)).push (Es "list" #[] 0)).get? a=some (Es "list" #[] S):=by
  rw[Heap.get?_push_ne _ _ _ (by rw[dZ,Lp]; exact Da (Rn lt)),
   Heap.get?_push_ne _ _ _ (by rw[Lp]; exact Da lt)]
  exact D
 have kept:∀b o,b≠a->s.heap.get? b=some o->(((s.heap.update a (Dt λ_=>#[])).push (Es "tuple" (rs.map Bd).toArray 0)).push (Es "list" #[] 0)).get? b=some o:=λb o hb e=>by
  refine Av _ (Av _ ?_)
  exact ((Dr s.heap a _).2 b hb).trans e
 have G:vP c rs (((s.heap.update a (Dt λ_=>#[])).push (Es "tuple" (rs.map Bd).toArray 0)).push (Es "list" #[] 0)):=λr F=>by
  obtain ⟨K,t1,o,O,k1,m1,J⟩:=hH r F
  refine ⟨K,t1,o,kept r o ?_ O,k1,m1,J⟩
  rintro rfl
  rw[hl] at O
  cases O
  exact absurd k1 (by simp)
 show wpAny (model prog w) A _ P E { s with heap:=((s.heap.update a (Dt λ_=>#[])).push (Es "tuple" (rs.map Bd).toArray 0)).push (Es "list" #[] 0) }
 dsimp only
 -- what is left qB the runs
 have B:∀(out:Array Value) (d:List Addr),out=(d.map Bd).toArray->d.Perm rs->d.Pairwise (λx y=>HT.lexLt (c y) (c x)=false) ->
   P (.done (.ret .none)) { s with heap:=sortedHeap s.heap a (rs.map Bd) out }:=λout d e p1 p2=>by rw[e]; exact h d p1 p2
 by_cases m:(rs.map Bd).toArray.size<2
 ·rw[if_pos m,if_pos m]
  refine Ag (Aw ?_)
  rw[StateT.run_pure]
  refine Ag (Aw (Ag (seqEpoch_at q rfl (Ag (dP q rfl ?_ (by simp) ?_)))))
  ·simp only[bne_self_eq_false,Bw,if_false]
   refine Aw (B _ rs ?_ (Gn _) ?_)
   ·show Array.map (λx=>x.2) ((rs.map Bd).toArray.zip (rs.map Bd).toArray)=_
    apply Array.ext'
    simp [List.map_snd_zip]
   ·rw[p] at m
    match rs,m with
    | [],_=>exact Dn
    | [_],_=>exact Ct _ _
    | _::_::_,m=>simp only[Bi] at m; omega
  ·show (Array.map (λx:Keyed=>x.2) ((rs.map Bd).toArray.zip (rs.map Bd).toArray)).size<=Bc+1
   rw[Array.size_map,Array.size_zip,p]
   omega
 ·rw[if_neg m,if_neg m]
  rw[p] at m
  obtain ⟨r0,Gi,Y⟩ : ∃r l,rs=r::l:=by
   cases rs with
   | nil=>simp at m
   | cons r l=>exact ⟨r,l,rfl⟩
  have I:∀{R:Mk->Al->Prop},R oneType' { s with heap:=((s.heap.update a (Dt λ_=>#[])).push (Es "tuple" (rs.map Bd).toArray 0)).push (Es "list" #[] 0) } ->
    wpAny (model prog w) A (keyKind' (rs.map Bd).toArray) R E { s with heap:=((s.heap.update a (Dt λ_=>#[])).push (Es "tuple" (rs.map Bd).toArray 0)).push (Es "list" #[] 0) }:=λ{R} U=>by
   have v:=G
   rw[Y] at v U ⊢
   exact u7 v (h0 r0 Gi Y) U
  refine Ag (I ?_)
  have C:=N6 (prog:=prog) (w:=w) (A:=A) (s:={ s with heap:=((s.heap.update a (Dt λ_=>#[])).push (Es "tuple" (rs.map Bd).toArray 0)).push (Es "list" #[] 0) }) G hu
  have L:(pairsOf (rs.map Bd)).size=rs.length:=by rw[pairsOf_size,Ab]
  refine Ag (Co (vY C (a₀:=pairsOf (rs.map Bd)) (st:=SortSt.mk' oneType' ((rs.map Bd).toArray.zip (rs.map Bd).toArray) #[] 7 none) (E:=E)
   (Q:=λ_ f=>Good0 oneType' (pairsOf (rs.map Bd)) f/\Ss (LZ c) (arrOf f) 0 (pairsOf (rs.map Bd)).size)
   ⟨rfl,rfl,Array.Perm.refl _⟩ (λx u=>?_) rfl (by rw[L]; omega) λf g T=>⟨g,T⟩) ?_ λ_ _ z=>z)
  ·rw[pairsOf_toList] at u
   obtain ⟨_,M⟩:=mem_zip_self u
   obtain ⟨r,F,e⟩:=Cn.mp M
   exact ⟨r,F,e.symm⟩
  ·(rintro ⟨⟨⟩,f⟩ s' q_; obtain ⟨rfl,g,T⟩ := q_)
   dsimp only
   -- the things of the new order
   have N:(arrOf f).toList.Perm ((rs.map Bd).zip (rs.map Bd)):=by rw[<- pairsOf_toList]; exact Py.mp g.perm
   have H:∀x∈(arrOf f).toList,∃r∈rs,x=(Bd r,Bd r):=λx u=>by
    obtain ⟨e,M⟩:=mem_zip_self (N.mem_iff.mp u)
    obtain ⟨r,F,Z⟩:=Cn.mp M
    refine ⟨r,F,?_⟩
    obtain ⟨x1,x2⟩:=x
    simp only at e Z
    rw[<- e,Z]
   have ex:∀l:List Keyed,(∀x∈l,∃r∈rs,x=(Bd r,Bd r))->∃d:List Addr,l=d.map λr=>(Bd r,Bd r):=by
    intro l
    induction l with
    | nil=>intro _; exact ⟨[],rfl⟩
    | cons x l ih =>
     intro u
     obtain ⟨r,_,e⟩:=u x Aa
     obtain ⟨d,e'⟩:=ih λy hy=>u y (Ad _ hy)
     exact ⟨r::d,by rw[Ax,e,e']⟩
   obtain ⟨d,t⟩:=ex _ H
   have zz:(rs.map Bd).zip (rs.map Bd)=rs.map λr=>(Bd r,Bd r):=by
    rw[List.zip_map',]
   rw[t,zz] at N
   have inj:∀x:Keyed,∃a:Addr,True:=λ_=>⟨0,trivial⟩
   have W:d.Perm rs:=by
    have:=N.map (λx:Keyed=>match x.1 with | .ref a=>a | _=>0)
    rw[Dj,Dj] at this
    simpa [Function.comp_def] using this
   have so:d.Pairwise (λx y=>HT.lexLt (c y) (c x)=false):=by
    rw[Ew]
    intro i j hi hj h1
    have ls:(arrOf f).size=d.length:=by
     have:=congrArg Fh t
     rw[An,Ab] at this
     exact this
    have V:∀k (I:k<d.length),X (arrOf f) k=(Bd d[k],Bd d[k]):=λk I=>by
     have J:=Ey (Zc (xs:=arrOf f) (i:=k) (by omega))
     rw[t,Bm,Bj I] at J
     exact (Bl J).symm
    have:=T i j (Dh _) (by omega) (by rw[L,<- W.length_eq]; exact hj)
    rw[V i hi,V j hj] at this
    exact this
   refine Ag (seqEpoch_at q rfl (Ag (dP q rfl ?_ (by simp) ?_)))
   ·have fl:Mj f=none:=g.fail
    rw[fl]
    simp only[bne_self_eq_false,Bw,if_false]
    refine Aw (B _ d ?_ W so)
    apply Array.ext'
    rw[Array.toList_map,t,Dj]
    rfl
   ·show (Array.map (λx:Keyed=>x.2) (arrOf f)).size<=Bc+1
    rw[Array.size_map,g.size,L]
    omega
end
theorem gM:∀{rs:List Addr} {us:List Value},Gv (rs.map V.ref) us->us=rs.map Bd
 | [],_,r=>by cases r; rfl
 | a::l,_,r=>by
  rw[Ax] at r
  cases r with
  | cons c b =>
   cases c
   rw[gM b]
   rfl
theorem fO:∀rs:List Addr,Gv (rs.map V.ref) (rs.map Bd)
 | []=>.nil
 | _::l=>.cons rfl (fO l)
section
variable{prog:Bq}{w:World}{A:Df}{E:Value->Al->Prop}{s:Al}{c:Addr->List Int}{rs:List Addr}
theorem oT{l:Addr}{Q:Value->Al->Prop}(hl:s.heap.IsList l (rs.map Bd).toArray)(k:vP c rs s.heap)(h0:∀r l,rs=r::l->c r=[])(i:A.units+2<cLine)(hz:rs.length<=Bc)(h:∀a:List Addr,a.Perm rs->a.Pairwise (λx y=>HT.lexLt (c y) (c x)=false)->Q (.ref (s.heap.objs.size+1)) { s with heap:=Zm s.heap (rs.map Bd) (a.map Bd).toArray }):wpAny (model prog w) A (call (.builtin "sorted") [.ref l]) Q E s:=by
 refine kT (by exact kind_sorted) plain_sorted entry_sorted (args_sorted1 _) ?_
 unfold Builtin.«sorted»
 refine Ag (m:=checkCount "sorted" 1 1 _) (Aw (Ag (collect_list hl (Ag (dM ?_)) (by rw[Ab]; exact hz))))
 have g:((s.heap.push (Es "list" #[] 0)).update s.heap.objs.size (Dt (·++(rs.map Bd).toArray))).objs.size=s.heap.objs.size+1:=by rw[Lp,dZ]
 have f:(((s.heap.push (Es "list" #[] 0)).update s.heap.objs.size (Dt (·++(rs.map Bd).toArray))).push (Es "list" (rs.map Bd).toArray 0)).get? (s.heap.objs.size+1)=some (Es "list" (rs.map Bd).toArray 0):=by
  rw[<- g]
  exact Bs _ rfl
 have kept:∀b o,s.heap.get? b=some o->(((s.heap.push (Es "list" #[] 0)).update s.heap.objs.size (Dt (·++(rs.map Bd).toArray))).push (Es "list" (rs.map Bd).toArray 0)).get? b=some o:=λb o e=>by
  refine Av _ (((Dr _ _ _).2 b (Da (Bn e))).trans (Av _ e))
 show wpAny _ _ _ _ _ { s with heap:=((s.heap.push (Es "list" #[] 0)).update s.heap.objs.size (Dt (·++(rs.map Bd).toArray))).push (Es "list" (rs.map Bd).toArray 0) }
 rw[g]
 refine Ag (Eg (Uo slot_list_sort ⟨_,f,rfl⟩ entry_list_sort (vR f (λr v=>?_) h0 ?_ hz λa p z=>⟨_,rfl,?_⟩) (args_list_sort _)))
 ·obtain ⟨d,u,o,q,t,j,n⟩:=k r v
  exact ⟨d,u,o,kept r o q,t,j,n⟩
 ·first | exact Qi (by show A.units+2<=A.units+2; exact Aj _) i | exact Qi (Rw _ 2) i | (show A.units+1<cLine; omega) | trace_state
 ·exact Aw ⟨_,rfl,h a p z⟩
theorem Ze{h:Heap}{vs:List Value}{out:Array Value}{b:Addr}{o:Obj}(e:h.get? b=some o):(Zm h vs out).get? b=some o:=by
 have lt:=Bn e
 unfold Zm sortedHeap
 have c:((h.push (Es "list" #[] 0)).update h.objs.size (Dt (·++vs.toArray))).objs.size=h.objs.size+1:=by rw[Lp,dZ]
 have a:b≠h.objs.size+1:=Da (Rn lt)
 refine ((Dr _ _ _).2 b a).trans (Av _ (Av _ (((Dr _ _ _).2 b a).trans (Av _ ?_))))
 exact ((Dr _ _ _).2 b (Da lt)).trans (Av _ e)
theorem fI{h:Heap}{vs:List Value}{out:Array Value}:∃n,(Zm h vs out).get? (h.objs.size+1)=some (Es "list" out n):=by
 unfold Zm sortedHeap
 have d:((h.push (Es "list" #[] 0)).update h.objs.size (Dt (·++vs.toArray))).objs.size=h.objs.size+1:=by rw[Lp,dZ]
 have a:(((h.push (Es "list" #[] 0)).update h.objs.size (Dt (·++vs.toArray))).push (Es "list" vs.toArray 0)).get? (h.objs.size+1)=some (Es "list" vs.toArray 0):=by
  rw[<- d]
  exact Bs _ rfl
 have b:=Wy a (λ_=>#[])
 have c:=Av (Es "list" #[] 0) (Av (Es "tuple" vs.toArray 0) b)
 exact ⟨_,Wy c (λ_=>out)⟩
end
section
variable{X:Cx}
theorem call_sorted(t:X.A.units+2<cLine):Om X (.builtin "sorted") (λxs H Q=>∃(a:Addr) (rs:List Addr) (c:Addr->List Int),xs=[.ref a]/\Qf X.K H a (rs.map V.ref)/\(∀r∈rs,Tz X.K H r ((c r).map V.int))/\(∀r l,rs=r::l->c r=[])/\∀(p:Addr) (d:List Addr),H p=none->d.Perm rs->d.Pairwise (λx y=>HT.lexLt (c y) (c x)=false)->Q (.ref p) (upd H p (.lst (d.map V.ref)))):=by
 intro i s M H xs L Q I r h
 obtain ⟨a,rs,c,rfl,D,G,C,q⟩:=h
 obtain ⟨u,rfl,w⟩:=vals1 r
 cases w
 obtain ⟨j,m,E,f⟩:=I.list D
 have e:=gM m
 subst e
 rw[Ab] at f
 refine oT (c:=c) E.isList (λr J=>?_) C t f λd g B=>?_
 ·obtain ⟨k,z,v,_⟩:=I.tuple (G r J)
  exact ⟨k,intsAre_of z,v⟩
 ·obtain ⟨n,F⟩:=fI (h:=s.heap) (vs:=rs.map Bd) (out:=(d.map Bd).toArray)
  refine ⟨.ref (s.heap.objs.size+1),upd H (s.heap.objs.size+1) (.lst (d.map V.ref)),I.laid (t':=s.toks) (λb o e=>Ze e) (Oi _) ⟨?_,_,n,fO d,F⟩,rfl,q _ d (I.hok.fresh (Oi _)) g B⟩
  rw[Ab,g.length_eq]
  exact f
end
end Ts
namespace DL
open PySem L2 Nd
def Ki{a:Type}(xs:List a)(lo b:Option Int):List a:=(xs.drop (HT.sIx xs.length 0 lo)).take (HT.sIx xs.length xs.length b - HT.sIx xs.length 0 lo)
theorem bV{a c:Type}(f:a->c)(xs:List a)(lo b:Option Int):Ki (xs.map f) lo b=(Ki xs lo b).map f:=by
 unfold Ki
 rw[Ab,Np,Xd]
theorem Sw{a:Type}(xs:List a)(lo b:Option Int):(Ki xs lo b).Sublist xs:=(Gx _ _).trans (Hz _ _)
theorem gT{a:Type}(xs:List a)(k:Nat):Ki xs none (some (k:Int))=xs.take k:=by
 unfold Ki
 rw[HT.sIx_none,HT.sIx_nat,Ju,aM]
 by_cases h:k<=xs.length
 ·rw[Ud h]
 ·rw[eH (by omega),Ea,Ex (by omega)]
section
variable{K:PySem.W.Frag}{H:Hp}
theorem RdFs.drop:∀(n:Nat) {xs:List V} {a:List Ae} {F:List Addr},RdFs K H xs a F->∃G,RdFs K H (xs.drop n) (a.drop n) G/\G.Sublist F
 | 0,_,_,F,h=>⟨F,h,Ck _⟩
 | n+1,_,_,_,.nil=>⟨[],.nil,Ck _⟩
 | n+1,_,_,_,.cons _ t=>by
  obtain ⟨G,b,c⟩:=RdFs.drop n t
  exact ⟨G,b,c.trans (Ca _ _)⟩
theorem RdFs.take:∀(n:Nat) {xs:List V} {b:List Ae} {F:List Addr},RdFs K H xs b F->∃G,RdFs K H (xs.take n) (b.take n) G/\G.Sublist F
 | 0,_,_,F,h=>⟨[],.nil,Nh _⟩
 | n+1,_,_,_,.nil=>⟨[],.nil,Ck _⟩
 | n+1,_,_,_,.cons a t=>by
  obtain ⟨G,c,d⟩:=RdFs.take n t
  exact ⟨_,.cons a c,(Ck _).append d⟩
theorem RdFs.cut{xs:List V}{a:List Ae}{F:List Addr}(h:RdFs K H xs a F)(lo b:Option Int):∃G,RdFs K H (bK xs lo b) (Ki a lo b) G/\G.Sublist F:=by
 unfold bK Ki
 rw[h.len]
 obtain ⟨G,g,c⟩:=h.drop (HT.sIx a.length 0 lo)
 obtain ⟨d,f,e⟩:=g.take (HT.sIx a.length a.length b - HT.sIx a.length 0 lo)
 exact ⟨d,f,e.trans c⟩
theorem RdFs.ints:∀a:List Int,RdFs K H (a.map V.int) (a.map Bo) []
 | []=>.nil
 | n::a=>RdFs.cons (F:=[]) (.int n) (RdFs.ints a)
theorem RdFs.ints_inv:∀{b:List Int} {xs:List V} {F:List Addr},RdFs K H xs (b.map Bo) F->xs=b.map V.int/\F=[]
 | [],_,_,h=>by cases h; exact ⟨rfl,rfl⟩
 | n::b,_,_,h=>by
  rw[Ax] at h
  cases h with
  | cons a t =>
   obtain ⟨rfl,rfl⟩:=a.int_inv
   obtain ⟨rfl,rfl⟩:=RdFs.ints_inv t
   exact ⟨rfl,rfl⟩
theorem RdFs.bools_inv:∀{b:List Bool} {xs:List V} {F:List Addr},RdFs K H xs (b.map PyData.bool) F->xs=b.map V.bl/\F=[]
 | [],_,_,h=>by cases h; exact ⟨rfl,rfl⟩
 | n::b,_,_,h=>by
  rw[Ax] at h
  cases h with
  | cons a t =>
   obtain ⟨rfl,rfl⟩:=a.bl_inv
   obtain ⟨rfl,rfl⟩:=RdFs.bools_inv t
   exact ⟨rfl,rfl⟩
end
theorem cR{a b:List Ae}:Dz (a++b)=(Dz a && Dz b):=by
 induction a with
 | nil=>simp [Dz]
 | cons x a c=>simp [Dz,c,Bool.and_assoc]
theorem Sq(a:List Int):Dz (a.map Bo)=true:=Uu (λ_=>by simp [imm]) a
def tX:D2:=λx y P=>match x,y with
 | .dat _ (.list ds),.dat _ (.list es)=>Dz ds=true/\Dz es=true/\ds.length+es.length<=1000000/\P (.dat .ow (.list (ds++es)))
 | _,_=>False
def jG:D2:=λx y P=>match x,y with
 | .dat _ (.tuple ds),.dat _ (.tuple es)=>Dz ds=true/\Dz es=true/\ds.length+es.length<=1000000/\P (.dat .ow (.tuple (ds++es)))
 | _,_=>False
def LR:D2:=λx y P=>match x,y with
 | .dat _ (.list ds),.dat _ (.int k)=>Dz ds=true /\ -1000000<=k/\k<=1000000/\ds.length * k.toNat<=1000000/\P (.dat .ow (.list (Jt k.toNat ds).flatten))
 | _,_=>False
section
variable{K:PySem.W.Frag}
theorem CN:kZ K EA tX:=by
 intro r X n S T x y v w F G H Q P d c k
 unfold tX at c
 split at c
 ·obtain ⟨j,g,t,p⟩:=c
  obtain ⟨b,l,A,rfl,o,e,_,_⟩:=(d.told mem_mid).list_inv
  obtain ⟨a,h,z,rfl,i,f,_,_⟩:=(d.told Fc).list_inv
  have u:=f.len
  have s:=e.len
  refine ⟨a,b,h,l,rfl,rfl,i,o,Zg (by omega),λq m=>?_⟩
  exact k _ _ _ _ (d.drop2.newI (f.app e) (by rw[cR,j,g]; rfl) (by rw[Ar]; exact Zg (by omega)) m .ow) p
 ·exact c.elim
theorem M9:kZ K (X4 K) jG:=by
 intro B X n S T x y v w F G H Q P c f k
 unfold jG at f
 split at f
 ·obtain ⟨u,o,C,p⟩:=f
  obtain ⟨b,l,rfl,m,d,A⟩:=(c.told mem_mid).tup_inv
  obtain ⟨a,h,rfl,i,g,z⟩:=(c.told Fc).tup_inv
  have s:=g.len
  have r:=d.len
  obtain rfl:=g.imm u
  obtain rfl:=d.imm o
  refine ⟨a,b,h,l,rfl,rfl,Tz.of i,Tz.of m,Zg (by omega),λe=>?_,λe=>?_,λq t=>?_⟩
  ·subst e
   obtain rfl:=Hx.mp (s.symm.trans rfl)
   exact k _ _ [] _ (c.drop2.pushI (.tup m A d)) p
  ·subst e
   obtain rfl:=Hx.mp (r.symm.trans rfl)
   rw[Dd] at p
   exact k _ _ [] _ (c.drop2.pushI (.tup i z g)) p
  ·have j:=Fj t (.tup (h++l))
   exact k _ _ [] _ ((c.drop2.grow j (Aj _)).pushI (.tup Di (by rw[Ar]; exact Zg (by omega)) ((g.app d).kp (Kp.of j)))) p
 ·exact f.elim
end
section
variable{X:Cx}{a b:Expr}{c d:DE}{pos:Pos}
theorem qW(e:Fi X a c)(hb:Fi X b d):Fi X (.BinOp a .Add b pos) (Ve tX c d):=We pK CN e hb
theorem Zu(e:Fi X a c)(hb:Fi X b d):Fi X (.BinOp a .Add b pos) (Ve jG c d):=We R9 M9 e hb
end
abbrev DO:=DS->(Option Int->DS->Prop)->Prop
def LO(K:PySem.W.Frag)(b:DO):TO:=λf H Q=>∃(e:Hp) (X:Addr->Prop) (S T:List Ent) (c:DS) (P:Option Int->DS->Prop),vs S=f/\Sl S c/\At K e X c.n (S++T) H/\b c P /\
 ∀o a d g,vs d=f->Sl d a->At K e X a.n (d++T) g->P o a->Q o g
abbrev FB(X:Cx)(e:Option Expr)(d:DO):Prop:=PO X e (LO X.K d)
theorem PO.imp{X:Cx}{e:Option Expr}{t t':TO}(h:PO X e t)(k:∀a H Q,t' a H Q->t a H Q):PO X e t':=λb s a H Q I q=>h b s a H Q I (k a H Q q)
def tZ:DO:=λa P=>P none a
def Y3(c:DE):DO:=λb P=>c b λx a=>match x with
 | .dat _ (.int i)=>P (some i) a
 | _=>False
section
variable{X:Cx}{e:Expr}{b:DE}{lo c:Option Expr}{dl d:DO}{pos f:Pos}
theorem Km:FB X none tZ:=by
 refine PO.imp Q7 λf H Q h=>?_
 obtain ⟨e,Y,S,T,c,P,rfl,b,d,a,k⟩:=h
 exact k _ c S H rfl b d a
theorem Jj(h:Fi X e b):FB X (some e) (Y3 b):=by
 refine PO.imp (V9 h) λq H Q h=>?_
 obtain ⟨d,Y,S,T,m,P,rfl,g,n,f,k⟩:=h
 refine ⟨d,Y,S,T,m,_,rfl,g,n,f,λx c v F o j i l a p=>?_⟩
 split at p
 ·obtain ⟨rfl,_⟩:=(a.told mem_mid).int_inv
  exact ⟨_,rfl,k _ c o j i l a.drop p⟩
 ·exact p.elim
def LH(i:Bool)(b:DE)(dl d:DO):DE:=λf P=>b f λx e=>dl e λl c=>d c λh a=>match x with
 | .dat m (.list ds)=>Yr i m (Ki ds l h) λz=>P z a
 | .dat m (.tuple ds)=>iV i m (Ki ds l h) λz=>P z a
 | _=>False
def JP(K:PySem.W.Frag):V->Option Int->Option Int->Hp->VK->Prop:=λx lo c H Q=>DW K x lo c H Q\/Z8 x lo c H Q
theorem Kn{i:Bool}(R:Fi X e b)(hl:FB X lo dl)(W:FB X c d):Fi X (.Subscript e (.Slice lo c none f) pos) (LH i b dl d):=by
 refine PE.imp (oD (r:=JP X.K) (U7.or M4) R hl W) λσ H Q h=>?_
 obtain ⟨C,Y,S,T,δ,P,rfl,hS,Z,hd,k⟩:=h
 refine ⟨C,Y,S,T,δ,_,rfl,hS,Z,hd,λx J v F S1 H1 e1 e2 y p1=>?_⟩
 refine ⟨C,Y,S1,⟨some v,x,F⟩::T,J,_,e1,e2,y,p1,λl A U H2 e3 e4 w f=>?_⟩
 refine ⟨C,Y,U,⟨some v,x,F⟩::T,A,_,e3,e4,w,f,λh m L H3 M N g n=>?_⟩
 split at n
 ·obtain ⟨a,s,G,rfl,t,B,rfl,D⟩:=(g.told mem_mid).list_inv
  refine .inl ⟨a,s,rfl,Qf.of t,λp q=>?_⟩
  obtain ⟨V,I,E⟩:=B.cut l h
  obtain ⟨z,o,j,u⟩:=g.newL I (E.trans (Ci _ _)) (Bz (Sw _ _ _).length_le D) q n
  exact k z m _ o L _ M N j u
 ·obtain ⟨a,s,rfl,t,B,D⟩:=(g.told mem_mid).tup_inv
  refine .inr ⟨a,s,rfl,t,λp H' q O=>?_⟩
  obtain ⟨V,I,E⟩:=B.cut l h
  obtain ⟨z,o,j,u⟩:=(g.grow O (Aj _)).oldT (I.kp (Kp.of O)) E (Bz (Sw _ _ _).length_le D) q n
  exact k z m _ o L _ M N j u
 ·exact n.elim
end
end DL
namespace NdS
open PySem PyProof.Rows
end NdS
namespace Nd
open PySem PySem.Spec PyProof.Rows L2 NdS
end Nd
namespace DL
open PySem L2 Nd
def zF(x:Int):List Int->List Int
 | []=>[x]
 | y::l=>if x<y then x::y::l else if x=y then y::l else y::zF x l
def FI(a:List Int):List Int:=a.foldr zF []
theorem p9{x z:Int}:∀{l:List Int},z∈zF x l↔z=x\/z∈l
 | []=>by simp [zF]
 | y::l=>by
  unfold zF
  split
  ·simp
  ·split
   ·rename_i b a
    subst a
    simp
   ·simp only[Ai,p9 (l:=l)]
    constructor
    ·rintro (h | h | h) <;> simp [h]
    ·rintro (h | h | h) <;> simp [h]
theorem cX:∀{l m:List Int},l.Perm m->l.Pairwise (·<=·)->m.Pairwise (·<=·)->l=m
 | [],m,p,_,_=>(List.nil_perm.mp p).symm
 | a::l,[],p,_,_=>(List.perm_nil.mp p)
 | a::l,b::m,p,h1,h2=>by
  obtain ⟨f,g⟩:=Ay.mp h1
  obtain ⟨d,c⟩:=Ay.mp h2
  have e:a=b:=by
   rcases Ai.mp (p.mem_iff.mp Aa) with z | z
   ·exact z
   ·rcases Ai.mp (p.mem_iff.mpr Aa) with y | y
    ·exact y.symm
    ·have:=d a z; have:=f b y; omega
  subst e
  rw[cX (List.perm_cons _ |>.mp p) g c]
def vG(x:Int):List Int->List Int
 | []=>[x]
 | y::l=>if x<=y then x::y::l else y::vG x l
def cG(a:List Int):List Int:=a.foldr vG []
theorem vJ{x:Int}:∀{l:List Int},(vG x l).Perm (x::l)
 | []=>Gn _
 | y::l=>by
  unfold vG
  split
  ·exact Gn _
  ·exact ((vJ (l:=l)).cons y).trans (Ee _ _ _)
theorem Oo:∀a:List Int,(cG a).Perm a
 | []=>Gn _
 | n::a=>vJ.trans ((Oo a).cons n)
theorem uU{x:Int}:∀{l:List Int},l.Pairwise (·<=·)->(vG x l).Pairwise (·<=·)
 | [],_=>Ct _ _
 | y::l,h=>by
  obtain ⟨b,c⟩:=Ay.mp h
  unfold vG
  split
  ·rename_i a
   refine Ay.mpr ⟨λz hz=>?_,h⟩
   rcases Ai.mp hz with rfl | hz
   ·exact a
   ·exact Int.le_trans a (b z hz)
  ·refine Ay.mpr ⟨λz hz=>?_,uU c⟩
   rcases Ai.mp (vJ.mem_iff.mp hz) with rfl | hz
   ·omega
   ·exact b z hz
theorem dD:∀a:List Int,(cG a).Pairwise (·<=·)
 | []=>Dn
 | n::a=>uU (dD a)
theorem zH{l a:List Int}(p:l.Perm a)(h:l.Pairwise (·<=·)):l=cG a:=cX (p.trans (Oo a).symm) h (dD a)
theorem wZ(a:List Int):(cG a).length=a.length:=(Oo a).length_eq
abbrev DC:=List DV->(DV->Prop)->Prop
def Uk(K:PySem.W.Frag)(r:List V->Hp->VK->Prop)(rd:DC):Prop:=∀(b:Hp) (X:Addr->Prop) (n:Nat) (S T a:List Ent) (d:List V) (H:Hp) (Q:VK) (P:DV->Prop),
 a.map Ent.v=d.map some->At K b X n (S++(a++T)) H->rd (a.map Ent.x) P->(∀z u e c,At K b X n (S++⟨some u,z,e⟩::T) c->P z->Q u c)->r d H Q
def ID(rd:DC)(b:DA):DE:=λc P=>b c λd a=>rd d λz=>P z a
section
variable{X:Cx}{x:Str}{p pos:Pos}{e:Expr}{es:List Expr}{a:DA}{id T:String}{r:List V->Hp->VK->Prop}{rd:DC}
theorem K4{K:PySem.W.Frag}(o:Uk K r rd):∀f H Q,LE K (ID rd a) f H Q->FP r (LA K a) f H Q:=by
 intro f H Q h
 obtain ⟨g,Y,S,T,x,P,rfl,A,t,y,k⟩:=h
 refine ⟨g,Y,S,T,x,_,rfl,A,t,y,λD b C q i s w B v j d p=>?_⟩
 subst v
 exact o g Y b.n i T C q s Q _ j d p λz u l c e m=>k z b u l i c w B e m
theorem Du(j:Om X (.builtin id) r)(o:Uk X.K r rd)(k:Gl X x)(h:X.mg x=none)(d:Kt x=some (.builtin id))(g:oZ X (e::es) a)(i:x ≠ "__name__" := by decide)(b:(x == ("__debug__" : Str))=false:=by decide)(f:Be (e::es) X.env=(false,eval e X.env)::Be es X.env:=by rfl)(c:(Gh pos (Be es X.env)).any (·.1)=false:=by rfl):Fi X (.Call (.Name x p) (e::es) [] pos) (ID rd a) :=
 PE.imp (bN j k h d g i b f c) (K4 o)
theorem xC(j:Om X (.type T) r)(o:Uk X.K r rd)(k:Gl X x)(h:X.mg x=none)(d:Kt x=some (.type T))(g:oZ X (e::es) a)(i:x ≠ "__name__" := by decide)(b:(x == ("__debug__" : Str))=false:=by decide)(f:Be (e::es) X.env=(false,eval e X.env)::Be es X.env:=by rfl)(c:(Gh pos (Be es X.env)).any (·.1)=false:=by rfl):Fi X (.Call (.Name x p) (e::es) [] pos) (ID rd a) :=
 PE.imp (gU j k h d g i b f c) (K4 o)
end
theorem BH{c b:Type}{f:c->b}{l:List c}{x:b}(h:l.map f=[x]):∃a,l=[a]/\f a=x:=by
 cases l with
 | nil=>cases h
 | cons a t =>
  obtain ⟨d,e⟩:=Hh h
  exact ⟨a,by rw[yL.mp e],d⟩
theorem IR{c d:Type}{f:c->d}{l:List c}{x y:d}(h:l.map f=[x,y]):∃a b,l=[a,b]/\f a=x/\f b=y:=by
 cases l with
 | nil=>cases h
 | cons a t =>
  obtain ⟨i,e⟩:=Hh h
  obtain ⟨b,rfl,g⟩:=BH e
  exact ⟨a,b,rfl,i,g⟩
theorem Lq{K:PySem.W.Frag}{c H:Hp}{X:Addr->Prop}{n:Nat}{S T As:List Ent}{us:List V}{x:DV}(d:As.map Ent.v=us.map some)(e:At K c X n (S++(As++T)) H)(ex:As.map Ent.x=[x]):∃v F,us=[v]/\At K c X n (S++⟨some v,x,F⟩::T) H:=by
 obtain ⟨⟨v,y,F⟩,rfl,g⟩:=BH ex
 obtain ⟨u,rfl,f⟩:=BH d.symm
 have a:y=x:=g
 have b:some u=v:=f
 subst a b
 exact ⟨u,F,rfl,e⟩
theorem cI{K:PySem.W.Frag}{e H:Hp}{X:Addr->Prop}{n:Nat}{S T As:List Ent}{us:List V}{x y:DV}(h:As.map Ent.v=us.map some)(i:At K e X n (S++(As++T)) H)(ex:As.map Ent.x=[x,y]):∃v F w G,us=[v,w]/\At K e X n (S++⟨some v,x,F⟩::⟨some w,y,G⟩::T) H:=by
 obtain ⟨⟨v,o,F⟩,⟨w,g,G⟩,rfl,m,j⟩:=IR ex
 obtain ⟨u,f,rfl,l,k⟩:=IR h.symm
 have c:o=x:=m
 have b:g=y:=j
 have a:some u=v:=l
 have d:some f=w:=k
 subst c b a d
 exact ⟨u,F,f,G,rfl,i⟩
def uC:DC:=λa P=>match a with
 | [.dat _ (.list ds)]=>P (.dat .ow (.int ds.length))
 | [.dat _ (.tuple ds)]=>P (.dat .ow (.int ds.length))
 | [.dat _ (.str z)]=>z.length<=1000000/\P (.dat .ow (.int z.length))
 | _=>False
def JO(i:Bool):DC:=λa P=>match a with
 | [.dat m (.list ds)]=>Yr i m ds P
 | [.dat m (.tuple ds)]=>Yr i m ds P
 | _=>False
def kA(i:Bool):DC:=λa P=>match a with
 | [.dat m (.list ds)]=>iV i m ds P
 | [.dat m (.tuple ds)]=>P (.dat m (.tuple ds))
 | _=>False
def KG:DC:=λa P=>match a with
 | [.dat _ (.int i),.dat _ (.int j)]=>P (.dat .ow (.int (if j > i then j else i)))
 | _=>False
def qK:DC:=λa P=>match a with
 | [.dat _ (.int i),.dat _ (.int j)]=>P (.dat .ow (.int (if j<i then j else i)))
 | _=>False
def KM:DC:=λb P=>match b with
 | [.dat _ (.list ds)]=>∃a:List Int,ds=a.map Bo/\a≠[]/\∀M∈a,(∀x∈a,M<=x)->P (.dat .ow (.int M))
 | _=>False
def yN:DC:=λa P=>match a with
 | [.dat _ (.list ds)]=>∃bs:List Bool,ds=bs.map PyData.bool/\P (.dat .ow (.bool (bs.all id)))
 | _=>False
def R4:Ae->String
 | .none => "NoneType"
 | .bool _ => "bool"
 | .int _ => "int"
 | .str _ => "str"
 | .list _ => "list"
 | .tuple _ => "tuple"
 | .dict _ => "dict"
def Xq(d:Ae)(n:String):Bool:=R4 d == n || (R4 d == "bool" && n == "int")
def F8:DC:=λa P=>match a with
 | [.dat _ d,.val (.ty n)]=>(n = "int" \/ n = "bool" \/ n = "str" \/ n = "list" \/ n = "tuple")/\P (.dat .ow (.bool (Xq d n)))
 | _=>False
section
variable{K:PySem.W.Frag}
theorem Io:Uk K (λxs H Q=>∃x n,xs=[x]/\IS K x H n/\Q (.int n) H) uC:=by
 intro h X n S T j i H Q P f b c k
 unfold uC at c
 split at c
 ·rename_i d
  obtain ⟨v,F,rfl,b⟩:=Lq f b d
  obtain ⟨a,xs,G,rfl,e,g,_,_⟩:=(b.told mem_mid).list_inv
  exact ⟨_,_,rfl,.inl ⟨xs,Qf.of e,g.len.symm⟩,k _ _ [] H (b.drop.pushI (.int _)) c⟩
 ·rename_i d
  obtain ⟨v,F,rfl,b⟩:=Lq f b d
  obtain ⟨a,xs,rfl,e,g,_⟩:=(b.told mem_mid).tup_inv
  exact ⟨_,_,rfl,.inr ⟨xs,Tz.of e,g.len.symm⟩,k _ _ [] H (b.drop.pushI (.int _)) c⟩
 ·rename_i d
  obtain ⟨v,F,rfl,b⟩:=Lq f b d
  obtain ⟨rfl,_⟩:=(b.told mem_mid).str_inv
  exact ⟨_,_,rfl,⟨Zg c.1,rfl⟩,k _ _ [] H (b.drop.pushI (.int _)) c.2⟩
 ·exact c.elim
theorem zK{i:Bool}:Uk K (AA K) (kA i):=by
 intro q X n S T t s H Q P h b c k
 unfold kA at c
 split at c
 ·rename_i f
  obtain ⟨v,F,rfl,b⟩:=Lq h b f
  obtain ⟨a,d,G,rfl,e,j,rfl,g⟩:=(b.told mem_mid).list_inv
  refine ⟨a,d,rfl,.inl ⟨Qf.of e,λl m=>?_⟩⟩
  obtain ⟨z,r,p,o⟩:=b.newT j (Ci _ _) g m c
  exact k _ _ _ _ p o
 ·rename_i f
  obtain ⟨v,F,rfl,b⟩:=Lq h b f
  obtain ⟨a,d,rfl,e,j,g⟩:=(b.told mem_mid).tup_inv
  exact ⟨a,d,rfl,.inr ⟨Tz.of e,k _ _ F H b c⟩⟩
 ·exact c.elim
theorem N3:Uk K (λxs H Q=>∃i j,xs=[V.int i,V.int j]/\Q (.int (if j<i then j else i)) H) qK:=by
 intro e X n S T g f H Q P c a b k
 unfold qK at b
 split at b
 ·rename_i d
  obtain ⟨v,F,w,G,rfl,a⟩:=cI c a d
  obtain ⟨rfl,_⟩:=(a.told mem_mid).int_inv
  obtain ⟨rfl,_⟩:=(a.told Fc).int_inv
  exact ⟨_,_,rfl,k _ _ [] H (a.drop2.pushI (.int _)) b⟩
 ·exact b.elim
theorem EI:Uk K (λxs H Q=>∃(p:Addr) (bs:List Bool),xs=[.ref p]/\Qf K H p (bs.map V.bl)/\Q (.bl (bs.all id)) H) yN:=by
 intro i X n S T m l H Q P e c b k
 unfold yN at b
 split at b
 ·rename_i f
  obtain ⟨v,F,rfl,c⟩:=Lq e c f
  obtain ⟨bs,rfl,g⟩:=b
  obtain ⟨a,xs,G,rfl,d,h,rfl,j⟩:=(c.told mem_mid).list_inv
  obtain ⟨rfl,_⟩:=h.bools_inv
  exact ⟨a,bs,rfl,Qf.of d,k _ _ [] H (c.drop.pushI (.bl _)) g⟩
 ·exact b.elim
theorem N8{T n:String}{b:Bool}(h1:(Ek T == Ek n)=false)(c:PySem.W.kitMeta n=true)(a:(fastBuiltinMro T).map (λx=>x.contains (Ek n))=some b):PySem.W.kitOne K (.type T) (.type n)=some b:=CM h1 c a
theorem T6{d:Ae}{n:String}(c:n = "int" \/ n = "bool" \/ n = "str" \/ n = "list" \/ n = "tuple"):PySem.W.kitOne K (.type (R4 d)) (.type n)=some (Xq d n):=by
 have a:∀T:String,(T = "NoneType" \/ T = "bool" \/ T = "int" \/ T = "str" \/ T = "list" \/ T = "tuple" \/ T = "dict")->PySem.W.kitOne K (.type T) (.type n)=some (T == n || (T == "bool" && n == "int")):=by
  intro T b
  rcases b with rfl | rfl | rfl | rfl | rfl | rfl | rfl <;> rcases c with rfl | rfl | rfl | rfl | rfl <;> first | exact AM | exact N8 (by decide +kernel) (by decide +kernel) (by decide +kernel)
 unfold Xq
 refine a _ ?_
 cases d <;> simp [R4]
theorem dE:Uk K (LV K) F8:=by
 intro m X n S T p o H Q P f c a k
 unfold F8 at a
 split at a
 ·rename_i j
  obtain ⟨v,F,w,G,rfl,c⟩:=cI f c j
  have g:w=.ty _:=Bl (c.ok _ Fc).1
  subst g
  have r:=c.told mem_mid
  refine ⟨v,_,.type (R4 _),_,rfl,?_,T6 a.1,k _ _ [] H (c.drop2.pushI (.bl _)) a.2⟩
  ·cases r with
   | non=>exact .non
   | bl b=>exact .bl b
   | int i=>exact .int i
   | str x=>exact .str x
   | lst h l d=>exact .lst h
   | tup h l d=>exact .tup h
   | dic h e d=>exact .dT h
   | dik h e d=>exact .dK h
   | dnm h e d=>exact .dT h
 ·exact a.elim
end
def dV(v:V):DE:=λa P=>P (.val v) a
section
variable{X:Cx}{e:Expr}
theorem ED{v:V}(h:PE X e (tC v)):Fi X e (dV v):=by
 refine PE.imp h λl H Q h=>?_
 obtain ⟨j,Y,S,T,g,P,rfl,d,i,c,k⟩:=h
 exact k _ g v [] S H rfl d ((i.push (e:=⟨some v,.val v,[]⟩) ⟨rfl,rfl⟩ (λf _=>⟨λ_ a b=>(nomatch b),λ_ a _=>Bf⟩) (λa b=>(nomatch b))).tomid) c
theorem lJ{x:Str}{n:String}{pos:Pos}(b:Gl X x)(d:X.mg x=none)(a:Kt x=some (.type n))(c:x ≠ "__name__" := by decide)(hd:(x == ("__debug__" : Str))=false:=by decide):Fi X (.Name x pos) (dV (.ty n)):=ED (R3 b d a rfl c hd)
end
end DL
namespace Nd
open PySem PySem.Spec PyProof.Rows L2
def JX(K:PySem.W.Frag)(a b:Addr):It :=
  ⟨λi H=>∃d c x y,Qf K H a d/\Qf K H b c/\d[i]? = some x/\c[i]? = some y,
   λi H x e=>∃p u v,x=.ref p/\H p=none/\e=upd H p (.tup [u,v])/\(∀d,Qf K H a d->d[i]? = some u)/\∀c,Qf K H b c->c[i]? = some v,
   λi H=>∃d c,Qf K H a d/\Qf K H b c/\(d.length<=i\/c.length<=i)⟩
theorem zY{P:Bq}{w:World}{K:PySem.W.Frag}{O:List Expr}{k:Nat}{pos:Pos}(a b z TI TO j l:Addr)(D:ZipApart z TI TO j l a b):Turn P w K (.Tuple O k pos) (JX K a b) [z,TI,TO,j,l] z (λi h=>IsZip h z TI TO .none/\IsPair h TI (.ref j) (.ref l)/\(∃u v,IsPair h TO u v)/\h.IsListIter j a i/\h.IsListIter l b i) where
 mem:=Aa
 obj:=λi h st c d=>by
  obtain ⟨t,e,⟨u,v,g⟩,⟨o1,e1,c1,d1⟩,⟨o2,e2,c2,d2⟩⟩:=st
  simp only[Ai,Bf,or_false] at d
  rcases d with rfl | rfl | rfl | rfl | rfl
  ·exact ⟨_,t,λv z=>by cases z⟩
  ·exact ⟨_,e,λv z=>by cases z⟩
  ·exact ⟨_,g,λv z=>by cases z⟩
  ·exact ⟨o1,e1,λv z=>by rw[d1] at z; cases z⟩
  ·exact ⟨o2,e2,λv z=>by rw[d2] at z; cases z⟩
 keep:=λi h h' st kp=>by
  obtain ⟨t,e,⟨u,v,g⟩,Q,U⟩:=st
  exact ⟨kp z (by simp) _ t,kp TI (by simp) _ e,⟨u,v,kp TO (by simp) _ g⟩,Q.at λo q=>kp j (by simp) o q,U.at λo q=>kp l (by simp) o q⟩
 item:=by
  intro X V hw hK d i A s σ H E I T st hg
  subst V hw hK
  obtain ⟨xs,ys,x,y,p,r,R,hy⟩:=hg
  obtain ⟨N,G,p1,h6⟩:=I.list p
  obtain ⟨L,F,p2,h3⟩:=I.list r
  obtain ⟨C,h0,h5⟩:=G.get R
  obtain ⟨J,h7,Y⟩:=F.get hy
  obtain ⟨t,e,⟨o1,o2,g⟩,m,n⟩:=st
  have zl:z<s.heap.objs.size:=Bn t
  have k0:TI<s.heap.objs.size:=Bn e
  have k3:TO<s.heap.objs.size:=Bn g
  have k1:j<s.heap.objs.size:=by obtain ⟨_,q,_⟩:=m; exact Bn q
  have h8:l<s.heap.objs.size:=by obtain ⟨_,q,_⟩:=n; exact Bn q
  refine wpAny_pyNext_zip_item D t e g m n p1.isList p2.isList (x:=C) (y:=J) (by simpa using h0) (by simpa using h7) λQ a1 a2 a3 a4 a5 a6 S=>⟨_,rfl,wpAny_letOwnedTupleGo_zip a1 λU Z h4=>?_⟩
  have f:Jf z Q U:=h4
  have I1:Inv X A σ (upd H s.heap.objs.size (.tup [x,y])) { s with heap:=s.heap.push { cls:=.type "tuple",data:=.seq #[C,J] } } :=
   I.laid (t':=s.toks) (λb o q=>Av _ q) (Aj _) ⟨by show 2<=Bc; decide,[C,J],.cons h5 (.cons Y .nil),_,Bs _ rfl,rfl,0,rfl⟩
  have nT:∀c∈[z,TI,TO,j,l],c≠s.heap.objs.size:=λc d=>by
   simp only[Ai,Bf,or_false] at d
   rcases d with rfl | rfl | rfl | rfl | rfl <;> exact Da (by assumption)
  have fr:∀c∈[z,TI,TO,j,l],(upd H s.heap.objs.size (.tup [x,y])) c=none:=λc d=>by rw[Ef (nT c d)]; exact (T c d).1
  refine ⟨.ref s.heap.objs.size,_,Qy (fp:=[z,TI,TO,j,l]) (s:={ s with heap:=s.heap.push { cls:=.type "tuple",data:=.seq #[C,J] } }) (h':=U) (t':=s.toks) I1 (λc o d q=>?_) (λc d=>⟨fr c d,(T c d).2⟩),rfl,⟨_,x,y,rfl,I.hok.fresh (Aj _),rfl,(λzs B=>by rw[I.list_inj B p]; exact R),λzs B=>by rw[I.list_inj B r]; exact hy⟩,⟨Z,?_,⟨C,J,?_⟩,?_,?_⟩,fr⟩
  ·simp only[Ai,Bf,or_false,not_or] at d
   refine (f.2 c d.1).trans ?_
   by_cases M:c=s.heap.objs.size
   ·subst M
    have q':=(Bs s.heap (o:={ cls:=.type "tuple",data:=.seq #[C,J] }) rfl).symm.trans q
    rw[show Q.get? s.heap.objs.size=_ from a5]
    exact q'
   ·refine S c o d.1 d.2.2.1 d.2.2.2.1 d.2.2.2.2 ?_
    have q0:(s.heap.push { cls:=.type "tuple",data:=.seq #[C,J] }).get? c=some o:=q
    rcases Heap.get?_push_cases q0 with zz | zz
    ·exact absurd zz.1 M
    ·exact zz
  ·exact (f.2 TI D.TIz).trans (S TI _ D.TIz D.TITO D.TIi1 D.TIi2 e)
  ·exact (f.2 TO D.TOz).trans a2
  ·exact a3.at λo q=>(f.2 j D.i1z).trans q
  ·exact a4.at λo q=>(f.2 l D.i2z).trans q
 done:=by
  intro X V hw hK d i A s σ H E I T st hg
  subst V hw hK
  obtain ⟨xs,ys,p,r,R⟩:=hg
  obtain ⟨N,G,p1,h6⟩:=I.list p
  obtain ⟨L,F,p2,h3⟩:=I.list r
  obtain ⟨t,e,⟨o1,o2,g⟩,m,n⟩:=st
  have h9:=G.length
  have k2:=F.length
  refine wpAny_pyNext_zip_end (I.ok.hd d) D t e g m n p1.isList p2.isList ?_ λQ S=>⟨rfl,Qy (fp:=[z,TI,TO,j,l]) (t':=s.toks) I (λc o d q=>?_) T⟩
  ·rcases R with h | h
   ·exact .inl (by simp; omega)
   ·exact .inr (by simp; omega)
  ·simp only[Ai,Bf,or_false,not_or] at d
   exact S c o d.1 d.2.2.1 d.2.2.2.1 d.2.2.2.2 q
 self:=λ_ _ _ _ _ st h=>wpAny_pyIter_zip st.1 h
theorem yE(I l1 l2:Nat)(h1:l1<I)(b:l2<I):ZipApart (I+4) (I+2) (I+3) I (I+1) l1 l2:=by
 constructor <;> (intro e; have a:(_:Nat)=_:=e; omega)
section
variable{X:Cx}
def JR(K:PySem.W.Frag)(d:TA):TI:=λf H R=>d f H λvs c=>∃a b,vs=[.ref a,.ref b]/\(∃e,Qf K c a e)/\(∃g,Qf K c b g)/\R (JX K a b) c
theorem DD{m:List Expr}{k:Nat}{tp:Pos}{a b:Expr}{F:TA}{p pos:Pos}(Z:Gl X "zip")(U:X.mg "zip" = none)(P:PA X [a,b] F)(hs:Be [a,b] X.env=(false,eval a X.env)::Be [b] X.env:=by rfl)(Q:(Gh pos (Be [b] X.env)).any (·.1)=false:=by rfl):PI X (.Tuple m k tp) (.Call (.Name "zip" p) [a,b] [] pos) (JR X.K F):=by
 intro f s σ H R I h
 refine Call_ (Qc I Z U (u:=.type "zip") (by decide +kernel) (Jw (Gk (P pos f s σ H _ I h) λus g ⟨vs,w,r,O,T⟩=>?_) hs Q))
 obtain ⟨L,G,e,⟨xs,z⟩,⟨ys,B⟩,q⟩:=T
 subst e
 obtain ⟨u1,u2,rfl,A,v⟩:=vals2 O
 cases A
 cases v
 obtain ⟨J,Y,t,h1⟩:=r.list z
 obtain ⟨E,W,j,h0⟩:=r.list B
 have i:L<g.heap.objs.size:=let ⟨o,q,_⟩:=t.isList; Bn q
 have l:G<g.heap.objs.size:=let ⟨o,q,_⟩:=j.isList; Bn q
 refine call_zip_2 t.isList j.isList λh2 N D C x y V S=>wpAny_pyIter_zip N ?_
 have d:∀n,My X f w (g.heap.objs.size+n):=λn=>r.fpOk (Rw _ _) (r.hok.fresh (Rw _ _))
 have fr:∀c∈[g.heap.objs.size+4,g.heap.objs.size+2,g.heap.objs.size+3,g.heap.objs.size,g.heap.objs.size+1],My X f w c:=λc M=>by
  simp only[Ai,Bf,or_false] at M
  rcases M with rfl | rfl | rfl | rfl | rfl
  ·exact d 4
  ·exact d 2
  ·exact d 3
  ·exact d 0
  ·exact d 1
 exact ⟨g.heap.objs.size+4,_,_,_,w,rfl,r.kept (t':=g.toks) S,zY L G _ _ _ _ _ (yE _ _ _ i l),⟨N,D,⟨_,_,C⟩,x,y⟩,fr,q⟩
end
end Nd
namespace Nd
open PySem PySem.Spec PyProof.Rows L2
open AutoSeq1 (wpAny_loadPart')
end Nd
namespace DL
open PySem L2 Nd
def dB(d:DE):DT:=λc P=>d c λx a=>match x with
 | .dat _ (.bool b)=>P b a
 | _=>False
def R5:Ae->Bool
 | .none=>false
 | .bool b=>b
 | .int i=>i != 0
 | .str s=>(s.length:Int) != 0
 | .list a=>!a.isEmpty
 | .tuple a=>!a.isEmpty
 | .dict _=>true
def GM:Ae->Prop
 | .str s=>s.length<=1000000
 | .dict _=>False
 | _=>True
def EC(c:DE):DT:=λb P=>c b λx a=>match x with
 | .dat _ d=>GM d/\P (R5 d) a
 | _=>False
def AC(dt:DT):DT:=λc P=>dt c λb a=>P (!b) a
def Y2(dt c:DT):DT:=λd P=>dt d λb a=>match b with
 | true=>c a P
 | false=>P false a
def IC(dt c:DT):DT:=λd P=>dt d λb a=>match b with
 | true=>P true a
 | false=>c a P
def HX(d:DE):DE:=λc P=>d c λx a=>match x with
 | .dat _ (.bool b)=>P (.dat .ow (.bool (!b))) a
 | _=>False
def HV(b c:DE):DE:=λd P=>b d λx a=>match x with
 | .dat _ (.bool true)=>c a P
 | .dat _ (.bool false)=>P (.dat .ow (.bool false)) a
 | _=>False
def IH(dt:DT)(c d:DE):DE:=λe P=>dt e λb a=>match b with
 | true=>c a P
 | false=>d a P
def FT(c:DE):DE:=λb P=>c b λx a=>match x with
 | .dat _ (.int i)=>P (.dat .ow (.int (-i))) a
 | _=>False
section
variable{K:PySem.W.Frag}{a:DE}
theorem AO:∀c H Q,LT K (dB a) c H Q->LE K a c H λx m=>∃k,x=.bl k/\Q k m:=by
 intro c H Q h
 obtain ⟨g,Y,S,T,o,P,rfl,j,p,i,k⟩:=h
 refine ⟨g,Y,S,T,o,_,rfl,j,p,i,λx d v F q f l n b e=>?_⟩
 split at e
 ·obtain ⟨rfl,_⟩:=(b.told mem_mid).bl_inv
  exact ⟨_,rfl,k _ d q f l n b.drop e⟩
 ·exact e.elim
theorem DR{H:Hp}{v:V}{d:Ae}{F:List Addr}(r:RdF K H v d F)(h:GM d):U3 K v H (R5 d):=by
 cases r with
 | non=>rfl
 | bl b=>rfl
 | int i=>rfl
 | str x=>exact ⟨Zg h,rfl⟩
 | lst e l c =>
  refine .inl ⟨_,Qf.of e,?_⟩
  have:=c.len
  rename_i f a G
  cases f <;> cases a <;> first | rfl | cases this
 | tup e l c =>
  refine .inr (.inl ⟨_,Tz.of e,?_⟩)
  have:=c.len
  rename_i f a
  cases f <;> cases a <;> first | rfl | cases this
 | dic _ _ _=>exact h.elim
 | dik _ _ _=>exact h.elim
 | dnm _ _ _=>exact h.elim
theorem BY:∀d H Q,LT K (EC a) d H Q->LE K a d H λx f=>∃k,U3 K x f k/\Q k f:=by
 intro d H Q h
 obtain ⟨i,Y,S,T,o,P,rfl,l,p,j,k⟩:=h
 refine ⟨i,Y,S,T,o,_,rfl,l,p,j,λx e v F q g m n b c=>?_⟩
 split at c
 ·exact ⟨_,DR (b.told mem_mid) c.1,k _ e q g m n b.drop c.2⟩
 ·exact c.elim
end
section
variable{X:Cx}{a b c e:Expr}{d f i:DE}{dt g:DT}{pos:Pos}{Gi:List Expr}
theorem Ov(h:Fi X e i)(b:∀a,isTrue e X.env a=(do let v <- a; Sx e.pos; Sy [v] (truthy v)):=by intro _; rfl):Zi X e (dB i):=PT.imp (B2 h b) AO
theorem Pz{c:CmpOp}{r:R2}{rd:D2}(e:Vn X (Hv c) r)(o:kZ X.K r rd)(g:Fi X a d)(hb:Fi X b f)(j:Gg c b=false):Zi X (.Compare a [c] [b] pos) (dB (Ve rd d f)):=by
 refine PT.imp (P7 e g hb j) λi H Q h=>?_
 exact op_le o _ _ _ (AO i H Q h)
theorem lO(c:Fi X a d)(hb:Fi X b f):Zi X (.Compare a [.Lt] [b] pos) (dB (Ve rdLt d f)):=Pz HK (gQ λ_ _ _=>.bl _) c hb (Ol _)
theorem X8(c:Fi X a d)(hb:Fi X b f):Zi X (.Compare a [.LtE] [b] pos) (dB (Ve rdLe d f)):=Pz L2.op_le (gQ λ_ _ _=>.bl _) c hb (Ol _)
theorem mL(c:Fi X a d)(hb:Fi X b f):Zi X (.Compare a [.Gt] [b] pos) (dB (Ve rdGt d f)):=Pz HC (gQ λ_ _ _=>.bl _) c hb (Ol _)
theorem Y8(c:Fi X a d)(hb:Fi X b f):Zi X (.Compare a [.GtE] [b] pos) (dB (Ve rdGe d f)):=Pz X0 (gQ λ_ _ _=>.bl _) c hb (Ol _)
theorem sS(e:X.A.units+64<cLine)(c:Fi X a d)(hb:Fi X b f):Zi X (.Compare a [.Eq] [b] pos) (dB (Ve (eT false) d f)):=Pz (J6 e) AD c hb (Ol _)
theorem gV(e:X.A.units+64<cLine)(c:Fi X a d)(hb:Fi X b f):Zi X (.Compare a [.NotEq] [b] pos) (dB (Ve (eT true) d f)):=Pz (B5 e) W8 c hb (Ol _)
theorem IQ(g:X.A.units+64<cLine)(c:Fi X a d)(hb:Fi X b f)(e:Gg .In b=false:=by with_unfolding_all rfl):Zi X (.Compare a [.In] [b] pos) (dB (Ve (lI false) d f)):=Pz (E9 g) g0 c hb e
theorem G6(g:X.A.units+64<cLine)(c:Fi X a d)(hb:Fi X b f)(e:Gg .NotIn b=false:=by with_unfolding_all rfl):Zi X (.Compare a [.NotIn] [b] pos) (dB (Ve (lI true) d f)):=Pz (vI g) g0 c hb e
theorem zA(e:Fi X a d)(c:∀b,isTrue a X.env b=(do let v <- b; Sx a.pos; Sy [v] (truthy v)):=by intro _; rfl):Zi X a (EC d):=PT.imp (C8 e c) BY
theorem Se(h:Zi X a dt):Zi X (.UnaryOp .Not a pos) (AC dt):=by
 refine PT.imp (CS h) λq H Q h=>?_
 obtain ⟨e,Y,S,T,m,P,rfl,i,n,f,k⟩:=h
 exact ⟨e,Y,S,T,m,_,rfl,i,n,f,λb d o j g l c p=>k _ d o j g l c p⟩
theorem jP(h:Zi X a dt):DQ X (.BoolOp .And [a] pos) dt:=U6 h
theorem Uz(h:Zi X a dt):DQ X (.BoolOp .Or [a] pos) dt:=BN h
theorem qX(h:Zi X a dt)(hb:DQ X (.BoolOp .And (b::Gi) pos) g):DQ X (.BoolOp .And (a::b::Gi) pos) (Y2 dt g):=by
 refine PW.imp (AX h hb) λr H Q h=>?_
 obtain ⟨e,Y,S,T,o,P,rfl,m,q,l,k⟩:=h
 refine ⟨e,Y,S,T,o,_,rfl,m,q,l,λb d j n f i c p=>?_⟩
 cases b with
 | true=>exact jZ ⟨e,Y,j,T,d,P,f,i,c,p,k⟩
 | false=>exact oG (k _ d j n f i c p)
theorem Vz(h:Zi X a dt)(hb:DQ X (.BoolOp .Or (b::Gi) pos) g):DQ X (.BoolOp .Or (a::b::Gi) pos) (IC dt g):=by
 refine PW.imp (IK h hb) λr H Q h=>?_
 obtain ⟨e,Y,S,T,o,P,rfl,m,q,l,k⟩:=h
 refine ⟨e,Y,S,T,o,_,rfl,m,q,l,λb d j n f i c p=>?_⟩
 cases b with
 | true=>exact jZ (k _ d j n f i c p)
 | false=>exact oG ⟨e,Y,j,T,d,P,f,i,c,p,k⟩
theorem eZ(h:DQ X a dt):Zi X a dt:=PW.pt h
theorem sC{op}(h:Fi X a d):Fi X (.BoolOp op [a] pos) d:=CK h
theorem kN(h:Fi X a d)(hb:Fi X (.BoolOp .And (b::Gi) pos) f):Fi X (.BoolOp .And (a::b::Gi) pos) (HV d f):=by
 refine PE.imp (AF h hb) λs H Q h=>?_
 obtain ⟨i,Y,S,T,q,P,rfl,p,r,o,k⟩:=h
 refine ⟨i,Y,S,T,q,_,rfl,p,r,o,λx e v F m n j l c g=>?_⟩
 split at g
 ·obtain ⟨rfl,_⟩:=(c.told mem_mid).bl_inv
  exact ⟨_,rfl,jZ ⟨i,Y,m,T,e,P,j,l,c.drop,g,k⟩⟩
 ·obtain ⟨rfl,_⟩:=(c.told mem_mid).bl_inv
  exact ⟨_,rfl,oG (k _ e _ [] m n j l (c.drop.pushI (.bl _)) g)⟩
 ·exact g.elim
theorem EG(h:Fi X a d):Fi X (.UnaryOp .Not a pos) (HX d):=by
 refine PE.imp (CG h) λq H Q h=>?_
 obtain ⟨g,Y,S,T,n,P,rfl,j,o,i,k⟩:=h
 refine ⟨g,Y,S,T,n,_,rfl,j,o,i,λx c v F p f l m b e=>?_⟩
 split at e
 ·obtain ⟨rfl,_⟩:=(b.told mem_mid).bl_inv
  exact ⟨_,rfl,k _ c _ [] p f l m (b.drop.pushI (.bl _)) e⟩
 ·exact e.elim
theorem jM(h:Fi X a d):Fi X (.UnaryOp .USub a pos) (FT d):=by
 refine PE.imp (FU DX h) λq H Q h=>?_
 obtain ⟨g,Y,S,T,n,P,rfl,j,o,i,k⟩:=h
 refine ⟨g,Y,S,T,n,_,rfl,j,o,i,λx c v F p f l m b e=>?_⟩
 split at e
 ·obtain ⟨rfl,_⟩:=(b.told mem_mid).int_inv
  exact ⟨_,rfl,k _ c _ [] p f l m (b.drop.pushI (.int _)) e⟩
 ·exact e.elim
theorem DY(t:Zi X c dt)(o:Fi X a d)(hb:Fi X b f):Fi X (.IfExp c a b pos) (IH dt d f):=by
 refine PE.imp (C9 t o hb) λv H Q h=>?_
 obtain ⟨i,Y,S,T,r,P,rfl,q,s,n,k⟩:=h
 refine ⟨i,Y,S,T,r,_,rfl,q,s,n,λb g m u j l e p=>?_⟩
 cases b with
 | true=>exact jZ ⟨i,Y,m,T,g,P,j,l,e,p,k⟩
 | false=>exact oG ⟨i,Y,m,T,g,P,j,l,e,p,k⟩
end
theorem PS.impD{X:Cx}{st:Stmt}{t t':TS}(h:PS X st t)(k:∀D a H,t' D a H->t D a H):PS X st t':=λb s a H D I q=>h b s a H D I (k D a H q)
theorem qG.impD{X:Cx}{st:List Stmt}{t t':TS}(h:qG X st t)(k:∀D a H,t' D a H->t D a H):qG X st t':=λb s a H D I q=>h b s a H D I (k D a H q)
def Z6:DB:=λD a=>D.nx a
def GS(t u:DB):DB:=λD b=>t { D with nx:=λa=>u D a } b
def GA(b:DE):DB:=λD a=>b a D.rt
def LM(dt:DT)(t u:DB):DB:=λD c=>dt c λb a=>match b with
 | true=>t D a
 | false=>u D a
def jC(d:DE)(b:DG):DB:=λD c=>d c λx a=>b x a D.nx
def BL:DB:=λ_ _=>False
section
variable{X:Cx}{st:Stmt}{e f c:Expr}{t u:DB}{Gi:List Stmt}{d:DE}{i:DG}{dt:DT}{pos:Pos}
theorem Jr:Zf X [] Z6:=by
 refine qG.impD uQ λD g H h=>?_
 obtain ⟨f,Y,S,T,c,P,rfl,b,l,d,a,e,j,i,k⟩:=h
 exact e c S H b d a
theorem Cc(h1:dY X st t)(n:Zf X Gi u):Zf X (st::Gi) (GS t u):=by
 refine qG.impD (Ln h1 n) λD r H h=>?_
 obtain ⟨c,Y,S,T,l,P,rfl,j,g,m,i,q,e,d,f⟩:=h
 exact ⟨c,Y,S,T,l,_,rfl,j,g,m,i,λb o s k a p=>⟨c,Y,o,T,b,P,rfl,k,g,a,p,q,e,d,f⟩,e,d,f⟩
theorem Cy(h1:dY X st t):Zf X [st] t:=Tr h1
theorem Fo(g:Fi X e d):dY X (.Return (some e) pos) (GA d):=by
 refine PS.impD (bG g) λD s H h=>?_
 obtain ⟨c,Y,S,T,k,P,rfl,i,w,l,f,t,o,r,u⟩:=h
 exact ⟨c,Y,S,T,k,_,rfl,i,l,f,λx b v F n j q m a p=>o x b v F n j m a p⟩
theorem Lz{a b:List Stmt}(v:Zi X c dt)(q:Zf X a t)(hb:Zf X b u):dY X (.If c a b pos) (LM dt t u):=by
 refine PS.impD (W1 v q hb) λD z H h=>?_
 obtain ⟨f,Y,S,T,s,P,rfl,x,l,r,w,o,g,j,k⟩:=h
 refine ⟨f,Y,S,T,s,_,rfl,x,r,w,λb e n y i m d p=>?_⟩
 cases b with
 | true=>exact jZ ⟨f,Y,n,T,e,P,i,m,l,d,p,o,g,j,k⟩
 | false=>exact oG ⟨f,Y,n,T,e,P,i,m,l,d,p,o,g,j,k⟩
theorem Vd{K:PySem.W.Frag}{j:TE}{g:TG}(h1:∀a H Q,LE K d a H Q->j a H Q)(y:∀v a H Q,LG K i v a H Q->g v a H Q):∀D a H,LS K (jC d i) D a H->wJ j g D a H:=by
 intro D a H h
 obtain ⟨k,Y,S,T,o,P,rfl,t,I,m,s,A,C,E,G⟩:=h
 refine h1 _ _ _ ⟨k,Y,S,T,o,_,rfl,t,m,s,λx f v F z B n u b p=>?_⟩
 exact y _ _ _ _ ⟨k,Y,z,T,f,x,F,P.nx,n,u,b,p,λe l w r c q=>A e l w r c q⟩
theorem zN(b:Fi X e d)(a:IJ X f i)(c:swapsWithSole [f] e pos.line X.env=pure false:=by rfl)(hw:swappedStores [f] e X.env=pure none:=by rfl)(h1:(Ku [f] X.env).map (·.2)=[Kv f X.env]:=by rfl):dY X (.Assign [f] e pos) (jC d i):=PS.impD (qU b a c hw h1) (Vd (λ_ _ _ h=>h) λ_ _ _ _ h=>h)
theorem yY:dY X st BL:=by
 refine PS.impD zW λD d H h=>?_
 obtain ⟨b,Y,S,T,e,P,rfl,c,g,f,a,_⟩:=h
 exact a
end
def Qd(i:Nat):DG:=λx a P=>match x with
 | .dat .pk _=>False
 | .dat _ d=>P ⟨a.sl.set i (.dat .sh d),a.n⟩
 | .val v=>P ⟨a.sl.set i (.val v),a.n⟩
 | .drw=>P ⟨a.sl.set i .drw,a.n⟩
 | .dT b=>P ⟨a.sl.set i (.dT b),a.n⟩
 | _=>False
def fQ(i:Nat):DG:=λx a P=>match x with
 | .dat .ow d=>P ⟨a.sl.set i (.dat .ow d),a.n⟩
 | .dat .tp d=>P ⟨a.sl.set i (.dat .tp d),a.n⟩
 | _=>False
theorem At.store{K:PySem.W.Frag}{a H:Hp}{X:Addr->Prop}{n:Nat}{S T:List Ent}{e:Ent}{i:Nat}(h:At K a X n (S++e::T) H):At K a X n (S.set i e++T) H:=by
 by_cases c:i<S.length
 ·have b:S[i]? = some S[i]:=by simp [c]
  have p:(S++e::T).Perm (S[i]::(S.set i e++T)):=by
   refine Fd.trans ?_
   rw[<- Fe,<- Fe]
   exact (Sf b).append_right T
  exact (h.perm p).sub (Ci _ _)
 ·rw[List.set_eq_of_length_le (by omega)]
  exact h.drop
theorem bM{S:List Ent}{i:Nat}{v:V}{x:DV}{F:List Addr}:vs (S.set i ⟨some v,x,F⟩)=(vs S).set i (some v):=by
 unfold vs
 rw[Hn]
theorem cA{S:List Ent}{a:DS}{i n:Nat}{v:V}{x:DV}{F:List Addr}(h:Sl S a):Sl (S.set i ⟨some v,x,F⟩) ⟨a.sl.set i x,n⟩:=by
 unfold Sl at h ⊢
 rw[Hn,h]
theorem iL{K:PySem.W.Frag}{i:Nat}:∀v f H Q,LG K (Qd i) v f H Q->Rr i v f H Q:=by
 intro v f H Q h
 obtain ⟨j,Y,S,T,g,x,F,P,rfl,l,c,b,k⟩:=h
 show Q ((vs S).set i (some v)) H
 have a:∀y,At K j Y g.n (S++⟨some v,y,F⟩::T) H->P ⟨g.sl.set i y,g.n⟩->Q ((vs S).set i (some v)) H:=λy e p=>by
  rw[<- bM (x:=y) (F:=F)]
  exact k _ _ H (cA l) e.store p
 unfold Qd at b
 split at b
 ·exact b.elim
 ·rename_i m d o
  refine a _ ?_ b
  refine (c.mid.wk ?_).tomid
  cases m <;> first | rfl | exact (o rfl).elim
 ·exact a _ c b
 ·exact a _ c b
 ·exact a _ c b
 ·exact b.elim
theorem E2{K:PySem.W.Frag}{i:Nat}:∀v d H Q,LG K (fQ i) v d H Q->Rr i v d H Q:=by
 intro v d H Q h
 obtain ⟨g,Y,S,T,e,x,F,P,rfl,j,f,a,k⟩:=h
 show Q ((vs S).set i (some v)) H
 have b:∀y,At K g Y e.n (S++⟨some v,y,F⟩::T) H->P ⟨e.sl.set i y,e.n⟩->Q ((vs S).set i (some v)) H:=λy c p=>by
  rw[<- bM (x:=y) (F:=F)]
  exact k _ _ H (cA j) c.store p
 unfold fQ at a
 split at a
 ·exact b _ f a
 ·exact b _ f a
 ·exact a.elim
section
variable{X:Cx}{pos:Pos}
theorem Gc{i:Nat}{x:Str}(b:X.N.Nodup)(c:X.N[i]? = some x)(a:Loc X.env.scope x)(d:X.fn x=true\/X.env.scope.names.lookup x=some .local:=by first | exact .inl rfl | exact .inr rfl | assumption):IJ X (.Name x pos) (Qd i):=PG.imp (La b c a d) iL
theorem Hr{i:Nat}{x:Str}{e:Expr}{b:DE}{a:Pos}(j:X.N.Nodup)(d:X.N[i]? = some x)(f:Loc X.env.scope x)(c:Fi X e b)(g:Hu e (some (.Name x a)) pos.line X.env=pure false:=by rfl)(k:X.fn x=true\/X.env.scope.names.lookup x=some .local:=by first | exact .inl rfl | exact .inr rfl | assumption):dY X (.Assign [.Name x a] e pos) (jC b (Qd i)):=PS.impD (Sa j d f c g k) (Vd (λ_ _ _ h=>h) iL)
theorem Pl{i:Nat}{x:Str}{e:Expr}{b:DE}{a:Pos}(j:X.N.Nodup)(d:X.N[i]? = some x)(f:Loc X.env.scope x)(c:Fi X e b)(g:Hu e (some (.Name x a)) pos.line X.env=pure false:=by rfl)(k:X.fn x=true\/X.env.scope.names.lookup x=some .local:=by first | exact .inl rfl | exact .inr rfl | assumption):dY X (.Assign [.Name x a] e pos) (jC b (fQ i)):=PS.impD (Sa j d f c g k) (Vd (λ_ _ _ h=>h) E2)
end
def zZ:e8:=λb a P=>match b with
 | []=>P a
 | _=>False
def tK(g:DG)(d:e8):e8:=λc b P=>match c with
 | x::r=>g x b λa=>d r a P
 | []=>False
def j6(n:Nat)(b:e8):DG:=λx a P=>match x with
 | .dat m (.tuple ds)=>ds.length=n/\b (ds.map λd=>.dat (Nv m) d) a P
 | _=>False
theorem At.unpack{K:PySem.W.Frag}{j H:Hp}{X:Addr->Prop}{n:Nat}{m:Md}:∀{us:List V} {r:List Ae} {F:List Addr} {E:List Ent},RdFs K H us r F->(m=.ow->F.Nodup)->(∀f∈E,Wp ⟨none,.dat (Nv m) .none,F⟩ f)->(∀a∈cells ⟨none,.dat (Nv m) .none,F⟩,j a=none)->At K j X n E H->∃As:List Ent,As.map Ent.v=us.map some/\As.map Ent.x=r.map (λd=>.dat (Nv m) d)/\(∀e∈As,∀a∈e.F,a∈F)/\At K j X n (As++E) H
 | _,_,_,_,.nil,_,_,_,h=>⟨[],rfl,rfl,λ_ z=>(nomatch z),h⟩
 | _,_,_,E,.cons (x:=x) (d:=d) (F:=F1) (G:=G1) a t,hn,hs,hnew,h=>by
  have l:∀{G:List Addr} {u:Option V} {g:Ae},(∀b∈G,b∈F1++G1)->∀b∈cells ⟨u,.dat (Nv m) g,G⟩,b∈cells ⟨none,.dat (Nv m) .none,F1++G1⟩:=λ{G u g} i b c=>by
   cases m with
   | ow=>exact i b c
   | _=>exact nomatch c
  have sub:∀{G:List Addr} {u:Option V} {g:Ae} {f:Ent},(∀b∈G,b∈F1++G1)->Wp ⟨none,.dat (Nv m) .none,F1++G1⟩ f->Wp ⟨u,.dat (Nv m) g,G⟩ f:=λ{G u g f} i q=>by
   refine ⟨λhp b c=>q.1 ?_ b (l i b c),λhp b c z=>q.2 ?_ b c (i b z)⟩
   ·rcases hp with hp | hp
    ·exact .inl hp
    ·cases hp
   ·rcases hp with hp | hp
    ·refine .inl ?_
     cases m <;> exact hp
    ·exact .inr hp
  obtain ⟨As,w,p,k,s⟩:=At.unpack (m:=m) t (λz=>(Ec.mp (hn z)).2.1) (λf hf=>sub (λb c=>Af _ c) (hs f hf)) (λb c=>hnew b (l (λb c=>Af _ c) b c)) h
  refine ⟨⟨some x,.dat (Nv m) d,F1⟩::As,by rw[Ax,Ax,w],by rw[Ax,Ax,p],λe he b c=>?_,?_⟩
  ·rcases Ai.mp he with rfl | he
   ·exact Ah _ c
   ·exact Af _ (k e he b c)
  ·refine s.push ⟨x,rfl,a,λz=>?_,λz=>?_⟩ (λf hf=>?_) λb c=>.inl (hnew b (l (λb c=>Ah _ c) b c))
   ·cases m with
    | ow=>exact (Ec.mp (hn rfl)).1
    | _=>cases z
   ·cases m <;> cases z
   ·rcases Am.mp hf with hf | hf
    ·have o:f.x∈As.map Ent.x:=Cn.mpr ⟨f,hf,rfl⟩
     rw[p] at o
     obtain ⟨g,_,y⟩:=Cn.mp o
     refine ⟨λhp b c z=>?_,λhp b c z=>?_⟩
     ·cases m with
      | ow=>exact (Ec.mp (hn rfl)).2.2 b c b (k f hf b z) rfl
      | _=>exact nomatch c
     ·cases m with
      | ow=>exact (Ec.mp (hn rfl)).2.2 b z b (k f hf b (Gu _ _ c)) rfl
      | _ =>
       unfold cells at c
       rw[<- y] at c
       exact nomatch c
    ·exact sub (λb c=>Ah _ c) (hs f hf)
section
variable{X:Cx}{pos:Pos}
theorem Wj:R1 X [] zZ:=by
 refine DZ.imp iN λf j H Q h=>?_
 obtain ⟨i,Y,S,T,g,e,P,rfl,d,b,c,a,k⟩:=h
 match g,c,a,b with
 | [],c,a,b =>
  cases f with
  | nil=>exact ⟨rfl,k e S H d c a⟩
  | cons _ _=>cases b
 | _::_,c,a,b=>exact a.elim
theorem Lm{e:Expr}{es:List Expr}{g:DG}{m:e8}(h1:IJ X e g)(w:R1 X es m)(y:(Ku (e::es) X.env).map (·.2)=Kv e X.env::(Ku es X.env).map (·.2):=by rfl):R1 X (e::es) (tK g m):=by
 refine DZ.imp (Rz h1 w y) λi B H Q h=>?_
 obtain ⟨n,Y,S,T,d,q,P,rfl,s,a,c,b,k⟩:=h
 match d,c,b,a with
 | [],c,b,a=>exact b.elim
 | ⟨v,x,F⟩::d,c,b,a =>
  cases i with
  | nil=>cases a
  | cons u i =>
   rw[Ax,Ax] at a
   obtain ⟨o,t⟩:=Hh a
   have l:v=some u:=o
   subst l
   refine ⟨u,i,rfl,n,Y,S,d++T,q,x,F,_,rfl,s,c,b,λj z A r f p=>?_⟩
   exact ⟨n,Y,z,T,d,j,P,rfl,r,t,f,p,k⟩
theorem aY{es:List Expr}{A:Nat}{l:e8}{n:Nat}(D:X.calm=true)(h:R1 X es l)(C:(Ku es X.env).length=n:=by rfl)(j:(Ku es X.env).findIdx? (·.1)=none:=by rfl):IJ X (.Tuple es A pos) (j6 n l):=by
 refine PG.imp (qA D h C j) λv M H Q h=>?_
 obtain ⟨G,Y,S,T,B,x,F,P,rfl,I,e,d,k⟩:=h
 unfold j6 at d
 split at d
 ·rename_i m L
  obtain ⟨a,t,rfl,u,q,N⟩:=(e.told mem_mid).tup_inv
  have g:=e.mid
  have o:=Ay.mp g.sep
  obtain ⟨w,_,_,i,_⟩:=g.ok _ Aa
  have p:∀b∈cells ⟨none,.dat (Nv m) .none,F⟩,b∈cells ⟨some (.ref a),.dat m (.tuple L),F⟩:=λb c=>by
   cases m with
   | ow=>exact c
   | _=>exact nomatch c
  obtain ⟨s,K,J,O,y⟩:=At.unpack (m:=m) (E:=S++T) q i (λf r=>by
   refine ⟨λhq b c=>(o.1 f r).1 ?_ b (p b c),λhq b c=>(o.1 f r).2 ?_ b c⟩
   ·rcases hq with hq | hq
    ·exact .inl hq
    ·cases hq
   ·rcases hq with hq | hq
    ·refine .inl ?_
     cases m <;> first | rfl | exact hq
    ·exact .inr hq) (λb c=>by
   rcases g.new _ Aa b (p b c) with z | z
   ·exact z
   ·cases z.2) e.drop
  refine ⟨a,t,rfl,Tz.of u,by rw[q.len]; exact d.1,G,Y,S,T,s,B,P,rfl,I,K,y.perm ?_,by rw[J]; exact d.2,k⟩
  rw[<- Bh,<- Bh]
  exact Eh.append_right T
 ·exact d.elim
end
theorem pN{K:PySem.W.Frag}{d H:Hp}{X:Addr->Prop}{n:Nat}{E:List Ent}(h:At K d X n E H):∀{e f:Ent},e∈E->f∈E->e=f\/Wp e f:=by
 have a:∀{E:List Ent},E.Pairwise Wp->∀{e f:Ent},e∈E->f∈E->e=f\/Wp e f:=by
  intro E
  induction E with
  | nil=>intro _ e f he; cases he
  | cons g E c =>
   intro i e f he hf
   have b:=Ay.mp i
   rcases Ai.mp he with he | he
   ·subst he
    rcases Ai.mp hf with hf | hf
    ·exact .inl hf.symm
    ·exact .inr (b.1 f hf)
   ·rcases Ai.mp hf with hf | hf
    ·rw[hf]
     exact .inr (b.1 e he).symm
    ·exact c b.2 he hf
 intro e f he hf
 exact a h.sep he hf
abbrev DI:=DS->(Md->List Ae->DS->Prop)->Prop
structure IterOk(K:PySem.W.Frag)(J:It)(hid:List Ent)(m:Md)(ds:List Ae):Prop where
 md:m=.sh\/m=.pk
 hd:∀e∈hid,cells e=[]
 np:m=.sh->∀e∈hid,Nw e.x=false
 go:∀H n i,(∀e∈hid,Ii K H n e)->i<ds.length->J.go i H
 yld:∀H n i x H',(∀e∈hid,Ii K H n e)->i<ds.length->J.yld i H x H'->Nt H H'/\∃d F,ds[i]? = some d/\RdF K H' x d F/\∀a∈F,∃e∈hid,a∈e.F
 stop:∀H n,(∀e∈hid,Ii K H n e)->J.stop ds.length H
def LI(K:PySem.W.Frag)(i:DI):TI:=λg H R=>∃(f:Hp) (X:Addr->Prop) (S T:List Ent) (c:DS) (P:Md->List Ae->DS->Prop),vs S=g/\Sl S c/\At K f X c.n (S++T) H/\i c P /\
 ∀m e a J b d h,vs d=g->Sl d a->At K f X a.n (d++(b++T)) h->IterOk K J b m e->e.length<=Bc->P m e a->R J h
abbrev yK(X:Cx)(c a:Expr)(b:DI):Prop:=PI X c a (LI X.K b)
theorem PI.imp{X:Cx}{c e:Expr}{t t':TI}(h:PI X c e t)(k:∀a H Q,t' a H Q->t a H Q):PI X c e t':=λb s a H Q I q=>h b s a H Q I (k a H Q q)
def Ld:Md->Md
 | .pk=>.pk
 | _=>.sh
theorem Wt(m:Md):wk m (Ld m)=true:=by cases m <;> rfl
theorem At.item{K:PySem.W.Frag}{k H i:Hp}{X:Addr->Prop}{n:Nat}{S T b:List Ent}{m:Md}{v:V}{d:Ae}{F:List Addr}(h:At K k X n (S++(b++T)) H)(s:Nt H i)(r:RdF K i v d F)(u:∀a∈F,∃e∈b,a∈e.F)(md:m=.sh\/m=.pk)(p:∀e∈b,cells e=[])(np:m=.sh->∀e∈b,Nw e.x=false):At K k X n (S++⟨some v,.dat m d,F⟩::(b++T)) i:=by
 have t:=h.grow (n':=n) s (Aj _)
 have l:∀a,a∉cells ⟨some v,.dat m d,F⟩:=λa c=>by
  rcases md with rfl | rfl <;> exact nomatch c
 refine (t.push (e:=⟨some v,.dat m d,F⟩) ⟨v,rfl,r,λz=>?_,λz=>?_⟩ (λf w=>⟨λ_ a c=>absurd c (l a),λhq a c z=>?_⟩) λa c=>absurd c (l a)).tomid
 ·rcases md with rfl | rfl <;> cases z
 ·rcases md with rfl | rfl <;> cases z
 ·obtain ⟨e,g,o⟩:=u a z
  have j:e∈S++(b++T):=Af _ (Ah _ g)
  rcases pN h j w with rfl | q
  ·rw[p e g] at c
   cases c
  ·refine q.2 ?_ a c o
   rcases hq with hq | hq
   ·refine .inl (np ?_ e g)
    rcases md with rfl | rfl
    ·rfl
    ·cases hq
   ·exact .inr hq
def MA(c:DE):DI:=λb P=>c b λx a=>match x with
 | .dat m (.list ds)=>P (Ld m) ds a
 | .dat m (.tuple ds)=>P (Ld m) ds a
 | _=>False
def oM(b:DA):DI:=λc P=>b c λd a=>match d with
 | [.dat _ (.int j)]=>-1000000<=j/\j<=1000000/\P .sh ((Ce j.toNat).map λi:Nat=>.int i) a
 | _=>False
def u5(b:DA):DI:=λc P=>b c λd a=>match d with
 | [.dat m (.list ds)]=>P (Ld m) (ds.zipIdx.map λp=>.tuple [.int p.2,p.1]) a
 | _=>False
def JE(b:DA):DI:=λc P=>b c λd a=>match d with
 | [.dat m (.tuple ds)]=>P (Ld m) (ds.zipIdx.map λp=>.tuple [.int p.2,p.1]) a
 | _=>False
def mdZip:Md->Md->Md
 | .pk,_=>.pk
 | _,.pk=>.pk
 | _,_=>.sh
def X9(b:DA):DI:=λc P=>b c λd a=>match d with
 | [.dat m (.list ds),.dat m' (.list es)]=>P (mdZip m m') ((ds.zip es).map λp=>.tuple [p.1,p.2]) a
 | _=>False
section
variable{K:PySem.W.Frag}
theorem Js{H:Hp}{n:Nat}{v:V}{m:Md}{d:Ae}{F:List Addr}{a:List Ent}(h:∀e∈a,Ii K H n e)(b:⟨some v,.dat m d,F⟩∈a):RdF K H v d F:=by
 obtain ⟨w,f,c,_⟩:=h _ b
 cases f
 exact c
theorem aV{v:Option V}{m:Md}{d:Ae}{F:List Addr}:cells ⟨v,.dat (Ld m) d,F⟩=[]:=by cases m <;> rfl
theorem qR{v:Option V}{m:Md}{d:Ae}{F:List Addr}:∀e∈[(⟨v,.dat (Ld m) d,F⟩ : Ent)],cells e=[]:=λe a=>by
 rw[Ac.mp a]
 exact aV
theorem j8{v:Option V}{m:Md}{d:Ae}{F:List Addr}:Ld m=.sh->∀e∈[(⟨v,.dat (Ld m) d,F⟩ : Ent)],Nw e.x=false:=λz e a=>by
 rw[Ac.mp a]
 show Nw (.dat (Ld m) d)=false
 rw[z]
 rfl
theorem jI(m:Md):Ld m=.sh\/Ld m=.pk:=by cases m <;> simp [Ld]
theorem vL{a:Addr}{m:Md}{j:List Ae}{F:List Addr}:IterOk K (IZ K a) [⟨some (.ref a),.dat (Ld m) (.list j),F⟩] (Ld m) j where
 md:=jI m
 hd:=qR
 np:=j8
 go:=λH n i h k=>by
  obtain ⟨b,d,G,e,g,f,_,_⟩:=(Js h Aa).list_inv
  cases e
  have t:=f.len
  exact ⟨d,d[i],Qf.of g,by simp [show i<d.length by omega]⟩
 yld:=λH n i x u h k y=>by
  obtain ⟨b,d,G,e,g,f,rfl,_⟩:=(Js h Aa).list_inv
  cases e
  obtain ⟨rfl,y⟩:=y
  have o:=y d (Qf.of g)
  obtain ⟨v,r,l,p,q⟩:=f.get (i:=i) (e:=j[i]) (by simp [k])
  rw[o] at l
  cases l
  exact ⟨Nt.refl _,j[i],r,by simp [k],p,λc s=>⟨_,Aa,Ad _ (q.subset s)⟩⟩
 stop:=λH n h=>by
  obtain ⟨b,d,G,e,g,f,_,_⟩:=(Js h Aa).list_inv
  cases e
  exact ⟨d,Qf.of g,by rw[f.len]; exact Aj _⟩
theorem zR{a:Addr}{m:Md}{j:List Ae}{F:List Addr}:IterOk K (KW K a) [⟨some (.ref a),.dat (Ld m) (.tuple j),F⟩] (Ld m) j where
 md:=jI m
 hd:=qR
 np:=j8
 go:=λH n i h k=>by
  obtain ⟨b,d,e,g,f,_⟩:=(Js h Aa).tup_inv
  cases e
  have t:=f.len
  exact ⟨d,d[i],Tz.of g,by simp [show i<d.length by omega]⟩
 yld:=λH n i x u h k y=>by
  obtain ⟨b,d,e,g,f,_⟩:=(Js h Aa).tup_inv
  cases e
  obtain ⟨rfl,y⟩:=y
  have o:=y d (Tz.of g)
  obtain ⟨v,r,l,p,q⟩:=f.get (i:=i) (e:=j[i]) (by simp [k])
  rw[o] at l
  cases l
  exact ⟨Nt.refl _,j[i],r,by simp [k],p,λc s=>⟨_,Aa,q.subset s⟩⟩
 stop:=λH n h=>by
  obtain ⟨b,d,e,g,f,_⟩:=(Js h Aa).tup_inv
  cases e
  exact ⟨d,Tz.of g,by rw[f.len]; exact Aj _⟩
theorem pX{lo:Int}{n:Nat}:IterOk K (Z0 lo n) [] .sh ((Ce n).map λi:Nat=>.int (lo+i)) where
 md:=.inl rfl
 hd:=λ_ z=>nomatch z
 np:=λ_ _ z=>nomatch z
 go:=λH k i h a=>by
  show i<n
  simpa using a
 yld:=λH k i x b h a y=>by
  obtain ⟨rfl,rfl⟩:=y
  rw[Ab,Dq] at a
  exact ⟨Nt.refl _,.int (lo+i),[],by simp [a],.int _,λ_ z=>nomatch z⟩
 stop:=λH k h=>by simp [Z0]
theorem xV{a:Addr}{m:Md}{k:List Ae}{F:List Addr}:IterOk K (KO K a) [⟨some (.ref a),.dat (Ld m) (.list k),F⟩] (Ld m) (k.zipIdx.map λp=>.tuple [.int p.2,p.1]) where
 md:=jI m
 hd:=qR
 np:=j8
 go:=λH n i h g=>by
  obtain ⟨b,d,G,e,j,f,_,_⟩:=(Js h Aa).list_inv
  cases e
  have A:=f.len
  rw[Ab,Iq] at g
  exact ⟨d,d[i],Qf.of j,by simp [show i<d.length by omega]⟩
 yld:=λH n i x B h g y=>by
  obtain ⟨b,d,G,e,j,f,rfl,_⟩:=(Js h Aa).list_inv
  cases e
  rw[Ab,Iq] at g
  obtain ⟨t,z,rfl,w,rfl,y⟩:=y
  have q:=y d (Qf.of j)
  obtain ⟨C,u,l,r,s⟩:=f.get (i:=i) (e:=k[i]) (by simp [g])
  rw[q] at l
  cases l
  have o:=Fj w (.tup [.int i,z])
  refine ⟨o,.tuple [.int i,k[i]],u,by simp [g],.tup Di (by simp [Iw]) ?_,λc v=>⟨_,Aa,Ad _ (s.subset v)⟩⟩
  have:=RdFs.cons (F:=[]) (.int (i:Int)) (RdFs.cons (r.kp (Kp.of o)) RdFs.nil)
  rw[Dd] at this
  exact this
 stop:=λH n h=>by
  obtain ⟨b,d,G,e,j,f,_,_⟩:=(Js h Aa).list_inv
  cases e
  exact ⟨d,Qf.of j,by rw[Ab,Iq,f.len]; exact Aj _⟩
theorem zP{a b:Addr}{m q:Md}{k es:List Ae}{F G:List Addr}:IterOk K (JX K a b) [⟨some (.ref a),.dat (Ld m) (.list k),F⟩,⟨some (.ref b),.dat (Ld q) (.list es),G⟩] (mdZip m q) ((k.zip es).map λp=>.tuple [p.1,p.2]) where
 md:=by cases m <;> cases q <;> simp [mdZip]
 hd:=λe he=>by
  rcases Ai.mp he with rfl | he
  ·exact aV
  ·rw[Ac.mp he]
   exact aV
 np:=λz e he=>by
  rcases Ai.mp he with rfl | he
  ·cases m <;> cases q <;> first | rfl | cases z
  ·rw[Ac.mp he]
   cases m <;> cases q <;> first | rfl | cases z
 go:=λH n i h C=>by
  obtain ⟨Q,l,N,s,g,j,_,_⟩:=(Js h Aa).list_inv
  obtain ⟨O,o,P,A,f,d,_,_⟩:=(Js h (Ad _ Aa)).list_inv
  cases s
  cases A
  have U:=j.len
  have T:=d.len
  rw[Ab,Tw] at C
  exact ⟨l,o,l[i],o[i],Qf.of g,Qf.of f,by simp [show i<l.length by omega],by simp [show i<o.length by omega]⟩
 yld:=λH n i x Y h C y=>by
  obtain ⟨Q,l,N,s,g,j,rfl,_⟩:=(Js h Aa).list_inv
  obtain ⟨O,o,P,A,f,d,rfl,_⟩:=(Js h (Ad _ Aa)).list_inv
  cases s
  cases A
  rw[Ab,Tw] at C
  obtain ⟨t,u,v,rfl,R,rfl,S,X⟩:=y
  have E:=S l (Qf.of g)
  have I:=X o (Qf.of f)
  obtain ⟨x1,W,r,L,D⟩:=j.get (i:=i) (e:=k[i]) (by simp [show i<k.length by omega])
  obtain ⟨Z,V,w,B,J⟩:=d.get (i:=i) (e:=es[i]) (by simp [show i<es.length by omega])
  rw[E] at r
  cases r
  rw[I] at w
  cases w
  have M:=Fj R (.tup [u,v])
  refine ⟨M,.tuple [k[i],es[i]],W++V,?_,.tup Di (by simp [Iw]) ?_,λc hc=>?_⟩
  ·rw[Bm,show (k.zip es)[i]? = some (k[i],es[i]) from List.getElem?_zip_eq_some.mpr ⟨by simp [show i<k.length by omega],by simp [show i<es.length by omega]⟩]
   rfl
  ·have:=RdFs.cons (L.kp (Kp.of M)) (RdFs.cons (B.kp (Kp.of M)) RdFs.nil)
   rw[Dd] at this
   exact this
  ·rcases Am.mp hc with hc | hc
   ·exact ⟨_,Aa,Ad _ (D.subset hc)⟩
   ·exact ⟨_,Ad _ Aa,Ad _ (J.subset hc)⟩
 stop:=λH n h=>by
  obtain ⟨Q,l,N,s,g,j,_,_⟩:=(Js h Aa).list_inv
  obtain ⟨O,o,P,A,f,d,_,_⟩:=(Js h (Ad _ Aa)).list_inv
  cases s
  cases A
  have U:=j.len
  have T:=d.len
  refine ⟨l,o,Qf.of g,Qf.of f,?_⟩
  rw[Ab,Tw]
  omega
end
section
variable{X:Cx}{g e:Expr}{c:DE}{l:DI}
def dL(c:DE):DI:=λb P=>c b λx a=>match x with
 | .dat m (.list ds)=>P (Ld m) ds a
 | _=>False
def MF(c:DE):DI:=λb P=>c b λx a=>match x with
 | .dat m (.tuple ds)=>P (Ld m) ds a
 | _=>False
theorem kY(h:Fi X e c):yK X g e (dL c):=by
 refine PI.imp (aC h) λw H R h=>?_
 obtain ⟨j,Y,S,T,s,P,rfl,p,t,l,k⟩:=h
 refine ⟨j,Y,S,T,s,_,rfl,p,t,l,λx f v F u i o q b d=>?_⟩
 split at d
 ·obtain ⟨a,m,G,rfl,n,y,rfl,r⟩:=(b.told mem_mid).list_inv
  exact ⟨a,rfl,⟨m,Qf.of n⟩,k _ _ f _ [_] u i o q ((b.mid.wk (Wt _)).tomid) vL r d⟩
 ·exact d.elim
theorem JU(h:Fi X e c):yK X g e (MF c):=by
 refine PI.imp (EN h) λw H R h=>?_
 obtain ⟨j,Y,S,T,s,P,rfl,p,t,l,k⟩:=h
 refine ⟨j,Y,S,T,s,_,rfl,p,t,l,λx f v F u i o q b d=>?_⟩
 split at d
 ·obtain ⟨a,m,rfl,n,y,r⟩:=(b.told mem_mid).tup_inv
  exact ⟨a,rfl,⟨m,Tz.of n⟩,k _ _ f _ [_] u i o q ((b.mid.wk (Wt _)).tomid) zR r d⟩
 ·exact d.elim
variable{es:List Expr}{f:DA}{a b:Expr}{p pos i:Pos}{d:List Expr}{j:Nat}
theorem Mp(r:Gl X "range")(n:X.mg "range" = none)(i:oZ X [a] f)(y:Be [a] X.env=[(false,eval a X.env)]:=by rfl):yK X g (.Call (.Name "range" p) [a] [] pos) (oM f):=by
 refine PI.imp (gG r n i y) λE H R h=>?_
 obtain ⟨s,Y,S,T,q,P,rfl,u,l,t,k⟩:=h
 refine ⟨s,Y,S,T,q,_,rfl,u,l,t,λB d G A z j o w m e c p=>?_⟩
 split at p
 ·obtain ⟨v,F,rfl,b⟩:=Lq e c m
  obtain ⟨rfl,_⟩:=(b.told mem_mid).int_inv
  obtain ⟨D,C,x⟩:=p
  refine ⟨_,rfl,by omega,by omega,k _ _ d _ [] z j o w b.drop pX (by rw[Ab,Dq]; exact Zg (by omega)) ?_⟩
  simpa using x
 ·exact p.elim
theorem iW(u:Gl X "enumerate")(r:X.mg "enumerate" = none)(e:oZ X [a] f)(B:Be [a] X.env=[(false,eval a X.env)]:=by rfl):yK X (.Tuple d j i) (.Call (.Name "enumerate" p) [a] [] pos) (u5 f):=by
 refine PI.imp (T5 u r e B) λI H R h=>?_
 obtain ⟨w,Y,S,T,t,P,rfl,y,o,x,k⟩:=h
 refine ⟨w,Y,S,T,t,_,rfl,y,o,x,λl g J D C n s z q m c p=>?_⟩
 split at p
 ·obtain ⟨v,F,rfl,b⟩:=Lq m c q
  obtain ⟨a,l,G,rfl,e,E,rfl,A⟩:=(b.told mem_mid).list_inv
  exact ⟨a,rfl,⟨l,Qf.of e⟩,k _ _ g _ [_] C n s z ((b.mid.wk (Wt _)).tomid) xV (by rw[Ab,Iq]; exact A) p⟩
 ·exact p.elim
theorem EX(z:Gl X "zip")(u:X.mg "zip" = none)(g:oZ X [a,b] f)(I:Be [a,b] X.env=(false,eval a X.env)::Be [b] X.env:=by rfl)(o:(Gh pos (Be [b] X.env)).any (·.1)=false:=by rfl):yK X (.Tuple d j i) (.Call (.Name "zip" p) [a,b] [] pos) (X9 f):=by
 refine PI.imp (DD z u g I o) λQ H R h=>?_
 obtain ⟨B,Y,S,T,y,P,rfl,D,r,C,k⟩:=h
 refine ⟨B,Y,S,T,y,_,rfl,D,r,C,λm l W L J q x E s n e p=>?_⟩
 split at p
 ·obtain ⟨v,F,w,G,rfl,c⟩:=cI n e s
  obtain ⟨a,m,M,rfl,g,N,rfl,U⟩:=(c.told mem_mid).list_inv
  obtain ⟨b,t,V,rfl,K,O,rfl,A⟩:=(c.told Fc).list_inv
  refine ⟨a,b,rfl,⟨m,Qf.of g⟩,⟨t,Qf.of K⟩,k _ _ l _ [_,_] J q x E (((((c.mid.wk (Wt _)).tomid).swap.mid.wk (Wt _)).tomid).swap) zP (by rw[Ab,Tw]; omega) p⟩
 ·exact p.elim
end
def HR(g:DI)(j:DG)(f:DB):DB:=λD h=>g h λm e b=>m=.sh/\∃I:Nat->DS->Prop,I 0 b /\
 (∀i d a,e[i]? = some d->I i a->j (.dat .sh d) a λc=>f { D with nx:=I (i+1),ct:=I (i+1),bk:=D.nx } c)/\∀a,I e.length a->D.nx a
section
variable{X:Cx}{c a:Expr}{g:DI}{j:DG}{f:DB}{b:List Stmt}{pos:Pos}
theorem At.dropH{K:PySem.W.Frag}{b H:Hp}{X:Addr->Prop}{n:Nat}{S T a:List Ent}{e:Ent}(h:At K b X n (S++e::(a++T)) H):At K b X n (S++e::T) H:=h.sub ((Ck S).append ((Ca a T).cons₂ e))
theorem Kh(hp:PassesOwn (model X.prog X.w) X.A X.env X.xe)(hc:X.calm=true)(hi:yK X c a g)(hg:IJ X c j)(hb:Zf X b f)(W:∀x,Cw a X.env x=pure x:=by intro _; rfl):dY X (.For c a b [] pos) (HR g j f):=by
 refine PS.impD (zL hp hc hi hg hb W) λD U H h=>?_
 obtain ⟨L,Y,S,T,s,P,rfl,hS,hT,hA,hd,k1,k2,k3,k4⟩:=h
 refine ⟨L,Y,S,T,s,_,rfl,hS,hA,hd,λm E Z J r S1 H1 e1 e2 R it hz p1=>?_⟩
 obtain ⟨rfl,I,h0,W,hf⟩:=p1
 rw[<- e1]
 have V:∀e∈r++T,Nw e.x=false:=λe he=>by
  rcases Am.mp he with he | he
  ·exact it.np rfl e he
  ·exact hT e he
 refine ⟨λi q U H=>q=E.length - i/\i<=E.length/\∃S s,vs S=U/\Sl S s/\At X.K L Y s.n (S++(r++T)) H/\I i s,⟨E.length,by simp,Dh _,S1,Z,rfl,e2,R,h0⟩,?_⟩
 (intro i q U H q_; obtain ⟨rfl,hi,S2,l,rfl,e3,z,hI⟩ := q_)
 have k:∀e∈r,Ii X.K H l.n e:=λe he=>z.ok e (Af _ (Ah _ he))
 by_cases B:i<E.length
 ·refine .inr ⟨it.go H l.n i k B,λG N=>∃S s,vs S=G/\Sl S s/\At X.K L Y s.n (S++(r++T)) N/\I (i+1) s,λG N q=>⟨E.length - (i+1),by omega,rfl,B,q⟩,λx N y=>?_⟩
  obtain ⟨s1,d,F,h1,h2,h3⟩:=it.yld H l.n i x N k B y
  refine ⟨L,Y,S2,r++T,l,.dat .sh d,F,_,rfl,e3,z.item s1 h2 h3 it.md it.hd it.np,W i d l h1 hI,λO S3 H3 e4 Q p3=>?_⟩
  refine ⟨L,Y,S3,r++T,O,_,rfl,e4,V,Q,p3,λo C M u p t=>⟨C,o,rfl,u,p,t⟩,λx o v F C M u p t=>k2 x o v F C M u p.dropH t,
   λo C M u p t=>k1 o C M u p.dropL t,λo C M u p t=>⟨C,o,rfl,u,p,t⟩⟩
 ·have e:i=E.length:=by omega
  subst e
  exact .inl ⟨it.stop H l.n k,k1 l S2 H e3 z.dropL (hf l hI)⟩
end
def j5(dt:DT)(f:DB):DB:=λD g=>∃(I:DS->Prop) (e:DS->Nat),I g/\∀c,I c->dt c λb d=>match b with
 | true=>f { D with nx:=λa=>I a/\e a<e c,ct:=λa=>I a/\e a<e c,bk:=D.nx } d
 | false=>D.nx d
end DL
namespace Nd
open PySem PySem.Spec PyProof.Rows L2
theorem eX(c e f g d:Expr)(a:Scope)(pos:Pos)(it b:Value)(env:Env) :
  compTurn (.ListComp c [⟨e,f,[],0⟩,⟨g,d,[],0⟩] a pos) 0 it b env=(do
   Sx f.pos
   match <- Yx it with
   | none=>pure (.done .next)
   | some v =>
    Ie e it v
    Kv e env v
    let x <- eval d env
    Sx d.pos
    let x <- Cw d env x
    let it2 <- Sy [x] (pyIter x)
    let _ <- runOwn (.compStart (.ListComp c [⟨e,f,[],0⟩,⟨g,d,[],0⟩] a pos) 1 it2 b env) env
    again (.compLoop (.ListComp c [⟨e,f,[],0⟩,⟨g,d,[],0⟩] a pos) 0 it b env)):=by rfl
theorem fB(c f g d e:Expr)(a:Scope)(pos:Pos)(it b:Value)(env:Env) :
  compTurn (.ListComp c [⟨f,g,[],0⟩,⟨d,e,[],0⟩] a pos) 1 it b env=(do
   Sx e.pos
   match <- Yx it with
   | none=>pure (.done .next)
   | some v =>
    Ie d it v
    Kv d env v
    (do let _ <- call (.builtin "list.append") [b,<- eval c env])
    again (.compLoop (.ListComp c [⟨f,g,[],0⟩,⟨d,e,[],0⟩] a pos) 1 it b env)):=by rfl
section
variable{prog:Bq}{w:World}{A:Df}{R:Result->Al->Prop}{s:Al}
theorem eV{c:Expr}{g:Comprehension}{f e:Expr}{a:Scope}{pos:Pos}{it b:Value}{env:Env}(h0:Iu (model prog w) A (.compLoop (.ListComp c [g,⟨f,e,[],0⟩] a pos) 1 it b env) R s)(h:wpAny (model prog w) A (pyIter it) (λd s'=>Iu (model prog w) A (.compLoop (.ListComp c [g,⟨f,e,[],0⟩] a pos) 1 d b env) R s') (λ_ _=>False) s):Iu (model prog w) A (.compStart (.ListComp c [g,⟨f,e,[],0⟩] a pos) 1 it b env) R s:=by
 refine codeAny_of_tree ?_
 show wpAny _ _ ((compStart (.ListComp c [g,⟨f,e,[],0⟩] a pos) 1 it b env).onRaise (λx=>do noteFrame x env; Sx theWindowsPlace)) _ _ s
 refine wpAny_notedAt ?_
 unfold compStart
 show wpAny _ _ (ask >>= _) _ _ s
 refine Ag (wpAny_askSetting (wpAny_ite ?_))
 split
 ·first
   | exact Ag (Aw (Aw (And.intro rfl h0)))
   | exact Aw (And.intro rfl h0)
 ·first
   | exact Ag (Vo (Ag (He (Ag (Co h (λd s' i=>Aw (And.intro rfl i)) λ_ _ x=>x.elim)))))
   | (refine Ag (Vo ?_); show wpAny _ _ (Sx e.pos >>= _) _ _ s; exact Ag (He (Ag (Co h (λd s' i=>Aw (And.intro rfl i)) λ_ _ x=>x.elim))))
theorem mV{c g j k i:Expr}{a:Scope}{pos:Pos}{it b:Value}{env:Env}(l:∀x,Cw i env x=pure x)(J:Nat->Al->Prop) (turn:∀n s,J n s->wpAny (model prog w) A (Yx it) (λr o=>match r with
    | none=>R (.ok .next) o
    | some v=>wpAny (model prog w) A (Ie g it v) (λ_ t=>wpAny (model prog w) A (Kv g env v) (λ_ q =>
      wpAny (model prog w) A (eval i env) (λx B=>wpAny (model prog w) A (pyIter x) (λd y =>
       Iu (model prog w) A (.compStart (.ListComp c [⟨g,j,[],0⟩,⟨k,i,[],0⟩] a pos) 1 d b env) (λr u=>match r with | .ok _=>∃m,m<n/\J m u | .error _=>False) y) (λ_ _=>False) B) (λ_ _=>False) q) (λ_ _=>False) t) (λ_ _=>False) o) (λ_ _=>False) s)
  (n:Nat) (h:J n s):Iu (model prog w) A (.compLoop (.ListComp c [⟨g,j,[],0⟩,⟨k,i,[],0⟩] a pos) 0 it b env) R s:=by
 refine iC rfl J (λn s E=>?_) n h
 show wpAny _ A (Sem.onRaise (compTurn (.ListComp c [⟨g,j,[],0⟩,⟨k,i,[],0⟩] a pos) 0 it b env) (λx=>do noteFrame x env; theTreesLotGoes x)) _ _ s
 refine wpAny_noted ?_
 rw[eX]
 refine Ag (He (Ag (Co (turn n s E) (λr o C=>?_) λ_ _ z=>z.elim)))
 cases r with
 | none=>exact Aw C
 | some v =>
  refine Ag (Co C (λ_ t G=>?_) λ_ _ z=>z.elim)
  refine Ag (Co G (λ_ q H=>?_) λ_ _ z=>z.elim)
  refine Ag (Co H (λx B F=>?_) λ_ _ z=>z.elim)
  refine Ag (He (Ag (wpAny_of_eq (l x) (Ag (Eg (Co F (λd y D=>?_) λ_ _ z=>z.elim))))))
  refine Ag (wpAny_runOwn ?_)
  refine Qu D λr u p=>?_
  cases r with
  | ok f=>exact Aw ⟨rfl,p⟩
  | error e=>exact p.elim
theorem oO{b o k d f:Expr}{a:Scope}{pos:Pos}{it c:Value}{env:Env}(J:Nat->Al->Prop) (turn:∀n s,J n s->wpAny (model prog w) A (Yx it) (λr e=>match r with
    | none=>R (.ok .next) e
    | some v=>wpAny (model prog w) A (Ie d it v) (λ_ p=>wpAny (model prog w) A (Kv d env v) (λ_ j =>
      wpAny (model prog w) A (eval b env) (λx i=>wpAny (model prog w) A (call (.builtin "list.append") [c,x]) (λ_ g=>∃m,m<n/\J m g) (λ_ _=>False) i) (λ_ _=>False) j) (λ_ _=>False) p) (λ_ _=>False) e) (λ_ _=>False) s)
  (n:Nat) (h:J n s):Iu (model prog w) A (.compLoop (.ListComp b [⟨o,k,[],0⟩,⟨d,f,[],0⟩] a pos) 1 it c env) R s:=by
 refine iC rfl J (λn s t=>?_) n h
 show wpAny _ A (Sem.onRaise (compTurn (.ListComp b [⟨o,k,[],0⟩,⟨d,f,[],0⟩] a pos) 1 it c env) (λx=>do noteFrame x env; theTreesLotGoes x)) _ _ s
 refine wpAny_noted ?_
 rw[fB]
 refine Ag (He (Ag (Co (turn n s t) (λr e l=>?_) λ_ _ z=>z.elim)))
 cases r with
 | none=>exact Aw l
 | some v =>
  refine Ag (Co l (λ_ p u=>?_) λ_ _ z=>z.elim)
  refine Ag (Co u (λ_ j y=>?_) λ_ _ z=>z.elim)
  refine Ag (Ag (Co y (λx i B=>?_) λ_ _ z=>z.elim))
  exact Ag (Co B (λ_ g q=>Aw (Aw ⟨rfl,q⟩)) λ_ _ z=>z.elim)
end
section
variable{X:Cx}
def h9(J:It)(r:List Nat)(h:TI)(t:TE)(k:L2.St)(j:Hp)(Q:VK):Prop:=∀D,j D=none->∃W:Nat->Nat->Hp->Prop,(∃m,W 0 m (upd j D (.lst [])))/\∀i m H,W i m H ->
 (J.stop i H/\Q (.ref D) H)\/(J.go i H/\∀x l,J.yld i H x l->∀o:Option V,h (some x::o::Ei k r) l λf s=>∃g:Nat->Nat->Hp->Prop,(∃e,g 0 e s)/\∀b e d,g b e d ->
  (f.stop b d/\∃n,n<m/\W (i+1) n d)\/(f.go b d/\∀y p,f.yld b d y p->t (some x::some y::Ei k r) p λz q=>∃a,q D=some (.lst a)/\a.length<Bc/\∃c,c<e/\g (b+1) c (upd q D (.lst (a++[z])))))
def pC(c:TI)(f:List Nat)(a:TI)(e:TE):TE:=λb H Q=>c b H λJ d=>h9 J f a e b d Q
end
section
variable{X:Cx}
theorem FR{D f:Expr}{x k V:Str}{px l pt py pos h0:Pos}{kt:Nat}{i0:Nat}{B:List Expr}{a:Scope}{cl:List (Str×Addr)}{ys:List Str}{Y:List Nat}{wi:TI}{tc:TT}{te:TE}(hN:X.N.Nodup)(j0:X.N[i0]? = some V)(q7:X.env.scope.names.lookup V=some .local)(C:CompScope X a cl x ys Y)(Z:mN a k)(k0:(x::k::ys).Nodup)(hc:X.calm=true)(hi:PI X (.Tuple [.Name x px,.Name k l] kt pt) f wi)(ht:∀fp s H,pA (Dg X a cl (x::k::ys) fp s H) B tc)(he:∀fp s H,PE (Dg X a cl (x::k::ys) fp s H) D te)(hs:∀x,Cw f X.env x=pure x:=by intro _; rfl)(j6:Hu (.ListComp D [⟨.Tuple [.Name x px,.Name k l] kt pt,f,B,0⟩] a pos) (some (.Name V py)) h0.line X.env=pure true:=by rfl):PS X (.Assign [.Name V py] (.ListComp D [⟨.Tuple [.Name x px,.Name k l] kt pt,f,B,0⟩] a pos) h0) (wJ (yP X.K wi Y tc te) (Rr i0)):=by
 intro d s t H De I h
 have h:yP X.K wi Y tc te t H λv H1=>De.nx (t.set i0 (some v)) H1:=h
 rw[Xb _ _ _ _ j6]
 refine Ag (He (Ag ?_))
 show wpAny _ X.A (do let _ <- dR (.ListComp D [⟨.Tuple [.Name x px,.Name k l] kt pt,f,B,0⟩] a pos) a X.env _ (newList []) false (eval f X.env) (some (Kv (.Name V py) X.env))) _ _ s
 refine Ag (Co (Jv (use:=some (Kv (.Name V py) X.env)) (Q:=λ_ s'=>SP X d De .next s') rfl hs C.clos C.kind C.locs (Gk (hi d s t H _ I h) λv s1 h1=>Gk h1 λy4 g h2=>?_)) (λ_ s' hq=>Aw (Aw hq)) λ_ _ e=>e)
 obtain ⟨it,fp,tn,J,H2,e,I2,T,j7,f2,q2⟩:=h2
 subst e
 have fD:H2 g.heap.objs.size=none:=I2.hok.fresh (Aj _)
 obtain ⟨W,⟨m0,w0⟩,q4⟩:=q2 g.heap.objs.size fD
 refine Hf ?_
 have I3:Inv X d t (upd H2 g.heap.objs.size (.lst [])) { g with heap:=g.heap.push { cls:=.type "list",dict:=none,data:=.seq ([]:List Value).toArray } } :=
  I2.laid (t':=g.toks) (λb u q=>Av _ q) (Aj _) ⟨Dh _,[],0,.nil,Bs _ rfl⟩
 obtain ⟨f3,q5,j3⟩:=Sv I2 T j7 f2 I3
 generalize k2:({ g with heap:=g.heap.push { cls:=.type "list",dict:=none,data:=.seq ([]:List Value).toArray } }:Al)=s3 at I3
 have Re:tn 0 s3.heap:=by rw[<- k2]; exact q5
 have o3:∀b∈fp,∃o,s3.heap.get? b=some o:=by rw[<- k2]; exact j3
 show wpAny _ _ (Ma a X.env.globals cl [] X.env.qual none .none (some X.env)) _ _ _
 refine Ql C λh4 k9 G q0=>?_
 have I4:∀tk,Inv (Dg X a cl (x::k::ys) fp s3 (upd H2 g.heap.objs.size (.lst []))) [] (none::none::Ei t Y) (upd H2 g.heap.objs.size (.lst [])) { s3 with heap:=h4,toks:=tk }:=λtk=>Oz (pre:=[x,k]) C I3 f3 o3 k9 G q0
 have k1:tn 0 h4:=T.keep 0 _ _ Re λb E o q=>G b o q
 generalize M:Dg X a cl (x::k::ys) fp s3 (upd H2 g.heap.objs.size (.lst []))=X' at I4
 obtain ⟨eP,eW,eK,eA,eC⟩:=Sh hc M
 have F:∀{j:Hp},(∀b∈fp,j b=none)->∀b∈fp,My X' [] j b:=λ{j} hn=>Qq M (I4 0) hn
 have R:∀s5:Al,s5={ s3 with heap:=h4,toks:=s3.toks+([]:List (Str×Value)).length } ->
   Iu (model X.prog X.w) X.A (.compLoop (.ListComp D [⟨.Tuple [.Name x px,.Name k l] kt pt,f,B,0⟩] a pos) 0 (.ref it) (.ref g.heap.objs.size) (Ur a (Et (s3.heap.objs.size+1) a.names cl) s3.heap.objs.size X.env))
    (compPost (model X.prog X.w) X.A X.xe (some (Kv (.Name V py) X.env)) (λ_ s'=>SP X d De .next s') (.ref g.heap.objs.size) s3.heap.objs.size) s5:=by
  rintro s5 rfl
  refine Uv (λn s'=>∃i o o2 j,Inv X' [] (o::o2::Ei t Y) j s'/\tn i s'.heap/\(∀b∈fp,j b=none)/\W i n j) ?_ m0
   ⟨0,none,none,_,I4 _,k1,λb E=>(f3 b E).1,w0⟩
  (intro n s6 q_; obtain ⟨i,o,o2,H6,I6,k7,h8,w6⟩ := q_)
  rcases q4 i n H6 w6 with ⟨k3,qn⟩ | ⟨go,step⟩
  ·have hd:=T.done X' eP eW eK eC i [] s6 _ H6 (λ_ _=>False) I6 (F h8) k7 k3
   rw[eA] at hd
   refine Gk hd λr s7 c => ?_
   obtain ⟨hr,I7⟩ := c
   subst hr
   obtain ⟨⟨m7,S⟩,k8,J7⟩:=Xz M I3 f3 I7
   have fC:My X d H6 s3.heap.objs.size:=I3.fpOk (Aj _) k8
   obtain ⟨oC,y7,y3,k4,rC⟩:=id S
   have J8:Inv X (d++[(s3.heap.objs.size,oC)]) t H6 s7:=J7.pins_of λp hp=>by
    rcases Am.mp hp with z | z
    ·have q:=J7.pin p (Af _ z)
     exact q
    ·rw[Ac.mp z]
     exact ⟨k4,k8,fC.2.1,fC.2.2.1,λv hv=>by rw[rC.1] at hv; cases hv⟩
   refine Gk (La (X:=X) (i:=i0) (x:=V) (pos:=py) hN j0 (.inl q7) (.inr q7) (d++[(s3.heap.objs.size,oC)]) s7 t H6 (.ref g.heap.objs.size) (.ref g.heap.objs.size) (λh3 j=>h3=t.set i0 (some (.ref g.heap.objs.size))/\j=H6) J8 rfl ⟨rfl,rfl⟩) λ_ L c => ?_
   obtain ⟨x7,U,O,e9,h5⟩ := c
   subst e9 h5
   have q6:=(O.pin (s3.heap.objs.size,oC) (Af _ (Af _ Aa))).1
   have x3:Inv X d (t.set i0 (some (.ref g.heap.objs.size))) U L:=O.pins_of λp hp=>O.pin p (Af _ (Ah _ hp))
   refine ⟨m7,S.at λo e=>by rw[k4] at e; cases e; exact q6,λy5 q3=>?_⟩
   exact ⟨_,U,Qy (t':=L.toks) (fp:=[s3.heap.objs.size]) x3 (λb o E e=>(q3.2 b (λz=>E (by rw[z]; exact Aa))).trans e) (λb E=>by rw[Ac.mp E]; exact fC),qn⟩
  ·have k5:=T.item X' eP eW eK eC i [] s6 _ H6 (λ_ _=>False) I6 (F h8) k7 go
   rw[eA] at k5
   refine Gk k5 λr s7 c => ?_
   obtain ⟨u,hr,h7⟩ := c
   subst hr
   refine Gk h7 λ_ s8 c => ?_
   obtain ⟨y,H8,I8,r8,y8,h6,x6⟩ := c
   have j5:=I8.pinned (F x6) (T.obj _ _ h6)
   obtain ⟨tp,w1,w2,ey,x8,N1,N2,j9,x1,j1⟩:=step y H8 y8
   have again:∀{U:Hp} {L:Al} {m':Nat},Inv X' ([]++On fp s8.heap) (some w1::some w2::Ei t Y) U L->m'<n->W (i+1) m' U->∃m,m<n/\∃i o o2 j,Inv X' [] (o::o2::Ei t Y) j L/\tn i L.heap/\(∀b∈fp,j b=none)/\W i m j:=λ{U L m'} O hm w9=>by
    refine ⟨m',hm,i+1,some w1,some w2,U,O.unpinned,T.keep _ _ _ h6 λb E o e=>(O.pin (b,o) (Af _ (Af _ (Gr E e)))).1,λb E=>?_,w9⟩
    obtain ⟨o,e,_⟩:=T.obj _ _ h6 b E
    exact (O.pin (b,o) (Af _ (Af _ (Gr E e)))).2.1
   subst M
   have g1:PG (Dg X a cl (x::k::ys) fp s3 (upd H2 g.heap.objs.size (.lst []))) (.Tuple [.Name x px,.Name k l] kt pt) (BC X.K 2 (lZ (Rr 0) (lZ (Rr 1) DN))) :=
    qA (X:=Dg X a cl (x::k::ys) fp s3 (upd H2 g.heap.objs.size (.lst []))) hc (Rz (La (i:=0) (x:=x) k0 rfl (Pp C.own) (Si C.own)) (Rz (La (i:=1) (x:=k) k0 rfl (Pp Z) (Si Z)) iN))
   refine Gk (g1 _ s8 _ H8 y u (λh3 j=>h3=some w1::some w2::Ei t Y/\j=H8) j5 r8 ⟨tp,[w1,w2],ey,x8,rfl,_,_,rfl,_,_,rfl,rfl,rfl,rfl⟩) λ_ L c => ?_
   obtain ⟨x7,U,O,e9,h5⟩ := c
   subst e9 h5
   refine Gk (ht fp s3 _ _ L _ _ _ O j1) λok j8 c => ?_
   obtain ⟨y6,k6,P⟩ := c
   cases ok with
   | false =>
    rw[if_neg Cg] at P ⊢
    obtain ⟨m',hm,x9⟩:=j9 _ P
    exact again k6 hm x9
   | true =>
    rw[if_pos rfl] at P ⊢
    refine Gk (he fp s3 _ _ j8 _ _ _ k6 P) λz x5 c => ?_
    obtain ⟨vz,h9,j2,j4,x0⟩ := c
    obtain ⟨q1,ha,hz,m',hm,x4⟩:=x1 _ _ x0
    refine Gk (Nz _ x5 _ h9 (.ref g.heap.objs.size) [vz] (.ref g.heap.objs.size) [z] (λ_ j=>j=upd h9 g.heap.objs.size (.lst (q1++[vz]))) j2 rfl (.cons j4 .nil) ⟨_,q1,vz,rfl,rfl,ha,hz,rfl⟩) λ_ y2 c => ?_
    obtain ⟨_,y1,q9,_,q8⟩ := c
    subst q8
    exact again q9 hm x4
 exact Nn (R _ rfl) (T.self X.A 0 _ _ _ k1 (R _ rfl))
theorem o6{F g d:Expr}{x t y0:Str}{px D py pos h9:Pos}{i0:Nat}{a:Scope}{cl:List (Str×Addr)}{ys:List Str}{M:List Nat}{wi k6:TI}{te:TE}(hN:X.N.Nodup)(y6:X.N[i0]? = some y0)(x8:X.env.scope.names.lookup y0=some .local)(C:CompScope X a cl x ys M)(h8:mN a t)(q3:(x::t::ys).Nodup)(hc:X.calm=true)(hi:PI X (.Name x px) g wi)(y2:∀fp s H,PI (Dg X a cl (x::t::ys) fp s H) (.Name t D) d k6)(he:∀fp s H,PE (Dg X a cl (x::t::ys) fp s H) F te)(hs:∀x,Cw g X.env x=pure x:=by intro _; rfl)(a6:∀fp s H v,Cw d (Dg X a cl (x::t::ys) fp s H).env v=pure v:=by intro _ _ _ _; rfl)(z3:Hu (.ListComp F [⟨.Name x px,g,[],0⟩,⟨.Name t D,d,[],0⟩] a pos) (some (.Name y0 py)) h9.line X.env=pure true:=by rfl):PS X (.Assign [.Name y0 py] (.ListComp F [⟨.Name x px,g,[],0⟩,⟨.Name t D,d,[],0⟩] a pos) h9) (wJ (pC wi M k6 te) (Rr i0)):=by
 intro j s B H De I h
 have h:pC wi M k6 te B H λv H1=>De.nx (B.set i0 (some v)) H1:=h
 rw[Xb _ _ _ _ z3]
 refine Ag (He (Ag ?_))
 show wpAny _ X.A (do let _ <- dR (.ListComp F [⟨.Name x px,g,[],0⟩,⟨.Name t D,d,[],0⟩] a pos) a X.env _ (newList []) false (eval g X.env) (some (Kv (.Name y0 py) X.env))) _ _ s
 refine Ag (Co (Jv (use:=some (Kv (.Name y0 py) X.env)) (Q:=λ_ S=>SP X j De .next S) rfl hs C.clos C.kind C.locs (Gk (hi j s B H _ I h) λv s1 h1=>Gk h1 λb3 k h2=>?_)) (λ_ S hq=>Aw (Aw hq)) λ_ _ e=>e)
 obtain ⟨it,fp,tn,J,H2,e,I2,T,v0,f2,q2⟩:=h2
 subst e
 have fD:H2 k.heap.objs.size=none:=I2.hok.fresh (Aj _)
 obtain ⟨W,⟨m0,w0⟩,x3⟩:=q2 k.heap.objs.size fD
 refine Hf ?_
 have I3:Inv X j B (upd H2 k.heap.objs.size (.lst [])) { k with heap:=k.heap.push { cls:=.type "list",dict:=none,data:=.seq ([]:List Value).toArray } } :=
  I2.laid (t':=k.toks) (λb u q=>Av _ q) (Aj _) ⟨Dh _,[],0,.nil,Bs _ rfl⟩
 obtain ⟨f3,x5,y9⟩:=Sv I2 T v0 f2 I3
 generalize q7:({ k with heap:=k.heap.push { cls:=.type "list",dict:=none,data:=.seq ([]:List Value).toArray } }:Al)=s3 at I3
 have Re:tn 0 s3.heap:=by rw[<- q7]; exact x5
 have o3:∀b∈fp,∃o,s3.heap.get? b=some o:=by rw[<- q7]; exact y9
 show wpAny _ _ (Ma a X.env.globals cl [] X.env.qual none .none (some X.env)) _ _ _
 refine Ql C λh4 j7 P j8=>?_
 have I4:∀tk,Inv (Dg X a cl (x::t::ys) fp s3 (upd H2 k.heap.objs.size (.lst []))) [] (none::none::Ei B M) (upd H2 k.heap.objs.size (.lst [])) { s3 with heap:=h4,toks:=tk }:=λtk=>Oz (pre:=[x,t]) C I3 f3 o3 j7 P j8
 have q6:tn 0 h4:=T.keep 0 _ _ Re λb l o q=>P b o q
 generalize Y:Dg X a cl (x::t::ys) fp s3 (upd H2 k.heap.objs.size (.lst []))=X' at I4
 obtain ⟨eP,eW,eK,eA,eC⟩:=Sh hc Y
 have O:∀{f:Hp},(∀b∈fp,f b=none)->∀b∈fp,My X' [] f b:=λ{f} hn=>Qq Y (I4 0) hn
 have h0:∀s5:Al,s5={ s3 with heap:=h4,toks:=s3.toks+([]:List (Str×Value)).length } ->
   Iu (model X.prog X.w) X.A (.compLoop (.ListComp F [⟨.Name x px,g,[],0⟩,⟨.Name t D,d,[],0⟩] a pos) 0 (.ref it) (.ref k.heap.objs.size) (Ur a (Et (s3.heap.objs.size+1) a.names cl) s3.heap.objs.size X.env))
    (compPost (model X.prog X.w) X.A X.xe (some (Kv (.Name y0 py) X.env)) (λ_ S=>SP X j De .next S) (.ref k.heap.objs.size) s3.heap.objs.size) s5:=by
  rintro s5 rfl
  refine mV (λv=>a6 fp s3 (upd H2 k.heap.objs.size (.lst [])) v) (λn S=>∃i o G f,Inv X' [] (o::G::Ei B M) f S/\tn i S.heap/\(∀b∈fp,f b=none)/\W i n f) ?_ m0
   ⟨0,none,none,_,I4 _,q6,λb l=>(f3 b l).1,w0⟩
  (intro n s6 q_; obtain ⟨i,o,G,H6,I6,j2,q0,w6⟩ := q_)
  rcases x3 i n H6 w6 with ⟨q8,qn⟩ | ⟨go,step⟩
  ·have hd:=T.done X' eP eW eK eC i [] s6 _ H6 (λ_ _=>False) I6 (O q0) j2 q8
   rw[eA] at hd
   refine Gk hd λr s7 c => ?_
   obtain ⟨hr,I7⟩ := c
   subst hr
   obtain ⟨⟨m7,h3⟩,j4,J7⟩:=Xz Y I3 f3 I7
   have fC:My X j H6 s3.heap.objs.size:=I3.fpOk (Aj _) j4
   obtain ⟨oC,b4,b0,j0,rC⟩:=id h3
   have J8:Inv X (j++[(s3.heap.objs.size,oC)]) B H6 s7:=J7.pins_of λp hp=>by
    rcases Am.mp hp with z | z
    ·have q:=J7.pin p (Af _ z)
     exact q
    ·rw[Ac.mp z]
     exact ⟨j0,j4,fC.2.1,fC.2.2.1,λv hv=>by rw[rC.1] at hv; cases hv⟩
   refine Gk (La (X:=X) (i:=i0) (x:=y0) (pos:=py) hN y6 (.inl x8) (.inr x8) (j++[(s3.heap.objs.size,oC)]) s7 B H6 (.ref k.heap.objs.size) (.ref k.heap.objs.size) (λK f=>K=B.set i0 (some (.ref k.heap.objs.size))/\f=H6) J8 rfl ⟨rfl,rfl⟩) λ_ U c => ?_
   obtain ⟨a5,H9,Z,e9,k3⟩ := c
   subst e9 k3
   have x7:=(Z.pin (s3.heap.objs.size,oC) (Af _ (Af _ Aa))).1
   have v7:Inv X j (B.set i0 (some (.ref k.heap.objs.size))) H9 U:=Z.pins_of λp hp=>Z.pin p (Af _ (Ah _ hp))
   refine ⟨m7,h3.at λo e=>by rw[j0] at e; cases e; exact x7,λj6 x1=>?_⟩
   exact ⟨_,H9,Qy (t':=U.toks) (fp:=[s3.heap.objs.size]) v7 (λb o l e=>(x1.2 b (λz=>l (by rw[z]; exact Aa))).trans e) (λb l=>by rw[Ac.mp l]; exact fC),qn⟩
  ·have j1:=T.item X' eP eW eK eC i [] s6 _ H6 (λ_ _=>False) I6 (O q0) j2 go
   rw[eA] at j1
   refine Gk j1 λr s7 c => ?_
   obtain ⟨u,hr,h7⟩ := c
   subst hr
   refine Gk h7 λ_ s8 c => ?_
   obtain ⟨y,H8,I8,r8,y8,k9,a0⟩ := c
   have z1:=I8.pinned (O a0) (T.obj _ _ k9)
   have v4:=step y H8 y8 G
   have again:∀{H9:Hp} {U:Al} {m':Nat} {o9:Option V},Inv X' ([]++On fp s8.heap) (some y::o9::Ei B M) H9 U->m'<n->W (i+1) m' H9->∃m,m<n/\∃i o G f,Inv X' [] (o::G::Ei B M) f U/\tn i U.heap/\(∀b∈fp,f b=none)/\W i m f:=λ{H9 U m' o9} Z hm w9=>by
    refine ⟨m',hm,i+1,some y,o9,H9,Z.unpinned,T.keep _ _ _ k9 λb l o e=>(Z.pin (b,o) (Af _ (Af _ (Gr l e)))).1,λb l=>?_,w9⟩
    obtain ⟨o,e,_⟩:=T.obj _ _ k9 b l
    exact (Z.pin (b,o) (Af _ (Af _ (Gr l e)))).2.1
   subst Y
   refine Gk (La (i:=0) (x:=x) (pos:=px) q3 rfl (Pp C.own) (Si C.own) _ s8 _ H8 y u (λK f=>K=some y::G::Ei B M/\f=H8) z1 r8 ⟨rfl,rfl⟩) λ_ U c => ?_
   obtain ⟨a5,H9,Z,e9,k3⟩ := c
   subst e9 k3
   refine Gk (y2 fp s3 _ _ U _ _ _ Z v4) λv2 b1 j6=>Gk j6 λa7 w8 w7=>?_
   obtain ⟨v9,k4,z5,J2,x9,v1,y7,T2,h6,x6,W2,⟨z9,a4⟩,k7⟩:=w7
   subst v1
   have E:∀{f:Hp},(∀b∈k4,f b=none)->∀b∈k4,My (Dg X a cl (x::t::ys) fp s3 (upd H2 k.heap.objs.size (.lst []))) ([]++On fp s8.heap) f b:=λhn b l=>⟨hn b l,(x6 b l).2⟩
   have R:Iu (model X.prog X.w) X.A (.compLoop (.ListComp F [⟨.Name x px,g,[],0⟩,⟨.Name t D,d,[],0⟩] a pos) 1 (.ref v9) (.ref k.heap.objs.size) (Ur a (Et (s3.heap.objs.size+1) a.names cl) s3.heap.objs.size X.env))
     (λr s6=>match r with | .ok _=>∃m,m<n/\∃i o G f,Inv (Dg X a cl (x::t::ys) fp s3 (upd H2 k.heap.objs.size (.lst []))) [] (o::G::Ei B M) f s6/\tn i s6.heap/\(∀b∈fp,f b=none)/\W i m f | .error _=>False) w8:=by
    refine oO (λn2 S=>∃i2 G f,Inv (Dg X a cl (x::t::ys) fp s3 (upd H2 k.heap.objs.size (.lst []))) ([]++On fp s8.heap) (some y::G::Ei B M) f S/\z5 i2 S.heap/\(∀b∈k4,f b=none)/\W2 i2 n2 f) ?_ z9
     ⟨0,G,x9,y7,h6,λb l=>(x6 b l).1,a4⟩
    (intro n2 q1 q_; obtain ⟨i2,p2,k1,q5,h5,k0,v8⟩ := q_)
    rcases k7 i2 n2 k1 v8 with ⟨k5,m',w3,w'⟩ | ⟨w4,k8⟩
    ·have hd:=T2.done _ rfl rfl rfl hc i2 _ q1 _ k1 (λ_ _=>False) q5 (E k0) h5 k5
     refine Gk hd λr v6 c => ?_
     obtain ⟨hr,z4⟩ := c
     subst hr
     exact again z4 w3 w'
    ·have x4:=T2.item _ rfl rfl rfl hc i2 _ q1 _ k1 (λ_ _=>False) q5 (E k0) h5 w4
     refine Gk x4 λr v6 c => ?_
     obtain ⟨u2,hr,a1⟩ := c
     subst hr
     refine Gk a1 λ_ z8 c => ?_
     obtain ⟨z,q9,z0,y4,w1,L,j9⟩ := c
     have q4:=z0.pinned (E j9) (T2.obj _ _ L)
     refine Gk (La (i:=1) (x:=t) (pos:=D) q3 rfl (Pp h8) (Si h8) _ z8 _ q9 z u2 (λK f=>K=some y::some z::Ei B M/\f=q9) q4 y4 ⟨rfl,rfl⟩) λ_ w2 c => ?_
     obtain ⟨a8,v5,z7,y1,j5⟩ := c
     subst y1 j5
     refine Gk (he fp s3 _ _ w2 _ _ _ z7 (k8 z v5 w1)) λzv a3 c => ?_
     obtain ⟨vz,j3,a2,z6,z2⟩ := c
     obtain ⟨x0,ha,hz,y5,w5,v3⟩:=z2
     refine Gk (Nz _ a3 _ j3 (.ref k.heap.objs.size) [vz] (.ref k.heap.objs.size) [zv] (λ_ f=>f=upd j3 k.heap.objs.size (.lst (x0++[vz]))) a2 rfl (.cons z6 .nil) ⟨_,x0,vz,rfl,rfl,ha,hz,rfl⟩) λ_ a9 c => ?_
     obtain ⟨_,b2,k2,_,y3⟩ := c
     subst y3
     refine ⟨y5,w5,i2+1,some z,_,k2.unpinned,T2.keep _ _ _ L λb l o e=>(k2.pin (b,o) (Af _ (Af _ (Gr l e)))).1,λb l=>?_,v3⟩
     obtain ⟨o,e,_⟩:=T2.obj _ _ L b l
     exact (k2.pin (b,o) (Af _ (Af _ (Gr l e)))).2.1
   exact eV R (T2.self X.A 0 _ _ _ h6 R)
 exact Nn (h0 _ rfl) (T.self X.A 0 _ _ _ q6 (h0 _ rfl))
end
end Nd
namespace DL
open PySem L2 Nd
def al(e:Ent):Ent:=match e.x with
 | .dat m d=>⟨e.v,.dat (jL m) d,e.F⟩
 | .val _=>e
 | .scr _=>e
 | _=>⟨e.v,.un,[]⟩
def alD:DV->DV
 | .dat m d=>.dat (jL m) d
 | .val v=>.val v
 | .scr a=>.scr a
 | _=>.un
def C0(S:List Ent)(j:Nat):Ent:=match S[j]? with
 | some e=>al e
 | none=>⟨none,.un,[]⟩
def aA(S:List Ent)(a:List Nat):List Ent:=a.map (C0 S)
def frD1(a:List DV)(j:Nat):DV:=match a[j]? with
 | some x=>alD x
 | none=>.un
def frD(a:List DV)(b:List Nat):List DV:=b.map (frD1 a)
theorem JI(e:Ent):(al e).v=e.v:=by
 obtain ⟨v,x,F⟩:=e
 cases x <;> rfl
theorem KB(e:Ent):(al e).x=alD e.x:=by
 obtain ⟨v,x,F⟩:=e
 cases x <;> rfl
theorem sO(S:List Ent)(a:List Nat):vs (aA S a)=Ei (vs S) a:=by
 unfold vs aA Ei
 rw[Dj]
 refine Lv λj _=>?_
 rw[Bm]
 simp only[Function.comp,C0]
 cases S[j]? with
 | none=>rfl
 | some e=>exact JI e
theorem tM{S:List Ent}{a:DS}(h:Sl S a)(b:List Nat):(aA S b).map Ent.x=frD a.sl b:=by
 unfold Sl at h
 unfold aA frD
 rw[Dj]
 refine Lv λj _=>?_
 simp only[Function.comp,C0,frD1]
 rw[<- h,Bm]
 cases S[j]? with
 | none=>rfl
 | some e=>exact KB e
section
variable{K:PySem.W.Frag}{g H i:Hp}{X:Addr->Prop}{n:Nat}{E S T:List Ent}
theorem nR(e:Ent):cells (al e)=[]:=by
 obtain ⟨v,x,F⟩:=e
 cases x with
 | dat m d=>cases m <;> rfl
 | _=>rfl
theorem At.view1(h:At K g X n E H){e:Ent}(c:e∈E):At K g X n (al e::E) H:=by
 refine h.push ?_ (λf o=>⟨λ_ a b=>(by rw[nR] at b; cases b),λhq a b z=>?_⟩) λa b=>(by rw[nR] at b; cases b)
 ·have:=h.ok e c
  obtain ⟨v,x,F⟩:=e
  cases x with
  | dat m d =>
   obtain ⟨w,k,j,_⟩:=this
   exact ⟨w,k,j,λz=>(by cases m <;> cases z),λz=>(by cases m <;> cases z)⟩
  | val v=>exact this
  | scr i=>exact this
  | _=>exact (rfl:([]:List Addr)=[])
 ·obtain ⟨v,x,F⟩:=e
  cases x with
  | dat m d =>
   rcases pN h c o with rfl | q
   ·rcases hq with hq | hq
    ·cases m <;> first | cases hq; done | exact nomatch b
    ·cases hq
   ·refine q.2 ?_ a b z
    rcases hq with hq | hq
    ·refine .inl ?_
     cases m <;> first | rfl | exact hq
    ·exact .inr hq
  | val v =>
   rw[show F=[] from (h.ok _ c).2] at z
   cases z
  | scr i =>
   obtain ⟨_,_,l,_⟩:=h.ok _ c
   rw[show F=[] from l] at z
   cases z
  | _=>exact nomatch z
theorem At.blank(h:At K g X n E H){v:Option V}:At K g X n (⟨v,.un,[]⟩::E) H :=
 h.push (rfl:([]:List Addr)=[]) (λf _=>⟨λ_ a b=>(nomatch b),λ_ a _=>Bf⟩) (λa b=>(nomatch b))
theorem At.view(h:At K g X n E H)(c:∀e∈S,e∈E):∀a:List Nat,At K g X n (aA S a++E) H
 | []=>h
 | j::a=>by
  have b:=At.view h c a
  show At K g X n (C0 S j::(aA S a++E)) H
  unfold C0
  cases e:S[j]? with
  | none=>exact b.blank
  | some x=>exact b.view1 (Af _ (c x (Aq e)))
theorem At.accNew(h:At K g X n E H){D:Addr}(c:H D=Qg):At K g X n (⟨some (.ref D),.acc [],[D]⟩::E) (upd H D (.lst [])):=by
 have e:=Fj c (.lst [])
 refine (h.grow (n':=n) e (Aj _)).push ⟨D,[],[],rfl,rfl,Di,.nil,Dh _,Bf⟩ (λf i=>?_) λa b=>?_
 ·have d:=h.free c f i
  refine ⟨λ_ a b z=>?_,λ_ a b z=>?_⟩
  ·rw[Ac.mp b] at z
   exact d z
  ·rw[Ac.mp z] at b
   exact d (Gu _ _ b)
 ·rw[Ac.mp b]
  exact .inl (h.new0 c)
theorem At.accPutG{D:Addr}{s:List Ae}{v:V}{m:Md}{e:Ae}{F G:List Addr}(h:At K g X n (⟨some (.ref D),.acc s,D::G⟩::⟨some v,.dat m e,F⟩::E) H)(J:m≠.pk)(hz:s.length+1<=Bc):∃xs,H D=some (.lst xs)/\xs.length=s.length/\At K g X n (⟨some (.ref D),.acc (s++[e]),D::(G++F)⟩::E) (upd H D (.lst (xs++[v]))):=by
 obtain ⟨a,xs,C,L,M,x,B,_,w⟩:=h.ok _ Aa
 have u:some (V.ref D)=some (V.ref a):=L
 cases u
 have t:D::G=D::C:=M
 cases t
 have r:RdF K H v e F:=h.told (Ad _ Aa)
 have j:=Ay.mp h.sep
 have i:=Ay.mp j.2
 have p:=(h.sub (Ci _ _)).sub (Ci _ _)
 have npk:Nw (.dat m e)=false:=by cases m <;> first | rfl | exact absurd rfl J
 have A:D∉F:=(j.1 _ Aa).1 (.inr rfl) D Aa
 have kp:∀{F:List Addr},D∉F->Kp F H (upd H D (.lst (xs++[v]))):=λ{F} N b o q z=>by
  have : b≠D:=by
   rintro rfl
   rw[x] at q
   cases q
   rcases z with z | z
   ·exact N z
   ·rcases z with ⟨_,z⟩ | ⟨_,_,z⟩ <;> cases z
  rw[Ef this]
  exact q
 have l:g D=Qg:=by
  rcases h.new _ Aa D Aa with z | z
  ·exact z
  ·cases z.2
 refine ⟨xs,x,B.len,?_⟩
 refine ⟨λf hf=>?_,?_,λf hf=>?_,λb o I q=>?_,λb o q=>?_,λb Q=>?_⟩
 rotate_right
 ·obtain ⟨z,c,k,f,p,O⟩:=h.xd b Q
  refine ⟨z,c,k,f,(Ef ?_).trans p,O⟩
  rintro rfl
  exact z l
 ·rcases Ai.mp hf with rfl | hf
  ·exact ⟨D,xs++[v],G++F,rfl,rfl,Di,(B.kp (kp w)).snoc (r.kp (kp A)),by rw[Ar]; exact hz,λz=>(Am.mp z).elim w A⟩
  ·exact (p.ok f hf).kp (kp ((j.1 f (Ad _ hf)).1 (.inr rfl) D Aa)) (Aj _)
 ·refine Ay.mpr ⟨λf hf=>⟨λP a d=>(j.1 f (Ad _ hf)).1 (.inr rfl) a d,λP a d z=>?_⟩,i.2⟩
  have y:=(j.1 f (Ad _ hf)).2 (.inl rfl) a d
  rcases Ai.mp z with z | z
  ·exact y (z▸Aa)
  ·rcases Am.mp z with z | z
   ·exact y (Ad _ z)
   ·exact (i.1 f hf).2 (.inl npk) a d z
 ·rcases Ai.mp hf with rfl | hf
  ·intro a d
   rw[Ac.mp d]
   exact .inl l
  ·exact p.new f hf
 ·rw[Ef (Fu q l)]
  exact h.same b o I q
 ·rw[Ef (Fu q l)]
  exact h.dom b o q
theorem At.accPut{D:Addr}{a:List Ae}{v:V}{e:Ae}(h:At K g X n (⟨some (.ref D),.acc a,[D]⟩::E) H)(r:RdF K H v e [])(hz:a.length+1<=Bc):∃xs,H D=some (.lst xs)/\xs.length=a.length/\At K g X n (⟨some (.ref D),.acc (a++[e]),[D]⟩::E) (upd H D (.lst (xs++[v]))) :=
 At.accPutG (m:=.ow) (At.pushI (S:=[⟨some (.ref D),.acc a,[D]⟩]) h r) (by decide) hz
def tF:Bool->Md
 | true=>.ow
 | false=>.tp
theorem At.accGetG{D:Addr}{j:List Ae}{b:Bool}{G:List Addr}(h:At K g X n (⟨some (.ref D),.acc j,D::G⟩::E) H)(hb:b=true->G=[]):At K g X n (⟨some (.ref D),.dat (tF b) (.list j),D::G⟩::E) H:=by
 obtain ⟨a,x,t,r,u,q,v,s,p⟩:=h.ok _ Aa
 have d:some (V.ref D)=some (V.ref a):=r
 cases d
 have i:D::G=D::t:=u
 cases i
 have k:=Ay.mp h.sep
 have m:∀a∈cells ⟨some (.ref D),.dat (tF b) (.list j),D::G⟩,a=D:=λa c=>by
  cases b with
  | true=>rw[hb rfl] at c; exact Ac.mp c
  | false=>exact Ac.mp c
 refine (h.sub (Ci _ _)).push ⟨_,rfl,.lst q s v,λz=>?_,λ_ a l e=>?_⟩ (λf o=>⟨λw a c=>?_,λw a c=>(k.1 f o).2 (.inl rfl) a c⟩) λa c=>?_
 ·cases b with
  | true=>rw[hb rfl]; exact Bp.mpr ⟨Bf,Dl⟩
  | false=>cases z
 ·have e:D::G=a::l:=e
  cases e
  exact p
 ·rw[m a c]
  exact (k.1 f o).1 (.inr rfl) D Aa
 ·rw[m a c]
  rcases h.new _ Aa D Aa with z | z
  ·exact .inl z
  ·cases z.2
theorem At.accGet{D:Addr}{a:List Ae}(h:At K g X n (⟨some (.ref D),.acc a,[D]⟩::E) H):At K g X n (⟨some (.ref D),.dat .ow (.list a),[D]⟩::E) H:=At.accGetG (b:=true) h λ_=>rfl
end
def jA:DT:=λa P=>P true a
def EE(b:Bool)(m:Md)(e:Ae):Prop:=match b with
 | true=>imm e=true
 | false=>m≠.pk
def Mq(b:Bool)(g:DT)(i:DE)(h:DS)(d:Ae->Nat->Prop)(j:Nat->Prop):Prop:=g h λc a=>match c with
 | true=>i a λy f=>match y with
  | .dat m e=>EE b m e/\d e f.n
  | _=>False
 | false=>j a.n
def qQ(b:Bool)(j:DI)(o:List Nat)(h:DT)(l:DE):DE:=λk P=>j k λm g c=>∃I:Nat->List Ae->Nat->Prop,I 0 [] c.n /\
 (∀i d a n,g[i]? = some d->I i a n->Mq b h l ⟨.dat m d::frD c.sl o,n⟩ (λe f=>I (i+1) (a++[e]) f) (λf=>I (i+1) a f)) /\
 ∀a n,I g.length a n->P (.dat (tF b) (.list a)) ⟨c.sl,n⟩
def Wd:DT->DE->DS->(Ae->Nat->Prop)->(Nat->Prop)->Prop:=Mq true
def K1:DI->List Nat->DT->DE->DE:=qQ true
def rT:DI->List Nat->DT->DE->DE:=qQ false
section
variable{K:PySem.W.Frag}{a H f:Hp}{Y:Addr->Prop}{n:Nat}{E S T:List Ent}
theorem B6{b:Bool}{t:DT}{C:DE}{l:DS}{k:Ae->Nat->Prop}{w:Nat->Prop}{D:Addr}{G:List Addr}{d:List Ae}{B:Hp->Prop}{A:VK}(M:Sl S l)(hb:b=true->G=[])(I:At K a Y l.n (S++⟨some (.ref D),.acc d,D::G⟩::T) H)(h:Mq b t C l k w)(hz:d.length+1<=Bc)(k1:∀n' f,At K a Y n' (⟨some (.ref D),.acc d,D::G⟩::T) f->w n'->B f)(k2:∀e n' v f u,(b=true->u=[])->(∃xs,f D=some (.lst xs)/\xs.length=d.length/\At K a Y n' (⟨some (.ref D),.acc (d++[e]),D::u⟩::T) (upd f D (.lst (xs++[v]))))->k e n'->A v f):LT K t (vs S) H λc s=>if c=true then LE K C (vs S) s A else B s:=by
 refine ⟨a,Y,S,⟨some (.ref D),.acc d,D::G⟩::T,l,_,rfl,M,I,h,λc q E s J N j x=>?_⟩
 cases c with
 | false=>exact oG (k1 _ _ (j.sub (Ca _ _)) x)
 | true =>
  refine jZ ⟨a,Y,E,⟨some (.ref D),.acc d,D::G⟩::T,q,_,J,N,j,x,λy o v F O L Q P g i=>?_⟩
  split at i
  ·rename_i m e
   have r:=g.told mem_mid
   cases b with
   | true =>
    obtain rfl:=r.imm i.1
    obtain rfl:=hb rfl
    exact k2 _ _ _ _ [] (λ_=>rfl) ((g.drop.sub (Ca _ _)).accPut r hz) i.2
   | false =>
    have p:At K a Y o.n (⟨some v,.dat m e,F⟩::⟨some (.ref D),.acc d,D::G⟩::T) L:=g.sub (Ca _ _)
    exact k2 _ _ _ _ (G++F) (λz=>nomatch z) ((p.perm (Ee _ _ _)).accPutG i.1 hz) i.2
  ·exact i.elim
theorem wR{dt:TT}:∀b H Q,LT K jA b H Q->aH b H Q:=by
 intro b H Q h
 obtain ⟨a,Y,S,T,e,P,rfl,d,f,c,k⟩:=h
 exact k true e S H rfl d f c
theorem pA.imp{X:Cx}{e:List Expr}{t t':TT}(h:pA X e t)(k:∀a H Q,t' a H Q->t a H Q):pA X e t':=λb s a H Q I q=>h b s a H Q I (k a H Q q)
theorem Zs{b:Bool}{di:DI}{s:List Nat}{X:DT}{Z:DE}:∀R H Q,LE K (qQ b di s X Z) R H Q->nX (LI K di) s (LT K X) (LE K Z) R H Q:=by
 intro R H Q h
 obtain ⟨a,Y,S,T,δ,P,rfl,hS,hA,hd,k⟩:=h
 refine ⟨a,Y,S,T,δ,_,rfl,hS,hA,hd,λm r A J l j H1 e1 e2 N it hz p1=>?_⟩
 obtain ⟨I,h0,hs,hf⟩:=p1
 rw[<- e1]
 intro D hD
 refine ⟨λi q H=>q=r.length - i/\i<=r.length/\∃c n G,(b=true->G=[])/\At K a Y n (⟨some (.ref D),.acc c,D::G⟩::(j++(l++T))) H/\c.length<=i/\I i c n,⟨r.length,by simp,Dh _,[],A.n,[],λ_=>rfl,N.accNew hD,Aj _,h0⟩,?_⟩
 (intro i q H q_; obtain ⟨rfl,hi,c,n,G,O,w,hl,hI⟩ := q_)
 have g:∀e∈l,Ii K H n e:=λe B=>w.ok e (Ad _ (Af _ (Ah _ B)))
 by_cases o:i<r.length
 ·refine .inr ⟨it.go H n i g o,λx f y=>?_⟩
  obtain ⟨s1,d,F,h1,h2,h3⟩:=it.yld H n i x f g o y
  have u:At K a Y n ((⟨some (.ref D),.acc c,D::G⟩::j)++⟨some x,.dat m d,F⟩::(l++T)) f:=At.item (S:=⟨some (.ref D),.acc c,D::G⟩::j) w s1 h2 h3 it.md it.hd it.np
  have z:=u.mid
  have M:=At.view (S:=j) z (λe B=>Ad _ (Ah _ (Ad _ B))) s
  have W:At K a Y n ((⟨some x,.dat m d,F⟩::aA j s)++⟨some (.ref D),.acc c,D::G⟩::(j++(l++T))) f:=M.mid
  have L:Sl (⟨some x,.dat m d,F⟩::aA j s) ⟨.dat m d::frD A.sl s,n⟩:=by
   unfold Sl
   rw[Ax,tM e2]
  have hv:vs (⟨some x,.dat m d,F⟩::aA j s)=some x::Ei (vs j) s:=by
   rw[<- sO]
   rfl
  refine ⟨λU=>∃E,E<r.length - i/\_,λy H3=>∃c,H3 D=some (.lst c)/\c.length<Bc/\∃E,E<r.length - i/\_,λU q=>q,λy H3 q=>q,?_⟩
  rw[<- hv]
  refine B6 L O W (hs i d c n h1 hI) (by omega) (λC U t p=>?_) (λe C v U G' V t p=>?_)
  ·exact ⟨r.length - (i+1),by omega,rfl,o,c,C,G,O,t,by omega,p⟩
  ·obtain ⟨xs,g1,g2,g3⟩:=t
   exact ⟨xs,g1,by omega,r.length - (i+1),by omega,rfl,o,c++[e],C,G',V,g3,by rw[Ar]; simp; omega,p⟩
 ·have e:i=r.length:=by omega
  subst e
  refine .inl ⟨it.stop H n g,k _ ⟨A.sl,n⟩ _ (D::G) j H e1 e2 ?_ (hf c n hI)⟩
  have u:=w.accGetG O
  have z:At K a Y n (⟨some (.ref D),.dat (tF b) (.list c),D::G⟩::(j++T)) H:=u.sub (((Ck j).append (Ca l T)).cons₂ _)
  exact z.tomid
end
section
variable{X:Cx}{e b c:Expr}{x t l:Str}{j q pt p pos f:Pos}{r i0:Nat}{d:List Expr}{a:Scope}{cl:List (Str×Addr)}{ys:List Str}{n:List Nat}{k:DI}{g:DT}{m:DE}
theorem Mf:pA X [] (LT X.K jA):=pA.imp lN (wR (dt:=aH))
theorem Tf(h:Zi X c g):pA X [c] (LT X.K g):=N5 h
theorem Vs(C:CompScope X a cl x ys n)(l:X.calm=true)(h:yK X (.Name x j) b k)(f:∀fp s H,pA (Dg X a cl (x::ys) fp s H) d (LT X.K g))(c:∀fp s H,Fi (Dg X a cl (x::ys) fp s H) e m)(i:∀x,Cw b X.env x=pure x:=by intro _; rfl):Fi X (.ListComp e [⟨.Name x j,b,d,0⟩] a pos) (K1 k n g m):=PE.imp (jH C l h f c i) Zs
def BO(o:Bool)(i:Nat):DG:=match o with
 | true=>fQ i
 | false=>Qd i
theorem P8{K:PySem.W.Frag}{o:Bool}{i:Nat}:∀v a H Q,LG K (BO o i) v a H Q->Rr i v a H Q:=by
 cases o with
 | true=>exact E2
 | false=>exact iL
theorem iM{o:Bool}(v:X.N.Nodup)(h:X.N[i0]? = some l)(c:X.env.scope.names.lookup l=some .local)(C:CompScope X a cl x ys n)(w:X.calm=true)(t:yK X (.Name x j) b k)(r:∀fp s H,pA (Dg X a cl (x::ys) fp s H) d (LT X.K g))(q:∀fp s H,Fi (Dg X a cl (x::ys) fp s H) e m)(u:∀x,Cw b X.env x=pure x:=by intro _; rfl)(i:Hu (.ListComp e [⟨.Name x j,b,d,0⟩] a pos) (some (.Name l p)) f.line X.env=pure true:=by rfl):dY X (.Assign [.Name l p] (.ListComp e [⟨.Name x j,b,d,0⟩] a pos) f) (jC (K1 k n g m) (BO o i0)):=PS.impD (jD v h c C w t r q u i) (Vd Zs P8)
theorem Vt(C:CompScope X a cl x ys n)(l:X.calm=true)(h:yK X (.Name x j) b k)(f:∀fp s H,pA (Dg X a cl (x::ys) fp s H) d (LT X.K g))(c:∀fp s H,Fi (Dg X a cl (x::ys) fp s H) e m)(i:∀x,Cw b X.env x=pure x:=by intro _; rfl):Fi X (.ListComp e [⟨.Name x j,b,d,0⟩] a pos) (rT k n g m):=PE.imp (jH C l h f c i) Zs
theorem A3{o:Bool}(v:X.N.Nodup)(h:X.N[i0]? = some l)(c:X.env.scope.names.lookup l=some .local)(C:CompScope X a cl x ys n)(w:X.calm=true)(t:yK X (.Name x j) b k)(r:∀fp s H,pA (Dg X a cl (x::ys) fp s H) d (LT X.K g))(q:∀fp s H,Fi (Dg X a cl (x::ys) fp s H) e m)(u:∀x,Cw b X.env x=pure x:=by intro _; rfl)(i:Hu (.ListComp e [⟨.Name x j,b,d,0⟩] a pos) (some (.Name l p)) f.line X.env=pure true:=by rfl):dY X (.Assign [.Name l p] (.ListComp e [⟨.Name x j,b,d,0⟩] a pos) f) (jC (rT k n g m) (BO o i0)):=PS.impD (jD v h c C w t r q u i) (Vd Zs P8)
end
end DL
namespace DL
open PySem PySem.Spec PyProof.Rows L2 Nd
section
variable{K:PySem.W.Frag}{g H i:Hp}{X:Addr->Prop}{n n':Nat}{E S T:List Ent}
theorem At.pushF(h:At K g X n E H){v:V}{d:Ae}{F:List Addr}(r:RdF K H v d F)(i:F.Nodup)(fr:∀a∈F,∀f∈E,a∉f.F)(e:∀a∈F,g a=none):At K g X n (⟨some v,.dat .ow d,F⟩::E) H:=by
 refine h.push ⟨v,rfl,r,λ_=>i,λz=>nomatch z⟩ (λf c=>⟨λ_ a b z=>fr a b f c z,λ_ a b z=>fr a z f c (Gu _ _ b)⟩) λa b=>.inl (e a b)
theorem At.drawn(h:At K g X n E H){e:Ent}{a:Addr}(r:e∈E)(M:e.x=.drw)(L:e.v=some (.ref a))(s:Ul a H i)(hd:∃c k f,Wo i a c k f/\0<=k/\k<=(n':Int))(P:n<=n'):At K g X n' E i:=by
 obtain ⟨v,x,F⟩:=e
 have u:x=.drw:=M
 subst u
 obtain ⟨t,T,S,R,m,Q,A,_⟩:=h.ok _ r
 have O:some (V.ref a)=some (V.ref t):=L.symm.trans m
 cases O
 have w:F=[a]:=Q
 subst w
 refine ⟨λf J=>?_,h.sep,h.new,λb o B q=>?_,λb o q=>?_,λb d=>?_⟩
 rotate_right
 ·obtain ⟨z,c,k,f,p,y,I⟩:=h.xd b d
  by_cases l:b=a
  ·subst l
   exact ⟨z,hd⟩
  ·exact ⟨z,c,k,f,s _ _ l p,y,by omega⟩
 ·rcases pN h r J with rfl | q
  ·obtain ⟨c,k,G,p,y,I⟩:=hd
   exact ⟨a,c,k,G,m,rfl,p,y,I⟩
  ·have N:a∉f.F:=q.1 (.inr rfl) a Aa
   refine (h.ok f J).kp (λb o C z=>?_) P
   by_cases d:b=a
   ·subst d
    rcases z with z | z
    ·exact absurd z N
    ·have j:H b=some (.lst _):=A
     rw[C] at j
     cases j
     rcases z with ⟨_,z⟩ | ⟨_,_,z⟩ <;> cases z
   ·exact s b o d C
 ·have d:b≠a:=by
   rintro rfl
   rcases h.new _ r b Aa with z | z
   ·rw[z] at q; cases q
   ·exact B z.1
  exact s b o d (h.same b o B q)
 ·by_cases d:b=a
  ·subst d
   obtain ⟨c,k,G,p,_⟩:=hd
   exact ⟨_,p⟩
  ·obtain ⟨D,z⟩:=h.dom b o q
   exact ⟨D,s b D d z⟩
end
abbrev PF:=List Ae->(Ae->Prop)->Prop
abbrev DF:=List Ae->Nat->(Ae->Nat->Prop)->Prop
def Oe(K:PySem.W.Frag)(g:PF):Sp:=λh H Q _=>∃(c:List Ent) (n:Nat) (f:List Ae) (R:Ae->Prop),c.map Ent.v=h.map some/\(∀e∈c,Ii K H n e)/\datas (c.map Ent.x)=some f/\g f R /\
 ∀v d F b,R d->RdF K b v d F->F.Nodup->(∀a∈F,H a=none)->Nt H b->Q v b
def W3(K:PySem.W.Frag)(m:DF):Sp:=λo H Q _=>∃(b:Addr) (j:List V) (h:List Ent) (n:Nat) (l:List Ae) (R:Ae->Nat->Prop),o=.ref b::j/\h.map Ent.v=j.map some/\(∀e∈h,Ii K H n e)/\(∀e∈h,b∉e.F)/\(∃c k f,Wo H b c k f/\0<=k/\k<=(n:Int))/\datas (h.map Ent.x)=some l/\m l n R /\
 ∀v d F i g,n<=i->R d i->RdF K g v d F->F.Nodup->(∀a∈F,H a=none)->(∃c k f,Wo g b c k f/\0<=k/\k<=(i:Int))->Ul b H g->Q v g
def yR(b:PF)(f:DA):DE:=λe P=>f e λc a=>match datas c with
 | some g=>b g λd=>P (.dat .ow d) a
 | none=>False
def rQ(i:Nat)(g:DF)(f:DA):DE:=λb P=>match b.sl[i]? with
 | some .drw=>f b λc a=>match a.sl[i]? with
  | some .drw=>match datas c with
   | some h=>g h a.n λd e=>P (.dat .ow d) ⟨a.sl,e⟩
   | none=>False
  | _=>False
 | _=>False
section
variable{X:Cx}{CX:uP}{k:Nat}{f:Addr}{g:Cj}{ps:List Str}{j:PF}{m:DF}{E:XK}{x:Str}{p pos:Pos}{e l:Expr}{es:List Expr}{b:DA}
theorem Fp(F:FnOk X.prog X.w X.K X.mg X.base CX k f g ps (Oe X.K j))(O:Room k X.A)(N:Gl X x)(I:X.mg x=some (.ref f))(C:PySem.W.keepIn X.K (.ref f)=true)(hb:Binds X.K g ps [])(z:Rj CX X E)(i:oZ X (e::es) b)(t:(x == ("__debug__" : Str))=false:=by decide)(o:Be (e::es) X.env=(false,eval e X.env)::Be es X.env:=by rfl)(u:(Gh pos (Be es X.env)).any (·.1)=false:=by rfl):Fi X (.Call (.Name x p) (e::es) [] pos) (yR j b):=by
 refine PE.imp (Vw F O N I C hb .nil z i t o u) λσ H Q h=>?_
 obtain ⟨R,Y,S,T,M,P,rfl,V,D,U,L⟩:=h
 refine ⟨R,Y,S,T,M,_,rfl,V,D,U,λxs l y us S' H' J Z G B c p=>?_⟩
 subst G
 cases q:datas (y.map Ent.x) with
 | none=>rw[q] at p; exact p.elim
 | some ds =>
  rw[q] at p
  rw[Dd]
  refine ⟨y,l.n,ds,_,B,λe o=>c.ok e (Af _ (Ah _ o)),q,p,λv d F m r rd nd fr s=>?_⟩
  exact L _ l v F S' m J Z (((c.dropL.grow s (Aj _)).pushF rd nd (λa i=>c.dropL.free (fr a i)) (λa i=>c.new0 (fr a i))).tomid) r
theorem FQ(F:FnOk X.prog X.w X.K X.mg X.base CX k f g ps (Oe X.K j))(D:Room k X.A)(C:Gl X x)(G:X.mg x=some (.ref f))(y:PySem.W.keepIn X.K (.ref f)=true)(hb:Binds X.K g ps [])(u:Rj CX X E)(l:(x == ("__debug__" : Str))=false:=by decide):Fi X (.Call (.Name x p) [] [] pos) (yR j AG):=by
 refine PE.imp (u4 F D C G y hb .nil u l) λJ H Q h=>?_
 obtain ⟨I,Y,S,T,m,P,rfl,t,i,o,z⟩:=h
 show Oe X.K j [] H Q E
 refine ⟨[],m.n,[],_,rfl,λe q=>(nomatch q),rfl,o,λv d F b r rd B fr s=>?_⟩
 exact z _ m v F S b rfl t (((i.grow s (Aj _)).pushF rd B (λa c=>i.free (fr a c)) (λa c=>i.new0 (fr a c))).tomid) r
theorem Mw{i:Nat}(F:FnOk X.prog X.w X.K X.mg X.base CX k f g ps (W3 X.K m))(hr:Room k X.A)(hg:Gl X x)(hm:X.mg x=some (.ref f))(hk:PySem.W.keepIn X.K (.ref f)=true)(hb:Binds X.K g ps [])(hx:Rj CX X E)(h0:PE X l (Nx i))(D:oZ X es b)(R:(x == ("__debug__" : Str))=false:=by decide)(B:Be (l::es) X.env=(false,eval l X.env)::Be es X.env:=by rfl)(h5:(Gh pos (Be es X.env)).any (·.1)=false:=by rfl):Fi X (.Call (.Name x p) (l::es) [] pos) (rQ i m b):=by
 refine PE.imp (Vw F hr hg hm hk hb .nil hx (Gp h0 D B) R B h5) λσ H Q h=>?_
 obtain ⟨H0,Y,S,T,δ,P,rfl,hS,hA,N,kk⟩:=h
 unfold rQ at N
 split at N
 case h_2=>exact N.elim
 rename_i I
 have G:∀w,(vs S)[i]? = some (some w)->LA X.K b (vs S) H λxs H2=>W3 X.K m ((w::xs)++[]) H2 Q E:=λw M=>by
  refine ⟨H0,Y,S,T,δ,_,rfl,hS,hA,N,λxs J U us S' H' e1 e2 ex eu c p=>?_⟩
  subst ex
  split at p
  ·rename_i h6
   obtain ⟨j,L,Z⟩:=Hi e2 h6
   have o:j∈S':=Aq L
   have hv:j.v=some w:=by
    have:=Jm L
    rw[e1,M] at this
    exact (Bl this).symm
   obtain ⟨u,z,F⟩:=j
   have y:z=.drw:=Z
   subst y
   have hE:(⟨u,.drw,F⟩ : Ent)∈S'++(U++T):=Ah _ o
   obtain ⟨C,c0,k0,f0,t,h9,h7,h8,h2⟩:=c.ok _ hE
   have ew:some w=some (V.ref C):=hv.symm.trans t
   cases ew
   have h4:F=[C]:=h9
   subst h4
   cases q:datas (U.map Ent.x) with
   | none=>rw[q] at p; exact p.elim
   | some ds =>
    rw[q] at p
    rw[Dd]
    refine ⟨C,us,U,J.n,ds,_,rfl,eu,λe B=>c.ok e (Af _ (Ah _ B)),λe B=>?_,⟨c0,k0,f0,h7,h8,h2⟩,q,p,λv d F n' O hn r rd nd fr h1 s=>?_⟩
    ·obtain ⟨_,_,hp⟩ := Bu.mp c.sep
     exact (hp _ o e (Ah _ B)).1 (.inr rfl) C Aa
    ·have h3:=c.dropL.drawn (Ah _ o) rfl hv s h1 hn
     exact kk _ ⟨J.sl,n'⟩ v F S' O e1 e2 ((h3.pushF rd nd (λa D=>c.dropL.free (fr a D)) (λa D=>c.new0 (fr a D))).tomid) r
  ·exact p.elim
 obtain ⟨j,L,Z⟩:=Hi hS I
 have o:j∈S:=Aq L
 obtain ⟨u,z,F⟩:=j
 have y:z=.drw:=Z
 subst y
 obtain ⟨C,c0,k0,f0,t,_⟩:=hA.ok _ (Ah _ o)
 have M:(vs S)[i]? = some (some (.ref C)):=(Jm L).trans (congrArg some t)
 exact ⟨_,M,G _ M⟩
def Vq:Sp:=λvs H Q _=>∃c:Int,vs=[.int c]/\∀(p:Addr) (b:Int) (f:Bool) (a:Hp),H p=none->Wo a p b 0 f->Nt H a->Q (.ref p) a
def o4(b:DA):DE:=λc P=>b c λd a=>match d with
 | [.dat _ (.int _)]=>P .drw a
 | _=>False
theorem n8(F:FnOk X.prog X.w X.K X.mg X.base CX k f g ps Vq)(U:Room k X.A)(R:Gl X x)(J:X.mg x=some (.ref f))(D:PySem.W.keepIn X.K (.ref f)=true)(hb:Binds X.K g ps [])(B:Rj CX X E)(d:oZ X (e::es) b)(m:(x == ("__debug__" : Str))=false:=by decide)(y:Be (e::es) X.env=(false,eval e X.env)::Be es X.env:=by rfl)(r:(Gh pos (Be es X.env)).any (·.1)=false:=by rfl):Fi X (.Call (.Name x p) (e::es) [] pos) (o4 b):=by
 refine PE.imp (Vw F U R J D hb .nil B d m y r) λσ H Q h=>?_
 obtain ⟨V,Y,S,T,O,P,rfl,hS,G,Z,N⟩:=h
 refine ⟨V,Y,S,T,O,_,rfl,hS,G,Z,λxs i As us S' H' L e2 I C l p=>?_⟩
 split at p
 ·obtain ⟨v,F,rfl,c⟩:=Lq C l I
  obtain ⟨rfl,_⟩:=(c.told mem_mid).int_inv
  refine ⟨_,rfl,λq c' M j t o s=>?_⟩
  have h3:=c.drop.grow (n':=i.n) s (Aj _)
  refine N _ i _ [q] S' j L e2 ((h3.push (e:=⟨some (.ref q),.drw,[q]⟩) ⟨q,_,0,M,rfl,rfl,o,by decide,by omega⟩ (λf hf=>?_) λa d=>?_).tomid) p
  ·have u:=c.drop.free t f hf
   refine ⟨λ_ a d z=>?_,λ_ a d z=>?_⟩
   ·rw[Ac.mp d] at z
    exact u z
   ·rw[Ac.mp z] at d
    exact u (Gu _ _ d)
  ·rw[Ac.mp d]
   exact .inl (c.new0 t)
 ·exact p.elim
end
def args0(a:List Ae)(k:Nat):List DV:=a.map (λd=>.dat .sh d)++Jt k .un
def cF(e:Ent):Ent:=match e.x with
 | .dat _ d=>⟨e.v,.dat .sh d,e.F⟩
 | _=>e
theorem Ly:∀{xs:List DV} {a:List Ae},datas xs=some a->xs.length=a.length
 | [],a,h=>by cases h; rfl
 | x::xs,a,h=>by
  cases x with
  | dat m d =>
   cases q:datas xs with
   | none=>simp [datas,q] at h
   | some b =>
    simp [datas,q] at h
    subst h
    rw[Bi,Bi,Ly q]
  | _=>cases h
theorem Wu:∀{As:List Ent} {a:List Ae},datas (As.map Ent.x)=some a->(As.map cF).map Ent.x=a.map (λd=>.dat .sh d)
 | [],a,h=>by cases h; rfl
 | ⟨v,x,F⟩::As,a,h=>by
  rw[Ax] at h
  cases x with
  | dat m d =>
   cases q:datas (As.map Ent.x) with
   | none=>simp [datas,q] at h
   | some b =>
    simp [datas,q] at h
    subst h
    rw[Ax,Ax,Ax,Wu q]
    rfl
  | _=>cases h
theorem Xl:∀{As:List Ent} {a:List Ae},datas (As.map Ent.x)=some a->∀e∈As,∃m d,e.x=.dat m d
 | [],a,h,e,he=>nomatch he
 | ⟨v,x,F⟩::As,a,h,e,he=>by
  rw[Ax] at h
  cases x with
  | dat m d =>
   cases q:datas (As.map Ent.x) with
   | none=>simp [datas,q] at h
   | some b =>
    rcases Ai.mp he with rfl | he
    ·exact ⟨m,d,rfl⟩
    ·exact Xl q e he
  | _=>cases h
theorem CZ(As:List Ent):(As.map cF).map Ent.v=As.map Ent.v:=by
 rw[Dj]
 refine Lv λe _=>?_
 obtain ⟨v,x,F⟩:=e
 cases x <;> rfl
def Jq(k:Nat):List Ent:=Jt k ⟨none,.un,[]⟩
theorem iT{As:List Ent}{c:List Ae}(q:datas (As.map Ent.x)=some c)(k:Nat):∀e∈As.map cF++Jq k,cells e=[]/\EB e.x=false:=λe he=>by
 rcases Am.mp he with he | he
 ·obtain ⟨f,g,rfl⟩:=Cn.mp he
  obtain ⟨m,d,b⟩:=Xl q f g
  obtain ⟨v,x,F⟩:=f
  have a:x=.dat m d:=b
  subst a
  exact ⟨rfl,rfl⟩
 ·rw[(Mh.mp he).2]
  exact ⟨rfl,rfl⟩
theorem Sk{c:Type}{R:c->c->Prop}:∀{l:List c},(∀a∈l,∀b∈l,R a b)->l.Pairwise R
 | [],_=>Dn
 | a::l,h=>Ay.mpr ⟨λb f=>h a Aa b (Ad _ f),Sk λx d y e=>h x (Ad _ d) y (Ad _ e)⟩
theorem B1{K:PySem.W.Frag}{H:Hp}{n:Nat}{As:List Ent}{i:List Ae}(q:datas (As.map Ent.x)=some i)(ok:∀e∈As,Ii K H n e)(k:Nat):∀e∈As.map cF++Jq k,Ii K H n e:=λe he=>by
 rcases Am.mp he with he | he
 ·obtain ⟨f,b,rfl⟩:=Cn.mp he
  obtain ⟨m,d,c⟩:=Xl q f b
  have o:=ok f b
  obtain ⟨v,x,F⟩:=f
  have a:x=.dat m d:=c
  subst a
  obtain ⟨w,h,g,_⟩:=o
  exact ⟨w,h,g,λz=>(nomatch z),λz=>(nomatch z)⟩
 ·rw[(Mh.mp he).2]
  exact (rfl:([]:List Addr)=[])
theorem Pm{b c:Type}(f:b->c)(k:Nat)(a:b):(Jt k a).map f=Jt k (f a):=by
 rw[List.map_replicate]
def retE(R:Ae->Prop):DEnds where
 nx:=λ_=>R .none
 rt:=λx _=>∃d,x=.dat .ow d/\R d
section
variable{P:Bq}{w:World}{K:PySem.W.Frag}{mg:Str->Option Value}{base:Heap}
theorem Jh{x g:Str}{st:Stmt}{f:Addr}{U:Cj}{N ps:List Str}{k:Nat}{W:PF}{X:DB}(F:Fun K x g st f U)(S:FnScope N ps (Bv st))(hb:∀(i:Value) (A:Df) (outer:List Env) (s:Al) (H:Hp) (E:XK),Room k (A.deeper (envOfC g (Bv st) s.heap.objs.size f i))->Zf (Mz Ig P w K mg base N g (Bv st) f i A outer s H E).nox (Le st) X)(h:∀j R,W j R->j.length=ps.length/\X (retE R) ⟨args0 j (N.length - ps.length),0⟩):FnOk P w K mg base Ig (k+1) f U ps (Oe K W):=by
 refine F.ok S (λvs H Q E z=>?_) λi A outer s H Z Q E hr z=>?_
 ·obtain ⟨V,n,j,R,B,ok,q,G,_⟩:=z
  have l1:=(h j R G).1
  have L:=Ly q
  rw[Ab] at L
  have T:=congrArg Fh B
  rw[Ab,Ab] at T
  omega
 ·obtain ⟨V,n,j,R,B,ok,q,G,Y⟩:=z
  obtain ⟨l1,hd⟩:=h j R G
  have L:=Ly q
  rw[Ab] at L
  have T:=congrArg Fh B
  rw[Ab,Ab] at T
  refine ⟨_,hb i A outer s H E hr,H,λ_=>False,V.map cF++Jq (N.length - ps.length),[],⟨args0 j (N.length - ps.length),0⟩,retE R,?_,?_,λ_ z=>(nomatch z),?_,hd,λM O I e1 m p=>?_,λx M v D O I e1 m p=>?_,λ_ _ _ _ _ p=>p.elim,λ_ _ _ _ _ p=>p.elim⟩
  ·unfold vs L2.start Jq
   rw[Bb,CZ,B,Pm,show Z.length=ps.length by omega]
  ·unfold Sl args0 Jq
   rw[Bb,Wu q,Pm]
  ·rw[Dd]
   have C:=iT q (N.length - ps.length)
   refine ⟨λe y=>?_,Sk λa l b J=>⟨λhq c t=>?_,λhq c t=>?_⟩,λe y a l=>?_,λb o _ e=>e,λb o e=>⟨o,e⟩,λb hb=>hb.elim⟩
   ·have:=B1 q ok (N.length - ps.length) e y
    obtain ⟨v,x,F⟩:=e
    cases x with
    | drw=>exact absurd (C _ y).2 (by show ¬ (true=false); decide)
    | _=>exact this
   ·rw[(C a l).1] at t; cases t
   ·rw[(C b J).1] at t; cases t
   ·rw[(C e y).1] at l; cases l
  ·exact Y .non .none [] I p .non Dl (λ_ z=>(nomatch z)) λb o e=>m.same b o (λz=>z) e
  ·obtain ⟨d,rfl,r⟩:=p
   rw[show O++[(⟨some v,.dat .ow d,D⟩ : Ent)]=O++⟨some v,.dat .ow d,D⟩::[] from rfl] at m
   obtain ⟨u,e2,rd,nd,_⟩:=m.ok _ mem_mid
   cases e2
   refine Y v d D I r rd (nd rfl) (λa l=>?_) λb o e=>m.same b o (λz=>z) e
   rcases m.new _ mem_mid a l with z | z
   ·exact z
   ·exact z.1.elim
end
end DL
namespace L2
open PySem PySem.Spec PyProof.Rows
def u0(H:Hp):Prop:=∀b,H b=none\/(∃o c,H b=some (.frz o (.lst c)))\/∃a,H b=some (.tbl a)
def nC(a:List (Addr×Addr×Str))(H:Hp):Hp:=λb=>match a.find? (λr=>r.2.1 == b) with | some t=>some (.tbl #[.str t.2.2 0]) | none=>H b
theorem Vc{a:List (Addr×Addr×Str)}{H:Hp}{b:Addr}{t:Addr×Addr×Str}(h:a.find? (λr=>r.2.1 == b)=some t):nC a H b=some (.tbl #[.str t.2.2 0]):=by unfold nC; rw[h]
theorem Ml{a:List (Addr×Addr×Str)}{H:Hp}{b:Addr}(h:a.find? (λr=>r.2.1 == b)=none):nC a H b=H b:=by unfold nC; rw[h]
def jK(q:Bq)(K:PySem.W.Frag):Prop:=∃a:List (Addr×Addr×Str),(∀t∈a,∃x d,(recsOf q).find? (λe=>e.name == x)=some d/\PySem.W.tabIn K x=some (t.1,t.2.1))/\(∀t∈a,∀t'∈a,t.2.1=t'.2.1->t=t') /\
 (∀x∈Wg,∀c P,PySem.W.tabIn K x=some (c,P)->(c,P,EK x)∈a)/\∀t∈a,K.lookup t.2.1=none
theorem T9{x:Str}(hx:x∈Wg):x = "often" \/ x = "cut_by" := by
 rcases Ai.mp hx with h | hx
 ·exact .inl h
 ·exact .inr (Ac.mp hx)
theorem vV{q:Bq}{K:PySem.W.Frag}(h1:PySem.W.tabIn K "often" = none)(b:PySem.W.tabIn K "cut_by" = none):jK q K:=by
 refine ⟨[],λ_ z=>(nomatch z),λ_ z=>(nomatch z),λx a c P e=>?_,λ_ z=>(nomatch z)⟩
 rcases T9 a with rfl | rfl
 ·rw[h1] at e; cases e
 ·rw[b] at e; cases e
theorem yI{P:Bq}{w:World}{K:PySem.W.Frag}{mg mb:Str->Option Value}{CX:uP}{k:Nat}{fa a:Addr}{fd:Cj}{x:Str}{sp:Sp}{f:Al}{vs:List Value}{S:List Int}(g:List (Addr×Addr×Str))(D:∀t∈g,PySem.W.CodeHd f.heap t.1 t.2.1/\f.heap.get? t.2.1=some (PySem.W.tabObj #[]))(hu:∀t∈g,∀t'∈g,t.2.1=t'.2.1->t=t')(hL:∀x∈Wg,∀c P,PySem.W.tabIn K x=some (c,P)->(c,P,EK x)∈g)(k6:∀t∈g,K.lookup t.2.1=none)(k7:∃Y E,mg "__builtins__" = some (.ref Y)/\Y≠Vp/\f.heap.get? Y=some E/\E.cls=.type "module" /\ E.dict=some Vp/\E.data=.plain)(KX:K.In f.heap)(J:f.heap.Ns Cq mg)(hb:f.heap.Ns Vp mb)(k5:∀x:Str,x ≠ "__name__" -> mb x=Kt x)(U:f.heap.NoLimit)(hg:f.gens=#[])(I:f.heap.get? a=some { cls:=.type "list",data:=.seq vs.toArray })(hi:Lo vs S)(hl:S.length<=Bc)(hr:Room k Zn)(F:∀base:Heap,K.In base->base.Ns Cq mg->FnOk P w K mg base CX k fa fd [x] sp)(M:∀(s:Al) (u:Value),BindsTo s fd ⟨[u],[]⟩ [(x,u)])(k8:∀H:Hp,u0 H->DL.KL K H a (S.map V.int)->sp [.ref a] H (λv _=>v=.bl true) λ_ _ _=>False)(q0:∀H e s',CX [] H f (λ_ _ _=>False) e s'->False):Iu (model P w) Zn (.call (.ref fa) ⟨[.ref a],[]⟩) (λr s'=>r=.ok (.ret (.bool true))/\OldK f.heap s'.heap/\s'.os=f.os/\Tc s'.gens) f:=by
 have rv:=fZ hi
 have X:=hi.length
 -- from an abstract heap in which nothing but the script may be tracked
 have T:∀H:Hp,u0 H->DL.KL K H a (S.map V.int)->Yd P w H f.heap->(∀b,H b≠none->b=a\/∃t∈g,b=t.2.1)->(H a≠none->K.lookup a=none)->(∀t∈g,X3 H t.2.1 t.2.2) ->
   Iu (model P w) Zn (.call (.ref fa) ⟨[.ref a],[]⟩) (λr s'=>r=.ok (.ret (.bool true))/\OldK f.heap s'.heap/\s'.os=f.os/\Tc s'.gens) f:=by
  intro H hO hS N hA hK h6
  have i:∀{b:Addr} {o:Obj},f.heap.get? b=some o->H b=none->(eY f.heap H).get? b=some o:=λe n=>C1 e n
  have k3:∀{b:Addr} {o:Obj} {R:Array DictEntry} {Q:Nat},f.heap.get? b=some o->o.data=.dict R Q->H b=none:=λ{b o R Q} e d=>by
   cases q:H b with
   | none=>rfl
   | some u =>
    rcases hA b (by rw[q]; simp) with l | ⟨t,j,l⟩
    ·subst l
     rw[I] at e; cases e
     have d':Data.seq vs.toArray _=Data.dict R Q:=d
     cases d'
    ·rw[l,(D t j).2] at e; cases e
     cases d
  have B:∀{b:Addr} {m:Str->Option Value},f.heap.Ns b m->(eY f.heap H).Ns b m:=λ{b m} ⟨o,R,Q,e,d,r⟩=>⟨o,R,Q,i e (k3 e d),d,r⟩
  have h9:K.In (eY f.heap H):=λb o e=>i (KX b o e) (by
   cases q:H b with
   | none=>rfl
   | some u =>
    rcases hA b (by rw[q]; simp) with l | ⟨t,j,l⟩
    ·subst l
     rw[hK (by rw[q]; simp)] at e; cases e
    ·rw[l,k6 t j] at e; cases e)
  have Z:∀{b:Addr} {o:Obj},f.heap.get? b=some o->o.cls≠.none->o.cls≠.type "list" -> H b=none:=λ{b o} e d d2=>by
   cases q:H b with
   | none=>rfl
   | some u =>
    rcases hA b (by rw[q]; simp) with l | ⟨t,j,l⟩
    ·subst l
     rw[I] at e; cases e
     exact absurd rfl d2
    ·rw[l,(D t j).2] at e; cases e
     exact absurd rfl d
  have k9:C5 K mg (eY f.heap H) H:=λx hx c P e=>by
   have j:=hL x hx c P e
   obtain ⟨Y,E,b1,b2,b3,b4,b5,b6⟩:=k7
   obtain ⟨⟨o,us,h0,tf,L,tg,k4,k0,tt,A,r1,r2⟩,G⟩:=D _ j
   refine ⟨⟨o,us,h0,tf,L,tg,k4,k0,tt,i A (Z A (by rw[r1]; nofun) (by rw[r1]; simp)),r1,r2⟩,⟨Y,E,b1,b2,λz=>?_,λz=>?_,i b3 (Z b3 (by rw[b4]; nofun) (by rw[b4]; simp)),b4,b5,b6⟩,h6 _ j⟩
   ·obtain ⟨o',R,Q,l,d,_⟩:=J
    rw[<- z,b3] at l; cases l; rw[b6] at d; cases d
   ·have G:f.heap.get? P=_:=G
    rw[<- z,b3] at G; cases G; cases b4
  have hM:Mod K mg (eY f.heap H):=⟨h9,B J,⟨mb,B hb,k5⟩,let ⟨mc,h1,h2⟩:=U; ⟨mc,B h1,h2⟩⟩
  have e0:Env0 P w K mg (eY f.heap H) Zn [] f H:=⟨rfl,hM,λb o e=>T3 e,Nat.le_of_eq (yA _ _),trivial,λb hb=>absurd (show b∈([]:List Addr) from hb) (by simp),N,.of_eq hg,k9⟩
  refine Qu ((F _ h9 (B J)).run Zn [] f H ⟨[.ref a],[]⟩ [.ref a] [.ref a] _ _ hr e0 (M f (.ref a)) (.cons rfl .nil) (k8 H hO hS)) λr s' h=>?_
  cases r with
  | error e=>exact (q0 H e s' h).elim
  | ok fl =>
   cases fl with
   | next=>exact Lj h
   | brk=>exact Lj h
   | cont=>exact Lj h
   | ret u =>
    obtain ⟨v,H',os,h8,un,C,r',q⟩:=h
    have q':v=.bl true:=q
    subst q'
    obtain rfl:u=Value.bool true:=r'
    have h7:∀b o,f.heap.get? b=some o->s'.heap.get? b=some o\/∃t∈g,b=t.2.1:=λb o e=>by
     cases q:H b with
     | none=>exact .inl (un.keep b o e q (by intro z; exact absurd (show b∈([]:List Addr) from z) (by simp)) (by simp))
     | some u =>
      rcases hO b with z | ⟨E,xs,z⟩ | ⟨O,z⟩
      ·rw[q] at z; cases z
      ·have z2:=un.frzs b E _ z
       obtain ⟨A,_⟩:=N b _ z
       obtain ⟨e2,_⟩:=C b _ z2
       rw[e] at A; cases A
       exact .inl e2
      ·rcases hA b (by rw[q]; simp) with l | h'
       ·obtain ⟨_,A,_⟩:=N b _ z
        rw[l,I] at A; cases A
       ·exact .inr h'
    have p:∀t∈g,∃O,s'.heap.get? t.2.1=some (PySem.W.tabObj O):=λt j=>by
     obtain ⟨O,t0,h3,_⟩:=h6 t j
     obtain ⟨more,h5⟩:=un.tbls _ _ h3
     obtain ⟨qs,A,_⟩:=C _ _ h5
     exact ⟨qs,A⟩
    refine ⟨rfl,⟨λb o e=>?_,λb o e=>?_⟩,os,h8⟩
    ·rcases h7 b o e with z | ⟨t,j,rfl⟩
     ·exact .inl z
     ·obtain ⟨O,G⟩:=p t j
      have e2:=(D t j).2
      rw[e] at e2
      cases e2
      exact .inr (.inl ⟨((D t j).1.tab (D t j).2).isCodeTable,rfl,#[],O,rfl,by rw[Array.empty_append]; exact G⟩)
    ·rcases h7 b o e with z | ⟨t,j,rfl⟩
     ·exact ⟨_,z⟩
     ·obtain ⟨O,G⟩:=p t j
      exact ⟨_,G⟩
 have k2:∀(t:Addr×Addr×Str),t∈g->g.find? (λr=>r.2.1 == t.2.1)=some t:=λt j=>by
  cases q:g.find? (λr=>r.2.1 == t.2.1) with
  | none=>exact absurd (List.find?_eq_none.mp q t j) (by simp)
  | some r=>exact congrArg some (hu r (Qt q) t j (by have:=Tx q; simpa using this))
 have k1:∀t∈g,t.2.1≠a:=λt j z=>by
  have e:=(D t j).2
  rw[z,I] at e; cases e
 have all:∀H:Hp,(∀b,H b=none\/∃o xs,H b=some (.frz o (.lst xs)))->(∀b,H b≠none->b=a)->(H a≠none->K.lookup a=none)->DL.KL K H a (S.map V.int)->Yd P w H f.heap ->
   Iu (model P w) Zn (.call (.ref fa) ⟨[.ref a],[]⟩) (λr s'=>r=.ok (.ret (.bool true))/\OldK f.heap s'.heap/\s'.os=f.os/\Tc s'.gens) f:=by
  intro H h1 h2 h3 h4 h5
  refine T (nC g H) (λb=>?_) ?_ (λb u z=>?_) (λb z=>?_) (λz=>?_) λt j=>?_
  ·cases q:g.find? (λr=>r.2.1 == b) with
   | some t=>exact .inr (.inr ⟨_,Vc q⟩)
   | none =>
    rcases h1 b with z | ⟨o,xs,z⟩
    ·exact .inl (by rw[Ml q]; exact z)
    ·exact .inr (.inl ⟨o,xs,by rw[Ml q]; exact z⟩)
  ·have na:g.find? (λr=>r.2.1 == a)=none:=K7.mpr λt j z=>k1 t j (by simpa using z)
   rcases h4 with ⟨o,h⟩ | h
   ·exact .inl ⟨o,by rw[Ml na]; exact h⟩
   ·exact .inr h
  ·cases q:g.find? (λr=>r.2.1 == b) with
   | some t =>
    rw[Vc q] at z
    cases z
    have eb:t.2.1=b:=by have:=Tx q; simpa using this
    exact ⟨#[],by rw[<- eb]; exact (D t (Qt q)).2,by simp [TriplesOk],λq1 v y=>by simp [codeAmong] at y⟩
   | none =>
    rw[Ml q] at z
    rcases h1 b with y | ⟨o,xs,y⟩
    ·rw[z] at y; cases y
    ·rw[z] at y
     cases y
     exact h5 b _ z
  ·cases q:g.find? (λr=>r.2.1 == b) with
   | some t=>exact .inr ⟨t,Qt q,by have:=Tx q; exact (by simpa using this : t.2.1=b).symm⟩
   | none =>
    rw[Ml q] at z
    exact .inl (h2 b z)
  ·have na:g.find? (λr=>r.2.1 == a)=none:=K7.mpr λt j z=>k1 t j (by simpa using z)
   rw[Ml na] at z
   exact h3 z
  ·exact ⟨#[.str t.2.2 0],0,Vc (k2 t j),rfl⟩
 cases hk:K.lookup a with
 | some o =>
  -- the script is one of the module's own objects
  have e:=KX a o hk
  rw[I] at e
  cases e
  exact all (λ_=>none) (λ_=>.inl rfl) (λb z=>absurd rfl z) (λz=>absurd rfl z) (.inr ⟨vs.toArray,_,hk,by rw[Au,X]; exact hl,by simpa using rv⟩) (λb u z=>by have z':(none:Option HO)=some u:=z; cases z')
 | none =>
  refine all (λb=>if b=a then some (.frz { cls:=.type "list",data:=.seq vs.toArray } (.lst (S.map V.int))) else none) (λb=>?_) (λb z=>?_) (λ_=>hk) (.inl ⟨{ cls:=.type "list",data:=.seq vs.toArray },if_pos rfl⟩) (λb u z=>?_)
  ·by_cases hb:b=a
   ·exact .inr ⟨_,_,if_pos hb⟩
   ·exact .inl (if_neg hb)
  ·by_cases hb:b=a
   ·exact hb
   ·exact absurd (if_neg hb) z
  ·by_cases hb:b=a
   ·have z':=(if_pos hb).symm.trans z
    cases z'
    subst hb
    exact ⟨I,by rw[Ab]; exact hl,vs,_,rv,I⟩
   ·have z':=(if_neg hb).symm.trans z
    cases z'
theorem walk_ofD{l:PySem.W.OpenLaw}{n k:Nat}{q:Bq}{loose:List Str}{XP:(Str->Option Value)->Heap->Prop}{YP:World->Heap->Prop}{d:DefRec}{K:Params->PySem.W.Frag}{CX:World->uP}{sp:World->Sp}{x:Str}(P:l.most=some n)(B:n<=Bc)(C:d.params.defaults=[])(S:Room k Zn)(hY:∀(w:World) (h:Heap),YP w h->(K w.params).In h)(F:∀(w:World) (mg:Str->Option Value) (y:Addr) (h:Heap),(K w.params).In h->h.Ns Cq mg->mg d.name=some (.ref y)->(jK q (K w.params))/\∃A:Cj,(∀(s:Al) (u:Value),BindsTo s A ⟨[u],[]⟩ [(x,u)])/\∀base:Heap,(K w.params).In base->base.Ns Cq mg->FnOk l.prog w (K w.params) mg base (CX w) k y A [x] (sp w))(E:∀(w:World) (H:Hp) (a:Addr) (r:List Int),r.length<=n->u0 H->DL.KL (K w.params) H a (r.map V.int)->sp w [.ref a] H (λv _=>v=.bl true) λ_ _ _=>False)(I:∀(w:World) (H:Hp) (s:Al) (e:Value) (s':Al),CX w [] H s (λ_ _ _=>False) e s'->False):PySem.W.WalkO q loose XP YP l.row.toRowW d [] (λf vs=>PySem.call f vs):=by
 refine Att.attach_call P C λw J m mg mb y o pm cd L a vs r G Y ho hd h0 D j i c R=>?_
 have z:=hY w _ Y
 obtain ⟨⟨p,O,N,Q,U⟩,A,hb,X⟩:=F w mg y _ z G.T.g D
 exact yI p (λt Z=>by
  obtain ⟨x,d,h1,h2⟩:=O t Z
  exact PySem.W.tab_of G.T z h1 h2) N Q U G.T.bmain z G.T.g G.T.b G.T.builtins G.T.nolimit R j i (Bz c B) S X hb (λH M hS=>E w H a r c M hS) λH e s'=>I w H m e s'
end L2
namespace DL
open PySem PySem.Spec PyProof.Rows L2 Nd
def npk:List DV->Bool
 | []=>true
 | .dat .pk _::_=>false
 | _::xs=>npk xs
theorem jW:∀{S:List Ent} {a:List DV},S.map Ent.x=a->npk a=true->∀e∈S,Nw e.x=false
 | [],_,_,_,e,he=>nomatch he
 | ⟨v,x,F⟩::S,_,h,hn,e,he=>by
  subst h
  rw[Ax] at hn
  have : Nw x=false/\npk (S.map Ent.x)=true:=by
   cases x with
   | dat m d=>cases m <;> first | exact ⟨rfl,hn⟩ | cases hn
   | _=>exact ⟨rfl,hn⟩
  rcases Ai.mp he with rfl | he
  ·exact this.1
  ·exact jW rfl this.2 e he
def own1:Md->Bool
 | .ow=>true
 | .tp=>true
 | _=>false
section
variable{K:PySem.W.Frag}{d H:Hp}{X:Addr->Prop}{n:Nat}{E:List Ent}
theorem At.write{v:Option V}{m:Md}{C es:List Ae}{a:Addr}{F G:List Addr}{ys:List V}(h:At K d X n (⟨v,.dat m (.list C),a::F⟩::E) H)(j:own1 m=true)(L:v=some (.ref a))(np:∀e∈E,Nw e.x=false)(r:RdFs K H ys es G)(s:G.Sublist F)(hz:es.length<=Bc):At K d X n (⟨v,.dat m (.list es),a::G⟩::E) (upd H a (.lst ys)):=by
 obtain ⟨w,Z,rd,J,Q⟩:=h.ok _ Aa
 obtain ⟨b,Y,S,e2,O,ra,M,_⟩:=rd.list_inv
 have y:a::F=b::S:=M
 cases y
 have t:=Ay.mp h.sep
 have A:a∉F:=by
  cases m with
  | ow=>exact (Bp.mp (J rfl)).1
  | tp=>exact Q rfl a F rfl
  | sh=>cases j
  | pk=>cases j
 have D:a∈cells ⟨v,.dat m (.list C),a::F⟩:=by
  cases m <;> first | exact Aa | cases j
 have kp:∀{u:List Addr},a∉u->Kp u H (upd H a (.lst ys)):=λ{u} P b o q z=>by
  have : b≠a:=by
   rintro rfl
   rw[O] at q
   cases q
   rcases z with z | z
   ·exact P z
   ·rcases z with ⟨_,z⟩ | ⟨_,_,z⟩ <;> cases z
  rw[Ef this]
  exact q
 have B:d a=none:=by
  rcases h.new _ Aa a D with z | z
  ·exact z
  ·cases z.2
 have I:∀c∈cells ⟨v,.dat m (.list es),a::G⟩,c∈cells ⟨v,.dat m (.list C),a::F⟩:=λc g=>by
  cases m with
  | ow =>
   rcases Ai.mp g with z | z
   ·exact Ai.mpr (.inl z)
   ·exact Ai.mpr (.inr (s.subset z))
  | tp=>exact g
  | sh=>cases j
  | pk=>cases j
 have p:∀c∈a::G,c∈a::F:=λc g=>by
  rcases Ai.mp g with z | z
  ·exact Ai.mpr (.inl z)
  ·exact Ai.mpr (.inr (s.subset z))
 have i:a∉G:=λz=>A (s.subset z)
 refine ⟨λf hf=>?_,?_,λf hf=>?_,λb o N q=>?_,λb o q=>?_,λb W=>?_⟩
 ·rcases Ai.mp hf with rfl | hf
  ·refine ⟨.ref a,L,.lst Di hz (r.kp (kp i)),λz=>?_,λz c l e=>?_⟩
   ·exact Bp.mpr ⟨i,(Bp.mp (J z)).2.sublist s⟩
   ·cases e
    exact i
  ·exact (h.ok f (Ad _ hf)).kp (kp ((t.1 f hf).1 (.inl (np f hf)) a D)) (Aj _)
 ·refine Ay.mpr ⟨λf hf=>⟨λU c g=>(t.1 f hf).1 (.inl (np f hf)) c (I c g),λU c g z=>(t.1 f hf).2 (.inl ?_) c g (p c z)⟩,t.2⟩
  cases m <;> first | rfl | cases j
 ·rcases Ai.mp hf with rfl | hf
  ·exact λc g=>h.new _ Aa c (I c g)
  ·exact h.new f (Ad _ hf)
 ·rw[Ef (Fu q B)]
  exact h.same b o N q
 ·rw[Ef (Fu q B)]
  exact h.dom b o q
 ·obtain ⟨z,c,k,f,T,R⟩:=h.xd b W
  refine ⟨z,c,k,f,(Ef ?_).trans T,R⟩
  rintro rfl
  exact z B
end
theorem Hq{a:Type}:∀{l:List a} {i:Nat} {x:a},l[i]? = some x->l.Perm (x::l.eraseIdx i)
 | [],i,x,h=>by simp at h
 | z::l,0,x,h=>by
  simp at h
  subst h
  exact Gn _
 | z::l,i+1,x,h=>by
  have b:=Hq (l:=l) (i:=i) (x:=x) (by simpa using h)
  rw[Rv]
  exact (b.cons z).trans (Ee x z _)
theorem Tq{b:Type}{l:List b}{i:Nat}{x y:b}(h:l[i]? = some x):(l.set i y).Perm (y::l.eraseIdx i):=by
 have a:=(Ak.mp h).1
 have q:=Hq (l:=l.set i y) (i:=i) (x:=y) (by rw[Hy]; simp [a])
 rw[List.eraseIdx_set_eq] at q
 exact q
theorem Rg{K:PySem.W.Frag}{w H:Hp}{X:Addr->Prop}{S T:List Ent}{b:DS}{i:Nat}{m:Md}{f es:List Ae}(h:Sl S b)(L:∀e∈T,Nw e.x=false)(t:At K w X b.n (S++T) H)(z:b.sl[i]? = some (.dat m (.list f)))(M:own1 m=true)(np:npk b.sl=true):∃a xs G,(vs S)[i]? = some (some (.ref a))/\H a=some (.lst xs)/\RdFs K H xs f G/\f.length<=Bc/\∀ys g,RdFs K H ys es g->g.Sublist G->es.length<=Bc->∃q,vs q=vs S/\Sl q ⟨b.sl.set i (.dat m (.list es)),b.n⟩/\At K w X b.n (q++T) (upd H a (.lst ys)):=by
 obtain ⟨d,c,I⟩:=Hi h z
 have D:d∈S:=Aq c
 obtain ⟨u,x,F⟩:=d
 have o:x=.dat m (.list f):=I
 subst o
 obtain ⟨v,s,rd,_⟩:=t.ok _ (Ah _ D)
 obtain ⟨a,xs,G,rfl,B,J,A,O⟩:=rd.list_inv
 have l:F=a::G:=A
 subst l
 refine ⟨a,xs,G,by rw[Jm c]; exact congrArg some s,B,J,O,λys g r N k=>?_⟩
 have E:=jW h np
 have C:(S++T).Perm (⟨u,.dat m (.list f),a::G⟩::(S.eraseIdx i++T)):=by
  exact (Hq c).append_right T
 have P:=(t.perm C).write (es:=es) (ys:=ys) M s (λe he=>?_) r N k
 ·refine ⟨S.set i ⟨u,.dat m (.list es),a::g⟩,?_,?_,P.perm ?_⟩
  ·unfold vs
   rw[Hn]
   apply Hd
   intro j
   rw[Hy]
   split
   ·rename_i p
    subst p
    rw[Bm,c]
    split
    ·rfl
    ·rename_i y
     rw[Ab] at y
     exact absurd (Ak.mp c).1 y
   ·rfl
  ·unfold Sl at h ⊢
   rw[Hn,h]
  ·exact ((Tq c).append_right T).symm
 ·rcases Am.mp he with he | he
  ·exact E e ((Ui S i).subset he)
  ·exact L e he
def kJ(i:Nat)(c:DE):DB:=λD b=>match b.sl[i]? with
 | some (.dat _ (.list _))=>c b λy a=>match a.sl[i]?,y with
  | some (.dat m (.list ds)),.dat _ e=>own1 m=true/\npk a.sl=true/\imm e=true/\ds.length<1000000/\D.nx ⟨a.sl.set i (.dat m (.list (ds++[e]))),a.n⟩
  | _,_=>False
 | _=>False
section
variable{X:Cx}{o e:Expr}{f:DE}{d c pos:Pos}{i:Nat}
theorem wL(ho:PE X o (Nx i))(U:Fi X e f)(k:Iy o "append" X.env (eval o X.env)=eval o X.env:=by rfl)
  (s:((Gh c (Be [e] X.env)).all (λx=>!x.1) && (Pt c (Ko [] X.env)).all (λx=>x.1.isSome)
   && decide (([e]:List Expr).length+([]:List Je).length+(if ([]:List Je).isEmpty then 0 else 1)<30))=true:=by rfl)
  (j:(d.endLine == c.line)=true:=by rfl) (R:Be [e] X.env=(false,eval e X.env)::Be [] X.env:=by rfl) (g:(Gh c (Be [] X.env)).any (·.1)=false:=by rfl)
  (E:Hu (.Call (.Attribute o "append" d) [e] [] c) none pos.line X.env=pure false:=by rfl) :
  dY X (.Expr (.Call (.Attribute o "append" d) [e] [] c) pos) (kJ i f):=by
 refine PS.impD (To (aX PySem.F.plainAttrs_list PySem.F.slot_list_append PySem.F.type_list_append Nz ho (Gp U Lk R) k s j R g) E) λD σ H h=>?_
 obtain ⟨H0,Y,S,T,δ,P,rfl,Q,hT,M,A,k1,k2,k3,k4⟩:=h
 unfold kJ at A
 split at A
 case h_2=>exact A.elim
 rename_i m0 C I
 obtain ⟨l,J,e3⟩:=Hi Q I
 have hm:l∈S:=Aq J
 obtain ⟨u,x,F⟩:=l
 have B:x=.dat m0 (.list C):=e3
 subst B
 obtain ⟨v,K,rd,_⟩:=M.ok _ (Ah _ hm)
 obtain ⟨a,xs,G,rfl,ha,ra,eF,hz⟩:=rd.list_inv
 refine ⟨.ref a,by rw[Jm J]; exact congrArg some K,.inl ⟨rfl,xs,Qf.of ha⟩,H0,Y,S,T,δ,_,rfl,Q,M,A,λy h0 w F1 S1 H1 O e5 p q=>?_⟩
 split at q
 ·rename_i m ds m' W z
  obtain ⟨q,p2,p3,p4,p5⟩:=q
  have r:=p.told mem_mid
  obtain rfl:=r.imm p3
  obtain ⟨b,t,G1,N,g2,L,g4,g5⟩:=Rg (es:=ds++[W]) e5 hT p.drop z q p2
  rw[O,Jm J] at N
  have : some (V.ref b)=some (V.ref a):=(Bl N).symm.trans K
  cases this
  obtain ⟨Z,h1,h2,h3⟩:=g5 (t++[w]) (G1++[]) (L.snoc r) (by rw[Dd]; exact Ck _) (by rw[Ar]; exact Zg (by simp; omega))
  have hl:=L.len
  refine ⟨a,t,w,rfl,rfl,g2,By (by omega) (Zg (n:=1000000) (Aj _)),?_⟩
  rw[<- O,<- h1]
  exact k1 ⟨_,_⟩ Z _ h2 h3 p5
 ·exact q.elim
end
def LJ(i:Nat)(c f:DE):DB:=λD d=>f d λy b=>match b.sl[i]? with
 | some (.dat _ (.list _))=>c b λz a=>match a.sl[i]?,y,z with
  | some (.dat m (.list ds)),.dat _ e,.dat _ (.int k)=>own1 m=true/\npk a.sl=true/\imm e=true/\Dz ds=true/\∃j,rX ds.length k=some j/\D.nx ⟨a.sl.set i (.dat m (.list (ds.set j e))),a.n⟩
  | _,_,_=>False
 | _=>False
def P9(i:Nat)(rd:D2)(e:DE):DB:=λD c=>match c.sl[i]? with
 | some (.dat _ (.int a))=>e c λy b=>rd (.dat .ow (.int a)) y λz=>match z with
  | .dat _ d=>imm d=true/\D.nx ⟨b.sl.set i (.dat .sh d),b.n⟩
  | _=>False
 | _=>False
section
variable{X:Cx}{x:Str}{e:Expr}{d:DE}{pos c:Pos}{i:Nat}
theorem uI{q:Operator}{g:Int->Int->Int}(C:X.N.Nodup)(A:X.N[i]? = some x)(B:Loc X.env.scope x)(z:Fi X e d)(O:IX X q (KF g))(W:X.fn x=true\/X.env.scope.names.lookup x=some .local:=by first | exact .inl rfl | exact .inr rfl | assumption):dY X (.AugAssign (.Name x c) q e pos) (P9 i (bZ λa b=>.int (g a b)) d):=by
 refine PS.impD (BB C A B z O W) λD σ H h=>?_
 obtain ⟨Q,Y,S,T,J,P,rfl,r,hT,o,l,R,k2,k3,k4⟩:=h
 unfold P9 at l
 split at l
 case h_2=>exact l.elim
 rename_i G a n
 obtain ⟨f,s,M⟩:=Hi r n
 have I:f∈S:=Aq s
 obtain ⟨u,x,F⟩:=f
 have m:x=.dat G (.int a):=M
 subst m
 obtain ⟨v,t,rd,_⟩:=o.ok _ (Ah _ I)
 obtain ⟨rfl,_⟩:=rd.int_inv
 refine ⟨.int a,by rw[Jm s]; exact congrArg some t,Q,Y,S,T,J,_,rfl,r,o,l,λy U w F1 S1 p K E j k=>?_⟩
 unfold bZ at k
 split at k
 ·rename_i Z b' L
  cases L
  obtain ⟨rfl,_⟩:=(j.told mem_mid).int_inv
  refine ⟨a,_,rfl,rfl,?_⟩
  show D.nx ((vs S).set i (some (V.int (g a _)))) p
  rw[<- K,<- bM (x:=.dat .sh (.int (g a _))) (F:=[])]
  exact R ⟨_,_⟩ _ p (cA E) ((j.drop.pushI (.int _)).store) k.2
 ·exact k.elim
theorem sN(g:X.N.Nodup)(b:X.N[i]? = some x)(f:Loc X.env.scope x)(a:Fi X e d)(h:X.fn x=true\/X.env.scope.names.lookup x=some .local:=by first | exact .inl rfl | exact .inr rfl | assumption):dY X (.AugAssign (.Name x c) .Add e pos) (P9 i rdAdd d):=uI g b f a BG h
end
def kF(i:Nat):DE:=λa P=>match a.sl[i]? with
 | some (.dat .pk _)=>False
 | some (.dat _ d)=>P (.dat .sh d) ⟨a.sl.set i (.dat .sh d),a.n⟩
 | _=>False
theorem gH{X:Cx}{e:Expr}{i:Nat}(h:PE X e (Nx i)):Fi X e (kF i):=by
 refine PE.imp h λL H Q h=>?_
 obtain ⟨I,Y,S,T,p,P,rfl,w,t,c,k⟩:=h
 unfold kF at c
 split at c
 ·exact c.elim
 ·rename_i m d D E
  obtain ⟨b,a,G⟩:=Hi w E
  have g:b∈S:=Aq a
  obtain ⟨u,x,F⟩:=b
  have l:x=.dat m d:=G
  subst l
  obtain ⟨v,z,B⟩:=t.ok _ (Ah _ g)
  have r:u=some v:=z
  subst r
  -- the same entry,shared
  obtain ⟨f,J⟩:=Ak.mp a
  have C:=Hq a
  have A:=Tq (y:=(⟨some v,.dat .sh d,F⟩ : Ent)) a
  have q:At X.K I Y p.n (S.set i ⟨some v,.dat .sh d,F⟩++T) H:=by
   refine At.perm (At.wk (m:=m) ?_ (t.perm (C.append_right T))) (A.append_right T).symm
   cases m <;> first | rfl | exact (D rfl).elim
  refine ⟨v,by rw[Jm a],k _ ⟨p.sl.set i (.dat .sh d),p.n⟩ v F (S.set i ⟨some v,.dat .sh d,F⟩) H ?_ ?_ (q.look (m:=.sh) (List.mem_set f _) rfl) c⟩
  ·rw[bM]
   apply Hd
   intro j
   rw[Hy]
   split
   ·rename_i o
    subst o
    rw[Jm a]
    split
    ·rfl
    ·rename_i s
     unfold vs at s
     rw[Ab] at s
     exact absurd f s
   ·rfl
  ·exact cA w
 ·exact c.elim
def spLawD(K:PySem.W.Frag):Sp:=λd H Q _=>∃(a:Addr) (b:List Int),d=[.ref a]/\KL K H a (b.map V.int)/\b.length<=63/\∀c,Q (.bl true) c
def retL:DEnds where
 nx:=λ_=>False
 rt:=λx _=>∃m,x=.dat m (.bool true)
section
variable{P:Bq}{w:World}{K:PySem.W.Frag}{mg:Str->Option Value}{base:Heap}
theorem BZ{x d D:Str}{st:Stmt}{f:Addr}{y:Cj}{N:List Str}{k:Nat}{G:DB}(F:Fun K x d st f y)(S:FnScope N [D] (Bv st))(hb:∀(g:Value) (A:Df) (outer:List Env) (s:Al) (H:Hp) (E:XK),Room k (A.deeper (envOfC d (Bv st) s.heap.objs.size f g))->Zf (Mz Ig P w K mg base N d (Bv st) f g A outer s H E).nox (Le st) G)(h:∀i:List Int,i.length<=63->G retL ⟨.scr i::Jt (N.length - 1) .un,0⟩):FnOk P w K mg base Ig (k+1) f y [D] (spLawD K):=by
 refine F.ok S (λvs H Q E z=>?_) λg A outer s H R Q E J z=>?_
 ·obtain ⟨a,i,rfl,_⟩:=z
  rfl
 ·obtain ⟨a,i,rfl,L,j,M⟩:=z
  refine ⟨_,hb g A outer s H E J,H,λ_=>False,⟨some (.ref a),.scr i,[]⟩::Jq (N.length - 1),[],⟨.scr i::Jt (N.length - 1) .un,0⟩,retL,?_,?_,λ_ z=>(nomatch z),?_,h i j,λt u C I n p=>p.elim,λx t v B u C I n p=>?_,λ_ _ _ _ _ p=>p.elim,λ_ _ _ _ _ p=>p.elim⟩
  ·unfold vs L2.start Jq
   rw[Ax,Pm]
   rfl
  ·unfold Sl Jq
   rw[Ax,Pm]
  ·rw[Dd]
   have r:∀e∈(⟨some (.ref a),.scr i,[]⟩::Jq (N.length - 1):List Ent),cells e=[]:=λe he=>by
    rcases Ai.mp he with rfl | he
    ·rfl
    ·rw[(Mh.mp he).2]
     rfl
   refine ⟨λe he=>?_,Sk λa l b q=>⟨λO c z=>?_,λO c z=>?_⟩,λe he a l=>?_,λb o _ e=>e,λb o e=>⟨o,e⟩,λb hb=>hb.elim⟩
   ·rcases Ai.mp he with rfl | he
    ·exact ⟨a,rfl,rfl,L,j⟩
    ·rw[(Mh.mp he).2]
     exact (rfl:([]:List Addr)=[])
   ·rw[r a l] at z; cases z
   ·rw[r b q] at z; cases z
   ·rw[r e he] at l; cases l
  ·obtain ⟨m,rfl⟩:=p
   rw[show u++[(⟨some v,.dat m (.bool true),B⟩ : Ent)]=u++⟨some v,.dat m (.bool true),B⟩::[] from rfl] at n
   obtain ⟨rfl,_⟩:=(n.told mem_mid).bl_inv
   exact M C
end
def pO(i:Nat)(dl d:DO):DE:=λc P=>match c.sl[i]? with
 | some (.scr ns)=>dl c λl a=>d a λh b=>P (.dat .ow (.list ((Ki ns l h).map Bo))) b
 | _=>False
def JB(i:Nat)(c:DE):DE:=λb P=>match b.sl[i]? with
 | some (.scr ns)=>c b λy a=>match y with
  | .dat _ (.list es)=>Dz es=true/\ns.length+es.length<=1000000/\P (.dat .ow (.list (ns.map Bo++es))) a
  | _=>False
 | _=>False
section
variable{X:Cx}{e b:Expr}{g:DE}{lo c:Option Expr}{dl f:DO}{pos d:Pos}{i:Nat}
theorem AV{K:PySem.W.Frag}{l H:Hp}{Y:Addr->Prop}{S T:List Ent}{e:DS}{b:List Int}(m:Sl S e)(o:At K l Y e.n (S++T) H)(c:e.sl[i]? = some (.scr b)):∃a,(vs S)[i]? = some (some (.ref a))/\(⟨some (.ref a),.scr b,[]⟩ : Ent)∈S/\KL K H a (b.map V.int)/\b.length<=63:=by
 obtain ⟨d,j,s⟩:=Hi m c
 have k:d∈S:=Aq j
 obtain ⟨u,x,F⟩:=d
 have h:x=.scr b:=s
 subst h
 obtain ⟨a,r,p,q⟩:=o.ok _ (Ah _ k)
 have f:u=some (.ref a):=r
 have g:F=[]:=p
 subst f g
 exact ⟨a,by rw[Jm j],k,q⟩
theorem zX(z:PE X e (Nx i))(hl:FB X lo dl)(I:FB X c f):Fi X (.Subscript e (.Slice lo c none d) pos) (pO i dl f):=by
 refine PE.imp (oD (r:=DW X.K) U7 z hl I) λσ H Q h=>?_
 obtain ⟨t,Y,S,T,x,P,rfl,y,w,j,k⟩:=h
 unfold pO at j
 split at j
 case h_2=>exact j.elim
 rename_i b s
 obtain ⟨a,F,L,Z,D⟩:=AV y w s
 have u:At X.K t Y x.n (S++⟨some (.ref a),.scr b,[]⟩::T) H:=(At.view1 w (Ah _ L)).tomid
 refine ⟨.ref a,F,t,Y,S,⟨some (.ref a),.scr b,[]⟩::T,x,_,rfl,y,u,j,λl q A H2 N M o d=>?_⟩
 refine ⟨t,Y,A,⟨some (.ref a),.scr b,[]⟩::T,q,_,N,M,o,d,λh m B W G J g C=>?_⟩
 obtain ⟨R,O,_,v,_⟩:=g.ok _ mem_mid
 cases O
 refine ⟨a,_,rfl,v.sq,λp E=>?_⟩
 have : bK (b.map V.int) l h=(Ki b l h).map V.int:=by
  rw[<- bV]; rfl
 rw[this]
 refine k _ m _ _ B _ G J (g.drop.newI (RdFs.ints _) (Sq _) ?_ E .ow) C
 rw[Ab]
 have U:=(Sw b l h).length_le
 exact sz (by omega)
end
def Qn(p:Nat)(f:DT)(h:DE)(g:DS)(d:Ae->Nat->Prop)(i:Nat->Prop):Prop:=f g λb a=>match b with
 | true=>h a λy c=>match y with
  | .dat _ e=>imm e=true/\c.sl[p]? = some .drw/\d e c.n
  | _=>False
 | false=>a.sl[p]? = some .drw/\i a.n
def pP(h:DI)(js1:List Nat)(j0:Nat)(js2:List Nat)(g:DT)(k:DE):DE:=λj P=>h j λm f b=>b.sl[j0]? = some .drw/\∃I:Nat->List Ae->Nat->Prop,I 0 [] b.n /\
 (∀i d a n,f[i]? = some d->I i a n->Qn (js1.length+1) g k ⟨.dat m d::(frD (b.sl.set j0 .un) js1++.drw::frD (b.sl.set j0 .un) js2),n⟩ (λe c=>I (i+1) (a++[e]) c) (λc=>I (i+1) a c)) /\
 ∀a n,I f.length a n->P (.dat .ow (.list a)) ⟨b.sl,n⟩
section
variable{K:PySem.W.Frag}{a H g:Hp}{Y:Addr->Prop}{n n':Nat}{E S T:List Ent}
theorem At.re(h:At K a Y n E H)(ok:∀e∈E,Ii K g n' e)(s:∀b o,¬ Y b->a b=some o->g b=some o)(d:∀b o,a b=some o->∃i,g b=some i)(j:∀b,Y b->a b≠none/\∃c k f,Wo g b c k f/\0<=k/\k<=(n':Int)):At K a Y n' E g:=⟨ok,h.sep,h.new,s,d,j⟩
theorem J3{g:List Ent}{m:DS}{p:Nat}{b:Addr}(s:At K a Y n E H)(w:∀e∈g,e∈E)(y:Sl g m)(r:m.sl[p]? = some .drw)(l:(vs g)[p]? = some (some (.ref b))):Ii K H n ⟨some (.ref b),.drw,[b]⟩:=by
 obtain ⟨d,o,v⟩:=Hi y r
 have t:d∈g:=Aq o
 rw[Jm o] at l
 obtain ⟨u,x,F⟩:=d
 have i:x=.drw:=v
 subst i
 have q:u=some (.ref b):=Bl l
 subst q
 obtain ⟨h,c,k,f,A,B,z⟩:=s.ok _ (w _ t)
 have j:some (V.ref b)=some (V.ref h):=A
 cases j
 exact ⟨b,c,k,f,rfl,rfl,z⟩
theorem zB{p:Nat}{l:Addr}{u:DT}{E:DE}{m:DS}{k:Ae->Nat->Prop}{x:Nat->Prop}{D:Addr}{d:List Ae}{C:Hp->Prop}{A:VK}(N:Sl S m)(I:At K a Y m.n (S++⟨some (.ref D),.acc d,[D]⟩::T) H)(w:(vs S)[p]? = some (some (.ref l)))(h:Qn p u E m k x)(k1:∀n' g,At K a Y n' (⟨some (.ref D),.acc d,[D]⟩::T) g->Ii K g n' ⟨some (.ref l),.drw,[l]⟩->x n'->C g)(k2:∀e n' v g,At K a Y n' (⟨some (.ref D),.acc d,[D]⟩::T) g->Ii K g n' ⟨some (.ref l),.drw,[l]⟩->RdF K g v e []->k e n'->A v g):LT K u (vs S) H λc t=>if c=true then LE K E (vs S) t A else C t:=by
 refine ⟨a,Y,S,⟨some (.ref D),.acc d,[D]⟩::T,m,_,rfl,N,I,h,λb s G t z B i q=>?_⟩
 cases b with
 | false=>exact oG (k1 _ _ (i.sub (Ca _ _)) (J3 i (λe o=>Ah _ o) B q.1 (by rw[z]; exact w)) q.2)
 | true =>
  refine jZ ⟨a,Y,G,⟨some (.ref D),.acc d,[D]⟩::T,s,_,z,B,i,q,λy J v F O P M L f j=>?_⟩
  split at j
  ·have r:=f.told mem_mid
   obtain rfl:=r.imm j.1
   exact k2 _ _ _ _ (f.drop.sub (Ca _ _)) (J3 f (λe o=>Ah _ o) L j.2.1 (by rw[M]; exact w)) r j.2.2
  ·exact j.elim
theorem zO{di:DI}{js1 js2:List Nat}{j0:Nat}{dc:DT}{de:DE}:∀σ H Q,LE K (pP di js1 j0 js2 dc de) σ H Q->nX (LI K di) (js1++j0::js2) (LT K dc) (LE K de) σ H Q:=by
 intro σ H Q h
 obtain ⟨a,Y,S,T,δ,P,rfl,hS,hA,hd,k⟩:=h
 refine ⟨a,Y,S,T,δ,_,rfl,hS,hA,hd,λm z r J l f H1 e1 e2 W it hz p1=>?_⟩
 obtain ⟨hj,I,h0,hs,hf⟩:=p1
 rw[<- e1]
 obtain ⟨Z,U,s2⟩:=Hi e2 hj
 have k6:Z∈f:=Aq U
 obtain ⟨u,x,F0⟩:=Z
 have k1:x=.drw:=s2
 subst k1
 obtain ⟨b,_,_,_,k4,h9,_⟩:=W.ok _ (Ah _ k6)
 have V:u=some (.ref b):=k4
 have h6:F0=[b]:=h9
 subst V h6
 intro D hD
 refine ⟨λi q H=>q=z.length - i/\i<=z.length/\∃c n,At K a Y n (⟨some (.ref D),.acc c,[D]⟩::(f++(l++T))) H/\c.length<=i/\I i c n,⟨z.length,by simp,Dh _,[],r.n,W.accNew hD,Aj _,h0⟩,?_⟩
 (intro i q H q_; obtain ⟨rfl,hi,c,n,t,hl,hI⟩ := q_)
 have o:∀e∈l,Ii K H n e:=λe he=>t.ok e (Ad _ (Af _ (Ah _ he)))
 by_cases w:i<z.length
 ·refine .inr ⟨it.go H n i o w,λx g y=>?_⟩
  obtain ⟨h8,d,F,h1,h2,h3⟩:=it.yld H n i x g o w y
  have M:At K a Y n ((⟨some (.ref D),.acc c,[D]⟩::f)++⟨some x,.dat m d,F⟩::(l++T)) g:=At.item (S:=⟨some (.ref D),.acc c,[D]⟩::f) t h8 h2 h3 it.md it.hd it.np
  -- the draws are taken out of their slot
  have C:At K a Y n (⟨some (.ref b),.drw,[b]⟩::⟨some x,.dat m d,F⟩::⟨some (.ref D),.acc c,[D]⟩::(f.set j0 ⟨some (.ref b),.un,[]⟩++(l++T))) g:=by
   have q:=M.mid.blank (v:=some (.ref b))
   refine q.perm ?_
   have pS:(⟨some (.ref b),.un,[]⟩::f:List Ent).Perm (⟨some (.ref b),.drw,[b]⟩::f.set j0 ⟨some (.ref b),.un,[]⟩):=Sf U
   have p2:=pS.append_right (l++T)
   -- un::x::D::f.. ~ x::D::un::f..
   have a1:((⟨some (.ref b),.un,[]⟩ : Ent)::⟨some x,.dat m d,F⟩::((⟨some (.ref D),.acc c,[D]⟩::f)++(l++T))).Perm (⟨some x,.dat m d,F⟩::⟨some (.ref D),.acc c,[D]⟩::⟨some (.ref b),.un,[]⟩::(f++(l++T))) :=
    (Ee _ _ _).trans ((Ee _ _ _).cons _)
   have a2:((⟨some x,.dat m d,F⟩ : Ent)::⟨some (.ref D),.acc c,[D]⟩::⟨some (.ref b),.drw,[b]⟩::(f.set j0 ⟨some (.ref b),.un,[]⟩++(l++T))).Perm (⟨some (.ref b),.drw,[b]⟩::⟨some x,.dat m d,F⟩::⟨some (.ref D),.acc c,[D]⟩::(f.set j0 ⟨some (.ref b),.un,[]⟩++(l++T))) :=
    ((Ee _ _ _).cons _).trans (Ee _ _ _)
   exact a1.trans (((p2.cons _).cons _).trans a2)
  have X:Sl (f.set j0 ⟨some (.ref b),.un,[]⟩) ⟨r.sl.set j0 .un,n⟩:=cA e2
  have vS:vs (f.set j0 ⟨some (.ref b),.un,[]⟩)=vs f:=by
   rw[bM]
   apply Hd
   intro j
   rw[Hy]
   split
   ·rename_i k5
    subst k5
    rw[Jm U]
    split
    ·rfl
    ·rename_i L
     unfold vs at L
     rw[Ab] at L
     exact absurd (Ak.mp U).1 L
   ·rfl
  have A:∀e∈f.set j0 ⟨some (.ref b),.un,[]⟩,e∈(⟨some (.ref b),.drw,[b]⟩::⟨some x,.dat m d,F⟩::⟨some (.ref D),.acc c,[D]⟩::(f.set j0 ⟨some (.ref b),.un,[]⟩++(l++T)):List Ent):=λe he=>Ad _ (Ad _ (Ad _ (Ah _ he)))
  have k7:=At.view (S:=f.set j0 ⟨some (.ref b),.un,[]⟩) C A js2
  have h5:=At.view (S:=f.set j0 ⟨some (.ref b),.un,[]⟩) k7 (λe he=>Af _ (A e he)) js1
  have k3:At K a Y n ((⟨some x,.dat m d,F⟩::(aA (f.set j0 ⟨some (.ref b),.un,[]⟩) js1++⟨some (.ref b),.drw,[b]⟩::aA (f.set j0 ⟨some (.ref b),.un,[]⟩) js2))++⟨some (.ref D),.acc c,[D]⟩::(f.set j0 ⟨some (.ref b),.un,[]⟩++(l++T))) g:=by
   refine h5.perm ?_
   generalize aA (f.set j0 ⟨some (.ref b),.un,[]⟩) js1=A1
   generalize aA (f.set j0 ⟨some (.ref b),.un,[]⟩) js2=A2
   generalize (⟨some (.ref D),.acc c,[D]⟩::(f.set j0 ⟨some (.ref b),.un,[]⟩++(l++T)):List Ent)=R
   have b1:(A2++((⟨some (.ref b),.drw,[b]⟩ : Ent)::⟨some x,.dat m d,F⟩::R)).Perm ((⟨some x,.dat m d,F⟩ : Ent)::⟨some (.ref b),.drw,[b]⟩::(A2++R)) :=
    (Fd.trans ((Fd).cons _)).trans (Ee _ _ _)
   have b2:=b1.append_left A1
   refine b2.trans (Fd.trans ?_)
   rw[Fe,Bh,Fe]
  have k2:Sl (⟨some x,.dat m d,F⟩::(aA (f.set j0 ⟨some (.ref b),.un,[]⟩) js1++⟨some (.ref b),.drw,[b]⟩::aA (f.set j0 ⟨some (.ref b),.un,[]⟩) js2)) ⟨.dat m d::(frD (r.sl.set j0 .un) js1++.drw::frD (r.sl.set j0 .un) js2),n⟩:=by
   unfold Sl
   rw[Ax,Bb,Ax,tM X,tM X]
  have hv:vs (⟨some x,.dat m d,F⟩::(aA (f.set j0 ⟨some (.ref b),.un,[]⟩) js1++⟨some (.ref b),.drw,[b]⟩::aA (f.set j0 ⟨some (.ref b),.un,[]⟩) js2))=some x::Ei (vs f) (js1++j0::js2):=by
   have f1:=sO (f.set j0 ⟨some (.ref b),.un,[]⟩) js1
   have f2:=sO (f.set j0 ⟨some (.ref b),.un,[]⟩) js2
   rw[vS] at f1 f2
   unfold vs at f1 f2 ⊢
   rw[Ax,Bb,Ax,f1,f2]
   unfold Ei
   rw[Bb,Ax,Bm,U]
   rfl
  have k0:(vs (⟨some x,.dat m d,F⟩::(aA (f.set j0 ⟨some (.ref b),.un,[]⟩) js1++⟨some (.ref b),.drw,[b]⟩::aA (f.set j0 ⟨some (.ref b),.un,[]⟩) js2)))[js1.length+1]? = some (some (.ref b)):=by
   unfold vs
   rw[Ax,pB,Bb,Fq (by rw[Ab]; unfold aA; rw[Ab]; exact Aj _)]
   rw[Ab]
   unfold aA
   rw[Ab,Nat.sub_self]
   rfl
  -- s to the outer names
  have s:∀{n':Nat} {B:Hp},At K a Y n' (⟨some (.ref D),.acc c,[D]⟩::(f.set j0 ⟨some (.ref b),.un,[]⟩++(l++T))) B->Ii K B n' ⟨some (.ref b),.drw,[b]⟩->At K a Y n' (⟨some (.ref D),.acc c,[D]⟩::(f++(l++T))) B:=λ{n' B} O h7=>by
   refine t.re (λe he=>?_) O.same O.dom O.xd
   rcases Ai.mp he with rfl | he
   ·exact O.ok _ Aa
   ·rcases Am.mp he with he | he
    ·obtain ⟨j,N⟩:=List.getElem?_of_mem he
     by_cases h4:j=j0
     ·subst h4
      rw[U] at N
      cases N
      exact h7
     ·refine O.ok e (Ad _ (Ah _ (Aq (i:=j) ?_)))
      rw[Vl (Oh h4)]
      exact N
    ·exact O.ok e (Ad _ (Af _ he))
  refine ⟨λB=>∃m',m'<z.length - i/\_,λy H3=>∃c,H3 D=some (.lst c)/\c.length<Bc/\∃m',m'<z.length - i/\_,λB q=>q,λy H3 q=>q,?_⟩
  rw[<- hv]
  refine zB k2 k3 k0 (hs i d c n h1 hI) (λn' B G E p=>?_) (λe n' v B G E r7 p=>?_)
  ·exact ⟨z.length - (i+1),by omega,rfl,w,c,n',s G E,by omega,p⟩
  ·obtain ⟨xs,g1,g2,g3⟩:=(s G E).accPut r7 (by omega)
   exact ⟨xs,g1,by omega,z.length - (i+1),by omega,rfl,w,c++[e],n',g3,by rw[Ar]; simp; omega,p⟩
 ·have e:i=z.length:=by omega
  subst e
  refine .inl ⟨it.stop H n o,k _ ⟨r.sl,n⟩ _ [D] f H e1 e2 ?_ (hf c n hI)⟩
  have M:=t.accGet
  have C:At K a Y n (⟨some (.ref D),.dat .ow (.list c),[D]⟩::(f++T)) H:=M.sub (((Ck f).append (Ca l T)).cons₂ _)
  exact C.tomid
end
section
variable{X:Cx}{f b c:Expr}{x g:Str}{h l pos d:Pos}{i0:Nat}{e:List Expr}{a:Scope}{cl:List (Str×Addr)}{ys:List Str}{js1 js2:List Nat}{j0:Nat}{j:DI}{i:DT}{k:DE}
theorem t8{o:Bool}(u:X.N.Nodup)(m:X.N[i0]? = some g)(c:X.env.scope.names.lookup g=some .local)(C:CompScope X a cl x ys (js1++j0::js2))(v:X.calm=true)(r:yK X (.Name x h) b j)(q:∀fp s H,pA (Dg X a cl (x::ys) fp s H) e (LT X.K i))(p:∀fp s H,Fi (Dg X a cl (x::ys) fp s H) f k)(t:∀x,Cw b X.env x=pure x:=by intro _; rfl)(n:Hu (.ListComp f [⟨.Name x h,b,e,0⟩] a pos) (some (.Name g l)) d.line X.env=pure true:=by rfl):dY X (.Assign [.Name g l] (.ListComp f [⟨.Name x h,b,e,0⟩] a pos) d) (jC (pP j js1 j0 js2 i k) (BO o i0)):=PS.impD (jD u m c C v r q p t n) (Vd zO P8)
end
theorem nM{X:Cx}{c:Expr}{f:List Stmt}{dt:DT}{B:DB}{pos:Pos}(L:PassesOwn (model X.prog X.w) X.A X.env X.xe)(Z:Zi X c dt)(hb:Zf X f B):dY X (.While c f [] pos) (j5 dt B):=by
 refine PS.impD (i8 L Z hb) λD t H h=>?_
 obtain ⟨p,Y,S,T,a,P,rfl,hS,hT,M,hd,E,Q,k3,k4⟩:=h
 obtain ⟨I,s,V,hs⟩:=hd
 refine ⟨λq t H=>∃S a,vs S=t/\Sl S a/\At X.K p Y a.n (S++T) H/\I a/\q=s a,⟨_,S,a,rfl,hS,M,V,rfl⟩,?_⟩
 (intro q t H O; obtain ⟨R,g,rfl,W,r,F,rfl⟩ := O)
 refine ⟨p,Y,R,T,g,_,rfl,W,r,hs g F,λb m v H2 C z l y=>?_⟩
 cases b with
 | true =>
  refine ⟨λi x=>∃S a,vs S=i/\Sl S a/\At X.K p Y a.n (S++T) x/\I a/\s a<s g,λi x ⟨S,a,N,J,z3,U,G⟩=>⟨_,G,S,a,N,J,z3,U,rfl⟩,?_⟩
  exact ⟨p,Y,v,T,m,_,C,z,hT,l,y,λd o u k e j=>⟨o,d,rfl,k,e,j⟩,Q,λd o u k e j=>E d o u k e j,λd o u k e j=>⟨o,d,rfl,k,e,j⟩⟩
 | false =>
  rw[<- C]
  exact E m v H2 z l y
theorem B0{P:Bq}{w:World}{K:PySem.W.Frag}{mg:Str->Option Value}{base:Heap}{k:Nat}{f:Addr}{a:Cj}{ps:List Str}(F:FnOk P w K mg base Ig k f a ps sT):FnOk P w K mg base Ig k f a ps Vq:=by
 refine F.imp λd H Q E h=>?_
 obtain ⟨c,rfl,h⟩:=h
 exact ⟨c,rfl,λp f b=>h p c f b⟩
def Xy:DF:=λa n R=>a=[]/\n<=100000/\∀r:Int,R (.int r) (n+1)
theorem L3{P:Bq}{w:World}{K:PySem.W.Frag}{mg:Str->Option Value}{base:Heap}{k:Nat}{f:Addr}{g:Cj}{ps:List Str}(F:FnOk P w K mg base Ig k f g ps j3):FnOk P w K mg base Ig k f g ps (W3 K Xy):=by
 refine F.imp λB H Q E h=>?_
 obtain ⟨A,l,y,n,C,R,rfl,m,ok,G,⟨c,i,j,d,u,I⟩,q,o,x⟩:=h
 obtain ⟨rfl,D,p⟩:=o
 have b:y=[]:=by
  have:=Ly q
  rw[Ab] at this
  exact Hx.mp this
 subst b
 have e:l=[]:=by
  cases l with
  | nil=>rfl
  | cons _ _=>cases m
 subst e
 refine ⟨A,c,i,j,rfl,d,u,by omega,λr v t a s=>?_⟩
 exact x (.int r) (.int r) [] (n+1) t (by omega) (p r) (.int r) Dl (λ_ z=>(nomatch z)) ⟨v,i+1,j,a,by omega,by omega⟩ s
theorem fM{b c:Type}{f:b->c}:∀(l:List b) (i:Nat),(l.map f).eraseIdx i=(l.eraseIdx i).map f
 | [],_=>rfl
 | _::_,0=>rfl
 | a::l,i+1=>by simp [fM l i]
theorem bT{a:List Int}(r:Ge 60 a):a.length<=60:=Bz (NdS.len_leI (r.1.imp λ{x y} h=>Int.ne_of_lt h) λe b=>S8 (r.2 e b).1 (r.2 e b).2) (by decide)
theorem Q5{K:PySem.W.Frag}{H:Hp}{a:Addr}{b:List Int}(h:H a=some (.tup (b.map V.int)))(l:b.length<=1000000):RdF K H (.ref a) (Bt b) []:=.tup h (by rw[Ab]; exact Zg l) (RdFs.ints b)
theorem yO{K:PySem.W.Frag}{H:Hp}{n:Nat}{As:List Ent}{us:List V}{b:Ae}(d:As.map Ent.v=us.map some)(ok:∀e∈As,Ii K H n e)(q:datas (As.map Ent.x)=some [b]):∃c f,us=[c]/\RdF K H c b f:=by
 have r:=Wv d q ok
 generalize As.flatMap Ent.F=G0 at r
 cases r with
 | cons a t =>
  cases t
  exact ⟨_,_,rfl,a⟩
def Hw{a:Type}(xs:List a)(k:Nat)(y:a):List a:=xs.take k++y::xs.drop k
def L7:V->List V->Hp->VK->Prop:=λx b H Q=>∃(l:Addr) (a:List V) (k:Int) (y:V),x=.ref l/\b=[.int k,y]/\H l=some (.lst a)/\a.length<Bc/\0<=k/\k<=1000000/\Q .non (upd H l (.lst (Hw a k.toNat y)))
theorem rW{k:Int}(h0:0<=k)(h1:k<=1000000):Yo k=true:=by
 unfold Yo
 simp
 omega
theorem xH{a:Type}(xs:List a)(k:Nat)(y:a):Hw xs (min k xs.length) y=Hw xs k y:=by
 unfold Hw
 by_cases h:k<=xs.length
 ·rw[Ud h]
 ·rw[eH (by omega),Ea,List.drop_length,Ex (by omega),sJ (by omega)]
theorem Oa{a:Type}(xs:List a)(k:Nat)(y:a):(Hw xs k y).length=xs.length+1:=by
 unfold Hw
 rw[Ar,Bi,Cu,Ih]
 omega
section
variable{X:Cx}
theorem Xm:IV X "list.insert" L7:=by
 intro d s A H x vs v C Q I g f h
 obtain ⟨l,u,k,y,rfl,rfl,c,B,i,m,q⟩:=h
 cases g
 obtain ⟨w,b,rfl,o,j⟩:=f.two
 obtain ⟨t,rfl⟩:=o
 obtain ⟨z,a,n,r,p,e⟩:=I.lstM c
 refine eE Qw ⟨_,e,rfl⟩ F.entry_list_insert (F.args_list_insert_3 _ _ _)
  (AutoSeq1.list_insert_list_int_val_1 l a.toArray n k t b (by simp [rW i m]) (by rw[Au]; omega)) ⟨e,?_⟩
 refine ⟨.non,_,I.lset (its':=Hw a k.toNat b) c e ?_ ?_ ?_,rfl,q⟩
 ·show (a.toArray.extract 0 (if k<0 then (k+(a.toArray.size:Int)).toNat else min k.toNat a.toArray.size)).push b++a.toArray.extract (if k<0 then (k+(a.toArray.size:Int)).toNat else min k.toNat a.toArray.size)=(Hw a k.toNat b).toArray
  rw[if_neg (by omega),Au,<- xH]
  unfold Hw
  simp
  exact Ex (by rw[Ih]; omega)
 ·exact (r.take _).append (.cons j (r.drop _))
 ·rw[Oa]
  omega
end
def insB(i:Nat)(z y:DV)(a:DS)(D:DEnds):Prop:=match a.sl[i]?,z,y with
 | some (.dat m (.list ds)),.dat _ (.int k),.dat _ e=>own1 m=true/\npk a.sl=true/\imm e=true/\Dz ds=true/\ds.length<1000000/\0<=k/\k<=1000000/\D.nx ⟨a.sl.set i (.dat m (.list (Hw ds k.toNat e))),a.n⟩
 | _,_,_=>False
def jV(i:Nat)(d e:DE):DB:=λD c=>match c.sl[i]? with
 | some (.dat _ (.list _))=>d c λz a=>e a λy b=>insB i z y b D
 | _=>False
theorem RdFs.takeI{K:PySem.W.Frag}{H:Hp}{xs:List V}{b:List Ae}{F:List Addr}(h:RdFs K H xs b F)(c:Dz b=true)(k:Nat):RdFs K H (xs.take k) (b.take k) []:=by
 induction k generalizing xs b F with
 | zero=>exact .nil
 | succ k d =>
  cases h with
  | nil=>exact .nil
  | cons a t =>
   rw[Dz,Ff] at c
   obtain rfl:=a.imm c.1
   exact RdFs.cons (F:=[]) a (d t c.2)
theorem RdFs.dropI{K:PySem.W.Frag}{H:Hp}{xs:List V}{b:List Ae}{F:List Addr}(h:RdFs K H xs b F)(c:Dz b=true)(k:Nat):RdFs K H (xs.drop k) (b.drop k) []:=by
 induction k generalizing xs b F with
 | zero=>rw[Ju,Ju]; exact (h.imm c)▸h
 | succ k d =>
  cases h with
  | nil=>exact .nil
  | cons a t =>
   rw[Dz,Ff] at c
   exact d t c.2
section
variable{X:Cx}{o e f:Expr}{j g:DE}{d c pos:Pos}{i:Nat}
theorem vU(ho:PE X o (Nx i))(hk:Fi X f g)(he:Fi X e j)(q:Iy o "insert" X.env (eval o X.env)=eval o X.env:=by rfl)
  (C:((Gh c (Be [f,e] X.env)).all (λx=>!x.1) && (Pt c (Ko [] X.env)).all (λx=>x.1.isSome)
   && decide (([f,e]:List Expr).length+([]:List Je).length+(if ([]:List Je).isEmpty then 0 else 1)<30))=true:=by rfl)
  (s:(d.endLine == c.line)=true:=by rfl) (B:Be [f,e] X.env=(false,eval f X.env)::Be [e] X.env:=by rfl) (hs:Be [e] X.env=(false,eval e X.env)::Be [] X.env:=by rfl) (l:(Gh c (Be [e] X.env)).any (·.1)=false:=by rfl)
  (O:Hu (.Call (.Attribute o "insert" d) [f,e] [] c) none pos.line X.env=pure false:=by rfl) :
  dY X (.Expr (.Call (.Attribute o "insert" d) [f,e] [] c) pos) (jV i g j):=by
 refine PS.impD (To (aX PySem.F.plainAttrs_list Qw aP Xm ho (Gp hk (Gp he Lk hs) B) q C s B l) O) λD σ H h=>?_
 obtain ⟨H0,Y,S,T,δ,P,rfl,Z,hT,hA,J,k1,k2,k3,k4⟩:=h
 unfold jV at J
 split at J
 case h_2=>exact J.elim
 rename_i m0 U L
 obtain ⟨A,M,e3⟩:=Hi Z L
 have hm:A∈S:=Aq M
 obtain ⟨u,x,F⟩:=A
 have R:x=.dat m0 (.list U):=e3
 subst R
 obtain ⟨v,hv,rd,_⟩:=hA.ok _ (Ah _ hm)
 obtain ⟨a,xs,G,rfl,ha,ra,eF,hz⟩:=rd.list_inv
 refine ⟨.ref a,by rw[Jm M]; exact congrArg some hv,.inl ⟨rfl,xs,Qf.of ha⟩,H0,Y,S,T,δ,_,rfl,Z,hA,J,λz N w F1 S1 H1 e4 e5 K p1=>?_⟩
 refine ⟨H0,Y,S1,⟨some w,z,F1⟩::T,N,_,e4,e5,K,p1,λy h0 w2 F2 S2 H2 e6 e7 p I=>?_⟩
 unfold insB at I
 split at I
 ·rename_i m ds mz k my e' E
  obtain ⟨q1,q2,q3,q4,q5,q6,q7,q8⟩:=I
  obtain ⟨rfl,_⟩:=(p.told Fc).int_inv
  have r:=p.told mem_mid
  obtain rfl:=r.imm q3
  obtain ⟨b,t,G1,W,g2,Q,g4,g5⟩:=Rg (es:=Hw ds k.toNat e') e7 hT p.drop2 E q1 q2
  rw[e6,Jm M] at W
  have : some (V.ref b)=some (V.ref a):=(Bl W).symm.trans hv
  cases this
  have hl:=Q.len
  obtain ⟨S3,h1,h2,h3⟩:=g5 (Hw t k.toNat w2) [] ((Q.takeI q4 _).app (RdFs.cons (F:=[]) r (Q.dropI q4 _))) (Nh _) (by rw[Oa]; exact Zg (by omega))
  refine ⟨a,t,k,w2,rfl,rfl,g2,By (by omega) (Zg (n:=1000000) (Aj _)),q6,q7,?_⟩
  rw[<- e6,<- h1]
  exact k1 ⟨_,_⟩ S3 _ h2 h3 q8
 ·exact I.elim
end
def mmd:Md->Md->Md
 | .ow,.ow=>.ow
 | _,_=>.tp
section
variable{K:PySem.W.Frag}{d H:Hp}{X:Addr->Prop}{n:Nat}{E:List Ent}
theorem At.merge{v:Option V}{w:V}{m g:Md}{L es:List Ae}{e:Ae}{a:Addr}{F p G:List Addr}{ys:List V}(h:At K d X n (⟨v,.dat m (.list L),a::F⟩::⟨some w,.dat g e,p⟩::E) H)(J:own1 m=true)(hy:g≠.pk)(hv:v=some (.ref a))(np:∀e∈E,Nw e.x=false)(r:RdFs K H ys es G)(T:∀c∈G,c∈F\/c∈p)(U:(F++p).Nodup->G.Nodup)(hz:es.length<=Bc):At K d X n (⟨v,.dat (mmd m g) (.list es),a::G⟩::E) (upd H a (.lst ys)):=by
 obtain ⟨w1,e1,rd,Z,ht⟩:=h.ok _ Aa
 obtain ⟨w2,h3,h0,N,h4⟩:=h.ok _ (Ad _ Aa)
 obtain ⟨b,xs,G0,e2,ha,ra,eF,_⟩:=rd.list_inv
 have P:a::F=b::G0:=eF
 cases P
 have A:=Ay.mp h.sep
 have t:=Ay.mp A.2
 have D:=A.1 _ Aa
 have j:Nw (DV.dat g e)=false:=by cases g <;> first | rfl | exact absurd rfl hy
 have C:Nw (DV.dat m (.list L))=false:=by cases m <;> first | rfl | cases J
 have Q:a∉F:=by
  cases m with
  | ow=>exact (Bp.mp (Z rfl)).1
  | tp=>exact ht rfl a F rfl
  | sh=>cases J
  | pk=>cases J
 have B:a∈cells ⟨v,.dat m (.list L),a::F⟩:=by
  cases m <;> first | exact Aa | cases J
 have R:a∉p:=D.1 (.inl j) a B
 have s:a∉G:=λz=>(T a z).elim Q R
 have kp:∀{O:List Addr},a∉O->Kp O H (upd H a (.lst ys)):=λ{O} hF b o q z=>by
  have : b≠a:=by
   rintro rfl
   rw[ha] at q
   cases q
   rcases z with z | z
   ·exact hF z
   ·rcases z with ⟨_,z⟩ | ⟨_,_,z⟩ <;> cases z
  rw[Ef this]
  exact q
 have S:d a=none:=by
  rcases h.new _ Aa a B with z | z
  ·exact z
  ·cases z.2
 have Y:∀c∈cells ⟨v,.dat (mmd m g) (.list es),a::G⟩,c∈cells ⟨v,.dat m (.list L),a::F⟩\/c∈cells ⟨some w,.dat g e,p⟩:=λc i=>by
  by_cases I:m=.ow/\g=.ow
  ·obtain ⟨rfl,rfl⟩:=I
   rcases Ai.mp (show c∈a::G from i) with z | z
   ·rw[z]; exact .inl B
   ·rcases T c z with z | z
    ·exact .inl (Ad _ z)
    ·exact .inr z
  ·have M:c∈[a]:=by
    cases m <;> cases g <;> first | exact i | exact absurd ⟨rfl,rfl⟩ I
   rw[Ac.mp M]; exact .inl B
 refine ⟨λf hf=>?_,?_,λf hf=>?_,λb o nx q=>?_,λb o q=>?_,λb hb=>?_⟩
 ·rcases Ai.mp hf with rfl | hf
  ·refine ⟨.ref a,hv,.lst Di hz (r.kp (kp s)),λz=>?_,λz c l e=>?_⟩
   ·have I:m=.ow/\g=.ow:=by
     cases m <;> cases g <;> first | exact ⟨rfl,rfl⟩ | cases z
    obtain ⟨rfl,rfl⟩:=I
    refine Bp.mpr ⟨s,U (Ec.mpr ⟨(Bp.mp (Z rfl)).2,N rfl,λx hx y W e=>?_⟩)⟩
    subst e
    exact D.1 (.inl j) x (Ad _ hx) W
   ·cases e
    exact s
  ·have u:=Ad (⟨some w,.dat g e,p⟩ : Ent) hf
   exact (h.ok f (Ad _ u)).kp (kp ((A.1 f u).1 (.inl (np f hf)) a B)) (Aj _)
 ·refine Ay.mpr ⟨λf hf=>?_,t.2⟩
  have u:=Ad (⟨some w,.dat g e,p⟩ : Ent) hf
  refine ⟨λhq c i=>?_,λhq c i z=>?_⟩
  ·rcases Y c i with z | z
   ·exact (A.1 f u).1 (.inl (np f hf)) c z
   ·exact (t.1 f hf).1 (.inl (np f hf)) c z
  ·rcases Ai.mp z with z | z
   ·exact (A.1 f u).2 (.inl C) c i (by rw[z]; exact Aa)
   ·rcases T c z with z | z
    ·exact (A.1 f u).2 (.inl C) c i (Ad _ z)
    ·exact (t.1 f hf).2 (.inl j) c i z
 ·rcases Ai.mp hf with rfl | hf
  ·intro c i
   rcases Y c i with z | z
   ·rcases h.new _ Aa c z with z | z
    ·exact .inl z
    ·cases z.2
   ·rcases h.new _ (Ad _ Aa) c z with z | z
    ·exact .inl z
    ·cases z.2
  ·exact h.new f (Ad _ (Ad _ hf))
 ·rw[Ef (Fu q S)]
  exact h.same b o nx q
 ·rw[Ef (Fu q S)]
  exact h.dom b o q
 ·obtain ⟨z,c,k,f,h1,h2⟩:=h.xd b hb
  refine ⟨z,c,k,f,(Ef ?_).trans h1,h2⟩
  rintro rfl
  exact z S
end
theorem rJ{K:PySem.W.Frag}{C H:Hp}{X:Addr->Prop}{S T:List Ent}{d:DS}{i:Nat}{m g:Md}{b:List Ae}{e:Ae}{w:V}{l:List Addr}(o:Sl S d)(Q:∀e∈T,Nw e.x=false)(r:At K C X d.n (S++⟨some w,.dat g e,l⟩::T) H)(E:d.sl[i]? = some (.dat m (.list b)))(U:own1 m=true)(J:g≠.pk)(np:npk d.sl=true)(hl:b.length<1000000):∃a xs,(vs S)[i]? = some (some (.ref a))/\H a=some (.lst xs)/\xs.length=b.length/\∃y,vs y=vs S/\Sl y ⟨d.sl.set i (.dat (mmd m g) (.list (b++[e]))),d.n⟩/\At K C X d.n (y++T) (upd H a (.lst (xs++[w]))):=by
 obtain ⟨k,h,R⟩:=Hi o E
 have N:k∈S:=Aq h
 obtain ⟨u,x,F⟩:=k
 have q:x=.dat m (.list b):=R
 subst q
 obtain ⟨v,A,rd,_⟩:=r.ok _ (Ah _ N)
 obtain ⟨a,xs,G,rfl,L,B,I,Z⟩:=rd.list_inv
 have p:F=a::G:=I
 subst p
 have t:=r.told mem_mid
 refine ⟨a,xs,by rw[Jm h]; exact congrArg some A,L,B.len,?_⟩
 have O:=jW o np
 have M:(S++⟨some w,.dat g e,l⟩::T).Perm (⟨u,.dat m (.list b),a::G⟩::⟨some w,.dat g e,l⟩::(S.eraseIdx i++T)):=by
  refine ((Hq h).append_right _).trans ?_
  rw[Fe]
  exact Oj _ Fd
 have Y:=(r.perm M).merge (es:=b++[e]) (ys:=xs++[w]) (G:=G++l) U J A (λf hf=>?_) (B.snoc t) (λc P=>Am.mp P) (λz=>z) (by rw[Ar]; exact Zg (by simp; omega))
 ·refine ⟨S.set i ⟨u,.dat (mmd m g) (.list (b++[e])),a::(G++l)⟩,?_,?_,Y.perm ?_⟩
  ·unfold vs
   rw[Hn]
   apply Hd
   intro j
   rw[Hy]
   split
   ·rename_i s
    subst s
    rw[Bm,h]
    split
    ·rfl
    ·rename_i D
     rw[Ab] at D
     exact absurd (Ak.mp h).1 D
   ·rfl
  ·unfold Sl at o ⊢
   rw[Hn,o]
  ·exact ((Tq h).append_right T).symm
 ·rcases Am.mp hf with hf | hf
  ·exact O f ((Ui S i).subset hf)
  ·exact Q f hf
def appOB(i:Nat)(y:DV)(a:DS)(D:DEnds):Prop:=match a.sl[i]?,y with
 | some (.dat m (.list ds)),.dat my e=>own1 m=true/\npk a.sl=true/\my≠.pk/\ds.length<1000000/\D.nx ⟨a.sl.set i (.dat (mmd m my) (.list (ds++[e]))),a.n⟩
 | _,_=>False
def bC(i:Nat)(c:DE):DB:=λD b=>match b.sl[i]? with
 | some (.dat _ (.list _))=>c b λy a=>appOB i y a D
 | _=>False
section
variable{X:Cx}{o e:Expr}{f:DE}{d c pos:Pos}{i:Nat}
theorem cV(ho:PE X o (Nx i))(Q:Fi X e f)(k:Iy o "append" X.env (eval o X.env)=eval o X.env:=by rfl)
  (q:((Gh c (Be [e] X.env)).all (λx=>!x.1) && (Pt c (Ko [] X.env)).all (λx=>x.1.isSome)
   && decide (([e]:List Expr).length+([]:List Je).length+(if ([]:List Je).isEmpty then 0 else 1)<30))=true:=by rfl)
  (j:(d.endLine == c.line)=true:=by rfl) (O:Be [e] X.env=(false,eval e X.env)::Be [] X.env:=by rfl) (g:(Gh c (Be [] X.env)).any (·.1)=false:=by rfl)
  (B:Hu (.Call (.Attribute o "append" d) [e] [] c) none pos.line X.env=pure false:=by rfl) :
  dY X (.Expr (.Call (.Attribute o "append" d) [e] [] c) pos) (bC i f):=by
 refine PS.impD (To (aX PySem.F.plainAttrs_list PySem.F.slot_list_append PySem.F.type_list_append Nz ho (Gp Q Lk O) k q j O g) B) λD σ H h=>?_
 obtain ⟨H0,Y,S,T,δ,P,rfl,N,hT,K,s,k1,k2,k3,k4⟩:=h
 unfold bC at s
 split at s
 case h_2=>exact s.elim
 rename_i m0 z C
 obtain ⟨p,E,e3⟩:=Hi N C
 have hm:p∈S:=Aq E
 obtain ⟨u,x,F⟩:=p
 have t:x=.dat m0 (.list z):=e3
 subst t
 obtain ⟨v,J,rd,_⟩:=K.ok _ (Ah _ hm)
 obtain ⟨a,W,G,rfl,Z,ra,eF,hz⟩:=rd.list_inv
 refine ⟨.ref a,by rw[Jm E]; exact congrArg some J,.inl ⟨rfl,W,Qf.of Z⟩,H0,Y,S,T,δ,_,rfl,N,K,s,λy h0 w F1 S1 H1 M e5 A l=>?_⟩
 unfold appOB at l
 split at l
 ·rename_i m ds my e' r
  obtain ⟨l,p2,U,p4,p5⟩:=l
  obtain ⟨b,I,L,g2,g3,R,h1,h2,h3⟩:=rJ e5 hT A r l U p2 p4
  rw[M,Jm E] at L
  have : some (V.ref b)=some (V.ref a):=(Bl L).symm.trans J
  cases this
  refine ⟨a,I,w,rfl,rfl,g2,By (by omega) (Zg (n:=1000000) (Aj _)),?_⟩
  rw[<- M,<- h1]
  exact k1 ⟨_,_⟩ R _ h2 h3 p5
 ·exact l.elim
end
end DL
namespace Nd
open PySem PySem.Spec PyProof.Rows L2
end Nd
namespace DL
open PySem PySem.Spec PyProof.Rows L2 Nd
section
variable{X:Cx}{a:List (Addr×Obj)}{d:List (Option V)}{H:Hp}{s:Al}{h':Heap}{m:Str->Option Value}
theorem HD{more:List (Addr×Obj)}(I:Inv X a d H s)(F:Fr X.base X.env.locals h' m)(N:News X.base X.env.locals h' (Pq X.base s.heap X.env.locals++more)):∀b o,b≠X.env.locals->s.heap.get? b=some o->h'.get? b=some o:=λb o c e=>by
 cases q:X.base.get? b with
 | some u =>
  have z:=I.bk b u q
  rw[e] at z; cases z
  exact F.keep b _ q
 | none=>exact (N (b,o) (Ah _ (mE c q e))).1
theorem sZ(I:Inv X a d H s)(F:Fr X.base X.env.locals h' m)(N:News X.base X.env.locals h' (Pq X.base s.heap X.env.locals)):∀b o,b≠X.env.locals->s.heap.get? b=some o->h'.get? b=some o:=HD (more:=[]) I F (by rw[Dd]; exact N)
theorem Inv.framed{t':Nat}(I:Inv X a d H s)(k:∀b o,b≠X.env.locals->s.heap.get? b=some o->h'.get? b=some o)(G:s.heap.Ns X.env.locals m)(j:h'.Ns X.env.locals m):Inv X a d H { s with heap:=h',toks:=t' }:=by
 have f:∀b u,H b=some u->b≠X.env.locals:=λb u e z=>by rw[z,I.free] at e; cases e
 refine I.step (g':=s.gens) (d':=s.drawn) (ch:=[]) (λ_ z=>nomatch z) (λb o h _ _ e _=>k b o h e) (λb o h _ _ e _=>⟨o.slots,k b o h e⟩) (λ_ _ _ _ n=>n) (λb o _ e=>?_) (λ_ _ e=>e) (λ_ _ _ e=>e) (λb O e=>⟨#[],by rw[e]; simp⟩) (λw y=>?_) (λb u e=>?_) I.bare
 ·by_cases z:b=X.env.locals
  ·obtain ⟨t,_,_,g,_⟩:=j
   exact ⟨t,z▸g⟩
  ·exact ⟨o,k b o z e⟩
 ·obtain ⟨M,r,B,p,J,L,A⟩:=y
  obtain ⟨N,C,D,i,l,K,F⟩:=G
  rw[p] at i; cases i
  rw[J] at l; cases l
  have : w=m:=funext λx=>(A x).symm.trans (F x)
  exact this▸j
 ·refine (I.hok b u e).stay (λc v E q=>k c v ?_ q) (λ_ q=>q) λ_ _ q=>q
  rcases E with z | z
  ·rw[z]; exact f b u e
  ·exact f c _ z
end
def bW(K:PySem.W.Frag)(le lt:Nat->Nat->Prop):V->Hp->VK->Prop:=λx H Q=>∃(p:Addr) (b:List V) (a:Nat->Nat),x=.ref p/\Qf K H p b/\b≠[]/\(∀i v,b[i]? = some v->∃q c,v=.ref q/\(Qf K H q c\/Tz K H q c)/\c.length=a i) /\
 ∀i v,b[i]? = some v->(∀j,j<b.length->le (a i) (a j)/\(j<i->lt (a i) (a j)))->Q v H
section
variable{X:Cx}{c:List (Addr×Obj)}{d:List (Option V)}{H:Hp}{s:Al}
theorem jJ{a:Addr}{o:Obj}{xs:Array Value}{n:Nat}{m:Str->Option Value}{h:Heap}(e:h.Ns a m){b:Addr}(hb:h.get? b=some o)(hd:o.data=.seq xs n):b≠a:=λz=>by
 obtain ⟨i,c,f,d,g,_⟩:=e
 rw[z,d] at hb; cases hb
 rw[g] at hd; cases hd
theorem nQ{j:List (Addr×Obj)}{h:Heap}{v:Nat}{m:Str->Option Value}{q:Addr}{ys:List V}(B:X.calm=true)(I:Inv X c d H s)(u:s.heap.Ns X.env.locals m)(F:Fr X.base X.env.locals h m)(N:News X.base X.env.locals h (Pq X.base s.heap X.env.locals++j))(hq:Qf X.K H q ys\/Tz X.K H q ys):wpAny (model X.prog X.w) X.A.in1 (call (.builtin "len") [.ref q]) (KskEnd X.base X.env.locals m (Pq X.base s.heap X.env.locals++j) (ys.length:Nat) { s with heap:=h,toks:=v }) (λ_ _=>False) { s with heap:=h,toks:=v }:=by
 have y:=Ux
 have z:Bc=16777216:=Iw
 have k:=HD I F N
 rcases hq with hq | hq
 ·obtain ⟨b,t,l,x⟩:=I.list hq
  have a:=t.length
  obtain ⟨o,g,f,r,i⟩:=l.isList
  have e:Heap.IsList h q b.toArray:=⟨o,k q o (jJ u g i) g,f,r,i⟩
  refine Calls.call_len_list e (by simp only[Au]; omega) ?_
  simp only[Au]
  rw[a]
  exact KskEnd.intro F N λp n=>n
 ·obtain ⟨b,t,l,x⟩:=I.tuple hq
  have a:=t.length
  obtain ⟨o,g,f,r,i⟩:=l
  have e:IsTup h q b.toArray:=⟨o,k q o (jJ u g i) g,f,r,i⟩
  refine len_tuple e (by simp only[Au]; omega) ?_
  simp only[Au]
  rw[a]
  exact KskEnd.intro F N λp n=>n
theorem yC(G:X.calm=true){x:V}{u:Value}{Q:VK}(I:Inv X c d H s)(U:RelV x u)(h:bW X.K (λa b=>a<=b) (λa b=>a<b) x H Q):wpAny (model X.prog X.w) X.A (call (.builtin "min") [u] [(aJ "key",.builtin "len")]) (EP X c d Q) X.xe s:=by
 obtain ⟨p,n,R,rfl,S,ne,O,q⟩:=h
 cases U
 obtain ⟨m,M⟩:=I.fr
 have D:=M.ns
 obtain ⟨r,t,W,_⟩:=I.list S
 obtain ⟨o,J,C,T,L⟩:=W.isList
 have f:=t.length
 refine PyProof.Rows.kmb_min (λi=>(R i:Int)) (I.ok.hd G) M (lT (h:=s.heap)) (vs:=r) (λh F N=>?_) ?_ (λi v g h tk P F N=>?_) λi v h' Y g hb F N=>?_
 ·exact ⟨o,sZ I F N p o (jJ D J L) J,C,T,L⟩
 ·rw[<- f]; exact Ft.mpr ne
 ·have B:i<n.length:=by rw[f]; exact (Ak.mp g).1
  obtain ⟨y,k⟩ : ∃y,n[i]? = some y:=⟨_,Bj B⟩
  obtain ⟨u',l,E⟩:=t.get k
  rw[g] at l; cases l
  obtain ⟨q',ys,rfl,hq,e⟩:=O i y k
  cases E
  rw[<- e]
  exact nQ G I D F N hq
 ·have B:i<n.length:=by rw[f]; exact (Ak.mp g).1
  obtain ⟨y,k⟩ : ∃y,n[i]? = some y:=⟨_,Bj B⟩
  obtain ⟨u',l,E⟩:=t.get k
  rw[g] at l; cases l
  refine ⟨y,H,Inv.framed I (sZ I F N) D F.ns,E,q i y k λj Z=>?_⟩
  have:=hb j (by rw[<- f]; exact Z)
  refine ⟨by have:=this.1; omega,λz=>?_⟩
  have:=this.2 z
  omega
theorem xM(G:X.calm=true){x:V}{u:Value}{Q:VK}(I:Inv X c d H s)(U:RelV x u)(h:bW X.K (λa b=>a ≥ b) (λa b=>a > b) x H Q):wpAny (model X.prog X.w) X.A (call (.builtin "max") [u] [(aJ "key",.builtin "len")]) (EP X c d Q) X.xe s:=by
 obtain ⟨p,n,R,rfl,S,ne,O,q⟩:=h
 cases U
 obtain ⟨m,M⟩:=I.fr
 have D:=M.ns
 obtain ⟨r,t,W,_⟩:=I.list S
 obtain ⟨o,J,C,T,L⟩:=W.isList
 have f:=t.length
 refine PyProof.Rows.kmb_max (λi=>(R i:Int)) (I.ok.hd G) M (lT (h:=s.heap)) (vs:=r) (λh F N=>?_) ?_ (λi v g h tk P F N=>?_) λi v h' Y g hb F N=>?_
 ·exact ⟨o,sZ I F N p o (jJ D J L) J,C,T,L⟩
 ·rw[<- f]; exact Ft.mpr ne
 ·have B:i<n.length:=by rw[f]; exact (Ak.mp g).1
  obtain ⟨y,k⟩ : ∃y,n[i]? = some y:=⟨_,Bj B⟩
  obtain ⟨u',l,E⟩:=t.get k
  rw[g] at l; cases l
  obtain ⟨q',ys,rfl,hq,e⟩:=O i y k
  cases E
  rw[<- e]
  exact nQ G I D F N hq
 ·have B:i<n.length:=by rw[f]; exact (Ak.mp g).1
  obtain ⟨y,k⟩ : ∃y,n[i]? = some y:=⟨_,Bj B⟩
  obtain ⟨u',l,E⟩:=t.get k
  rw[g] at l; cases l
  refine ⟨y,H,Inv.framed I (sZ I F N) D F.ns,E,q i y k λj Z=>?_⟩
  have:=hb j (by rw[<- f]; exact Z)
  refine ⟨by have:=this.1; omega,λz=>?_⟩
  have:=this.2 z
  omega
variable{e:Expr}{t:TA}{l:DA}{f g kp pos:Pos}
theorem IW(r:X.calm=true)(v:Gl X "min")(w:X.mg "min" = none)(i:Gl X "len")(j:X.mg "len" = none)(m:PA X [e] t)(k:Be [e] X.env=[(false,eval e X.env)]:=by rfl):PE X (.Call (.Name "min" f) [e] [⟨some "key",.Name "len" g,kp⟩] pos) (FP (λxs H Q=>∃x,xs=[x]/\bW X.K (λa b=>a<=b) (λa b=>a<b) x H Q) t):=by
 intro c s d H Q I h
 refine Ks (Qc I v w (u:=.builtin "min") (by decide +kernel) ?_)
 refine Zo (Gk (m pos c s d H _ I h) λz A ⟨vs,y,l,p,o⟩=>?_) (by rw[k]; rfl) (by rw[k]; rfl)
 obtain ⟨x,rfl,q⟩:=o
 obtain ⟨u,rfl,n⟩:=vals1 p
 refine kws_cons (Qc l i j (u:=.builtin "len") (by decide +kernel) (kws_nil ?_))
 exact yC r l n q
theorem Q8(r:X.calm=true)(v:Gl X "max")(w:X.mg "max" = none)(i:Gl X "len")(j:X.mg "len" = none)(m:PA X [e] t)(k:Be [e] X.env=[(false,eval e X.env)]:=by rfl):PE X (.Call (.Name "max" f) [e] [⟨some "key",.Name "len" g,kp⟩] pos) (FP (λxs H Q=>∃x,xs=[x]/\bW X.K (λa b=>a ≥ b) (λa b=>a > b) x H Q) t):=by
 intro c s d H Q I h
 refine Ks (Qc I v w (u:=.builtin "max") (by decide +kernel) ?_)
 refine Zo (Gk (m pos c s d H _ I h) λz A ⟨vs,y,l,p,o⟩=>?_) (by rw[k]; rfl) (by rw[k]; rfl)
 obtain ⟨x,rfl,q⟩:=o
 obtain ⟨u,rfl,n⟩:=vals1 p
 refine kws_cons (Qc l i j (u:=.builtin "len") (by decide +kernel) (kws_nil ?_))
 exact xM r l n q
end
def BQ:Ae->Option Nat
 | .tuple a=>some a.length
 | .list a=>some a.length
 | _=>none
def aD(le lt:Nat->Nat->Prop):DC:=λb P=>match b with
 | [.dat m (.list ds)]=>∃a:Nat->Nat,ds≠[]/\(∀i d,ds[i]? = some d->BQ d=some (a i))/\∀i d,ds[i]? = some d->(∀j,j<ds.length->le (a i) (a j)/\(j<i->lt (a i) (a j)))->P (.dat (Nv m) d)
 | _=>False
section
variable{K:PySem.W.Frag}
theorem p8{le lt:Nat->Nat->Prop}:Uk K (λxs H Q=>∃x,xs=[x]/\bW K le lt x H Q) (aD le lt):=by
 intro N X n S T R M H Q P w o q k
 unfold aD at q
 split at q
 ·rename_i m E D
  obtain ⟨v,F,rfl,o⟩:=Lq w o D
  obtain ⟨y,L,C,A⟩:=q
  obtain ⟨a,xs,G,rfl,B,e,rfl,O⟩:=(o.told mem_mid).list_inv
  refine ⟨_,rfl,a,xs,y,rfl,Qf.of B,λz=>?_,λi v f=>?_,λi v f l=>?_⟩
  ·have:=e.len; rw[z] at this; exact L (Hx.mp this.symm)
  ·have c:=(Ak.mp f).1
   rw[e.len] at c
   obtain ⟨x,t,h,g,u⟩:=e.get (Bj c)
   rw[f] at h; cases h
   have p:=C i _ (Bj c)
   generalize E[i]=d at g p
   cases d with
   | tuple I =>
    obtain ⟨b,r,rfl,l,s,_⟩:=g.tup_inv
    exact ⟨b,r,rfl,.inr (Tz.of l),by rw[s.len]; exact Bl p⟩
   | list I =>
    obtain ⟨b,r,_,rfl,l,s,_,_⟩:=g.list_inv
    exact ⟨b,r,rfl,.inl (Qf.of l),by rw[s.len]; exact Bl p⟩
   | _=>cases p
  ·have c:=(Ak.mp f).1
   rw[e.len] at c
   obtain ⟨x,t,h,g,u⟩:=e.get (Bj c)
   rw[f] at h; cases h
   exact k _ _ t H (o.part g (u.trans (Ci _ _))) (A i _ (Bj c) λj J=>l j (by rw[e.len]; exact J))
 ·exact q.elim
end
section
variable{X:Cx}{e:Expr}{c:DA}{d f kp pos:Pos}
theorem Q0(k:X.calm=true)(l:Gl X "max")(m:X.mg "max" = none)(g:Gl X "len")(h:X.mg "len" = none)(i:oZ X [e] c)(j:Be [e] X.env=[(false,eval e X.env)]:=by rfl):Fi X (.Call (.Name "max" d) [e] [⟨some "key",.Name "len" f,kp⟩] pos) (ID (aD (λa b=>a ≥ b) (λa b=>a > b)) c):=PE.imp (Q8 k l m g h i j) (K4 p8)
end
def LY(n:Nat)(b:e8):DG:=λx a P=>match x with
 | .dat m (.list ds)=>ds.length=n/\b (ds.map λd=>.dat (Nv m) d) a P
 | _=>False
def II(b:List Ae)(z:DV)(a:DS)(D:DEnds):Prop:=match z with
 | .dat _ e=>npk a.sl=true/\imm e=true/\b.length<1000000/\D.nx a
 | _=>False
def ME(c:DE)(y:DV)(b:DS)(D:DEnds):Prop:=match y with
 | .dat .ow (.list ds)=>c b λz a=>II ds z a D
 | _=>False
def yW(i:Nat):DE:=λa P=>match a.sl[i]? with
 | some (.dat .ow d)=>P (.dat .ow d) ⟨a.sl.set i (.dat .pk d),a.n⟩
 | _=>False
theorem iU{X:Cx}{e:Expr}{i:Nat}(h:PE X e (Nx i)):Fi X e (yW i):=by
 refine PE.imp h λC H Q h=>?_
 obtain ⟨r,Y,S,T,w,P,rfl,g,m,c,k⟩:=h
 unfold yW at c
 split at c
 ·rename_i d t
  obtain ⟨a,b,A⟩:=Hi g t
  have p:a∈S:=Aq b
  obtain ⟨u,x,F⟩:=a
  subst A
  obtain ⟨v,q,B⟩:=m.ok _ (Ah _ p)
  have f:u=some v:=q
  subst f
  refine ⟨v,by rw[Jm b],k _ _ v F (S.set i ⟨some v,.dat .pk d,F⟩) H ?_ ?_ ?_ c⟩
  ·unfold vs
   rw[Hn]
   apply Hd
   intro j
   rw[Hy]
   split
   ·rename_i l
    subst l
    rw[Bm,b]
    split
    ·rfl
    ·rename_i o
     rw[Ab] at o
     exact absurd (Ak.mp b).1 o
   ·rfl
  ·unfold Sl at g ⊢
   rw[Hn,g]
  ·have s:At X.K r Y w.n (S++⟨some v,.dat .pk d,F⟩::T) H:=m.look p rfl
   have z:(S++⟨some v,.dat .pk d,F⟩::T).Perm ((S.set i ⟨some v,.dat .pk d,F⟩)++⟨some v,.dat .ow d,F⟩::T):=by
    refine Fd.trans ?_
    rw[<- Fe]
    exact ((Sf (y:=(⟨some v,.dat .pk d,F⟩ : Ent)) b).append_right T).trans (by rw[Fe]; exact List.perm_middle.symm)
   exact s.perm z
 ·exact c.elim
def Yg:D2:=λx y P=>match x,y with
 | .dat m (.list ds),.dat m' (.list es)=>m≠.pk/\m'≠.pk/\ds.length+es.length<=1000000/\P (.dat .tp (.list (ds++es)))
 | _,_=>False
theorem X6{m:Md}{d:Ae}(h:m≠.pk):Nw (.dat m d)=false:=by cases m <;> first | rfl | exact absurd rfl h
theorem U5{K:PySem.W.Frag}:kZ K EA Yg:=by
 intro H0 X n S T x y v w F G H Q P d h k
 unfold Yg at h
 split at h
 ·rename_i m U V N
  obtain ⟨D,M,hz,p⟩:=h
  obtain ⟨b,s,t,rfl,I,A,rfl,_⟩:=(d.told mem_mid).list_inv
  obtain ⟨a,r,B,rfl,E,u,rfl,_⟩:=(d.told Fc).list_inv
  have Z:=u.len
  have Y:=A.len
  refine ⟨a,b,r,s,rfl,rfl,E,I,Zg (by omega),λq i=>?_⟩
  have C:=Fj i (.lst (r++s))
  have O:=Ay.mp d.mid.sep
  have R:=Ay.mp d.drop.mid.sep
  have o:∀f∈S++_::_::T,q∉f.F:=d.free i
  have L:q∉t:=λz=>o _ mem_mid (Ad _ z)
  have J:q∉B:=λz=>o _ Fc (Ad _ z)
  have fr:=d.drop2.free i
  refine k _ _ _ _ (((d.drop2.grow (n':=n) C (Aj _)).push (e:=⟨some (.ref q),.dat .tp (.list (U++N)),q::(B++t)⟩) ⟨_,rfl,.lst Di (by rw[Ar]; exact Zg (by omega)) ((u.app A).kp (Kp.of C)),λz=>(nomatch z),λ_ a l e=>?_⟩ (λf j=>⟨λ_ c g z=>?_,λ_ c g z=>?_⟩) λc g=>?_).tomid) p
  ·cases e
   exact λz=>(Am.mp z).elim J L
  ·rw[Ac.mp g] at z
   exact fr f j z
  ·rcases Ai.mp z with z | z
   ·rw[z] at g
    exact fr f j (Gu _ _ g)
   ·rcases Am.mp z with z | z
    ·exact (R.1 f j).2 (.inl (X6 D)) c g (Ad _ z)
    ·exact (O.1 f ((Ck S).append (Ci _ T) |>.subset j)).2 (.inl (X6 M)) c g (Ad _ z)
  ·rw[Ac.mp g]
   exact .inl (d.new0 i)
 ·exact h.elim
theorem Vr{X:Cx}{a b:Expr}{c d:DE}{pos:Pos}(e:Fi X a c)(hb:Fi X b d):Fi X (.BinOp a .Add b pos) (Ve Yg c d):=We pK U5 e hb
end DL
namespace Nd
open PySem PySem.Spec PyProof.Rows
section
variable{prog:Bq}{w:World}{c:Type}[DecidableEq c](b:HeapKind prog w c)
def DictE(h:Heap)(d:Addr)(xs:List (c×Addr×Value)):Prop :=
 ∃(o:Obj) (a:Array DictEntry) (e:Nat),h.get? d=some o/\o.ExactDict/\o.data=.dict a e/\a.toList=xs.map (eB b)/\(∀x∈xs,b.is h x.1 x.2.1)/\(xs.map (·.1)).Nodup/\e=a.size
variable{b}
variable{A:Df}{E:Value->Al->Prop}{s:Al}{d a:Addr}{xs:List (c×Addr×Value)}{k:c}{v:Value}
theorem yB{xs:List (c×Addr×Value)}{k:c}{a:Addr}{v:Value}(f:(xs.map (·.1)).Nodup)(g:k∉xs.map (·.1)):((xs++[(k,a,v)]).map (·.1)).Nodup:=by
 rw[Bb,List.nodup_append]
 refine ⟨f,by simp,λx d y b e=>g ?_⟩
 rw[Ax,Pg,Ac] at b
 have b:y=k:=b
 rw[<- b,<- e]
 exact d
theorem x5{o:Obj}{es:Array DictEntry}{f:Nat}{h:Heap}(e:h.get? d=some o)(q:o.ExactDict)(hd:o.data=.dict es f)(j:es.toList=xs.map (eB b))(g:∀x∈xs,b.is h x.1 x.2.1)(p:(xs.map (·.1)).Nodup)(i:f=es.size)(c:b.is h k a)(l:atKey xs k=none)(n:k∉xs.map (·.1)):DictE b (h.update d (Obj.mapDictKeys λes=>es.push ⟨b.hash k,.ref a,v⟩)) d (storedH xs k a v):=by
 rw[storedH_new l]
 refine ⟨_,_,f+1,Nc _ e (Obj.isFreed_of_dict (Obj.data_mapDictKeys hd _)),q.mapDictKeys _,Obj.data_mapDictKeys hd _,by simp [j,eB],λx m=>?_,yB p n,by rw[i,Array.size_push]⟩
 rcases Am.mp m with z | z
 ·exact b.keeps (g x z) e hd (Dr ..)
 ·rw[Ac.mp z]
  exact b.keeps c e hd (Dr ..)
theorem E8{Q:Unit->Al->Prop}(B:b.room A)(c:b.is s.heap k a)(H:DictE b s.heap d xs)(q:∀h',DictE b h' d (storedH xs k a v)->Jf d s.heap h'->Q () { s with heap:=h',toks:=s.toks+b.draws k })(hz:xs.length<=Bc):wpAny (model prog w) A (dictSet d (.ref a) v) Q E s:=by
 obtain ⟨o,D,G,h,u,f,n,g,m,i⟩:=H
 unfold dictSet
 try with_reducible refine Eg ?_
 refine Ag (b.pyHash B c ?_)
 unfold dictSetHashed
 try with_reducible refine Eg ?_
 refine Ag (wpAny_dictFind_heap (s:={ s with toks:=s.toks+b.draws k }) B c h f n g m (λz=>?_) λj p t=>?_)
 ·exact Ag (Vo (wpAny_updateDictKeys (hz:=by have e:=size_of_entries n; omega) (s:={ s with toks:=s.toks+b.draws k }) h f (q _ (x5 h u f n g m i c (atKey_none_of_get z) (not_mem_keys_of_get z)) (Dr ..))))
 ·refine Ag (Vo (Ag (wpAny_updateDict (s:={ s with toks:=s.toks+b.draws k }) h f (wpAny_point (q _ ?_ (Dr ..))))))
  rw[storedH_old (atKey_of_get m t)]
  refine ⟨_,_,G,Nc _ h (Obj.isFreed_of_dict (Obj.data_mapDict f _)),u.mapDict _,Obj.data_mapDict f _,?_,λx F=>?_,by rw[keys_map_putAt]; exact m,by rw[i]; simp⟩
  ·have r:=modify_map_putAt (eB b) (λe:DictEntry=>{ e with val:=v }) k v (λ_ _=>rfl) m t
   rw[<- n] at r
   obtain ⟨l⟩:=D
   simpa using r
  ·obtain ⟨y,C,rfl⟩:=Cn.mp F
   unfold putAt
   split <;> exact b.keeps (g y C) h f (Dr ..)
end
end Nd
namespace L2
open PySem PySem.Spec PyProof.Rows
section
variable{a:Type}[DecidableEq a]
def Yb(b:List (a×V))(k:a):Option V:=(b.find? λc=>decide (c.1=k)).map (·.2)
def bA(b:List (a×V))(k:a)(v:V):List (a×V) :=
 if (b.any λc=>decide (c.1=k))=true then b.map (λc=>if c.1=k then (c.1,v) else c) else b++[(k,v)]
theorem Wi{p:a×V}{r:List (a×V)}{k:a}(e:p.1=k):Yb (p::r) k=some p.2:=by simp [Yb,Me,e]
theorem Wn{p:a×V}{r:List (a×V)}{k:a}(e:¬ p.1=k):Yb (p::r) k=Yb r k:=by simp [Yb,Me,e]
theorem mU(k:a):∀b:List (a×V),(b.any λkv=>decide (kv.1=k))=(Yb b k).isSome
 | []=>rfl
 | p::r=>by
  rw[Xe]
  by_cases e:p.1=k
  ·simp only[Wi e,decide_eq_true e,Bool.true_or,Wz]
  ·rw[Wn e,decide_eq_false e,Bool.false_or]; exact mU k r
theorem oF(b:List (a×V))(k:a)(v:V):(bA b k v).length<=b.length+1:=by
 unfold bA
 split
 ·rw[Ab]; omega
 ·rw[Ar,Bi,Fz]; omega
theorem qM.isSome_eq{o:Option V}{u:Option Value}(r:qM o u):o.isSome=u.isSome:=by
 cases o with
 | none=>cases u with
  | none=>rfl
  | some _=>exact (show False from r).elim
 | some _=>cases u with
  | none=>exact (show False from r).elim
  | some _=>rfl
theorem KV.val{c:List (a×V)}{vs:List (a×Value)}(r:KV c vs)(k:a):qM (Yb c k) (valueAt vs k):=by
 unfold KV at r
 induction r with
 | nil=>exact Ng
 | @cons p q l f h t i =>
  obtain ⟨g,j⟩:=h
  by_cases e:p.1=k
  ·have d:q.1=k:=g.symm.trans e
   have b:valueAt (q::f) k=some q.2:=by simp [valueAt,Me,d]
   rw[Wi e,b]; exact j
  ·have d:¬ q.1=k:=λz=>e (g.trans z)
   have b:valueAt (q::f) k=valueAt f k:=by simp [valueAt,Me,d]
   rw[Wn e,b]; exact i
end
theorem r9{P:Bq}{w:World}{k:Lu}{u:Value}(r:RelV (kV k) u):(Lb P w).is k u=true:=by
 cases k with
 | inl i=>obtain ⟨t,e⟩:=(show ∃t,u=Value.int i t from r); subst e; exact oA P w i t
 | inr x=>obtain ⟨t,e⟩:=(show ∃t,u=Value.str x t from r); subst e; exact lM P w x t
theorem fU{P:Bq}{w:World}:∀{ks:List Lu} {us:List Value},Gv (ks.map kV) us->ItemsAre (Lb P w) ks us
 | [],_,r=>by rw[Pg] at r; cases r; exact .nil
 | k::ks,_,r=>by
  rw[Ax] at r
  cases r with
  | cons h t=>exact .cons (r9 h) (fU t)
abbrev KT(H:Hp):List (List Lu×V)->List (List Lu×Addr×Value)->Prop:=Paired λp q=>p.1=q.1/\H q.2.1=some (.tup (p.1.map kV))/\RelV p.2 q.2.2
theorem KT.val{H:Hp}{a:List (List Lu×V)}{xs:List (List Lu×Addr×Value)}(r:KT H a xs)(k:List Lu):qM (Yb a k) ((atKey xs k).map (·.2)):=by
 induction r with
 | nil=>exact Ng
 | @cons p q j d h t g =>
  obtain ⟨f,_,i⟩:=h
  by_cases e:p.1=k
  ·have c:q.1=k:=f.symm.trans e
   have b:atKey (q::d) k=some q.2:=by simp [atKey,Me,c]
   rw[Wi e,b]; exact i
  ·have c:¬ q.1=k:=λz=>e (f.trans z)
   have b:atKey (q::d) k=atKey d k:=by simp [atKey,Me,c]
   rw[Wn e,b]; exact g
theorem KT.repl{H:Hp}{a:List (List Lu×V)}{xs:List (List Lu×Addr×Value)}(r:KT H a xs)(k:List Lu){y:V}{u:Value}(f:RelV y u):KT H (a.map λkv=>if kv.1=k then (kv.1,y) else kv) (xs.map (putAt k u)):=by
 induction r with
 | nil=>exact .nil
 | @cons p q i j h t d =>
  rw[Ax,Ax]
  refine .cons ?_ d
  obtain ⟨b,c,g⟩:=h
  unfold putAt
  by_cases e:p.1=k
  ·rw[if_pos e,if_pos (b.symm.trans e)]; exact ⟨b,c,f⟩
  ·rw[if_neg e,if_neg (λz=>e (b.trans z))]; exact ⟨b,c,g⟩
theorem KT.put{H:Hp}{a:List (List Lu×V)}{xs:List (List Lu×Addr×Value)}(r:KT H a xs)(k:List Lu){b:Addr}{y:V}{u:Value}(hb:H b=some (.tup (k.map kV)))(c:RelV y u):KT H (bA a k y) (storedH xs k b u):=by
 have e:(a.any λd=>decide (d.1=k))=(atKey xs k).isSome:=by
  rw[mU,(r.val k).isSome_eq,Option.isSome_map]
 unfold bA storedH
 rw[e]
 by_cases q:(atKey xs k).isSome=true
 ·rw[if_pos q,if_pos q]; exact r.repl k c
 ·rw[if_neg q,if_neg q]; exact Paired.snoc r ⟨rfl,hb,c⟩
theorem KT.keeps{H c:Hp}{a:List (List Lu×V)}{xs:List (List Lu×Addr×Value)}(r:KT H a xs)(d:∀b ys,H b=some (.tup ys)->c b=some (.tup ys)):KT c a xs :=
 Paired.mapP r λ_ _ z=>⟨z.1,d _ _ z.2.1,z.2.2⟩
section
variable{P:Bq}{w:World}{H:Hp}{h:Heap}{a:Addr}
theorem yZ{u:HO}(ok:Yd P w H h)(e:Rd H a u):Jn P w H h a u:=e.ok ok
theorem x8{b:List (Lu×V)}(ok:Yd P w H h)(e:Rd H a (.dK b)):b.length<=Bc/\(a == Pc)=false/\∃vs,KV b vs/\h.DictOf (Lb P w) a vs :=
 show Jn P w H h a (.dK b) from yZ ok e
theorem cE{ks:List Lu}(ok:Yd P w H h)(e:H a=some (.tup (ks.map kV))):(Up (Lb P w)).is h ks a:=by
 obtain ⟨_,b,r,o,c,d,n,f⟩:=(show Jn P w H h a (.tup (ks.map kV)) from ok a _ e)
 exact ⟨o,b.toArray,n,c,d,f,by simpa using fU r⟩
theorem E3{b:List (List Lu×V)}(ok:Yd P w H h)(e:Rd H a (.dT b)):b.length<=Bc/\(a == Pc)=false/\∃xs,KT H b xs/\h.DictOfH (Up (Lb P w)) a xs:=by
 obtain ⟨z,y,xs,r,o,f,g,n,i,k,j,s,v⟩:=(show Jn P w H h a (.dT b) from yZ ok e)
 refine ⟨z,y,xs,r,o,f,g,n,i,k,j,λx hx=>?_,s⟩
 have all:∀{l:List (List Lu×V)} {m:List (List Lu×Addr×Value)},KT H l m->∀x∈m,(Up (Lb P w)).is h x.1 x.2.1:=by
  intro l m q
  induction q with
  | nil=>intro x hx; exact nomatch hx
  | @cons p q u A c t d =>
   intro x hx
   rcases Ai.mp hx with e | hx
   ·subst e
    exact cE ok (by rw[<- c.1]; exact c.2.1)
   ·exact d x hx
 exact all r x hx
theorem BD{b:List (List Lu×V)}(ok:Yd P w H h)(e:Rd H a (.dT b)):b.length<=Bc/\(a == Pc)=false/\∃xs,KT H b xs/\Nd.DictE (Up (Lb P w)) h a xs:=by
 obtain ⟨z,y,xs,r,o,f,i,s,j,n,k,u,g⟩:=(show Jn P w H h a (.dT b) from yZ ok e)
 refine ⟨z,y,xs,r,o,f,i,s,j,n,k,λx hx=>?_,u,g⟩
 have all:∀{l:List (List Lu×V)} {m:List (List Lu×Addr×Value)},KT H l m->∀x∈m,(Up (Lb P w)).is h x.1 x.2.1:=by
  intro l m q
  induction q with
  | nil=>intro x hx; exact nomatch hx
  | @cons p q v A c t d =>
   intro x hx
   rcases Ai.mp hx with e | hx
   ·subst e
    exact cE ok (by rw[<- c.1]; exact c.2.1)
   ·exact d x hx
 exact all r x hx
end
def nI(H:Hp)(a:Addr)(y:V)(r:Option V):Prop :=
 (∃c k,Rd H a (.dK c)/\y=kV k/\r=Yb c k)\/∃c k b,Rd H a (.dT c)/\y=.ref b/\H b=some (.tup (k.map kV))/\r=Yb c k
theorem nI.t{H:Hp}{a b:Addr}{c:List (List Lu×V)}{k:List Lu}(e:H a=some (.dT c))(d:H b=some (.tup (k.map kV))):nI H a (.ref b) (Yb c k):=.inr ⟨c,k,b,.inl e,rfl,d,rfl⟩
section
variable{X:Cx}{c:List (Addr×Obj)}{d:St}{H:Hp}{s:Al}{a:Addr}{y v:V}{u r:Value}{o:Option V}{A:Df}{E:Value->Al->Prop}
theorem Inv.big(I:Inv X c d H s):Pc<s.heap.objs.size:=by
 have h:Cq<s.heap.objs.size:=(I.mod.glob.keeps I.bk).lt
 exact aN (by decide) h
theorem vN{Q:Value->Al->Prop}(G:A.units+1<cLine)(I:Inv X c d H s)(g:nI H a y (some v))(x:RelV y u)(h:∀j s',Inv X c d H s'->RelV v j->Q j s'):wpAny (model X.prog X.w) A (Sz (.ref a) u) Q E s:=by
 rcases g with ⟨q,k,e,n,l⟩ | ⟨q,k,b,e,n,C,l⟩
 ·subst n
  obtain ⟨z,B,vs,f,t⟩:=x8 I.hok e
  obtain ⟨j,r,i⟩:=qM.some_of (v:=v) (o:=valueAt vs k) (by rw[l]; exact f.val k)
  exact wpAny_getItem_of (r9 x) t.mapOf r (h j _ (I.tok _) i)
 ·subst n
  cases (show u=Bd b from x)
  obtain ⟨z,B,D,f,t⟩:=E3 I.hok e
  obtain ⟨j,r,i⟩:=qM.some_of (v:=v) (o:=(atKey D k).map (·.2)) (by rw[l]; exact f.val k)
  obtain ⟨p,F,m⟩:=Option.map_eq_some_iff.mp r
  refine wpAny_getItem_heap (tupleKind_room_in1 G) (cE I.hok C) t F ?_
  rw[m]
  exact h j _ (I.tok _) i
theorem JM{Q:Value->Al->Prop}(t:A.units+1<cLine)(I:Inv X c d H s)(g:nI H a y o)(p:RelV y u)(h:∀s',Inv X c d H s'->Q (.bool o.isSome) s'):wpAny (model X.prog X.w) A (Hv .In u (.ref a)) Q E s:=by
 rcases g with ⟨m,k,e,i,l⟩ | ⟨m,k,b,e,i,r,l⟩
 ·subst i
  obtain ⟨z,j,vs,f,n⟩:=x8 I.hok e
  refine wpAny_in_of (r9 p) j n.mapOf ?_
  rw[<- (f.val k).isSome_eq,<- l]
  exact h _ (I.tok _)
 ·subst i
  cases (show u=Bd b from p)
  obtain ⟨z,j,v,f,n⟩:=E3 I.hok e
  refine wpAny_in_heap (tupleKind_room_in1 t) (cE I.hok r) j n ?_
  have q:=(f.val k).isSome_eq
  rw[Option.isSome_map] at q
  rw[<- q,<- l]
  exact h _ (I.tok _)
theorem N0{h':Heap}{t':Nat}{g:HO}(I:Inv X c d H s)(j:IP (H a))(i:Jf a s.heap h')(h:∃q,h'.get? a=some q)(f:Jn X.prog X.w (upd H a g) h' a g):Inv X c d (upd H a g) { s with heap:=h',toks:=t' } :=
 I.write (x:=a) (e:=a) j (.inl rfl) (λb q k z=>(i.2 b k).trans z) h f
end
def EO(i:Expr):Prop:=∀b a,subscripted i false b a=operate [b,a] (Sz b a)
theorem Q9{prog:Bq}{w:World}{A:Df}{E:Value->Al->Prop}{s:Al}{env:Env}{b a:Expr}{pos:Pos}{T id:String}{Q:Value->Al->Prop}(hl:typeLookup (.type T) "__getitem__" = pure (some (.builtin id)))(m:EO a)(h:wpAny (model prog w) A (eval b env) (λo e=>wpAny (model prog w) A (eval a env) (λi c=>c.TypeIs o T/\wpAny (model prog w) A (Sz o i) Q E c) E e) E s):wpAny (model prog w) A (eval (.Subscript b a pos) env) Q E s:=by
 refine Subscript_ (Co h (λo e j=>Co j (λi c d=>?_) λ_ _ x=>x) λ_ _ x=>x)
 obtain ⟨l,d⟩:=d
 unfold subscriptTail
 refine Ag ?_
 rw[getitemInPython_of_ne l.not_modules]
 refine Ag (wpAny_specialOf l hl ?_)
 have g:wpAny (model prog w) A (subscripted a false o i) (λr f=>wpAny (model prog w) A (letTemporaryGo b o r >>= λ_=>pure r) Q E f) E c:=by
  rw[m o i]
  exact wpAny_operating (Co d (λr f k=>Ag (wpAny_letTemporaryGo (Aw k))) λ_ _ x=>x)
 first
  | exact Aw (Ag g)
  | exact Ag (Aw (Ag g))
  | exact Ag g
theorem mC{X:Cx}{c:List (Addr×Obj)}{h:St}{H:Hp}{s:Al}{a:Addr}{y:V}{o:Option V}(I:Inv X c h H s)(g:nI H a y o):s.TypeIs (.ref a) "dict" := by
 rcases g with ⟨d,k,e,_,_⟩ | ⟨d,k,b,e,_,_,_⟩
 ·obtain ⟨_,_,vs,_,f⟩:=x8 I.hok e
  exact f.typeIs
 ·obtain ⟨_,_,i,_,f⟩:=E3 I.hok e
  exact f.typeIs
def HF(f e:TE):TE:=λb H Q=>f b H λx d=>e b d λy c=>∃a v,x=.ref a/\nI c a y (some v)/\Q v c
def JN(e f:TE):TE:=λb H Q=>e b H λy d=>f b d λx c=>∃a o,x=.ref a/\nI c a y o/\Q (.bl o.isSome) c
section
variable{X:Cx}{o i e d:Expr}{pos f j:Pos}{c b k:TE}
theorem Q1(n:X.A.units+1<cLine)(C:PE X o c)(l:PE X i b)(E:EO i):PE X (.Subscript o i pos) (HF c b):=by
 intro d s k H Q I h
 refine Q9 PySem.F.slot_dict_getitem.lookup E (Gk (C d s k H _ I h) λu G ⟨x,z,B,q,r⟩=>Gk (l d G k z _ B r) λK L e => ?_)
 obtain ⟨y,D,j,p,a,v,t,g,m⟩ := e
 subst t
 obtain rfl:u=Bd a:=q
 exact ⟨mC j g,vN n j g p λM J w f=>⟨v,D,w,f,m⟩⟩
theorem CO(m:X.A.units+1<cLine)(j:PE X i b)(B:PE X o c):PC X .In i o (JN b c):=by
 intro d s f H Q I h
 refine Gk (j d s f H _ I h) λG D ⟨y,w,z,n,r⟩=>Gk (B d D f w _ z r) λu F e => ?_
 obtain ⟨x,C,q,p,a,k,t,g,l⟩ := e
 subst t
 obtain rfl:u=Bd a:=p
 exact JM m q g n λE v=>⟨.bl k.isSome,C,v,rfl,l⟩
end
theorem J4{P:Bq}{w:World}{H:Hp}(h:Heap)(hb:Pc<h.objs.size):Jn P w H (h.push { cls:=.type "dict",data:=.dict #[] }) h.objs.size (.dT []) :=
 ⟨Dh _,beq_eq_false_iff_ne.mpr (Oh (Da hb)),[],.nil,_,#[],0,Bs _ rfl,⟨rfl,rfl,rfl⟩,rfl,rfl,Dl,rfl⟩
structure M1(X:Cx)(o:Expr)(m:Str)(apos:Pos)(e:Expr)(cpos:Pos):Prop where
 base:Iy o m X.env (eval o X.env)=eval o X.env
 few:((Gh cpos (Be [e] X.env)).all (λx=>!x.1) && (Pt cpos (Ko [] X.env)).all (λx=>x.1.isSome)
  && decide (([e]:List Expr).length+([]:List Je).length+(if ([]:List Je).isEmpty then 0 else 1)<30))=true
 line:(apos.endLine == cpos.line)=true
 trees:Gh cpos (Be [e] X.env)=[(false,eval e X.env)]
structure M2(X:Cx)(o:Expr)(m:Str)(apos:Pos)(e f:Expr)(cpos:Pos):Prop where
 base:Iy o m X.env (eval o X.env)=eval o X.env
 few:((Gh cpos (Be [e,f] X.env)).all (λx=>!x.1) && (Pt cpos (Ko [] X.env)).all (λx=>x.1.isSome)
  && decide (([e,f]:List Expr).length+([]:List Je).length+(if ([]:List Je).isEmpty then 0 else 1)<30))=true
 line:(apos.endLine == cpos.line)=true
 trees:Gh cpos (Be [e,f] X.env)=[(false,eval e X.env),(false,eval f X.env)]
end L2
namespace Nd
open PySem PySem.Spec PyProof.Rows L2
end Nd
namespace DL
open PySem PySem.Spec PyProof.Rows L2 Nd
def Sb(ks:List (List Int×Ae))(w:List Int):Option Ae:=(ks.find? λp=>decide (p.1=w)).map (·.2)
def fK(ks:List (List Int×Ae))(w:List Int)(d:Ae):List (List Int×Ae) :=
 if (ks.any λp=>decide (p.1=w))=true then ks.map (λp=>if p.1=w then (p.1,d) else p) else ks++[(w,d)]
theorem Vu{c i:Type}{f:c->i}(d:∀a b,f a=f b->a=b):∀{l m:List c},l.map f=m.map f->l=m
 | [],[],_=>rfl
 | [],_::_,h=>by cases h
 | _::_,[],h=>by cases h
 | a::l,b::m,h=>by
  obtain ⟨g,e⟩:=Hh h
  rw[d a b g,Vu d e]
theorem Qp{a b:List Int}(h:Bt a=Bt b):a=b:=Vu (λx y e=>by cases e; rfl) (PyData.tuple.inj h)
theorem aB{a b:List (List Int×Ae)}(h:kW a=kW b):a=b:=Vu (λx y e=>by
 obtain ⟨d,c⟩:=Prod.mk.inj e
 exact Prod.ext (Qp d) c) (Hh h).2
theorem bE{a b:List Int}(h:Mm a=Mm b):a=b:=Vu (λx y e=>by cases e; rfl) h
theorem uY(w:List Int):(Mm w).map kV=w.map V.int:=by
 unfold Mm
 rw[Dj]
 rfl
section
variable{K:PySem.W.Frag}{H b:Hp}
structure DRel(K:PySem.W.Frag)(H:Hp)(kv:List (List Lu×V))(ks:List (List Int×Ae)):Prop where
 key:kv.map (·.1)=ks.map λp=>Mm p.1
 val:RdFs K H (kv.map (·.2)) (ks.map (·.2)) []
theorem RdF.dict_inv{v:V}{X:List (Ae×Ae)}{F:List Addr}(h:RdF K H v (.dict X) F)(c:KI X=true:=by first | rfl | assumption):∃a kv ks,v=.ref a/\X=kW ks/\H a=some (.dT kv)/\DRel K H kv ks/\F=[a]:=by
 cases h with
 | dic h e b=>exact ⟨_,_,_,rfl,rfl,h,⟨e,b⟩,rfl⟩
 | dik h e b=>cases c
 | dnm h e b=>cases c
theorem RdFs.cons_nil{x:V}{d:Ae}{xs:List V}{b:List Ae}{F:List Addr}(h:RdFs K H (x::xs) (d::b) F)(c:F=[]):RdF K H x d []/\RdFs K H xs b []:=by
 cases h with
 | cons a t =>
  obtain ⟨rfl,rfl⟩:=sL.mp c
  exact ⟨a,t⟩
theorem A8{kv:List (List Lu×V)}{ks:List (List Int×Ae)}(r:DRel K H kv ks):kv.length=ks.length:=by
 have:=congrArg Fh r.key
 simpa using this
theorem bS(w:List Int):∀{kv:List (List Lu×V)} {ks:List (List Int×Ae)},DRel K H kv ks->(Yb kv (Mm w)=none/\Sb ks w=none)\/∃v d,Yb kv (Mm w)=some v/\Sb ks w=some d/\RdF K H v d []
 | [],[],_=>.inl ⟨rfl,rfl⟩
 | [],_::_,r=>by cases r.key
 | _::_,[],r=>by cases r.key
 | (k,v)::kv,(u,d)::ks,r=>by
  obtain ⟨a,c⟩:=Hh r.key
  have a:k=Mm u:=a
  obtain ⟨f,b⟩:=RdFs.cons_nil r.val rfl
  by_cases h:u=w
  ·subst h a
   refine .inr ⟨v,d,Wi rfl,by simp [Sb],f⟩
  ·have e:¬ k=Mm w:=λz=>h (bE (a.symm.trans z))
   rw[Wn e,show Sb ((u,d)::ks) w=Sb ks w by simp [Sb,h]]
   exact bS w ⟨c,b⟩
theorem I0(w:List Int){kv:List (List Lu×V)}{ks:List (List Int×Ae)}(r:DRel K H kv ks):(kv.any λp=>decide (p.1=Mm w))=(ks.any λp=>decide (p.1=w)):=by
 have a:(kv.any λp=>decide (p.1=Mm w))=((kv.map (·.1)).any λk=>decide (k=Mm w)):=by rw[Zq]; rfl
 rw[a,r.key,Zq]
 congr 1
 funext p
 exact decide_eq_decide.mpr ⟨λz=>bE z,λz=>by show Mm p.1=Mm w; rw[z]⟩
theorem gR(w:List Int){v:V}{d:Ae}(c:RdF K H v d []):∀{kv:List (List Lu×V)} {ks:List (List Int×Ae)},DRel K H kv ks->DRel K H (kv.map λp=>if p.1=Mm w then (p.1,v) else p) (ks.map λp=>if p.1=w then (p.1,d) else p)
 | [],[],r=>r
 | [],_::_,r=>by cases r.key
 | _::_,[],r=>by cases r.key
 | (k,v')::kv,(u,d')::ks,r=>by
  obtain ⟨a,f⟩:=Hh r.key
  have a:k=Mm u:=a
  obtain ⟨i,e⟩:=RdFs.cons_nil r.val rfl
  have b:=gR w c (kv:=kv) (ks:=ks) ⟨f,e⟩
  rw[Ax,Ax]
  by_cases h:u=w
  ·rw[if_pos (show k=Mm w by rw[a,h]),if_pos h]
   exact ⟨by rw[Ax,Ax,b.key]; exact congrArg (·::_) a,RdFs.cons (F:=[]) (G:=[]) c b.val⟩
  ·have g:¬ k=Mm w:=λz=>h (bE (a.symm.trans z))
   rw[if_neg (show ¬ (k,v').1=Mm w from g),if_neg (show ¬ (u,d').1=w from h)]
   exact ⟨by rw[Ax,Ax,b.key]; exact congrArg (·::_) a,RdFs.cons (F:=[]) (G:=[]) i b.val⟩
theorem n4(w:List Int){v:V}{d:Ae}(a:RdF K H v d []){kv:List (List Lu×V)}{ks:List (List Int×Ae)}(r:DRel K H kv ks):DRel K H (bA kv (Mm w) v) (fK ks w d):=by
 unfold bA fK
 rw[I0 w r]
 split
 ·exact gR w a r
 ·refine ⟨by rw[Bb,Bb,r.key]; rfl,?_⟩
  rw[Bb,Bb]
  exact r.val.snoc a
theorem DRel.kp{kv:List (List Lu×V)}{ks:List (List Int×Ae)}(r:DRel K H kv ks)(k:Kp [] H b):DRel K b kv ks:=⟨r.key,r.val.kp k⟩
end
def FG:R2:=λx y H Q=>∃a v,x=.ref a/\nI H a y (some v)/\Q v H
def HH(b:Bool):R2:=λy x H Q=>∃a o,x=.ref a/\nI H a y o/\Q (.bl (match b with | true=>!o.isSome | false=>o.isSome)) H
def kO:D2:=λx y P=>match x,y with
 | .dat _ (.dict X),.dat _ k=>∃a w d,X=kW a/\k=Bt w/\Sb a w=some d/\P (.dat .ow d)
 | _,_=>False
def sU(b:Bool):D2:=λy x P=>match y,x with
 | .dat _ k,.dat _ (.dict X)=>∃a w,X=kW a/\k=Bt w/\P (.dat .ow (.bool (match b with | true=>!(Sb a w).isSome | false=>(Sb a w).isSome)))
 | _,_=>False
section
variable{K:PySem.W.Frag}
theorem word_at{H:Hp}{v:V}{w:List Int}{F:List Addr}(r:RdF K H v (Bt w) F):∃b,v=.ref b/\H b=some (.tup ((Mm w).map kV)):=by
 obtain ⟨b,d,rfl,c,a,_⟩:=r.tup_inv
 obtain ⟨rfl,_⟩:=a.ints_inv
 exact ⟨b,rfl,by rw[uY]; exact c⟩
theorem P6:kZ K FG kO:=by
 intro s X n S T x y v w F G H Q P f c k
 unfold kO at c
 split at c
 ·obtain ⟨A,u,d,rfl,rfl,e,p⟩:=c
  obtain ⟨b,rfl,r⟩:=word_at (f.told mem_mid)
  obtain ⟨a,B,q,rfl,i,h,g,_⟩:=(f.told Fc).dict_inv
  obtain rfl:=aB i
  rcases bS u g with ⟨_,z⟩ | ⟨m,C,o,j,l⟩
  ·rw[z] at e; cases e
  ·rw[j] at e; cases e
   exact ⟨a,m,rfl,o▸nI.t h r,k _ _ [] H (f.drop2.pushI l) p⟩
 ·exact c.elim
theorem CQ{e:Bool}:kZ K (HH e) (sU e):=by
 intro o X n S T x y v w F G H Q P d c k
 unfold sU at c
 split at c
 ·obtain ⟨r,u,rfl,rfl,p⟩:=c
  obtain ⟨b,rfl,m⟩:=word_at (d.told Fc)
  obtain ⟨a,s,l,rfl,j,i,h,_⟩:=(d.told mem_mid).dict_inv
  obtain rfl:=aB j
  refine ⟨a,_,rfl,nI.t i m,?_⟩
  rcases bS u h with ⟨g,f⟩ | ⟨A,z,g,f,q⟩
  ·rw[g]
   rw[f] at p
   cases e <;> exact k _ _ [] H (d.drop2.pushI (.bl _)) p
  ·rw[g]
   rw[f] at p
   cases e <;> exact k _ _ [] H (d.drop2.pushI (.bl _)) p
 ·exact c.elim
end
section
variable{X:Cx}{a b:Expr}{c d:DE}{pos:Pos}
theorem KU{n:Nat}(a:n+64<cLine):n+1<cLine:=by omega
theorem L1(g:X.A.units+64<cLine)(f:Fi X a c)(hb:Fi X b d)(e:EO b:=by intro _ _; rfl):Fi X (.Subscript a b pos) (Ve kO c d):=PE.imp (Q1 (KU g) f hb e) (op_le P6)
theorem BS(i:X.A.units+64<cLine)(f:Fi X a c)(hb:Fi X b d)(g:Gg .In b=false:=by with_unfolding_all rfl):Zi X (.Compare a [.In] [b] pos) (dB (Ve (sU false) c d)):=PT.imp (BW (CO (KU i) f hb) g) λe H Q h=>op_le (r:=HH false) CQ _ _ _ (AO e H Q h)
end
def MB(i:Nat)(y z:DV)(a:DS)(D:DEnds):Prop:=match a.sl[i]?,y,z with
 | some (.dat .ow (.dict X)),.dat _ e,.dat _ k=>npk a.sl=true/\imm e=true/\∃b w,X=kW b/\k=Bt w/\b.length<1000000/\D.nx ⟨a.sl.set i (.dat .ow (.dict (kW (fK b w e)))),a.n⟩
 | _,_,_=>False
def MP(i:Nat)(z:DV)(a:DS)(D:DEnds):Prop:=match a.sl[i]?,z with
 | some (.dat m (.list ds)),.dat _ (.int k)=>own1 m=true/\npk a.sl=true/\Dz ds=true/\0<=k/\k<ds.length/\k<=1000000/\D.nx ⟨a.sl.set i (.dat m (.list (ds.eraseIdx k.toNat))),a.n⟩
 | _,_=>False
def isLst:Option DV->Bool
 | some (.dat _ (.list _))=>true
 | _=>false
theorem RdFs.erase{K:PySem.W.Frag}{H:Hp}{xs:List V}{a:List Ae}(j:Nat)(r:RdFs K H xs a []):RdFs K H (xs.eraseIdx j) (a.eraseIdx j) []:=by
 rw[aO,aO]
 obtain ⟨g,c,d⟩:=r.take j
 obtain ⟨f,b,e⟩:=r.drop (j+1)
 obtain rfl:=dS.mp d
 obtain rfl:=dS.mp e
 exact c.app b
def X7:V->Int
 | .int i=>i
 | _=>0
def FA(H:Hp)(r:Addr):List Int:=match H r with
 | some (.tup xs)=>xs.map X7
 | _=>[]
theorem CT{H:Hp}{r:Addr}{w:List Int}(h:H r=some (.tup (w.map V.int))):FA H r=w:=by
 unfold FA
 rw[h]
 show (w.map V.int).map X7=w
 rw[Dj]
 exact List.map_id' w
section
variable{K:PySem.W.Frag}{H:Hp}
theorem lH:∀{ws:List (List Int)} {xs:List V} {d:List Ae} {G:List Addr},RdFs K H xs d G->d=ws.map Bt->∃rs:List Addr,xs=rs.map V.ref/\ws=rs.map (FA H)/\G=[]/\(∀r∈rs,H r=some (.tup ((FA H r).map V.int)))/\∀r∈rs,RdF K H (.ref r) (Bt (FA H r)) []
 | [],_,_,_,h,e=>by
  subst e
  cases h
  exact ⟨[],rfl,rfl,rfl,(λ_ z=>nomatch z),(λ_ z=>nomatch z)⟩
 | w::ws,_,_,_,h,e=>by
  cases h with
  | nil=>cases e
  | cons a t =>
   obtain ⟨f,g⟩:=Hh e
   obtain ⟨rs,rfl,rfl,rfl,j,i⟩:=lH t g
   subst f
   obtain ⟨r,rfl,c⟩:=word_at a
   rw[uY] at c
   have b:=CT c
   obtain rfl:=a.imm (show imm (Bt w)=true from Sq w)
   refine ⟨r::rs,rfl,by rw[Ax,b],rfl,λx hx=>?_,λx hx=>?_⟩
   ·rcases Ai.mp hx with rfl | hx
    ·rw[b]; exact c
    ·exact j x hx
   ·rcases Ai.mp hx with rfl | hx
    ·rw[b]; exact a
    ·exact i x hx
end
end DL
namespace Nd
open PySem PySem.Spec PyProof.Rows L2
section
variable{prog:Bq}{w:World}{A:Df}{R:Result->Al->Prop}{s:Al}
theorem lD{q i e d:Expr}{b:List Expr}{a:Scope}{pos:Pos}{it:Value}{D:Addr}{env:Env}(J:Nat->Al->Prop) (turn:∀n s,J n s->wpAny (model prog w) A (Yx it) (λr g=>match r with
    | none=>R (.ok .next) g
    | some v=>wpAny (model prog w) A (Ie e it v) (λ_ l=>wpAny (model prog w) A (Kv e env v) (λ_ j =>
      wpAny (model prog w) A (forIn b true λc r=>if r=true then (do
        let ok <- isTrue c env (eval c env)
        pure (Fl ok)) else pure (Fl r)) (λok f =>
       if ok=true then
        wpAny (model prog w) A (eval q env) (λk t=>wpAny (model prog w) A (eval i env) (λy o=>wpAny (model prog w) A (dictSet D k y) (λ_ x=>∃m,m<n/\J m x) (λ_ _=>False) o) (λ_ _=>False) t) (λ_ _=>False) f
       else ∃m,m<n/\J m f) (λ_ _=>False) j) (λ_ _=>False) l) (λ_ _=>False) g) (λ_ _=>False) s)
  (n:Nat) (h:J n s):Iu (model prog w) A (.compLoop (.DictComp q i [⟨e,d,b,0⟩] a pos) 0 it (.ref D) env) R s:=by
 refine iC rfl J (λn s E=>wpAny_noted ?_) n h
 rw[compTurn_dict]
 refine Ag (He (Ag (Co (turn n s E) (λr g u=>?_) λ_ _ z=>z.elim)))
 cases r with
 | none=>exact Aw u
 | some v =>
  refine Ag (Co u (λ_ l G=>Ag (Co G (λ_ j H=>Ag (Co H (λok f p=>?_) λ_ _ z=>z.elim)) λ_ _ z=>z.elim)) λ_ _ z=>z.elim)
  cases ok with
  | false=>exact Aw ⟨rfl,p⟩
  | true =>
   refine Ag (Ag (Co p (λk t C=>Ag (Eg (Co C (λy o B=>?_) λ_ _ z=>z.elim))) λ_ _ z=>z.elim))
   exact Ag (He (Eg (Co B (λ_ x F=>Aw ⟨rfl,F⟩) λ_ _ z=>z.elim)))
end
section
variable{X:Cx}{f:List (Addr×Obj)}{g:L2.St}{H:Hp}{s:Al}{a b:Addr}{v:V}{r:Value}{A:Df}{E:Value->Al->Prop}{d:List (List Lu×V)}{k:List Lu}
theorem xO{Q:Unit->Al->Prop}(x:A.units+1<cLine)(I:Inv X f g H s)(e:H a=some (.dT d))(m:H b=some (.tup (k.map kV)))(l:d.length<Bc)(p:RelV v r)(h:∀s',Inv X f g (upd H a (.dT (bA d k v))) s'->Q () s'):wpAny (model X.prog X.w) A (dictSet a (.ref b) r) Q E s:=by
 obtain ⟨z,F,y,i,u⟩:=BD I.hok (.inl e)
 have hz:y.length<=Bc:=by rw[<- Paired.length i]; exact z
 have C:(bA d k v).length<=Bc:=by have:=oF d k v; omega
 refine E8 (hz:=hz) (show (Up _).room A from Nat.lt_of_succ_lt x) (cE I.hok m) u λN j K=>h _ ?_
 obtain ⟨q,G,D,o,J,L,B,_,t⟩:=j
 refine N0 I (by rw[e]; exact Ng) K ⟨q,o⟩ ⟨C,F,_,(i.put k m p).keeps λc M n=>(Ef (Y9 n e (λz=>nomatch z))).trans n,q,G,D,o,J,L,B,t⟩
end
section
variable{X:Cx}
def N4(K:PySem.W.Frag)(J:It)(o:List Nat)(u:TT)(w v:TE)(l:L2.St)(p:Hp)(Q:VK):Prop:=∀D,p D=none->∃W:Nat->Nat->Hp->Prop,(∃m,W 0 m (upd p D (.dT [])))/\∀i m H,W i m H ->
 (J.stop i H/\Q (.ref D) H)\/(J.go i H/\∀x n,J.yld i H x n->∃(t:Addr) (h g:V),x=.ref t/\Tz K n t [h,g]/\∃(s:Hp->Prop) (q:V->VK),(∀e,s e->∃f,f<m/\W (i+1) f e) /\
  (∀j r d,q j r d->∃a k b,d D=some (.dT a)/\j=.ref b/\d b=some (.tup (k.map kV))/\a.length<Bc/\∃f,f<m/\W (i+1) f (upd d D (.dT (bA a k r)))) /\
  u (some h::some g::Ei l o) n λc e=>if c=true then w (some h::some g::Ei l o) e (λj d=>v (some h::some g::Ei l o) d (q j)) else s e)
def tG(K:PySem.W.Frag)(b:TI)(g:List Nat)(d:TT)(f e:TE):TE:=λa H Q=>b a H λJ c=>N4 K J g d f e a c Q
theorem xT{kx vx f:Expr}{x g:Str}{px t pt pos:Pos}{kt:Nat}{M:List Expr}{a:Scope}{cl:List (Str×Addr)}{ys:List Str}{N:List Nat}{wi:TI}{tc:TT}{tk tv:TE}(C:CompScope X a cl x ys N)(L:mN a g)(V:(x::g::ys).Nodup)(hc:X.calm=true)(hu:X.A.units+1<cLine)(hi:PI X (.Tuple [.Name x px,.Name g t] kt pt) f wi)(ht:∀fp s H,pA (Dg X a cl (x::g::ys) fp s H) M tc)(hk:∀fp s H,PE (Dg X a cl (x::g::ys) fp s H) kx tk)(hv:∀fp s H,PE (Dg X a cl (x::g::ys) fp s H) vx tv)(hs:∀x,Cw f X.env x=pure x:=by intro _; rfl):PE X (.DictComp kx vx [⟨.Tuple [.Name x px,.Name g t] kt pt,f,M,0⟩] a pos) (tG X.K wi N tc tk tv):=by
 intro k s F H Q I h
 rw[arm_eval_DictComp]
 show wpAny _ _ (dR _ a X.env _ newDict false (eval f X.env) none) _ _ s
 refine Jv (use:=none) rfl hs C.clos C.kind C.locs (Gk (hi k s F H _ I h) λv s1 h1=>Gk h1 λx4 d h2=>?_)
 obtain ⟨it,fp,tn,J,G,e,I2,T,q6,f2,q2⟩:=h2
 subst e
 have fD:G d.heap.objs.size=none:=I2.hok.fresh (Aj _)
 obtain ⟨W,⟨m0,w0⟩,k3⟩:=q2 d.heap.objs.size fD
 refine Hf ?_
 have I3:Inv X k F (upd G d.heap.objs.size (.dT [])) { d with heap:=d.heap.push { cls:=.type "dict",data:=.dict #[] } } :=
  I2.laid (t':=d.toks) (λb u q=>Av _ q) (Aj _) (J4 d.heap I2.big)
 obtain ⟨f3,k4,q0⟩:=Sv I2 T q6 f2 I3
 generalize h0:({ d with heap:=d.heap.push { cls:=.type "dict",data:=.dict #[] } }:Al)=s3 at I3
 have Re:tn 0 s3.heap:=by rw[<- h0]; exact k4
 have o3:∀b∈fp,∃o,s3.heap.get? b=some o:=by rw[<- h0]; exact q0
 show wpAny _ _ (Ma a X.env.globals cl [] X.env.qual none .none (some X.env)) _ _ _
 refine Ql C λh4 k1 p k2=>?_
 have I4:∀tk,Inv (Dg X a cl (x::g::ys) fp s3 (upd G d.heap.objs.size (.dT []))) [] (none::none::Ei F N) (upd G d.heap.objs.size (.dT [])) { s3 with heap:=h4,toks:=tk }:=λtk=>Oz (pre:=[x,g]) C I3 f3 o3 k1 p k2
 have Z:tn 0 h4:=T.keep 0 _ _ Re λb D o q=>p b o q
 generalize z:Dg X a cl (x::g::ys) fp s3 (upd G d.heap.objs.size (.dT []))=X' at I4
 obtain ⟨eP,eW,eK,eA,eC⟩:=Sh hc z
 have l:∀{j:Hp},(∀b∈fp,j b=none)->∀b∈fp,My X' [] j b:=λ{j} hn=>Qq z (I4 0) hn
 have E:∀s5:Al,s5={ s3 with heap:=h4,toks:=s3.toks+([]:List (Str×Value)).length } ->
   Iu (model X.prog X.w) X.A (.compLoop (.DictComp kx vx [⟨.Tuple [.Name x px,.Name g t] kt pt,f,M,0⟩] a pos) 0 (.ref it) (.ref d.heap.objs.size) (Ur a (Et (s3.heap.objs.size+1) a.names cl) s3.heap.objs.size X.env))
    (compPost (model X.prog X.w) X.A X.xe none (EP X k F Q) (.ref d.heap.objs.size) s3.heap.objs.size) s5:=by
  rintro s5 rfl
  refine lD (λn s'=>∃i o o2 j,Inv X' [] (o::o2::Ei F N) j s'/\tn i s'.heap/\(∀b∈fp,j b=none)/\W i n j) ?_ m0
   ⟨0,none,none,_,I4 _,Z,λb D=>(f3 b D).1,w0⟩
  (intro n s6 q_; obtain ⟨i,o,o2,H6,I6,h9,S,w6⟩ := q_)
  rcases k3 i n H6 w6 with ⟨h3,qn⟩ | ⟨go,step⟩
  ·have hd:=T.done X' eP eW eK eC i [] s6 _ H6 (λ_ _=>False) I6 (l S) h9 h3
   rw[eA] at hd
   refine Gk hd λr s7 c => ?_
   obtain ⟨hr,I7⟩ := c
   subst hr
   obtain ⟨m7,j3,k0⟩:=bU z I3 f3 I7
   exact ⟨m7,j3,λh8 k6=>⟨.ref d.heap.objs.size,H6,k0 h8 k6,rfl,qn⟩⟩
  ·have h5:=T.item X' eP eW eK eC i [] s6 _ H6 (λ_ _=>False) I6 (l S) h9 go
   rw[eA] at h5
   refine Gk h5 λr s7 c => ?_
   obtain ⟨u,hr,h7⟩ := c
   subst hr
   refine Gk h7 λ_ s8 c => ?_
   obtain ⟨y,H8,I8,r8,y8,O,j4⟩ := c
   have q4:=I8.pinned (l j4) (T.obj _ _ O)
   obtain ⟨tp,w1,w2,ey,j7,N1,N2,q8,j0,k7⟩:=step y H8 y8
   have again:∀{Y:Hp} {P:Al} {R:Nat},Inv X' ([]++On fp s8.heap) (some w1::some w2::Ei F N) Y P->R<n->W (i+1) R Y->∃m,m<n/\∃i o o2 j,Inv X' [] (o::o2::Ei F N) j P/\tn i P.heap/\(∀b∈fp,j b=none)/\W i m j:=λ{Y P R} I9 U w9=>by
    refine ⟨R,U,i+1,some w1,some w2,Y,I9.unpinned,T.keep _ _ _ O λb D o e=>(I9.pin (b,o) (Af _ (Af _ (Gr D e)))).1,λb D=>?_,w9⟩
    obtain ⟨o,e,_⟩:=T.obj _ _ O b D
    exact (I9.pin (b,o) (Af _ (Af _ (Gr D e)))).2.1
   subst z
   have g1:PG (Dg X a cl (x::g::ys) fp s3 (upd G d.heap.objs.size (.dT []))) (.Tuple [.Name x px,.Name g t] kt pt) (BC X.K 2 (lZ (Rr 0) (lZ (Rr 1) DN))) :=
    qA (X:=Dg X a cl (x::g::ys) fp s3 (upd G d.heap.objs.size (.dT []))) hc (Rz (La (i:=0) (x:=x) V rfl (Pp C.own) (Si C.own)) (Rz (La (i:=1) (x:=g) V rfl (Pp L) (Si L)) iN))
   refine Gk (g1 _ s8 _ H8 y u (λk8 j=>k8=some w1::some w2::Ei F N/\j=H8) q4 r8 ⟨tp,[w1,w2],ey,j7,rfl,_,_,rfl,_,_,rfl,rfl,rfl,rfl⟩) λ_ P c => ?_
   obtain ⟨x7,Y,I9,e9,q3⟩ := c
   subst e9 q3
   refine Gk (ht fp s3 _ _ P _ _ _ I9 k7) λok q7 c => ?_
   obtain ⟨x5,h6,B⟩ := c
   cases ok with
   | false =>
    rw[if_neg Cg] at B ⊢
    obtain ⟨R,U,j8⟩:=q8 _ B
    exact again h6 U j8
   | true =>
    rw[if_pos rfl] at B ⊢
    refine Gk (hk fp s3 _ _ q7 _ _ _ h6 B) λzk j2 c => ?_
    obtain ⟨vk,x0,k9,q1,q9⟩ := c
    refine Gk (hv fp s3 _ _ j2 _ _ _ k9 q9) λzv x1 c => ?_
    obtain ⟨vv,j9,k5,j5,j6⟩ := c
    obtain ⟨x6,kk,b,ha,eb,D,hz,R,U,j1⟩:=j0 _ _ _ j6
    subst eb
    cases (show zk=Bd b from q1)
    exact xO (X:=Dg X a cl (x::g::ys) fp s3 (upd G d.heap.objs.size (.dT []))) (A:=X.A) hu k5 ha D hz j5 λx3 q5=>again q5 U j1
 exact codeAny_compStart_dict (E _ rfl) (T.self X.A 0 _ _ _ Z (E _ rfl))
end
end Nd
namespace DL
open PySem PySem.Spec PyProof.Rows L2 Nd
def LC(d:DE):DI:=λc P=>d c λx b=>match x with
 | .dat m (.dict X)=>∃a,X=kW a/\a.length<=1000000/\P (Ld m) (a.map λp=>Bt p.1) b
 | _=>False
def eO(ks:List (List Int×Ae)):List (List Lu×Ae):=ks.map λp=>(Mm p.1,p.2)
section
variable{K:PySem.W.Frag}{d H g:Hp}{X:Addr->Prop}{n:Nat}{E S T:List Ent}
theorem b0{kv:List (List Lu×V)}{ks:List (List Int×Ae)}(h1:kv.map (·.1)=(eO ks).map (·.1))(a:RdFs K H (kv.map (·.2)) ((eO ks).map (·.2)) []):DRel K H kv ks:=by
 unfold eO at h1 a
 rw[Dj] at h1 a
 exact ⟨h1,a⟩
theorem EV{kv:List (List Lu×V)}{ks:List (List Int×Ae)}(r:DRel K H kv ks):kv.map (·.1)=(eO ks).map (·.1)/\RdFs K H (kv.map (·.2)) ((eO ks).map (·.2)) []:=by
 unfold eO
 rw[Dj,Dj]
 exact ⟨r.key,r.val⟩
theorem At.dNew(h:At K d X n E H){D:Addr}(c:H D=Qg):At K d X n (⟨some (.ref D),.dT (eO []),[D]⟩::E) (upd H D (.dT [])):=by
 have g:=Fj c (.dT [])
 refine (h.grow (n':=n) g (Aj _)).push ⟨D,[],rfl,rfl,Di,rfl,.nil⟩ (λf i=>?_) λa b=>?_
 ·have e:=h.free c f i
  refine ⟨λ_ a b z=>?_,λ_ a b z=>?_⟩
  ·rw[Ac.mp b] at z
   exact e z
  ·rw[Ac.mp z] at b
   exact e (Gu _ _ b)
 ·rw[Ac.mp b]
  exact .inl (h.new0 c)
theorem At.dPut{D:Addr}{ks:List (List Int×Ae)}{w:List Int}{v:V}{e:Ae}(h:At K d X n (⟨some (.ref D),.dT (eO ks),[D]⟩::E) H)(r:RdF K H v e []):∃kv,H D=some (.dT kv)/\kv.length=ks.length/\At K d X n (⟨some (.ref D),.dT (eO (fK ks w e)),[D]⟩::E) (upd H D (.dT (bA kv (Mm w) v))):=by
 obtain ⟨a,kv,A,L,x,t,p⟩:=h.ok _ Aa
 have s:some (V.ref D)=some (V.ref a):=A
 cases s
 have j:=b0 t p
 have l:=Ay.mp h.sep
 have y:=h.sub (Ci _ _)
 have kp:∀{F:List Addr},D∉F->Kp F H (upd H D (.dT (bA kv (Mm w) v))):=λ{F} G b o q z=>by
  have : b≠D:=by
   rintro rfl
   rw[x] at q
   cases q
   rcases z with z | z
   ·exact G z
   ·rcases z with ⟨_,z⟩ | ⟨_,_,z⟩ <;> cases z
  rw[Ef this]
  exact q
 have m:d D=Qg:=by
  rcases h.new _ Aa D Aa with z | z
  ·exact z
  ·cases z.2
 have i:=(n4 w r j).kp (kp Bf)
 obtain ⟨B,C⟩:=EV i
 refine ⟨kv,x,A8 j,?_⟩
 refine ⟨λf hf=>?_,Ay.mpr ⟨λf hf=>⟨λu a g=>(l.1 f hf).1 u a g,λu a g=>(l.1 f hf).2 (u.imp id id) a g⟩,l.2⟩,λf hf=>?_,λb o I q=>?_,λb o q=>?_,λb J=>?_⟩
 rotate_right
 ·obtain ⟨z,c,k,f,t,p⟩:=h.xd b J
  refine ⟨z,c,k,f,(Ef ?_).trans t,p⟩
  rintro rfl
  exact z m
 ·rcases Ai.mp hf with rfl | hf
  ·exact ⟨D,_,rfl,rfl,Di,B,C⟩
  ·exact (y.ok f hf).kp (kp ((l.1 f hf).1 (.inr rfl) D Aa)) (Aj _)
 ·rcases Ai.mp hf with rfl | hf
  ·intro a g
   rw[Ac.mp g]
   exact .inl m
  ·exact y.new f hf
 ·rw[Ef (Fu q m)]
  exact h.same b o I q
 ·rw[Ef (Fu q m)]
  exact h.dom b o q
theorem At.dGot{D:Addr}{ks:List (List Int×Ae)}(h:At K d X n (⟨some (.ref D),.dT (eO ks),[D]⟩::E) H):At K d X n (⟨some (.ref D),.dat .ow (.dict (kW ks)),[D]⟩::E) H:=by
 obtain ⟨a,q,k,p,j,m,l⟩:=h.ok _ Aa
 have e:some (V.ref D)=some (V.ref a):=k
 cases e
 have c:=b0 m l
 have g:=Ay.mp h.sep
 refine (h.sub (Ci _ _)).push ⟨_,rfl,.dic j c.key c.val,λ_=>Bp.mpr ⟨Bf,Dl⟩,λz=>nomatch z⟩ (λf i=>⟨λo a b=>(g.1 f i).1 (.inr rfl) a b,λo a b=>(g.1 f i).2 (.inl rfl) a b⟩) λa b=>?_
 rcases h.new _ Aa a b with z | z
 ·exact .inl z
 ·cases z.2
end
def oK(a:List Int->Ae->Nat->Prop)(y z:DV)(b:DS):Prop:=match y,z with
 | .dat _ k,.dat _ e=>∃w,k=Bt w/\imm e=true/\a w e b.n
 | _,_=>False
def iR(g:DT)(f i:DE)(h:DS)(d:List Int->Ae->Nat->Prop)(j:Nat->Prop):Prop:=g h λc a=>match c with
 | true=>f a λy e=>i e λz b=>oK d y z b
 | false=>j a.n
def iZ(l:DI)(q:List Nat)(k:DT)(j p:DE):DE:=λo P=>l o λm f b=>f.length<=1000000/\∃I:Nat->List (List Int×Ae)->Nat->Prop,I 0 [] b.n /\
 (∀i d a n,f[i]? = some d->I i a n->∃g h,d=.tuple [g,h]/\iR k j p ⟨.dat m g::.dat m h::frD b.sl q,n⟩ (λw e c=>I (i+1) (fK a w e) c) (λc=>I (i+1) a c)) /\
 ∀a n,I f.length a n->P (.dat .ow (.dict (kW a))) ⟨b.sl,n⟩
theorem zU(ks:List (List Int×Ae))(w:List Int)(d:Ae):(fK ks w d).length<=ks.length+1:=by
 unfold fK
 split
 ·rw[Ab]; omega
 ·rw[Ar]; simp
section
variable{K:PySem.W.Frag}{f H g:Hp}{Y:Addr->Prop}{n:Nat}{E S T:List Ent}
theorem xK{di:DI}{A:List Nat}{dc:DT}{dk dv:DE}:∀σ H Q,LE K (iZ di A dc dk dv) σ H Q->tG K (LI K di) A (LT K dc) (LE K dk) (LE K dv) σ H Q:=by
 intro σ H Q h
 obtain ⟨f,Y,S,T,δ,P,rfl,hS,hA,hd,k⟩:=h
 refine ⟨f,Y,S,T,δ,_,rfl,hS,hA,hd,λm v L J l p H1 e1 e2 h9 it hz p1=>?_⟩
 obtain ⟨k7,I,h0,hs,hf⟩:=p1
 have k8:=Zg (n:=1000000) (Aj _)
 rw[<- e1]
 intro D hD
 refine ⟨λi q H=>q=v.length - i/\i<=v.length/\∃j n,At K f Y n (⟨some (.ref D),.dT (eO j),[D]⟩::(p++(l++T))) H/\j.length<=i/\I i j n,⟨v.length,by simp,Dh _,[],L.n,h9.dNew hD,Aj _,h0⟩,?_⟩
 (intro i q H q_; obtain ⟨rfl,hi,j,n,M,hl,hI⟩ := q_)
 have o:∀e∈l,Ii K H n e:=λe he=>M.ok e (Ad _ (Af _ (Ah _ he)))
 by_cases u:i<v.length
 ·refine .inr ⟨it.go H n i o u,λx g y=>?_⟩
  obtain ⟨s1,d,F,h1,h2,h3⟩:=it.yld H n i x g o u y
  obtain ⟨B,U,rfl,k0⟩:=hs i d j n h1 hI
  obtain ⟨t,xs,rfl,ht,rt,_⟩:=h2.tup_inv
  cases rt with
  | @cons s _ xs _ O _ r1 rt =>
   cases rt with
   | @cons N _ xs _ F2 G r2 rt =>
    cases rt
    have k3:At K f Y n ((⟨some (.ref D),.dT (eO j),[D]⟩::p)++⟨some s,.dat m B,O⟩::(l++T)) g:=At.item (S:=⟨some (.ref D),.dT (eO j),[D]⟩::p) M s1 r1 (λa ha=>h3 a (Ah _ ha)) it.md it.hd it.np
    have h4:At K f Y n ((⟨some s,.dat m B,O⟩::⟨some (.ref D),.dT (eO j),[D]⟩::p)++(l++T)) g:=k3.mid
    have R:At K f Y n ((⟨some s,.dat m B,O⟩::⟨some (.ref D),.dT (eO j),[D]⟩::p)++⟨some N,.dat m U,F2⟩::(l++T)) g:=At.item h4 (Nt.refl _) r2 (λa ha=>h3 a (Af _ (Ah _ ha))) it.md it.hd it.np
    have C:At K f Y n (⟨some s,.dat m B,O⟩::⟨some N,.dat m U,F2⟩::⟨some (.ref D),.dT (eO j),[D]⟩::(p++(l++T))) g:=R.mid.perm (Ee _ _ _)
    have k5:=At.view (S:=p) C (λe he=>Ad _ (Ad _ (Ad _ (Ah _ he)))) A
    have k2:At K f Y n ((⟨some s,.dat m B,O⟩::⟨some N,.dat m U,F2⟩::aA p A)++⟨some (.ref D),.dT (eO j),[D]⟩::(p++(l++T))) g:=by
     have z:=k5.mid
     refine z.perm ?_
     exact (Fd).cons _
    have k1:Sl (⟨some s,.dat m B,O⟩::⟨some N,.dat m U,F2⟩::aA p A) ⟨.dat m B::.dat m U::frD L.sl A,n⟩:=by
     unfold Sl
     rw[Ax,Ax,tM e2]
    have hv:vs (⟨some s,.dat m B,O⟩::⟨some N,.dat m U,F2⟩::aA p A)=some s::some N::Ei (vs p) A:=by
     rw[<- sO]
     rfl
    refine ⟨t,s,N,rfl,Tz.of ht,λH2=>∃m',m'<v.length - i/\_,λkx vx H3=>∃(h6:List (List Lu×V)) (k:List Lu) (b:Addr),H3 D=some (.dT h6)/\kx=.ref b/\H3 b=some (.tup (k.map kV))/\h6.length<Bc/\∃m',m'<v.length - i/\_,λH2 q=>q,λkx vx H3 q=>q,?_⟩
    rw[<- hv]
    refine ⟨f,Y,_,⟨some (.ref D),.dT (eO j),[D]⟩::(p++(l++T)),_,_,rfl,k1,k2,k0,λc W S2 H2 f1 f2 X p2=>?_⟩
    cases c with
    | false=>exact oG ⟨v.length - (i+1),by omega,rfl,u,j,W.n,X.sub (Ca _ _),by omega,p2⟩
    | true =>
     refine jZ ⟨f,Y,S2,⟨some (.ref D),.dT (eO j),[D]⟩::(p++(l++T)),W,_,f1,f2,X,p2,λyk h8 vk Fk S3 H3 f3 f4 k4 p3=>?_⟩
     refine ⟨f,Y,S3,⟨some vk,yk,Fk⟩::⟨some (.ref D),.dT (eO j),[D]⟩::(p++(l++T)),h8,_,f3,f4,k4,p3,λyv h5 vv Fv S4 H4 f5 f6 E p4=>?_⟩
     unfold oK at p4
     split at p4
     ·rename_i mk k6 mv Z
      obtain ⟨w,rfl,im,p5⟩:=p4
      obtain ⟨b,rfl,hb⟩:=word_at (E.told Fc)
      have r:=E.told mem_mid
      obtain rfl:=r.imm im
      have h7:At K f Y h5.n (⟨some (.ref D),.dT (eO j),[D]⟩::(p++(l++T))) H4:=E.drop2.sub (Ca _ _)
      obtain ⟨kv,g1,g2,g3⟩:=h7.dPut (w:=w) r
      have:=zU j w Z
      exact ⟨kv,Mm w,b,g1,rfl,hb,by omega,v.length - (i+1),by omega,rfl,u,fK j w Z,h5.n,g3,by omega,p5⟩
     ·exact p4.elim
 ·have e:i=v.length:=by omega
  subst e
  refine .inl ⟨it.stop H n o,k _ ⟨L.sl,n⟩ _ [D] p H e1 e2 ?_ (hf j n hI)⟩
  have C:At K f Y n (⟨some (.ref D),.dat .ow (.dict (kW j)),[D]⟩::(p++T)) H:=M.dGot.sub (((Ck p).append (Ca l T)).cons₂ _)
  exact C.tomid
end
section
variable{X:Cx}{j h b:Expr}{x c:Str}{l e pt pos:Pos}{m:Nat}{d:List Expr}{a:Scope}{cl:List (Str×Addr)}{ys:List Str}{n:List Nat}{i:DI}{g:DT}{f k:DE}
theorem wN(y:X.A.units+64<cLine)(C:CompScope X a cl x ys n)(o:mN a c)(p:(x::c::ys).Nodup)(w:X.calm=true)(t:yK X (.Tuple [.Name x l,.Name c e] m pt) b i)(r:∀fp s H,pA (Dg X a cl (x::c::ys) fp s H) d (LT X.K g))(u:∀fp s H,Fi (Dg X a cl (x::c::ys) fp s H) j f)(q:∀fp s H,Fi (Dg X a cl (x::c::ys) fp s H) h k)(v:∀x,Cw b X.env x=pure x:=by intro _; rfl):Fi X (.DictComp j h [⟨.Tuple [.Name x l,.Name c e] m pt,b,d,0⟩] a pos) (iZ i n g f k):=PE.imp (xT C o p w (KU y) t r u q v) xK
end
end DL
namespace Nd
open PySem PySem.Spec PySem.Calls PyProof.Rows PyProof.V L2
end Nd
namespace DL
open PySem PySem.Spec PyProof.Rows L2 Nd
def MX(K:PySem.W.Frag)(g:PF):Sp:=λh H Q _=>∃(b:List Ent) (n:Nat) (f:List Ae) (R:Ae->Prop) (C:List Addr),b.map Ent.v=h.map some/\(∀e∈b,Ii K H n e)/\datas (b.map Ent.x)=some f/\g f R/\(∀a∈C,H a≠none/\∀e∈b,a∉e.F) /\
 ∀v d F c,R d->RdF K c v d F->(∀a∈F,a∉C)->Nt H c->Q v c
def FE(R:Ae->Prop):DEnds where
 nx:=λ_=>R .none
 rt:=λx _=>∃m d,x=.dat m d/\m≠.pk/\R d
section
variable{K:PySem.W.Frag}{b H c:Hp}{X:Addr->Prop}{n:Nat}{E S T:List Ent}
theorem At.pushS(h:At K b X n E H){v:V}{d:Ae}{F:List Addr}(r:RdF K H v d F)(fr:∀f∈E,∀a∈cells f,a∉F):At K b X n (⟨some v,.dat .sh d,F⟩::E) H :=
 h.push ⟨v,rfl,r,λz=>(nomatch z),λz=>(nomatch z)⟩ (λf e=>⟨λ_ a c=>(nomatch c),λ_ a c=>fr f e a c⟩) λa c=>(nomatch c)
end
section
variable{P:Bq}{w:World}{K:PySem.W.Frag}{mg:Str->Option Value}{base:Heap}
theorem GX{As:List Ent}{k:Nat}:∀e∈As.map cF++Jq k,∀a∈e.F,∃f∈As,a∈f.F:=λe he a b=>by
 rcases Am.mp he with he | he
 ·obtain ⟨f,c,rfl⟩:=Cn.mp he
  refine ⟨f,c,?_⟩
  obtain ⟨v,x,F⟩:=f
  cases x <;> exact b
 ·rw[(Mh.mp he).2] at b
  exact nomatch b
theorem IL{x i:Str}{st:Stmt}{f:Addr}{Z:Cj}{N ps:List Str}{k:Nat}{pf:PF}{db:DB}(F:Fun K x i st f Z)(S:FnScope N ps (Bv st))(hb:∀(l:Value) (A:Df) (outer:List Env) (s:Al) (H:Hp) (E:XK),Room k (A.deeper (envOfC i (Bv st) s.heap.objs.size f l))->Zf (Mz Ig P w K mg base N i (Bv st) f l A outer s H E).nox (Le st) db)(h:∀B R,pf B R->B.length=ps.length/\db (FE R) ⟨args0 B (N.length - ps.length),0⟩):FnOk P w K mg base Ig (k+1) f Z ps (MX K pf):=by
 refine F.ok S (λvs H Q E z=>?_) λl A outer s H us Q E hr z=>?_
 ·obtain ⟨As,n,B,R,C,U,ok,q,V,_⟩:=z
  have l1:=(h B R V).1
  have W:=Ly q
  rw[Ab] at W
  have X:=congrArg Fh U
  rw[Ab,Ab] at X
  omega
 ·obtain ⟨As,n,B,R,C,U,ok,q,V,hG,k1⟩:=z
  obtain ⟨l1,hd⟩:=h B R V
  have W:=Ly q
  rw[Ab] at W
  have X:=congrArg Fh U
  rw[Ab,Ab] at X
  let M:Hp:=λa=>open Classical in if a∈C then none else H a
  have J:∀{a},a∈C->M a=none:=λz=>if_pos z
  have D:∀{a},a∉C->M a=H a:=λz=>if_neg z
  -- what holds at the end
  have y:∀{E':List Ent} {n':Nat} {t:Hp},At K M (λ_=>False) n' (E'++[⟨none,.grd H,C⟩]) t->Nt H t:=λ{E' n' t} G b o e=>by
   by_cases hb:b∈C
   ·obtain ⟨o',g1,g2⟩:=G.ok _ (Af _ Aa) b hb
    rw[e] at g1
    cases g1
    exact g2
   ·exact G.same b o (λz=>z) (by rw[D hb]; exact e)
  refine ⟨_,hb l A outer s H E hr,M,λ_=>False,As.map cF++Jq (N.length - ps.length),[⟨none,.grd H,C⟩],⟨args0 B (N.length - ps.length),0⟩,FE R,?_,?_,λe z=>?_,?_,hd,λO S' t e1 G p=>?_,λx O v F' S' t e1 G p=>?_,λ_ _ _ _ _ p=>p.elim,λ_ _ _ _ _ p=>p.elim⟩
  ·unfold vs L2.start Jq
   rw[Bb,CZ,U,Pm,show us.length=ps.length by omega]
  ·unfold Sl args0 Jq
   rw[Bb,Wu q,Pm]
  ·rw[Ac.mp z]; rfl
  ·have T:=iT q (N.length - ps.length)
   have hF:=GX (As:=As) (k:=N.length - ps.length)
   have gF:∀e∈As.map cF++Jq (N.length - ps.length),∀a∈C,a∉e.F:=λe he a g z=>by
    obtain ⟨f,hf,zf⟩:=hF e he a z
    exact (hG _ g).2 f hf zf
   refine ⟨λe he=>?_,Bu.mpr ⟨Sk λa g b I=>⟨λY c j=>?_,λY c j=>?_⟩,Ct _ _,λa g b I=>⟨λY c j=>?_,λY c j=>?_⟩⟩,λe he a g=>?_,λb o _ e=>?_,λb o e=>?_,λb hb=>hb.elim⟩
   ·rcases Am.mp he with he | he
    ·have:=B1 q ok (N.length - ps.length) e he
     obtain ⟨v,x,F⟩:=e
     cases x with
     | drw=>exact absurd (T _ he).2 (by show ¬ (true=false); decide)
     | _=>exact this
    ·rw[Ac.mp he]
     intro a g
     have:=(hG _ g).1
     cases q:H a with
     | none=>exact absurd q this
     | some o=>exact ⟨o,by first | rfl | exact q,by first | rfl | exact q⟩
   ·rw[(T a g).1] at j; cases j
   ·rw[(T b I).1] at j; cases j
   ·rw[(T a g).1] at j; cases j
   ·rw[Ac.mp I] at j
    exact gF a g c j
   ·rcases Am.mp he with he | he
    ·rw[(T e he).1] at g; cases g
    ·rw[Ac.mp he] at g
     exact .inl (J g)
   ·by_cases hb:b∈C
    ·rw[J hb] at e; cases e
    ·rw[D hb] at e; exact e
   ·by_cases hb:b∈C
    ·rw[J hb] at e; cases e
    ·rw[D hb] at e; exact ⟨o,e⟩
  ·exact k1 .non .none [] t p .non (λ_ z=>(nomatch z)) (y G)
  ·obtain ⟨m,d,rfl,hm,r⟩:=p
   obtain ⟨u,e2,rd,_⟩:=G.ok _ mem_mid
   cases e2
   have L:At K M (λ_=>False) O.n ((S'++[⟨some v,.dat m d,F'⟩])++[⟨none,.grd H,C⟩]) t:=by rw[Bh]; exact G
   refine k1 v d F' t r rd (λa g=>?_) (y L)
   have sp:=(Bu.mp L.sep).2.2 _ (Af _ Aa) _ Aa
   exact λz=>sp.2 (.inr rfl) a z g
end
theorem nY:∀{As:List Ent},noPk (As.map Ent.x)=true->∀e∈As,Nw e.x=false
 | [],_,e,he=>nomatch he
 | ⟨v,x,F⟩::As,h,e,he=>by
  rw[Ax] at h
  have a:Nw x=false/\noPk (As.map Ent.x)=true:=by
   cases x with
   | dat m d=>cases m <;> first | exact ⟨rfl,h⟩ | (simp [noPk] at h)
   | _=>exact ⟨rfl,by simpa [noPk] using h⟩
  rcases Ai.mp he with rfl | he
  ·exact a.1
  ·exact nY a.2 e he
def jF(K:PySem.W.Frag)(m:DF):Sp:=λo H Q _=>∃(b:Addr) (l:List V) (g:List Ent) (n:Nat) (j:List Ae) (R:Ae->Nat->Prop) (C:List Addr),o=.ref b::l/\g.map Ent.v=l.map some/\(∀e∈g,Ii K H n e)/\(∀e∈g,b∉e.F)/\(∃c k f,Wo H b c k f/\0<=k/\k<=(n:Int))/\datas (g.map Ent.x)=some j/\m j n R /\
 b∉C/\(∀a∈C,H a≠none/\∀e∈g,a∉e.F) /\
 ∀v d F i h,n<=i->R d i->RdF K h v d F->(∀a∈F,a∉C)->Ul b H h->(∃c k f,Wo h b c k f/\0<=k/\k<=(i:Int))->Q v h
def retWT(n:Nat)(R:Ae->Nat->Prop):DEnds where
 nx:=λa=>n<=a.n/\R .none a.n
 rt:=λx a=>n<=a.n/\∃m d,x=.dat m d/\m≠.pk/\R d a.n
section
variable{P:Bq}{w:World}{K:PySem.W.Frag}{mg:Str->Option Value}{base:Heap}
theorem dF{x l:Str}{st:Stmt}{f:Addr}{fd:Cj}{N ps:List Str}{G:Str}{k:Nat}{df:DF}{db:DB}(F:Fun K x l st f fd)(S:FnScope N (G::ps) (Bv st))(hb:∀(B:Value) (A:Df) (outer:List Env) (s:Al) (H:Hp) (E:XK),Room k (A.deeper (envOfC l (Bv st) s.heap.objs.size f B))->Zf (Mz Ig P w K mg base N l (Bv st) f B A outer s H E).nox (Le st) db)(h:∀M n R,df M n R->M.length=ps.length/\db (retWT n R) ⟨.drw::args0 M (N.length - (G::ps).length),n⟩):FnOk P w K mg base Ig (k+1) f fd (G::ps) (jF K df):=by
 refine F.ok S (λvs H Q E z=>?_) λB A outer s H us Q E hr z=>?_
 ·obtain ⟨j,ws,As,n,M,R,C,rfl,eu,ok,nd,y,q,hp,_⟩:=z
  have l1:=(h M n R hp).1
  have l2:=Ly q
  rw[Ab] at l2
  have l3:=congrArg Fh eu
  rw[Ab,Ab] at l3
  rw[Bi,Bi]
  omega
 ·obtain ⟨j,ws,As,n,M,R,C,rfl,eu,ok,h0,y,q,hp,hC,hG,k1⟩:=z
  obtain ⟨l1,hd⟩:=h M n R hp
  have l2:=Ly q
  rw[Ab] at l2
  have l3:=congrArg Fh eu
  rw[Ab,Ab] at l3
  let U:Hp:=λa=>open Classical in if a∈C then none else H a
  have O:∀{a},a∈C->U a=none:=λz=>if_pos z
  have t:∀{a},a∉C->U a=H a:=λz=>if_neg z
  have L:∀{E':List Ent} {n':Nat} {J:Hp},At K U (·=j) n' (E'++[⟨none,.grd H,C⟩]) J->Ul j H J:=λ{E' n' J} D b o nb e=>by
   by_cases hb:b∈C
   ·obtain ⟨o',g1,g2⟩:=D.ok _ (Af _ Aa) b hb
    rw[e] at g1
    cases g1
    exact g2
   ·exact D.same b o nb (by rw[t hb]; exact e)
  refine ⟨_,hb B A outer s H E hr,U,(·=j),⟨some (.ref j),.drw,[j]⟩::(As.map cF++Jq (N.length - (G::ps).length)),[⟨none,.grd H,C⟩],⟨.drw::args0 M (N.length - (G::ps).length),n⟩,retWT n R,?_,?_,λe z=>?_,?_,hd,λI S' J e1 D p=>?_,λx I v F' S' J e1 D p=>?_,λ_ _ _ _ _ p=>p.elim,λ_ _ _ _ _ p=>p.elim⟩
  ·unfold vs L2.start Jq
   rw[Ax,Bb,CZ,eu,Pm,Bi,Bi,show ws.length=ps.length by omega]
   rfl
  ·unfold Sl args0 Jq
   rw[Ax,Bb,Wu q,Pm]
  ·rw[Ac.mp z]; rfl
  ·have Z:=iT q (N.length - (G::ps).length)
   have hF:=GX (As:=As) (k:=N.length - (G::ps).length)
   have gF:∀e∈As.map cF++Jq (N.length - (G::ps).length),∀a∈C,a∉e.F:=λe he a i z=>by
    obtain ⟨f,hf,zf⟩:=hF e he a z
    exact (hG a i).2 f hf zf
   have W:∀e∈As.map cF++Jq (N.length - (G::ps).length),j∉e.F:=λe he z=>by
    obtain ⟨f,hf,zf⟩:=hF e he j z
    exact h0 f hf zf
   have V:U j≠none:=by
    rw[t hC]
    obtain ⟨c,kk,fl,X,z2⟩:=y
    exact λz=>(by rw[show H j=some _ from X] at z; cases z)
   refine ⟨λe he=>?_,Ay.mpr ⟨λb hb'=>?_,Bu.mpr ⟨Sk λa i b hb'=>⟨λT c g=>?_,λT c g=>?_⟩,Ct _ _,λa i b hb'=>⟨λT c g=>?_,λT c g=>?_⟩⟩⟩,λe he a i=>?_,λb o _ e=>?_,λb o e=>?_,λb hb=>?_⟩
   ·rcases Ai.mp he with rfl | he
    ·obtain ⟨c,kk,fl,X,z2,z3⟩:=y
     exact ⟨j,c,kk,fl,rfl,rfl,X,z2,z3⟩
    ·rcases Am.mp he with he | he
     ·exact B1 q ok _ e he
     ·rw[Ac.mp he]
      intro a i
      have:=(hG a i).1
      cases q:H a with
      | none=>exact absurd q this
      | some o=>exact ⟨o,by first | rfl | exact q,by first | rfl | exact q⟩
   ·rcases Am.mp hb' with hb' | hb'
    ·refine ⟨λT c g=>?_,λT c g=>?_⟩
     ·rw[Ac.mp g]; exact W b hb'
     ·rw[(Z b hb').1] at g; cases g
    ·rw[Ac.mp hb']
     refine ⟨λT c g=>?_,λT c g z=>?_⟩
     ·rw[Ac.mp g]; exact hC
     ·rw[Ac.mp z] at g; exact hC g
   ·rw[(Z a i).1] at g; cases g
   ·rw[(Z b hb').1] at g; cases g
   ·rw[(Z a i).1] at g; cases g
   ·rw[Ac.mp hb'] at g
    exact gF a i c g
   ·rcases Ai.mp he with rfl | he
    ·rw[Ac.mp i]
     exact .inr ⟨rfl,rfl⟩
    ·rcases Am.mp he with he | he
     ·rw[(Z e he).1] at i; cases i
     ·rw[Ac.mp he] at i
      exact .inl (O i)
   ·by_cases hb:b∈C
    ·rw[O hb] at e; cases e
    ·rw[t hb] at e; exact e
   ·by_cases hb:b∈C
    ·rw[O hb] at e; cases e
    ·rw[t hb] at e; exact ⟨o,e⟩
   ·subst hb
    obtain ⟨c,kk,fl,X,z2⟩:=y
    exact ⟨V,c,kk,fl,X,z2⟩
  ·exact k1 .non .none [] I.n J p.1 p.2 .non (λ_ z=>(nomatch z)) (L D) (D.xd j rfl).2
  ·obtain ⟨hn,m,d,rfl,hm,r⟩:=p
   obtain ⟨u,e2,rd,_⟩:=D.ok _ mem_mid
   cases e2
   have Y:At K U (·=j) I.n ((S'++[⟨some v,.dat m d,F'⟩])++[⟨none,.grd H,C⟩]) J:=by rw[Bh]; exact D
   refine k1 v d F' I.n J hn r rd (λa i=>?_) (L Y) (D.xd j rfl).2
   have sp:=(Bu.mp Y.sep).2.2 _ (Af _ Aa) _ Aa
   exact λz=>sp.2 (.inr rfl) a z i
end
abbrev PX:=List Ae->(Ae->Prop)->(Addr->Prop)->Prop
end DL
namespace Nd
open PySem PySem.Spec PyProof.Rows L2
end Nd
namespace DL
open PySem PySem.Spec PyProof.Rows L2 Nd
end DL
namespace Nd
open PySem PySem.Spec PyProof.Rows L2
end Nd
namespace Nd
open PySem PySem.Spec
end Nd
namespace Nd
open PySem PySem.Spec PyProof.Rows L2
end Nd
namespace DL
open PySem PySem.Spec PyProof.Rows L2 Nd
end DL
namespace Nd
open PySem PySem.Spec PyProof.Rows L2
end Nd
namespace DL
open PySem PySem.Spec PyProof.Rows L2 Nd
end DL
namespace Nd
open PySem PySem.Spec PyProof.Rows L2
section
variable{prog:Bq}{w:World}{A:Df}{E:Value->Al->Prop}{s:Al}
theorem mI{l:Addr}{o:Obj}{n:Nat}{vs:List Value}{Q:List Value->Al->Prop}(a:s.heap.get? l=some o)(c:o.cls=.type "tuple")(hd:o.data=.seq vs.toArray n)(h:Q vs { s with heap:=(s.heap.push (Es "list" #[] 0)).update s.heap.objs.size (Dt (·++vs.toArray)) })(d:vs.length<=Bc):wpAny (model prog w) A (collect (.ref l)) Q E s:=by
 unfold collect
 refine Ag (wpAny_runValue (Mr entry_proto_collect' ?_))
 show wpAny _ _ (bind (newList []) λq=>again (.builtin "list.__iadd__" ⟨[q,.ref l],[]⟩)) _ _ s
 refine Ag (dM (Aw ⟨Code.quiet_builtin _ (by decide +kernel),Mr entry_list_iadd' ?_⟩))
 show wpAny _ _ (Xi (.ref s.heap.objs.size) (.ref l) (.ref s.heap.objs.size)) _ _ { s with heap:=s.heap.push (Es "list" #[] 0) }
 unfold Xi
 have g:(s.heap.push (Es "list" #[] 0)).get? l=some o:=Av _ a
 refine Ag (Nl (T := "tuple") ⟨o,g,c⟩ ?_)
 rw[if_pos (by rw[show (Ek "tuple" == Ek "tuple")=true from rfl,Bool.or_true])]
 refine Ag (iA g hd (Ag (iA (xs:=#[]) (n:=0) (Bs _ rfl) rfl ?_)))
 rw[if_neg (by simp)]
 refine Ag (dP (xs:=#[]) (n:=0) (Bs _ rfl) rfl (Aw ?_) (Dh _) (by show (#[]++vs.toArray).size<=Bc+1; simp only[Array.size_append,Au,Fz]; omega))
 have b:((s.heap.push (Es "list" #[] 0)).update s.heap.objs.size (Dt (·++vs.toArray))).get? s.heap.objs.size=some _:=Wy (Bs _ rfl) _
 refine Ag (wpAny_load b ?_)
 show wpAny _ _ (pure ((#[]:Array Value)++vs.toArray).toList) Q E _
 rw[show ((#[]:Array Value)++vs.toArray).toList=vs by simp]
 exact Aw h
theorem pJ{l:Addr}{o:Obj}{n:Nat}{vs:List Value}{c:List Int}{Q:Value->Al->Prop}(e:s.heap.get? l=some o)(j:o.cls=.type "tuple")(hd:o.data=.seq vs.toArray n)(i:Lo vs c)(b:vs.length<64)(h:∀(out:Array Value) (a:List Int),Lo out.toList a->a.Perm c->a.Pairwise (·<=·)->Q (.ref (s.heap.objs.size+1)) { s with heap:=Zm s.heap vs out }):wpAny (model prog w) A (call (.builtin "sorted") [.ref l]) Q E s:=by
 refine kT kind_sorted plain_sorted entry_sorted (args_sorted1 _) ?_
 unfold Builtin.«sorted»
 refine Ag (m:=checkCount "sorted" 1 1 _) (Aw (Ag (mI e j hd (Ag (dM ?_)) (by rw[Iw]; omega))))
 have z:((s.heap.push (Es "list" #[] 0)).update s.heap.objs.size (Dt (·++vs.toArray))).objs.size=s.heap.objs.size+1:=by
  rw[Lp,dZ]
 have g:(((s.heap.push (Es "list" #[] 0)).update s.heap.objs.size (Dt (·++vs.toArray))).push (Es "list" vs.toArray 0)).get? (s.heap.objs.size+1)=some (Es "list" vs.toArray 0):=by
  rw[<- z]; exact Bs _ rfl
 show wpAny _ _ _ _ _ { s with heap:=((s.heap.push (Es "list" #[] 0)).update s.heap.objs.size (Dt (·++vs.toArray))).push (Es "list" vs.toArray 0) }
 rw[z]
 refine Ag (Eg (Uo slot_list_sort ⟨_,g,rfl⟩ entry_list_sort (list_sort_tree g i b λout a k f d=>⟨_,rfl,?_⟩) (args_list_sort _)))
 exact Aw ⟨_,rfl,h out a k f d⟩
end
section
variable{X:Cx}
def nW(K:PySem.W.Frag):List V->Hp->VK->Prop:=λd H Q=>∃(a:Addr) (b:List Int),d=[.ref a]/\H a=some (.tup (b.map V.int))/\b.length<64 /\
 ∀(p:Addr) (c:List Int),H p=none->c.Perm b->c.Pairwise (·<=·)->Q (.ref p) (upd H p (.lst (c.map V.int)))
theorem iH:Om X (.builtin "sorted") (nW X.K):=by
 intro i s B H z y Q I r h
 obtain ⟨a,A,rfl,w,g,q⟩:=h
 obtain ⟨u,rfl,m⟩:=vals1 r
 cases m
 obtain ⟨_,b,d,o,t,p,n,v⟩:=I.hok a _ w
 have len:b.length<64:=by rw[<- d.length,Ab]; exact g
 refine pJ t p v (intsAre_of d) len λout c k f l=>?_
 obtain ⟨e,j⟩:=sortedAll_at s.heap b out
 have x:c.length<64:=by rw[f.length_eq]; exact g
 exact ⟨.ref (s.heap.objs.size+1),_,I.laid (t':=s.toks) (o:=.lst (c.map V.int)) (λ_ _=>sortedAll_old) (Oi _) ⟨by rw[Ab,Iw]; omega,out.toList,e,Z7 k,by simpa using j⟩,rfl,q _ c (I.hok.fresh (Oi _)) f l⟩
end
end Nd
namespace DL
open PySem PySem.Spec PyProof.Rows L2 Nd
def jT:DC:=λb P=>match b with
 | [.dat _ (.tuple ds)]=>∃a:List Int,ds=a.map Bo/\a.length<64/\P (.dat .ow (.list ((cG a).map Bo)))
 | _=>False
theorem zV{K:PySem.W.Frag}:Uk K (nW K) jT:=by
 intro r X n S T t j H Q P i c b k
 unfold jT at b
 split at b
 ·rename_i l
  obtain ⟨v,F,rfl,c⟩:=Lq i c l
  obtain ⟨d,rfl,e,m⟩:=b
  obtain ⟨a,s,rfl,g,o,_⟩:=(c.told mem_mid).tup_inv
  obtain ⟨rfl,_⟩:=o.ints_inv
  refine ⟨a,d,rfl,g,e,λq j h f p=>?_⟩
  rw[zH f p]
  exact k _ _ _ _ (c.drop.newI (RdFs.ints _) (Sq _) (by rw[Ab,wZ]; exact sz (by omega)) h .ow) m
 ·exact b.elim
end DL
namespace Ts
open PySem PyProof.Rows L2
end Ts
namespace DL
open PySem PySem.Spec PyProof.Rows L2 Nd Ts
end DL
namespace DL
open PySem PySem.Spec PyProof.Rows L2 Nd
end DL
namespace Nd
open PySem PySem.Spec PyProof.Rows L2
end Nd
namespace DL
open PySem PySem.Spec PyProof.Rows L2 Nd
theorem P5{a b:Addr}{x y:List (List Int×Ae)}(h:BV a x=BV b y):a=b/\x=y:=by
 obtain ⟨d,f⟩:=Hh h
 refine ⟨Int.ofNat.inj (PyData.int.inj (Prod.mk.inj d).2),?_⟩
 refine Vu (λx y e=>?_) f
 obtain ⟨g,c⟩:=Prod.mk.inj e
 exact Prod.ext (Qp g) c
def M7:D2:=λx y P=>match x,y with
 | .dat _ (.dict X),.dat _ k=>∃a b w d,X=BV a b/\k=Bt w/\Sb b w=some d/\P (.dat .ow d)
 | _,_=>False
end DL
namespace Nd
open PySem PySem.Spec PySem.Calls PyProof.Rows PyProof.V L2 Ts
end Nd
namespace DL
open PySem PySem.Spec PyProof.Rows L2 Nd Ts
theorem tab_no{K:PySem.W.Frag}{x:Str}(a:PySem.W.nsIn K Cq x=some none):PySem.W.tabIn K x=none:=by
 unfold PySem.W.tabIn
 rw[a]
end DL
namespace HT
open PySem PyProof.Rows
end HT
namespace Nd
open PySem PySem.Spec PySem.Calls PyProof.Rows PyProof.V L2 Ts
end Nd
namespace DL
open PySem PySem.Spec PyProof.Rows L2 Nd Ts
end DL
namespace DL
open PySem PySem.Spec PyProof.Rows L2 Nd
end DL
namespace DL
open PySem L2 Nd
end DL
namespace Nd
open PySem PySem.Spec PyProof.Rows L2
end Nd
namespace DL
open PySem PySem.Spec PyProof.Rows L2 Nd
theorem rP{K:PySem.W.Frag}{g H:Hp}{X:Addr->Prop}{S T:List Ent}{b:DS}{i:Nat}(k:Sl S b)(l:At K g X b.n (S++T) H)(h:isLst b.sl[i]? = true):∃a xs,(vs S)[i]? = some (some (.ref a))/\H a=some (.lst xs):=by
 cases q:b.sl[i]? with
 | none=>rw[q] at h; cases h
 | some x =>
  rw[q] at h
  obtain ⟨c,e,o⟩:=Hi k q
  obtain ⟨u,y,F⟩:=c
  have d:y=x:=o
  subst d
  have p:(⟨u,y,F⟩ : Ent)∈S:=Aq e
  match y,h with
  | .dat m (.list ds),_ =>
   obtain ⟨v,f,rd,_⟩:=l.ok _ (Ah _ p)
   obtain ⟨a,xs,G,rfl,j,_⟩:=rd.list_inv
   exact ⟨a,xs,by rw[Jm e]; exact congrArg some f,j⟩
theorem RdFs.part{K:PySem.W.Frag}{H:Hp}:∀(k:Nat) {xs:List V} {d:List Ae} {F:List Addr},RdFs K H xs d F->∃c b,F=c++b/\RdFs K H (xs.take k) (d.take k) c/\RdFs K H (xs.drop k) (d.drop k) b
 | 0,_,_,F,h=>⟨[],F,rfl,.nil,by rw[Ju,Ju]; exact h⟩
 | _+1,_,_,_,.nil=>⟨[],[],rfl,.nil,.nil⟩
 | k+1,_,_,_,.cons a t=>by
  obtain ⟨c,b,rfl,f,e⟩:=RdFs.part k t
  exact ⟨_++c,b,(Bh ..).symm,.cons a f,e⟩
theorem mP{K:PySem.W.Frag}{J H:Hp}{X:Addr->Prop}{S T:List Ent}{g:DS}{i:Nat}{m h:Md}{b:List Ae}{e:Ae}{w:V}{d:List Addr}(k:Nat)(q:Sl S g)(hT:∀e∈T,Nw e.x=false)(t:At K J X g.n (S++⟨some w,.dat h e,d⟩::T) H)(M:g.sl[i]? = some (.dat m (.list b)))(ho:own1 m=true)(Q:h≠.pk)(np:npk g.sl=true)(hl:b.length<1000000):∃a xs,(vs S)[i]? = some (some (.ref a))/\H a=some (.lst xs)/\xs.length=b.length/\∃B,vs B=vs S/\Sl B ⟨g.sl.set i (.dat (mmd m h) (.list (Hw b k e))),g.n⟩/\At K J X g.n (B++T) (upd H a (.lst (Hw xs k w))):=by
 obtain ⟨o,l,e3⟩:=Hi q M
 have Y:o∈S:=Aq l
 obtain ⟨u,x,F⟩:=o
 have s:x=.dat m (.list b):=e3
 subst s
 obtain ⟨v,D,rd,_⟩:=t.ok _ (Ah _ Y)
 obtain ⟨a,xs,G,rfl,R,E,N,hz⟩:=rd.list_inv
 have r:F=a::G:=N
 subst r
 have A:=t.told mem_mid
 refine ⟨a,xs,by rw[Jm l]; exact congrArg some D,R,E.len,?_⟩
 have Z:=jW q np
 have U:(S++⟨some w,.dat h e,d⟩::T).Perm (⟨u,.dat m (.list b),a::G⟩::⟨some w,.dat h e,d⟩::(S.eraseIdx i++T)):=by
  refine ((Hq l).append_right _).trans ?_
  rw[Fe]
  exact Oj _ Fd
 obtain ⟨p,C,P,O,r2⟩:=E.part k
 have I:(p++(d++C)).Perm (G++d):=by
  rw[P,Bh]
  exact List.perm_append_comm.append_left p
 have h1:=(t.perm U).merge (es:=Hw b k e) (ys:=Hw xs k w) (G:=p++(d++C)) ho Q D (λf hf=>?_) (O.app (.cons A r2)) (λc hc=>Am.mp (I.mem_iff.mp hc)) (λz=>I.nodup_iff.mpr z) (by rw[Oa]; exact Zg (by omega))
 ·refine ⟨S.set i ⟨u,.dat (mmd m h) (.list (Hw b k e)),a::(p++(d++C))⟩,?_,?_,h1.perm ?_⟩
  ·unfold vs
   rw[Hn]
   apply Hd
   intro j
   rw[Hy]
   split
   ·rename_i y
    subst y
    rw[Bm,l]
    split
    ·rfl
    ·rename_i L
     rw[Ab] at L
     exact absurd (Ak.mp l).1 L
   ·rfl
  ·unfold Sl at q ⊢
   rw[Hn,q]
  ·exact ((Tq l).append_right T).symm
 ·rcases Am.mp hf with hf | hf
  ·exact Z f ((Ui S i).subset hf)
  ·exact hT f hf
def tH(i:Nat)(z y:DV)(a:DS)(D:DEnds):Prop:=match a.sl[i]?,z,y with
 | some (.dat m (.list ds)),.dat _ (.int k),.dat my e=>own1 m=true/\npk a.sl=true/\my≠.pk/\ds.length<1000000/\0<=k/\k<=1000000/\D.nx ⟨a.sl.set i (.dat (mmd m my) (.list (Hw ds k.toNat e))),a.n⟩
 | _,_,_=>False
def cK(i:Nat)(d e:DE):DB:=λD c=>match c.sl[i]? with
 | some (.dat _ (.list _))=>d c λz a=>e a λy b=>tH i z y b D
 | _=>False
section
variable{X:Cx}{o e f:Expr}{j g:DE}{d c pos:Pos}{i:Nat}
theorem rK(ho:PE X o (Nx i))(hk:Fi X f g)(he:Fi X e j)(q:Iy o "insert" X.env (eval o X.env)=eval o X.env:=by rfl)
  (B:((Gh c (Be [f,e] X.env)).all (λx=>!x.1) && (Pt c (Ko [] X.env)).all (λx=>x.1.isSome)
   && decide (([f,e]:List Expr).length+([]:List Je).length+(if ([]:List Je).isEmpty then 0 else 1)<30))=true:=by rfl)
  (p:(d.endLine == c.line)=true:=by rfl) (A:Be [f,e] X.env=(false,eval f X.env)::Be [e] X.env:=by rfl) (hs:Be [e] X.env=(false,eval e X.env)::Be [] X.env:=by rfl) (l:(Gh c (Be [e] X.env)).any (·.1)=false:=by rfl)
  (N:Hu (.Call (.Attribute o "insert" d) [f,e] [] c) none pos.line X.env=pure false:=by rfl) :
  dY X (.Expr (.Call (.Attribute o "insert" d) [f,e] [] c) pos) (cK i g j):=by
 refine PS.impD (To (aX PySem.F.plainAttrs_list Qw aP Xm ho (Gp hk (Gp he Lk hs) A) q B p A l) N) λD σ H h=>?_
 obtain ⟨H0,Y,S,T,δ,P,rfl,hS,hT,Z,E,k1,k2,k3,k4⟩:=h
 unfold cK at E
 split at E
 case h_2=>exact E.elim
 rename_i m0 K M
 obtain ⟨s,O,e3⟩:=Hi hS M
 have hm:s∈S:=Aq O
 obtain ⟨u,x,F⟩:=s
 have I:x=.dat m0 (.list K):=e3
 subst I
 obtain ⟨v,U,rd,_⟩:=Z.ok _ (Ah _ hm)
 obtain ⟨a,xs,G,rfl,ha,ra,eF,hz⟩:=rd.list_inv
 refine ⟨.ref a,by rw[Jm O]; exact congrArg some U,.inl ⟨rfl,xs,Qf.of ha⟩,H0,Y,S,T,δ,_,rfl,hS,Z,E,λz R w F1 S1 H1 e4 e5 L p1=>?_⟩
 refine ⟨H0,Y,S1,⟨some w,z,F1⟩::T,R,_,e4,e5,L,p1,λy h0 w2 F2 W H2 e6 e7 t C=>?_⟩
 unfold tH at C
 split at C
 ·rename_i m ds mz k my e' r
  obtain ⟨q1,q2,q3,q5,q6,q7,q8⟩:=C
  obtain ⟨rfl,_⟩:=(t.told Fc).int_inv
  have J:=t.sub (E':=W++⟨some w2,.dat my e',F2⟩::T) ((Ck W).append ((Ci _ T).cons₂ _))
  obtain ⟨b,Q,g1,g2,g3,S3,h1,h2,h3⟩:=mP k.toNat e7 hT J r q1 q3 q2 q5
  rw[e6,Jm O] at g1
  have : some (V.ref b)=some (V.ref a):=(Bl g1).symm.trans U
  cases this
  refine ⟨a,Q,k,w2,rfl,rfl,g2,By (by omega) (Zg (n:=1000000) (Aj _)),q6,q7,?_⟩
  rw[<- e6,<- h1]
  exact k1 ⟨_,_⟩ S3 _ h2 h3 q8
 ·exact C.elim
end
def LU:List Ae->Bool
 | [.int _,.int _,.bool _]=>true
 | _=>false
mutual
def Uw:Ae->Bool
 | .list a=>!LU a && cT a
 | .tuple a=>cT a
 | .dict _=>false
 | _=>true
def cT:List Ae->Bool
 | []=>true
 | d::ds=>Uw d && cT ds
end
theorem Xk{c:Type}{g:c->Ae}{l:List c}(h:∀a∈l,Uw (g a)=true):cT (l.map g)=true:=by
 induction l with
 | nil=>rfl
 | cons a l d=>rw[Ax,cT,h a Aa,d λb e=>h b (Ad _ e)]; rfl
theorem RdFs.drs{K:PySem.W.Frag}{H:Hp}{c k:Int}{f:Bool}{b:List Ae}{F:List Addr}(r:RdFs K H [.int c,.int k,.bl f] b F):LU b=true:=by
 cases r with
 | cons a t =>
 cases a with
 | int =>
 cases t with
 | cons a t =>
 cases a with
 | int =>
 cases t with
 | cons a t =>
 cases a with
 | bl =>
 cases t with
 | nil=>rfl
section
variable{K:PySem.W.Frag}{H:Hp}{e:Addr}{c k:Int}{f:Bool}
mutual
theorem RdF.nodr:∀{v:V} {d:Ae} {F:List Addr},Wo H e c k f->RdF K H v d F->Uw d=true->e∉F
 | _,_,_,_,.non,_=>λz=>(nomatch z)
 | _,_,_,_,.bl b,_=>λz=>(nomatch z)
 | _,_,_,_,.int i,_=>λz=>(nomatch z)
 | _,_,_,_,.str x,_=>λz=>(nomatch z)
 | _,_,_,hd,.lst ha hz r,hn=>by
  rw[Uw,Ff] at hn
  intro z
  rcases Ai.mp z with z | z
  ·rw[<- z,show H e=_ from hd] at ha
   cases ha
   rw[r.drs] at hn
   cases hn.1
  ·exact RdFs.nodr hd r hn.2 z
 | _,_,_,hd,.tup ha hz r,hn=>RdFs.nodr hd r (by rw[Uw] at hn; exact hn)
 | _,_,_,hd,.dic ..,hn=>by rw[Uw] at hn; cases hn
 | _,_,_,hd,.dik ..,hn=>by rw[Uw] at hn; cases hn
 | _,_,_,hd,.dnm ..,hn=>by rw[Uw] at hn; cases hn
theorem RdFs.nodr:∀{vs:List V} {b:List Ae} {F:List Addr},Wo H e c k f->RdFs K H vs b F->cT b=true->e∉F
 | _,_,_,_,.nil,_=>λz=>(nomatch z)
 | _,_,_,hd,.cons a t,hn=>by
  rw[cT,Ff] at hn
  intro z
  rcases Am.mp z with z | z
  ·exact RdF.nodr hd a hn.1 z
  ·exact RdFs.nodr hd t hn.2 z
end
end
def jN(i:Nat)(b:DF)(xs:List DV)(a:DS)(P:DV->DS->Prop):Prop:=match a.sl[i]?,datas xs with
 | some .drw,some ds=>noPk xs=true/\b ds a.n λd c=>Uw d=true/\P (.dat .sh d) ⟨a.sl,c⟩
 | _,_=>False
def jE(i:Nat)(e:DF)(d:DA):DE:=λb P=>match b.sl[i]? with
 | some .drw=>d b λc a=>jN i e c a P
 | _=>False
section
variable{X:Cx}{CX:uP}{k:Nat}{f:Addr}{l:Cj}{ps:List Str}{j:DF}{E:XK}{x:Str}{p pos:Pos}{b:Expr}{es:List Expr}{c:DA}
theorem Xu{i:Nat}(F:FnOk X.prog X.w X.K X.mg X.base CX k f l ps (jF X.K j))(hr:Room k X.A)(hg:Gl X x)(hm:X.mg x=some (.ref f))(hk:PySem.W.keepIn X.K (.ref f)=true)(hb:Binds X.K l ps [])(hx:Rj CX X E)(h0:PE X b (Nx i))(R:oZ X es c)(h5:(x == ("__debug__" : Str))=false:=by decide)(t:Be (b::es) X.env=(false,eval b X.env)::Be es X.env:=by rfl)(k4:(Gh pos (Be es X.env)).any (·.1)=false:=by rfl):Fi X (.Call (.Name x p) (b::es) [] pos) (jE i j c):=by
 refine PE.imp (Vw F hr hg hm hk hb .nil hx (Gp h0 R t) h5 t k4) λσ H Q h=>?_
 obtain ⟨H0,Y,S,T,δ,P,rfl,hS,hA,hd,kk⟩:=h
 unfold jE at hd
 split at hd
 case h_2=>exact hd.elim
 rename_i h3
 have h2:∀w,(vs S)[i]? = some (some w)->LA X.K c (vs S) H λxs H2=>jF X.K j ((w::xs)++[]) H2 Q E:=λw hw=>by
  refine ⟨H0,Y,S,T,δ,_,rfl,hS,hA,hd,λxs O U us B H' e1 e2 ex eu J p=>?_⟩
  subst ex
  unfold jN at p
  split at p
  ·rename_i ds k5 q
   obtain ⟨np,p⟩:=p
   have Z:=nY np
   obtain ⟨m,G,s2⟩:=Hi e2 k5
   have M:m∈B:=Aq G
   have hv:m.v=some w:=by
    have:=Jm G
    rw[e1,hw] at this
    exact (Bl this).symm
   obtain ⟨u,z,F⟩:=m
   have N:z=.drw:=s2
   subst N
   have hE:(⟨u,.drw,F⟩ : Ent)∈B++(U++T):=Ah _ M
   obtain ⟨C,c0,k0,f0,D,k8,k6,k7,h7⟩:=J.ok _ hE
   have ew:some w=some (V.ref C):=hv.symm.trans D
   cases ew
   have k3:F=[C]:=k8
   subst k3
   have pm:(B++(U++T)).Perm (⟨u,.drw,[C]⟩::(B.eraseIdx i++(U++T))):=((Hq G).append_right _)
   have hM:=J.perm pm
   have L:=Ay.mp hM.sep
   have h6:At X.K H0 Y O.n (B.eraseIdx i++T) H':=hM.sub (((Ck _).append (Ca U T)).cons _)
   rw[Dd]
   refine ⟨C,us,U,O.n,ds,_,(B.eraseIdx i++T).flatMap cells,rfl,eu,λe t=>J.ok e (Af _ (Ah _ t)),λe t=>?_,⟨c0,k0,f0,k6,k7,h7⟩,q,p,λz=>?_,λa R=>?_,λv d F n' I hn r rd fr s h1=>?_⟩
   ·exact (L.1 e (Af _ (Ah _ t))).1 (.inr rfl) C Aa
   ·obtain ⟨g,hg1,y⟩:=Cb.mp z
    refine (L.1 g ?_).1 (.inr rfl) C Aa (Gu _ _ y)
    rcases Am.mp hg1 with h | h
    ·exact Ah _ h
    ·exact Af _ (Af _ h)
   ·obtain ⟨g,hg1,y⟩:=Cb.mp R
    refine ⟨λz=>?_,λe t=>?_⟩
    ·obtain ⟨o,q⟩:=(h6.ok g hg1).dom a (Gu _ _ y)
     rw[z] at q; cases q
    ·obtain ⟨_,h4,hp⟩ := Bu.mp L.2
     rcases Am.mp hg1 with hg1 | hg1
     ·exact (hp g hg1 e (Ah _ t)).1 (.inl (Z e t)) a y
     ·exact ((Bu.mp h4).2.2 e t g hg1).2 (.inl (Z e t)) a y
   ·obtain ⟨c1,k1,f1,hD,_⟩:=id h1
    have nF:=RdF.nodr hD rd r.1
    have h9:=hM.drawn Aa rfl D s h1 hn
    have h8:At X.K H0 Y n' (⟨u,.drw,[C]⟩::(B.eraseIdx i++T)) I:=h9.sub (((Ck _).append (Ca U T)).cons₂ _)
    have k2:At X.K H0 Y n' (B++T) I:=h8.perm (((Hq G).append_right T).symm)
    refine kk _ ⟨O.sl,n'⟩ v F B I e1 e2 ((k2.pushS rd λg hg a R z=>?_).tomid) r.2
    have hg':g∈(⟨u,.drw,[C]⟩ : Ent)::(B.eraseIdx i++T):=((Hq G).append_right T).mem_iff.mp hg
    rcases Ai.mp hg' with rfl | hg'
    ·rw[Ac.mp (Gu _ _ R)] at z
     exact nF z
    ·exact fr a z (Cb.mpr ⟨g,hg',R⟩)
  ·exact p.elim
 obtain ⟨m,G,s2⟩:=Hi hS h3
 have M:m∈S:=Aq G
 obtain ⟨u,z,F⟩:=m
 have N:z=.drw:=s2
 subst N
 obtain ⟨C,c0,k0,f0,D,_⟩:=hA.ok _ (Ah _ M)
 have hw:(vs S)[i]? = some (some (.ref C)):=(Jm G).trans (congrArg some D)
 exact ⟨_,hw,h2 _ hw⟩
end
def LX(f:DB)(D:DEnds)(I:DS->Prop)(e:DS->Nat)(c:DS)(b:Bool)(d:DS):Prop:=match b with
 | true=>f { D with nx:=λa=>I a/\e a<e c,ct:=λa=>I a/\e a<e c,bk:=D.nx } d
 | false=>D.nx d
theorem o7{dt:DT}{b:DB}{D:DEnds}{c:DS}(I:DS->Prop)(d:DS->Nat)(h0:I c)(h:∀a,I a->dt a (LX b D I d a)):j5 dt b D c:=⟨I,d,h0,h⟩
theorem Y0{f:DB}{D:DEnds}{I:DS->Prop}{e:DS->Nat}{c d:DS}{b:Bool}(h1:b=true->f { D with nx:=λa=>I a/\e a<e c,ct:=λa=>I a/\e a<e c,bk:=D.nx } d)(g:b=false->D.nx d):LX f D I e c b d:=by
 cases b with
 | true=>exact h1 rfl
 | false=>exact g rfl
end DL
namespace NdS
open PySem
theorem iQ{m:Nat}:∀{f i t:Nat},t<f->it m t i∈GV m f i
 | f+1,i,0,_=>Aa ..
 | f+1,i,t+1,h=>Ad _ (iQ (Nat.lt_of_succ_lt_succ h))
theorem BI{m:Nat}(i:Nat):st (2 * m) i % m=st m (i % m):=by
 unfold st
 rw[Nat.mod_mod_of_dvd _ ⟨2,by omega⟩,Ro,Nat.mul_mod]
 conv=>rhs; rw[Ro,Nat.mul_mod,Nat.mod_mod]
theorem p7{m:Nat}:∀(t i:Nat),it (2 * m) t i % m=it m t (i % m)
 | 0,i=>rfl
 | t+1,i=>by
  show it (2 * m) t (st (2 * m) i) % m=it m t (st m (i % m))
  rw[p7 t,BI]
theorem Z9{m i:Nat}(h:0<m):st m i<m:=Qh _ h
theorem Y5{m:Nat}(h:0<m):∀{t i:Nat},i<m->it m t i<m
 | 0,_,hi=>hi
 | t+1,i,hi=>Y5 h (t:=t) (Z9 h)
theorem O7{m i:Nat}:st (2 * m) ((i+m) % (2 * m))=(st (2 * m) i+m) % (2 * m):=by
 unfold st
 have e:(i+m) * 5+1=i * 5+1+m+2 * (2 * m):=by omega
 rw[Ro,Nat.mul_mod,Nat.mod_mod,<- Nat.mul_mod,<- Ro,e,Nat.add_mul_mod_self_right,Ro]
 conv=>rhs; rw[Ro,Nat.mod_mod]
theorem tY{m:Nat}:∀(t i:Nat),i<2 * m->it (2 * m) t ((i+m) % (2 * m))=(it (2 * m) t i+m) % (2 * m)
 | 0,i,_=>rfl
 | t+1,i,h=>by
  show it (2 * m) t (st (2 * m) ((i+m) % (2 * m)))=_
  rw[O7,tY t _ (Z9 (by omega))]
  rfl
theorem Ow{m:Nat}(g:Kl m)(h:it (2 * m) m 0=m):Kl (2 * m):=by
 obtain ⟨l,j,i⟩:=g
 have a:∀t,it (2 * m) (m+t) 0=(it (2 * m) t 0+m) % (2 * m):=λt=>by
  rw[cO,h]
  have:=tY (m:=m) t 0 (by omega)
  rw[Kd,Ik (show m<2 * m by omega)] at this
  exact this
 refine ⟨by omega,?_,λe b=>?_⟩
 ·have:=a m
  rw[h,show m+m=2 * m by omega,Nat.mod_self] at this
  exact this
 ·obtain ⟨t,p,n⟩:=Zt (i (e % m) (Qh _ l))
  have k:=p7 (m:=m) t 0
  rw[Nat.zero_mod,n] at k
  have lt:it (2 * m) t 0<2 * m:=Y5 (by omega) (by omega)
  by_cases c:it (2 * m) t 0=e
  ·rw[<- c]; exact iQ (by omega)
  ·have o:=a t
   have : (it (2 * m) t 0+m) % (2 * m)=e:=by
    generalize it (2 * m) t 0=x at k lt c
    have up:∀{y},m<=y->y<2 * m->y % m=y - m:=λ{y} j i=>by rw[Nat.mod_eq_sub_mod j,Ik (by omega)]
    by_cases f:x<m <;> by_cases d:e<m
    ·rw[Ik f,Ik d] at k; omega
    ·rw[Ik f,up (by omega) b] at k
     rw[Ik (by omega)]; omega
    ·rw[up (by omega) lt,Ik d] at k
     rw[show x+m=e+2 * m by omega,Nat.add_mod_right,Ik b]
    ·rw[up (by omega) lt,up (by omega) b] at k; omega
   rw[<- this,<- o]
   exact iQ (by omega)
theorem uS:Kl 512:=Ow uG (by decide +kernel)
theorem lE:Kl 1024:=Ow uS (by decide +kernel)
theorem nP:Kl 2048:=Ow lE (by decide +kernel)
theorem mW:Kl 4096:=Ow nP (by decide +kernel)
theorem J0:Kl 8192:=Ow mW (by decide +kernel)
theorem x3:∀{i:Nat},i<=10->Kl (2 ^ (i+3))
 | 0,_=>AB | 1,_=>AW | 2,_=>DK | 3,_=>AL | 4,_=>O0 | 5,_=>uG
 | 6,_=>uS | 7,_=>lE | 8,_=>nP | 9,_=>mW | 10,_=>J0
 | i+11,h=>absurd h (by omega)
theorem mB{n:Nat}(a:n<8192):∀(j i f:Nat),i+j=10->∃k,i<=k/\k<=10/\Ll n (f+j+1) (2 ^ (i+3))=2 ^ (k+3)/\n<2 ^ (k+3)
 | 0,i,f,h=>by
  have : i=10:=by omega
  subst this
  refine ⟨10,Aj _,Aj _,?_,a⟩
  unfold Ll
  rw[if_neg (by show ¬ 8192<=n; omega)]
 | j+1,i,f,h=>by
  by_cases c:2 ^ (i+3)<=n
  ·obtain ⟨k,g,d,b,e⟩:=mB a j (i+1) f (by omega)
   refine ⟨k,by omega,d,?_,e⟩
   rw[<- b,show f+(j+1)+1=(f+j+1)+1 by omega]
   show (if 2 ^ (i+3)<=n then Ll n (f+j+1) (2 ^ (i+3) * 2) else _)=_
   rw[if_pos c,<- Mu]
  ·refine ⟨i,Aj _,by omega,?_,Nat.lt_of_not_le c⟩
   show (if 2 ^ (i+3)<=n then Ll n (f+(j+1)) (2 ^ (i+3) * 2) else _)=_
   rw[if_neg c]
theorem B9{n:Nat}(c:n<8192):∃m,Vh n=m+1/\Kl (m+1)/\n<=m/\7<=m/\m<8192/\m % 2=1:=by
 obtain ⟨k,g,b,a,h⟩:=mB c 10 0 53 rfl
 have d:Vh n=2 ^ (k+3):=a
 have e:2 ^ (k+3)=2 ^ k * 8:=Nat.pow_add 2 k 3
 have p:0<2 ^ k:=Nat.pow_pos (by decide)
 have up:2 ^ (k+3)<=2 ^ 13:=Gm (by decide) (by omega)
 have f:2 ^ (k+3)<=8192:=up
 refine ⟨2 ^ (k+3) - 1,by omega,?_,by omega,by omega,by omega,by omega⟩
 rw[show 2 ^ (k+3) - 1+1=2 ^ (k+3) by omega]
 exact x3 b
theorem wA{t:Dk}{es:Array (Int×Value)}{a:Nat}(e:t.plain=true)(hw:a<8192)(l:es.size * 2<=a):∃(t':Dk) (order:Array Nat),t.relaid (es.map (·.1)) a=some (t',order)/\order.toList.Perm (Ce es.size)/\Tab es.size t'/\t'.mask % 2=1/\Vh a<=8192:=by
 obtain ⟨m,f,g,n,k,i,h⟩:=B9 hw
 have sz:(es.map (·.1)).size=es.size:=Array.size_map ..
 obtain ⟨t',order,d,c,b,j⟩:=F6 (mask:=m) (finger:=t.finger) (moves:=t.movedTo m) (led:=t.led) g (es.map (·.1)) (by rw[sz]; omega)
 rw[sz] at c b
 refine ⟨t',order,?_,c,b,?_,by omega⟩
 ·unfold SetTable.relaid
  rw[f,Nat.add_sub_cancel,e]
  exact d
 ·rw[(cH d).2.1]; exact h
def E6(t:Dk):Nat->Hm->Hm
 | 0,p=>p
 | k+1,p=>E6 t k (t.advance p)
structure WayOk(t:Dk)(p:Hm):Prop where
 more:p.more<=9
 top:p.j+p.more<=t.mask
 dum:p.dummy=none
theorem WayOk.next{t:Dk}{p:Hm}(x:WayOk t p):WayOk t (t.advance p):=by
 obtain ⟨e,d,a⟩:=x
 unfold Yl
 split
 ·exact ⟨by dsimp only; omega,by dsimp only; omega,a⟩
 ·rw[tI]
  have b:(p.i * 5+1+p.perturb / 32) % (t.mask+1)<=t.mask:=iD.mp (Qh _ (aK _))
  have f:=fY b
  have c:=Xo t.mask ((p.i * 5+1+p.perturb / 32) % (t.mask+1))
  exact ⟨Yi _ _,by dsimp only; omega,a⟩
theorem Xx{t:Dk}(h:Int):WayOk t (t.probeStart h):=by
 have a:Eb h % (t.mask+1)<=t.mask:=iD.mp (Qh _ (aK _))
 have c:=fY a
 have b:=Xo t.mask (Eb h % (t.mask+1))
 exact ⟨Yi _ _,by show Eb h % (t.mask+1)+(Jx t.mask (Eb h % (t.mask+1)) - Eb h % (t.mask+1))<=t.mask; omega,rfl⟩
theorem jQ{t:Dk}:∀(k:Nat) (p:Hm),p.more=k->∃q:Hm,E6 t (k+1) p=q/\q.j=((p.i * 5+1+p.perturb / 32) % (t.mask+1))/\q.i=q.j/\q.perturb=p.perturb / 32/\q.more<=9
 | 0,p,h=>by
  refine ⟨_,rfl,?_⟩
  show (t.advance p).j=_/\(t.advance p).i=(t.advance p).j/\(t.advance p).perturb=_/\(t.advance p).more<=9
  unfold Yl
  rw[if_neg (by omega),tI]
  exact ⟨rfl,rfl,rfl,Yi _ _⟩
 | k+1,p,h=>by
  have e:t.advance p={ p with j:=p.j+1,more:=p.more - 1 }:=by
   unfold Yl
   rw[if_pos (by omega)]
  obtain ⟨q,d,b,c,a,f⟩:=jQ k (t.advance p) (by rw[e]; show p.more - 1=k; omega)
  rw[e] at b a
  exact ⟨q,d,b,c,a,f⟩
theorem uM{t:Dk}:∀(a b:Nat) (p:Hm),E6 t (a+b) p=E6 t b (E6 t a p)
 | 0,b,p=>by rw[Kd]; rfl
 | a+1,b,p=>by rw[Za]; exact uM a b _
theorem fV{t:Dk}:∀(u:Nat) (p:Hm),p.more<=9->∃k,k<=p.more+1+10 * u/\(E6 t k p).j=(lp (t.mask+1) (u+1) p.i p.perturb).1
 | 0,p,h=>by
  obtain ⟨q,b,a,c,d,e⟩:=jQ (t:=t) p.more p rfl
  exact ⟨p.more+1,by omega,by rw[b]; exact a⟩
 | u+1,p,h=>by
  obtain ⟨q,b,a,c,d,e⟩:=jQ (t:=t) p.more p rfl
  obtain ⟨k,g,f⟩:=fV u q e
  refine ⟨p.more+1+k,by omega,?_⟩
  rw[uM,b,f,c,a,d]
  rfl
theorem wC{t:Dk}{n:Nat}(x:Tab n t)(h:Int):∃k,k<10 * Hl t.mask/\t.slot (E6 t k (t.probeStart h)).j=.empty:=by
 have l:=Zz x
 obtain ⟨e,c,b⟩:=M3 (m:=t.mask+1) x.rise (by rw[An,x.size]; omega)
 obtain ⟨u,o,a⟩:=oW x.good (i:=Eb h % (t.mask+1)) (p:=Eb h) (e:=e) (Qh _ (aK _)) (tQ h) c
 have f:10 * Hl t.mask=10 * t.mask+150:=by unfold Hl; omega
 cases u with
 | zero=>exact ⟨0,by omega,(Vb x.toTabOk).mpr (by rw[show (E6 t 0 (t.probeStart h)).j=e from a]; exact b)⟩
 | succ u =>
  obtain ⟨k,g,d⟩:=fV (t:=t) u (t.probeStart h) (Xx h).more
  have:=(Xx (t:=t) h).more
  exact ⟨k,by omega,(Vb x.toTabOk).mpr (by rw[d,show (lp (t.mask+1) (u+1) (t.probeStart h).i (t.probeStart h).perturb).1=e from a]; exact b)⟩
theorem lP{t:Dk}{n:Nat}(x:TabOk n t){f:Nat->Int}{h:Int}:∀(fuel k:Nat) (p:Hm),WayOk t p->k<fuel->t.slot (E6 t k p).j=.empty->(∃j,Ta t f h fuel p=some (.empty j none)/\t.slot j=.empty/\j<=t.mask)\/(∃j i q l,Ta t f h fuel p=some (.candidate j i q)/\t.slot j=.live i/\f i=h/\l<k/\WayOk t q/\t.slot (E6 t l q).j=.empty)
 | 0,k,p,_,h,_=>absurd h (Gd _)
 | fuel+1,k,p,w,hk,he=>by
  unfold Ta
  split
  ·rename_i g
   exact .inl ⟨p.j,by rw[w.dum],g,by have:=w.top; omega⟩
  ·rename_i g
   exact absurd g (dA x)
  ·rename_i i g
   cases k with
   | zero=>exact absurd (show t.slot p.j=.empty from he) (by rw[g]; intro z; cases z)
   | succ k =>
    by_cases c:(f i == h)=true
    ·rw[if_pos c]
     exact .inr ⟨p.j,i,_,k,rfl,g,by simpa using c,eI _,w.next,he⟩
    ·rw[if_neg c]
     rcases lP x fuel k _ w.next (by omega) he with q | ⟨j,m,q,l,a,b,c,d,e⟩
     ·exact .inl q
     ·exact .inr ⟨j,m,q,l,a,b,c,by omega,e⟩
theorem vZ{t:Dk}{n j i:Nat}(x:TabOk n t)(h:t.slot j=.live i):i<n:=by
 unfold SetTable.slot at h
 dsimp only at h
 split at h
 ·rename_i c
  injection h with h
  subst h
  have a:t.place[Dm t.place j]? = some j:=by simpa using c
  have:=(Il.mp a).1
  rw[<- x.size]
  exact this
 ·split at h <;> cases h
end NdS
namespace NdS
open PySem PyProof.Rows
def C2(prog:Bq)(w:World)(U:List (List Int))(h:Heap)(e:Int×Value):Prop:=∃(b:Addr) (a:List Int),e=(Eo (Ep prog w) a,.ref b)/\Kx (Ep prog w) h a b/\a∈U
structure SetT(prog:Bq)(w:World)(U:List (List Int))(h:Heap)(a:Addr)(es:Array (Int×Value))(ep:Nat)(t:Dk):Prop where
 obj:h.get? a=some (Kb es ep t)
 ent:∀e∈es.toList,C2 prog w U h e
 tab:Tab es.size t
 odd:t.mask % 2=1
 top:t.mask<8192
 few:es.size<=1100
def Kept(h h':Heap):Prop:=∀b o,o.cls=.type "set" \/ o.cls=.type "tuple" -> h.get? b=some o->h'.get? b=some o
def Wr(h h':Heap):Prop:=∀b o,o.cls=.type "tuple" -> h.get? b=some o->h'.get? b=some o
theorem Kept.t{h h':Heap}(k:Kept h h'):Wr h h':=λb o c e=>k b o (.inr c) e
theorem C2.keep{prog:Bq}{w:World}{U V:List (List Int)}{h h':Heap}{e:Int×Value}(x:C2 prog w U h e)(k:Wr h h')(s:∀y∈U,y∈V):C2 prog w V h' e:=by
 obtain ⟨b,i,e,⟨o,a,n,d,c,f,g⟩,j⟩:=x
 exact ⟨b,i,e,⟨o,a,n,k b o c d,c,f,g⟩,s _ j⟩
theorem tO{prog:Bq}{w:World}{h h':Heap}{ks:List Int}{b:Addr}(x:Kx (Ep prog w) h ks b)(k:Wr h h'):Kx (Ep prog w) h' ks b:=by
 obtain ⟨o,a,n,d,c,e,f⟩:=x
 exact ⟨o,a,n,k b o c d,c,e,f⟩
theorem SetT.keep{prog:Bq}{w:World}{U:List (List Int)}{h h':Heap}{a:Addr}{es:Array (Int×Value)}{b:Nat}{t:Dk}(S:SetT prog w U h a es b t)(k:Kept h h'):SetT prog w U h' a es b t :=
 ⟨k _ _ (.inl rfl) S.obj,λe c=>(S.ent e c).keep k.t λ_ z=>z,S.tab,S.odd,S.top,S.few⟩
theorem cU{h h':Heap}{a:Addr}{o:Obj}(d:h.get? a=some o)(f:o.cls≠.type "tuple")(g:Jf a h h'):Wr h h':=λb i c e=>by
 by_cases z:b=a
 ·subst z
  rw[d] at e
  cases e
  exact absurd c f
 ·exact (g.2 b z).trans e
theorem yQ{n:Nat}(h:n<=1200):n<=Bc:=by rw[Iw]; omega
section
variable{prog:Bq}{w:World}{A:Df}{E:Value->Al->Prop}{s:Al}{U:List (List Int)}
theorem Tp{a:Addr}{es:Array (Int×Value)}{b:Nat}{t:Dk}{Q:(Array (Int×Value)×Nat×Dk)->Al->Prop}(S:SetT prog w U s.heap a es b t)(h:Q (es,b,t) s):wpAny (model prog w) A (setState a) Q E s :=
 wpAny_setState_of S.obj rfl S.tab.fits h
theorem yX{ks:List Int}{a:Addr}{Q:Bool->Al->Prop}(i:Kx (Ep prog w) s.heap ks a)(h:Q true s):wpAny (model prog w) A (Yy 8 (.ref a)) Q E s:=by
 have y:=i.typeIs
 obtain ⟨o,b,n,p,_,q,u⟩:=i
 unfold Yy
 refine Ag (wpAny_specialOf y F.slot_tuple_hash.lookup ?_)
 dsimp only
 refine Ag (wpAny_seqItems p q ?_)
 refine Ag ?_
 show wpAny _ _ (forIn b _ _) _ _ s
 rw[<- Array.forIn_toList]
 refine Um _ (λGi r e=>r.1=none/\e=s/\∃l,ItemsAre (Ep prog w) l Gi) _ ?_ ?_ _ _ ⟨rfl,rfl,_,u⟩
 ·(intro v Gi r e f; obtain ⟨g,rfl,l,d⟩ := f)
  cases d with
  | @cons k G B t j x =>
   obtain ⟨c,rfl⟩ : ∃c,v=.int k c:=by
    cases v <;> simp [Ep,Value.isInt] at j
    rename_i z c
    exact ⟨c,by rw[j]⟩
   refine Ag (m:=Yy 7 (.int k c)) (wpAny_of_eq (a:=true) (show Yy 7 (.int k c)=pure true by unfold Yy; rfl) ?_)
   simp only[Mc,Bw,if_false]
   exact Aw ⟨rfl,rfl,_,x⟩
 ·(rintro ⟨D,C⟩ e f; obtain ⟨g,rfl,_⟩ := f)
  simp only at g
  subst g
  exact Aw h
theorem gI{ks:List Int}{a:Addr}{Q:Bool->Al->Prop}(i:Kx (Ep prog w) s.heap ks a)(h:Q false s):wpAny (model prog w) A (Nm 8 (.ref a)) Q E s:=by
 have y:=i.typeIs
 obtain ⟨o,b,n,p,_,q,u⟩:=i
 unfold Nm
 refine Ag (Nl y ?_)
 dsimp only
 rw[if_pos (by decide)]
 refine Ag (Aw ?_)
 simp only[Mc,Bw,if_false]
 refine Ag (wpAny_seqItems p q ?_)
 dsimp only
 refine Ag ?_
 show wpAny _ _ (forIn b _ _) _ _ s
 rw[<- Array.forIn_toList]
 refine Um _ (λGi r e=>r.1=none/\e=s/\∃l,ItemsAre (Ep prog w) l Gi) _ ?_ ?_ _ _ ⟨rfl,rfl,_,u⟩
 ·(intro v Gi r e f; obtain ⟨g,rfl,l,d⟩ := f)
  cases d with
  | @cons k F B t j x =>
   obtain ⟨c,rfl⟩ : ∃c,v=.int k c:=by
    cases v <;> simp [Ep,Value.isInt] at j
    rename_i z c
    exact ⟨c,by rw[j]⟩
   refine Ag (m:=Nm 7 (.int k c)) (wpAny_of_eq (a:=false) (show Nm 7 (.int k c)=pure false by unfold Nm; rfl) ?_)
   simp only[Bw,if_false]
   exact Aw ⟨rfl,rfl,_,x⟩
 ·(rintro ⟨D,C⟩ e f; obtain ⟨g,rfl,_⟩ := f)
  simp only at g
  subst g
  exact Aw h
theorem V7{x:Addr}{k:List Int}{stored:List Value}{Q:Bool->Al->Prop}(j:Kx (Ep prog w) s.heap k x)(l:∀y∈stored,∃b e,y=Bd b/\Kx (Ep prog w) s.heap e b)(h:Q false s):wpAny (model prog w) A (searchCouldBeSeen (.ref x) stored) Q E s:=by
 unfold searchCouldBeSeen
 refine Ag ?_
 refine Um _ (λGi r f=>r.1=none/\f=s/\∀y∈Gi,∃b e,y=Bd b/\Kx (Ep prog w) s.heap e b) _ ?_ ?_ _ _ ⟨rfl,rfl,l⟩
 ·(intro v Gi r f g; obtain ⟨i,rfl,c⟩ := g)
  obtain ⟨b,e,rfl,d⟩:=c _ (Aa ..)
  have a:=λy d=>c y (Ad _ d)
  dsimp only
  split
  ·exact Aw ⟨rfl,rfl,a⟩
  ·refine Ag (wpAny_eqIsQuiet_tuple j ?_)
   simp only[Mc,Bw,if_false]
   refine Ag (wpAny_eqIsQuiet_tuple d ?_)
   simp only[Mc,Bw,if_false]
   refine Ag (gI j ?_)
   simp only[Bw,if_false]
   refine Ag (gI d ?_)
   simp only[Bw,if_false]
   exact Aw ⟨rfl,rfl,a⟩
 ·(rintro ⟨n,m⟩ f g; obtain ⟨i,rfl,_⟩ := g)
  simp only at i
  subst i
  exact Aw h
theorem gP{a x:Addr}{g:List Int}{es:Array (Int×Value)}{O:Nat}{t:Dk}{Q:SetFound->Al->Prop}(S:SetT prog w U s.heap a es O t)(D:A.units<cLine)(p:Kx (Ep prog w) s.heap g x)(h1:g∈U->Q (.there none) s)(G:∀j,t.slot j=.empty->j<=t.mask->Q (.free j false) s):∀(fuel k:Nat) (d:Option Hm),WayOk t (d.getD (t.probeStart (Eo (Ep prog w) g)))->k<fuel->k<10 * Hl t.mask->t.slot (E6 t k (d.getD (t.probeStart (Eo (Ep prog w) g)))).j=.empty->wpAny (model prog w) A (dN a (.ref x) (Eo (Ep prog w) g) true fuel d) Q E s
 | 0,k,_,_,h,_,_=>absurd h (Gd _)
 | fuel+1,k,d,wo,hk,hk2,he=>by
  have K:t.gaveWay=false:=by unfold SetTable.gaveWay; rw[S.odd]; rfl
  unfold dN
  refine Ag (Tp S ?_)
  dsimp only
  rw[K]
  simp only[Bw,if_false]
  rcases lP S.tab.toTabOk (f:=λi=>(es[i]?.map (·.1)).getD 0) (h:=Eo (Ep prog w) g) (10 * Hl t.mask) k _ wo hk2 he with ⟨j,e,o,jm⟩ | ⟨j,i,q,M,e,o,T,lt,C,u⟩
  ·have r:t.probe (λi=>(es[i]?.map (·.1)).getD 0) (Eo (Ep prog w) g) (d.getD (t.probeStart (Eo (Ep prog w) g)))=some (.empty j none):=e
   rw (transparency:=.all) [r]
   exact Aw (G j o jm)
  ·have r:t.probe (λi=>(es[i]?.map (·.1)).getD 0) (Eo (Ep prog w) g) (d.getD (t.probeStart (Eo (Ep prog w) g)))=some (.candidate j i q):=e
   rw (transparency:=.all) [r]
   dsimp only
   have H:=vZ S.tab.toTabOk o
   have m:es[i]? = some es[i]:=kU H
   obtain ⟨b,I,F,v,N⟩:=S.ent es[i] (by simp)
   have Gi:wpAny (model prog w) A (do
     let some (_,y):=es[i]? | unsupported "internal:set-entry"
     let equal <- Sy [y] (eqBool y (.ref x))
     let (es',_,t') <- setState a
     if true && equal then return .there none
     let some same:=t'.sameMemory t.moves t.mask | unsupported "set.changed-during-lookup:is-the-new-block-at-the-old-address"
     let still <- match (if same then t'.slot j else .empty) with
      | .live n=>match es'[n]? with
       | some (_,y')=>do pure (if <- isSame y' y then some n else none)
       | none=>pure none
      | _=>pure none
     match still with
     | none=>rule "set.search.anew"; dN a (.ref x) (Eo (Ep prog w) g) true fuel none
     | some n=>if equal then return .there (some n) else dN a (.ref x) (Eo (Ep prog w) g) true fuel (some q)) Q E s:=by
    rw[m,F]
    dsimp only
    refine Ag (Eg (wpAny_eqBool_tuple D v p ?_))
    refine Ag (Tp S ?_)
    dsimp only
    by_cases c:I=g
    ·rw[decide_eq_true c,if_pos (by decide)]
     exact Aw (h1 (by rw[<- c]; exact N))
    ·rw[decide_eq_false c,if_neg (by decide)]
     have J:t.sameMemory t.moves t.mask=some true:=by unfold SetTable.sameMemory; rw[if_pos (by simp)]
     rw[J]
     dsimp only
     rw[if_pos rfl,o]
     dsimp only
     rw[m,F]
     dsimp only
     refine Ag (wpAny_isSame_ref_self (Ag (Aw ?_)))
     rw[if_pos rfl]
     dsimp only
     rw[if_neg (by decide)]
     exact gP S D p h1 G fuel M (some q) C (by omega) (by omega) u
   by_cases l:t.led=true
   ·rw[l]
    simp only[Mc,Bw,if_false]
    exact Gi
   ·rw[Bool.not_eq_true] at l
    rw[l]
    simp only[Bool.not_false,if_true]
    refine Ag (V7 p (λy v=>?_) ?_)
    ·obtain ⟨P,z,rfl⟩:=Cn.mp v
     obtain ⟨L,B,rfl,R,_⟩:=S.ent P (by
      have:=Array.mem_def.mp (Array.mem_filter.mp (Array.mem_def.mpr z)).1
      exact this)
     exact ⟨L,B,rfl,R⟩
    ·simp only[Bw,if_false]
     exact Gi
end
section
variable{prog:Bq}{w:World}{A:Df}{E:Value->Al->Prop}{s:Al}{U:List (List Int)}
theorem JW{t:Dk}{es:Array (Int×Value)}(x:Tab es.size t)(e:Int×Value){j:Nat}(g:j∉t.place.toList)(h:j<=t.mask):∃b p,t.put j=(b,p)/\(El es p e).toList.Perm (es.toList++[e])/\(El es p e).size=es.size+1/\TabOk (es.size+1) b/\b.mask=t.mask/\b.plain=true:=by
 have i:=Zz x
 have perm:=kS es (Dm t.place j) e
 rw[Kq] at perm
 have size:(El es (Dm t.place j) e).size=es.size+1:=by
  rw[<- An,perm.length_eq,Ar,An]
  rfl
 have c:=kS t.place (Dm t.place j) j
 rw[Kq] at c
 have a:(El t.place (Dm t.place j) j).size=es.size+1:=by
  rw[<- An,c.length_eq,Ar,An,x.size]
  rfl
 have f:SetTable.has t.dummies j=false:=by rw[x.dum]; rfl
 have ok:TabOk (es.size+1) { t with place:=El t.place (Dm t.place j) j } :=
  ⟨x.good,x.dum,x.plain,lF x.rise g,λe d=>by
   rcases Am.mp (c.mem_iff.mp d) with z | z
   ·exact x.top e z
   ·rw[Ac.mp z]; exact h,a⟩
 refine ⟨{ t with place:=El t.place (Dm t.place j) j },Dm t.place j,?_,perm,size,ok,rfl,x.plain⟩
 unfold SetTable.put
 simp only[f,Bw,if_false]
theorem qD{a:Addr}{es:Array (Int×Value)}{q:Nat}{t:Dk}{b:Nat}{Q:Unit->Al->Prop}(f:s.heap.get? a=some (Kb es q t))(i:∀e∈es.toList,C2 prog w U s.heap e)(ok:TabOk es.size t)(le:es.size<=t.mask)(j:es.size<=1100)(hw:b<8192)(r:es.size * 2<=b)(h:∀c g t' h',Jf a s.heap h'->SetT prog w U h' a c g t'->c.size=es.size->Q () { s with heap:=h' }):wpAny (model prog w) A (setRelay a b) Q E s:=by
 obtain ⟨t',order,k,u,m,o,x⟩:=wA (es:=es) ok.plain hw r
 obtain ⟨p,d⟩:=EL es u
 have mk:t'.mask<8192:=by
  unfold SetTable.relaid at k
  rw[(cH k).2.1]
  omega
 unfold setRelay
 refine Ag (wpAny_setState_of f rfl (ok.fits le) ?_)
 dsimp only
 rw[if_neg (by rw[Iw]; omega),k]
 refine Ag ?_
 show wpAny (model prog w) A (do
  if (order.filterMap (es[·]?)).size != es.size then unsupported "internal:set-table-lost-an-element"
  pure (order.filterMap (es[·]?),t')) _ _ _
 rw[if_neg (by rw[d]; simp)]
 refine Aw ?_
 dsimp only
 refine wpAny_storeSet_of f rfl ?_ (yQ (by rw[d]; omega))
 have l:=Dr s.heap a (Yz (order.filterMap (es[·]?)) t')
 have v:Wr s.heap _:=cU f (by show Ek "set" ≠ Ek "tuple"; decide) l
 exact h _ _ _ _ l ⟨tU f _ _,λe n=>(i e (p.mem_iff.mp n)).keep v λ_ z=>z,by rw[d]; exact m,o,mk,by rw[d]; exact j⟩ d
theorem N7{a x:Addr}{c:List Int}{es:Array (Int×Value)}{J:Nat}{t:Dk}{Q:Bool->Al->Prop}(S:SetT prog w U s.heap a es J t)(V:es.size<1100)(L:A.units<cLine)(u:Kx (Ep prog w) s.heap c x)(h:∀b d m t' h',Jf a s.heap h'->SetT prog w (c::U) h' a d m t'->d.size<=es.size+1->(c∉U->d.size=es.size+1)->Q b { s with heap:=h' }):wpAny (model prog w) A (setAddHashed a (.ref x) (Eo (Ep prog w) c)) Q E s:=by
 unfold setAddHashed setAddHashedIn
 refine Eg (Ag (Tp S ?_))
 dsimp only
 rw[if_neg (show ¬ (byScan (.ref x) es=true) from λz=>by simp [byScan,Value.scannable] at z)]
 obtain ⟨k,G,l⟩:=wC S.tab (Eo (Ep prog w) c)
 have B:k<100000:=by
  have:=S.top
  unfold Hl at G
  omega
 unfold setSearch
 refine Ag (gP S L u (λI=>?_) (λj P jm=>?_) 100000 k none (Xx _) B G l)
 ·dsimp only
  refine Aw ?_
  exact h false es J t s.heap (Heap.SameBut.refl a s.heap) ⟨S.obj,λe l=>(S.ent e l).keep (λ_ _ _ z=>z) λ_ z=>Ad _ z,S.tab,S.odd,S.top,S.few⟩ (by omega) (λz=>absurd I z)
 ·dsimp only
  refine Ag (Tp S ?_)
  dsimp only
  obtain ⟨g,p,M,N,H,f,D,y⟩:=JW S.tab (Eo (Ep prog w) c,Bd x) ((Vb S.tab.toTabOk).mp P) jm
  rw[M]
  dsimp only
  rw[y,if_pos rfl]
  refine Ag (yX u ?_)
  rw[if_pos rfl]
  have v:(El es p (Eo (Ep prog w) c,Bd x)).size<=1200:=by omega
  refine Ag (wpAny_storeSet_of S.obj rfl ?_ (yQ v))
  have C:=Dr s.heap a (Yz (El es p (Eo (Ep prog w) c,Bd x)) g)
  have O:Wr s.heap _:=cU S.obj (by show Ek "set" ≠ Ek "tuple"; decide) C
  have n:∀e∈(El es p (Eo (Ep prog w) c,Bd x)).toList,C2 prog w (c::U) s.heap e:=λe l=>by
   rcases Am.mp (N.mem_iff.mp l) with z | z
   ·exact (S.ent e z).keep (λ_ _ _ z=>z) λ_ z=>Ad _ z
   ·rw[Ac.mp z]; exact ⟨x,c,rfl,u,Aa ..⟩
  have F:=tU S.obj (El es p (Eo (Ep prog w) c,Bd x)) g
  have i:=λe l=>(n e l).keep O λ_ z=>z
  have I:=Zz S.tab
  by_cases q:g.tooFull=true
  ·rw[q,if_pos (by decide)]
   have K:SetTable.grown (es.size+1)=(es.size+1) * 4:=by unfold SetTable.grown; rw[if_neg (by omega)]
   rw[K]
   refine Ag (qD F i (by rw[H]; exact f) (by omega) (by omega) (by omega) (by omega) λd m t' h' r R T=>Aw ?_)
   exact h true d m t' h' (C.trans r) R (by omega) λ_=>by omega
  ·have o:(es.size+1) * 5<g.mask * 3:=by
    have : ¬ (g.fill * 5 ≥ g.mask * 3):=λz=>q (by unfold SetTable.tooFull; exact decide_eq_true z)
    have e:g.fill=es.size+1:=by
     unfold SetTable.fill
     rw[f.dum,f.size]
     rfl
    omega
   rw[Bool.not_eq_true] at q
   rw[q]
   simp only[Vm,Bw,if_false]
   refine Aw ?_
   exact h true _ _ g _ C ⟨F,i,by rw[H]; exact ⟨f,o⟩,by rw[D]; exact S.odd,by rw[D]; exact S.top,by omega⟩ (by omega) λ_=>by omega
end
section
variable{prog:Bq}{w:World}{A:Df}{R:Result->Al->Prop}
def Vx(prog:Bq)(w:World)(h:Heap)(vs:List Value)(ws:List (List Int)):Prop:=vs.length=ws.length/\∀(i:Nat) (a:i<vs.length) (c:i<ws.length),∃b,vs[i]=Bd b/\Kx (Ep prog w) h ws[i] b
theorem Vx.keep{h h':Heap}{vs:List Value}{ws:List (List Int)}(x:Vx prog w h vs ws)(k:Wr h h'):Vx prog w h' vs ws :=
 ⟨x.1,λi a c=>by obtain ⟨b,e,z⟩:=x.2 i a c; exact ⟨b,e,tO z k⟩⟩
theorem xE{a it l:Addr}(n1:a≠it)(n2:a≠l)(n3:l≠it){d:Array Value}{ws:List (List Int)}(h0:ws.length<=1100)(hh:A.in1.handled=none)(X:A.in1.units<cLine):∀(k i:Nat) (s:Al) (es:Array (Int×Value)) (E:Nat) (t:Dk) (U:List (List Int)),d.size - i=k->i<=d.size->s.heap.IsListIter it l i->s.heap.IsList l d->Vx prog w s.heap d.toList ws->SetT prog w U s.heap a es E t->es.size<=i->(∀x,x∈U->x∈ws.take i)->(ws.Nodup->es.size=i)->(∀n G t' h' tk,(∀b o,b≠a->b≠it->s.heap.get? b=some o->h'.get? b=some o)->SetT prog w ws h' a n G t'->n.size<=ws.length->(ws.Nodup->n.size=ws.length)->R (.ok (.ret .none)) { s with heap:=h',toks:=tk })->Iu (model prog w) A (.builtin "set.update.loop" ⟨[.ref a,.ref it],[]⟩) R s:=by
 intro k
 induction k with
 | zero =>
  intro i s es E t U hk hi f C v S hz D H K
  have len:d.size=ws.length:=by rw[<- v.1,An]
  have e:i=d.size:=by omega
  refine Mr Rm ?_
  rw[Uj Ke _]
  show wpAny _ A.in1 (Yx (.ref it) >>= _) _ _ s
  refine Ag (wpAny_pyNext_list_end hh f C (by rw[e]; simp) λh' x=>?_)
  have kp:Kept s.heap h':=λb o c q=>by
   refine x b o (λz=>?_) q
   subst z
   obtain ⟨o',m,V,_⟩:=f
   rw[m] at q
   cases q
   rw[V] at c
   rcases c with c | c <;> exact absurd c (by decide)
  have p:=S.keep kp
  refine Aw (K es E t h' s.toks (λb o _ q e=>x b o q e) ⟨p.obj,λe he=>(p.ent e he).keep (λ_ _ _ z=>z) λy J=>Vi (D y J),p.tab,p.odd,p.top,p.few⟩ (by omega) λz=>?_)
  rw[H z]
  omega
 | succ k ih =>
  intro i s es E t U hk hi f C v S hz D H K
  have len:d.size=ws.length:=by rw[<- v.1,An]
  have lt:i<d.size:=by omega
  have lt':i<ws.length:=by omega
  obtain ⟨b,ev,hx⟩:=v.2 i (by rw[An]; exact lt) lt'
  have I:d[i]=Bd b:=by simpa using ev
  refine Mr Rm ?_
  rw[Uj Ke _]
  show wpAny _ A.in1 (Yx (.ref it) >>= _) _ _ s
  refine Ag (K8 f C (x:=d[i]) (by simp [lt]) λF u h=>?_)
  rw[I]
  show wpAny _ A.in1 (Sy [Bd b] (setAdd a (.ref b)) >>= _) _ _ _
  refine Ag (Eg ?_)
  unfold setAdd
  have kp:Kept s.heap F:=λb o c q=>by
   refine (h.2 b λz=>?_).trans q
   subst z
   obtain ⟨o',m,V,_⟩:=f
   rw[m] at q
   cases q
   rw[V] at c
   rcases c with c | c <;> exact absurd c (by decide)
  have Z:=S.keep kp
  have B:=tO hx kp.t
  refine Eg (Ag (wpAny_pyHash_tuple (s:={ s with heap:=F }) X B ?_))
  refine N7 (s:={ s with heap:=F,toks:=s.toks+(ws[i].length+1) }) Z (by omega) X B λb' O P t2 h2 g S2 l2 g2=>?_
  refine Aw ⟨plainId_quiet Ke _,?_⟩
  have N:Wr F h2:=cU Z.obj (by show Ek "set" ≠ Ek "tuple"; decide) g
  refine ih (i+1) { s with heap:=h2,toks:=s.toks+(ws[i].length+1) } O P t2 (ws[i]::U) (by omega) lt ?_ ?_ (v.keep λb o c e=>N b o c (kp.t b o c e)) S2 (by omega) (λy J=>?_) (λz=>?_) λL M t3 h3 Q k3 S3 l3 g3=>?_
  ·obtain ⟨o,T,r⟩:=u
   exact ⟨o,(g.2 it (Oh n1)).trans T,r⟩
  ·obtain ⟨o,T,r⟩:=C
   exact ⟨o,(g.2 l (Oh n2)).trans ((h.2 l n3).trans T),r⟩
  ·rw[Jb lt']
   rcases Ai.mp J with q | q
   ·rw[q]; exact Af _ (Ac.mpr rfl)
   ·exact Ah _ (D y q)
  ·rw[g2 λq=>?_,H z]
   have q':=D _ q
   obtain ⟨j,hj,ej⟩:=lA.mp q'
   exact absurd ej (Ew.mp z j i (by omega) lt' (by omega))
  ·exact K L M t3 h3 Q (λb o Y W e=>k3 b o Y W ((g.2 b Y).trans ((h.2 b W).trans e))) S3 l3 g3
end
section
variable{prog:Bq}{w:World}{A:Df}{E:Value->Al->Prop}{s:Al}
theorem rD{h:Heap}:SetT prog w [] (h.push (Kb #[] 0 (.fresh 0 0 (!bt w)))) h.objs.size #[] 0 (.fresh 0 0 (!bt w)) :=
 ⟨Bs _ rfl,(λe b=>by simp at b),⟨⟨AB,rfl,rfl,Dn,(λj a=>by simp [SetTable.fresh] at a),rfl⟩,by show 0 * 5<7 * 3; decide⟩,by show 7 % 2=1; decide,by show 7<8192; decide,by show 0<=1100; decide⟩
theorem i5{l:Addr}{a:Array Value}{ws:List (List Int)}{Q:Value->Al->Prop}(U:A.handled=none)(hu:A.units+64<cLine)(hl:s.heap.IsList l a)(hw:Vx prog w s.heap a.toList ws)(B:ws.length<=1100)(h:∀es f t h' i,(∀b o,s.heap.get? b=some o->h'.get? b=some o)->SetT prog w ws h' s.heap.objs.size es f t->es.size<=ws.length->(ws.Nodup->es.size=ws.length)->Q (.ref s.heap.objs.size) { s with heap:=h',toks:=i }):wpAny (model prog w) A (call (.type "set") [.ref l]) Q E s:=by
 obtain ⟨c,tl,L⟩:=PySem.F.called_set.mro
 have C:=PySem.F.called_set.made
 have K:=PySem.F.called_set.sub
 have h1:=PySem.F.called_set.notType
 have h2:=PySem.F.called_set.canCreate
 have P:=PySem.F.typeCall_set_1 (.ref l)
 refine wpAny_call (codeAny_of_tree (show wpAny _ _ (callAny (.type "set") _) _ _ _ from ?_))
 refine Aw ⟨Code.quiet_builtin _ (by decide +kernel),Mr PySem.F.entry_type_call ?_⟩
 rw[Around.under_plain (weight_type_call_type "set" [.ref l] []) rfl]
 repeat (any_goals (first | assumption | wp_step))
 refine Qu (n9 (.ref l) (E:=E) (Q:=λv O=>v=.ref s.heap.objs.size/\O={ s with heap:=s.heap.push (Kb #[] 0 (.fresh 0 0 (!bt w))) }) ⟨rfl,rfl⟩) λr O d=>?_
 rcases r with e | (_ | _ | _ | v)
 ·exact d
 ·exact d.elim
 ·exact d.elim
 ·exact d.elim
 obtain ⟨rfl,rfl⟩:=d
 have N:=rD (prog:=prog) (w:=w) (h:=s.heap)
 have X:Shared.TypeIs { s with heap:=s.heap.push (Kb #[] 0 (.fresh 0 0 (!bt w))) } (.ref s.heap.objs.size) "set" := ⟨_,N.obj,rfl⟩
 have W:=PySem.F.called_set.init.lookup
 have V:=PySem.F.called_set.init.bind (.ref s.heap.objs.size)
 repeat (any_goals (first | assumption | wp_step))
 refine Qu (codeAny_call_builtin (R:=wants (λr I=>r=.none/\∃es f t h' i,I={ s with heap:=h',toks:=i }/\(∀b o,s.heap.get? b=some o->h'.get? b=some o)/\SetT prog w ws h' s.heap.objs.size es f t/\es.size<=ws.length/\(ws.Nodup->es.size=ws.length)) E)
  PySem.F.called_set.init.plain PySem.F.entry_set_init (check_set_init_1 X ?_)) λr I d=>?_
 ·obtain ⟨⟨oc,od,y,T⟩,M,Z,n,hd⟩:=id hl
  have k:oc=.type "list" := Z
  have m:y=.seq a n:=hd
  subst k m
  have j:=Av (Kb #[] 0 (.fresh 0 0 (!bt w))) M
  have u:(s.heap.push (Kb #[] 0 (.fresh 0 0 (!bt w)))).IsList l a:=⟨_,j,rfl,n,rfl⟩
  have f1:=PySem.F.sub_list_set
  have f2:=PySem.F.sub_list_frozenset
  have f3:(Ek "list" == Ek "dict")=false:=by decide
  have lt:=Bn M
  unfold Builtin.«set.__init__» noKeywords Builtin.Frozenset.updateFrom
  generalize G:pyIter=PI
  wp_walk
  subst G
  refine hZ u (Ag (wpAny_runValue ?_))
  have sz:(s.heap.push (Kb #[] 0 (.fresh 0 0 (!bt w)))).objs.size=s.heap.objs.size+1:=Heap.size_push _ _
  have Y:((s.heap.push (Kb #[] 0 (.fresh 0 0 (!bt w)))).push { cls:=.type "list_iterator",data:=.fields #[.ref l,.int 0 0] }).get? (s.heap.push (Kb #[] 0 (.fresh 0 0 (!bt w)))).objs.size=some { cls:=.type "list_iterator",data:=.fields #[.ref l,.int 0 0] }:=Bs _ rfl
  have D:Wr s.heap ((s.heap.push (Kb #[] 0 (.fresh 0 0 (!bt w)))).push { cls:=.type "list_iterator",data:=.fields #[.ref l,.int 0 0] }):=λb o _ e=>Av _ (Av _ e)
  refine xE (by rw[sz]; exact Da (eI _)) (Nat.ne_of_gt lt) (by rw[sz]; exact Da (Rn lt)) B (by simp [U]) (by simp; omega) (a.size - 0) 0 _ #[] 0 (.fresh 0 0 (!bt w)) [] rfl (Dh _) ⟨_,Y,rfl,rfl⟩ ⟨_,Av _ j,rfl,n,rfl⟩
   (hw.keep D) (N.keep λb o _ q=>Av _ q) (Dh _) (λx S=>nomatch S) (λ_=>rfl) λes f t h' i p H z g=>?_
  refine Aw (Aw ⟨rfl,es,f,t,h',i,rfl,λb o e=>?_,H,z,g⟩)
  ·have J:=Bn e
   exact p b o (Da J) (by rw[sz]; exact Da (Rn J)) (Av _ (Av _ e))
 ·rcases r with e | (_ | _ | _ | v)
  ·exact d
  ·exact d.elim
  ·exact d.elim
  ·exact d.elim
  obtain ⟨rfl,es,f,t,h',i,rfl,p,H,z,g⟩:=d
  repeat (any_goals (first | assumption | wp_step))
  exact h es f t h' i p H z g
end
end NdS
namespace Nd
open PySem PySem.Spec PyProof.Rows L2 NdS
def pY(a:Addr)(n:Nat)(h:Heap):Prop:=∃b c t,h.get? a=some (Kb b c t)/\t.fits b.size=true/\b.size=n
abbrev vK(a:Addr)(n:Nat):HO:=.ext (pY a n)
theorem U8{P:Bq}{c:World}{H:Hp}{h:Heap}{a:Addr}{n:Nat}(e:pY a n h):Jn P c H h a (vK a n) :=
 ⟨e,let ⟨_,_,_,S,_⟩:=e; ⟨_,S⟩,λg f ⟨b,d,t,S,m⟩ k=>⟨b,d,t,k _ S,m⟩⟩
theorem xG{P:Bq}{w:World}{H:Hp}{h:Heap}{a:Addr}{n:Nat}(ok:Yd P w H h)(e:H a=some (vK a n)):pY a n h :=
 (show Jn P w H h a (vK a n) from ok a _ e).1
theorem oX{prog:Bq}{w:World}:∀{b:List Int} {vs:List Value},Gv (b.map V.int) vs->ItemsAre (Ep prog w) b vs
 | [],_,h=>by cases h; exact .nil
 | n::b,_,h=>by
  cases h with
  | cons a t =>
   obtain ⟨c,rfl⟩:=a
   exact .cons (intKind_is _ _ _ _) (oX t)
theorem uH:∀{rs:List Addr} {vs:List Value},Gv (rs.map V.ref) vs->vs=rs.map Bd
 | [],_,h=>by cases h; rfl
 | r::rs,_,h=>by
  cases h with
  | cons a t =>
   cases a
   rw[uH t]
   rfl
def FF(K:PySem.W.Frag):List V->Hp->VK->Prop:=λc H Q=>∃(a:Addr) (b:List Addr) (f:Addr->List Int),c=[.ref a]/\Qf K H a (b.map V.ref)/\(∀r∈b,Tz K H r ((f r).map V.int))/\b.length<=1100 /\
 ∀(p:Addr) (n:Nat),H p=none->n<=b.length->((b.map f).Nodup->n=b.length)->Q (.ref p) (upd H p (vK p n))
theorem wX{X:Cx}(C:X.calm=true)(x:X.A.units+64<cLine):Om X (.type "set") (FF X.K):=by
 intro j s P H M L Q I r h
 obtain ⟨a,b,f,rfl,G,F,c,q⟩:=h
 obtain ⟨u,rfl,y⟩:=vals1 r
 cases y
 obtain ⟨l,v,z,_⟩:=I.list G
 have e:=uH v
 subst e
 refine i5 (ws:=b.map f) (I.ok.hd C) x z.isList ⟨by simp,λi J R=>?_⟩ (by rw[Ab]; exact c) λE B t N T k S m g=>?_
 ·have w:i<b.length:=by simpa using J
  obtain ⟨O,p,⟨o,e,d,n,D⟩,_⟩:=I.tuple (F b[i] (Ni w))
  exact ⟨b[i],by simp,o,_,n,e,d,D,by rw[List.getElem_map]; simpa using oX p⟩
 ·rw[Ab] at m g
  exact ⟨.ref s.heap.objs.size,_,I.laid k (Aj _) (U8 ⟨E,B,t,S.obj,S.tab.fits,rfl⟩),rfl,q _ _ (I.hok.fresh (Aj _)) m g⟩
def GR:List V->Hp->VK->Prop:=λb H Q=>∃a n,b=[V.ref a]/\H a=some (vK a n)/\n<=1100/\Q (.int n) H
theorem yF{X:Cx}:Om X (.builtin "len") GR:=by
 intro b s j H i l Q I r h
 obtain ⟨a,n,rfl,f,m,q⟩:=h
 obtain ⟨u,rfl,g⟩:=vals1 r
 cases g
 obtain ⟨d,k,t,c,e,rfl⟩:=xG I.hok f
 refine call_len_set c ⟨rfl,rfl,rfl⟩ rfl e (by omega) ?_
 exact ⟨.int d.size,H,I.tok _,⟨_,rfl⟩,q⟩
end Nd
namespace Nd
open PySem L2
theorem o8{X:Cx}{K:PySem.W.Frag}{b l:Expr}{a:TE}(c:X.K=K)(hl:PE X l a):PI X b l (tP K a):=by
 subst c
 exact aC hl
theorem u9{J:It}{G:Hp->Prop}{xs:List V}{v:List Nat}{l:TI}{L:TE}{E:L2.St}{n:Hp}{Q:VK}(wk:Walked J G xs)(k:Addr->Nat->Hp->Prop)(h0:∀D,n D=none->k D 0 (upd n D (.lst [])))(U:∀D i H,k D i H->G H)(W:∀D i x H o,n D=none->xs[i]? = some x->k D i H->∀R:It->Hp->Prop,(∀w F (ys:List V) (I:Hp->Prop) (c:Nat->Hp->Prop),Walked w I ys->c 0 F->(∀j H,c j H->I H)->(∀j y H,ys[j]? = some y->c j H->∀K:VK,(∀z b a,b D=some (.lst a)->a.length<Bc->c (j+1) (upd b D (.lst (a++[z])))->K z b)->L (some x::some y::Ei E v) H K)->(∀H,c ys.length H->k D (i+1) H)->R w F)->l (some x::o::Ei E v) H R)(hd:∀D H,n D=none->k D xs.length H->Q (.ref D) H):h9 J v l L E n Q:=by
 intro D q
 refine ⟨λi m H=>m=xs.length - i/\i<=xs.length/\k D i H,⟨xs.length,by simp,Dh _,h0 D q⟩,?_⟩
 (intro i m H u; obtain ⟨rfl,Y,p⟩ := u)
 have g:=U D i H p
 by_cases f:i<xs.length
 ·refine .inr ⟨wk.go i H f g,λx s y o=>?_⟩
  obtain ⟨e,M⟩:=wk.yld i H x s f g y
  subst e
  refine W D i x _ o q M p _ λw F ys I c h S C B r=>?_
  refine ⟨λj m H=>m=ys.length - j/\j<=ys.length/\c j H,⟨ys.length,by simp,Dh _,S⟩,?_⟩
  (intro j Z b u; obtain ⟨rfl,hj,A⟩ := u)
  have t:=C j b A
  by_cases d:j<ys.length
  ·refine .inr ⟨h.go j b d t,λy s X=>?_⟩
   obtain ⟨e,O⟩:=h.yld j b y s d t X
   subst e
   exact B j y _ O A _ λz b a P T N=>⟨a,P,T,ys.length - (j+1),by omega,rfl,d,N⟩
  ·have e:j=ys.length:=by omega
   subst e
   exact .inl ⟨h.stop b t,xs.length - (i+1),by omega,rfl,f,r b A⟩
 ·have e:i=xs.length:=by omega
  subst e
  exact .inl ⟨wk.stop H g,hd D H q p⟩
end Nd
namespace DL
open PySem PySem.Spec PyProof.Rows L2 Nd
def IU(xs:List DV)(b:DS)(P:DV->DS->Prop):Prop:=match xs with
 | [.dat _ (.list ds)]=>∃a:List (List Int),ds=a.map Bt/\a.length<=1100/\∀n:Nat,n<=a.length->(a.Nodup->n=a.length)->P (.dat .ow (.int n)) b
 | _=>False
def sV(b:DA):DE:=λc P=>b c λd a=>IU d a P
section
variable{X:Cx}{p c pos b:Pos}{e:Expr}{d:DA}
theorem xQ(x:X.A.units+64<cLine)(J:X.calm=true)(K:Gl X "len")(D:X.mg "len" = none)(m:Gl X "set")(l:X.mg "set" = none)(j:oZ X [e] d)(t:Be [e] X.env=[(false,eval e X.env)]:=by rfl)(f:Be [.Call (.Name "set" c) [e] [] b] X.env=[(false,eval (.Call (.Name "set" c) [e] [] b) X.env)]:=by rfl):Fi X (.Call (.Name "len" p) [.Call (.Name "set" c) [e] [] b] [] pos) (sV d):=by
 refine PE.imp (bN yF K D (by decide +kernel) (Gp (gU (wX J x) m l (by decide +kernel) j (by decide) (by decide) t rfl) Lk f) (by decide) (by decide) f rfl) λσ H Q h=>?_
 obtain ⟨N,Y,S,T,I,P,rfl,V,B,O,k⟩:=h
 refine ⟨N,Y,S,T,I,_,rfl,V,B,O,λy o As us S' z E U C u i p=>?_⟩
 unfold IU at p
 split at p
 ·obtain ⟨v,F,rfl,g⟩:=Lq u i C
  obtain ⟨ws,rfl,s,Z⟩:=p
  obtain ⟨a,y,G,rfl,j,M,rfl,hz⟩:=(g.told mem_mid).list_inv
  obtain ⟨R,rfl,rfl,rfl,w,c2⟩:=lH M rfl
  rw[Ab] at s
  refine ⟨a,R,FA z,rfl,Qf.of j,λr L=>Tz.of (w r L),s,λq n hq h1 W=>?_⟩
  refine ⟨q,n,rfl,Di,by omega,?_⟩
  have s1:=Fj hq (vK q n)
  exact k _ o _ _ S' _ E U ((g.drop.grow s1 (Aj _)).pushI (.int _)) (Z n (by rw[Ab]; exact h1) (by rw[Ab]; exact W))
 ·exact p.elim
end
def Yq(a:Bool):D2:=λx y P=>match x,y with
 | .dat _ (.bool b),.dat _ (.bool c)=>P (.dat .ow (.bool (match a with | true=>!(b == c) | false=>b == c)))
 | _,_=>False
section
variable{X:Cx}{K:PySem.W.Frag}
theorem AN:Vn X (Hv .Is) (λx y H Q=>∃b c,x=.bl b/\y=.bl c/\Q (.bl (b == c)) H):=by
 intro a s f H x y v u Q I e d h
 obtain ⟨b,c,rfl,rfl,q⟩:=h
 cases e
 cases d
 exact wpAny_is_plain rfl (C6 I q (by cases b <;> cases c <;> rfl))
theorem Q3:Vn X (Hv .IsNot) (λx y H Q=>∃b c,x=.bl b/\y=.bl c/\Q (.bl (!(b == c))) H):=by
 intro a s f H x y v u Q I e d h
 obtain ⟨b,c,rfl,rfl,q⟩:=h
 cases e
 cases d
 exact wpAny_isNot_plain rfl (C6 I q (by cases b <;> cases c <;> rfl))
theorem CL:kZ K (λx y H Q=>∃b c,x=.bl b/\y=.bl c/\Q (.bl (b == c)) H) (Yq false):=by
 intro e X n S T x y v w F G H Q P d a k
 unfold Yq at a
 split at a
 ·obtain ⟨rfl,_⟩:=(d.told Fc).bl_inv
  obtain ⟨rfl,_⟩:=(d.told mem_mid).bl_inv
  exact ⟨_,_,rfl,rfl,k _ _ [] H (d.drop2.pushI (m:=.ow) (.bl _)) a⟩
 ·exact a.elim
theorem V2:kZ K (λx y H Q=>∃b c,x=.bl b/\y=.bl c/\Q (.bl (!(b == c))) H) (Yq true):=by
 intro e X n S T x y v w F G H Q P d a k
 unfold Yq at a
 split at a
 ·obtain ⟨rfl,_⟩:=(d.told Fc).bl_inv
  obtain ⟨rfl,_⟩:=(d.told mem_mid).bl_inv
  exact ⟨_,_,rfl,rfl,k _ _ [] H (d.drop2.pushI (m:=.ow) (.bl _)) a⟩
 ·exact a.elim
variable{a b:Expr}{d e:DE}{pos:Pos}
theorem CA(c:Fi X a d)(hb:Fi X b e):Zi X (.Compare a [.Is] [b] pos) (dB (Ve (Yq false) d e)):=Pz AN CL c hb (Ol _)
theorem M5(c:Fi X a d)(hb:Fi X b e):Zi X (.Compare a [.IsNot] [b] pos) (dB (Ve (Yq true) d e)):=Pz Q3 V2 c hb (Ol _)
end
def O2(i:Nat)(y:DV)(a:DS)(D:DEnds):Prop:=match a.sl[i]?,y with
 | some (.dat m (.list ds)),.dat _ (.list es)=>own1 m=true/\npk a.sl=true/\Dz es=true/\ds.length+es.length<1000000/\D.nx ⟨a.sl.set i (.dat m (.list (ds++es))),a.n⟩
 | _,_=>False
def uL(i:Nat)(c:DE):DB:=λD b=>isLst b.sl[i]? = true/\c b λy a=>O2 i y a D
section
variable{X:Cx}{o e:Expr}{f:DE}{d c pos:Pos}{i:Nat}
theorem vM(ho:PE X o (Nx i))(I:Fi X e f)(k:Iy o "extend" X.env (eval o X.env)=eval o X.env:=by rfl)
  (p:((Gh c (Be [e] X.env)).all (λx=>!x.1) && (Pt c (Ko [] X.env)).all (λx=>x.1.isSome)
   && decide (([e]:List Expr).length+([]:List Je).length+(if ([]:List Je).isEmpty then 0 else 1)<30))=true:=by rfl)
  (j:(d.endLine == c.line)=true:=by rfl) (G:Be [e] X.env=(false,eval e X.env)::Be [] X.env:=by rfl) (g:(Gh c (Be [] X.env)).any (·.1)=false:=by rfl)
  (s:Hu (.Call (.Attribute o "extend" d) [e] [] c) none pos.line X.env=pure false:=by rfl) :
  dY X (.Expr (.Call (.Attribute o "extend" d) [e] [] c) pos) (uL i f):=by
 refine PS.impD (To (aX PySem.F.plainAttrs_list PySem.F.slot_list_extend PySem.F.type_list_extend wO ho (Gp I Lk G) k p j G g) s) λD σ H h=>?_
 obtain ⟨H0,Y,S,T,δ,P,rfl,E,hT,B,⟨u,hd⟩,k1,k2,k3,k4⟩:=h
 obtain ⟨a,M,v,N⟩:=rP E B u
 refine ⟨.ref a,v,.inl ⟨rfl,M,Qf.of N⟩,H0,Y,S,T,δ,_,rfl,E,B,hd,λy h4 w F1 S1 H1 C O n l=>?_⟩
 unfold O2 at l
 split at l
 ·rename_i m ds m' es r
  obtain ⟨l,W,L,p4,p5⟩:=l
  obtain ⟨b,A,Gz,rfl,hb,t,rfl,_⟩:=(n.told mem_mid).list_inv
  obtain rfl:=t.imm L
  obtain ⟨J,q,U,Z,Q,z,g4,R⟩:=Rg (es:=ds++es) O hT n.drop r l W
  have ea:some (V.ref J)=some (V.ref a):=Bl (by rw[<- Z,C]; exact v)
  cases ea
  obtain ⟨K,h1,h2,h3⟩:=R (q++A) (U++[]) (z.app t) (by rw[Dd]; exact Ck _) (by rw[Ar]; exact Zg (by omega))
  have hl:=z.len
  have h0:=t.len
  refine ⟨a,b,q,A,rfl,rfl,Q,hb,Zg (by omega),?_⟩
  rw[<- C,<- h1]
  exact k1 ⟨_,_⟩ K _ h2 h3 p5
 ·exact l.elim
end
def W4(i p:Nat)(c:PF):DE:=λb P=>∃(m f:Md) (a:List Ae) (z:Int) (r:Ae->List Ae),b.sl[i]? = some (.dat m (.list a))/\b.sl[p]? = some (.dat f (.int z)) /\
 (∀d∈a,c [d,.int z] λe=>e=.list (r d))/\(a.flatMap r).length<1000000/\P (.dat .ow (.list (a.flatMap r))) b
section
variable{K:PySem.W.Frag}
theorem sR{g H:Hp}{X:Addr->Prop}{S T:List Ent}{b:DS}{i:Nat}{m:Md}{d:Ae}(j:Sl S b)(k:At K g X b.n (S++T) H)(h:b.sl[i]? = some (.dat m d)):∃v F,(vs S)[i]? = some (some v)/\RdF K H v d F:=by
 obtain ⟨a,e,l⟩:=Hi j h
 obtain ⟨u,y,F⟩:=a
 have c:y=.dat m d:=l
 subst c
 obtain ⟨v,f,rd,_⟩:=k.ok _ (Ah _ (Aq e))
 exact ⟨v,F,by rw[Jm e]; exact congrArg some f,rd⟩
theorem A0{H:Hp}{D:Addr}{l l2:List V}{F:List Addr}(a:H D=some (.lst l))(d:D∉F):Kp F H (upd H D (.lst l2)):=λb o e z=>by
 by_cases c:b=D
 ·subst c
  rw[a] at e
  cases e
  rcases z with z | z
  ·exact absurd z d
  ·rcases z with ⟨_,z⟩ | ⟨_,_,z⟩ <;> cases z
 ·rw[Ef c]; exact e
theorem fT{a b:Type}{r:a->List b}{l:List a}{i:Nat}{d:a}(h:l[i]? = some d):(l.take (i+1)).flatMap r=(l.take i).flatMap r++r d:=by
 obtain ⟨c,e⟩:=Ak.mp h
 rw[Jb c,Xa,e]
 simp
theorem P2{a b:Type}{r:a->List b}{l:List a}(i:Nat):((l.take i).flatMap r).length<=(l.flatMap r).length:=by
 conv=>rhs; rw[<- Dv i l,Xa,Ar]
 omega
theorem O5{i p:Nat}{pf:PF}{E:XK}:∀σ H Q,LE K (W4 i p pf) σ H Q->pC (tP K (Nx i)) [p] (tP K (tV (Oe K pf) [] E (nB (Nx 0) (nB (Nx 2) V0)))) (Nx 1) σ H Q:=by
 intro σ H Q h
 obtain ⟨H0,Y,S,T,δ,P,rfl,hS,hA,⟨m,mz,t,z,r,h1,h2,hf,hz,hP⟩,k⟩:=h
 obtain ⟨v,F,hv,rd⟩:=sR hS hA h1
 obtain ⟨w,Fw,hw,h9⟩:=sR hS hA h2
 obtain ⟨rfl,_⟩:=h9.int_inv
 obtain ⟨a,xs,Ga,rfl,ha,ra,_,_⟩:=rd.list_inv
 refine ⟨.ref a,hv,a,rfl,⟨xs,Qf.of ha⟩,?_⟩
 refine u9 (So (K:=K) (a:=a) (xs:=xs)) (λD s J=>H D=none/\∃f G,J D=some (.lst f)/\RdFs K J f ((t.take s).flatMap r) G/\(D::G).Nodup/\(∀b∈G,H b=none)/\Nt H J) ?_ ?_ ?_ ?_
 ·intro D N
  exact ⟨N,[],[],Di,.nil,Bp.mpr ⟨Bf,Dl⟩,λ_ z=>(nomatch z),Fj N _⟩
 ·(intro D s J u; obtain ⟨N,f,G,_,_,_,_,V⟩ := u)
  exact Qf.of (V _ _ ha)
 ·(intro D s x J o _ hx u; obtain ⟨N,f,G,hD,rG,nG,fG,V⟩ := u; intro R hR)
  have h5:s<t.length:=by
   have:=(Ak.mp hx).1
   rw[ra.len] at this
   exact this
  have Z:t[s]? = some t[s]:=Bj h5
  obtain ⟨x',Fx,h3,rx,_⟩:=ra.get Z
  rw[hx] at h3
  cases h3
  refine ⟨x,rfl,.int z,by show (Ei (vs S) [p])[0]? = _; simp [Ei,hw],?_⟩
  show Oe K pf [x,.int z] J _ E
  refine ⟨[⟨some x,.dat .sh t[s],Fx⟩,⟨some (.int z),.dat .sh (.int z),[]⟩],0,[t[s],.int z],_,rfl,λe he=>?_,rfl,hf _ (Ni h5),λv d F' k9 hd k5 k6 h4 X=>?_⟩
  ·rcases Ai.mp he with rfl | he
   ·exact ⟨x,rfl,rx.kp λb o e _=>V b o e,(λz=>nomatch z),(λz=>nomatch z)⟩
   ·rw[Ac.mp he]
    exact ⟨.int z,rfl,.int z,(λz=>nomatch z),(λz=>nomatch z)⟩
  ·subst hd
   obtain ⟨b,O,Gb,rfl,hb,rb,rfl,_⟩:=k5.list_inv
   obtain ⟨nb,k4⟩:=Bp.mp k6
   obtain ⟨k3,k1⟩:=Bp.mp nG
   have dom:∀c∈D::G,∃o,J c=some o:=λc hc=>by
    rcases Ai.mp hc with rfl | hc
    ·exact ⟨_,hD⟩
    ·exact rG.dom c hc
   have I:∀c∈b::Gb,c∉D::G:=λc hc z=>by
    obtain ⟨o,e⟩:=dom c z
    rw[h4 c hc] at e
    cases e
   have k7:∀c∈b::Gb,H c=none:=λc hc=>V.free (h4 c hc)
   refine ⟨b,rfl,⟨O,Qf.of hb⟩,?_⟩
   refine hR _ _ O (λB=>Qf K B b O) (λj B=>∃f C U,B D=some (.lst f)/\RdFs K B f ((t.take s).flatMap r++(r t[s]).take j) C/\RdFs K B (O.drop j) ((r t[s]).drop j) U/\(D::(C++U)).Nodup/\(∀c∈C++U,H c=none)/\b∉D::(C++U)/\B b=some (.lst O)/\Nt H B) So ?_ ?_ ?_ ?_
   ·refine ⟨f,G,Gb,X _ _ hD,?_,rb,?_,?_,?_,hb,V.trans X⟩
    ·rw[List.take_zero,Dd]
     exact rG.kp λc o e _=>X c o e
    ·refine Bp.mpr ⟨λz=>?_,Ec.mpr ⟨k1,k4,λc hc c' k0 e=>I c' (Ad _ k0) (by rw[<- e]; exact Ad _ hc)⟩⟩
     rcases Am.mp z with z | z
     ·exact k3 z
     ·exact I D (Ad _ z) Aa
    ·intro c hc
     rcases Am.mp hc with hc | hc
     ·exact fG c hc
     ·exact k7 c (Ad _ hc)
    ·intro z
     rcases Ai.mp z with z | z
     ·exact I b Aa (by rw[z]; exact Aa)
     ·rcases Am.mp z with z | z
      ·exact I b Aa (Ad _ z)
      ·exact nb z
   ·(intro j B u; obtain ⟨_,_,_,_,_,_,_,_,_,M,_⟩ := u)
    exact Qf.of M
   ·(intro j y B hy u; obtain ⟨g,C,U,A,r1,r2,L,f3,h0,M,W⟩ := u; intro Q' h8)
    refine ⟨y,rfl,?_⟩
    have hj:j<O.length:=(Ak.mp hy).1
    have h6:j<(r t[s]).length:=by rw[<- rb.len]; exact hj
    have ey:O[j]=y:=(Ak.mp hy).2
    rw[Ja hj,Ja h6,ey] at r2
    cases r2 with
    | @cons _ _ _ _ Fy G3 ry k2 =>
    obtain ⟨h7,k8⟩:=Bp.mp L
    have la:=r1.len
    have le:((t.take s).flatMap r++(r t[s]).take j).length+1<=(t.flatMap r).length:=by
     have q:=P2 (r:=r) (l:=t) (s+1)
     rw[fT Z,Ar] at q
     rw[Ar,Cu]
     omega
    refine h8 y B g A (By (show g.length<1000000 by omega) (Zg (n:=1000000) (Aj _))) ⟨g++[y],C++Fy,G3,Di,?_,?_,by rw[Bh]; exact L,by rw[Bh]; exact f3,by rw[Bh]; exact h0,?_,λc o e=>?_⟩
    ·rw[Jb h6,<- Bh]
     exact (r1.snoc ry).kp (A0 A λz=>h7 (by
      rcases Am.mp z with z | z
      ·exact Ah _ z
      ·exact Af _ (Ah _ z)))
    ·exact k2.kp (A0 A λz=>h7 (Af _ (Af _ z)))
    ·rw[Ef λz=>h0 (by rw[z]; exact Aa)]
     exact M
    ·rw[Ef λz=>by rw[z,N] at e; cases e]
     exact W c o e
   ·(intro B u; obtain ⟨g,C,U,A,r1,r2,L,f3,h0,M,W⟩ := u)
    refine ⟨N,g,C,A,?_,L.sublist ((Rp C U).cons₂ D),λc hc=>f3 c (Ah _ hc),W⟩
    rw[fT Z]
    rw[Ex (Nat.le_of_eq rb.len.symm)] at r1
    exact r1
 ·(intro D J _ u; obtain ⟨N,f,G,hD,rG,nG,fG,V⟩ := u)
  rw[ra.len,Ea] at rG
  refine k _ δ (.ref D) (D::G) S J rfl hS ?_ hP
  have fr:∀b∈D::G,H b=none:=λb hb=>by
   rcases Ai.mp hb with rfl | hb
   ·exact N
   ·exact fG b hb
  exact ((hA.grow V (Aj _)).pushF (.lst hD (Zg (by omega)) rG) nG (λa ha=>hA.free (fr a ha)) (λa ha=>hA.new0 (fr a ha))).tomid
end
section
variable{X:Cx}{x h n fn:Str}{t j r pos e b d:Pos}{c l m g:Expr}{i0 i p k:Nat}{a:Scope}{cl:List (Str×Addr)}{ys:List Str}{q:PF}{CX:uP}{f:Addr}{u:Cj}{ps:List Str}{E:XK}
theorem qF{o:Bool}(G:X.N.Nodup)(y:X.N[i0]? = some n)(u:X.env.scope.names.lookup n=some .local)(C:CompScope X a cl x ys [p])(f:mN a h)(w:(x::h::ys).Nodup)(I:X.calm=true)(D:PE X c (Nx i))(z:∀fp s H,PE (Dg X a cl (x::h::ys) fp s H) (.Call (.Name fn b) [l,m] [] d) (tV (Oe X.K q) [] E (nB (Nx 0) (nB (Nx 2) V0))))(B:∀fp s H,PE (Dg X a cl (x::h::ys) fp s H) g (Nx 1))(F:∀x,Cw c X.env x=pure x:=by intro _; rfl)(k:∀fp s H v,Cw (.Call (.Name fn b) [l,m] [] d) (Dg X a cl (x::h::ys) fp s H).env v=pure v:=by intro _ _ _ _; rfl)(A:Hu (.ListComp g [⟨.Name x t,c,[],0⟩,⟨.Name h j,.Call (.Name fn b) [l,m] [] d,[],0⟩] a pos) (some (.Name n r)) e.line X.env=pure true:=by rfl):dY X (.Assign [.Name n r] (.ListComp g [⟨.Name x t,c,[],0⟩,⟨.Name h j,.Call (.Name fn b) [l,m] [] d,[],0⟩] a pos) e) (jC (W4 i p q) (BO o i0)) :=
 PS.impD (o6 G y u C f w I (aC D) (λfp s H=>o8 rfl (z fp s H)) B F k A) (Vd O5 P8)
end
def FC(t u:DB)(D:DEnds)(b:Bool)(a:DS):Prop:=match b with
 | true=>t D a
 | false=>u D a
def HW(x:DV)(a:DS)(P:DV->DS->Prop):Prop:=match x with
 | .dat _ d=>imm d=true/\P (.dat .ow d) a
 | _=>False
def HS(i:Nat)(s:Option DV)(a:DS)(P:DV->DS->Prop):Prop:=match s with
 | some (.dat .pk _)=>False
 | some (.dat _ d)=>P (.dat .sh d) ⟨a.sl.set i (.dat .sh d),a.n⟩
 | _=>False
def tupB(xs:List DV)(b:DS)(P:DV->DS->Prop):Prop:=match datas xs with
 | some a=>a.length<=1000/\P (.dat (pkMd .sh xs) (.tuple a)) b
 | none=>False
def lstB(xs:List DV)(b:DS)(P:DV->DS->Prop):Prop:=match datas xs with
 | some a=>a.length<=1000/\P (.dat (pkMd .tp xs) (.list a)) b
 | none=>False
def W7(x:DV)(a:DS)(P:Option Int->DS->Prop):Prop:=match x with
 | .dat _ (.int i)=>P (some i) a
 | _=>False
def LF(i:Bool)(x:DV)(l h:Option Int)(a:DS)(P:DV->DS->Prop):Prop:=match x with
 | .dat m (.list ds)=>Yr i m (Ki ds l h) λz=>P z a
 | .dat m (.tuple ds)=>iV i m (Ki ds l h) λz=>P z a
 | _=>False
def MY(xs:List DV)(b:DS)(P:DV->DS->Prop):Prop:=match xs with
 | [.dat _ (.list ds)]=>∃a:List Int,ds=a.map Bo/\(∀x∈a,0<=x/\x<60)/\P (.dat .ow (.list ((FI a).map Bo))) b
 | [.dat _ (.tuple ds)]=>∃a:List Int,ds=a.map Bo/\(∀x∈a,0<=x/\x<60)/\P (.dat .ow (.list ((FI a).map Bo))) b
 | _=>False
def bB(x:DV)(a:DS)(P:Bool->DS->Prop):Prop:=match x with
 | .dat _ (.bool b)=>P b a
 | _=>False
def FO(x:DV)(a:DS)(P:Bool->DS->Prop):Prop:=match x with
 | .dat _ d=>GM d/\P (R5 d) a
 | _=>False
def L5(c:DT)(b:Bool)(a:DS)(P:Bool->DS->Prop):Prop:=match b with
 | true=>c a P
 | false=>P false a
def JV(c:DT)(b:Bool)(a:DS)(P:Bool->DS->Prop):Prop:=match b with
 | true=>P true a
 | false=>c a P
def IF(x:DV)(a:DS)(P:DV->DS->Prop):Prop:=match x with
 | .dat _ (.bool b)=>P (.dat .ow (.bool (!b))) a
 | _=>False
def CV(b:DE)(x:DV)(a:DS)(P:DV->DS->Prop):Prop:=match x with
 | .dat _ (.bool true)=>b a P
 | .dat _ (.bool false)=>P (.dat .ow (.bool false)) a
 | _=>False
def LK(c d:DE)(b:Bool)(a:DS)(P:DV->DS->Prop):Prop:=match b with
 | true=>c a P
 | false=>d a P
def IB(x:DV)(a:DS)(P:DV->DS->Prop):Prop:=match x with
 | .dat _ (.int i)=>P (.dat .ow (.int (-i))) a
 | _=>False
def lB(x:DV)(a:DS)(P:Md->List Ae->DS->Prop):Prop:=match x with
 | .dat m (.list ds)=>P (Ld m) ds a
 | _=>False
def LP(x:DV)(a:DS)(P:Md->List Ae->DS->Prop):Prop:=match x with
 | .dat m (.tuple ds)=>P (Ld m) ds a
 | _=>False
def X1(xs:List DV)(a:DS)(P:Md->List Ae->DS->Prop):Prop:=match xs with
 | [.dat _ (.int j)]=>-1000000<=j/\j<=1000000/\P .sh ((Ce j.toNat).map λi:Nat=>.int i) a
 | _=>False
def Y4(xs:List DV)(a:DS)(P:Md->List Ae->DS->Prop):Prop:=match xs with
 | [.dat m (.list ds)]=>P (Ld m) (ds.zipIdx.map λp=>.tuple [.int p.2,p.1]) a
 | _=>False
def GI(xs:List DV)(a:DS)(P:Md->List Ae->DS->Prop):Prop:=match xs with
 | [.dat m (.list ds),.dat m' (.list es)]=>P (mdZip m m') ((ds.zip es).map λp=>.tuple [p.1,p.2]) a
 | _=>False
def IA(g:DG)(f:DB)(D:DEnds)(m:Md)(e:List Ae)(b:DS):Prop:=m=.sh/\∃I:Nat->DS->Prop,I 0 b /\
 (∀i d a,e[i]? = some d->I i a->g (.dat .sh d) a λc=>f { D with nx:=I (i+1),ct:=I (i+1),bk:=D.nx } c)/\∀a,I e.length a->D.nx a
def B7(j:List Nat)(g:DT)(h:DE)(P:DV->DS->Prop)(m:Md)(f:List Ae)(b:DS):Prop:=∃I:Nat->List Ae->Nat->Prop,I 0 [] b.n /\
 (∀i d a n,f[i]? = some d->I i a n->Wd g h ⟨.dat m d::frD b.sl j,n⟩ (λe c=>I (i+1) (a++[e]) c) (λc=>I (i+1) a c)) /\
 ∀a n,I f.length a n->P (.dat .ow (.list a)) ⟨b.sl,n⟩
def qO(j:List Nat)(g:DT)(h:DE)(P:DV->DS->Prop)(m:Md)(f:List Ae)(b:DS):Prop:=∃I:Nat->List Ae->Nat->Prop,I 0 [] b.n /\
 (∀i d a n,f[i]? = some d->I i a n->Mq false g h ⟨.dat m d::frD b.sl j,n⟩ (λe c=>I (i+1) (a++[e]) c) (λc=>I (i+1) a c)) /\
 ∀a n,I f.length a n->P (.dat .tp (.list a)) ⟨b.sl,n⟩
def K0(js1:List Nat)(j0:Nat)(js2:List Nat)(g:DT)(h:DE)(P:DV->DS->Prop)(m:Md)(f:List Ae)(b:DS):Prop:=b.sl[j0]? = some .drw/\∃I:Nat->List Ae->Nat->Prop,I 0 [] b.n /\
 (∀i d a n,f[i]? = some d->I i a n->Qn (js1.length+1) g h ⟨.dat m d::(frD (b.sl.set j0 .un) js1++.drw::frD (b.sl.set j0 .un) js2),n⟩ (λe c=>I (i+1) (a++[e]) c) (λc=>I (i+1) a c)) /\
 ∀a n,I f.length a n->P (.dat .ow (.list a)) ⟨b.sl,n⟩
def T7(a:Ae->Nat->Prop)(y:DV)(b:DS):Prop:=match y with
 | .dat _ e=>imm e=true/\a e b.n
 | _=>False
def tE(e:DE)(a:Ae->Nat->Prop)(f:Nat->Prop)(b:Bool)(d:DS):Prop:=match b with
 | true=>e d λy c=>T7 a y c
 | false=>f d.n
def Y6(i:Nat)(x:Option DV)(a:DS)(P:DV->DS->Prop):Prop:=match x with
 | some (.dat .ow d)=>P (.dat .ow d) ⟨a.sl.set i (.dat .pk d),a.n⟩
 | _=>False
def yU(a:Ae->Nat->Prop)(y:DV)(b:DS):Prop:=match y with
 | .dat m e=>m≠.pk/\a e b.n
 | _=>False
def rO(e:DE)(a:Ae->Nat->Prop)(f:Nat->Prop)(b:Bool)(d:DS):Prop:=match b with
 | true=>e d λy c=>yU a y c
 | false=>f d.n
def zT(p:Nat)(a:Ae->Nat->Prop)(y:DV)(b:DS):Prop:=match y with
 | .dat _ e=>imm e=true/\b.sl[p]? = some .drw/\a e b.n
 | _=>False
def zM(p:Nat)(e:DE)(c:Ae->Nat->Prop)(f:Nat->Prop)(b:Bool)(a:DS):Prop:=match b with
 | true=>e a λy d=>zT p c y d
 | false=>a.sl[p]? = some .drw/\f a.n
def callB(a:PF)(xs:List DV)(b:DS)(P:DV->DS->Prop):Prop:=match datas xs with
 | some c=>a c λd=>P (.dat .ow d) b
 | none=>False
def callBW(i:Nat)(c:DF)(xs:List DV)(a:DS)(P:DV->DS->Prop):Prop:=match a.sl[i]? with
 | some .drw=>match datas xs with
  | some b=>c b a.n λd e=>P (.dat .ow d) ⟨a.sl,e⟩
  | none=>False
 | _=>False
def G7(xs:List DV)(a:DS)(P:DV->DS->Prop):Prop:=match xs with
 | [.dat _ (.int _)]=>P .drw a
 | _=>False
def appB(i:Nat)(y:DV)(a:DS)(D:DEnds):Prop:=match a.sl[i]?,y with
 | some (.dat m (.list ds)),.dat _ e=>own1 m=true/\npk a.sl=true/\imm e=true/\ds.length<1000000/\D.nx ⟨a.sl.set i (.dat m (.list (ds++[e]))),a.n⟩
 | _,_=>False
def GZ(i:Nat)(z:DV)(a:DS)(D:DEnds):Prop:=match z with
 | .dat _ d=>imm d=true/\D.nx ⟨a.sl.set i (.dat .sh d),a.n⟩
 | _=>False
def LN(f g:DE)(b:List Int->Ae->Nat->Prop)(h:Nat->Prop)(c:Bool)(e:DS):Prop:=match c with
 | true=>f e λy d=>g d λz a=>oK b y z a
 | false=>h e.n
def uR(o:List Nat)(k:DT)(j l:DE)(P:DV->DS->Prop)(m:Md)(f:List Ae)(b:DS):Prop:=f.length<=1000000/\∃I:Nat->List (List Int×Ae)->Nat->Prop,I 0 [] b.n /\
 (∀i d a n,f[i]? = some d->I i a n->∃g h,d=.tuple [g,h]/\iR k j l ⟨.dat m g::.dat m h::frD b.sl o,n⟩ (λw e c=>I (i+1) (fK a w e) c) (λc=>I (i+1) a c)) /\
 ∀a n,I f.length a n->P (.dat .ow (.dict (kW a))) ⟨b.sl,n⟩
theorem e_lenSet{b:DA}{c:DS}{P:DV->DS->Prop}:sV b c P=(b c λxs a=>IU xs a P):=rfl
theorem e_lsB{m:Md}{b:List Ae}{a:DS}{P:DV->DS->Prop}:IU [.dat m (.list b)] a P=(∃ws:List (List Int),b=ws.map Bt/\ws.length<=1100/\∀n:Nat,n<=ws.length->(ws.Nodup->n=ws.length)->P (.dat .ow (.int n)) a):=rfl
theorem e_isB1{m a:Md}{b c:Bool}{P:DV->Prop}:Yq true (.dat m (.bool b)) (.dat a (.bool c)) P=(P (.dat .ow (.bool (!(b == c))))):=rfl
theorem e_isB0{m a:Md}{b c:Bool}{P:DV->Prop}:Yq false (.dat m (.bool b)) (.dat a (.bool c)) P=(P (.dat .ow (.bool (b == c)))):=rfl
theorem e_extend{i:Nat}{c:DE}{D:DEnds}{b:DS}:uL i c D b=(isLst (b.sl[i]?)=true/\c b λy a=>O2 i y a D):=rfl
theorem e_extB{i:Nat}{y:DV}{D:DEnds}{a:DS}:O2 i y a D=(match a.sl[i]?,y with | some (.dat m (.list ds)),.dat _ (.list es)=>own1 m=true/\npk a.sl=true/\Dz es=true/\ds.length+es.length<1000000/\D.nx ⟨a.sl.set i (.dat m (.list (ds++es))),a.n⟩ | _,_=>False):=rfl
theorem e_insertO{i:Nat}{d e:DE}{D:DEnds}{a:DS}:cK i d e D a=(match a.sl[i]? with | some (.dat _ (.list _))=>d a λz b=>e b λy c=>tH i z y c D | _=>False):=rfl
theorem e_insOB{i:Nat}{z y:DV}{D:DEnds}{a:DS}:tH i z y a D=(match a.sl[i]?,z,y with | some (.dat m (.list ds)),.dat _ (.int k),.dat my e=>own1 m=true/\npk a.sl=true/\my≠.pk/\ds.length<1000000/\0<=k/\k<=1000000/\D.nx ⟨a.sl.set i (.dat (mmd m my) (.list (Hw ds k.toNat e))),a.n⟩ | _,_,_=>False):=rfl
theorem e_callWV{i:Nat}{d:DF}{c:DA}{a:DS}{P:DV->DS->Prop}:jE i d c a P=(match a.sl[i]? with | some .drw=>c a λxs b=>jN i d xs b P | _=>False):=rfl
theorem e_callWVB{i:Nat}{b:DF}{xs:List DV}{a:DS}{P:DV->DS->Prop}:jN i b xs a P=(match a.sl[i]?,datas xs with | some .drw,some ds=>noPk xs=true/\b ds a.n λd n'=>Uw d=true/\P (.dat .sh d) ⟨a.sl,n'⟩ | _,_=>False):=rfl
theorem e_seq{t u:DB}{D:DEnds}{b:DS}:GS t u D b=(t { D with nx:=λa=>u D a } b):=rfl
theorem e_skip{D:DEnds}{a:DS}:Z6 D a=(D.nx a):=rfl
theorem e_ret{b:DE}{D:DEnds}{a:DS}:GA b D a=(b a D.rt):=rfl
theorem e_if{dt:DT}{t u:DB}{D:DEnds}{a:DS}:LM dt t u D a=(dt a (FC t u D)):=rfl
theorem e_asg{d:DE}{b:DG}{D:DEnds}{c:DS}:jC d b D c=(d c λx a=>b x a D.nx):=rfl
theorem e_name{i:Nat}{m:Md}{d:Ae}{a:DS}{Q:DS->Prop}:Qd i (.dat .ow d) a Q=(Q ⟨a.sl.set i (.dat .sh d),a.n⟩):=rfl
theorem e_name2{i:Nat}{m:Md}{d:Ae}{a:DS}{Q:DS->Prop}:Qd i (.dat .sh d) a Q=(Q ⟨a.sl.set i (.dat .sh d),a.n⟩):=rfl
theorem e_name3{i:Nat}{m:Md}{d:Ae}{a:DS}{Q:DS->Prop}:Qd i (.dat .tp d) a Q=(Q ⟨a.sl.set i (.dat .sh d),a.n⟩):=rfl
theorem e_name4{i:Nat}{a:DS}{Q:DS->Prop}:Qd i .drw a Q=(Q ⟨a.sl.set i .drw,a.n⟩):=rfl
theorem e_own{i:Nat}{d:Ae}{a:DS}{Q:DS->Prop}:fQ i (.dat .ow d) a Q=(Q ⟨a.sl.set i (.dat .ow d),a.n⟩):=rfl
theorem e_nT{i:Nat}{x:DV}{a:DS}{Q:DS->Prop}:BO true i x a Q=(fQ i x a Q):=rfl
theorem e_nF{i:Nat}{x:DV}{a:DS}{Q:DS->Prop}:BO false i x a Q=(Qd i x a Q):=rfl
theorem e_gtup{n:Nat}{c:e8}{m:Md}{a:List Ae}{b:DS}{Q:DS->Prop}:j6 n c (.dat m (.tuple a)) b Q=(a.length=n/\c (a.map λd=>.dat (Nv m) d) b Q):=rfl
theorem e_gsn{a:DS}{Q:DS->Prop}:zZ [] a Q=(Q a):=rfl
theorem e_gsc{g:DG}{c:e8}{x:DV}{r:List DV}{b:DS}{Q:DS->Prop}:tK g c (x::r) b Q=(g x b λa=>c r a Q):=rfl
theorem e_op{rd:D2}{e c:DE}{d:DS}{P:DV->DS->Prop}:Ve rd e c d P=(e d λx a=>c a λy b=>rd x y λz=>P z b):=rfl
theorem e_var{i:Nat}{a:DS}{P:DV->DS->Prop}:CJ i a P=(match a.sl[i]? with | some (.dat m d)=>P (.dat (jL m) d) a | _=>False):=rfl
theorem e_c{d:Ae}{a:DS}{P:DV->DS->Prop}:dC d a P=(P (.dat .ow d) a):=rfl
theorem e_imm{c:DE}{b:DS}{P:DV->DS->Prop}:GT c b P=(c b λx a=>HW x a P):=rfl
theorem e_immB{m:Md}{d:Ae}{a:DS}{P:DV->DS->Prop}:HW (.dat m d) a P=(imm d=true/\P (.dat .ow d) a):=rfl
theorem e_take{i:Nat}{a:DS}{P:DV->DS->Prop}:d0 i a P=(match a.sl[i]? with | some (.dat m d)=>P (.dat m d) ⟨a.sl.set i .un,a.n⟩ | _=>False):=rfl
theorem e_frz{i:Nat}{a:DS}{P:DV->DS->Prop}:kF i a P=(HS i (a.sl[i]?) a P):=rfl
theorem e_frzo{i:Nat}{d:Ae}{a:DS}{P:DV->DS->Prop}:HS i (some (.dat .ow d)) a P=(P (.dat .sh d) ⟨a.sl.set i (.dat .sh d),a.n⟩):=rfl
theorem e_I{C:Int->Int->Prop}{g:Int->Int->Ae}{i j:Int}{m a:Md}{P:DV->Prop}:DH C g (.dat m (.int i)) (.dat a (.int j)) P=(C i j/\P (.dat .ow (g i j))):=rfl
theorem e_I0{g:Int->Int->Ae}{i j:Int}{m a:Md}{P:DV->Prop}:bZ g (.dat m (.int i)) (.dat a (.int j)) P=(P (.dat .ow (g i j))):=rfl
theorem e_bestK{le lt:Nat->Nat->Prop}{m:Md}{b:List Ae}{P:DV->Prop}:aD le lt [.dat m (.list b)] P=(∃a:Nat->Nat,b≠[]/\(∀i d,b[i]? = some d->BQ d=some (a i))/\∀i d,b[i]? = some d->(∀j,j<b.length->le (a i) (a j)/\(j<i->lt (a i) (a j)))->P (.dat (Nv m) d)):=rfl
theorem e_eqF{d e:Ae}{m a:Md}{P:DV->Prop}:eT false (.dat m d) (.dat a e) P=(d.depth<=60/\e.depth<=60/\P (.dat .ow (.bool (Er d e)))):=rfl
theorem e_eqT{d e:Ae}{m a:Md}{P:DV->Prop}:eT true (.dat m d) (.dat a e) P=(d.depth<=60/\e.depth<=60/\P (.dat .ow (.bool (!Er d e)))):=rfl
theorem e_inFl{d:Ae}{es:List Ae}{m a:Md}{P:DV->Prop}:lI false (.dat m d) (.dat a (.list es)) P=(Br es<=60/\d.depth<=60/\P (.dat .ow (.bool (es.any λe=>Er e d)))):=rfl
theorem e_inFt_w1{a:List Int}{d:Ae}{es:List Ae}{m b:Md}{P:DV->Prop}:lI false (.dat m d) (.dat b (Bt a)) P=(Br (a.map Bo)<=60/\d.depth<=60/\P (.dat .ow (.bool ((a.map Bo).any λe=>Er e d)))):=rfl
theorem e_inTt_w1{a:List Int}{d:Ae}{es:List Ae}{m b:Md}{P:DV->Prop}:lI true (.dat m d) (.dat b (Bt a)) P=(Br (a.map Bo)<=60/\d.depth<=60/\P (.dat .ow (.bool (!((a.map Bo).any λe=>Er e d))))):=rfl
theorem e_ixl{a:List Ae}{i:Int}{m b:Md}{P:DV->Prop}:E1 (.dat m (.list a)) (.dat b (.int i)) P=(∃d,Xj a i=some d/\P (.dat (Nv m) d)):=rfl
theorem e_ixt{a:List Ae}{i:Int}{m b:Md}{P:DV->Prop}:E1 (.dat m (.tuple a)) (.dat b (.int i)) P=(∃d,Xj a i=some d/\P (.dat (Nv m) d)):=rfl
theorem e_cat{a es:List Ae}{m b:Md}{P:DV->Prop}:tX (.dat m (.list a)) (.dat b (.list es)) P=(Dz a=true/\Dz es=true/\a.length+es.length<=1000000/\P (.dat .ow (.list (a++es)))):=rfl
theorem e_catT_w1{a:List Int}{c es:List Ae}{m b:Md}{P:DV->Prop}:jG (.dat m (Bt a)) (.dat b (.tuple es)) P=(Dz (a.map Bo)=true/\Dz es=true/\(a.map Bo).length+es.length<=1000000/\P (.dat .ow (.tuple ((a.map Bo)++es)))):=rfl
theorem e_nlT{m:Md}{a:List Ae}{P:DV->Prop}:Yr true m a P=(Dz a=true/\P (.dat .ow (.list a))):=rfl
theorem e_nlF{m:Md}{a:List Ae}{P:DV->Prop}:Yr false m a P=(P (.dat (gO m) (.list a))):=rfl
theorem e_ntT{m:Md}{a:List Ae}{P:DV->Prop}:iV true m a P=(Dz a=true/\P (.dat .ow (.tuple a))):=rfl
theorem e_pkOfpk  : jL .pk=(Md.pk):=rfl
theorem e_pkOfsh  : jL .sh=(Md.sh):=rfl
theorem e_pkOfow  : jL .ow=(Md.pk):=rfl
theorem e_mdInsh  : Nv .sh=(Md.sh):=rfl
theorem e_mdInow  : Nv .ow=(Md.ow):=rfl
theorem e_mdNewsh  : gO .sh=(Md.tp):=rfl
theorem e_mdItpk  : Ld .pk=(Md.pk):=rfl
theorem e_mdItsh  : Ld .sh=(Md.sh):=rfl
theorem e_mdIttp  : Ld .tp=(Md.sh):=rfl
theorem e_mdItow  : Ld .ow=(Md.sh):=rfl
theorem e_nil{a:DS}{P:List DV->DS->Prop}:AG a P=(P [] a):=rfl
theorem e_cons{d:DE}{e:DA}{c:DS}{P:List DV->DS->Prop}:Z5 d e c P=(d c λx a=>e a λxs b=>P (x::xs) b):=rfl
theorem e_tup{b:DA}{c:DS}{P:DV->DS->Prop}:GW b c P=(b c λxs a=>tupB xs a P):=rfl
theorem e_lst{b:DA}{c:DS}{P:DV->DS->Prop}:GN b c P=(b c λxs a=>lstB xs a P):=rfl
theorem e_noPart{a:DS}{P:Option Int->DS->Prop}:tZ a P=(P none a):=rfl
theorem e_part{c:DE}{b:DS}{P:Option Int->DS->Prop}:Y3 c b P=(c b λx a=>W7 x a P):=rfl
theorem e_partB{m:Md}{i:Int}{a:DS}{P:Option Int->DS->Prop}:W7 (.dat m (.int i)) a P=(P (some i) a):=rfl
theorem e_sl{i:Bool}{e:DE}{dl f:DO}{d:DS}{P:DV->DS->Prop}:LH i e dl f d P=(e d λx b=>dl b λl c=>f c λh a=>LF i x l h a P):=rfl
theorem e_slBl{i:Bool}{m:Md}{b:List Ae}{l h:Option Int}{a:DS}{P:DV->DS->Prop}:LF i (.dat m (.list b)) l h a P=(Yr i m (Ki b l h) λz=>P z a):=rfl
theorem e_cb{rd:DC}{b:DA}{c:DS}{P:DV->DS->Prop}:ID rd b c P=(b c λxs a=>rd xs λz=>P z a):=rfl
theorem e_lenl{a:List Ae}{m b:Md}{P:DV->Prop}:uC [.dat m (.list a)] P=(P (.dat .ow (.int a.length))):=rfl
theorem e_lent_w1{a:List Int}{b:List Ae}{m c:Md}{P:DV->Prop}:uC [.dat m (Bt a)] P=(P (.dat .ow (.int (a.map Bo).length))):=rfl
theorem e_tuplel{i:Bool}{a:List Ae}{m b:Md}{P:DV->Prop}:kA i [.dat m (.list a)] P=(iV i m a P):=rfl
theorem e_min2{i j:Int}{m a:Md}{P:DV->Prop}:qK [.dat m (.int i),.dat a (.int j)] P=(P (.dat .ow (.int (if j<i then j else i)))):=rfl
theorem e_all{a:List Ae}{m b:Md}{P:DV->Prop}:yN [.dat m (.list a)] P=(∃bs:List Bool,a=bs.map PyData.bool/\P (.dat .ow (.bool (bs.all id)))):=rfl
theorem e_sortT{b:List Ae}{m c:Md}{P:DV->Prop}:jT [.dat m (.tuple b)] P=(∃a:List Int,b=a.map Bo/\a.length<64/\P (.dat .ow (.list ((cG a).map Bo)))):=rfl
theorem e_isi{d:Ae}{n:String}{m a:Md}{P:DV->Prop}:F8 [.dat m d,.val (.ty n)] P=((n = "int" \/ n = "bool" \/ n = "str" \/ n = "list" \/ n = "tuple")/\P (.dat .ow (.bool (Xq d n)))):=rfl
theorem e_v{v:V}{a:DS}{P:DV->DS->Prop}:dV v a P=(P (.val v) a):=rfl
theorem e_b{c:DE}{b:DS}{P:Bool->DS->Prop}:dB c b P=(c b λx a=>bB x a P):=rfl
theorem e_bB{m:Md}{b:Bool}{a:DS}{P:Bool->DS->Prop}:bB (.dat m (.bool b)) a P=(P b a):=rfl
theorem e_tru{c:DE}{b:DS}{P:Bool->DS->Prop}:EC c b P=(c b λx a=>FO x a P):=rfl
theorem e_truB{m:Md}{d:Ae}{a:DS}{P:Bool->DS->Prop}:FO (.dat m d) a P=(GM d/\P (R5 d) a):=rfl
theorem e_notT{dt:DT}{c:DS}{P:Bool->DS->Prop}:AC dt c P=(dt c λb a=>P (!b) a):=rfl
theorem e_andT{dt c:DT}{d:DS}{P:Bool->DS->Prop}:Y2 dt c d P=(dt d λb a=>L5 c b a P):=rfl
theorem e_andTt{b:DT}{a:DS}{P:Bool->DS->Prop}:L5 b true a P=(b a P):=rfl
theorem e_orT{dt c:DT}{d:DS}{P:Bool->DS->Prop}:IC dt c d P=(dt d λb a=>JV c b a P):=rfl
theorem e_orTf{b:DT}{a:DS}{P:Bool->DS->Prop}:JV b false a P=(b a P):=rfl
theorem e_not{c:DE}{b:DS}{P:DV->DS->Prop}:HX c b P=(c b λx a=>IF x a P):=rfl
theorem e_notB{m:Md}{b:Bool}{a:DS}{P:DV->DS->Prop}:IF (.dat m (.bool b)) a P=(P (.dat .ow (.bool (!b))) a):=rfl
theorem e_and{b c:DE}{d:DS}{P:DV->DS->Prop}:HV b c d P=(b d λx a=>CV c x a P):=rfl
theorem e_andt{b:DE}{m:Md}{a:DS}{P:DV->DS->Prop}:CV b (.dat m (.bool true)) a P=(b a P):=rfl
theorem e_ifE{dt:DT}{c d:DE}{e:DS}{P:DV->DS->Prop}:IH dt c d e P=(dt e λb a=>LK c d b a P):=rfl
theorem e_neg{c:DE}{b:DS}{P:DV->DS->Prop}:FT c b P=(c b λx a=>IB x a P):=rfl
theorem e_negB{m:Md}{i:Int}{a:DS}{P:DV->DS->Prop}:IB (.dat m (.int i)) a P=(P (.dat .ow (.int (-i))) a):=rfl
theorem e_dL{c:DE}{b:DS}{P:Md->List Ae->DS->Prop}:dL c b P=(c b λx a=>lB x a P):=rfl
theorem e_dTp{c:DE}{b:DS}{P:Md->List Ae->DS->Prop}:MF c b P=(c b λx a=>LP x a P):=rfl
theorem e_lB{m:Md}{b:List Ae}{a:DS}{P:Md->List Ae->DS->Prop}:lB (.dat m (.list b)) a P=(P (Ld m) b a):=rfl
theorem e_tpB_w1{a:List Int}{m:Md}{c:List Ae}{b:DS}{P:Md->List Ae->DS->Prop}:LP (.dat m (Bt a)) b P=(P (Ld m) (a.map Bo) b):=rfl
theorem e_range1{b:DA}{c:DS}{P:Md->List Ae->DS->Prop}:oM b c P=(b c λxs a=>X1 xs a P):=rfl
theorem e_rng1B{m:Md}{j:Int}{a:DS}{P:Md->List Ae->DS->Prop}:X1 [.dat m (.int j)] a P=(-1000000<=j/\j<=1000000/\P .sh ((Ce j.toNat).map λi:Nat=>.int i) a):=rfl
theorem e_enum{b:DA}{c:DS}{P:Md->List Ae->DS->Prop}:u5 b c P=(b c λxs a=>Y4 xs a P):=rfl
theorem e_enumB{m:Md}{b:List Ae}{a:DS}{P:Md->List Ae->DS->Prop}:Y4 [.dat m (.list b)] a P=(P (Ld m) (b.zipIdx.map λp=>.tuple [.int p.2,p.1]) a):=rfl
theorem e_zip{b:DA}{c:DS}{P:Md->List Ae->DS->Prop}:X9 b c P=(b c λxs a=>GI xs a P):=rfl
theorem e_zipB{m c:Md}{b es:List Ae}{a:DS}{P:Md->List Ae->DS->Prop}:GI [.dat m (.list b),.dat c (.list es)] a P=(P (mdZip m c) ((b.zip es).map λp=>.tuple [p.1,p.2]) a):=rfl
theorem e_for{a:DI}{d:DG}{c:DB}{D:DEnds}{b:DS}:HR a d c D b=(a b (IA d c D)):=rfl
theorem e_comp{b:DI}{e:List Nat}{a:DT}{d:DE}{c:DS}{P:DV->DS->Prop}:K1 b e a d c P=(b c (B7 e a d P)):=rfl
theorem e_compL{b:DI}{e:List Nat}{a:DT}{d:DE}{c:DS}{P:DV->DS->Prop}:rT b e a d c P=(b c (qO e a d P)):=rfl
theorem e_stepL{d:DT}{f:DE}{e:DS}{a:Ae->Nat->Prop}{g:Nat->Prop}:Mq false d f e a g=(d e λb c=>rO f a g b c):=rfl
theorem e_stepLT{d:DE}{c:DS}{a:Ae->Nat->Prop}{e:Nat->Prop}:rO d a e true c=(d c λy b=>yU a y b):=rfl
theorem e_stepLF{d:DE}{c:DS}{a:Ae->Nat->Prop}{b:Nat->Prop}:rO d a b false c=(b c.n):=rfl
theorem e_give{i:Nat}{a:DS}{P:DV->DS->Prop}:yW i a P=(Y6 i (a.sl[i]?) a P):=rfl
theorem e_giveB{i:Nat}{d:Ae}{a:DS}{P:DV->DS->Prop}:Y6 i (some (.dat .ow d)) a P=(P (.dat .ow d) ⟨a.sl.set i (.dat .pk d),a.n⟩):=rfl
theorem e_compD{a:DI}{js1 js2:List Nat}{j0:Nat}{d:DT}{c:DE}{b:DS}{P:DV->DS->Prop}:pP a js1 j0 js2 d c b P=(a b (K0 js1 j0 js2 d c P)):=rfl
theorem e_noTest{a:DS}{P:Bool->DS->Prop}:jA a P=(P true a):=rfl
theorem e_step{d:DT}{f:DE}{e:DS}{a:Ae->Nat->Prop}{g:Nat->Prop}:Wd d f e a g=(d e λb c=>tE f a g b c):=rfl
theorem e_stepT{d:DE}{c:DS}{a:Ae->Nat->Prop}{e:Nat->Prop}:tE d a e true c=(d c λy b=>T7 a y b):=rfl
theorem e_stepF{d:DE}{c:DS}{a:Ae->Nat->Prop}{b:Nat->Prop}:tE d a b false c=(b c.n):=rfl
theorem e_yesB{m:Md}{e:Ae}{b:DS}{a:Ae->Nat->Prop}:T7 a (.dat m e) b=(imm e=true/\a e b.n):=rfl
theorem e_stepD{p:Nat}{d:DT}{f:DE}{e:DS}{a:Ae->Nat->Prop}{g:Nat->Prop}:Qn p d f e a g=(d e λb c=>zM p f a g b c):=rfl
theorem e_stepDT{p:Nat}{d:DE}{c:DS}{a:Ae->Nat->Prop}{e:Nat->Prop}:zM p d a e true c=(d c λy b=>zT p a y b):=rfl
theorem e_yesBD{p:Nat}{m:Md}{e:Ae}{b:DS}{a:Ae->Nat->Prop}:zT p a (.dat m e) b=(imm e=true/\b.sl[p]? = some .drw/\a e b.n):=rfl
theorem e_call{b:PF}{c:DA}{d:DS}{P:DV->DS->Prop}:yR b c d P=(c d λxs a=>callB b xs a P):=rfl
theorem e_callW{i:Nat}{d:DF}{c:DA}{a:DS}{P:DV->DS->Prop}:rQ i d c a P=(match a.sl[i]? with | some .drw=>c a λxs b=>callBW i d xs b P | _=>False):=rfl
theorem e_draws{b:DA}{c:DS}{P:DV->DS->Prop}:o4 b c P=(b c λxs a=>G7 xs a P):=rfl
theorem e_drawsB{m:Md}{i:Int}{a:DS}{P:DV->DS->Prop}:G7 [.dat m (.int i)] a P=(P .drw a):=rfl
theorem e_append{i:Nat}{c:DE}{D:DEnds}{b:DS}:kJ i c D b=(match b.sl[i]? with | some (.dat _ (.list _))=>c b λy a=>appB i y a D | _=>False):=rfl
theorem e_insert{i:Nat}{d e:DE}{D:DEnds}{a:DS}:jV i d e D a=(match a.sl[i]? with | some (.dat _ (.list _))=>d a λz b=>e b λy c=>insB i z y c D | _=>False):=rfl
theorem e_appendO{i:Nat}{c:DE}{D:DEnds}{b:DS}:bC i c D b=(match b.sl[i]? with | some (.dat _ (.list _))=>c b λy a=>appOB i y a D | _=>False):=rfl
theorem e_aug{i:Nat}{rd:D2}{d:DE}{D:DEnds}{c:DS}:P9 i rd d D c=(match c.sl[i]? with | some (.dat _ (.int a))=>d c λy b=>rd (.dat .ow (.int a)) y λz=>GZ i z b D | _=>False):=rfl
theorem e_augB{i:Nat}{m:Md}{d:Ae}{D:DEnds}{a:DS}:GZ i (.dat m d) a D=(imm d=true/\D.nx ⟨a.sl.set i (.dat .sh d),a.n⟩):=rfl
theorem e_scrSl{i:Nat}{dl d:DO}{b:DS}{P:DV->DS->Prop}:pO i dl d b P=(match b.sl[i]? with | some (.scr ns)=>dl b λl a=>d a λh c=>P (.dat .ow (.list ((Ki ns l h).map Bo))) c | _=>False):=rfl
theorem e_dcomp2{c:DI}{f:List Nat}{b:DT}{a e:DE}{d:DS}{P:DV->DS->Prop}:iZ c f b a e d P=(c d (uR f b a e P)):=rfl
theorem e_dcStep{e:DT}{d g:DE}{f:DS}{a:List Int->Ae->Nat->Prop}{h:Nat->Prop}:iR e d g f a h=(e f λc b=>LN d g a h c b):=rfl
theorem e_dcBT{d f:DE}{e:DS}{a:List Int->Ae->Nat->Prop}{g:Nat->Prop}:LN d f a g true e=(d e λy c=>f c λz b=>oK a y z b):=rfl
theorem e_dcYes{m c:Md}{k e:Ae}{b:DS}{a:List Int->Ae->Nat->Prop}:oK a (.dat m k) (.dat c e) b=(∃w,k=Bt w/\imm e=true/\a w e b.n):=rfl
section
variable{t u:DB}{D:DEnds}{c b:DS}
theorem Sr{n:Type}{m:DG}{k:DB}{o:List Ae}{l:List n}{g:n->Ae}(e:o=l.map g)(I:Nat->DS->Prop)(h0:I 0 b)(p:∀i a c,l[i]? = some a->I i c->m (.dat .sh (g a)) c λj=>k { D with nx:=I (i+1),ct:=I (i+1),bk:=D.nx } j)(s:∀c,I l.length c->D.nx c):IA m k D .sh o b:=by
 subst e
 refine ⟨rfl,I,h0,λi d c f r=>?_,λc h=>s c (by rw[Ab] at h; exact h)⟩
 rw[Bm] at f
 cases q:l[i]? with
 | none=>rw[q] at f; cases f
 | some a=>rw[q] at f; cases f; exact p i a c q r
end
section
variable{r:List Nat}{j:DT}{k:DE}{P:DV->DS->Prop}{m:Md}{o:List Ae}{b:DS}{c:Type}
theorem nE{l:List c}{g:c->Ae}(e:o=l.map g)(p:c->Bool)(f:c->Ae)(h:∀a∈l,∀(u:Ae->Nat->Prop) (y:Nat->Prop),(p a=true->u (f a) b.n)->(p a=false->y b.n)->Wd j k ⟨.dat m (g a)::frD b.sl r,b.n⟩ u y)(q:P (.dat .ow (.list ((l.filter p).map f))) b):B7 r j k P m o b:=by
 subst e
 refine ⟨λi s n=>n=b.n/\s=((l.take i).filter p).map f,⟨rfl,by simp⟩,λi d s n t ⟨x,w⟩=>?_,λs n ⟨x,w⟩=>?_⟩
 ·subst x w
  rw[Bm] at t
  cases q:l[i]? with
  | none=>rw[q] at t; cases t
  | some a =>
   rw[q] at t
   cases t
   refine h a (Aq q) _ _ (λv=>⟨rfl,?_⟩) (λv=>⟨rfl,?_⟩)
   ·rw[Oc q,Qe,Bb]; simp [v]
   ·rw[Oc q,Qe,Bb]; simp [v]
 ·subst x w
  rw[Ab,Ea]
  exact q
theorem tT{l:List c}{g:c->Ae}(e:o=l.map g)(f:c->Ae)(h:∀a∈l,∀(d:Ae->Nat->Prop) (i:Nat->Prop),d (f a) b.n->Wd j k ⟨.dat m (g a)::frD b.sl r,b.n⟩ d i)(q:P (.dat .ow (.list (l.map f))) b):B7 r j k P m o b:=by
 refine nE e (λ_=>true) f (λa p d i s _=>h a p d i (s rfl)) ?_
 rw[yM.mpr λ_ _=>rfl]
 exact q
theorem pT{l:List c}{g:c->Ae}(e:o=l.map g)(p:c->Bool)(f:c->Ae)(h:∀a∈l,∀(u:Ae->Nat->Prop) (y:Nat->Prop),(p a=true->u (f a) b.n)->(p a=false->y b.n)->Mq false j k ⟨.dat m (g a)::frD b.sl r,b.n⟩ u y)(q:P (.dat .tp (.list ((l.filter p).map f))) b):qO r j k P m o b:=by
 subst e
 refine ⟨λi s n=>n=b.n/\s=((l.take i).filter p).map f,⟨rfl,by simp⟩,λi d s n t ⟨x,w⟩=>?_,λs n ⟨x,w⟩=>?_⟩
 ·subst x w
  rw[Bm] at t
  cases q:l[i]? with
  | none=>rw[q] at t; cases t
  | some a =>
   rw[q] at t
   cases t
   refine h a (Aq q) _ _ (λv=>⟨rfl,?_⟩) (λv=>⟨rfl,?_⟩)
   ·rw[Oc q,Qe,Bb]; simp [v]
   ·rw[Oc q,Qe,Bb]; simp [v]
 ·subst x w
  rw[Ab,Ea]
  exact q
theorem pD{l:List c}{g:c->Ae}(e:o=l.map g)(f:c->Ae)(h:∀a∈l,∀(d:Ae->Nat->Prop) (i:Nat->Prop),d (f a) b.n->Mq false j k ⟨.dat m (g a)::frD b.sl r,b.n⟩ d i)(q:P (.dat .tp (.list (l.map f))) b):qO r j k P m o b:=by
 refine pT e (λ_=>true) f (λa p d i s _=>h a p d i (s rfl)) ?_
 rw[yM.mpr λ_ _=>rfl]
 exact q
theorem V6{js1 js2:List Nat}{j0:Nat}{l:List c}{g:c->Ae}(e:o=l.map g)(s:b.sl[j0]? = some .drw)(I:Nat->List Ae->Nat->Prop)(h0:I 0 [] b.n)(h:∀i a f n,l[i]? = some a->I i f n->Qn (js1.length+1) j k ⟨.dat m (g a)::(frD (b.sl.set j0 .un) js1++.drw::frD (b.sl.set j0 .un) js2),n⟩ (λe n'=>I (i+1) (f++[e]) n') (λn'=>I (i+1) f n'))(q:∀f n,I l.length f n->P (.dat .ow (.list f)) ⟨b.sl,n⟩):K0 js1 j0 js2 j k P m o b:=by
 subst e
 refine ⟨s,I,h0,λi d f n p r=>?_,λf n r=>q f n (by rw[Ab] at r; exact r)⟩
 rw[Bm] at p
 cases q:l[i]? with
 | none=>rw[q] at p; cases p
 | some a=>rw[q] at p; cases p; exact h i a f n q r
end
theorem Pk{t u:DB}{D:DEnds}{b:Bool}{a:DS}(h1:b=true->t D a)(c:b=false->u D a):FC t u D b a:=by
 cases b with
 | true=>exact h1 rfl
 | false=>exact c rfl
theorem FN{c d:DE}{b:Bool}{a:DS}{P:DV->DS->Prop}(h1:b=true->c a P)(e:b=false->d a P):LK c d b a P:=by
 cases b with
 | true=>exact h1 rfl
 | false=>exact e rfl
theorem F5{c:DT}{b:Bool}{a:DS}{P:Bool->DS->Prop}(h1:b=true->c a P)(d:b=false->P false a):L5 c b a P:=by
 cases b with
 | true=>exact h1 rfl
 | false=>exact d rfl
theorem fS{c:DT}{b:Bool}{a:DS}{P:Bool->DS->Prop}(h1:b=true->P true a)(d:b=false->c a P):JV c b a P:=by
 cases b with
 | true=>exact h1 rfl
 | false=>exact d rfl
theorem A4{c:DE}{m:Md}{b:Bool}{a:DS}{P:DV->DS->Prop}(h1:b=true->c a P)(d:b=false->P (.dat .ow (.bool false)) a):CV c (.dat m (.bool b)) a P:=by
 cases b with
 | true=>exact h1 rfl
 | false=>exact d rfl
theorem kR{e:DE}{a:Ae->Nat->Prop}{f:Nat->Prop}{b:Bool}{c:DS}(h1:b=true->e c λy d=>T7 a y d)(g:b=false->f c.n):tE e a f b c:=by
 cases b with
 | true=>exact h1 rfl
 | false=>exact g rfl
class Im (d:Ae):Prop where
 h:imm d=true
class ImA (ds:List Ae):Prop where
 h:Dz ds=true
theorem im{d:Ae}[h:Im d]:imm d=true:=h.h
theorem ML{a:List Ae}[h:ImA a]:Dz a=true:=h.h
instance {i:Int}:Im (.int i):=⟨by simp [imm]⟩
instance {i:Bool}:Im (.bool i):=⟨by simp [imm]⟩
instance {i:Str}:Im (.str i):=⟨by simp [imm]⟩
instance:Im .none:=⟨by simp [imm]⟩
instance {ds:List Ae} [h:ImA ds]:Im (.tuple ds):=⟨by rw[imm]; exact h.h⟩
instance {ns:List Int}:Im (Bt ns):=⟨G5 ns⟩
instance:ImA []:=⟨by simp [Dz]⟩
instance {d:Ae} {ds:List Ae} [h:Im d] [t:ImA ds]:ImA (d::ds):=⟨by rw[Dz,h.h,t.h]; rfl⟩
instance {α:Type} {f:α->Ae} {l:List α} [h:∀a,Im (f a)]:ImA (l.map f):=⟨Uu (λa=>(h a).h) l⟩
instance {a b:List Ae} [h:ImA a] [k:ImA b]:ImA (a++b):=⟨by rw[cR,h.h,k.h]; rfl⟩
class Dp (d:Ae) (k:outParam Nat):Prop where
 h:d.depth<=k
class DpA (ds:List Ae) (k:outParam Nat):Prop where
 h:Br ds<=k
theorem dp{d:Ae}{k:Nat}[h:Dp d k](a:k<=60:=by decide):d.depth<=60:=Bz h.h a
instance {i:Int}:Dp (.int i) 0:=⟨by simp [Do]⟩
instance {i:Bool}:Dp (.bool i) 0:=⟨by simp [Do]⟩
instance {i:Str}:Dp (.str i) 0:=⟨by simp [Do]⟩
instance:Dp .none 0:=⟨by simp [Do]⟩
instance {ds:List Ae} {k:Nat} [h:DpA ds k]:Dp (.tuple ds) (k+1):=⟨by have:=h.h; simp only[Do]; omega⟩
instance {ds:List Ae} {k:Nat} [h:DpA ds k]:Dp (.list ds) (k+1):=⟨by have:=h.h; simp only[Do]; omega⟩
instance {ns:List Int}:Dp (Bt ns) 1:=⟨qN ns⟩
instance:DpA [] 0:=⟨by simp [Br]⟩
instance {d:Ae} {ds:List Ae} {k j:Nat} [h:Dp d k] [t:DpA ds j]:DpA (d::ds) (k+j):=⟨by have:=h.h; have:=t.h; simp only[Br]; omega⟩
instance {α:Type} {f:α->Ae} {l:List α} {k:Nat} [h:∀a,Dp (f a) k]:DpA (l.map f) k:=⟨Yw λx hx=>by
 obtain ⟨a,_,rfl⟩:=Cn.mp hx
 exact (h a).h⟩
theorem iX{a b:List Ae}:Br (a++b)<=Br a+Br b:=by
 induction a with
 | nil=>simp [Br]
 | cons x a c=>simp only[Fe,Br]; omega
instance {a b:List Ae} {k j:Nat} [h:DpA a k] [t:DpA b j]:DpA (a++b) (k+j):=⟨by have:=h.h; have:=t.h; have:=iX (a:=a) (b:=b); omega⟩
theorem eqD_str(i j:Str):Er (.str i) (.str j)=(i == j):=by simp [Er]
theorem M6(a b:List Ae):Er (.tuple a) (.tuple b)=Pf a b:=by simp [Er]
theorem wK(x y:Ae)(a b:List Ae):Pf (x::a) (y::b)=(Er x y && Pf a b):=by simp [Pf]
theorem zS:Pf [] []=true:=by simp [Pf]
theorem eqD_intd(i j:Int):Er (.int i) (.int j)=decide (i=j):=by simp [Er]; rfl
def wordsD(ws:List (List Int)):Ae:=.list (ws.map Bt)
instance {ws:List (List Int)}:Dp (wordsD ws) 2:=⟨(inferInstance:Dp (.list (ws.map Bt)) 2).h⟩
def IE(a:List Int):Ae:=.list (a.map Bo)
instance {ns:List Int}:Dp (IE ns) 1:=⟨(inferInstance:Dp (.list (ns.map Bo)) 1).h⟩
theorem any_int(a:List Int)(i:Int):((a.map Bo).any λe=>Er e (.int i))=decide (i∈a):=by
 rw[Zq]
 induction a with
 | nil=>rfl
 | cons n a b =>
  rw[Xe,b]
  simp only[Function.comp,eqD_intd,Ai]
  by_cases h:n=i
  ·subst h; simp
  ·have : ¬ i=n:=λz=>h z.symm
   simp [h,this]
theorem zip_map{a b:Type}(f:a->b)(l:List a):(l.map f).zipIdx=l.zipIdx.map λp=>(f p.1,p.2):=by
 rw[List.zipIdx_map]
 rfl
theorem iS{a b:Type}(f:a->b)(l:List a)(i:Int):Xj (l.map f) i=(Xj l i).map f:=by
 unfold Xj
 rw[Ab]
 cases rX l.length i with
 | none=>rfl
 | some j=>simp
theorem nJ{c:Type}{l:List c}{i:Int}(h0:0<=i)(h1:i<l.length):∃a,l[i.toNat]? = some a/\Xj l i=some a/\a∈l:=by
 have b:i.toNat<l.length:=by omega
 refine ⟨l[i.toNat],by simp [b],?_,Ni b⟩
 have q:Xj l ((i.toNat:Nat):Int)=some l[i.toNat]:=jR (by simp [b])
 rwa [show ((i.toNat:Nat):Int)=i by omega] at q
theorem im_e{d:Ae}[h:Im d]:(imm d=true)=True:=eq_true h.h
theorem ima_e{a:List Ae}[h:ImA a]:(Dz a=true)=True:=eq_true h.h
theorem dp_e{d:Ae}{k:Nat}[h:Dp d k](a:k<=60):(d.depth<=60)=True:=eq_true (Bz h.h a)
theorem dpa_e{a:List Ae}{k:Nat}[h:DpA a k](b:k<=60):(Br a<=60)=True:=eq_true (Bz h.h b)
theorem eqD_l0(a:List Ae):Er (.list a) (.list [])=a.isEmpty:=L4 a
theorem ow_e{d:Ae}{R:Ae->Prop}:(∃e,DV.dat .ow d=.dat .ow e/\R e)=R d:=by
 apply propext
 constructor
 ·(intro a; obtain ⟨e,h,r⟩ := a); cases h; exact r
 ·intro r; exact ⟨d,rfl,r⟩
theorem tt_e{m:Md}{b:Bool}:(∃a,DV.dat m (.bool b)=.dat a (.bool true))=(b=true):=by
 apply propext
 constructor
 ·rintro ⟨e,h⟩; cases h; rfl
 ·intro r; subst r; exact ⟨m,rfl⟩
theorem cdiv_e{i j:Int}:AZ i j=(0<j/\j<1073741824):=rfl
theorem cpow_e{i j:Int}:Q6 i j=(0<=j/\j<=1000000/\i.natAbs<2 ^ 64):=rfl
theorem gJ{b a:List DV}{n n':Nat}(h:b=a)(h':n=n'):(⟨b,n⟩ : DS)=⟨a,n'⟩:=by subst h h'; rfl
theorem Su{j i a:Nat}(h:(Ce j)[i]? = some a):a=i/\i<j:=by
 obtain ⟨b,c⟩:=Ak.mp h
 rw[Dq] at b
 rw[List.getElem_range] at c
 exact ⟨c.symm,b⟩
def NP(v:DV):Prop:=∀l,npk (v::l)=npk l
theorem Hk:NP .un:=λ_=>rfl
theorem Gs{d:Ae}:NP (.dat .sh d):=λ_=>rfl
theorem EZ:NP .drw:=λ_=>rfl
theorem HY{t u:DB}{D:DEnds}(X:(Bool->DS->Prop)->Prop)(J:DS->Prop)(h:∀N:DS->Prop,(∀a,J a->N a)->X (FC t u { D with nx:=N }))(k:∀a,J a->D.nx a):X (FC t u D):=h D.nx k
theorem fold_w(w:List Int):Ym (List.map Bo w)=Bt w:=rfl
theorem isi_li(a:List Ae):Xq (.list a) "list" = true:=by simp [Xq,R4]
theorem ER(a:List Ae):Xq (.tuple a) "tuple" = true:=by simp [Xq,R4]
theorem isi_ib(i:Int):Xq (.int i) "bool" = false:=by simp [Xq,R4]
theorem isi_ii(i:Int):Xq (.int i) "int" = true:=by simp [Xq,R4]
theorem isi_wt(w:List Int):Xq (Bt w) "tuple" = true:=ER _
theorem GC{a:List Int}(k:Nat):(Ki a none (some (k:Int))).length<=k:=by
 rw[gT,Cu]
 exact Nat.min_le_left _ _
theorem ifB_lt{t u:DB}{D:DEnds}{a:DS}:FC t u D true a=t D a:=rfl
theorem ifB_lf{t u:DB}{D:DEnds}{a:DS}:FC t u D false a=u D a:=rfl
theorem str_self(s:Str):(s == s)=true:=by simp
theorem W5{c:Type}{l:List c}{i:Nat}{a:c}(h:l[i]? = some a):Xj l (i:Int)=some a:=by
 obtain ⟨b,e,d,_⟩:=nJ (l:=l) (i:=(i:Int)) (by omega) (by have:=(Ak.mp h).1; omega)
 rw[d,<- e,<- h]; rfl
theorem okT_l{a:List Ae}:GM (.list a)=True:=rfl
theorem yesL_ow{e:Ae}{b:DS}{a:Ae->Nat->Prop}:yU a (.dat .ow e) b=a e b.n:=propext ⟨λh=>h.2,λh=>⟨by decide,h⟩⟩
theorem E4{m b:Md}{a es:List Ae}{P:DV->Prop}(h1:m≠.pk)(c:b≠.pk):Yg (.dat m (.list a)) (.dat b (.list es)) P=(a.length+es.length<=1000000/\P (.dat .tp (.list (a++es)))):=propext ⟨λh=>h.2.2,λh=>⟨h1,c,h⟩⟩
theorem catL_shtp{a es:List Ae}{P:DV->Prop}:Yg (.dat .sh (.list a)) (.dat .tp (.list es)) P=(a.length+es.length<=1000000/\P (.dat .tp (.list (a++es)))):=E4 (by decide) (by decide)
theorem catL_tptp{a es:List Ae}{P:DV->Prop}:Yg (.dat .tp (.list a)) (.dat .tp (.list es)) P=(a.length+es.length<=1000000/\P (.dat .tp (.list (a++es)))):=E4 (by decide) (by decide)
theorem lX{c:Type}{l:List c}(h:l≠[]):∃a∈l,Xj l (-1)=some a/\l.getLast? = some a:=by
 have b:=Ft.mpr h
 refine ⟨l[l.length - 1],Ni _,?_,?_⟩
 ·unfold Xj rX
  rw[if_neg (by decide),if_pos (by omega),show ((-1:Int)+l.length).toNat=l.length - 1 by omega]
  simp [b]
 ·rw[List.getLast?_eq_getElem?]; simp [b]
theorem atI_0{a:Type}(x:a)(l:List a):Xj (x::l) 0=some x:=W5 (i:=0) rfl
theorem GL{a:Type}(x y:a)(l:List a):Xj (x::y::l) 1=some y:=W5 (i:=1) rfl
theorem some_e{b:Type}{a:b}{R:b->Prop}:(∃d,some a=some d/\R d)=R a:=propext ⟨λ⟨_,e,h⟩=>by cases e; exact h,λh=>⟨a,rfl,h⟩⟩
theorem eqD_tup1(s t:Str):Er (.tuple [.str s]) (.tuple [.str t])=(s == t):=by rw[M6,wK,zS,eqD_str,Bool.and_true]
theorem JC{a:Addr}{ks:List (List Int×Ae)}{w:List Int}{m e:Md}{P:DV->Prop}:M7 (.dat m (.dict (BV a ks))) (.dat e (Bt w)) P=∃d,Sb ks w=some d/\P (.dat .ow d):=propext ⟨λ⟨g,f,i,d,b,c,h⟩=>by obtain ⟨_,rfl⟩:=P5 b; cases Qp c; exact ⟨d,h⟩,λ⟨d,h⟩=>⟨a,ks,w,d,rfl,rfl,h⟩⟩
theorem dget_e{ks:List (List Int×Ae)}{w:List Int}{m c:Md}{P:DV->Prop}:kO (.dat m (.dict (kW ks))) (.dat c (Bt w)) P=∃d,Sb ks w=some d/\P (.dat .ow d):=propext ⟨λ⟨e,f,d,a,b,h⟩=>by cases aB a; cases Qp b; exact ⟨d,h⟩,λ⟨d,h⟩=>⟨ks,w,d,rfl,rfl,h⟩⟩
theorem dinF_e{ks:List (List Int×Ae)}{w:List Int}{m c:Md}{P:DV->Prop}:sU false (.dat c (Bt w)) (.dat m (.dict (kW ks))) P=P (.dat .ow (.bool (Sb ks w).isSome)):=propext ⟨λ⟨d,e,a,b,h⟩=>by cases aB a; cases Qp b; exact h,λh=>⟨ks,w,rfl,rfl,h⟩⟩
theorem wd_e{k:List Int}{R:List Int->Prop}:(∃w,Bt k=Bt w/\R w)=R k:=by
 apply propext
 constructor
 ·(intro a; obtain ⟨w,h,r⟩ := a); rw[Qp h]; exact r
 ·intro r; exact ⟨k,rfl,r⟩
theorem T8{B:List Nat}{y:DT}{w A:DE}{P:DV->DS->Prop}{m:Md}{C:List Ae}{b:DS}{p:Type}{l:List p}{g1 g2:p->Ae}(e:C=l.map λa=>.tuple [g1 a,g2 a])(hl:l.length<=1000000)(c:p->List Int)(u:p->Ae)(H:(l.map c).Nodup)(h:∀a∈l,∀(k:List Int->Ae->Nat->Prop) (G:Nat->Prop),k (c a) (u a) b.n->iR y w A ⟨.dat m (g1 a)::.dat m (g2 a)::frD b.sl B,b.n⟩ k G)(q:P (.dat .ow (.dict (kW (l.map λa=>(c a,u a))))) b):uR B y w A P m C b:=by
 subst e
 refine ⟨by rw[Ab]; exact hl,λi f n=>n=b.n/\f=(l.take i).map λa=>(c a,u a),⟨rfl,by simp⟩,λi d f n o ⟨t,s⟩=>?_,λf n ⟨t,s⟩=>?_⟩
 ·subst t s
  rw[Bm] at o
  cases q:l[i]? with
  | none=>rw[q] at o; cases o
  | some a =>
   rw[q] at o
   cases o
   refine ⟨_,_,rfl,h a (Aq q) _ _ ⟨rfl,?_⟩⟩
   rw[Oc q,Bb]
   unfold fK
   rw[if_neg]
   ·rfl
   ·rw[Zq,List.any_eq_true]
    (intro F; obtain ⟨x,D,g⟩ := F)
    have g:c x=c a:=of_decide_eq_true g
    obtain ⟨I,E⟩:=Ak.mp q
    obtain ⟨j,v⟩:=Ug.mp D
    have r:=(Ak.mp v).1
    rw[Cu] at r
    rw[List.getElem?_take,if_pos (by omega)] at v
    have z:=(List.getElem?_inj (l:=l.map c) (i:=j) (j:=i) (by rw[Ab]; omega) H).mp (by rw[Bm,Bm,v,q]; exact congrArg some g)
    omega
 ·subst t s
  rw[Ab,Ea]
  exact q
theorem retA_sh{d:Ae}{R:Ae->Prop}:(∃m d',DV.dat .sh d=.dat m d'/\m≠.pk/\R d')=R d:=propext ⟨λ⟨m,d',e,_,h⟩=>by cases e; exact h,λh=>⟨_,_,rfl,by decide,h⟩⟩
theorem retA_tp{d:Ae}{R:Ae->Prop}:(∃m d',DV.dat .tp d=.dat m d'/\m≠.pk/\R d')=R d:=propext ⟨λ⟨m,d',e,_,h⟩=>by cases e; exact h,λh=>⟨_,_,rfl,by decide,h⟩⟩
theorem ow_npk:(Md.ow≠Md.pk)=True:=eq_true (by decide)
end DL
namespace K18
open PySem L2 Nd DL
def top(i:Nat):Stmt:=PySem.Challenge.pw_needledeck_k18_whole_no_plain_code_has_m.main.body.getD i (.Pass ⟨0,0,0,0⟩)
abbrev Ut:Stmt:=top 4
abbrev Yk:Stmt:=top 5
abbrev Vy:Stmt:=top 6
abbrev jX:Stmt:=top 8
abbrev dH:Stmt:=top 9
abbrev Xw:Stmt:=top 10
abbrev Rh:Stmt:=top 11
abbrev Zx:Stmt:=top 13
abbrev Wh:Stmt:=top 14
abbrev Va:Stmt:=top 15
abbrev Rc:Stmt:=top 16
abbrev Qr:Stmt:=top 17
abbrev qL:Stmt:=top 18
abbrev Os:Stmt:=top 19
abbrev jU:Stmt:=top 21
abbrev uB:Stmt:=top 22
abbrev Mt:Stmt:=top 23
abbrev Ot:Stmt:=top 24
abbrev Mx:Stmt:=top 25
abbrev Qa:Stmt:=top 26
abbrev Lc:Stmt:=top 27
abbrev Ra:Stmt:=top 28
abbrev Zl:Stmt:=top 29
section
variable{P:Bq}{w:World}{K:PySem.W.Frag}{mg:Str->Option Value}{base:Heap}
theorem MT:FnScope ["_law_cell"] ["_law_cell"] (Bv jU):=⟨rfl,rfl,rfl,by decide +kernel,rfl,by decide +kernel,by decide +kernel⟩
theorem n5{f:Addr}{d:Cj}(F:Fun K "_law_draws" "_law_draws" jU f d):FnOk P w K mg base Ig 1 f d ["_law_cell"] sT:=by
 refine F.ok MT (λvs H Q E h=>?_) (λe A a s H vs Q E g h=>?_)
 ·obtain ⟨c,rfl,_⟩:=h
  rfl
 obtain ⟨c,rfl,q⟩:=h
 refine ⟨_,Tr (bG (rS (Gp (pv 0) (Gp Hs (Gp (sY X0 (pv 0) (Lf sA Hs Hs) (Ol _)) Lk))))),?_⟩
 refine ⟨_,rfl,_,rfl,10,18,rfl,rfl,⟨by decide,by decide,by decide⟩,_,_,rfl,rfl,(by show 3<=Bc; decide),λp b=>?_⟩
 exact q p _ _ b Di (Fj b _)
theorem MQ:FnScope ["_law_draws_here", "_law_k", "_law_number"] ["_law_draws_here"] (Bv uB):=⟨rfl,rfl,rfl,by decide +kernel,rfl,by decide +kernel,by decide +kernel⟩
theorem N9{f:Addr}{l:Cj}(F:Fun K "_law_next" "_law_next" uB f l):FnOk P w K mg base Ig 1 f l ["_law_draws_here"] j3:=by
 refine F.ok MQ (λvs H Q E h=>?_) (λn A e s H vs Q E v h=>?_)
 ·obtain ⟨d,c,k,b,rfl,_⟩:=h
  rfl
 obtain ⟨d,c,k,b,rfl,j,r,u,q⟩:=h
 refine ⟨_,Ln (qU (Lf bO (aR Th (pv 0) Hs (λ_ _=>rfl)) Hs) (x9 (pv 0) Hs mF))
  (Ln (Sa (i:=1) MQ.nd rfl (Dc rfl) (aR Th (pv 0) Hs (λ_ _=>rfl)))
  (Ln (W1 (B2 (aR Th (pv 0) Hs (λ_ _=>rfl)))
   (Ln (Sa (i:=2) MQ.nd rfl (Dc rfl) (Lf Yj (aR Th (pv 0) Hs (λ_ _=>rfl)) (Lf sA Hs Hs)))
    (Ln (qU (Lf iY (aR Th (pv 0) Hs (λ_ _=>rfl)) (Lf sA Hs Hs)) (x9 (pv 0) Hs mF))
    (Tr (bG (pv 2))))) uQ)
  (Ln (Sa (i:=2) MQ.nd rfl (Dc rfl) (Lf Yj (Lf Ye (Lf bO (Lf bO (Lf Yj (aR Th (pv 0) Hs (λ_ _=>rfl)) Hs) (Lf Ye (Lf Ye (pv 1) (pv 1)) Hs)) (pv 1)) Hs) Hs))
  (Ln (Sa (i:=2) MQ.nd rfl (Dc rfl) (Lf Yj (Lf Ye (pv 2) (pv 2)) Hs))
  (Tr (bG (Lf iY (Lf Yj (Lf Ye (pv 2) (Lf bO (pv 2) Hs)) Hs) Hs))))))),?_⟩
 -- draws[1]=draws[1]+1
 refine ⟨_,rfl,d,_,1,_,rfl,rfl,Qf.of j,rfl,_,_,rfl,rfl,_,rfl,d,_,1,1,rfl,rfl,j,rfl,?_⟩
 have a:(upd H d (.lst ([V.int c,V.int k,V.bl b].set 1 (V.int (k+1))))) d=some (.lst [.int c,.int (k+1),.bl b]):=Di
 generalize g:upd H d (.lst ([V.int c,V.int k,V.bl b].set 1 (V.int (k+1))))=H1 at a
 have m:Ul d H H1:=by rw[<- g]; exact Ul.upd
 -- k=draws[1]; if draws[2]
 refine ⟨_,rfl,d,_,1,_,rfl,rfl,Qf.of a,rfl,_,rfl,d,_,2,_,rfl,rfl,Qf.of a,rfl,_,rfl,?_⟩
 refine LB (λ_=>?_) (λ_=>?_)
 ·refine ⟨_,rfl,d,_,0,_,rfl,rfl,Qf.of a,rfl,10,6,rfl,rfl,⟨by decide,by decide,by decide⟩,_,_,rfl,rfl,(by show (0:Int)<10 ^ (6:Int).toNat; decide),?_⟩
  refine ⟨_,rfl,d,_,0,_,rfl,rfl,Qf.of a,rfl,10,6,rfl,rfl,⟨by decide,by decide,by decide⟩,_,_,rfl,rfl,⟨by decide,by decide⟩,_,rfl,d,_,0,0,rfl,rfl,a,rfl,_,rfl,?_⟩
  exact q _ _ _ Di (m.trans Ul.upd)
 ·have t:=aF c 1000003 (by decide)
  have p:=aF ((c % 1000003+(k+1) * (k+1) * 7919+(k+1)) * 48271) 2147483629 (by decide)
  refine ⟨_,rfl,d,_,0,_,rfl,rfl,Qf.of a,rfl,_,_,rfl,rfl,(by show (0:Int)<1000003; decide),_,rfl,_,rfl,_,_,rfl,rfl,.inl ⟨by omega,by omega⟩,_,_,rfl,rfl,.inr ⟨by decide,by decide⟩,_,_,rfl,rfl,_,rfl,_,_,rfl,rfl,
   _,_,rfl,rfl,.inr ⟨by decide,by decide⟩,_,_,rfl,rfl,(by show (0:Int)<2147483629; decide),?_⟩
  generalize ((c % 1000003+(k+1) * (k+1) * 7919+(k+1)) * 48271) % 2147483629=x at p
  have o:=aF (x * x) 2147483587 (by decide)
  refine ⟨_,rfl,_,rfl,_,_,rfl,rfl,.inl ⟨by omega,by omega⟩,_,_,rfl,rfl,(by show (0:Int)<2147483587; decide),?_⟩
  generalize (x * x) % 2147483587=y at o
  refine ⟨_,rfl,_,rfl,_,_,rfl,rfl,_,_,rfl,rfl,.inl ⟨by omega,by omega⟩,_,_,rfl,rfl,(by show (0:Int)<2147483579; decide),_,_,rfl,rfl,⟨by decide,by decide⟩,?_⟩
  exact q _ _ _ a m
theorem wG{f:Addr}{a:Cj}(F:Fun K "_law_draws" "_law_draws" jU f a):FnOk P w K mg base Ig 1 f a ["_law_cell"] Vq:=B0 (n5 F)
theorem r6{f:Addr}{a:Cj}(F:Fun K "_law_next" "_law_next" uB f a):FnOk P w K mg base Ig 1 f a ["_law_draws_here"] (W3 K Xy):=L3 (N9 F)
end
end K18
namespace DL
open PySem L2 Nd
def sub(a b:List Int):Bool:=a.all λi=>decide (i∈b)
def nS(a b:List Int):List Int:=a.filter λi=>decide (i∉b)
theorem Sg(a:Int){b:Int}(h:0<b):0<=a % b/\a % b<b:=aF a b h
def EW:PF:=λc R=>∃a b:List Int,c=[Bt a,Bt b]/\R (.bool (sub a b))
end DL
namespace Nd
open PySem L2 Ts
def Y1(K:PySem.W.Frag):R2:=λx y H Q=>∃a b c d,x=.ref a/\y=.ref b/\Tz K H a c/\Tz K H b d/\d≠[]/\c.length+d.length<=Bc/\(c=[]->Q (.ref b) H)/\(c≠[]->∀p,H p=none->Q (.ref p) (upd H p (.tup (c++d))))
open PyProof.Rows in
theorem Q2{X:Cx}:Vn X (Lh .Add) (Y1 X.K):=by
 intro c s P H x y v u Q I m k h
 obtain ⟨a,b,l,E,rfl,rfl,n,q,C,R,D,A⟩:=h
 by_cases d:l=[]
 ·cases m
  cases k
  obtain ⟨f,B,N,_⟩:=I.tuple n
  obtain ⟨j,W,G,_⟩:=I.tuple q
  have e:f=[]:=B.nil_iff.mpr d
  subst e
  obtain ⟨⟨V,J,T,i⟩,r,w,M,e⟩:=id N
  obtain ⟨⟨U,O,S,g⟩,o,p,L,t⟩:=id G
  simp only at w e p t
  subst w e p t
  exact iB ⟨_,r,rfl⟩ ⟨_,o,rfl⟩ Uq dO PySem.F.slot_tuple_add PySem.F.entry_tuple_add (PySem.F.args_tuple_add_2 _ _)
   (tuple_addW0 a b _ _ M L J O i g rfl) ⟨r,o,⟨.ref b,H,I,rfl,D d⟩⟩
 ·exact tN c s P H (.ref a) (.ref b) v u Q I m k ⟨a,b,l,E,rfl,rfl,n,q,d,R,λz=>absurd z C,λ_=>A d⟩
def Fn:Nat->List (List Int)
 | 0=>[[]]
 | n+1=>Fn n++(Fn n).map (·++[(n:Int)])
theorem Ou:∀n,(Fn n).length=2 ^ n
 | 0=>rfl
 | n+1=>by
  show (Fn n++(Fn n).map (·++[(n:Int)])).length=2 ^ (n+1)
  rw[Ar,Ab,Ou n,Mu]
  omega
theorem Wb{n:Nat}(h:n<=10):(Fn n).length<=1024:=by
 rw[Ou]
 exact Gm (by decide) h
theorem Po:∀n,∀w∈Fn n,w.length<=n
 | 0,w,h=>by
  have : w=[]:=by simpa [Fn] using h
  rw[this]
  exact Aj _
 | n+1,w,h=>by
  rcases Am.mp (show w∈Fn n++(Fn n).map (·++[(n:Int)]) from h) with h | h
  ·exact Nat.le_succ_of_le (Po n w h)
  ·obtain ⟨v,a,e⟩:=Cn.mp h
   rw[<- e,Ar,Cp]
   exact Nat.succ_le_succ (Po n v a)
theorem Yu:∀n,∃r,Fn n=[]::r
 | 0=>⟨[],rfl⟩
 | n+1=>by
  obtain ⟨r,e⟩:=Yu n
  refine ⟨r++(Fn n).map (·++[(n:Int)]),?_⟩
  show Fn n++(Fn n).map (·++[(n:Int)])=_
  conv=>lhs; lhs; rw[e]
  rfl
def Ord(l:List (List Int)):Prop:=l.Pairwise λx y=>HT.lexLt y x=false
def Ws(H:Hp)(ws:List (Addr×List Int)):Prop:=∀p∈ws,H p.1=some (.tup (p.2.map V.int))
def ET(H:Hp)(a:Addr):List Int:=match H a with
 | some (.tup xs)=>xs.filterMap λx=>match x with | .int i=>some i | _=>none
 | _=>[]
theorem kD{H:Hp}{a:Addr}{w:List Int}(h:H a=some (.tup (w.map V.int))):ET H a=w:=by
 unfold ET
 rw[h]
 show (w.map V.int).filterMap _=w
 rw[List.filterMap_map]
 exact List.filterMap_some
theorem Ws.c{H:Hp}{ws:List (Addr×List Int)}(h:Ws H ws):(ws.map (·.1)).map (ET H)=ws.map (·.2):=by
 rw[Dj]
 exact Lv λp a=>kD (h p a)
def tR:Sp:=λvs H Q _=>∃h:Int,vs=[.int h]/\0<=h/\h<=10 /\
 ∀(p:Addr) (b:List Addr) (L:List (List Int)) (a:Hp),H p=none->a p=some (.lst (b.map V.ref))->(∀(i:Nat) (r:Addr) (w:List Int),b[i]? = some r->L[i]? = some w->a r=some (.tup (w.map V.int)))->b.length=L.length->L.Perm (Fn h.toNat)->Ord L->Nt H a->Q (.ref p) a
end Nd
namespace Nd
open PySem L2
def ch:Nat->Nat->Nat
 | _,0=>1
 | 0,_+1=>0
 | n+1,k+1=>ch n k+ch n (k+1)
theorem Qz(n:Nat):ch n 0=1:=by cases n <;> rfl
theorem Ny(n k:Nat):ch (n+1) (k+1)=ch n k+ch n (k+1):=rfl
theorem Ji:∀{n k:Nat},n<k->ch n k=0
 | 0,0,h=>absurd h (Jl _)
 | 0,k+1,_=>rfl
 | n+1,0,h=>absurd h (Gd _)
 | n+1,k+1,h=>by rw[Ny,Ji (by omega:n<k),Ji (by omega:n<k+1)]
theorem aG:∀n:Nat,ch n n=1
 | 0=>rfl
 | n+1=>by rw[Ny,aG n,Ji (eI n)]
theorem o5:∀n:Nat,ch n 1=n
 | 0=>rfl
 | n+1=>by rw[Ny,Qz,o5 n]; omega
theorem iG:∀n k:Nat,ch n (k+1) * (k+1)=ch n k * (n - k)
 | 0,0=>rfl
 | 0,k+1=>by rw[Ji (by omega:0<k+1+1),Ji (by omega:0<k+1)]; simp
 | n+1,0=>by rw[o5,Qz]; omega
 | n+1,k+1=>by
  have a:=iG n k
  have b:=iG n (k+1)
  rw[Ny,Ny n k]
  by_cases f:n<=k
  ·by_cases c:n=k
   ·subst c
    rw[aG,Ji (by omega:n<n+1),Ji (by omega:n<n+1+1)]
    simp
   ·rw[Ji (by omega:n<k+1),Ji (by omega:n<k+1+1),Ji (by omega:n<k)]
    simp
  ·have d:n - k=n - (k+1)+1:=by omega
   have e:n+1 - (k+1)=n - (k+1)+1:=by omega
   rw[d] at a
   rw[e]
   generalize n - (k+1)=m at a b
   generalize ch n k=A at *
   generalize ch n (k+1)=B at *
   generalize ch n (k+1+1)=C at *
   -- a:B * (k+1)=A * (m+1); b:C * (k+1+1)=B * m
   have : (B+C) * (k+1+1)=B * (k+1)+B+C * (k+1+1):=by
    rw[Nat.add_mul,Nat.mul_add B (k+1) 1,Nat.mul_one]
   rw[this,a,b,Nat.add_mul,Nat.mul_add B m 1,Nat.mul_one]
   omega
theorem rM:∀{n k:Nat},k<=n->ch n k=ch n (n - k)
 | 0,k,h=>by
  have : k=0:=by omega
  subst this; rfl
 | n+1,0,_=>by rw[Qz,aM,aG]
 | n+1,k+1,h=>by
  by_cases b:k=n
  ·subst b; rw[Nat.sub_self,aG,Qz]
  ·have e:n+1 - (k+1)=(n - (k+1))+1:=by omega
   rw[Ny,e,Ny,rM (by omega:k<=n),rM (by omega:k+1<=n)]
   have a:n - k=n - (k+1)+1:=by omega
   rw[a]
   omega
theorem vD:∀n k:Nat,ch n k<=2 ^ n
 | n,0=>by rw[Qz]; exact Nat.one_le_two_pow
 | 0,k+1=>by rw[Ji (by omega)]; exact Dh _
 | n+1,k+1=>by
  have b:=vD n k
  have a:=vD n (k+1)
  rw[Ny,Mu]
  omega
def cw:Nat->Int->Nat->List (List Int)
 | _,_,0=>[[]]
 | 0,_,_+1=>[]
 | d+1,p,m+1=>(cw d (p+1) m).map (p::·)++cw d (p+1) (m+1)
theorem cw_zero (d:Nat) (p:Int):cw d p 0=[[]]:=by cases d <;> rfl
theorem cw_succ (d:Nat) (p:Int) (m:Nat):cw (d+1) p (m+1)=(cw d (p+1) m).map (p::·)++cw d (p+1) (m+1):=rfl
theorem cw_len:∀ (d:Nat) (p:Int) (m:Nat),(cw d p m).length=ch d m
 | d,p,0=>by rw [cw_zero,Qz]; rfl
 | 0,p,m+1=>rfl
 | d+1,p,m+1=>by rw [cw_succ,Ar,Ab,cw_len d (p+1) m,cw_len d (p+1) (m+1),Ny]
def F3(p:Int)(d:Nat)(w:List Int):Prop:=w.Pairwise (· < ·)/\∀x∈w,p<=x/\x<p+d
theorem cw_mem:∀ {d:Nat} {p:Int} {m:Nat} {w:List Int},w∈cw d p m↔w.length=m∧F3 p d w
 | d,p,0,w=>by
  rw [cw_zero,Ac]
  constructor
  ·rintro rfl; exact ⟨rfl,Dn,λ_ h=>(nomatch h)⟩
  ·rintro ⟨h,_⟩; exact List.eq_nil_of_length_eq_zero h
 | 0,p,m+1,w=>by
  constructor
  ·intro h; cases h
  ·(intro f; obtain ⟨h,_,a⟩ := f)
   match w,h with
   | x::w,_=>have:=a x Aa; omega
 | d+1,p,m+1,w=>by
  rw [cw_succ,Am,List.mem_map]
  constructor
  ·rintro (⟨v,hv,rfl⟩ | h)
   ·obtain ⟨c,a,b⟩:=cw_mem.mp hv
    refine ⟨by rw[Bi,c],Ay.mpr ⟨λx hx=>?_,a⟩,λx hx=>?_⟩
    ·have:=b x hx; omega
    ·rcases Ai.mp hx with rfl | hx
     ·omega
     ·have:=b x hx; omega
   ·obtain ⟨c,a,b⟩:=cw_mem.mp h
    exact ⟨c,a,λx hx=>by have:=b x hx; omega⟩
  ·(intro f; obtain ⟨c,a,b⟩ := f)
   match w,c with
   | x::v,c =>
    obtain ⟨g,i⟩:=Ay.mp a
    have hx:=b x Aa
    by_cases e:x=p
    ·subst e
     refine .inl ⟨v,cw_mem.mpr ⟨by simpa using c,i,fun y hy=>?_⟩,rfl⟩
     have:=g y hy
     have:=b y (Ad _ hy)
     omega
    ·refine .inr (cw_mem.mpr ⟨c,a,fun y hy=>?_⟩)
     rcases Ai.mp hy with rfl | hy
     ·omega
     ·have:=g y hy
      have:=b y (Ad _ hy)
      omega
def qB(top:Int):Nat->List Int->Nat
 | _,[]=>0
 | m,x::w=>ch (top - 1 - x).toNat m+qB top (m - 1) w
theorem cw_lex:∀ (d:Nat) (p:Int) (m:Nat),(cw d p m).Pairwise (fun x y=>HT.lexLt x y=true)
 | d,p,0=>by rw [cw_zero]; exact Ct _ _
 | 0,p,m+1=>Dn
 | d+1,p,m+1=>by
  rw [cw_succ]
  refine Bu.mpr ⟨?_,cw_lex d (p+1) (m+1),fun x f y e=>?_⟩
  ·rw[List.pairwise_map]
   exact (cw_lex d (p+1) m).imp fun {a b} h=>by rw [HT.lexLt_cons,if_pos rfl]; exact h
  ·obtain ⟨v,_,rfl⟩:=Cn.mp f
   obtain ⟨g,i,c⟩:=cw_mem.mp e
   match y,g,c with
   | z::y,_,c =>
    have:=c z Aa
    rw[HT.lexLt_cons,if_neg (by omega),decide_eq_true_eq]
    omega
theorem cW:∀{n:Nat} {w:List Int},w∈Fn n↔Ge n w
 | 0,w=>by
  show w∈[[]]↔_
  rw[Ac]
  constructor
  ·rintro rfl; exact Ge.nil _
  ·rintro ⟨_,h⟩
   match w with
   | []=>rfl
   | x::w=>have:=h x Aa; omega
 | n+1,w=>by
  show w∈Fn n++(Fn n).map (·++[(n:Int)])↔_
  rw[Am,List.mem_map,cW]
  constructor
  ·rintro (h | ⟨v,hv,rfl⟩)
   ·exact h.up (by omega)
   ·have:=(cW.mp hv).more (by omega)
    exact this.up (by omega)
  ·intro h
   by_cases b:(n:Int)∈w
   ·refine .inr ⟨w.dropLast,cW.mpr ?_,?_⟩
    ·have a:w≠[]:=λz=>by rw[z] at b; cases b
     have g:w.getLast a=n:=by
      have j:=h.2 _ (Ru a)
      by_cases e:w.getLast a=n
      ·exact e
      ·exfalso
       have d:=Cr a
       rw[<- d] at b
       rcases Am.mp b with z | z
       ·have c:=h.1
        rw[<- d] at c
        have:=(Bu.mp c).2.2 _ z _ (Ac.mpr rfl)
        omega
       ·exact e (Ac.mp z).symm
     have d:=Cr a
     have c:=h.1
     rw[<- d,g] at c
     obtain ⟨k,_,i⟩:=Bu.mp c
     exact ⟨k,λx f=>⟨(h.2 x (Gj w f)).1,i x f _ (Ac.mpr rfl)⟩⟩
    ·have a:w≠[]:=λz=>by rw[z] at b; cases b
     have g:w.getLast a=n:=by
      have j:=h.2 _ (Ru a)
      by_cases e:w.getLast a=n
      ·exact e
      ·exfalso
       have d:=Cr a
       rw[<- d] at b
       rcases Am.mp b with z | z
       ·have c:=h.1
        rw[<- d] at c
        have:=(Bu.mp c).2.2 _ z _ (Ac.mpr rfl)
        omega
       ·exact e (Ac.mp z).symm
     rw[<- g]
     exact Cr a
   ·refine .inl ⟨h.1,λx f=>?_⟩
    have:=h.2 x f
    have : x≠n:=λz=>b (by rw[<- z]; exact f)
    omega
theorem Nu:∀n:Nat,(Fn n).Nodup
 | 0=>Bp.mpr ⟨Bf,Dl⟩
 | n+1=>by
  show (Fn n++(Fn n).map (·++[(n:Int)])).Nodup
  refine Ec.mpr ⟨Nu n,?_,λx c y d e=>?_⟩
  ·exact List.Pairwise.map _ (λa b h e=>h (oY e)) (Nu n)
  ·subst e
   obtain ⟨v,_,rfl⟩:=Cn.mp d
   have:=(cW.mp c).2 n (Af _ (Ac.mpr rfl))
   omega
end Nd
namespace DL
open PySem L2 Nd
def jO:PF:=λa R=>∃h:Int,a=[.int h]/\0<=h/\h<=10/\∀L:List (List Int),L.Perm (Fn h.toNat)->Ord L->R (wordsD L)
theorem oB{K:PySem.W.Frag}{H:Hp}:∀{rs:List Addr} {L:List (List Int)},(∀(i:Nat) (r:Addr) (w:List Int),rs[i]? = some r->L[i]? = some w->H r=some (.tup (w.map V.int)))->rs.length=L.length->(∀w∈L,w.length<=1000000)->RdFs K H (rs.map V.ref) (L.map Bt) []
 | [],[],_,_,_=>.nil
 | r::rs,w::L,h,l,hw=>by
  have a:=Q5 (K:=K) (h 0 r w rfl rfl) (hw w (Aa ..))
  have t:=oB (K:=K) (rs:=rs) (L:=L) (λi d b e c=>h (i+1) d b e c) (by simpa using l) (λb z=>hw b (Ad _ z))
  exact RdFs.cons a t
 | [],_::_,_,l,_=>by simp at l
 | _::_,[],_,l,_=>by simp at l
theorem xR{L:List (List Int)}{n:Nat}(b:n<=10)(p:L.Perm (Fn n)):L.length<=1024/\∀w∈L,Ge n w/\w.length<=10:=⟨by rw[p.length_eq]; exact Wb b,λw a=>⟨cW.mp (p.mem_iff.mp a),Bz (Po n w (p.mem_iff.mp a)) b⟩⟩
section
variable{P:Bq}{w:World}{K:PySem.W.Frag}{mg:Str->Option Value}{base:Heap}{k:Nat}{f:Addr}{b:Cj}{ps:List Str}
theorem zQ(F:FnOk P w K mg base Ig k f b ps tR):FnOk P w K mg base Ig k f b ps (Oe K jO):=by
 refine F.imp λA H Q E h=>?_
 obtain ⟨B,n,J,R,d,ok,q,c,y⟩:=h
 obtain ⟨h,rfl,m,z,i⟩:=c
 obtain ⟨I,D,rfl,e⟩:=yO d ok q
 obtain ⟨rfl,_⟩:=e.int_inv
 refine ⟨h,rfl,m,z,λp G L j x t u o c v s=>?_⟩
 obtain ⟨C,r⟩:=xR (n:=h.toNat) (by omega) c
 refine y (.ref p) _ [p] j (i L c v) (RdF.lst t (by rw[Ab]; exact Zg (by omega)) (oB u o λw l=>by have:=(r w l).2; omega)) (Bp.mpr ⟨Bf,Dl⟩) (λa g=>?_) s
 rw[Ac.mp g]; exact x
end
def pairD(p:Nat×Nat):Ae:=.tuple [.int p.1,.int p.2]
instance {p:Nat×Nat}:Im (pairD p):=⟨(inferInstance:Im (.tuple [.int p.1,.int p.2])).h⟩
instance {p:Nat×Nat}:Dp (pairD p) 1:=⟨(inferInstance:Dp (.tuple [.int p.1,.int p.2]) 1).h⟩
def X5(p:Nat×Nat×List Int):Ae:=.tuple [.int p.1,.int p.2.1,Bt p.2.2]
instance {p:Nat×Nat×List Int}:Im (X5 p):=⟨(inferInstance:Im (.tuple [.int p.1,.int p.2.1,Bt p.2.2])).h⟩
instance {p:Nat×Nat×List Int}:Dp (X5 p) 2:=⟨(inferInstance:Dp (.tuple [.int p.1,.int p.2.1,Bt p.2.2]) 2).h⟩
def KH(L:List (List Int))(f:List Int->Int):Ae:=.list ((L.map f).map Bo)
instance {L:List (List Int)} {f:List Int->Int}:Dp (KH L f) 1:=⟨(inferInstance:Dp (.list ((L.map f).map Bo)) 1).h⟩
theorem lR{L:List (List Int)}{n:Nat}(p:L.Perm (Fn n)):L.Nodup:=p.nodup_iff.mpr (Nu n)
theorem vQ{L:List (List Int)}{n:Nat}(p:L.Perm (Fn n)){w:List Int}:w∈L↔Ge n w:=p.mem_iff.trans cW
def jm(Q w c:List Int):Bool:=sub w c && c.all λi=>decide (i∈w\/i∉Q)
end DL
namespace DL
open PySem PySem.Spec PyProof.Rows L2 Nd
end DL
namespace DRow
open PySem L2 Nd DL
abbrev Cd:=List Int
def Zj(w u:List Int):Bool:=w.all λi=>decide (i∈u)
def DU(a b:List Int)(ps:List (List Int×Bool)):Option Bool:=ps.foldl (λst p=>if Zj p.1 a=Zj p.1 b then st else some (Zj p.1 a == !p.2)) none
theorem P4(a b:List Int)(ps:List (List Int×Bool))(p:List Int×Bool):DU a b (ps++[p])=if Zj p.1 a=Zj p.1 b then DU a b ps else some (Zj p.1 a == !p.2):=by
 unfold DU
 rw[List.foldl_append]
 rfl
def cD(ps:List (List Int×Bool))(n:List Int):List Int:=ps.reverse.map λp=>if Zj p.1 n=p.2 then 1 else 0
theorem gN(ps:List (List Int×Bool))(p:List Int×Bool)(n:List Int):cD (ps++[p]) n=(if Zj p.1 n=p.2 then 1 else 0)::cD ps n:=by
 unfold cD
 rw[List.reverse_append,Bb]
 rfl
theorem F7{a:Type}{P:List a->Prop}(h0:P [])(h1:∀l x,P l->P (l++[x]))(l:List a):P l:=by
 have : ∀m:List a,P m.reverse:=λm=>by
  induction m with
  | nil=>exact h0
  | cons x m b=>rw[List.reverse_cons]; exact h1 _ _ b
 have:=this l.reverse
 rwa [List.reverse_reverse] at this
theorem J9(b a:List Int)(ps:List (List Int×Bool)):(DU b a ps=none↔cD ps b=cD ps a)/\(DU b a ps=some true↔HT.lexLt (cD ps b) (cD ps a)=true):=by
 induction ps using F7 with
 | h0=>exact ⟨⟨λ_=>rfl,λ_=>rfl⟩,⟨λh=>(by cases h),λh=>(by cases h)⟩⟩
 | h1 l p c =>
  rw[P4,gN,gN,HT.lexLt_cons]
  by_cases h:Zj p.1 b=Zj p.1 a
  ·rw[if_pos h,h,if_pos rfl]
   refine ⟨c.1.trans ⟨λe=>by rw[e],λe=>(Hh e).2⟩,c.2⟩
  ·rw[if_neg h]
   cases h1:Zj p.1 b <;> cases d:Zj p.1 a <;> cases f:p.2 <;> rw[h1,d] at h <;> first | exact absurd rfl h | simp
theorem Re(x y:List Int)(ps:List (List Int×Bool)):DU x y ps=some false↔(¬ cD ps x=cD ps y/\¬ HT.lexLt (cD ps x) (cD ps y)=true):=by
 rw[<- (J9 x y ps).1,<- (J9 x y ps).2]
 cases DU x y ps with
 | none=>simp
 | some b=>cases b <;> simp
def two(x y:Cd):Cd->Bool:=λr=>decide (r=x) || decide (r=y)
abbrev Ps:=List Int×Bool
def Y7(p:Ps):Ae:=.tuple [Bt p.1,.str (i6 p.2)]
instance {p:Ps}:Im (Y7 p):=⟨(inferInstance:Im (.tuple [Bt p.1,.str (i6 p.2)])).h⟩
instance {p:Ps}:Dp (Y7 p) 2:=⟨(inferInstance:Dp (.tuple [Bt p.1,.str (i6 p.2)]) _).h⟩
instance {α:Type} {f:α->Ae} {l:List α} {lo hi:Option Int} [h:∀a,Im (f a)]:ImA (Ki (l.map f) lo hi):=⟨by rw[bV]; exact ML⟩
theorem cutG_from{a:Type}(xs:List a)(k:Nat):Ki xs (some (k:Int)) none=xs.drop k:=by
 unfold Ki
 rw[HT.sIx_none,HT.sIx_nat]
 by_cases h:k<=xs.length
 ·rw[Ud h,Ex (by rw[Ih]; exact Aj _)]
 ·rw[eH (by omega),sI (by omega),sI (by omega),List.take_nil]
end DRow
namespace DL
open PySem PySem.Spec PyProof.Rows L2 Nd DRow
theorem cP{g j:Type}{f:g->j}:∀{l:List g},l.Nodup->(∀a∈l,∀b∈l,f a=f b->a=b)->(l.map f).Nodup
 | [],_,_=>Dl
 | x::l,nd,h=>by
  have c:=Bp.mp nd
  rw[Ax,List.nodup_cons]
  refine ⟨λz=>?_,cP c.2 λa i b k=>h a (Ad _ i) b (Ad _ k)⟩
  obtain ⟨y,d,e⟩:=Cn.mp z
  have:=h y (Ad _ d) x Aa e
  rw[this] at d
  exact c.1 d
end DL
namespace K18
open PySem L2 Nd DL
local macro_rules | `(tactic| array_get_dec) => do
  let ids:=(("e_lenSet e_lsB e_isB1 e_isB0 e_extend e_extB e_insertO e_insOB e_callWV e_callWVB e_seq e_skip e_ret e_if e_asg e_name e_name2 e_name3 e_name4 e_own e_nT e_nF e_gtup e_gsn e_gsc e_op e_var e_c e_imm e_immB e_take e_frz e_frzo e_I e_I0 e_bestK e_eqF e_eqT e_inFl e_inFt_w1 e_inTt_w1 e_ixl e_ixt e_cat e_catT_w1 e_nlT e_nlF e_ntT e_pkOfpk e_pkOfsh e_pkOfow e_mdInsh e_mdInow e_mdNewsh e_mdItpk e_mdItsh e_mdIttp e_mdItow e_nil e_cons e_tup e_lst e_noPart e_part e_partB e_sl e_slBl e_cb e_lenl e_lent_w1 e_tuplel e_min2 e_all e_sortT e_isi e_v e_b e_bB e_tru e_truB e_notT e_andT e_andTt e_orT e_orTf e_not e_notB e_and e_andt e_ifE e_neg e_negB e_dL e_dTp e_lB e_tpB_w1 e_range1 e_rng1B e_enum e_enumB e_zip e_zipB e_for e_comp e_compL e_stepL e_stepLT e_stepLF e_give e_giveB e_compD e_noTest e_step e_stepT e_stepF e_yesB e_stepD e_stepDT e_yesBD e_call e_callW e_draws e_drawsB e_append e_insert e_appendO e_aug e_augB e_scrSl e_dcomp2 e_dcStep e_dcBT e_dcYes ow_npk retWT retA_sh retA_tp wd_e isLst dget_e dinF_e wordsD callB callBW tupB lstB datas pkMd allOw noPk appB appOB mmd insB own1 npk retE retL args0 frD frD1 alD List.map_cons List.map_nil List.replicate List.getElem?_cons_zero List.getElem?_cons_succ List.set_cons_zero List.set_cons_succ List.cons_append List.nil_append Option.map_some List.length_cons List.length_nil List.append_nil rdAdd rdSub rdMul rdDiv rdMod rdShl rdLt rdLe rdGt rdGe if_true if_false Bool.false_eq_true mdZip List.append_assoc Nat.reduceAdd Nat.reduceSub Nat.reduceLeDiff true_and im_e ima_e dp_e dpa_e any_int eqD_intd eqD_str eqD_l0 ow_e tt_e cdiv_e cpow_e Int.reduceLT Int.reduceNeg and_self fold_w isi_li isi_ib isi_ii isi_wt Bool.not_true Bool.not_false String.reduceEq or_true true_or List.isEmpty_nil ifB_lt ifB_lf str_self atI_0 some_e eqD_tup1 okT_l yesL_ow catL_shtp catL_tptp" : String).splitOn " ").toArray.map λ(x:String)=>Lean.mkIdent x.toName
  `(tactic| try simp only [$[$ids:ident],*])
theorem BE(n i:Nat)(h:i<n):((ch n i:Nat):Int) * ((n:Int) - (i:Int)) / ((i:Int)+1)=((ch n (i+1):Nat):Int):=by
 have e:=iG n i
 have a:((ch n (i+1):Nat):Int) * ((i:Int)+1)=((ch n i:Nat):Int) * ((n:Int) - (i:Int)):=by
  have:=congrArg (λx:Nat=>(x:Int)) e
  simp only[Int.natCast_mul,Int.natCast_add,Int.natCast_one] at this
  rw[Int.ofNat_sub (by omega)] at this
  exact this
 rw[<- a,Int.mul_ediv_cancel _ (by omega)]
def Z3(i:Nat)(a:DS):Nat:=match a.sl[i]? with
 | some (.dat _ (.int p))=>p.toNat
 | _=>0
def Wc:PF:=λa R=>∃n k:Int,a=[.int n,.int k]/\0<=n/\n<=60/\0<=k/\R (.int (ch n.toNat k.toNat))
def mK:PF:=λa R=>∃h m n:Int,a=[.int h,.int m,.int n]/\0<=h/\h<=60/\0<=m/\0<=n/\n<(ch h.toNat m.toNat:Int)/\∀w:List Int,(cw h.toNat 0 m.toNat)[n.toNat]? = some w->R (Bt w)
def Xs:PF:=λa R=>∃h m:Int,a=[.int h,.int m]/\0<=h/\h<=12/\0<=m/\R (.list ((cw h.toNat 0 m.toNat).map Bt))
section
variable{P:Bq}{w:World}{K:PySem.W.Frag}{mg:Str->Option Value}{base:Heap}
theorem vX:FnScope ["n", "k", "many", "step"] ["n", "k"] (Bv dH):=⟨rfl,rfl,rfl,by decide +kernel,rfl,by decide +kernel,by decide +kernel⟩
theorem vO{f   : Addr}{p  : Cj}(F:Fun K "choose" "choose" dH f p)(d:mg "min" = none)(b:mg "range" = none):FnOk P w K mg base Ig 1 f p ["n", "k"] (Oe K (Wc)):=by
 refine' Jh (k:=0) F vX (λy A m s H E D=>?hb) ?h
 case hb =>
  have r:=D.units
  exact Cc (Lz (mL (Ap (pv 1)) (Ap (pv 0)))
   (Cy (Fo Dx)) Jr)
   (Cc (Hr (i:=2) vX.nd rfl (Dc rfl) Dx)
   (Cc (Kh Cs rfl (Mp rfl b (Ao (Du (xW rfl) N3 rfl d (by decide +kernel) (Ao (Ap (pv 1)) (Ao (Yc (Ap (pv 0)) (Ap (pv 1))) Ba))) Ba)) (Gc (i:=3) vX.nd rfl (Dc rfl))
   (Cy (Hr (i:=2) vX.nd rfl (Dc rfl) (kC (AJ (Ap (pv 2)) (Yc (Ap (pv 0)) (Ap (pv 3)))) (Mg (Ap (pv 3)) Dx)))))
   (Cy (Fo (Nf (Ap (pv 2)))))))
 case h =>
  (intro N R j; obtain ⟨n,k,rfl,M,L,J,o⟩ := j)
  refine ⟨rfl,?_⟩
  array_get_dec
  refine Pk (λq=>?_) (λq=>?_)
  ·have q:=of_decide_eq_true q
   rw[Ji (by omega)] at o
   array_get_dec
   exact o
  have q:=of_decide_eq_false q
  array_get_dec
  obtain ⟨t,z,I,B⟩ : ∃t:Nat,(if n - k<k then n - k else k)=(t:Int)/\t<=n.toNat/\ch n.toNat t=ch n.toNat k.toNat:=by
   by_cases c:n - k<k
   ·refine ⟨(n - k).toNat,by rw[if_pos c]; omega,by omega,?_⟩
    rw[rM (by omega)]
    congr 1
    omega
   ·exact ⟨k.toNat,by rw[if_neg c]; omega,by omega,rfl⟩
  rw[z]
  refine ⟨by omega,by omega,?_⟩
  rw[Ds]
  refine Sr (l:=Ce t) (g:=λi:Nat=>.int i) rfl (λi C=>∃v:DV,C=⟨[.dat .sh (.int n),.dat .sh (.int k),.dat .sh (.int (ch n.toNat i)),v],0⟩/\NP v) ?_ ?_ ?_
  ·exact ⟨_,by rw[Qz]; rfl,Hk⟩
  ·(intro i a _ x j; obtain ⟨v,rfl,u⟩ := j)
   obtain ⟨rfl,G⟩:=Su x
   array_get_dec
   refine ⟨.inr ⟨by omega,by omega⟩,⟨by omega,by omega⟩,?_⟩
   have e:=BE n.toNat a (by omega)
   rw[show ((n.toNat:Nat):Int)=n by omega] at e
   rw[e]
   exact ⟨_,rfl,Gs⟩
  ·(intro _ j; obtain ⟨v,rfl,u⟩ := j)
   rw[Dq,B]
   array_get_dec
   exact o
theorem pR:FnScope ["holes", "many", "number", "word", "left", "place", "having"] ["holes", "many", "number"] (Bv Xw):=⟨rfl,rfl,rfl,by decide +kernel,rfl,by decide +kernel,by decide +kernel⟩
theorem pI{f b  : Addr}{U g:Cj}(F:Fun K "word_at" "word_at" Xw f U)(c:FnOk P w K mg base Ig 1 b g ["n", "k"] (Oe K (Wc)))(j:Binds K g ["n", "k"] [])(l:PySem.W.keepIn K (.ref b)=true)(e:mg "choose" = some (.ref b))(p:mg "len" = none):FnOk P w K mg base Ig 2 f U ["holes", "many", "number"] (Oe K (mK)):=by
 refine' Jh (k:=1) F pR (λh2 A M s H E Y=>?hb) ?h
 case hb =>
  have J:Room 1 _:=Y.mono (by decide)
  have V:=Y.units
  exact Cc (Lz (eZ (Vz (lO (Ap (pv 2)) Dx) (Uz (Y8 (Ap (pv 2)) (Fp c J rfl e l j Gf (Ao (Ap (pv 0)) (Ao (Ap (pv 1)) Ba)))))))
   (Cy yY) Jr)
   (Cc (Hr (i:=3) pR.nd rfl (Dc rfl) (Mn Ba))
   (Cc (Hr (i:=4) pR.nd rfl (Dc rfl) (Ap (pv 2)))
   (Cc (Hr (i:=5) pR.nd rfl (Dc rfl) Dx)
   (Cc (nM Cs (lO (Du Fs Io rfl p (by decide +kernel) (Ao (Ap (pv 3)) Ba)) (Ap (pv 1)))
   (Cc (Hr (i:=6) pR.nd rfl (Dc rfl) (Fp c J rfl e l j Gf (Ao (Yc (Yc (Ap (pv 0)) Dx) (Ap (pv 5))) (Ao (Yc (Yc (Ap (pv 1)) (Du Fs Io rfl p (by decide +kernel) (Ao (Ap (pv 3)) Ba))) Dx) Ba))))
    (Cc (Lz (lO (Ap (pv 4)) (Ap (pv 6)))
    (Cy (Hr (i:=3) pR.nd rfl (Dc rfl) (Zu (Ap (pv 3)) (Mn (Ao (Nf (Ap (pv 5))) Ba))))) (Cy (uI (i:=4) pR.nd rfl (Dc rfl) (Ap (pv 6)) BP)))
    (Cy (sN (i:=5) pR.nd rfl (Dc rfl) Dx)))))
   (Cy (Fo (Nf (Ap (pv 3)))))))))
 case h =>
  (intro ds R N; obtain ⟨h,m,n,rfl,h0,h1,m0,n0,n1,hR⟩ := N)
  refine ⟨rfl,?_⟩
  have mh:m.toNat<=h.toNat:=eJ λz=>by rw[Ji z] at n1; omega
  array_get_dec
  refine fS (λq=>absurd (of_decide_eq_true q) (by omega)) (λ_=>?_)
  array_get_dec
  refine ⟨h,m,rfl,h0,h1,m0,?_⟩
  array_get_dec
  refine Pk (λq=>absurd (of_decide_eq_true q) (by omega)) (λ_=>?_)
  array_get_dec
  obtain ⟨L,D⟩ : ∃L,(cw h.toNat 0 m.toNat)[n.toNat]? = some L:=by
   have : n.toNat<(cw h.toNat 0 m.toNat).length:=by rw [cw_len]; omega
   exact ⟨_,Bj this⟩
  have X:L.length=m.toNat:=(cw_mem.mp (Aq D)).1
  refine o7 (λQ=>∃(w r:List Int) (y a:Nat) (v:DV),Q=⟨[.dat .sh (.int h),.dat .sh (.int m),.dat .sh (.int n),.dat .sh (Bt w),.dat .sh (.int y),.dat .sh (.int a),v],0⟩/\NP v/\w++r=L/\a<=h.toNat/\(cw (h.toNat - a) a r.length)[y]? = some r) (λQ=>h.toNat - Z3 5 Q) ⟨[],L,n.toNat,0,_,by rw[Int.toNat_of_nonneg n0]; rfl,Hk,rfl,Dh _,by rw[X]; exact D⟩ ?_
  (intro _ N; obtain ⟨w,r,y,a,v,rfl,hv,I,h3,t⟩ := N)
  have Z:w.length+r.length=m.toNat:=by rw[<- X,<- I,Ar]
  array_get_dec
  refine Y0 (λB=>?_) (λB=>?_)
  ·have B:=of_decide_eq_true B
   rw[Ab] at B
   obtain ⟨x,o,rfl⟩ : ∃x o,r=x::o:=by
    cases r with
    | nil=>exact absurd Z (by simp; omega)
    | cons x o=>exact ⟨x,o,rfl⟩
   rw[Bi] at Z t
   obtain ⟨d,T⟩ : ∃d,h.toNat - a=d+1:=by
    cases T:h.toNat - a with
    | zero=>rw[T] at t; cases t
    | succ d=>exact ⟨d,rfl⟩
   rw [T,cw_succ] at t
   array_get_dec
   rw[Ab]
   refine ⟨h - 1 - a,m - w.length - 1,rfl,by omega,by omega,by omega,?_⟩
   rw[show (h - 1 - (a:Int)).toNat=d by omega,show (m - (w.length:Int) - 1).toNat=o.length by omega]
   array_get_dec
   refine Pk (λO=>?_) (λO=>?_)
   ·have G:y<ch d o.length:=by have:=of_decide_eq_true O; omega
    rw [Iz (by rw [Ab,cw_len]; exact G),Bm] at t
    cases C:(cw d ((a:Int)+1) o.length)[y]? with
    | none=>rw[C] at t; cases t
    | some u =>
     rw[C] at t
     have S:(a:Int)::u=x::o:=Bl t
     injection S with ex eur
     subst ex eur
     array_get_dec
     refine ⟨by rw[Ab]; omega,⟨w++[(a:Int)],u,y,a+1,.dat .sh (.int (ch d u.length)),?_,Gs,by rw[<- I,Bh]; rfl,by omega,by rw[show h.toNat - (a+1)=d by omega,show ((a+1:Nat):Int)=(a:Int)+1 by omega]; exact C⟩,?_⟩
     ·rw[show ((a+1:Nat):Int)=(a:Int)+1 by omega]
      unfold Bt
      rw[Bb]
      rfl
     ·show h.toNat - ((a:Int)+1).toNat<h.toNat - (a:Int).toNat
      omega
   ·have G:ch d o.length<=y:=by have:=of_decide_eq_false O; omega
    rw [Fq (by rw [Ab,cw_len]; exact G),Ab,cw_len] at t
    array_get_dec
    refine ⟨⟨w,x::o,y - ch d o.length,a+1,.dat .sh (.int (ch d o.length)),?_,Gs,I,by omega,by rw[show h.toNat - (a+1)=d by omega,show ((a+1:Nat):Int)=(a:Int)+1 by omega,Bi]; exact t⟩,?_⟩
    ·rw[show ((y - ch d o.length:Nat):Int)=(y:Int) - (ch d o.length:Int) by omega,show ((a+1:Nat):Int)=(a:Int)+1 by omega]
    ·show h.toNat - ((a:Int)+1).toNat<h.toNat - (a:Int).toNat
     omega
  ·have B:=of_decide_eq_false B
   rw[Ab] at B
   obtain rfl:r=[]:=Hx.mp (by omega)
   rw[Dd] at I
   subst I
   array_get_dec
   exact hR _ D
theorem oQ:FnScope ["holes", "many"] ["holes", "many"] (Bv Rh):=⟨rfl,rfl,rfl,by decide +kernel,rfl,by decide +kernel,by decide +kernel⟩
theorem mT{f b a  : Addr}{T o d:Cj}(F:Fun K "words_of" "words_of" Rh f T)(v:FnOk P w K mg base Ig 1 b o ["n", "k"] (Oe K (Wc)))(B:Binds K o ["n", "k"] [])(D:PySem.W.keepIn K (.ref b)=true)(x:mg "choose" = some (.ref b))(t:FnOk P w K mg base Ig 2 a d ["holes", "many", "number"] (Oe K (mK)))(p:Binds K d ["holes", "many", "number"] [])(q:PySem.W.keepIn K (.ref a)=true)(u:mg "word_at" = some (.ref a))(C:mg "range" = none):FnOk P w K mg base Ig 3 f T ["holes", "many"] (Oe K (Xs)):=by
 refine' Jh (k:=2) F oQ (λM A G s H E O=>?hb) ?h
 case hb =>
  have Q:Room 1 _:=O.mono (by decide)
  have S:Room 2 _:=O.mono (by decide)
  have U:=O.units
  have N:∀{r:Scope} (h:r={ kind:=.function,names:=[(".0",.local),("number",.local),("word_at",.globalImplicit),("holes",.free),("many",.free)],isGenerator:=false,isCoroutine:=false }),
    CompScope (Mz Ig P w K mg base ["holes", "many"] "words_of" (Bv Rh) f M A G s H E).nox r [("many",s.heap.objs.size+2),("holes",s.heap.objs.size+1)] "number" ["holes", "many"] [0,1]:=by
   rintro r rfl
   refine ⟨by rfl,.inl (by decide +kernel),by rfl,by decide +kernel,.inl rfl,λy c h=>?_,by rfl,by decide +kernel,rfl,λk y j I L=>?_⟩
   ·have z:=Ez h
    simp only[Ai,Bf,or_false,Fm] at z
    rcases z with ⟨rfl,rfl⟩ | ⟨rfl,rfl⟩ <;> rfl
   ·match k,I,L with
    | 0,I,L=>cases I; cases L; exact ⟨rfl,rfl,by first | exact .inl rfl | exact .inr rfl⟩
    | 1,I,L=>cases I; cases L; exact ⟨rfl,rfl,by first | exact .inl rfl | exact .inr rfl⟩
    | k+2,I,L=>cases I
  exact Cy (Fo (Vs (N rfl) rfl (Mp rfl C (Ao (Fp v Q rfl x D B Gf (Ao (Ap (pv 0)) (Ao (Ap (pv 1)) Ba))) Ba)) (λ_ _ _=>Mf) (λ_ _ _=>Fp t S rfl u q p Gf (Ao (Ap (pv 1)) (Ao (Ap (pv 2)) (Ao (Ap (pv 0)) Ba))))))
 case h =>
  (intro ds R q_; obtain ⟨h,m,rfl,Z,h1,Y,hR⟩ := q_)
  refine ⟨rfl,?_⟩
  array_get_dec
  refine ⟨h,m,rfl,Z,by omega,Y,?_⟩
  array_get_dec
  have c1:=vD h.toNat m.toNat
  have c2:2 ^ h.toNat<=2 ^ 12:=Gm (by decide) (by omega)
  refine ⟨by omega,by omega,?_⟩
  rw[Ds]
  have cl:=cw_len h.toNat 0 m.toNat
  refine tT (l:=Ce (ch h.toNat m.toNat)) (g:=λi:Nat=>.int i) rfl (λi=>Bt ((cw h.toNat 0 m.toNat).getD i [])) (λi J h2 no V=>?_) ?_
  ·have J:=Ip.mp J
   array_get_dec
   refine ⟨h,m,i,rfl,Z,by omega,Y,by omega,by omega,λw X=>?_⟩
   rw[Ds] at X
   rw[Ha,X] at V
   array_get_dec
   exact V
  ·have e:(Ce (ch h.toNat m.toNat)).map (λi=>Bt ((cw h.toNat 0 m.toNat).getD i []))=(cw h.toNat 0 m.toNat).map Bt:=by
    rw[<- cl]
    apply Hd
    intro i
    rw[Bm,Bm]
    by_cases J:i<(cw h.toNat 0 m.toNat).length
    ·rw[List.getElem?_range J,Bj J]
     show some (Bt _)=some (Bt _)
     rw[Ha,Bj J]
     rfl
    ·rw[List.getElem?_eq_none (by rw[Dq]; omega),List.getElem?_eq_none (by omega)]
     rfl
   rw[e]
   array_get_dec
   exact hR
theorem xD:FnScope ["one", "other"] ["one", "other"] (Bv Vy):=⟨rfl,rfl,rfl,by decide +kernel,rfl,by decide +kernel,by decide +kernel⟩
theorem wM{f   : Addr}{t  : Cj}(F:Fun K "within" "within" Vy f t)(e:mg "all" = none):FnOk P w K mg base Ig 1 f t ["one", "other"] (Oe K (EW)):=by
 refine' Jh (k:=0) F xD (λq A m s H E C=>?hb) ?h
 case hb =>
  have o:=C.units
  have r:∀{d:Scope} (h:d={ kind:=.function,names:=[(".0",.local),("place",.local),("other",.free)],isGenerator:=false,isCoroutine:=false }),
    CompScope (Mz Ig P w K mg base ["one", "other"] "within" (Bv Vy) f q A m s H E).nox d [("other",s.heap.objs.size+1)] "place" ["other"] [1]:=by
   rintro d rfl
   refine ⟨by rfl,.inl (by decide +kernel),by rfl,by decide +kernel,.inl rfl,λy c h=>?_,by rfl,by decide +kernel,rfl,λk y j n p=>?_⟩
   ·have z:=Ez h
    simp only[Ai,Bf,or_false,Fm] at z
    obtain ⟨rfl,rfl⟩:=z; rfl
   ·match k,n,p with
    | 0,n,p=>cases n; cases p; exact ⟨rfl,rfl,by first | exact .inl rfl | exact .inr rfl⟩
    | k+1,n,p=>cases n
  exact Cy (Fo (Du (zI rfl) EI rfl e (by decide +kernel) (Ao (Vs (r rfl) rfl (JU (Ap (pv 0))) (λ_ _ _=>Mf) (λ_ _ _=>GE o (Ap (pv 0)) (Ap (pv 1)))) Ba)))
 case h =>
  (intro G R B; obtain ⟨a,b,rfl,v⟩ := B)
  refine ⟨rfl,?_⟩
  array_get_dec
  refine tT (l:=a) (g:=Bo) rfl (λi=>.bool (decide (i∈b))) (λi _ x D u=>?_) ?_
  ·array_get_dec
   exact u
  ·array_get_dec
   refine ⟨a.map λi=>decide (i∈b),by rw[Dj]; rfl,?_⟩
   rw[Zr]
   exact v
end
theorem fL{ws:List (List Int)}{i:Nat}{p:List Int×Nat}(h:ws.zipIdx[i]? = some p):p.2=i/\ws[i]? = some p.1:=by
 rw[List.getElem?_zipIdx] at h
 cases e:ws[i]? with
 | none=>rw[e] at h; cases h
 | some a =>
  rw[e] at h
  cases h
  exact ⟨by simp,rfl⟩
def rR(ws:List (List Int)):Prop:=∀(i j:Nat) (a b:List Int),ws[i]? = some a->ws[j]? = some b->i≠j->sub a b=false
def kG:PF:=λd R=>∃c:List (List Int),d=[.list (c.map Bt)]/\c.length<=1000/\(∀(i j:Nat) (a b:List Int),c[i]? = some a->c[j]? = some b->i≠j->sub a b=true->R (.tuple [.str "within",.int i,.int j]))/\(rR c->R (.tuple [.str "plain"]))
section
variable{P:Bq}{w:World}{K:PySem.W.Frag}{mg:Str->Option Value}{base:Heap}
theorem zJ:FnScope ["code", "i", "one", "j", "other"] ["code"] (Bv jX):=⟨rfl,rfl,rfl,by decide +kernel,rfl,by decide +kernel,by decide +kernel⟩
theorem B3{f d  : Addr}{fd m:Cj}(F:Fun K "plain" "plain" jX f fd)(r:FnOk P w K mg base Ig 1 d m ["one", "other"] (Oe K (EW)))(v:Binds K m ["one", "other"] [])(t:PySem.W.keepIn K (.ref d)=true)(u:mg "within" = some (.ref d))(c:mg "enumerate" = none):FnOk P w K mg base Ig 2 f fd ["code"] (Oe K (kG)):=by
 refine' Jh (k:=1) F zJ (λh3 A X s H E hr=>?hb) ?h
 case hb =>
  have h0:Room 1 _:=hr.mono (by decide)
  have O:=hr.units
  exact Cc (Kh Cs rfl (iW rfl c (Ao (Ap (pv 0)) Ba)) (aY (n:=2) rfl (Lm (Gc (i:=1) zJ.nd rfl (Dc rfl)) (Lm (Gc (i:=2) zJ.nd rfl (Dc rfl)) Wj)))
   (Cy (Kh Cs rfl (iW rfl c (Ao (Ap (pv 0)) Ba)) (aY (n:=2) rfl (Lm (Gc (i:=3) zJ.nd rfl (Dc rfl)) (Lm (Gc (i:=4) zJ.nd rfl (Dc rfl)) Wj)))
    (Cy (Lz (eZ (qX (gV O (Ap (pv 1)) (Ap (pv 3))) (jP (Ov (Fp r h0 rfl u t v Gf (Ao (Ap (pv 2)) (Ao (Ap (pv 4)) Ba)))))))
     (Cy (Fo (Mn (Ao aU (Ao (Nf (Ap (pv 1))) (Ao (Nf (Ap (pv 3))) Ba)))))) Jr)))))
   (Cy (Fo (Mn (Ao aU Ba))))
 case h =>
  (intro ds R I; obtain ⟨C,rfl,lw,h1,h2⟩ := I)
  refine ⟨rfl,?_⟩
  array_get_dec
  have ez:((C.map Bt).zipIdx.map λp=>Ym [.int (p.2:Int),p.1])=C.zipIdx.map λp=>.tuple [.int (p.2:Int),Bt p.1]:=by rw[zip_map,Dj]; rfl
  rw[ez]
  refine Sr (l:=C.zipIdx) (g:=λp=>.tuple [.int (p.2:Int),Bt p.1]) rfl (λi δ=>(∃U T D G:DV,δ=⟨[.dat .sh (.list (C.map Bt)),U,T,D,G],0⟩/\NP U/\NP T/\NP D/\NP G)/\∀(L j:Nat) (a b:List Int),L<i->C[L]? = some a->C[j]? = some b->L≠j->sub a b=false) ?_ ?_ ?_
  ·exact ⟨⟨_,_,_,_,rfl,Hk,Hk,Hk,Hk⟩,λL j a b z=>absurd z (Gd _)⟩
  ·(intro i p _ hp I; obtain ⟨⟨U,T,D,G,rfl,V,Z,B,y⟩,hd⟩ := I)
   obtain ⟨ep,Q⟩:=fL hp
   array_get_dec
   rw[ez]
   refine Sr (l:=C.zipIdx) (g:=λp=>.tuple [.int (p.2:Int),Bt p.1]) rfl (λj δ=>(∃D G:DV,δ=⟨[.dat .sh (.list (C.map Bt)),.dat .sh (.int (p.2:Int)),.dat .sh (Bt p.1),D,G],0⟩/\NP D/\NP G)/\∀(x:Nat) (b:List Int),x<j->C[x]? = some b->i≠x->sub p.1 b=false) ?_ ?_ ?_
   ·exact ⟨⟨_,_,rfl,B,y⟩,λx b z=>absurd z (Gd _)⟩
   ·(intro j q _ hq I; obtain ⟨⟨D,G,rfl,B,y⟩,Y⟩ := I)
    obtain ⟨J,S⟩:=fL hq
    have step:∀(N:i≠j->sub p.1 q.1=false) (x:Nat) (b:List Int),x<j+1->C[x]? = some b->i≠x->sub p.1 b=false:=λN x b hj o e=>by
     by_cases z:x=j
     ·subst z
      rw[S] at o
      cases o
      exact N e
     ·exact Y x b (by omega) o e
    array_get_dec
    refine F5 (λo=>?_) (λo=>?_)
    ·have e:i≠j:=λz=>by rw[ep,J,z] at o; simp at o
     array_get_dec
     refine ⟨p.1,q.1,rfl,?_⟩
     array_get_dec
     refine Pk (λhs=>?_) (λhs=>?_)
     ·array_get_dec
      rw[ep,J]
      exact h1 i j p.1 q.1 Q S e hs
     ·array_get_dec
      exact ⟨⟨_,_,rfl,Gs,Gs⟩,step λ_=>hs⟩
    ·have e:i=j:=by rw[ep,J] at o; simp at o; omega
     array_get_dec
     exact ⟨⟨_,_,rfl,Gs,Gs⟩,step λz=>absurd e z⟩
   ·(intro _ I; obtain ⟨⟨D,G,rfl,B,y⟩,Y⟩ := I)
    refine ⟨⟨_,_,_,_,rfl,Gs,Gs,B,y⟩,λL j a b hi M o e=>?_⟩
    by_cases z:L=i
    ·subst z
     rw[Q] at M
     cases M
     exact Y j b (by rw[Iq]; exact (Ak.mp o).1) o e
    ·exact hd L j a b (by omega) M o e
  ·(intro _ I; obtain ⟨⟨U,T,D,G,rfl,V,Z,B,y⟩,hd⟩ := I)
   exact h2 λi j a b M o e=>hd i j a b (by rw[Iq]; exact (Ak.mp M).1) M o e
end
def W9:PF:=λa R=>∃(v:Int) (H:Nat),a=[.int v]/\1<=H/\H<=60/\v<=(ch H (H / 2):Int)/\∀h:Nat,1<=h->h<=H->v<=(ch h (h / 2):Int)->(∀k:Nat,1<=k->k<h->(ch k (k / 2):Int)<v)->R (.int h)
section
variable{P:Bq}{w:World}{K:PySem.W.Frag}{mg:Str->Option Value}{base:Heap}
theorem Zh:FnScope ["values", "holes"] ["values"] (Bv Os):=⟨rfl,rfl,rfl,by decide +kernel,rfl,by decide +kernel,by decide +kernel⟩
theorem Zd{f a  : Addr}{q b:Cj}(F:Fun K "fewest_holes" "fewest_holes" Os f q)(c:FnOk P w K mg base Ig 1 a b ["n", "k"] (Oe K (Wc)))(e:Binds K b ["n", "k"] [])(g:PySem.W.keepIn K (.ref a)=true)(d:mg "choose" = some (.ref a)):FnOk P w K mg base Ig 2 f q ["values"] (Oe K (W9)):=by
 refine' Jh (k:=1) F Zh (λB A l s H E u=>?hb) ?h
 case hb =>
  have p:Room 1 _:=u.mono (by decide)
  have r:=u.units
  exact Cc (Hr (i:=1) Zh.nd rfl (Dc rfl) Dx)
   (Cc (nM Cs (lO (Fp c p rfl d g e Gf (Ao (Ap (pv 1)) (Ao (kC (Ap (pv 1)) Dx) Ba))) (Ap (pv 0)))
   (Cy (sN (i:=1) Zh.nd rfl (Dc rfl) Dx)))
   (Cy (Fo (Nf (Ap (pv 1))))))
 case h =>
  (intro N R m; obtain ⟨v,H,rfl,J,M,I,y⟩ := m)
  refine ⟨rfl,?_⟩
  array_get_dec
  refine o7 (λo=>∃h:Nat,o=⟨[.dat .sh (.int v),.dat .sh (.int h)],0⟩/\1<=h/\h<=H/\∀k:Nat,1<=k->k<h->(ch k (k / 2):Int)<v) (λo=>H - Z3 1 o) ⟨1,rfl,by omega,by omega,λk x C=>by omega⟩ ?_
  (intro _ m; obtain ⟨h,rfl,G,D,t⟩ := m)
  array_get_dec
  refine ⟨h,(h:Int) / 2,rfl,by omega,by omega,by omega,?_⟩
  rw[Ds,show ((h:Int) / 2).toNat=h / 2 by omega]
  array_get_dec
  refine Y0 (λj=>?_) (λj=>?_)
  ·have j:=of_decide_eq_true j
   array_get_dec
   have L:h≠H:=λz=>by rw[z] at j; omega
   refine ⟨⟨h+1,by rw[show ((h+1:Nat):Int)=(h:Int)+1 by omega],by omega,by omega,λk x C=>?_⟩,?_⟩
   ·by_cases z:k=h
    ·rw[z]; exact j
    ·exact t k x (by omega)
   ·show H - ((h:Int)+1).toNat<H - (h:Int).toNat
    omega
  ·have j:=of_decide_eq_false j
   array_get_dec
   exact y h G D (by omega) t
end
def Cm(c:List (List Int)):Ae:=.list (c.map Bt)
def Ej(C:List (List (List Int))):Ae:=.list (C.map Cm)
def dW(w u:List Int):Bool:=w.all λi=>decide (i∈u)
theorem KZ{w u:List Int}:dW w u=true↔∀i∈w,i∈u:=by
 unfold dW
 rw[List.all_eq_true]
 simp
def Mb(c:List (List Int)):List Int:=c.getLastD []
def dX(c:List (List Int))(p:Int):List (List Int):=c.dropLast.map λw=>w++[p]
def Hj(c:List (List Int))(p:Int):List (List (List Int)):=if dX c p=[] then [c++[Mb c++[p]]] else [c++[Mb c++[p]],dX c p]
def Ho:Nat->List (List (List Int))
 | 0=>[[[]]]
 | n+1=>(Ho n).flatMap λc=>Hj c n
structure Cov(h:Nat)(C:List (List (List Int))):Prop where
 cover:∀w,Ge h w->∃c∈C,w∈c
 chain:∀c∈C,c.Pairwise λx y=>dW x y=true
 words:∀c∈C,∀w∈c,Ge h w
 ne:∀c∈C,c≠[]
 len:∀c∈C,c.length<=h+1
 nd:∀c∈C,c.Nodup
theorem jY{c:List (List Int)}{w:List Int}(h:w∈c):w=Mb c\/w∈c.dropLast:=by
 have a:c≠[]:=λz=>by rw[z] at h; cases h
 have e:=Cr a
 rw[<- e] at h
 rcases Am.mp h with h | h
 ·exact .inr h
 ·refine .inl ?_
  unfold Mb
  rw[Hg,Dw a]
  exact Ac.mp h
theorem Zw{c:List (List Int)}(a:c≠[]):Mb c∈c:=by
 unfold Mb
 rw[Hg,Dw a]
 exact Ru a
theorem mZ{c:List (List Int)}(b:c.Pairwise λx y=>dW x y=true){w:List Int}(h:w∈c):dW w (Mb c)=true:=by
 rcases jY h with rfl | hd
 ·exact KZ.mpr λ_ z=>z
 have a:c≠[]:=λz=>by rw[z] at h; cases h
 have e:=Cr a
 rw[<- e] at b
 have:=(Bu.mp b).2.2 w hd _ (Ac.mpr rfl)
 have d:Mb c=c.getLast a:=by
  unfold Mb
  rw[Hg,Dw a]
  rfl
 rw[d]
 exact this
theorem kK{x y:List Int}{p:Int}(h:dW x y=true):dW x (y++[p])=true/\dW (x++[p]) (y++[p])=true:=by
 have h:=KZ.mp h
 refine ⟨KZ.mpr λi hi=>Ah _ (h i hi),KZ.mpr λi hi=>?_⟩
 rcases Am.mp hi with hi | hi
 ·exact Ah _ (h i hi)
 ·exact Af _ hi
theorem Og{n:Nat}{w:List Int}(h:Ge n w):Ge ((n+1:Nat):Int) w/\Ge ((n+1:Nat):Int) (w++[(n:Int)]):=by
 refine ⟨⟨h.1,λi hi=>by have:=h.2 i hi; omega⟩,Bu.mpr ⟨h.1,Ct ..,λa c b d=>?_⟩,λi hi=>?_⟩
 ·rw[Ac.mp d]; exact (h.2 a c).2
 ·rcases Am.mp hi with hi | hi
  ·have:=h.2 i hi; omega
  ·rw[Ac.mp hi]; omega
theorem J1{n:Nat}{w:List Int}(h:Ge ((n+1:Nat):Int) w):Ge n w\/∃u,Ge n u/\w=u++[(n:Int)]:=by
 by_cases z:(n:Int)∈w
 ·right
  have c:w≠[]:=λe=>by rw[e] at z; cases z
  have e:=Cr c
  have f:=h.1
  rw[<- e] at f
  obtain ⟨j,_,g⟩:=Bu.mp f
  have d:w.getLast c=(n:Int):=by
   have m:=Ru c
   have b:=h.2 _ m
   rw[<- e] at z
   rcases Am.mp z with z | z
   ·have:=g _ z _ (Ac.mpr rfl); omega
   ·exact (Ac.mp z).symm
  refine ⟨w.dropLast,⟨j,λi a=>?_⟩,by rw[<- d]; exact e.symm⟩
  have:=g i a _ (Ac.mpr rfl)
  rw[d] at this
  exact ⟨(h.2 i (Gj _ a)).1,this⟩
 ·left
  refine ⟨h.1,λi a=>?_⟩
  have:=h.2 i a
  have : i≠(n:Int):=λq=>z (by rw[<- q]; exact a)
  omega
theorem w4{n:Nat}{C:List (List (List Int))}(h:Cov n C):Cov (n+1) (C.flatMap λc=>Hj c n):=by
 have two:∀c∈C,∀d,d∈Hj c n↔d=c++[Mb c++[(n:Int)]]\/(d=dX c n/\dX c n≠[]):=λc _ d=>by
  unfold Hj
  by_cases z:dX c n=[]
  ·rw[if_pos z]
   simp [z]
  ·rw[if_neg z]
   simp [z]
 refine ⟨λw hw=>?_,λd hd=>?_,λd hd w hw=>?_,λd hd=>?_,λd hd=>?_,λd hd=>?_⟩
 ·rcases J1 hw with hw | ⟨u,k,rfl⟩
  ·obtain ⟨c,a,g⟩:=h.cover w hw
   exact ⟨_,Cb.mpr ⟨c,a,(two c a _).mpr (.inl rfl)⟩,Ah _ g⟩
  ·obtain ⟨c,a,f⟩:=h.cover u k
   rcases jY f with rfl | hd
   ·exact ⟨_,Cb.mpr ⟨c,a,(two c a _).mpr (.inl rfl)⟩,Af _ (Ac.mpr rfl)⟩
   ·have j:u++[(n:Int)]∈dX c n:=List.mem_map_of_mem hd
    exact ⟨_,Cb.mpr ⟨c,a,(two c a _).mpr (.inr ⟨rfl,λz=>by rw[z] at j; cases j⟩)⟩,j⟩
 ·obtain ⟨c,a,hd⟩:=Cb.mp hd
  rcases (two c a d).mp hd with rfl | ⟨rfl,_⟩
  ·refine Bu.mpr ⟨h.chain c a,Ct ..,λx i y b=>?_⟩
   rw[Ac.mp b]
   exact (kK (mZ (h.chain c a) i)).1
  ·refine Zp.mpr (((h.chain c a).sublist (Nb c)).imp λq=>(kK q).2)
 ·obtain ⟨c,a,hd⟩:=Cb.mp hd
  rcases (two c a d).mp hd with rfl | ⟨rfl,_⟩
  ·rcases Am.mp hw with hw | hw
   ·exact (Og (h.words c a w hw)).1
   ·rw[Ac.mp hw]
    exact (Og (h.words c a _ (Zw (h.ne c a)))).2
  ·obtain ⟨u,k,rfl⟩:=Cn.mp hw
   exact (Og (h.words c a u (Gj _ k))).2
 ·obtain ⟨c,a,hd⟩:=Cb.mp hd
  rcases (two c a d).mp hd with rfl | ⟨rfl,z⟩
  ·simp
  ·exact z
 ·obtain ⟨c,a,hd⟩:=Cb.mp hd
  have:=h.len c a
  rcases (two c a d).mp hd with rfl | ⟨rfl,z⟩
  ·rw[Ar,Cp]; omega
  ·unfold dX; rw[Ab,Eu]; omega
 ·obtain ⟨c,a,hd⟩:=Cb.mp hd
  rcases (two c a d).mp hd with rfl | ⟨rfl,z⟩
  ·refine Ec.mpr ⟨h.nd c a,Bp.mpr ⟨Bf,Dl⟩,λx i y b e=>?_⟩
   rw[Ac.mp b] at e
   have:=(h.words c a x i).2 (n:Int) (by rw[e]; exact Af _ (Ac.mpr rfl))
   omega
  ·exact cP ((h.nd c a).sublist (Nb c)) λx _ y _ e=>oY e
theorem Mo:∀n,Cov n (Ho n)
 | 0=>by
  refine ⟨λw b=>⟨[[]],Ac.mpr rfl,?_⟩,λc a=>?_,λc a w b=>?_,λc a=>?_,λc a=>?_,λc a=>?_⟩
  ·cases w with
   | nil=>exact Ac.mpr rfl
   | cons x w=>have:=b.2 x Aa; omega
  all_goals rw[Ac.mp a] at *
  ·exact Ct ..
  ·rw[Ac.mp b]; exact ⟨Dn,λ_ z=>(nomatch z)⟩
  ·simp
  ·simp
  ·simp
 | n+1=>w4 (Mo n)
theorem Vf:∀n,(Ho n).length<=2 ^ n
 | 0=>by simp [Ho]
 | n+1=>by
  have b:=Vf n
  have : ∀C:List (List (List Int)),(C.flatMap λc=>Hj c n).length<=2 * C.length:=by
   intro C
   induction C with
   | nil=>simp
   | cons c C a =>
    rw[Hb,Ar,Bi]
    have : (Hj c n).length<=2:=by
     unfold Hj
     split <;> simp
    omega
  have:=this (Ho n)
  show ((Ho n).flatMap λc=>Hj c n).length<=_
  rw[Mu]
  omega
theorem B4{a:Type}(xs:List a):Ki xs none (some (-1))=xs.dropLast:=by
 unfold Ki HT.sIx
 rw[List.dropLast_eq_take]
 simp only[Ju]
 congr 1
 by_cases z:xs.length=0
 ·simp [z]
 ·have : ¬ ((xs.length:Int) + -1<0):=by omega
  simp
  omega
theorem BF{c:List (List Int)}(a:c≠[]):c.map Bt=c.dropLast.map Bt++[Bt (Mb c)]:=by
 have e:=Cr a
 have b:Mb c=c.getLast a:=by
  unfold Mb
  rw[Hg,Dw a]
  rfl
 rw[b]
 conv=>lhs; rw[<- e]
 rw[Bb]
 rfl
def intD:Ae->Int
 | .int i=>i
 | _=>0
def HN:Ae->List Int
 | .tuple a=>a.map intD
 | _=>[]
def R6:Ae->List (List Int)
 | .list a=>a.map HN
 | _=>[]
theorem sX(c:List (List Int)):R6 (Cm c)=c:=by
 show (c.map Bt).map HN=c
 rw[Dj]
 refine (Lv λw _=>?_).trans (List.map_id c)
 show (w.map Bo).map intD=w
 rw[Dj]
 exact List.map_id w
theorem gE(a:Nat):((Ho a).map Cm).flatMap (λd=>(Hj (R6 d) a).map Cm)=(Ho (a+1)).map Cm:=by
 rw[List.flatMap_map]
 show _=((Ho a).flatMap λc=>Hj c a).map Cm
 rw[List.map_flatMap]
 simp only[sX]
def sP:PF:=λa R=>∃(c:List (List Int)) (p:Int),a=[Cm c,.int p]/\c≠[]/\c.length<=100/\(∀w∈c,w.length<=100)/\R (Ej (Hj c p))
def mJ:PF:=λa R=>∃h:Int,a=[.int h]/\1<=h/\h<=10/\R (Ej (Ho h.toNat))
section
variable{P:Bq}{w:World}{K:PySem.W.Frag}{mg:Str->Option Value}{base:Heap}
theorem x4:FnScope ["chain", "place", "longer", "shorter"] ["chain", "place"] (Bv Zx):=⟨rfl,rfl,rfl,by decide +kernel,rfl,by decide +kernel,by decide +kernel⟩
theorem K2{f   : Addr}{B  : Cj}(F:Fun K "grown" "grown" Zx f B):FnOk P w K mg base Ig 1 f B ["chain", "place"] (Oe K (sP)):=by
 refine' Jh (k:=0) F x4 (λu A b s H E O=>?hb) ?h
 case hb =>
  have C:=O.units
  have v:∀{a:Scope} (h:a={ kind:=.function,names:=[(".0",.local),("word",.local),("place",.free)],isGenerator:=false,isCoroutine:=false }),
    CompScope (Mz Ig P w K mg base ["chain", "place", "longer", "shorter"] "grown" (Bv Zx) f u A b s H E).nox a [("place",s.heap.objs.size+1)] "word" ["place"] [1]:=by
   rintro a rfl
   refine ⟨by rfl,.inl (by decide +kernel),by rfl,by decide +kernel,.inl rfl,λy c h=>?_,by rfl,by decide +kernel,rfl,λk y j n d=>?_⟩
   ·have z:=Ez h
    simp only[Ai,Bf,or_false,Fm] at z
    obtain ⟨rfl,rfl⟩:=z; rfl
   ·match k,n,d with
    | 0,n,d=>cases n; cases d; exact ⟨rfl,rfl,by first | exact .inl rfl | exact .inr rfl⟩
    | k+1,n,d=>cases n
  exact Cc (Pl (i:=2) x4.nd rfl (Dc rfl) (qW (Ap (pv 0)) (Ib (Ao (Zu (Uy (Ap (pv 0)) (jM Dx)) (Mn (Ao (Nf (Ap (pv 1))) Ba))) Ba))))
   (Cc (iM (o:=true) (i0:=3) x4.nd rfl rfl (v rfl) rfl (kY (Kn (i:=true) (Ap (pv 0)) Km (Jj (jM Dx)))) (λ_ _ _=>Mf) (λ_ _ _=>Zu (Ap (pv 0)) (Mn (Ao (Nf (Ap (pv 1))) Ba))))
   (Cy (Fo (DY (zA (Ap (pv 3))) (Ib (Ao (iU (pv 2)) (Ao (iU (pv 3)) Ba))) (Ib (Ao (iU (pv 2)) Ba))))))
 case h =>
  (intro U R J; obtain ⟨c,p,rfl,G,T,D,r⟩ := J)
  refine ⟨rfl,?_⟩
  unfold Cm
  array_get_dec
  refine ⟨Bt (Mb c),by rw[BF G]; exact lX _ _,?_⟩
  array_get_dec
  rw[B4]
  have lt:=D _ (Zw G)
  refine ⟨by rw[Ab]; omega,by rw[Ab]; omega,?_⟩
  refine tT (l:=c.dropLast) (g:=Bt) (by rw[Qv]) (λw=>Bt (w++[p])) (λw L N S I=>?_) ?_
  ·have:=D w (Gj _ L)
   array_get_dec
   refine ⟨by rw[Ab]; omega,?_⟩
   rw[show Ym (w.map Bo++[.int p])=Bt (w++[p]) by unfold Bt; rw[Bb]; rfl]
   exact I
  array_get_dec
  have M:Ub (c.map Bt++[.tuple ((Mb c).map Bo++[.int p])])=Cm (c++[Mb c++[p]]):=by
   unfold Cm Bt
   rw[Bb,Ax,Bb]
   rfl
  have Q:Ub (c.dropLast.map λw=>Bt (w++[p]))=Cm (dX c p):=by
   unfold Cm dX
   rw[Dj]
   rfl
  rw[M,Q]
  refine FN (λm=>?_) (λm=>?_)
  ·have t:dX c p≠[]:=λz=>by rw[z] at m; cases m
   have e:Hj c p=[c++[Mb c++[p]],dX c p]:=if_neg t
   rw[e] at r
   array_get_dec
   exact r
  ·have d:dX c p=[]:=by
    cases q:dX c p with
    | nil=>rfl
    | cons x l=>rw[q] at m; cases m
   have e:Hj c p=[c++[Mb c++[p]]]:=if_pos d
   rw[e] at r
   array_get_dec
   exact r
theorem wY:FnScope ["holes", "told", "place"] ["holes"] (Bv Wh):=⟨rfl,rfl,rfl,by decide +kernel,rfl,by decide +kernel,by decide +kernel⟩
theorem xY{f b  : Addr}{O e:Cj}(F:Fun K "chains" "chains" Wh f O)(r:FnOk P w K mg base Ig 1 b e ["chain", "place"] (Oe K (sP)))(u:Binds K e ["chain", "place"] [])(q:PySem.W.keepIn K (.ref b)=true)(t:mg "grown" = some (.ref b))(n:mg "range" = none):FnOk P w K mg base Ig 2 f O ["holes"] (Oe K (mJ)):=by
 refine' Jh (k:=1) F wY (λI A v s H E S=>?hb) ?h
 case hb =>
  have M:Room 1 _:=S.mono (by decide)
  have Q:=S.units
  have J:∀{m:Scope} (h:m={ kind:=.function,names:=[(".0",.local),("old",.local),("chain",.local),("grown",.globalImplicit),("place",.free)],isGenerator:=false,isCoroutine:=false }),
    CompScope (Mz Ig P w K mg base ["holes", "told", "place"] "chains" (Bv Wh) f I A v s H E).nox m [("place",s.heap.objs.size+1)] "old" ["place"] [2]:=by
   rintro m rfl
   refine ⟨by rfl,.inl (by decide +kernel),by rfl,by decide +kernel,.inl rfl,λy c h=>?_,by rfl,by decide +kernel,rfl,λk y j B D=>?_⟩
   ·have z:=Ez h
    simp only[Ai,Bf,or_false,Fm] at z
    obtain ⟨rfl,rfl⟩:=z; rfl
   ·match k,B,D with
    | 0,B,D=>cases B; cases D; exact ⟨rfl,rfl,by first | exact .inl rfl | exact .inr rfl⟩
    | k+1,B,D=>cases B
  exact Cc (Pl (i:=1) wY.nd rfl (Dc rfl) (Ib (Ao (Ib (Ao (Mn Ba) Ba)) Ba)))
   (Cc (Kh Cs rfl (Mp rfl n (Ao (Ap (pv 0)) Ba)) (Gc (i:=2) wY.nd rfl (Uc rfl))
   (Cy (qF (o:=true) (i0:=1) (i:=1) (p:=2) wY.nd rfl rfl (J rfl) (.inl rfl) (by decide +kernel) rfl (pv 1) (λ_ _ _=>Vw r M rfl t q u .nil Gf (Gp (pv 0) (Gp (pv 2) Lk))) (λ_ _ _=>pv 1))))
   (Cy (Fo (Zv (pv 1)))))
 case h =>
  (intro ds R x; obtain ⟨h,rfl,h0,h1,U⟩ := x)
  refine ⟨rfl,?_⟩
  array_get_dec
  refine ⟨by omega,by omega,?_⟩
  refine Sr (l:=Ce h.toNat) (g:=λi:Nat=>.int i) rfl (λi X=>∃C:DV,X=⟨[.dat .sh (.int h),.dat .ow (Ej (Ho i)),C],0⟩/\NP C) ?_ ?_ ?_
  ·exact ⟨_,rfl,Hk⟩
  ·(intro i a _ T x; obtain ⟨C,rfl,G⟩ := x)
   obtain ⟨rfl,Z⟩:=Su T
   have N:=Mo a
   have cl:=Vf (a+1)
   have p3:2 ^ (a+1)<=2 ^ 10:=Gm (by decide) (by omega)
   array_get_dec
   refine ⟨.ow,.sh,(Ho a).map Cm,a,λd=>(Hj (R6 d) a).map Cm,rfl,rfl,λd Y=>?_,?_,?_⟩
   ·obtain ⟨c,L,rfl⟩:=Cn.mp Y
    have hl:=N.len c L
    refine ⟨c,a,rfl,N.ne c L,by omega,λw V=>?_,?_⟩
    ·have:=bT ((N.words c L w V).up (show ((a:Nat):Int)<=60 by omega))
     omega
    ·show Ej (Hj c a)=.list ((Hj (R6 (Cm c)) a).map Cm)
     rw[sX]
     rfl
   ·rw[gE,Ab]
    omega
   ·rw[gE]
    array_get_dec
    exact ⟨_,rfl,Gs⟩
  ·(intro _ x; obtain ⟨C,rfl,G⟩ := x)
   rw[Dq]
   array_get_dec
   exact U
end
def x6:PF:=λa R=>∃h:Int,a=[.int h]/\1<=h/\h<=10/\R (.tuple [.list ((cw h.toNat 0 (h / 2).toNat).map Bt),Ej (Ho h.toNat)])
section
variable{P:Bq}{w:World}{K:PySem.W.Frag}{mg:Str->Option Value}{base:Heap}
theorem U2:FnScope ["holes"] ["holes"] (Bv qL):=⟨rfl,rfl,rfl,by decide +kernel,rfl,by decide +kernel,by decide +kernel⟩
theorem V4{f a b  : Addr}{u c d:Cj}(F:Fun K "most" "most" qL f u)(j:FnOk P w K mg base Ig 3 a c ["holes", "many"] (Oe K (Xs)))(e:Binds K c ["holes", "many"] [])(g:PySem.W.keepIn K (.ref a)=true)(i:mg "words_of" = some (.ref a))(m:FnOk P w K mg base Ig 2 b d ["holes"] (Oe K (mJ)))(n:Binds K d ["holes"] [])(o:PySem.W.keepIn K (.ref b)=true)(l:mg "chains" = some (.ref b)):FnOk P w K mg base Ig 4 f u ["holes"] (Oe K (x6)):=by
 refine' Jh (k:=3) F U2 (λy A q s H E p=>?hb) ?h
 case hb =>
  have B:Room 1 _:=p.mono (by decide)
  have t:Room 2 _:=p.mono (by decide)
  have r:Room 3 _:=p.mono (by decide)
  have v:=p.units
  exact Cy (Fo (Mn (Ao (Fp j r rfl i g e Gf (Ao (Ap (pv 0)) (Ao (kC (Ap (pv 0)) Dx) Ba))) (Ao (Fp m t rfl l o n Gf (Ao (Ap (pv 0)) Ba)) Ba))))
 case h =>
  (intro G R z; obtain ⟨h,rfl,C,D,x⟩ := z)
  refine ⟨rfl,?_⟩
  array_get_dec
  refine ⟨h,h / 2,rfl,by omega,by omega,by omega,?_⟩
  array_get_dec
  refine ⟨h,rfl,by omega,by omega,?_⟩
  array_get_dec
  exact x
end
def vB:PF:=λa R=>∃i:Int,a=[.int i]/\R (.bool true)
def oU:PF:=λa R=>∃(h:Int) (w:List Int),a=[.int h,Bt w]/\Ge h w/\R (.bool true)
structure Wds(h:Int)(c:List (List Int)):Prop where
 ne:c≠[]
 words:∀w∈c,Ge h w
 len:c.length<=100
def CU(p:List Int×List Int):Prop:=p.2.length=p.1.length+1/\dW p.1 p.2=true
def KC(c:List (List Int)):Prop:=∀p∈c.zip c.tail,CU p
def gC:PF:=λa R=>∃(h:Int) (c:List (List Int)),a=[.int h,Cm c]/\Wds h c/\(KC c->R (.bool true))/\(¬ KC c->R (.bool false))
def vA:PF:=λa R=>∃(h:Int) (C:List (List (List Int))),a=[.int h,Ej C]/\0<=h/\h<=11/\(∀c∈C,Wds h c)/\C.flatten.length<=1100 /\
 ∀b:Bool,(b=true->C.flatten.length=2 ^ h.toNat)->((∀c∈C,KC c)->C.flatten.Nodup->C.flatten.length=2 ^ h.toNat->b=true)->R (.bool b)
theorem HL(c:List (List Int)):(((c.map Bt).zip (Ki (c.map Bt) (some 1) none)).map λp=>Ym [p.1,p.2])=(c.zip c.tail).map λp=>.tuple [Bt p.1,Bt p.2]:=by
 rw[show Ki (c.map Bt) (some 1) none=(c.map Bt).drop 1 from DRow.cutG_from (c.map Bt) 1,List.drop_one,<- List.map_tail,List.zip_map,Dj]
 rfl
theorem pV{C:List (List (List Int))}{i:Nat}{c:List (List Int)}(h:C[i]? = some c):(C.take (i+1)).flatten=(C.take i).flatten++c:=by
 obtain ⟨a,e⟩:=Ak.mp h
 rw[Jb a,Jo,e]
 simp
theorem C3(C:List (List (List Int)))(i:Nat):(C.take i).flatten.length<=C.flatten.length:=by
 conv=>rhs; rw[<- Dv i C,Jo,Ar]
 omega
section
variable{P:Bq}{w:World}{K:PySem.W.Frag}{mg:Str->Option Value}{base:Heap}
theorem mD:FnScope ["thing"] ["thing"] (Bv Ut):=⟨rfl,rfl,rfl,by decide +kernel,rfl,by decide +kernel,by decide +kernel⟩
theorem oE{f   : Addr}{e  : Cj}(F:Fun K "is_whole" "is_whole" Ut f e)(b:mg "bool" = none)(a:mg "isinstance" = none)(c:mg "int" = none):FnOk P w K mg base Ig 1 f e ["thing"] (Oe K (vB)):=by
 refine' Jh (k:=0) F mD (λl A d s H E o=>?hb) ?h
 case hb =>
  have g:=o.units
  exact Cy (Fo (kN (Du bQ dE rfl a (by decide +kernel) (Ao (Ap (pv 0)) (Ao (lJ (n := "int") rfl c (by decide +kernel)) Ba))) (sC (EG (Du bQ dE rfl a (by decide +kernel) (Ao (Ap (pv 0)) (Ao (lJ (n := "bool") rfl b (by decide +kernel)) Ba)))))))
 case h =>
  (intro p R m; obtain ⟨i,rfl,j⟩ := m)
  refine ⟨rfl,?_⟩
  array_get_dec
  exact j
theorem qH:FnScope ["holes", "thing", "least", "place"] ["holes", "thing"] (Bv Yk):=⟨rfl,rfl,rfl,by decide +kernel,rfl,by decide +kernel,by decide +kernel⟩
theorem qS{f a  : Addr}{C c:Cj}(F:Fun K "is_word" "is_word" Yk f C)(p:FnOk P w K mg base Ig 1 a c ["thing"] (Oe K (vB)))(e:Binds K c ["thing"] [])(o:PySem.W.keepIn K (.ref a)=true)(m:mg "is_whole" = some (.ref a))(r:mg "tuple" = none)(d:mg "isinstance" = none):FnOk P w K mg base Ig 2 f C ["holes", "thing"] (Oe K (oU)):=by
 refine' Jh (k:=1) F qH (λO A z s H E I=>?hb) ?h
 case hb =>
  have B:Room 1 _:=I.mono (by decide)
  have D:=I.units
  exact Cc (Lz (Se (Ov (Du bQ dE rfl d (by decide +kernel) (Ao (Ap (pv 1)) (Ao (lJ (n := "tuple") rfl r (by decide +kernel)) Ba)))))
   (Cy (Fo Mv)) Jr)
   (Cc (Hr (i:=2) qH.nd rfl (Dc rfl) Dx)
   (Cc (Kh Cs rfl (JU (Ap (pv 1))) (Gc (i:=3) qH.nd rfl (Dc rfl))
   (Cc (Lz (eZ (Vz (Se (Ov (Fp p B rfl m o e Gf (Ao (Ap (pv 3)) Ba)))) (Vz (lO (Ap (pv 3)) (Ap (pv 2))) (Uz (Y8 (Ap (pv 3)) (Ap (pv 0)))))))
    (Cy (Fo Mv)) Jr)
    (Cy (Hr (i:=2) qH.nd rfl (Dc rfl) (Mg (Ap (pv 3)) Dx)))))
   (Cy (Fo Mv))))
 case h =>
  (intro Y R u; obtain ⟨h,w,rfl,rw,N⟩ := u)
  refine ⟨rfl,?_⟩
  array_get_dec
  refine Sr (l:=w) (g:=Bo) rfl (λi S=>∃(l:Int) (v:DV),S=⟨[.dat .sh (.int h),.dat .sh (Bt w),.dat .sh (.int l),v],0⟩/\NP v/\∀(j:Nat) (x:Int),i<=j->w[j]? = some x->l<=x) ?_ ?_ ?_
  ·exact ⟨_,_,rfl,Hk,λj x _ t=>(rw.2 x (Aq t)).1⟩
  ·(intro i x _ t u; obtain ⟨l,v,rfl,J,G⟩ := u)
   have b:=rw.2 x (Aq t)
   have Q:=G i x (Aj _) t
   array_get_dec
   refine ⟨x,rfl,?_⟩
   array_get_dec
   refine fS (λq=>absurd (of_decide_eq_true q) (by omega)) (λ_=>?_)
   array_get_dec
   refine Pk (λq=>absurd (of_decide_eq_true q) (by omega)) (λ_=>?_)
   array_get_dec
   refine ⟨_,_,rfl,Gs,λj y X M=>?_⟩
   obtain ⟨L,V⟩:=Ak.mp t
   obtain ⟨T,U⟩:=Ak.mp M
   have:=Ew.mp rw.1 i j L T (by omega)
   omega
  ·(intro _ u; obtain ⟨l,v,rfl,J,G⟩ := u)
   array_get_dec
   exact N
theorem lY:FnScope ["holes", "thing", "word", "lower", "upper"] ["holes", "thing"] (Bv Va):=⟨rfl,rfl,rfl,by decide +kernel,rfl,by decide +kernel,by decide +kernel⟩
theorem mX{f a b  : Addr}{fd d m:Cj}(F:Fun K "is_chain" "is_chain" Va f fd)(r:FnOk P w K mg base Ig 2 a d ["holes", "thing"] (Oe K (oU)))(u:Binds K d ["holes", "thing"] [])(v:PySem.W.keepIn K (.ref a)=true)(t:mg "is_word" = some (.ref a))(x:FnOk P w K mg base Ig 1 b m ["one", "other"] (Oe K (EW)))(C:Binds K m ["one", "other"] [])(y:PySem.W.keepIn K (.ref b)=true)(B:mg "within" = some (.ref b))(o:mg "len" = none)(G:mg "list" = none)(e:mg "isinstance" = none)(Q:mg "zip" = none):FnOk P w K mg base Ig 3 f fd ["holes", "thing"] (Oe K (gC)):=by
 refine' Jh (k:=2) F lY (λh2 A Z s H E hr=>?hb) ?h
 case hb =>
  have h0:Room 1 _:=hr.mono (by decide)
  have h1:Room 2 _:=hr.mono (by decide)
  have S:=hr.units
  exact Cc (Lz (eZ (Vz (Se (Ov (Du bQ dE rfl e (by decide +kernel) (Ao (Ap (pv 1)) (Ao (lJ (n := "list") rfl G (by decide +kernel)) Ba))))) (Uz (sS S (Du Fs Io rfl o (by decide +kernel) (Ao (Ap (pv 1)) Ba)) Dx))))
   (Cy (Fo Mv)) Jr)
   (Cc (Kh Cs rfl (kY (Ap (pv 1))) (Gc (i:=2) lY.nd rfl (Dc rfl))
   (Cy (Lz (Se (Ov (Fp r h1 rfl t v u Gf (Ao (Ap (pv 0)) (Ao (Ap (pv 2)) Ba)))))
    (Cy (Fo Mv)) Jr)))
   (Cc (Kh Cs rfl (EX rfl Q (Ao (Ap (pv 1)) (Ao (Kn (i:=true) (Ap (pv 1)) (Jj Dx) Km) Ba))) (aY (n:=2) rfl (Lm (Gc (i:=3) lY.nd rfl (Dc rfl)) (Lm (Gc (i:=4) lY.nd rfl (Dc rfl)) Wj)))
   (Cy (Lz (eZ (Vz (gV S (Du Fs Io rfl o (by decide +kernel) (Ao (Ap (pv 4)) Ba)) (Mg (Du Fs Io rfl o (by decide +kernel) (Ao (Ap (pv 3)) Ba)) Dx)) (Uz (Se (Ov (Fp x h0 rfl B y C Gf (Ao (Ap (pv 3)) (Ao (Ap (pv 4)) Ba))))))))
    (Cy (Fo Mv)) Jr)))
   (Cy (Fo Mv))))
 case h =>
  (intro ds R N; obtain ⟨h,c,rfl,hc,hT,hF⟩ := N)
  refine ⟨rfl,?_⟩
  unfold Cm
  array_get_dec
  have l0:0<c.length:=Ft.mpr hc.ne
  refine Pk (λq=>absurd (of_decide_eq_true q) (by rw[Ab]; omega)) (λ_=>?_)
  array_get_dec
  refine Sr (l:=c) (g:=Bt) rfl (λi δ=>∃O L M:DV,δ=⟨[.dat .sh (.int h),.dat .sh (.list (c.map Bt)),O,L,M],0⟩/\NP O/\NP L/\NP M) ?_ ?_ ?_
  ·exact ⟨_,_,_,rfl,Hk,Hk,Hk⟩
  ·(intro i w _ hw N; obtain ⟨O,L,M,rfl,D,J,I⟩ := N)
   array_get_dec
   refine ⟨h,w,rfl,hc.words w (Aq hw),?_⟩
   array_get_dec
   exact ⟨_,_,_,rfl,Gs,J,I⟩
  ·(intro _ N; obtain ⟨O,L,M,rfl,D,J,I⟩ := N)
   array_get_dec
   rw[HL]
   refine Sr (l:=c.zip c.tail) (g:=λp=>.tuple [Bt p.1,Bt p.2]) rfl (λi δ=>(∃O L M:DV,δ=⟨[.dat .sh (.int h),.dat .sh (.list (c.map Bt)),O,L,M],0⟩/\NP O/\NP L/\NP M)/\∀(j:Nat) (p:List Int×List Int),j<i->(c.zip c.tail)[j]? = some p->CU p) ?_ ?_ ?_
   ·exact ⟨⟨_,_,_,rfl,D,J,I⟩,λj p z=>absurd z (Gd _)⟩
   ·(intro i p _ X N; obtain ⟨⟨O,L,M,rfl,D,J,I⟩,hj⟩ := N)
    have V:¬ CU p->R (.bool false):=λz=>hF λq=>z (q p (Aq X))
    array_get_dec
    refine fS (λq=>?_) (λq=>?_)
    ·array_get_dec
     refine V λz=>?_
     rw[Ab,Ab,z.1] at q
     simp at q
    rw[Ab,Ab] at q
    array_get_dec
    refine ⟨p.1,p.2,rfl,?_⟩
    array_get_dec
    refine Pk (λY=>?_) (λY=>?_)
    ·array_get_dec
     refine V λz=>?_
     rw[show sub p.1 p.2=true from z.2] at Y
     cases Y
    ·array_get_dec
     refine ⟨⟨_,_,_,rfl,D,Gs,Gs⟩,λj p' U T=>?_⟩
     by_cases z:j=i
     ·subst z
      rw[X] at T
      cases T
      exact ⟨by simp at q; omega,show sub p.1 p.2=true by simpa using Y⟩
     ·exact hj j p' (by omega) T
   ·(intro _ N; obtain ⟨⟨O,L,M,rfl,D,J,I⟩,hj⟩ := N)
    exact hT λp X=>by
     obtain ⟨j,U⟩:=Ug.mp X
     exact hj j p (Ak.mp U).1 U
theorem fH:FnScope ["holes", "thing", "words", "chain"] ["holes", "thing"] (Bv Rc):=⟨rfl,rfl,rfl,by decide +kernel,rfl,by decide +kernel,by decide +kernel⟩
theorem eN{f a  : Addr}{M b:Cj}(F:Fun K "shows_most" "shows_most" Rc f M)(p:FnOk P w K mg base Ig 3 a b ["holes", "thing"] (Oe K (gC)))(o:Binds K b ["holes", "thing"] [])(r:PySem.W.keepIn K (.ref a)=true)(m:mg "is_chain" = some (.ref a))(u:mg "list" = none)(d:mg "isinstance" = none)(j:mg "len" = none)(v:mg "set" = none):FnOk P w K mg base Ig 4 f M ["holes", "thing"] (Oe K (vA)):=by
 refine' Jh (k:=3) F fH (λO A D s H E B=>?hb) ?h
 case hb =>
  have V:Room 1 _:=B.mono (by decide)
  have X:Room 2 _:=B.mono (by decide)
  have I:Room 3 _:=B.mono (by decide)
  have t:=B.units
  exact Cc (Lz (Se (Ov (Du bQ dE rfl d (by decide +kernel) (Ao (Ap (pv 1)) (Ao (lJ (n := "list") rfl u (by decide +kernel)) Ba)))))
   (Cy (Fo Mv)) Jr)
   (Cc (Pl (i:=2) fH.nd rfl (Dc rfl) (Ib Ba))
   (Cc (Kh Cs rfl (kY (Ap (pv 1))) (Gc (i:=3) fH.nd rfl (Dc rfl))
   (Cc (Lz (Se (Ov (Fp p I rfl m r o Gf (Ao (Ap (pv 0)) (Ao (Ap (pv 3)) Ba)))))
    (Cy (Fo Mv)) Jr)
    (Cy (vM (pv 2) (Ap (pv 3))))))
   (Cy (Fo (kN (uD t (Du Fs Io rfl j (by decide +kernel) (Ao (Ap (pv 2)) Ba)) (xQ t rfl rfl j rfl v (Ao (Ap (pv 2)) Ba))) (sC (uD t (Du Fs Io rfl j (by decide +kernel) (Ao (Ap (pv 2)) Ba)) (CH Dx (Ap (pv 0))))))))))
 case h =>
  (intro ds R x; obtain ⟨h,C,rfl,T,h1,Q,S,G⟩ := x)
  refine ⟨rfl,?_⟩
  unfold Ej
  array_get_dec
  refine Sr (l:=C) (g:=Cm) rfl (λi U=>(∃y:DV,U=⟨[.dat .sh (.int h),.dat .sh (.list (C.map Cm)),.dat .ow (.list ((C.take i).flatten.map Bt)),y],0⟩/\NP y)) ?_ ?_ ?_
  ·exact ⟨_,rfl,Hk⟩
  ·(intro i c _ J x; obtain ⟨y,rfl,L⟩ := x)
   array_get_dec
   refine ⟨h,c,rfl,Q c (Aq J),λN=>?_,λN=>?_⟩
   ·unfold Cm
    array_get_dec
    have e:=pV J
    have le:=C3 C (i+1)
    rw[e,Ar] at le
    refine ⟨by rw[Ab,Ab]; omega,?_⟩
    rw[e,Bb]
    exact ⟨_,rfl,Gs⟩
   ·array_get_dec
    exact G false (λz=>nomatch z) λq _ _=>absurd (q c (Aq J)) N
  ·(intro _ x; obtain ⟨y,rfl,L⟩ := x)
   rw[Ea]
   array_get_dec
   refine ⟨C.flatten,rfl,S,λn _ h2=>?_⟩
   have Y:((2:Int) ^ h.toNat)=((2 ^ h.toNat:Nat):Int):=by simp
   refine A4 (λq=>?_) (λq=>?_)
   ·array_get_dec
    refine ⟨⟨T,by omega,by decide⟩,?_⟩
    rw[Ab,Int.one_mul,Y,decide_eq_decide.mpr Int.ofNat_inj]
    exact G _ (λz=>of_decide_eq_true z) λ_ _ z=>decide_eq_true z
   ·rw[Ab] at q
    array_get_dec
    refine G false (λz=>nomatch z) λ_ Z _=>?_
    rw[h2 Z] at q
    simp at q
end
def eR(a c:List (List Int)):List Int:=(c.filter λw=>decide (w∈a)).map λw=>(a.idxOf w:Nat)
structure CodeOk(h:Nat)(C:List (List (List Int)))(cde:List (List Int)):Prop where
 cov:Cov h C
 nd:cde.Nodup
 rise:∀w∈cde,Ge h w
 more:C.length<cde.length
 lc:cde.length<=200
 lC:C.length<=300
 hh:h<=7
theorem bP:∀{l m:List (List Int)},l.Nodup->(∀x∈l,x∈m)->l.length<=m.length
 | [],_,_,_=>Dh _
 | x::l,m,nd,h=>by
  obtain ⟨e,d⟩:=Bp.mp nd
  have b:=h x Aa
  have c:=bP (m:=m.erase x) d λy a=>(Vk (show y≠x from λz=>e (by rw[<- z]; exact a))).mpr (h y (Ad _ a))
  rw[Rq b] at c
  have:=Ms b
  rw[Bi]
  omega
theorem n6{h:Nat}{C:List (List (List Int))}{a:List (List Int)}(k:CodeOk h C a):∃c∈C,2<=(eR a c).length:=Pe λz=>by
 have all:∀c∈C,(c.filter λw=>decide (w∈a)).length<=1:=λc e=>by
  by_cases q:2<=(eR a c).length
  ·exact absurd ⟨c,e,q⟩ z
  ·unfold eR at q
   rw[Ab] at q
   omega
 have n:=bP (m:=C.flatMap λc=>c.filter λw=>decide (w∈a)) k.nd λw g=>by
  obtain ⟨c,e,b⟩:=k.cov.cover w (k.rise w g)
  exact Cb.mpr ⟨c,e,List.mem_filter.mpr ⟨b,by simpa using g⟩⟩
 have l:∀D:List (List (List Int)),(∀c∈D,(c.filter λw=>decide (w∈a)).length<=1)->(D.flatMap λc=>c.filter λw=>decide (w∈a)).length<=D.length:=by
  intro D
  induction D with
  | nil=>intro _; simp
  | cons c D i =>
   intro f
   rw[Hb,Ar,Bi]
   have:=f c Aa
   have:=i λd j=>f d (Ad _ j)
   omega
 have:=l C all
 have:=k.more
 omega
theorem Te{a:List (List Int)}{w:List Int}(hw:w∈a):a[a.idxOf w]? = some w:=by
 have b:=List.idxOf_lt_length_iff.mpr hw
 rw[Bj b,List.getElem_idxOf b]
theorem J5{a:List (List Int)}{w:List Int}:∀(n:Nat),Sb ((a.zipIdx n).map λp=>(p.1,Bo (p.2:Nat))) w=if w∈a then some (.int ((a.idxOf w+n:Nat))) else none:=by
 induction a with
 | nil=>intro n; rfl
 | cons x a c =>
  intro n
  rw[List.zipIdx_cons,Ax]
  unfold Sb
  by_cases e:x=w
  ·subst e
   rw[List.find?_cons_of_pos (by simp),if_pos Aa,List.idxOf_cons_self]
   simp
  ·rw[List.find?_cons_of_neg (by simpa using e)]
   have:=c (n+1)
   unfold Sb at this
   rw[this]
   have b:¬ w=x:=λz=>e z.symm
   by_cases m:w∈a
   ·have d:(x::a).idxOf w=a.idxOf w+1:=by rw[List.idxOf_cons,show (x == w)=false by simpa using e]; rfl
    rw[if_pos m,if_pos (Ad _ m),d]
    congr 3
    omega
   ·rw[if_neg m,if_neg (by simp [b,m])]
def W6:PF:=λb R=>∃(h:Nat) (C:List (List (List Int))) (a:List (List Int)),b=[.list (a.map Bt),Ej C]/\CodeOk h C a /\
 ∀(p q:Nat) (u v:List Int) (c:List (List Int)),c∈C->a[p]? = some u->a[q]? = some v->u∈c->v∈c->p≠q->dW u v=true->R (.tuple [.int p,.int q])
section
variable{P:Bq}{w:World}{K:PySem.W.Frag}{mg:Str->Option Value}{base:Heap}
theorem wU:FnScope ["code", "some", "numbers", "found", "fullest"] ["code", "some"] (Bv Qr):=⟨rfl,rfl,rfl,by decide +kernel,rfl,by decide +kernel,by decide +kernel⟩
theorem xS{f   : Addr}{fd  : Cj}(F:Fun K "two_in" "two_in" Qr f fd)(q:mg "enumerate" = none)(J:mg "max" = none)(G:mg "len" = none):FnOk P w K mg base Ig 1 f fd ["code", "some"] (Oe K (W6)):=by
 refine' Jh (k:=0) F wU (λM A t s H E hr=>?hb) ?h
 case hb =>
  have u:=hr.units
  have h0:∀{e:Scope} (h:e={ kind:=.function,names:=[(".0",.local),("number",.local),("word",.local)],isGenerator:=false,isCoroutine:=false }),
    CompScope (Mz Ig P w K mg base ["code", "some", "numbers", "found", "fullest"] "two_in" (Bv Qr) f M A t s H E).nox e [] "number" [] []:=by
   rintro e rfl
   exact Nd.compScope0 (by rfl) (by decide +kernel) (by rfl) (by decide +kernel) (by rfl) (by rfl)
  have U:∀{e:Scope} (h:e={ kind:=.function,names:=[(".0",.local),("chain",.local),("numbers",.free)],isGenerator:=false,isCoroutine:=false }),
    CompScope (Mz Ig P w K mg base ["code", "some", "numbers", "found", "fullest"] "two_in" (Bv Qr) f M A t s H E).nox e [("numbers",s.heap.objs.size+1)] "chain" ["numbers"] [2]:=by
   rintro e rfl
   refine ⟨by rfl,.inl (by decide +kernel),by rfl,by decide +kernel,.inl rfl,λy c h=>?_,by rfl,by decide +kernel,rfl,λk y j v I=>?_⟩
   ·have z:=Ez h
    simp only[Ai,Bf,or_false,Fm] at z
    obtain ⟨rfl,rfl⟩:=z; rfl
   ·match k,v,I with
    | 0,v,I=>cases v; cases I; exact ⟨rfl,rfl,by first | exact .inl rfl | exact .inr rfl⟩
    | k+1,v,I=>cases v
  have h2:∀{e:Scope} (h:e={ kind:=.function,names:=[(".0",.local),("word",.local),("numbers",.free)],isGenerator:=false,isCoroutine:=false }) (Q:List Addr) (s0:Al) (H0:Hp),
    CompScope (Dg (Mz Ig P w K mg base ["code", "some", "numbers", "found", "fullest"] "two_in" (Bv Qr) f M A t s H E).nox { kind:=.function,names:=[(".0",.local),("chain",.local),("numbers",.free)],isGenerator:=false,isCoroutine:=false } [("numbers",s.heap.objs.size+1)] ["chain", "numbers"] Q s0 H0) e [("numbers",s.heap.objs.size+1)] "word" ["numbers"] [1]:=by
   rintro e rfl Q s0 H0
   refine ⟨by rfl,.inl (by decide +kernel),by rfl,by decide +kernel,.inl rfl,λy c h=>?_,by rfl,by decide +kernel,rfl,λk y j v I=>?_⟩
   ·have z:=Ez h
    simp only[Ai,Bf,or_false,Fm] at z
    obtain ⟨rfl,rfl⟩:=z; rfl
   ·match k,v,I with
    | 0,v,I=>cases v; cases I; exact ⟨rfl,rfl,by first | exact .inl rfl | exact .inr rfl⟩
    | k+1,v,I=>cases v
  exact Cc (Hr (i:=2) wU.nd rfl (Uc rfl) (wN u (h0 rfl) (.inl rfl) (by decide +kernel) rfl (iW rfl q (Ao (Ap (pv 0)) Ba)) (λ_ _ _=>Mf) (λ_ _ _=>Ap (pv 1)) (λ_ _ _=>Ap (pv 0))))
   (Cc (A3 (o:=false) (i0:=3) wU.nd rfl rfl (U rfl) rfl (kY (Ap (pv 1))) (λ_ _ _=>Mf) (λ_ _ _=>Vs (h2 rfl _ _ _) rfl (kY (Ap (pv 0))) (λ_ _ _=>Tf (BS u (Ap (pv 0)) (Ap (pv 1)))) (λ_ _ _=>L1 u (Ap (pv 1)) (Ap (pv 0)))))
   (Cc (Hr (i:=4) wU.nd rfl (Dc rfl) (Q0 rfl rfl J rfl G (Ao (Ap (pv 3)) Ba)))
   (Cy (Fo (Mn (Ao (Nf (Uy (Ap (pv 4)) Dx)) (Ao (Nf (Uy (Ap (pv 4)) Dx)) Ba)))))))
 case h =>
  (intro ds R q_; obtain ⟨h,C,n,rfl,k,hR⟩ := q_)
  refine ⟨rfl,?_⟩
  unfold Ej
  array_get_dec
  have lc:=k.lc
  refine T8 (l:=n.zipIdx) (g1:=λp=>.int p.2) (g2:=λp=>Bt p.1) (by rw[zip_map,Dj]; rfl) (by rw[Iq]; omega) (λp=>p.1) (λp=>.int p.2) (by rw[List.zipIdx_map_fst]; exact k.nd) (λp hp Z no V=>?_) ?_
  ·array_get_dec
   exact V
  array_get_dec
  have gK:∀w,Sb (n.zipIdx.map λp=>(p.1,Bo (p.2:Nat))) w=if w∈n then some (.int (n.idxOf w:Nat)) else none:=λw=>J5 0
  have lC:=k.lC
  refine pD (l:=C) (g:=Cm) rfl (λc=>.list ((eR n c).map Bo)) (λc D Z no V=>?_) ?_
  ·unfold Cm
   array_get_dec
   refine nE (l:=c) (g:=Bt) rfl (λw=>decide (w∈n)) (λw=>.int (n.idxOf w:Nat)) (λw hw h4 h5 h3 Y=>?_) ?_
   ·array_get_dec
    rw[gK]
    by_cases m:w∈n
    ·rw[if_pos m,Wz]
     array_get_dec
     refine ⟨_,by rw[gK,if_pos m],?_⟩
     array_get_dec
     exact h3 (by simpa using m)
    ·rw[if_neg m,Option.isSome_none]
     array_get_dec
     exact Y (by simpa using m)
   ·array_get_dec
    rw[show (c.filter λw=>decide (w∈n)).map (λw=>Bo (n.idxOf w:Nat))=(eR n c).map Bo by unfold eR; rw[Dj]; rfl]
    exact V
  array_get_dec
  obtain ⟨cb,L,T⟩:=n6 k
  obtain ⟨jb,N⟩:=Ug.mp L
  refine ⟨λi=>(eR n (C.getD i [])).length,λz=>?_,λi d x=>?_,λi d x O=>?_⟩
  ·rw[yL.mp z] at L; cases L
  ·rw[Bm] at x
   cases D:C[i]? with
   | none=>rw[D] at x; cases x
   | some c =>
    rw[D] at x
    cases x
    simp [BQ,Ha,D]
  ·rw[Bm] at x
   cases D:C[i]? with
   | none=>rw[D] at x; cases x
   | some c =>
   rw[D] at x
   cases x
   have cC:=Aq D
   have X:2<=(eR n c).length:=by
    have:=(O jb (by rw[Ab]; exact (Ak.mp N).1)).1
    dsimp only at this
    rw[Ha,Ha,D,N] at this
    exact Bz T this
   have r:(c.filter λw=>decide (w∈n)).Sublist c:=Pd
   have B:∀w∈c.filter (λw=>decide (w∈n)),w∈n:=λw hw=>by simpa using (Pa.mp hw).2
   have pw:=(k.cov.chain c cC).sublist r
   have nd:=(k.cov.nd c cC).sublist r
   array_get_dec
   unfold eR at X ⊢
   generalize (c.filter λw=>decide (w∈n))=F at X r B pw nd ⊢
   match F,X with
   | a::b::F,_ =>
   have ma:=B a Aa
   have mb:=B b (Ad _ Aa)
   have W:a≠b:=λz=>(Bp.mp nd).1 (by rw[z]; exact Aa)
   have S:=hR (n.idxOf a) (n.idxOf b) a b c cC (Te ma) (Te mb) (r.subset Aa) (r.subset (Ad _ Aa)) (λz=>W (by
    have h1:=Te ma
    rw[z,Te mb] at h1
    exact (Bl h1).symm)) ((Ay.mp pw).1 b Aa)
   exact ⟨_,atI_0 ..,rfl,_,GL ..,rfl,S⟩
end
def Qb(p:Int)(w:List Int):List Int:=cG (w++[p])
theorem bJ{p:Int}{w:List Int}{i:Int}:i∈Qb p w↔i∈w\/i=p:=by
 unfold Qb
 rw[(Oo _).mem_iff,Am,Ac]
theorem oV{h:Nat}{p:Int}{w:List Int}(r:Ge h w)(np:p∉w)(c:0<=p)(a:p<h):Ge h (Qb p w):=by
 refine ⟨gA ((Oo _).nodup_iff.mpr (Ec.mpr ⟨r.1.imp λ{x y} q=>Int.ne_of_lt q,Bp.mpr ⟨Bf,Dl⟩,λx hx y b e=>np (by rw[<- Ac.mp b,<- e]; exact hx)⟩)) (dD _),λx hx=>?_⟩
 rcases bJ.mp hx with hx | hx
 ·exact r.2 x hx
 ·rw[hx]; exact ⟨c,a⟩
theorem i9{p:Int}{x y:List Int}(h:dW x y=true):dW x (Qb p y)=true/\dW (Qb p x) (Qb p y)=true:=by
 have h:=KZ.mp h
 refine ⟨KZ.mpr λi hi=>bJ.mpr (.inl (h i hi)),KZ.mpr λi hi=>?_⟩
 rcases bJ.mp hi with hi | hi
 ·exact bJ.mpr (.inl (h i hi))
 ·exact bJ.mpr (.inr hi)
structure CovP(h:Nat)(O:List Int)(C:List (List (List Int))):Prop where
 cover:∀w,Ge h w->(∀i∈w,i∈O)->∃c∈C,w∈c
 chain:∀c∈C,c.Pairwise λx y=>dW x y=true
 words:∀c∈C,∀w∈c,Ge h w/\∀i∈w,i∈O
 ne:∀c∈C,c≠[]
 len:∀c∈C,c.length<=O.length+1
 nd:∀c∈C,c.Nodup
def Jg(p:Int)(c:List (List Int)):List (List (List Int)):=if 1<c.length then [c++[Qb p (Mb c)],(c.map (Qb p)).dropLast] else [c++[Qb p (Mb c)]]
theorem xA{h:Nat}{O:List Int}{C:List (List (List Int))}{p:Int}(k:CovP h O C)(np:p∉O)(s:0<=p)(o:p<h):CovP h (O++[p]) (C.flatMap (Jg p)):=by
 have two:∀c,∀d,d∈Jg p c↔d=c++[Qb p (Mb c)]\/(d=(c.dropLast).map (Qb p)/\1<c.length):=λc d=>by
  unfold Jg
  rw[<- Qv]
  by_cases z:1<c.length
  ·rw[if_pos z]
   simp [z]
  ·rw[if_neg z]
   simp [z]
 have f:∀c∈C,∀w∈c,p∉w:=λc a w hw q=>np ((k.words c a w hw).2 p q)
 refine ⟨λw hw n=>?_,λd hd=>?_,λd hd w hw=>?_,λd hd=>?_,λd hd=>?_,λd hd=>?_⟩
 ·by_cases z:p∈w
  ·have m:Ge h (w.filter λi=>decide (i≠p)):=⟨hw.1.sublist Pd,λi b=>hw.2 i (Pa.mp b).1⟩
   obtain ⟨c,a,g⟩:=k.cover _ m λi b=>by
    obtain ⟨v,t⟩:=Pa.mp b
    rcases Am.mp (n i v) with q | q
    ·exact q
    ·exact absurd (Ac.mp q) (by simpa using t)
   have r:Qb p (w.filter λi=>decide (i≠p))=w:=by
    refine Xv (oV m (f c a _ g) s o).1 hw.1 λi=>?_
    rw[bJ,List.mem_filter]
    by_cases e:i=p
    ·simp [e,z]
    ·simp [e]
   rcases jY g with e | hd
   ·refine ⟨_,Cb.mpr ⟨c,a,(two c _).mpr (.inl rfl)⟩,Af _ (Ac.mpr ?_)⟩
    rw[<- e]
    exact r.symm
   ·refine ⟨_,Cb.mpr ⟨c,a,(two c _).mpr (.inr ⟨rfl,?_⟩)⟩,Cn.mpr ⟨_,hd,r⟩⟩
    have:=Ms hd
    rw[Eu] at this
    omega
  ·obtain ⟨c,a,g⟩:=k.cover w hw λi b=>by
    rcases Am.mp (n i b) with q | q
    ·exact q
    ·exact absurd (by rw[<- Ac.mp q]; exact b) z
   exact ⟨_,Cb.mpr ⟨c,a,(two c _).mpr (.inl rfl)⟩,Ah _ g⟩
 ·obtain ⟨c,a,hd⟩:=Cb.mp hd
  rcases (two c d).mp hd with rfl | ⟨rfl,_⟩
  ·refine Bu.mpr ⟨k.chain c a,Ct ..,λx l y j=>?_⟩
   rw[Ac.mp j]
   exact (i9 (mZ (k.chain c a) l)).1
  ·refine Zp.mpr (((k.chain c a).sublist (Nb c)).imp λq=>(i9 q).2)
 ·obtain ⟨c,a,hd⟩:=Cb.mp hd
  have one:∀u∈c,Ge h (Qb p u)/\∀i∈Qb p u,i∈O++[p]:=λu m=>⟨oV (k.words c a u m).1 (f c a u m) s o,λi b=>by
   rcases bJ.mp b with q | q
   ·exact Ah _ ((k.words c a u m).2 i q)
   ·exact Af _ (Ac.mpr q)⟩
  rcases (two c d).mp hd with rfl | ⟨rfl,_⟩
  ·rcases Am.mp hw with hw | hw
   ·exact ⟨(k.words c a w hw).1,λi b=>Ah _ ((k.words c a w hw).2 i b)⟩
   ·rw[Ac.mp hw]
    exact one _ (Zw (k.ne c a))
  ·obtain ⟨u,m,rfl⟩:=Cn.mp hw
   exact one u (Gj _ m)
 ·obtain ⟨c,a,hd⟩:=Cb.mp hd
  rcases (two c d).mp hd with rfl | ⟨rfl,z⟩
  ·simp
  ·intro e
   have:=congrArg Fh e
   rw[Ab,Eu,Fz] at this
   omega
 ·obtain ⟨c,a,hd⟩:=Cb.mp hd
  have:=k.len c a
  rw[Ar,Cp]
  rcases (two c d).mp hd with rfl | ⟨rfl,z⟩
  ·rw[Ar,Cp]; omega
  ·rw[Ab,Eu]; omega
 ·obtain ⟨c,a,hd⟩:=Cb.mp hd
  rcases (two c d).mp hd with rfl | ⟨rfl,z⟩
  ·refine Ec.mpr ⟨k.nd c a,Bp.mpr ⟨Bf,Dl⟩,λx l y j e=>?_⟩
   rw[Ac.mp j] at e
   exact f c a x l (by rw[e]; exact bJ.mpr (.inr rfl))
  ·refine cP ((k.nd c a).sublist (Nb c)) λx l y j e=>?_
   have l:=Gj _ l
   have j:=Gj _ j
   refine Xv (k.words c a x l).1.1 (k.words c a y j).1.1 λi=>?_
   have q:i∈Qb p x↔i∈Qb p y:=by rw[e]
   rw[bJ,bJ] at q
   have B:=f c a x l
   have A:=f c a y j
   constructor
   ·intro b
    rcases q.mp (.inl b) with z | z
    ·exact z
    ·rw[z] at b; exact absurd b B
   ·intro b
    rcases q.mpr (.inl b) with z | z
    ·exact z
    ·rw[z] at b; exact absurd b A
theorem cJ(p:Int):∀D:List (List (List Int)),(D.flatMap (Jg p)).length<=2 * D.length:=by
 intro D
 induction D with
 | nil=>simp
 | cons c D a =>
  rw[Hb,Ar,Bi]
  have : (Jg p c).length<=2:=by
   unfold Jg
   split <;> simp
  omega
theorem mY(p:Int):∀D:List (List (List Int)),(∀c∈D,c≠[])->(D.flatMap (Jg p)).flatten.length=2 * D.flatten.length:=by
 intro D
 induction D with
 | nil=>intro _; simp
 | cons c D a =>
  intro h
  have f:0<c.length:=Ft.mpr (h c Aa)
  have b:=a λd e=>h d (Ad _ e)
  rw[Hb,Jo,Ar,Jd,Ar,b]
  have : (Jg p c).flatten.length=2 * c.length:=by
   unfold Jg
   split
   ·simp only[Jd,dU,Dd,Ar,Cp,Eu,Ab]
    omega
   ·simp only[Jd,dU,Dd,Ar,Cp]
    omega
  omega
theorem BK(h:Nat):CovP h [] [[[]]]:=by
 refine ⟨λw b d=>⟨[[]],Ac.mpr rfl,?_⟩,λc a=>?_,λc a w b=>?_,λc a=>?_,λc a=>?_,λc a=>?_⟩
 ·cases w with
  | nil=>exact Ac.mpr rfl
  | cons x w=>exact nomatch d x Aa
 all_goals rw[Ac.mp a] at *
 ·exact Ct ..
 ·rw[Ac.mp b]; exact ⟨⟨Dn,λ_ z=>(nomatch z)⟩,λ_ z=>(nomatch z)⟩
 ·simp
 ·simp
 ·simp
theorem A6{h:Nat}{O:List Int}{C:List (List (List Int))}(k:CovP h O C)(e:∀i:Int,0<=i->i<h->i∈O)(hl:O.length=h):Cov h C :=
 ⟨λw a=>k.cover w a λi d=>e i (a.2 i d).1 (a.2 i d).2,k.chain,λc b w a=>(k.words c b w a).1,k.ne,λc b=>by have:=k.len c b; omega,k.nd⟩
theorem dI{a:Type}(xs:List a)(k:Nat)(y:a):(Hw xs k y).Perm (y::xs):=by
 unfold Hw
 refine Fd.trans ?_
 rw[Dv]
theorem jB{a b:Type}(f:a->b)(xs:List a)(k:Nat)(y:a):Hw (xs.map f) k (f y)=(Hw xs k y).map f:=by
 unfold Hw
 rw[Bb,Ax,Np,Xd]
theorem t9{c:Type}{xs:List c}{a:c}(h:xs.getLast? = some a):Ki xs (some (-1)) none=[a]:=by
 have b:xs≠[]:=λz=>by rw[z] at h; cases h
 have e:=Cr b
 have g:xs.getLast b=a:=by
  rw[Dw b] at h
  exact Bl h
 have lp:=Ft.mpr b
 unfold Ki HT.sIx
 have q:¬ ((xs.length:Int) + -1<0):=by omega
 have i:((xs.length:Int) + -1).toNat=xs.dropLast.length:=by rw[Eu]; omega
 have d:(-1+(xs.length:Int)).toNat=xs.dropLast.length:=by rw[Eu]; omega
 simp [q]
 have f:xs.drop xs.dropLast.length=[a]:=by
  conv=>lhs; rw[<- e]
  rw[List.dropLast_concat,List.drop_left,g]
 rw[d,f]
 refine Ex ?_
 rw[Eu,Cp]
 omega
def A5:DF:=λb n R=>∃h:Int,b=[.int h]/\1<=h/\h<=7/\n<=90000/\∀(C:List (List (List Int))) (a:Nat),n<=a->a<=n+7->Cov h.toNat C->C.length<=2 ^ h.toNat->C.flatten.length=2 ^ h.toNat->R (Ej C) a
section
variable{P:Bq}{w:World}{K:PySem.W.Frag}{mg:Str->Option Value}{base:Heap}
theorem kM:FnScope ["_law_draws_here", "_law_holes", "_law_k", "_law_turn", "_law_order", "_law_told", "_law_place", "_law_more", "_law_chain", "_law_up"] ["_law_draws_here", "_law_holes"] (Bv Mx):=⟨rfl,rfl,rfl,by decide +kernel,rfl,by decide +kernel,by decide +kernel⟩
theorem jS{f e  : Addr}{fd q:Cj}(F:Fun K "_law_made" "_law_made" Mx f fd)(M:FnOk P w K mg base Ig 1 e q ["_law_draws_here"] (W3 K Xy))(B:Binds K q ["_law_draws_here"] [])(L:PySem.W.keepIn K (.ref e)=true)(J:mg "_law_next" = some (.ref e))(u:mg "range" = none)(v:mg "sorted" = none)(N:mg "tuple" = none)(X:mg "len" = none):FnOk P w K mg base Ig 2 f fd ["_law_draws_here", "_law_holes"] (jF K (A5)):=by
 refine' dF (k:=1) F kM (λh6 A S s H E hr=>?hb) ?h
 case hb =>
  have k5:Room 1 _:=hr.mono (by decide)
  have k8:=hr.units
  have k4:∀{d:Scope} (h:d={ kind:=.function,names:=[(".0",.local),("_law_k",.local),("_law_next",.globalImplicit),("_law_draws_here",.free)],isGenerator:=false,isCoroutine:=false }),
    CompScope (Mz Ig P w K mg base ["_law_draws_here", "_law_holes", "_law_k", "_law_turn", "_law_order", "_law_told", "_law_place", "_law_more", "_law_chain", "_law_up"] "_law_made" (Bv Mx) f h6 A S s H E).nox d [("_law_draws_here",s.heap.objs.size+1)] "_law_k" ["_law_draws_here"] [0]:=by
   rintro d rfl
   refine ⟨by rfl,.inl (by decide +kernel),by rfl,by decide +kernel,.inl rfl,λy c h=>?_,by rfl,by decide +kernel,rfl,λk y j I U=>?_⟩
   ·have z:=Ez h
    simp only[Ai,Bf,or_false,Fm] at z
    obtain ⟨rfl,rfl⟩:=z; rfl
   ·match k,I,U with
    | 0,I,U=>cases I; cases U; exact ⟨rfl,rfl,by first | exact .inl rfl | exact .inr rfl⟩
    | k+1,I,U=>cases I
  have k2:∀{d:Scope} (h:d={ kind:=.function,names:=[(".0",.local),("_law_word",.local),("tuple",.globalImplicit),("sorted",.globalImplicit),("_law_place",.free)],isGenerator:=false,isCoroutine:=false }),
    CompScope (Mz Ig P w K mg base ["_law_draws_here", "_law_holes", "_law_k", "_law_turn", "_law_order", "_law_told", "_law_place", "_law_more", "_law_chain", "_law_up"] "_law_made" (Bv Mx) f h6 A S s H E).nox d [("_law_place",s.heap.objs.size+2)] "_law_word" ["_law_place"] [6]:=by
   rintro d rfl
   refine ⟨by rfl,.inl (by decide +kernel),by rfl,by decide +kernel,.inl rfl,λy c h=>?_,by rfl,by decide +kernel,rfl,λk y j I U=>?_⟩
   ·have z:=Ez h
    simp only[Ai,Bf,or_false,Fm] at z
    obtain ⟨rfl,rfl⟩:=z; rfl
   ·match k,I,U with
    | 0,I,U=>cases I; cases U; exact ⟨rfl,rfl,by first | exact .inl rfl | exact .inr rfl⟩
    | k+1,I,U=>cases I
  exact Cc (t8 (o:=false) (i0:=3) kM.nd rfl rfl (js1:=[]) (j0:=0) (js2:=[]) (k4 rfl) rfl (Mp rfl u (Ao (Ap (pv 1)) Ba)) (λ_ _ _=>Mf) (λ_ _ _=>Rk (Mw M k5 rfl J L B Gf (pv 1) Ba) (Mg (Ap (pv 0)) Dx)))
   (Cc (Pl (i:=4) kM.nd rfl (Dc rfl) (Ib Ba))
   (Cc (Kh Cs rfl (Mp rfl u (Ao (Ap (pv 1)) Ba)) (Gc (i:=2) kM.nd rfl (Dc rfl))
   (Cy (vU (pv 4) (Uy (Ap (pv 3)) (Ap (pv 2))) (Ap (pv 2)))))
   (Cc (Hr (i:=5) kM.nd rfl (Dc rfl) (Ib (Ao (Ib (Ao (Mn Ba) Ba)) Ba)))
   (Cc (Kh Cs rfl (kY (gH (pv 4))) (Gc (i:=6) kM.nd rfl (Uc rfl))
   (Cc (Pl (i:=7) kM.nd rfl (Dc rfl) (Ib Ba))
    (Cc (Kh Cs rfl (kY (Ap (pv 5))) (Gc (i:=8) kM.nd rfl (Dc rfl))
    (Cc (iM (o:=false) (i0:=9) kM.nd rfl rfl (k2 rfl) rfl (kY (Ap (pv 8))) (λ_ _ _=>Mf) (λ_ _ _=>xC j4 (zK (i:=true)) rfl N (by decide +kernel) (Ao (Du iH zV rfl v (by decide +kernel) (Ao (Zu (Ap (pv 0)) (Mn (Ao (Nf (Ap (pv 1))) Ba))) Ba)) Ba)))
     (Cc (cV (pv 7) (qW (Ap (pv 8)) (Kn (i:=true) (Ap (pv 9)) (Jj (jM Dx)) Km)))
     (Cy (Lz (mL (Du Fs Io rfl X (by decide +kernel) (Ao (Ap (pv 8)) Ba)) Dx)
     (Cy (cV (pv 7) (Kn (i:=true) (Ap (pv 9)) Km (Jj (jM Dx))))) Jr)))))
    (Cy (Hr (i:=5) kM.nd rfl (Dc rfl) (Zv (pv 7)))))))
   (Cy (Fo (Ap (pv 5))))))))
 case h =>
  (intro ds n R G; obtain ⟨h,rfl,h0,h1,hn,hR⟩ := G)
  refine ⟨rfl,?_⟩
  array_get_dec
  refine ⟨by omega,by omega,?_⟩
  refine V6 (l:=Ce h.toNat) (g:=λi:Nat=>.int i) rfl rfl (λj h5 m=>(∃zs:List Int,h5=zs.map Bo/\zs.length=j/\∀x∈zs,0<=x/\x<20)/\m=n+j) ⟨⟨[],rfl,rfl,λ_ z=>(nomatch z)⟩,rfl⟩ (λj a h5 m ha ⟨⟨zs,q1,q3,q4⟩,q2⟩=>?_) (λh5 m ⟨⟨ts,q1,q3,q4⟩,q2⟩=>?_)
  ·obtain ⟨rfl,hi⟩:=Su ha
   array_get_dec
   refine ⟨rfl,by omega,λr=>?_⟩
   array_get_dec
   have b:=Sg r (b:=(a:Int)+1) (by omega)
   refine ⟨by omega,⟨zs++[r % ((a:Int)+1)],by rw[q1,Bb]; rfl,by rw[Ar,q3]; rfl,λx hx=>?_⟩,by omega⟩
   rcases Am.mp hx with hx | hx
   ·exact q4 x hx
   ·rw[Ac.mp hx]; omega
  subst q1 q2
  rw[Dq] at q3
  array_get_dec
  refine ⟨by omega,by omega,?_⟩
  refine Sr (l:=Ce h.toNat) (g:=λi:Nat=>.int i) rfl (λi δ=>∃(O:List Int) (v2:DV),δ=⟨[.drw,.dat .sh (.int h),v2,.dat .sh (.list (ts.map Bo)),.dat .ow (.list (O.map Bo)),.un,.un,.un,.un,.un],n+(Ce h.toNat).length⟩/\O.Nodup/\O.length=i/\(∀x:Int,x∈O↔0<=x/\x<i)/\NP v2) ?_ ?_ ?_
  ·exact ⟨[],_,rfl,Dl,rfl,λx=>⟨λz=>(nomatch z),λz=>absurd z.2 (by omega)⟩,Hk⟩
  ·(intro i a _ ha G; obtain ⟨O,v2,rfl,nd,ol,om,h2⟩ := G)
   obtain ⟨rfl,hi⟩:=Su ha
   array_get_dec
   obtain ⟨t,ht,k6,k0⟩:=nJ (l:=ts) (i:=(a:Int)) (by omega) (by omega)
   have bt:=q4 t k0
   refine ⟨.int t,by rw[iS,k6]; rfl,?_⟩
   array_get_dec
   have pm:=dI O t.toNat (a:Int)
   refine ⟨by rw[Ab]; omega,by omega,by omega,Hw O t.toNat (a:Int),_,gJ (by rw[jB]) rfl,pm.nodup_iff.mpr (Bp.mpr ⟨λz=>?_,nd⟩),by rw[Oa,ol],λx=>?_,Gs⟩
   ·have:=(om _).mp z
    omega
   ·rw[pm.mem_iff,Ai,om x]
    omega
  ·(intro _ G; obtain ⟨O,v2,rfl,nd,ol,om,h2⟩ := G)
   rw[Dq] at ol om
   array_get_dec
   refine Sr (l:=O) (g:=Bo) rfl (λi δ=>∃(C:List (List (List Int))) (v6 v7 V Y:DV),δ=⟨[.drw,.dat .sh (.int h),v2,.dat .sh (.list (ts.map Bo)),.dat .sh (.list (O.map Bo)),.dat .sh (Ej C),v6,v7,V,Y],n+(Ce h.toNat).length⟩/\CovP h.toNat (O.take i) C/\(C.length<=2 ^ i/\C.flatten.length=2 ^ i)/\NP v6/\NP v7/\NP V/\NP Y) ?_ ?_ ?_
   ·exact ⟨[[[]]],_,_,_,_,rfl,BK _,⟨by simp,by simp⟩,Hk,Hk,Hk,Hk⟩
   ·(intro i p _ hp G; obtain ⟨C,v6,v7,V,Y,rfl,Z,⟨cl,h4⟩,k1,k3,T,Q⟩ := G)
    have hi:i<O.length:=(Ak.mp hp).1
    have p2:2 ^ (i+1)<=2 ^ 7:=Gm (by decide) (by omega)
    rw[Mu] at p2
    have h8:=(om p).mp (Aq hp)
    have et:O.take (i+1)=O.take i++[p]:=by rw[Jc,hp]; rfl
    have k7:p∉O.take i:=λz=>by
     have h7:=(Dv i O).symm▸nd
     rw[Ja hi] at h7
     have:=(Ec.mp h7).2.2 p z _ Aa
     exact this (Ak.mp hp).2.symm
    unfold Ej
    array_get_dec
    refine Sr (l:=C) (g:=Cm) rfl (λj δ=>∃(V Y:DV),δ=⟨[.drw,.dat .sh (.int h),v2,.dat .sh (.list (ts.map Bo)),.dat .sh (.list (O.map Bo)),.dat .sh (Ej C),.dat .sh (.int p),.dat .ow (Ej ((C.take j).flatMap (Jg p))),V,Y],n+(Ce h.toNat).length⟩/\NP V/\NP Y) ?_ ?_ ?_
    ·exact ⟨_,_,rfl,T,Q⟩
    ·(intro j c _ hc G; obtain ⟨V,Y,rfl,T,Q⟩ := G)
     have cC:=Aq hc
     unfold Ej Cm
     array_get_dec
     have lc:=Z.len c cC
     have lt:(O.take i).length<=7:=by rw[Cu]; omega
     have lw:∀w∈c,w.length<=60:=λw hw=>bT ((Z.words c cC w hw).1.up (show ((h.toNat:Nat):Int)<=60 by omega))
     refine tT (l:=c) (g:=Bt) rfl (λw=>Bt (Qb p w)) (λw hw k9 no hy=>?_) ?_
     ·have:=lw w hw
      array_get_dec
      refine ⟨by rw[Ab]; omega,w++[p],by rw[Bb]; rfl,by rw[Ar,Cp]; omega,?_⟩
      array_get_dec
      exact hy
     array_get_dec
     have h9:=Z.ne c cC
     have gl:(c.map λw=>Bt (Qb p w)).getLast? = some (Bt (Qb p (Mb c))):=by
      rw[List.getLast?_map,Dw h9]
      unfold Mb
      rw[Hg,Dw h9]
      rfl
     rw[t9 gl]
     have fl:∀D:List (List (List Int)),(D.flatMap (Jg p)).length<=2 * D.length:=cJ p
     have lf:=fl (C.take j)
     rw[Cu] at lf
     have I:Ub (c.map Bt++[Bt (Qb p (Mb c))])=Cm (c++[Qb p (Mb c)]):=by
      unfold Cm
      rw[Bb]
      rfl
     have ej:(C.take (j+1)).flatMap (Jg p)=(C.take j).flatMap (Jg p)++Jg p c:=by
      rw[Jc,hc,Xa]
      simp
     refine ⟨by simp; omega,by simp [npk,h2 _],by rw[Ab]; omega,?_⟩
     rw[I]
     refine Pk (λhb=>?_) (λhb=>?_)
     ·have h3:1<c.length:=by
       have:=of_decide_eq_true hb
       rw[Ab] at this
       omega
      array_get_dec
      rw[B4]
      refine ⟨by simp [npk,h2 _],by rw[Ar,Ab,Cp]; omega,_,_,gJ (by rw[ej,Jg,if_pos h3,Bb,<- Qv,<- Qv]; unfold Cm; simp [Function.comp_def]; exact ⟨rfl,rfl⟩) rfl,Gs,Gs⟩
     ·have h3:¬ 1<c.length:=by
       have:=of_decide_eq_false hb
       rw[Ab] at this
       omega
      array_get_dec
      refine ⟨_,_,gJ (by rw[ej,Jg,if_neg h3,Bb]; rfl) rfl,Gs,Gs⟩
    ·(intro _ G; obtain ⟨V,Y,rfl,T,Q⟩ := G)
     rw[Ea]
     unfold Ej
     array_get_dec
     refine ⟨_,_,_,_,_,rfl,?_,?_,Gs,Hk,T,Q⟩
     ·rw[et]
      exact xA Z k7 h8.1 h8.2
     ·have:=cJ p C
      have e9:=mY p C Z.ne
      rw[Mu]
      exact ⟨by omega,by rw[e9]; omega⟩
   ·(intro _ G; obtain ⟨C,v6,v7,V,Y,rfl,Z,⟨cl,h4⟩,k1,k3,T,Q⟩ := G)
    array_get_dec
    rw[Ea] at Z
    rw[ol] at cl h4
    exact ⟨by omega,hR _ _ (by omega) (by rw[Dq]; omega) (A6 Z (λi i0 i1=>(om i).mpr ⟨i0,i1⟩) ol) cl h4⟩
end
def kI(c:List (List Int))(P:List (List (List Int))):Prop:=P.length<=2/\(∀w∈c,∃d∈P,w∈d)/\∀d∈P,d.Sublist c/\d≠[]
theorem tS{c:List (List Int)}(a:c≠[]):kI c [c]:=⟨by simp,λw b=>⟨c,Ac.mpr rfl,b⟩,λd e=>by rw[Ac.mp e]; exact ⟨Ck _,a⟩⟩
theorem L0{c:List (List Int)}{k:Nat}(b:0<k)(k1:k<c.length):kI c [c.take k,c.drop k]:=by
 refine ⟨by simp,λw a=>?_,λd hd=>?_⟩
 ·rw[<- Dv k c] at a
  rcases Am.mp a with q | q
  ·exact ⟨_,Aa,q⟩
  ·exact ⟨_,Ad _ Aa,q⟩
 ·rcases Ai.mp hd with rfl | hd
  ·refine ⟨Gx ..,λz=>?_⟩
   have:=congrArg Fh z
   rw[Cu,Fz] at this
   omega
  ·rw[Ac.mp hd]
   refine ⟨Hz ..,λz=>?_⟩
   have:=congrArg Fh z
   rw[Ih,Fz] at this
   omega
def vF(C D:List (List (List Int))):Prop:=(∀c∈C,∀w∈c,∃d∈D,w∈d)/\∀d∈D,∃c∈C,d.Sublist c/\d≠[]
theorem wV{h:Nat}{C D:List (List (List Int))}(k:Cov h C)(s:vF C D):Cov h D:=by
 refine ⟨λw g=>?_,λd b=>?_,λd b w g=>?_,λd b=>?_,λd b=>?_,λd b=>?_⟩
 ·obtain ⟨c,a,f⟩:=k.cover w g
  exact s.1 c a w f
 all_goals obtain ⟨c,a,e,i⟩:=s.2 d b
 ·exact (k.chain c a).sublist e
 ·exact k.words c a w (e.subset g)
 ·exact i
 ·exact Bz e.length_le (k.len c a)
 ·exact (k.nd c a).sublist e
theorem iJ{a:Type}{xs:List a}{k:Int}(c:0<=k)(k1:k<=xs.length):Ki xs none (some k)=xs.take k.toNat/\Ki xs (some k) none=xs.drop k.toNat:=by
 unfold Ki HT.sIx
 have q:¬ (k<0):=by omega
 have b:¬ ((xs.length:Int)<k):=by omega
 simp [q]
 rw[Ud (by omega)]
 exact Ex (by rw[Ih]; omega)
def oP:DF:=λb n R=>∃(h:Nat) (C:List (List (List Int))),b=[Ej C]/\h<=7/\Cov h C/\C.length<=128/\n<=90000/\∀(D:List (List (List Int))) (a:Nat),n<=a->a<=n+500->Cov h D->D.length<=2 * C.length->R (Ej D) a
section
variable{P:Bq}{w:World}{K:PySem.W.Frag}{mg:Str->Option Value}{base:Heap}
theorem bD:FnScope ["_law_draws_here", "_law_made_here", "_law_told", "_law_chain", "_law_pick", "_law_at", "_law_parts", "_law_part"] ["_law_draws_here", "_law_made_here"] (Bv Qa):=⟨rfl,rfl,rfl,by decide +kernel,rfl,by decide +kernel,by decide +kernel⟩
theorem aZ{f a  : Addr}{fd v:Cj}(F:Fun K "_law_parted" "_law_parted" Qa f fd)(u:FnOk P w K mg base Ig 1 a v ["_law_draws_here"] (W3 K Xy))(t:Binds K v ["_law_draws_here"] [])(q:PySem.W.keepIn K (.ref a)=true)(o:mg "_law_next" = some (.ref a))(y:mg "len" = none):FnOk P w K mg base Ig 2 f fd ["_law_draws_here", "_law_made_here"] (jF K (oP)):=by
 refine' dF (k:=1) F bD (λk0 A h0 s H E hr=>?hb) ?h
 case hb =>
  have V:Room 1 _:=hr.mono (by decide)
  have T:=hr.units
  exact Cc (Pl (i:=2) bD.nd rfl (Dc rfl) (Ib Ba))
   (Cc (Kh Cs rfl (kY (Ap (pv 1))) (Gc (i:=3) bD.nd rfl (Dc rfl))
   (Cc (Hr (i:=4) bD.nd rfl (Dc rfl) (Mw u V rfl o q t Gf (pv 0) Ba))
    (Cc (Hr (i:=5) bD.nd rfl (Dc rfl) (Rk (kC (Ap (pv 4)) Dx) (Du Fs Io rfl y (by decide +kernel) (Ao (Ap (pv 3)) Ba))))
    (Cc (Hr (i:=6) bD.nd rfl (Dc rfl) (Ib (Ao (Ap (pv 3)) Ba)))
    (Cc (Lz (eZ (qX (sS T (Rk (Ap (pv 4)) Dx) Dx) (jP (mL (Ap (pv 5)) Dx))))
    (Cy (Hr (i:=6) bD.nd rfl (Dc rfl) (Ib (Ao (Kn (i:=true) (Ap (pv 3)) Km (Jj (Ap (pv 5)))) (Ao (Kn (i:=true) (Ap (pv 3)) (Jj (Ap (pv 5))) Km) Ba))))) Jr)
    (Cy (Kh Cs rfl (kY (Ap (pv 6))) (Gc (i:=7) bD.nd rfl (Dc rfl))
    (Cy (rK (pv 2) (Rk (Mw u V rfl o q t Gf (pv 0) Ba) (Mg (Du Fs Io rfl y (by decide +kernel) (Ao (Ap (pv 2)) Ba)) Dx)) (Ap (pv 7)))))))))))
   (Cy (Fo (Zv (pv 2)))))
 case h =>
  (intro ds n R G; obtain ⟨h,C,rfl,hh,cv,cl,hn,hR⟩ := G)
  refine ⟨rfl,?_⟩
  unfold Ej
  array_get_dec
  refine Sr (l:=C) (g:=Cm) rfl (λi U=>∃(D:List (List (List Int))) (m:Md) (Z v4 v5 Y J:DV) (L:Nat),U=⟨[.drw,.dat .sh (Ej C),.dat m (Ej D),Z,v4,v5,Y,J],L⟩/\(m=.ow\/m=.tp)/\n<=L/\L<=n+3 * i/\D.length<=2 * i/\vF (C.take i) D/\NP Z/\NP v4/\NP v5/\NP Y/\NP J) ?_ ?_ ?_
  ·exact ⟨[],_,_,_,_,_,_,_,rfl,.inl rfl,Aj _,Aj _,Aj _,⟨λ_ z=>(nomatch z),λ_ z=>(nomatch z)⟩,Hk,Hk,Hk,Hk,Hk⟩
  ·(intro i c _ hc G; obtain ⟨D,m,Z,v4,v5,Y,J,L,rfl,M,q1,q2,dl,X,h8,h4,h5,h7,B⟩ := G)
   have cC:=Aq hc
   have O:=cv.ne c cC
   have h9:=Ft.mpr O
   have hi:=(Ak.mp hc).1
   unfold Ej
   rw[show Cm c=.list (c.map Bt) from rfl]
   array_get_dec
   refine ⟨rfl,by omega,λr=>?_⟩
   array_get_dec
   have bm:=Sg (r / 3) (b:=((c.map Bt).length:Int)) (by rw[Ab]; omega)
   have k4:=cv.len c cC
   refine ⟨by rw[Ab]; omega,?_⟩
   refine HY (λP=>L5 _ _ _ P) (λU=>∃P:List (List (List Int)),U=⟨[.drw,.dat .sh (.list (C.map Cm)),.dat m (.list (D.map Cm)),.dat .sh (.list (c.map Bt)),.dat .sh (.int r),.dat .sh (.int (r / 3 % ((c.map Bt).length:Nat))),.dat .sh (.list (P.map Cm)),J],L+1⟩/\kI c P) (λN hN=>?_) ?_
   ·refine F5 (λQ=>?_) (λQ=>?_)
    ·array_get_dec
     refine Pk (λQ=>?_) (λQ=>?_)
     ·array_get_dec
      have Q:=of_decide_eq_true Q
      obtain ⟨k1,k2⟩:=iJ (xs:=c.map Bt) bm.1 (by omega)
      rw[k1,k2,<- Np,<- Xd]
      refine hN _ ⟨[c.take _,c.drop _],rfl,L0 ?_ ?_⟩
      ·omega
      ·have:=Ab (as:=c) Bt
       omega
     ·array_get_dec
      exact hN _ ⟨[c],rfl,tS O⟩
    ·array_get_dec
     exact hN _ ⟨[c],rfl,tS O⟩
   ·(intro _ G; obtain ⟨P,rfl,po⟩ := G)
    array_get_dec
    refine Sr (l:=P) (g:=Cm) rfl (λj U=>∃(x:List (List (List Int))) (m:Md) (J:DV),U=⟨[.drw,.dat .sh (.list (C.map Cm)),.dat m (.list (x.map Cm)),.dat .sh (.list (c.map Bt)),.dat .sh (.int r),.dat .sh (.int (r / 3 % ((c.map Bt).length:Nat))),.dat .sh (.list (P.map Cm)),J],L+1+j⟩/\(m=.ow\/m=.tp)/\x.length=D.length+j/\(∀d∈D,d∈x)/\(∀d∈P.take j,d∈x)/\(∀d∈x,d∈D\/d∈P)/\NP J) ?_ ?_ ?_
    ·exact ⟨D,_,_,rfl,M,rfl,λ_ z=>z,λ_ z=>(nomatch z),λ_ z=>.inl z,B⟩
    ·(intro j p _ hp G; obtain ⟨x,m,J,rfl,M,h6,g1,g2,g3,B⟩ := G)
     have hj:=(Ak.mp hp).1
     have pl:=po.1
     array_get_dec
     refine ⟨rfl,by omega,λr2=>?_⟩
     array_get_dec
     have b2:=Sg r2 (b:=((x.map Cm).length:Int)+1) (by omega)
     have pm:=dI x (r2 % (((x.map Cm).length:Int)+1)).toNat p
     have k3:(x.map Cm).length<=300:=by rw[Ab]; omega
     have h2:own1 m=true:=by rcases M with rfl | rfl <;> rfl
     have h3:NP (.dat m (.list (x.map Cm))):=by rcases M with rfl | rfl <;> exact λ_=>rfl
     refine ⟨by omega,h2,by rw[h3]; simp [npk],by decide,by omega,b2.1,by omega,Hw x _ p,_,_,gJ (by rw[jB]) (by omega),.inr rfl,by rw[Oa]; omega,λd hd=>pm.mem_iff.mpr (Ad _ (g1 d hd)),λd hd=>?_,λd hd=>?_,Gs⟩
     ·rw[Jc,hp] at hd
      rcases Am.mp hd with hd | hd
      ·exact pm.mem_iff.mpr (Ad _ (g2 d hd))
      ·obtain rfl:d=p:=by simpa using hd
       exact pm.mem_iff.mpr Aa
     ·rcases Ai.mp (pm.mem_iff.mp hd) with rfl | hd
      ·exact .inr (Aq hp)
      ·exact g3 d hd
    ·(intro _ G; obtain ⟨x,m,J,rfl,M,h6,g1,g2,g3,B⟩ := G)
     have pl:=po.1
     rw[Ea] at g2
     refine ⟨x,m,_,_,_,_,_,_,rfl,M,by omega,by omega,by omega,⟨λd hd w hw=>?_,λd hd=>?_⟩,Gs,Gs,Gs,Gs,B⟩
     ·rw[Jc,hc] at hd
      rcases Am.mp hd with hd | hd
      ·obtain ⟨e,S,I⟩:=X.1 d hd w hw
       exact ⟨e,g1 e S,I⟩
      ·obtain rfl:d=c:=by simpa using hd
       obtain ⟨e,S,I⟩:=po.2.1 w hw
       exact ⟨e,g2 e S,I⟩
     ·rcases g3 d hd with z | z
      ·obtain ⟨e,S,I⟩:=X.2 d z
       exact ⟨e,by rw[Jc]; exact Ah _ S,I⟩
      ·exact ⟨c,by rw[Jc,hc]; exact Af _ (by simp),po.2.2 d z⟩
  ·(intro _ G; obtain ⟨D,m,Z,v4,v5,Y,J,L,rfl,M,q1,q2,dl,X,h8,h4,h5,h7,B⟩ := G)
   rw[Ea] at X
   have h1:=hR D L q1 (by omega) (wV cv X) (by omega)
   array_get_dec
   exact ⟨q1,m,_,rfl,by rcases M with rfl | rfl <;> decide,h1⟩
end
def B8:PF:=λa R=>∃u v:List Int,a=[Bt u,Bt v]/\R (.bool (dW u v))
section
variable{P:Bq}{w:World}{K:PySem.W.Frag}{mg:Str->Option Value}{base:Heap}
theorem dJ:FnScope ["_law_one", "_law_other"] ["_law_one", "_law_other"] (Bv Mt):=⟨rfl,rfl,rfl,by decide +kernel,rfl,by decide +kernel,by decide +kernel⟩
theorem bR{f   : Addr}{q  : Cj}(F:Fun K "_law_within" "_law_within" Mt f q):FnOk P w K mg base Ig 1 f q ["_law_one", "_law_other"] (Oe K (B8)):=by
 refine' Jh (k:=0) F dJ (λo A d s H E D=>?hb) ?h
 case hb =>
  have b:=D.units
  have p:∀{a:Scope} (h:a={ kind:=.function,names:=[(".0",.local),("_law_place",.local),("_law_other",.free)],isGenerator:=false,isCoroutine:=false }),
    CompScope (Mz Ig P w K mg base ["_law_one", "_law_other"] "_law_within" (Bv Mt) f o A d s H E).nox a [("_law_other",s.heap.objs.size+1)] "_law_place" ["_law_other"] [1]:=by
   rintro a rfl
   refine ⟨by rfl,.inl (by decide +kernel),by rfl,by decide +kernel,.inl rfl,λy c h=>?_,by rfl,by decide +kernel,rfl,λk y j m n=>?_⟩
   ·have z:=Ez h
    simp only[Ai,Bf,or_false,Fm] at z
    obtain ⟨rfl,rfl⟩:=z; rfl
   ·match k,m,n with
    | 0,m,n=>cases m; cases n; exact ⟨rfl,rfl,by first | exact .inl rfl | exact .inr rfl⟩
    | k+1,m,n=>cases m
  exact Cy (Fo (uD b (Vs (p rfl) rfl (JU (Ap (pv 0))) (λ_ _ _=>Tf (G6 b (Ap (pv 0)) (Ap (pv 1)))) (λ_ _ _=>Ap (pv 0))) (Ib Ba)))
 case h =>
  (intro I R B; obtain ⟨u,v,rfl,t⟩ := B)
  refine ⟨rfl,?_⟩
  array_get_dec
  refine nE (l:=u) (g:=Bo) rfl (λi=>decide (i∉v)) (λi=>.int i) (λi _ x G r C=>?_) ?_
  ·array_get_dec
   refine kR (λh=>?_) (λh=>?_)
   ·array_get_dec
    exact r (by simpa using h)
   ·exact C (by simpa using h)
  ·array_get_dec
   have e:(List.map (λi=>Bo i) (List.filter (λi=>decide (i∉v)) u)).isEmpty=dW u v:=by
    unfold dW
    rw[Bool.eq_iff_iff]
    simp
   rw[e]
   exact t
theorem aS:FnScope ["_law_holes", "_law_told", "_law_place"] ["_law_holes"] (Bv Ot):=⟨rfl,rfl,rfl,by decide +kernel,rfl,by decide +kernel,by decide +kernel⟩
theorem iO{f:Addr}{fd:Cj}(F:Fun K "_law_all" "_law_all" Ot f fd)(mR:mg "range" = none)(mS:mg "sorted" = none):FnOk P w K mg base Ig 1 f fd ["_law_holes"] tR:=by
 refine F.ok aS (λvs H Q E h=>?_) (λh7 A h3 s H vs Q E hr h=>?_)
 ·obtain ⟨h,rfl,_⟩:=h
  rfl
 obtain ⟨h,rfl,h0,h1,q⟩:=h
 have k0:(A.deeper (PyProof.Rows.envOfC "_law_all" (Bv Ot) s.heap.objs.size f h7)).units+2<cLine:=Qi (Nat.add_le_add_left (by decide:2<=64) _) hr.units
 refine ⟨_,Ln (Sa (i:=1) aS.nd rfl (Dc rfl) (rS (Gp (sD Lk) Lk)))
  (Ln (zL Cs rfl (gG rfl mR (Gp (pv 0) Lk)) (La (i:=2) aS.nd rfl (Uc rfl))
   (Tr (Sa (i:=1) aS.nd rfl (Dc rfl) (Lf pK (pv 1)
    (jH (rE (x := "_law_word") (y := "_law_place") (j:=2) (cl:=[("_law_place",s.heap.objs.size+1)]) (by rfl) (by decide +kernel) (by rfl) (by decide +kernel) (by rfl) (λ_ _ h=>h) (by rfl) (by decide +kernel) (by rfl) (by rfl) (by rfl)) rfl (aC (pv 1)) (λ_ _ _=>lN)
     (λ_ _ _=>Lf (r:=Y1 K) Q2 (pv 0) (sD (Gp (pv 1) Lk))))))))
  (Tr (bG (bN (Ts.call_sorted k0) rfl mS (by decide +kernel) (Gp (pv 1) Lk))))),?_⟩
 refine ⟨(by show 0<=Bc; decide),λe ne=>⟨(by show 1<=Bc; decide),λl nl=>?_⟩⟩
 have s1:=(Fj ne (.tup [])).trans (Fj nl (.lst [V.ref e]))
 have b1:(upd (upd H e (.tup [])) l (.lst [V.ref e])) l=some (.lst (([(e,[])].map λp:Addr×List Int=>p.1).map V.ref)):=Di
 have b2:Ws (upd (upd H e (.tup [])) l (.lst [V.ref e])) [(e,[])]:=λp hp=>by
  have : p=(e,[]):=by simpa using hp
  rw[this]
  exact Fj nl _ _ _ Di
 refine ⟨_,rfl,h,rfl,by omega,by omega,wQ (lo:=0) (n:=h.toNat) (λi σ m=>∃(l:Addr) (d:List (Addr×List Int)) (pl:Option V),σ=[some (.int h),some (.ref l),pl]/\m l=some (.lst ((d.map λp:Addr×List Int=>p.1).map V.ref))/\Ws m d/\(d.map λp:Addr×List Int=>p.2)=Fn i/\Nt H m)
  ⟨l,[(e,[])],none,rfl,b1,b2,rfl,s1⟩ ?_ ?_⟩
 ·(intro i σ m hi C; obtain ⟨l,d,pl,rfl,G,v,M,Y⟩ := C)
  have W:i<=10:=by omega
  have lw:d.length=(Fn i).length:=by rw[<- M,Ab]
  have lz:=Wb W
  have hz:((d.map λp:Addr×List Int=>p.1).map V.ref).length=(Fn i).length:=by rw[Ab,Ab,lw]
  refine ⟨_,rfl,_,rfl,l,rfl,⟨_,Qf.of G⟩,R0 (So (xs:=(d.map λp:Addr×List Int=>p.1).map V.ref)) (by rw[hz]; exact Bz lz (by decide))
   (λD j u J=>∃vs:List (Addr×List Int),u=((vs.map λp:Addr×List Int=>p.1).map V.ref)/\Ws J vs/\(vs.map λp:Addr×List Int=>p.2)=((Fn i).take j).map (·++[(i:Int)])/\Nt m J)
   (λD X=>⟨[],rfl,λp hp=>(nomatch hp),by simp,Fj X _⟩) (λD j u J ⟨_,_,_,_,k⟩=>Qf.of (k _ _ G)) ?_ ?_⟩
  ·(intro D j x u J X hx ha C; obtain ⟨vs,rfl,wv,T,k⟩ := C)
   refine EJ ?_
   rw[Dj,Bm] at hx
   cases hj:d[j]? with
   | none=>rw[hj] at hx; cases hx
   | some Z =>
    obtain ⟨a,g⟩:=Z
    rw[hj] at hx
    have ex:V.ref a=x:=Bl hx
    subst ex
    have h8:J a=some (.tup (g.map V.int)):=k _ _ (v (a,g) (Aq hj))
    have O:(Fn i)[j]? = some g:=by
     rw[<- M,Bm,hj]
     rfl
    have k1:g.length<=10:=Bz (Po i g (Aq O)) W
    -- the new word stands at r
    have N:∀(r:Addr) (L:Hp),Nt J L->L r=some (.tup ((g++[(i:Int)]).map V.int))->L D=some (.lst ((vs.map λp:Addr×List Int=>p.1).map V.ref)) /\
      ∃B:List (Addr×List Int),(vs.map λp:Addr×List Int=>p.1).map V.ref++[V.ref r]=(B.map λp:Addr×List Int=>p.1).map V.ref/\Ws (upd L D (.lst ((vs.map λp:Addr×List Int=>p.1).map V.ref++[V.ref r]))) B /\
       (B.map λp:Addr×List Int=>p.2)=((Fn i).take (j+1)).map (·++[(i:Int)])/\Nt m (upd L D (.lst ((vs.map λp:Addr×List Int=>p.1).map V.ref++[V.ref r]))):=λr L t h9=>by
     have R:=t _ _ ha
     refine ⟨R,vs++[(r,g++[(i:Int)])],by simp,λp hp=>?_,?_,λb o z=>?_⟩
     ·have U:L p.1=some (.tup (p.2.map V.int)):=by
       rcases Am.mp hp with hp | hp
       ·exact t _ _ (wv p hp)
       ·have : p=(r,g++[(i:Int)]):=by simpa using hp
        rw[this]
        exact h9
      rw[Ef (Y9 U R (by intro z; cases z))]
      exact U
     ·rw[Bb,T,Oc O,Bb]
      rfl
     ·rw[Ef (Fu z X)]
      exact t _ _ (k _ _ z)
    refine ⟨_,rfl,_,rfl,(by show 1<=Bc; decide),λp1 h5=>?_⟩
    have t:=Fj h5 (.tup [V.int (0+(i:Int))])
    refine ⟨a,p1,_,_,rfl,rfl,Tz.of (t _ _ h8),Tz.of Di,(λz=>nomatch z),?_,λz=>?_,λz p2 h4=>?_⟩
    ·rw[Ab]
     show g.length+1<=Bc
     exact Z1 (by omega)
    ·have e0:g=[]:=by simpa using z
     subst e0
     exact N p1 _ t (by rw[Di,Int.zero_add]; rfl)
    ·refine N p2 _ (t.trans (Fj h4 _)) ?_
     rw[Di,Bb,Int.zero_add]
     rfl
  ·(intro D u J X ha C; obtain ⟨vs,rfl,wv,T,k⟩ := C)
   rw[hz,Ea] at T
   have lv:vs.length=(Fn i).length:=by
    have:=congrArg Fh T
    rw[Ab,Ab] at this
    exact this
   refine ⟨l,D,_,_,rfl,rfl,k _ _ G,ha,?_,λp np=>?_⟩
   ·rw[Ab,Ab,Ab,Ab,lw,lv]
    exact Bz (by omega:_<=2048) (by decide)
   ·have t:=Fj np (.lst ((d.map λp:Addr×List Int=>p.1).map V.ref++(vs.map λp:Addr×List Int=>p.1).map V.ref))
    refine ⟨p,d++vs,_,rfl,?_,λx hx=>?_,?_,(Y.trans k).trans t⟩
    ·rw[Di,Bb,Bb]
    ·rcases Am.mp hx with hx | hx
     ·exact t _ _ (k _ _ (v x hx))
     ·exact t _ _ (wv x hx)
    ·rw[Bb,M,T]
     rfl
 ·(intro σ m C; obtain ⟨l,d,pl,rfl,G,v,M,Y⟩ := C)
  have ec:=v.c
  refine ⟨_,rfl,l,d.map (λp:Addr×List Int=>p.1),ET m,rfl,Qf.of G,λr h6=>?_,λr Gi er=>?_,λp I np Z so=>?_⟩
  ·obtain ⟨x,hx,e⟩:=Cn.mp h6
   subst e
   rw[kD (v x hx)]
   exact Tz.of (v x hx)
  ·obtain ⟨tl,et⟩:=Yu h.toNat
   rw[<- M] at et
   cases d with
   | nil=>cases er
   | cons x k2 =>
    have G:x.1=r:=by
     have:=congrArg List.head? er
     simpa using this
    have e2:x.2=[]:=by
     have:=congrArg List.head? et
     simpa using this
    rw[<- G,kD (v x Aa),e2]
  ·have k:=Fj np (.lst (I.map V.ref))
   refine q p I (I.map (ET m)) _ (Y.free np) Di (λi r g h1 h2=>?_) (by rw[Ab]) ?_ ?_ (Y.trans k)
   ·rw[Bm,h1] at h2
    have e2:ET m r=g:=Bl h2
    obtain ⟨x,hx,e⟩:=Cn.mp (Z.mem_iff.mp (Aq h1))
    have S:=v x hx
    have e':x.1=r:=e
    rw[<- e2,<- e',kD S]
    exact k _ _ S
   ·have:=Z.map (ET m)
    rw[ec,M] at this
    exact this
   ·exact Zp.mpr so
theorem mH{f:Addr}{a:Cj}(F:Fun K "_law_all" "_law_all" Ot f a)(c:mg "range" = none)(b:mg "sorted" = none):FnOk P w K mg base Ig 1 f a ["_law_holes"] (Oe K jO):=zQ (iO F c b)
end
end K18
namespace DL
open PySem PySem.Spec PyProof.Rows L2 Nd
def LQ(i:Nat)(z y:DV)(a:DS)(D:DEnds):Prop:=match a.sl[i]?,z,y with
 | some (.dat m (.list ds)),.dat _ (.int k),.dat _ (.int j)=>own1 m=true/\npk a.sl=true/\Dz ds=true/\0<=j/\j<ds.length/\0<=k/\k<=1000000/\ds.length<1000000 /\
  ∀d,ds[j.toNat]? = some d->D.nx ⟨a.sl.set i (.dat m (.list (Hw (ds.eraseIdx j.toNat) k.toNat d))),a.n⟩
 | _,_,_=>False
def uW(i:Nat)(d e:DE):DB:=λD c=>isLst c.sl[i]? = true/\d c λz a=>isLst a.sl[i]? = true/\e a λy b=>LQ i z y b D
section
variable{X:Cx}{o p r l:Expr}{s t:DE}{q f g e pos:Pos}{i:Nat}
theorem xX(ho:PE X o (Nx i))(h0:PE X p (Nx i))(hk:Fi X r s)(hj:Fi X l t)(J:Iy o "insert" X.env (eval o X.env)=eval o X.env:=by rfl)(C:Iy p "pop" X.env (eval p X.env)=eval p X.env:=by rfl)
  (W:((Gh g (Be [r,.Call (.Attribute p "pop" f) [l] [] e] X.env)).all (λx=>!x.1) && (Pt g (Ko [] X.env)).all (λx=>x.1.isSome)
   && decide (([r,.Call (.Attribute p "pop" f) [l] [] e]:List Expr).length+([]:List Je).length+(if ([]:List Je).isEmpty then 0 else 1)<30))=true:=by rfl)
  (E:((Gh e (Be [l] X.env)).all (λx=>!x.1) && (Pt e (Ko [] X.env)).all (λx=>x.1.isSome)
   && decide (([l]:List Expr).length+([]:List Je).length+(if ([]:List Je).isEmpty then 0 else 1)<30))=true:=by rfl)
  (L:(q.endLine == g.line)=true:=by rfl) (B:(f.endLine == e.line)=true:=by rfl)
  (U:Be [r,.Call (.Attribute p "pop" f) [l] [] e] X.env=(false,eval r X.env)::Be [.Call (.Attribute p "pop" f) [l] [] e] X.env:=by rfl)
  (hs:Be [.Call (.Attribute p "pop" f) [l] [] e] X.env=(false,eval (.Call (.Attribute p "pop" f) [l] [] e) X.env)::Be [] X.env:=by rfl) (Z:Be [l] X.env=(false,eval l X.env)::Be [] X.env:=by rfl)
  (A:(Gh g (Be [.Call (.Attribute p "pop" f) [l] [] e] X.env)).any (·.1)=false:=by rfl) (v:(Gh e (Be [] X.env)).any (·.1)=false:=by rfl)
  (h3:Hu (.Call (.Attribute o "insert" q) [r,.Call (.Attribute p "pop" f) [l] [] e] [] g) none pos.line X.env=pure false:=by rfl) :
  dY X (.Expr (.Call (.Attribute o "insert" q) [r,.Call (.Attribute p "pop" f) [l] [] e] [] g) pos) (uW i s t):=by
 refine PS.impD (To (aX PySem.F.plainAttrs_list Qw aP Xm ho (Gp hk (Gp (aX PySem.F.plainAttrs_list PySem.F.slot_list_pop PySem.F.type_list_pop yV h0 (Gp hj Lk Z) C E B Z v) Lk hs) U) J W L U A) h3) λD σ H h=>?_
 obtain ⟨H0,Y,S,T,δ,P,rfl,hS,hT,hA,⟨h7,hd⟩,k1,k2,k3,k4⟩:=h
 obtain ⟨a,xs,hv,ha⟩:=rP hS hA h7
 refine ⟨.ref a,hv,.inl ⟨rfl,xs,Qf.of ha⟩,H0,Y,S,T,δ,_,rfl,hS,hA,hd,λz h2 w F1 S1 H1 e4 e5 O ⟨h6,p1⟩=>?_⟩
 obtain ⟨b,ys,N,hb⟩:=rP e5 O h6
 have h4:b=a:=by
  have : some (some (V.ref b))=some (some (V.ref a)):=by rw[<- N,e4]; exact hv
  cases this
  rfl
 subst h4
 refine ⟨.ref b,by rw[<- e4]; exact N,.inl ⟨rfl,ys,Qf.of hb⟩,H0,Y,S1,⟨some w,z,F1⟩::T,h2,_,e4,e5,O,p1,λy h8 w2 F2 S2 H2 e6 e7 I p2=>?_⟩
 unfold LQ at p2
 split at p2
 ·rename_i m M mz k my j h1 _
  obtain ⟨q1,q2,q3,q4,q5,q6,q7,q8,q9⟩:=p2
  obtain ⟨rfl,_⟩:=(I.told Fc).int_inv
  obtain ⟨rfl,_⟩:=(I.told mem_mid).int_inv
  have R:j.toNat<M.length:=by omega
  obtain ⟨d,Q⟩ : ∃d,M[j.toNat]? = some d:=⟨_,Bj R⟩
  have h5:=I.sub (E':=S2++T) ((Ck S2).append ((Ci _ _).trans (Ci _ _)))
  obtain ⟨c,u,G1,g1,g2,g3,g4,g5⟩:=Rg (es:=Hw (M.eraseIdx j.toNat) k.toNat d) e7 hT h5 h1 q1 q2
  obtain rfl:=g3.imm q3
  have ec:some (V.ref c)=some (V.ref b):=Bl (by rw[<- g1,e6]; exact hv)
  cases ec
  obtain ⟨yv,Gy,hy,ry,sy⟩:=g3.get Q
  obtain rfl:=dS.mp sy
  have hl:=g3.len
  have re:=RdFs.erase j.toNat g3
  obtain ⟨Ga,Gb,eG,rA,rB⟩:=RdFs.part k.toNat re
  obtain ⟨rfl,rfl⟩:=sL.mp eG.symm
  have rI:RdFs X.K H2 (Hw (u.eraseIdx j.toNat) k.toNat yv) (Hw (M.eraseIdx j.toNat) k.toNat d) []:=by
   unfold Hw
   exact RdFs.app (F:=[]) (G:=[]) rA (RdFs.cons (F:=[]) (G:=[]) ry rB)
  have ll:(Hw (M.eraseIdx j.toNat) k.toNat d).length=M.length:=by
   rw[Oa,List.length_eraseIdx,if_pos R]
   omega
  obtain ⟨S3,i1,i2,i3⟩:=g5 _ [] rI (Nh _) (by rw[ll]; exact g4)
  refine ⟨b,u,j,j.toNat,yv,rfl,rfl,g2,by omega,by omega,?_,hy,?_⟩
  ·have hx:rX u.length j=some j.toNat:=by unfold rX; rw[if_pos q4,if_pos (by omega)]
   exact (kH hx).1
  ·have l2:(u.eraseIdx j.toNat).length<=u.length:=List.length_eraseIdx_le _ _
   refine ⟨b,u.eraseIdx j.toNat,k,yv,rfl,rfl,Di,By (by omega) (Zg (n:=1000000) (Aj _)),q6,q7,?_⟩
   rw[L2.upd_upd,<- e6,<- i1]
   exact k1 ⟨_,_⟩ S3 _ i2 i3 (q9 d Q)
 ·exact p2.elim
end
end DL
namespace K18
open PySem L2 Nd DL
local macro_rules | `(tactic| array_get_dec) => do
  let ids:=(("e_lenSet e_lsB e_isB1 e_isB0 e_extend e_extB e_insertO e_insOB e_callWV e_callWVB e_seq e_skip e_ret e_if e_asg e_name e_name2 e_name3 e_name4 e_own e_nT e_nF e_gtup e_gsn e_gsc e_op e_var e_c e_imm e_immB e_take e_frz e_frzo e_I e_I0 e_bestK e_eqF e_eqT e_inFl e_inFt_w1 e_inTt_w1 e_ixl e_ixt e_cat e_catT_w1 e_nlT e_nlF e_ntT e_pkOfpk e_pkOfsh e_pkOfow e_mdInsh e_mdInow e_mdNewsh e_mdItpk e_mdItsh e_mdIttp e_mdItow e_nil e_cons e_tup e_lst e_noPart e_part e_partB e_sl e_slBl e_cb e_lenl e_lent_w1 e_tuplel e_min2 e_all e_sortT e_isi e_v e_b e_bB e_tru e_truB e_notT e_andT e_andTt e_orT e_orTf e_not e_notB e_and e_andt e_ifE e_neg e_negB e_dL e_dTp e_lB e_tpB_w1 e_range1 e_rng1B e_enum e_enumB e_zip e_zipB e_for e_comp e_compL e_stepL e_stepLT e_stepLF e_give e_giveB e_compD e_noTest e_step e_stepT e_stepF e_yesB e_stepD e_stepDT e_yesBD e_call e_callW e_draws e_drawsB e_append e_insert e_appendO e_aug e_augB e_scrSl e_dcomp2 e_dcStep e_dcBT e_dcYes ow_npk retWT retA_sh retA_tp wd_e isLst dget_e dinF_e wordsD callB callBW tupB lstB datas pkMd allOw noPk appB appOB mmd insB own1 npk retE retL args0 frD frD1 alD List.map_cons List.map_nil List.replicate List.getElem?_cons_zero List.getElem?_cons_succ List.set_cons_zero List.set_cons_succ List.cons_append List.nil_append Option.map_some List.length_cons List.length_nil List.append_nil rdAdd rdSub rdMul rdDiv rdMod rdShl rdLt rdLe rdGt rdGe if_true if_false Bool.false_eq_true mdZip List.append_assoc Nat.reduceAdd Nat.reduceSub Nat.reduceLeDiff true_and im_e ima_e dp_e dpa_e any_int eqD_intd eqD_str eqD_l0 ow_e tt_e cdiv_e cpow_e Int.reduceLT Int.reduceNeg and_self fold_w isi_li isi_ib isi_ii isi_wt Bool.not_true Bool.not_false String.reduceEq or_true true_or List.isEmpty_nil ifB_lt ifB_lf str_self atI_0 some_e eqD_tup1 okT_l yesL_ow catL_shtp catL_tptp" : String).splitOn " ").toArray.map λ(x:String)=>Lean.mkIdent x.toName
  `(tactic| try simp only [$[$ids:ident],*])
structure CodeW(h:Nat)(c:List (List Int)):Prop where
 nd:c.Nodup
 rise:∀w∈c,Ge h w
 len:c.length<=64
theorem cw_code {h i:Nat} (d:h≤6):CodeW h (cw h 0 i):=by
 refine ⟨(cw_lex h 0 i).imp fun {a b} z e=>?_,fun w g=>?_,?_⟩
 ·subst e
  rw[Ts.lex_irr] at z
  cases z
 ·obtain ⟨_,j,f⟩:=cw_mem.mp g
  exact ⟨j,λx c=>by have:=f x c; omega⟩
 ·rw [cw_len]
  exact Bz (vD h i) (Bz (Gm (by decide) d) (by decide))
def tL:DF:=λb n R=>∃h:Int,b=[.int h]/\1<=h/\h<=6/\n<=90000/\∀(L:List (List (List Int))) (a:Nat),n<=a->a<=n+100->L.length<=10->(∀c∈L,CodeW h.toNat c)->R (Ej L) a
section
variable{P:Bq}{w:World}{K:PySem.W.Frag}{mg:Str->Option Value}{base:Heap}
theorem fJ:FnScope ["_law_draws_here", "_law_holes", "_law_left", "_law_k", "_law_grown", "_law_word", "_law_level", "_law_some"] ["_law_draws_here", "_law_holes"] (Bv Lc):=⟨rfl,rfl,rfl,by decide +kernel,rfl,by decide +kernel,by decide +kernel⟩
theorem fE{f p B q S  : Addr}{fd O T N Y:Cj}(F:Fun K "_law_codes" "_law_codes" Lc f fd)(h4:FnOk P w K mg base Ig 3 p O ["holes", "many"] (Oe K (Xs)))(h3:Binds K O ["holes", "many"] [])(X:PySem.W.keepIn K (.ref p)=true)(h2:mg "words_of" = some (.ref p))(C:FnOk P w K mg base Ig 1 B T ["_law_draws_here"] (W3 K Xy))(t:Binds K T ["_law_draws_here"] [])(x:PySem.W.keepIn K (.ref B)=true)(v:mg "_law_next" = some (.ref B))(J:FnOk P w K mg base Ig 1 q N ["_law_one", "_law_other"] (Oe K (B8)))(D:Binds K N ["_law_one", "_law_other"] [])(M:PySem.W.keepIn K (.ref q)=true)(I:mg "_law_within" = some (.ref q))(h8:FnOk P w K mg base Ig 1 S Y ["_law_holes"] (Oe K jO))(h9:Binds K Y ["_law_holes"] [])(h7:PySem.W.keepIn K (.ref S)=true)(k0:mg "_law_all" = some (.ref S))(V:mg "len" = none)(U:mg "range" = none):FnOk P w K mg base Ig 4 f fd ["_law_draws_here", "_law_holes"] (jF K (tL)):=by
 refine' dF (k:=3) F fJ (λk3 A h5 s H E hr=>?hb) ?h
 case hb =>
  have h6:Room 1 _:=hr.mono (by decide)
  have q3:Room 2 _:=hr.mono (by decide)
  have q2:Room 3 _:=hr.mono (by decide)
  have k2:=hr.units
  have q0:∀{m:Scope} (h:m={ kind:=.function,names:=[(".0",.local),("_law_one",.local),("_law_within",.globalImplicit),("_law_word",.free)],isGenerator:=false,isCoroutine:=false }),
    CompScope (Mz Ig P w K mg base ["_law_draws_here", "_law_holes", "_law_left", "_law_k", "_law_grown", "_law_word", "_law_level", "_law_some"] "_law_codes" (Bv Lc) f k3 A h5 s H E).nox m [("_law_word",s.heap.objs.size+2)] "_law_one" ["_law_word"] [5]:=by
   rintro m rfl
   refine ⟨by rfl,.inl (by decide +kernel),by rfl,by decide +kernel,.inl rfl,λy c h=>?_,by rfl,by decide +kernel,rfl,λk y j Z e2=>?_⟩
   ·have z:=Ez h
    simp only[Ai,Bf,or_false,Fm] at z
    obtain ⟨rfl,rfl⟩:=z; rfl
   ·match k,Z,e2 with
    | 0,Z,e2=>cases Z; cases e2; exact ⟨rfl,rfl,by first | exact .inl rfl | exact .inr rfl⟩
    | k+1,Z,e2=>cases Z
  have k9:∀{m:Scope} (h:m={ kind:=.function,names:=[(".0",.local),("_law_word",.local),("len",.globalImplicit),("_law_level",.free)],isGenerator:=false,isCoroutine:=false }),
    CompScope (Mz Ig P w K mg base ["_law_draws_here", "_law_holes", "_law_left", "_law_k", "_law_grown", "_law_word", "_law_level", "_law_some"] "_law_codes" (Bv Lc) f k3 A h5 s H E).nox m [("_law_level",s.heap.objs.size+3)] "_law_word" ["_law_level"] [6]:=by
   rintro m rfl
   refine ⟨by rfl,.inl (by decide +kernel),by rfl,by decide +kernel,.inl rfl,λy c h=>?_,by rfl,by decide +kernel,rfl,λk y j Z e2=>?_⟩
   ·have z:=Ez h
    simp only[Ai,Bf,or_false,Fm] at z
    obtain ⟨rfl,rfl⟩:=z; rfl
   ·match k,Z,e2 with
    | 0,Z,e2=>cases Z; cases e2; exact ⟨rfl,rfl,by first | exact .inl rfl | exact .inr rfl⟩
    | k+1,Z,e2=>cases Z
  have k7:∀{m:Scope} (h:m={ kind:=.function,names:=[(".0",.local),("_law_k",.local),("words_of",.globalImplicit),("_law_holes",.free)],isGenerator:=false,isCoroutine:=false }),
    CompScope (Mz Ig P w K mg base ["_law_draws_here", "_law_holes", "_law_left", "_law_k", "_law_grown", "_law_word", "_law_level", "_law_some"] "_law_codes" (Bv Lc) f k3 A h5 s H E).nox m [("_law_holes",s.heap.objs.size+1)] "_law_k" ["_law_holes"] [1]:=by
   rintro m rfl
   refine ⟨by rfl,.inl (by decide +kernel),by rfl,by decide +kernel,.inl rfl,λy c h=>?_,by rfl,by decide +kernel,rfl,λk y j Z e2=>?_⟩
   ·have z:=Ez h
    simp only[Ai,Bf,or_false,Fm] at z
    obtain ⟨rfl,rfl⟩:=z; rfl
   ·match k,Z,e2 with
    | 0,Z,e2=>cases Z; cases e2; exact ⟨rfl,rfl,by first | exact .inl rfl | exact .inr rfl⟩
    | k+1,Z,e2=>cases Z
  exact Cc (Pl (i:=2) fJ.nd rfl (Dc rfl) (Fp h8 h6 rfl k0 h7 h9 Gf (Ao (Ap (pv 1)) Ba)))
   (Cc (Kh Cs rfl (Mp rfl U (Ao (Du Fs Io rfl V (by decide +kernel) (Ao (Ap (pv 2)) Ba)) Ba)) (Gc (i:=3) fJ.nd rfl (Dc rfl))
   (Cy (xX (pv 2) (pv 2) (Rk (Mw C h6 rfl v x t Gf (pv 0) Ba) (Mg (Ap (pv 3)) Dx)) (Ap (pv 3)))))
   (Cc (Pl (i:=4) fJ.nd rfl (Dc rfl) (Ib Ba))
   (Cc (Kh Cs rfl (kY (gH (pv 2))) (Gc (i:=5) fJ.nd rfl (Uc rfl))
   (Cy (Lz (sS k2 (Vs (q0 rfl) rfl (kY (Ap (pv 4))) (λ_ _ _=>Tf (eZ (Vz (Ov (Fp J h6 rfl I M D Gf (Ao (Ap (pv 0)) (Ao (Ap (pv 1)) Ba)))) (Uz (Ov (Fp J h6 rfl I M D Gf (Ao (Ap (pv 1)) (Ao (Ap (pv 0)) Ba)))))))) (λ_ _ _=>Ap (pv 0))) (Ib Ba))
    (Cy (wL (pv 4) (Ap (pv 5)))) Jr)))
   (Cc (Hr (i:=6) fJ.nd rfl (Uc rfl) (Rk (Mw C h6 rfl v x t Gf (pv 0) Ba) (Mg (Ap (pv 1)) Dx)))
   (Cc (iM (o:=false) (i0:=7) fJ.nd rfl rfl (k9 rfl) rfl (kY (Ap (pv 2))) (λ_ _ _=>Tf (IQ k2 (Du Fs Io rfl V (by decide +kernel) (Ao (Ap (pv 0)) Ba)) (Ib (Ao (Nf (Ap (pv 1))) (Ao (Mg (Ap (pv 1)) Dx) Ba))))) (λ_ _ _=>Ap (pv 0)))
   (Cy (Fo (Vr (Ib (Ao (Zv (pv 4)) (Ao (Ap (pv 7)) (Ao (Kn (i:=true) (Ap (pv 2)) Km (Jj (Mg Dx (Rk (Mw C h6 rfl v x t Gf (pv 0) Ba) (Du Fs Io rfl V (by decide +kernel) (Ao (Ap (pv 2)) Ba)))))) Ba)))) (Vt (k7 rfl) rfl (Mp rfl U (Ao (Mg (Ap (pv 1)) Dx) Ba)) (λ_ _ _=>Mf) (λ_ _ _=>Fp h4 q2 rfl h2 X h3 Gf (Ao (Ap (pv 1)) (Ao (Ap (pv 0)) Ba))))))))))))
 case h =>
  (intro ds n R q_; obtain ⟨h,rfl,h0,h1,hn,hR⟩ := q_)
  refine ⟨rfl,?_⟩
  array_get_dec
  refine ⟨h,rfl,by omega,by omega,λL pL oL=>?_⟩
  have nL:=lR pL
  have rL:∀w∈L,Ge h.toNat w:=λw hw=>(vQ pL).mp hw
  have lL:L.length<=64:=by
   rw[pL.length_eq,Ou]
   exact Bz (Gm (by decide) (show h.toNat<=6 by omega)) (by decide)
  array_get_dec
  rw[Ab]
  refine ⟨by omega,by omega,?_⟩
  rw[Ds]
  refine Sr (l:=Ce L.length) (g:=λi:Nat=>.int i) rfl (λi δ=>∃(Q:List (List Int)) (v3:DV),δ=⟨[.drw,.dat .sh (.int h),.dat .ow (.list (Q.map Bt)),v3,.un,.un,.un,.un],n+i⟩/\Q.Perm L/\NP v3) ?_ ?_ ?_
  ·exact ⟨L,_,rfl,Gn _,Hk⟩
  ·(intro i a _ ha q_; obtain ⟨Q,v3,rfl,pm,k5⟩ := q_)
   obtain ⟨rfl,hi⟩:=Su ha
   have ll:=pm.length_eq
   array_get_dec
   unfold uW
   refine ⟨rfl,?_⟩
   array_get_dec
   refine ⟨rfl,by omega,λr=>?_⟩
   array_get_dec
   have bm:=Sg r (b:=(a:Int)+1) (by omega)
   refine ⟨by omega,rfl,?_⟩
   array_get_dec
   rw[Ab]
   refine ⟨by omega,by omega,bm.1,by omega,by omega,λd hd=>?_⟩
   rw[Ds,Bm] at hd
   cases hk:Q[a]? with
   | none=>rw[hk] at hd; cases hd
   | some w =>
    rw[hk] at hd
    cases hd
    refine ⟨Hw (Q.eraseIdx a) (r % ((a:Int)+1)).toNat w,_,gJ (by rw[Ds,fM,jB]) (by omega),?_,Gs⟩
    exact ((dI _ _ _).trans (Hq hk).symm).trans pm
  ·(intro _ q_; obtain ⟨Q,v3,rfl,pm,k5⟩ := q_)
   rw[Dq]
   have ll:=pm.length_eq
   have q1:=pm.nodup_iff.mpr nL
   have k8:∀w∈Q,Ge h.toNat w:=λw hw=>rL w (pm.mem_iff.mp hw)
   array_get_dec
   refine Sr (l:=Q) (g:=Bt) rfl (λi δ=>∃(G:List (List Int)) (v5:DV),δ=⟨[.drw,.dat .sh (.int h),.dat .sh (.list (Q.map Bt)),v3,.dat .ow (.list (G.map Bt)),v5,.un,.un],n+L.length⟩/\G.Sublist (Q.take i)/\NP v5) ?_ ?_ ?_
   ·exact ⟨[],_,rfl,Nh _,Hk⟩
   ·(intro i w _ hw q_; obtain ⟨G,v5,rfl,sG,k6⟩ := q_)
    have et:Q.take (i+1)=Q.take i++[w]:=by rw[Jc,hw]; rfl
    have s1:G.Sublist (Q.take (i+1)):=by rw[et]; exact sG.trans (Rp _ _)
    have lG:G.length<=64:=by
     have:=sG.length_le
     rw[Cu] at this
     omega
    array_get_dec
    refine nE (l:=G) (g:=Bt) rfl (λu=>dW u w || dW w u) Bt (λu hu k4 no hy hn=>?_) ?_
    ·array_get_dec
     refine ⟨u,w,rfl,?_⟩
     array_get_dec
     refine fS (λhb=>?_) (λhb=>?_)
     ·array_get_dec
      exact hy (by rw[hb]; rfl)
     ·array_get_dec
      refine ⟨w,u,rfl,?_⟩
      array_get_dec
      refine kR (λhc=>?_) (λhc=>?_)
      ·array_get_dec
       exact hy (by rw[hc,Bool.or_true])
      ·exact hn (by rw[hb,hc]; rfl)
    array_get_dec
    refine Pk (λhb=>?_) (λhb=>?_)
    ·array_get_dec
     refine ⟨by simp [npk,k5 _],by rw[Ab]; omega,G++[w],_,gJ (by rw[Bb]; rfl) rfl,by rw[et]; exact sG.append (Ck _),Gs⟩
    ·array_get_dec
     exact ⟨G,_,rfl,s1,Gs⟩
   ·(intro _ q_; obtain ⟨G,v5,rfl,sG,k6⟩ := q_)
    rw[Ea] at sG
    array_get_dec
    refine ⟨rfl,by omega,λr2=>?_⟩
    array_get_dec
    have b2:=Sg r2 (b:=h+1) (by omega)
    refine ⟨by omega,?_⟩
    refine nE (l:=Q) (g:=Bt) rfl (λu=>([Bo (r2 % (h+1)),.int (r2 % (h+1)+1)].any λe=>Er e (.int ((u.map Bo).length:Nat)))) Bt (λu hu k4 no hy hn=>?_) ?_
    ·array_get_dec
     refine kR (λhc=>?_) (λhc=>hn hc)
     array_get_dec
     exact hy hc
    generalize hF:Q.filter (λu=>([Bo (r2 % (h+1)),.int (r2 % (h+1)+1)].any λe=>Er e (.int ((u.map Bo).length:Nat))))=F
    have sF:F.Sublist Q:=by rw[<- hF]; exact Pd
    array_get_dec
    refine ⟨rfl,by omega,λr3=>?_⟩
    array_get_dec
    have l0:0<Q.length:=by rw[ll,pL.length_eq,Ou]; exact Nat.pow_pos (by decide)
    rw[Ab]
    have b3:=Sg r3 (b:=(Q.length:Int)) (by omega)
    refine ⟨by omega,by omega,by omega,?_⟩
    rw[(iJ (xs:=Q.map Bt) (k:=1+r3 % (Q.length:Int)) (by omega) (by rw[Ab]; omega)).1,<- Np]
    refine pD (l:=Ce (h+1).toNat) (g:=λi:Nat=>.int i) rfl (λi=>Cm (cw h.toNat 0 i)) (λi hi k4 no hy=>?_) ?_
    ·have hi:=Ip.mp hi
     array_get_dec
     refine ⟨h,i,rfl,by omega,by omega,by omega,?_⟩
     array_get_dec
     exact hy
    array_get_dec
    refine ⟨by rw[Ab,Dq]; omega,by omega,?_⟩
    have eD:Ub (.list (G.map Bt)::.list (F.map Bt)::.list ((Q.take (1+r3 % (Q.length:Int)).toNat).map Bt)::(Ce (h+1).toNat).map λi=>Cm (cw h.toNat 0 i))=Ej (G::F::Q.take (1+r3 % (Q.length:Int)).toNat::(Ce (h+1).toNat).map λi=>cw h.toNat 0 i):=by
     unfold Ej
     rw[Ax,Ax,Ax,Dj]
     rfl
    rw[eD]
    have k1:∀{c:List (List Int)},c.Sublist Q->CodeW h.toNat c:=λ{c} s=>⟨q1.sublist s,λw hw=>k8 w (s.subset hw),by have:=s.length_le; omega⟩
    refine hR _ _ (by omega) (by omega) (by simp; omega) λc hc=>?_
    rcases Ai.mp hc with rfl | hc
    ·exact k1 sG
    rcases Ai.mp hc with rfl | hc
    ·exact k1 sF
    rcases Ai.mp hc with rfl | hc
    ·exact k1 (Gx _ _)
    obtain ⟨i,_,rfl⟩:=Cn.mp hc
    exact cw_code (by omega)
end
structure CovW(h:Nat)(C:List (List (List Int))):Prop where
 cov:Cov h C
 lC:C.length<=300
 hh:h<=7
def uF:PF:=λb R=>∃(h:Nat) (C:List (List (List Int))) (a:List (List Int)),b=[.list (a.map Bt),Ej C]/\CovW h C/\CodeW h a/\R (.bool true)
section
variable{P:Bq}{w:World}{K:PySem.W.Frag}{mg:Str->Option Value}{base:Heap}
theorem fF:FnScope ["_law_code", "_law_some", "_law_i", "_law_j"] ["_law_code", "_law_some"] (Bv Ra):=⟨rfl,rfl,rfl,by decide +kernel,rfl,by decide +kernel,by decide +kernel⟩
theorem eM{f l e d  : Addr}{fd y m g:Cj}(F:Fun K "_law_right" "_law_right" Ra f fd)(M:FnOk P w K mg base Ig 2 l y ["code"] (Oe K (kG)))(N:Binds K y ["code"] [])(J:PySem.W.keepIn K (.ref l)=true)(L:mg "plain" = some (.ref l))(I:FnOk P w K mg base Ig 1 e m ["code", "some"] (Oe K (W6)))(G:Binds K m ["code", "some"] [])(B:PySem.W.keepIn K (.ref e)=true)(D:mg "two_in" = some (.ref e))(t:FnOk P w K mg base Ig 1 d g ["_law_one", "_law_other"] (Oe K (B8)))(o:Binds K g ["_law_one", "_law_other"] [])(x:PySem.W.keepIn K (.ref d)=true)(r:mg "_law_within" = some (.ref d))(z:mg "len" = none):FnOk P w K mg base Ig 3 f fd ["_law_code", "_law_some"] (Oe K (uF)):=by
 refine' Jh (k:=2) F fF (λh1 A X s H E hr=>?hb) ?h
 case hb =>
  have T:Room 1 _:=hr.mono (by decide)
  have h0:Room 2 _:=hr.mono (by decide)
  have O:=hr.units
  exact Cc (Lz (X8 (Du Fs Io rfl z (by decide +kernel) (Ao (Ap (pv 0)) Ba)) (Du Fs Io rfl z (by decide +kernel) (Ao (Ap (pv 1)) Ba)))
   (Cy (Fo Mv)) Jr)
   (Cc (zN (Fp I T rfl D B G Gf (Ao (Ap (pv 0)) (Ao (Ap (pv 1)) Ba))) (aY (n:=2) rfl (Lm (Gc (i:=2) fF.nd rfl (Dc rfl)) (Lm (Gc (i:=3) fF.nd rfl (Dc rfl)) Wj))))
   (Cy (Fo (kN (uD O (Uy (Fp M h0 rfl L J N Gf (Ao (Ap (pv 0)) Ba)) Dx) aU) (kN (FV O (Ap (pv 2)) (Ap (pv 3))) (sC (Fp t T rfl r x o Gf (Ao (Uy (Ap (pv 0)) (Ap (pv 2))) (Ao (Uy (Ap (pv 0)) (Ap (pv 3))) Ba)))))))))
 case h =>
  (intro ds R q_; obtain ⟨h,C,Q,rfl,Z,V,hR⟩ := q_)
  refine ⟨rfl,?_⟩
  unfold Ej
  array_get_dec
  refine Pk (λU=>?_) (λU=>?_)
  ·array_get_dec
   exact hR
  have U:=of_decide_eq_false U
  rw[Ab,Ab] at U
  array_get_dec
  have ok:CodeOk h C Q:=⟨Z.cov,V.nd,V.rise,by omega,by have:=V.len; omega,Z.lC,Z.hh⟩
  refine ⟨h,C,Q,rfl,ok,λp q u v c _ hu hv _ _ Y S=>?_⟩
  array_get_dec
  refine ⟨Q,rfl,by have:=V.len; omega,λi j a b _ _ _ _=>?_,λnn=>absurd (nn p q u v hu hv Y) (by rw[show sub u v=true from S]; simp)⟩
  array_get_dec
  refine A4 (λ_=>?_) (λq'=>absurd q' (by simp; omega))
  array_get_dec
  refine ⟨Bt u,by rw[iS,jR hu]; rfl,?_⟩
  array_get_dec
  refine ⟨Bt v,by rw[iS,jR hv]; rfl,?_⟩
  array_get_dec
  refine ⟨u,v,rfl,?_⟩
  rw[S]
  array_get_dec
  exact hR
end
structure Chn(h:Int)(c:List (List Int)):Prop where
 ne:c≠[]
 words:∀w∈c,Ge h w
 adj:∀p∈c.zip c.tail,p.2.length=p.1.length+1/\dW p.1 p.2=true
 len:c.length<=100
theorem bH:∀{c:List (List Int)} (z:List Int),c≠[]->(c++[z]).zip (c++[z]).tail=c.zip c.tail++[(Mb c,z)]
 | [],_,h=>absurd rfl h
 | [a],z,_=>rfl
 | a::b::c,z,_=>by
  have d:=bH (c:=b::c) z (by simp)
  show (a,b)::((b::c++[z]).zip (b::c++[z]).tail)=_
  rw[d]
  show _=(a,b)::((b::c).zip (b::c).tail++[(Mb (a::b::c),z)])
  congr 2
theorem zC{c:List (List Int)}{p:List Int×List Int}(h:p∈c.dropLast.zip c.dropLast.tail):p∈c.zip c.tail:=by
 by_cases a:c=[]
 ·rw[a] at h; cases h
 have e:=Cr a
 by_cases b:c.dropLast=[]
 ·rw[b] at h; cases h
 rw[<- e,bH _ b]
 exact Ah _ h
theorem G8{n:Nat}{c d:List (List Int)}(m:n<50)(h:Chn n c)(hl:c.length<=n+1)(hd:d∈Hj c n):Chn ((n+1:Nat):Int) d:=by
 have l:d.length<=n+2:=by
  unfold Hj at hd
  split at hd
  ·rw[Ac.mp hd,Ar,Cp]; omega
  ·rcases Ai.mp hd with rfl | hd
   ·rw[Ar,Cp]; omega
   ·rw[Ac.mp hd]; unfold dX; rw[Ab,Eu]; omega
 have A:d=c++[Mb c++[(n:Int)]]->Chn ((n+1:Nat):Int) d:=λe=>by
  subst e
  refine ⟨by simp,λw hw=>?_,λp hp=>?_,by omega⟩
  ·rcases Am.mp hw with hw | hw
   ·exact (Og (h.words w hw)).1
   ·rw[Ac.mp hw]; exact (Og (h.words _ (Zw h.ne))).2
  ·rw[bH _ h.ne] at hp
   rcases Am.mp hp with hp | hp
   ·exact h.adj p hp
   ·rw[Ac.mp hp]
    refine ⟨by simp,KZ.mpr λi f=>Ah _ f⟩
 have B:d=dX c n->dX c n≠[]->Chn ((n+1:Nat):Int) d:=λe a=>by
  subst e
  refine ⟨a,λw hw=>?_,λp hp=>?_,by omega⟩
  ·obtain ⟨u,k,rfl⟩:=Cn.mp hw
   exact (Og (h.words u (Gj _ k))).2
  ·unfold dX at hp
   rw[<- List.map_tail,List.zip_map] at hp
   obtain ⟨q,g,rfl⟩:=Cn.mp hp
   obtain ⟨j,b⟩:=h.adj q (zC g)
   exact ⟨by show (q.2++[(n:Int)]).length=(q.1++[(n:Int)]).length+1; simp [j],(kK b).2⟩
 unfold Hj at hd
 split at hd
 ·exact A (Ac.mp hd)
 ·rename_i a
  rcases Ai.mp hd with e | hd
  ·exact A e
  ·exact B (Ac.mp hd) a
theorem cZ:∀{n:Nat},n<50->∀c∈Ho n,Chn n c
 | 0,_,c,a=>by
  rw[Ac.mp a]
  refine ⟨by simp,λw e=>?_,(λp f=>by cases f),by decide⟩
  rw[Ac.mp e]
  exact ⟨Dn,λ_ z=>nomatch z⟩
 | n+1,hn,d,b=>by
  obtain ⟨c,a,b⟩:=Cb.mp b
  exact G8 (by omega) (cZ (by omega) c a) ((Mo n).len c a) b
theorem pE{c:List (List Int)}{n:Int}(a:c≠[]):(Hj c n).flatten.Perm (c++c.map λw=>w++[n]):=by
 have e:c.map (λw=>w++[n])=dX c n++[Mb c++[n]]:=by
  conv=>lhs; rw[<- Cr a]
  rw[Bb]
  unfold dX Mb
  rw[Hg,Dw a]
  rfl
 rw[e]
 unfold Hj
 split
 ·rename_i z
  rw[z]
  simp
 ·simp only[Jd,dU,Dd,Bh]
  exact (Eh).append_left c
theorem gZ(n:Int):∀(C:List (List (List Int))),(∀c∈C,c≠[])->(C.flatMap λc=>Hj c n).flatten.Perm (C.flatten++C.flatten.map λw=>w++[n])
 | [],_=>Gn _
 | c::C,h=>by
  rw[Hb,Jo,Jd,Bb]
  have a:=pE (n:=n) (h c Aa)
  have b:=gZ n C λd e=>h d (Ad _ e)
  refine (a.append b).trans ?_
  rw[Bh,Bh]
  refine Ka c ?_
  rw[<- Bh,<- Bh]
  exact (Eh).append_right _
theorem Sn:∀n,(Ho n).flatten.Perm (Fn n)
 | 0=>Gn _
 | n+1=>by
  have b:=gZ (n:Int) (Ho n) (Mo n).ne
  exact b.trans ((Sn n).append ((Sn n).map _))
def uE:Nat->List Nat
 | 0=>[1]
 | n+1=>(uE n).flatMap λl=>if l=1 then [2] else [l+1,l - 1]
theorem pW{c:List (List Int)}{n:Int}(b:c≠[]):(Hj c n).map Fh=if c.length=1 then [2] else [c.length+1,c.length - 1]:=by
 have d:0<c.length:=Ft.mpr b
 have a:(dX c n).length=c.length - 1:=by unfold dX; rw[Ab,Eu]
 unfold Hj
 by_cases z:dX c n=[]
 ·have : c.length=1:=by rw[z] at a; simp at a; omega
  rw[if_pos z,if_pos this]
  simp [this]
 ·have : c.length≠1:=λq=>z (Hx.mp (by omega))
  rw[if_neg z,if_neg this]
  simp [a]
theorem Yv:∀n,(Ho n).map Fh=uE n
 | 0=>rfl
 | n+1=>by
  show ((Ho n).flatMap λc=>Hj c n).map Fh=(uE n).flatMap _
  rw[<- Yv n,List.map_flatMap,List.flatMap_map]
  have : ∀(C:List (List (List Int))),(∀c∈C,c≠[])->C.flatMap (λc=>(Hj c n).map Fh)=C.flatMap λc=>if c.length=1 then [2] else [c.length+1,c.length - 1]:=by
   intro C
   induction C with
   | nil=>intro _; rfl
   | cons c C a =>
    intro h
    rw[Hb,Hb,pW (h c Aa),a λd b=>h d (Ad _ b)]
  exact this _ (Mo n).ne
theorem nH{n:Nat}(h:n<=10):(Ho n).length=ch n (n / 2):=by
 have a:∀k:Fin 11,(uE k.1).length=ch k.1 (k.1 / 2):=by decide +kernel
 have:=a ⟨n,by omega⟩
 rw[<- Yv,Ab] at this
 exact this
theorem mM:∀{T:List (List (List Int))},(∀c∈T,c.length<=7)->T.flatten.length<=7 * T.length
 | [],_=>by simp
 | c::T,h=>by
  have:=h c Aa
  have:=mM (T:=T) λd a=>h d (Ad _ a)
  rw[Jd,Ar,Bi]
  omega
theorem bX:∀{b a:List Int},a.Pairwise (· < ·)->b.Pairwise (· < ·)->(∀x∈a,x∈b)->a.Sublist b
 | b,[],_,_,_=>Nh _
 | [],x::a,_,_,h=>nomatch h x Aa
 | y::b,x::a,ha,hb,h=>by
  obtain ⟨f,g⟩:=Ay.mp ha
  obtain ⟨j,d⟩:=Ay.mp hb
  by_cases e:x=y
  ·subst e
   refine (bX g d λz c=>?_).cons₂ x
   rcases Ai.mp (h z (Ad _ c)) with q | q
   ·have:=f z c; omega
   ·exact q
  ·have i:x∈b:=(Ai.mp (h x Aa)).resolve_left e
   refine (bX ha d λz c=>?_).cons y
   rcases Ai.mp (h z c) with q | q
   ·have k:=j x i
    rcases Ai.mp c with w | w
    ·omega
    ·have:=f z w; omega
   ·exact q
theorem P1{h k:Nat}{B:List (List Int)}(c:CodeW h B)(hl:∀w∈B,w.length=k):rR B:=λi j a b g r d=>by
 cases q:sub a b with
 | false=>rfl
 | true =>
  have p:=Aq g
  have n:=Aq r
  have s:∀x∈a,x∈b:=KZ.mp (show dW a b=true from q)
  have e:=(bX (c.rise a p).1 (c.rise b n).1 s).eq_of_length (by rw[hl a p,hl b n])
  subst e
  obtain ⟨o,f⟩:=Ak.mp g
  obtain ⟨m,l⟩:=Ak.mp r
  exfalso
  rcases Nat.lt_or_gt_of_ne d with z | z
  ·exact Ew.mp c.nd i j o m z (f.trans l.symm)
  ·exact Ew.mp c.nd j i m o z (l.trans f.symm)
theorem L8{h:Nat}{C:List (List (List Int))}{a:List (List Int)}(k:CodeOk h C a):¬ rR a:=λq=>by
 obtain ⟨c,l,f⟩:=n6 k
 unfold eR at f
 rw[Ab] at f
 match n:c.filter λw=>decide (w∈a),f with
 | x::y::r,_ =>
  have b:(c.filter λw=>decide (w∈a)).Sublist c:=Pd
  have m:=(k.cov.chain c l).sublist b
  have i:=(k.cov.nd c l).sublist b
  have d:∀w∈x::y::r,w∈a:=λw j=>by
   rw[<- n] at j
   simpa using (Pa.mp j).2
  rw[n] at m i
  have o:dW x y=true:=(Ay.mp m).1 y Aa
  have p:x≠y:=λz=>(Bp.mp i).1 (by rw[z]; exact Aa)
  have e:=Te (d x Aa)
  have g:=Te (d y (Ad _ Aa))
  have:=q _ _ x y e g λz=>by
   rw[z,g] at e
   exact p (Bl e).symm
  rw[show sub x y=true from o] at this
  cases this
structure ThOk(m:Nat)(T:List (List (List Int))):Prop where
 wds:∀c∈T,Wds m c
 flat:T.flatten.length<=1100
 cov:T.flatten.length=2 ^ m->CovW m T
theorem tW{m:Nat}{T:List (List (List Int))}(b:m<=6)(h:Cov m T):∀c∈T,Wds m c:=λc a=>⟨h.ne c a,h.words c a,by have:=h.len c a; omega⟩
theorem kE{m:Nat}{T:List (List (List Int))}(a:m<=6)(h:Cov m T)(l:T.length<=130):ThOk m T:=by
 refine ⟨tW a h,?_,λ_=>⟨h,by omega,by omega⟩⟩
 have:=mM (T:=T) λc b=>by have:=h.len c b; omega
 omega
theorem u6{m:Nat}{T e:List (List (List Int))}(h:Cov m T)(s:∀c∈e,c∈T):Cov m (T++e):=by
 have b:∀c∈T++e,c∈T:=λc a=>by
  rcases Am.mp a with z | z
  ·exact z
  ·exact s c z
 exact ⟨λw f=>by obtain ⟨c,a,d⟩:=h.cover w f; exact ⟨c,Ah _ a,d⟩,λc a=>h.chain c (b c a),λc a=>h.words c (b c a),λc a=>h.ne c (b c a),λc a=>h.len c (b c a),λc a=>h.nd c (b c a)⟩
theorem wH{C:List (List (List Int))}{a:Nat}(b:a<C.length)(d:∀c∈C,c≠[]):(C.take a++C.drop (a+1)).flatten.length<C.flatten.length:=by
 conv=>rhs; rw[<- Dv a C,Ja b]
 have:=Ft.mpr (d C[a] (Ni b))
 rw[Jo,Jo,Jd,Ar,Ar,Ar]
 omega
theorem uJ{h m:Nat}(c:m<=6)(b:h<=m):ch h (h / 2)<=ch m (m / 2):=by
 have a:∀(p:Fin 7) (q:Fin 7),q.1<=p.1->ch q.1 (q.1 / 2)<=ch p.1 (p.1 / 2):=by decide +kernel
 exact a ⟨m,by omega⟩ ⟨h,by omega⟩ b
theorem C7{m:Nat}(a:m<=6):ch m (m / 2)<=20:=uJ (m:=6) (by omega) a
theorem rV(c:List (List Int)):Uw (Cm c)=true:=by
 unfold Cm
 rw[Uw,Xk λw _=>?_]
 ·cases c with
  | nil=>rfl
  | cons w c=>rfl
 ·unfold Bt
  rw[Uw]
  exact Xk λi _=>rfl
theorem Sd(C:List (List (List Int))):Uw (Ej C)=true:=by
 unfold Ej
 rw[Uw,Xk λw _=>rV w]
 cases C with
 | nil=>rfl
 | cons w c=>rfl
section
variable{P:Bq}{w:World}{K:PySem.W.Frag}{mg:Str->Option Value}{base:Heap}
theorem DM:FnScope ["_law_script", "_law_cell", "_law_draws_here", "_law_holes", "_law_made_here", "_law_at", "_law_things", "_law_code", "_law_some", "_law_codes_here", "_law_thing"] ["_law_script"] (Bv Zl):=⟨rfl,rfl,rfl,by decide +kernel,rfl,by decide +kernel,by decide +kernel⟩
theorem EM{f h6 r k9 o Y h0 Z J X V  : Addr}{fd q5 M x4 u h7 k0 h9 h3 h5 h4:Cj}(F:Fun K "law" "law" Zl f fd)(q2:FnOk P w K mg base Ig 2 h6 q5 ["code"] (Oe K (kG)))(q7:Binds K q5 ["code"] [])(q9:PySem.W.keepIn K (.ref h6)=true)(q1:mg "plain" = some (.ref h6))(N:FnOk P w K mg base Ig 4 r M ["holes", "thing"] (Oe K (vA)))(U:Binds K M ["holes", "thing"] [])(O:PySem.W.keepIn K (.ref r)=true)(R:mg "shows_most" = some (.ref r))(y6:FnOk P w K mg base Ig 4 k9 x4 ["holes"] (Oe K (x6)))(y9:Binds K x4 ["holes"] [])(y8:PySem.W.keepIn K (.ref k9)=true)(y7:mg "most" = some (.ref k9))(x:FnOk P w K mg base Ig 2 o u ["values"] (Oe K (W9)))(v:Binds K u ["values"] [])(G:PySem.W.keepIn K (.ref o)=true)(I:mg "fewest_holes" = some (.ref o))(x3:FnOk P w K mg base Ig 1 Y h7 ["_law_cell"] (Vq))(x2:Binds K h7 ["_law_cell"] [])(j2:PySem.W.keepIn K (.ref Y)=true)(j3:mg "_law_draws" = some (.ref Y))(k8:FnOk P w K mg base Ig 1 h0 k0 ["_law_draws_here"] (W3 K Xy))(h8:Binds K k0 ["_law_draws_here"] [])(k7:PySem.W.keepIn K (.ref h0)=true)(k6:mg "_law_next" = some (.ref h0))(y0:FnOk P w K mg base Ig 2 Z h9 ["_law_draws_here", "_law_holes"] (jF K (A5)))(x8:Binds K h9 ["_law_draws_here", "_law_holes"] [])(x7:PySem.W.keepIn K (.ref Z)=true)(x9:mg "_law_made" = some (.ref Z))(q4:FnOk P w K mg base Ig 2 J h3 ["_law_draws_here", "_law_made_here"] (jF K (oP)))(j0:Binds K h3 ["_law_draws_here", "_law_made_here"] [])(q6:PySem.W.keepIn K (.ref J)=true)(q8:mg "_law_parted" = some (.ref J))(j5:FnOk P w K mg base Ig 4 X h5 ["_law_draws_here", "_law_holes"] (jF K (tL)))(j9:Binds K h5 ["_law_draws_here", "_law_holes"] [])(x0:PySem.W.keepIn K (.ref X)=true)(j8:mg "_law_codes" = some (.ref X))(j6:FnOk P w K mg base Ig 3 V h4 ["_law_code", "_law_some"] (Oe K (uF)))(j1:Binds K h4 ["_law_code", "_law_some"] [])(j4:PySem.W.keepIn K (.ref V)=true)(x1:mg "_law_right" = some (.ref V))(t:mg "len" = none):FnOk P w K mg base Ig 5 f fd ["_law_script"] (spLawD K):=by
 refine' BZ (k:=4) F DM (λz0 A j7 s H E hr=>?hb) ?h
 case hb =>
  have z2:Room 1 _:=hr.mono (by decide)
  have y1:Room 2 _:=hr.mono (by decide)
  have w0:Room 3 _:=hr.mono (by decide)
  have y5:Room 4 _:=hr.mono (by decide)
  have q3:=hr.units
  have v0:∀{p:Scope} (h:p={ kind:=.function,names:=[(".0",.local),("_law_one",.local)],isGenerator:=false,isCoroutine:=false }),
    CompScope (Mz Ig P w K mg base ["_law_script", "_law_cell", "_law_draws_here", "_law_holes", "_law_made_here", "_law_at", "_law_things", "_law_code", "_law_some", "_law_codes_here", "_law_thing"] "law" (Bv Zl) f z0 A j7 s H E).nox p [] "_law_one" [] []:=by
   rintro p rfl
   exact Nd.compScope0 (by rfl) (by decide +kernel) (by rfl) (by decide +kernel) (by rfl) (by rfl)
  have z7:∀{p:Scope} (h:p={ kind:=.function,names:=[(".0",.local),("_law_one",.local),("_law_right",.globalImplicit),("_law_thing",.free)],isGenerator:=false,isCoroutine:=false }),
    CompScope (Mz Ig P w K mg base ["_law_script", "_law_cell", "_law_draws_here", "_law_holes", "_law_made_here", "_law_at", "_law_things", "_law_code", "_law_some", "_law_codes_here", "_law_thing"] "law" (Bv Zl) f z0 A j7 s H E).nox p [("_law_thing",s.heap.objs.size+2)] "_law_one" ["_law_thing"] [10]:=by
   rintro p rfl
   refine ⟨by rfl,.inl (by decide +kernel),by rfl,by decide +kernel,.inl rfl,λy c h=>?_,by rfl,by decide +kernel,rfl,λk y j e1 e2=>?_⟩
   ·have z:=Ez h
    simp only[Ai,Bf,or_false,Fm] at z
    obtain ⟨rfl,rfl⟩:=z; rfl
   ·match k,e1,e2 with
    | 0,e1,e2=>cases e1; cases e2; exact ⟨rfl,rfl,by first | exact .inl rfl | exact .inr rfl⟩
    | k+1,e1,e2=>cases e1
  have z5:∀{p:Scope} (h:p={ kind:=.function,names:=[(".0",.local),("_law_one",.local),("plain",.globalImplicit),("len",.globalImplicit),("_law_code",.free)],isGenerator:=false,isCoroutine:=false }),
    CompScope (Mz Ig P w K mg base ["_law_script", "_law_cell", "_law_draws_here", "_law_holes", "_law_made_here", "_law_at", "_law_things", "_law_code", "_law_some", "_law_codes_here", "_law_thing"] "law" (Bv Zl) f z0 A j7 s H E).nox p [("_law_code",s.heap.objs.size+1)] "_law_one" ["_law_code"] [7]:=by
   rintro p rfl
   refine ⟨by rfl,.inl (by decide +kernel),by rfl,by decide +kernel,.inl rfl,λy c h=>?_,by rfl,by decide +kernel,rfl,λk y j e1 e2=>?_⟩
   ·have z:=Ez h
    simp only[Ai,Bf,or_false,Fm] at z
    obtain ⟨rfl,rfl⟩:=z; rfl
   ·match k,e1,e2 with
    | 0,e1,e2=>cases e1; cases e2; exact ⟨rfl,rfl,by first | exact .inl rfl | exact .inr rfl⟩
    | k+1,e1,e2=>cases e1
  exact Cc (Kh Cs rfl (kY (qW (zX (pv 0) Km (Jj Dx)) (Ib (Ao Dx Ba)))) (Gc (i:=1) DM.nd rfl (Dc rfl))
   (Cc (Hr (i:=2) DM.nd rfl (Dc rfl) (n8 x3 z2 rfl j3 j2 x2 Gf (Ao (Ap (pv 1)) Ba)))
    (Cc (Hr (i:=3) DM.nd rfl (Dc rfl) (Mg Dx (Rk (Mw k8 z2 rfl k6 k7 h8 Gf (pv 2) Ba) Dx)))
    (Cc (Hr (i:=4) DM.nd rfl (Dc rfl) (Xu y0 y1 rfl x9 x7 x8 Gf (pv 2) (Ao (Ap (pv 3)) Ba)))
    (Cc (Hr (i:=5) DM.nd rfl (Dc rfl) (Rk (Mw k8 z2 rfl k6 k7 h8 Gf (pv 2) Ba) (Du Fs Io rfl t (by decide +kernel) (Ao (Ap (pv 4)) Ba))))
    (Cc (Hr (i:=6) DM.nd rfl (Dc rfl) (Ib (Ao (Ap (pv 4)) (Ao (Xu q4 y1 rfl q8 q6 j0 Gf (pv 2) (Ao (Ap (pv 4)) Ba)) (Ao (Vr (Kn (i:=false) (Ap (pv 4)) Km (Jj (Ap (pv 5)))) (Kn (i:=false) (Ap (pv 4)) (Jj (Mg (Ap (pv 5)) Dx)) Km)) (Ao (Vr (Ap (pv 4)) (Kn (i:=false) (Ap (pv 4)) (Jj (Ap (pv 5))) (Jj (Mg (Ap (pv 5)) Dx)))) Ba))))))
    (Cc (zN (Fp y6 y5 rfl y7 y8 y9 Gf (Ao (Ap (pv 3)) Ba)) (aY (n:=2) rfl (Lm (Gc (i:=7) DM.nd rfl (Uc rfl)) (Lm (Gc (i:=8) DM.nd rfl (Dc rfl)) Wj))))
    (Cc (Hr (i:=9) DM.nd rfl (Dc rfl) (Vr (Vt (v0 rfl) rfl (kY (Xu j5 y5 rfl j8 x0 j9 Gf (pv 2) (Ao (Ap (pv 3)) Ba))) (λ_ _ _=>Mf) (λ_ _ _=>Kn (i:=true) (Ap (pv 0)) Km (Jj Dx))) (Ib (Ao (Ap (pv 7)) Ba))))
    (Cc (Kh Cs rfl (kY (Vr (Ap (pv 6)) (Ib (Ao (Ap (pv 8)) Ba)))) (Gc (i:=10) DM.nd rfl (Uc rfl))
    (Cy (Lz (CA (Fp N y5 rfl R O U Gf (Ao (Ap (pv 3)) (Ao (Ap (pv 10)) Ba))) Mv)
     (Cy (Lz (gV q3 (Vt (z7 rfl) rfl (kY (Ap (pv 9))) (λ_ _ _=>Tf (Se (Ov (Fp j6 w0 rfl x1 j4 j1 Gf (Ao (Ap (pv 0)) (Ao (Ap (pv 1)) Ba)))))) (λ_ _ _=>Ap (pv 0))) (Ib Ba))
      (Cy (Fo Mv)) Jr)) Jr)))
    (Cc (Lz (gV q3 (Vt (z5 rfl) rfl (kY (Ap (pv 9))) (λ_ _ _=>Tf (eZ (qX (sS q3 (Fp q2 y1 rfl q1 q9 q7 Gf (Ao (Ap (pv 0)) Ba)) (Mn (Ao aU Ba))) (jP (mL (Du Fs Io rfl t (by decide +kernel) (Ao (Ap (pv 0)) Ba)) (Du Fs Io rfl t (by decide +kernel) (Ao (Ap (pv 1)) Ba))))))) (λ_ _ _=>Ap (pv 0))) (Ib Ba))
    (Cy (Fo Mv)) Jr)
    (Cc (Lz (eZ (Vz (gV q3 (Fp q2 y1 rfl q1 q9 q7 Gf (Ao (Ap (pv 7)) Ba)) (Mn (Ao aU Ba))) (Vz (gV q3 (Du Fs Io rfl t (by decide +kernel) (Ao (Ap (pv 7)) Ba)) (Du Fs Io rfl t (by decide +kernel) (Ao (Ap (pv 8)) Ba))) (Uz (M5 (Fp N y5 rfl R O U Gf (Ao (Ap (pv 3)) (Ao (Ap (pv 8)) Ba))) Mv)))))
    (Cy (Fo Mv)) Jr)
    (Cy (Lz (eZ (Vz (mL (Fp x y1 rfl I G v Gf (Ao (Du Fs Io rfl t (by decide +kernel) (Ao (Ap (pv 7)) Ba)) Ba)) (Ap (pv 3))) (Uz (X8 (Fp x y1 rfl I G v Gf (Ao (Mg (Du Fs Io rfl t (by decide +kernel) (Ao (Ap (pv 7)) Ba)) Dx) Ba)) (Ap (pv 3))))))
    (Cy (Fo Mv)) Jr)))))))))))))
   (Cy (Fo Mv))
 case h =>
  intro ns w6
  array_get_dec
  have lc:(Ki ns none (some 3)).length<=3:=GC 3
  refine ⟨by rw[Ab]; omega,?_⟩
  refine Sr (l:=Ki ns none (some 3)++[0]) (g:=Bo) (by rw[Bb]; rfl) (λi δ=>∃(v1 v2 v3 v4 v5 v6 v7 v8 v9 q0:DV) (n':Nat),δ=⟨[.scr ns,v1,v2,v3,v4,v5,v6,v7,v8,v9,q0],n'⟩/\NP v1/\NP v2/\NP v3/\NP v4/\NP v5/\NP v6/\NP v7/\NP v8/\NP v9/\NP q0/\n'<=10000 * i) ?_ ?_ ?_
  ·exact ⟨_,_,_,_,_,_,_,_,_,_,_,rfl,Hk,Hk,Hk,Hk,Hk,Hk,Hk,Hk,Hk,Hk,by omega⟩
  ·(intro i c _ hc q_; obtain ⟨v1,v2,v3,v4,v5,v6,v7,v8,v9,q0,n0,rfl,w3,w1,a0,y4,y2,y3,w4,w7,w2,x5,hn⟩ := q_)
   have hi:i<4:=by
    have:=(Ak.mp hc).1
    rw[Ar,Cp] at this
    omega
   array_get_dec
   refine ⟨rfl,by omega,λr1=>?_⟩
   array_get_dec
   have b6:=Sg r1 (b:=6) (by decide)
   obtain ⟨m,em,m1,m6⟩ : ∃m:Nat,1+r1 % 6=(m:Int)/\1<=m/\m<=6:=⟨(1+r1 % 6).toNat,by omega,by omega,by omega⟩
   rw[em]
   have w5:2 ^ m<=2 ^ 6:=Gm (by decide) m6
   refine ⟨m,rfl,by omega,by omega,by omega,λC n1 g1 g2 cv cl cf=>⟨Sd _,?_⟩⟩
   rw[Ds] at cv cl cf
   have l0:0<C.length:=by
    cases C with
    | nil=>simp at cf; have : 0<2 ^ m:=Nat.pow_pos (by decide); omega
    | cons _ _=>simp
   array_get_dec
   refine ⟨rfl,by omega,λr2=>?_⟩
   unfold Ej
   array_get_dec
   rw[Ab]
   have bl:=Sg r2 (b:=(C.length:Int)) (by omega)
   refine ⟨by omega,?_⟩
   refine ⟨m,C,rfl,by omega,cv,by omega,by omega,λD n2 g3 g4 z9 w9=>⟨Sd _,?_⟩⟩
   array_get_dec
   obtain ⟨a,ea,la⟩ : ∃a:Nat,r2 % (C.length:Int)=(a:Int)/\a<C.length:=⟨(r2 % (C.length:Int)).toNat,by omega,by omega⟩
   rw[ea]
   have k1:Ki (C.map Cm) none (some (a:Int))=(C.take a).map Cm:=by
    rw[(iJ (xs:=C.map Cm) (k:=(a:Int)) (by omega) (by rw[Ab]; omega)).1,Ds,Np]
   have k2:Ki (C.map Cm) (some ((a:Int)+1)) none=(C.drop (a+1)).map Cm:=by
    rw[(iJ (xs:=C.map Cm) (k:=(a:Int)+1) (by omega) (by rw[Ab]; omega)).2,show ((a:Int)+1).toNat=a+1 by omega,Xd]
   have k3:∃e:List (List (List Int)),Ki (C.map Cm) (some (a:Int)) (some ((a:Int)+1))=e.map Cm/\e.Sublist C/\e.length<=C.length:=⟨_,bV Cm C _ _,Sw _ _ _,(Sw _ _ _).length_le⟩
   obtain ⟨e,k3,se,le⟩:=k3
   rw[k1,k2,k3,<- Bb,<- Bb]
   refine ⟨by simp; omega,by rw[Ab]; omega,?_⟩
   refine ⟨m,rfl,by omega,by omega,?_⟩
   rw[Ds,show ((m:Int) / 2).toNat=m / 2 by omega]
   have cB:CodeW m (cw m 0 (m / 2)):=cw_code m6
   have lB:=cw_len m 0 (m / 2)
   have wB:∀ w∈cw m 0 (m / 2),w.length=m / 2:=fun w hw=>(cw_mem.mp hw).1
   generalize cw m 0 (m / 2)=B at cB lB wB
   obtain ⟨S,eS⟩ : ∃S,Ho m=S:=⟨_,rfl⟩
   have cS:Cov m S:=by rw[<- eS]; exact Mo m
   have lS:S.length<=2 ^ m:=by rw[<- eS]; exact Vf m
   rw[eS]
   array_get_dec
   refine ⟨m,rfl,by omega,by omega,by omega,λL n3 g5 g6 lL cL=>⟨Sd _,?_⟩⟩
   rw[Ds] at cL
   unfold Ej
   array_get_dec
   refine pD (l:=L) (g:=Cm) rfl (λc=>Cm (c.take 40)) (λc hc z4 no hy=>?_) ?_
   ·unfold Cm
    array_get_dec
    rw[show Ki (c.map Bt) none (some 40)=(c.map Bt).take 40 from gT _ 40,<- Np]
    exact hy
   obtain ⟨Q,eQ,cQ⟩ : ∃Q:List (List (List Int)),(L.map λc=>Cm (c.take 40))++[Ub (B.map Bt)]=Q.map Cm/\∀c∈Q,CodeW m c:=by
    refine ⟨L.map (λc=>c.take 40)++[B],by rw[Bb,Dj]; rfl,λc hc=>?_⟩
    rcases Am.mp hc with hc | hc
    ·obtain ⟨d,hd,rfl⟩:=Cn.mp hc
     have k:=cL d hd
     have s:=Gx 40 d
     exact ⟨k.nd.sublist s,λw hw=>k.rise w (s.subset hw),by have:=k.len; have:=s.length_le; omega⟩
    ·rw[Ac.mp hc]
     exact cB
   array_get_dec
   refine ⟨by rw[Ab]; omega,?_⟩
   rw[eQ]
   have z1:=kE m6 cS (by omega)
   have z3:∀T∈[C,D,C.take a++C.drop (a+1),C++e,S],ThOk m T:=λT hT=>by
    rcases Ai.mp hT with rfl | hT
    ·exact kE m6 cv (by omega)
    rcases Ai.mp hT with rfl | hT
    ·exact kE m6 z9 (by omega)
    rcases Ai.mp hT with rfl | hT
    ·have lt:=wH la cv.ne
     refine ⟨λc hc=>tW m6 cv c ?_,by omega,λz=>absurd z (by omega)⟩
     rcases Am.mp hc with hc | hc
     ·exact Vi hc
     ·exact Vj hc
    rcases Ai.mp hT with rfl | hT
    ·exact kE m6 (u6 cv λc hc=>se.subset hc) (by rw[Ar]; omega)
    rw[Ac.mp hT]
    exact z1
   refine Sr (l:=[C,D,C.take a++C.drop (a+1),C++e,S]) (g:=Ej) rfl (λ_ δ=>∃v4 v5 v6 q0:DV,δ=⟨[.scr ns,.dat .sh (.int c),.drw,.dat .sh (.int m),v4,v5,v6,.dat .sh (.list (B.map Bt)),.dat .sh (.list (S.map Cm)),.dat .sh (.list (Q.map Cm)),q0],n3⟩/\NP v4/\NP v5/\NP v6/\NP q0) ?_ ?_ ?_
   ·exact ⟨_,_,_,_,rfl,Gs,Gs,Gs,x5⟩
   ·(intro j T _ hT q_; obtain ⟨v4,v5,v6,q0,rfl,y4,y2,y3,x5⟩ := q_)
    have tk:=z3 T (Aq hT)
    array_get_dec
    refine ⟨m,T,rfl,by omega,by omega,tk.wds,tk.flat,λb hb _=>?_⟩
    rw[Ds] at hb
    array_get_dec
    refine Pk (λq=>?_) (λ_=>?_)
    ·have bt:b=true:=by simpa using q
     have ck:=tk.cov (hb bt)
     array_get_dec
     refine pT (l:=Q) (g:=Cm) rfl (λ_=>false) Cm (λd hd z4 no hy hn=>?_) ?_
     ·array_get_dec
      refine ⟨m,T,d,rfl,ck,cQ d hd,?_⟩
      array_get_dec
      exact hn rfl
     rw[show Q.filter (λ_=>false)=[] by simp]
     array_get_dec
     exact ⟨_,_,_,_,rfl,y4,y2,y3,Gs⟩
    ·array_get_dec
     exact ⟨_,_,_,_,rfl,y4,y2,y3,Gs⟩
   ·(intro _ q_; obtain ⟨v4,v5,v6,q0,rfl,y4,y2,y3,x5⟩ := q_)
    array_get_dec
    have z6:S.length=B.length:=by rw[<- eS,nH (by omega),lB]
    have w8:=C7 m6
    refine pT (l:=Q) (g:=Cm) rfl (λ_=>false) Cm (λd hd z4 no hy hn=>?_) ?_
    ·have cd:=cQ d hd
     have dl:=cd.len
     unfold Cm
     array_get_dec
     refine ⟨d,rfl,by omega,λi' j' a' b' _ _ _ _=>?_,λnn=>?_⟩
     ·array_get_dec
      exact hn rfl
     ·have le:d.length<=S.length:=eJ λz=>L8 (C:=S) ⟨cS,cd.nd,cd.rise,z,by omega,by omega,by omega⟩ nn
      array_get_dec
      rw[decide_eq_false (by rw[Ab,Ab]; omega)]
      exact hn rfl
    rw[show Q.filter (λ_=>false)=[] by simp]
    array_get_dec
    refine ⟨B,rfl,by omega,λi' j' a' b' ha hb z8 hs=>absurd (P1 cB wB i' j' a' b' ha hb z8) (by rw[hs]; simp),λ_=>?_⟩
    array_get_dec
    refine fS (λq=>?_) (λ_=>?_)
    ·rw[Ab,Ab,z6] at q
     simp at q
    array_get_dec
    have pS:S.flatten.Perm (Fn m):=by rw[<- eS]; exact Sn m
    refine ⟨m,S,rfl,by omega,by omega,z1.wds,z1.flat,λb _ hb=>?_⟩
    obtain rfl:b=true:=hb (λc hc=>(cZ (n:=m) (by omega) c (by rw[eS]; exact hc)).adj) (pS.nodup_iff.mpr (Nu m)) (by rw[Ds,pS.length_eq,Ou])
    array_get_dec
    refine Pk (λq=>absurd q (by decide)) (λ_=>?_)
    array_get_dec
    rw[Ab]
    refine ⟨(B.length:Int),m,rfl,m1,by omega,by rw[lB]; omega,λh1 k1 k2 _ _=>?_⟩
    array_get_dec
    refine fS (λq=>absurd (of_decide_eq_true q) (by omega)) (λ_=>?_)
    array_get_dec
    rw[Ab]
    refine ⟨(B.length:Int)+1,7,rfl,by omega,by omega,?_,λh2 k3 k4 k5 _=>?_⟩
    ·rw[lB,show ch 7 (7 / 2)=35 from rfl]
     omega
    array_get_dec
    refine Pk (λq=>?_) (λ_=>?_)
    ·have q:=of_decide_eq_true q
     have:=uJ (h:=h2) m6 (by omega)
     exact absurd k5 (by omega)
    ·array_get_dec
     exact ⟨_,_,_,_,_,_,_,_,_,_,_,rfl,Gs,EZ,Gs,y4,y2,y3,Gs,Gs,Gs,x5,by omega⟩
  ·(intro _ q_; obtain ⟨v1,v2,v3,v4,v5,v6,v7,v8,v9,q0,n0,rfl,_⟩ := q_)
   array_get_dec
end
structure Def(K:PySem.W.Frag)(x:Str)(st:Stmt)(f:Addr)(fd:Cj):Prop where
 nm:PySem.W.nsIn K Cq x=some (some (.ref f))
 fn:Fun K x x st f fd
theorem def_mk{K:PySem.W.Frag}{x:Str}{st:Stmt}{f:Addr}{j d:Option Addr}{i:Array (Option Value)}{h kV e g b ct:Value}(a:PySem.W.nsIn K Cq x=some (some (.ref f)))(l:K.lookup f=some ⟨h,j,.func (PySem.W.fnOf x x (Ph st) (Le st) (Bv st) .none kV e g d b ct),i⟩)(c:PySem.W.codeIn K b x=true)(k:PySem.W.keepIn K (.ref f)=true):Def K x st f (PySem.W.fnOf x x (Ph st) (Le st) (Bv st) .none kV e g d b ct):=⟨a,E5 l c k⟩
theorem MW{P:List Value->Prop}(h:P []):∀us:List Value,us.length=0->P us
 | [],_=>h
theorem JH{P:List Value->Prop}{n:Nat}(h:∀a (us:List Value),us.length=n->P (a::us)):∀us:List Value,us.length=n+1->P us
 | a::us,e=>h a us (Nat.succ.inj e)
theorem T4{P:List Value->Prop}(h:∀b,P [b]):∀us:List Value,us.length=1->P us:=JH λa us e=>MW (P:=λus=>P (a::us)) (h a) us e
theorem uN{P:List Value->Prop}(h:∀b a1,P [b,a1]):∀us:List Value,us.length=2->P us:=JH λa us e=>T4 (P:=λus=>P (a::us)) (h a) us e
theorem MJ{P:List Value->Prop}(h:∀b a1 a2,P [b,a1,a2]):∀us:List Value,us.length=3->P us:=JH λa us e=>uN (P:=λus=>P (a::us)) (h a) us e
theorem all_mk{l:PySem.W.OpenLaw}{q:Bq}{w:World}{K:PySem.W.Frag}{h:Heap}{mg:Str->Option Value}{fa f1 f2 f3 f4 f5 f6 f7 f8 f9 q0 v5 v7 V x7 x9 q7 x1 j3 h9 q1 q5 k1 z:Addr}{d1 d2 d3 d4 d5 d6 d7 d8 d9 j7 x0 q6 h2 x5 h0 x3 h8 j0 w0 v8 k2 x4:Cj}(X:K.In h)(G:h.Ns Cq mg)(k3:mg "law" = some (.ref fa)){od an:Option Addr}{sl:Array (Option Value)}{oc kV dc pm cd ct:Value}(Q:Def K "_law_draws" jU f1 d1)(D2:Def K "_law_next" uB f2 d2)(A:Def K "choose" dH f3 d3)(R:Def K "word_at" Xw f4 d4)(L:Def K "words_of" Rh f5 d5)(F:Def K "within" Vy f6 d6)(C:Def K "plain" jX f7 d7)(N:Def K "fewest_holes" Os f8 d8)(U:Def K "grown" Zx f9 d9)(o:Def K "chains" Wh q0 j7)(t:Def K "most" qL v5 x0)(f:Def K "is_whole" Ut v7 q6)(u:Def K "is_word" Yk V h2)(i:Def K "is_chain" Va x7 x5)(j:Def K "shows_most" Rc x9 h0)(y:Def K "two_in" Qr q7 x3)(p:Def K "_law_made" Mx x1 h8)(r:Def K "_law_parted" Qa j3 j0)(c:Def K "_law_within" Mt h9 w0)(m:Def K "_law_all" Ot q1 v8)(g:Def K "_law_codes" Lc q5 k2)(d:Def K "_law_right" Ra k1 x4)(aL:PySem.W.nsIn K Cq "law" = some (some (.ref z)))(lL:K.lookup z=some ⟨oc,od,.func (PySem.W.fnOf "law" "law" (Ph Zl) (Le Zl) (Bv Zl) .none kV dc pm an cd ct),sl⟩)(cL:PySem.W.codeIn K cd "law" = true)(kL:PySem.W.keepIn K (.ref z)=true)(z1:PySem.W.nsIn K Cq "min" = some none)(z2:PySem.W.nsIn K Cq "range" = some none)(z3:PySem.W.nsIn K Cq "len" = some none)(z4:PySem.W.nsIn K Cq "all" = some none)(z5:PySem.W.nsIn K Cq "enumerate" = some none)(z6:PySem.W.nsIn K Cq "bool" = some none)(z7:PySem.W.nsIn K Cq "isinstance" = some none)(z8:PySem.W.nsIn K Cq "int" = some none)(z9:PySem.W.nsIn K Cq "tuple" = some none)(z10:PySem.W.nsIn K Cq "list" = some none)(z11:PySem.W.nsIn K Cq "zip" = some none)(z12:PySem.W.nsIn K Cq "set" = some none)(z13:PySem.W.nsIn K Cq "max" = some none)(z14:PySem.W.nsIn K Cq "sorted" = some none)(tz_often:PySem.W.nsIn K Cq "often" = some none)(tz_cut_by:PySem.W.nsIn K Cq "cut_by" = some none):jK q K/\∃fd:Cj,(∀(s:Al) (v:Value),BindsTo s fd ⟨[v],[]⟩ [("_law_script",v)])/\∀base:Heap,K.In base->base.Ns Cq mg->FnOk l.prog w K mg base Ig 5 fa fd ["_law_script"] (DL.spLawD K):=by
 have e:=k3.symm.trans (PySem.W.mg_of X G aL)
 cases e
 have FL:=E5 (st:=Zl) lL cL kL
 have b1:=Q.fn.binds (ps:=["_law_cell"]) λ_ _ _ _ _ _=>T4 (λ_=>rfl)
 have O:=D2.fn.binds (ps:=["_law_draws_here"]) λ_ _ _ _ _ _=>T4 (λ_=>rfl)
 have b3:=A.fn.binds (ps:=["n", "k"]) λ_ _ _ _ _ _=>uN (λ_ _=>rfl)
 have b4:=R.fn.binds (ps:=["holes", "many", "number"]) λ_ _ _ _ _ _=>MJ (λ_ _ _=>rfl)
 have b5:=L.fn.binds (ps:=["holes", "many"]) λ_ _ _ _ _ _=>uN (λ_ _=>rfl)
 have b6:=F.fn.binds (ps:=["one", "other"]) λ_ _ _ _ _ _=>uN (λ_ _=>rfl)
 have b7:=C.fn.binds (ps:=["code"]) λ_ _ _ _ _ _=>T4 (λ_=>rfl)
 have b8:=N.fn.binds (ps:=["values"]) λ_ _ _ _ _ _=>T4 (λ_=>rfl)
 have b9:=U.fn.binds (ps:=["chain", "place"]) λ_ _ _ _ _ _=>uN (λ_ _=>rfl)
 have k9:=o.fn.binds (ps:=["holes"]) λ_ _ _ _ _ _=>T4 (λ_=>rfl)
 have y0:=t.fn.binds (ps:=["holes"]) λ_ _ _ _ _ _=>T4 (λ_=>rfl)
 have x6:=f.fn.binds (ps:=["thing"]) λ_ _ _ _ _ _=>T4 (λ_=>rfl)
 have k5:=u.fn.binds (ps:=["holes", "thing"]) λ_ _ _ _ _ _=>uN (λ_ _=>rfl)
 have h5:=i.fn.binds (ps:=["holes", "thing"]) λ_ _ _ _ _ _=>uN (λ_ _=>rfl)
 have k6:=j.fn.binds (ps:=["holes", "thing"]) λ_ _ _ _ _ _=>uN (λ_ _=>rfl)
 have v3:=y.fn.binds (ps:=["code", "some"]) λ_ _ _ _ _ _=>uN (λ_ _=>rfl)
 have v1:=p.fn.binds (ps:=["_law_draws_here", "_law_holes"]) λ_ _ _ _ _ _=>uN (λ_ _=>rfl)
 have Z:=r.fn.binds (ps:=["_law_draws_here", "_law_made_here"]) λ_ _ _ _ _ _=>uN (λ_ _=>rfl)
 have J:=c.fn.binds (ps:=["_law_one", "_law_other"]) λ_ _ _ _ _ _=>uN (λ_ _=>rfl)
 have Y:=m.fn.binds (ps:=["_law_holes"]) λ_ _ _ _ _ _=>T4 (λ_=>rfl)
 have q2:=g.fn.binds (ps:=["_law_draws_here", "_law_holes"]) λ_ _ _ _ _ _=>uN (λ_ _=>rfl)
 have j9:=d.fn.binds (ps:=["_law_code", "_law_some"]) λ_ _ _ _ _ _=>uN (λ_ _=>rfl)
 have m1:=PySem.W.mg_of X G Q.nm
 have S:=PySem.W.mg_of X G D2.nm
 have m3:=PySem.W.mg_of X G A.nm
 have m4:=PySem.W.mg_of X G R.nm
 have m5:=PySem.W.mg_of X G L.nm
 have m6:=PySem.W.mg_of X G F.nm
 have m7:=PySem.W.mg_of X G C.nm
 have m8:=PySem.W.mg_of X G N.nm
 have m9:=PySem.W.mg_of X G U.nm
 have q9:=PySem.W.mg_of X G o.nm
 have k8:=PySem.W.mg_of X G t.nm
 have h6:=PySem.W.mg_of X G f.nm
 have v6:=PySem.W.mg_of X G u.nm
 have q4:=PySem.W.mg_of X G i.nm
 have j5:=PySem.W.mg_of X G j.nm
 have v4:=PySem.W.mg_of X G y.nm
 have x8:=PySem.W.mg_of X G p.nm
 have j1:=PySem.W.mg_of X G r.nm
 have D:=PySem.W.mg_of X G c.nm
 have j2:=PySem.W.mg_of X G m.nm
 have h1:=PySem.W.mg_of X G g.nm
 have q8:=PySem.W.mg_of X G d.nm
 have y1:=PySem.W.mg_none_of X G z1
 have B:=PySem.W.mg_none_of X G z2
 have x:=PySem.W.mg_none_of X G z3
 have y4:=PySem.W.mg_none_of X G z4
 have y5:=PySem.W.mg_none_of X G z5
 have y6:=PySem.W.mg_none_of X G z6
 have T:=PySem.W.mg_none_of X G z7
 have y8:=PySem.W.mg_none_of X G z8
 have y9:=PySem.W.mg_none_of X G z9
 have E:=PySem.W.mg_none_of X G z10
 have j6:=PySem.W.mg_none_of X G z11
 have h7:=PySem.W.mg_none_of X G z12
 have j4:=PySem.W.mg_none_of X G z13
 have I:=PySem.W.mg_none_of X G z14
 have b:=DL.tab_no tz_often
 have a:=DL.tab_no tz_cut_by
 refine ⟨vV b a,PySem.W.fnOf "law" "law" (Ph Zl) (Le Zl) (Bv Zl) .none kV dc pm an cd ct,λs v=>.of_eq rfl,λbase _ _=>?_⟩
 have g1:=wG (P:=l.prog) (w:=w) (mg:=mg) (base:=base) Q.fn
 have M:=r6 (P:=l.prog) (w:=w) (mg:=mg) (base:=base) D2.fn
 have g3:=vO (P:=l.prog) (w:=w) (mg:=mg) (base:=base) A.fn y1 B
 have g4:=pI (P:=l.prog) (w:=w) (mg:=mg) (base:=base) R.fn g3 b3 A.fn.kp m3 x
 have g5:=mT (P:=l.prog) (w:=w) (mg:=mg) (base:=base) L.fn g3 b3 A.fn.kp m3 g4 b4 R.fn.kp m4 B
 have g6:=wM (P:=l.prog) (w:=w) (mg:=mg) (base:=base) F.fn y4
 have g7:=B3 (P:=l.prog) (w:=w) (mg:=mg) (base:=base) C.fn g6 b6 F.fn.kp m6 y5
 have g8:=Zd (P:=l.prog) (w:=w) (mg:=mg) (base:=base) N.fn g3 b3 A.fn.kp m3
 have g9:=K2 (P:=l.prog) (w:=w) (mg:=mg) (base:=base) U.fn
 have z0:=xY (P:=l.prog) (w:=w) (mg:=mg) (base:=base) o.fn g9 b9 U.fn.kp m9 B
 have h3:=V4 (P:=l.prog) (w:=w) (mg:=mg) (base:=base) t.fn g5 b5 L.fn.kp m5 z0 k9 o.fn.kp q9
 have k7:=oE (P:=l.prog) (w:=w) (mg:=mg) (base:=base) f.fn y6 T y8
 have q3:=qS (P:=l.prog) (w:=w) (mg:=mg) (base:=base) u.fn k7 x6 f.fn.kp h6 y9 T
 have k0:=mX (P:=l.prog) (w:=w) (mg:=mg) (base:=base) i.fn q3 k5 u.fn.kp v6 g6 b6 F.fn.kp m6 x E T j6
 have v2:=eN (P:=l.prog) (w:=w) (mg:=mg) (base:=base) j.fn k0 h5 i.fn.kp q4 E T x h7
 have k4:=xS (P:=l.prog) (w:=w) (mg:=mg) (base:=base) y.fn y5 j4 x
 have x2:=jS (P:=l.prog) (w:=w) (mg:=mg) (base:=base) p.fn M O D2.fn.kp S B I y9 x
 have j8:=aZ (P:=l.prog) (w:=w) (mg:=mg) (base:=base) r.fn M O D2.fn.kp S x
 have H:=bR (P:=l.prog) (w:=w) (mg:=mg) (base:=base) c.fn
 have v9:=mH (P:=l.prog) (w:=w) (mg:=mg) (base:=base) m.fn B I
 have v0:=fE (P:=l.prog) (w:=w) (mg:=mg) (base:=base) g.fn g5 b5 L.fn.kp m5 M O D2.fn.kp S H J c.fn.kp D v9 Y m.fn.kp j2 x B
 have h4:=eM (P:=l.prog) (w:=w) (mg:=mg) (base:=base) d.fn g7 b7 C.fn.kp m7 k4 v3 y.fn.kp v4 H J c.fn.kp D x
 exact EM FL g7 b7 C.fn.kp m7 v2 k6 j.fn.kp j5 h3 y0 t.fn.kp k8 g8 b8 N.fn.kp m8 g1 b1 Q.fn.kp m1 M O D2.fn.kp S x2 v1 p.fn.kp x8 j8 Z r.fn.kp j1 v0 q2 g.fn.kp h1 h4 j9 d.fn.kp q8 x
theorem walk{l:PySem.W.OpenLaw}{q:Bq}{loose:List Str}{XP:(Str->Option Value)->Heap->Prop}{YP:World->Heap->Prop}{d:DefRec}{K:Params->PySem.W.Frag}(o:l.most=some 63)(b:d.params.defaults=[])(m:∀(w:World) (h:Heap),YP w h->(K w.params).In h)(F:∀(w:World) (mg:Str->Option Value) (c:Addr) (h:Heap),(K w.params).In h->h.Ns Cq mg->mg d.name=some (.ref c)->jK q (K w.params)/\∃e:Cj,(∀(s:Al) (u:Value),BindsTo s e ⟨[u],[]⟩ [("_law_script",u)])/\∀base:Heap,(K w.params).In base->base.Ns Cq mg->FnOk l.prog w (K w.params) mg base Ig 5 c e ["_law_script"] (DL.spLawD (K w.params))):PySem.W.WalkO q loose XP YP l.row.toRowW d [] (λf vs=>PySem.call f vs) :=
 L2.walk_ofD (n:=63) (k:=5) (x := "_law_script") (CX:=λ_=>Ig) (sp:=λw=>DL.spLawD (K w.params)) o (by decide) b ⟨rfl,by decide,by decide,rfl⟩ m F (λ_ _ a g i _ j=>⟨a,g,rfl,j,i,λ_=>rfl⟩) λ_ _ _ _ _ z=>z
end K18
open PySem PySem.W PyProof.Rows
local macro_rules | `(tactic| refine $h:ident (q := $q) (loose := $l) (Xt := $a) (XP := $b) (Yf := $c) (Ya := $d) (YP := $e) (N := $n) ?hl $y*) => `(tactic| refine $h:ident (q := $q) (loose := $l) (Xt := $a) (XP := $b) (Yf := $c) (Ya := $d) (YP := $e) (N := $n) (fun _ => by kernel_rfl) $y*)
set_option maxRecDepth 100000 in
set_option maxHeartbeats 0 in
theorem PySem.Challenge.cw_needledeck_k18_whole_no_plain_code_has_m_holds : PySem.Challenge.rw_needledeck_k18_whole_no_plain_code_has_m.Holds := by
 w_on; refine holds_law hS0 λsaid=>?_; k_head; (case hw=>w_witness2)
 k_fill
 refine K18.walk (l:=PySem.Challenge.rw_needledeck_k18_whole_no_plain_code_has_m) rfl rfl (λw h Y=>PySem.W.kIn_of Y) ?F
 case F =>
  intro w mg fa h KX G hmg
  refine' K18.all_mk KX G hmg (K18.def_mk ?a1 ?l1 ?c1 ?k1) (K18.def_mk ?a2 ?l2 ?c2 ?k2) (K18.def_mk ?a3 ?l3 ?c3 ?k3) (K18.def_mk ?a4 ?l4 ?c4 ?k4) (K18.def_mk ?a5 ?l5 ?c5 ?k5) (K18.def_mk ?a6 ?l6 ?c6 ?k6) (K18.def_mk ?a7 ?l7 ?c7 ?k7) (K18.def_mk ?a8 ?l8 ?c8 ?k8) (K18.def_mk ?a9 ?l9 ?c9 ?k9) (K18.def_mk ?a10 ?l10 ?c10 ?k10) (K18.def_mk ?a11 ?l11 ?c11 ?k11) (K18.def_mk ?a12 ?l12 ?c12 ?k12) (K18.def_mk ?a13 ?l13 ?c13 ?k13) (K18.def_mk ?a14 ?l14 ?c14 ?k14) (K18.def_mk ?a15 ?l15 ?c15 ?k15) (K18.def_mk ?a16 ?l16 ?c16 ?k16) (K18.def_mk ?a17 ?l17 ?c17 ?k17) (K18.def_mk ?a18 ?l18 ?c18 ?k18) (K18.def_mk ?a19 ?l19 ?c19 ?k19) (K18.def_mk ?a20 ?l20 ?c20 ?k20) (K18.def_mk ?a21 ?l21 ?c21 ?k21) (K18.def_mk ?a22 ?l22 ?c22 ?k22) ?aL ?lL ?cL ?kL ?z1 ?z2 ?z3 ?z4 ?z5 ?z6 ?z7 ?z8 ?z9 ?z10 ?z11 ?z12 ?z13 ?z14 ?tz_often ?tz_cut_by
  (case a1=>k_is); (case l1=>k_is); (case c1=>k_is); (case k1=>k_is)
  (case a2=>k_is); (case l2=>k_is); (case c2=>k_is); (case k2=>k_is)
  (case a3=>k_is); (case l3=>k_is); (case c3=>k_is); (case k3=>k_is)
  (case a4=>k_is); (case l4=>k_is); (case c4=>k_is); (case k4=>k_is)
  (case a5=>k_is); (case l5=>k_is); (case c5=>k_is); (case k5=>k_is)
  (case a6=>k_is); (case l6=>k_is); (case c6=>k_is); (case k6=>k_is)
  (case a7=>k_is); (case l7=>k_is); (case c7=>k_is); (case k7=>k_is)
  (case a8=>k_is); (case l8=>k_is); (case c8=>k_is); (case k8=>k_is)
  (case a9=>k_is); (case l9=>k_is); (case c9=>k_is); (case k9=>k_is)
  (case a10=>k_is); (case l10=>k_is); (case c10=>k_is); (case k10=>k_is)
  (case a11=>k_is); (case l11=>k_is); (case c11=>k_is); (case k11=>k_is)
  (case a12=>k_is); (case l12=>k_is); (case c12=>k_is); (case k12=>k_is)
  (case a13=>k_is); (case l13=>k_is); (case c13=>k_is); (case k13=>k_is)
  (case a14=>k_is); (case l14=>k_is); (case c14=>k_is); (case k14=>k_is)
  (case a15=>k_is); (case l15=>k_is); (case c15=>k_is); (case k15=>k_is)
  (case a16=>k_is); (case l16=>k_is); (case c16=>k_is); (case k16=>k_is)
  (case a17=>k_is); (case l17=>k_is); (case c17=>k_is); (case k17=>k_is)
  (case a18=>k_is); (case l18=>k_is); (case c18=>k_is); (case k18=>k_is)
  (case a19=>k_is); (case l19=>k_is); (case c19=>k_is); (case k19=>k_is)
  (case a20=>k_is); (case l20=>k_is); (case c20=>k_is); (case k20=>k_is)
  (case a21=>k_is); (case l21=>k_is); (case c21=>k_is); (case k21=>k_is)
  (case a22=>k_is); (case l22=>k_is); (case c22=>k_is); (case k22=>k_is)
  (case aL=>k_is); (case lL=>k_is); (case cL=>k_is); (case kL=>k_is)
  (case z1=>k_is); (case z2=>k_is); (case z3=>k_is); (case z4=>k_is); (case z5=>k_is); (case z6=>k_is); (case z7=>k_is); (case z8=>k_is); (case z9=>k_is); (case z10=>k_is); (case z11=>k_is); (case z12=>k_is); (case z13=>k_is); (case z14=>k_is)
  (case tz_often=>k_is)
  (case tz_cut_by=>k_is)